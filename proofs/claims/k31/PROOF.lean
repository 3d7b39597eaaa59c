import PyProof.Rows.All
import Wide.All
import OpenK.AllK
import Wide.FinOn
import Lean
import PyProof.EqAt
import PyProof.EqKinds
import PyProof.TupleCall
import KE.KUnpack
import PySem.Challenge.RW_sackloads_k31_table_papers
open PySem renaming wpAny_bind→yaa,Shared→yab,wpAny_pure→yac,starEach→yae,mainGlobals→yag,sizeLine→yam,Program→yao,Around→yau,bootBuiltins→yaz,wpAny_field→yaA,wpAny_newObj_type→yaJ,FuncData→yaM,Env→yaN,mem_of_lookup→yaP,backTo→yaQ,wpAny_mono→ya8,IsPair→ya9,wpAny_holding→yba,compareOp→ybb,binaryOp→ybe,wpAny_call_entry→ybi,wpAny_seqItems→ybk,wpAny_setField_rec→ybq,assignEach→ybs,wpAny_loadPart'→ybt,call_meets→ybu,wpAny_truthy_bool→ybz,behindInMarks→ybC,rawInt→ybG,wpAny_pyIter_tuple→ybI,foldedSetIterable→ybR,wpAny_binaryOp_repeat_ref→ybS,sizeLine_eq→ybT,codeAny→ybU,Builtin→ybV,builtinsNs→yb4,typeIs_int→yb6,sliceBounds→yb7,sysModules→ycc,assign→ych,pyNext→yci,getItem→ycl,letOwnedTupleGo→ycp,wpAny_passesOwn→ycq,wpAny_Call_Name_kw→ycv,IsPart→ycx,wpAny_setField→ycD,not_mem_of_deeper→ycI,wpAny_standAt→ycM,swapsWithSole→ycN,swappedStores→ycO,NameKind→ycR,swapsWith→ycY,wpAny_execs_nil→yc3,wpAny_rule→yc4,wpAny_typeOf→yc6,wpAny_updateSeq_pair→yc9,holding→ydg,recursionLimit→ydh,leaving→ydi,wpAny_Constant_int→ydm,cellsFrom→ydo,setFlight→ydt,wpAny_newFunctionEnv_cells→ydA,wpAny_onRaise→ydC,wpAny_attempt→ydD,wpAny_sequenceKey→ydH,BindsTo→ydN,Keyword→ydO,callerA→ydP,wpAny_eqBool_int→ydQ,Result→ydR,codeAny_mono→ydS,noFill_tuple_add→ydT,wpAny_getItem_list_slice→ydU,wpAny_comprehension_free→ydV,wpAny_isInstance→ydX,wpAny_pyIter_zip→ydY,Arguments→yeb,codeAny_builtin→yec,noteFrame→yed,wpAny_updateSeq→yeh,codeAny_compStart_list→yep,wpAny_letGo→yeq,wpAny_isTrue_Compare1→yeu,codeAny_call_function→yex,wpAny_newTuple→yeA,isSubtype_stop→yeB,builtinLookup_eq_fast→yeF,codeAny_call_builtin→yeK,compEnvC→yeL,wpAny_newFunctionEnv→yeM,assignInOrder→yeQ,seq_tuple_add→yeR,evalPart_none→yeT,attributeBase→yeU,wpAny_isSubtype_exc→yeZ,concat_meets→ye7,seqIndex_neg→yfa,slicePick→yfb,Fin→yff,intKind→yfi,wpAny_assign_Name→yfj,wpAny_pyIter_list→yfo,sizeLine_eq→yfr,wpAny_pyIter_enum→yft,wpAny_loadPart_at→yfv,seqIndex_of→yfy,keywordEach→yfz,excClassObj→yfB,GenState→yfC,bindName→yfD,compPost→yfE,ReadsAll→yfF,wpAny_Name→yfG,typeLookup→yfH,call→yfJ,sliceRange→yfK
open PySem.Heap renaming lt_size→yad,size_push→ybr,SameBut→ybW,size_update→ycW,MadeExcOf→yeD,IsTuple→yfd
open PySem.Value renaming ref→yaf,none→yax,bool→yaL,int→yb2,type→yb3,builtin→ycP,isInt→yfx
open Nat renaming le_refl→yah,ne_of_lt→yat,lt_of_lt_of_le→yaw,le_trans→yaF,zero_le→ya5,lt_irrefl→ybB,zero_add→ybK,ne_of_gt→yb8,le_add_right→ycf,le_of_lt→ycu,le_of_not_lt→ycT,min_eq_left→yda,min_eq_right→ydW,le_max_right→yd5,le_max_left→yei,mul_le_mul_right→yeP,reduceAdd→yeY,mul_comm→yfc,lt_succ_of_lt→yfq
open PySem.W renaming Frag→yai,keepIn→yaj,nsIn→yak,codeIn→yaq,mg_of→yar,fnOf→yas,mg_none_of→yaD,kia_one→yaS,findIn→ybE,cellsFrom_some→ycJ,methodObj→ydF,kitx_list→ydG,kat_cons→yd3,instObj→yd9,OpenLaw→yef,kat_yes→yeg,lookIn→yev,kitOne→yew,CodeHd→yey,tabObj→yez,kat_no→yeE,kitx_tuple→ye4,callWith_K→ye5,codeRec_of→ye6,specialIn→yfl,kitx_dict→yfm
open Bool renaming and_eq_true→yal,false_ne_true→yav,true_and→yaT,and_self→yaZ,false_eq_true→ya0,eq_iff_iff→ybm,false_and→ybD,or_eq_true→ycs,not_eq_true'→ydJ,or_true→yfe
open List renaming mem_cons→yan,replicate→yap,range→yay,length_singleton→yaC,length_replicate→yaO,length_take→ya3,lookup_cons→ya4,drop_eq_getElem_cons→ya7,filterMap_cons→ybd,append_nil→ybn,length_drop→ybp,mem_of_mem_drop→yby,flatten_cons→ybA,getElem_mem→ybF,set_cons_zero→ybM,nil_append→ybO,length_reverse→yb0,mem_map_of_mem→yb1,mem_append_left→ycd,mem_of_getElem?→yce,forIn_cons→yct,filterMap_map→ycy,reverse_cons→ycF,drop_of_length_le→ycL,zipIdx_cons→ycU,of_mem_zip→yc5,map_nil→yc7,mem_of_mem_take→ydb,map_id'→ydc,mem_of_getLast?→ydd,forIn_nil→ydl,zip_cons_cons→ydp,set_cons_succ→ydw,countP_cons→yd1,map_append→yel,length_zip→yem,take_of_length_le→yer,drop_eq_nil_of_le→yet,mem_iff_getElem?→yeC,singleton_append→yeG,foldl→yeJ,map_drop→yeX,map_congr_left→ye0,all_map→yfh,take_sublist→yfn
open PySem.Builtin.SmallTypes renaming nextOf→yaB,ownedTupleIsFree→yaE,ownedTupleHandOut→ycz
open PySem.PyData renaming depthAll→yaG,showableAll→yaK,depth→ya1,showable→ybg,shownAll→ybh,canLayAll0→ybl,shown→ybL,canLay0→yca,leavesShortAll→ycb,leavesShort→ycB,eqv→ycC,weightAll→ycX,weight→ydE,hasDictAll→yfw
open PySem.Obj renaming mapSeq→yaH,data_mapFields→ybJ,isFreed_of_fields→yc2,mapFields→yeV,cls_mapFields→yfp
open Option.some renaming inj→yaI
open Or renaming inr→yaR,inl→ybj
open PySem.Builtin.Tuple renaming tupleExact→yaU,tupleItemsOf→ycj,tupleIsExact→ydB
open False renaming elim→yaV
open PyProof.Rows renaming slot_tuple_getitem→yaW,envOfC→ybf,callWith_type1→ybH,IntsAre→ybN,kindOf→yb9,tuples'→ycg,AllBare→yck,seqObj→ycA,entry_tuple_getitem→yde,slicePart_none→ydj,assignInOrder_cons→ydn,args_tuple_getitem→ydq,subscriptTail_builtinR→yeo,tupleItemsOf_→yeS,listUpdate_at→yeW,keyLt'→ye1,assignInOrder_nil→yfk,Subscript_→yfI
open Ne renaming symm→yaX
open PySem.NameKind renaming free→yaY,cell→ycQ
open PySem.PassesOwn renaming never→ya2
open PySem.Builtin.Slice renaming slicePlaces→ya6,sliceApplied→ybP,sliceAdjust→ycr,sliceFields→ydK
open Int renaming toNat_natCast→ybc,emod_lt_of_pos→ydv,fdiv_eq_ediv_of_nonneg→ydy,fmod_eq_emod_of_nonneg→ydz,eq_ofNat_of_zero_le→yd8,ediv_nonneg→yej,emod_nonneg→yek,ediv_one→ye8
open PySem.Str renaming ofString→ybo
open PySem.F renaming slot_int_rmul→ybv,slot_zip_next→ybx,slot_tuple_iterator_next→ybQ,plain_extend_loop→yco,args_tuple_add_2→ycw,entry_tuple_add→ycE,args_int_rmul_2→ycG,args_zip_next_1→ycH,slot_tuple_add→ycK,entry_int_rmul→ycS,entry_zip_next→ycV,typeOf_object_class→yc1,fills_int_mul→yc8,args_tuple_iterator_next_1→ydk,entry_tuple_iterator_next→ydr,args_tuple_mul_2→yds,entry_tuple_mul→ydI,slot_tuple_mul→yd0,plainAttrs_list→yd6,entry_extend_loop→ye2
open ForInStep renaming yield→ybw
open PySem.AutoSeq1 renaming sub_tuple_tuple→ybX,wpAny_loadPart'→ybZ,idx_int→ydZ
open PySem.Builtin.List renaming listTooLong→ybY,listExtendWith→ydu,listSameRef→yd4,listUpdate→yd7
open True renaming intro→yb5
open Array renaming length_toList→ycm,forIn_toList→yfg
open PySem.Heap.SameBut renaming update→ycn,refl→yfu
open PyProof.Rows.IsTup renaming new→ycZ
open LawfulBEq renaming eq_of_beq→yc0
open PySem.EntryCells renaming newEntry→ydf
open PySem.Calls renaming Name_function_global→ydx,evalArgs_plain→yeI,Constant_str→ye3
open Sum renaming inl→ydL,inr→ydM
open Option renaming bind_some→yd2,map_some→yee
open PySem.Data renaming cell→yea,fields→yen
open PySem.Around renaming frames_deeper→yeH,under_plainId→yeO
open PySem.SeqAt.EqAt renaming bool_bool→yeN
open PySem.Heap.IsSliceOf renaming new→ye9
open PySem.Shared renaming heap→yfA
def PySem.W.Fast.tw15824911761013928492 : Nat := 0
def PySem.W.Fast.tw15746840044788240396 : Nat := 0
def PySem.W.Fast.tw7787825654161388495 : Nat := 0
def PySem.W.Fast.tw10450298177151277974 : Nat := 0
def PySem.W.Fast.tw12563638658091845811 : Nat := 0
def PySem.W.Fast.tw703403020272443382 : Nat := 0
set_option linter.all false
set_option Elab.async false
set_option maxRecDepth 100000
open List renaming mem_cons_of_mem → mM, mem_cons_self → mS_, getElem?_eq_getElem → gG, length_cons → lC_, length_map → lM_, length_append → lA_, getElem?_map → gM_, map_cons → mC_, mem_append → mA_, length_range → lR_, length_nil → lN_, size_toArray → sT_, mem_range → mR_, mem_map → mP_, map_map → mm_, replicate_succ → rS_, length_set → lS_, not_mem_nil → nN_, append_assoc → aA_, getElem?_eq_some_iff → gI_, mem_singleton → ms_, mem_append_right → mr_, filter_cons → ft_
namespace L2
open PySem PySem.Spec PyProof.Rows
abbrev Key:=Sum Int Str
def qb9:Key->Value->Bool
 |.inl k,v=>yfx k v
 |.inr x,v=>Value.isStrOf x v
def qnR (w:World):Key->Int
 |.inl k=>hashInt k
 |.inr x=>hashStr w x
theorem zw:∀{k:Key}{v:Value},qb9 k v=true->(∃i t,k=ydL i/\v=yb2 i t)\/(∃x t,k=ydM x/\v=Value.str x t)
 |.inl i,v,h=>by
  obtain⟨t,e⟩:=Value.isInt_shape (k:=i) (v:=v) h
  exact .inl ⟨i,t,rfl,e⟩
 |.inr x,v,h=>by
  obtain⟨t,e⟩:=Value.isStrOf_shape (x:=x) (v:=v) h
  exact .inr ⟨x,t,rfl,e⟩
theorem qe3(i:Int)(t:Tok):qb9 (.inl i) (.int i t)=true:=by simp[qb9,yfx]
theorem qe4(x:Str)(t:Tok):qb9 (.inr x) (.str x t)=true:=by simp[qb9,Value.isStrOf]
theorem qkr (a b:Int):decide ((ydL a:Key)=ydL b)=(a==b):=by
 by_cases e:a=b
 ·subst e;simp
 ·have h:¬(ydL a:Key)=ydL b:=λq=>e (Sum.inl.inj q)
  rw[decide_eq_false h]
  exact(beq_eq_false_iff_ne.mpr e).symm
theorem qks (a b:Str):decide ((ydM a:Key)=ydM b)=decide (a=b):=by
 by_cases e:a=b
 ·subst e;simp
 ·have h:¬(ydM a:Key)=ydM b:=λq=>e (Sum.inr.inj q)
  rw[decide_eq_false h,decide_eq_false e]
theorem qkt(a:Int)(b:Str):decide ((ydL a:Key)=ydM b)=false:=decide_eq_false (λq=>nomatch q)
theorem qku(a:Str)(b:Int):decide ((ydM a:Key)=ydL b)=false:=decide_eq_false (λq=>nomatch q)
def qad (prog:yao) (w:World):PySem.KeyKind prog w Key where
 is:=qb9
 hash:=qnR w
 inj:=λv a b ha hb=>by
  rcases zw ha with⟨i,t,rfl,rfl⟩|⟨x,t,rfl,rfl⟩
  ·rcases zw hb with⟨j,u,rfl,e⟩|⟨y,u,rfl,e⟩
   ·injection e with e1 _;rw[e1]
   ·exact nomatch e
  ·rcases zw hb with⟨j,u,rfl,e⟩|⟨y,u,rfl,e⟩
   ·exact nomatch e
   ·injection e with e1 _;rw[e1]
 byValue:=λk v h=>by
  rcases zw h with⟨i,t,rfl,rfl⟩|⟨x,t,rfl,rfl⟩<;>rfl
 pyHash:=λhv h=>by
  rcases zw hv with⟨i,t,rfl,rfl⟩|⟨x,t,rfl,rfl⟩
  ·exact wpAny_pyHash_int h
  ·exact wpAny_pyHash_str h
 eqBool:=λhu hv h=>by
  rcases zw hu with⟨i,t,rfl,rfl⟩|⟨x,t,rfl,rfl⟩
  ·rcases zw hv with⟨j,u,rfl,rfl⟩|⟨y,u,rfl,rfl⟩
   ·rw[qkr]at h;exact ydQ h
   ·rw[qkt]at h;exact SeqAt.EqAt.int_str i t y u _ _ _ _ h
  ·rcases zw hv with⟨j,u,rfl,rfl⟩|⟨y,u,rfl,rfl⟩
   ·rw[qku]at h;exact SeqAt.EqAt.str_int x t j u _ _ _ _ h
   ·rw[qks]at h;exact wpAny_eqBool_str h
 «strs»:=λk x t v h=>by
  rcases zw h with⟨i,u,rfl,e⟩|⟨y,u,rfl,e⟩
  ·exact nomatch e
  ·injection e with e1 _
   subst e1
   cases v<;>rfl
end L2
namespace L2
open PySem PySem.Spec PyProof.Rows
inductive V where
 |non|bl (b:Bool)|int (i:Int)|str (x:Str)|byt (b:Array UInt8)|flt (b:UInt64)|ref (a:Addr)|ty (n:String)
 deriving DecidableEq
def jO:V->Value->Prop
 |.non,u=>u=yax
 |.bl b,u=>u=yaL b
 |.int i,u=>∃t,u=yb2 i t
 |.str x,u=>∃t,u=Value.str x t
 |.byt b,u=>∃t,u=Value.bytes b t
 |.flt b,u=>∃t,u=Value.float b t
 |.ref a,u=>u=yaf a
 |.ty n,u=>u=yb3 n
abbrev ze:List V->List Value->Prop:=Paired jO
theorem ze.length{xs:List V}{us:List Value}(r:ze xs us):xs.length=us.length:=Paired.length r
theorem ze.get:∀{xs:List V}{us:List Value}{i:Nat}{x:V},ze xs us->xs[i]? = some x->∃u,us[i]? = some u/\jO x u
 |_,_,_,_,.nil,e=>by simp at e
 |_,_,0,_,.cons r _,e=>by simp at e;subst e;exact⟨_,rfl,r⟩
 |_,_,i+1,x,.cons _ t,e=>by
  obtain⟨u,h1,h2⟩:=ze.get (i:=i) (x:=x) t (by simpa using e)
  exact⟨u,by simpa using h1,h2⟩
theorem ze.set {x:V} {u:Value} (r:jO x u):∀{xs:List V}{us:List Value}(i:Nat),ze xs us->ze (xs.set i x) (us.set i u)
 |_,_,_,.nil => .nil
 |_,_,0,.cons _ t => .cons r t
 |_,_,i+1,.cons q t => .cons q (ze.set r i t)
theorem ze.append:∀{xs ys:List V}{us ws:List Value},ze xs us->ze ys ws->ze (xs++ys) (us++ws)
 |_,_,_,_,.nil,s=>s
 |_,_,_,_,.cons r t,s => .cons r (ze.append t s)
theorem ze.take:∀{xs:List V}{us:List Value}(n:Nat),ze xs us->ze (xs.take n) (us.take n)
 |_,_,0,_ => .nil
 |_,_,_+1,.nil => .nil
 |_,_,n+1,.cons r t => .cons r (ze.take n t)
theorem ze.drop:∀{xs:List V}{us:List Value}(n:Nat),ze xs us->ze (xs.drop n) (us.drop n)
 |_,_,0,r=>r
 |_,_,_+1,.nil => .nil
 |_,_,n+1,.cons _ t=>ze.drop n t
def qmr:Option V->Option Value->Prop
 |some v,some u=>jO v u
 |none,none=>True
 |_,_=>False
def KV{κ:Type}:List (κ×V)->List (κ×Value)->Prop:=Paired λ(p:κ×V) (q:κ×Value)=>p.1=q.1/\jO p.2 q.2
def kV:Key->V
 |.inl i => .int i
 |.inr x => .str x
inductive HO where
 /-- a list -/
 |lst (xs:List V)
 /-- a tuple (never changes) -/
 |tup (xs:List V)
 /-- a dict whose keys are ints and texts;one whose keys are tuples of ints and texts (the empty one is both) -/
 |dK (kvs:List (Key×V))|dT (kvs:List (List Key×V))
 /-- a set of ints: its members,its size -/
 |set (S:Int->Bool) (n:Nat)
 /-- an instance of the class at C,its dict at dx,its attributes -/
 |ins (C dx:Addr) (fs:List (Str×V))
 /-- the dict of the instance at x -/
 |own (x:Addr)
 /-- the dict of an exception -/
 |xd (fs:List (Str×V))
 /-- a bound method,f of x -/
 |met (f x:Addr)
 /-- a range object lo,lo+1,.. below hi -/
 |rng (lo hi:Int)
 /-- a thing that is known to the object (the script;a dict while a loop walks it): read,never written while it is so -/
 |frz (o:Obj) (u:HO)
 /-- a code object's table -/
 |tbl (ps:Array Value)
 /-- any other thing,by what is true of its one object (a def of one's own: SetO a S n:=HO.ext λh => ..) -/
 |ext (φ:Heap->Prop)
 /-- the table of a code object in which at most one lambda's code stands -/
 |lam (pos:Pos) (q:Str)
abbrev Hp:=Addr->Option HO
def upd(H:Hp)(a:Addr)(o:HO):Hp:=λb=>if b=a then some o else H b
theorem qx{H:Hp}{a:Addr}{o:HO}:upd H a o a=some o:=by unfold upd;rw[if_pos rfl]
theorem qz{H:Hp}{a b:Addr}{o:HO}(h:b≠a):upd H a o b=H b:=by unfold upd;rw[if_neg h]
theorem wX {H:Hp} {a b:Addr} {o u:HO} (h:H a=some o) (h':H b=some u) (d:o≠u):a≠b:=by
 intro e;subst e;rw[h]at h';exact d (yaI h')
theorem qP {H:Hp} {a b:Addr} {o:HO} (h:H a=some o) (h':H b=none):a≠b:=by
 intro e;subst e;rw[h]at h';cases h'
section
variable(P:yao)(w:World)
def yq (H:Hp) (h:Heap) (a:Addr):HO->Prop
 |.lst xs=>xs.length<=yam/\∃(its:List Value)(n:Nat),ze xs its/\h.get? a=some {cls:=.type "list",data:=.seq its.toArray n}
 |.tup xs=>xs.length<=yam/\∃its:List Value,ze xs its/\IsTup h a its.toArray
 |.dK kvs=>kvs.length<=yam/\(a==ycc)=false/\∃vs,KV kvs vs/\h.DictOf (qad P w) a vs
 | .dT kvs=>kvs.length<=yam/\(a==ycc)=false/\∃xs:List (List Key×Addr×Value),
   Paired (λ(p:List Key×V) (q:List Key×Addr×Value)=>p.1=q.1/\H q.2.1=some (.tup (p.1.map kV))/\jO p.2 q.2.2) kvs xs /\
   ∃o es ep,h.get? a=some o/\o.ExactDict/\o.data=.dict es ep/\es.toList=xs.map (entryOfKey (tupleKind (qad P w)))/\(xs.map (·.1)).Nodup
 |.set S n=>h.SetOf (yfi P w) a S n
 | .ins C dx fs=>H dx=some (.own a)/\fs.length<=1000/\dx≠a/\h.get? a=some (yd9 C dx) /\
   ∃mA,h.Ns1 dx mA/\(∀f,qmr (fs.lookup f) (mA f))/\PySem.Within mA (fs.map (·.1))
 |.own _=>∃o,h.get? a=some o
 |.xd fs=>∃mA,h.Ns1 a mA/\∀f,qmr (fs.lookup f) (mA f)
 |.rng lo hi=>∃t u v,h.get? a=some {cls:=.type "range",data:=.fields #[.int lo t,.int hi u,.int 1 v]}
 |.frz o u=>h.get? a=some o/\yq H h a u
 |.tbl ps=>h.get? a=some {cls:=.none,data:=.fields ps}
 |.met f x=>h.get? a=some (ydF (.ref f) (.ref x))
 | .lam pos q=>h.get? a=some {cls:=.none,data:=.fields #[]}\/∃(c:Addr)(oc:Obj)(vs:Array Value)(t:Tok),H c=some (.frz oc (.own c))/\oc.data=.fields vs/\vs[1]? = some (.str q t) /\
   h.get? a=some {cls:=.none,data:=.fields #[ybG pos.line,ybG pos.col,.ref c]}
 |.ext φ=>φ h/\(∃o,h.get? a=some o)/\∀h1 h2:Heap,φ h1->(∀o,h1.get? a=some o->h2.get? a=some o)->φ h2
def HOk(H:Hp)(h:Heap):Prop:=∀a o,H a=some o->yq P w H h a o
end
section
variable{P:yao}{w:World}{H H':Hp}{h h':Heap}{a:Addr}{o:HO}
theorem yq.lt (x:yq P w H h a o):a<h.objs.size:=by
 cases o with
 |lst xs=>obtain⟨_,_,_,_,e⟩:=x;exact yad e
 |tup xs=>obtain⟨_,_,_,p⟩:=x;exact p.lt
 |dK kvs=>obtain⟨_,_,_,_,o,_,_,e,_⟩:=x;exact yad e
 |dT kvs=>obtain⟨_,_,_,_,o,_,_,e,_⟩:=x;exact yad e
 |set S n=>obtain⟨o,_,_,_,e,_⟩:=x;exact yad e
 |ins C dx fs=>obtain⟨_,_,_,e,_⟩:=x;exact yad e
 |own y=>obtain⟨_,e⟩:=x;exact yad e
 |xd fs=>obtain⟨_,⟨_,_,_,e,_⟩,_⟩:=x;exact yad e
 |rng lo hi=>obtain⟨_,_,_,e⟩:=x;exact yad e
 |frz ob u=>obtain⟨e,_⟩:=x;exact yad e
 |tbl ps=>exact yad (show h.get? a=some _ from x)
 |met f y=>exact yad (show h.get? a=some _ from x)
 |ext φ=>obtain⟨_,⟨_,e⟩,_⟩:=x;exact yad e
 |lam pos q=>
  rcases x with e|⟨_,_,_,_,_,_,_,e⟩
  ·exact yad e
  ·exact yad e
theorem Paired.mapP {α β:Type} {F G:α->β->Prop}:∀{l₁:List α}{lK:List β},Paired F l₁ lK->(∀a b,F a b->G a b)->Paired G l₁ lK
 |_,_,.nil,_ => .nil
 |_,_,.cons r t,f => .cons (f _ _ r) (Paired.mapP t f)
theorem yq.stay (x:yq P w H h a o) (k:∀b u,(b=a\/H b=some (.own a))->h.get? b=some u->h'.get? b=some u)
  (ho:∀b,H b=some (.own a)->H' b=some (.own a)) (ht:∀b xs,H b=some (.tup xs)->H' b=some (.tup xs)) (hz:∀b ob u,H b=some (.frz ob u)->H' b=some (.frz ob u):=by exact λ_ _ _ q=>q):yq P w H' h' a o:=by
 induction o with
 |lst xs=>obtain⟨z,its,n,r,e⟩:=x;exact⟨z,its,n,r,k _ _ (.inl rfl) e⟩
 |tup xs=>obtain⟨z,its,r,ob,e,c⟩:=x;exact⟨z,its,r,ob,k _ _ (.inl rfl) e,c⟩
 |dK kvs=>obtain⟨z,y,vs,r,ob,es,ep,e,c⟩:=x;exact⟨z,y,vs,r,ob,es,ep,k _ _ (.inl rfl) e,c⟩
 |dT kvs=>
  obtain⟨z,y,xs,r,ob,es,ep,e,c⟩:=x
  exact⟨z,y,xs,Paired.mapP r λp q z=>⟨z.1,ht _ _ z.2.1,z.2.2⟩,ob,es,ep,k _ _ (.inl rfl) e,c⟩
 |set S n=>obtain⟨ob,es,ep,t,e,c⟩:=x;exact⟨ob,es,ep,t,k _ _ (.inl rfl) e,c⟩
 |ins C dx fs=>
  obtain⟨d,z,ne,e,mA,⟨od,es,ep,e2,c⟩,r⟩:=x
  exact⟨ho _ d,z,ne,k _ _ (.inl rfl) e,mA,⟨od,es,ep,k _ _ (.inr d) e2,c⟩,r⟩
 |own y=>obtain⟨ob,e⟩:=x;exact⟨ob,k _ _ (.inl rfl) e⟩
 |xd fs=>obtain⟨mA,⟨od,es,ep,e,c⟩,r⟩:=x;exact⟨mA,⟨od,es,ep,k _ _ (.inl rfl) e,c⟩,r⟩
 |rng lo hi=>obtain⟨t,u,v,e⟩:=x;exact⟨t,u,v,k _ _ (.inl rfl) e⟩
 |frz ob u ih=>obtain⟨e,q⟩:=x;exact⟨k _ _ (.inl rfl) e,ih q⟩
 |tbl ps=>
  have e:h.get? a=some {cls:=.none,data:=.fields ps}:=x
  show h'.get? a=some {cls:=.none,data:=.fields ps}
  exact k a _ (.inl rfl) e
 |met f y=>
  have e:h.get? a=some (ydF (.ref f) (.ref y)):=x
  show h'.get? a=some (ydF (.ref f) (.ref y))
  exact k a _ (.inl rfl) e
 |ext φ=>obtain⟨p,⟨o,e⟩,st⟩:=x;exact⟨st _ _ p λo q=>k _ _ (.inl rfl) q,⟨o,k _ _ (.inl rfl) e⟩,st⟩
 |lam pos q=>
  rcases x with e|⟨c,oc,vs,t,h1,h2,h3,e⟩
  ·exact .inl (k _ _ (.inl rfl) e)
  ·exact .inr ⟨c,oc,vs,t,hz _ _ _ h1,h2,h3,k _ _ (.inl rfl) e⟩
theorem HOk.lt(x:HOk P w H h)(e:H a=some o):a<h.objs.size:=(x a o e).lt
theorem HOk.fresh (x:HOk P w H h) (e:h.objs.size<=a):H a=none:=by
 cases q:H a with
 |none=>rfl
 |some u=>exact absurd (yaw (x.lt q) e) (ybB _)
theorem HOk.kept (x:HOk P w H h) (k:∀b u,h.get? b=some u->h'.get? b=some u):HOk P w H h':=λa o e=>
 (x a o e).stay (λb u _ q=>k b u q) (λ_ q=>q) λ_ _ q=>q
theorem HOk.laid (x:HOk P w H h) (k:∀b u,h.get? b=some u->h'.get? b=some u) (hp:h.objs.size<=a) (new:yq P w (upd H a o) h' a o):HOk P w (upd H a o) h':=λb u e=>by
 have hn:=x.fresh hp
 by_cases hb:b=a
 ·subst hb;rw[qx]at e;cases e;exact new
 ·rw[qz hb]at e
  exact(x b u e).stay (λc v _ q=>k c v q) (λc q=>by rw[qz (qP q hn)];exact q) (λc xs q=>by rw[qz (qP q hn)];exact q) λc ob z q=>by rw[qz (qP q hn)];exact q
end
def Rd(H:Hp)(a:Addr)(u:HO):Prop:=H a=some u\/∃o,H a=some (.frz o u)
theorem Rd.ok {P:yao} {w:World} {H:Hp} {h:Heap} {a:Addr} {u:HO} (r:Rd H a u) (x:HOk P w H h):yq P w H h a u:=by
 rcases r with r|⟨o,r⟩
 ·exact x a u r
 ·obtain⟨_,q⟩:=x a _ r
  exact q
def Mut:Option HO->Prop
 |some (.lst _)=>True
 |some (.dK _)=>True
 |some (.dT _)=>True
 |some (.set _ _)=>True
 |some (.ins _ _ _)=>True
 |some (.ext _)=>True
 |_=>False
section
variable{P:yao}{w:World}{H:Hp}{h h':Heap}{x e:Addr}{o':HO}
theorem HOk.write (ok:HOk P w H h) (mu:Mut (H x)) (he:e=x\/H e=some (.own x)) (k:∀b u,b≠e->h.get? b=some u->h'.get? b=some u) (heo:∃u,h'.get? e=some u)
  (new:yq P w (upd H x o') h' x o'):HOk P w (upd H x o') h':=λb u q=>by
 have nown:∀c y,H c=some (.own y)->c≠x:=λc y r z=>by subst z;rw[r]at mu;exact mu
 have ntup:∀c xs,H c=some (.tup xs)->c≠x:=λc xs r z=>by subst z;rw[r]at mu;exact mu
 have nfrz:∀c ob y,H c=some (.frz ob y)->c≠x:=λc ob y r z=>by subst z;rw[r]at mu;exact mu
 by_cases hb:b=x
 ·subst hb;rw[qx]at q;cases q;exact new
 ·rw [qz hb]at q
  by_cases hbe:b=e
  ·have q':H b=some (.own x):=by
    rcases he with z|z
    ·exact absurd (hbe.trans z) hb
    ·rw[hbe];exact z
   rw[q]at q';cases q'
   obtain⟨v,hv⟩:=heo
   exact⟨v,by rw[hbe];exact hv⟩
  ·refine (ok b u q).stay (λc v hc r=>k c v ?_ r) (λc r=>by rw[qz (nown c b r)];exact r) (λc xs r=>by rw[qz (ntup c xs r)];exact r) λc ob z r=>by rw[qz (nfrz c ob z r)];exact r
   rcases hc with rfl|hc
   ·exact hbe
   ·rintro rfl
    rcases he with z|z
    ·exact nown c b hc z
    ·rw[hc]at z;cases z;exact hb rfl
end
structure Un (fs ex:List Addr) (H H':Hp) (h h':Heap):Prop where
 keep:∀b o,h.get? b=some o->H b=none->b ∉ fs->b ∉ ex->h'.get? b=some o
 slot:∀b o,h.get? b=some o->H b=none->b∈fs->b ∉ ex->∃sl,h'.get? b=some {o with slots:=sl}
 free:∀b o,h.get? b=some o->H b=none->b ∉ ex->H' b=none
 there:∀b o,h.get? b=some o->b ∉ ex->∃o',h'.get? b=some o'
 tups:∀b xs,H b=some (.tup xs)->H' b=some (.tup xs)
 frzs:∀b o u,H b=some (.frz o u)->H' b=some (.frz o u)
 tbls:∀b pos q,H b=some (.lam pos q)->H' b=some (.lam pos q)
section
variable{fs fs' ex ex':List Addr}{H H1 H2:Hp}{h h1 h2 h':Heap}{a x e:Addr}{o:HO}
theorem Un.any (u:Un fs ex H H1 h h1) {b:Addr} {ob:Obj} (q:h.get? b=some ob) (n:H b=none) (hx:b ∉ ex):∃sl,h1.get? b=some {ob with slots:=sl}:=by
 by_cases hb:b∈fs
 ·exact u.slot b ob q n hb hx
 ·exact⟨ob.slots,u.keep b ob q n hb hx⟩
theorem Un.trans (a:Un fs ex H H1 h h1) (b:Un fs ex H1 H2 h1 h2):Un fs ex H H2 h h2 where
 keep:=λc ob q n hc hx=>b.keep c ob (a.keep c ob q n hc hx) (a.free c ob q n hx) hc hx
 slot:=λc ob q n hc hx=>by
  obtain⟨sl,e1⟩:=a.slot c ob q n hc hx
  obtain⟨sl',e2⟩:=b.slot c _ e1 (a.free c ob q n hx) hc hx
  exact⟨sl',e2⟩
 free:=λc ob q n hx=>by
  obtain⟨o',e1⟩:=a.there c ob q hx
  exact b.free c o' e1 (a.free c ob q n hx) hx
 there:=λc ob q hx=>by
  obtain⟨o',e1⟩:=a.there c ob q hx
  exact b.there c o' e1 hx
 tups:=λc xs q=>b.tups c xs (a.tups c xs q)
 frzs:=λc ob xs q=>b.frzs c ob xs (a.frzs c ob xs q)
 tbls:=λc ps x q=>b.tbls c ps x (a.tbls c ps x q)
theorem Un.kept (k:∀b u,h.get? b=some u->h'.get? b=some u):Un fs ex H H h h' :=
 ⟨λb ob q _ _ _=>k b ob q,λb ob q _ _ _=>⟨ob.slots,k b ob q⟩,λ_ _ _ n _=>n,λb ob q _=>⟨ob,k b ob q⟩,λ_ _ q=>q,λ_ _ _ q=>q,λ_ _ _ q=>q⟩
theorem Un.refl:Un fs ex H H h h:=Un.kept λ_ _ q=>q
theorem Un.laid (k:∀b u,h.get? b=some u->h'.get? b=some u) (hp:h.objs.size<=a) (hn:H a=none):Un fs ex H (upd H a o) h h' where
 keep:=λb u q _ _ _=>k b u q
 slot:=λb u q _ _ _=>⟨u.slots,k b u q⟩
 free:=λb u q n _=>by rw[qz (yat (yaw (yad q) hp))];exact n
 there:=λb u q _=>⟨u,k b u q⟩
 tups:=λb xs q=>by rw[qz (qP q hn)];exact q
 frzs:=λb u xs q=>by rw[qz (qP q hn)];exact q
 tbls:=λb ps x q=>by rw[qz (qP q hn)];exact q
theorem Un.write (mu:Mut (H x)) (he:e=x\/H e=some (.own x)) (k:∀b u,b≠e->h.get? b=some u->h'.get? b=some u) (heo:∃u,h'.get? e=some u):Un fs ex H (upd H x o) h h':=by
 have hx:∀b,H b=none->b≠x:=λb n z=>by subst z;rw[n]at mu;exact mu
 have hb:∀b,H b=none->b≠e:=λb n z=>by
  subst z
  rcases he with r|r
  ·exact hx b n r
  ·rw[n]at r;cases r
 have hm:∀b u,H b=some u->¬Mut (some u)->b≠x:=λb u q nm z=>by subst z;rw[q]at mu;exact nm mu
 refine ⟨λb u q n _ _=>k b u (hb b n) q,λb u q n _ _=>⟨u.slots,k b u (hb b n) q⟩,λb u q n _=>by rw[qz (hx b n)];exact n,λb u q _=>?_,
  λb xs q=>by rw[qz (hm b _ q λz=>z)];exact q,λb u xs q=>by rw[qz (hm b _ q λz=>z)];exact q,λb ps x q=>by rw[qz (hm b _ q λz=>z)];exact q⟩
 by_cases hbe:b=e
 ·subst hbe;exact heo
 ·exact⟨u,k b u hbe q⟩
end
def trk(h:Heap)(H:Hp):List Addr:=(yay h.objs.size).filter λa=>(H a).isSome
def qgU(h:Heap)(H:Hp):Heap:=PySem.W.hideAll h (trk h H)
theorem qe5(h:Heap)(H:Hp):(qgU h H).objs.size=h.objs.size:=PySem.W.hideAll_size _ _
theorem qgV {h:Heap} {H:Hp} {b:Addr} {o:Obj} (e:h.get? b=some o) (n:H b=none):(qgU h H).get? b=some o :=
 PySem.W.hideAll_get _ e λhm=>by
  have q:(H b).isSome=true:=(List.mem_filter.mp hm).2
  rw[n]at q;simp at q
theorem qiM {h:Heap} {H:Hp} {b:Addr} {o:Obj} (e:(qgU h H).get? b=some o):h.get? b=some o/\H b=none:=by
 have e':h.get? b=some o:=PySem.W.of_hideAll (trk h H) e
 refine⟨e',?_⟩
 cases q:H b with
 |none=>rfl
 |some x=>
  have hm:b∈trk h H:=List.mem_filter.mpr ⟨mR_.mpr (yad e'),by simp[q]⟩
  have z:(qgU h H).get? b=none:=PySem.W.hideAll_none (trk h H) hm
  rw[z]at e;cases e
def qiN(g h:Heap)(L:Addr):List (Addr×Obj):=(yay h.objs.size).filterMap λa=>if a=L\/(g.get? a).isSome=true then none else(h.get? a).map λo=>(a,o)
def wZ(g h:Heap)(L d:Addr):List (Addr×Obj):=(qiN g h L).filter λp=>decide (p.1≠d)
end L2
namespace L2
open PySem PySem.Spec PyProof.Rows
structure Mod (K:yai) (mg:Str->Option Value) (base:Heap):Prop where
 kin:K.In base
 glob:base.Ns yag mg
 blt:∃mb,base.Ns yb4 mb/\∀x:Str,x≠"__name__"->mb x=yaz x
 nolimit:base.NoLimit
 bm:∃bm ob,mg "__builtins__"=some (.ref bm)/\bm≠yb4/\base.get? bm=some ob/\ob.cls=.type "module"/\ob.dict=some yb4/\ob.data=.plain
structure Cx where
 prog:yao
 w:World
 K:yai
 mg:Str->Option Value
 base:Heap
 A:yau
 N:List Str
 s₀:yab
 H₀:Hp
 env:Env
 outer:List Env
 stack:List Env
 ex:List Addr
 fn:Str->Bool
 calm:Bool
 pn:List (Addr×Obj)
 xe:Value->yab->Prop
def frs(l:List Env):List Addr:=l.filterMap (·.frame)
abbrev Cx.fs(X:Cx):List Addr:=frs X.outer
def Vis(sc:Scope)(x:Str):Prop:=sc.names.lookup x=some .local\/sc.names.lookup x=some .cell\/sc.names.lookup x=some .free
def Loc(sc:Scope)(x:Str):Prop:=sc.names.lookup x=some .local\/sc.names.lookup x=some .cell
def qnS (env:Env) (h:Heap) (m:Str->Option Value) (x:Str) (u:Value):Prop :=
 (env.kindOf x=some .local/\m x=some u)\/((env.kindOf x=some .cell\/env.kindOf x=some .free)/\∃c,env.cells.lookup x=some c/\h.IsCell c (some u))
structure Cx.Ok (X:Cx):Prop where
 mod:Mod X.K X.mg X.base
 kind:X.env.scope.kind=.function
 glob:X.env.globals=yag
 blt:X.env.builtins=yb4
 above:X.s₀.heap.objs.size<=X.env.locals
 inj:∀x y c,X.env.cells.lookup x=some c->X.env.cells.lookup y=some c->x=y
 has:∀x,(X.env.kindOf x=some .cell\/X.env.kindOf x=some .free)->∃c,X.env.cells.lookup x=some c
 cab:∀x c,X.fn x=true->X.env.cells.lookup x=some c->X.s₀.heap.objs.size<=c
 hd:X.calm=true->X.A.handled=none
 frames:X.A.frames=some X.stack
 stk:X.stack=X.outer\/(X.stack=X.env::X.outer/\X.env.frame=some X.env.locals)
 exf:∀b∈X.ex,b≠X.env.locals/\∀x c,X.env.cells.lookup x=some c->c≠b
 bs:∀b o,X.base.get? b=some o->X.s₀.heap.get? b=some o/\X.H₀ b=none
 bsz:X.base.objs.size<=X.s₀.heap.objs.size
 noex:∀b o,X.base.get? b=some o->b ∉ X.ex
 exfs:∀b∈X.ex,b ∉ X.fs
 funs:X.s₀.heap.FunFrames X.base X.outer
 frf:∀b∈X.fs,X.H₀ b=none
structure Inv (X:Cx) (pins:List (Addr×Obj)) (σ:List (Option V)) (H:Hp) (s:yab):Prop where
 ok:X.Ok
 os:s.os=X.s₀.os
 bare:yck s.gens
 base:Un X.fs X.ex X.H₀ H X.s₀.heap s.heap
 loc:∃m,s.heap.Ns X.env.locals m/\∀(i:Nat)(x:Str)(v:V),X.N[i]? = some x->σ[i]? = some (some v)->Vis X.env.scope x->∃u,jO v u/\qnS X.env s.heap m x u
 cell:∀x c,X.env.cells.lookup x=some c->∃v,s.heap.IsCell c v
 free:H X.env.locals=none
 freeC:∀x c,X.env.cells.lookup x=some c->H c=none
 pin:∀p∈X.pn++pins,s.heap.get? p.1=some p.2/\H p.1=none/\p.1≠X.env.locals/\p.1 ∉ X.fs/\∀v,p.2.data ≠ .cell v
 hok:HOk X.prog X.w H s.heap
 len:σ.length=X.N.length
section
variable{X:Cx}{pins:List (Addr×Obj)}{σ:List (Option V)}{H H':Hp}{s:yab}{h':Heap}
theorem Cx.Ok.nofr (ok:X.Ok) {b:Addr} {o:Obj} (e:X.base.get? b=some o):b ∉ X.fs:=λhb=>by
 have:=(ok.funs.mem hb).1
 rw[e]at this;cases this
theorem Inv.bs (I:Inv X pins σ H s):∀b o,X.base.get? b=some o->s.heap.get? b=some o/\H b=none:=λb o e=>
 ⟨I.base.keep b o (I.ok.bs b o e).1 (I.ok.bs b o e).2 (I.ok.nofr e) (I.ok.noex b o e),I.base.free b o (I.ok.bs b o e).1 (I.ok.bs b o e).2 (I.ok.noex b o e)⟩
theorem Inv.bk(I:Inv X pins σ H s):∀b o,X.base.get? b=some o->s.heap.get? b=some o:=λb o e=>(I.bs b o e).1
theorem Inv.mod(I:Inv X pins σ H s):Mod X.K X.mg X.base:=I.ok.mod
theorem Inv.kIn(I:Inv X pins σ H s):X.K.In s.heap:=I.ok.mod.kin.keeps I.bk
theorem Inv.lt(I:Inv X pins σ H s):X.env.locals<s.heap.objs.size:=let ⟨_,hn,_⟩:=I.loc;hn.lt
theorem Inv.sz(I:Inv X pins σ H s):X.s₀.heap.objs.size<=s.heap.objs.size:=yaF I.ok.above (ycu I.lt)
theorem Inv.nofs (I:Inv X pins σ H s) {a:Addr} (h:s.heap.objs.size<=a):a ∉ X.fs:=λhb=>by
 obtain⟨_,o,ho,_⟩:=I.ok.funs.mem hb
 exact absurd (yaw (yad ho) (yaF I.sz h)) (ybB _)
theorem Inv.cne (I:Inv X pins σ H s):∀x c,X.env.cells.lookup x=some c->c≠X.env.locals:=λx c e z=>by
 obtain⟨v,o,ho,hd⟩:=I.cell x c e
 obtain⟨m,⟨o',es,ep,ho',hd',_⟩,_⟩:=I.loc
 rw[z,ho']at ho;cases ho;rw[hd']at hd;cases hd
theorem Inv.funs (I:Inv X pins σ H s):s.heap.FunFrames X.base X.outer:=by
 have all:∀(l:List Env),(∀b∈frs l,b∈X.fs)->X.s₀.heap.FunFrames X.base l->s.heap.FunFrames X.base l:=by
  intro l
  induction l with
  |nil=>intro _ _;trivial
  |cons env r ih=>
   intro hs hl
   obtain⟨hk,⟨L,o,hf,hn,ho,hd⟩,hr⟩:=hl
   have hL:L∈X.fs:=hs L (by unfold frs;rw[ybd,hf];exact mS_)
   obtain⟨sl,e⟩:=I.base.slot L o ho (I.ok.frf L hL) hL λz=>I.ok.exfs L z hL
   exact⟨hk,⟨L,_,hf,hn,e,hd⟩,ih (λb hb=>hs b (by unfold frs;rw[ybd,hf];exact mM _ hb)) hr⟩
 exact all X.outer (λ_ hb=>hb) I.ok.funs
theorem Inv.stack (I:Inv X pins σ H s):s.heap.FunFrames X.base X.stack:=by
 rcases I.ok.stk with e|⟨e,hf⟩
 ·rw[e];exact I.funs
 ·rw[e]
  obtain⟨m,hn,_⟩:=I.loc
  refine .cons (by rw[I.ok.kind];decide) hf hn ?_ I.funs
  exact Heap.get?_none_of_le (yaF I.ok.bsz I.ok.above)
theorem Inv.stkSub (I:Inv X pins σ H s):∀b∈frs X.stack,b∈X.env.locals::X.fs:=λb hb=>by
 rcases I.ok.stk with e|⟨e,hf⟩
 ·rw[e]at hb;exact mM _ hb
 ·rw[e]at hb
  unfold frs at hb
  rw[ybd,hf]at hb
  exact hb
theorem Inv.stkFree (I:Inv X pins σ H s):∀b∈frs X.stack,H b=none:=λb hb=>by
 rcases List.mem_cons.mp (I.stkSub b hb)with e|hb
 ·rw[e];exact I.free
 ·obtain⟨_,o,ho,_⟩:=I.ok.funs.mem hb
  exact I.base.free b o ho (I.ok.frf b hb) λz=>I.ok.exfs b z hb
theorem Inv.step {g':Array yfC} {t':Nat} {d':Drawn} {ch:List Addr} (I:Inv X pins σ H s)
  (hch:∀b∈ch,(b∈X.ex\/X.s₀.heap.objs.size<=b)/\b≠X.env.locals/\(∀x c,X.env.cells.lookup x=some c->c≠b)/\∀p∈X.pn++pins,p.1≠b)
  (keep:∀b o,b≠X.env.locals->b ∉ X.fs->b ∉ ch->s.heap.get? b=some o->H b=none->h'.get? b=some o)
  (slot:∀b o,b≠X.env.locals->b∈X.fs->b ∉ ch->s.heap.get? b=some o->H b=none->∃sl,h'.get? b=some {o with slots:=sl}) (free:∀b o,b ∉ ch->s.heap.get? b=some o->H b=none->H' b=none)
  (there:∀b o,b ∉ ch->s.heap.get? b=some o->∃o',h'.get? b=some o')
  (tups:∀b xs,H b=some (.tup xs)->H' b=some (.tup xs)) (frzs:∀b o u,H b=some (.frz o u)->H' b=some (.frz o u)) (tbls:∀b pos q,H b=some (.lam pos q)->H' b=some (.lam pos q))
  (ns:∀m,s.heap.Ns X.env.locals m->h'.Ns X.env.locals m) (hok:HOk X.prog X.w H' h') (hg:yck g') :
  Inv X pins σ H' {s with heap:=h',gens:=g',drawn:=d',toks:=t' }:=by
 have neL:∀b o,X.s₀.heap.get? b=some o->b≠X.env.locals:=λb o e=>yat (yaw (yad e) I.ok.above)
 have neC:∀b o,X.s₀.heap.get? b=some o->b ∉ X.ex->b ∉ ch:=λb o e hx hb=>by
  rcases(hch b hb).1 with z|z
  ·exact hx z
  ·exact absurd (yaw (yad e) z) (ybB _)
 have cellK:∀x c,X.env.cells.lookup x=some c->∀v,s.heap.IsCell c v->h'.IsCell c v:=λx c e v ⟨o,ho,hd⟩=>by
  have nch:c ∉ ch:=λz=>(hch c z).2.2.1 x c e rfl
  by_cases hc:c∈X.fs
  ·obtain⟨sl,q⟩:=slot c o (I.cne x c e) hc nch ho (I.freeC x c e)
   exact⟨_,q,hd⟩
  ·exact⟨o,keep c o (I.cne x c e) hc nch ho (I.freeC x c e),hd⟩
 refine⟨I.ok,I.os,hg,⟨λb o e n hb hx=>?_,λb o e n hb hx=>?_,λb o e n hx=>?_,λb o e hx=>?_,λb xs e=>tups b xs (I.base.tups b xs e),λb o xs e=>frzs b o xs (I.base.frzs b o xs e),λb ps x e=>tbls b ps x (I.base.tbls b ps x e)⟩,?_,λx c e=>?_,?_,λx c e=>?_,λp hp=>?_,hok,I.len⟩
 ·exact keep b o (neL b o e) hb (neC b o e hx) (I.base.keep b o e n hb hx) (I.base.free b o e n hx)
 ·obtain⟨sl,e1⟩:=I.base.slot b o e n hb hx
  obtain⟨sl',e2⟩:=slot b _ (neL b o e) hb (neC b o e hx) e1 (I.base.free b o e n hx)
  exact⟨sl',e2⟩
 ·obtain⟨o',e1⟩:=I.base.there b o e hx
  exact free b o' (neC b o e hx) e1 (I.base.free b o e n hx)
 ·obtain⟨o',e1⟩:=I.base.there b o e hx
  exact there b o' (neC b o e hx) e1
 ·obtain⟨m,hn,hl⟩:=I.loc
  refine⟨m,ns m hn,λi x v e1 e2 e3=>?_⟩
  obtain⟨u,r,l⟩:=hl i x v e1 e2 e3
  refine⟨u,r,?_⟩
  rcases l with l|⟨k,c,e,z⟩
  ·exact .inl l
  ·exact .inr ⟨k,c,e,cellK x c e _ z⟩
 ·obtain⟨v,z⟩:=I.cell x c e
  exact⟨v,cellK x c e v z⟩
 ·obtain⟨m,⟨o,_,_,ho,_⟩,_⟩:=I.loc
  exact free _ o (λz=>(hch _ z).2.1 rfl) ho I.free
 ·obtain⟨v,o,ho,hd⟩:=I.cell x c e
  exact free c o (λz=>(hch c z).2.2.1 x c e rfl) ho (I.freeC x c e)
 ·obtain⟨e,n,ne,nf,d⟩:=I.pin p hp
  have nch:p.1 ∉ ch:=λz=>(hch p.1 z).2.2.2 p hp rfl
  exact⟨keep p.1 p.2 ne nf nch e n,free p.1 p.2 nch e n,ne,nf,d⟩
theorem Inv.un {t':Nat} (I:Inv X pins σ H s) (u:Un X.fs [] H H' s.heap h') (hok:HOk X.prog X.w H' h'):Inv X pins σ H' {s with heap:=h',toks:=t' }:=by
 obtain⟨m,⟨o,es,ep,ho,r⟩,_⟩:=id I.loc
 obtain⟨sl,hL⟩:=u.any ho I.free (by simp)
 exact I.step (g':=s.gens) (d':=s.drawn) (ch:=[]) (λ_ z=>nomatch z) (λb o _ hb _ e n=>u.keep b o e n hb (by simp)) (λb o _ hb _ e n=>u.slot b o e n hb (by simp)) (λb o _ e n=>u.free b o e n (by simp)) (λb o _ e=>u.there b o e (by simp)) u.tups u.frzs u.tbls (λm' hm=>by
  obtain⟨o',es',ep',ho',r'⟩:=hm
  rw[ho]at ho';cases ho'
  exact⟨_,es',ep',hL,r'⟩) hok I.bare
theorem Inv.call {g':Array yfC} {t':Nat} {d':Drawn} {ch:List Addr} (I:Inv X pins σ H s) (u:Un (frs X.stack) ch H H' s.heap h') (hok:HOk X.prog X.w H' h') (hg:yck g')
  (hch:∀b∈ch,(b∈X.ex\/X.s₀.heap.objs.size<=b)/\b≠X.env.locals/\(∀x c,X.env.cells.lookup x=some c->c≠b)/\∀p∈X.pn++pins,p.1≠b) :
  Inv X pins σ H' {s with heap:=h',gens:=g',drawn:=d',toks:=t' }:=by
 obtain⟨m,⟨o,es,ep,ho,r⟩,_⟩:=id I.loc
 obtain⟨sl,hL⟩:=u.any ho I.free λz=>(hch _ z).2.1 rfl
 exact I.step (ch:=ch) hch (λb o hL hb hc e n=>u.keep b o e n (λz=>(List.mem_cons.mp (I.stkSub b z)).elim hL hb) hc) (λb o _ _ hc e n=>u.any e n hc) (λb o hc e n=>u.free b o e n hc) (λb o hc e=>u.there b o e hc) u.tups u.frzs u.tbls (λm' hm=>by
  obtain⟨o',es',ep',ho',r'⟩:=hm
  rw[ho]at ho';cases ho'
  exact⟨_,es',ep',hL,r'⟩) hok hg
theorem Inv.turned {t':Nat} {it:Addr} (I:Inv X pins σ H s) (k:∀b o,b≠it->s.heap.get? b=some o->h'.get? b=some o) (hn:H it=none) (hL:it≠X.env.locals)
  (h1:it∈X.ex\/X.s₀.heap.objs.size<=it) (h2:∀x c,X.env.cells.lookup x=some c->c≠it) (h3:∀p∈X.pn++pins,p.1≠it):Inv X pins σ H {s with heap:=h',toks:=t' }:=by
 have nit:∀b u,H b=some u->b≠it:=λb u e z=>by rw[z,hn]at e;cases e
 refine I.step (g':=s.gens) (d':=s.drawn) (ch:=[it]) (λb hb=>?_) (λb o _ _ hc e _=>k b o (λz=>hc (by simp[z])) e) (λb o _ _ hc e _=>⟨o.slots,k b o (λz=>hc (by simp[z])) e⟩) (λ_ _ _ _ n=>n)
  (λb o hc e=>⟨o,k b o (λz=>hc (by simp[z])) e⟩) (λ_ _ e=>e) (λ_ _ _ e=>e) (λ_ _ _ e=>e) (λm hm=>?_) (λb u e=>?_) I.bare
 ·have e:b=it:=by simpa using hb
  subst e
  exact⟨h1,hL,h2,h3⟩
 ·obtain⟨o,es,ep,ho,r⟩:=hm
  exact⟨o,es,ep,k _ o (yaX hL) ho,r⟩
 ·refine(I.hok b u e).stay (λc v hc q=>k c v ?_ q) (λ_ q=>q) λ_ _ q=>q
  rcases hc with z|z
  ·rw[z];exact nit b u e
  ·exact nit c _ z
theorem Inv.tok(I:Inv X pins σ H s)(t:Nat):Inv X pins σ H {s with toks:=t}:=I.un (h':=s.heap) (t':=t) Un.refl I.hok
theorem Inv.kept{t':Nat}(I:Inv X pins σ H s)(k:∀b u,s.heap.get? b=some u->h'.get? b=some u):Inv X pins σ H {s with heap:=h',toks:=t' }:=I.un (Un.kept k) (I.hok.kept k)
theorem Inv.laid {a:Addr} {o:HO} {t':Nat} (I:Inv X pins σ H s) (k:∀b u,s.heap.get? b=some u->h'.get? b=some u) (hp:s.heap.objs.size<=a) (new:yq X.prog X.w (upd H a o) h' a o) :
  Inv X pins σ (upd H a o) {s with heap:=h',toks:=t' }:=I.un (Un.laid k hp (I.hok.fresh hp)) (I.hok.laid k hp new)
theorem Inv.write {x e:Addr} {o:HO} {t':Nat} (I:Inv X pins σ H s) (mu:Mut (H x)) (he:e=x\/H e=some (.own x)) (k:∀b u,b≠e->s.heap.get? b=some u->h'.get? b=some u) (heo:∃u,h'.get? e=some u)
  (new:yq X.prog X.w (upd H x o) h' x o):Inv X pins σ (upd H x o) {s with heap:=h',toks:=t' }:=I.un (Un.write mu he k heo) (I.hok.write mu he k heo new)
theorem Inv.pins_of {pins':List (Addr×Obj)} (I:Inv X pins σ H s) (h:∀p∈pins',s.heap.get? p.1=some p.2/\H p.1=none/\p.1≠X.env.locals/\p.1 ∉ X.fs/\∀v,p.2.data ≠ .cell v):Inv X pins' σ H s :=
 ⟨I.ok,I.os,I.bare,I.base,I.loc,I.cell,I.free,I.freeC,λp hp=>(mA_.mp hp).elim (λz=>I.pin p (ycd _ z)) (h p),I.hok,I.len⟩
theorem qdF {N:List Str} (hN:N.Nodup) {i j:Nat} {x:Str} (a:N[i]? = some x) (b:N[j]? = some x):i=j:=by
 obtain⟨h1,e1⟩:=gI_.mp a
 obtain⟨h2,e2⟩:=gI_.mp b
 exact(List.getElem_inj hN).mp (e1.trans e2.symm)
theorem qca {M:Model} {A:yau} {E:Value->yab->Prop} {i:Nat} {x:Str} {v:V} {u:Value} {Q:Unit->yab->Prop} (I:Inv X pins σ H s) (hN:X.N.Nodup) (hi:X.N[i]? = some x) (hx:Loc X.env.scope x) (r:jO v u)
  (h:∀s',Inv X pins (σ.set i (some v)) H s'->(∃a,ybW a s.heap s'.heap/\(a=X.env.locals\/X.env.cells.lookup x=some a))->Q () s') (hf:X.fn x=true\/X.env.scope.names.lookup x=some .local:=by first|exact .inl rfl|exact .inr rfl|assumption):wpAny M A (storeName X.env x u) Q E s:=by
 obtain⟨m,hn,hl⟩:=id I.loc
 have hcls:(X.env.scope.kind == .class||(X.env.scope.kind == .module&&X.env.locals != X.env.globals))=false:=by rw[I.ok.kind];rfl
 have hiσ:i<σ.length:=by rw[I.len];exact(gI_.mp hi).1
 have cne:=I.cne
 have tracked:∀{a:Addr}{h':Heap},(∃o,s.heap.get? a=some o/\H a=none)->ybW a s.heap h'->HOk X.prog X.w H h':=λ{a h'} ha hs b ob e=>by
  obtain⟨_,_,hfree⟩:=ha
  refine(I.hok b ob e).stay (λc w' hc q=>(hs.2 c ?_).trans q) (λ_ q=>q) λ_ _ q=>q
  rintro rfl
  rcases hc with rfl|hc
  ·rw[hfree]at e;cases e
  ·rw[hfree]at hc;cases hc
 rcases hx with hk|hk
 ·refine wpAny_storeName_local hk hn (λh' hn' hs=>?_) hcls
  obtain⟨oL,_,_,hoL,_⟩:=id hn
  refine h _ ⟨I.ok,I.os,I.bare,⟨λb o e n hb hx=>?_,λb o e n hb hx=>?_,I.base.free,λb o e hx=>?_,I.base.tups,I.base.frzs,I.base.tbls⟩,⟨_,hn',λj y v' e1 e2 e3=>?_⟩,λy c e=>?_,I.free,I.freeC,λp hp=>?_,tracked ⟨oL,hoL,I.free⟩ hs,by simpa using I.len⟩ ⟨_,hs,.inl rfl⟩
  ·exact(hs.2 b (yat (yaw (yad e) I.ok.above))).trans (I.base.keep b o e n hb hx)
  ·obtain⟨sl,e1⟩:=I.base.slot b o e n hb hx
   exact⟨sl,(hs.2 b (yat (yaw (yad e) I.ok.above))).trans e1⟩
  ·obtain⟨o',e1⟩:=I.base.there b o e hx
   exact⟨o',(hs.2 b (yat (yaw (yad e) I.ok.above))).trans e1⟩
  ·by_cases hj:j=i
   ·subst hj
    rw[hi]at e1;cases e1
    rw[List.getElem?_set_self hiσ]at e2
    cases e2
    exact⟨u,r,.inl ⟨hk,by simp⟩⟩
   ·rw [List.getElem?_set_ne (yaX hj)]at e2
    obtain⟨u',r',q⟩:=hl j y v' e1 e2 e3
    refine⟨u',r',?_⟩
    rcases q with⟨k,e⟩|⟨k,c,e,z⟩
    ·refine .inl ⟨k,?_⟩
     have:y≠x:=λe=>hj (qdF hN e1 (e▸hi))
     simp[this,e]
    ·exact .inr ⟨k,c,e,z.sameBut hs (cne y c e)⟩
  ·obtain⟨w',z⟩:=I.cell y c e
   exact⟨w',z.sameBut hs (cne y c e)⟩
  ·obtain⟨e,n,ne,nf,d⟩:=I.pin p hp
   exact⟨(hs.2 p.1 ne).trans e,n,ne,nf,d⟩
 ·have hfn:X.fn x=true:=by
   rcases hf with z|z
   ·exact z
   ·rw[z]at hk;cases hk
  obtain⟨c,hc⟩:=I.ok.has x (.inl hk)
  obtain⟨w',z⟩:=I.cell x c hc
  refine wpAny_storeName_cell I.ok.kind hk hc z (λh' hc' hs=>?_)
  obtain⟨oc,hoc,hocd⟩:=id z
  refine h {s with heap:=h' } ⟨I.ok,I.os,I.bare,⟨λb o e n hb hx=>?_,λb o e n hb hx=>?_,I.base.free,λb o e hx=>?_,I.base.tups,I.base.frzs,I.base.tbls⟩,⟨m,hn.sameBut hs (yaX (cne x c hc)),λj y v' e1 e2 e3=>?_⟩,λy c' e=>?_,I.free,I.freeC,λp hp=>?_,tracked ⟨oc,hoc,I.freeC x c hc⟩ hs,by simpa using I.len⟩ ⟨c,hs,.inr hc⟩
  ·exact(hs.2 b (yat (yaw (yad e) (I.ok.cab x c hfn hc)))).trans (I.base.keep b o e n hb hx)
  ·obtain⟨sl,e1⟩:=I.base.slot b o e n hb hx
   exact⟨sl,(hs.2 b (yat (yaw (yad e) (I.ok.cab x c hfn hc)))).trans e1⟩
  ·obtain⟨o',e1⟩:=I.base.there b o e hx
   exact⟨o',(hs.2 b (yat (yaw (yad e) (I.ok.cab x c hfn hc)))).trans e1⟩
  ·by_cases hj:j=i
   ·subst hj
    rw[hi]at e1;cases e1
    rw[List.getElem?_set_self hiσ]at e2
    cases e2
    exact⟨u,r,.inr ⟨.inl hk,c,hc,hc'⟩⟩
   ·rw [List.getElem?_set_ne (yaX hj)]at e2
    obtain⟨u',r',q⟩:=hl j y v' e1 e2 e3
    refine⟨u',r',?_⟩
    rcases q with q|⟨k,c',e,z'⟩
    ·exact .inl q
    ·refine .inr ⟨k,c',e,z'.sameBut hs ?_⟩
     rintro rfl
     exact hj (qdF hN e1 (I.ok.inj _ _ _ e hc▸hi))
  ·by_cases hcc:c'=c
   ·subst hcc;exact⟨_,hc'⟩
   ·obtain⟨w2,z2⟩:=I.cell y c' e
    exact⟨w2,z2.sameBut hs hcc⟩
  ·obtain⟨e,n,ne,nf,d⟩:=I.pin p hp
   refine⟨(hs.2 p.1 ?_).trans e,n,ne,nf,d⟩
   intro q
   rw[q,hoc]at e
   have q':oc=p.2:=yaI e
   exact d w' (by rw[<-q'];exact hocd)
theorem vL {M:Model} {A:yau} {E:Value->yab->Prop} {i:Nat} {x:Str} {v:V} {u:Value} {Q:Unit->yab->Prop} (I:Inv X pins σ H s) (hN:X.N.Nodup) (hi:X.N[i]? = some x) (hx:Loc X.env.scope x) (r:jO v u)
  (h:∀s',Inv X pins (σ.set i (some v)) H s'->Q () s') (hf:X.fn x=true\/X.env.scope.names.lookup x=some .local:=by first|exact .inl rfl|exact .inr rfl|assumption):wpAny M A (storeName X.env x u) Q E s :=
 qca I hN hi hx r (λs' I' _=>h s' I') hf
theorem Inv.call' {s':yab} {ch:List Addr} (I:Inv X pins σ H s) (ho:s'.os=s.os) (u:Un (frs X.stack) ch H H' s.heap s'.heap) (hok:HOk X.prog X.w H' s'.heap) (hg:yck s'.gens)
  (hch:∀b∈ch,(b∈X.ex\/X.s₀.heap.objs.size<=b)/\b≠X.env.locals/\(∀x c,X.env.cells.lookup x=some c->c≠b)/\∀p∈X.pn++pins,p.1≠b):Inv X pins σ H' s':=by
 obtain⟨h',g',d',t',o'⟩:=s'
 have e:o'=s.os:=ho
 subst e
 exact I.call (g':=g') (t':=t') (d':=d') u hok hg hch
end
abbrev XK:=Value->Option Addr->Hp->Prop
abbrev St:=List (Option V)
abbrev VK:=V->Hp->Prop
abbrev TE:=St->Hp->VK->Prop
abbrev TT:=St->Hp->(Bool->Hp->Prop)->Prop
abbrev TA:=St->Hp->(List V->Hp->Prop)->Prop
structure qe6 where
 nx:St->Hp->Prop
 rt:VK
 bk:St->Hp->Prop:=λ_ _=>False
 ct:St->Hp->Prop:=λ_ _=>False
abbrev TS:=qe6->St->Hp->Prop
def EP(X:Cx)(pins:List (Addr×Obj))(σ:St)(Q:VK)(u:Value)(s':yab):Prop:=∃v H',Inv X pins σ H' s'/\jO v u/\Q v H'
def TP(X:Cx)(pins:List (Addr×Obj))(σ:St)(Q:Bool->Hp->Prop)(b:Bool)(s':yab):Prop:=∃H',Inv X pins σ H' s'/\Q b H'
def AP(X:Cx)(pins:List (Addr×Obj))(σ:St)(Q:List V->Hp->Prop)(us:List Value)(s':yab):Prop:=∃vs H',Inv X pins σ H' s'/\ze vs us/\Q vs H'
def SP (X:Cx) (pins:List (Addr×Obj)) (D:qe6) (f:Flow) (s':yab):Prop :=
 match f with
 |.next=>∃σ' H',Inv X pins σ' H' s'/\D.nx σ' H'
 |.brk=>∃σ' H',Inv X pins σ' H' s'/\D.bk σ' H'
 |.cont=>∃σ' H',Inv X pins σ' H' s'/\D.ct σ' H'
 |.ret u=>∃v σ' H',Inv X pins σ' H' s'/\jO v u/\D.rt v H'
def PE (X:Cx) (e:Expr) (t:TE):Prop :=
 ∀(pins:List (Addr×Obj))(s:yab)(σ:St)(H:Hp)(Q:VK),Inv X pins σ H s->t σ H Q->wpAny (model X.prog X.w) X.A (eval e X.env) (EP X pins σ Q) X.xe s
def PT (X:Cx) (e:Expr) (t:TT):Prop :=
 ∀(pins:List (Addr×Obj))(s:yab)(σ:St)(H:Hp)(Q:Bool->Hp->Prop),Inv X pins σ H s->t σ H Q->wpAny (model X.prog X.w) X.A (isTrue e X.env (eval e X.env)) (TP X pins σ Q) X.xe s
def PW (X:Cx) (e:Expr) (t:TT):Prop :=
 ∀(whole:Sem Value)(pins:List (Addr×Obj))(s:yab)(σ:St)(H:Hp)(Q:Bool->Hp->Prop),Inv X pins σ H s->t σ H Q->wpAny (model X.prog X.w) X.A (isTrue e X.env whole) (TP X pins σ Q) X.xe s
theorem PW.pt{X:Cx}{e:Expr}{t:TT}(h:PW X e t):PT X e t:=h _
def PA (X:Cx) (es:List Expr) (t:TA):Prop :=
 ∀(pos:Pos)(pins:List (Addr×Obj))(s:yab)(σ:St)(H:Hp)(Q:List V->Hp->Prop),Inv X pins σ H s->t σ H Q->wpAny (model X.prog X.w) X.A (spliced (yaQ pos (yae es X.env))) (AP X pins σ Q) X.xe s
def PS (X:Cx) (st:Stmt) (t:TS):Prop :=
 ∀(pins:List (Addr×Obj))(s:yab)(σ:St)(H:Hp)(D:qe6),Inv X pins σ H s->t D σ H->wpAny (model X.prog X.w) X.A (exec st X.env) (SP X pins D) X.xe s
def PSs (X:Cx) (st:List Stmt) (t:TS):Prop :=
 ∀(pins:List (Addr×Obj))(s:yab)(σ:St)(H:Hp)(D:qe6),Inv X pins σ H s->t D σ H->wpAny (model X.prog X.w) X.A (execs st X.env) (SP X pins D) X.xe s
theorem thn{α:Type}{t:Sem α}{Q Q':α->yab->Prop}{M:Model}{A:yau}{E:Value->yab->Prop}{s:yab}(h:wpAny M A t Q E s)(hQ:∀a s,Q a s->Q' a s):wpAny M A t Q' E s:=ya8 h hQ λ_ _ x=>x
end L2
namespace L2
open PySem PySem.Spec PyProof.Rows
section
variable{X:Cx}
theorem bin {a b:Expr} {ta tb:TE} (ha:PE X a ta) (hb:PE X b tb) {pins:List (Addr×Obj)} {s:yab} {σ:St} {H:Hp} {R:V->V->Hp->Prop} (I:Inv X pins σ H s) (h:ta σ H λx H1=>tb σ H1 λy H2=>R x y H2)
  {α:Type} {Q:α->yab->Prop} {f:Value->Value->Sem α}
  (hf:∀v u s2 x y H2,Inv X pins σ H2 s2->jO x v->jO y u->R x y H2->wpAny (model X.prog X.w) X.A (f v u) Q X.xe s2) :
  wpAny (model X.prog X.w) X.A (eval a X.env) (λv sY=>wpAny (model X.prog X.w) X.A (eval b X.env) (λu sQ=>wpAny (model X.prog X.w) X.A (f v u) Q X.xe sQ) X.xe sY) X.xe s:=by
 refine thn (ha pins s σ H _ I h) λv s1 ⟨x,H1,I1,r1,q1⟩=>?_
 refine thn (hb pins s1 σ H1 _ I1 q1) λu s2 ⟨y,H2,I2,r2,q2⟩=>?_
 exact hf v u s2 x y H2 I2 r1 r2 q2
def qnT(i:Nat):TE:=λσ H Q=>∃v,σ[i]? = some (some v)/\Q v H
def tC(v:V):TE:=λ_ H Q=>Q v H
theorem vp {i:Nat} {x:Str} {pos:Pos} (hN:X.N[i]? = some x) (hv:Vis X.env.scope x) (hd:(x==("__debug__":Str))=false:=by decide) (hcd:(x==("__classdict__":Str))=false:=by decide):PE X (.Name x pos) (qnT i):=by
 intro pins s σ H Q I h
 obtain⟨v,e,h⟩:=h
 obtain⟨m,hn,hl⟩:=I.loc
 obtain⟨u,r,l⟩:=hl i x v hN e hv
 have fin:EP X pins σ Q u s:=⟨v,H,I,r,h⟩
 rcases l with⟨hk,hm⟩|⟨hk,c,hc,hcell⟩
 ·exact yfG (wpAny_loadName_local I.ok.kind hk hn hm fin) hd
 ·rcases hk with hk|hk
  ·exact yfG (wpAny_loadName_cell I.ok.kind hk hc hcell fin) hd
  ·exact yfG (wpAny_loadName_free I.ok.kind hk hc hcell fin hcd) hd
theorem qkv{i j pos}:PE X (.Constant (.int i) j pos) (tC (.int i)):=λ_ _ _ H _ I h=>ydm ⟨.int i,H,I.tok _,⟨_,rfl⟩,h⟩
theorem qms{b j pos}:PE X (.Constant (.bool b) j pos) (tC (.bl b)):=λ_ _ _ H _ I h=>Constant_bool ⟨.bl b,H,I,rfl,h⟩
theorem qkw{j pos}:PE X (.Constant .none j pos) (tC .non):=λ_ _ _ H _ I h=>Constant_none ⟨.non,H,I,rfl,h⟩
theorem qkx{x j pos}:PE X (.Constant (.str x) j pos) (tC (.str x)):=λ_ _ _ H _ I h=>ye3 ⟨.str x,H,I.tok _,⟨_,rfl⟩,h⟩
def Gl(X:Cx)(x:Str):Prop:=X.env.kindOf x=some .globalImplicit
theorem qbq {E:Value->yab->Prop} {pins:List (Addr×Obj)} {s:yab} {σ:St} {H:Hp} {x:Str} {u:Value} {pos:Pos} {Q:Value->yab->Prop} (I:Inv X pins σ H s) (hg:Gl X x) (hm:X.mg x=some u) (h:Q u s)
  (hd:(x==("__debug__":Str))=false:=by decide):wpAny (model X.prog X.w) X.A (eval (.Name x pos) X.env) Q E s :=
 ydx I.ok.kind hg (Calls.loadGlobal_global (by rw[I.ok.glob];exact I.mod.glob.keeps I.bk) hm h) hd
theorem qaY {E:Value->yab->Prop} {pins:List (Addr×Obj)} {s:yab} {σ:St} {H:Hp} {x:Str} {u:Value} {pos:Pos} {Q:Value->yab->Prop} (I:Inv X pins σ H s) (hg:Gl X x) (hm:X.mg x=none) (hv:yaz x=some u) (h:Q u s)
  (hn:x≠"__name__":=by decide) (hd:(x==("__debug__":Str))=false:=by decide):wpAny (model X.prog X.w) X.A (eval (.Name x pos) X.env) Q E s:=by
 obtain⟨mb,h1,h2⟩:=I.mod.blt
 exact ydx I.ok.kind hg (Calls.loadGlobal_builtin (by rw[I.ok.glob];exact I.mod.glob.keeps I.bk) hm (by rw[I.ok.blt];exact h1.keeps I.bk) ((h2 x hn).trans hv) h) hd
theorem qc0 {x:Str} {v:V} {u:Value} {pos:Pos} (hg:Gl X x) (hm:X.mg x=some u) (r:jO v u) (hd:(x==("__debug__":Str))=false:=by decide):PE X (.Name x pos) (tC v) :=
 λ_ _ _ H _ I h=>qbq I hg hm ⟨v,H,I,r,h⟩ hd
theorem qe7 {x:Str} {v:V} {u:Value} {pos:Pos} (hg:Gl X x) (hm:X.mg x=none) (hv:yaz x=some u) (r:jO v u) (hn:x≠"__name__":=by decide) (hd:(x==("__debug__":Str))=false:=by decide):PE X (.Name x pos) (tC v) :=
 λ_ _ _ H _ I h=>qaY I hg hm hv ⟨v,H,I,r,h⟩ hn hd
variable{a b:Expr}{ta tb:TE}{pos:Pos}
def PC (X:Cx) (op:CmpOp) (a b:Expr) (t:TE):Prop :=
 ∀ (pins:List (Addr×Obj)) (s:yab) (σ:St) (H:Hp) (Q:VK),Inv X pins σ H s->t σ H Q ->
  wpAny (model X.prog X.w) X.A (eval a X.env) (λv sY=>wpAny (model X.prog X.w) X.A (eval b X.env) (λu sQ=>wpAny (model X.prog X.w) X.A (ybb op v u) (EP X pins σ Q) X.xe sQ) X.xe sY) X.xe s
theorem qgW (b:Expr) {op:CmpOp} (h:op ≠ .In) (h2:op ≠ .NotIn):ybC op b=false:=by
 have e1:(op==CmpOp.In)=false:=by cases op<;>first|rfl|exact absurd rfl h
 have e2:(op==CmpOp.NotIn)=false:=by cases op<;>first|rfl|exact absurd rfl h2
 cases b<;>simp[ybC,e1,e2]
def tB(t:TE):TT:=λσ H Q=>t σ H λx H1=>∃c,x=.bl c/\Q c H1
theorem qnh {op:CmpOp} {t:TE} (h:PC X op a b t) (h1:ybC op b=false:=by first|exact qgW _ (by decide) (by decide)|rfl):PT X (.Compare a [op] [b] pos) (tB t):=by
 intro pins s σ H Q I hw
 refine yeu (thn (h pins s σ H _ I hw) λv s1 h1=>thn h1 λu s2 h2=>thn h2 λc s3 ⟨x,H1,I1,r1,q1⟩=>?_) h1
 obtain⟨d,rfl,q⟩:=q1
 cases r1
 exact ybz ⟨H1,I1,q⟩
theorem qky {e:Expr} {t:TE} (h:PE X e t) (he:∀whole,isTrue e X.env whole=(do let v <-whole;standAt e.pos;ydg [v] (truthy v)):=by intro _;rfl):PT X e (tB t):=by
 intro pins s σ H Q I hw
 refine isTrue_plain (thn (h pins s σ H _ I hw) λv s1 ⟨x,H1,I1,r1,q1⟩=>?_) (he _)
 obtain⟨d,rfl,q⟩:=q1
 cases r1
 exact ybz ⟨H1,I1,q⟩
variable{tA tB':TT}{wZ:List Expr}
def qnU(t u:TT):TT:=λσ H Q=>t σ H λc H1=>if c=true then u σ H1 Q else Q false H1
def tOr(t u:TT):TT:=λσ H Q=>t σ H λc H1=>if c=true then Q true H1 else u σ H1 Q
def qnV(t:TT):TT:=λσ H Q=>t σ H λc H1=>Q (!c) H1
theorem qiO (ha:PT X a tA):PW X (.BoolOp .And [a] pos) tA:=by
 intro wh pins s σ H Q I h
 refine isTrue_and (thn (ha pins s σ H Q I h) λc s1 e=>?_)
 cases c with
 |true=>exact isTrue_and_nil e
 |false=>exact e
theorem qkz (ha:PT X a tA):PW X (.BoolOp .Or [a] pos) tA:=by
 intro wh pins s σ H Q I h
 refine isTrue_or (thn (ha pins s σ H Q I h) λc s1 e=>?_)
 cases c with
 |false=>exact isTrue_or_nil e
 |true=>exact e
theorem qkA (ha:PT X a tA) (hb:PW X (.BoolOp .And (b::wZ) pos) tB'):PW X (.BoolOp .And (a::b::wZ) pos) (qnU tA tB'):=by
 intro wh pins s σ H Q I h
 refine isTrue_and (thn (ha pins s σ H _ I h) λc s1 ⟨H1,I1,q1⟩=>?_)
 cases c with
 |true=>exact hb wh pins s1 σ H1 Q I1 q1
 |false=>exact⟨H1,I1,q1⟩
theorem qmt (ha:PT X a tA) (hb:PW X (.BoolOp .Or (b::wZ) pos) tB'):PW X (.BoolOp .Or (a::b::wZ) pos) (tOr tA tB'):=by
 intro wh pins s σ H Q I h
 refine isTrue_or (thn (ha pins s σ H _ I h) λc s1 ⟨H1,I1,q1⟩=>?_)
 cases c with
 |true=>exact⟨H1,I1,q1⟩
 |false=>exact hb wh pins s1 σ H1 Q I1 q1
theorem qkB (ha:PT X a tA):PT X (.UnaryOp .Not a pos) (qnV tA):=by
 intro pins s σ H Q I h
 exact isTrue_not (ha pins s σ H (λc H1=>Q (!c) H1) I h)
def qmu(ta tb:TE):TE:=λσ H Q=>ta σ H λx H1=>∃c,x=.bl c/\if c=true then tb σ H1 Q else Q (.bl false) H1
def qnW(ta tb:TE):TE:=λσ H Q=>ta σ H λx H1=>∃c,x=.bl c/\if c=true then Q (.bl true) H1 else tb σ H1 Q
def qmv(ta:TE):TE:=λσ H Q=>ta σ H λx H1=>∃c,x=.bl c/\Q (.bl (!c)) H1
theorem qkC{op}{t:TE}(h:PE X a t):PE X (.BoolOp op [a] pos) t:=λpins s σ H Q I hw=>BoolOp_one (h pins s σ H Q I hw)
theorem qkD (ha:PE X a ta) (hb:PE X (.BoolOp .And (b::wZ) pos) tb):PE X (.BoolOp .And (a::b::wZ) pos) (qmu ta tb):=by
 intro pins s σ H Q I h
 refine BoolOp_and (thn (ha pins s σ H _ I h) λv s1 ⟨x,H1,I1,r1,q1⟩=>?_)
 obtain⟨c,rfl,q1⟩:=q1
 cases r1
 refine ybz ?_
 cases c with
 |true=>exact hb pins s1 σ H1 Q I1 q1
 |false=>exact⟨.bl false,H1,I1,rfl,q1⟩
theorem qmw (ha:PE X a ta) (hb:PE X (.BoolOp .Or (b::wZ) pos) tb):PE X (.BoolOp .Or (a::b::wZ) pos) (qnW ta tb):=by
 intro pins s σ H Q I h
 refine BoolOp_or (thn (ha pins s σ H _ I h) λv s1 ⟨x,H1,I1,r1,q1⟩=>?_)
 obtain⟨c,rfl,q1⟩:=q1
 cases r1
 refine ybz ?_
 cases c with
 |false=>exact hb pins s1 σ H1 Q I1 q1
 |true=>exact⟨.bl true,H1,I1,rfl,q1⟩
theorem qkE (ha:PE X a ta):PE X (.UnaryOp .Not a pos) (qmv ta):=by
 intro pins s σ H Q I h
 refine UnaryOp_ (thn (ha pins s σ H _ I h) λv s1 ⟨x,H1,I1,r1,q1⟩=>?_)
 obtain⟨c,rfl,q1⟩:=q1
 cases r1
 exact not_of (ybz ⟨.bl (!c),H1,I1,rfl,q1⟩)
def tIf(t:TT)(ta tb:TE):TE:=λσ H Q=>t σ H λc H1=>if c=true then ta σ H1 Q else tb σ H1 Q
theorem qgX {c:Expr} (hc:PT X c tA) (ha:PE X a ta) (hb:PE X b tb):PE X (.IfExp c a b pos) (tIf tA ta tb):=by
 intro pins s σ H Q I h
 refine wpAny_IfExp (thn (hc pins s σ H _ I h) λd s1 ⟨H1,I1,q1⟩=>?_)
 cases d with
 |true=>exact ha pins s1 σ H1 Q I1 q1
 |false=>exact hb pins s1 σ H1 Q I1 q1
end
end L2
namespace L2
open PySem PySem.Spec PyProof.Rows
def SqL (K:yai) (H:Hp) (a:Addr) (xs:List V):Prop :=
 Rd H a (.lst xs) \/
  ∃(o:Obj)(its:Array Value)(n:Nat),K.lookup a=some o/\o.cls=.type "list"/\o.dict=none/\o.data=.seq its n/\its.size<=yam/\ze xs its.toList
def SqT (K:yai) (H:Hp) (a:Addr) (xs:List V):Prop :=
 Rd H a (.tup xs) \/
  ∃(o:Obj)(its:Array Value)(n:Nat),K.lookup a=some o/\o.cls=.type "tuple"/\o.data=.seq its n/\its.size<=yam/\ze xs its.toList
def qnX:Value->Option V
 |.none=>some .non
 |.bool b=>some (.bl b)
 |.int i _=>some (.int i)
 |.str x _=>some (.str x)
 |.bytes b _=>some (.byt b)
 |.float b _=>some (.flt b)
 |.ref a=>some (.ref a)
 |.type n=>some (.ty n)
 |_=>none
theorem jO.abs {x:V} {u:Value} (r:jO x u):qnX u=some x:=by
 cases x with
 |non=>cases r;rfl
 |bl _=>cases r;rfl
 |int _=>obtain⟨t,rfl⟩:=r;rfl
 |str _=>obtain⟨t,rfl⟩:=r;rfl
 |byt _=>obtain⟨t,rfl⟩:=r;rfl
 |flt _=>obtain⟨t,rfl⟩:=r;rfl
 |ref _=>cases r;rfl
 |ty _=>cases r;rfl
theorem jO.inj{x y:V}{u:Value}(r:jO x u)(q:jO y u):x=y:=yaI (r.abs.symm.trans q.abs)
theorem ze.inj:∀{xs ys:List V}{us:List Value},ze xs us->ze ys us->xs=ys
 |_,_,_,.nil,.nil=>rfl
 |_,_,_,.cons r t,.cons r' t'=>by rw[r.inj r',ze.inj t t']
section
variable{X:Cx}{pins:List (Addr×Obj)}{σ:St}{H:Hp}{s:yab}{a:Addr}{xs ys:List V}
theorem SqL.of{K:yai}(h:H a=some (.lst xs)):SqL K H a xs:=.inl (.inl h)
theorem Inv.list (I:Inv X pins σ H s) (h:SqL X.K H a xs):∃its:List Value,ze xs its/\PlainL s.heap a its.toArray/\xs.length<=yam:=by
 rcases h with h|⟨o,its,n,hk,hc,hd,hs,hz,r⟩
 ·obtain⟨z,its,n,r,e⟩:=h.ok I.hok
  exact⟨its,r,⟨_,n,e,rfl,rfl,rfl⟩,z⟩
 ·refine⟨its.toList,r,⟨o,n,I.kIn a o hk,hc,hd,by simpa using hs⟩,?_⟩
  have e:=r.length
  simp only[ycm]at e
  omega
theorem Inv.tuple (I:Inv X pins σ H s) (h:SqT X.K H a xs):∃its:List Value,ze xs its/\IsTup s.heap a its.toArray/\xs.length<=yam:=by
 rcases h with h|⟨o,its,n,hk,hc,hs,hz,r⟩
 ·obtain⟨z,its,r,p⟩:=h.ok I.hok
  exact⟨its,r,p,z⟩
 ·refine⟨its.toList,r,⟨o,I.kIn a o hk,hc,n,by simpa using hs⟩,?_⟩
  have e:=r.length
  simp only[ycm]at e
  omega
theorem Inv.list_inj (I:Inv X pins σ H s) (h:SqL X.K H a xs) (h':SqL X.K H a ys):xs=ys:=by
 obtain⟨its,r,⟨o,n,e,_,_,d⟩,_⟩:=I.list h
 obtain⟨its',r',⟨o',n',e',_,_,d'⟩,_⟩:=I.list h'
 rw[e]at e';cases e'
 rw[d]at d'
 injection d' with d1 _
 have:its=its':=by simpa using congrArg Array.toList d1
 subst this
 exact r.inj r'
theorem Inv.tuple_inj (I:Inv X pins σ H s) (h:SqT X.K H a xs) (h':SqT X.K H a ys):xs=ys:=by
 obtain⟨its,r,⟨o,e,_,n,d⟩,_⟩:=I.tuple h
 obtain⟨its',r',⟨o',e',_,n',d'⟩,_⟩:=I.tuple h'
 rw[e]at e';cases e'
 rw[d]at d'
 injection d' with d1 _
 have:its=its':=by simpa using congrArg Array.toList d1
 subst this
 exact r.inj r'
end
abbrev Cx.wish(X:Cx)(E:Value->yab->Prop):Cx:={X with xe:=E}
abbrev Cx.nox(X:Cx):Cx:=X.wish λ_ _=>False
theorem Cx.Ok.wish {X:Cx} (ok:X.Ok) (E:Value->yab->Prop):(X.wish E).Ok :=
 ⟨ok.mod,ok.kind,ok.glob,ok.blt,ok.above,ok.inj,ok.has,ok.cab,ok.hd,ok.frames,ok.stk,ok.exf,ok.bs,ok.bsz,ok.noex,ok.exfs,ok.funs,ok.frf⟩
theorem Cx.Ok.unwish {X:Cx} {E:Value->yab->Prop} (ok:(X.wish E).Ok):X.Ok :=
 ⟨ok.mod,ok.kind,ok.glob,ok.blt,ok.above,ok.inj,ok.has,ok.cab,ok.hd,ok.frames,ok.stk,ok.exf,ok.bs,ok.bsz,ok.noex,ok.exfs,ok.funs,ok.frf⟩
section
variable{X:Cx}{pins:List (Addr×Obj)}{σ:St}{H:Hp}{s:yab}{E:Value->yab->Prop}
theorem Inv.wish(I:Inv X pins σ H s)(E:Value->yab->Prop):Inv (X.wish E) pins σ H s:=⟨I.ok.wish E,I.os,I.bare,I.base,I.loc,I.cell,I.free,I.freeC,I.pin,I.hok,I.len⟩
theorem Inv.unwish(I:Inv (X.wish E) pins σ H s):Inv X pins σ H s:=⟨I.ok.unwish,I.os,I.bare,I.base,I.loc,I.cell,I.free,I.freeC,I.pin,I.hok,I.len⟩
theorem SP.unwish {D:qe6} {f:Flow} {s':yab} (h:SP (X.wish E) pins D f s'):SP X pins D f s':=by
 cases f with
 |next=>obtain⟨σ',H',I,q⟩:=h;exact⟨σ',H',I.unwish,q⟩
 |brk=>obtain⟨σ',H',I,q⟩:=h;exact⟨σ',H',I.unwish,q⟩
 |cont=>obtain⟨σ',H',I,q⟩:=h;exact⟨σ',H',I.unwish,q⟩
 |ret u=>obtain⟨v,σ',H',I,r,q⟩:=h;exact⟨v,σ',H',I.unwish,r,q⟩
theorem PE.nox {e:Expr} {t:TE} (h:PE X.nox e t):PE X e t:=λpins s σ H Q I hw=>
 ya8 (h pins s σ H Q (I.wish _) hw) (λ_ _ ⟨v,H',I',r,q⟩=>⟨v,H',I'.unwish,r,q⟩) λ_ _ z=>yaV z
theorem PT.nox {e:Expr} {t:TT} (h:PT X.nox e t):PT X e t:=λpins s σ H Q I hw=>
 ya8 (h pins s σ H Q (I.wish _) hw) (λ_ _ ⟨H',I',q⟩=>⟨H',I'.unwish,q⟩) λ_ _ z=>yaV z
theorem PSs.nox {st:List Stmt} {t:TS} (h:PSs X.nox st t):PSs X st t:=λpins s σ H D I hw=>
 ya8 (h pins s σ H D (I.wish _) hw) (λ_ _ q=>q.unwish) λ_ _ z=>yaV z
end
section
variable{X:Cx}{st:Stmt}{wZ:List Stmt}{t u:TS}{e:Expr}{te:TE}{pos:Pos}
def qmx:TS:=λD σ H=>D.nx σ H
def qnY(t u:TS):TS:=λD σ H=>t {D with nx:=u D} σ H
theorem qiP:PSs X [] qmx:=λ_ _ σ H _ I h=>yc3 ⟨σ,H,I,h⟩
theorem qbr (h1:PS X st t) (h2:PSs X wZ u):PSs X (st::wZ) (qnY t u):=by
 intro pins s σ H D I h
 refine wpAny_execs_cons (thn (h1 pins s σ H {D with nx:=u D} I h) λf s1 q=>?_)
 cases f with
 |next=>
  obtain⟨σ',H',I',q⟩:=q
  exact h2 pins s1 σ' H' D I' q
 |ret v=>exact q
 |brk=>exact q
 |cont=>exact q
theorem qe8 (h1:PS X st t):PSs X [st] t:=by
 intro pins s σ H D I h
 refine wpAny_execs_cons (thn (h1 pins s σ H D I h) λf s1 q=>?_)
 cases f with
 |next=>exact yc3 q
 |ret v=>exact q
 |brk=>exact q
 |cont=>exact q
theorem Inv.quiet{pins:List (Addr×Obj)}{σ:St}{H:Hp}{s:yab}(I:Inv X pins σ H s):interactive X.env=false:=by simp[interactive,I.ok.kind]
def qmy(te:TE):TS:=λD σ H=>te σ H λ_ H1=>D.nx σ H1
theorem qiQ (he:PE X e te) (hs:ycY e none pos.line X.env=pure false:=by rfl):PS X (.Expr e pos) (qmy te):=by
 intro pins s σ H D I h
 exact wpAny_Expr_any (thn (he pins s σ H _ I h) λv s1 ⟨x,H1,I1,r1,q1⟩=>⟨σ,H1,I1,q1⟩) I.quiet hs
def qnZ(te:TE):TS:=λD σ H=>te σ H D.rt
theorem qe9 (he:PE X e te):PS X (.Return (some e) pos) (qnZ te):=by
 intro pins s σ H D I h
 exact wpAny_Return_some (thn (he pins s σ H _ I h) λv s1 ⟨x,H1,I1,r1,q1⟩=>⟨x,σ,H1,I1,r1,q1⟩)
def qn0(c:TT)(t u:TS):TS:=λD σ H=>c σ H λb H1=>if b=true then t D σ H1 else u D σ H1
theorem qmz {c:Expr} {a b:List Stmt} {tc:TT} (hc:PT X c tc) (ha:PSs X a t) (hb:PSs X b u):PS X (.If c a b pos) (qn0 tc t u):=by
 intro pins s σ H D I h
 refine wpAny_If (thn (hc pins s σ H _ I h) λd s1 ⟨H1,I1,q1⟩=>?_)
 cases d with
 |true=>exact ha pins s1 σ H1 D I1 q1
 |false=>exact hb pins s1 σ H1 D I1 q1
end
abbrev TG:=V->St->Hp->(St->Hp->Prop)->Prop
abbrev TGs:=List V->St->Hp->(St->Hp->Prop)->Prop
def PG (X:Cx) (target:Expr) (t:TG):Prop :=
 ∀ (pins:List (Addr×Obj)) (s:yab) (σ:St) (H:Hp) (v:V) (u:Value) (Q:St->Hp->Prop),Inv X pins σ H s->jO v u->t v σ H Q ->
  wpAny (model X.prog X.w) X.A (ych target X.env u) (λ_ s'=>∃σ' H',Inv X pins σ' H' s'/\Q σ' H') X.xe s
def PGs (X:Cx) (ts:List Expr) (t:TGs):Prop :=
 ∀ (pins:List (Addr×Obj)) (s:yab) (σ:St) (H:Hp) (vs:List V) (us:List Value) (Q:St->Hp->Prop),Inv X pins σ H s->ze vs us->t vs σ H Q ->
  wpAny (model X.prog X.w) X.A (yeQ ((ybs ts X.env).map (·.2)) us) (λ_ s'=>∃σ' H',Inv X pins σ' H' s'/\Q σ' H') X.xe s
abbrev qmA:=V->V->V->Hp->(Hp->Prop)->Prop
def qni (X:Cx) (t:qmA):Prop :=
 ∀ (pins:List (Addr×Obj)) (s:yab) (σ:St) (H:Hp) (o i v:V) (ov iv u:Value) (Q:Hp->Prop),Inv X pins σ H s->jO o ov->jO i iv->jO v u->t o i v H Q ->
  wpAny (model X.prog X.w) X.A (setItem ov iv u) (λ_ s'=>∃H',Inv X pins σ H' s'/\Q H') X.xe s
section
variable{X:Cx}{pos:Pos}
def qkF(i:Nat):TG:=λv σ H Q=>Q (σ.set i (some v)) H
theorem qiR {i:Nat} {x:Str} (hN:X.N.Nodup) (hi:X.N[i]? = some x) (hx:Loc X.env.scope x) (hf:X.fn x=true\/X.env.scope.names.lookup x=some .local:=by first|exact .inl rfl|exact .inr rfl|assumption):PG X (.Name x pos) (qkF i):=by
 intro pins s σ H v u Q I r h
 exact yfj (vL I hN hi hx r (λs' I'=>⟨_,H,I',h⟩) hf)
def qn1:TGs:=λvs σ H Q=>vs=[]/\Q σ H
def qmB(t:TG)(u:TGs):TGs:=λvs σ H Q=>∃v r,vs=v::r/\t v σ H λσ' H'=>u r σ' H' Q
theorem qiS:PGs X [] qn1:=by
 intro pins s σ H vs us Q I r h
 obtain⟨e,h⟩:=h
 subst e
 cases r
 exact yfk ⟨σ,H,I,h⟩
theorem qgY {e:Expr} {es:List Expr} {t:TG} {u:TGs} (h1:PG X e t) (h2:PGs X es u)
  (hs:(ybs (e::es) X.env).map (·.2)=ych e X.env::(ybs es X.env).map (·.2):=by rfl):PGs X (e::es) (qmB t u):=by
 intro pins s σ H vs us Q I r h
 obtain⟨v,vr,e1,h⟩:=h
 subst e1
 cases r with
 |cons r rr=>
  rw[hs]
  refine ydn (thn (h1 pins s σ H _ _ _ I r h) λ_ s1 ⟨σ1,H1,I1,q1⟩=>?_)
  exact h2 pins s1 σ1 H1 _ _ Q I1 rr q1
def qn2(K:yai)(n:Nat)(t:TGs):TG:=λv σ H Q=>∃a xs,v=.ref a/\SqT K H a xs/\xs.length=n/\t xs σ H Q
theorem qkG {es:List Expr} {k:Nat} {t:TGs} {n:Nat} (hc:X.calm=true) (h:PGs X es t)
  (hn:(ybs es X.env).length=n:=by rfl) (hst:(ybs es X.env).findIdx? (·.1)=none:=by rfl):PG X (.Tuple es k pos) (qn2 X.K n t):=by
 intro pins s σ H v u Q I r hw
 obtain⟨a,xs,e1,hq,hl,hw⟩:=hw
 subst e1
 cases r
 obtain⟨its,rv,ht,hz⟩:=I.tuple hq
 refine assign_Tuple_tuple (I.ok.hd hc) ht (by simp[hn,<-hl,rv.length]) hst λh' hx=>?_
 have I1:Inv X pins σ H {s with heap:=h' }:=I.kept (t':=s.toks) λb o e=>hx b o (yat (yad e)) e
 exact h pins _ σ H xs _ Q I1 (by simpa using rv) hw
def qn3(to ti:TE)(t:qmA):TG:=λv σ H Q=>to σ H λo H1=>ti σ H1 λi H2=>t o i v H2 λH3=>Q σ H3
theorem qkH {o i:Expr} {to ti:TE} {t:qmA} (ho:PE X o to) (hi:PE X i ti) (hs:qni X t)
  (ha:∀v,ych (.Subscript o i pos) X.env v=(do
   let ov <-ydg [v] (eval o X.env)
   let iv <-ydg [v,ov] (eval i X.env)
   standAt pos
   ydg [v,ov,iv] (setItem ov iv v)
   release [v,ov,iv] []):=by intro _;rfl):PG X (.Subscript o i pos) (qn3 to ti t):=by
 intro pins s σ H v u Q I r h
 rw[ha]
 refine yaa (yba (thn (ho pins s σ H _ I h) λov s1 ⟨x,H1,I1,r1,q1⟩=>?_))
 refine yaa (yba (thn (hi pins s1 σ H1 _ I1 q1) λiv s2 ⟨y,H2,I2,r2,q2⟩=>?_))
 refine yaa (ycM (yaa (yba (thn (hs pins s2 σ H2 x y v ov iv u _ I2 r1 r2 r q2) λ_ s3 ⟨H3,I3,q3⟩=>?_))))
 exact wpAny_release ⟨σ,H3,I3,q3⟩
def qnj(te:TE)(g:TG):TS:=λD σ H=>te σ H λx H1=>g x σ H1 D.nx
theorem qhT {tg e:Expr} {te:TE} {g:TG} (he:PE X e te) (hg:PG X tg g) (hs:ycN [tg] e pos.line X.env=pure false:=by rfl) (hw:ycO [tg] e X.env=pure none:=by rfl)
  (h1:(ybs [tg] X.env).map (·.2)=[ych tg X.env]:=by rfl):PS X (.Assign [tg] e pos) (qnj te g):=by
 intro pins s σ H D I h
 refine wpAny_Assign_stores (thn (he pins s σ H _ I h) λv s1 ⟨x,H1,I1,r1,q1⟩=>?_) hs hw
 rw[h1]
 exact thn (hg pins s1 σ H1 x v _ I1 r1 q1) λ_ s2 q=>q
theorem qhU {i:Nat} {x:Str} {e:Expr} {te:TE} {pos':Pos} (hN:X.N.Nodup) (hi:X.N[i]? = some x) (hx:Loc X.env.scope x) (he:PE X e te) (hs:ycY e (some (.Name x pos')) pos.line X.env=pure false:=by rfl) (hf:X.fn x=true\/X.env.scope.names.lookup x=some .local:=by first|exact .inl rfl|exact .inr rfl|assumption) :
  PS X (.Assign [.Name x pos'] e pos) (qnj te (qkF i)):=by
 intro pins s σ H D I h
 refine wpAny_Assign_Name (thn (he pins s σ H _ I h) λv s1 ⟨y,H1,I1,r1,q1⟩=>?_) hs
 exact vL I1 hN hi hx r1 (λs2 I2=>⟨_,H1,I2,q1⟩) hf
def qn4(i j:Nat)(ta:TA):TS:=λD σ H=>ta σ H λvs H1=>∃v w,vs=[v,w]/\D.nx ((σ.set i (some v)).set j (some w)) H1
theorem qkI {i j:Nat} {x y:Str} {a b:Expr} {ta:TA} {px py pt:Pos} {kt k2 pt2} (hc:X.calm=true) (hN:X.N.Nodup) (hi:X.N[i]? = some x) (hj:X.N[j]? = some y) (hij:i≠j)
  (hx:X.env.scope.names.lookup x=some .local) (hy:X.env.scope.names.lookup y=some .local) (ha:PA X [a,b] ta)
  (hw:ycO [.Tuple [.Name x px,.Name y py] kt pt] (.Tuple [a,b] k2 pt2) X.env=pure (some [x,y]))
  (hs:ycN [.Tuple [.Name x px,.Name y py] kt pt] (.Tuple [a,b] k2 pt2) pos.line X.env=pure false:=by rfl) :
  PS X (.Assign [.Tuple [.Name x px,.Name y py] kt pt] (.Tuple [a,b] k2 pt2) pos) (qn4 i j ta):=by
 intro pins s σ H D I h
 rw[exec_Assign_arm]
 refine yaa (ycM ?_)
 rw[hs]
 refine yaa (yac ?_)
 rw[if_neg (by decide)]
 refine yaa (Tuple_ (thn (ha _ pins s σ H _ I h) λus s1 ⟨vs,H1,I1,r1,q1⟩=>?_))
 obtain⟨v,w,e1,q1⟩:=q1
 subst e1
 obtain ⟨u1,u2,rfl,rv,rw'⟩:∃u1 u2,us=[u1,u2]/\jO v u1/\jO w u2:=by
  cases r1 with
  | cons p q=>
   cases q with
   |cons p' q'=>
    cases q'
    exact⟨_,_,rfl,p,p'⟩
 refine yaJ ?_ (by show 2<=yam;decide)
 have I2:Inv X pins σ H1 {s1 with heap:=s1.heap.push {cls:=.type "tuple",data:=.seq [u1,u2].toArray} }:=I1.kept (t':=s1.toks) λb o e=>Heap.get?_push_of_some _ e
 rw[hw]
 refine yaa (yac ?_)
 show wpAny (model X.prog X.w) X.A (do rule "assign.swapped-stores";let items <-unpackItems (.ref s1.heap.objs.size) 2 none;yeQ [λv=>yfD X.env y v,λv=>yfD X.env x v] items.reverse;pure Flow.next) _ _ _
 refine yaa (yc4 (yaa (unpackItems_tuple (items := #[u1,u2]) (I.ok.hd hc) (ycZ s1.heap _) λh' hx'=>?_)))
 have I3:=I2.kept (h':=h') (t':=s1.toks) λb o e=>hx' b o (yat (yad e)) e
 show wpAny _ _ (yeQ [λv=>yfD X.env y v,λv=>yfD X.env x v] [u2,u1] >>= λ_=>pure Flow.next) _ _ _
 refine yaa (ydn (wpAny_bindName (vL I3 hN hj (.inl hy) rw' (λs2 I4=>?_) (.inr hy))))
 refine ydn (wpAny_bindName (vL I4 hN hi (.inl hx) rv (λs3 I5=>yfk (yac ?_)) (.inr hx)))
 rw[List.set_comm _ _ (yaX hij)]at I5
 exact⟨_,H1,I5,q1⟩
end
section
variable{X:Cx}{pos:Pos}
end
structure It where
 go:Nat->Hp->Prop
 yld:Nat->Hp->V->Hp->Prop
 stop:Nat->Hp->Prop
def qcV (X:Cx) (pins:List (Addr×Obj)) (H:Hp) (b:Addr):Prop :=
 H b=none/\b≠X.env.locals/\b ∉ X.fs/\(b∈X.ex\/X.s₀.heap.objs.size<=b)/\(∀x c,X.env.cells.lookup x=some c->c≠b)/\∀p∈X.pn++pins,p.1≠b
theorem Inv.fpOk {X:Cx} {pins:List (Addr×Obj)} {σ:St} {H H':Hp} {s:yab} {b:Addr} (I:Inv X pins σ H s) (hb:s.heap.objs.size<=b) (hn:H' b=none):qcV X pins H' b:=by
 refine⟨hn,yb8 (yaw I.lt hb),I.nofs hb,.inr (yaF I.sz hb),λx c e z=>?_,λp hp z=>?_⟩
 ·obtain⟨v,q⟩:=I.cell x c e
  exact absurd (yaw q.lt (by rw[z];exact hb)) (ybB _)
 ·exact absurd (yaw (yad (I.pin p hp).1) (by rw[z];exact hb)) (ybB _)
structure qkm (P:yao) (w:World) (K:yai) (tg:Expr) (J:It) (fp:List Addr) (it:Addr) (tn:Nat->Heap->Prop):Prop where
 mem:it∈fp
 obj:∀i h,tn i h->∀b∈fp,∃o,h.get? b=some o/\∀v,o.data ≠ .cell v
 keep:∀i h h',tn i h->(∀b∈fp,∀o,h.get? b=some o->h'.get? b=some o)->tn i h'
 item:∀(X:Cx),X.prog=P->X.w=w->X.K=K->X.calm=true->∀(i:Nat)(pins:List (Addr×Obj))(s:yab)(σ:St)(H:Hp)(E:Value->yab->Prop),Inv X pins σ H s->(∀b∈fp,qcV X pins H b)->tn i s.heap->J.go i H ->
  wpAny (model P w) X.A (yci (.ref it)) (λr s1=>∃u,r=some u /\
   wpAny (model P w) X.A (ycp tg (.ref it) u) (λ_ s2=>∃x H',Inv X pins σ H' s2/\jO x u/\J.yld i H x H'/\tn (i+1) s2.heap/\∀b∈fp,H' b=none) E s1) E s
 done:∀(X:Cx),X.prog=P->X.w=w->X.K=K->X.calm=true->∀(i:Nat)(pins:List (Addr×Obj))(s:yab)(σ:St)(H:Hp)(E:Value->yab->Prop),Inv X pins σ H s->(∀b∈fp,qcV X pins H b)->tn i s.heap->J.stop i H ->
  wpAny (model P w) X.A (yci (.ref it)) (λr s1=>r=none/\Inv X pins σ H s1) E s
 self:∀(A:yau)(i:Nat)(s:yab)(Q:Value->yab->Prop)(E:Value->yab->Prop),tn i s.heap->Q (.ref it) s->wpAny (model P w) A (pyIter (.ref it)) Q E s
abbrev TI:=St->Hp->(It->Hp->Prop)->Prop
def PIE (X:Cx) (pins:List (Addr×Obj)) (σ:St) (tg:Expr) (R:It->Hp->Prop) (itv:Value) (s2:yab):Prop :=
 ∃(it:Addr)(fp:List Addr)(tn:Nat->Heap->Prop)(J:It)(H':Hp),itv=.ref it/\Inv X pins σ H' s2/\qkm X.prog X.w X.K tg J fp it tn/\tn 0 s2.heap/\(∀b∈fp,qcV X pins H' b)/\R J H'
def PI (X:Cx) (tg iter:Expr) (wi:TI):Prop :=
 ∀ (pins:List (Addr×Obj)) (s:yab) (σ:St) (H:Hp) (R:It->Hp->Prop),Inv X pins σ H s->wi σ H R ->
  wpAny (model X.prog X.w) X.A (eval iter X.env) (λv s1=>wpAny (model X.prog X.w) X.A (pyIter v) (PIE X pins σ tg R) X.xe s1) X.xe s
theorem qiT {M:Model} {A:yau} {E:Value->yab->Prop} {s:yab} {tg:Expr} {it:Addr} {u:Value} {o:Obj} {n:String} {vs:Array Value} {Q:Unit->yab->Prop} (ho:s.heap.get? it=some o) (hc:o.cls=.type n) (hd:o.data=.fields vs)
  (hn:["enumerate","zip","dict_itemiterator","dict_reverseitemiterator","odict_iterator","itertools.zip_longest","itertools.pairwise"].contains n=false) (hQ:Q () s):wpAny M A (ycp tg (.ref it) u) Q E s:=by
 unfold ycp
 cases tg<;>first
  |exact yac hQ
  | (cases u<;>first
    |exact yac hQ
    | (refine yaa (wpAny_load ho ?_)
       rw[hc,hd]
       show wpAny M A (if(["enumerate","zip","dict_itemiterator","dict_reverseitemiterator","odict_iterator","itertools.zip_longest","itertools.pairwise"].contains n&&vs[0]? == some (ybG _))=true then _ else _) Q E s
       rw[if_neg (by intro h;rw[hn,ybD]at h;cases h)]
       exact yac hQ))
def Itl (K:yai) (a:Addr):It :=
 ⟨λi H=>∃xs x,SqL K H a xs/\xs[i]? = some x,λi H x H'=>H'=H/\∀xs,SqL K H a xs->xs[i]? = some x,λi H=>∃xs,SqL K H a xs/\xs.length<=i⟩
def Itt (K:yai) (a:Addr):It :=
 ⟨λi H=>∃xs x,SqT K H a xs/\xs[i]? = some x,λi H x H'=>H'=H/\∀xs,SqT K H a xs->xs[i]? = some x,λi H=>∃xs,SqT K H a xs/\xs.length<=i⟩
def Itr(lo:Int)(n:Nat):It:=⟨λi _=>i<n,λi H x H'=>H'=H/\x=.int (lo+i),λi _=>n<=i⟩
theorem qfa {P:yao} {w:World} {K:yai} {tg:Expr} (a it:Addr):qkm P w K tg (Itl K a) [it] it (λi h=>h.IsListIter it a i) where
 mem:=by simp
 obj:=λi h st b hb=>by
  have e:b=it:=by simpa using hb
  subst e
  obtain⟨o,e,c,d⟩:=st
  exact⟨o,e,λv z=>by rw[d]at z;cases z⟩
 keep:=λi h h' st k=>st.at λo e=>k it (by simp) o e
 item:=by
  intro X hP hw hK hc i pins s σ H E I hf st hg
  subst hP hw hK
  obtain⟨xs,x,hq,hx⟩:=hg
  obtain⟨its,rv,p,hz⟩:=I.list hq
  obtain⟨u,hu,ru⟩:=rv.get hx
  obtain⟨f0,f1,f2,f3,f4,f5⟩:=hf it (by simp)
  refine wpAny_pyNext_list_item st p.isList (x:=u) (by simpa using hu) λh' st' sb=>?_
  have I1:Inv X pins σ H {s with heap:=h' }:=I.turned (t':=s.toks) (λb o hb e=>(sb.2 b hb).trans e) f0 f1 f3 f4 f5
  obtain⟨o,e,c,d⟩:=id st'
  exact⟨u,rfl,qiT (s:={s with heap:=h' }) e c d (by decide) ⟨x,H,I1,ru,⟨rfl,λys hy=>by rw[I.list_inj hy hq];exact hx⟩,st',λb hb=>(hf b hb).1⟩⟩
 done:=by
  intro X hP hw hK hc i pins s σ H E I hf st hg
  subst hP hw hK
  obtain⟨xs,hq,hx⟩:=hg
  obtain⟨its,rv,p,hz⟩:=I.list hq
  obtain⟨f0,f1,f2,f3,f4,f5⟩:=hf it (by simp)
  have hl:=rv.length
  exact wpAny_pyNext_list_end (I.ok.hd hc) st p.isList (by simp;omega) λh' eb=>⟨rfl,I.turned (t':=s.toks) (λb o hb e=>eb b o hb e) f0 f1 f3 f4 f5⟩
 self:=λ_ _ _ _ _ st h=>wpAny_pyIter_listiter st h
theorem qes {P:yao} {w:World} {K:yai} {tg:Expr} (a it:Addr):qkm P w K tg (Itt K a) [it] it (λi h=>h.IsTupleIter it a i) where
 mem:=by simp
 obj:=λi h st b hb=>by
  have e:b=it:=by simpa using hb
  subst e
  obtain⟨o,e,c,d⟩:=st
  exact⟨o,e,λv z=>by rw[d]at z;cases z⟩
 keep:=λi h h' st k=>st.at λo e=>k it (by simp) o e
 item:=by
  intro X hP hw hK hc i pins s σ H E I hf st hg
  subst hP hw hK
  obtain⟨xs,x,hq,hx⟩:=hg
  obtain⟨its,rv,p,hz⟩:=I.tuple hq
  obtain⟨u,hu,ru⟩:=rv.get hx
  obtain⟨f0,f1,f2,f3,f4,f5⟩:=hf it (by simp)
  refine wpAny_pyNext_tuple_item st (show s.heap.IsTuple a its.toArray from p) (x:=u) (by simpa using hu) λh' st' sb=>?_
  have I1:Inv X pins σ H {s with heap:=h' }:=I.turned (t':=s.toks) (λb o hb e=>(sb.2 b hb).trans e) f0 f1 f3 f4 f5
  obtain⟨o,e,c,d⟩:=id st'
  exact⟨u,rfl,qiT (s:={s with heap:=h' }) e c d (by decide) ⟨x,H,I1,ru,⟨rfl,λys hy=>by rw[I.tuple_inj hy hq];exact hx⟩,st',λb hb=>(hf b hb).1⟩⟩
 done:=by
  intro X hP hw hK hc i pins s σ H E I hf st hg
  subst hP hw hK
  obtain⟨xs,hq,hx⟩:=hg
  obtain⟨its,rv,p,hz⟩:=I.tuple hq
  obtain⟨f0,f1,f2,f3,f4,f5⟩:=hf it (by simp)
  have hl:=rv.length
  exact wpAny_pyNext_tuple_end (I.ok.hd hc) st (show s.heap.IsTuple a its.toArray from p) (by simp;omega) λh' eb=>⟨rfl,I.turned (t':=s.toks) (λb o hb e=>eb b o hb e) f0 f1 f3 f4 f5⟩
 self:=λ_ _ _ _ _ st h=>wpAny_pyIter_tupleiter st h
theorem qet {P:yao} {w:World} {K:yai} {tg:Expr} (it:Addr) (lo:Int) (n:Nat):qkm P w K tg (Itr lo n) [it] it (λi h=>IsRangeIter h it (lo+(i:Nat)*1) ((n:Int)-(i:Nat)) 1) where
 mem:=by simp
 obj:=λi h st b hb=>by
  have e:b=it:=by simpa using hb
  subst e
  exact ⟨_,st,λv z=>by
   have z':yen _=yea v:=z
   cases z'⟩
 keep:=λi h h' st k=>k it (by simp) _ st
 item:=by
  intro X hP hw hK hc i pins s σ H E I hf st hg
  subst hP hw hK
  obtain⟨f0,f1,f2,f3,f4,f5⟩:=hf it (by simp)
  have W:=Walks.range (prog:=X.prog) (w:=X.w) (I.ok.hd hc) it lo 1 n
  refine W.item i s _ _ hg st λv h' tk hv st' kk=>?_
  obtain⟨t,rfl⟩:=hv
  have I1:Inv X pins σ H {s with heap:=h',toks:=tk}:=I.turned (λb o hb e=>kk b o (by simpa using hb) e) f0 f1 f3 f4 f5
  refine⟨_,rfl,qiT (s:={s with heap:=h',toks:=tk}) (n:="range_iterator") st' rfl rfl (by decide) ⟨.int (lo+i),H,I1,⟨t,?_⟩,⟨rfl,rfl⟩,st',λb hb=>(hf b hb).1⟩⟩
  rw[Int.mul_one]
 done:=by
  intro X hP hw hK hc i pins s σ H E I hf st hg
  subst hP hw hK
  obtain⟨f0,f1,f2,f3,f4,f5⟩:=hf it (by simp)
  exact wpAny_pyNext_range_end (I.ok.hd hc) st (by have:n<=i:=hg;omega) λh' eb=>⟨rfl,I.turned (t':=s.toks) (λb o hb e=>eb b o hb e) f0 f1 f3 f4 f5⟩
 self:=λ_ _ _ _ _ st h=>wpAny_pyIter_rangeiter st h
end L2
namespace L2
open PySem PySem.Spec PyProof.Rows
section
variable{X:Cx}{tg:Expr}
theorem qgZ {pins:List (Addr×Obj)} {σ:St} {H:Hp} {s:yab} {R:It->Hp->Prop} {E:Value->yab->Prop} {lo hi:Int} {t u v:Tok} {tk:Nat} (I:Inv X pins σ H s) (h1 : -(2 ^ 62)<=lo) (h2:lo<2 ^ 62) (h3 : -(2 ^ 62)<=hi) (h4:hi<2 ^ 62)
  (q:R (Itr lo (hi-lo).toNat) H):wpAny (model X.prog X.w) X.A (pyIter (.ref s.heap.objs.size)) (PIE X pins σ tg R) E {s with heap:=s.heap.push {cls:=.type "range",data:=.fields #[.int lo t,.int hi u,.int 1 v]},toks:=tk}:=by
 refine wpAny_pyIter_range (IsRange.new ..) (small_one h1 h2 h3 h4) ?_
 have I1:Inv X pins σ H {s with heap:=s.heap.push {cls:=.type "range",data:=.fields #[.int lo t,.int hi u,.int 1 v]},toks:=tk}:=I.kept λb o e=>Heap.get?_push_of_some _ e
 refine ⟨(s.heap.push {cls:=.type "range",data:=.fields #[.int lo t,.int hi u,.int 1 v]}).objs.size,[(s.heap.push {cls:=.type "range",data:=.fields #[.int lo t,.int hi u,.int 1 v]}).objs.size],_,_,H,rfl,
  I1.kept (t':=tk) λb o e=>Heap.get?_push_of_some _ e,qet _ lo (hi-lo).toNat,?_,λb hb=>?_,q⟩
 ·have e1:lo+((0:Nat):Int)*1=lo:=by simp
  have e2:(((hi-lo).toNat:Nat):Int)-((0:Nat):Int)=Builtin.Range.rangeSize lo hi 1:=by rw[rangeSize_one];split<;>omega
  show IsRangeIter _ _ (lo+((0:Nat):Int)*1) ((((hi-lo).toNat:Nat):Int)-((0:Nat):Int)) 1
  rw[e1,e2]
  exact Heap.get?_push_size _ rfl
 ·have e:b=(s.heap.push {cls:=.type "range",data:=.fields #[.int lo t,.int hi u,.int 1 v]}).objs.size:=by simpa using hb
  subst e
  exact I1.fpOk (yah _) (I1.hok.fresh (yah _))
def qmC(ta:TA):TI:=λσ H R=>ta σ H λvs H1=>∃j:Int,vs=[.int j] /\ -(2 ^ 62)<=j/\j<2 ^ 62/\R (Itr 0 j.toNat) H1
theorem qfb {a:Expr} {ta:TA} {p pos:Pos} (hg:Gl X "range") (hm:X.mg "range"=none) (ha:PA X [a] ta) (hs:yae [a] X.env=[(false,eval a X.env)]:=by rfl):PI X tg (.Call (.Name "range" p) [a] [] pos) (qmC ta):=by
 intro pins s σ H R I h
 refine Call_ (qaY I hg hm boot_range (ybH (thn (ha pos pins s σ H _ I h) λus s1 ⟨vs,H1,I1,r1,q1⟩=>?_) hs rfl))
 obtain⟨j,e,q1,q2,q⟩:=q1
 subst e
 cases r1 with
 |cons r rr=>
  cases rr
  obtain⟨t,rfl⟩:=r
  exact call_range_1 (qgZ I1 (by omega) (by omega) q1 q2 (by simpa using q))
def qn5 (wi:TI) (g:TG) (tb:TS):TS:=λD σ H=>wi σ H λJ H1=>∃W:Nat->Nat->St->Hp->Prop,(∃m,W 0 m σ H1)/\∀i m σ H,W i m σ H ->
 (J.stop i H/\D.nx σ H)\/(J.go i H/\∃N:St->Hp->Prop,(∀σ' H',N σ' H'->∃m',m'<m/\W (i+1) m' σ' H')/\∀x H',J.yld i H x H'->g x σ H' λσ2 H2=>tb {D with nx:=N,ct:=N,bk:=D.nx} σ2 H2)
def qaZ(fp:List Addr)(h:Heap):List (Addr×Obj):=fp.filterMap λb=>(h.get? b).map λo=>(b,o)
theorem yy{fp:List Addr}{h:Heap}{b:Addr}{o:Obj}(hb:b∈fp)(e:h.get? b=some o):(b,o)∈qaZ fp h:=List.mem_filterMap.mpr ⟨b,hb,by rw[e];rfl⟩
theorem qfc {fp:List Addr} {h:Heap} {p:Addr×Obj} (hp:p∈qaZ fp h):p.1∈fp/\h.get? p.1=some p.2:=by
 obtain⟨b,hb,e⟩:=List.mem_filterMap.mp hp
 cases q:h.get? b with
 |none=>rw[q]at e;cases e
 |some o=>
  rw[q]at e
  have e':(b,o)=p:=yaI e
  subst e'
  exact⟨hb,q⟩
theorem Inv.pinned {pins:List (Addr×Obj)} {σ:St} {H:Hp} {s:yab} {fp:List Addr} (I:Inv X pins σ H s) (hf:∀b∈fp,qcV X pins H b) (ho:∀b∈fp,∃o,s.heap.get? b=some o/\∀v,o.data ≠ .cell v):Inv X (pins++qaZ fp s.heap) σ H s :=
 I.pins_of λp hp=>(mA_.mp hp).elim (λz=>I.pin p (mr_ _ z)) λz=>by
  obtain⟨hb,e⟩:=qfc z
  obtain⟨f0,f1,f2,_⟩:=hf p.1 hb
  obtain⟨o,e',d⟩:=ho p.1 hb
  rw[e]at e';cases e'
  exact⟨e,f0,f1,f2,d⟩
theorem Inv.unpinned{pins pl:List (Addr×Obj)}{σ:St}{H:Hp}{s:yab}(I:Inv X (pins++pl) σ H s):Inv X pins σ H s:=I.pins_of λp hp=>I.pin p (mr_ _ (ycd _ hp))
theorem qkJ {iter:Expr} {body:List Stmt} {wi:TI} {g:TG} {tb:TS} {pos:Pos} (hp:PassesOwn (model X.prog X.w) X.A X.env X.xe) (hc:X.calm=true) (hi:PI X tg iter wi) (hg:PG X tg g) (hb:PSs X body tb)
  (hs:∀x,ybR iter X.env x=pure x:=by intro _;rfl):PS X (.For tg iter body [] pos) (qn5 wi g tb):=by
 intro pins s σ H D I h
 refine wpAny_For (thn (hi pins s σ H _ I h) λv s1 h1=>thn h1 λitv s2 h2=>?_) hs
 obtain⟨it,fp,tn,J,H2,e,I2,T,st2,f2,W,⟨m0,w0⟩,turn⟩:=h2
 subst e
 have stat:∀{H':Hp},(∀b∈fp,H' b=none)->∀b∈fp,qcV X pins H' b:=λhn b hb=>⟨hn b hb,(f2 b hb).2⟩
 refine codeAny_forLoop_any (λn s'=>∃i σ' H',Inv X pins σ' H' s'/\tn i s'.heap/\(∀b∈fp,H' b=none)/\W i n σ' H') ?_ m0 ⟨0,σ,H2,I2,st2,λb hb=>(f2 b hb).1,w0⟩
 rintro n s3 ⟨i,σ3,H3,I3,st3,fr3,w3⟩
 rcases turn i n σ3 H3 w3 with⟨stop,qn⟩|⟨go,N,hN,step⟩
 ·refine ycq hp (thn (T.done X rfl rfl rfl hc i pins s3 σ3 H3 X.xe I3 (stat fr3) st3 stop) λr s4 ⟨hr,I4⟩=>?_)
  subst hr
  exact yc3 ⟨σ3,H3,I4,qn⟩
 ·refine ycq hp (thn (T.item X rfl rfl rfl hc i pins s3 σ3 H3 X.xe I3 (stat fr3) st3 go) λr s4 ⟨u,hr,h4⟩=>?_)
  subst hr
  refine ycq hp (thn h4 λ_ s5 ⟨x,H5,I5,r5,y5,st5,fr5⟩=>?_)
  have I5':=I5.pinned (stat fr5) (T.obj _ _ st5)
  refine ycq hp (thn (hg _ s5 σ3 H5 x u _ I5' r5 (step x H5 y5)) λ_ s6 ⟨σ6,H6,I6,q6⟩=>?_)
  refine ycq hp (thn (hb _ s6 σ6 H6 _ I6 q6) λf s7 q7=>?_)
  have again:∀{σ7:St}{H7:Hp},Inv X (pins++qaZ fp s5.heap) σ7 H7 s7->N σ7 H7->∃m,m<n/\∃i σ' H',Inv X pins σ' H' s7/\tn i s7.heap/\(∀b∈fp,H' b=none)/\W i m σ' H':=λ{σ7 H7} I7 n7=>by
   obtain⟨m',hm,w7⟩:=hN σ7 H7 n7
   refine⟨m',hm,i+1,σ7,H7,I7.unpinned,T.keep _ _ _ st5 λb hb o e=>(I7.pin (b,o) (mr_ _ (mr_ _ (yy hb e)))).1,λb hb=>?_,w7⟩
   obtain⟨o,e,d⟩:=T.obj _ _ st5 b hb
   exact(I7.pin (b,o) (mr_ _ (mr_ _ (yy hb e)))).2.1
  cases f with
  |next=>obtain⟨σ7,H7,I7,n7⟩:=q7;exact again I7 n7
  |cont=>obtain⟨σ7,H7,I7,n7⟩:=q7;exact again I7 n7
  |brk=>obtain⟨σ7,H7,I7,q7⟩:=q7;exact⟨σ7,H7,I7.unpinned,q7⟩
  |ret v=>obtain⟨x7,σ7,H7,I7,r7,q7⟩:=q7;exact⟨x7,σ7,H7,I7.unpinned,r7,q7⟩
end
end L2
namespace L2
open PySem PySem.Spec PyProof.Rows
abbrev R2:=V->V->Hp->VK->Prop
def OpR (X:Cx) (f:Value->Value->Sem Value) (r:R2):Prop :=
 ∀ (pins:List (Addr×Obj)) (s:yab) (σ:St) (H:Hp) (x y:V) (v u:Value) (Q:VK),Inv X pins σ H s->jO x v->jO y u->r x y H Q ->
  wpAny (model X.prog X.w) X.A (f v u) (EP X pins σ Q) X.xe s
def UnR (X:Cx) (f:Value->Sem Value) (r:V->Hp->VK->Prop):Prop :=
 ∀ (pins:List (Addr×Obj)) (s:yab) (σ:St) (H:Hp) (x:V) (v:Value) (Q:VK),Inv X pins σ H s->jO x v->r x H Q ->
  wpAny (model X.prog X.w) X.A (f v) (EP X pins σ Q) X.xe s
def yr (X:Cx) (f:Value) (r:List V->Hp->VK->Prop):Prop :=
 ∀ (pins:List (Addr×Obj)) (s:yab) (σ:St) (H:Hp) (xs:List V) (us:List Value) (Q:VK),Inv X pins σ H s->ze xs us->r xs H Q ->
  wpAny (model X.prog X.w) X.A (call f us) (EP X pins σ Q) X.xe s
def tOp(r:R2)(ta tb:TE):TE:=λσ H Q=>ta σ H λx H1=>tb σ H1 λy H2=>r x y H2 Q
def tUn(r:V->Hp->VK->Prop)(ta:TE):TE:=λσ H Q=>ta σ H λx H1=>r x H1 Q
def rI(C:Int->Int->Prop)(g:Int->Int->V):R2:=λx y H Q=>∃i j,x=.int i/\y=.int j/\C i j/\Q (g i j) H
def rI0(g:Int->Int->V):R2:=λx y H Q=>∃i j,x=.int i/\y=.int j/\Q (g i j) H
def rU(g:Int->V):V->Hp->VK->Prop:=λx H Q=>∃i,x=.int i/\Q (g i) H
section
variable{X:Cx}{a b c:Expr}{ta tb tc:TE}{pos:Pos}
theorem qmD (ha:PE X a ta) (hb:PE X b tb) {pins:List (Addr×Obj)} {s:yab} {σ:St} {H:Hp} {R:V->V->Hp->Prop} (I:Inv X pins σ H s)
  (h:ta σ H λx H1=>tb σ H1 λy H2=>R x y H2) {Q:Value->yab->Prop} {f:Value->Value->Sem Value}
  (hf:∀v u s2 x y H2,Inv X pins σ H2 s2->jO x v->jO y u->R x y H2->wpAny (model X.prog X.w) X.A (f v u) Q X.xe s2) :
  wpAny (model X.prog X.w) X.A (eval a X.env) (λv sY=>wpAny (model X.prog X.w) X.A (eval b X.env) (λu sQ=>wpAny (model X.prog X.w) X.A (f v u) Q X.xe sQ) X.xe sY) X.xe s:=by
 refine thn (ha pins s σ H _ I h) λv s1 ⟨x,H1,I1,r1,q1⟩=>?_
 refine thn (hb pins s1 σ H1 _ I1 q1) λu s2 ⟨y,H2,I2,r2,q2⟩=>?_
 exact hf v u s2 x y H2 I2 r1 r2 q2
theorem qmE {op:Operator} {r:R2} (ho:OpR X (ybe op) r) (ha:PE X a ta) (hb:PE X b tb):PE X (.BinOp a op b pos) (tOp r ta tb):=by
 intro pins s σ H Q I h
 exact wpAny_BinOp (qmD ha hb I h λv u s2 x y H2 I2 rx ry q=>ho pins s2 σ H2 x y v u Q I2 rx ry q)
theorem qmF {op:UnaryOp} {r:V->Hp->VK->Prop} (ho:UnR X (unaryOp op) r) (ha:PE X a ta):PE X (.UnaryOp op a pos) (tUn r ta):=by
 intro pins s σ H Q I h
 exact UnaryOp_ (thn (ha pins s σ H _ I h) λv s1 ⟨x,H1,I1,r1,q1⟩=>ho pins s1 σ H1 x v Q I1 r1 q1)
theorem opI {f:Value->Value->Sem Value} {C:Int->Int->Prop} {g:Int->Int->Int}
  (rule:∀(i j:Int)(t u:Tok)(s:yab)(Q:Value->yab->Prop)(E:Value->yab->Prop),C i j->Q (.int (g i j) s.toks) {s with toks:=s.toks+1}->wpAny (model X.prog X.w) X.A (f (.int i t) (.int j u)) Q E s) :
  OpR X f (rI C λi j => .int (g i j)):=by
 intro pins s σ H x y v u Q I rx ry h
 obtain⟨i,j,rfl,rfl,hc,q⟩:=h
 obtain⟨t,rfl⟩:=rx
 obtain⟨t',rfl⟩:=ry
 exact rule i j t t' s _ _ hc ⟨.int (g i j),H,I.tok _,⟨_,rfl⟩,q⟩
theorem qnk {f:Value->Value->Sem Value} {g:Int->Int->Int}
  (rule:∀(i j:Int)(t u:Tok)(s:yab)(Q:Value->yab->Prop)(E:Value->yab->Prop),Q (.int (g i j) s.toks) {s with toks:=s.toks+1}->wpAny (model X.prog X.w) X.A (f (.int i t) (.int j u)) Q E s) :
  OpR X f (rI0 λi j => .int (g i j)):=by
 intro pins s σ H x y v u Q I rx ry h
 obtain⟨i,j,rfl,rfl,q⟩:=h
 obtain⟨t,rfl⟩:=rx
 obtain⟨t',rfl⟩:=ry
 exact rule i j t t' s _ _ ⟨.int (g i j),H,I.tok _,⟨_,rfl⟩,q⟩
theorem qmG {f:Value->Value->Sem Value} {g:Int->Int->Bool}
  (rule:∀(i j:Int)(t u:Tok)(s:yab)(Q:Value->yab->Prop)(E:Value->yab->Prop),Q (.bool (g i j)) s->wpAny (model X.prog X.w) X.A (f (.int i t) (.int j u)) Q E s) :
  OpR X f (rI0 λi j => .bl (g i j)):=by
 intro pins s σ H x y v u Q I rx ry h
 obtain⟨i,j,rfl,rfl,q⟩:=h
 obtain⟨t,rfl⟩:=rx
 obtain⟨t',rfl⟩:=ry
 exact rule i j t t' s _ _ ⟨.bl (g i j),H,I,rfl,q⟩
def qkK(i j:Int):Prop:=0<j/\j<1606938044258990275541962092341162602522202993782792835301376
theorem qnl {i j:Int} (h1:0<j) (h2:j<1606938044258990275541962092341162602522202993782792835301376):Builtin.divisionGoesByPylong i j=false:=by
 refine PyProof.noPylong_of_log2 ?_
 have h0:j.natAbs≠0:=by omega
 have h3:j.natAbs<2 ^ 200:=by
   have:(2:Nat) ^ 200=1606938044258990275541962092341162602522202993782792835301376:=by decide +kernel
   omega
 have:=(Nat.log2_lt h0).mpr h3
 omega
def qnm(i j:Int):Prop:=0<=j/\j<=1000000/\i.natAbs<2 ^ 64
def qkL(i j:Int):Prop:=(-(2 ^ 64)<i/\i<2 ^ 64)\/(-(2 ^ 64)<j/\j<2 ^ 64)
theorem qkL.ok {i j:Int} (h:qkL i j):IntMulOk i j:=by
 rcases h with⟨h1,h2⟩|⟨h1,h2⟩
 ·exact .of_left (intBits_le_64 h1 h2)
 ·exact .of_right (intBits_le_64 h1 h2)
theorem qkM:OpR X (ybe .Add) (rI0 λi j => .int (i+j)):=qnk λ_ _ _ _ _ _ _ q=>add_int q
theorem qdG:OpR X (ybe .Sub) (rI0 λi j => .int (i-j)):=qnk λ_ _ _ _ _ _ _ q=>sub_int q
theorem qkN:OpR X (ybe .Mult) (rI qkL λi j => .int (i*j)):=opI λ_ _ _ _ _ _ _ hc q=>mul_int q hc.ok
theorem wf:OpR X (ybe .FloorDiv) (rI qkK λi j => .int (i/j)):=opI λi j _ _ _ _ _ hc q=>by
 have h1:(0:Int)<j:=hc.1
 have h2:j<1606938044258990275541962092341162602522202993782792835301376:=hc.2
 exact floordiv_int (by omega) (by rw[ydy i (by omega)];exact q) (.inl (qnl h1 h2))
theorem qcb:OpR X (ybe .Mod) (rI (λ_ j=>0<j) λi j => .int (i%j)):=opI λi j _ _ _ _ _ hc q=>by
 have h1:(0:Int)<j:=hc
 exact mod_int' (by omega) (by rw[ydz i (by omega)];exact q)
theorem qkO:OpR X (ybe .Pow) (rI qnm λi j => .int (i ^ j.toNat)):=opI λ_ _ _ _ _ _ _ hc q=>pow_int_small hc.1 hc.2.1 hc.2.2 q
theorem unI {f:Value->Sem Value} {g:Int->Int}
  (rule:∀(i:Int)(t:Tok)(s:yab)(Q:Value->yab->Prop)(E:Value->yab->Prop),Q (.int (g i) s.toks) {s with toks:=s.toks+1}->wpAny (model X.prog X.w) X.A (f (.int i t)) Q E s) :
  UnR X f (rU λi => .int (g i)):=by
 intro pins s σ H x v Q I rx h
 obtain⟨i,rfl,q⟩:=h
 obtain⟨t,rfl⟩:=rx
 exact rule i t s _ _ ⟨.int (g i),H,I.tok _,⟨_,rfl⟩,q⟩
theorem qkP:UnR X (unaryOp .USub) (rU λi => .int (-i)):=unI λ_ _ _ _ _ q=>neg_int q
end
def qmH:V->V->Bool
 |.non,.non=>true|.non,.int _=>true|.int _,.non=>true|.non,.bl _=>true|.bl _,.non=>true|.non,.str _=>true|.str _,.non=>true
 |.int _,.int _=>true|.bl _,.bl _=>true|.str _,.str _=>true|.byt _,.byt _=>true
 |.int _,.str _=>true|.str _,.int _=>true|.bl _,.str _=>true|.str _,.bl _=>true
 |_,_=>false
def rEq:R2:=λx y H Q=>qmH x y=true/\Q (.bl (decide (x=y))) H
def rNe:R2:=λx y H Q=>qmH x y=true/\Q (.bl (!decide (x=y))) H
theorem qfd {i j:Int}:decide (V.int i=V.int j)=(i==j):=by
 rw[ybm]
 simp
theorem qhV {i j:Bool}:decide (V.bl i=V.bl j)=(i==j):=by
 rw[ybm]
 simp
theorem qfe {i j:Str}:decide (V.str i=V.str j)=(i==j):=by
 rw[ybm]
 simp
theorem qff {i j:Array UInt8}:decide (V.byt i=V.byt j)=(i.toList==j.toList):=by
 rw[ybm]
 cases i
 cases j
 simp
section
variable{X:Cx}{a b c:Expr}{ta tb tc:TE}{pos:Pos}
theorem zf {pins:List (Addr×Obj)} {σ:St} {H:Hp} {s:yab} {Q:VK} {k k':Bool} (I:Inv X pins σ H s) (q:Q (.bl k) H) (e:k=k'):EP X pins σ Q (.bool k') s:=by
 subst e
 exact⟨.bl k,H,I,rfl,q⟩
theorem qmI:OpR X (ybb .Eq) rEq:=by
 intro pins s σ H x y v u Q I rx ry h
 obtain⟨hs,q⟩:=h
 cases x with
 |non=>
  cases rx
  cases y with
  |non=>cases ry;exact PySem.EqNone.eq_none_none (zf I q (by simp))
  |bl j=>cases ry;exact PySem.EqNone.eq_none_bool (zf I q (by simp))
  |int j=>obtain⟨t',rfl⟩:=ry;exact PySem.EqNone.eq_none_int (zf I q (by simp))
  |str j=>obtain⟨t',rfl⟩:=ry;exact PySem.EqNone.eq_none_str (zf I q (by simp))
  |_=>exact absurd (show false=true from hs) yav
 |bl i=>
  cases rx
  cases y with
  |non=>cases ry;exact PySem.EqNone.eq_bool_none (zf I q (by simp))
  |bl j=>cases ry;exact eq_bool (zf I q qhV)
  |str j=>obtain⟨t',rfl⟩:=ry;exact PySem.EqMixed.eq_bool_str (zf I q (by simp))
  |_=>exact absurd (show false=true from hs) yav
 |int i=>
  obtain⟨t,rfl⟩:=rx
  cases y with
  |non=>cases ry;exact PySem.EqNone.eq_int_none (zf I q (by simp))
  |int j=>obtain⟨t',rfl⟩:=ry;exact eq_int (zf I q qfd)
  |str j=>obtain⟨t',rfl⟩:=ry;exact PySem.EqMixed.eq_int_str (zf I q (by simp))
  |_=>exact absurd (show false=true from hs) yav
 |str i=>
  obtain⟨t,rfl⟩:=rx
  cases y with
  |non=>cases ry;exact PySem.EqNone.eq_str_none (zf I q (by simp))
  |bl j=>cases ry;exact PySem.EqMixed.eq_str_bool (zf I q (by simp))
  |int j=>obtain⟨t',rfl⟩:=ry;exact PySem.EqMixed.eq_str_int (zf I q (by simp))
  |str j=>obtain⟨t',rfl⟩:=ry;exact eq_str (zf I q qfe)
  |_=>exact absurd (show false=true from hs) yav
 |byt i=>
  obtain⟨t,rfl⟩:=rx
  cases y with
  |byt j=>obtain⟨t',rfl⟩:=ry;exact PySem.W.eq_bytes (zf I q qff)
  |_=>exact absurd (show false=true from hs) yav
 |_=>cases y<;>exact absurd (show false=true from hs) yav
theorem qkQ:OpR X (ybb .NotEq) rNe:=by
 intro pins s σ H x y v u Q I rx ry h
 obtain⟨hs,q⟩:=h
 cases x with
 |non=>
  cases rx
  cases y with
  |non=>cases ry;exact PySem.EqNone.ne_none_none (zf I q (by simp))
  |bl j=>cases ry;exact PySem.EqNone.ne_none_bool (zf I q (by simp))
  |int j=>obtain⟨t',rfl⟩:=ry;exact PySem.EqNone.ne_none_int (zf I q (by simp))
  |str j=>obtain⟨t',rfl⟩:=ry;exact PySem.EqNone.ne_none_str (zf I q (by simp))
  |_=>exact absurd (show false=true from hs) yav
 |bl i=>
  cases rx
  cases y with
  |non=>cases ry;exact PySem.EqNone.ne_bool_none (zf I q (by simp))
  |bl j=>cases ry;exact ne_bool (zf I q (congrArg not qhV))
  |str j=>obtain⟨t',rfl⟩:=ry;exact PySem.EqMixed.ne_bool_str (zf I q (by simp))
  |_=>exact absurd (show false=true from hs) yav
 |int i=>
  obtain⟨t,rfl⟩:=rx
  cases y with
  |non=>cases ry;exact PySem.EqNone.ne_int_none (zf I q (by simp))
  |int j=>obtain⟨t',rfl⟩:=ry;exact ne_int (zf I q (congrArg not qfd))
  |str j=>obtain⟨t',rfl⟩:=ry;exact PySem.EqMixed.ne_int_str (zf I q (by simp))
  |_=>exact absurd (show false=true from hs) yav
 |str i=>
  obtain⟨t,rfl⟩:=rx
  cases y with
  |non=>cases ry;exact PySem.EqNone.ne_str_none (zf I q (by simp))
  |bl j=>cases ry;exact PySem.EqMixed.ne_str_bool (zf I q (by simp))
  |int j=>obtain⟨t',rfl⟩:=ry;exact PySem.EqMixed.ne_str_int (zf I q (by simp))
  |str j=>obtain⟨t',rfl⟩:=ry;exact ne_str (zf I q (congrArg not qfe))
  |_=>exact absurd (show false=true from hs) yav
 |byt i=>
  obtain⟨t,rfl⟩:=rx
  cases y with
  |byt j=>obtain⟨t',rfl⟩:=ry;exact PySem.W.ne_bytes (zf I q (congrArg not qff))
  |_=>exact absurd (show false=true from hs) yav
 |_=>cases y<;>exact absurd (show false=true from hs) yav
theorem qiU:OpR X (ybb .Lt) (rI0 λi j => .bl (decide (i<j))):=qmG λ_ _ _ _ _ _ _ q=>lt_int q
theorem qkR:OpR X (ybb .Gt) (rI0 λi j => .bl (decide (j<i))):=qmG λ_ _ _ _ _ _ _ q=>gt_int q
theorem qiV:OpR X (ybb .GtE) (rI0 λi j => .bl (decide (j<=i))):=qmG λ_ _ _ _ _ _ _ q=>ge_int q
theorem qfg:OpR X (ybb .Is) (λx y H Q=>y=.non/\Q (.bl (decide (x=.non))) H):=by
 intro pins s σ H x y v u Q I rx ry h
 obtain⟨rfl,q⟩:=h
 cases ry
 refine is_none_gen (zf I q ?_)
 cases x<;>first
  |(cases rx;rfl)
  |(obtain⟨t,rfl⟩:=rx;rfl)
theorem OpR.or {f:Value->Value->Sem Value} {r r':R2} (h:OpR X f r) (h':OpR X f r'):OpR X f (λx y H Q=>r x y H Q\/r' x y H Q):=by
 intro pins s σ H x y v u Q I rx ry q
 rcases q with q|q
 ·exact h pins s σ H x y v u Q I rx ry q
 ·exact h' pins s σ H x y v u Q I rx ry q
theorem zg (b:Expr) {op:CmpOp} (h:op ≠ .In:=by decide) (h2:op ≠ .NotIn:=by decide):ybC op b=false:=by
 have e1:(op==CmpOp.In)=false:=by cases op<;>first|rfl|exact absurd rfl h
 have e2:(op==CmpOp.NotIn)=false:=by cases op<;>first|rfl|exact absurd rfl h2
 cases b<;>simp[ybC,e1,e2]
theorem qiW {op:CmpOp} {r:R2} (ho:OpR X (ybb op) r) (ha:PE X a ta) (hb:PE X b tb) (hm:ybC op b=false):PE X (.Compare a [op] [b] pos) (tOp r ta tb):=by
 intro pins s σ H Q I h
 exact wpAny_Compare1 (qmD ha hb I h λv u s2 x y H2 I2 rx ry q=>ho pins s2 σ H2 x y v u Q I2 rx ry q) hm
def qmJ(t:TE):TT:=λσ H Q=>t σ H λx H'=>∃k,x=.bl k/\Q k H'
theorem qfh {op:CmpOp} {r:R2} (ho:OpR X (ybb op) r) (ha:PE X a ta) (hb:PE X b tb) (hm:ybC op b=false):PT X (.Compare a [op] [b] pos) (qmJ (tOp r ta tb)):=by
 intro pins s σ H Q I h
 refine yeu (thn (ha pins s σ H _ I h) λv s1 ⟨x,H1,I1,r1,q1⟩=>thn (hb pins s1 σ H1 _ I1 q1) λu s2 ⟨y,H2,I2,r2,q2⟩=>
  thn (ho pins s2 σ H2 x y v u _ I2 r1 r2 q2) λc s3 ⟨z,H3,I3,r3,k,e,q3⟩=>?_) hm
 subst e
 cases r3
 exact ybz ⟨H3,I3,q3⟩
theorem qcc:(yam:Nat)<2 ^ 63:=by rw[ybT];decide
theorem qeu:OpR X (ybe .Add) (λx y H Q=>∃i j,x=.str i/\y=.str j/\i.length+j.length<=yam/\Q (.str (i++j)) H):=by
 intro pins s σ H x y v u Q I rx ry h
 obtain⟨i,j,rfl,rfl,hz,q⟩:=h
 obtain⟨t,rfl⟩:=rx
 obtain⟨t',rfl⟩:=ry
 exact add_str (λt' tk=>⟨.str (i++j),H,I.tok _,⟨_,rfl⟩,q⟩) hz
theorem qfi {x:V} {us:List Value} (r:ze [x] us):∃u,us=[u]/\jO x u:=by
 cases r with
 |cons r1 r2=>cases r2;exact⟨_,rfl,r1⟩
theorem qiX {x y:V} {us:List Value} (r:ze [x,y] us):∃u w',us=[u,w']/\jO x u/\jO y w':=by
 cases r with
 |cons r1 r2=>
  cases r2 with
  |cons r3 r4=>cases r4;exact⟨_,_,rfl,r1,r3⟩
theorem qg0:yr X (.builtin "abs") (λxs H Q=>∃i,xs=[.int i]/\Q (.int (if i<0 then -i else i)) H):=by
 intro pins s σ H xs us Q I r h
 obtain⟨i,rfl,q⟩:=h
 obtain⟨u,rfl,t,rfl⟩:=qfi r
 exact call_abs_int λu tk=>⟨.int (if i<0 then -i else i),H,I.tok _,⟨_,rfl⟩,q⟩
theorem qfj (hc:X.calm=true):yr X (.builtin "max") (λxs H Q=>∃i j,xs=[.int i,.int j]/\Q (.int (if j>i then j else i)) H):=by
 intro pins s σ H xs us Q I r h
 obtain⟨i,j,rfl,q⟩:=h
 obtain⟨u,w',rfl,⟨t,rfl⟩,⟨t',rfl⟩⟩:=qiX r
 refine max_two_ints (I.ok.hd hc) λh' tk k=>⟨_,H,I.kept k,?_,q⟩
 by_cases hj:j>i
 ·rw[if_pos hj,if_pos hj];exact⟨_,rfl⟩
 ·rw[if_neg hj,if_neg hj];exact⟨_,rfl⟩
theorem qae (hc:X.calm=true):yr X (.builtin "min") (λxs H Q=>∃i j,xs=[.int i,.int j]/\Q (.int (if j<i then j else i)) H):=by
 intro pins s σ H xs us Q I r h
 obtain⟨i,j,rfl,q⟩:=h
 obtain⟨u,w',rfl,⟨t,rfl⟩,⟨t',rfl⟩⟩:=qiX r
 refine min_two_ints (I.ok.hd hc) λh' tk k=>⟨_,H,I.kept k,?_,q⟩
 by_cases hj:j<i
 ·rw[if_pos hj,if_pos hj];exact⟨_,rfl⟩
 ·rw[if_neg hj,if_neg hj];exact⟨_,rfl⟩
theorem qc1:yr X (.builtin "divmod") (λxs H Q=>∃i j,xs=[.int i,.int j]/\qkK i j/\∀p,H p=none->Q (.ref p) (upd H p (.tup [.int (i/j),.int (i%j)]))):=by
 intro pins s σ H xs us Q I r h
 obtain⟨i,j,rfl,⟨h1,h2⟩,q⟩:=h
 obtain⟨u,w',rfl,⟨t,rfl⟩,⟨t',rfl⟩⟩:=qiX r
 refine divmod_int (by omega) ?_ (.inl (qnl h1 h2))
 rw[ydy i (by omega),ydz i (by omega)]
 have hn:H s.heap.objs.size=none:=I.hok.fresh (yah _)
 refine⟨.ref s.heap.objs.size,_,?_,rfl,q _ hn⟩
 refine I.laid (λb o e=>Heap.get?_push_of_some _ e) (yah _) ⟨by simp only[lC_,lN_];rw[ybT];decide,[.int (i/j) s.toks,.int (i%j) (s.toks+1)],.cons ⟨_,rfl⟩ (.cons ⟨_,rfl⟩ .nil),?_⟩
 exact⟨_,Heap.get?_push_size s.heap rfl,rfl,0,rfl⟩
end
end L2
namespace L2
open PySem PySem.Spec PyProof.Rows
structure qmK (h:Heap) (x dx C:Addr) (mA:Str->Option Value):Prop where
 obj:h.get? x=some (yd9 C dx)
 ns:h.Ns1 dx mA
 ne:dx≠x
theorem qfk {h:Heap} {dx:Addr} {mA:Str->Option Value} (n:h.Ns1 dx mA):∃od,h.get? dx=some od/\∀name,yev name od=some (mA name):=by
 obtain⟨o,es,ep,ho,hd,hk,_,hm⟩:=n
 refine⟨o,ho,λname=>?_⟩
 have e:=hm name
 unfold nsFind findBy at e
 rw[<-Array.find?_toList]at e
 unfold yev
 rw[hd]
 dsimp only
 split
 ·rename_i y q
  rw[q]at e
  exact congrArg some e
 ·rename_i q
  rw[q]at e
  have a:es.toList.any (·.refKey)=false:=by
   rw[List.any_eq_false]
   intro y hy
   obtain⟨z,t,hkey⟩:=hk y (Array.mem_toList_iff.mp hy)
   simp[DictEntry.refKey,hkey]
  have a':¬es.toList.any (·.refKey)=true:=by rw[a];exact yav
  rw[if_neg a']
  exact congrArg some e
theorem qmK.look {h:Heap} {x dx C:Addr} {mA:Str->Option Value} (I:qmK h x dx C mA):∃od,PySem.W.InstAt h x (yd9 C dx) C (some od)/\∀name,yev name od=some (mA name) :=
 let ⟨od,ho,hl⟩:=qfk I.ns
 ⟨od,⟨I.obj,rfl,rfl,ho⟩,hl⟩
section
variable{prog:yao}{w:World}{A:yau}{E:Value->yab->Prop}{s:yab}{K:yai}{x dx C f:Addr}{mA:Str->Option Value}{name:Str}{v:Value}
end
def qn6 (f:Str) (v:V):List (Str×V)->List (Str×V)
 | []=>[(f,v)]
 |(g,x)::r=>if g=f then(g,v)::r else(g,x)::qn6 f v r
section
variable{P:yao}{w:World}{H H':Hp}{h h':Heap}{a C dx:Addr}{fs fs':List (Str×V)}
theorem qiY (hok:HOk P w H h) (e:H a=some (.ins C dx fs)):∃mA,qmK h a dx C mA/\(∀f,qmr (fs.lookup f) (mA f))/\PySem.Within mA (fs.map (·.1))/\fs.length<=1000/\H dx=some (.own a):=by
 obtain⟨d,z,ne,ob,mA,n,r,q⟩:=(show yq P w H h a (.ins C dx fs)from hok a _ e)
 exact⟨mA,⟨ob,n,ne⟩,r,q,z,d⟩
end
structure Cls (K:yai) (C:Addr):Prop where
 pg:PySem.W.plainGet K C Str.empty=true
 hd:PySem.W.hasDictIn K C=true
 po:PySem.W.plainOver K C=true
 sa:ybE K (.ref C) "__setattr__"=some (some (.builtin "object.__setattr__"))
theorem Cls.get{K:yai}{C:Addr}(c:Cls K C)(f:Str):PySem.W.plainGet K C f=true:=c.pg
structure Con (K:yai) (C:Addr) (f:Str) (v:V) (u:Value):Prop where
 at_:ybE K (.ref C) f=some (some u)
 rel:jO v u
 get:yfl K u "__get__"=some none
 cp:PySem.W.copiedNames.contains f=false
structure qoq (K:yai) (C:Addr) (m:Str) (f:Addr):Prop where
 at_:ybE K (.ref C) m=some (some (.ref f))
 fn:PySem.W.isFn K (.ref f)=true
 kp:yaj K (.ref f)=true
section
variable{X:Cx}{pins:List (Addr×Obj)}{σ:St}{H:Hp}{s:yab}{a C dx:Addr}{fs:List (Str×V)}{f:Str}{v:V}{A:yau}{E:Value->yab->Prop}
end
section
variable{X:Cx}{o e value:Expr}{f:Str}{pos pos' tpos:Pos}{ta tv:TE}
end
section
variable{X:Cx}{pins:List (Addr×Obj)}{σ:St}{H:Hp}{s:yab}{A:yau}{E:Value->yab->Prop}{Q:Value->yab->Prop}{c:Value}{b:Bool}
inductive qe2 (K:yai) (H:Hp):V->Value->Prop where
 |non:qe2 K H .non (.type "NoneType")
 |bl (x:Bool):qe2 K H (.bl x) (.type "bool")
 |int (i:Int):qe2 K H (.int i) (.type "int")
 |str (x:Str):qe2 K H (.str x) (.type "str")
 |flt (x:UInt64):qe2 K H (.flt x) (.type "float")
 |lst {a:Addr} {xs:List V} (e:H a=some (.lst xs)):qe2 K H (.ref a) (.type "list")
 |frz {a:Addr} {o:Obj} {xs:List V} (e:H a=some (.frz o (.lst xs))):qe2 K H (.ref a) (.type "list")
 |tup {a:Addr} {xs:List V} (e:H a=some (.tup xs)):qe2 K H (.ref a) (.type "tuple")
 |dK {a:Addr} {kvs:List (Key×V)} (e:H a=some (.dK kvs)):qe2 K H (.ref a) (.type "dict")
 |dT {a:Addr} {kvs:List (List Key×V)} (e:H a=some (.dT kvs)):qe2 K H (.ref a) (.type "dict")
 | ins {a C dx:Addr} {fs:List (Str×V)} (e:H a=some (.ins C dx fs)) (cl:Cls K C) (ha:ybE K (.ref C) "__class__"=some (some (.builtin "object.__class__")))
   (hn:yfl K (.builtin "object.__class__") "__get__"=some (some (.builtin "getset_descriptor.__get__"))) (htk:PySem.W.takesIn K (.builtin "object.__class__")=some true)
   (hm:PySem.W.mroIn K C (.type "object")=some true):qe2 K H (.ref a) (.ref C)
theorem ui {x:V} {u t:Value} (I:Inv X pins σ H s) (rx:jO x u) (ty:qe2 X.K H x t) (e:yew X.K t c=some b) (h:∀tk,Q (.bool b) {s with toks:=tk}) :
  wpAny (model X.prog X.w) A (call (.builtin "isinstance") [u,c]) Q E s:=by
 cases ty with
 |non=>cases (show u=yax from rx);exact yaS PySem.W.kitx_none I.kIn yb5 e (λz=>nomatch z) h
 |bl y=>cases (show u=yaL y from rx);exact yaS PySem.W.kitx_bool I.kIn yb5 e (λz=>nomatch z) h
 |int i=>obtain⟨t,q⟩:=(show ∃t,u=yb2 i t from rx);cases q;exact yaS PySem.W.kitx_int I.kIn yb5 e (λz=>nomatch z) h
 |str y=>obtain⟨t,q⟩:=(show ∃t,u=Value.str y t from rx);cases q;exact yaS PySem.W.kitx_str I.kIn yb5 e (λz=>nomatch z) h
 |flt y=>obtain⟨t,q⟩:=(show ∃t,u=Value.float y t from rx);cases q;exact yaS PySem.W.kitx_float I.kIn yb5 e (λz=>nomatch z) h
 | @lst a xs ea=>
  cases (show u=yaf a from rx)
  obtain⟨_,_,n,_,h1⟩:=(show yq X.prog X.w H s.heap a (.lst xs)from I.hok a _ ea)
  exact yaS ydG I.kIn ⟨_,h1,rfl⟩ e (λz=>nomatch z) h
 | @frz a ob xs ea=>
  cases (show u=yaf a from rx)
  obtain⟨_,_,_,n,_,h1⟩:=(show yq X.prog X.w H s.heap a (.frz ob (.lst xs))from I.hok a _ ea)
  exact yaS ydG I.kIn ⟨_,h1,rfl⟩ e (λz=>nomatch z) h
 | @tup a xs ea=>
  cases (show u=yaf a from rx)
  obtain⟨_,_,_,p⟩:=(show yq X.prog X.w H s.heap a (.tup xs)from I.hok a _ ea)
  obtain⟨o,h1,h2,_⟩:=p
  exact yaS ye4 I.kIn ⟨o,h1,h2⟩ e (λz=>nomatch z) h
 | @dK a kvs ea=>
  cases (show u=yaf a from rx)
  obtain⟨_,_,vs,_,p⟩:=(show yq X.prog X.w H s.heap a (.dK kvs)from I.hok a _ ea)
  obtain⟨o,es,ep,h1,h2,_⟩:=p
  exact yaS yfm I.kIn ⟨o,h1,h2.1⟩ e (λz=>nomatch z) h
 | @dT a kvs ea=>
  cases (show u=yaf a from rx)
  obtain⟨_,_,xs,_,o,es,ep,h1,h2,_⟩:=(show yq X.prog X.w H s.heap a (.dT kvs)from I.hok a _ ea)
  exact yaS yfm I.kIn ⟨o,h1,h2.1⟩ e (λz=>nomatch z) h
 | @ins a C dx fs ea cl ha hn htk hm=>
  cases (show u=yaf a from rx)
  obtain⟨mA,O,_⟩:=qiY I.hok ea
  obtain⟨od,J,_⟩:=O.look
  exact yaS (PySem.W.kitx_own (cl.get _) cl.hd ha hn htk hm) I.kIn J e (λz=>nomatch z) h
end
end L2
namespace L2
open PySem PySem.Spec PyProof.Rows
structure uH (k:Nat) (A:yau):Prop where
 hd:A.handled=none
 dp:A.depth+3*k+5<ydh
 un:A.units+16*k+200<cLine
 gd:A.guards=some []
theorem uH.mono{j k:Nat}{A:yau}(r:uH k A)(h:j<=k):uH j A:=⟨r.hd,by have:=r.dp;omega,by have:=r.un;omega,r.gd⟩
theorem uH.deeper {k:Nat} {A:yau} (r:uH (k+1) A) (env:Env):uH k (A.deeper env) :=
 ⟨r.hd,by have:=r.dp;show A.depth+1+3*k+5<_;omega,by have:=r.un;show A.units+3+16*k+200<_;omega,r.gd⟩
theorem uH.depth{k:Nat}{A:yau}(r:uH k A):A.depth<ydh:=by have:=r.dp;omega
theorem uH.units{k:Nat}{A:yau}(r:uH k A):A.units+64<cLine:=by have:=r.un;omega
def qnn:TA:=λ_ H Q=>Q [] H
def qiZ(ta:TE)(tr:TA):TA:=λσ H Q=>ta σ H λx H1=>tr σ H1 λxs H2=>Q (x::xs) H2
section
variable{X:Cx}{e:Expr}{es:List Expr}{te:TE}{t:TA}{pos:Pos}
theorem wQ:PA X [] qnn:=λ_ _ _ _ H Q I h=>Calls.spliced_nil ⟨[],H,I,.nil,h⟩
theorem yj (ha:PE X e te) (hr:PA X es t) (hs:yae (e::es) X.env=(false,eval e X.env)::yae es X.env:=by rfl):PA X (e::es) (qiZ te t):=by
 intro pos pins s σ H Q I h
 rw[hs]
 show wpAny _ _ (spliced ((false,eval e X.env)::yaQ pos (yae es X.env))) _ _ s
 refine Calls.spliced_cons (thn (ha pins s σ H _ I h) λu s1 ⟨x,H1,I1,r1,q1⟩=>?_)
 exact thn (hr pos pins s1 σ H1 _ I1 q1) λus s2 ⟨xs,H2,I2,r2,q2⟩=>⟨x::xs,H2,I2,.cons r1 r2,q2⟩
def qn7(t:TA):TE:=λσ H Q=>t σ H λxs H1=>xs.length<=yam/\∀p,H1 p=none->Q (.ref p) (upd H1 p (.tup xs))
def qn8(t:TA):TE:=λσ H Q=>t σ H λxs H1=>xs.length<=yam/\∀p,H1 p=none->Q (.ref p) (upd H1 p (.lst xs))
theorem qkS {x1} (h:PA X es t):PE X (.Tuple es x1 pos) (qn7 t):=by
 intro pins s σ H Q I hq
 refine wpAny_Tuple_spliced (thn (h pos pins s σ H _ I hq) λus s1 ⟨xs,H1,I1,r,z,q⟩=>⟨by rw[<-r.length];exact z,?_⟩)
 have hf:H1 s1.heap.objs.size=none:=I1.hok.fresh (yah _)
 refine⟨.ref s1.heap.objs.size,upd H1 s1.heap.objs.size (.tup xs),I1.laid (t':=s1.toks) (λb u e=>Heap.get?_push_of_some _ e) (yah _) ?_,rfl,q _ hf⟩
 exact⟨z,us,r,⟨_,Heap.get?_push_size _ rfl,rfl,_,rfl⟩⟩
theorem qfl (h:PA X es t):PE X (.List es pos) (qn8 t):=by
 intro pins s σ H Q I hq
 refine wpAny_List_spliced (thn (h pos pins s σ H _ I hq) λus s1 ⟨xs,H1,I1,r,z,q⟩=>⟨by rw[<-r.length];exact z,?_⟩)
 have hf:H1 s1.heap.objs.size=none:=I1.hok.fresh (yah _)
 refine⟨.ref s1.heap.objs.size,upd H1 s1.heap.objs.size (.lst xs),I1.laid (t':=s1.toks) (λb u e=>Heap.get?_push_of_some _ e) (yah _) ?_,rfl,q _ hf⟩
 exact⟨z,us,0,r,Heap.get?_push_size _ rfl⟩
end
abbrev Sp:=List V->Hp->VK->XK->Prop
abbrev CXT:=List Env->Hp->yab->XK->Value->yab->Prop
structure qkn (P:yao) (w:World) (K:yai) (mg:Str->Option Value) (base:Heap) (A:yau) (outer:List Env) (s:yab) (H:Hp):Prop where
 frames:A.frames=some outer
 mod:Mod K mg base
 bs:∀b o,base.get? b=some o->s.heap.get? b=some o/\H b=none
 bsz:base.objs.size<=s.heap.objs.size
 funs:s.heap.FunFrames base outer
 frf:∀b∈frs outer,H b=none
 hok:HOk P w H s.heap
 bare:yck s.gens
def CE (outer:List Env) (P:yao) (w:World) (H:Hp) (s:yab) (Q:VK) (u:Value) (s':yab):Prop :=
 ∃v H',s'.os=s.os/\yck s'.gens/\Un (frs outer) [] H H' s.heap s'.heap/\HOk P w H' s'.heap/\jO v u/\Q v H'
def CR (CX:CXT) (outer:List Env) (P:yao) (w:World) (H:Hp) (s:yab) (Q:VK) (E:XK) (r:ydR) (s':yab):Prop :=
 match r with
 |.ok (.ret u)=>CE outer P w H s Q u s'
 |.ok _=>False
 |.error e=>CX outer H s E e s'
structure vi (P:yao) (w:World) (K:yai) (mg:Str->Option Value) (base:Heap) (CX:CXT) (k:Nat) (f:Addr) (fd:yaM) (ps:List Str) (sp:Sp):Prop where
 len:∀vs H Q E,sp vs H Q E->vs.length=ps.length
 run:∀(A:yau)(outer:List Env)(s:yab)(H:Hp)(args:Args)(us:List Value)(vs:List V)(Q:VK)(E:XK),uH k A->qkn P w K mg base A outer s H->ydN s fd args (ps.zip us)->ze vs us->sp vs H Q E ->
  ybU (model P w) A (.call (.ref f) args) (CR CX outer P w H s Q E) s
theorem vi.mono {P:yao} {w:World} {K:yai} {mg:Str->Option Value} {base:Heap} {CX:CXT} {j k:Nat} {f:Addr} {fd:yaM} {ps:List Str} {sp:Sp} (F:vi P w K mg base CX j f fd ps sp) (h:j<=k) :
  vi P w K mg base CX k f fd ps sp:=⟨F.len,λA outer s H args us vs Q E hr=>F.run A outer s H args us vs Q E (hr.mono h)⟩
section
variable{X:Cx}{pins:List (Addr×Obj)}{σ:St}{H:Hp}{s s':yab}
theorem Inv.env0 (I:Inv X pins σ H s):qkn X.prog X.w X.K X.mg X.base X.A X.stack s H :=
 ⟨I.ok.frames,I.ok.mod,I.bs,yaF I.ok.bsz I.sz,I.stack,I.stkFree,I.hok,I.bare⟩
theorem Inv.after {Q:VK} {u:Value} (I:Inv X pins σ H s) (h:CE X.stack X.prog X.w H s Q u s'):EP X pins σ Q u s':=by
 obtain⟨v,H',os,bare,un,hok,r,q⟩:=h
 obtain⟨hh,g,d,t,os'⟩:=s'
 obtain rfl:os'=s.os:=os
 exact⟨v,H',I.call (h':=hh) (g':=g) (d':=d) (t':=t) (ch:=[]) un hok bare (λb z=>absurd z (by simp)),r,q⟩
end
def qmL(sp:Sp)(dvs:List V)(E:XK)(t:TA):TE:=λσ H Q=>t σ H λvs H1=>sp (vs++dvs) H1 Q E
def uM (K:yai) (fd:yaM) (ps:List Str) (ds:List Value):Prop :=
 ∀(s:yab)(us:List Value),K.In s.heap->(us++ds).length=ps.length->ydN s fd ⟨us,[]⟩ (ps.zip (us++ds))
theorem uM.all {K:yai} {fd:yaM} {ps:List Str} (h:∀us:List Value,us.length=ps.length->bindArgs fd ⟨us,[]⟩=pure (ps.zip us)):uM K fd ps []:=λs us _ hl=>by
 rw[ybn]at hl |-
 exact .of_eq (h us hl)
def qaf(CX:CXT)(X:Cx)(E:XK):Prop:=∀(pins:List (Addr×Obj))(σ:St)(H:Hp)(s:yab)(e:Value)(s':yab),Inv X pins σ H s->CX X.stack H s E e s'->X.xe e s'
section
variable{X:Cx}{CX:CXT}{k:Nat}{f C:Addr}{fd:yaM}{ps:List Str}{sp:Sp}{dvs:List V}{ds:List Value}{E:XK}{x m:Str}{p pos apos:Pos}{e o:Expr}{es:List Expr}{ta:TE}{t:TA}
theorem qkT {pins:List (Addr×Obj)} {σ:St} {H:Hp} {s:yab} {Q:VK} {us:List Value} {vs:List V} (F:vi X.prog X.w X.K X.mg X.base CX k f fd ps sp) (hr:uH k X.A) (hb:uM X.K fd ps ds) (hd:ze dvs ds) (hx:qaf CX X E)
  (I:Inv X pins σ H s) (r:ze vs us) (h:sp (vs++dvs) H Q E):wpAny (model X.prog X.w) X.A (call (.ref f) us) (EP X pins σ Q) X.xe s:=by
 have r2:ze (vs++dvs) (us++ds):=r.append hd
 have hl:(us++ds).length=ps.length:=by rw[<-r2.length];exact F.len _ _ _ _ h
 refine wpAny_call (ydS (F.run X.A X.stack s H ⟨us,[]⟩ (us++ds) (vs++dvs) Q E hr I.env0 (hb s us I.kIn hl) r2 h) λr s' hq=>?_)
 cases r with
 |error e=>exact hx pins σ H s e s' I hq
 |ok fl=>
  cases fl with
  |ret u=>exact I.after hq
  |next=>exact yaV hq
  |brk=>exact yaV hq
  |cont=>exact yaV hq
theorem qag (F:vi X.prog X.w X.K X.mg X.base CX k f fd ps sp) (hr:uH k X.A) (hg:Gl X x) (hm:X.mg x=some (.ref f)) (hk:yaj X.K (.ref f)=true) (hb:uM X.K fd ps ds) (hd:ze dvs ds) (hx:qaf CX X E)
  (ha:PA X (e::es) t) (hdb:(x==("__debug__":Str))=false:=by decide) (he:yae (e::es) X.env=(false,eval e X.env)::yae es X.env:=by rfl) (hpl:(yaQ pos (yae es X.env)).any (·.1)=false:=by rfl) :
  PE X (.Call (.Name x p) (e::es) [] pos) (qmL sp dvs E t):=by
 intro pins s σ H Q I h
 refine ycv (qbq I hg hm ?_ hdb)
 refine ye5 (h₀:=X.base) I.ok.mod.kin hk (thn (ha pos pins s σ H _ I h) λus s1 ⟨vs,H1,I1,r,q⟩=>⟨I1.kIn,?_⟩) he hpl
 exact qkT F hr hb hd hx I1 r q
structure Mk (K:yai) (C f:Addr):Prop where
 makes:PySem.W.makesIn K C=true
 init:ybE K (.ref C) "__init__"=some (some (.ref f))
 fn:PySem.W.isFn K (.ref f)=true
 kp:yaj K (.ref C)=true
end
section
variable{X:Cx}{CX:CXT}{k:Nat}{f C:Addr}{fd:yaM}{ps ks:List Str}{sp:Sp}{E:XK}{x m:Str}{p pos apos kpos:Pos}{e o:Expr}{es:List Expr}{kws:List ydO}{te ta:TE}{t tk:TA}{nm:Option Str}
variable{g:List Value->List Value->List Value}{gV:List V->List V->List V}
end
structure qE (N P:List Str) (sc:Scope):Prop where
 kind:sc.kind=.function
 co:sc.isCoroutine=false
 gen:sc.isGenerator=false
 nd:N.Nodup
 pre:N.take P.length=P
 par:∀x∈P,sc.names.lookup x=some .local\/sc.names.lookup x=some .cell
 nofree:∀y∈sc.names,y.2 ≠ .free
theorem qcd {yb9:Str->Option ycR} {x:Str}:∀{binds:List (Str×Value)}{m:Str->Option Value},(∀v,(x,v) ∉ binds)->bindL yb9 binds m x=m x
 | [],_,_=>rfl
 | (n,v)::r,m,h=>by
  unfold bindL
  rw[qcd λw hw=>h w (mM _ hw)]
  split
  ·have:x≠n:=by rintro rfl;exact h v mS_
   simp[this]
  ·rfl
theorem qce {yb9:Str->Option ycR} {x:Str}:∀{binds:List (Str×Value)}{m:Str->Option Value},(∀v,(x,v) ∉ binds)->bindC yb9 binds m x=m x
 | [],_,_=>rfl
 | (n,v)::r,m,h=>by
  unfold bindC
  rw[qce λw hw=>h w (mM _ hw)]
  split
  ·rfl
  ·have:x≠n:=by rintro rfl;exact h v mS_
   simp[this]
theorem qah {yb9:Str->Option ycR} {x:Str} {v:Value}:∀{P:List Str}{vs:List Value}{i:Nat}{m:Str->Option Value},P.Nodup->P[i]? = some x->vs[i]? = some v->yb9 x=some .local ->
  bindL yb9 (P.zip vs) m x=some v
 | [],_,_,_,_,h,_,_=>by simp at h
 |_::_,[],_,_,_,_,h,_=>by simp at h
 |p::P,w::vs,0,m,nd,h1,h2,hk=>by
  simp at h1 h2;subst h1;subst h2
  show bindL yb9 ((p,w)::P.zip vs) m p=_
  unfold bindL
  rw[qcd λv hv=>(List.nodup_cons.mp nd).1 (yc5 hv).1,if_pos hk]
  simp
 |p::P,w::vs,i+1,m,nd,h1,h2,hk=>by
  show bindL yb9 ((p,w)::P.zip vs) m x=_
  unfold bindL
  exact qah (i:=i) (List.nodup_cons.mp nd).2 (by simpa using h1) (by simpa using h2) hk
theorem qai {yb9:Str->Option ycR} {x:Str} {v:Value}:∀{P:List Str}{vs:List Value}{i:Nat}{m:Str->Option Value},P.Nodup->P[i]? = some x->vs[i]? = some v->yb9 x≠some .local ->
  bindC yb9 (P.zip vs) m x=some v
 | [],_,_,_,_,h,_,_=>by simp at h
 |_::_,[],_,_,_,_,h,_=>by simp at h
 |p::P,w::vs,0,m,nd,h1,h2,hk=>by
  simp at h1 h2;subst h1;subst h2
  show bindC yb9 ((p,w)::P.zip vs) m p=_
  unfold bindC
  rw[qce λv hv=>(List.nodup_cons.mp nd).1 (yc5 hv).1,if_neg hk]
  simp
 |p::P,w::vs,i+1,m,nd,h1,h2,hk=>by
  show bindC yb9 ((p,w)::P.zip vs) m x=_
  unfold bindC
  exact qai (i:=i) (List.nodup_cons.mp nd).2 (by simpa using h1) (by simpa using h2) hk
def z7(N:List Str)(vs:List V):St:=vs.map some++yap (N.length-vs.length) none
def qgS (CX:CXT) (P:yao) (w:World) (K:yai) (mg:Str->Option Value) (base:Heap) (N:List Str) (qual:Str) (scope:Scope) (f:Addr) (cd:Value) (A:yau) (outer:List Env) (s:yab) (H:Hp) (E:XK):Cx where
 prog:=P
 w:=w
 K:=K
 mg:=mg
 base:=base
 A:=A.deeper (ybf qual scope s.heap.objs.size f cd)
 N:=N
 s₀:=s
 H₀:=H
 env:=ybf qual scope s.heap.objs.size f cd
 outer:=outer
 stack:=ybf qual scope s.heap.objs.size f cd::outer
 ex:=[]
 calm:=true
 fn:=λ_=>true
 pn:=[]
 xe:=λe s'=>wpAny (model P w) (A.deeper (ybf qual scope s.heap.objs.size f cd)) (ydi (ybf qual scope s.heap.objs.size f cd) e) (λ_ s''=>CX outer H s E e s'') (λe' s''=>CX outer H s E e' s'') s'
theorem w5 {sc:Scope} {n:Nat} {x:Str} (h:sc.names.lookup x=some .cell):∃c,(ydo n sc.names []).lookup x=some c:=by
 have q:=ycJ sc.names n [] (.inl h)
 exact Option.isSome_iff_exists.mp q
theorem qfm {CX:CXT} {P:yao} {w:World} {K:yai} {mg:Str->Option Value} {base:Heap} {N ps:List Str} {qual:Str} {scope:Scope} {f:Addr} {cd:Value} {A:yau} {outer:List Env} {s s1:yab} {H:Hp} {E:XK} {us:List Value} {vs:List V}
  (S:qE N ps scope) (hd:A.handled=none) (e0:qkn P w K mg base A outer s H) (hl:vs.length=ps.length) (r:ze vs us)
  (x:InCallC s s.heap.objs.size (bindL (ybf qual scope s.heap.objs.size f cd).kindOf (ps.zip us) λ_=>none) (ydo (s.heap.objs.size+1) scope.names []) (bindC (ybf qual scope s.heap.objs.size f cd).kindOf (ps.zip us) λ_=>none) s1) :
  Inv (qgS CX P w K mg base N qual scope f cd A outer s H E) [] (z7 N vs) H s1:=by
 have hpl:ps.length<=N.length:=by have:=congrArg List.length S.pre;rw[ya3]at this;omega
 obtain⟨h1,tk,rfl,hk⟩:=x.done
 have noA:∀b:Addr,b ∉ (qgS CX P w K mg base N qual scope f cd A outer s H E).ex:=λb z=>absurd (show b∈([]:List Addr)from z) (by simp)
 refine ⟨⟨e0.mod,S.kind,rfl,rfl,yah _,λy z c h1 h2=>?_,λy hy=>?_,λy c _ h=>?_,λ_=>hd,yeH e0.frames,.inr ⟨rfl,rfl⟩,λb z=>absurd z (noA b),e0.bs,e0.bsz,λb _ _=>noA b,λb z=>absurd z (noA b),e0.funs,e0.frf⟩,
  rfl,e0.bare,Un.kept hk,⟨_,x.toInCall.ns,λi y v h1 h2 h3=>?_⟩,λy c h=>⟨_,x.cell y c h⟩,e0.hok.fresh (yah _),λy c h=>?_,λp hp=>absurd (show p∈([]:List (Addr×Obj))from hp) (by simp),e0.hok.kept hk,?_⟩
 ·exact name_of_addr x.apart (yaP h1) (yaP h2)
 ·have hy:scope.names.lookup y=some .cell\/scope.names.lookup y=some .free:=hy
  rcases hy with hy|hy
  ·exact w5 hy
  ·exact absurd rfl (S.nofree _ (yaP hy))
 ·exact ycu (x.above y c (yaP h))
 ·have hi:i<vs.length:=by
   unfold z7 at h2
   by_cases hi:i<vs.length
   ·exact hi
   ·rw[List.getElem?_append_right (by simpa using hi)]at h2
    rw[List.getElem?_replicate]at h2
    split at h2<;>cases h2
  have ha:vs[i]? = some v:=by
   unfold z7 at h2
   rw[List.getElem?_append_left (by simpa using hi),gM_]at h2
   cases e:vs[i]? with
   |none=>rw[e]at h2;cases h2
   |some a=>rw[e]at h2;cases h2;rfl
  obtain⟨u,hu,rv⟩:=r.get ha
  have hp:ps[i]? = some y:=by
   rw[<-S.pre,List.getElem?_take_of_lt (by omega)];exact h1
  have ndP:ps.Nodup:=by rw[<-S.pre];exact S.nd.sublist (yfn _ _)
  refine⟨u,rv,?_⟩
  rcases S.par y (yce hp)with k|k
  ·exact .inl ⟨k,qah ndP hp hu k⟩
  ·obtain⟨c,e⟩:=w5 (n:=s.heap.objs.size+1) k
   refine .inr ⟨.inl k,c,e,?_⟩
   have q:=x.cell y c e
   rw[qai ndP hp hu (by show scope.names.lookup y≠_;rw[k];decide)]at q
   exact q
 ·exact e0.hok.fresh (ycu (x.above y c (yaP h)))
 ·unfold z7
  show _=N.length
  rw[lA_,lM_,yaO]
  omega
theorem qkU {CX:CXT} {P:yao} {w:World} {K:yai} {mg:Str->Option Value} {base:Heap} {k:Nat} {f:Addr} {name qual:Str} {params:yeb} {body:List Stmt} {scope:Scope} {dV kV doc pm cdv ct oc:Value} {an od:Option Addr}
  {osl:Array (Option Value)} {N ps:List Str} {sp:Sp} (lk:K.lookup f=some ⟨oc,od,.func (yas name qual params body scope dV kV doc pm an cdv ct),osl⟩) (hcd:yaq K cdv qual=true) (S:qE N ps scope)
  (len:∀vs H Q E,sp vs H Q E->vs.length=ps.length)
  (hbody:∀(A:yau)(outer:List Env)(s:yab)(H:Hp)(vs:List V)(Q:VK)(E:XK),uH k (A.deeper (ybf qual scope s.heap.objs.size f cdv))->sp vs H Q E ->
   ∃t,PSs (qgS CX P w K mg base N qual scope f cdv A outer s H E) body t/\t {nx:=λ_ H'=>Q .non H',rt:=Q} (z7 N vs) H) :
  vi P w K mg base CX (k+1) f (yas name qual params body scope dV kV doc pm an cdv ct) ps sp:=by
 refine⟨len,λA outer s H args us vs Q E hr e0 hb r hsp=>?_⟩
 have hl:=len _ _ _ _ hsp
 have KX:K.In s.heap:=e0.mod.kin.keeps λb o e=>(e0.bs b o e).1
 have lim:s.heap.NoLimit:=e0.mod.nolimit.keeps λb o e=>(e0.bs b o e).1
 have hkind:∀y∈ps.zip us,scope.names.lookup y.1=some .local\/(scope.names.lookup y.1=some .cell/\((ydo (s.heap.objs.size+1) scope.names []).lookup y.1).isSome=true):=λ⟨n,v⟩ hy=>by
  rcases S.par n (yc5 hy).1 with q|q
  ·exact .inl q
  ·exact .inr ⟨q,ycJ _ _ _ (.inl q)⟩
 refine yex hr.depth (KX _ _ lk) rfl S.co S.gen rfl (ye6 KX hcd) (hb _ _ _ _ ?_)
 refine ydA S.kind hkind λenv he s1 x=>?_
 subst he
 refine⟨lim.keeps x.toInCall.keep,codeAny_func ?_⟩
 obtain⟨t,ht,hq⟩:=hbody A outer s H vs Q E (hr.deeper _) hsp
 have I:Inv (qgS CX P w K mg base N qual scope f cdv A outer s H E) [] (z7 N vs) H s1:=qfm S hr.hd e0 hl r x
 refine ya8 (ht [] s1 (z7 N vs) H _ I hq) (λfl s' hs=>?_) λe s' hs=>hs
 have fin:∀{σ':St}{H':Hp}{v:V}{u:Value},Inv (qgS CX P w K mg base N qual scope f cdv A outer s H E) [] σ' H' s'->jO v u->Q v H'->CE outer P w H s Q u s' :=
  λ{σ' H' v u} J rv q=>⟨v,H',J.os,J.bare,J.base,J.hok,rv,q⟩
 cases fl with
 |ret u=>
  obtain⟨v,σ',H',J,rv,q⟩:=hs
  exact fin J rv q
 |next=>
  obtain⟨σ',H',J,q⟩:=hs
  exact fin (v:=V.non) (u:=yax) J rfl q
 |brk=>
  obtain⟨_,_,_,q⟩:=hs
  exact yaV q
 |cont=>
  obtain⟨_,_,_,q⟩:=hs
  exact yaV q
end L2
namespace L2
open PySem PySem.Spec PyProof.Rows
section
variable{X:Cx}{x:Str}{p pos:Pos}{e:Expr}{es:List Expr}{t:TA}{id T:String}{r:List V->Hp->VK->Prop}
def tCB(r:List V->Hp->VK->Prop)(t:TA):TE:=λσ H Q=>t σ H λvs H1=>r vs H1 Q
theorem vM (hc:yr X (.builtin id) r) (hg:Gl X x) (hm:X.mg x=none) (hv:yaz x=some (.builtin id)) (ha:PA X (e::es) t) (hn:x≠"__name__":=by decide) (hdb:(x==("__debug__":Str))=false:=by decide)
  (he:yae (e::es) X.env=(false,eval e X.env)::yae es X.env:=by rfl) (hpl:(yaQ pos (yae es X.env)).any (·.1)=false:=by rfl):PE X (.Call (.Name x p) (e::es) [] pos) (tCB r t):=by
 intro pins s σ H Q I h
 refine ycv (qaY I hg hm hv ?_ hn hdb)
 exact PyProof.Rows.callWith_builtin1 (thn (ha pos pins s σ H _ I h) λus s1 ⟨vs,H1,I1,r1,q1⟩=>hc pins s1 σ H1 vs us Q I1 r1 q1) he hpl
theorem qcf (hc:yr X (.type T) r) (hg:Gl X x) (hm:X.mg x=none) (hv:yaz x=some (.type T)) (ha:PA X (e::es) t) (hn:x≠"__name__":=by decide) (hdb:(x==("__debug__":Str))=false:=by decide)
  (he:yae (e::es) X.env=(false,eval e X.env)::yae es X.env:=by rfl) (hpl:(yaQ pos (yae es X.env)).any (·.1)=false:=by rfl):PE X (.Call (.Name x p) (e::es) [] pos) (tCB r t):=by
 intro pins s σ H Q I h
 refine ycv (qaY I hg hm hv ?_ hn hdb)
 exact ybH (thn (ha pos pins s σ H _ I h) λus s1 ⟨vs,H1,I1,r1,q1⟩=>hc pins s1 σ H1 vs us Q I1 r1 q1) he hpl
end
end L2
namespace HT
open PySem PyProof.Rows
def lexLt:List Int->List Int->Bool
 | [],[]=>false
 | [],_::_=>true
 |_::_,[]=>false
 |x::xs,y::ys=>if x=y then lexLt xs ys else decide (x<y)
theorem lexLt_cons(x y:Int)(xs ys:List Int):lexLt (x::xs) (y::ys)=if x=y then lexLt xs ys else decide (x<y):=rfl
theorem qbs:lexLt [] []=false:=rfl
theorem qaO(y:Int)(ys:List Int):lexLt [] (y::ys)=true:=rfl
theorem qaP(x:Int)(xs:List Int):lexLt (x::xs) []=false:=rfl
theorem qg1 (A:yau) (s:yab) (a:Int) (t:Tok) (c:Int) (u:Tok):∃e,SeqAt.EqAt A s (.int a t) (.int c u) e/\(e=true ↔ a=c) :=
 ⟨(a==c),SeqAt.EqAt.int_int a t c u,by simp⟩
theorem qg2 (A:yau) (s:yab) (a:Int) (t:Tok) (c:Int) (u:Tok) (prog:yao) (w:World) (E:Value->yab->Prop) (Q:Value->yab->Prop) (h:Q (.bool (decide (a<c))) s) :
  wpAny (model prog w) A (richCompare .Lt (.int a t) (.int c u)) Q E s :=
 (PyProof.Rows.lt_int h:wpAny (model prog w) A (ybb .Lt (.int a t) (.int c u)) Q E s)
section
open PySem.SeqAt
open PySem.AutoSeq1 (wpAny_loadPart')
open PySem.MeetsSeq PySem.MeetsSeq2 PySem.MeetsSeq3
theorem qbt (l b:Addr) (items items2:Array Value) (n n2:Nat) (dd dd2:Option Addr) (sl sl2:Array (Option Value)) (ns ms:List Int) (hi:ybN items.toList ns) (hj:ybN items2.toList ms) :
  Meets (ybV.«tuple.__lt__» ⟨[.ref l,.ref b],[]⟩)
   (λ_ R s=>s.heap.get? l=some {cls:=.type "tuple",dict:=dd,data:=.seq items n,slots:=sl}/\s.heap.get? b=some {cls:=.type "tuple",dict:=dd2,data:=.seq items2 n2,slots:=sl2} /\
    R (.ok (.ret (.bool (lexLt ns ms)))) s) :=
 .of_wp λprog w A R s h=>by
  obtain⟨hp,g,d,tk,os⟩:=s;obtain⟨hl,hb,h⟩:=h
  have f2:=ybX
  have z1:items.size=ns.length:=by rw[<-hi.length];simp
  have z2:items2.size=ms.length:=by rw[<-hj.length];simp
  wp_walk using ybt hl,ybt hb,wpAny_forIn_list _ (λwZ b s'=>b.1=none/\s'=⟨hp,g,d,tk,os⟩/\∃(vs ws:List Value)(ns' ms':List Int),wZ=vs.zip ws /\
   ybN vs ns'/\ybN ws ms'/\ns'.length+items2.size=ms'.length+items.size/\R (.ok (.ret (.bool (lexLt ns' ms')))) ⟨hp,g,d,tk,os⟩) _
  case turn=>
   rintro⟨y,x⟩ wZ b s' ⟨hb',rfl,vs,ws,ns',ms',hz,hvi,hwi,hlen,hR⟩
   cases hvi with
   |nil=>rw[List.zip_nil_left]at hz;cases hz
   | cons a t hvi'=>
    cases hwi with
    |nil=>rw[List.zip_nil_right]at hz;cases hz
    | cons c u hwi'=>
     rw[ydp]at hz
     injection hz with hyx hrest
     injection hyx with hy hx
     subst hy hx
     rw[lexLt_cons]at hR
     simp only[lC_]at hlen
     obtain⟨e,he,hiff⟩:=qg1 A.in1 ⟨hp,g,d,tk,os⟩ a t c u
     refine yaa (he prog w _ _ ?_)
     cases e with
     |true=>
      rw[if_pos (hiff.mp rfl)]at hR
      wp_walk
      exact⟨rfl,rfl,_,_,_,_,hrest,hvi',hwi',by omega,hR⟩
     |false=>
      rw[if_neg (λq=>absurd (hiff.mpr q) yav)]at hR
      have hri:=qg2 A.in1 ⟨hp,g,d,tk,os⟩ a t c u prog w
      wp_walk using hri
      exact⟨_,rfl,by simpa using hR⟩
  case fin=>
   rintro⟨b1,b2⟩ s' ⟨hb',rfl,vs,ws,ns',ms',hz,hvi,hwi,hlen,hR⟩
   simp only at hb'
   subst hb'
   have hv:lexLt ns' ms'=decide (items.size<items2.size):=by
    cases hvi with
    | nil=>
     cases hwi with
     |nil=>
      simp only[lN_]at hlen
      rw[qbs]
      exact(decide_eq_false (by omega)).symm
     |cons c u hw=>
      simp only[lN_,lC_]at hlen
      rw[qaO]
      exact(decide_eq_true (by omega)).symm
    | cons a t hv=>
     cases hwi with
     |nil=>
      simp only[lN_,lC_]at hlen
      rw[qaP]
      exact(decide_eq_false (by omega)).symm
     |cons c u hw=>
      rw[ydp]at hz
      cases hz
   rw[hv]at hR
   wp_walk
   exact⟨_,rfl,by simpa [Builtin.Tuple.tupleCompareSizes] using hR⟩
  case h=>
   exact⟨rfl,rfl,items.toList,items2.toList,ns,ms,rfl,hi,hj,by omega,h⟩
end
section
variable{prog:yao}{w:World}{A:yau}{E:Value->yab->Prop}{s:yab}
theorem lt_tupInts {l b:Addr} {items items2:Array Value} {ns ms:List Int} {Q:Value->yab->Prop} (hl:IsTup s.heap l items) (hb:IsTup s.heap b items2) (hi:ybN items.toList ns) (hj:ybN items2.toList ms)
  (hu:A.units<cLine) (h:Q (.bool (lexLt ns ms)) s):wpAny (model prog w) A (ybb .Lt (.ref l) (.ref b)) Q E s:=by
 obtain⟨⟨cls,dd,data,sl⟩,ho,hc,n,hd⟩:=id hl
 obtain⟨⟨cls2,dd2,data2,sl2⟩,ho2,hc2,n2,hd2⟩:=id hb
 simp only at hc hd hc2 hd2
 subst hc hd hc2 hd2
 exact richCompare_meets_room (op := .Lt) ⟨_,ho,rfl⟩ ⟨_,ho2,rfl⟩ PySem.F.slot_tuple_lt PySem.F.entry_tuple_lt (PySem.F.args_tuple_lt_2 _ _) (qbt l b items items2 n n2 dd dd2 sl sl2 ns ms hi hj)
  ⟨ho,ho2,show yaL (lexLt ns ms)≠Value.notImplemented/\Q (.bool (lexLt ns ms)) s from⟨(λx=>nomatch x),h⟩⟩ hu
theorem cat_tup {t b:Addr} {vs ws:List Value} {Q:Value->yab->Prop} (ht:IsTup s.heap t vs.toArray) (hb:IsTup s.heap b ws.toArray) (hv:vs≠[])
  (h1:ws=[]->Q (.ref t) s) (h2:ws≠[]->Q (.ref s.heap.objs.size) {s with heap:=s.heap.push {cls:=.type "tuple",data:=.seq (vs++ws).toArray} })
  (hsz:vs.length+ws.length<=yam):wpAny (model prog w) A (ybe .Add (.ref t) (.ref b)) Q E s:=by
 obtain⟨⟨cls,dd,data,sl⟩,ho,hc,n,hd⟩:=id ht
 obtain⟨⟨cls2,dd2,data2,sl2⟩,ho2,hc2,n2,hd2⟩:=id hb
 simp only at hc hd hc2 hd2
 subst hc hd hc2 hd2
 have e:vs.toArray++ws.toArray=(vs++ws).toArray:=by simp
 by_cases hw:ws=[]
 ·exact ye7 ⟨_,ho,rfl⟩ ⟨_,ho2,rfl⟩ ydT yeR ycK ycE (ycw _ _)
   (tuple_addW1 t b vs.toArray ws.toArray n n2 dd dd2 sl sl2 (by simpa using hv) (by simp[hw])) ⟨ho,ho2,h1 hw⟩
 ·refine ye7 ⟨_,ho,rfl⟩ ⟨_,ho2,rfl⟩ ydT yeR ycK ycE (ycw _ _)
   (tuple_addW2 t b vs.toArray ws.toArray n n2 dd dd2 sl sl2 (by simpa using hv) (by simpa using hw) (by rw[sT_,sT_];exact hsz)) ⟨ho,ho2,?_⟩
  rw[e]
  exact h2 hw
def sIx (n d:Nat):Option Int->Nat
 |none=>d
 |some v=>if v<0 then(v+(n:Int)).toNat else min v.toNat n
theorem sIx_none(n d:Nat):sIx n d none=d:=rfl
theorem sIx_nat (n d k:Nat):sIx n d (some (k:Int))=min k n:=by
 show(if(k:Int)<0 then((k:Int)+(n:Int)).toNat else min (k:Int).toNat n)=min k n
 rw[if_neg (by omega),ybc]
theorem qkV (n d:Nat) (hd:d<=n) (o:Option Int):sIx n d o<=n:=by
 cases o with
 |none=>exact hd
 |some v=>
  show(if v<0 then(v+(n:Int)).toNat else min v.toNat n)<=n
  by_cases hv:v<0
  ·rw[if_pos hv];omega
  ·rw[if_neg hv];exact Nat.min_le_right _ _
theorem qfn (v:Int) (n d:Nat):(if v<0 then max (v+(n:Int)) 0 else min v (n:Int))=((sIx n d (some v):Nat):Int):=by
 show(if v<0 then max (v+(n:Int)) 0 else min v (n:Int))=(((if v<0 then(v+(n:Int)).toNat else min v.toNat n):Nat):Int)
 by_cases hv:v<0
 ·simp only[if_pos hv];omega
 ·simp only[if_neg hv];omega
theorem qev (lo hi:Option Int) (n:Nat):ycr lo hi 1 (n:Int)=(((sIx n 0 lo:Nat):Int),((sIx n n hi:Nat):Int)):=by
 have h1:¬((1:Int)<0):=by omega
 unfold ycr
 simp only[h1,if_false]
 refine Prod.ext ?_ ?_
 ·cases lo with
  |none=>rfl
  |some v=>exact qfn v n 0
 ·cases hi with
  |none=>rfl
  |some v=>exact qfn v n n
theorem qew (i j:Nat):ya6 (i:Int) (j:Int) 1=j-i:=by
 unfold ya6
 have h1:(1:Int)>0:=by omega
 simp only[h1,if_true,ye8]
 split<;>omega
theorem wj {v:Value} {o:Option Int} {Q:Option Int->yab->Prop} (p:ycx v o) (h:Q o s):wpAny (model prog w) A (Builtin.Slice.slicePartIndex v) Q E s:=by
 cases p with
 |none=>exact ydj h
 |int i t=>exact slicePart_int h
theorem sliceApplied_gen {sl:Addr} {vl vu:Value} {lo hi:Option Int} {n:Nat} {Q:Int×Int×Nat->yab->Prop} (hs:s.heap.IsSliceOf sl vl vu .none) (pl:ycx vl lo) (pu:ycx vu hi)
  (h:Q (((sIx n 0 lo:Nat):Int),1,sIx n n hi-sIx n 0 lo) s):wpAny (model prog w) A (ybP (.ref sl) (pure (n:Int))) Q E s:=by
 obtain⟨os,hos,hcs,hds⟩:=id hs
 unfold ybP ydK
 refine yaa (yaa (yaA hos hds (x:=vl) rfl (yaa (yaA hos hds (x:=vu) rfl (yaa (yaA hos hds (x:=.none) rfl (yac ?_)))))))
 refine yaa (ydj ?_)
 show wpAny _ _ (if((1:Int)==0)=true then _ else _) _ _ s
 rw[if_neg (by decide)]
 refine yaa (wj pl (yaa (wj pu (yaa (yac ?_)))))
 show wpAny _ _ (match ycr lo hi 1 (n:Int) with|(lo,hi)=>pure (lo,(1:Int),ya6 lo hi 1)) _ _ s
 rw[qev lo hi n]
 show wpAny _ _ (pure (((sIx n 0 lo:Nat):Int),(1:Int),ya6 ((sIx n 0 lo:Nat):Int) ((sIx n n hi:Nat):Int) 1)) _ _ s
 rw[qew]
 exact yac h
theorem qg3 (xs:Array Value) (i k:Nat):((yay k).filterMap λ(m:Nat)=>xs[((i:Int)+(m:Int)*1).toNat]?).toArray=((xs.toList.drop i).take k).toArray:=by
 have e:(λ(m:Nat)=>xs[((i:Int)+(m:Int)*1).toNat]?)=λm=>xs[i+m]? := by
  funext m
  have:((i:Int)+(m:Int)*1).toNat=i+m:=by omega
  rw[this]
 rw[e]
 have:=pick_run xs i k
 rw[ycy]at this
 have e2:((λx=>xs[x]?)∘λx=>i+x)=λm=>xs[i+m]? := rfl
 rw[e2]at this
 rw[this]
theorem getItem_tuple_cut {t sl:Addr} {items:Array Value} {vl vu:Value} {lo hi:Option Int} {Q:Value->yab->Prop} (ht:IsTup s.heap t items) (hs:s.heap.IsSliceOf sl vl vu .none) (pl:ycx vl lo) (pu:ycx vu hi)
  (hw:¬(sIx items.size 0 lo=0/\sIx items.size items.size hi=items.size))
  (h:Q (.ref s.heap.objs.size) {s with heap:=s.heap.push {cls:=.type "tuple",data:=.seq ((items.toList.drop (sIx items.size 0 lo)).take (sIx items.size items.size hi-sIx items.size 0 lo)).toArray} })
  (hsz:items.size<=yam):wpAny (model prog w) A (ycl (.ref t) (.ref sl)) Q E s:=by
 have htake:sizeOk (.seq ((items.toList.drop (sIx items.size 0 lo)).take (sIx items.size items.size hi-sIx items.size 0 lo)).toArray):=by
  show((items.toList.drop (sIx items.size 0 lo)).take (sIx items.size items.size hi-sIx items.size 0 lo)).toArray.size<=yam
  rw[sT_,ya3,ybp,ycm]
  omega
 have hj:sIx items.size items.size hi<=items.size:=qkV _ _ (yah _) hi
 obtain⟨os,hos,hcs,hds⟩:=id hs
 have hTs:s.TypeIs (.ref sl) "slice":=⟨os,hos,hcs⟩
 unfold ycl
 try with_reducible refine yba ?_
 first|refine yaa (yac ?_)|skip
 refine yaa (ydH ht.typeIs (by decide) ?_)
 refine yaa (wpAny_callSpecial?_slot (name:=ybo "__getitem__") ht.typeIs yaW
  (ybi yaW ht.typeIs yde ?_ (ydq _ _)))
 show wpAny _ _ (ycj (.ref t) >>= _) _ _ s
 refine yaa (yeS ht ?_)
 refine yaa (yc6 hTs ?_)
 rw[if_pos (by decide)]
 refine yaa (sliceApplied_gen hs pl pu ?_)
 have hno:¬((((sIx items.size 0 lo:Nat):Int)==0&&(1:Int)==1&&(sIx items.size items.size hi-sIx items.size 0 lo)==items.size)=true):=by
  intro q
  rw[yal,yal]at q
  have q1:((sIx items.size 0 lo:Nat):Int)=0:=yc0 q.1.1
  have q2:sIx items.size items.size hi-sIx items.size 0 lo=items.size:=yc0 q.2
  exact hw ⟨by omega,by omega⟩
 show wpAny _ _ (if(((sIx items.size 0 lo:Nat):Int)==0&&(1:Int)==1&&(sIx items.size items.size hi-sIx items.size 0 lo)==items.size)=true then _ else _) _ _ s
 rw[if_neg hno,qg3]
 first
  |exact yaa (m:=yaU _) (yaJ (yac ⟨_,rfl,yac h⟩) htake)
  |exact yaa (m:=yaU _) (yaJ (yaa (yac (yac ⟨_,rfl,yac h⟩))) htake)
  |exact yaa (yaa (m:=yaU _) (yaJ (yac (yac ⟨_,rfl,yac h⟩)) htake))
  |exact yaa (yaa (m:=yaU _) (yaJ (yac ⟨_,rfl,yac h⟩) htake))
end
end HT
namespace L2
open PySem PySem.Spec PyProof.Rows
abbrev TO:=St->Hp->(Option Int->Hp->Prop)->Prop
def PO (X:Cx) (e:Option Expr) (t:TO):Prop :=
 ∀ (pins:List (Addr×Obj)) (s:yab) (σ:St) (H:Hp) (Q:Option Int->Hp->Prop),Inv X pins σ H s->t σ H Q ->
  wpAny (model X.prog X.w) X.A (evalPart e X.env) (λu s'=>∃o H',Inv X pins σ H' s'/\ycx u o/\Q o H') X.xe s
def qi0:TO:=λ_ H Q=>Q none H
def qmM(t:TE):TO:=λσ H Q=>t σ H λx H1=>∃i,x=.int i/\Q (some i) H1
theorem qex {ns:List Int}:∀{us:List Value},ze (ns.map V.int) us->ybN us ns:=by
 induction ns with
 |nil=>intro us r;rw[yc7]at r;cases r;exact .nil
 | cons n ns ih=>
  intro us r
  rw[mC_]at r
  cases r with
  |cons r1 r2=>
   obtain⟨t,e⟩:=r1
   subst e
   exact .cons n t (ih r2)
section
variable{X:Cx}{e:Expr}{te:TE}{lo hi:Option Expr}{tl th:TO}{pos p2:Pos}
theorem qi1:PO X none qi0:=by
 intro pins s σ H Q I h
 rw[yeT]
 exact yac ⟨none,H,I,.none,h⟩
theorem qfo (h:PE X e te):PO X (some e) (qmM te):=by
 intro pins s σ H Q I hw
 rw[evalPart_some]
 refine thn (h pins s σ H _ I hw) λu s1 ⟨x,H1,I1,r1,q1⟩=>?_
 obtain⟨i,rfl,q⟩:=q1
 obtain⟨t,rfl⟩:=r1
 exact⟨some i,H1,I1,.int i t,q⟩
def SlR (X:Cx) (r:V->Option Int->Option Int->Hp->VK->Prop):Prop :=
 ∀ (pins:List (Addr×Obj)) (s:yab) (σ:St) (H:Hp) (x:V) (v vl vu:Value) (lo hi:Option Int) (sl:Addr) (Q:VK),Inv X pins σ H s->jO x v->s.heap.IsSliceOf sl vl vu .none->ycx vl lo->ycx vu hi->r x lo hi H Q ->
  ∃T id,yfH (.type T) "__getitem__"=pure (some (.builtin id))/\s.TypeIs v T/\wpAny (model X.prog X.w) X.A (ycl v (.ref sl)) (EP X pins σ Q) X.xe s
theorem SlR.or {r r':V->Option Int->Option Int->Hp->VK->Prop} (h:SlR X r) (h':SlR X r'):SlR X (λx lo hi H Q=>r x lo hi H Q\/r' x lo hi H Q):=by
 intro pins s σ H x v vl vu lo hi sl Q I rx hs pl pu q
 rcases q with q|q
 ·exact h pins s σ H x v vl vu lo hi sl Q I rx hs pl pu q
 ·exact h' pins s σ H x v vl vu lo hi sl Q I rx hs pl pu q
def tSl(r:V->Option Int->Option Int->Hp->VK->Prop)(te:TE)(tl th:TO):TE:=λσ H Q=>te σ H λx H1=>tl σ H1 λl H2=>th σ H2 λu H3=>r x l u H3 Q
theorem qg4 {r:V->Option Int->Option Int->Hp->VK->Prop} (hr:SlR X r) (he:PE X e te) (hl:PO X lo tl) (hu:PO X hi th):PE X (.Subscript e (.Slice lo hi none p2) pos) (tSl r te tl th):=by
 intro pins s σ H Q I h
 refine yfI (thn (he pins s σ H _ I h) λv s1 ⟨x,H1,I1,r1,q1⟩=>?_)
 refine wpAny_Slice (thn (hl pins s1 σ H1 _ I1 q1) λvl s2 ⟨l,H2,I2,pl,q2⟩=>thn (hu pins s2 σ H2 _ I2 q2) λvu s3 ⟨u,H3,I3,pu,q3⟩=>?_)
 rw[yeT]
 refine yac ?_
 have I4:Inv X pins σ H3 {s3 with heap:=s3.heap.push {cls:=.type "slice",data:=.fields #[vl,vu,.none]} }:=I3.kept (t':=s3.toks) λb ob q=>Heap.get?_push_of_some _ q
 obtain⟨T,id,hT,ht,hg⟩:=hr pins {s3 with heap:=s3.heap.push {cls:=.type "slice",data:=.fields #[vl,vu,.none]} } σ H3 x v vl vu l u s3.heap.objs.size Q I4 r1 (ye9 ..) pl pu q3
 show wpAny (model X.prog X.w) X.A (subscriptTail e (.Slice lo hi none p2) v (.ref s3.heap.objs.size)) (EP X pins σ Q) X.xe {s3 with heap:=s3.heap.push {cls:=.type "slice",data:=.fields #[vl,vu,.none]} }
 exact tail_any (ops:=[.ref s3.heap.objs.size,v]) ht hT hg (by with_unfolding_all rfl)
def qgT(xs:List V)(lo hi:Option Int):List V:=(xs.drop (HT.sIx xs.length 0 lo)).take (HT.sIx xs.length xs.length hi-HT.sIx xs.length 0 lo)
theorem qaj (xs:List V) (lo hi:Option Int):(qgT xs lo hi).length<=xs.length:=by
 unfold qgT
 rw[ya3,ybp]
 omega
def qno (K:yai):V->Option Int->Option Int->Hp->VK->Prop:=λx lo hi H Q=>∃a xs,x=.ref a/\SqT K H a xs /\
 ¬(HT.sIx xs.length 0 lo=0/\HT.sIx xs.length xs.length hi=xs.length)/\∀p,H p=none->Q (.ref p) (upd H p (.tup (qgT xs lo hi)))
theorem sl_tup:SlR X (qno X.K):=by
 intro pins s σ H x v vl vu lo hi sl Q I rx hs pl pu h
 obtain⟨a,xs,rfl,hx,hw,q⟩:=h
 cases rx
 obtain⟨its,r,ht,hz⟩:=I.tuple hx
 have hlen:its.toArray.size=xs.length:=by rw[sT_];exact r.length.symm
 refine⟨"tuple",_,PyProof.Rows.slot_tuple_getitem.lookup,ht.typeIs,?_⟩
 refine HT.getItem_tuple_cut ht hs pl pu (by rw[hlen];exact hw) ?_ (by rw[hlen];exact hz)
 rw[hlen]
 refine⟨.ref s.heap.objs.size,_,I.laid (t':=s.toks) (o:=.tup (qgT xs lo hi)) (λb ob q=>Heap.get?_push_of_some _ q) (yah _) ?_,rfl,q _ (I.hok.fresh (yah _))⟩
 exact⟨yaF (qaj xs lo hi) hz,_,(r.drop (HT.sIx xs.length 0 lo)).take (HT.sIx xs.length xs.length hi-HT.sIx xs.length 0 lo),ycZ _ _⟩
def qkW (K:yai):R2:=λx y H Q=>∃a b xs ys,x=.ref a/\y=.ref b/\SqT K H a xs/\SqT K H b ys/\xs≠[]/\xs.length+ys.length<=yam /\
 (ys=[]->Q (.ref a) H)/\(ys≠[]->∀p,H p=none->Q (.ref p) (upd H p (.tup (xs++ys))))
theorem ze.nil_iff {xs:List V} {us:List Value} (r:ze xs us):us=[] ↔ xs=[]:=by
 cases r with
 |nil=>simp
 |cons _ _=>simp
theorem qi2:OpR X (ybe .Add) (qkW X.K):=by
 intro pins s σ H x y v u Q I rx ry h
 obtain⟨a,b,xs,ys,rfl,rfl,ha,hb,hx,hz,q1,q2⟩:=h
 cases rx
 cases ry
 obtain⟨its,r1,p1,_⟩:=I.tuple ha
 obtain⟨its2,r2,p2,_⟩:=I.tuple hb
 refine HT.cat_tup p1 p2 (λz=>hx (r1.nil_iff.mp z)) (λz=>⟨.ref a,H,I,rfl,q1 (r2.nil_iff.mp z)⟩) (λz=>?_) (by rw[<-r1.length,<-r2.length];exact hz)
 refine⟨.ref s.heap.objs.size,_,I.laid (t':=s.toks) (o:=.tup (xs++ys)) (λb ob q=>Heap.get?_push_of_some _ q) (yah _) ?_,rfl,q2 (λw=>z (r2.nil_iff.mpr w)) _ (I.hok.fresh (yah _))⟩
 exact⟨by rw[lA_];exact hz,_,r1.append r2,ycZ _ _⟩
end
end L2
namespace L2
open PySem PySem.Spec PyProof.Rows
def ixN(n:Nat)(i:Int):Option Nat:=if 0<=i then(if i<n then some i.toNat else none)else if -(n:Int)<=i then some (i+n).toNat else none
def atI{α:Type}(xs:List α)(i:Int):Option α:=(ixN xs.length i).bind λj=>xs[j]?
theorem qfp {n:Nat} {i:Int} {j:Nat} (h:ixN n i=some j):seqIndex? i n=some j/\j<n /\ -(n:Int)<=i/\i<n:=by
 unfold ixN at h
 by_cases h0:0<=i
 ·rw [if_pos h0]at h
  by_cases h1:i<n
  ·rw[if_pos h1]at h
   have e:i.toNat=j:=yaI h
   exact⟨by rw[yfy h0 h1,e],by omega,by omega,h1⟩
  ·rw[if_neg h1]at h;cases h
 ·rw [if_neg h0]at h
  by_cases h1 : -(n:Int)<=i
  ·rw[if_pos h1]at h
   have e:(i+n).toNat=j:=yaI h
   exact⟨by rw[yfa (by omega) h1,e],by omega,h1,by omega⟩
  ·rw[if_neg h1]at h;cases h
theorem qfq {α:Type} {xs:List α} {i:Int} {v:α} (h:atI xs i=some v):∃j,seqIndex? i xs.length=some j/\xs[j]? = some v/\j<xs.length /\ -(xs.length:Int)<=i/\i<xs.length:=by
 unfold atI at h
 cases e:ixN xs.length i with
 |none=>rw[e]at h;cases h
 |some j=>
  rw[e]at h
  obtain⟨h1,h2,h3,h4⟩:=qfp e
  exact⟨j,h1,h,h2,h3,h4⟩
def qc2(b:Expr):Prop:=∀o i,subscripted b false o i=operate [o,i] (ycl o i)
def IxR (X:Cx) (r:R2):Prop :=
 ∀ (value slice:Expr) (pins:List (Addr×Obj)) (s:yab) (σ:St) (H:Hp) (x y:V) (v u:Value) (Q:VK),Inv X pins σ H s->jO x v->jO y u->r x y H Q ->
  subscripted slice false v u=operate [v,u] (ycl v u)->wpAny (model X.prog X.w) X.A (subscriptTail value slice v u) (EP X pins σ Q) X.xe s
def MtR (X:Cx) (id:String) (r:V->List V->Hp->VK->Prop):Prop :=
 ∀ (pins:List (Addr×Obj)) (s:yab) (σ:St) (H:Hp) (x:V) (xs:List V) (v:Value) (us:List Value) (Q:VK),Inv X pins σ H s->jO x v->ze xs us->r x xs H Q ->
  wpAny (model X.prog X.w) X.A (call (.builtin id) (v::us)) (EP X pins σ Q) X.xe s
section
variable{X:Cx}{a b:Expr}{ta tb:TE}{pos:Pos}
theorem IxR.or {r r':R2} (h:IxR X r) (h':IxR X r'):IxR X (λx y H Q=>r x y H Q\/r' x y H Q):=by
 intro value slice pins s σ H x y v u Q I rx ry q hs
 rcases q with q|q
 ·exact h value slice pins s σ H x y v u Q I rx ry q hs
 ·exact h' value slice pins s σ H x y v u Q I rx ry q hs
theorem MtR.or {id:String} {r r':V->List V->Hp->VK->Prop} (h:MtR X id r) (h':MtR X id r'):MtR X id (λx xs H Q=>r x xs H Q\/r' x xs H Q):=by
 intro pins s σ H x xs v us Q I rx rs q
 rcases q with q|q
 ·exact h pins s σ H x xs v us Q I rx rs q
 ·exact h' pins s σ H x xs v us Q I rx rs q
theorem qkX {r:R2} (hr:IxR X r) (ha:PE X a ta) (hb:PE X b tb) (hs:qc2 b):PE X (.Subscript a b pos) (tOp r ta tb):=by
 intro pins s σ H Q I h
 exact yfI (qmD ha hb I h λv u s2 x y H2 I2 rx ry q=>hr a b pins s2 σ H2 x y v u Q I2 rx ry q (hs _ _))
def qmN(K:yai):R2:=λx y H Q=>∃p xs i v,x=.ref p/\y=.int i/\SqL K H p xs/\atI xs i=some v/\Q v H
def qmO(K:yai):R2:=λx y H Q=>∃p xs i v,x=.ref p/\y=.int i/\SqT K H p xs/\atI xs i=some v/\Q v H
theorem qfr:IxR X (qmN X.K):=by
 intro value slice pins s σ H x y v u Q I rx ry h hs
 obtain⟨p,xs,i,z,rfl,rfl,hq,he,q⟩:=h
 cases rx
 obtain⟨t,rfl⟩:=ry
 obtain⟨its,r,pl,hz⟩:=I.list hq
 obtain⟨j,h1,h2,h3,h4,h5⟩:=qfq he
 obtain⟨w,ew,rw'⟩:=r.get h2
 have hl:=r.length
 have hn:=qcc
 have fin:EP X pins σ Q w s:=⟨z,H,I,rw',q⟩
 by_cases h0:0<=i
 ·have hj:i.toNat=j:=by
   rw[yfy h0 h5]at h1
   exact yaI h1
  exact item_listR pl.isList h0 (by omega) (by rw[hj];simpa using ew) fin hs
 ·have hj:(i+(its.toArray.size:Int)).toNat=j:=by
   rw[yfa (by omega) h4]at h1
   rw[sT_,<-hl]
   exact yaI h1
  exact yeo (x:=w) pl.isList.typeIs slot_list_getitem.lookup
   (wpAny_getItem_list_neg (Q:=λr s'=>r=w/\EP X pins σ Q r s') pl.isList (by omega) (by rw[sT_]<;>omega) (by omega) (by rw[hj];simpa using ew) ⟨rfl,fin⟩) hs
theorem qkY:IxR X (qmO X.K):=by
 intro value slice pins s σ H x y v u Q I rx ry h hs
 obtain⟨p,xs,i,z,rfl,rfl,hq,he,q⟩:=h
 cases rx
 obtain⟨t,rfl⟩:=ry
 obtain⟨its,r,pl,hz⟩:=I.tuple hq
 obtain⟨j,h1,h2,h3,h4,h5⟩:=qfq he
 obtain⟨w,ew,rw'⟩:=r.get h2
 have hl:=r.length
 have hn:=qcc
 have fin:EP X pins σ Q w s:=⟨z,H,I,rw',q⟩
 exact yeo (x:=w) pl.typeIs slot_tuple_getitem.lookup
  (getItem_tuple (j:=j) (Q:=λr s'=>r=w/\EP X pins σ Q r s') pl (by omega) (by omega) (by rw[sT_,<-hl];exact h1) (by simpa using ew) ⟨rfl,fin⟩) hs
theorem qey (its:List Value) (n j:Nat) (u:Value):yaH (·.setIfInBounds j u) {cls:=.type "list",data:=.seq its.toArray n}={cls:=.type "list",data:=.seq (its.set j u).toArray n}:=by
 simp[yaH]
theorem Inv.lst {pins:List (Addr×Obj)} {σ:St} {H:Hp} {s:yab} {p:Addr} {xs:List V} (I:Inv X pins σ H s) (h:H p=some (.lst xs)) :
  ∃(its:List Value)(n:Nat),ze xs its/\s.heap.get? p=some {cls:=.type "list",data:=.seq its.toArray n}/\xs.length<=yam:=by
 obtain⟨z,its,n,r,e⟩:=I.hok p _ h
 exact⟨its,n,r,e,z⟩
theorem Inv.lstUpd {pins:List (Addr×Obj)} {σ:St} {H:Hp} {s:yab} {p:Addr} {xs ys:List V} {its its':List Value} {n n':Nat} {f:Obj->Obj} (I:Inv X pins σ H s) (h:H p=some (.lst xs))
  (ho:s.heap.get? p=some {cls:=.type "list",data:=.seq its.toArray n}) (hf:f {cls:=.type "list",data:=.seq its.toArray n}={cls:=.type "list",data:=.seq its'.toArray n' }) (r:ze ys its') (hz:ys.length<=yam) (t:Nat) :
  Inv X pins σ (upd H p (.lst ys)) {s with heap:=s.heap.update p f,toks:=t}:=by
 have e:(s.heap.update p f).get? p=some {cls:=.type "list",data:=.seq its'.toArray n' }:=by
  rw[Heap.get?_update_self f ho (by rw[hf]<;>rfl),hf]
 refine I.write (x:=p) (e:=p) (by rw[h];trivial) (.inl rfl) (λb u hb q=>(Heap.get?_update_other _ _ (yaX hb)).trans q) ⟨_,e⟩ ?_
 exact⟨hz,its',n',r,e⟩
def qmP:V->V->V->Hp->(Hp->Prop)->Prop:=λo i v H Q=>∃p xs k j,o=.ref p/\i=.int k/\H p=some (.lst xs)/\ixN xs.length k=some j/\Q (upd H p (.lst (xs.set j v)))
theorem qg5:qni X qmP:=by
 intro pins s σ H o i v ov iv u Q I ro ri rv h
 obtain⟨p,xs,k,j,rfl,rfl,hp,hj,q⟩:=h
 cases ro
 obtain⟨t,rfl⟩:=ri
 obtain⟨its,n,r,ho,hz⟩:=I.lst hp
 obtain⟨h1,h2,h3,h4⟩:=qfp hj
 have hl:=r.length
 have hn:=qcc
 have I':Inv X pins σ (upd H p (.lst (xs.set j v))) {s with heap:=s.heap.update p (yaH (·.setIfInBounds j u))} :=
  I.lstUpd hp ho (qey its n j u) (r.set rv j) (by rw[lS_];exact hz) s.toks
 by_cases h0:0<=k
 ·have hk:k.toNat=j:=by
   rw[yfy h0 h4]at h1
   exact yaI h1
  exact PySem.W.ki_setAt ho h0 (by omega) (by rw[sT_,<-hl];exact h4) (by rw[hk];exact⟨_,I',q⟩)
 ·have hk:(k+(its.toArray.size:Int)).toNat=j:=by
   rw[yfa (by omega) h3]at h1
   rw[sT_,<-hl]
   exact yaI h1
  exact PySem.W.ki_setBack ho (by omega) (by rw[sT_,<-hl];exact h3) (by omega) (by rw[hk];exact⟨_,I',q⟩)
theorem qcg (lo hi:Option Int) (n:Nat):(yb7 lo hi none n).1=((HT.sIx n 0 lo:Nat):Int)/\(yb7 lo hi none n).2.1=((HT.sIx n n hi:Nat):Int)/\(yb7 lo hi none n).2.2=1:=by
 refine⟨?_,?_,rfl⟩
 ·cases lo with
  |none=>simp[yb7,HT.sIx]
  |some i=>
   simp only[yb7,HT.sIx,Option.getD_none,show(1:Int)>0 by decide,if_true]
   by_cases h:i<0
   ·simp only[h,if_true]<;>omega
   ·simp only[h,if_false]<;>omega
 ·cases hi with
  |none=>simp[yb7,HT.sIx]
  |some i=>
   simp only[yb7,HT.sIx,Option.getD_none,show(1:Int)>0 by decide,if_true]
   by_cases h:i<0
   ·simp only[h,if_true]<;>omega
   ·simp only[h,if_false]<;>omega
theorem qbu (its:List Value) (lo hi:Option Int):yfb its.toArray lo hi none=((its.drop (HT.sIx its.length 0 lo)).take (HT.sIx its.length its.length hi-HT.sIx its.length 0 lo)).toArray:=by
 obtain⟨h1,h2,h3⟩:=qcg lo hi its.toArray.size
 unfold yfb
 rw[h1,h2,h3]
 simp only[sliceRange_one,pick_run,sT_]<;>rfl
def qn9(K:yai):V->Option Int->Option Int->Hp->VK->Prop:=λx lo hi H Q=>∃a xs,x=.ref a/\SqL K H a xs/\∀p,H p=none->Q (.ref p) (upd H p (.lst (qgT xs lo hi)))
theorem qi3:SlR X (qn9 X.K):=by
 intro pins s σ H x v vl vu lo hi sl Q I rx hs pl pu h
 obtain⟨a,xs,rfl,hx,q⟩:=h
 cases rx
 obtain⟨its,r,ht,hz⟩:=I.list hx
 have hlen:=r.length
 refine⟨"list",_,slot_list_getitem.lookup,ht.isList.typeIs,?_⟩
 refine ydU ht.isList hs pl pu .none (by simp) ?_ (by rw[sT_]<;>omega)
 rw[qbu,<-hlen]
 refine⟨.ref s.heap.objs.size,_,I.laid (t':=s.toks) (o:=.lst (qgT xs lo hi)) (λb ob q=>Heap.get?_push_of_some _ q) (yah _) ?_,rfl,q _ (I.hok.fresh (yah _))⟩
 exact⟨yaF (qaj xs lo hi) hz,_,0,(r.drop (HT.sIx xs.length 0 lo)).take (HT.sIx xs.length xs.length hi-HT.sIx xs.length 0 lo),Heap.get?_push_size _ rfl⟩
def qoa:V->Bool
 |.non=>true
 |.bl _=>true
 |.int _=>true
 |.str _=>true
 |_=>false
def eqV:V->V->Bool
 |.non,.non=>true
 |.bl a,.bl b=>a==b
 |.bl a,.int b=>(if a then 1 else 0)==b
 |.int a,.bl b=>a==(if b then 1 else 0)
 |.int a,.int b=>a==b
 |.str a,.str b=>a==b
 |_,_=>false
theorem qch:yr X (.builtin "len") (λxs H Q=>∃p ys,xs=[.ref p]/\(SqL X.K H p ys\/SqT X.K H p ys)/\Q (.int ys.length) H):=by
 intro pins s σ H xs us Q I r h
 obtain⟨p,ys,rfl,hq,q⟩:=h
 obtain⟨u,rfl,rx⟩:=qfi r
 cases rx
 have hn:=qcc
 rcases hq with hq|hq
 ·obtain⟨its,r',pl,hz⟩:=I.list hq
  have hlen:=r'.length
  exact Calls.call_len_list pl.isList (by simp only[sT_]<;>omega) ⟨.int ys.length,H,I.tok _,⟨s.toks+1,by rw[sT_,hlen]⟩,q⟩
 ·obtain⟨its,r',pl,hz⟩:=I.tuple hq
  have hlen:=r'.length
  exact len_tuple pl (by simp only[sT_]<;>omega) ⟨.int ys.length,H,I.tok _,⟨s.toks+1,by rw[sT_,hlen]⟩,q⟩
theorem qci:yr X (.builtin "len") (λxs H Q=>∃z,xs=[.str z]/\z.length<=yam/\Q (.int z.length) H):=by
 intro pins s σ H xs us Q I r h
 obtain⟨z,rfl,hz,q⟩:=h
 obtain⟨u,rfl,t,rfl⟩:=qfi r
 have hn:=qcc
 exact len_str (by omega) ⟨.int z.length,H,I.tok _,⟨_,rfl⟩,q⟩
theorem yr.or {f:Value} {r r':List V->Hp->VK->Prop} (h:yr X f r) (h':yr X f r'):yr X f (λxs H Q=>r xs H Q\/r' xs H Q):=by
 intro pins s σ H xs us Q I rs q
 rcases q with q|q
 ·exact h pins s σ H xs us Q I rs q
 ·exact h' pins s σ H xs us Q I rs q
theorem qcj:yr X (.type "list") (λxs H Q=>∃p ys,xs=[.ref p]/\(SqL X.K H p ys\/SqT X.K H p ys)/\∀l,H l=none->Q (.ref l) (upd H l (.lst ys))):=by
 intro pins s σ H xs us Q I r h
 obtain⟨p,ys,rfl,hq,q⟩:=h
 obtain⟨u,rfl,rx⟩:=qfi r
 cases rx
 have fin:∀(its:List Value),ze ys its->ys.length<=yam->∀(h':Heap)(c':Nat),(∀b o',s.heap.get? b=some o'->h'.get? b=some o') ->
   h'.get? s.heap.objs.size=some {cls:=.type "list",dict:=none,data:=.seq its.toArray c',slots := #[]}->EP X pins σ Q (.ref s.heap.objs.size) {s with heap:=h' }:=λits r' hz h' c' kp e=>
  ⟨.ref s.heap.objs.size,_,I.laid (t':=s.toks) kp (yah _) (show yq X.prog X.w _ h' _ (.lst ys) from⟨hz,its,c',r',e⟩),rfl,q _ (I.hok.fresh (yah _))⟩
 rcases hq with hq|hq
 ·obtain⟨its,r',pl,hz⟩:=I.list hq
  have hlen:=r'.length
  obtain⟨o,ho,hc,n,hd⟩:=pl.isList
  exact call_list_seq p (.inl rfl) ho hc hd (λh' c' kp e=>fin its r' hz h' c' kp e) (by simp only[sT_]<;>omega)
 ·obtain⟨its,r',pl,hz⟩:=I.tuple hq
  have hlen:=r'.length
  obtain⟨o,ho,hc,n,hd⟩:=pl
  exact call_list_seq p (.inr rfl) ho hc hd (λh' c' kp e=>fin its r' hz h' c' kp e) (by simp only[sT_]<;>omega)
theorem jH:yr X (.type "tuple") (λxs H Q=>∃p ys,xs=[.ref p]/\((SqL X.K H p ys/\∀l,H l=none->Q (.ref l) (upd H l (.tup ys)))\/(SqT X.K H p ys/\Q (.ref p) H))):=by
 intro pins s σ H xs us Q I r h
 obtain⟨p,ys,rfl,h⟩:=h
 obtain⟨u,rfl,rx⟩:=qfi r
 cases rx
 rcases h with⟨hq,q⟩|⟨hq,q⟩
 ·obtain ⟨its,r',pl,hz⟩:=I.list hq
  have hlen:=r'.length
  refine call_tuple_list pl.isList (λh' kp=>?_) (by simp only[sT_]<;>omega)
  have I1:Inv X pins σ H {s with heap:=h' }:=I.kept (t':=s.toks) kp
  have I2:Inv X pins σ (upd H h'.objs.size (.tup ys)) {s with heap:=h'.push {cls:=.type "tuple",data:=.seq its.toArray} } :=
   I1.laid (t':=s.toks) (λb o e=>Heap.get?_push_of_some _ e) (yah _) (show yq X.prog X.w _ _ _ (.tup ys) from⟨hz,its,r',ycZ _ _⟩)
  exact⟨.ref h'.objs.size,_,I2,rfl,q _ (I1.hok.fresh (yah _))⟩
 ·obtain⟨its,r',pl,hz⟩:=I.tuple hq
  exact call_tuple_same pl ⟨.ref p,H,I,rfl,q⟩
def tyV (K:yai) (T:String) (x:V) (H:Hp):Prop:=match x with
 |.str _=>T="str"
 |.int _=>T="int"
 | .ref p=>(T="list"/\∃xs,SqL K H p xs)\/(T="tuple"/\∃o,K.lookup p=some o/\o.cls=.type "tuple"/\o.dict=none) \/
   (T="dict"/\((∃kvs,H p=some (.dK kvs))\/∃kvs,H p=some (.dT kvs)))\/(T="set"/\∃S n,H p=some (.set S n))
 |_=>False
theorem qkZ {pins:List (Addr×Obj)} {σ:St} {H:Hp} {s:yab} {T:String} {x:V} {v:Value} (I:Inv X pins σ H s) (r:jO x v) (ty:tyV X.K T x H) :
  s.TypeIs v T/\∀a,v=.ref a->∃ob,s.heap.get? a=some ob/\ob.dict=none:=by
 cases x with
 |str z=>
  obtain⟨t,rfl⟩:=r
  cases (show T="str" from ty)
  exact⟨typeIs_str s z t,λ_ e=>nomatch e⟩
 |int i=>
  obtain⟨t,rfl⟩:=r
  cases (show T="int" from ty)
  exact⟨yb6 s i t,λ_ e=>nomatch e⟩
 | ref p=>
  cases r
  rcases ty with⟨rfl,xs,hq⟩|⟨rfl,o,hk,hc,hd⟩|⟨rfl,hk⟩|⟨rfl,S,n,hk⟩
  ·obtain⟨its,_,pl,_⟩:=I.list hq
   refine⟨pl.isList.typeIs,λa e=>?_⟩
   cases e
   obtain⟨o,n,e,c,hd,_⟩:=pl
   exact⟨o,e,hd⟩
  ·refine⟨⟨o,I.kIn p o hk,hc⟩,λa e=>?_⟩
   cases e
   exact⟨o,I.kIn _ o hk,hd⟩
  ·have z:∃o,s.heap.get? p=some o/\o.ExactDict:=by
    rcases hk with⟨kvs,hk⟩|⟨kvs,hk⟩
    ·obtain⟨_,_,_,_,o,_,_,e,ex,_⟩:=I.hok p _ hk
     exact⟨o,e,ex⟩
    ·obtain⟨_,_,_,_,o,_,_,e,ex,_⟩:=I.hok p _ hk
     exact⟨o,e,ex⟩
   obtain⟨o,e,ex⟩:=z
   refine⟨⟨o,e,ex.1⟩,λa e2=>?_⟩
   cases e2
   exact⟨o,e,ex.2.1⟩
  ·obtain⟨o,_,_,_,e,ex,_⟩:=I.hok p _ hk
   refine⟨⟨o,e,ex.1⟩,λa e2=>?_⟩
   cases e2
   exact⟨o,e,ex.2.1⟩
 |_=>exact yaV ty
def tBM(K:yai)(T:String)(r:V->List V->Hp->VK->Prop)(to:TE)(t:TA):TE:=λσ H Q=>to σ H λx H1=>tyV K T x H1/\t σ H1 λxs H2=>r x xs H2 Q
variable{o e:Expr}{es:List Expr}{to:TE}{t:TA}{name:Str}{apos cpos:Pos}{T id:String}{r:V->List V->Hp->VK->Prop}
theorem qk0 (pa:PlainAttrs T) (slot:Slot T name id) (hty:typeOf (.builtin id)=pure (.type "method_descriptor")) (hm:MtR X id r) (ho:PE X o to) (ha:PA X (e::es) t)
  (hbase:yeU o name X.env (eval o X.env)=eval o X.env:=by rfl)
  (hfew:((yaQ cpos (yae (e::es) X.env)).all (λx => !x.1)&&(backToKw cpos (yfz [] X.env)).all (λx=>x.1.isSome)
   && decide ((e::es).length+([]:List ydO).length+(if([]:List ydO).isEmpty then 0 else 1)<30))=true:=by rfl)
  (hline:(apos.endLine==cpos.line)=true:=by rfl) (hs:yae (e::es) X.env=(false,eval e X.env)::yae es X.env:=by rfl) (hplain:(yaQ cpos (yae es X.env)).any (·.1)=false:=by rfl) :
  PE X (.Call (.Attribute o name apos) (e::es) [] cpos) (tBM X.K T r to t):=by
 intro pins s σ H Q I h
 refine wpAny_Call_method_late hbase hfew hline rfl (thn (ho pins s σ H _ I h) λv s1 ⟨x,H1,I1,r1,ty,q1⟩=>?_)
 obtain⟨h1,h2⟩:=qkZ I1 r1 ty
 refine⟨T,id,pa,slot,hty,h1,h2,?_⟩
 have hA:=ha cpos pins s1 σ H1 _ I1 q1
 rw[hs]at hA |-
 refine Calls.callWith_builtin (by show(false||(yaQ cpos (yae es X.env)).any (·.1))=false;rw[hplain]<;>rfl) (yeI ?_)
 exact thn hA λus s2 ⟨vs,H2,I2,r2,q2⟩=>hm pins s2 σ H2 x vs v us Q I2 r1 r2 q2
/- xs.append(e),list.index on a module's tuple .. are MtR facts of 06m -/
end
end L2
namespace L2
open PySem PySem.Spec PyProof.Rows
def MtM (X:Cx) (id:String) (r:V->List V->Hp->VK->Prop):Prop :=
 ∀ (pins:List (Addr×Obj)) (s:yab) (σ:St) (H:Hp) (x:V) (xs:List V) (v:Value) (us:List Value) (Q:VK),Inv X pins σ H s->jO x v->ze xs us->r x xs H Q ->
  wpAny (model X.prog X.w) X.A (call (.builtin id) (v::us)) (EP X pins σ Q) X.xe s
theorem ze.one:∀{x:V}{us:List Value},ze [x] us->∃u,us=[u]/\jO x u
 |_,_,.cons r .nil=>⟨_,rfl,r⟩
theorem ze.two:∀{x y:V}{us:List Value},ze [x,y] us->∃u v,us=[u,v]/\jO x u/\jO y v
 |_,_,_,.cons r (.cons q .nil)=>⟨_,_,rfl,r,q⟩
theorem ze.eraseIdx:∀{xs:List V}{us:List Value}(i:Nat),ze xs us->ze (xs.eraseIdx i) (us.eraseIdx i)
 |_,_,_,.nil => .nil
 |_,_,0,.cons _ t=>t
 |_,_,i+1,.cons r t => .cons r (ze.eraseIdx i t)
theorem ze.reverse {xs:List V} {us:List Value} (h:ze xs us):ze xs.reverse us.reverse:=by
 induction h with
 |nil=>exact .nil
 |cons r t ih=>rw[ycF,ycF];exact ze.append ih (.cons r .nil)
theorem ze.rep {xs:List V} {us:List Value} (h:ze xs us):∀k:Nat,ze (yap k xs).flatten (yap k us).flatten
 |0 => .nil
 |k+1=>by
  rw[rS_,rS_,ybA,ybA]
  exact ze.append h (ze.rep h k)
theorem qak (its:List Value):∀(k:Nat)(acc:List Value),
  yeJ (λx1 x2=>x1++x2) acc.toArray (yap k its.toArray)=(acc++(yap k its).flatten).toArray
 |0,acc=>by simp
 | k+1,acc=>by
  have e:acc.toArray++its.toArray=(acc++its).toArray:=by simp
  have e2:(acc++its)++(yap k its).flatten=acc++(yap (k+1) its).flatten:=by
   rw[rS_,ybA,aA_]
  rw[<-e2,<-qak its k (acc++its),<-e,rS_,List.foldl_cons]
section
variable{X:Cx}{pins:List (Addr×Obj)}{σ:St}{H:Hp}{s:yab}{l b:Addr}{xs ys zs:List V}
theorem Inv.lset {its its':List Value} {n:Nat} {f:Array Value->Array Value} {t':Nat} (I:Inv X pins σ H s) (hH:H l=some (.lst xs))
  (e:s.heap.get? l=some {cls:=.type "list",data:=.seq its.toArray n}) (hf:f its.toArray=its'.toArray) (hv:ze ys its') (hz:ys.length<=yam) :
  Inv X pins σ (upd H l (.lst ys)) {s with heap:=s.heap.update l (yaH f),toks:=t' }:=by
 have q:=PySem.IsL.update e f
 rw[hf]at q
 refine I.write (x:=l) (e:=l) (by rw[hH];exact trivial) (.inl rfl) (λb' u hb hu=>(Heap.get?_update_other s.heap (yaH f) (yaX hb)).trans hu) ⟨_,q⟩ ?_
 exact⟨hz,its',_,hv,q⟩
theorem Inv.lnew {its:List Value} {t':Nat} (I:Inv X pins σ H s) (hv:ze ys its) (hz:ys.length<=yam) :
  Inv X pins σ (upd H s.heap.objs.size (.lst ys)) {s with heap:=s.heap.push {cls:=.type "list",data:=.seq its.toArray},toks:=t' } :=
 I.laid (λ_ _ q=>Heap.get?_push_of_some _ q) (yah _) ⟨hz,its,0,hv,Heap.get?_push_size _ rfl⟩
theorem Inv.fresh(I:Inv X pins σ H s):H s.heap.objs.size=none:=I.hok.fresh (yah _)
theorem Inv.lstM (I:Inv X pins σ H s) (hH:H l=some (.lst xs)):xs.length<=yam/\∃(its:List Value)(n:Nat),ze xs its/\xs.length=its.length/\s.heap.get? l=some {cls:=.type "list",data:=.seq its.toArray n}:=by
 obtain⟨z,its,n,r,e⟩:=I.hok l _ hH
 exact⟨z,its,n,r,r.length,e⟩
theorem qdH {n:Nat} (h:n<=yam):ybY n=false:=by
 unfold ybY
 exact decide_eq_false (by omega)
end
section
variable{X:Cx}
def qi4:V->List V->Hp->VK->Prop:=λx vs H Q=>∃l xs y,x=.ref l/\vs=[y]/\H l=some (.lst xs)/\xs.length<yam/\Q .non (upd H l (.lst (xs++[y])))
theorem qal:MtM X "list.append" qi4:=by
 intro pins s σ H x vs v us Q I rx rv h
 obtain⟨l,xs,y,rfl,rfl,hH,hz,q⟩:=h
 cases rx
 obtain⟨u,rfl,ru⟩:=rv.one
 obtain⟨z,its,n,r,hl,e⟩:=I.lstM hH
 refine ybu F.slot_list_append ⟨_,e,rfl⟩ F.entry_list_append (F.args_list_append_2 _ _) (PySem.list_append l its.toArray n u (by rw[sT_];omega)) ⟨e,?_⟩
 refine⟨.non,_,I.lset (its':=its++[u]) hH e (by simp) (r.append (.cons ru .nil)) ?_,rfl,q⟩
 rw[lA_,yaC]
 omega
def qi5:V->List V->Hp->VK->Prop:=λx vs H Q=>∃l b xs zs,x=.ref l/\vs=[.ref b]/\H l=some (.lst xs)/\H b=some (.lst zs)/\xs.length+zs.length<=yam/\Q .non (upd H l (.lst (xs++zs)))
theorem qk1:MtM X "list.extend" qi5:=by
 intro pins s σ H x vs v us Q I rx rv h
 obtain⟨l,b,xs,zs,rfl,rfl,hH,hB,hz,q⟩:=h
 cases rx
 obtain⟨u,rfl,ru⟩:=rv.one
 cases ru
 obtain⟨z,its,n,r,hl,e⟩:=I.lstM hH
 obtain⟨z2,its2,n2,r2,hl2,e2⟩:=I.lstM hB
 have hsz:its.toArray.size+its2.toArray.size<=yam:=by rw[sT_,sT_];omega
 have hlong:¬(!its.toArray.isEmpty&&ybY (its.toArray.size+its2.toArray.size))=true:=by
  rw[qdH hsz,Bool.and_false]
  exact yav
 refine ybu F.slot_list_extend ⟨_,e,rfl⟩ F.entry_list_extend (F.args_list_extend_2 _ _)
  (AutoSeq1.list_extend_list_list_0 l its.toArray n b its2.toArray n2 hlong (by rw[sT_];omega) (by omega)) ⟨e,e2,?_⟩
 refine⟨.non,_,I.lset (its':=its++its2) hH e (by simp) (r.append r2) ?_,rfl,q⟩
 rw[lA_]
 omega
def qnp:R2:=λx y H Q=>∃l b xs zs,x=.ref l/\y=.ref b/\H l=some (.lst xs)/\H b=some (.lst zs)/\xs.length+zs.length<=yam/\∀p,H p=none->Q (.ref p) (upd H p (.lst (xs++zs)))
theorem qk2:OpR X (ybe .Add) qnp:=by
 intro pins s σ H x y v u Q I rx ry h
 obtain⟨l,b,xs,zs,rfl,rfl,hH,hB,hz,q⟩:=h
 cases rx
 cases ry
 obtain⟨z,its,n,r,hl,e⟩:=I.lstM hH
 obtain⟨z2,its2,n2,r2,hl2,e2⟩:=I.lstM hB
 refine PySem.P.add_list e e2 ?_ (by rw[sT_,sT_];omega)
 have ea:its.toArray++its2.toArray=(its++its2).toArray:=by simp
 rw[ea]
 exact⟨.ref _,_,I.lnew (t':=s.toks) (r.append r2) (by rw[lA_];omega),rfl,q _ I.fresh⟩
def qnq:R2:=λx y H Q=>∃l k xs,x=.ref l/\y=.int k/\H l=some (.lst xs) /\ -(2 ^ 63)<=k/\k<2 ^ 63/\xs.length*k.toNat<=yam /\
 ∀p,H p=none->Q (.ref p) (upd H p (.lst (yap k.toNat xs).flatten))
theorem qc3 {α:Type} (xs:List α) (k:Nat):(yap k xs).flatten.length=k*xs.length:=by
 induction k with
 |zero=>simp
 |succ k ih=>rw[rS_,ybA,lA_,ih,Nat.succ_mul,Nat.add_comm]
theorem qk3:OpR X (ybe .Mult) qnq:=by
 intro pins s σ H x y v u Q I rx ry h
 obtain⟨l,k,xs,rfl,rfl,hH,h1,h2,hz,q⟩:=h
 cases rx
 obtain⟨t,rfl⟩:=ry
 obtain⟨z,its,n,r,hl,e⟩:=I.lstM hH
 have hlen:its.toArray.size*k.toNat<=yam:=by rw[sT_,<-hl];exact hz
 have hcap:¬its.toArray.size*k.toNat>(2 ^ 63-1)/8:=by
  have:(yam:Nat)<=(2 ^ 63-1)/8:=by decide
  omega
 have hfit:¬(!Builtin.List.listFitsIndex k)=true:=by
  rw[fitsIndex_both h1 h2]
  exact yav
 have hlong:¬ybY (its.toArray.size*k.toNat)=true:=by
  rw[qdH hlen]
  exact yav
 have hnew:yeJ (λx1 x2=>x1++x2) #[] (yap (if its.toArray.isEmpty=true then 0 else k.toNat) its.toArray)=(yap k.toNat its).flatten.toArray:=by
  have f0:∀m:Nat,yeJ (λx1 x2=>x1++x2) #[] (yap m its.toArray)=(yap m its).flatten.toArray:=λm=>by
   have:=qak its m []
   rw[ybO]at this
   exact this
  rw[f0]
  cases its with
  |nil=>simp
  |cons a r'=>rw[if_neg (by simp)]
 refine ybS (T:="list") (U:="int") (by decide) ⟨_,e,rfl⟩ (λs'=>yb6 s' k t) noFill_list_mul yc8 ybv repeat_list F.slot_int_index.lookup
  (ybu ybv (yb6 s k t) ycS (ycG _ _) (int___rmul___int_list k t l its.toArray n)
   ⟨e,rfl,⟨_,e,rfl⟩,ybu F.slot_list_mul ⟨_,e,rfl⟩ F.entry_list_mul (F.args_list_mul_2 _ _) (AutoListH.list___mul___list_int_3 l its.toArray n k t hfit hcap hlong) ⟨e,?_⟩⟩)
 rw[hnew]
 exact⟨.ref _,_,I.lnew (t':=s.toks) (r.rep k.toNat) (by rw[qc3,yfc];exact hz),rfl,q _ I.fresh⟩
end
section
variable{prog:yao}{w:World}{A:yau}{E:Value->yab->Prop}{s:yab}
set_option maxRecDepth 100000 in
end
section
variable{X:Cx}
end
end L2
namespace Att
open PySem PySem.W PySem.Calls PyProof.Rows
theorem qam {P:Params} {h:Heap}:∀(ns:List Int)(vs:List Value),WellAll P h vs (ns.map WData.int)->ybN vs ns:=by
 intro ns
 induction ns with
 |nil=>
  intro vs w
  rw[yc7]at w
  cases w
  exact .nil
 | cons n ns ih=>
  intro vs w
  rw[mC_]at w
  cases w with
  |cons a b=>
   cases a
   exact .cons _ _ (ih _ b)
theorem qfs {l:OpenLaw} {n:Nat} (hn:l.most=some n) {P:Params} {h:Heap} {args:List WData} {vals:List Value}
  (hpre:l.row.toRowW.claim.pre args=true) (hwl:WellAll P h vals args) :
  ∃a vs ns,vals=[yaf a]/\args=[WData.list (ns.map WData.int)]/\h.get? a=some {cls:=.type "list",data:=.seq vs.toArray}/\ybN vs ns/\ns.length<=n:=by
 have hsh:WShape.hasAll [] args [.list .int]=true:=(pre_splitW hpre).1
 have hc:l.pre.holds [] {args:=args}=true:=(pre_splitW hpre).2
 obtain⟨d,r,rfl,h1,h2⟩:=hasAllW_cons hsh
 obtain rfl:=hasAllW_nil h2
 obtain⟨xs,rfl,h3⟩:=hasW_list h1
 obtain⟨ns,rfl⟩:=items_int h3
 have hlen:ns.length<=n:=by
  unfold OpenLaw.pre at hc
  have h4:(WTm.not (.lt (.lit (.int (n:Int))) (.len (.arg 0)))).holds [] {args:=[.list (ns.map .int)]}=true:=by
   have h4:=(holds_andW hc).1
   rw[hn]at h4
   exact h4
  have h5:=condW_of h4 (w_not (w_lt w_lit (w_len_list (w_arg rfl))))
  rw[lM_]at h5
  refine ycT λq=>?_
  have q':(n:Int)<((ns.length:Nat):Int):=by omega
  first
   |(rw[decide_eq_true q']at h5;exact absurd h5 (by decide))
   |(simp at h5;omega)
 cases hwl with
 |cons w1 w2=>
  cases w2
  cases w1 with
  |list ho hall=>exact⟨_,_,ns,rfl,rfl,ho,qam ns _ hall,hlen⟩
theorem qft (l:OpenLaw) (args:List WData):l.row.toRowW.claim.post args (.bool true) args=true :=
 postW_of (r:=l.row.toRowW) (X:=(true==true))
  (show WShape.has [] (.bool true) .bool=true by first|rfl|decide|simp[WShape.has,WShape.arms,WShape.armsAll])
  (show(WTm.eq .res (.lit (.bool true))).value [] {args:=args,res:=some (.bool true),after:=args}=some (.bool (true==true))from w_eq_bool (w_res rfl) w_lit) rfl
theorem attach_call {l:OpenLaw} {n:Nat} {q:yao} {loose:List Str} {XP:(Str->Option Value)->Heap->Prop} {YP:World->Heap->Prop} {d:DefRec}
  (hn:l.most=some n) (hdf:d.params.defaults=[])
  (call:∀(w:World)(s₀ sY:yab)(mg mb:Str->Option Value)(fa:Addr)(o:Obj)(pm cd doc:Value)(a:Addr)(vs:List Value)(ns:List Int),
   Ground q loose [] XP w s₀ mg mb sY.heap->YP w sY.heap ->
   sY.heap.get? fa=some o->o.data=.func (docDef d.name d.params d.body d.scope pm cd doc)->sY.heap.CodeRec cd d.name->mg d.name=some (.ref fa) ->
   sY.heap.get? a=some {cls:=.type "list",data:=.seq vs.toArray}->ybN vs ns->ns.length<=n->sY.gens = #[] ->
   ybU (model l.prog w) ydP (.call (.ref fa) ⟨[.ref a],[]⟩) (λr s'=>r=.ok (.ret (.bool true))/\OldK sY.heap s'.heap/\s'.os=sY.os/\yck s'.gens) sY) :
  WalkO q loose XP YP l.row.toRowW d [] (λf vs=>yfJ f vs):=by
 intro w s₀ sY mg mb G Y fa o pm cd doc dV kV ho hd hcd hD hmg hg args vals as hpre hlay hrd hwl hlo
 obtain rfl:dV=.none:=Dflts.none hD hdf
 obtain rfl:kV=.none:=Dflts.noKw hD
 obtain⟨a,vs,ns,rfl,rfl,hobj,hints,hlen⟩:=qfs hn hpre hwl
 refine enter_call (ydS (call w s₀ sY mg mb fa o pm cd doc a vs ns G Y ho (fd_plain hd) hcd hmg hobj hints hlen hg) λr s' hq=>?_)
 obtain⟨rfl,h2,h3,h4⟩:=hq
 exact⟨.inl ⟨.bool true,.bool true,[],rfl,λ_=>rfl,.bool true,qft l _,λ_=>⟨List.Pairwise.nil,λ_ hm=>(nomatch hm)⟩⟩,h2,h3,h4⟩
section
variable{prog:yao}{w:World}{A:yau}{E:Value->yab->Prop}{s:yab}{K:Frag}
end
end Att
namespace L2
open PySem PySem.Spec PyProof.Rows
theorem qck:∀{vs:List Value}{ns:List Int},ybN vs ns->ze (ns.map V.int) vs
 |_,_,.nil => .nil
 |_,_,.cons n t h => .cons ⟨t,rfl⟩ (qck h)
def qmh(H:Hp):Prop:=∀b,H b=none\/(∃o xs,H b=some (.frz o (.lst xs)))\/∃pos q,H b=some (.lam pos q)
def qmi:Option (Addr×Addr×Pos×Str)->Hp
 |some (_,Pt,pos,q)=>λb=>if b=Pt then some (.lam pos q)else none
 |none=>λ_=>none
theorem qg6 {P:yao} {w:World} {K:yai} {mg mb:Str->Option Value} {CX:CXT} {k:Nat} {fa a:Addr} {fd:yaM} {x:Str} {sp:Sp} {sY:yab} {vs:List Value} {ns:List Int} {lm:Option (Addr×Addr×Pos×Str)}
  (KX:K.In sY.heap) (hns:sY.heap.Ns yag mg) (hb:sY.heap.Ns yb4 mb) (hbb:∀x:Str,x≠"__name__"->mb x=yaz x) (hlim:sY.heap.NoLimit)
  (hbm:∃bm ob,mg "__builtins__"=some (.ref bm)/\bm≠yb4/\sY.heap.get? bm=some ob/\ob.cls=.type "module"/\ob.dict=some yb4/\ob.data=.plain)
  (hlm:∀c Pt pos q,lm=some (c,Pt,pos,q)->yey sY.heap c Pt/\sY.heap.get? Pt=some (yez #[])/\K.lookup Pt=none)
  (hg:sY.gens = #[])
  (ha:sY.heap.get? a=some {cls:=.type "list",data:=.seq vs.toArray}) (hi:ybN vs ns) (hl:ns.length<=yam) (hr:uH k ydP)
  (F:∀base:Heap,K.In base->base.Ns yag mg->vi P w K mg base CX k fa fd [x] sp) (hbind:∀(s:yab)(u:Value),ydN s fd ⟨[u],[]⟩ [(x,u)])
  (hsp:∀H:Hp,qmh H->(∀c Pt pos q,lm=some (c,Pt,pos,q)->H Pt=some (.lam pos q))->SqL K H a (ns.map V.int)->sp [.ref a] H (λv _=>v=.bl true) λ_ _ _=>False)
  (hCX:∀H e s',CX [] H sY (λ_ _ _=>False) e s'->False) :
  ybU (model P w) ydP (.call (.ref fa) ⟨[.ref a],[]⟩) (λr s'=>r=.ok (.ret (.bool true))/\OldK sY.heap s'.heap/\s'.os=sY.os/\yck s'.gens) sY:=by
 have rv:=qck hi
 have lenV:=hi.length
 have core:∀H:Hp,qmh H->(∀c Pt pos q,lm=some (c,Pt,pos,q)->H Pt=some (.lam pos q))->SqL K H a (ns.map V.int)->HOk P w H sY.heap ->
   (∀b u,H b=some u->K.lookup b=none/\((∃o xs,u=.frz o (.lst xs))\/∃c pos q,lm=some (c,b,pos,q)/\u=.lam pos q)) ->
   ybU (model P w) ydP (.call (.ref fa) ⟨[.ref a],[]⟩) (λr s'=>r=.ok (.ret (.bool true))/\OldK sY.heap s'.heap/\s'.os=sY.os/\yck s'.gens) sY:=by
  intro H hO hT hS hok hA
  have base_of:∀{b:Addr}{o:Obj},sY.heap.get? b=some o->H b=none->(qgU sY.heap H).get? b=some o:=λe n=>qgV e n
  have noD:∀{b:Addr}{o:Obj},sY.heap.get? b=some o->(∀its n,o.data ≠ .seq its n)->(∀f,o.data ≠ .fields f)->H b=none:=λ{b o} e d1 d2=>by
   cases q:H b with
   |none=>rfl
   | some u=>
    rcases(hA b u q).2 with⟨ob,xs,rfl⟩|⟨c,pos,q',hl2,rfl⟩
    ·obtain⟨e1,_,its,n,_,e2⟩:=hok b _ q
     rw[e]at e2;cases e2
     exact(d1 _ _ rfl).elim
    ·have e2:=(hlm _ _ _ _ hl2).2.1
     rw[e]at e2;cases e2
     exact(d2 _ rfl).elim
  have nsK:∀{b:Addr}{m:Str->Option Value},sY.heap.Ns b m->(qgU sY.heap H).Ns b m:=λ{b m} ⟨o,es,ep,e,d,r⟩=>⟨o,es,ep,base_of e (noD e (λ_ _ z=>by rw[d]at z;cases z) λ_ z=>by rw[d]at z;cases z),d,r⟩
  have hKb:K.In (qgU sY.heap H):=λb o e=>base_of (KX b o e) (by
   cases q:H b with
   |none=>rfl
   |some u=>rw[(hA b u q).1]at e;cases e)
  have hM:Mod K mg (qgU sY.heap H):=⟨hKb,nsK hns,⟨mb,nsK hb,hbb⟩,let ⟨mc,h1,h2⟩:=hlim;⟨mc,nsK h1,h2⟩,
   let ⟨bm,ob,b1,b2,b3,b4,b5,b6⟩:=hbm;⟨bm,ob,b1,b2,base_of b3 (noD b3 (λ_ _ z=>by rw[b6]at z;cases z) λ_ z=>by rw[b6]at z;cases z),b4,b5,b6⟩⟩
  have e0:qkn P w K mg (qgU sY.heap H) ydP [] sY H:=⟨rfl,hM,λb o e=>qiM e,Nat.le_of_eq (qe5 _ _),trivial,λb hb=>absurd (show b∈([]:List Addr)from hb) (by simp),hok,.of_eq hg⟩
  refine ydS ((F _ hKb (nsK hns)).run ydP [] sY H ⟨[.ref a],[]⟩ [.ref a] [.ref a] _ _ hr e0 (hbind sY (.ref a)) (.cons rfl .nil) (hsp H hO hT hS)) λr s' h=>?_
  cases r with
  |error e=>exact(hCX H e s' h).elim
  | ok fl=>
   cases fl with
   |next=>exact yaV h
   |brk=>exact yaV h
   |cont=>exact yaV h
   | ret u=>
    obtain⟨v,H',os,bare,un,hok',r',q⟩:=h
    have q':v=.bl true:=q
    subst q'
    obtain rfl:u=yaL true:=r'
    have asIt:∀b o,sY.heap.get? b=some o->asItWas sY.heap s'.heap b o:=λb o e=>by
     cases q:H b with
     |none=>exact .inl (un.keep b o e q (by intro z;exact absurd (show b∈([]:List Addr)from z) (by simp)) (by simp))
     | some u=>
      rcases(hA b u q).2 with⟨ob,xs,rfl⟩|⟨c,pos,q2,hl2,rfl⟩
      ·have z2:=un.frzs b ob _ q
       obtain⟨e1,_⟩:=hok b _ q
       obtain⟨e2,_⟩:=hok' b _ z2
       rw[e]at e1;cases e1
       exact .inl e2
      ·obtain⟨hc,e2,_⟩:=hlm _ _ _ _ hl2
       rw[e]at e2;cases e2
       rcases hok' b _ (un.tbls b pos q2 q)with z|⟨c',oc,vs',t,_,_,_,z⟩
       ·exact .inl z
       ·exact .inr (.inl ⟨(hc.tab e).isCodeTable,rfl,#[],_,rfl,by rw[Array.empty_append];exact z⟩)
    exact⟨rfl,⟨asIt,λb o e=>un.there b o e (by simp)⟩,os,bare⟩
 let T:Hp:=qmi lm
 have hTb:∀b u,T b=some u->∃c pos q,lm=some (c,b,pos,q)/\u=.lam pos q:=λb u z=>by
  cases hq:lm with
  |none=>simp only[T,hq,qmi]at z;cases z
  | some p=>
   obtain⟨c,Pt,pos,q⟩:=p
   simp only[T,hq,qmi]at z
   by_cases hbp:b=Pt
   ·rw[if_pos hbp]at z;cases z
    exact⟨c,pos,q,by rw[hbp],rfl⟩
   ·rw[if_neg hbp]at z;cases z
 have hTa:T a=none:=by
  cases q:T a with
  |none=>rfl
  |some u=>
   obtain⟨c,pos,q2,hl2,_⟩:=hTb a u q
   have:=(hlm _ _ _ _ hl2).2.1
   rw[ha]at this;cases this
 have hTt:∀c Pt pos q,lm=some (c,Pt,pos,q)->T Pt=some (.lam pos q):=λc Pt pos q e=>by
  simp only[T,e,qmi,if_true]
 cases hk:K.lookup a with
 | some o=>
  have e:=KX a o hk
  rw[ha]at e
  cases e
  refine core T (λb=>?_) hTt (.inr ⟨_,vs.toArray,_,hk,rfl,rfl,rfl,by rw[sT_,lenV];exact hl,by simpa using rv⟩) (λb u z=>?_) (λb u z=>?_)
  ·cases q:T b with
   |none=>exact .inl rfl
   |some u=>obtain⟨_,pos,q2,_,rfl⟩:=hTb b u q;exact .inr (.inr ⟨pos,q2,rfl⟩)
  ·obtain⟨c,pos,q2,hl2,rfl⟩:=hTb b u z
   exact .inl (hlm _ _ _ _ hl2).2.1
  ·obtain⟨c,pos,q2,hl2,rfl⟩:=hTb b u z
   exact⟨(hlm _ _ _ _ hl2).2.2,.inr ⟨c,pos,q2,hl2,rfl⟩⟩
 | none=>
  refine core (upd T a (.frz {cls:=.type "list",data:=.seq vs.toArray} (.lst (ns.map V.int)))) (λb=>?_) (λc Pt pos q e=>?_) (.inl (.inr ⟨{cls:=.type "list",data:=.seq vs.toArray},qx⟩)) (λb u z=>?_) (λb u z=>?_)
  ·by_cases hb:b=a
   ·subst hb;exact .inr (.inl ⟨_,_,qx⟩)
   ·rw[qz hb]
    cases q:T b with
    |none=>exact .inl rfl
    |some u=>obtain⟨_,pos,q2,_,rfl⟩:=hTb b u q;exact .inr (.inr ⟨pos,q2,rfl⟩)
  ·have h1:=hTt c Pt pos q e
   rw[qz (qP h1 hTa)]
   exact h1
  ·by_cases hb:b=a
   ·subst hb
    rw[qx]at z;cases z
    exact⟨ha,by rw[lM_];exact hl,vs,_,rv,ha⟩
   ·rw[qz hb]at z
    obtain⟨c,pos,q2,hl2,rfl⟩:=hTb b u z
    exact .inl (hlm _ _ _ _ hl2).2.1
  ·by_cases hb:b=a
   ·subst hb
    rw[qx]at z;cases z
    exact⟨hk,.inl ⟨_,_,rfl⟩⟩
   ·rw[qz hb]at z
    obtain⟨c,pos,q2,hl2,rfl⟩:=hTb b u z
    exact⟨(hlm _ _ _ _ hl2).2.2,.inr ⟨c,pos,q2,hl2,rfl⟩⟩
end L2
namespace L2
open PySem PySem.Spec PyProof.Rows
end L2
/- THE LAST THEOREM (shape;LID,My.* are yours):
   My.Adr: a structure of the addresses that your layer names (classes,functions);My.Txt K t: a structure (Prop) of the equations over K;
   My.txt_mk:{K} {implicit addresses ..} (e1:nsIn K yag "law"=some (some (.ref f))) (e2:K.lookup f=some ⟨oc,od,.func (fnOf "law" "law" params body scope dV kV doc pm an cdv ct),sl⟩) (e3:codeIn K cdv "law"=true) .. : ∃t,My.Txt K t
set_option maxRecDepth 100000 in
set_option maxHeartbeats 0 in
theorem PySem.Challenge.cw_LID_holds : PySem.Challenge.rw_LID.Holds := by
 w_on;o_law;k_head;(case hw=>w_witness2)
 k_fill
 refine L2.walk_of (l:=PySem.Challenge.rw_LID) (n:=63) (k:=40) (x:="script") (CX:=λw => ..) (sp:=λ_=>My.sp_law) rfl (by decide) rfl ⟨rfl,by decide,by decide⟩ (λw h Y=>PySem.W.kIn_of Y) ?F ?S ?C
 case F=>
  intro w mg fa h KX G hmg
  have T:∃t,My.Txt (L2.KOf KX) t:=by
   dsimp only[L2.KOf]                          -- K must stand as «<heap const> w.params» for k_is
   refine' My.txt_mk ?e1 ?e2 ?e3 ..
   (case e1=>PySem.W.k_is)                    -- in the order: a name->its address->its object->its parts
   (case e2=>PySem.W.k_is)
   ..
  obtain⟨t,T⟩:=T
  have e0:=hmg.symm.trans (yar KX G T.law)
  cases e0                                       -- fa is the law's own address
  exact⟨_,λs u => .of_eq rfl,λbase kb nb=>My.law_fn T kb nb⟩     -- if «.of_eq rfl» comes too early: refine' ⟨_,?b,λbase kb nb=>My.law_fn T kb nb⟩;exact λs u => .of_eq rfl
 case S=>exact λw H a ns hl hO hS => ..
 case C=>exact ..
(the tactic k_is has no namespace: write k_is) -/
namespace L2
open PySem PySem.Spec PyProof.Rows
def qI (s:Stmt):yeb:=match s with
 |.FunctionDef _ a _ _ _ _ _ _ _ _=>a
 |_=>{posonlyargs:=[],args:=[],vararg:=none,kwonlyargs:=[],kw_defaults:=[],kwarg:=none,defaults:=[]}
def qB (s:Stmt):List Stmt:=match s with
 |.FunctionDef _ _ b _ _ _ _ _ _ _=>b
 |_=>[]
def qf (s:Stmt):Scope:=match s with
 |.FunctionDef _ _ _ _ _ _ sc _ _ _=>sc
 |_=>{kind:=.function,names:=[],isGenerator:=false,isCoroutine:=false}
abbrev CX0:CXT:=λ_ _ _ _ _ _=>False
abbrev E0:XK:=λ_ _ _=>False
theorem qi6{X:Cx}:qaf CX0 X E0:=λ_ _ _ _ _ _ _ h=>h.elim
structure Fun (K:yai) (x qual:Str) (st:Stmt) (f:Addr) (fd:yaM):Prop where
 ex:∃(oc:Value)(od:Option Addr)(kV doc pm:Value)(an:Option Addr)(cdv ct:Value)(osl:Array (Option Value)),
  fd=yas x qual (qI st) (qB st) (qf st) .none kV doc pm an cdv ct/\K.lookup f=some ⟨oc,od,.func fd,osl⟩/\yaq K cdv qual=true
 kp:yaj K (.ref f)=true
section
variable{P:yao}{w:World}{K:yai}{mg:Str->Option Value}{base:Heap}
theorem Fun.ok {x qual:Str} {st:Stmt} {f:Addr} {fd:yaM} {N ps:List Str} {k:Nat} {sp:Sp} (F:Fun K x qual st f fd) (S:qE N ps (qf st)) (len:∀vs H Q E,sp vs H Q E->vs.length=ps.length)
  (hbody:∀(cdv:Value)(A:yau)(outer:List Env)(s:yab)(H:Hp)(vs:List V)(Q:VK)(E:XK),uH k (A.deeper (ybf qual (qf st) s.heap.objs.size f cdv))->sp vs H Q E ->
   ∃t,PSs (qgS CX0 P w K mg base N qual (qf st) f cdv A outer s H E).nox (qB st) t/\t {nx:=λ_ H'=>Q .non H',rt:=Q} (z7 N vs) H):vi P w K mg base CX0 (k+1) f fd ps sp:=by
 obtain⟨oc,od,kV,doc,pm,an,cdv,ct,osl,rfl,lk,hcd⟩:=F.ex
 refine qkU lk hcd S len λA outer s H vs Q E hr hsp=>?_
 obtain⟨t,h,q⟩:=hbody cdv A outer s H vs Q E hr hsp
 exact⟨t,h.nox,q⟩
theorem Fun.binds {x qual:Str} {st:Stmt} {f:Addr} {fd:yaM} {ps:List Str} (F:Fun K x qual st f fd)
  (h:∀(kV doc pm:Value)(an:Option Addr)(cdv ct:Value)(us:List Value),us.length=ps.length->bindArgs (yas x qual (qI st) (qB st) (qf st) .none kV doc pm an cdv ct) ⟨us,[]⟩=pure (ps.zip us)):uM K fd ps []:=by
 obtain⟨oc,od,kV,doc,pm,an,cdv,ct,osl,rfl,lk,hcd⟩:=F.ex
 exact .all (h kV doc pm an cdv ct)
theorem qY {x qual:Str} {st:Stmt} {f:Addr} {oc:Value} {od an:Option Addr} {osl:Array (Option Value)} {kV doc pm cdv ct:Value} (l:K.lookup f=some ⟨oc,od,.func (yas x qual (qI st) (qB st) (qf st) .none kV doc pm an cdv ct),osl⟩)
  (c:yaq K cdv qual=true) (k:yaj K (.ref f)=true):Fun K x qual st f (yas x qual (qI st) (qB st) (qf st) .none kV doc pm an cdv ct):=⟨⟨oc,od,kV,doc,pm,an,cdv,ct,osl,rfl,l,c⟩,k⟩
end
section
variable{X:Cx}
end
theorem qko {A B:Prop} (h:B):if false=true then A else B:=by
 rw[if_neg yav]
 exact h
theorem qkp {A B:Prop} (h:A):if true=true then A else B:=by
 rw[if_pos rfl]
 exact h
def jG(H H':Hp):Prop:=∀b o,H b=some o->H' b=some o
theorem jG.refl(H:Hp):jG H H:=λ_ _ h=>h
theorem jG.trans{H H1 H2:Hp}(a:jG H H1)(b:jG H1 H2):jG H H2:=λc o h=>b c o (a c o h)
theorem jG.free {H H':Hp} (e:jG H H') {l:Addr} (h:H' l=Option.none):H l=Option.none:=by
 cases q:H l with
 |none=>rfl
 |some o=>
  rw[e l o q]at h
  cases h
end L2
namespace L2.Sk
open PySem PySem.Spec PyProof.Rows
inductive D where
 |non|bl (b:Bool)|int (i:Int)|str (x:Str)|tup (xs:List D)|lst (xs:List D)|dic (kvs:List (Key×Int))|fz (ns:List Int)
 |exc (n:Str)
abbrev Fr0:=yai
def qk4:FuncBody->Option Pos
 |.stmts [_,_,.Return (some (.Call _ _ [⟨_,.Lambda _ _ _ pos,_⟩] _)) _]=>some pos
 |_=>none
def lamOf (K:Fr0):Option (Addr×Addr×Pos):=match PySem.W.tabIn K "dearest_first",yak K yag "dearest_first" with
 |some (c,P),some (some (.ref f))=>(match K.lookup f with
  |some ⟨_,_,.func fd,_⟩=>(qk4 fd.body).map λpos=>(c,P,pos)
  |_=>none)
 |_,_=>none
abbrev qmQ:Str:="dearest_first.<locals>.<lambda>"
def qnr(K:Fr0)(H:Hp)(Io:Addr->Prop):Prop:=∀c P pos,lamOf K=some (c,P,pos)->H P=some (.lam pos qmQ)/\¬Io P
abbrev qcl(K:Fr0)(H:Hp):Prop:=qnr K H λ_=>False
theorem qcl.same{K:Fr0}{H H':Hp}(h:qcl K H)(s:jG H H'):qcl K H':=λc P pos e=>⟨s _ _ (h c P pos e).1,λz=>z⟩
structure XK6 (K:Fr0) (D:Addr):Prop where
 ga:ybE K (.ref D) "__getattribute__"=some (some (.builtin "BaseException.__getattribute__"))
 gt:ybE K (.ref D) "__getattr__"=some none
 cl:ybE K (.ref D) "__class__"=some (some (.builtin "object.__class__"))
 ob:PySem.W.mroIn K D (.type "object")=some true
 be:PySem.W.subIn K (.ref D) (.type "BaseException")=some true
 is:(PySem.W.clsIn K D).isSome=true
 no:∀T∈["int","bool","str","tuple","list","dict"],yew K (.ref D) (.type T)=some false
def uN (K:Fr0) (n:Str):Option Addr:=match yak K yag n with
 |some (some (.ref C))=>some C
 |_=>none
def clR(K:Fr0)(RN:List Str)(n:Str):Option Addr:=if RN.contains n then uN K n else none
theorem qdI {K:Fr0} {RN:List Str} {n:Str} {C:Addr} (h:clR K RN n=some C):RN.contains n=true/\uN K n=some C:=by
 unfold clR at h
 split at h
 ·rename_i hn;exact⟨hn,h⟩
 ·cases h
def qob(K:Fr0)(H:Hp)(a:Addr)(n:Str):Prop:=∃C,uN K n=some C/\XK6 K C/\∃o vs,H a=some (.frz o (.own a))/\o.cls=.ref C/\o.data=.fields vs
def vj (K:Fr0) (H:Hp) (a:Addr) (xs:List V):Prop :=
 H a=some (.tup xs)\/∃(o:Obj)(its:Array Value)(n:Nat),K.lookup a=some o/\o.cls=.type "tuple"/\o.data=.seq its n/\its.size<=yam/\ze xs its.toList
def qk5 (K:Fr0) (H:Hp) (a:Addr) (xs:List V):Prop :=
 (∃o,H a=some (.frz o (.lst xs)))\/∃(o:Obj)(its:Array Value)(n:Nat),K.lookup a=some o/\o.cls=.type "list"/\o.dict=none/\o.data=.seq its n/\its.size<=yam/\ze xs its.toList
theorem vj.sq {K:Fr0} {H:Hp} {a:Addr} {xs:List V} (h:vj K H a xs):SqT K H a xs:=by
 rcases h with h|h
 ·exact .inl (.inl h)
 ·exact .inr h
theorem qk5.sq {K:Fr0} {H:Hp} {a:Addr} {xs:List V} (h:qk5 K H a xs):SqL K H a xs:=by
 rcases h with h|h
 ·exact .inl (.inr h)
 ·exact .inr h
mutual
def Is (K:Fr0) (A:Addr->Prop) (H:Hp):D->V->Prop
 |.non,v=>v=.non
 |.bl b,v=>v=.bl b
 |.int i,v=>v=.int i
 |.str x,v=>v=.str x
 |.tup ds,v=>∃a xs,v=.ref a/\vj K H a xs/\IsL K A H ds xs
 |.lst ds,v=>∃a xs,v=.ref a/\A a/\H a=some (.lst xs)/\IsL K A H ds xs
 |.dic kvs,v=>∃a,v=.ref a/\A a/\H a=some (.dK (kvs.map λp=>(p.1,V.int p.2)))
 |.fz ns,v=>∃a,v=.ref a/\qk5 K H a (ns.map V.int)
 |.exc n,v=>∃a,v=.ref a/\qob K H a n
def IsL (K:Fr0) (A:Addr->Prop) (H:Hp):List D->List V->Prop
 | [],xs=>xs=[]
 |d::ds,xs=>∃x ys,xs=x::ys/\Is K A H d x/\IsL K A H ds ys
end
mutual
def imm:D->Bool
 |.tup ds=>immL ds
 |.lst _=>false
 |.dic _=>false
 |.fz _=>false
 |_=>true
def immL:List D->Bool
 | []=>true
 |d::ds=>imm d&&immL ds
end
structure Ext (A:Addr->Prop) (H H':Hp):Prop where
 tup:∀b xs,H b=some (.tup xs)->H' b=some (.tup xs)
 frz:∀b o u,H b=some (.frz o u)->H' b=some (.frz o u)
 at_:∀b o,A b->H b=some o->H' b=some o
theorem Ext.refl{A:Addr->Prop}{H:Hp}:Ext A H H:=⟨λ_ _ h=>h,λ_ _ _ h=>h,λ_ _ _ h=>h⟩
theorem Ext.of_same{A:Addr->Prop}{H H':Hp}(s:jG H H'):Ext A H H':=⟨λb xs h=>s b _ h,λb o u h=>s b _ h,λb o _ h=>s b o h⟩
mutual
theorem Is.ext {K:Fr0} {A B:Addr->Prop} {H H':Hp} (e:Ext A H H') (hAB:∀a,A a->(H a).isSome=true->B a):∀{d:D}{v:V},Is K A H d v->Is K B H' d v
 |.non,_,h=>h
 |.bl _,_,h=>h
 |.int _,_,h=>h
 |.str _,_,h=>h
 |.tup ds,_,⟨a,xs,hv,h,r⟩=>⟨a,xs,hv,h.elim (λh => .inl (e.tup _ _ h)) .inr,IsL.ext e hAB r⟩
 |.lst ds,_,⟨a,xs,hv,hA,h,r⟩=>⟨a,xs,hv,hAB a hA (by rw[h];rfl),e.at_ _ _ hA h,IsL.ext e hAB r⟩
 |.dic kvs,_,⟨a,hv,hA,h⟩=>⟨a,hv,hAB a hA (by rw[h];rfl),e.at_ _ _ hA h⟩
 |.fz ns,_,⟨a,hv,h⟩=>⟨a,hv,h.elim (λ⟨o,h⟩ => .inl ⟨o,e.frz _ _ _ h⟩) .inr⟩
 |.exc n,_,⟨a,hv,C,hc,hk,o,vs,h,r⟩=>⟨a,hv,C,hc,hk,o,vs,e.frz _ _ _ h,r⟩
theorem IsL.ext {K:Fr0} {A B:Addr->Prop} {H H':Hp} (e:Ext A H H') (hAB:∀a,A a->(H a).isSome=true->B a):∀{ds:List D}{xs:List V},IsL K A H ds xs->IsL K B H' ds xs
 | [],_,h=>h
 |_::_,_,⟨x,ys,hx,h,r⟩=>⟨x,ys,hx,Is.ext e hAB h,IsL.ext e hAB r⟩
end
mutual
theorem Is.imm {K:Fr0} {A B:Addr->Prop} {H:Hp}:∀{d:D}{v:V},imm d=true->Is K A H d v->Is K B H d v
 |.non,_,_,h=>h
 |.bl _,_,_,h=>h
 |.int _,_,_,h=>h
 |.str _,_,_,h=>h
 |.tup ds,_,i,⟨a,xs,hv,h,r⟩=>⟨a,xs,hv,h,IsL.imm (by simpa [Sk.imm] using i) r⟩
 |.lst _,_,i,_=>by simp[Sk.imm]at i
 |.dic _,_,i,_=>by simp[Sk.imm]at i
 |.fz _,_,i,_=>by simp[Sk.imm]at i
 |.exc _,_,_,h=>h
theorem IsL.imm {K:Fr0} {A B:Addr->Prop} {H:Hp}:∀{ds:List D}{xs:List V},immL ds=true->IsL K A H ds xs->IsL K B H ds xs
 | [],_,_,h=>h
 |d::ds,_,i,⟨x,ys,hx,h,r⟩=>by
  have i':Sk.imm d=true/\immL ds=true:=by simpa [immL] using i
  exact⟨x,ys,hx,Is.imm i'.1 h,IsL.imm i'.2 r⟩
end
theorem IsL.length {K:Fr0} {A:Addr->Prop} {H:Hp}:∀{ds:List D}{xs:List V},IsL K A H ds xs->xs.length=ds.length
 | [],_,h=>by rw[h];rfl
 |_::_,_,⟨x,ys,hx,_,r⟩=>by rw[hx,lC_,lC_,IsL.length r]
theorem IsL.get {K:Fr0} {A:Addr->Prop} {H:Hp}:∀{ds:List D}{xs:List V}{i:Nat}{d:D},IsL K A H ds xs->ds[i]? = some d->∃x,xs[i]? = some x/\Is K A H d x
 | [],_,_,_,_,h=>by simp at h
 |e::_,_,0,d,⟨x,ys,hx,h,r⟩,hd=>by
  have e1:e=d:=by simpa using hd
  subst e1
  exact⟨x,by rw[hx];rfl,h⟩
 |_::ds,_,i+1,d,⟨x,ys,hx,h,r⟩,hd=>by
  obtain⟨y,h1,h2⟩:=IsL.get (i:=i) (d:=d) r (by simpa using hd)
  exact⟨y,by rw[hx];simpa using h1,h2⟩
theorem IsL.append {K:Fr0} {A:Addr->Prop} {H:Hp}:∀{ds es:List D}{xs ys:List V},IsL K A H ds xs->IsL K A H es ys->IsL K A H (ds++es) (xs++ys)
 | [],_,_,_,h,g=>by rw[h];exact g
 |_::_,_,_,_,⟨x,zs,hx,h,r⟩,g=>⟨x,zs++_,by rw[hx];rfl,h,IsL.append r g⟩
theorem IsL.take {K:Fr0} {A:Addr->Prop} {H:Hp}:∀{ds:List D}{xs:List V}(n:Nat),IsL K A H ds xs->IsL K A H (ds.take n) (xs.take n)
 |_,_,0,_=>by simp[IsL]
 | [],_,_+1,h=>by rw[h];simp[IsL]
 |_::_,_,n+1,⟨x,ys,hx,h,r⟩=>by rw[hx];exact⟨x,ys.take n,rfl,h,IsL.take n r⟩
theorem IsL.drop {K:Fr0} {A:Addr->Prop} {H:Hp}:∀{ds:List D}{xs:List V}(n:Nat),IsL K A H ds xs->IsL K A H (ds.drop n) (xs.drop n)
 |_,_,0,h=>h
 | [],_,_+1,h=>by rw[h];simp[IsL]
 |_::_,_,n+1,⟨x,ys,hx,h,r⟩=>by rw[hx];exact IsL.drop n r
theorem IsL.one{K:Fr0}{A:Addr->Prop}{H:Hp}{d:D}{v:V}(h:Is K A H d v):IsL K A H [d] [v]:=⟨v,[],rfl,h,rfl⟩
theorem IsL.set {K:Fr0} {A:Addr->Prop} {H:Hp} {d:D} {v:V} (hd:Is K A H d v):∀{ds:List D}{xs:List V}(n:Nat),IsL K A H ds xs->IsL K A H (ds.set n d) (xs.set n v)
 | [],_,_,h=>by rw[h];simp[IsL]
 |_::_,_,0,⟨x,ys,hx,h,r⟩=>by rw[hx];exact⟨v,ys,rfl,hd,r⟩
 |_::_,_,n+1,⟨x,ys,hx,h,r⟩=>by rw[hx];exact⟨x,ys.set n v,rfl,h,IsL.set hd n r⟩
abbrev Env:=List (Option D)
structure Exn where
 cls:Str
 val:D
inductive R (α:Type) where
 |ok (a:α)|exc (x:Exn) (ρ:Env)|bad
structure Fc where
 O:List Nat
 P:List Nat
 B:Addr->Prop
 H0:Hp
 Io:Addr->Prop
 E:Exn->Hp->Prop
 S:Nat->Option (Option V)
def Cl(O:List Nat)(σ:St)(a:Addr):Prop:=∀j∈O,σ[j]? ≠ some (some (.ref a))
def Cn(c:Fc)(σ:St)(a:Addr):Prop:=c.B a/\Cl c.O σ a
structure Rep (K:Fr0) (c:Fc) (ρ:Env) (σ:St) (H:Hp):Prop where
 len:ρ.length=σ.length
 val:∀i d,ρ[i]? = some (some d)->∃v,σ[i]? = some (some v) /\
  ((i∈c.O/\∃ds a xs,d=.lst ds/\v=.ref a/\H a=some (.lst xs)/\IsL K (Cn c σ) H ds xs)\/(i ∉ c.O/\Is K (Cn c σ) H d v))
 own:∀j∈c.O,∀v,σ[j]? = some (some v)->∃a xs,v=.ref a/\H a=some (.lst xs)/\(c.H0 a=none\/(j∈c.P/\c.Io a))
 inj:∀i j a,i∈c.O->j∈c.O->σ[i]? = some (some (.ref a))->σ[j]? = some (some (.ref a))->i=j
 b0:(∀a,c.H0 a=none->c.B a)/\qnr K c.H0 c.Io
 kp:∀b o,c.H0 b=some o->¬c.Io b->H b=some o
 dm:∀b,H b=none->c.H0 b=none
 pO:∀j∈c.P,j∈c.O
 ps:∀j∈c.P,σ[j]? = c.S j
theorem Rep.tb{K:Fr0}{c:Fc}{ρ:Env}{σ:St}{H:Hp}(r:Rep K c ρ σ H):qcl K H:=λq P pos e=>⟨r.kp P _ (r.b0.2 q P pos e).1 (r.b0.2 q P pos e).2,λz=>z⟩
structure Gr (O:List Nat) (σ:St) (H H':Hp):Prop where
 ext:Ext (Cl O σ) H H'
 dom:∀b,H' b=none->H b=none
theorem Gr.refl{O:List Nat}{σ:St}{H:Hp}:Gr O σ H H:=⟨Ext.refl,λ_ h=>h⟩
theorem Gr.of_same{O:List Nat}{σ:St}{H H':Hp}(s:jG H H'):Gr O σ H H':=⟨Ext.of_same s,λ_ h=>s.free h⟩
theorem Gr.trans {O:List Nat} {σ:St} {H H1 H2:Hp} (a:Gr O σ H H1) (b:Gr O σ H1 H2):Gr O σ H H2 :=
 ⟨⟨λc xs h=>b.ext.tup c xs (a.ext.tup c xs h),λc o u h=>b.ext.frz c o u (a.ext.frz c o u h),λc o hc h=>b.ext.at_ c o hc (a.ext.at_ c o hc h)⟩,λc h=>a.dom c (b.dom c h)⟩
theorem Gr.cn{c:Fc}{σ:St}{H H':Hp}(g:Gr c.O σ H H'):Ext (Cn c σ) H H':=⟨g.ext.tup,g.ext.frz,λb o hb h=>g.ext.at_ b o hb.2 h⟩
theorem Gr.is{K:Fr0}{c:Fc}{σ:St}{H H':Hp}{d:D}{v:V}(g:Gr c.O σ H H')(h:Is K (Cn c σ) H d v):Is K (Cn c σ) H' d v:=Is.ext g.cn (λ_ h _=>h) h
theorem Gr.isL{K:Fr0}{c:Fc}{σ:St}{H H':Hp}{d:List D}{v:List V}(g:Gr c.O σ H H')(h:IsL K (Cn c σ) H d v):IsL K (Cn c σ) H' d v:=IsL.ext g.cn (λ_ h _=>h) h
theorem Rep.new {K:Fr0} {c:Fc} {ρ:Env} {σ:St} {H:Hp} (r:Rep K c ρ σ H) {a:Addr} (h:H a=none):Cn c σ a :=
 ⟨r.b0.1 a (r.dm a h),λj hj e=>by obtain⟨b,xs,e1,e2,_⟩:=r.own j hj _ e;cases e1;rw[h]at e2;cases e2⟩
theorem Rep.same {K:Fr0} {c:Fc} {ρ:Env} {σ:St} {H H':Hp} (r:Rep K c ρ σ H) (s:jG H H'):Rep K c ρ σ H' where
 len:=r.len
 val:=λi d h=>by
  obtain⟨v,h1,h2⟩:=r.val i d h
  refine⟨v,h1,?_⟩
  rcases h2 with⟨hi,ds,a,xs,h3,h5,h6,h7⟩|⟨hi,h3⟩
  ·exact .inl ⟨hi,ds,a,xs,h3,h5,s _ _ h6,IsL.ext (Ext.of_same s) (λ_ h _=>h) h7⟩
  ·exact .inr ⟨hi,Is.ext (Ext.of_same s) (λ_ h _=>h) h3⟩
 own:=λj hj v h=>by
  obtain⟨a,xs,h1,h2,h3⟩:=r.own j hj v h
  exact⟨a,xs,h1,s _ _ h2,h3⟩
 inj:=r.inj
 b0:=r.b0
 kp:=λb o h1 h2=>s _ _ (r.kp b o h1 h2)
 dm:=λb h=>r.dm b (s.free h)
 pO:=r.pO
 ps:=r.ps
theorem Rep.get {K:Fr0} {c:Fc} {ρ:Env} {σ:St} {H:Hp} (r:Rep K c ρ σ H) {i:Nat} {d:D} (hi:i ∉ c.O) (h:ρ[i]? = some (some d)):∃v,σ[i]? = some (some v)/\Is K (Cn c σ) H d v:=by
 obtain⟨v,h1,h2⟩:=r.val i d h
 rcases h2 with⟨h3,_⟩|⟨_,h3⟩
 ·exact absurd h3 hi
 ·exact⟨v,h1,h3⟩
theorem Rep.getO {K:Fr0} {c:Fc} {ρ:Env} {σ:St} {H:Hp} (r:Rep K c ρ σ H) {i:Nat} {d:D} (hi:i∈c.O) (h:ρ[i]? = some (some d)) :
  ∃ds a xs,d=.lst ds/\σ[i]? = some (some (.ref a))/\H a=some (.lst xs)/\IsL K (Cn c σ) H ds xs:=by
 obtain⟨v,h1,h2⟩:=r.val i d h
 rcases h2 with⟨_,ds,a,xs,h3,h5,h6,h7⟩|⟨h3,_⟩
 ·subst h5;exact⟨ds,a,xs,h3,h1,h6,h7⟩
 ·exact absurd hi h3
abbrev M(α:Type):=Env->R (α×Env)
def Wp (K:Fr0) (c:Fc) (σ:St) (H:Hp) (Q:VK):R (D×Env)->Prop
 |.ok (d,ρ)=>∀v H',Rep K c ρ σ H'->Is K (Cn c σ) H' d v->Gr c.O σ H H'->Q v H'
 |.exc x ρ=>∀H',Rep K c ρ σ H'->Gr c.O σ H H'->c.E x H'
 |.bad=>False
def WpB (K:Fr0) (c:Fc) (σ:St) (H:Hp) (Q:Bool->Hp->Prop):R (Bool×Env)->Prop
 |.ok (b,ρ)=>∀H',Rep K c ρ σ H'->Gr c.O σ H H'->Q b H'
 |.exc x ρ=>∀H',Rep K c ρ σ H'->Gr c.O σ H H'->c.E x H'
 |.bad=>False
def WpL (K:Fr0) (c:Fc) (σ:St) (H:Hp) (Q:List V->Hp->Prop):R (List D×Env)->Prop
 |.ok (ds,ρ)=>∀vs H',Rep K c ρ σ H'->IsL K (Cn c σ) H' ds vs->Gr c.O σ H H'->Q vs H'
 |.exc x ρ=>∀H',Rep K c ρ σ H'->Gr c.O σ H H'->c.E x H'
 |.bad=>False
def DE(X:Cx)(c:Fc)(e:Expr)(f:M D):Prop:=∃t,PE X e t/\∀ρ σ H Q,Rep X.K c ρ σ H->Wp X.K c σ H Q (f ρ)->t σ H Q
def DT(X:Cx)(c:Fc)(e:Expr)(f:M Bool):Prop:=∃t,PT X e t/\∀ρ σ H Q,Rep X.K c ρ σ H->WpB X.K c σ H Q (f ρ)->t σ H Q
def DA(X:Cx)(c:Fc)(es:List Expr)(f:M (List D)):Prop:=∃t,PA X es t/\∀ρ σ H Q,Rep X.K c ρ σ H->WpL X.K c σ H Q (f ρ)->t σ H Q
def ret{α:Type}(a:α):M α:=λρ => .ok (a,ρ)
def bnd {α β:Type} (f:M α) (k:α->M β):M β:=λρ=>match f ρ with
 |.ok (a,ρ')=>k a ρ'
 |.exc x ρ' => .exc x ρ'
 |.bad => .bad
def lift {α:Type}:Option α->M α
 |some a=>ret a
 |none=>λ_ => .bad
theorem qhW{α β:Type}{f:M α}{k:α->M β}{ρ ρ':Env}{a:α}(h:f ρ=.ok (a,ρ')):bnd f k ρ=k a ρ':=by unfold bnd;rw[h]
section
variable{K:Fr0}{c:Fc}{σ:St}{H H1:Hp}{Q:VK}{QB:Bool->Hp->Prop}{QL:List V->Hp->Prop}{r:R (D×Env)}
theorem Wp.gr:∀{r:R (D×Env)},Wp K c σ H Q r->Gr c.O σ H H1->Wp K c σ H1 Q r
 |.ok (d,ρ),h,g=>λv H' hr hi hg=>h v H' hr hi (g.trans hg)
 |.exc x ρ,h,g=>λH' hr hg=>h H' hr (g.trans hg)
 |.bad,h,_=>h
theorem WpB.gr:∀{r:R (Bool×Env)},WpB K c σ H QB r->Gr c.O σ H H1->WpB K c σ H1 QB r
 |.ok (d,ρ),h,g=>λH' hr hg=>h H' hr (g.trans hg)
 |.exc x ρ,h,g=>λH' hr hg=>h H' hr (g.trans hg)
 |.bad,h,_=>h
theorem WpL.gr:∀{r:R (List D×Env)},WpL K c σ H QL r->Gr c.O σ H H1->WpL K c σ H1 QL r
 |.ok (d,ρ),h,g=>λv H' hr hi hg=>h v H' hr hi (g.trans hg)
 |.exc x ρ,h,g=>λH' hr hg=>h H' hr (g.trans hg)
 |.bad,h,_=>h
theorem Wp.bnd {f:M D} {k:D->M D} {ρ:Env} {Q':VK} (h:Wp K c σ H Q (bnd f k ρ)) (hQ:∀d ρ' v H',Rep K c ρ' σ H'->Is K (Cn c σ) H' d v->Gr c.O σ H H'->Wp K c σ H' Q (k d ρ')->Q' v H'):Wp K c σ H Q' (f ρ):=by
 unfold Sk.bnd at h
 cases e:f ρ with
 |ok p=>rw[e]at h;exact λv H' hr hi hg=>hQ p.1 p.2 v H' hr hi hg (h.gr hg)
 |exc x ρ'=>rw[e]at h;exact h
 |bad=>rw[e]at h;exact h
theorem Wp.bndB {f:M D} {k:D->M Bool} {ρ:Env} {Q':VK} (h:WpB K c σ H QB (Sk.bnd f k ρ)) (hQ:∀d ρ' v H',Rep K c ρ' σ H'->Is K (Cn c σ) H' d v->Gr c.O σ H H'->WpB K c σ H' QB (k d ρ')->Q' v H'):Wp K c σ H Q' (f ρ):=by
 unfold Sk.bnd at h
 cases e:f ρ with
 |ok p=>rw[e]at h;exact λv H' hr hi hg=>hQ p.1 p.2 v H' hr hi hg (h.gr hg)
 |exc x ρ'=>rw[e]at h;exact h
 |bad=>rw[e]at h;exact h
theorem Wp.bndL {f:M D} {k:D->M (List D)} {ρ:Env} {Q':VK} (h:WpL K c σ H QL (Sk.bnd f k ρ)) (hQ:∀d ρ' v H',Rep K c ρ' σ H'->Is K (Cn c σ) H' d v->Gr c.O σ H H'->WpL K c σ H' QL (k d ρ')->Q' v H'):Wp K c σ H Q' (f ρ):=by
 unfold Sk.bnd at h
 cases e:f ρ with
 |ok p=>rw[e]at h;exact λv H' hr hi hg=>hQ p.1 p.2 v H' hr hi hg (h.gr hg)
 |exc x ρ'=>rw[e]at h;exact h
 |bad=>rw[e]at h;exact h
theorem WpB.bnd {f:M Bool} {k:Bool->M D} {ρ:Env} {Q':Bool->Hp->Prop} (h:Wp K c σ H Q (Sk.bnd f k ρ)) (hQ:∀d ρ' H',Rep K c ρ' σ H'->Gr c.O σ H H'->Wp K c σ H' Q (k d ρ')->Q' d H'):WpB K c σ H Q' (f ρ):=by
 unfold Sk.bnd at h
 cases e:f ρ with
 |ok p=>rw[e]at h;exact λH' hr hg=>hQ p.1 p.2 H' hr hg (h.gr hg)
 |exc x ρ'=>rw[e]at h;exact h
 |bad=>rw[e]at h;exact h
theorem WpB.bndB {f:M Bool} {k:Bool->M Bool} {ρ:Env} {Q':Bool->Hp->Prop} (h:WpB K c σ H QB (Sk.bnd f k ρ)) (hQ:∀d ρ' H',Rep K c ρ' σ H'->Gr c.O σ H H'->WpB K c σ H' QB (k d ρ')->Q' d H'):WpB K c σ H Q' (f ρ):=by
 unfold Sk.bnd at h
 cases e:f ρ with
 |ok p=>rw[e]at h;exact λH' hr hg=>hQ p.1 p.2 H' hr hg (h.gr hg)
 |exc x ρ'=>rw[e]at h;exact h
 |bad=>rw[e]at h;exact h
theorem WpL.bnd {f:M (List D)} {k:List D->M D} {ρ:Env} {Q':List V->Hp->Prop} (h:Wp K c σ H Q (Sk.bnd f k ρ)) (hQ:∀d ρ' v H',Rep K c ρ' σ H'->IsL K (Cn c σ) H' d v->Gr c.O σ H H'->Wp K c σ H' Q (k d ρ')->Q' v H'):WpL K c σ H Q' (f ρ):=by
 unfold Sk.bnd at h
 cases e:f ρ with
 |ok p=>rw[e]at h;exact λv H' hr hi hg=>hQ p.1 p.2 v H' hr hi hg (h.gr hg)
 |exc x ρ'=>rw[e]at h;exact h
 |bad=>rw[e]at h;exact h
theorem WpL.bndL {f:M (List D)} {k:List D->M (List D)} {ρ:Env} {Q':List V->Hp->Prop} (h:WpL K c σ H QL (Sk.bnd f k ρ)) (hQ:∀d ρ' v H',Rep K c ρ' σ H'->IsL K (Cn c σ) H' d v->Gr c.O σ H H'->WpL K c σ H' QL (k d ρ')->Q' v H'):WpL K c σ H Q' (f ρ):=by
 unfold Sk.bnd at h
 cases e:f ρ with
 |ok p=>rw[e]at h;exact λv H' hr hi hg=>hQ p.1 p.2 v H' hr hi hg (h.gr hg)
 |exc x ρ'=>rw[e]at h;exact h
 |bad=>rw[e]at h;exact h
theorem Wp.lift {o:Option D} {ρ:Env} (h:Wp K c σ H Q (Sk.lift o ρ)):∃d,o=some d/\∀v H',Rep K c ρ σ H'->Is K (Cn c σ) H' d v->Gr c.O σ H H'->Q v H':=by
 cases o with
 |none=>exact h.elim
 |some d=>exact⟨d,rfl,h⟩
end
section
variable{X:Cx}{c:Fc}{a b e:Expr}{pos:Pos}
theorem qh{i j pos}:DE X c (.Constant (.int i) j pos) (ret (.int i)):=⟨_,qkv,λ_ _ H Q r h=>h _ H r rfl .refl⟩
theorem vm{i j pos}:DE X c (.Constant (.bool i) j pos) (ret (.bl i)):=⟨_,qms,λ_ _ H Q r h=>h _ H r rfl .refl⟩
theorem yH{j pos}:DE X c (.Constant .none j pos) (ret .non):=⟨_,qkw,λ_ _ H Q r h=>h _ H r rfl .refl⟩
theorem jx{x j pos}:DE X c (.Constant (.str x) j pos) (ret (.str x)):=⟨_,qkx,λ_ _ H Q r h=>h _ H r rfl .refl⟩
def dv (i:Nat):M D:=λρ=>match ρ[i]? with
 |some (some d) => .ok (d,ρ)
 |_ => .bad
theorem qe (i:Nat) {x:Str} (ho:i ∉ c.O:=by exact of_decide_eq_false rfl) (hN:X.N[i]? = some x:=by rfl) (hv:Vis X.env.scope x:=by first|exact ybj rfl|exact yaR (ybj rfl)|exact yaR (yaR rfl)) (hd:(x==("__debug__":Str))=false:=by decide)
  (hcd:(x==("__classdict__":Str))=false:=by decide):DE X c (.Name x pos) (dv i):=by
 refine⟨_,vp hN hv hd hcd,λρ σ H Q r h=>?_⟩
 unfold dv at h
 split at h
 ·rename_i d e
  obtain⟨v,h1,h2⟩:=r.get ho e
  exact⟨v,h1,h v H r h2 .refl⟩
 ·exact h.elim
theorem qfu {x:Str} {v:V} {u:Value} {d:D} (hg:Gl X x) (hm:X.mg x=some u) (rv:jO v u) (hd:∀H A,Is X.K A H d v) (hdb:(x==("__debug__":Str))=false:=by decide):DE X c (.Name x pos) (ret d) :=
 ⟨_,qc0 hg hm rv hdb,λ_ _ H Q r h=>h _ H r (hd _ _) .refl⟩
theorem qg:DA X c [] (ret []):=⟨_,wQ,λ_ _ H Q r h=>h _ H r rfl .refl⟩
def qa(f:M D)(g:M (List D)):M (List D):=bnd f λd=>bnd g λds=>ret (d::ds)
theorem qc {es:List Expr} {f:M D} {g:M (List D)} (ha:DE X c e f) (hr:DA X c es g) (hs:yae (e::es) X.env=(false,eval e X.env)::yae es X.env:=by rfl):DA X c (e::es) (qa f g):=by
 obtain⟨ta,pa,wa⟩:=ha
 obtain⟨tr,pr,wr⟩:=hr
 refine⟨_,yj pa pr hs,λρ σ H Q r h=>wa ρ σ H _ r (Wp.bndL h λd ρ1 v H1 r1 i1 g1 h1=>wr ρ1 σ H1 _ r1 (WpL.bndL h1 λds ρ2 vs H2 r2 i2 g2 h2=>?_))⟩
 exact h2 _ H2 r2 ⟨v,vs,rfl,g2.is i1,i2⟩ .refl
def qQ(n:Nat):Bool:=decide (n<=yam)
def jf(f:M (List D)):M D:=bnd f λds=>lift (if qQ ds.length then some (.tup ds)else none)
def jP(f:M (List D)):M D:=bnd f λds=>lift (if qQ ds.length then some (.lst ds)else none)
theorem qu{H:Hp}{p:Addr}(h:H p=none)(o:HO):jG H (upd H p o):=λb u q=>by rw[qz (qP q h)];exact q
theorem Rep.laid{K:Fr0}{ρ:Env}{σ:St}{H:Hp}(r:Rep K c ρ σ H){p:Addr}(h:H p=none)(o:HO):Rep K c ρ σ (upd H p o):=r.same (qu h o)
theorem jn {p:Bool} {d e:D} (h:(if p then some d else none)=some e):p=true/\d=e:=by
 cases p with
 |true=>exact⟨rfl,by simpa using h⟩
 |false=>simp at h
theorem zD {es:List Expr} {x1} {f:M (List D)} (h:DA X c es f):DE X c (.Tuple es x1 pos) (jf f):=by
 obtain⟨t,p,w⟩:=h
 refine⟨_,qkS p,λρ σ H Q r h=>w ρ σ H _ r (WpL.bnd h λds ρ1 vs H1 r1 i1 g1 h1=>?_)⟩
 obtain⟨d,e,h2⟩:=h1.lift
 obtain⟨e1,e2⟩:=jn e
 subst e2
 refine⟨by rw[i1.length];exact of_decide_eq_true e1,λp hp=>h2 _ _ (r1.laid hp _) ⟨p,vs,rfl,.inl qx,IsL.ext (Ext.of_same (qu hp _)) (λ_ h _=>h) i1⟩ (.of_same (qu hp _))⟩
theorem jp {es:List Expr} {f:M (List D)} (h:DA X c es f):DE X c (.List es pos) (jP f):=by
 obtain⟨t,p,w⟩:=h
 refine⟨_,qfl p,λρ σ H Q r h=>w ρ σ H _ r (WpL.bnd h λds ρ1 vs H1 r1 i1 g1 h1=>?_)⟩
 obtain⟨d,e,h2⟩:=h1.lift
 obtain⟨e1,e2⟩:=jn e
 subst e2
 refine⟨by rw[i1.length];exact of_decide_eq_true e1,λp hp=>h2 _ _ (r1.laid hp _) ⟨p,vs,rfl,r1.new hp,qx,IsL.ext (Ext.of_same (qu hp _)) (λ_ h _=>h) i1⟩ (.of_same (qu hp _))⟩
def OpS (K:Fr0) (F:D->D->Option D) (r:R2):Prop:=∀(A:Addr->Prop)(H:Hp)(x y d:D)(v u:V)(Q:VK),(∀a,H a=none->A a)->Is K A H x v->Is K A H y u->F x y=some d ->
 (∀w H',jG H H'->Is K A H' d w->Q w H')->r v u H Q
def d2(F:D->D->Option D)(f g:M D):M D:=bnd f λx=>bnd g λy=>lift (F x y)
theorem op2 {r:R2} {F:D->D->Option D} {f g:M D} {ta tb:TE} (hF:OpS X.K F r) (wa:∀ρ σ H Q,Rep X.K c ρ σ H->Wp X.K c σ H Q (f ρ)->ta σ H Q) (wb:∀ρ σ H Q,Rep X.K c ρ σ H->Wp X.K c σ H Q (g ρ)->tb σ H Q) :
  ∀ρ σ H Q,Rep X.K c ρ σ H->Wp X.K c σ H Q (d2 F f g ρ)->tOp r ta tb σ H Q:=λρ σ H Q rp h=>wa ρ σ H _ rp (Wp.bnd h λx ρ1 v H1 r1 i1 g1 h1=>wb ρ1 σ H1 _ r1 (Wp.bnd h1 λy ρ2 u H2 r2 i2 g2 h2=>by
 obtain⟨d,e,h3⟩:=h2.lift
 exact hF _ H2 x y d v u Q (λa ha=>r2.new ha) (g2.is i1) i2 e λw H' s i=>h3 w H' (r2.same s) i (.of_same s)))
theorem qw {op:Operator} {r:R2} {F:D->D->Option D} {f g:M D} (ho:OpR X (ybe op) r) (hF:OpS X.K F r) (ha:DE X c a f) (hb:DE X c b g):DE X c (.BinOp a op b pos) (d2 F f g):=by
 obtain⟨ta,pa,wa⟩:=ha
 obtain⟨tb,pb,wb⟩:=hb
 exact⟨_,qmE ho pa pb,op2 hF wa wb⟩
theorem qcm {op:CmpOp} {r:R2} {F:D->D->Option D} {f g:M D} (ho:OpR X (ybb op) r) (hF:OpS X.K F r) (ha:DE X c a f) (hb:DE X c b g) (hm:ybC op b=false):DE X c (.Compare a [op] [b] pos) (d2 F f g):=by
 obtain⟨ta,pa,wa⟩:=ha
 obtain⟨tb,pb,wb⟩:=hb
 exact⟨_,qiW ho pa pb hm,op2 hF wa wb⟩
def asB:D->Option Bool
 |.bl b=>some b
 |_=>none
def tst(f:M D):M Bool:=bnd f λd=>lift (asB d)
theorem qdJ {K:Fr0} {σ:St} {H:Hp} {QB:Bool->Hp->Prop} {o:Option Bool} {ρ:Env} (h:WpB K c σ H QB (lift o ρ)):∃b,o=some b/\∀H',Rep K c ρ σ H'->Gr c.O σ H H'->QB b H':=by
 cases o with
 |none=>exact h.elim
 |some d=>exact⟨d,rfl,h⟩
theorem qbv {d:D} {b:Bool} (h:asB d=some b):d=.bl b:=by
 cases d<;>simp[asB]at h
 subst h;rfl
theorem zS {op:CmpOp} {r:R2} {F:D->D->Option D} {f g:M D} (ho:OpR X (ybb op) r) (hF:OpS X.K F r) (ha:DE X c a f) (hb:DE X c b g) (hm:ybC op b=false):DT X c (.Compare a [op] [b] pos) (tst (d2 F f g)):=by
 obtain⟨ta,pa,wa⟩:=ha
 obtain⟨tb,pb,wb⟩:=hb
 refine⟨_,qfh ho pa pb hm,λρ σ H Q rp h=>op2 hF wa wb ρ σ H _ rp (Wp.bndB h λd ρ1 v H1 r1 i1 g1 h1=>?_)⟩
 obtain⟨b,e,h2⟩:=qdJ h1
 have:=qbv e
 subst this
 exact⟨b,i1,h2 H1 r1 .refl⟩
theorem yX {f:M D} (h:DE X c e f) (he:∀whole,isTrue e X.env whole=(do let v <-whole;standAt e.pos;ydg [v] (truthy v)):=by intro _;rfl):DT X c e (tst f):=by
 obtain⟨t,p,w⟩:=h
 refine⟨_,qky p he,λρ σ H Q rp h=>w ρ σ H _ rp (Wp.bndB h λd ρ1 v H1 r1 i1 g1 h1=>?_)⟩
 obtain⟨b,e,h2⟩:=qdJ h1
 have:=qbv e
 subst this
 exact⟨b,i1,h2 H1 r1 .refl⟩
def vK(f:M Bool):M Bool:=bnd f λb=>ret (!b)
theorem yY {f:M Bool} (h:DT X c a f):DT X c (.UnaryOp .Not a pos) (vK f):=by
 obtain⟨t,p,w⟩:=h
 exact⟨_,qkB p,λρ σ H Q rp h=>w ρ σ H _ rp (WpB.bndB h λd ρ1 H1 r1 g1 h1=>h1 H1 r1 .refl)⟩
def DW(X:Cx)(c:Fc)(e:Expr)(f:M Bool):Prop:=∃t,PW X e t/\∀ρ σ H Q,Rep X.K c ρ σ H->WpB X.K c σ H Q (f ρ)->t σ H Q
theorem DW.dt {f:M Bool} (h:DW X c e f):DT X c e f:=by
 obtain⟨t,p,w⟩:=h
 exact⟨t,p.pt,w⟩
def qi7(f g:M Bool):M Bool:=bnd f λb=>if b then g else ret false
def tor(f g:M Bool):M Bool:=bnd f λb=>if b then ret true else g
variable{wZ:List Expr}
theorem qi8 {f:M Bool} (h:DT X c a f):DW X c (.BoolOp .And [a] pos) f:=by
 obtain⟨t,p,w⟩:=h
 exact⟨t,qiO p,w⟩
theorem vN {f:M Bool} (h:DT X c a f):DW X c (.BoolOp .Or [a] pos) f:=by
 obtain⟨t,p,w⟩:=h
 exact⟨t,qkz p,w⟩
theorem qk6 {f g:M Bool} (ha:DT X c a f) (hb:DW X c (.BoolOp .And (b::wZ) pos) g):DW X c (.BoolOp .And (a::b::wZ) pos) (qi7 f g):=by
 obtain⟨ta,pa,wa⟩:=ha
 obtain⟨tb,pb,wb⟩:=hb
 refine⟨_,qkA pa pb,λρ σ H Q rp h=>wa ρ σ H _ rp (WpB.bndB h λd ρ1 H1 r1 g1 h1=>?_)⟩
 cases d with
 |true=>exact qkp (wb ρ1 σ H1 Q r1 (by simpa using h1))
 |false=>exact qko ((by simpa using h1:WpB X.K c σ H1 Q (ret false ρ1)) H1 r1 .refl)
theorem qbw {f g:M Bool} (ha:DT X c a f) (hb:DW X c (.BoolOp .Or (b::wZ) pos) g):DW X c (.BoolOp .Or (a::b::wZ) pos) (tor f g):=by
 obtain⟨ta,pa,wa⟩:=ha
 obtain⟨tb,pb,wb⟩:=hb
 refine⟨_,qmt pa pb,λρ σ H Q rp h=>wa ρ σ H _ rp (WpB.bndB h λd ρ1 H1 r1 g1 h1=>?_)⟩
 cases d with
 |true=>exact qkp ((by simpa using h1:WpB X.K c σ H1 Q (ret true ρ1)) H1 r1 .refl)
 |false=>exact qko (wb ρ1 σ H1 Q r1 (by simpa using h1))
def qk7(f:M D):M D:=bnd f λd=>bnd (lift (asB d)) λb=>ret (.bl (!b))
def qcW(f g:M D):M D:=bnd f λd=>bnd (lift (asB d)) λb=>if b then g else ret (.bl false)
def dor(f g:M D):M D:=bnd f λd=>bnd (lift (asB d)) λb=>if b then ret (.bl true)else g
theorem qfv {K:Fr0} {σ:St} {H:Hp} {Q:VK} {d:D} {k:Bool->M D} {ρ:Env} (h:Wp K c σ H Q (bnd (lift (asB d)) k ρ)):∃b,d=.bl b/\Wp K c σ H Q (k b ρ):=by
 unfold bnd at h
 cases e:asB d with
 |none=>rw[e]at h;exact h.elim
 |some b=>rw[e]at h;exact⟨b,qbv e,h⟩
theorem qa0 {op} {f:M D} (h:DE X c a f):DE X c (.BoolOp op [a] pos) f:=by
 obtain⟨t,p,w⟩:=h
 exact⟨t,qkC p,w⟩
theorem qhX {f:M D} (h:DE X c a f):DE X c (.UnaryOp .Not a pos) (qk7 f):=by
 obtain⟨t,p,w⟩:=h
 refine⟨_,qkE p,λρ σ H Q rp h=>w ρ σ H _ rp (Wp.bnd h λd ρ1 v H1 r1 i1 g1 h1=>?_)⟩
 obtain⟨b,e,h2⟩:=qfv h1
 subst e
 exact⟨b,i1,h2 _ H1 r1 rfl .refl⟩
theorem qcn {f g:M D} (ha:DE X c a f) (hb:DE X c (.BoolOp .And (b::wZ) pos) g):DE X c (.BoolOp .And (a::b::wZ) pos) (qcW f g):=by
 obtain⟨ta,pa,wa⟩:=ha
 obtain⟨tb,pb,wb⟩:=hb
 refine⟨_,qkD pa pb,λρ σ H Q rp h=>wa ρ σ H _ rp (Wp.bnd h λd ρ1 v H1 r1 i1 g1 h1=>?_)⟩
 obtain⟨k,e,h2⟩:=qfv h1
 subst e
 refine⟨k,i1,?_⟩
 cases k with
 |true=>exact qkp (wb ρ1 σ H1 Q r1 (by simpa using h2))
 |false=>exact qko ((by simpa using h2:Wp X.K c σ H1 Q (ret (.bl false) ρ1)) _ H1 r1 rfl .refl)
theorem qmR {f g:M D} (ha:DE X c a f) (hb:DE X c (.BoolOp .Or (b::wZ) pos) g):DE X c (.BoolOp .Or (a::b::wZ) pos) (dor f g):=by
 obtain⟨ta,pa,wa⟩:=ha
 obtain⟨tb,pb,wb⟩:=hb
 refine⟨_,qmw pa pb,λρ σ H Q rp h=>wa ρ σ H _ rp (Wp.bnd h λd ρ1 v H1 r1 i1 g1 h1=>?_)⟩
 obtain⟨k,e,h2⟩:=qfv h1
 subst e
 refine⟨k,i1,?_⟩
 cases k with
 |true=>exact qkp ((by simpa using h2:Wp X.K c σ H1 Q (ret (.bl true) ρ1)) _ H1 r1 rfl .refl)
 |false=>exact qko (wb ρ1 σ H1 Q r1 (by simpa using h2))
def dif(f:M Bool)(g k:M D):M D:=bnd f λb=>if b then g else k
theorem qk8 {t:Expr} {f:M Bool} {g k:M D} (ht:DT X c t f) (ha:DE X c a g) (hb:DE X c b k):DE X c (.IfExp t a b pos) (dif f g k):=by
 obtain⟨tt,pt,wt⟩:=ht
 obtain⟨ta,pa,wa⟩:=ha
 obtain⟨tb,pb,wb⟩:=hb
 refine⟨_,qgX pt pa pb,λρ σ H Q rp h=>wt ρ σ H _ rp (WpB.bnd h λd ρ1 H1 r1 g1 h1=>?_)⟩
 cases d with
 |true=>exact qkp (wa ρ1 σ H1 Q r1 (by simpa using h1))
 |false=>exact qko (wb ρ1 σ H1 Q r1 (by simpa using h1))
def wm (K:Fr0) (F:List D->Option D) (r:List V->Hp->VK->Prop):Prop:=∀(A:Addr->Prop)(H:Hp)(xs:List D)(d:D)(vs:List V)(Q:VK),(∀a,H a=none->A a)->IsL K A H xs vs->F xs=some d ->
 (∀w H',jG H H'->Is K A H' d w->Q w H')->r vs H Q
def qp(F:List D->Option D)(f:M (List D)):M D:=bnd f λds=>lift (F ds)
theorem qk9 {r:List V->Hp->VK->Prop} {F:List D->Option D} {f:M (List D)} {t:TA} (hF:wm X.K F r) (w:∀ρ σ H Q,Rep X.K c ρ σ H->WpL X.K c σ H Q (f ρ)->t σ H Q) :
  ∀ρ σ H Q,Rep X.K c ρ σ H->Wp X.K c σ H Q (qp F f ρ)->tCB r t σ H Q:=λρ σ H Q rp h=>w ρ σ H _ rp (WpL.bnd h λds ρ1 vs H1 r1 i1 g1 h1=>by
 obtain⟨d,e,h3⟩:=h1.lift
 exact hF _ H1 ds d vs Q (λa ha=>r1.new ha) i1 e λw H' s i=>h3 w H' (r1.same s) i (.of_same s))
theorem qC {id:String} {x:Str} {p:Pos} {es:List Expr} {r:List V->Hp->VK->Prop} {F:List D->Option D} {f:M (List D)} (hc:yr X (.builtin id) r) (hF:wm X.K F r) (hg:Gl X x) (hm:X.mg x=none) (hv:yaz x=some (.builtin id)) (ha:DA X c (e::es) f) (hn:x≠"__name__":=by decide) (hdb:(x==("__debug__":Str))=false:=by decide)
  (he:yae (e::es) X.env=(false,eval e X.env)::yae es X.env:=by rfl) (hpl:(yaQ pos (yae es X.env)).any (·.1)=false:=by rfl):DE X c (.Call (.Name x p) (e::es) [] pos) (qp F f):=by
 obtain⟨t,pa,w⟩:=ha
 exact⟨_,vM hc hg hm hv pa hn hdb he hpl,qk9 hF w⟩
theorem uO {T:String} {x:Str} {p:Pos} {es:List Expr} {r:List V->Hp->VK->Prop} {F:List D->Option D} {f:M (List D)} (hc:yr X (.type T) r) (hF:wm X.K F r) (hg:Gl X x) (hm:X.mg x=none) (hv:yaz x=some (.type T)) (ha:DA X c (e::es) f) (hn:x≠"__name__":=by decide) (hdb:(x==("__debug__":Str))=false:=by decide)
  (he:yae (e::es) X.env=(false,eval e X.env)::yae es X.env:=by rfl) (hpl:(yaQ pos (yae es X.env)).any (·.1)=false:=by rfl):DE X c (.Call (.Name x p) (e::es) [] pos) (qp F f):=by
 obtain⟨t,pa,w⟩:=ha
 exact⟨_,qcf hc hg hm hv pa hn hdb he hpl,qk9 hF w⟩
theorem jq {r:R2} {F:D->D->Option D} {f g:M D} (hr:IxR X r) (hF:OpS X.K F r) (ha:DE X c a f) (hb:DE X c b g) (hs:qc2 b:=by intro _ _;rfl):DE X c (.Subscript a b pos) (d2 F f g):=by
 obtain⟨ta,pa,wa⟩:=ha
 obtain⟨tb,pb,wb⟩:=hb
 exact⟨_,qkX hr pa pb hs,op2 hF wa wb⟩
end
inductive Fl where
 |nx (ρ:Env)|rt (d:D) (ρ:Env)|bk (ρ:Env)|ct (ρ:Env)
structure GrS (O:List Nat) (σ:St) (H:Hp) (σ':St) (H':Hp):Prop where
 ext:Ext (Cl O σ) H H'
 cl:∀b,Cl O σ b->(H b).isSome=true->Cl O σ' b
 dom:∀b,H' b=none->H b=none
theorem qez {H H':Hp} {b:Addr} (dom:H' b=none->H b=none) (h:(H b).isSome=true):(H' b).isSome=true:=by
 cases e:H' b with
 |none=>rw[dom e]at h;cases h
 |some o=>rfl
theorem GrS.refl{O:List Nat}{σ:St}{H:Hp}:GrS O σ H σ H:=⟨Ext.refl,λ_ h _=>h,λ_ h=>h⟩
theorem Gr.s{O:List Nat}{σ:St}{H H':Hp}(g:Gr O σ H H'):GrS O σ H σ H':=⟨g.ext,λ_ h _=>h,g.dom⟩
theorem GrS.trans {O:List Nat} {σ σ1 σ2:St} {H H1 H2:Hp} (a:GrS O σ H σ1 H1) (b:GrS O σ1 H1 σ2 H2):GrS O σ H σ2 H2 :=
 ⟨⟨λc xs h=>b.ext.tup c xs (a.ext.tup c xs h),λc o u h=>b.ext.frz c o u (a.ext.frz c o u h),λc o hc h=>b.ext.at_ c o (a.cl c hc (by rw[h];rfl)) (a.ext.at_ c o hc h)⟩,
  λc hc h=>b.cl c (a.cl c hc h) (qez (a.dom c) h),λc h=>a.dom c (b.dom c h)⟩
theorem GrS.is {K:Fr0} {c:Fc} {σ σ':St} {H H':Hp} {d:D} {v:V} (g:GrS c.O σ H σ' H') (h:Is K (Cn c σ) H d v):Is K (Cn c σ') H' d v :=
 Is.ext ⟨g.ext.tup,g.ext.frz,λb o hb h=>g.ext.at_ b o hb.2 h⟩ (λa ha hs=>⟨ha.1,g.cl a ha.2 hs⟩) h
theorem GrS.isL {K:Fr0} {c:Fc} {σ σ':St} {H H':Hp} {d:List D} {v:List V} (g:GrS c.O σ H σ' H') (h:IsL K (Cn c σ) H d v):IsL K (Cn c σ') H' d v :=
 IsL.ext ⟨g.ext.tup,g.ext.frz,λb o hb h=>g.ext.at_ b o hb.2 h⟩ (λa ha hs=>⟨ha.1,g.cl a ha.2 hs⟩) h
def WpS (K:Fr0) (c:Fc) (σ:St) (H:Hp) (D:qe6):R Fl->Prop
 |.ok (.nx ρ)=>∀σ' H',Rep K c ρ σ' H'->GrS c.O σ H σ' H'->D.nx σ' H'
 |.ok (.rt d ρ)=>∀v σ' H',Rep K c ρ σ' H'->Is K c.B H' d v->GrS c.O σ H σ' H'->D.rt v H'
 |.ok (.bk ρ)=>∀σ' H',Rep K c ρ σ' H'->GrS c.O σ H σ' H'->D.bk σ' H'
 |.ok (.ct ρ)=>∀σ' H',Rep K c ρ σ' H'->GrS c.O σ H σ' H'->D.ct σ' H'
 |.exc x ρ=>∀σ' H',Rep K c ρ σ' H'->GrS c.O σ H σ' H'->c.E x H'
 |.bad=>False
abbrev MS:=Env->R Fl
def DS(X:Cx)(c:Fc)(st:Stmt)(f:MS):Prop:=∃t,PS X st t/\∀ρ σ H D,Rep X.K c ρ σ H->WpS X.K c σ H D (f ρ)->t D σ H
def DSs(X:Cx)(c:Fc)(st:List Stmt)(f:MS):Prop:=∃t,PSs X st t/\∀ρ σ H D,Rep X.K c ρ σ H->WpS X.K c σ H D (f ρ)->t D σ H
theorem WpS.gr {K:Fr0} {c:Fc} {σ σ1:St} {H H1:Hp} {D:qe6}:∀{r:R Fl},WpS K c σ H D r->GrS c.O σ H σ1 H1->WpS K c σ1 H1 D r
 |.ok (.nx ρ),h,g=>λσ' H' hr hg=>h σ' H' hr (g.trans hg)
 |.ok (.rt d ρ),h,g=>λv σ' H' hr hi hg=>h v σ' H' hr hi (g.trans hg)
 |.ok (.bk ρ),h,g=>λσ' H' hr hg=>h σ' H' hr (g.trans hg)
 |.ok (.ct ρ),h,g=>λσ' H' hr hg=>h σ' H' hr (g.trans hg)
 |.exc x ρ,h,g=>λσ' H' hr hg=>h σ' H' hr (g.trans hg)
 |.bad,h,_=>h
def sbnd {α:Type} (f:M α) (k:α->MS):MS:=λρ=>match f ρ with
 |.ok (a,ρ')=>k a ρ'
 |.exc x ρ' => .exc x ρ'
 |.bad => .bad
section
variable{K:Fr0}{c:Fc}{σ:St}{H:Hp}{D:qe6}
theorem Wp.sbnd {f:M Sk.D} {k:Sk.D->MS} {ρ:Env} {Q':VK} (h:WpS K c σ H D (sbnd f k ρ)) (hQ:∀d ρ' v H',Rep K c ρ' σ H'->Is K (Cn c σ) H' d v->Gr c.O σ H H'->WpS K c σ H' D (k d ρ')->Q' v H'):Wp K c σ H Q' (f ρ):=by
 unfold Sk.sbnd at h
 cases e:f ρ with
 |ok p=>rw[e]at h;exact λv H' hr hi hg=>hQ p.1 p.2 v H' hr hi hg (h.gr hg.s)
 |exc x ρ'=>rw[e]at h;exact λH' hr hg=>h σ H' hr hg.s
 |bad=>rw[e]at h;exact h
theorem WpB.sbnd {f:M Bool} {k:Bool->MS} {ρ:Env} {Q':Bool->Hp->Prop} (h:WpS K c σ H D (sbnd f k ρ)) (hQ:∀d ρ' H',Rep K c ρ' σ H'->Gr c.O σ H H'->WpS K c σ H' D (k d ρ')->Q' d H'):WpB K c σ H Q' (f ρ):=by
 unfold Sk.sbnd at h
 cases e:f ρ with
 |ok p=>rw[e]at h;exact λH' hr hg=>hQ p.1 p.2 H' hr hg (h.gr hg.s)
 |exc x ρ'=>rw[e]at h;exact λH' hr hg=>h σ H' hr hg.s
 |bad=>rw[e]at h;exact h
theorem WpL.sbnd {f:M (List Sk.D)} {k:List Sk.D->MS} {ρ:Env} {Q':List V->Hp->Prop} (h:WpS K c σ H D (sbnd f k ρ)) (hQ:∀d ρ' v H',Rep K c ρ' σ H'->IsL K (Cn c σ) H' d v->Gr c.O σ H H'->WpS K c σ H' D (k d ρ')->Q' v H'):WpL K c σ H Q' (f ρ):=by
 unfold Sk.sbnd at h
 cases e:f ρ with
 |ok p=>rw[e]at h;exact λv H' hr hi hg=>hQ p.1 p.2 v H' hr hi hg (h.gr hg.s)
 |exc x ρ'=>rw[e]at h;exact λH' hr hg=>h σ H' hr hg.s
 |bad=>rw[e]at h;exact h
end
def qH (f g:MS):MS:=λρ=>match f ρ with
 |.ok (.nx ρ')=>g ρ'
 |r=>r
theorem WpS.mono_nx {K:Fr0} {c:Fc} {σ:St} {H:Hp} {D:qe6} {f g:MS} {ρ:Env} {N:St->Hp->Prop} (h:WpS K c σ H D (qH f g ρ)) (hN:∀ρ' σ' H',Rep K c ρ' σ' H'->GrS c.O σ H σ' H'->WpS K c σ' H' D (g ρ')->N σ' H') :
  WpS K c σ H {D with nx:=N} (f ρ):=by
 unfold qH at h
 cases e:f ρ with
 |ok fl=>
  rw[e]at h
  cases fl with
  |nx ρ'=>exact λσ' H' hr hg=>hN ρ' σ' H' hr hg (h.gr hg)
  |rt d ρ'=>exact h
  |bk ρ'=>exact h
  |ct ρ'=>exact h
 |exc x ρ'=>rw[e]at h;exact h
 |bad=>rw[e]at h;exact h
section
variable{X:Cx}{c:Fc}{a b e:Expr}{pos:Pos}{st:Stmt}{sts:List Stmt}
theorem qi9:DSs X c [] (λρ => .ok (.nx ρ)):=⟨_,qiP,λρ σ H D r h=>h σ H r .refl⟩
theorem ql {f:MS} (h:DS X c st f):DSs X c [st] f:=by
 obtain⟨t,p,w⟩:=h
 exact⟨t,qe8 p,w⟩
theorem qi {f g:MS} (h:DS X c st f) (hr:DSs X c sts g):DSs X c (st::sts) (qH f g):=by
 obtain⟨t,p,w⟩:=h
 obtain⟨t2,p2,w2⟩:=hr
 exact⟨_,qbr p p2,λρ σ H D r h=>w ρ σ H _ r (h.mono_nx λρ' σ' H' r' g' h'=>w2 ρ' σ' H' D r' h')⟩
def zK(f:M D):MS:=sbnd f λd ρ => .ok (.rt d ρ)
theorem Is.cn{K:Fr0}{σ:St}{H:Hp}{d:D}{v:V}(h:Is K (Cn c σ) H d v):Is K c.B H d v:=Is.ext Ext.refl (λ_ h _=>h.1) h
theorem qJ {f:M D} (h:DE X c e f):DS X c (.Return (some e) pos) (zK f):=by
 obtain⟨t,p,w⟩:=h
 exact⟨_,qe9 p,λρ σ H D r h=>w ρ σ H _ r (Wp.sbnd h λd ρ1 v H1 r1 i1 g1 h1=>h1 v σ H1 r1 i1.cn .refl)⟩
def jr(f:M D):MS:=sbnd f λ_ ρ => .ok (.nx ρ)
theorem uc {f:M D} (h:DE X c e f) (hs:ycY e none pos.line X.env=pure false:=by rfl):DS X c (.Expr e pos) (jr f):=by
 obtain⟨t,p,w⟩:=h
 exact⟨_,qiQ p hs,λρ σ H D r h=>w ρ σ H _ r (Wp.sbnd h λd ρ1 v H1 r1 i1 g1 h1=>h1 σ H1 r1 .refl)⟩
def sif(f:M Bool)(g k:MS):MS:=sbnd f λb=>if b then g else k
theorem jR {t:Expr} {s1 s2:List Stmt} {f:M Bool} {g k:MS} (ht:DT X c t f) (ha:DSs X c s1 g) (hb:DSs X c s2 k):DS X c (.If t s1 s2 pos) (sif f g k):=by
 obtain⟨tt,pt,wt⟩:=ht
 obtain⟨ta,pa,wa⟩:=ha
 obtain⟨tb,pb,wb⟩:=hb
 refine⟨_,qmz pt pa pb,λρ σ H D rp h=>wt ρ σ H _ rp (WpB.sbnd h λd ρ1 H1 r1 g1 h1=>?_)⟩
 cases d with
 |true=>exact qkp (wa ρ1 σ H1 D r1 (by simpa using h1))
 |false=>exact qko (wb ρ1 σ H1 D r1 (by simpa using h1))
theorem zE{α:Type}{l:List α}{i j:Nat}{v:α}(h:j≠i):(l.set i v)[j]? = l[j]? := List.getElem?_set_ne (yaX h)
theorem Cl.set {O:List Nat} {σ:St} {i:Nat} {v:Option V} (hi:i ∉ O) (a:Addr):Cl O (σ.set i v) a ↔ Cl O σ a:=by
 constructor
 ·intro h j hj
  have e:j≠i:=λe=>hi (e▸hj)
  have:=h j hj
  rw[zE e]at this
  exact this
 ·intro h j hj
  have e:j≠i:=λe=>hi (e▸hj)
  rw[zE e]
  exact h j hj
theorem Rep.set {K:Fr0} {ρ:Env} {σ:St} {H:Hp} {i:Nat} {d:D} {v:V} (r:Rep K c ρ σ H) (hi:i ∉ c.O) (h:Is K (Cn c σ) H d v):Rep K c (ρ.set i (some d)) (σ.set i (some v)) H where
 len:=by rw[lS_,lS_];exact r.len
 val := λj e hj=>by
  have up:∀{d':D}{v':V},Is K (Cn c σ) H d' v'->Is K (Cn c (σ.set i (some v))) H d' v':=λh=>Is.ext Ext.refl (λa ha _=>⟨ha.1,(Cl.set hi a).mpr ha.2⟩) h
  by_cases e1:j=i
  ·subst e1
   have hl:j<ρ.length:=by
    have:=(gI_.mp hj).1
    rwa [lS_]at this
   rw[List.getElem?_set_self hl]at hj
   cases hj
   refine⟨v,List.getElem?_set_self (by rw[<-r.len];exact hl),.inr ⟨hi,up h⟩⟩
  ·rw[zE e1]at hj
   obtain⟨w,h1,h2⟩:=r.val j e hj
   refine⟨w,by rw[zE e1];exact h1,?_⟩
   rcases h2 with⟨hj2,ds,a,xs,h3,h5,h6,h7⟩|⟨h3,h4⟩
   ·exact .inl ⟨hj2,ds,a,xs,h3,h5,h6,IsL.ext Ext.refl (λa ha _=>⟨ha.1,(Cl.set hi a).mpr ha.2⟩) h7⟩
   ·exact .inr ⟨h3,up h4⟩
 own:=λj hj w h=>by
  have e1:j≠i:=λe=>hi (e▸hj)
  rw[zE e1]at h
  exact r.own j hj w h
 inj:=λj k a hj hk h1 h2=>by
  have e1:j≠i:=λe=>hi (e▸hj)
  have e2:k≠i:=λe=>hi (e▸hk)
  rw[zE e1]at h1
  rw[zE e2]at h2
  exact r.inj j k a hj hk h1 h2
 b0:=r.b0
 kp:=r.kp
 dm:=r.dm
 pO:=r.pO
 ps:=λj hj=>by
  have e:j≠i:=λe=>hi (e▸r.pO j hj)
  rw[zE e];exact r.ps j hj
theorem GrS.set{O:List Nat}{σ:St}{H:Hp}{i:Nat}{v:Option V}(hi:i ∉ O):GrS O σ H (σ.set i v) H:=⟨Ext.refl,λb h _=>(Cl.set hi b).mpr h,λ_ h=>h⟩
def zC(i:Nat)(f:M D):MS:=sbnd f λd ρ => .ok (.nx (ρ.set i (some d)))
theorem zp {i:Nat} {x:Str} {pos':Pos} {f:M D} (hN:X.N.Nodup) (he:DE X c e f) (ho:i ∉ c.O:=by exact of_decide_eq_false rfl) (hi:X.N[i]? = some x:=by rfl) (hx:Loc X.env.scope x:=by first|exact ybj rfl|exact yaR rfl) (hs:ycY e (some (.Name x pos')) pos.line X.env=pure false:=by rfl) (hf:X.fn x=true\/X.env.scope.names.lookup x=some .local:=by first|exact .inl rfl|exact .inr rfl|assumption) :
  DS X c (.Assign [.Name x pos'] e pos) (zC i f):=by
 obtain⟨t,p,w⟩:=he
 refine⟨_,qhU hN hi hx p hs hf,λρ σ H D r h=>w ρ σ H _ r (Wp.sbnd h λd ρ1 v H1 r1 i1 g1 h1=>?_)⟩
 exact h1 _ H1 (r1.set ho i1) (.set ho)
def DG (X:Cx) (c:Fc) (tg:Expr) (f:D->Env->Option Env):Prop:=∃g,PG X tg g/\∀ρ σ H d v ρ' (N:St->Hp->Prop),Rep X.K c ρ σ H->Is X.K (Cn c σ) H d v->f d ρ=some ρ' ->
 (∀σ',Rep X.K c ρ' σ' H->GrS c.O σ H σ' H->(∀j∈c.O,σ'[j]? = σ[j]?)->N σ' H)->g v σ H N
def qt(i:Nat):D->Env->Option Env:=λd ρ=>some (ρ.set i (some d))
theorem qK {i:Nat} {x:Str} (hN:X.N.Nodup) (ho:i ∉ c.O:=by exact of_decide_eq_false rfl) (hi:X.N[i]? = some x:=by rfl) (hx:Loc X.env.scope x:=by first|exact ybj rfl|exact yaR rfl) (hf:X.fn x=true\/X.env.scope.names.lookup x=some .local:=by first|exact .inl rfl|exact .inr rfl|assumption) {p:Pos}:DG X c (.Name x p) (qt i):=by
 refine⟨_,qiR hN hi hx hf,λρ σ H d v ρ' N r h e k=>?_⟩
 cases e
 exact k _ (r.set ho h) (.set ho) λj hj=>zE λe=>ho (e▸hj)
def DGs (X:Cx) (c:Fc) (tgs:List Expr) (f:List D->Env->Option Env):Prop:=∃g,PGs X tgs g/\∀ρ σ H ds vs ρ' (N:St->Hp->Prop),Rep X.K c ρ σ H->IsL X.K (Cn c σ) H ds vs->f ds ρ=some ρ' ->
 (∀σ',Rep X.K c ρ' σ' H->GrS c.O σ H σ' H->(∀j∈c.O,σ'[j]? = σ[j]?)->N σ' H)->g vs σ H N
def qc4:List D->Env->Option Env
 | [],ρ=>some ρ
 |_,_=>none
def jI (f:D->Env->Option Env) (g:List D->Env->Option Env):List D->Env->Option Env
 |d::ds,ρ=>(f d ρ).bind (g ds)
 |_,_=>none
theorem qan:DGs X c [] qc4:=by
 refine⟨_,qiS,λρ σ H ds vs ρ' N r h e k=>?_⟩
 cases ds with
 |nil=>
  cases e
  exact⟨h,k σ r .refl λ_ _=>rfl⟩
 |cons d ds=>cases e
theorem jJ {tg:Expr} {tgs:List Expr} {f:D->Env->Option Env} {g:List D->Env->Option Env} (h1:DG X c tg f) (h2:DGs X c tgs g)
  (hs:(ybs (tg::tgs) X.env).map (·.2)=ych tg X.env::(ybs tgs X.env).map (·.2):=by rfl):DGs X c (tg::tgs) (jI f g):=by
 obtain⟨t1,p1,w1⟩:=h1
 obtain⟨t2,p2,w2⟩:=h2
 refine⟨_,qgY p1 p2 hs,λρ σ H ds vs ρ' N r h e k=>?_⟩
 cases ds with
 |nil=>cases e
 | cons d ds=>
  obtain⟨v,ws,rfl,i1,i2⟩:=h
  have e':(f d ρ).bind (g ds)=some ρ':=e
  cases e1:f d ρ with
  |none=>rw[e1]at e';cases e'
  |some ρ1=>
   rw[e1]at e'
   exact⟨v,ws,rfl,w1 ρ σ H d v ρ1 _ r i1 e1 λσ1 r1 g1 o1=>w2 ρ1 σ1 H ds ws ρ' N r1 (g1.isL i2) e' λσ2 r2 g2 o2=>k σ2 r2 (g1.trans g2) λj hj=>(o2 j hj).trans (o1 j hj)⟩
def qc5 (n:Nat) (g:List D->Env->Option Env):D->Env->Option Env
 |.tup ds,ρ=>if ds.length=n then g ds ρ else none
 |_,_=>none
theorem qco {es:List Expr} {k n:Nat} {p:Pos} {g:List D->Env->Option Env} (hc:X.calm=true) (h:DGs X c es g) (hn:(ybs es X.env).length=n:=by rfl) (hst:(ybs es X.env).findIdx? (·.1)=none:=by rfl):DG X c (.Tuple es k p) (qc5 n g):=by
 obtain⟨t,p,w⟩:=h
 refine⟨_,qkG (n:=n) hc p hn hst,λρ σ H d v ρ' N r h e q=>?_⟩
 cases d with
 | tup ds=>
  obtain⟨a,xs,rfl,ta,il⟩:=h
  have e':(if ds.length=n then g ds ρ else none)=some ρ':=e
  by_cases hl:ds.length=n
  ·rw[if_pos hl]at e'
   exact⟨a,xs,rfl,ta.sq,by rw[il.length];exact hl,w ρ σ H ds xs ρ' N r il e' q⟩
  ·rw[if_neg hl]at e';cases e'
 |_=>cases e
def qla (f:M D) (g:D->Env->Option Env):MS:=sbnd f λd ρ=>match g d ρ with
 |some ρ' => .ok (.nx ρ')
 |none => .bad
theorem qhY {tg:Expr} {f:M D} {g:D->Env->Option Env} (he:DE X c e f) (hg:DG X c tg g) (hs:ycN [tg] e pos.line X.env=pure false:=by rfl) (hw:ycO [tg] e X.env=pure none:=by rfl) (h1:(ybs [tg] X.env).map (·.2)=[ych tg X.env]:=by rfl):DS X c (.Assign [tg] e pos) (qla f g):=by
 obtain⟨t,p,w⟩:=he
 obtain⟨t2,p2,w2⟩:=hg
 refine⟨_,qhT p p2 hs hw h1,λρ σ H D r h=>w ρ σ H _ r (Wp.sbnd h λd ρ1 v H1 r1 i1 g1 h1=>?_)⟩
 cases e:g d ρ1 with
 |none=>rw[e]at h1;exact h1.elim
 |some ρ2=>
  rw[e]at h1
  exact w2 ρ1 σ H1 d v ρ2 _ r1 i1 e λσ' r2 g2 _=>h1 σ' H1 r2 g2
end
section
variable{K:Fr0}
def iiD (g:Int->Int->D):D->D->Option D
 |.int i,.int j=>some (g i j)
 |_,_=>none
def qhZ (C:Int->Int->Bool) (g:Int->Int->D):D->D->Option D
 |.int i,.int j=>if C i j then some (g i j)else none
 |_,_=>none
theorem qbx {g:Int->Int->V} {gD:Int->Int->D} (hg:∀A H i j,Is K A H (gD i j) (g i j)):OpS K (iiD gD) (rI0 g):=by
 intro A H x y d v u Q hn ix iy e k
 cases x<;>cases y<;>simp only[iiD]at e<;>try (cases e;done)
 rename_i i j
 cases (yaI e)
 cases (show v=.int i from ix)
 cases (show u=.int j from iy)
 exact⟨i,j,rfl,rfl,k _ H (jG.refl H) (hg _ _ _ _)⟩
theorem qfw {C:Int->Int->Prop} {CB:Int->Int->Bool} {g:Int->Int->V} {gD:Int->Int->D} (hC:∀i j,CB i j=true->C i j) (hg:∀A H i j,Is K A H (gD i j) (g i j)):OpS K (qhZ CB gD) (rI C g):=by
 intro A H x y d v u Q hn ix iy e k
 cases x<;>cases y<;>simp only[qhZ]at e<;>try (cases e;done)
 rename_i i j
 obtain⟨e1,e2⟩:=jn e
 subst e2
 cases (show v=.int i from ix)
 cases (show u=.int j from iy)
 exact⟨i,j,rfl,rfl,hC i j e1,k _ H (jG.refl H) (hg _ _ _ _)⟩
def qfx:D->D->Option D:=iiD λi j => .int (i-j)
theorem qby:OpS K qfx (rI0 λi j => .int (i-j)):=qbx λ_ _ _ _=>rfl
def yo(i:Int):Bool:=decide (-(2 ^ 64)<i)&&decide (i<2 ^ 64)
theorem qcp {i:Int} (h:yo i=true) : -(2 ^ 64)<i/\i<2 ^ 64:=by
 unfold yo at h
 rw[yal]at h
 exact⟨of_decide_eq_true h.1,of_decide_eq_true h.2⟩
def qc6(i j:Int):Bool:=yo i||yo j
theorem qg7 {i j:Int} (h:qc6 i j=true):qkL i j:=by
 unfold qc6 at h
 rw[ycs]at h
 rcases h with h|h
 ·exact .inl (qcp h)
 ·exact .inr (qcp h)
def qeA(i j:Int):Bool:=decide (0<j)&&decide (j<1606938044258990275541962092341162602522202993782792835301376)
theorem qdK {i j:Int} (h:qeA i j=true):qkK i j:=by
 unfold qeA at h
 rw[yal]at h
 exact⟨of_decide_eq_true h.1,of_decide_eq_true h.2⟩
def vz:D->D->Option D:=qhZ qeA λi j => .int (i/j)
theorem u8:OpS K vz (rI qkK λi j => .int (i/j)):=qfw (λ_ _=>qdK) λ_ _ _ _=>rfl
def qh0:D->D->Option D:=qhZ (λ_ j=>decide (0<j)) λi j => .int (i%j)
theorem qao:OpS K qh0 (rI (λ_ j=>0<j) λi j => .int (i%j)):=qfw (λ_ _ h=>of_decide_eq_true h) λ_ _ _ _=>rfl
def ltD:D->D->Option D:=iiD λi j => .bl (decide (i<j))
def leD:D->D->Option D:=iiD λi j => .bl (decide (i<=j))
def gtD:D->D->Option D:=iiD λi j => .bl (decide (j<i))
def geD:D->D->Option D:=iiD λi j => .bl (decide (j<=i))
theorem qfy:OpS K ltD (rI0 λi j => .bl (decide (i<j))):=qbx λ_ _ _ _=>rfl
theorem qh1:OpS K gtD (rI0 λi j => .bl (decide (j<i))):=qbx λ_ _ _ _=>rfl
theorem qfz:OpS K geD (rI0 λi j => .bl (decide (j<=i))):=qbx λ_ _ _ _=>rfl
def sc2:D->D->Option Bool
 |.non,.non=>some true|.non,.int _=>some false|.int _,.non=>some false|.non,.bl _=>some false|.bl _,.non=>some false|.non,.str _=>some false|.str _,.non=>some false
 |.int i,.int j=>some (decide (i=j))|.bl i,.bl j=>some (decide (i=j))|.str i,.str j=>some (decide (i=j))
 |.int _,.str _=>some false|.str _,.int _=>some false|.bl _,.str _=>some false|.str _,.bl _=>some false
 |_,_=>none
def eqS(x y:D):Option D:=(sc2 x y).map D.bl
def neS(x y:D):Option D:=(sc2 x y).map λb=>D.bl (!b)
theorem qh2 {A:Addr->Prop} {H:Hp} {x y:D} {v u:V} {b:Bool} (ix:Is K A H x v) (iy:Is K A H y u) (e:sc2 x y=some b):qmH v u=true/\decide (v=u)=b:=by
 cases x<;>cases y<;>simp only[sc2]at e<;>first
  |(cases e;done)
  |(cases ix;cases iy;cases e;exact⟨rfl,rfl⟩)
  |(cases ix;cases iy;cases e;exact⟨rfl,by simp⟩)
  |(cases ix;cases iy;cases e;exact⟨rfl,by rw[ybm];simp⟩)
theorem qja:OpS K eqS rEq:=by
 intro A H x y d v u Q hn ix iy e k
 unfold eqS at e
 cases e1:sc2 x y with
 |none=>rw[e1]at e;cases e
 |some b=>
  rw[e1]at e
  cases e
  obtain⟨h1,h2⟩:=qh2 ix iy e1
  exact⟨h1,by rw[h2];exact k _ H (jG.refl H) rfl⟩
theorem qfA:OpS K neS rNe:=by
 intro A H x y d v u Q hn ix iy e k
 unfold neS at e
 cases e1:sc2 x y with
 |none=>rw[e1]at e;cases e
 |some b=>
  rw[e1]at e
  cases e
  obtain⟨h1,h2⟩:=qh2 ix iy e1
  exact⟨h1,by rw[h2];exact k _ H (jG.refl H) rfl⟩
def uI:D->Bool
 |.non=>true
 |_=>false
theorem qdL {A:Addr->Prop} {H:Hp} {x:D} {v:V} (ix:Is K A H x v):decide (v=V.non)=uI x:=by
 cases x with
 |non=>cases ix;rfl
 |bl b=>cases ix;rfl
 |int i=>cases ix;rfl
 |str s=>cases ix;rfl
 |tup ds=>obtain⟨a,xs,rfl,_⟩:=ix;rfl
 |lst ds=>obtain⟨a,xs,rfl,_⟩:=ix;rfl
 |dic ds=>obtain⟨a,rfl,_⟩:=ix;rfl
 |fz ds=>obtain⟨a,rfl,_⟩:=ix;rfl
 |exc ds=>obtain⟨a,rfl,_⟩:=ix;rfl
def isN(x y:D):Option D:=if uI y then some (.bl (uI x))else none
def qoc(x y:D):Option D:=if uI y then some (.bl (!uI x))else none
theorem qc7:OpS K isN (λx y H Q=>y=.non/\Q (.bl (decide (x=.non))) H):=by
 intro A H x y d v u Q hn ix iy e k
 obtain⟨e1,e2⟩:=jn e
 subst e2
 have h:=qdL iy
 rw[e1]at h
 refine⟨of_decide_eq_true h,?_⟩
 rw[qdL ix]
 exact k _ H (jG.refl H) rfl
def ixD:D->D->Option D
 |.tup ds,.int i=>atI ds i
 |.lst ds,.int i=>atI ds i
 |.fz ns,.int i=>(atI ns i).map D.int
 |_,_=>none
theorem IsL.atI {A:Addr->Prop} {H:Hp} {ds:List D} {xs:List V} {i:Int} {d:D} (h:IsL K A H ds xs) (e:L2.atI ds i=some d):∃v,L2.atI xs i=some v/\Is K A H d v:=by
 unfold L2.atI at e |-
 rw[h.length]
 cases e1:ixN ds.length i with
 |none=>rw[e1]at e;cases e
 |some j=>
  rw[e1]at e
  exact h.get e
theorem qZ:OpS K ixD (λx y H Q=>qmN K x y H Q\/qmO K x y H Q):=by
 intro A H x y d v u Q hn ix iy e k
 cases x<;>cases y<;>simp only[ixD]at e<;>try (cases e;done)
 ·rename_i ds i
  cases iy
  obtain⟨a,xs,rfl,ta,il⟩:=ix
  obtain⟨w,h1,h2⟩:=il.atI e
  exact .inr ⟨a,xs,i,w,rfl,rfl,ta.sq,h1,k w H (jG.refl H) h2⟩
 ·rename_i ds i
  cases iy
  obtain⟨a,xs,rfl,_,ta,il⟩:=ix
  obtain⟨w,h1,h2⟩:=il.atI e
  exact .inl ⟨a,xs,i,w,rfl,rfl,.inl (.inl ta),h1,k w H (jG.refl H) h2⟩
 ·rename_i ns i
  cases iy
  obtain⟨a,rfl,ta⟩:=ix
  cases e1:L2.atI ns i with
  |none=>rw[e1]at e;cases e
  | some m=>
   rw[e1]at e
   cases e
   have h1:L2.atI (ns.map V.int) i=some (V.int m):=by
    unfold L2.atI at e1 |-
    rw[lM_]
    cases e2:ixN ns.length i with
    |none=>rw[e2]at e1;cases e1
    |some j=>
     rw[e2]at e1
     have e3:ns[j]? = some m:=e1
     show(ns.map V.int)[j]? = some (V.int m)
     rw[gM_,e3];rfl
   exact .inl ⟨a,_,i,.int m,rfl,rfl,ta.sq,h1,k _ H (jG.refl H) rfl⟩
theorem IsL.inv1 {A:Addr->Prop} {H:Hp} {d:D} {vs:List V} (h:IsL K A H [d] vs):∃v,vs=[v]/\Is K A H d v:=by
 obtain⟨x,ys,e1,e2,e3⟩:=h
 have e3':ys=[]:=e3
 exact⟨x,by rw[e1,e3'],e2⟩
theorem IsL.inv2 {A:Addr->Prop} {H:Hp} {d d':D} {vs:List V} (h:IsL K A H [d,d'] vs):∃v w,vs=[v,w]/\Is K A H d v/\Is K A H d' w:=by
 obtain⟨x,ys,e1,e2,e3⟩:=h
 obtain⟨w,e4,e5⟩:=IsL.inv1 e3
 exact⟨x,w,by rw[e1,e4],e2,e5⟩
def qmj:List D->Option D
 | [.int i]=>some (.int (if i<0 then -i else i))
 |_=>none
theorem qfB:wm K qmj (λxs H Q=>∃i,xs=[.int i]/\Q (.int (if i<0 then -i else i)) H):=by
 intro A H xs d vs Q hn h e k
 unfold qmj at e
 split at e
 ·rename_i i
  obtain⟨v,rfl,e2⟩:=IsL.inv1 h
  cases e2;cases e
  exact⟨i,rfl,k _ H (jG.refl H) rfl⟩
 ·cases e
def qjb:List D->Option D
 | [.int i,.int j]=>some (.int (if j>i then j else i))
 |_=>none
def wn:List D->Option D
 | [.int i,.int j]=>some (.int (if j<i then j else i))
 |_=>none
theorem qfC:wm K qjb (λxs H Q=>∃i j,xs=[.int i,.int j]/\Q (.int (if j>i then j else i)) H):=by
 intro A H xs d vs Q hn h e k
 unfold qjb at e
 split at e
 ·rename_i i j
  obtain⟨v,w,rfl,e2,e3⟩:=IsL.inv2 h
  cases e2;cases e3;cases e
  exact⟨i,j,rfl,k _ H (jG.refl H) rfl⟩
 ·cases e
theorem qap:wm K wn (λxs H Q=>∃i j,xs=[.int i,.int j]/\Q (.int (if j<i then j else i)) H):=by
 intro A H xs d vs Q hn h e k
 unfold wn at e
 split at e
 ·rename_i i j
  obtain⟨v,w,rfl,e2,e3⟩:=IsL.inv2 h
  cases e2;cases e3;cases e
  exact⟨i,j,rfl,k _ H (jG.refl H) rfl⟩
 ·cases e
def qaq:List D->Option D
 | [.int i,.int j]=>if qeA i j then some (.tup [.int (i/j),.int (i%j)])else none
 |_=>none
theorem qcq:wm K qaq (λxs H Q=>∃i j,xs=[.int i,.int j]/\qkK i j/\∀p,H p=none->Q (.ref p) (upd H p (.tup [.int (i/j),.int (i%j)]))):=by
 intro A H xs d vs Q hn h e k
 unfold qaq at e
 split at e
 ·rename_i i j
  obtain⟨v,w,rfl,e2,e3⟩:=IsL.inv2 h
  cases e2;cases e3
  obtain⟨e6,e7⟩:=jn e
  subst e7
  exact⟨i,j,rfl,qdK e6,λp hp=>k _ _ (qu hp _) ⟨p,_,rfl,.inl qx,_,_,rfl,rfl,_,_,rfl,rfl,rfl⟩⟩
 ·cases e
def qod:List D->Option D
 | [.int i]=>some (.int i)
 | [.bl b]=>some (.int (if b then 1 else 0))
 |_=>none
def ud:List D->Option D
 | [.tup ds]=>some (.int ds.length)
 | [.lst ds]=>some (.int ds.length)
 | [.fz ns]=>some (.int ns.length)
 | [.str x]=>if qQ x.length then some (.int x.length)else none
 |_=>none
def qns(K:Fr0):List V->Hp->VK->Prop:=λxs H Q=>(∃p ys,xs=[.ref p]/\(SqL K H p ys\/SqT K H p ys)/\Q (.int ys.length) H)\/(∃z,xs=[.str z]/\z.length<=yam/\Q (.int z.length) H)
theorem zh{X:Cx}:yr X (.builtin "len") (qns X.K):=yr.or qch qci
theorem zt:wm K ud (qns K):=by
 intro A H xs d vs Q hn h e k
 unfold ud at e
 split at e
 ·obtain⟨v,rfl,a,zs,rfl,ta,il⟩:=IsL.inv1 h
  cases e
  exact .inl ⟨a,zs,rfl,.inr ta.sq,by rw[il.length];exact k _ H (jG.refl H) rfl⟩
 ·obtain⟨v,rfl,a,zs,rfl,_,ta,il⟩:=IsL.inv1 h
  cases e
  exact .inl ⟨a,zs,rfl,.inl (.inl (.inl ta)),by rw[il.length];exact k _ H (jG.refl H) rfl⟩
 ·obtain⟨v,rfl,a,rfl,ta⟩:=IsL.inv1 h
  cases e
  exact .inl ⟨a,_,rfl,.inl ta.sq,by rw[lM_];exact k _ H (jG.refl H) rfl⟩
 ·rename_i z
  obtain⟨v,rfl,e2⟩:=IsL.inv1 h
  cases e2
  obtain⟨e4,e5⟩:=jn e
  subst e5
  exact .inr ⟨z,rfl,of_decide_eq_true e4,k _ H (jG.refl H) rfl⟩
 ·cases e
def yZ:List D->Option D
 | [.tup ds]=>some (.tup ds)
 | [.lst ds]=>some (.tup ds)
 |_=>none
theorem ut:wm K yZ (λxs H Q=>∃p ys,xs=[.ref p]/\((SqL K H p ys/\∀l,H l=none->Q (.ref l) (upd H l (.tup ys)))\/(SqT K H p ys/\Q (.ref p) H))):=by
 intro A H xs d vs Q hn h e k
 unfold yZ at e
 split at e
 ·obtain⟨v,rfl,a,zs,rfl,ta,il⟩:=IsL.inv1 h
  cases e
  exact⟨a,zs,rfl,.inr ⟨ta.sq,k _ H (jG.refl H) ⟨a,zs,rfl,ta,il⟩⟩⟩
 ·obtain⟨v,rfl,a,zs,rfl,_,ta,il⟩:=IsL.inv1 h
  cases e
  exact⟨a,zs,rfl,.inl ⟨.inl (.inl ta),λl hl=>k _ _ (qu hl _) ⟨l,zs,rfl,.inl qx,IsL.ext (Ext.of_same (qu hl _)) (λ_ h _=>h) il⟩⟩⟩
 ·cases e
def qc8:List D->Option D
 | [.tup ds]=>some (.lst ds)
 | [.lst ds]=>some (.lst ds)
 |_=>none
theorem qeB:wm K qc8 (λxs H Q=>∃p ys,xs=[.ref p]/\(SqL K H p ys\/SqT K H p ys)/\∀l,H l=none->Q (.ref l) (upd H l (.lst ys))):=by
 intro A H xs d vs Q hn h e k
 unfold qc8 at e
 split at e
 ·obtain⟨v,rfl,a,zs,rfl,ta,il⟩:=IsL.inv1 h
  cases e
  exact⟨a,zs,rfl,.inr ta.sq,λl hl=>k _ _ (qu hl _) ⟨l,zs,rfl,hn l hl,qx,IsL.ext (Ext.of_same (qu hl _)) (λ_ h _=>h) il⟩⟩
 ·obtain⟨v,rfl,a,zs,rfl,_,ta,il⟩:=IsL.inv1 h
  cases e
  exact⟨a,zs,rfl,.inl (.inl (.inl ta)),λl hl=>k _ _ (qu hl _) ⟨l,zs,rfl,hn l hl,qx,IsL.ext (Ext.of_same (qu hl _)) (λ_ h _=>h) il⟩⟩
 ·cases e
end
end L2.Sk
namespace L2.Sk
open PySem PySem.Spec PySem.Calls PyProof.Rows PySem.W
def qh3(h:Heap)(a D:Addr):Prop:=∃o,h.get? a=some o/\o.cls=.ref D
theorem qh3.looks {M:Model} {h:Heap} {a D:Addr} (I:qh3 h a D):Looks M h (typeOf (.ref a)) (.ref D):=by
 obtain⟨o,h1,h2⟩:=I
 rw[<-h2]
 exact(Looks.ld h1).andThen .now
section
variable{prog:yao}{w:World}{A:yau}{E:Value->yab->Prop}{K:Frag}{h:Heap}{g:Array yfC}{d:Drawn}{t:Nat}{os:OsState}{a D:Addr}
theorem qlb (hm:mroIn K D (.type "object")=some true) {tp:Value} {R:ydR->yab->Prop} (X:K.In h) (I:qh3 h a D) (hq:R (.ok (.ret (.ref D))) ⟨h,g,d,t,os⟩) :
  ybU (model prog w) A (.call (.builtin "getset_descriptor.__get__") ⟨[.builtin "object.__class__",.ref a,tp],[]⟩) R ⟨h,g,d,t,os⟩:=by
 have L0:=I.looks (M:=model prog w)
 have L1:=looks_mroIn (M:=model prog w) X hm
 have hT5:(⟨h,g,d,t,os⟩:yab).TypeIs (.builtin "object.__class__") "getset_descriptor":=yc1
 refine yeK F.slot_gs_get.plain F.entry_gs_get (F.slot_gs_get.check _ _ _ _ _ _ _ _ hT5 (F.args_gs_get _ _ _) ?_)
 have eo:".".intercalate ("object.__class__".cutAt '.').dropLast="object":=by decide +kernel
 repeat (any_goals (first|assumption|with_reducible refine L0.at ?_|with_reducible refine L1.at ?_|wp_step))
 rw[eo]
 refine L1.at ?_
 repeat (any_goals (first|assumption|with_reducible refine L0.at ?_|wp_step))
 refine⟨Code.quiet_builtin _ (by decide +kernel),yec F.entry_object_class ?_⟩
 repeat (any_goals (first|assumption|with_reducible refine L0.at ?_|wp_step))
theorem qg8 (ha:findIn K (.ref D) "__class__"=some (some (.builtin "object.__class__"))) (hm:mroIn K D (.type "object")=some true) {tk:Tok} {Q:Fin->yab->Prop} (X:K.In h) (I:qh3 h a D) (hq:Q (.done (.ret (.ref D))) ⟨h,g,d,t,os⟩) :
  wpAny (model prog w) A (ybV.«object.__getattribute__» ⟨[.ref a,.str "__class__" tk],[]⟩) Q E ⟨h,g,d,t,os⟩:=by
 have L0:=I.looks (M:=model prog w)
 have L1:=looks_findIn (M:=model prog w) X ha
 have hT5:(⟨h,g,d,t,os⟩:yab).TypeIs (.builtin "object.__class__") "getset_descriptor":=yc1
 have f5:=yc1
 have f6:=F.slot_gs_get.lookup
 have f7:=F.slot_gs_set.lookup
 repeat (any_goals (first|assumption|with_reducible refine L0.at ?_|with_reducible refine L1.at ?_|wp_step))
 refine qlb hm X I ?_
 repeat (any_goals (first|assumption|wp_step))
theorem qg9 (hb:Looks (model prog w) h (isSubtype (.ref D) (.type "BaseException")) true) {nameV:Value} {Q:Unit->yab->Prop} (I:qh3 h a D) (hq:Q () ⟨h,g,d,t,os⟩):wpAny (model prog w) A (checkBuiltinCall "BaseException.__getattribute__" ⟨[.ref a,nameV],[]⟩) Q E ⟨h,g,d,t,os⟩:=by
 have hk:builtinKind "BaseException.__getattribute__"=some .slot:=by decide +kernel
 have hsplit:splitId "BaseException.__getattribute__"=some ("BaseException","__getattribute__"):=by decide +kernel
 have L0:=I.looks (M:=model prog w)
 have ha:=F.args_bexc_ga (.ref a) nameV
 simp only[checkBuiltinCall,hk,hsplit]
 refine yaa ?_
 ·unfold isInstance
  repeat (first|with_reducible refine L0.at ?_|with_reducible refine hb.at ?_|wp_step)
  exact hq
theorem qmS (FA:ExcAttrFacts "ValueError") (hga:findIn K (.ref D) "__getattribute__"=some (some (.builtin "BaseException.__getattribute__"))) (hgt:findIn K (.ref D) "__getattr__"=some none) (ha:findIn K (.ref D) "__class__"=some (some (.builtin "object.__class__"))) (hm:mroIn K D (.type "object")=some true)
  (hb:Looks (model prog w) h (isSubtype (.ref D) (.type "BaseException")) true) {tk:Tok} {fill expr:Bool} {Q:Value->yab->Prop} (X:K.In h) (I:qh3 h a D) (hq:Q (.ref D) ⟨h,g,d,t,os⟩) :
  wpAny (model prog w) A (getAttrBy (.ref a) (.str "__class__" tk) fill expr) Q E ⟨h,g,d,t,os⟩:=by
 have L0:=I.looks (M:=model prog w)
 have L1:=looks_findIn (M:=model prog w) X hga
 have L2:=looks_findIn (M:=model prog w) X hgt
 have f3:=FA.ga.bind (.ref a)
 have hx0:(expr&&onTheHeap (ycP "BaseException.__getattribute__"))=false:=by cases expr<;>rfl
 have hx2:(ycP "BaseException.__getattribute__"==ycP "object.__getattribute__")=false:=by decide +kernel
 have hx1:(onTheHeap (yaf D)&&ycP "BaseException.__getattribute__"==ycP "object.__getattribute__")=false:=by rw[hx2];rfl
 repeat (any_goals (first|assumption|with_reducible refine L0.at ?_|with_reducible refine L1.at ?_|with_reducible refine L2.at ?_|wp_step))
 refine yeK FA.ga.plain F.entry_bexc_ga (qg9 hb I (qg8 ha hm X I ?_))
 repeat (any_goals (first|assumption|wp_step))
theorem qjc (FA:ExcAttrFacts "ValueError") (hga:findIn K (.ref D) "__getattribute__"=some (some (.builtin "BaseException.__getattribute__"))) (hgt:findIn K (.ref D) "__getattr__"=some none) (ha:findIn K (.ref D) "__class__"=some (some (.builtin "object.__class__"))) (hm:mroIn K D (.type "object")=some true)
  (hb:Looks (model prog w) h (isSubtype (.ref D) (.type "BaseException")) true) {Q:Option Value->yab->Prop} (X:K.In h) (I:qh3 h a D) (hq:Q (some (.ref D)) ⟨h,g,d,t+1,os⟩) :
  wpAny (model prog w) A (getAttr? (.ref a) "__class__") Q E ⟨h,g,d,t,os⟩:=by
 unfold getAttr? getAttrBy?
 repeat (any_goals (first|assumption|with_reducible apply qmS FA hga hgt ha hm hb X I|wp_step))
end
theorem qha {K:Frag} {a D:Addr} (c:XK6 K D):KitX K (.ref a) (.ref D) (λh=>qh3 h a D) where
 ty:=λ_ _ _ I=>I.looks
 it := λ_ _ X _=>by
  obtain⟨cdD,hcD⟩:=Option.isSome_iff_exists.mp c.is
  unfold clsIn at hcD
  split at hcD
  ·rename_i c' d' cd' sl' ho
   intro A' Q' E' s' k q
   unfold isType loadHead
   exact yaa (wpAny_loadPart (k _ _ (X _ _ ho)) (yac q))
  ·cases hcD
 ne := λh tp dd its n sl X htp=>by
  obtain⟨cdD,hcD⟩:=Option.isSome_iff_exists.mp c.is
  refine Bool.eq_false_iff.mpr λq=>?_
  have e:D=tp:=Value.ref.inj (beq_iff_eq.mp q)
  subst e
  unfold clsIn at hcD
  split at hcD
  ·rename_i c' d' cd' sl' ho
   have z:=(X _ _ ho).symm.trans htp
   cases z
  ·cases hcD
 ca:=λ{prog w A E Q s} X p k=>by
  have I:=p
  obtain⟨h,g,d,t,os⟩:=s
  exact qjc PySem.F.attrBase_ValueError.toExcAttrFacts c.ga c.gt c.cl c.ob (looks_subIn X c.be) X I k
theorem qa1 {X:Cx} {pins:List (Addr×Obj)} {σ:St} {H:Hp} {s:yab} {A:yau} {E:Value->yab->Prop} {Q:Value->yab->Prop} {a C:Addr} {c:Value} {b:Bool} (I:Inv X pins σ H s) (xc:XK6 X.K C) (hH:∃o vs,H a=some (.frz o (.own a))/\o.cls=.ref C/\o.data=.fields vs)
  (e:kitOne X.K (.ref C) c=some b) (h:∀tk,Q (.bool b) {s with toks:=tk}):wpAny (model X.prog X.w) A (call (.builtin "isinstance") [.ref a,c]) Q E s:=by
 obtain⟨o,vs,h1,h2,_⟩:=hH
 obtain⟨p,_⟩:=(show yq X.prog X.w H s.heap a (.frz o (.own a))from I.hok a _ h1)
 exact kia_one (qha xc) I.kIn ⟨o,p,h2⟩ e (λz=>nomatch z) h
end L2.Sk
namespace L2.Sk
open PySem PySem.Spec PyProof.Rows
def tyD:D->String
 |.non=>"NoneType"
 |.bl _=>"bool"
 |.int _=>"int"
 |.str _=>"str"
 |.tup _=>"tuple"
 |.lst _=>"list"
 |.dic _=>"dict"
 |.fz _=>"list"
 |.exc _=>"exc"
def qbz(t T:String):Bool:=t==T||(t=="bool"&&T=="int")
def qc9:List String:=["NoneType","bool","int","str","tuple","list","dict"]
theorem qjd (d:D) (h:∀C,d ≠ .exc C):tyD d∈qc9:=by
 cases d<;>first|(simp[tyD,qc9];done)|exact absurd rfl (h _)
structure qje (K:Fr0) (T:String):Prop where
 ok:∀t∈qc9,yew K (.type t) (.type T)=some (qbz t T)
 ex:T∈["int","bool","str","tuple","list","dict"]
 nx:qbz "exc" T=false
theorem qfD {K:Fr0}:qje K "int":=⟨λt ht=>by
 simp only[qc9,yan,nN_,or_false]at ht
 rcases ht with rfl|rfl|rfl|rfl|rfl|rfl|rfl<;>kernel_rfl,by decide,by decide⟩
theorem qdM {K:Fr0}:qje K "bool":=⟨λt ht=>by
 simp only[qc9,yan,nN_,or_false]at ht
 rcases ht with rfl|rfl|rfl|rfl|rfl|rfl|rfl<;>kernel_rfl,by decide,by decide⟩
theorem vO {K:Fr0}:qje K "tuple":=⟨λt ht=>by
 simp only[qc9,yan,nN_,or_false]at ht
 rcases ht with rfl|rfl|rfl|rfl|rfl|rfl|rfl<;>kernel_rfl,by decide,by decide⟩
theorem qdN {K:Fr0}:qje K "list":=⟨λt ht=>by
 simp only[qc9,yan,nN_,or_false]at ht
 rcases ht with rfl|rfl|rfl|rfl|rfl|rfl|rfl<;>kernel_rfl,by decide,by decide⟩
section
variable{X:Cx}{pins:List (Addr×Obj)}{σ:St}{H:Hp}{s:yab}{A:Addr->Prop}{E:Value->yab->Prop}{Q:Value->yab->Prop}
theorem qlc {d:D} {v:V} {u:Value} {T:String} (I:Inv X pins σ H s) (h:Is X.K A H d v) (rv:jO v u) (kt:qje X.K T) (hQ:∀tk,Q (.bool (qbz (tyD d) T)) {s with toks:=tk}) :
  wpAny (model X.prog X.w) X.A (call (.builtin "isinstance") [u,.type T]) Q E s:=by
 by_cases hx:∃C,d=.exc C
 ·obtain ⟨C,rfl⟩:=hx
  obtain⟨a,rfl,xa⟩:=h
  cases (show u=yaf a from rv)
  have q:∀tk,Q (.bool false) {s with toks:=tk}:=λtk=>by
   have:=hQ tk
   rw[show tyD (.exc C)="exc" from rfl,kt.nx]at this
   exact this
  obtain⟨D0,h0,h1,h2⟩:=xa
  exact qa1 I h1 h2 (h1.no T kt.ex) q
 have e:=kt.ok (tyD d) (qjd d λC hC=>hx ⟨C,hC⟩)
 cases d with
 |exc C=>exact absurd ⟨C,rfl⟩ hx
 |non=>cases h;exact ui I rv .non e hQ
 |bl b=>cases h;exact ui I rv (.bl b) e hQ
 |int i=>cases h;exact ui I rv (.int i) e hQ
 |str x=>cases h;exact ui I rv (.str x) e hQ
 |tup ds=>
  obtain⟨a,xs,rfl,ta,il⟩:=h
  cases (show u=yaf a from rv)
  obtain⟨its,r,p,z⟩:=I.tuple ta.sq
  obtain⟨o,h1,h2,_⟩:=p
  exact yaS ye4 I.kIn ⟨o,h1,h2⟩ e (λz=>nomatch z) hQ
 |lst ds=>
  obtain⟨a,xs,rfl,hA,ta,il⟩:=h
  exact ui I rv (.lst ta) e hQ
 |dic kvs=>
  obtain⟨a,rfl,hA,ta⟩:=h
  exact ui I rv (.dK ta) e hQ
 |fz ns=>
  obtain⟨a,rfl,ta⟩:=h
  cases (show u=yaf a from rv)
  obtain⟨its,r,p,z⟩:=I.list ta.sq
  obtain⟨o,h1,h2,_⟩:=p.isList
  exact yaS ydG I.kIn ⟨o,h1,h2⟩ e (λz=>nomatch z) hQ
end
def qa2(T:String)(f:M D):M D:=bnd f λd=>ret (.bl (qbz (tyD d) T))
section
variable{X:Cx}{c:Fc}{a b e:Expr}{pos:Pos}
def qoe(K:Fr0)(T:String):List V->Hp->VK->Prop:=λxs H Q=>∃v d A,xs=[v,.ty T]/\Is K A H d v/\Q (.bl (qbz (tyD d) T)) H
theorem qhb {T:String} (kt:qje X.K T):yr X (.builtin "isinstance") (qoe X.K T):=by
 intro pins s σ H xs us Q I r h
 obtain⟨v,d,A,rfl,hi,q⟩:=h
 obtain⟨u,w,rfl,r1,r2⟩:=ze.two r
 cases (show w=yb3 T from r2)
 exact qlc I hi r1 kt λtk=>⟨.bl _,H,I.tok tk,rfl,q⟩
theorem vq {T:String} {x:Str} {p p2:Pos} {f:M D} (kt:qje X.K T) (hg:Gl X "isinstance") (hm:X.mg "isinstance"=none) (hg2:Gl X x) (hm2:X.mg x=none) (hv2:yaz x=some (.type T)) (ha:DE X c a f)
  (hv:yaz "isinstance"=some (.builtin "isinstance"):=by first|rfl|exact PySem.boot_isinstance) (hn2:x≠"__name__":=by decide) (hdb2:(x==("__debug__":Str))=false:=by decide)
  (he:yae [a,.Name x p2] X.env=(false,eval a X.env)::yae [.Name x p2] X.env:=by rfl) (hpl:(yaQ pos (yae [.Name x p2] X.env)).any (·.1)=false:=by rfl):DE X c (.Call (.Name "isinstance" p) [a,.Name x p2] [] pos) (qa2 T f):=by
 obtain⟨t,pa,w⟩:=ha
 refine⟨_,vM (qhb kt) hg hm hv (yj pa (yj (qe7 (v:=.ty T) hg2 hm2 hv2 rfl hn2 hdb2) wQ (by rfl)) he) (by decide) (by decide) he hpl,λρ σ H Q r h=>w ρ σ H _ r (Wp.bnd h λd ρ1 v H1 r1 i1 g1 h1=>?_)⟩
 exact⟨v,d,_,rfl,i1,h1 _ H1 r1 rfl .refl⟩
end
def yI:List D->Option (List Bool)
 | []=>some []
 |.bl b::r=>(yI r).map (b::·)
 |_=>none
def vA:List D->Option (List Int)
 | []=>some []
 |.int i::r=>(vA r).map (i::·)
 |_=>none
theorem uu {K:Fr0} {A:Addr->Prop} {H:Hp}:∀{ds:List D}{xs:List V}{bs:List Bool},IsL K A H ds xs->yI ds=some bs->xs=bs.map V.bl
 | [],_,_,h,e=>by cases e;exact h
 | .bl b::r,_,bs,⟨x,ys,hx,h1,h2⟩,e=>by
  cases h1
  cases e1:yI r with
  |none=>simp[yI,e1]at e
  |some l=>
   simp[yI,e1]at e
   subst e
   rw[hx,uu h2 e1];rfl
 |.non::_,_,_,_,e=>by cases e
 |.int _::_,_,_,_,e=>by cases e
 |.str _::_,_,_,_,e=>by cases e
 |.tup _::_,_,_,_,e=>by cases e
 |.lst _::_,_,_,_,e=>by cases e
 |.dic _::_,_,_,_,e=>by cases e
 |.fz _::_,_,_,_,e=>by cases e
 |.exc _::_,_,_,_,e=>by cases e
theorem qa3 {K:Fr0} {A:Addr->Prop} {H:Hp}:∀{ds:List D}{xs:List V}{bs:List Int},IsL K A H ds xs->vA ds=some bs->xs=bs.map V.int
 | [],_,_,h,e=>by cases e;exact h
 | .int b::r,_,bs,⟨x,ys,hx,h1,h2⟩,e=>by
  cases h1
  cases e1:vA r with
  |none=>simp[vA,e1]at e
  |some l=>
   simp[vA,e1]at e
   subst e
   rw[hx,qa3 h2 e1];rfl
 |.non::_,_,_,_,e=>by cases e
 |.bl _::_,_,_,_,e=>by cases e
 |.str _::_,_,_,_,e=>by cases e
 |.tup _::_,_,_,_,e=>by cases e
 |.lst _::_,_,_,_,e=>by cases e
 |.dic _::_,_,_,_,e=>by cases e
 |.fz _::_,_,_,_,e=>by cases e
 |.exc _::_,_,_,_,e=>by cases e
theorem qhc {bs:List Bool}:∀{us:List Value},ze (bs.map V.bl) us->LSm.BoolsAre us bs:=by
 induction bs with
 |nil=>intro us r;rw[yc7]at r;cases r;exact .nil
 | cons b bs ih=>
  intro us r
  rw[mC_]at r
  cases r with
  |cons r1 r2=>
   cases (show _=yaL b from r1)
   exact .cons b (ih r2)
section
variable{X:Cx}
theorem vP (hc:X.calm=true):yr X (.builtin "all") (λxs H Q=>∃(p:Addr)(bs:List Bool),xs=[.ref p]/\H p=some (.lst (bs.map V.bl))/\Q (.bl (bs.all id)) H):=by
 intro pins s σ H xs us Q I r h
 obtain⟨p,bs,rfl,hp,q⟩:=h
 obtain⟨u,rfl,ru⟩:=ze.one r
 cases ru
 obtain⟨its,rv,pl,hz⟩:=I.list (SqL.of hp)
 have hl:=pl.isList
 have hb:=qhc rv
 have hlt:p<s.heap.objs.size:=by obtain⟨_,e,_⟩:=hl;exact yad e
 refine call_all_walk (yfo hl ?_)
 refine ⟨s.heap.objs.size,[s.heap.objs.size,p],[s.heap.objs.size],its.toArray.size,_,_,λi=>(bs[i]?).getD true,rfl,Walks.list (A:=X.A.in1) (I.ok.hd hc) _ p (yat hlt) its.toArray,
  ⟨⟨_,Heap.get?_push_size _ rfl,rfl,rfl⟩,hl.push _⟩,λi v s' Q' E' hP hQ=>?_,λh' tk hk=>?_⟩
 ·obtain⟨b,e,rfl⟩:=hb.get i v (by simpa using hP)
  simp only[e,Option.getD_some]at hQ
  exact ybz hQ
 ·have e:((yay its.toArray.size).all λi=>(bs[i]?).getD true)=bs.all id:=by
   rw[sT_,hb.length];exact LSm.range_all bs
  rw[e]
  exact⟨.bl _,H,I.kept (LSm.kept_iter hk),rfl,q⟩
end
def qcX:List D->Option D
 | [.lst ds]=>(yI ds).map λbs => .bl (bs.all id)
 |_=>none
section
variable{K:Fr0}
theorem uP:wm K qcX (λxs H Q=>∃(p:Addr)(bs:List Bool),xs=[.ref p]/\H p=some (.lst (bs.map V.bl))/\Q (.bl (bs.all id)) H):=by
 intro A H xs d vs Q hn h e k
 unfold qcX at e
 split at e
 ·obtain⟨v,rfl,a,zs,rfl,_,ta,il⟩:=IsL.inv1 h
  obtain⟨bs,h1,h2⟩:=Option.map_eq_some_iff.mp e
  subst h2
  rw[uu il h1]at ta
  exact⟨a,bs,rfl,ta,k _ H (jG.refl H) rfl⟩
 ·cases e
end
section
variable{X:Cx}
def qh4(K:Fr0):R2:=λx y H Q=>∃a b ys,x=.ref a/\y=.ref b/\SqT K H a []/\SqT K H b ys/\Q (.ref b) H
theorem qhd:OpR X (ybe .Add) (qh4 X.K):=by
 intro pins s σ H x y v u Q I rx ry h
 obtain⟨a,b,ys,rfl,rfl,ha,hb,q⟩:=h
 cases rx
 cases ry
 obtain⟨its,r1,p1,_⟩:=I.tuple ha
 obtain⟨its2,r2,p2,_⟩:=I.tuple hb
 cases r1
 obtain⟨⟨cls,dd,data,sl⟩,ho,hc,n,hd⟩:=id p1
 obtain⟨⟨cls2,dd2,data2,sl2⟩,ho2,hc2,n2,hd2⟩:=id p2
 simp only at hc hd hc2 hd2
 subst hc hd hc2 hd2
 exact ye7 ⟨_,ho,rfl⟩ ⟨_,ho2,rfl⟩ ydT yeR ycK ycE (ycw _ _)
   (tuple_addW0 a b [].toArray its2.toArray n n2 dd dd2 sl sl2 (by simp)) ⟨ho,ho2,⟨.ref b,H,I,rfl,q⟩⟩
def qld(K:Fr0):R2:=λx y H Q=>(∃i j,x=.int i/\y=.int j/\Q (.int (i+j)) H)\/((∃i j,x=.str i/\y=.str j/\i.length+j.length<=yam/\Q (.str (i++j)) H)\/(qh4 K x y H Q\/(qkW K x y H Q\/qnp x y H Q)))
theorem qF:OpR X (ybe .Add) (qld X.K):=OpR.or qkM (OpR.or qeu (OpR.or qhd (OpR.or qi2 qk2)))
end
def qU:D->D->Option D
 |.int i,.int j=>some (.int (i+j))
 |.str x,.str y=>if qQ (x.length+y.length)then some (.str (x++y))else none
 |.tup xs,.tup ys=>if qQ (xs.length+ys.length)then some (.tup (xs++ys))else none
 |.lst xs,.lst ys=>if qQ (xs.length+ys.length)then some (.lst (xs++ys))else none
 |_,_=>none
theorem qG {K:Fr0}:OpS K qU (qld K):=by
 intro A H x y d v u Q hn ix iy e k
 cases x<;>cases y<;>simp only[qU]at e<;>try (cases e;done)
 ·rename_i i j
  cases ix;cases iy;cases e
  exact .inl ⟨i,j,rfl,rfl,k _ H (jG.refl H) rfl⟩
 ·rename_i i j
  cases ix;cases iy
  obtain⟨e1,e2⟩:=jn e
  subst e2
  exact .inr (.inl ⟨i,j,rfl,rfl,of_decide_eq_true e1,k _ H (jG.refl H) rfl⟩)
 ·rename_i ds es
  obtain⟨a,xs,rfl,ta,il⟩:=ix
  obtain⟨b,ys,rfl,tb,jl⟩:=iy
  obtain⟨e1,e2⟩:=jn e
  subst e2
  have hs:xs.length+ys.length<=yam:=by rw[il.length,jl.length];exact of_decide_eq_true e1
  refine .inr (.inr ?_)
  cases ds with
  |nil=>
   have hx:xs=[]:=il
   subst hx
   exact .inl ⟨a,b,ys,rfl,rfl,ta.sq,tb.sq,k _ H (jG.refl H) ⟨b,ys,rfl,tb,jl⟩⟩
  | cons d0 ds=>
   refine .inr (.inl ⟨a,b,xs,ys,rfl,rfl,ta.sq,tb.sq,?_,hs,λhy=>?_,λhy p hp=>?_⟩)
   ·obtain⟨x,zs,hx,_⟩:=il
    rw[hx];simp
   ·subst hy
    cases es with
    |nil=>rw[ybn]at k;exact k _ H (jG.refl H) ⟨a,xs,rfl,ta,il⟩
    |cons e0 es=>obtain⟨_,_,hx,_⟩:=jl;cases hx
   ·exact k _ _ (qu hp _) ⟨p,xs++ys,rfl,.inl qx,IsL.ext (Ext.of_same (qu hp _)) (λ_ h _=>h) (IsL.append il jl)⟩
 ·rename_i ds es
  obtain⟨a,xs,rfl,hA,ta,il⟩:=ix
  obtain⟨b,ys,rfl,hB,tb,jl⟩:=iy
  obtain⟨e1,e2⟩:=jn e
  subst e2
  have hs:xs.length+ys.length<=yam:=by rw[il.length,jl.length];exact of_decide_eq_true e1
  exact .inr (.inr (.inr (.inr ⟨a,b,xs,ys,rfl,rfl,ta,tb,hs,λp hp=>k _ _ (qu hp _) ⟨p,xs++ys,rfl,hn p hp,qx,IsL.ext (Ext.of_same (qu hp _)) (λ_ h _=>h) (IsL.append il jl)⟩⟩)))
section
variable{X:Cx}
def qnt(K:Fr0):V->Option Int->Option Int->Hp->VK->Prop:=λx lo hi H Q=>∃a xs,x=.ref a/\SqT K H a xs/\(HT.sIx xs.length 0 lo=0/\HT.sIx xs.length xs.length hi=xs.length)/\Q (.ref a) H
theorem vB {prog:yao} {w:World} {A:yau} {E:Value->yab->Prop} {s:yab} {t sl:Addr} {items:Array Value} {vl vu:Value} {lo hi:Option Int} {Q:Value->yab->Prop} (ht:IsTup s.heap t items) (hs:s.heap.IsSliceOf sl vl vu .none) (pl:ycx vl lo) (pu:ycx vu hi)
  (hw:HT.sIx items.size 0 lo=0/\HT.sIx items.size items.size hi=items.size) (h:Q (.ref t) s):wpAny (model prog w) A (ycl (.ref t) (.ref sl)) Q E s:=by
 obtain⟨os,hos,hcs,hds⟩:=id hs
 have hTs:s.TypeIs (.ref sl) "slice":=⟨os,hos,hcs⟩
 unfold ycl
 try with_reducible refine yba ?_
 first|refine yaa (yac ?_)|skip
 refine yaa (ydH ht.typeIs (by decide) ?_)
 refine yaa (wpAny_callSpecial?_slot (name:=ybo "__getitem__") ht.typeIs yaW
  (ybi yaW ht.typeIs yde ?_ (ydq _ _)))
 show wpAny _ _ (ycj (.ref t) >>= _) _ _ s
 refine yaa (yeS ht ?_)
 refine yaa (yc6 hTs ?_)
 rw[if_pos (by decide)]
 refine yaa (HT.sliceApplied_gen hs pl pu ?_)
 have hyes:(((HT.sIx items.size 0 lo:Nat):Int)==0&&(1:Int)==1&&(HT.sIx items.size items.size hi-HT.sIx items.size 0 lo)==items.size)=true:=by
  rw[hw.1,hw.2];simp
 show wpAny _ _ (if(((HT.sIx items.size 0 lo:Nat):Int)==0&&(1:Int)==1&&(HT.sIx items.size items.size hi-HT.sIx items.size 0 lo)==items.size)=true then _ else _) _ _ s
 rw[if_pos hyes]
 refine yaa (m:=ydB (.ref t)) ?_
 unfold ydB
 refine yaa (yc6 ht.typeIs ?_)
 refine yac ?_
 rw[if_pos (by decide)]
 exact yaa (yc4 (yac ⟨_,rfl,yac h⟩))
theorem qhe:SlR X (qnt X.K):=by
 intro pins s σ H x v vl vu lo hi sl Q I rx hs pl pu h
 obtain⟨a,xs,rfl,hx,hw,q⟩:=h
 cases rx
 obtain⟨its,r,ht,hz⟩:=I.tuple hx
 have hlen:its.toArray.size=xs.length:=by rw[sT_];exact r.length.symm
 refine⟨"tuple",_,PyProof.Rows.slot_tuple_getitem.lookup,ht.typeIs,?_⟩
 exact vB ht hs pl pu (by rw[hlen];exact hw) ⟨.ref a,H,I,rfl,q⟩
theorem qle:SlR X (λx lo hi H Q=>qnt X.K x lo hi H Q\/qno X.K x lo hi H Q):=SlR.or qhe sl_tup
end
def qa4(xs:List D)(lo hi:Option Int):List D:=(xs.drop (HT.sIx xs.length 0 lo)).take (HT.sIx xs.length xs.length hi-HT.sIx xs.length 0 lo)
def slD (x:D) (lo hi:Option Int):Option D:=match x with
 |.tup ds=>some (.tup (qa4 ds lo hi))
 |_=>none
section
variable{X:Cx}{c:Fc}{a b e:Expr}{pos p2:Pos}
def DO(X:Cx)(c:Fc)(e:Option Expr)(f:M (Option Int)):Prop:=∃t,PO X e t/\∀ρ σ H Q,Rep X.K c ρ σ H->(∀o ρ',f ρ=.ok (o,ρ')->∀H',Rep X.K c ρ' σ H'->Gr c.O σ H H'->Q o H')->(∀x ρ',f ρ=.exc x ρ'->∀H',Rep X.K c ρ' σ H'->Gr c.O σ H H'->c.E x H')->f ρ ≠ .bad->t σ H Q
theorem vC:DO X c none (ret none):=⟨_,qi1,λρ σ H Q r h _ _=>h none ρ rfl H r .refl⟩
def asI:D->Option Int
 |.int i=>some i
 |_=>none
def uj (f:M D):M (Option Int):=bnd f λd=>match d with
 |.int i=>ret (some i)
 |_=>λ_ => .bad
theorem vE {f:M D} (h:DE X c e f):DO X c (some e) (uj f):=by
 obtain⟨t,p,w⟩:=h
 refine⟨_,qfo p,λρ σ H Q r h1 h2 h3=>w ρ σ H _ r ?_⟩
 unfold uj bnd at h1 h2 h3
 cases e1:f ρ with
 |ok q=>
  obtain⟨d,ρ'⟩:=q
  rw[e1]at h1 h2 h3
  intro v H' r' i' g'
  cases d<;>simp only[ret]at h1 h2 h3<;>try (exact absurd rfl h3)
  rename_i i
  exact⟨i,i',h1 (some i) ρ' rfl H' r' g'⟩
 |exc x ρ'=>rw[e1]at h2;exact λH' r' g'=>h2 x ρ' rfl H' r' g'
 |bad=>rw[e1]at h3;exact absurd rfl h3
def dsl(f:M D)(g k:M (Option Int)):M D:=bnd f λd=>bnd g λl=>bnd k λu=>lift (slD d l u)
end
def zT (X:Cx) (scope:Scope) (N':List Str) (fp:List Addr) (cl:List (Str×Addr)) (C:Addr) (s₀:yab) (H₀:Hp) (pn:List (Addr×Obj)):Cx where
 prog:=X.prog
 w:=X.w
 K:=X.K
 mg:=X.mg
 base:=X.base
 A:=X.A
 N:=N'
 s₀:=s₀
 H₀:=H₀
 env:=yeL scope cl C X.env
 outer:=X.stack
 stack:=X.stack
 ex:=fp
 fn:=λ_=>false
 calm:=X.calm
 pn:=pn
 xe:=λ_ _=>False
def PF (X:Cx) (ifs:List Expr) (t:TT):Prop:=∀(pins:List (Addr×Obj))(s:yab)(σ:St)(H:Hp)(Q:Bool->Hp->Prop),Inv X pins σ H s->t σ H Q ->
 wpAny (model X.prog X.w) X.A (forIn ifs true λc r=>if r=true then do let ok <-isTrue c X.env (eval c X.env);pure (ybw ok)else pure (ybw r)) (TP X pins σ Q) X.xe s
theorem qlf{X:Cx}:PF X [] (λ_ H Q=>Q true H):=λpins s σ H Q I h=>wpAny_tests_nil ⟨H,I,h⟩
theorem qlg{X:Cx}{e:Expr}{t:TT}(h:PT X e t):PF X [e] t:=λpins s σ H Q I hw=>wpAny_tests_one (h pins s σ H Q I hw)
structure jK (X:Cx) (scope:Scope) (N':List Str) (nt:Nat) (fr:List Nat):Prop where
 kind:scope.kind=.function
 nocell:∀y∈scope.names,y.2 ≠ .cell
 names:∀y∈scope.names,y.2=.local->scope.names.lookup y.1=some .local
 frees:∀y∈scope.names,y.2=.free->X.env.kindOf y.1=some .cell
 len:N'.length=nt+fr.length
 slot:∀i j,fr[i]? = some j->∃x,N'[nt+i]? = some x/\X.N[j]? = some x/\scope.names.lookup x=some .free
theorem wv {env:yaN}:∀(names:List (Str×ycR))(cs:List (Str×Addr)),(∀y∈names,y.2=.free->∃a,env.cells.lookup y.1=some a)->(∀n a,cs.lookup n=some a->env.cells.lookup n=some a) ->
  ∃ cl,(forIn names cs λx r=>match x with|(name,kind)=>if(kind==yaY)=true then do let a <-cellOf env name;pure (ybw ((name,a)::r))else pure (ybw r):Sem (List (Str×Addr)))=pure cl /\
   (∀n a,cl.lookup n=some a->env.cells.lookup n=some a)/\(∀n,(∃a,cs.lookup n=some a)->∃a,cl.lookup n=some a)/\∀y∈names,y.2=.free->∃a,cl.lookup y.1=some a
 | [],cs,_,h=>⟨cs,rfl,h,λ_ h=>h,λy hy=>by cases hy⟩
 | (n,k)::r,cs,hf,h=>by
  have hr:∀y∈r,y.2=.free->∃a,env.cells.lookup y.1=some a:=λy hy=>hf y (mM _ hy)
  rw[yct]
  by_cases hk:k=.free
  ·subst hk
   obtain⟨a,ha⟩:=hf (n,.free) mS_ rfl
   have ha':env.cells.lookup n=some a:=ha
   have hcell:cellOf env n=pure a:=by unfold cellOf;rw[ha']
   obtain ⟨cl,e1,e2,e3,e4⟩:=wv r ((n,a)::cs) hr (λm b hm=>by
    rw[ya4]at hm
    cases e:m==n with
    |true=>rw[e]at hm;cases hm;rw[yc0 e];exact ha'
    |false=>rw[e]at hm;exact h m b hm)
   refine⟨cl,?_,e2,λm ⟨b,hm⟩=>e3 m ?_,λy hy hyf=>?_⟩
   ·show((if(yaY==yaY)=true then _ else _) >>= _)=_
    rw[if_pos (by rfl),hcell]
    exact e1
   ·rw[ya4]
    cases e:m==n with
    |true=>exact⟨a,rfl⟩
    |false=>exact⟨b,hm⟩
   ·rcases List.mem_cons.mp hy with rfl|hy
    ·exact e3 n ⟨a,by rw[ya4];simp⟩
    ·exact e4 y hy hyf
  ·have hb:(k==yaY)=false:=by simpa using hk
   obtain⟨cl,e1,e2,e3,e4⟩:=wv r cs hr h
   refine⟨cl,?_,e2,e3,λy hy hyf=>?_⟩
   ·show((if(k==yaY)=true then _ else _) >>= _)=_
    rw[hb,if_neg yav]
    exact e1
   ·rcases List.mem_cons.mp hy with rfl|hy
    ·exact absurd hyf hk
    ·exact e4 y hy hyf
theorem vQ {env:yaN} {scope:Scope} (hf:∀y∈scope.names,y.2=.free->∃a,env.cells.lookup y.1=some a) :
  ∃cl,closureFor scope env=pure cl/\(∀n a,cl.lookup n=some a->env.cells.lookup n=some a)/\∀y∈scope.names,y.2=.free->∃a,cl.lookup y.1=some a:=by
 obtain⟨cl,e1,e2,_,e4⟩:=wv scope.names [] hf (λn a h=>by cases h)
 refine⟨cl,?_,e2,e4⟩
 unfold closureFor
 show(forIn scope.names [] _ >>= _)=_
 have e5:(forIn scope.names [] λx r=>match x with|(name,kind)=>if(kind==yaY)=true then do let a <-cellOf env name;pure (ybw ((name,a)::r))else pure (ybw r):Sem (List (Str×Addr)))=pure cl:=e1
 first
  |(rw[e5];rfl)
  |(simp only[bind_pure_comp,e5];rfl)
theorem yJ {env:yaN}:∀{names:List (Str×ycR)}{x:Str},names.lookup x=some .free->env.scope.kind=.function->env.kindOf x=some .cell ->
  (names.map λ(n,k)=>if(k==yaY&&env.scope.kind == .function&&env.kindOf n==some .cell) then(n,ycQ) else(n,k)).lookup x=some .cell
 | [],_,h,_,_=>by simp at h
 | (n,k)::r,x,h,hk,hx=>by
  have ih := @yJ env r x
  show List.lookup x ((if(k==yaY&&env.scope.kind == .function&&env.kindOf n==some .cell)=true then(n,ycQ) else(n,k))::_)=_
  cases hxn:x==n with
  |true=>
   have e:x=n:=yc0 hxn
   subst e
   simp only[ya4,hxn]at h
   cases h
   rw[if_pos (by rw[hk,hx];rfl)]
   simp only[ya4,hxn]
  |false=>
   simp only[ya4,hxn]at h
   by_cases hc:(k==yaY&&env.scope.kind == .function&&env.kindOf n==some .cell)=true
   ·rw[if_pos hc];simp only[ya4,hxn];exact ih h hk hx
   ·rw[if_neg hc];simp only[ya4,hxn];exact ih h hk hx
theorem jS {env:yaN}:∀{names:List (Str×ycR)}{x:Str}{q:ycR},(names.map λ(n,k)=>if(k==yaY&&env.scope.kind == .function&&env.kindOf n==some .cell) then(n,ycQ) else(n,k)).lookup x=some q ->
  q=.cell\/q=.free->(∀y∈names,y.2 ≠ .cell)->∃k,(x,k)∈names/\k=.free
 | [],_,_,h,_,_=>by simp at h
 | (n,k)::r,x,q,h,hq,hc=>by
  have ih := @jS env r x q
  have h':List.lookup x ((if(k==yaY&&env.scope.kind == .function&&env.kindOf n==some .cell)=true then(n,ycQ) else(n,k))::(r.map λ(n,k)=>if(k==yaY&&env.scope.kind == .function&&env.kindOf n==some .cell) then(n,ycQ) else(n,k)))=some q:=h
  have hr:∀y∈r,y.2 ≠ .cell:=λy hy=>hc y (mM _ hy)
  by_cases hcd:(k==yaY&&env.scope.kind == .function&&env.kindOf n==some .cell)=true
  ·rw [if_pos hcd]at h'
   cases hxn:x==n with
   |true=>
    have e:x=n:=yc0 hxn
    subst e
    refine⟨k,mS_,?_⟩
    rw[yal,yal]at hcd
    exact yc0 hcd.1.1
   |false=>
    simp only[ya4,hxn]at h'
    obtain⟨k',m,e⟩:=ih h' hq hr
    exact⟨k',mM _ m,e⟩
  ·rw [if_neg hcd]at h'
   cases hxn:x==n with
   |true=>
    have e:x=n:=yc0 hxn
    subst e
    simp only[ya4,hxn]at h'
    cases h'
    rcases hq with rfl|rfl
    ·exact absurd rfl (hc (x,.cell) mS_)
    ·exact⟨.free,mS_,rfl⟩
   |false=>
    simp only[ya4,hxn]at h'
    obtain⟨k',m,e⟩:=ih h' hq hr
    exact⟨k',mM _ m,e⟩
def qO(nt:Nat)(fr:List Nat)(σ:St):St:=yap nt none++fr.map λj=>(σ[j]?).join
def qjf (X:Cx) (tg:Expr) (ifs:List Expr) (elt:Expr) (scope:Scope) (N':List Str) (wi:TI) (nt:Nat) (fr:List Nat):TE:=λσ H Q=>wi σ H λJ H1=>∀acc fp cl C s₀ H₀ pn,H1 acc=none ->
 ∃(g:TG)(tt:TT)(te:TE),PG (zT X scope N' fp cl C s₀ H₀ pn) tg g/\PF (zT X scope N' fp cl C s₀ H₀ pn) ifs tt/\PE (zT X scope N' fp cl C s₀ H₀ pn) elt te /\
 ∃W:Nat->Nat->St->Hp->Prop,(∃m,W 0 m (qO nt fr σ) (upd H1 acc (.lst []))) /\
 ∀ i m σ' H',W i m σ' H'->(J.stop i H'/\Q (.ref acc) H')\/(J.go i H'/\∀x H'',J.yld i H' x H''->g x σ' H'' λσ2 H2=>tt σ2 H2 λb H3=>
  if b=true then te σ2 H3 λy H4=>∃ys,H4 acc=some (.lst ys)/\ys.length<yam/\∃m',m'<m/\W (i+1) m' σ2 (upd H4 acc (.lst (ys++[y])))else ∃m',m'<m/\W (i+1) m' σ2 H3)
section
variable{X:Cx}{tg iter elt:Expr}{ifs:List Expr}{scope:Scope}{pos:Pos}{wi:TI}{N':List Str}{nt:Nat}{fr:List Nat}
theorem qar {prog:yao} {w:World} {A:yau} {R:ydR->yab->Prop} {s:yab} {it acc:Value} {env:yaN} (I:Nat->yab->Prop)
  (turn : ∀n s,I n s->wpAny (model prog w) A (yci it) (λr sY=>match r with
   |none=>R (.ok .next) sY
   | some v=>wpAny (model prog w) A (ycp tg it v) (λ_ s1'=>wpAny (model prog w) A (ych tg env v) (λ_ sQ=>
     wpAny (model prog w) A (forIn ifs true λc r=>if r=true then do let ok <-isTrue c env (eval c env);pure (ybw ok)else pure (ybw r)) (λok sV=>
      if ok=true then wpAny (model prog w) A (eval elt env) (λx sJ=>
       wpAny (model prog w) A (call (.builtin "list.append") [acc,x]) (λ_ sK=>∃m,m<n/\I m sK) (λ_ _=>False) sJ) (λ_ _=>False) sV
      else ∃m,m<n/\I m sV) (λ_ _=>False) sQ) (λ_ _=>False) s1') (λ_ _=>False) sY) (λ_ _=>False) s)
  (n:Nat) (h:I n s):ybU (model prog w) A (.compLoop (.ListComp elt [⟨tg,iter,ifs,0⟩] scope pos) 0 it acc env) R s:=by
 refine codeAny_loop rfl I (λn s hI=>?_) n h
 show wpAny _ A ((compTurn (.ListComp elt [⟨tg,iter,ifs,0⟩] scope pos) 0 it acc env).onRaise (λx=>do yed x env;theTreesLotGoes x)) _ _ s
 refine wpAny_noted ?_
 rw[compTurn_list]
 refine yaa (ycM (yaa (ya8 (turn n s hI) (λr sY h₁=>?_) λ_ _ h'=>h'.elim)))
 cases r with
 |none=>exact yac h₁
 | some v=>
  refine yaa (ya8 h₁ (λ_ s1' hK'=>?_) λ_ _ h'=>h'.elim)
  refine yaa (ya8 hK' (λ_ sQ hV=>yaa (ya8 hV (λok sV hJ=>?_) λ_ _ h'=>h'.elim)) λ_ _ h'=>h'.elim)
  cases ok with
  |false=>exact yac ⟨rfl,hJ⟩
  |true=>
   exact yaa (yaa (ya8 hJ (λx sJ hX=>yaa (ya8 hX (λ_ sK hG=>yac (yac ⟨rfl,hG⟩)) λ_ _ h'=>h'.elim)) λ_ _ h'=>h'.elim))
theorem qa5 {pins:List (Addr×Obj)} {σ:St} {H:Hp} {s:yab} {h₁:Heap} {tk:Nat} {fp:List Addr} {cl:List (Str×Addr)} (S:jK X scope N' nt fr) (I:Inv X pins σ H s) (hfp:∀b∈fp,qcV X pins H b)
  (hex:∀b∈fp,∃o,s.heap.get? b=some o) (cl1:∀n a,cl.lookup n=some a->X.env.cells.lookup n=some a) (cl2:∀y∈scope.names,y.2=.free->∃a,cl.lookup y.1=some a)
  (hns:∃m,h₁.Ns s.heap.objs.size m) (old:∀b o,s.heap.get? b=some o->h₁.get? b=some o) :
  Inv (zT X scope N' fp cl s.heap.objs.size s H (X.pn++pins)) [] (qO nt fr σ) H {s with heap:=h₁,toks:=tk}:=by
 have stkB:∀b∈frs X.stack,b=X.env.locals\/b∈X.fs:=λb hb=>List.mem_cons.mp (I.stkSub b hb)
 have hC:∀b o,s.heap.get? b=some o->b≠s.heap.objs.size:=λb o e=>yat (yad e)
 obtain⟨m,hn⟩:=hns
 refine ⟨⟨I.ok.mod,S.kind,I.ok.glob,I.ok.blt,yah _,λx y c h1 h2=>I.ok.inj x y c (cl1 x c h1) (cl1 y c h2),λx hx=>?_,λx c hx=>?_,I.ok.hd,I.ok.frames,.inl rfl,λb hb=>⟨?_,λx c hx=>(hfp b hb).2.2.2.2.1 x c (cl1 x c hx)⟩,I.bs,yaF I.ok.bsz I.sz,λb o e hb=>?_,λb hb hb2=>?_,I.stack,I.stkFree⟩,
  rfl,I.bare,Un.kept old,⟨m,hn,λi x v h1 h2 h3=>?_⟩,λx c hx=>?_,I.hok.fresh (yah _),λx c hx=>I.freeC x c (cl1 x c hx),λp hp=>?_,I.hok.kept old,?_⟩
 ·have hx':∃k,(x,k)∈scope.names/\k=.free:=by
   rcases hx with hx|hx
   ·exact jS (env:=X.env) (q:=.cell) hx (.inl rfl) S.nocell
   ·exact jS (env:=X.env) (q:=.free) hx (.inr rfl) S.nocell
  obtain⟨k,m,rfl⟩:=hx'
  exact cl2 (x,.free) m rfl
 ·have hx':false=true:=hx
  cases hx'
 ·obtain⟨o,e⟩:=hex b hb
  exact hC b o e
 ·obtain⟨f0,f1,f2,f3,f4,f5⟩:=hfp b hb
  rcases f3 with z|z
  ·exact I.ok.noex b o e z
  ·exact absurd (yaw (yad e) (yaF I.ok.bsz z)) (ybB _)
 ·obtain⟨f0,f1,f2,f3,f4,f5⟩:=hfp b hb
  rcases stkB b hb2 with z|z
  ·exact f1 z
  ·exact f2 z
 ·-- names
  have hi:nt<=i:=by
   apply ycT
   intro hlt
   unfold qO at h2
   rw[List.getElem?_append_left (by simpa using hlt),List.getElem?_replicate]at h2
   split at h2<;>cases h2
  have h2':(fr.map λj=>(σ[j]?).join)[i-nt]? = some (some v):=by
   unfold qO at h2
   rw[List.getElem?_append_right (by simpa using hi),yaO]at h2
   exact h2
  rw[gM_]at h2'
  cases ej:fr[i-nt]? with
  |none=>rw[ej]at h2';cases h2'
  | some j=>
   rw[ej]at h2'
   have hσ:(σ[j]?).join=some v:=by simpa using h2'
   have hσ':σ[j]? = some (some v):=by
    cases e:σ[j]? with
    |none=>rw[e]at hσ;cases hσ
    |some o=>
     rw[e]at hσ
     have:o=some v:=hσ
     rw[this]
   obtain⟨y,hy1,hy2,hy3⟩:=S.slot (i-nt) j ej
   have hii:nt+(i-nt)=i:=by omega
   rw[hii]at hy1
   have exy:y=x:=by
    have h1':N'[i]? = some x:=h1
    rw[h1']at hy1
    exact(yaI hy1).symm
   subst exy
   have hmem:(y,yaY)∈scope.names:=yaP hy3
   have hcellk:X.env.kindOf y=some .cell:=S.frees (y,.free) hmem rfl
   obtain⟨m0,hn0,hl0⟩:=I.loc
   obtain⟨u,ru,lk⟩:=hl0 j y v hy2 hσ' (.inr (.inl hcellk))
   refine⟨u,ru,.inr ⟨.inl (yJ hy3 I.ok.kind hcellk),?_⟩⟩
   rcases lk with⟨k1,_⟩|⟨_,c,e,z⟩
   ·rw[hcellk]at k1;cases k1
   ·obtain⟨a,ea⟩:=cl2 (y,.free) hmem rfl
    have ea':=cl1 y a ea
    rw[e]at ea'
    cases ea'
    obtain⟨o,ho,hd⟩:=z
    exact⟨c,ea,o,old _ _ ho,hd⟩
 ·obtain⟨v,o,ho,hd⟩:=I.cell x c (cl1 x c hx)
  exact⟨v,o,old _ _ ho,hd⟩
 ·have hp':p∈X.pn++pins:=by
   rcases mA_.mp (show p∈(X.pn++pins)++[]from hp)with z|z
   ·exact z
   ·cases z
  obtain⟨e,n,ne,nf,d⟩:=I.pin p hp'
  refine⟨old _ _ e,n,hC _ _ e,λz=>?_,d⟩
  rcases stkB p.1 z with z|z
  ·exact ne z
  ·exact nf z
 ·show(qO nt fr σ).length=N'.length
  unfold qO
  rw[lA_,yaO,lM_,S.len]
theorem qdO {pins:List (Addr×Obj)} {σ σ':St} {H H':Hp} {s s':yab} {h':Heap} {fp:List Addr} {cl:List (Str×Addr)} (I:Inv X pins σ H s) (hfp:∀b∈fp,qcV X pins H b)
  (J:Inv (zT X scope N' fp cl s.heap.objs.size s H (X.pn++pins)) [] σ' H' s') (sb:ybW s.heap.objs.size s'.heap h'):Inv X pins σ H' {s' with heap:=h' }:=by
 have hC:H' s.heap.objs.size=none:=J.free
 have u:=J.base
 have big:∀b o,s.heap.get? b=some o->b≠s.heap.objs.size:=λb o e=>yat (yad e)
 have get':∀b,b≠s.heap.objs.size->h'.get? b=s'.heap.get? b:=λb hb=>sb.2 b hb
 have u2:Un (frs X.stack) fp H H' s.heap h' :=
  ⟨λb o e n hb hx=>(get' b (big b o e)).trans (u.keep b o e n hb hx),λb o e n hb hx=>by
   obtain⟨sl,q⟩:=u.slot b o e n hb hx
   exact⟨sl,(get' b (big b o e)).trans q⟩,u.free,λb o e hx=>by
   obtain⟨o',q⟩:=u.there b o e hx
   exact⟨o',(get' b (big b o e)).trans q⟩,u.tups,u.frzs,u.tbls⟩
 refine I.call' (s':={s' with heap:=h' }) (ch:=fp) J.os u2 (λb o e=>?_) J.bare (λb hb=>?_)
 ·refine(J.hok b o e).stay (λc v hc q=>?_) (λ_ q=>q) λ_ _ q=>q
  refine(get' c ?_).trans q
  rintro rfl
  rcases hc with hc|hc
  ·rw[<-hc,hC]at e;cases e
  ·rw[hC]at hc;cases hc
 ·obtain⟨f0,f1,f2,f3,f4,f5⟩:=hfp b hb
  exact⟨f3,f1,f4,f5⟩
theorem qjg (hc:X.calm=true) (hi:PI X tg iter wi) (S:jK X scope N' nt fr)
  (hs:∀x,ybR iter X.env x=pure x:=by intro _;rfl):PE X (.ListComp elt [⟨tg,iter,ifs,0⟩] scope pos) (qjf X tg ifs elt scope N' wi nt fr):=by
 intro pins s σ H Q I hw
 obtain⟨cl,hcl,cl1,cl2⟩:=vQ (env:=X.env) (scope:=scope) (λy hy hf=>I.ok.has y.1 (.inl (S.frees y hy hf)))
 rw[eval_ListComp]
 refine ydV (use:=none) rfl hs hcl S.kind S.names (thn (hi pins s σ H _ I hw) λv s1 h1=>thn h1 λitv s2 h2=>?_)
 obtain⟨it,fp,tn,J,H2,e,I2,T,st2,f2,hR⟩:=h2
 subst e
 have hacc:H2 s2.heap.objs.size=none:=I2.hok.fresh (yah _)
 refine yaJ (yeM S.nocell (by intro y hy;simp at hy) (λh₁ hns1 hsb1=>?_) S.kind)
 dsimp only at hns1 hsb1 |-
 have I3:Inv X pins σ (upd H2 s2.heap.objs.size (.lst [])) {s2 with heap:=s2.heap.push {cls:=.type "list",dict:=none,data:=.seq ([]:List Value).toArray} } :=
  I2.lnew (t':=s2.toks) (its:=[]) .nil (ya5 _)
 generalize hs3:({s2 with heap:=s2.heap.push {cls:=.type "list",dict:=none,data:=.seq ([]:List Value).toArray} }:yab)=s3 at I3
 have hh3:s2.heap.push {cls:=.type "list",dict:=none,data:=.seq ([]:List Value).toArray}=s3.heap:=by rw[<-hs3]
 rw[hh3]at hns1 hsb1
 have old:∀b o,s3.heap.get? b=some o->h₁.get? b=some o:=λb o q=>hsb1.extBut b o (yat (yad q)) (Heap.get?_push_of_some _ q)
 have objs2:∀b∈fp,∃o,s2.heap.get? b=some o:=λb hb=>by
  obtain⟨o,q,_⟩:=T.obj 0 _ st2 b hb
  exact⟨o,q⟩
 have keep23:∀b o,s2.heap.get? b=some o->s3.heap.get? b=some o:=λb o q=>by rw[<-hh3];exact Heap.get?_push_of_some _ q
 have fpne:∀b∈fp,b≠s2.heap.objs.size:=λb hb=>by
  obtain⟨o,q⟩:=objs2 b hb
  exact yat (yad q)
 have f3:∀b∈fp,qcV X pins (upd H2 s2.heap.objs.size (.lst [])) b:=λb hb=>⟨by rw[qz (fpne b hb)];exact(f2 b hb).1,(f2 b hb).2⟩
 have J0:Inv (zT X scope N' fp cl s3.heap.objs.size s3 (upd H2 s2.heap.objs.size (.lst [])) (X.pn++pins)) [] (qO nt fr σ) (upd H2 s2.heap.objs.size (.lst [])) {s3 with heap:=h₁,toks:=s3.toks} :=
  qa5 S I3 f3 (λb hb=>(objs2 b hb).imp λo q=>keep23 b o q) cl1 cl2 ⟨_,hns1⟩ old
 obtain⟨g,tt,te,hg,hf,he,W,⟨m0,w0⟩,turn⟩:=hR s2.heap.objs.size fp cl s3.heap.objs.size s3 (upd H2 s2.heap.objs.size (.lst [])) (X.pn++pins) hacc
 have T0:tn 0 h₁:=T.keep 0 _ _ st2 λb hb o q=>old b o (keep23 b o q)
 have s3e:∀tk:Nat,({s2 with heap:=h₁,toks:=tk}:yab)={s3 with heap:=h₁,toks:=tk}:=λtk=>by rw[<-hs3]
 have loop:∀tk:Nat,ybU (model X.prog X.w) X.A (.compLoop (.ListComp elt [⟨tg,iter,ifs,0⟩] scope pos) 0 (.ref it) (.ref s2.heap.objs.size) (yeL scope cl s3.heap.objs.size X.env))
   (yfE (model X.prog X.w) X.A X.xe none (EP X pins σ Q) (.ref s2.heap.objs.size) s3.heap.objs.size) {s3 with heap:=h₁,toks:=tk}:=λtk=>by
  have stat:∀{H':Hp},(∀b∈fp,H' b=none)->∀b∈fp,qcV (zT X scope N' fp cl s3.heap.objs.size s3 (upd H2 s2.heap.objs.size (.lst [])) (X.pn++pins)) [] H' b:=λ{H'} hn b hb=>by
   obtain⟨o,q⟩:=objs2 b hb
   have hbC:b≠s3.heap.objs.size:=yat (yad (keep23 b o q))
   refine⟨hn b hb,hbC,λz=>?_,.inl hb,λx c hx=>(f2 b hb).2.2.2.2.1 x c (cl1 x c hx),λp hp=>?_⟩
   ·rcases List.mem_cons.mp (I2.stkSub b z)with z|z
    ·exact(f2 b hb).2.1 z
    ·exact(f2 b hb).2.2.1 z
   ·have hp':p∈X.pn++pins:=by
     rcases mA_.mp (show p∈(X.pn++pins)++[]from hp)with z|z
     ·exact z
     ·cases z
    exact(f2 b hb).2.2.2.2.2 p hp'
  have fr0:∀b∈fp,upd H2 s2.heap.objs.size (.lst []) b=none:=λb hb=>(f3 b hb).1
  refine qar (λn s'=>∃i σ' H',Inv (zT X scope N' fp cl s3.heap.objs.size s3 (upd H2 s2.heap.objs.size (.lst [])) (X.pn++pins)) [] σ' H' s'/\tn i s'.heap/\(∀b∈fp,H' b=none)/\W i n σ' H') ?_ m0
   ⟨0,qO nt fr σ,_,J0.tok tk,T0,fr0,w0⟩
  rintro n s4 ⟨i,σ4,H4,J4,st4,fr4,w4⟩
  rcases turn i n σ4 H4 w4 with⟨stop,qn⟩|⟨go,step⟩
  ·refine thn (T.done (zT X scope N' fp cl s3.heap.objs.size s3 (upd H2 s2.heap.objs.size (.lst [])) (X.pn++pins)) rfl rfl rfl hc i [] s4 σ4 H4 _ J4 (stat fr4) st4 stop) λr s5 ⟨hr,J5⟩=>?_
   subst hr
   obtain⟨m5,n5,_⟩:=J5.loc
   refine⟨m5,n5,λh' sb=>⟨.ref s2.heap.objs.size,H4,qdO I3 f3 J5 sb,rfl,qn⟩⟩
  ·refine thn (T.item (zT X scope N' fp cl s3.heap.objs.size s3 (upd H2 s2.heap.objs.size (.lst [])) (X.pn++pins)) rfl rfl rfl hc i [] s4 σ4 H4 _ J4 (stat fr4) st4 go) λr s5 ⟨u,hr,h5⟩=>?_
   subst hr
   refine thn h5 λ_ s6 ⟨x,H6,J6,r6,y6,st6,fr6⟩=>?_
   have J6':=J6.pinned (stat fr6) (T.obj _ _ st6)
   have again:∀{σ7:St}{H7:Hp}{s7:yab},Inv (zT X scope N' fp cl s3.heap.objs.size s3 (upd H2 s2.heap.objs.size (.lst [])) (X.pn++pins)) ([]++qaZ fp s6.heap) σ7 H7 s7->(∃m',m'<n/\W (i+1) m' σ7 H7) ->
     ∃m,m<n/\∃i σ' H',Inv (zT X scope N' fp cl s3.heap.objs.size s3 (upd H2 s2.heap.objs.size (.lst [])) (X.pn++pins)) [] σ' H' s7/\tn i s7.heap/\(∀b∈fp,H' b=none)/\W i m σ' H':=λ{σ7 H7 s7} I7 hm=>by
    obtain⟨m',hm,w7⟩:=hm
    refine⟨m',hm,i+1,σ7,H7,I7.unpinned,T.keep _ _ _ st6 λb hb o q=>(I7.pin (b,o) (mr_ _ (mr_ _ (yy hb q)))).1,λb hb=>?_,w7⟩
    obtain⟨o,q,d⟩:=T.obj _ _ st6 b hb
    exact(I7.pin (b,o) (mr_ _ (mr_ _ (yy hb q)))).2.1
   refine thn (hg _ s6 σ4 H6 x u _ J6' r6 (step x H6 y6)) λ_ s7 ⟨σ7,H7,J7,q7⟩=>?_
   refine thn (hf _ s7 σ7 H7 _ J7 q7) λok s8 ⟨H8,J8,q8⟩=>?_
   cases ok with
   |false=>
    rw[if_neg yav]at q8 |-
    exact again J8 q8
   |true=>
    rw[if_pos rfl]at q8 |-
    refine thn (he _ s8 σ7 H8 _ J8 q8) λz s9 ⟨y,H9,J9,r9,ys,hys,hz,hm⟩=>?_
    refine thn (qal _ s9 σ7 H9 (.ref s2.heap.objs.size) [y] (.ref s2.heap.objs.size) [z] (λ_ H'=>H'=upd H9 s2.heap.objs.size (.lst (ys++[y]))) J9 rfl (.cons r9 .nil) ⟨_,ys,y,rfl,rfl,hys,hz,rfl⟩) λ_ s10 ⟨_,H10,J10,_,e10⟩=>?_
    subst e10
    exact again J10 hm
 have z7:∀tk:Nat,ybU (model X.prog X.w) X.A (.compStart (.ListComp elt [⟨tg,iter,ifs,0⟩] scope pos) 0 (.ref it) (.ref s2.heap.objs.size) (yeL scope cl s3.heap.objs.size X.env))
   (yfE (model X.prog X.w) X.A X.xe none (EP X pins σ Q) (.ref s2.heap.objs.size) s3.heap.objs.size) {s3 with heap:=h₁,toks:=tk}:=λtk=>
  yep (loop tk) (T.self X.A 0 _ _ _ T0 (loop tk))
 have fin:=z7 (s2.toks+([]:List (Str×Value)).length)
 rw[<-s3e]at fin
 rw[<-hh3]at fin
 rw[hh3]at fin |-
 exact fin
end
structure qhf (K:Fr0) (A:Addr->Prop) (H:Hp) (ds:List D) (J:It):Prop where
 go:∀H' i d,Ext A H H'->ds[i]? = some d->J.go i H'
 yl:∀H' i d x H'',Ext A H H'->ds[i]? = some d->J.yld i H' x H''->jG H' H''/\Is K A H'' d x
 stop:∀H',Ext A H H'->J.stop ds.length H'
def CnT(c:Fc)(σ:St)(H:Hp)(a:Addr):Prop:=Cn c σ a/\(H a).isSome=true
def WpI (K:Fr0) (c:Fc) (σ:St) (H:Hp) (Q:It->Hp->Prop):R (List D×Env)->Prop
 |.ok (ds,ρ)=>∀J H',Rep K c ρ σ H'->qhf K (CnT c σ H') H' ds J->Gr c.O σ H H'->Q J H'
 |.exc x ρ=>∀H',Rep K c ρ σ H'->Gr c.O σ H H'->c.E x H'
 |.bad=>False
def DI(X:Cx)(c:Fc)(tg it:Expr)(f:M (List D)):Prop:=∃w,PI X tg it w/\∀ρ σ H Q,Rep X.K c ρ σ H->WpI X.K c σ H Q (f ρ)->w σ H Q
section
variable{X:Cx}{c:Fc}{tg a b e:Expr}{pos:Pos}
def qof(K:Fr0)(tl:TE):TI:=λσ H R=>tl σ H λx H1=>(∃a,x=.ref a/\(∃xs,SqL K H1 a xs)/\R (Itl K a) H1)\/(∃a,x=.ref a/\(∃xs,SqT K H1 a xs)/\R (Itt K a) H1)
theorem qlh {tl:TE} (hl:PE X e tl):PI X tg e (qof X.K tl):=by
 intro pins s σ H R I h
 refine thn (hl pins s σ H _ I h) λv s1 ⟨x,H1,I1,r1,q1⟩=>?_
 rcases q1 with⟨a,e,⟨xs,hq⟩,q⟩|⟨a,e,⟨xs,hq⟩,q⟩
 ·subst e
  cases r1
  obtain⟨its,rv,p,hz⟩:=I1.list hq
  refine yfo p.isList ?_
  refine⟨s1.heap.objs.size,[s1.heap.objs.size],_,_,H1,rfl,I1.kept (t':=s1.toks) λb o e=>Heap.get?_push_of_some _ e,qfa a _,⟨_,Heap.get?_push_size _ rfl,rfl,rfl⟩,λb hb=>?_,q⟩
  have e:b=s1.heap.objs.size:=by simpa using hb
  subst e
  exact I1.fpOk (yah _) (I1.hok.fresh (yah _))
 ·subst e
  cases r1
  obtain⟨its,rv,p,hz⟩:=I1.tuple hq
  refine ybI (show s1.heap.IsTuple a its.toArray from p) ?_
  refine⟨s1.heap.objs.size,[s1.heap.objs.size],_,_,H1,rfl,I1.kept (t':=s1.toks) λb o e=>Heap.get?_push_of_some _ e,qes a _,⟨_,Heap.get?_push_size _ rfl,rfl,rfl⟩,λb hb=>?_,q⟩
  have e:b=s1.heap.objs.size:=by simpa using hb
  subst e
  exact I1.fpOk (yah _) (I1.hok.fresh (yah _))
def qmk:D->Option (List D)
 |.tup ds=>some ds
 |.lst ds=>some ds
 |.fz ns=>some (ns.map .int)
 |_=>none
theorem SqL.inj {K:Fr0} {H:Hp} {a:Addr} {xs ys:List V} (h:H a=some (.lst xs)) (q:SqL K H a ys) (hk:∀o,K.lookup a=some o->False):ys=xs:=by
 rcases q with(q|⟨o,q⟩)|⟨o,_,_,q,_⟩
 ·rw[h]at q;cases q;rfl
 ·rw[h]at q;cases q
 ·exact(hk o q).elim
theorem qbA {K:Fr0} {A:Addr->Prop} {H:Hp}:∀ns:List Int,IsL K A H (ns.map .int) (ns.map V.int)
 | []=>rfl
 |n::ns=>⟨.int n,ns.map V.int,rfl,rfl,qbA ns⟩
theorem qfE {K:Fr0} {A:Addr->Prop} {H:Hp} {ds:List D} {xs:List V} {a:Addr} (hs:∀H',Ext A H H'->SqL K H' a xs) (il:IsL K A H ds xs):qhf K A H ds (Itl K a) where
 go:=λH' i d ex hd=>by
  obtain⟨x,h1,h2⟩:=il.get hd
  exact⟨xs,x,hs H' ex,h1⟩
 yl:=λH' i d x H'' ex hd y=>by
  obtain⟨e,y⟩:=y
  subst e
  obtain⟨x',h1,h2⟩:=il.get hd
  have h3:=y xs (hs _ ex)
  rw[h1]at h3
  cases h3
  exact⟨jG.refl _,Is.ext ex (λ_ h _=>h) h2⟩
 stop:=λH' ex=>⟨xs,hs H' ex,by rw[il.length];exact yah _⟩
theorem qli {K:Fr0} {A:Addr->Prop} {H:Hp} {ds:List D} {xs:List V} {a:Addr} (hs:vj K H a xs) (il:IsL K A H ds xs):qhf K A H ds (Itt K a) where
 go:=λH' i d ex hd=>by
  obtain⟨x,h1,h2⟩:=il.get hd
  exact⟨xs,x,(hs.elim (λh => .inl (ex.tup _ _ h)) .inr:vj K H' a xs).sq,h1⟩
 yl:=λH' i d x H'' ex hd y=>by
  obtain⟨e,y⟩:=y
  subst e
  obtain⟨x',h1,h2⟩:=il.get hd
  have h3:=y xs (hs.elim (λh => .inl (ex.tup _ _ h)) .inr:vj K _ a xs).sq
  rw[h1]at h3
  cases h3
  exact⟨jG.refl _,Is.ext ex (λ_ h _=>h) h2⟩
 stop:=λH' ex=>⟨xs,(hs.elim (λh => .inl (ex.tup _ _ h)) .inr:vj K H' a xs).sq,by rw[il.length];exact yah _⟩
def yt(f:M D):M (List D):=bnd f λd=>lift (qmk d)
theorem w6 {K:Fr0} {σ:St} {H:Hp} {Q:It->Hp->Prop} {o:Option (List D)} {ρ:Env} (h:WpI K c σ H Q (lift o ρ)):∃ds,o=some ds/\∀J H',Rep K c ρ σ H'->qhf K (CnT c σ H') H' ds J->Gr c.O σ H H'->Q J H':=by
 cases o with
 |none=>exact h.elim
 |some d=>exact⟨d,rfl,h⟩
theorem WpI.gr {K:Fr0} {σ:St} {H H1:Hp} {Q:It->Hp->Prop}:∀{r:R (List D×Env)},WpI K c σ H Q r->Gr c.O σ H H1->WpI K c σ H1 Q r
 |.ok (d,ρ),h,g=>λv H' hr hi hg=>h v H' hr hi (g.trans hg)
 |.exc x ρ,h,g=>λH' hr hg=>h H' hr (g.trans hg)
 |.bad,h,_=>h
theorem Wp.bndI {K:Fr0} {σ:St} {H:Hp} {Q:It->Hp->Prop} {f:M D} {k:D->M (List D)} {ρ:Env} {Q':VK} (h:WpI K c σ H Q (Sk.bnd f k ρ)) (hQ:∀d ρ' v H',Rep K c ρ' σ H'->Is K (Cn c σ) H' d v->Gr c.O σ H H'->WpI K c σ H' Q (k d ρ')->Q' v H'):Wp K c σ H Q' (f ρ):=by
 unfold Sk.bnd at h
 cases e:f ρ with
 |ok p=>rw[e]at h;exact λv H' hr hi hg=>hQ p.1 p.2 v H' hr hi hg (h.gr hg)
 |exc x ρ'=>rw[e]at h;exact h
 |bad=>rw[e]at h;exact h
theorem WpL.bndI {K:Fr0} {σ:St} {H:Hp} {Q:It->Hp->Prop} {f:M (List D)} {k:List D->M (List D)} {ρ:Env} {Q':List V->Hp->Prop} (h:WpI K c σ H Q (Sk.bnd f k ρ)) (hQ:∀d ρ' v H',Rep K c ρ' σ H'->IsL K (Cn c σ) H' d v->Gr c.O σ H H'->WpI K c σ H' Q (k d ρ')->Q' v H'):WpL K c σ H Q' (f ρ):=by
 unfold Sk.bnd at h
 cases e:f ρ with
 |ok p=>rw[e]at h;exact λv H' hr hi hg=>hQ p.1 p.2 v H' hr hi hg (h.gr hg)
 |exc x ρ'=>rw[e]at h;exact h
 |bad=>rw[e]at h;exact h
theorem Is.tr{K:Fr0}{A:Addr->Prop}{H:Hp}{d:D}{v:V}(h:Is K A H d v):Is K (λa=>A a/\(H a).isSome=true) H d v:=Is.ext Ext.refl (λa h1 h2=>⟨h1,h2⟩) h
theorem uk {f:M D} (h:DE X c e f):DI X c tg e (yt f):=by
 obtain⟨t,p,w⟩:=h
 refine⟨_,qlh p,λρ σ H Q r h=>w ρ σ H _ r (Wp.bndI h λd ρ1 v H1 r1 i1 g1 h1=>?_)⟩
 obtain⟨ds,e,h2⟩:=w6 h1
 have i2:Is X.K (CnT c σ H1) H1 d v:=i1.tr
 cases d<;>simp only[qmk]at e<;>try (cases e;done)
 ·cases e
  obtain⟨a,xs,rfl,ta,il⟩:=i2
  exact .inr ⟨a,rfl,⟨xs,ta.sq⟩,h2 _ H1 r1 (qli ta il) .refl⟩
 ·cases e
  obtain⟨a,xs,rfl,hA,ta,il⟩:=i2
  exact .inl ⟨a,rfl,⟨xs,.inl (.inl ta)⟩,h2 _ H1 r1 (qfE (λH' ex => .inl (.inl (ex.at_ _ _ hA ta))) il) .refl⟩
 ·cases e
  obtain⟨a,rfl,ta⟩:=i2
  exact .inl ⟨a,rfl,⟨_,ta.sq⟩,h2 _ H1 r1 (qfE (λH' ex=>(ta.elim (λ⟨o,h⟩ => .inl ⟨o,ex.frz _ _ _ h⟩) .inr:qk5 X.K H' a _).sq) (qbA _)) .refl⟩
def qbB(lo:Int)(n:Nat):List D:=(yay n).map λi => .int (lo+(i:Nat))
theorem qlj {K:Fr0} {A:Addr->Prop} {H:Hp} (lo:Int) (n:Nat):qhf K A H (qbB lo n) (Itr lo n) where
 go:=λH' i d ex hd=>by
  have:i<(qbB lo n).length:=(gI_.mp hd).1
  show i<n
  simpa [qbB] using this
 yl := λH' i d x H'' ex hd y=>by
  obtain⟨e,y⟩:=y
  subst e
  subst y
  refine⟨jG.refl _,?_⟩
  unfold qbB at hd
  rw[gM_]at hd
  cases e2:(yay n)[i]? with
  |none=>rw[e2]at hd;cases hd
  | some j=>
   rw[e2]at hd
   have hj:j=i:=by
    have:=(gI_.mp e2).2
    simpa using this.symm
   subst hj
   cases hd
   rfl
 stop:=λH' ex=>by show n<=(qbB lo n).length;simp[qbB]
def qh5:List D->Option (List D)
 | [.int j]=>if decide (-(2 ^ 62)<=j)&&decide (j<2 ^ 62)then some (qbB 0 j.toNat)else none
 |_=>none
def zn(f:M (List D)):M (List D):=bnd f λds=>lift (qh5 ds)
theorem zU {f:M (List D)} {p:Pos} (hg:Gl X "range") (hm:X.mg "range"=none) (ha:DA X c [a] f) (hs:yae [a] X.env=[(false,eval a X.env)]:=by rfl):DI X c tg (.Call (.Name "range" p) [a] [] pos) (zn f):=by
 obtain⟨t,p,w⟩:=ha
 refine⟨_,qfb hg hm p hs,λρ σ H Q r h=>w ρ σ H _ r (WpL.bndI h λds ρ1 vs H1 r1 i1 g1 h1=>?_)⟩
 obtain⟨es,e,h2⟩:=w6 h1
 unfold qh5 at e
 split at e
 ·rename_i j
  obtain⟨v,rfl,e2⟩:=IsL.inv1 i1
  cases e2
  by_cases hb:(decide (-(2 ^ 62)<=j)&&decide (j<2 ^ 62))=true
  ·rw[if_pos hb]at e
   cases e
   rw[yal]at hb
   exact⟨j,rfl,of_decide_eq_true hb.1,of_decide_eq_true hb.2,h2 _ H1 r1 (qlj 0 _) .refl⟩
  ·rw[if_neg hb]at e
   cases e
 ·cases e
def yk (g:D->Env->Option Env) (b:MS):List D->MS
 | [],ρ => .ok (.nx ρ)
 | d::ds,ρ=>match g d ρ with
  |none => .bad
  |some ρ1=>match b ρ1 with
   |.ok (.nx ρ2)=>yk g b ds ρ2
   |.ok (.ct ρ2)=>yk g b ds ρ2
   |.ok (.bk ρ2) => .ok (.nx ρ2)
   |.ok (.rt r ρ2) => .ok (.rt r ρ2)
   |.exc x ρ2 => .exc x ρ2
   |.bad => .bad
def vn(f:M (List D))(g:D->Env->Option Env)(b:MS):MS:=sbnd f λds=>yk g b ds
theorem WpI.sbnd {K:Fr0} {σ:St} {H:Hp} {D':qe6} {f:M (List D)} {k:List D->MS} {ρ:Env} {Q':It->Hp->Prop} (h:WpS K c σ H D' (Sk.sbnd f k ρ))
  (hQ:∀ds ρ' J H',Rep K c ρ' σ H'->qhf K (CnT c σ H') H' ds J->Gr c.O σ H H'->WpS K c σ H' D' (k ds ρ')->Q' J H'):WpI K c σ H Q' (f ρ):=by
 unfold Sk.sbnd at h
 cases e:f ρ with
 |ok p=>rw[e]at h;exact λv H' hr hi hg=>hQ p.1 p.2 v H' hr hi hg (h.gr hg.s)
 |exc x ρ'=>rw[e]at h;exact λH' hr hg=>h σ H' hr hg.s
 |bad=>rw[e]at h;exact h
theorem GrS.extT{σ σ':St}{H H':Hp}(g:GrS c.O σ H σ' H'):Ext (CnT c σ H) H H':=⟨g.ext.tup,g.ext.frz,λb o hb h=>g.ext.at_ b o hb.1.2 h⟩
theorem GrS.cnT{σ σ':St}{H H':Hp}(g:GrS c.O σ H σ' H'){a:Addr}(h:CnT c σ H a):Cn c σ' a:=⟨h.1.1,g.cl a h.1.2 h.2⟩
theorem ww{α:Type}{l:List α}{i:Nat}(h:i<l.length):l.drop i=l[i]::l.drop (i+1):=ya7 h
theorem uJ {it:Expr} {body:List Stmt} {f:M (List D)} {g:D->Env->Option Env} {b:MS} (hp:PassesOwn (model X.prog X.w) X.A X.env X.xe) (hc:X.calm=true) (hi:DI X c tg it f) (hg:DG X c tg g) (hb:DSs X c body b)
  (hs:∀x,ybR it X.env x=pure x:=by intro _;rfl):DS X c (.For tg it body [] pos) (vn f g b):=by
 obtain⟨wi,pi,wI⟩:=hi
 obtain⟨tg',pg,wg⟩:=hg
 obtain⟨tb,pb,wb⟩:=hb
 refine⟨_,qkJ hp hc pi pg pb hs,λρ σ H D' r h=>wI ρ σ H _ r (WpI.sbnd h λds ρ1 J H1 r1 iok g1 h1=>?_)⟩
 refine⟨λi m σ' H'=>m=ds.length-i/\i<=ds.length/\∃ρ',Rep X.K c ρ' σ' H'/\GrS c.O σ H1 σ' H'/\WpS X.K c σ' H' D' (yk g b (ds.drop i) ρ'),⟨ds.length,by simp,ya5 _,ρ1,r1,.refl,by simpa using h1⟩,?_⟩
 rintro i m σ' H' ⟨rfl,hi,ρ',r',gs,w⟩
 by_cases hlt:i<ds.length
 ·refine .inr ⟨iok.go H' i ds[i] gs.extT (by simp[hlt]),λσ2 H2=>∃ρ2,Rep X.K c ρ2 σ2 H2/\GrS c.O σ H1 σ2 H2/\WpS X.K c σ2 H2 D' (yk g b (ds.drop (i+1)) ρ2),λσ2 H2 n=>⟨ds.length-(i+1),by omega,rfl,hlt,n⟩,λx H'' y=>?_⟩
  obtain⟨sm,ix⟩:=iok.yl H' i ds[i] x H'' gs.extT (by simp[hlt]) y
  rw[ww hlt]at w
  unfold yk at w
  have gs2:GrS c.O σ H1 σ' H'':=gs.trans (Gr.of_same sm).s
  have ix2:Is X.K (Cn c σ') H'' ds[i] x:=Is.ext Ext.refl (λa ha _=>gs2.cnT ha) ix
  cases e1:g ds[i] ρ' with
  |none=>simp only[e1]at w;exact w.elim
  | some ρ2=>
   simp only[e1]at w
   refine wg ρ' σ' H'' ds[i] x ρ2 _ (r'.same sm) ix2 e1 λσ2 r2 g2 _=>wb ρ2 σ2 H'' _ r2 ?_
   have w2:=w.gr ((Gr.of_same sm).s.trans g2)
   have gs3:GrS c.O σ H1 σ2 H'':=gs2.trans g2
   cases e2:b ρ2 with
   |ok fl=>
    cases fl with
    |nx ρ3=>simp only[e2]at w2;exact λσ3 H3 r3 g3=>⟨ρ3,r3,gs3.trans g3,w2.gr g3⟩
    |ct ρ3=>simp only[e2]at w2;exact λσ3 H3 r3 g3=>⟨ρ3,r3,gs3.trans g3,w2.gr g3⟩
    |bk ρ3=>simp only[e2]at w2;exact w2
    |rt d ρ3=>simp only[e2]at w2;exact w2
   |exc x ρ3=>simp only[e2]at w2;exact w2
   |bad=>simp only[e2]at w2;exact w2
 ·have hie:i=ds.length:=by omega
  subst hie
  rw[ycL (yah _)]at w
  exact .inl ⟨iok.stop H' gs.extT,w σ' H' r' .refl⟩
end
def cin (B0:Addr->Prop) (H1:Hp) (O':List Nat) (Io':Addr->Prop) (acc:Addr) (S':Nat->Option (Option V)):Fc where
 O:=O'
 P:=O'
 B:=λa=>B0 a/\a≠acc
 H0:=upd H1 acc (.lst [])
 Io:=λa=>Io' a\/a=acc
 E:=λ_ _=>False
 S:=S'
def zB (g:D->Env->Option Env) (t:M Bool) (e:M D):List D->List D->Env->R (List D×Env)
 | [],acc,ρ => .ok (acc,ρ)
 | d :: ds,acc,ρ=>match g d ρ with
  |none => .bad
  | some ρ1=>match t ρ1 with
   |.ok (true,ρ2)=>match e ρ2 with
    |.ok (y,ρ3)=>if qQ (acc.length+1)then zB g t e ds (acc++[y]) ρ3 else .bad
    |_ => .bad
   |.ok (false,ρ2)=>zB g t e ds acc ρ2
   |_ => .bad
def yp(nt:Nat)(fr:List Nat)(ρ:Env):Env:=yap nt none++fr.map λj=>(ρ[j]?).join
def qjh (fo:Option (Nat×Nat)) (ρe ρ:Env):Env:=match fo with
 |none=>ρ
 |some (i,j)=>ρ.set j (ρe[i]?).join
def zo (nt:Nat) (fr:List Nat) (fo:Option (Nat×Nat)) (f:M (List D)) (g:D->Env->Option Env) (t:M Bool) (e:M D):M D:=bnd f λds ρ=>match zB g t e ds [] (yp nt fr ρ) with
 |.ok (ys,ρe) => .ok (.lst ys,qjh fo ρe ρ)
 |_ => .bad
def DF(X:Cx)(c:Fc)(ifs:List Expr)(f:M Bool):Prop:=∃t,PF X ifs t/\∀ρ σ H Q,Rep X.K c ρ σ H->WpB X.K c σ H Q (f ρ)->t σ H Q
def foO (fo:Option (Nat×Nat)):List Nat:=match fo with
 |none=>[]
 |some (i,_)=>[i]
section
variable{X:Cx}{c:Fc}{tg a b e:Expr}{pos:Pos}
theorem y0:DF X c [] (ret true):=⟨_,qlf,λρ σ H Q r h=>h H r .refl⟩
theorem qlk {f:M Bool} (h:DT X c e f):DF X c [e] f:=by
 obtain⟨t,p,w⟩:=h
 exact⟨_,qlg p,w⟩
theorem WpI.bnd {K:Fr0} {σ:St} {H:Hp} {Q:VK} {f:M (List D)} {k:List D->M D} {ρ:Env} {Q':It->Hp->Prop} (h:Wp K c σ H Q (Sk.bnd f k ρ))
  (hQ:∀ds ρ' J H',Rep K c ρ' σ H'->qhf K (CnT c σ H') H' ds J->Gr c.O σ H H'->Wp K c σ H' Q (k ds ρ')->Q' J H'):WpI K c σ H Q' (f ρ):=by
 unfold Sk.bnd at h
 cases e:f ρ with
 |ok p=>rw[e]at h;exact λv H' hr hi hg=>hQ p.1 p.2 v H' hr hi hg (h.gr hg)
 |exc x ρ'=>rw[e]at h;exact h
 |bad=>rw[e]at h;exact h
theorem Rep.grow {K:Fr0} {B0:Addr->Prop} {H1:Hp} {O':List Nat} {Io':Addr->Prop} {acc:Addr} {S':Nat->Option (Option V)} {ρ:Env} {σ:St} {H:Hp} {xs ys:List V} (r:Rep K (cin B0 H1 O' Io' acc S') ρ σ H) (h:H acc=some (.lst xs)) (ho:∀j∈O',σ[j]? ≠ some (some (.ref acc))) :
  Rep K (cin B0 H1 O' Io' acc S') ρ σ (upd H acc (.lst ys)):=by
 have ext:Ext (λa=>a≠acc) H (upd H acc (.lst ys)):=⟨λb zs hb=>by rw[qz (wX hb h (by intro z;cases z))];exact hb,λb o u hb=>by rw[qz (wX hb h (by intro z;cases z))];exact hb,λb o hb hq=>by rw[qz hb];exact hq⟩
 have cnext:Ext (Cn (cin B0 H1 O' Io' acc S') σ) H (upd H acc (.lst ys)):=⟨ext.tup,ext.frz,λb o hb hq=>ext.at_ b o hb.1.2 hq⟩
 refine⟨r.len,λi d hd=>?_,λj hj v hv=>?_,r.inj,r.b0,λb o hb hio=>?_,λb hb=>?_,r.pO,r.ps⟩
 ·obtain ⟨v,h1,h2⟩:=r.val i d hd
  refine⟨v,h1,?_⟩
  rcases h2 with⟨hi,ds,a,zs,h3,h5,h6,h7⟩|⟨hi,h3⟩
  ·subst h5
   have ne:a≠acc:=λe=>ho i hi (by rw[h1,e])
   exact .inl ⟨hi,ds,a,zs,h3,rfl,by rw[qz ne];exact h6,IsL.ext cnext (λ_ h _=>h) h7⟩
  ·exact .inr ⟨hi,Is.ext cnext (λ_ h _=>h) h3⟩
 ·obtain⟨a,zs,h1,h2,h3⟩:=r.own j hj v hv
  subst h1
  have ne:a≠acc:=λe=>ho j hj (by rw[hv,e])
  exact⟨a,zs,rfl,by rw[qz ne];exact h2,h3⟩
 ·have ne:b≠acc:=λe=>hio (.inr e)
  rw[qz ne]
  exact r.kp b o hb hio
 ·by_cases e:b=acc
  ·subst e;rw[qx]at hb;cases hb
  ·rw[qz e]at hb;exact r.dm b hb
theorem qas {α:Type} {o:Option (Option α)} {a:α} (h:o.join=some a):o=some (some a):=by
 cases o with
 |none=>cases h
 |some x=>have:x=some a:=h;rw[this]
def qji (c:Fc) (nt:Nat) (fr:List Nat) (fo:Option (Nat×Nat)):Prop:=match fo with
 |none=>∀j∈fr,j ∉ c.O
 |some (i,j)=>j∈c.O/\nt<=i/\fr[i-nt]? = some j/\∀k j',fr[k]? = some j'->nt+k≠i->j' ∉ c.O
def qb8 (σ:St) (fo:Option (Nat×Nat)) (a:Addr):Prop:=match fo with
 |none=>False
 |some (_,j)=>σ[j]? = some (some (.ref a))
theorem wx {nt:Nat} {fr:List Nat} {σ:St} {k j:Nat} (h:fr[k]? = some j):(qO nt fr σ)[nt+k]? = some (σ[j]?).join:=by
 unfold qO
 rw[List.getElem?_append_right (by simp),yaO,gM_,show nt+k-nt=k by omega,h]
 rfl
theorem qeC {nt:Nat} {fr:List Nat} {ρ:Env} {i:Nat} {d:D} (hd:(yp nt fr ρ)[i]? = some (some d)):∃k j,i=nt+k/\fr[k]? = some j/\ρ[j]? = some (some d):=by
 have hi:nt<=i:=by
  apply ycT
  intro hlt
  unfold yp at hd
  rw[List.getElem?_append_left (by simpa using hlt),List.getElem?_replicate]at hd
  split at hd<;>cases hd
 unfold yp at hd
 rw[List.getElem?_append_right (by simpa using hi),yaO,gM_]at hd
 cases ej:fr[i-nt]? with
 |none=>rw[ej]at hd;cases hd
 |some j=>
  rw[ej]at hd
  exact⟨i-nt,j,by omega,ej,qas (by simpa using hd)⟩
theorem yz {nt:Nat} {fr:List Nat} {σ:St} {i:Nat} {d:V} (hd:(qO nt fr σ)[i]? = some (some d)):∃k j,i=nt+k/\fr[k]? = some j/\σ[j]? = some (some d):=by
 have hi:nt<=i:=by
  apply ycT
  intro hlt
  unfold qO at hd
  rw[List.getElem?_append_left (by simpa using hlt),List.getElem?_replicate]at hd
  split at hd<;>cases hd
 unfold qO at hd
 rw[List.getElem?_append_right (by simpa using hi),yaO,gM_]at hd
 cases ej:fr[i-nt]? with
 |none=>rw[ej]at hd;cases hd
 |some j=>
  rw[ej]at hd
  exact⟨i-nt,j,by omega,ej,qas (by simpa using hd)⟩
theorem Rep.entry {K:Fr0} {nt:Nat} {fr:List Nat} {fo:Option (Nat×Nat)} {acc:Addr} {ρ:Env} {σ:St} {H:Hp} (r:Rep K c ρ σ H) (hn:H acc=none) (hfo:qji c nt fr fo) :
  Rep K (cin (Cn c σ) H (foO fo) (qb8 σ fo) acc λj=>(qO nt fr σ)[j]?) (yp nt fr ρ) (qO nt fr σ) (upd H acc (.lst [])):=by
 have sm:jG H (upd H acc (.lst [])):=qu hn _
 have ownI:∀i∈foO fo,∀v,(qO nt fr σ)[i]? = some (some v)->∃j,fo=some (i,j)/\j∈c.O/\σ[j]? = some (some v):=λi hi v hv=>by
  cases fo with
  |none=>cases hi
  |some p=>
   obtain⟨i',j'⟩:=p
   have e:i=i':=by simpa [foO] using hi
   subst e
   obtain⟨h1,h2,h3,h4⟩:=hfo
   obtain⟨k,j,e1,e2,e3⟩:=yz hv
   have hk:k=i-nt:=by omega
   subst hk
   rw[h3]at e2
   cases e2
   exact⟨j',rfl,h1,e3⟩
 have clI:∀a,Cl c.O σ a->Cl (foO fo) (qO nt fr σ) a:=λa ha i hi e=>by
  obtain⟨j,_,hj,e2⟩:=ownI i hi _ e
  exact ha j hj e2
 refine⟨by simp[yp,qO],λi d hd=>?_,λi hi v hv=>?_,λi j a hi hj h1 h2=>?_,⟨λa ha=>?_,λq P pos eP=>?_⟩,λb o hb hio=>?_,λb hb=>?_,λ_ h=>h,λ_ _=>rfl⟩
 ·obtain ⟨k,j,e1,e2,e3⟩:=qeC hd
  subst e1
  by_cases hO:nt+k∈foO fo
  ·obtain ⟨v,hv⟩:∃v,σ[j]? = some (some v):=by
    obtain⟨v,h1,_⟩:=r.val j d e3
    exact⟨v,h1⟩
   have hc:(qO nt fr σ)[nt+k]? = some (some v):=by rw[wx e2,hv];rfl
   obtain⟨j',f1,f2,f3⟩:=ownI _ hO v hc
   subst f1
   obtain⟨g1,g2,g3,g4⟩:=hfo
   rw[show nt+k-nt=k by omega,e2]at g3
   cases g3
   obtain⟨ds,a,xs,h1,h3,h4,h5⟩:=r.getO g1 e3
   rw[hv]at h3
   cases h3
   exact⟨.ref a,hc,.inl ⟨hO,ds,a,xs,h1,rfl,sm _ _ h4,IsL.ext (Ext.of_same sm) (λb hb hs=>⟨⟨hb,λe=>by subst e;rw[hn]at hs;cases hs⟩,clI b hb.2⟩) h5⟩⟩
  ·have hj:j ∉ c.O:=by
    cases fo with
    |none=>exact hfo j (yce e2)
    |some p=>
     obtain⟨i',j'⟩:=p
     exact hfo.2.2.2 k j e2 (λe=>hO (by simp[foO,e]))
   obtain⟨v,h1,h2⟩:=r.get hj e3
   refine⟨v,by rw[wx e2,h1];rfl,.inr ⟨hO,?_⟩⟩
   refine Is.ext (Ext.of_same sm) (λa ha hs=>⟨⟨ha,λe=>?_⟩,clI a ha.2⟩) h2
   subst e;rw[hn]at hs;cases hs
 ·obtain⟨j,f1,f2,f3⟩:=ownI i hi v hv
  obtain⟨a,xs,h1,h2,h3⟩:=r.own j f2 v f3
  subst h1 f1
  exact⟨a,xs,rfl,sm _ _ h2,.inr ⟨hi,.inl f3⟩⟩
 ·cases fo with
  |none=>cases hi
  |some p=>
   obtain⟨i',j'⟩:=p
   have e:i=i':=by simpa [foO,cin] using hi
   have e2:j=i':=by simpa [foO,cin] using hj
   rw[e,e2]
 ·have ha':upd H acc (.lst []) a=none:=ha
  by_cases e:a=acc
  ·subst e;rw[qx]at ha';cases ha'
  ·rw[qz e]at ha';exact⟨r.new ha',e⟩
 ·have hP:=(r.tb q P pos eP).1
  refine⟨sm _ _ hP,λz=>?_⟩
  rcases z with z|z
  ·cases fo with
   |none=>exact z
   |some p=>
    obtain⟨b,xs,e1,e2,_⟩:=r.own _ hfo.1 _ z
    cases e1
    rw[hP]at e2;cases e2
  ·rw[z,hn]at hP;cases hP
 ·exact hb
 ·exact hb
theorem Rep.leave {K:Fr0} {nt:Nat} {fr:List Nat} {fo:Option (Nat×Nat)} {acc:Addr} {ρ ρe:Env} {σ σe:St} {H H':Hp} (r:Rep K c ρ σ H) (hn:H acc=none) (hfo:qji c nt fr fo) (hf:∀i j,fo=some (i,j)->σe[i]? = (qO nt fr σ)[i]?)
  (q:Rep K (cin (Cn c σ) H (foO fo) (qb8 σ fo) acc λj=>(qO nt fr σ)[j]?) ρe σe H'):Rep K c (qjh fo ρe ρ) σ H'/\Gr c.O σ H H':=by
 have kp:∀b o,H b=some o->¬qb8 σ fo b->H' b=some o:=λb o hb hio=>q.kp b o (by show upd H acc (.lst []) b=some o;rw[qz (qP hb hn)];exact hb) λz=>z.elim hio λe=>absurd e (qP hb hn)
 have clean:∀b,Cl c.O σ b->¬qb8 σ fo b:=λb hb hio=>by
  cases fo with
  |none=>exact hio
  |some p=>exact hb p.2 hfo.1 hio
 have dom:∀b,H' b=none->H b=none:=λb hb=>by
  have:=q.dm b hb
  by_cases e:b=acc
  ·subst e;exact hn
  ·have this:upd H acc (.lst []) b=none:=this
   rw[qz e]at this;exact this
 have notT:∀b xs,H b=some (.tup xs)->¬qb8 σ fo b:=λb xs hb hio=>by
  cases fo with
  |none=>exact hio
  |some p=>
   obtain⟨a,ys,e1,e2,_⟩:=r.own p.2 hfo.1 _ hio
   cases e1;rw[hb]at e2;cases e2
 have notF:∀b o u,H b=some (.frz o u)->¬qb8 σ fo b:=λb o u hb hio=>by
  cases fo with
  |none=>exact hio
  |some p=>
   obtain⟨a,ys,e1,e2,_⟩:=r.own p.2 hfo.1 _ hio
   cases e1;rw[hb]at e2;cases e2
 have gr:Gr c.O σ H H':=⟨⟨λb xs hb=>kp b _ hb (notT b xs hb),λb o u hb=>kp b _ hb (notF b o u hb),λb o hc hb=>kp b o hb (clean b hc)⟩,dom⟩
 refine⟨⟨?_,λk d hd=>?_,λj hj v hv=>?_,r.inj,r.b0,λb o hb hio=>?_,λb hb=>r.dm b (dom b hb),r.pO,r.ps⟩,gr⟩
 ·cases fo with
  |none=>exact r.len
  |some p=>show(ρ.set _ _).length=_;rw[lS_];exact r.len
 ·-- an old slot,or the one that came qjh
  have oldSlot:ρ[k]? = some (some d)->(∀i,fo≠some (i,k))->∃v,σ[k]? = some (some v)/\((k∈c.O/\∃ds a xs,d=.lst ds/\v=.ref a/\H' a=some (.lst xs)/\IsL K (Cn c σ) H' ds xs)\/(k ∉ c.O/\Is K (Cn c σ) H' d v)):=λhk hne=>by
   obtain⟨v,h1,h2⟩:=r.val k d hk
   refine⟨v,h1,?_⟩
   rcases h2 with⟨hi,ds,a,xs,h3,h5,h6,h7⟩|⟨hi,h3⟩
   ·subst h5
    refine .inl ⟨hi,ds,a,xs,h3,rfl,kp a _ h6 (λhio=>?_),gr.isL h7⟩
    cases fo with
    |none=>exact hio
    |some p=>
     obtain⟨i',j'⟩:=p
     have e:=r.inj k j' a hi hfo.1 h1 hio
     exact hne i' (by rw[e])
   ·exact .inr ⟨hi,gr.is h3⟩
  cases fo with
  |none=>exact oldSlot hd (λi e=>by cases e)
  | some p=>
   obtain⟨i',j'⟩:=p
   have hd':(ρ.set j' (ρe[i']?).join)[k]? = some (some d):=hd
   by_cases e:k=j'
   ·subst e
    have hl:k<ρ.length:=by
     have:=(gI_.mp hd').1
     rwa [lS_]at this
    rw[List.getElem?_set_self hl]at hd'
    have he:ρe[i']? = some (some d):=qas (yaI hd')
    obtain⟨ds,a,xs,h1,h3,h4,h5⟩:=q.getO (show i'∈foO (some (i',k)) by simp[foO]) he
    have h3':=hf i' k rfl
    rw[h3]at h3'
    obtain⟨k2,j2,e1,e2,e3⟩:=yz h3'.symm
    have hk2:k2=i'-nt:=by omega
    subst hk2
    rw[hfo.2.2.1]at e2
    cases e2
    exact⟨.ref a,e3,.inl ⟨hfo.1,ds,a,xs,h1,rfl,h4,IsL.ext Ext.refl (λb hb _=>hb.1.1) h5⟩⟩
   ·rw[zE e]at hd'
    exact oldSlot hd' (λi e2=>e (by cases e2;rfl))
 ·obtain ⟨a,xs,h1,h2,h3⟩:=r.own j hj v hv
  subst h1
  by_cases hio:qb8 σ fo a
  ·cases fo with
   |none=>exact hio.elim
   | some p=>
    obtain⟨i',j'⟩:=p
    have hc:(qO nt fr σ)[i']? = some (some (.ref a)):=by
     have:=wx (σ:=σ) (nt:=nt) hfo.2.2.1
     rw[show nt+(i'-nt)=i' by have:=hfo.2.1;omega]at this
     rw[this]
     have hio':σ[j']? = some (some (.ref a)):=hio
     rw[hio'];rfl
    have h3':=hf i' j' rfl
    rw[hc]at h3'
    obtain⟨a',ys,e1,e2,_⟩:=q.own i' (by simp[foO,cin]) _ h3'
    cases e1
    exact⟨a,ys,rfl,e2,h3⟩
  ·exact⟨a,xs,rfl,kp a _ h2 hio,h3⟩
 ·by_cases hio2:qb8 σ fo b
  ·cases fo with
   |none=>exact hio2.elim
   |some p=>
    obtain⟨a,ys,e1,e2,e3⟩:=r.own p.2 hfo.1 _ hio2
    cases e1
    rcases e3 with e3|e3
    ·rw[hb]at e3;cases e3
    ·exact absurd e3.2 hio
  ·exact kp b o (r.kp b o hb hio) hio2
theorem jT {it elt:Expr} {ifs:List Expr} {scope:Scope} {N':List Str} {nt:Nat} {fr:List Nat} {fo:Option (Nat×Nat)} {f:M (List D)} {g:D->Env->Option Env} {t:M Bool} {k:M D} (hc:X.calm=true) (hi:DI X c tg it f) (S:jK X scope N' nt fr)
  (hfo:qji c nt fr fo)
  (hb:∀fp cl C s₀ H₀ pn B0 H1 Io' acc S',DG (zT X scope N' fp cl C s₀ H₀ pn) (cin B0 H1 (foO fo) Io' acc S') tg g/\DF (zT X scope N' fp cl C s₀ H₀ pn) (cin B0 H1 (foO fo) Io' acc S') ifs t/\DE (zT X scope N' fp cl C s₀ H₀ pn) (cin B0 H1 (foO fo) Io' acc S') elt k)
  (hs:∀x,ybR it X.env x=pure x:=by intro _;rfl):DE X c (.ListComp elt [⟨tg,it,ifs,0⟩] scope pos) (zo nt fr fo f g t k):=by
 obtain⟨wi,pi,wI⟩:=hi
 refine⟨_,qjg hc pi S hs,λρ σ H Q r h=>wI ρ σ H _ r (WpI.bnd h λds ρ1 J H1 r1 iok g1 h1=>?_)⟩
 intro acc fp cl C s₀ H₀ pn hn
 obtain⟨⟨tg',pg,wg⟩,⟨tt,pt,wt⟩,⟨te,pe,we⟩⟩:=hb fp cl C s₀ H₀ pn (Cn c σ) H1 (qb8 σ fo) acc λj=>(qO nt fr σ)[j]?
 refine⟨tg',tt,te,pg,pt,pe,?_⟩
 cases ew:zB g t k ds [] (yp nt fr ρ1) with
 |exc x ρ'=>rw[ew]at h1;exact h1.elim
 |bad=>rw[ew]at h1;exact h1.elim
 | ok p =>
  rw[ew]at h1
  obtain⟨ys,ρe⟩:=p
  have h1:∀v H',Rep X.K c (qjh fo ρe ρ1) σ H'->Is X.K (Cn c σ) H' (.lst ys) v->Gr c.O σ H1 H'->Q v H':=h1
  have accO:∀j∈foO fo,(qO nt fr σ)[j]? ≠ some (some (.ref acc)):=λj hj e=>by
   have r0:=r1.entry (acc:=acc) hn hfo
   cases fo with
   |none=>cases hj
   |some p=>
    obtain⟨i',j'⟩:=p
    have e2:j=i':=by simpa [foO] using hj
    subst e2
    obtain⟨k2,j2,e1,e2,e3⟩:=yz e
    have hk2:k2=j-nt:=by omega
    subst hk2
    rw[hfo.2.2.1]at e2
    cases e2
    obtain⟨a,us,e4,e5,_⟩:=r1.own j' hfo.1 _ e3
    cases e4;rw[hn]at e5;cases e5
  refine ⟨λi m σ' H'=>m=ds.length-i/\i<=ds.length/\∃ρ' zs xs,Rep X.K (cin (Cn c σ) H1 (foO fo) (qb8 σ fo) acc λj=>(qO nt fr σ)[j]?) ρ' σ' H'/\(∀j∈foO fo,σ'[j]? = (qO nt fr σ)[j]?)/\H' acc=some (.lst xs)/\IsL X.K (Cn (cin (Cn c σ) H1 (foO fo) (qb8 σ fo) acc λj=>(qO nt fr σ)[j]?) σ') H' zs xs/\zB g t k (ds.drop i) zs ρ'=.ok (ys,ρe),
   ⟨ds.length,by simp,ya5 _,yp nt fr ρ1,[],[],r1.entry hn hfo,λ_ _=>rfl,qx,rfl,by simpa using ew⟩,?_⟩
  rintro i m σ' H' ⟨rfl,hi,ρ',zs,xs,r',so,ha,iz,w⟩
  obtain⟨_,gr⟩:=r1.leave hn hfo (λi j e=>so i (by rw[e];simp[foO])) r'
  have ex:Ext (CnT c σ H1) H1 H':=⟨gr.ext.tup,gr.ext.frz,λb o hb hq=>gr.ext.at_ b o hb.1.2 hq⟩
  have accC:∀τ:St,(∀j∈foO fo,τ[j]? = (qO nt fr σ)[j]?)->Cl (foO fo) τ acc:=λτ hτ j hj e=>accO j hj (by rw[<-hτ j hj];exact e)
  by_cases hlt:i<ds.length
  ·refine .inr ⟨iok.go H' i ds[i] ex (by simp[hlt]),λx H'' y=>?_⟩
   obtain⟨sm,ix⟩:=iok.yl H' i ds[i] x H'' ex (by simp[hlt]) y
   rw[ww hlt]at w
   unfold zB at w
   have ix2:Is X.K (Cn (cin (Cn c σ) H1 (foO fo) (qb8 σ fo) acc λj=>(qO nt fr σ)[j]?) σ') H'' ds[i] x:=Is.ext Ext.refl (λa ha _=>⟨⟨ha.1,λe=>by
    have:=ha.2
    rw [e,hn]at this;cases this⟩,λj hj e=>by
     rw[so j hj]at e
     cases fo with
     |none=>cases hj
     |some p=>
      obtain⟨i',j'⟩:=p
      have e2:j=i':=by simpa [foO,cin] using hj
      subst e2
      obtain⟨k2,j2,e1,e2,e3⟩:=yz e
      have hk2:k2=j-nt:=by omega
      subst hk2
      rw[hfo.2.2.1]at e2
      cases e2
      exact ha.1.2 j' hfo.1 e3⟩) ix
   cases e1:g ds[i] ρ' with
   |none=>simp only[e1]at w;cases w
   | some ρ2=>
    simp only[e1]at w
    refine wg ρ' σ' H'' ds[i] x ρ2 _ (r'.same sm) ix2 e1 λσ2 r2 g2 o2=>?_
    have so2:∀j∈foO fo,σ2[j]? = (qO nt fr σ)[j]? := λj hj=>(o2 j hj).trans (so j hj)
    have ha2:H'' acc=some (.lst xs):=sm _ _ ha
    have iz2:=g2.isL (IsL.ext (Ext.of_same sm) (λ_ h _=>h) iz)
    cases e2:t ρ2 with
    |exc x ρ3=>simp only[e2]at w;cases w
    |bad=>simp only[e2]at w;cases w
    | ok p2=>
     obtain⟨bb,ρ3⟩:=p2
     refine wt ρ2 σ2 H'' _ r2 ?_
     rw[e2]
     intro H3 r3 g3
     have ha3:H3 acc=some (.lst xs):=g3.ext.at_ _ _ (accC σ2 so2) ha2
     have iz3:=g3.isL iz2
     cases bb with
     |false=>
      rw[if_neg yav]
      simp only[e2]at w
      exact⟨ds.length-(i+1),by omega,rfl,hlt,ρ3,zs,xs,r3,so2,ha3,iz3,w⟩
     | true=>
      rw[if_pos rfl]
      simp only[e2]at w
      cases e3:k ρ3 with
      |exc x ρ4=>simp only[e3]at w;cases w
      |bad=>simp only[e3]at w;cases w
      | ok p3=>
       obtain⟨d4,ρ4⟩:=p3
       simp only[e3]at w
       refine we ρ3 σ2 H3 _ r3 ?_
       rw[e3]
       intro y4 H4 r4 i4 g4
       have ha4:H4 acc=some (.lst xs):=g4.ext.at_ _ _ (accC σ2 so2) ha3
       have hsz:qQ (zs.length+1)=true:=by
        cases e5:qQ (zs.length+1) with
        |true=>rfl
        |false=>rw[e5]at w;simp at w
       rw[if_pos hsz]at w
       have hsz':zs.length+1<=yam:=of_decide_eq_true hsz
       have r5:=r4.grow (ys:=xs++[y4]) ha4 (λj hj e=>accC σ2 so2 j hj e)
       have ext5:Ext (Cn (cin (Cn c σ) H1 (foO fo) (qb8 σ fo) acc λj=>(qO nt fr σ)[j]?) σ2) H4 (upd H4 acc (.lst (xs++[y4]))):=⟨λb us hb=>by rw[qz (wX hb ha4 (by intro z;cases z))];exact hb,λb o u hb=>by rw[qz (wX hb ha4 (by intro z;cases z))];exact hb,λb o hb hq=>by rw[qz hb.1.2];exact hq⟩
       refine⟨xs,ha4,by rw[iz3.length];omega,ds.length-(i+1),by omega,rfl,hlt,ρ4,zs++[d4],xs++[y4],r5,so2,qx,?_,w⟩
       exact IsL.append (IsL.ext ext5 (λ_ h _=>h) (g4.isL iz3)) (IsL.one (Is.ext ext5 (λ_ h _=>h) i4))
  ·have hie:i=ds.length:=by omega
   subst hie
   rw[ycL (yah _)]at w
   unfold zB at w
   cases w
   obtain⟨r6,g6⟩:=r1.leave hn hfo (λi j e=>so i (by rw[e];simp[foO])) r'
   exact .inl ⟨iok.stop H' ex,h1 _ H' r6 ⟨acc,xs,rfl,r1.new hn,ha,IsL.ext Ext.refl (λa ha hs=>ha.1.1) iz⟩ g6⟩
end
theorem Rep.io {K:Fr0} {c:Fc} {ρ:Env} {σ:St} {H H':Hp} {i:Nat} {a:Addr} {bs:List D} {xs:List V} (r:Rep K c ρ σ H) (hi:i∈c.O) (hs:σ[i]? = some (some (.ref a))) (kp:∀b o,b≠a->H b=some o->H' b=some o)
  (ha:H' a=some (.lst xs)) (him:True) (il:IsL K (Cn c σ) H' bs xs) (dm:∀b,H' b=none->H b=none):Rep K c (ρ.set i (some (.lst bs))) σ H'/\Gr c.O σ H H':=by
 obtain⟨a',xs0,e0,h0,hown⟩:=r.own i hi _ hs
 cases e0
 have gr:Gr c.O σ H H':=⟨⟨λb us hb=>kp b _ (wX hb h0 (by intro z;cases z)) hb,λb o u hb=>kp b _ (wX hb h0 (by intro z;cases z)) hb,λb o hc hb=>kp b o (λe=>hc i hi (by rw[hs,e])) hb⟩,dm⟩
 refine⟨⟨by rw[lS_];exact r.len,λk d hk=>?_,λj hj v hv=>?_,r.inj,r.b0,λb o hb hio=>?_,λb hb=>r.dm b (dm b hb),r.pO,r.ps⟩,gr⟩
 ·by_cases e:k=i
  ·subst e
   have hl:k<ρ.length:=by
    have:=(gI_.mp hk).1
    rwa [lS_]at this
   rw[List.getElem?_set_self hl]at hk
   cases hk
   exact⟨.ref a,hs,.inl ⟨hi,bs,a,xs,rfl,rfl,ha,il⟩⟩
  ·rw [zE e]at hk
   obtain⟨v,h1,h2⟩:=r.val k d hk
   refine⟨v,h1,?_⟩
   rcases h2 with⟨hk2,ds,b,ys,h3,h5,h6,h7⟩|⟨hk2,h3⟩
   ·subst h5
    have ne:b≠a:=λe2=>e (r.inj k i a hk2 hi (by rw[h1,e2]) hs)
    exact .inl ⟨hk2,ds,b,ys,h3,rfl,kp b _ ne h6,gr.isL h7⟩
   ·exact .inr ⟨hk2,gr.is h3⟩
 ·obtain⟨b,ys,h1,h2,h3⟩:=r.own j hj v hv
  subst h1
  by_cases e:b=a
  ·subst e;exact⟨b,xs,rfl,ha,h3⟩
  ·exact⟨b,ys,rfl,kp b _ e h2,h3⟩
 ·have ne:b≠a:=λe=>by
   subst e
   rcases hown with z|z
   ·rw[hb]at z;cases z
   ·exact hio z.2
  exact kp b o ne (r.kp b o hb hio)
def zJ (i:Nat) (ρ:Env):Option (List D):=match ρ[i]? with
 |some (some (.lst ds))=>some ds
 |_=>none
theorem qfF {i:Nat} {ρ:Env} {ds:List D} (h:zJ i ρ=some ds):ρ[i]? = some (some (.lst ds)):=by
 unfold zJ at h
 split at h
 ·rename_i e;cases h;exact e
 ·cases h
theorem Rep.getLO {K:Fr0} {c:Fc} {ρ:Env} {σ:St} {H:Hp} (r:Rep K c ρ σ H) {i:Nat} {ds:List D} (hi:i∈c.O) (h:zJ i ρ=some ds) :
  ∃a xs,True/\σ[i]? = some (some (.ref a))/\H a=some (.lst xs)/\IsL K (Cn c σ) H ds xs:=by
 obtain⟨ds',a,xs,h1,h3,h4,h5⟩:=r.getO hi (qfF h)
 cases h1
 exact⟨a,xs,trivial,h3,h4,h5⟩
theorem yf{H:Hp}{a b:Addr}{o u:HO}(h:b≠a)(hb:H b=some o):upd H a u b=some o:=by rw[qz h];exact hb
theorem qfG {H:Hp} {a b:Addr} {u:HO} (h:upd H a u b=none):H b=none:=by
 by_cases e:b=a
 ·subst e;rw[qx]at h;cases h
 ·rw[qz e]at h;exact h
section
variable{X:Cx}{c:Fc}{a b e:Expr}{pos:Pos}
def qV (i:Nat) (f:M D):M D:=λρ=>match zJ i ρ with
 |none => .bad
 |some _=>(bnd f λd ρ=>match zJ i ρ with
  |some ds=>if imm d&&qQ (ds.length+1)then .ok (.non,ρ.set i (some (.lst (ds++[d]))))else .bad
  |none => .bad) ρ
theorem uQ {i:Nat} {x:Str} {p1 apos:Pos} {f:M D} (he:DE X c e f) (ho:i∈c.O:=by exact of_decide_eq_true rfl) (hN:X.N[i]? = some x:=by rfl) (hv:Vis X.env.scope x:=by first|exact ybj rfl|exact yaR (ybj rfl)|exact yaR (yaR rfl)) (hd:(x==("__debug__":Str))=false:=by decide) (hcd:(x==("__classdict__":Str))=false:=by decide)
  (hbase:yeU (.Name x p1) "append" X.env (eval (.Name x p1) X.env)=eval (.Name x p1) X.env:=by rfl)
  (hfew:((yaQ pos (yae [e] X.env)).all (λx => !x.1)&&(backToKw pos (yfz [] X.env)).all (λx=>x.1.isSome)
   && decide ([e].length+([]:List ydO).length+(if([]:List ydO).isEmpty then 0 else 1)<30))=true:=by rfl)
  (hline:(apos.endLine==pos.line)=true:=by rfl) (hs:yae [e] X.env=(false,eval e X.env)::yae [] X.env:=by rfl) (hplain:(yaQ pos (yae [] X.env)).any (·.1)=false:=by rfl) :
  DE X c (.Call (.Attribute (.Name x p1) "append" apos) [e] [] pos) (qV i f):=by
 obtain⟨t,p,w⟩:=he
 refine⟨_,qk0 yd6 PySem.F.slot_list_append PySem.F.type_list_append qal (vp hN hv hd hcd) (yj p wQ hs) hbase hfew hline hs hplain,λρ σ H Q r h=>?_⟩
 unfold qV at h
 cases e0:zJ i ρ with
 |none=>rw[e0]at h;exact h.elim
 | some ds0=>
  simp only[e0]at h
  obtain⟨l,xs0,_,hl,hH,_⟩:=r.getLO ho e0
  refine⟨.ref l,hl,.inl ⟨rfl,xs0,.inl (.inl hH)⟩,w ρ σ H _ r (Wp.bnd h λd ρ1 v H1 r1 i1 g1 h1=>?_)⟩
  cases e1:zJ i ρ1 with
  |none=>simp only[e1]at h1;exact h1.elim
  | some ds=>
   simp only[e1]at h1
   by_cases hb:(imm d&&qQ (ds.length+1))=true
   ·rw [if_pos hb]at h1
    rw[yal]at hb
    obtain⟨l',xs,him,hl',hH',il⟩:=r1.getLO ho e1
    rw[hl]at hl'
    cases hl'
    have hsz:ds.length+1<=yam:=of_decide_eq_true hb.2
    have ext:Ext (Cn c σ) H1 (upd H1 l (.lst (xs++[v]))):=⟨λb us hb=>yf (wX hb hH' (by intro z;cases z)) hb,λb o u hb=>yf (wX hb hH' (by intro z;cases z)) hb,λb o hb hq=>yf (λe=>hb.2 i ho (by rw[hl,e])) hq⟩
    obtain ⟨r2,g2⟩:=r1.io (H':=upd H1 l (.lst (xs++[v]))) (bs:=ds++[d]) ho hl (λb o hb ho=>yf hb ho) qx trivial
     (IsL.append (IsL.ext ext (λ_ h _=>h) il) (IsL.one (Is.ext ext (λ_ h _=>h) i1))) (λb hb=>qfG hb)
    exact⟨l,xs,v,rfl,rfl,hH',by rw[il.length];omega,h1 _ _ r2 rfl g2⟩
   ·rw[if_neg hb]at h1;exact h1.elim
def qhg (i:Nat) (k f:M D):MS:=sbnd f λd ρ=>match zJ i ρ with
 |none => .bad
 | some _=>(sbnd k λj ρ=>match j,zJ i ρ with
  |.int n,some ds=>match ixN ds.length n with
   |some q=>if imm d then .ok (.nx (ρ.set i (some (.lst (ds.set q d)))))else .bad
   |none => .bad
  |_,_ => .bad) ρ
theorem qjj {i:Nat} {x:Str} {p1 p2:Pos} {ke:Expr} {f k:M D} (he:DE X c e f) (hk:DE X c ke k) (ho:i∈c.O:=by exact of_decide_eq_true rfl) (hN:X.N[i]? = some x:=by rfl) (hv:Vis X.env.scope x:=by first|exact ybj rfl|exact yaR (ybj rfl)|exact yaR (yaR rfl)) (hd:(x==("__debug__":Str))=false:=by decide) (hcd:(x==("__classdict__":Str))=false:=by decide)
  (ha:∀v,ych (.Subscript (.Name x p1) ke p2) X.env v=(do
   let ov <-ydg [v] (eval (.Name x p1) X.env)
   let iv <-ydg [v,ov] (eval ke X.env)
   standAt p2
   ydg [v,ov,iv] (setItem ov iv v)
   release [v,ov,iv] []):=by intro _;rfl)
  (hs:ycN [.Subscript (.Name x p1) ke p2] e pos.line X.env=pure false:=by rfl) (hw:ycO [.Subscript (.Name x p1) ke p2] e X.env=pure none:=by rfl) (h1:(ybs [.Subscript (.Name x p1) ke p2] X.env).map (·.2)=[ych (.Subscript (.Name x p1) ke p2) X.env]:=by rfl) :
  DS X c (.Assign [.Subscript (.Name x p1) ke p2] e pos) (qhg i k f):=by
 obtain⟨t,p,w⟩:=he
 obtain⟨tk,pk,wk⟩:=hk
 refine⟨_,qhT p (qkH (vp hN hv hd hcd) pk qg5 ha) hs hw h1,λρ σ H D r h=>w ρ σ H _ r (Wp.sbnd h λd ρ1 v H1 r1 i1 g1 h1=>?_)⟩
 cases e0:zJ i ρ1 with
 |none=>simp only[e0]at h1;exact h1.elim
 | some ds0=>
  simp only[e0]at h1
  obtain⟨l,xs0,_,hl,hH,_⟩:=r1.getLO ho e0
  refine⟨.ref l,hl,wk ρ1 σ H1 _ r1 (Wp.sbnd h1 λj ρ2 u H2 r2 i2 g2 h2=>?_)⟩
  cases j with
  | int n=>
   cases e1:zJ i ρ2 with
   |none=>simp only[e1]at h2;exact h2.elim
   | some ds=>
    simp only[e1]at h2
    cases e2:ixN ds.length n with
    |none=>simp only[e2]at h2;exact h2.elim
    | some q=>
     simp only[e2]at h2
     by_cases hb:imm d=true
     ·rw [if_pos hb]at h2
      obtain⟨l',xs,him,hl',hH',il⟩:=r2.getLO ho e1
      rw[hl]at hl'
      cases hl'
      cases i2
      have i3:=g2.is i1
      have ext:Ext (Cn c σ) H2 (upd H2 l (.lst (xs.set q v))):=⟨λb us hb=>yf (wX hb hH' (by intro z;cases z)) hb,λb o u hb=>yf (wX hb hH' (by intro z;cases z)) hb,λb o hb hq=>yf (λe=>hb.2 i ho (by rw[hl,e])) hq⟩
      obtain ⟨r3,g3⟩:=r2.io (H':=upd H2 l (.lst (xs.set q v))) (bs:=ds.set q d) ho hl (λb o hb ho=>yf hb ho) qx trivial
       (IsL.set (Is.ext ext (λ_ h _=>h) i3) q (IsL.ext ext (λ_ h _=>h) il)) (λb hb=>qfG hb)
      exact⟨l,xs,n,q,rfl,rfl,hH',by rw[il.length];exact e2,h2 σ _ r3 g3.s⟩
     ·rw[if_neg hb]at h2;exact h2.elim
  |_=>exact h2.elim
structure qhh (K:Fr0) (c:Fc) (ρ:Env) (σ:St) (H:Hp) (a:Addr):Prop where
 val:∀i d v,ρ[i]? = some (some d)->i ∉ c.O->σ[i]? = some (some v)->Is K (λb=>Cn c σ b/\b≠a) H d v
 cont:∀i ds b xs,ρ[i]? = some (some (.lst ds))->i∈c.O->σ[i]? = some (some (.ref b))->H b=some (.lst xs)->IsL K (Cn c σ) H ds xs->IsL K (λb=>Cn c σ b/\b≠a) H ds xs
 own:∀j∈c.O,σ[j]? ≠ some (some (.ref a))
 new:c.H0 a=none
theorem Is.fresh{K:Fr0}{A:Addr->Prop}{H:Hp}{d:D}{v:V}{a:Addr}(h:Is K A H d v)(hn:H a=none):Is K (λb=>A b/\b≠a) H d v:=Is.ext Ext.refl (λb h1 h2=>⟨h1,λe=>by rw[e,hn]at h2;cases h2⟩) h
theorem Rep.apart {K:Fr0} {ρ:Env} {σ:St} {H:Hp} {a:Addr} {o:HO} (r:Rep K c ρ σ H) (hn:H a=none):qhh K c ρ σ (upd H a o) a where
 val:=λi d v h1 h2 h3=>by
  obtain⟨w,h4,h5⟩:=r.get h2 h1
  rw[h3]at h4
  cases h4
  exact Is.ext (Ext.of_same (qu hn _)) (λ_ h _=>h) (h5.fresh hn)
 cont:=λi ds b xs h1 h2 h3 h4 _=>by
  obtain⟨ds',a',ys,e1,e2,e3,e4⟩:=r.getO h2 h1
  cases e1
  rw[h3]at e2
  cases e2
  have:=qu hn o _ _ e3
  rw[h4]at this
  cases this
  exact IsL.ext (Ext.of_same (qu hn _)) (λb hb hs=>⟨hb,λe=>by rw[e,hn]at hs;cases hs⟩) e4
 own:=λj hj e=>(r.new hn).2 j hj e
 new:=r.dm a hn
theorem Rep.apart_same {K:Fr0} {ρ:Env} {σ:St} {H H':Hp} {a:Addr} (r:Rep K c ρ σ H) (hn:H a=none) (sm:jG H H'):qhh K c ρ σ H' a where
 val:=λi d v h1 h2 h3=>by
  obtain⟨w,h4,h5⟩:=r.get h2 h1
  rw[h3]at h4
  cases h4
  exact Is.ext (Ext.of_same sm) (λ_ h _=>h) (h5.fresh hn)
 cont:=λi ds b xs h1 h2 h3 h4 _=>by
  obtain⟨ds',a',ys,e1,e2,e3,e4⟩:=r.getO h2 h1
  cases e1
  rw[h3]at e2
  cases e2
  have:=sm _ _ e3
  rw[h4]at this
  cases this
  exact IsL.ext (Ext.of_same sm) (λb hb hs=>⟨hb,λe=>by rw[e,hn]at hs;cases hs⟩) e4
 own:=λj hj e=>(r.new hn).2 j hj e
 new:=r.dm a hn
def WpN (K:Fr0) (c:Fc) (σ:St) (H:Hp) (Q:VK):R (List D×Env)->Prop
 |.ok (ds,ρ)=>∀a xs H',H a=none->Rep K c ρ σ H'->qhh K c ρ σ H' a->H' a=some (.lst xs)->True->IsL K (λb=>Cn c σ b/\b≠a) H' ds xs->Gr c.O σ H H'->Q (.ref a) H'
 |.exc x ρ=>∀H',Rep K c ρ σ H'->Gr c.O σ H H'->c.E x H'
 |.bad=>False
def DN(X:Cx)(c:Fc)(e:Expr)(f:M (List D)):Prop:=∃t,PE X e t/\∀ρ σ H Q,Rep X.K c ρ σ H->WpN X.K c σ H Q (f ρ)->t σ H Q
theorem WpN.gr {K:Fr0} {σ:St} {H H1:Hp} {Q:VK}:∀{r:R (List D×Env)},WpN K c σ H Q r->Gr c.O σ H H1->WpN K c σ H1 Q r
 |.ok (d,ρ),h,g=>λa xs H' hn h1 h2 h3 h4 h5 hg=>h a xs H' (g.dom a hn) h1 h2 h3 h4 h5 (g.trans hg)
 |.exc x ρ,h,g=>λH' hr hg=>h H' hr (g.trans hg)
 |.bad,h,_=>h
theorem WpL.bndN {K:Fr0} {σ:St} {H:Hp} {Q:VK} {f:M (List D)} {k:List D->M (List D)} {ρ:Env} {Q':List V->Hp->Prop} (h:WpN K c σ H Q (Sk.bnd f k ρ)) (hQ:∀d ρ' v H',Rep K c ρ' σ H'->IsL K (Cn c σ) H' d v->Gr c.O σ H H'->WpN K c σ H' Q (k d ρ')->Q' v H'):WpL K c σ H Q' (f ρ):=by
 unfold Sk.bnd at h
 cases e:f ρ with
 |ok p=>rw[e]at h;exact λv H' hr hi hg=>hQ p.1 p.2 v H' hr hi hg (h.gr hg)
 |exc x ρ'=>rw[e]at h;exact h
 |bad=>rw[e]at h;exact h
def qll(f:M (List D)):M (List D):=bnd f λds=>lift (if immL ds&&qQ ds.length then some ds else none)
theorem qh6 {es:List Expr} {f:M (List D)} (h:DA X c es f):DN X c (.List es pos) (qll f):=by
 obtain⟨t,p,w⟩:=h
 refine⟨_,qfl p,λρ σ H Q r h=>w ρ σ H _ r (WpL.bndN h λds ρ1 vs H1 r1 i1 g1 h1=>?_)⟩
 by_cases hb:(immL ds&&qQ ds.length)=true
 ·rw[if_pos hb]at h1
  rw[yal]at hb
  refine⟨by rw[i1.length];exact of_decide_eq_true hb.2,λp hp=>?_⟩
  exact h1 p vs _ hp (r1.laid hp _) (r1.apart hp) qx trivial (IsL.ext (Ext.of_same (qu hp _)) (λb h hs=>⟨h,λe=>by rw[e,hp]at hs;cases hs⟩) i1) (.of_same (qu hp _))
 ·rw[if_neg hb]at h1;exact h1.elim
theorem Cl.setO {O:List Nat} {σ:St} {i:Nat} {a b:Addr} (h:Cl O σ b) (hb:b≠a):Cl O (σ.set i (some (.ref a))) b:=λj hj e=>by
 by_cases hji:j=i
 ·subst hji
  have hl:j<σ.length:=by
   have:=(gI_.mp e).1
   rwa [lS_]at this
  rw[List.getElem?_set_self hl]at e
  cases e
  exact hb rfl
 ·rw[zE hji]at e
  exact h j hj e
theorem Rep.setO {K:Fr0} {ρ:Env} {σ:St} {H:Hp} {i:Nat} {a:Addr} {ds:List D} {xs:List V} (r:Rep K c ρ σ H) (hi:i∈c.O) (hP:i ∉ c.P) (ap:qhh K c ρ σ H a) (ha:H a=some (.lst xs)) (him:True) (il:IsL K (λb=>Cn c σ b/\b≠a) H ds xs) :
  Rep K c (ρ.set i (some (.lst ds))) (σ.set i (some (.ref a))) H where
 len:=by rw[lS_,lS_];exact r.len
 val := λj e hj=>by
  by_cases e1:j=i
  ·subst e1
   have hl:j<ρ.length:=by
    have:=(gI_.mp hj).1
    rwa [lS_]at this
   rw[List.getElem?_set_self hl]at hj
   cases hj
   exact⟨.ref a,List.getElem?_set_self (by rw[<-r.len];exact hl),.inl ⟨hi,ds,a,xs,rfl,rfl,ha,IsL.ext Ext.refl (λb hb _=>⟨hb.1.1,hb.1.2.setO hb.2⟩) il⟩⟩
  ·rw [zE e1]at hj
   obtain⟨w,h1,h2⟩:=r.val j e hj
   refine⟨w,by rw[zE e1];exact h1,?_⟩
   rcases h2 with⟨g1,ds',b',xs',g3,g5,g6,g7⟩|⟨h3,h4⟩
   ·subst g3 g5
    exact .inl ⟨g1,ds',b',xs',rfl,rfl,g6,IsL.ext Ext.refl (λb hb _=>⟨hb.1.1,hb.1.2.setO hb.2⟩) (ap.cont j ds' b' xs' hj g1 h1 g6 g7)⟩
   ·exact .inr ⟨h3,Is.ext Ext.refl (λb hb _=>⟨hb.1.1,hb.1.2.setO hb.2⟩) (ap.val j e w hj h3 h1)⟩
 own := λj hj w h=>by
  by_cases e1:j=i
  ·subst e1
   have hl:j<σ.length:=by
    have:=(gI_.mp h).1
    rwa [lS_]at this
   rw[List.getElem?_set_self hl]at h
   cases h
   exact⟨a,xs,rfl,ha,.inl ap.new⟩
  ·rw[zE e1]at h
   exact r.own j hj w h
 inj := λj k b hj hk h1 h2=>by
  by_cases e1:j=i
  ·by_cases e2:k=i
   ·rw[e1,e2]
   ·subst e1
    have hl:j<σ.length:=by
     have:=(gI_.mp h1).1
     rwa [lS_]at this
    rw[List.getElem?_set_self hl]at h1
    cases h1
    rw[zE e2]at h2
    exact absurd h2 (ap.own k hk)
  ·by_cases e2:k=i
   ·subst e2
    have hl:k<σ.length:=by
     have:=(gI_.mp h2).1
     rwa [lS_]at this
    rw[List.getElem?_set_self hl]at h2
    cases h2
    rw[zE e1]at h1
    exact absurd h1 (ap.own j hj)
   ·rw[zE e1]at h1
    rw[zE e2]at h2
    exact r.inj j k b hj hk h1 h2
 b0:=r.b0
 kp:=r.kp
 dm:=r.dm
 pO:=r.pO
 ps:=λj hj=>by
  have e:j≠i:=λe=>hP (e▸hj)
  rw[zE e];exact r.ps j hj
def yK(i:Nat)(f:M (List D)):MS:=sbnd f λds ρ => .ok (.nx (ρ.set i (some (.lst ds))))
theorem wy {i:Nat} {x:Str} {pos':Pos} {f:M (List D)} (hN:X.N.Nodup) (he:DN X c e f) (ho:i∈c.O:=by exact of_decide_eq_true rfl) (hP:i ∉ c.P:=by exact of_decide_eq_false rfl) (hi:X.N[i]? = some x:=by rfl) (hx:Loc X.env.scope x:=by first|exact ybj rfl|exact yaR rfl) (hs:ycY e (some (.Name x pos')) pos.line X.env=pure false:=by rfl) (hf:X.fn x=true\/X.env.scope.names.lookup x=some .local:=by first|exact .inl rfl|exact .inr rfl|assumption) :
  DS X c (.Assign [.Name x pos'] e pos) (yK i f):=by
 obtain⟨t,p,w⟩:=he
 refine⟨_,qhU hN hi hx p hs hf,λρ σ H D r h=>w ρ σ H _ r ?_⟩
 unfold yK sbnd at h
 cases ef:f ρ with
 |bad=>rw[ef]at h;exact h
 |exc z ρ'=>rw[ef]at h;exact λH' hr hg=>h σ H' hr hg.s
 |ok q=>
  rw[ef]at h
  intro a xs H' hn r' ap ha him il g'
  exact h _ H' (r'.setO ho hP ap ha him il) ⟨g'.ext,λb hb hs=>hb.setO (λe=>by rw[e,hn]at hs;exact absurd hs (by simp)),g'.dom⟩
def qcr (i:Nat):M D:=λρ=>match zJ i ρ with
 |some ds => .ok (.int ds.length,ρ)
 |none => .bad
theorem qjk {i:Nat} {x:Str} {p p1:Pos} (hg:Gl X "len") (hm:X.mg "len"=none) (ho:i∈c.O:=by exact of_decide_eq_true rfl) (hN:X.N[i]? = some x:=by rfl) (hv:Vis X.env.scope x:=by first|exact ybj rfl|exact yaR (ybj rfl)|exact yaR (yaR rfl)) (hd:(x==("__debug__":Str))=false:=by decide) (hcd:(x==("__classdict__":Str))=false:=by decide) :
  DE X c (.Call (.Name "len" p) [.Name x p1] [] pos) (qcr i):=by
 refine⟨_,vM zh hg hm PySem.boot_len (yj (vp hN hv hd hcd) wQ),λρ σ H Q r h=>?_⟩
 unfold qcr at h
 cases e0:zJ i ρ with
 |none=>simp only[e0]at h;exact h.elim
 |some ds=>
  simp only[e0]at h
  obtain⟨l,xs,him,hl,hH,il⟩:=r.getLO ho e0
  exact⟨.ref l,hl,.inl ⟨l,xs,rfl,.inl (.inl (.inl hH)),by rw[il.length];exact h _ H r rfl .refl⟩⟩
def qeD (i:Nat):M D:=λρ=>match zJ i ρ with
 |some ds => .ok (.tup ds,ρ)
 |none => .bad
theorem qfH {i:Nat} {x:Str} {p p1:Pos} (hg:Gl X "tuple") (hm:X.mg "tuple"=none) (hb:yaz "tuple"=some (.type "tuple"):=by first|rfl|exact PySem.boot_tuple) (ho:i∈c.O:=by exact of_decide_eq_true rfl) (hN:X.N[i]? = some x:=by rfl) (hv:Vis X.env.scope x:=by first|exact ybj rfl|exact yaR (ybj rfl)|exact yaR (yaR rfl)) (hd:(x==("__debug__":Str))=false:=by decide) (hcd:(x==("__classdict__":Str))=false:=by decide) :
  DE X c (.Call (.Name "tuple" p) [.Name x p1] [] pos) (qeD i):=by
 refine⟨_,qcf jH hg hm hb (yj (vp hN hv hd hcd) wQ),λρ σ H Q r h=>?_⟩
 unfold qeD at h
 cases e0:zJ i ρ with
 |none=>simp only[e0]at h;exact h.elim
 |some ds=>
  simp only[e0]at h
  obtain⟨l,xs,him,hl,hH,il⟩:=r.getLO ho e0
  refine⟨.ref l,hl,l,xs,rfl,.inl ⟨.inl (.inl hH),λp hp=>h _ _ (r.laid hp _) ⟨p,xs,rfl,.inl qx,?_⟩ (.of_same (qu hp _))⟩⟩
  exact IsL.ext (Ext.of_same (qu hp _)) (λ_ h _=>h) il
def qa6 (i:Nat) (g:M D):M D:=λρ=>match zJ i ρ with
 |none => .bad
 | some _=>(bnd g λk ρ=>match k,zJ i ρ with
  |.int n,some ds=>match atI ds n with
   |some d => .ok (d,ρ)
   |none => .bad
  |_,_ => .bad) ρ
theorem qdP {i:Nat} {x:Str} {p1:Pos} {g:M D} (hb:DE X c b g) (hs:qc2 b:=by intro _ _;rfl) (ho:i∈c.O:=by exact of_decide_eq_true rfl) (hN:X.N[i]? = some x:=by rfl) (hv:Vis X.env.scope x:=by first|exact ybj rfl|exact yaR (ybj rfl)|exact yaR (yaR rfl)) (hd:(x==("__debug__":Str))=false:=by decide) (hcd:(x==("__classdict__":Str))=false:=by decide) :
  DE X c (.Subscript (.Name x p1) b pos) (qa6 i g):=by
 obtain⟨tb,pb,wb⟩:=hb
 refine⟨_,qkX qfr (vp hN hv hd hcd) pb hs,λρ σ H Q r h=>?_⟩
 unfold qa6 at h
 cases e0:zJ i ρ with
 |none=>simp only[e0]at h;exact h.elim
 | some ds0=>
  simp only[e0]at h
  obtain⟨l,xs0,_,hl,hH,_⟩:=r.getLO ho e0
  refine⟨.ref l,hl,wb ρ σ H _ r (Wp.bnd h λk ρ1 v H1 r1 i1 g1 h1=>?_)⟩
  cases k with
  | int n=>
   cases e1:zJ i ρ1 with
   |none=>simp only[e1]at h1;exact h1.elim
   | some ds=>
    simp only[e1]at h1
    cases e2:atI ds n with
    |none=>simp only[e2]at h1;exact h1.elim
    |some d=>
     simp only[e2]at h1
     obtain⟨l',xs,him,hl',hH',il⟩:=r1.getLO ho e1
     rw[hl]at hl'
     cases hl'
     cases i1
     obtain⟨w,h3,h4⟩:=il.atI e2
     exact⟨l,xs,n,w,rfl,rfl,.inl (.inl hH'),h3,h1 w H1 r1 h4 .refl⟩
  |_=>exact h1.elim
def qjl (i:Nat):MS:=λρ=>match zJ i ρ with
 |some ds => .ok (.rt (.lst ds) ρ)
 |none => .bad
theorem qjm {i:Nat} {x:Str} {p1:Pos} (ho:i∈c.O:=by exact of_decide_eq_true rfl) (hP:i ∉ c.P:=by exact of_decide_eq_false rfl) (hN:X.N[i]? = some x:=by rfl) (hv:Vis X.env.scope x:=by first|exact ybj rfl|exact yaR (ybj rfl)|exact yaR (yaR rfl)) (hd:(x==("__debug__":Str))=false:=by decide) (hcd:(x==("__classdict__":Str))=false:=by decide) :
  DS X c (.Return (some (.Name x p1)) pos) (qjl i):=by
 refine⟨_,qe9 (vp hN hv hd hcd),λρ σ H D r h=>?_⟩
 unfold qjl at h
 cases e0:zJ i ρ with
 |none=>simp only[e0]at h;exact h.elim
 | some ds=>
  simp only[e0]at h
  obtain⟨l,xs,him,hl,hH,il⟩:=r.getLO ho e0
  obtain⟨a,ys,e1,e2,e3⟩:=r.own i ho _ hl
  cases e1
  have hB:c.B l:=by
   rcases e3 with z|z
   ·exact r.b0.1 l z
   ·exact absurd z.1 hP
  exact⟨.ref l,hl,h (.ref l) σ H r ⟨l,xs,rfl,hB,hH,IsL.ext Ext.refl (λ_ h _=>h.1) il⟩ .refl⟩
end
def cfn (O P:List Nat) (A:Addr->Prop) (H:Hp) (Io:Addr->Prop) (E:Exn->Hp->Prop) (S:Nat->Option (Option V)):Fc where
 O:=O
 P:=P
 B:=λa=>A a\/H a=none
 H0:=H
 Io:=Io
 E:=E
 S:=S
def ym(n:Nat)(ds:List D):Env:=ds.map some++yap (n-ds.length) none
def spD (K:Fr0) (F:List D->R D):Sp:=λvs H Q _=>∃ds A,IsL K A H ds vs/\qcl K H/\match F ds with
 |.ok d=>∀v H',jG H H'->Is K (λa=>A a\/H a=none) H' d v->Q v H'
 |_=>False
def qdQ (K:Fr0) (F:List D->List D->R (D×List D)):Sp:=λvs H Q _=>∃(bs ds:List D)(A:Addr->Prop)(a:Addr)(xs vs':List V),vs=.ref a::vs'/\H a=some (.lst xs)/\qcl K H/\IsL K A H bs xs/\¬A a/\IsL K A H ds vs'/\match F bs ds with
 |.ok (d,bs')=>∀v H' xs',(∀b o,b≠a->H b=some o->H' b=some o)->(∀b,H' b=none->H b=none)->H' a=some (.lst xs')->True->IsL K (λb=>A b\/H b=none) H' bs' xs'->Is K (λb=>A b\/H b=none) H' d v->Q v H'
 |_=>False
def dfn (n p:Nat) (body:MS) (ds:List D):R D:=if ds.length=p then match body (ym n ds) with
 |.ok (.rt d _) => .ok d
 |.ok (.nx _) => .ok .non
 |_ => .bad else .bad
def vF (n p:Nat) (body:MS) (bs ds:List D):R (D×List D):=if ds.length+1=p then match body (ym n (.lst bs::ds)) with
 |.ok (.rt d ρ)=>match zJ 0 ρ with
  |some bs' => .ok (d,bs')
  |none => .bad
 |.ok (.nx ρ)=>match zJ 0 ρ with
  |some bs' => .ok (.non,bs')
  |none => .bad
 |_ => .bad else .bad
theorem vR {N:List Str} {vs:List V} {i:Nat} {v:V} (h:(z7 N vs)[i]? = some (some v)):vs[i]? = some v:=by
 unfold z7 at h
 by_cases hi:i<vs.length
 ·rw[List.getElem?_append_left (by simpa using hi),gM_]at h
  cases e:vs[i]? with
  |none=>rw[e]at h;cases h
  |some w=>rw[e]at h;cases h;rfl
 ·rw[List.getElem?_append_right (by simpa using hi),List.getElem?_replicate]at h
  split at h<;>cases h
theorem w8 {N:List Str} {vs:List V} {i:Nat} {v:V} (h:vs[i]? = some v):(z7 N vs)[i]? = some (some v):=by
 unfold z7
 have hi:i<vs.length:=(gI_.mp h).1
 rw[List.getElem?_append_left (by simpa using hi),gM_,h];rfl
theorem qcs {n:Nat} {ds:List D} {i:Nat} {d:D} (h:(ym n ds)[i]? = some (some d)):ds[i]? = some d:=by
 unfold ym at h
 by_cases hi:i<ds.length
 ·rw[List.getElem?_append_left (by simpa using hi),gM_]at h
  cases e:ds[i]? with
  |none=>rw[e]at h;cases h
  |some w=>rw[e]at h;cases h;rfl
 ·rw[List.getElem?_append_right (by simpa using hi),List.getElem?_replicate]at h
  split at h<;>cases h
theorem qat {K:Fr0} {N:List Str} {O:List Nat} {A:Addr->Prop} {H:Hp} {E:Exn->Hp->Prop} {ds:List D} {vs:List V} (il:IsL K A H ds vs) (tb:qcl K H) (hO:∀i∈O,ds.length<=i) :
  Rep K (cfn O [] A H (λ_=>False) E λ_=>none) (ym N.length ds) (z7 N vs) H where
 len:=by unfold ym z7;simp[il.length]
 val:=λi d h=>by
  have h1:=qcs h
  obtain⟨v,h2,h3⟩:=il.get h1
  have hi:i ∉ O:=λz=>by
   have:=(gI_.mp h1).1
   have:=hO i z
   omega
  refine⟨v,w8 h2,.inr ⟨hi,Is.ext Ext.refl (λa ha _=>⟨.inl ha,λj hj e=>?_⟩) h3⟩⟩
  have:=(gI_.mp (vR e)).1
  have:=hO j hj
  rw[il.length]at *
  omega
 own:=λj hj v h=>by
  have:=(gI_.mp (vR h)).1
  have:=hO j hj
  rw[il.length]at *
  omega
 inj:=λi j a hi hj h1 h2=>by
  have:=(gI_.mp (vR h1)).1
  have:=hO i hi
  rw[il.length]at *
  omega
 b0:=⟨λa h => .inr h,tb⟩
 kp:=λb o h _=>h
 dm:=λb h=>h
 pO:=λj hj=>by cases hj
 ps:=λj hj=>by cases hj
section
variable{P:yao}{w:World}{K:yai}{mg:Str->Option Value}{base:Heap}
theorem zF {x qual:Str} {st:Stmt} {f:Addr} {fd:yaM} {N ps:List Str} {k:Nat} {O:List Nat} {body:MS} (F:Fun K x qual st f fd) (S:qE N ps (qf st)) (hO:∀i∈O,ps.length<=i)
  (hb:∀(cdv:Value)(A:yau)(outer:List yaN)(s:yab)(H:Hp)(E:XK)(B:Addr->Prop),uH k (A.deeper (ybf qual (qf st) s.heap.objs.size f cdv)) ->
   DSs (qgS CX0 P w K mg base N qual (qf st) f cdv A outer s H E).nox (cfn O [] B H (λ_=>False) (λ_ _=>False) λ_=>none) (qB st) body) :
  vi P w K mg base CX0 (k+1) f fd ps (spD K (dfn N.length ps.length body)):=by
 refine F.ok S (λvs H Q E h=>?_) (λcdv A outer s H vs Q E hr h=>?_)
 ·obtain⟨ds,B,il,_,h⟩:=h
  unfold dfn at h
  by_cases e:ds.length=ps.length
  ·rw[il.length];exact e
  ·rw[if_neg e]at h;exact h.elim
 ·obtain ⟨ds,B,il,tb,h⟩:=h
  obtain⟨t,p,wt⟩:=hb cdv A outer s H E B hr
  refine⟨t,p,?_⟩
  unfold dfn at h
  by_cases e:ds.length=ps.length
  ·rw [if_pos e]at h
   refine wt (ym N.length ds) (z7 N vs) H _ (qat il tb (λi hi=>by rw[e];exact hO i hi)) ?_
   have same:∀{ρ:Env}{σ:St}{H':Hp},Rep K (cfn O [] B H (λ_=>False) (λ_ _=>False) λ_=>none) ρ σ H'->jG H H':=λr b o hb=>r.kp b o hb λz=>z
   cases eb:body (ym N.length ds) with
   |bad=>rw[eb]at h;exact h.elim
   |exc z ρ=>rw[eb]at h;exact h.elim
   |ok fl=>
    rw[eb]at h
    cases fl with
    |nx ρ=>exact λσ' H' r' _=>h .non H' (same r') rfl
    |rt d ρ=>exact λv σ' H' r' i' _=>h v H' (same r') i'
    |bk ρ=>exact h.elim
    |ct ρ=>exact h.elim
  ·rw[if_neg e]at h;exact h.elim
theorem qfI {x qual:Str} {st:Stmt} {f:Addr} {fd:yaM} {N ps:List Str} {k:Nat} {O:List Nat} {body:MS} (F:Fun K x qual st f fd) (S:qE N ps (qf st)) (hO:∀i∈O,i=0\/ps.length<=i) (h0:0∈O)
  (hb:∀(cdv:Value)(A:yau)(outer:List yaN)(s:yab)(H:Hp)(E:XK)(B Io:Addr->Prop)(S:Nat->Option (Option V)),uH k (A.deeper (ybf qual (qf st) s.heap.objs.size f cdv)) ->
   DSs (qgS CX0 P w K mg base N qual (qf st) f cdv A outer s H E).nox (cfn O [0] B H Io (λ_ _=>False) S) (qB st) body) :
  vi P w K mg base CX0 (k+1) f fd ps (qdQ K (vF N.length ps.length body)):=by
 refine F.ok S (λvs H Q E h=>?_) (λcdv A outer s H vs Q E hr h=>?_)
 ·obtain⟨bs,ds,B,a,xs,vs',rfl,ha,him,ib,nA,il,h⟩:=h
  unfold vF at h
  by_cases e:ds.length+1=ps.length
  ·rw[lC_,il.length];exact e
  ·rw[if_neg e]at h;exact h.elim
 ·obtain ⟨bs,ds,B,a,xs,vs',rfl,ha,him,ib,nA,il,h⟩:=h
  obtain⟨t,p,wt⟩:=hb cdv A outer s H E B (λb=>b=a) (λj=>(z7 N (.ref a::vs'))[j]?) hr
  refine⟨t,p,?_⟩
  unfold vF at h
  by_cases e:ds.length+1=ps.length
  ·rw [if_pos e]at h
   have only:∀j∈O,∀v,(z7 N (.ref a::vs'))[j]? = some (some v)->j=0/\v=.ref a:=λj hj v hv=>by
    have h1:=vR hv
    rcases hO j hj with z|z
    ·subst z;cases h1;exact⟨rfl,rfl⟩
    ·have:=(gI_.mp h1).1
     rw[lC_,il.length]at this
     omega
   have r0:Rep K (cfn O [0] B H (λb=>b=a) (λ_ _=>False) λj=>(z7 N (.ref a::vs'))[j]?) (ym N.length (.lst bs::ds)) (z7 N (.ref a::vs')) H:=by
    refine⟨by unfold ym z7;simp[il.length],λi d hd=>?_,λj hj v hv=>?_,λi j b hi hj h1 h2=>?_,⟨λb hb => .inr hb,λq P pos eP=>⟨(him q P pos eP).1,λz=>by have:=(him q P pos eP).1;rw[z,ha]at this;cases this⟩⟩,λb o hb _=>hb,λb hb=>hb,λj hj=>?_,λ_ _=>rfl⟩
    ·have h1:=qcs hd
     cases i with
     |zero=>
      cases h1
      exact⟨.ref a,w8 rfl,.inl ⟨h0,bs,a,xs,rfl,rfl,ha,IsL.ext Ext.refl (λb hb _=>⟨.inl hb,λj hj e2=>by obtain⟨_,e3⟩:=only j hj _ e2;cases e3;exact nA hb⟩) ib⟩⟩
     | succ i=>
      have h1':ds[i]? = some d:=by simpa using h1
      obtain⟨v,h2,h3⟩:=il.get h1'
      have hi:i+1 ∉ O:=λz=>by
       have h4:=(gI_.mp h1').1
       rcases hO _ z with q|q
       ·cases q
       ·omega
      refine⟨v,w8 (by simpa using h2),.inr ⟨hi,Is.ext Ext.refl (λb hb _=>⟨.inl hb,λj hj e2=>?_⟩) h3⟩⟩
      obtain⟨_,e3⟩:=only j hj _ e2
      cases e3
      exact nA hb
    ·obtain⟨rfl,rfl⟩:=only j hj v hv
     exact⟨a,xs,rfl,ha,.inr ⟨by simp[cfn],rfl⟩⟩
    ·rw[(only i hi _ h1).1,(only j hj _ h2).1]
    ·have:j=0:=by simpa [cfn] using hj
     rw[this];exact h0
   refine wt _ _ H _ r0 ?_
   have fin:∀{ρ:Env}{σ:St}{H':Hp}{bs':List D},Rep K (cfn O [0] B H (λb=>b=a) (λ_ _=>False) λj=>(z7 N (.ref a::vs'))[j]?) ρ σ H'->zJ 0 ρ=some bs' ->
     ∃xs',H' a=some (.lst xs')/\True/\IsL K (λb=>B b\/H b=none) H' bs' xs':=λ{ρ σ H' bs'} r e1=>by
    obtain⟨l,ys,h1,h2,h3,h4⟩:=r.getLO h0 e1
    have h5:=r.ps 0 (by simp[cfn])
    have h6:(cfn O [0] B H (λb=>b=a) (λ_ _=>False) λj=>(z7 N (.ref a::vs'))[j]?).S 0=some (some (.ref a)):=w8 rfl
    rw[h2,h6]at h5
    cases h5
    exact⟨ys,h3,h1,IsL.ext Ext.refl (λb hb _=>hb.1) h4⟩
   have kps:∀{ρ:Env}{σ:St}{H':Hp},Rep K (cfn O [0] B H (λb=>b=a) (λ_ _=>False) λj=>(z7 N (.ref a::vs'))[j]?) ρ σ H'->∀b o,b≠a->H b=some o->H' b=some o:=λr b o hb ho=>r.kp b o ho hb
   cases eb:body (ym N.length (.lst bs::ds)) with
   |bad=>rw[eb]at h;exact h.elim
   |exc z ρ=>rw[eb]at h;exact h.elim
   | ok fl=>
    rw[eb]at h
    cases fl with
    | nx ρ=>
     cases eg:zJ 0 ρ with
     |none=>simp only[eg]at h
     | some bs'=>
      simp only[eg]at h
      exact λσ' H' r' _=>by
       obtain⟨xs',h1,h2,h3⟩:=fin r' eg
       exact h .non H' xs' (kps r') (λb hb=>r'.dm b hb) h1 h2 h3 rfl
    | rt d ρ=>
     cases eg:zJ 0 ρ with
     |none=>simp only[eg]at h
     | some bs'=>
      simp only[eg]at h
      exact λv σ' H' r' i' _=>by
       obtain⟨xs',h1,h2,h3⟩:=fin r' eg
       exact h v H' xs' (kps r') (λb hb=>r'.dm b hb) h1 h2 h3 i'
    |bk ρ=>exact h.elim
    |ct ρ=>exact h.elim
  ·rw[if_neg e]at h;exact h.elim
end
section
variable{X:Cx}{c:Fc}{a b e:Expr}{pos:Pos}
def qq (F:List D->R D) (g:M (List D)):M D:=bnd g λds ρ=>match F ds with
 |.ok d => .ok (d,ρ)
 |_ => .bad
theorem qjn {k:Nat} {f:Addr} {fd:yaM} {ps:List Str} {F:List D->R D} {x:Str} {p:Pos} {es:List Expr} {g:M (List D)} (G:vi X.prog X.w X.K X.mg X.base CX0 k f fd ps (spD X.K F)) (hr:uH k X.A) (hg:Gl X x) (hm:X.mg x=some (.ref f)) (hk:yaj X.K (.ref f)=true) (hb:uM X.K fd ps [])
  (ha:DA X c (e::es) g) (hd:(x==("__debug__":Str))=false:=by decide) (he:yae (e::es) X.env=(false,eval e X.env)::yae es X.env:=by rfl) (hpl:(yaQ pos (yae es X.env)).any (·.1)=false:=by rfl):DE X c (.Call (.Name x p) (e::es) [] pos) (qq F g):=by
 obtain⟨t,pa,w⟩:=ha
 refine⟨_,qag G hr hg hm hk hb .nil qi6 pa hd he hpl,λρ σ H Q r h=>w ρ σ H _ r (WpL.bnd h λds ρ1 vs H1 r1 i1 g1 h1=>?_)⟩
 rw[ybn]
 refine⟨ds,Cn c σ,i1,r1.tb,?_⟩
 cases ef:F ds with
 |bad=>simp only[ef]at h1;exact h1.elim
 |exc z ρ'=>simp only[ef]at h1;exact h1.elim
 |ok d=>
  simp only[ef]at h1
  exact λv H' sm i=>h1 v H' (r1.same sm) (Is.ext Ext.refl (λa ha _=>ha.elim id r1.new) i) (.of_same sm)
def qm (F:List D->List D->R (D×List D)) (i:Nat) (g:M (List D)):M D:=λρ=>match zJ i ρ with
 |none => .bad
 | some _=>(bnd g λds ρ=>match zJ i ρ with
  |none => .bad
  |some bs=>match F bs ds with
   |.ok (d,bs') => .ok (d,ρ.set i (some (.lst bs')))
   |_ => .bad) ρ
theorem qfJ {k i:Nat} {f:Addr} {fd:yaM} {ps:List Str} {F:List D->List D->R (D×List D)} {x y:Str} {p p1:Pos} {es:List Expr} {g:M (List D)} (G:vi X.prog X.w X.K X.mg X.base CX0 k f fd ps (qdQ X.K F)) (hr:uH k X.A) (hg:Gl X x) (hm:X.mg x=some (.ref f)) (hk:yaj X.K (.ref f)=true) (hb:uM X.K fd ps [])
  (ha:DA X c es g) (ho:i∈c.O:=by exact of_decide_eq_true rfl) (hN:X.N[i]? = some y:=by rfl) (hv:Vis X.env.scope y:=by first|exact ybj rfl|exact yaR (ybj rfl)|exact yaR (yaR rfl)) (hdy:(y==("__debug__":Str))=false:=by decide) (hcd:(y==("__classdict__":Str))=false:=by decide)
  (hd:(x==("__debug__":Str))=false:=by decide) (he:yae (.Name y p1::es) X.env=(false,eval (.Name y p1) X.env)::yae es X.env:=by rfl) (hpl:(yaQ pos (yae es X.env)).any (·.1)=false:=by rfl):DE X c (.Call (.Name x p) (.Name y p1::es) [] pos) (qm F i g):=by
 obtain⟨t,pa,w⟩:=ha
 refine⟨_,qag G hr hg hm hk hb .nil qi6 (yj (vp hN hv hdy hcd) pa he) hd he hpl,λρ σ H Q r h=>?_⟩
 unfold qm at h
 cases e0:zJ i ρ with
 |none=>simp only[e0]at h;exact h.elim
 | some ds0=>
  simp only[e0]at h
  obtain⟨l,xs0,_,hl,hH,_⟩:=r.getLO ho e0
  refine⟨.ref l,hl,w ρ σ H _ r (WpL.bnd h λds ρ1 vs H1 r1 i1 g1 h1=>?_)⟩
  show qdQ X.K F (.ref l::vs++[]) H1 Q E0
  rw[ybn]
  cases e1:zJ i ρ1 with
  |none=>simp only[e1]at h1;exact h1.elim
  | some bs=>
   simp only[e1]at h1
   obtain⟨l',xs,him,hl',hH',il⟩:=r1.getLO ho e1
   rw[hl]at hl'
   cases hl'
   refine⟨bs,ds,Cn c σ,l,xs,vs,rfl,hH',r1.tb,il,λhc=>hc.2 i ho hl,i1,?_⟩
   cases ef:F bs ds with
   |bad=>simp only[ef]at h1;exact h1.elim
   |exc z ρ'=>simp only[ef]at h1;exact h1.elim
   |ok q=>
    obtain⟨d,bs'⟩:=q
    simp only[ef]at h1
    intro v H' xs' kp dm ha2 him2 il2 i2
    obtain⟨r2,g2⟩:=r1.io (bs:=bs') ho hl kp ha2 him2 (IsL.ext Ext.refl (λa ha _=>ha.elim id r1.new) il2) dm
    exact h1 v H' r2 (Is.ext Ext.refl (λa ha _=>ha.elim id r1.new) i2) g2
end
def qhi:Key->PyData
 |.inl i => .int i
 |.inr x => .str x
mutual
def qR:D->PyData
 |.non => .none
 |.bl b => .bool b
 |.int i => .int i
 |.str x => .str x
 |.tup ds => .tuple (toPDs ds)
 |.lst ds => .list (toPDs ds)
 |.dic kvs => .dict (kvs.map λp=>(qhi p.1,.int p.2))
 |.fz ns => .list (ns.map .int)
 |.exc _ => .dict [(.int (2 ^ 2000),.none)]
def toPDs:List D->List PyData
 | []=>[]
 |d::ds=>qR d::toPDs ds
end
mutual
def noL:D->Bool
 |.tup ds=>noLs ds
 |.lst _=>false
 |.fz _=>false
 |_=>true
def noLs:List D->Bool
 | []=>true
 |d::ds=>noL d&&noLs ds
end
mutual
def noX:D->Bool
 |.tup ds=>noXs ds
 |.lst ds=>noXs ds
 |.exc _=>false
 |_=>true
def noXs:List D->Bool
 | []=>true
 |d::ds=>noX d&&noXs ds
end
mutual
theorem qa7:∀{d:D},(qR d).showable=true->noX d=true
 |.non,_=>rfl
 |.bl _,_=>rfl
 |.int _,_=>rfl
 |.str _,_=>rfl
 |.tup ds,h=>by unfold noX;exact noXs_sh (by simpa [qR,ybg] using h)
 |.lst ds,h=>by unfold noX;exact noXs_sh (by simpa [qR,ybg] using h)
 |.dic _,_=>rfl
 |.fz _,_=>rfl
 |.exc _,h=>by
  have e:(PyData.dict [(.int (2 ^ 2000),.none)]).showable=false:=by decide +kernel
  rw[show qR (.exc _)=PyData.dict [(.int (2 ^ 2000),.none)]from rfl,e]at h
  cases h
theorem noXs_sh:∀{ds:List D},yaK (toPDs ds)=true->noXs ds=true
 | [],_=>rfl
 |d::ds,h=>by
  have h':(qR d).showable=true/\yaK (toPDs ds)=true:=by simpa [toPDs,yaK] using h
  unfold noXs
  rw[qa7 h'.1,noXs_sh h'.2];rfl
end
mutual
theorem qfK:∀{d:D},(qR d).canLay0=true->noX d=true
 |.non,_=>rfl
 |.bl _,_=>rfl
 |.int _,_=>rfl
 |.str _,_=>rfl
 |.tup ds,h=>by unfold noX;exact noXs_lay (by simpa [qR,yca] using h)
 |.lst ds,h=>by unfold noX;exact noXs_lay (by simpa [qR,yca] using h)
 |.dic _,_=>rfl
 |.fz _,_=>rfl
 |.exc _,h=>by simp[qR,yca]at h
theorem noXs_lay:∀{ds:List D},ybl (toPDs ds)=true->noXs ds=true
 | [],_=>rfl
 |d::ds,h=>by
  have h':(qR d).canLay0=true/\ybl (toPDs ds)=true:=by simpa [toPDs,ybl] using h
  unfold noXs
  rw[qfK h'.1,noXs_lay h'.2];rfl
end
theorem vS {h:Heap}:∀{ns:List Int}{us:List Value},ze (ns.map V.int) us->∃as,yfF h us (ns.map .int) as
 | [],us,r=>by
  rw[yc7]at r;cases r;exact⟨[],.nil⟩
 | n::ns,us,r=>by
  rw[mC_]at r
  cases r with
  |cons r1 r2=>
   obtain⟨t,e⟩:=r1
   subst e
   obtain⟨as,q⟩:=vS (ns:=ns) r2
   exact⟨[]++as,.cons (.int n t) q⟩
theorem qda{α:Type}{x:α}{l l':List α}(h1:x ∉ l)(h2:x ∉ l'):x ∉ l++l':=λh=>(mA_.mp h).elim h1 h2
theorem qau {P:yao} {w:World} {h:Heap}:∀{kvs:List (Key×Int)}{es:List DictEntry}{vs:List (Key×Value)},KV (kvs.map λp=>(p.1,V.int p.2)) vs->Pairs (qad P w) es vs ->
  yfF h (es.map (·.key)) ((kvs.map λp=>(qhi p.1,PyData.int p.2)).map (·.1)) []/\yfF h (es.map (·.val)) ((kvs.map λp=>(qhi p.1,PyData.int p.2)).map (·.2)) []
 | [],es,vs,r,p=>by
  have r':KV ([]:List (Key×V)) vs:=r
  unfold KV at r'
  cases r'
  cases p
  exact⟨.nil,.nil⟩
 | (k,i)::kvs,es,vs,r,p=>by
  have r':KV ((k,V.int i)::kvs.map λp=>(p.1,V.int p.2)) vs:=r
  unfold KV at r'
  cases r' with
  | cons r1 r2=>
   cases p with
   | cons p1 p2 p3=>
    obtain⟨q1,q2⟩:=qau (h:=h) (kvs:=kvs) r2 p3
    obtain⟨e1,t,e2⟩:=r1
    have hk:∀{e:DictEntry}{kv:Key×Value},k=kv.1->(qad P w).is kv.1 e.key=true->Reads h e.key (qhi k) []:=λ{e kv} hk hi=>by
     subst hk
     rcases zw hi with⟨i,t,e1,e2⟩|⟨x,t,e1,e2⟩
     ·rw[e1,e2];exact .int i t
     ·rw[e1,e2];exact .str x t
    refine⟨.cons (as:=[]) (bs:=[]) (hk e1 p1) q1,.cons (as:=[]) (bs:=[]) ?_ q2⟩
    show Reads h _ (.int i) []
    dsimp only
    rw[p2,e2]
    exact .int i t
section
variable{X:Cx}{pins:List (Addr×Obj)}{σ:St}{H:Hp}{s:yab}{A:Addr->Prop}
mutual
theorem yu (I:Inv X pins σ H s):∀{d:D}{v:V}{u:Value},noX d=true->Is X.K A H d v->jO v u->∃as,Reads s.heap u (qR d) as/\(noL d=true->ycc ∉ as)
 |.non,_,_,_,h,r=>by cases h;cases r;exact⟨[],.none,by simp⟩
 |.bl b,_,_,_,h,r=>by cases h;cases r;exact⟨[],.bool b,by simp⟩
 |.int i,_,_,_,h,r=>by cases h;obtain⟨t,rfl⟩:=r;exact⟨[],.int i t,by simp⟩
 |.str x,_,_,_,h,r=>by cases h;obtain⟨t,rfl⟩:=r;exact⟨[],.str x t,by simp⟩
 |.tup ds,_,_,nx,⟨a,xs,hv,ta,il⟩,r=>by
  subst hv
  cases r
  obtain⟨its,rv,p,_⟩:=I.tuple ta.sq
  obtain⟨o,h1,h2,n,h3⟩:=p
  obtain⟨as,q,nl⟩:=readsL_of I (by simpa [noX] using nx) il rv
  exact⟨as,.tuple h1 h2 h3 (by simpa using q),λz=>nl (by simpa [noL] using z)⟩
 |.lst ds,_,_,nx,⟨a,xs,hv,_,ta,il⟩,r=>by
  subst hv
  cases r
  obtain⟨its,rv,p,_⟩:=I.list (SqL.of ta)
  obtain⟨o,h1,h2,n,h3⟩:=p.isList
  obtain⟨as,q,nl⟩:=readsL_of I (by simpa [noX] using nx) il rv
  exact⟨a::as,.list h1 h2 h3 (by simpa using q),λz=>by simp[noL]at z⟩
 |.dic kvs,_,_,_,⟨a,hv,_,ta⟩,r=>by
  subst hv
  cases r
  obtain⟨hz,hS,vs,rk,o,es,ep,h1,h2,h3,h4,h5,h6⟩:=(show yq X.prog X.w H s.heap a (.dK _)from I.hok a _ ta)
  obtain⟨q1,q2⟩:=qau (h:=s.heap) rk h5
  refine⟨_,Reads.dict (as:=[]) (bs:=[]) h1 h2.1 h3 q1 q2,λ_ hm=>?_⟩
  have:ycc=a:=by simpa using hm
  rw[<-this]at hS
  simp at hS
 |.exc _,_,_,nx,_,_=>by simp[noX]at nx
 |.fz ns,_,_,_,⟨a,hv,ta⟩,r=>by
  subst hv
  cases r
  obtain⟨its,rv,p,_⟩:=I.list ta.sq
  obtain⟨o,h1,h2,n,h3⟩:=p.isList
  obtain⟨as,q⟩:=vS rv
  exact⟨a::as,.list h1 h2 h3 (by simpa using q),λz=>by simp[noL]at z⟩
theorem readsL_of (I:Inv X pins σ H s):∀{ds:List D}{xs:List V}{us:List Value},noXs ds=true->IsL X.K A H ds xs->ze xs us->∃as,yfF s.heap us (toPDs ds) as/\(noLs ds=true->ycc ∉ as)
 | [],_,_,_,h,r=>by cases h;cases r;exact⟨[],.nil,by simp⟩
 | d :: ds,_,_,nx,⟨x,ys,hx,h1,h2⟩,r=>by
  subst hx
  cases r with
  | cons r1 r2=>
   have nx':noX d=true/\noXs ds=true:=by simpa [noXs] using nx
   obtain⟨as,q1,n1⟩:=yu I nx'.1 h1 r1
   obtain⟨bs,q2,n2⟩:=readsL_of I nx'.2 h2 r2
   exact ⟨as++bs,.cons q1 q2,λz=>by
    have z':noL d=true/\noLs ds=true:=by simpa [noLs] using z
    exact qda (n1 z'.1) (n2 z'.2)⟩
end
end
def qdR(d:D):Bool:=(qR d).showable&&decide ((qR d).shown.length<=yam)&&decide ((qR d).depth<=50)&&(!(qR d).hasDict||noL d)
def qmT(K:Fr0):List V->Hp->VK->Prop:=λxs H Q=>∃v d A,xs=[v]/\Is K A H d v/\qdR d=true/\Q (.str (qR d).shown) H
section
variable{X:Cx}
theorem qeE {k:Nat} (hr:uH k X.A):yr X (.builtin "repr") (qmT X.K):=by
 intro pins s σ H xs us Q I r h
 obtain⟨v,d,A,rfl,hi,ok,q⟩:=h
 obtain⟨u,rfl,ru⟩:=ze.one r
 unfold qdR at ok
 simp only[yal,decide_eq_true_eq]at ok
 obtain⟨⟨⟨o1,o2⟩,o3⟩,o4⟩:=ok
 obtain⟨as,rd,nl⟩:=yu I (qa7 o1) hi ru
 have hun:=hr.un
 have big:∀a,u=.ref a->wpAny (model X.prog X.w) X.A (call (.builtin "repr") [u]) (EP X pins σ Q) X.xe s:=λa e=>by
  subst e
  refine repr_of_reads' rd o1 (λhd=>nl ?_) hr.gd (by omega) (λ_ _ e=>e) (λh' u tk hk=>⟨.str _,H,I.kept hk,⟨_,rfl⟩,q⟩) o2
  rw[hd]at o4
  simpa using o4
 cases d with
 |non=>cases hi;cases ru;exact PySem.P.repr_of_none ⟨.str _,H,I.tok _,⟨_,rfl⟩,q⟩
 |bl b=>cases hi;cases ru;exact PySem.P.repr_of_bool ⟨.str _,H,I.tok _,⟨s.toks,by cases b<;>rfl⟩,q⟩
 |int i=>
  cases hi;obtain⟨t,rfl⟩:=ru
  exact PySem.P.repr_of_int (of_decide_eq_true o1) ⟨.str _,H,I.tok _,⟨_,rfl⟩,q⟩
 |str x=>cases hi;obtain⟨t,rfl⟩:=ru;exact PySem.P.repr_of_str ⟨.str _,H,I.tok _,⟨_,rfl⟩,q⟩ o2
 |tup ds=>obtain⟨a,zs,rfl,_⟩:=hi;exact big a ru
 |lst ds=>obtain⟨a,zs,rfl,_⟩:=hi;exact big a ru
 |dic kvs=>obtain⟨a,rfl,_⟩:=hi;exact big a ru
 |fz ns=>obtain⟨a,rfl,_⟩:=hi;exact big a ru
 |exc C=>obtain⟨a,rfl,_⟩:=hi;exact big a ru
end
def qog:List D->Option D
 | [d]=>if qdR d then some (.str (qR d).shown)else none
 |_=>none
def qa8(d:D):Bool:=(qR d).canLay0&&decide ((qR d).depth<=50)
def qh7(K:Fr0)(neg:Bool):R2:=λx y H Q=>∃d e A,Is K A H d x/\Is K A H e y/\qa8 d=true/\qa8 e=true/\Q (.bl (if neg then !ycC (qR d) (qR e)else ycC (qR d) (qR e))) H
section
variable{X:Cx}
theorem qbC {d:D} (h:qa8 d=true):SeqAt.shaped (qR d)=true:=by
 unfold qa8 at h
 unfold SeqAt.shaped
 simp only[yal,decide_eq_true_eq]at h |-
 exact⟨h.1,by omega⟩
theorem qdS {d:D} (h:qa8 d=true):noX d=true:=by
 unfold qa8 at h
 rw[yal]at h
 exact qfK h.1
theorem qlm {k:Nat} (hr:uH k X.A):OpR X (ybb .Eq) (qh7 X.K false):=by
 intro pins s σ H x y v u Q I rx ry h
 obtain⟨d,e,A,h1,h2,o1,o2,q⟩:=h
 obtain⟨as,r1,_⟩:=yu I (qdS o1) h1 rx
 obtain⟨bs,r2,_⟩:=yu I (qdS o2) h2 ry
 exact SeqAt.compareEq_shaped r1 r2 (qbC o1) (qbC o2) hr.units ⟨.bl _,H,I,rfl,by simpa using q⟩
theorem qh8 {k:Nat} (hr:uH k X.A):OpR X (ybb .NotEq) (qh7 X.K true):=by
 intro pins s σ H x y v u Q I rx ry h
 obtain⟨d,e,A,h1,h2,o1,o2,q⟩:=h
 obtain⟨as,r1,_⟩:=yu I (qdS o1) h1 rx
 obtain⟨bs,r2,_⟩:=yu I (qdS o2) h2 ry
 exact SeqAt.compareNe_shaped r1 r2 (qbC o1) (qbC o2) hr.units ⟨.bl _,H,I,rfl,by simpa using q⟩
end
def eqA(x y:D):Option D:=if qa8 x&&qa8 y then some (.bl (ycC (qR x) (qR y)))else none
def neA(x y:D):Option D:=if qa8 x&&qa8 y then some (.bl (!ycC (qR x) (qR y)))else none
theorem qjo {K:Fr0}:OpS K eqA (qh7 K false):=by
 intro A H x y d v u Q hn ix iy e k
 obtain⟨e1,e2⟩:=jn e
 rw[yal]at e1
 subst e2
 exact⟨x,y,A,ix,iy,e1.1,e1.2,k _ H (jG.refl H) rfl⟩
theorem qjp {K:Fr0}:OpS K neA (qh7 K true):=by
 intro A H x y d v u Q hn ix iy e k
 obtain⟨e1,e2⟩:=jn e
 rw[yal]at e1
 subst e2
 exact⟨x,y,A,ix,iy,e1.1,e1.2,k _ H (jG.refl H) rfl⟩
section
variable{X:Cx}{c:Fc}{a b e:Expr}{pos:Pos}
def qh9 (i:Nat) (g:M D):M D:=λρ=>match zJ i ρ with
 |none => .bad
 |some _=>(bnd g λy ρ=>match zJ i ρ with
  |none => .bad
  |some ds=>lift (neA (.lst ds) y) ρ) ρ
theorem qln {i k:Nat} {x:Str} {p1:Pos} {g:M D} (hr:uH k X.A) (hb:DE X c b g) (ho:i∈c.O:=by exact of_decide_eq_true rfl) (hN:X.N[i]? = some x:=by rfl) (hv:Vis X.env.scope x:=by first|exact ybj rfl|exact yaR (ybj rfl)|exact yaR (yaR rfl)) (hd:(x==("__debug__":Str))=false:=by decide) (hcd:(x==("__classdict__":Str))=false:=by decide) :
  DT X c (.Compare (.Name x p1) [.NotEq] [b] pos) (tst (qh9 i g)):=by
 obtain⟨tb,pb,wb⟩:=hb
 refine⟨_,qfh (qh8 hr) (vp hN hv hd hcd) pb (zg _),λρ σ H Q r h=>?_⟩
 unfold tst qh9 bnd at h
 cases e0:zJ i ρ with
 |none=>simp only[e0]at h;exact h.elim
 | some ds0=>
  simp only[e0]at h
  obtain⟨l,xs0,_,hl,hH,_⟩:=r.getLO ho e0
  refine⟨.ref l,hl,wb ρ σ H _ r ?_⟩
  cases eg:g ρ with
  |bad=>simp only[eg]at h;exact h
  |exc z ρ'=>simp only[eg]at h;exact h
  | ok q=>
   obtain⟨y,ρ1⟩:=q
   simp only[eg]at h
   intro u H1 r1 i1 g1
   cases e1:zJ i ρ1 with
   |none=>simp only[e1]at h;exact h.elim
   | some ds=>
    simp only[e1]at h
    cases en:neA (.lst ds) y with
    |none=>simp only[en,lift]at h;exact h.elim
    |some d=>
     simp only[en,lift,ret]at h
     obtain⟨e3,e4⟩:=jn en
     rw[yal]at e3
     subst e4
     obtain⟨l',xs,him,hl',hH',il⟩:=r1.getLO ho e1
     rw[hl]at hl'
     cases hl'
     refine⟨.lst ds,y,λ_=>True,⟨l,xs,rfl,trivial,hH',IsL.ext Ext.refl (λ_ h _=>trivial) il⟩,Is.ext Ext.refl (λ_ _ _=>trivial) i1,e3.1,e3.2,_,rfl,?_⟩
     exact h H1 r1 g1
end
section
variable{prog:yao}{w:World}{A:yau}{E:Value->yab->Prop}{s:yab}
theorem qjq {it tu:Addr} {k:Nat} {arr:Array Value} {x:Value} {Q:Value->yab->Prop} (hI:s.heap.IsTupleIter it tu k) (hT:s.heap.IsTuple tu arr) (hx:arr[k]? = some x)
  (q:∀h',h'.IsTupleIter it tu (k+1)->ybW it s.heap h'->Q x {s with heap:=h' }):wpAny (model prog w) A (yaB (.ref it)) Q E s:=by
 obtain⟨ob,e1,e2,e3⟩:=id hI
 obtain⟨ot,f1,_,m,f2⟩:=hT
 unfold yaB
 refine yaa (wpAny_callSpecial?_slot (name:=ybo "__next__") hI.typeIs ybQ (ybi ybQ hI.typeIs ydr ?_ (ydk _)))
 show wpAny (model prog w) _ (field (yaf it) 0 >>= _) _ _ s
 refine yaa (yaA e1 e3 (x:=yaf tu) rfl ?_)
 show wpAny (model prog w) _ (if(yaf tu==yax)=true then _ else _) _ _ s
 rw[if_neg (show ¬((yaf tu==yax)=true)from yav)]
 show wpAny (model prog w) _ (field (yaf it) 1 >>= _) _ _ s
 refine yaa (yaA e1 e3 (x:=yb2 k 0) rfl ?_)
 show wpAny (model prog w) _ (seqItems? (yaf tu) >>= _) _ _ s
 refine yaa (ybk f1 f2 ?_)
 simp only[ybc,hx]
 refine yaa (ycD e1 e3 (by simp) (yac ⟨x,rfl,yac (q _ ?_ (ycn ..))⟩))
 exact⟨_,Heap.get?_update_self _ e1 (yc2 (ybJ e3 _)),(yfp ..).trans e2,by rw[ybJ e3];simp[ybG]⟩
theorem qjr {it tu:Addr} {k:Nat} {arr:Array Value} {Q:Value->yab->Prop} (hh:A.handled=none) (hI:s.heap.IsTupleIter it tu k) (hT:s.heap.IsTuple tu arr) (hx:arr[k]? = none)
  (q:∀h' e,Heap.ExtBut it s.heap h'->(∃o,h'.get? e=some o/\o.cls=.type "StopIteration")->E (.ref e) {s with heap:=h' }):wpAny (model prog w) A (yaB (.ref it)) Q E s:=by
 obtain⟨ob,e1,e2,e3⟩:=id hI
 obtain⟨ot,f1,_,m,f2⟩:=hT
 unfold yaB
 refine yaa (wpAny_callSpecial?_slot (name:=ybo "__next__") hI.typeIs ybQ (ybi ybQ hI.typeIs ydr ?_ (ydk _)))
 show wpAny (model prog w) _ (field (yaf it) 0 >>= _) _ _ s
 refine yaa (yaA e1 e3 (x:=yaf tu) rfl ?_)
 show wpAny (model prog w) _ (if(yaf tu==yax)=true then _ else _) _ _ s
 rw[if_neg (show ¬((yaf tu==yax)=true)from yav)]
 show wpAny (model prog w) _ (field (yaf it) 1 >>= _) _ _ s
 refine yaa (yaA e1 e3 (x:=yb2 k 0) rfl ?_)
 show wpAny (model prog w) _ (seqItems? (yaf tu) >>= _) _ _ s
 refine yaa (ybk f1 f2 ?_)
 simp only[ybc,hx]
 refine yaa (yc4 (yaa (ycD e1 e3 (by simp) ?_)))
 show wpAny (model prog w) _ (newExc (yb3 "StopIteration") [] >>= _) _ _ _
 refine yaa ?_
 simp only[newExc,newTuple]
 refine yaa (yaJ ?_ (by size_fits))
 refine yaa (m:=firstArgMember _ _) (wpAny_of_eq (a:=yax) (by first|rfl|(simp only[firstArgMember];rfl)) ?_)
 refine yaJ ?_ (by size_fits)
 simp only[raiseNew]
 refine yaa (wpAny_handled ?_)
 first|rw[show A.in1.handled=none from hh]|rw[hh]
 exact yaa (yac (wpAny_throw (q _ _ (((ycn ..).extBut.push _).push _) ⟨_,Heap.get?_push_size _ rfl,rfl⟩)))
end
theorem ya {prog:yao} {w:World} {A:yau} (hh:A.handled=none) (it tu:Addr) (hne:tu≠it) (arr:Array Value) :
  Draws prog w A it [it,tu] arr.size (λi x=>arr[i]? = some x) (λi h=>h.IsTupleIter it tu i/\h.IsTuple tu arr) where
 live:=λi h st=>by obtain⟨⟨o,e,_⟩,_⟩:=st;exact⟨o,e⟩
 frame:=λi h h' st k=>by
  obtain⟨h1,o,e,r⟩:=st
  exact⟨h1.at λo q=>k it (by simp) o q,o,k tu (by simp) o e,r⟩
 item:=λi s Q E hi st q=>qjq st.1 st.2 (Array.getElem?_eq_getElem hi) λh' h1 sb=>q _ h' s.toks (Array.getElem?_eq_getElem hi) ⟨h1,by
  obtain⟨o,e,r⟩:=st.2
  exact⟨o,sb.extBut _ _ hne e,r⟩⟩ sb
 done:=λs Q E st q=>qjr hh st.1 st.2 (Array.getElem?_eq_none (yah _)) q
structure ZAp (z TI TO i1 i2:Addr) (fp1 fp2:List Addr):Prop where
 zTI:z≠TI
 zTO:z≠TO
 zi1:z≠i1
 zi2:z≠i2
 IO:TI≠TO
 Ii1:TI≠i1
 Ii2:TI≠i2
 Oi1:TO≠i1
 Oi2:TO≠i2
 ii:i1≠i2
 z1:z ∉ fp1
 z2:z ∉ fp2
 O1:TO ∉ fp1
 O2:TO ∉ fp2
 i21:i2 ∉ fp1
 i12:i1 ∉ fp2
section
variable{prog:yao}{w:World}{A:yau}{E:Value->yab->Prop}{s:yab}{z TI TO i1 i2:Addr}{fp1 fp2:List Addr}{n1 n2 k:Nat}{P1 P2:Nat->Value->Prop}{S1 S2:Nat->Heap->Prop}
theorem zL{fp:List Addr}{a:Addr}{h h':Heap}(sb:ybW a h h')(ha:a ∉ fp):∀b∈fp,∀o,h.get? b=some o->h'.get? b=some o:=λb hb o e=>sb.extBut _ _ (λq=>ha (q▸hb)) e
theorem qia (D1:Draws prog w A i1 fp1 n1 P1 S1) (D2:Draws prog w A i2 fp2 n2 P2 S2) (ap:ZAp z TI TO i1 i2 fp1 fp2) {p q:Value} (zz:IsZip s.heap z TI TO .none) (zI:ya9 s.heap TI (.ref i1) (.ref i2)) (zO:ya9 s.heap TO p q)
  (t1:S1 k s.heap) (t2:S2 k s.heap) (l1:k<n1) (l2:k<n2) {Q:Value->yab->Prop}
  (fin:∀x y h' tk,P1 k x->P2 k y->IsZip h' z TI TO (ybG s.heap.objs.size)->ya9 h' TO x y->S1 (k+1) h'->S2 (k+1) h'->ya9 h' s.heap.objs.size x y ->
   (∀c o,c≠z->c≠TO->c≠i1->c≠i2->s.heap.get? c=some o->h'.get? c=some o)->Q (.ref s.heap.objs.size) {s with heap:=h',toks:=tk}) :
  wpAny (model prog w) A (ybV.«zip.__next__» ⟨[.ref z],[]⟩) (λr s'=>∃v,r=.done (.ret v)/\Q v s') E s:=by
 show wpAny (model prog w) A (field (yaf z) 2 >>= _) _ _ _
 refine yaa (yaA zz rfl (x:=yaL false) rfl ?_)
 show wpAny (model prog w) A (field (yaf z) 3 >>= _) _ _ _
 refine yaa (yaA zz rfl (x:=yaf TI) rfl (yaa (ybk zI rfl ?_)))
 show wpAny (model prog w) A (yaE (yaf z) >>= _) _ _ _
 refine yaa ?_
 unfold yaE
 refine yaa (yaA zz rfl (x:=yax) rfl (yac ?_))
 simp only[if_true]
 refine yaa (yc4 (yaa (yaA zz rfl (x:=yaf TO) rfl (yaa (ybq zz (by simp) λh1 zz1 b1=>?_)))))
 replace zz1:IsZip h1 z TI TO .ellipsis:=zz1
 refine yaa ?_
 simp only[ycU,List.zipIdx_nil,yct,ydl]
 refine yaa (yaa (ydC ?_))
 show wpAny (model prog w) A (yaB (yaf i1) >>= _) _ _ _
 refine yaa (D1.item k _ _ _ l1 (D1.frame _ _ _ t1 (zL b1 ap.z1)) λx h2 tk2 px u1 b2=>yac ?_)
 have zO2:ya9 h2 TO p q:=b2.extBut _ _ ap.Oi1 (b1.extBut _ _ ap.zTO.symm zO)
 refine yaa (ybk zO2 rfl (yaa (yc9 zO2 λh3 zO3 b3=>?_)))
 replace zO3:ya9 h3 TO x q:=zO3
 refine yaa (yeq (yac (yaa (yaa (ydC ?_)))))
 show wpAny (model prog w) A (yaB (yaf i2) >>= _) _ _ _
 have t2':S2 k h3:=D2.frame _ _ _ (D2.frame _ _ _ (D2.frame _ _ _ t2 (zL b1 ap.z2)) (zL b2 ap.i12)) (zL b3 ap.O2)
 refine yaa (D2.item k _ _ _ l2 t2' λy h4 tk4 py u2 b4=>yac ?_)
 have zO4:ya9 h4 TO x q:=b4.extBut _ _ ap.Oi2 zO3
 refine yaa (ybk zO4 rfl (yaa (yc9 zO4 λh5 zO5 b5=>?_)))
 replace zO5:ya9 h5 TO x y:=zO5
 refine yaa (yeq (yac (yac (yaa (ybk zO5 rfl (yaa (yeA ?_)))))))
 have sz:h5.objs.size=s.heap.objs.size:=by rw[b5.1,b4.1,b3.1,b2.1,b1.1]
 have zz5:IsZip h5 z TI TO .ellipsis:=b5.extBut _ _ ap.zTO (b4.extBut _ _ ap.zi2 (b3.extBut _ _ ap.zTO (b2.extBut _ _ ap.zi1 zz1)))
 have keep5:∀c o,c≠z->c≠TO->c≠i1->c≠i2->s.heap.get? c=some o->h5.get? c=some o:=λc o c1 c2 c3 c4 e=>b5.extBut _ _ c2 (b4.extBut _ _ c4 (b3.extBut _ _ c2 (b2.extBut _ _ c3 (b1.extBut _ _ c1 e))))
 have v1:S1 (k+1) h5:=D1.frame _ _ _ (D1.frame _ _ _ (D1.frame _ _ _ u1 (zL b3 ap.O1)) (zL b4 ap.i21)) (zL b5 ap.O1)
 have v2:S2 (k+1) h5:=D2.frame _ _ _ u2 (zL b5 ap.O2)
 have lz:z<h5.objs.size:=yad zz5
 show wpAny (model prog w) A (ycz (yaf z) (yaf h5.objs.size) >>= _) _ _ _
 refine yaa ?_
 unfold ycz
 have zz6:IsZip (h5.push {cls:=.type "tuple",data:=.seq #[x,y]}) z TI TO .ellipsis:=Heap.get?_push_of_some _ zz5
 refine yaa (ybq zz6 (by simp) λh7 zz7 b7=>?_)
 replace zz7:IsZip h7 z TI TO (ybG h5.objs.size):=zz7
 refine ybq zz7 (by simp) λh8 zz8 b8=>?_
 replace zz8:IsZip h8 z TI TO (ybG h5.objs.size):=zz8
 have up:∀c o,c≠z->h5.get? c=some o->h8.get? c=some o:=λc o c1 e=>b8.extBut _ _ c1 (b7.extBut _ _ c1 (Heap.get?_push_of_some _ e))
 have new8:ya9 h8 h5.objs.size x y:=b8.extBut _ _ (yb8 lz) (b7.extBut _ _ (yb8 lz) (Heap.get?_push_size _ rfl))
 rw[sz]at zz8 new8
 refine yac ⟨_,rfl,?_⟩
 show Q (yaf h5.objs.size) _
 rw[sz]
 exact fin x y h8 tk4 px py zz8 (up _ _ ap.zTO.symm zO5) (D1.frame _ _ _ v1 λb hb o e=>up b o (λq=>ap.z1 (q▸hb)) e) (D2.frame _ _ _ v2 λb hb o e=>up b o (λq=>ap.z2 (q▸hb)) e) new8 λc o c1 c2 c3 c4 e=>up c o c1 (keep5 c o c1 c2 c3 c4 e)
theorem qdT (hh:A.handled=none) (D1:Draws prog w A i1 fp1 n1 P1 S1) (D2:Draws prog w A i2 fp2 n2 P2 S2) (ap:ZAp z TI TO i1 i2 fp1 fp2) {p q:Value} (zz:IsZip s.heap z TI TO .none) (zI:ya9 s.heap TI (.ref i1) (.ref i2)) (zO:ya9 s.heap TO p q)
  (t1:S1 k s.heap) (t2:S2 k s.heap) (hk:k=min n1 n2) {Q:Fin->yab->Prop}
  (fin:∀h' tk e,(∀c o,c≠z->c≠TO->c≠i1->c≠i2->s.heap.get? c=some o->h'.get? c=some o)->(∃o,h'.get? e=some o/\o.cls=.type "StopIteration")->E (.ref e) {s with heap:=h',toks:=tk}) :
  wpAny (model prog w) A (ybV.«zip.__next__» ⟨[.ref z],[]⟩) Q E s:=by
 show wpAny (model prog w) A (field (yaf z) 2 >>= _) _ _ _
 refine yaa (yaA zz rfl (x:=yaL false) rfl ?_)
 show wpAny (model prog w) A (field (yaf z) 3 >>= _) _ _ _
 refine yaa (yaA zz rfl (x:=yaf TI) rfl (yaa (ybk zI rfl ?_)))
 show wpAny (model prog w) A (yaE (yaf z) >>= _) _ _ _
 refine yaa ?_
 unfold yaE
 refine yaa (yaA zz rfl (x:=yax) rfl (yac ?_))
 simp only[if_true]
 refine yaa (yc4 (yaa (yaA zz rfl (x:=yaf TO) rfl (yaa (ybq zz (by simp) λh1 zz1 b1=>?_)))))
 replace zz1:IsZip h1 z TI TO .ellipsis:=zz1
 refine yaa ?_
 simp only[ycU,List.zipIdx_nil,yct,ydl]
 refine yaa (yaa (ydC ?_))
 show wpAny (model prog w) A (yaB (yaf i1) >>= _) _ _ _
 have t1':S1 k h1:=D1.frame _ _ _ t1 (zL b1 ap.z1)
 by_cases h12:n1<=n2
 ·have e1:k=n1:=by rw[hk];exact yda h12
  rw[e1]at t1'
  refine yaa (D1.done _ _ _ t1' λh2 e b2 he=>?_)
  obtain⟨oe,f1,f2⟩:=he
  have zz2:IsZip h2 z TI TO .ellipsis:=b2 _ _ ap.zi1 zz1
  have ez:e≠z:=λx=>by subst x;rw[zz2]at f1;cases f1;simp at f2
  refine ybq zz2 (by simp) λh3 _ b3=>?_
  exact fin h3 s.toks e (λc o c1 _ c3 _ x=>b3.extBut _ _ c1 (b2 _ _ c3 (b1.extBut _ _ c1 x))) ⟨oe,b3.extBut _ _ ez f1,f2⟩
 ·have e1:k=n2:=by rw[hk];exact ydW (by omega)
  refine yaa (D1.item k _ _ _ (by omega) t1' λx h2 tk2 px u1 b2=>yac ?_)
  have zO2:ya9 h2 TO p q:=b2.extBut _ _ ap.Oi1 (b1.extBut _ _ ap.zTO.symm zO)
  refine yaa (ybk zO2 rfl (yaa (yc9 zO2 λh3 zO3 b3=>?_)))
  refine yaa (yeq (yac (yaa (yaa (ydC ?_)))))
  show wpAny (model prog w) A (yaB (yaf i2) >>= _) _ _ _
  have t2':S2 k h3:=D2.frame _ _ _ (D2.frame _ _ _ (D2.frame _ _ _ t2 (zL b1 ap.z2)) (zL b2 ap.i12)) (zL b3 ap.O2)
  rw[e1]at t2'
  refine yaa (D2.done _ _ _ t2' λh4 e b4 he=>?_)
  obtain⟨oe,f1,f2⟩:=he
  have zz4:IsZip h4 z TI TO .ellipsis:=b4 _ _ ap.zi2 (b3.extBut _ _ ap.zTO (b2.extBut _ _ ap.zi1 zz1))
  have ez:e≠z:=λx=>by subst x;rw[zz4]at f1;cases f1;simp at f2
  refine ybq zz4 (by simp) λh5 _ b5=>?_
  exact fin h5 tk2 e (λc o c1 c2 c3 c4 x=>b5.extBut _ _ c1 (b4 _ _ c4 (b3.extBut _ _ c2 (b2.extBut _ _ c3 (b1.extBut _ _ c1 x))))) ⟨oe,b5.extBut _ _ ez f1,f2⟩
theorem qhj {l1 l2:Addr} {xs ys:Array Value} {Q:Value->yab->Prop} (t1:s.heap.IsTuple l1 xs) (t2:s.heap.IsTuple l2 ys)
  (fin:∀h',IsZip h' (s.heap.objs.size+4) (s.heap.objs.size+2) (s.heap.objs.size+3) .none->ya9 h' (s.heap.objs.size+2) (.ref s.heap.objs.size) (.ref (s.heap.objs.size+1))->ya9 h' (s.heap.objs.size+3) .none .none ->
   h'.IsTupleIter s.heap.objs.size l1 0->h'.IsTupleIter (s.heap.objs.size+1) l2 0->(∀c o,s.heap.get? c=some o->h'.get? c=some o)->Q (.ref (s.heap.objs.size+4)) {s with heap:=h' }) :
  wpAny (model prog w) A (call (.type "zip") [.ref l1,.ref l2]) Q E s:=by
 have meets:Meets (ybV.«zip.__new__» ⟨[.type "zip",.ref l1,.ref l2],[]⟩) (λ_ R s=>s.heap.IsTuple l1 xs/\s.heap.IsTuple l2 ys /\
   R (.ok (.ret (.ref (s.heap.objs.size+4)))) {s with heap:=((((s.heap.push {cls:=.type "tuple_iterator",data:=.fields #[.ref l1,.int 0 0]}).push {cls:=.type "tuple_iterator",data:=.fields #[.ref l2,.int 0 0]}).push {cls:=.type "tuple",data:=.seq #[.ref s.heap.objs.size,.ref (s.heap.objs.size+1)]}).push {cls:=.type "tuple",data:=.seq #[.none,.none]}).push {cls:=.type "zip",data:=.fields #[.none,.bool false,.bool false,.ref (s.heap.objs.size+2),.ref (s.heap.objs.size+3)]} }) :=
  .of_wp λprog w A R s h=>by
   obtain⟨hp,g,d,tk,os⟩:=s
   obtain⟨ha,hb,h⟩:=h
   have hsub:=sub_zip
   have hA:yfd (yfA ⟨hp,g,d,tk,os⟩) l1 xs:=ha
   have hB:yfd (yfA ⟨hp.push {cls:=.type "tuple_iterator",data:=.fields #[.ref l1,.int 0 0]},g,d,tk,os⟩) l2 ys:=by
    obtain⟨o,e,r⟩:=hb
    exact⟨o,Heap.get?_push_of_some _ e,r⟩
   wp_walk using ybI hA,ybI hB
   simp only[ybr]at *
   exact⟨_,rfl,h⟩
 refine callType_new F.called_zip (by decide) (F.typeCall_zip_2 _ _) (F.newCall_zip_2 _ _) (λobj=>F.args_object_init_3 obj _ _) F.entry_zip_new meets ⟨t1,t2,?_⟩
 generalize e1:s.heap.push {cls:=.type "tuple_iterator",data:=.fields #[.ref l1,.int 0 0]}=m1
 have s1:m1.objs.size=s.heap.objs.size+1:=by rw[<-e1,ybr]
 have q1:m1.get? s.heap.objs.size=some {cls:=.type "tuple_iterator",data:=.fields #[.ref l1,.int 0 0]}:=by rw[<-e1];exact Heap.get?_push_size _ rfl
 have k1:∀c o,s.heap.get? c=some o->m1.get? c=some o:=λc o x=>by rw[<-e1];exact Heap.get?_push_of_some _ x
 generalize e2:m1.push {cls:=.type "tuple_iterator",data:=.fields #[.ref l2,.int 0 0]}=m2
 have s2:m2.objs.size=s.heap.objs.size+2:=by rw[<-e2,ybr,s1]
 have q2:m2.get? (s.heap.objs.size+1)=some {cls:=.type "tuple_iterator",data:=.fields #[.ref l2,.int 0 0]}:=by rw[<-e2,<-s1];exact Heap.get?_push_size _ rfl
 have k2:∀c o,m1.get? c=some o->m2.get? c=some o:=λc o x=>by rw[<-e2];exact Heap.get?_push_of_some _ x
 generalize e3:m2.push {cls:=.type "tuple",data:=.seq #[.ref s.heap.objs.size,.ref (s.heap.objs.size+1)]}=m3
 have s3:m3.objs.size=s.heap.objs.size+3:=by rw[<-e3,ybr,s2]
 have q3:m3.get? (s.heap.objs.size+2)=some {cls:=.type "tuple",data:=.seq #[.ref s.heap.objs.size,.ref (s.heap.objs.size+1)]}:=by rw[<-e3,<-s2];exact Heap.get?_push_size _ rfl
 have k3:∀c o,m2.get? c=some o->m3.get? c=some o:=λc o x=>by rw[<-e3];exact Heap.get?_push_of_some _ x
 generalize e4:m3.push {cls:=.type "tuple",data:=.seq #[.none,.none]}=m4
 have s4:m4.objs.size=s.heap.objs.size+4:=by rw[<-e4,ybr,s3]
 have q4:m4.get? (s.heap.objs.size+3)=some {cls:=.type "tuple",data:=.seq #[.none,.none]}:=by rw[<-e4,<-s3];exact Heap.get?_push_size _ rfl
 have k4:∀c o,m3.get? c=some o->m4.get? c=some o:=λc o x=>by rw[<-e4];exact Heap.get?_push_of_some _ x
 generalize e5:m4.push {cls:=.type "zip",data:=.fields #[.none,.bool false,.bool false,.ref (s.heap.objs.size+2),.ref (s.heap.objs.size+3)]}=m5
 have q5:m5.get? (s.heap.objs.size+4)=some {cls:=.type "zip",data:=.fields #[.none,.bool false,.bool false,.ref (s.heap.objs.size+2),.ref (s.heap.objs.size+3)]}:=by rw[<-e5,<-s4];exact Heap.get?_push_size _ rfl
 have k5:∀c o,m4.get? c=some o->m5.get? c=some o:=λc o x=>by rw[<-e5];exact Heap.get?_push_of_some _ x
 show _/\_
 exact⟨⟨_,q5,rfl⟩,fin m5 q5 (k5 _ _ (k4 _ _ q3)) (k5 _ _ q4) ⟨_,k5 _ _ (k4 _ _ (k3 _ _ (k2 _ _ q1))),rfl,rfl⟩ ⟨_,k5 _ _ (k4 _ _ (k3 _ _ q2)),rfl,rfl⟩ λc o x=>k5 _ _ (k4 _ _ (k3 _ _ (k2 _ _ (k1 _ _ x))))⟩
end
section
variable{X:Cx}{pins:List (Addr×Obj)}{σ:St}{H:Hp}{s:yab}{h':Heap}
theorem qfL {ch:List Addr} {T:Addr} {o:HO} {t':Nat} (I:Inv X pins σ H s) (k:∀b u,b ∉ ch->s.heap.get? b=some u->h'.get? b=some u) (hf:∀b∈ch,qcV X pins H b) (hT:s.heap.objs.size<=T) (new:yq X.prog X.w (upd H T o) h' T o) :
  Inv X pins σ (upd H T o) {s with heap:=h',toks:=t' }:=by
 have hn:H T=none:=I.hok.fresh hT
 have nch:∀b u,H b=some u->b ∉ ch:=λb u e z=>by rw[(hf b z).1]at e;cases e
 refine I.step (g':=s.gens) (d':=s.drawn) (ch:=ch) (λb hb=>⟨(hf b hb).2.2.2.1,(hf b hb).2.1,(hf b hb).2.2.2.2.1,(hf b hb).2.2.2.2.2⟩) (λb u _ _ hc e _=>k b u hc e) (λb u _ _ hc e _=>⟨u.slots,k b u hc e⟩) (λb u hc e n=>?_)
  (λb u hc e=>⟨u,k b u hc e⟩) (λb xs e=>by rw[qz (qP e hn)];exact e) (λb u xs e=>by rw[qz (qP e hn)];exact e) (λb ps y e=>by rw[qz (qP e hn)];exact e) (λm hm=>?_) (λb u e=>?_) I.bare
 ·rw[qz (yat (yaw (yad e) hT))];exact n
 ·obtain⟨ob,es,ep,ho,r⟩:=hm
  exact⟨ob,es,ep,k _ ob (λz=>(hf _ z).2.1 rfl) ho,r⟩
 ·by_cases hb:b=T
  ·subst hb;rw[qx]at e;cases e;exact new
  ·rw[qz hb]at e
   refine(I.hok b u e).stay (λc v hc q=>k c v ?_ q) (λc q=>by rw[qz (qP q hn)];exact q) (λc xs q=>by rw[qz (qP q hn)];exact q) λc ob y q=>by rw[qz (qP q hn)];exact q
   rcases hc with z|z
   ·rw[z];exact nch b u e
   ·exact nch c _ z
theorem qfM {ch:List Addr} {t':Nat} (I:Inv X pins σ H s) (k:∀b u,b ∉ ch->s.heap.get? b=some u->h'.get? b=some u) (hf:∀b∈ch,qcV X pins H b):Inv X pins σ H {s with heap:=h',toks:=t' }:=by
 have nch:∀b u,H b=some u->b ∉ ch:=λb u e z=>by rw[(hf b z).1]at e;cases e
 refine I.step (g':=s.gens) (d':=s.drawn) (ch:=ch) (λb hb=>⟨(hf b hb).2.2.2.1,(hf b hb).2.1,(hf b hb).2.2.2.2.1,(hf b hb).2.2.2.2.2⟩) (λb u _ _ hc e _=>k b u hc e) (λb u _ _ hc e _=>⟨u.slots,k b u hc e⟩) (λb u hc e n=>n)
  (λb u hc e=>⟨u,k b u hc e⟩) (λb xs e=>e) (λb u xs e=>e) (λ_ _ _ e=>e) (λm hm=>?_) (λb u e=>?_) I.bare
 ·obtain⟨ob,es,ep,ho,r⟩:=hm
  exact⟨ob,es,ep,k _ ob (λz=>(hf _ z).2.1 rfl) ho,r⟩
 ·refine(I.hok b u e).stay (λc v hc q=>k c v ?_ q) (λc q=>q) λc xs q=>q
  rcases hc with z|z
  ·rw[z];exact nch b u e
  ·exact nch c _ z
end
def Itz (K:Fr0) (a1 a2:Addr) (xs ys:List V):It :=
 ⟨λi H=>i<min xs.length ys.length/\SqT K H a1 xs/\SqT K H a2 ys,λi H x H'=>∃p u v,H p=none/\xs[i]? = some u/\ys[i]? = some v/\x=.ref p/\H'=upd H p (.tup [u,v]),λi H=>i=min xs.length ys.length/\SqT K H a1 xs/\SqT K H a2 ys⟩
def ZSt(z TI TO i1 i2 a1 a2:Addr)(i:Nat)(h:Heap):Prop:=IsZip h z TI TO .none/\ya9 h TI (.ref i1) (.ref i2)/\(∃p q,ya9 h TO p q)/\h.IsTupleIter i1 a1 i/\h.IsTupleIter i2 a2 i
theorem qhk {P:yao} {w:World} {K:Fr0} {es:List Expr} {kk:Nat} {pos:Pos} {z TI TO i1 i2 a1 a2:Addr} {xs ys:List V} (ap:ZAp z TI TO i1 i2 [i1,a1] [i2,a2]) (n1:a1≠i1) (n2:a2≠i2) :
  qkm P w K (.Tuple es kk pos) (Itz K a1 a2 xs ys) [z,TI,TO,i1,i2] z (ZSt z TI TO i1 i2 a1 a2) where
 mem:=by simp
 obj:=λi h st b hb=>by
  obtain⟨h1,h2,⟨p,q,h3⟩,⟨o4,h4,c4,d4⟩,⟨o5,h5,c5,d5⟩⟩:=st
  simp only[yan,nN_,or_false]at hb
  rcases hb with rfl|rfl|rfl|rfl|rfl
  ·exact⟨_,h1,λv e=>by cases (show yen _=yea v from e)⟩
  ·exact⟨_,h2,λv e=>by cases (show Data.seq _ _=yea v from e)⟩
  ·exact⟨_,h3,λv e=>by cases (show Data.seq _ _=yea v from e)⟩
  ·exact⟨_,h4,λv e=>by rw[d4]at e;cases e⟩
  ·exact⟨_,h5,λv e=>by rw[d5]at e;cases e⟩
 keep:=λi h h' st k=>by
  obtain⟨h1,h2,⟨p,q,h3⟩,h4,h5⟩:=st
  exact⟨k z (by simp) _ h1,k TI (by simp) _ h2,⟨p,q,k TO (by simp) _ h3⟩,h4.at λo e=>k i1 (by simp) o e,h5.at λo e=>k i2 (by simp) o e⟩
 item:=by
  intro X hP hw hK hc i pins s σ H E I hf st hg
  subst hP hw hK
  obtain⟨hlt,hx,hy⟩:=hg
  obtain⟨h1,h2,⟨p,q,h3⟩,h4,h5⟩:=st
  obtain⟨it1,r1,p1,z1⟩:=I.tuple hx
  obtain⟨it2,r2,p2,z2⟩:=I.tuple hy
  have l1:i<it1.toArray.size:=by rw[sT_,<-r1.length];omega
  have l2:i<it2.toArray.size:=by rw[sT_,<-r2.length];omega
  have hT:s.TypeIs (.ref z) "zip":=⟨_,h1,rfl⟩
  have hh:X.A.in1.handled=none:=I.ok.hd hc
  unfold yci
  refine yaa (ydD (wpAny_callSpecial?_slot (name:=ybo "__next__") hT ybx (ybi ybx hT ycV
   (qia (ya hh i1 a1 n1 it1.toArray) (ya hh i2 a2 n2 it2.toArray) ap h1 h2 h3 ⟨h4,p1⟩ ⟨h5,p2⟩ l1 l2 λx y h' tk px py zz zO u1 u2 new kp=>yac ?_) (ycH _))))
  refine⟨.ref s.heap.objs.size,rfl,wpAny_letOwnedTupleGo_zip zz λh2' zz2 sb=>?_⟩
  obtain⟨xv,hxv⟩:∃v,xs[i]? = some v:=⟨xs[i]'(by omega),gG (by omega)⟩
  obtain⟨yv,hyv⟩:∃v,ys[i]? = some v:=⟨ys[i]'(by omega),gG (by omega)⟩
  obtain⟨x',ex,rx⟩:=r1.get hxv
  obtain⟨y',ey,ry⟩:=r2.get hyv
  have exx:x'=x:=by
   have:it1.toArray[i]? = some x:=px
   rw[List.getElem?_toArray,ex]at this
   exact yaI this
  have eyy:y'=y:=by
   have:it2.toArray[i]? = some y:=py
   rw[List.getElem?_toArray,ey]at this
   exact yaI this
  subst exx eyy
  have lz:z<s.heap.objs.size:=yad h1
  have keep:∀b u,b ∉ [z,TI,TO,i1,i2]->s.heap.get? b=some u->h2'.get? b=some u:=λb u hb e=>by
   simp only[yan,nN_,or_false,not_or]at hb
   exact sb.extBut _ _ hb.1 (kp b u hb.1 hb.2.2.1 hb.2.2.2.1 hb.2.2.2.2 e)
  have I2:Inv X pins σ (upd H s.heap.objs.size (.tup [xv,yv])) {s with heap:=h2',toks:=tk} :=
   qfL I keep hf (yah _) ⟨by show 2<=yam;decide,[x',y'],.cons rx (.cons ry .nil),⟨_,sb.extBut _ _ (yb8 lz) new,rfl,_,rfl⟩⟩
  refine⟨.ref s.heap.objs.size,upd H s.heap.objs.size (.tup [xv,yv]),I2,rfl,⟨s.heap.objs.size,xv,yv,I.hok.fresh (yah _),hxv,hyv,rfl,rfl⟩,?_,λb hb=>?_⟩
  ·exact⟨zz2,sb.extBut _ _ ap.zTI.symm (kp _ _ ap.zTI.symm ap.IO ap.Ii1 ap.Ii2 h2),⟨_,_,sb.extBut _ _ ap.zTO.symm zO⟩,u1.1.at λo e=>sb.extBut _ _ ap.zi1.symm e,u2.1.at λo e=>sb.extBut _ _ ap.zi2.symm e⟩
  ·have hb1:b≠s.heap.objs.size:=by
    simp only[yan,nN_,or_false]at hb
    obtain⟨o4,g4,_⟩:=h4
    obtain⟨o5,g5,_⟩:=h5
    rcases hb with rfl|rfl|rfl|rfl|rfl
    ·exact yat (yad h1)
    ·exact yat (yad h2)
    ·exact yat (yad h3)
    ·exact yat (yad g4)
    ·exact yat (yad g5)
   rw[qz hb1]
   exact(hf b hb).1
 done:=by
  intro X hP hw hK hc i pins s σ H E I hf st hg
  subst hP hw hK
  obtain⟨hlt,hx,hy⟩:=hg
  obtain⟨h1,h2,⟨p,q,h3⟩,h4,h5⟩:=st
  obtain⟨it1,r1,p1,z1⟩:=I.tuple hx
  obtain⟨it2,r2,p2,z2⟩:=I.tuple hy
  have hT:s.TypeIs (.ref z) "zip":=⟨_,h1,rfl⟩
  have hh:X.A.in1.handled=none:=I.ok.hd hc
  unfold yci
  refine yaa (ydD (wpAny_callSpecial?_slot (name:=ybo "__next__") hT ybx (ybi ybx hT ycV
   (qdT hh (ya hh i1 a1 n1 it1.toArray) (ya hh i2 a2 n2 it2.toArray) ap h1 h2 h3 ⟨h4,p1⟩ ⟨h5,p2⟩ (by rw[sT_,sT_,<-r1.length,<-r2.length];exact hlt) λh' tk e kp he=>?_) (ycH _))))
  obtain⟨o,ho,hcl⟩:=he
  refine yaa (ydX (T:="StopIteration") (b:=true) ⟨o,ho,hcl⟩ yeB (yac ⟨rfl,qfM I (λb u hb e=>?_) hf⟩))
  simp only[yan,nN_,or_false,not_or]at hb
  exact kp b u hb.1 hb.2.2.1 hb.2.2.2.1 hb.2.2.2.2 e
 self:=λA i s Q E st h=>ydY st.1 h
section
variable{X:Cx}{c:Fc}{a b e:Expr}{pos:Pos}{es:List Expr}{kk:Nat}{tp:Pos}
theorem qjs (n l1 l2:Nat) (h1:l1<n) (h2:l2<n):ZAp (n+4) (n+2) (n+3) n (n+1) [n,l1] [n+1,l2]:=by
 refine⟨?_,?_,?_,?_,?_,?_,?_,?_,?_,?_,?_,?_,?_,?_,?_,?_⟩<;>simp only[yan,nN_,or_false,not_or,ne_eq]<;>(unfold Addr at *)<;>omega
def qoh(K:Fr0)(ta:TA):TI:=λσ H R=>ta σ H λvs H1=>∃a1 a2 xs ys,vs=[.ref a1,.ref a2]/\SqT K H1 a1 xs/\SqT K H1 a2 ys/\R (Itz K a1 a2 xs ys) H1
theorem qlo {ta:TA} {p:Pos} (hg:Gl X "zip") (hm:X.mg "zip"=none) (ha:PA X [a,b] ta) (hs:yae [a,b] X.env=[(false,eval a X.env),(false,eval b X.env)]:=by rfl) (hs2:yae [b] X.env=[(false,eval b X.env)]:=by rfl) :
  PI X (.Tuple es kk tp) (.Call (.Name "zip" p) [a,b] [] pos) (qoh X.K ta):=by
 intro pins s σ H R I h
 refine Call_ (qaY I hg hm PyProof.Rows.boot_zip (ybH (thn (ha pos pins s σ H _ I h) λus s1 ⟨vs,H1,I1,r1,q1⟩=>?_) (by rw[hs,hs2]) (by rw[hs2];rfl)))
 obtain⟨a1,a2,xs,ys,e1,hx,hy,q⟩:=q1
 subst e1
 obtain⟨u1,u2,rfl,ru1,ru2⟩:=ze.two r1
 cases (show u1=yaf a1 from ru1)
 cases (show u2=yaf a2 from ru2)
 obtain⟨it1,v1,p1,z1⟩:=I1.tuple hx
 obtain⟨it2,v2,p2,z2⟩:=I1.tuple hy
 refine qhj (show s1.heap.IsTuple a1 it1.toArray from p1) (show s1.heap.IsTuple a2 it2.toArray from p2) λh' zz zI zO g1 g2 kp=>?_
 refine ydY zz ?_
 have la1:a1<s1.heap.objs.size:=by obtain⟨o,e,_⟩:=p1;exact yad e
 have la2:a2<s1.heap.objs.size:=by obtain⟨o,e,_⟩:=p2;exact yad e
 have ap:ZAp (s1.heap.objs.size+4) (s1.heap.objs.size+2) (s1.heap.objs.size+3) s1.heap.objs.size (s1.heap.objs.size+1) [s1.heap.objs.size,a1] [s1.heap.objs.size+1,a2]:=by
  exact qjs _ _ _ la1 la2
 refine⟨s1.heap.objs.size+4,[s1.heap.objs.size+4,s1.heap.objs.size+2,s1.heap.objs.size+3,s1.heap.objs.size,s1.heap.objs.size+1],_,_,H1,rfl,I1.kept (t':=s1.toks) kp,qhk (xs:=xs) (ys:=ys) ap (yat la1) (yat (yfq la2)),⟨zz,zI,⟨_,_,zO⟩,g1,g2⟩,λb hb=>?_,q⟩
 simp only[yan,nN_,or_false]at hb
 have hb2:s1.heap.objs.size<=b:=by
  rcases hb with e|e|e|e|e<;>rw[e]
  ·exact ycf _ _
  ·exact ycf _ _
  ·exact ycf _ _
  ·exact yah _
  ·exact ycf _ _
 exact I1.fpOk hb2 (I1.hok.fresh hb2)
def qcY:List D->List D->List D
 |x::xs,y::ys => .tup [x,y]::qcY xs ys
 |_,_=>[]
theorem qdU:∀{xs ys:List D}{i:Nat}{d:D},(qcY xs ys)[i]? = some d->∃x y,xs[i]? = some x/\ys[i]? = some y/\d=.tup [x,y]
 | [],_,_,_,h=>by simp[qcY]at h
 |_::_,[],_,_,h=>by simp[qcY]at h
 |x::xs,y::ys,0,d,h=>by
  have:D.tup [x,y]=d:=by simpa [qcY] using h
  exact⟨x,y,rfl,rfl,this.symm⟩
 |x::xs,y::ys,i+1,d,h=>by
  obtain⟨u,v,h1,h2,h3⟩:=qdU (xs:=xs) (ys:=ys) (i:=i) (d:=d) (by simpa [qcY] using h)
  exact⟨u,v,by simpa using h1,by simpa using h2,h3⟩
theorem qbD:∀(xs ys:List D),(qcY xs ys).length=min xs.length ys.length
 | [],ys=>by simp[qcY]
 |_::_,[]=>by simp[qcY]
 |x::xs,y::ys=>by simp[qcY,qbD xs ys]
theorem qlp {K:Fr0} {A:Addr->Prop} {H:Hp} {ds es:List D} {xs ys:List V} {a1 a2:Addr} (t1:vj K H a1 xs) (t2:vj K H a2 ys) (i1:IsL K A H ds xs) (i2:IsL K A H es ys):qhf K A H (qcY ds es) (Itz K a1 a2 xs ys) where
 go:=λH' i d ex hd=>by
  have hl:i<(qcY ds es).length:=(gI_.mp hd).1
  rw[qbD,<-i1.length,<-i2.length]at hl
  exact⟨hl,(t1.elim (λh => .inl (ex.tup _ _ h)) .inr:vj K H' a1 xs).sq,(t2.elim (λh => .inl (ex.tup _ _ h)) .inr:vj K H' a2 ys).sq⟩
 yl:=λH' i d x H'' ex hd y=>by
  obtain⟨p,u,v,hp,hu,hv,rfl,rfl⟩:=y
  obtain⟨dx,dy,h1,h2,rfl⟩:=qdU hd
  obtain⟨u',g1,g2⟩:=i1.get h1
  obtain⟨v',g3,g4⟩:=i2.get h2
  rw[hu]at g1
  rw[hv]at g3
  cases g1
  cases g3
  have sm:=qu hp (.tup [u,v])
  exact⟨sm,p,[u,v],rfl,.inl qx,u,[v],rfl,Is.ext (Ext.of_same sm) (λ_ h _=>h) (Is.ext ex (λ_ h _=>h) g2),v,[],rfl,Is.ext (Ext.of_same sm) (λ_ h _=>h) (Is.ext ex (λ_ h _=>h) g4),rfl⟩
 stop:=λH' ex=>⟨by rw[qbD,i1.length,i2.length],(t1.elim (λh => .inl (ex.tup _ _ h)) .inr:vj K H' a1 xs).sq,(t2.elim (λh => .inl (ex.tup _ _ h)) .inr:vj K H' a2 ys).sq⟩
def qlq:List D->Option (List D)
 | [.tup xs,.tup ys]=>some (qcY xs ys)
 |_=>none
def qlr(f:M (List D)):M (List D):=bnd f λds=>lift (qlq ds)
theorem qls {f:M (List D)} {p:Pos} (hg:Gl X "zip") (hm:X.mg "zip"=none) (ha:DA X c [a,b] f) (hs:yae [a,b] X.env=[(false,eval a X.env),(false,eval b X.env)]:=by rfl) (hs2:yae [b] X.env=[(false,eval b X.env)]:=by rfl) :
  DI X c (.Tuple es kk tp) (.Call (.Name "zip" p) [a,b] [] pos) (qlr f):=by
 obtain⟨t,pa,w⟩:=ha
 refine⟨_,qlo hg hm pa hs hs2,λρ σ H Q r h=>w ρ σ H _ r (WpL.bndI h λds ρ1 vs H1 r1 i1 g1 h1=>?_)⟩
 obtain⟨es',e,h2⟩:=w6 h1
 unfold qlq at e
 split at e
 ·obtain⟨v,u,rfl,j1,j2⟩:=IsL.inv2 i1
  cases e
  obtain⟨a1,xs,rfl,t1,il1⟩:=Is.tr j1
  obtain⟨a2,ys,rfl,t2,il2⟩:=Is.tr j2
  exact⟨a1,a2,xs,ys,rfl,t1.sq,t2.sq,h2 _ H1 r1 (qlp t1 t2 il1 il2) .refl⟩
 ·cases e
end
theorem uv:fillsNumberSlot (.type "tuple") "mul"=pure false:=by
 first|kernel_rfl|(unfold fillsNumberSlot;kernel_rfl)|decide +kernel
theorem wz:seqRepeat? (.type "tuple")=pure (some (.builtin "tuple.__mul__")):=by
 first|kernel_rfl|(unfold seqRepeat?;kernel_rfl)|decide +kernel
theorem uR (a:Int) (t:Tok) (l:Addr) (dd:Option Addr) (items:Array Value) (n:Nat) (sl:Array (Option Value)) :
  Meets (ybV.«int.__rmul__» ⟨[.int a t,.ref l],[]⟩) (λ_ R s=>s.heap.get? l=some {cls:=.type "tuple",dict:=dd,data:=.seq items n,slots:=sl}/\R (.ok (.ret .notImplemented)) s) :=
 .of_wp λprog w A R s h=>by
  obtain⟨hp,g,d,tk,os⟩:=s
  obtain⟨hl,h⟩:=h
  wp_walk using ybt hl
  exact⟨_,rfl,h⟩
theorem qlt (l:Addr) (dd:Option Addr) (items:Array Value) (n:Nat) (sl:Array (Option Value)) (k:Int) (t:Tok) (h0:¬items.isEmpty=true) (h1:¬(k==1)=true) (h2:¬k<=0) (h3:¬(decide (k < -(2 ^ 63))||decide (k >= 2 ^ 63))=true)
  (h4:¬(items.size:Int)*k>(2 ^ 63-1)/8) (h5:¬Builtin.Tuple.tupleTooMany ((items.size:Int)*k)=true) (h6:((yap k.toNat items).foldl (·++·) #[]).size<=yam) :
  Meets (ybV.«tuple.__mul__» ⟨[.ref l,.int k t],[]⟩) (λ_ R s=>s.heap.get? l=some {cls:=.type "tuple",dict:=dd,data:=.seq items n,slots:=sl} /\
   R (.ok (.ret (.ref s.heap.objs.size))) {s with heap:=s.heap.push {cls:=.type "tuple",data:=.seq ((yap k.toNat items).foldl (·++·) #[])} }) :=
 .of_wp λprog w A R s h=>by
  obtain⟨hp,g,d,tk,os⟩:=s
  obtain⟨hl,h⟩:=h
  have f1:=ydZ
  have f2:=ybX
  have h01:¬(items.isEmpty||k==1)=true:=by simp only[ycs,not_or];exact⟨h0,h1⟩
  have h02:¬(decide (k<=0)||items.isEmpty)=true:=by simp only[ycs,decide_eq_true_eq,not_or];exact⟨h2,h0⟩
  wp_walk using ybt hl
  rw[if_neg h3]
  wp_walk using ybt hl
  rw[if_neg h4]
  wp_walk using ybt hl
  exact⟨_,rfl,h⟩
section
variable{X:Cx}
def qlu(K:Fr0):R2:=λx y H Q=>∃a xs k,x=.ref a/\y=.int k/\SqT K H a xs/\xs≠[]/\2<=k/\xs.length*k.toNat<=yam/\∀p,H p=none->Q (.ref p) (upd H p (.tup (yap k.toNat xs).flatten))
theorem qjt:OpR X (ybe .Mult) (qlu X.K):=by
 intro pins s σ H x y v u Q I rx ry h
 obtain⟨a,xs,k,rfl,rfl,hx,hne,hk,hz,q⟩:=h
 cases rx
 obtain⟨t,rfl⟩:=ry
 obtain⟨its,r,p1,_⟩:=I.tuple hx
 obtain⟨⟨cls,dd,data,sl⟩,ho,hc,n,hd⟩:=id p1
 simp only at hc hd
 subst hc hd
 have hl:=r.length
 have hnew:yeJ (λx1 x2=>x1++x2) #[] (yap k.toNat its.toArray)=(yap k.toNat its).flatten.toArray:=by
  have:=qak its k.toNat []
  rw[ybO]at this
  exact this
 have hlen:(yap k.toNat its).flatten.length=k.toNat*its.length:=qc3 its k.toNat
 have hsl:(yam:Nat)=16777216:=ybT
 have e0:¬its.toArray.isEmpty=true:=by
  intro e
  have:its=[]:=by simpa using e
  rw[this]at hl
  exact hne (List.length_eq_zero_iff.mp hl)
 have pos1:1<=its.length:=by
  cases its with
  |nil=>simp at e0
  |cons z zs=>simp
 have kk:((k.toNat:Nat):Int)=k:=Int.toNat_of_nonneg (by omega)
 have mm:(its.toArray.size:Int)*k=((its.length*k.toNat:Nat):Int):=by rw[sT_,Int.natCast_mul,kk]
 have zz:its.length*k.toNat<=yam:=by rw[<-hl];exact hz
 have kle:k.toNat<=its.length*k.toNat:=Nat.le_mul_of_pos_left _ pos1
 have T1:s.TypeIs (.ref a) "tuple":=⟨_,ho,rfl⟩
 refine ybS (T:="tuple") (U:="int") (by decide) T1 (λs'=>yb6 s' k t) uv yc8 ybv wz F.slot_int_index.lookup
  (ybu ybv (yb6 s k t) ycS (ycG _ _) (uR k t a dd its.toArray n sl)
   ⟨ho,rfl,T1,ybu yd0 T1 ydI (yds _ _) (qlt a dd its.toArray n sl k t e0 (by simp;omega) (by omega) (by simp;omega) (by rw[mm];omega) ?_ (by rw[hnew,sT_,hlen,yfc];exact zz)) ⟨ho,?_⟩⟩)
 ·rw[mm]
  show ¬decide (((its.length*k.toNat:Nat):Int)>(yam:Int))=true
  rw[decide_eq_true_eq]
  omega
 ·rw[hnew]
  refine⟨.ref s.heap.objs.size,_,I.laid (t':=s.toks) (o:=.tup (yap k.toNat xs).flatten) (λb ob q=>Heap.get?_push_of_some _ q) (yah _) ?_,rfl,q _ (I.hok.fresh (yah _))⟩
  exact⟨by rw[qc3,yfc];exact hz,_,r.rep k.toNat,ycZ _ _⟩
def qhl(K:Fr0):R2:=λx y H Q=>(rI qkL (λi j => .int (i*j))) x y H Q\/(qlu K x y H Q\/qnq x y H Q)
theorem jU:OpR X (ybe .Mult) (qhl X.K):=OpR.or qkN (OpR.or qjt qk3)
end
def uS:D->D->Option D
 |.int i,.int j=>if qc6 i j then some (.int (i*j))else none
 |.tup ds,.int k=>if(!ds.isEmpty&&decide (2<=k))&&qQ (ds.length*k.toNat)then some (.tup (yap k.toNat ds).flatten)else none
 |.lst ds,.int k=>if(decide (-(2 ^ 62)<=k)&&decide (k<2 ^ 62))&&qQ (ds.length*k.toNat)then some (.lst (yap k.toNat ds).flatten)else none
 |_,_=>none
theorem IsL.rep {K:Fr0} {A:Addr->Prop} {H:Hp} {ds:List D} {xs:List V} (h:IsL K A H ds xs):∀k:Nat,IsL K A H (yap k ds).flatten (yap k xs).flatten
 |0=>by simp[IsL]
 |k+1=>by
  rw[rS_,rS_,ybA,ybA]
  exact IsL.append h (IsL.rep h k)
theorem zZ {K:Fr0}:OpS K uS (qhl K):=by
 intro A H x y d v u Q hn ix iy e k
 cases x<;>cases y<;>simp only[uS]at e<;>try (cases e;done)
 ·rename_i i j
  obtain⟨e1,e2⟩:=jn e
  subst e2
  cases ix;cases iy
  exact .inl ⟨i,j,rfl,rfl,qg7 e1,k _ H (jG.refl H) rfl⟩
 ·rename_i ds j
  obtain⟨a,xs,rfl,ta,il⟩:=ix
  cases iy
  obtain⟨e1,e2⟩:=jn e
  subst e2
  rw[yal,yal]at e1
  obtain⟨⟨e3,e4⟩,e5⟩:=e1
  refine .inr (.inl ⟨a,xs,j,rfl,rfl,ta.sq,λz=>?_,of_decide_eq_true e4,by rw[il.length];exact of_decide_eq_true e5,λp hp=>k _ _ (qu hp _) ⟨p,_,rfl,.inl qx,IsL.ext (Ext.of_same (qu hp _)) (λ_ h _=>h) (IsL.rep il _)⟩⟩)
  have:=il.length
  rw[z]at this
  have:ds=[]:=List.length_eq_zero_iff.mp this.symm
  rw[this]at e3
  simp at e3
 ·rename_i ds j
  obtain⟨a,xs,rfl,_,ta,il⟩:=ix
  cases iy
  obtain⟨e1,e2⟩:=jn e
  subst e2
  rw[yal,yal]at e1
  obtain⟨⟨e3,e4⟩,e5⟩:=e1
  have e3':=of_decide_eq_true e3
  have e4':=of_decide_eq_true e4
  refine .inr (.inr ⟨a,j,xs,rfl,rfl,ta,by omega,by omega,by rw[il.length];exact of_decide_eq_true e5,λp hp=>k _ _ (qu hp _) ⟨p,_,rfl,hn p hp,qx,IsL.ext (Ext.of_same (qu hp _)) (λ_ h _=>h) (IsL.rep il _)⟩⟩)
def uw:D->Option D
 |.int i=>some (.int (-i))
 |_=>none
def d1(F:D->Option D)(f:M D):M D:=bnd f λx=>lift (F x)
def qju(i j:Int):Bool:=decide (0<=j)&&decide (j<=1000000)&&decide (i.natAbs<2 ^ 64)
def qml:D->D->Option D:=qhZ qju λi j => .int (i ^ j.toNat)
theorem qjv {K:Fr0}:OpS K qml (rI qnm λi j => .int (i ^ j.toNat)):=qfw (λi j h=>by
 unfold qju at h
 rw[yal,yal]at h
 exact⟨of_decide_eq_true h.1.1,of_decide_eq_true h.1.2,of_decide_eq_true h.2⟩) λ_ _ _ _=>rfl
section
variable{X:Cx}{c:Fc}{a b e:Expr}{pos:Pos}
theorem y7 {f:M D} (h:DE X c a f):DE X c (.UnaryOp .USub a pos) (d1 uw f):=by
 obtain⟨t,p,w⟩:=h
 refine⟨_,qmF qkP p,λρ σ H Q r h=>w ρ σ H _ r (Wp.bnd h λd ρ1 v H1 r1 i1 g1 h1=>?_)⟩
 obtain⟨d',e,h2⟩:=h1.lift
 cases d<;>simp only[uw]at e<;>try (cases e;done)
 rename_i i
 cases e
 cases i1
 exact⟨i,rfl,h2 _ H1 r1 rfl .refl⟩
def qjw(X:Cx)(key:Key)(n:Int):TE:=λ_ H Q=>∀p,H p=none->Q (.ref p) (upd H p (.dK [(key,.int n)]))
theorem qlv {pins:List (Addr×Obj)} {σ:St} {H:Hp} {s:yab} (I:Inv X pins σ H s):ycc<s.heap.objs.size:=by
 obtain⟨mb,h1,_⟩:=I.ok.mod.blt
 have hlt:yb4<X.base.objs.size:=h1.lt
 have hle:X.base.objs.size<=s.heap.objs.size:=yaF I.ok.bsz I.sz
 have hd:ycc<yb4\/ycc<yag:=by decide
 have hg:yag<X.base.objs.size:=I.ok.mod.glob.lt
 rcases hd with z|z
 ·exact yaw (Nat.lt_trans z hlt) hle
 ·exact yaw (Nat.lt_trans z hg) hle
theorem qhm {key:Key} {n:Int} {ke:Expr} {j:Nat} {p1:Pos} (hk:∀(s:yab)(Q:Value->yab->Prop)(E:Value->yab->Prop),(∀u tk,qb9 key u=true->Q u {s with toks:=tk})->wpAny (model X.prog X.w) X.A (eval ke X.env) Q E s) :
  PE X (.Dict [some ke] [.Constant (.int n) j p1] pos) (qjw X key n):=by
 intro pins s σ H Q I h
 have hf:H s.heap.objs.size=none:=I.hok.fresh (yah _)
 refine wpAny_Dict_walk (knd:=qad X.prog X.w) rfl rfl (by simp) (by show 1<=15;decide) ?_
 refine evalPairs_cons (hk _ _ _ λu tk hu=>?_)
 refine yaa (ydm (yaa (ycM (yac (evalPairs_nil ?_)))))
 refine⟨[(key,.int n tk)],⟨hu,rfl,trivial⟩,Heap.DictOf.new _,λh' hd sb=>?_⟩
 have e:merged [] [(key,yb2 n tk)]=[(key,yb2 n tk)]:=by simp[merged,stored]
 rw[e]at hd
 refine⟨.ref s.heap.objs.size,upd H s.heap.objs.size (.dK [(key,.int n)]),I.laid (λb o q=>sb.extBut _ _ (yat (yad q)) (Heap.get?_push_of_some _ q)) (yah _) ?_,rfl,h _ hf⟩
 exact⟨by show 1<=yam;decide,beq_eq_false_iff_ne.mpr (yaX (yat (qlv I))),[(key,.int n tk)],.cons ⟨rfl,tk,rfl⟩ .nil,hd⟩
theorem qdV {key:Key} {n:Int} {ke:Expr} {j:Nat} {p1:Pos} (hk:∀(s:yab)(Q:Value->yab->Prop)(E:Value->yab->Prop),(∀u tk,qb9 key u=true->Q u {s with toks:=tk})->wpAny (model X.prog X.w) X.A (eval ke X.env) Q E s) :
  DE X c (.Dict [some ke] [.Constant (.int n) j p1] pos) (ret (.dic [(key,n)])):=by
 refine⟨_,qhm hk,λρ σ H Q r h p hp=>h _ _ (r.laid hp _) ⟨p,rfl,r.new hp,qx⟩ (.of_same (qu hp _))⟩
theorem qhn {i n:Int} {j j2:Nat} {p1 p2:Pos}:DE X c (.Dict [some (.Constant (.int i) j2 p2)] [.Constant (.int n) j p1] pos) (ret (.dic [(.inl i,n)])) :=
 qdV λs Q E h=>ydm (h _ _ (qe3 _ _))
theorem qho {x:Str} {n:Int} {j j2:Nat} {p1 p2:Pos}:DE X c (.Dict [some (.Constant (.str x) j2 p2)] [.Constant (.int n) j p1] pos) (ret (.dic [(.inr x,n)])) :=
 qdV λs Q E h=>ye3 (h _ _ (qe4 _ _))
def qjx (i j:Nat) (f:M (List D)):MS:=sbnd f λds ρ=>match ds with
 | [d,e] => .ok (.nx ((ρ.set i (some d)).set j (some e)))
 |_ => .bad
theorem qib {i j:Nat} {x y:Str} {f:M (List D)} {px py pt:Pos} {kt k2 pt2} (hN:X.N.Nodup) (ha:DA X c [a,b] f) (hw:ycO [.Tuple [.Name x px,.Name y py] kt pt] (.Tuple [a,b] k2 pt2) X.env=pure (some [x,y])) (hc:X.calm=true:=by rfl) (hi:X.N[i]? = some x:=by rfl) (hj:X.N[j]? = some y:=by rfl) (hij:i≠j:=by decide)
  (hx:X.env.scope.names.lookup x=some .local:=by rfl) (hy:X.env.scope.names.lookup y=some .local:=by rfl) (ho:i ∉ c.O:=by exact of_decide_eq_false rfl) (hp:j ∉ c.O:=by exact of_decide_eq_false rfl)
  (hs:ycN [.Tuple [.Name x px,.Name y py] kt pt] (.Tuple [a,b] k2 pt2) pos.line X.env=pure false:=by rfl) :
  DS X c (.Assign [.Tuple [.Name x px,.Name y py] kt pt] (.Tuple [a,b] k2 pt2) pos) (qjx i j f):=by
 obtain⟨t,p,w⟩:=ha
 refine⟨_,qkI hc hN hi hj hij hx hy p hw hs,λρ σ H D r h=>w ρ σ H _ r (WpL.sbnd h λds ρ1 vs H1 r1 i1 g1 h1=>?_)⟩
 match ds,i1,h1 with
 | [],_,h1=>exact h1.elim
 | [_],_,h1=>exact h1.elim
 | [d,e],i1,h1=>
  obtain⟨v,u,rfl,j1,j2⟩:=IsL.inv2 i1
  refine⟨v,u,rfl,h1 _ H1 ((r1.set ho j1).set hp ?_) ((GrS.set ho).trans (GrS.set hp))⟩
  exact(GrS.set (H:=H1) ho).is j2
 |_::_::_::_,_,h1=>exact h1.elim
mutual
def immF:D->Bool
 |.tup ds=>immFs ds
 |.lst _=>false
 |.dic _=>false
 |_=>true
def immFs:List D->Bool
 | []=>true
 |d::ds=>immF d&&immFs ds
end
mutual
theorem Is.immF {K:Fr0} {A B:Addr->Prop} {H:Hp}:∀{d:D}{v:V},immF d=true->Is K A H d v->Is K B H d v
 |.non,_,_,h=>h
 |.bl _,_,_,h=>h
 |.int _,_,_,h=>h
 |.str _,_,_,h=>h
 |.tup ds,_,i,⟨a,xs,hv,h,r⟩=>⟨a,xs,hv,h,IsL.immF (by simpa [Sk.immF] using i) r⟩
 |.lst _,_,i,_=>by simp[Sk.immF]at i
 |.dic _,_,i,_=>by simp[Sk.immF]at i
 |.fz _,_,_,h=>h
 |.exc _,_,_,h=>h
theorem IsL.immF {K:Fr0} {A B:Addr->Prop} {H:Hp}:∀{ds:List D}{xs:List V},immFs ds=true->IsL K A H ds xs->IsL K B H ds xs
 | [],_,_,h=>h
 |d::ds,_,i,⟨x,ys,hx,h,r⟩=>by
  have i':Sk.immF d=true/\immFs ds=true:=by simpa [immFs] using i
  exact⟨x,ys,hx,Is.immF i'.1 h,IsL.immF i'.2 r⟩
end
def vG (F:List D->R D) (g:M (List D)):M (List D):=bnd g λds ρ=>if immFs ds then match F ds with
 |.ok (.lst bs)=>if immL bs then .ok (bs,ρ)else .bad
 |_ => .bad else .bad
theorem qjy {k:Nat} {f:Addr} {fd:yaM} {ps:List Str} {F:List D->R D} {x:Str} {p:Pos} {es:List Expr} {g:M (List D)} (G:vi X.prog X.w X.K X.mg X.base CX0 k f fd ps (spD X.K F)) (hr:uH k X.A) (hg:Gl X x) (hm:X.mg x=some (.ref f)) (hk:yaj X.K (.ref f)=true) (hb:uM X.K fd ps [])
  (ha:DA X c (e::es) g) (hd:(x==("__debug__":Str))=false:=by decide) (he:yae (e::es) X.env=(false,eval e X.env)::yae es X.env:=by rfl) (hpl:(yaQ pos (yae es X.env)).any (·.1)=false:=by rfl):DN X c (.Call (.Name x p) (e::es) [] pos) (vG F g):=by
 obtain⟨t,pa,w⟩:=ha
 refine⟨_,qag G hr hg hm hk hb .nil qi6 pa hd he hpl,λρ σ H Q r h=>w ρ σ H _ r (WpL.bndN h λds ρ1 vs H1 r1 i1 g1 h1=>?_)⟩
 rw[ybn]
 by_cases him:immFs ds=true
 ·rw [if_pos him]at h1
  refine⟨ds,λ_=>False,IsL.immF him i1,r1.tb,?_⟩
  cases ef:F ds with
  |bad=>simp only[ef]at h1;exact h1.elim
  |exc z ρ'=>simp only[ef]at h1;exact h1.elim
  | ok d=>
   cases d with
   | lst bs=>
    simp only[ef]at h1
    by_cases hb2:immL bs=true
    ·rw[if_pos hb2]at h1
     intro v H' sm i
     obtain⟨a,xs,rfl,hA,ha2,il⟩:=i
     have hn:H1 a=none:=hA.elim yaV id
     exact h1 a xs H' hn (r1.same sm) (r1.apart_same hn sm) ha2 trivial (IsL.imm hb2 il) (.of_same sm)
    ·rw[if_neg hb2]at h1;exact h1.elim
   |_=>simp only[ef]at h1;exact h1.elim
 ·rw[if_neg him]at h1;exact h1.elim
end
structure qjz (outer:Scope) (N:List Str) (scope:Scope) (N':List Str) (nt:Nat) (fr:List Nat):Prop where
 kind:scope.kind=.function
 nocell:∀y∈scope.names,y.2 ≠ .cell
 names:∀y∈scope.names,y.2=.local->scope.names.lookup y.1=some .local
 frees:∀y∈scope.names,y.2=.free->outer.names.lookup y.1=some .cell
 len:N'.length=nt+fr.length
 slots:∀p∈fr.zipIdx,N'[nt+p.2]? = N[p.1]? /\ ((N[p.1]?).bind λx=>scope.names.lookup x)=some .free
theorem qjz.ok {X:Cx} {outer:Scope} {N:List Str} {scope:Scope} {N':List Str} {nt:Nat} {fr:List Nat} (S:qjz outer N scope N' nt fr) (h1:X.env.scope=outer) (h2:X.N=N):jK X scope N' nt fr:=by
 subst h1 h2
 refine⟨S.kind,S.nocell,S.names,S.frees,S.len,λi j h=>?_⟩
 have hm:(j,i)∈fr.zipIdx:=by
  rw[yeC]
  refine⟨i,?_⟩
  rw[List.getElem?_zipIdx,h]
  simp
 obtain⟨h3,h4⟩:=S.slots (j,i) hm
 cases e:X.N[j]? with
 |none=>
  have h4':((X.N[j]?).bind λx=>scope.names.lookup x)=some .free:=h4
  rw[e]at h4';cases h4'
 | some x=>
  have h4':((X.N[j]?).bind λx=>scope.names.lookup x)=some .free:=h4
  rw[e]at h4'
  exact ⟨x,by
    have h3':N'[nt+i]? = X.N[j]? := h3
    rw[h3',e],rfl,h4'⟩
structure zG (P:yao) (w:World) (K:yai) (mg:Str->Option Value) (base:Heap) (k:Nat) (x:Str) (ps:List Str) (sp:Sp):Prop where
 ex:∃f fd,vi P w K mg base CX0 k f fd ps sp/\mg x=some (.ref f)/\yaj K (.ref f)=true/\uM K fd ps []
theorem y8:yaz "len"=some (.builtin "len"):=by decide +kernel
theorem qlw:yaz "abs"=some (.builtin "abs"):=by decide +kernel
theorem qfN:yaz "max"=some (.builtin "max"):=by decide +kernel
theorem qfO:yaz "min"=some (.builtin "min"):=by decide +kernel
theorem qct:yaz "all"=some (.builtin "all"):=by decide +kernel
theorem qfP:yaz "divmod"=some (.builtin "divmod"):=by decide +kernel
theorem wA:yaz "repr"=some (.builtin "repr"):=by decide +kernel
theorem qic:yaz "int"=some (.type "int"):=by decide +kernel
theorem qfQ:yaz "bool"=some (.type "bool"):=by decide +kernel
theorem yb:yaz "tuple"=some (.type "tuple"):=by decide +kernel
theorem qdb:yaz "list"=some (.type "list"):=by decide +kernel
theorem qy:yaz "isinstance"=some (.builtin "isinstance"):=by decide +kernel
def ju:MS:=λρ => .ok (.nx ρ)
theorem qM{X:Cx}{c:Fc}:DSs X c [] ju:=qi9
theorem zb{X:Cx}:IxR X (λx y H Q=>qmN X.K x y H Q\/qmO X.K x y H Q):=qfr.or qkY
theorem qjA {c:Fc} {nt:Nat} {fr:List Nat} {i j:Nat} (h1:j∈c.O) (h2:nt<=i) (h3:fr[i-nt]? = some j) (h4:∀p∈fr.zipIdx,nt+p.2≠i->p.1 ∉ c.O):qji c nt fr (some (i,j)) :=
 ⟨h1,h2,h3,λk j' h hk=>h4 (j',k) (by rw[yeC];exact⟨k,by rw[List.getElem?_zipIdx,h];simp⟩) hk⟩
def eqB (x y:D):Option D:=match sc2 x y with
 |some b=>some (.bl b)
 |none=>eqA x y
def neB (x y:D):Option D:=match sc2 x y with
 |some b=>some (.bl (!b))
 |none=>neA x y
theorem wR{X:Cx}{k:Nat}(hr:uH k X.A):OpR X (ybb .Eq) (λx y H Q=>rEq x y H Q\/qh7 X.K false x y H Q):=OpR.or qmI (qlm hr)
theorem vt{X:Cx}{k:Nat}(hr:uH k X.A):OpR X (ybb .NotEq) (λx y H Q=>rNe x y H Q\/qh7 X.K true x y H Q):=OpR.or qkQ (qh8 hr)
theorem uT {K:Fr0}:OpS K eqB (λx y H Q=>rEq x y H Q\/qh7 K false x y H Q):=by
 intro A H x y d v u Q hn ix iy e k
 unfold eqB at e
 cases e1:sc2 x y with
 |some b=>simp only[e1]at e;exact .inl (qja A H x y d v u Q hn ix iy (by unfold eqS;rw[e1];exact e) k)
 |none=>simp only[e1]at e;exact .inr (qjo A H x y d v u Q hn ix iy e k)
theorem ue {K:Fr0}:OpS K neB (λx y H Q=>rNe x y H Q\/qh7 K true x y H Q):=by
 intro A H x y d v u Q hn ix iy e k
 unfold neB at e
 cases e1:sc2 x y with
 |some b=>simp only[e1]at e;exact .inl (qfA A H x y d v u Q hn ix iy (by unfold neS;rw[e1];exact e) k)
 |none=>simp only[e1]at e;exact .inr (qjp A H x y d v u Q hn ix iy e k)
end L2.Sk
namespace L2.Sk
section
variable{α β:Type}{ρ:Env}{f g k:M D}{t u:M Bool}{l m:M (List D)}{p q r:MS}
theorem qaQ(a:α):ret a ρ=.ok (a,ρ):=rfl
theorem qfR(o:Option α):lift o ρ=match o with|some a => .ok (a,ρ)|none => .bad:=by cases o<;>rfl
theorem qmU{f:M α}{k:α->M β}:bnd f k ρ=match f ρ with|.ok (a,ρ')=>k a ρ'|.exc x ρ' => .exc x ρ'|.bad => .bad:=rfl
theorem qnu(i:Nat):dv i ρ=match ρ[i]? with|some (some d) => .ok (d,ρ)|_ => .bad:=rfl
theorem z8:qa f l ρ=match f ρ with|.ok (d,ρ1)=>(match l ρ1 with|.ok (ds,ρ2) => .ok (d::ds,ρ2)|.exc x ρ' => .exc x ρ'|.bad => .bad)|.exc x ρ' => .exc x ρ'|.bad => .bad:=by
 simp only[qa,bnd,sbnd]
 cases f ρ with
 |ok z=>
  obtain⟨z1,ρ1⟩:=z
  simp only[ret]
  cases l ρ1 with
  |ok z=>obtain⟨z2,ρ2⟩:=z;rfl
  |exc x ρ'=>rfl
  |bad=>rfl
 |exc x ρ'=>rfl
 |bad=>rfl
theorem qcu:jf l ρ=match l ρ with|.ok (ds,ρ1)=>(if qQ ds.length then .ok (.tup ds,ρ1)else .bad)|.exc x ρ' => .exc x ρ'|.bad => .bad:=by
 simp only[jf,bnd,sbnd]
 cases l ρ with
 |ok z=>
  obtain⟨z1,ρ1⟩:=z
  cases h:qQ z1.length<;>simp[h,lift,ret]
 |exc x ρ'=>rfl
 |bad=>rfl
theorem vT:jP l ρ=match l ρ with|.ok (ds,ρ1)=>(if qQ ds.length then .ok (.lst ds,ρ1)else .bad)|.exc x ρ' => .exc x ρ'|.bad => .bad:=by
 simp only[jP,bnd,sbnd]
 cases l ρ with
 |ok z=>
  obtain⟨z1,ρ1⟩:=z
  cases h:qQ z1.length<;>simp[h,lift,ret]
 |exc x ρ'=>rfl
 |bad=>rfl
theorem qid:qll l ρ=match l ρ with|.ok (ds,ρ1)=>(if immL ds&&qQ ds.length then .ok (ds,ρ1)else .bad)|.exc x ρ' => .exc x ρ'|.bad => .bad:=by
 simp only[qll,bnd,sbnd]
 cases l ρ with
 |ok z=>
  obtain⟨z1,ρ1⟩:=z
  cases h:(immL z1&&qQ z1.length)<;>simp[h,lift,ret]
 |exc x ρ'=>rfl
 |bad=>rfl
theorem qmm (F:D->D->Option D):d2 F f g ρ=match f ρ with|.ok (x,ρ1)=>(match g ρ1 with|.ok (y,ρ2)=>(match F x y with|some d => .ok (d,ρ2)|none => .bad)|.exc x ρ' => .exc x ρ'|.bad => .bad)|.exc x ρ' => .exc x ρ'|.bad => .bad:=by
 simp only[d2,bnd,sbnd]
 cases f ρ with
 |ok z=>
  obtain⟨z1,ρ1⟩:=z
  dsimp only <;>
  cases g ρ1 with
  |ok z=>obtain⟨z2,ρ2⟩:=z;(dsimp only;cases F z1 z2<;>rfl)
  |exc x ρ'=>rfl
  |bad=>rfl
 |exc x ρ'=>rfl
 |bad=>rfl
theorem qnv (F:D->Option D):d1 F f ρ=match f ρ with|.ok (x,ρ1)=>(match F x with|some d => .ok (d,ρ1)|none => .bad)|.exc x ρ' => .exc x ρ'|.bad => .bad:=by
 simp only[d1,bnd,sbnd]
 cases f ρ with
 |ok z=>
  obtain⟨z1,ρ1⟩:=z
  (dsimp only;cases F z1<;>rfl)
 |exc x ρ'=>rfl
 |bad=>rfl
theorem wB (F:List D->Option D):qp F l ρ=match l ρ with|.ok (xs,ρ1)=>(match F xs with|some d => .ok (d,ρ1)|none => .bad)|.exc x ρ' => .exc x ρ'|.bad => .bad:=by
 simp only[qp,bnd,sbnd]
 cases l ρ with
 |ok z=>
  obtain⟨z1,ρ1⟩:=z
  (dsimp only;cases F z1<;>rfl)
 |exc x ρ'=>rfl
 |bad=>rfl
theorem u9 (F:List D->R D):qq F l ρ=match l ρ with|.ok (xs,ρ1)=>(match F xs with|.ok d => .ok (d,ρ1)|_ => .bad)|.exc x ρ' => .exc x ρ'|.bad => .bad:=by
 simp only[qq,bnd,sbnd]
 cases l ρ with
 |ok z=>
  obtain⟨z1,ρ1⟩:=z
  cases F z1<;>rfl
 |exc x ρ'=>rfl
 |bad=>rfl
theorem qfS (T:String):qa2 T f ρ=match f ρ with|.ok (d,ρ1) => .ok (.bl (qbz (tyD d) T),ρ1)|.exc x ρ' => .exc x ρ'|.bad => .bad:=by
 simp only[qa2,bnd,sbnd]
 cases f ρ with
 |ok z=>
  obtain⟨z1,ρ1⟩:=z
  rfl
 |exc x ρ'=>rfl
 |bad=>rfl
theorem qjB:tst f ρ=match f ρ with|.ok (d,ρ1)=>(match asB d with|some b => .ok (b,ρ1)|none => .bad)|.exc x ρ' => .exc x ρ'|.bad => .bad:=by
 simp only[tst,bnd,sbnd]
 cases f ρ with
 |ok z=>
  obtain⟨z1,ρ1⟩:=z
  (dsimp only;cases asB z1<;>rfl)
 |exc x ρ'=>rfl
 |bad=>rfl
theorem wS(b:Bool):asB (.bl b)=some b:=rfl
theorem qfT:vK t ρ=match t ρ with|.ok (b,ρ1) => .ok (!b,ρ1)|.exc x ρ' => .exc x ρ'|.bad => .bad:=by
 simp only[vK,bnd,sbnd]
 cases t ρ with
 |ok z=>
  obtain⟨z1,ρ1⟩:=z
  rfl
 |exc x ρ'=>rfl
 |bad=>rfl
theorem qie:qi7 t u ρ=match t ρ with|.ok (b,ρ1)=>(bif b then u ρ1 else .ok (false,ρ1))|.exc x ρ' => .exc x ρ'|.bad => .bad:=by
 simp only[qi7,bnd,sbnd]
 cases t ρ with
 |ok z=>
  obtain⟨z1,ρ1⟩:=z
  cases z1<;>rfl
 |exc x ρ'=>rfl
 |bad=>rfl
theorem qhp:tor t u ρ=match t ρ with|.ok (b,ρ1)=>(bif b then .ok (true,ρ1)else u ρ1)|.exc x ρ' => .exc x ρ'|.bad => .bad:=by
 simp only[tor,bnd,sbnd]
 cases t ρ with
 |ok z=>
  obtain⟨z1,ρ1⟩:=z
  cases z1<;>rfl
 |exc x ρ'=>rfl
 |bad=>rfl
theorem qdW:qcW f g ρ=match f ρ with|.ok (d,ρ1)=>(match asB d with|some b=>(bif b then g ρ1 else .ok (.bl false,ρ1))|none => .bad)|.exc x ρ' => .exc x ρ'|.bad => .bad:=by
 simp only[qcW,bnd,sbnd]
 cases f ρ with
 |ok z=>
  obtain⟨z1,ρ1⟩:=z
  simp only[qfR]
  cases asB z1 with
  |none=>rfl
  |some b=>cases b<;>rfl
 |exc x ρ'=>rfl
 |bad=>rfl
theorem qlx:dor f g ρ=match f ρ with|.ok (d,ρ1)=>(match asB d with|some b=>(bif b then .ok (.bl true,ρ1)else g ρ1)|none => .bad)|.exc x ρ' => .exc x ρ'|.bad => .bad:=by
 simp only[dor,bnd,sbnd]
 cases f ρ with
 |ok z=>
  obtain⟨z1,ρ1⟩:=z
  simp only[qfR]
  cases asB z1 with
  |none=>rfl
  |some b=>cases b<;>rfl
 |exc x ρ'=>rfl
 |bad=>rfl
theorem qif:qk7 f ρ=match f ρ with|.ok (d,ρ1)=>(match asB d with|some b => .ok (.bl (!b),ρ1)|none => .bad)|.exc x ρ' => .exc x ρ'|.bad => .bad:=by
 simp only[qk7,bnd,sbnd]
 cases f ρ with
 |ok z=>
  obtain⟨z1,ρ1⟩:=z
  simp only[qfR]
  cases asB z1 with
  |none=>rfl
  |some b=>cases b<;>rfl
 |exc x ρ'=>rfl
 |bad=>rfl
theorem qhq:dif t f g ρ=match t ρ with|.ok (b,ρ1)=>(bif b then f ρ1 else g ρ1)|.exc x ρ' => .exc x ρ'|.bad => .bad:=by
 simp only[dif,bnd,sbnd]
 cases t ρ with
 |ok z=>
  obtain⟨z1,ρ1⟩:=z
  cases z1<;>rfl
 |exc x ρ'=>rfl
 |bad=>rfl
theorem qhr:sif t p q ρ=match t ρ with|.ok (b,ρ1)=>(bif b then p ρ1 else q ρ1)|.exc x ρ' => .exc x ρ'|.bad => .bad:=by
 simp only[sif,bnd,sbnd]
 cases t ρ with
 |ok z=>
  obtain⟨z1,ρ1⟩:=z
  cases z1<;>rfl
 |exc x ρ'=>rfl
 |bad=>rfl
theorem qig:qH p q ρ=match p ρ with|.ok (.nx ρ')=>q ρ'|z=>z:=by
 unfold qH
 cases p ρ with
 |ok z=>cases z<;>rfl
 |exc x ρ'=>rfl
 |bad=>rfl
theorem qa9:zK f ρ=match f ρ with|.ok (d,ρ1) => .ok (.rt d ρ1)|.exc x ρ' => .exc x ρ'|.bad => .bad:=by
 simp only[zK,bnd,sbnd]
 cases f ρ with
 |ok z=>
  obtain⟨z1,ρ1⟩:=z
  rfl
 |exc x ρ'=>rfl
 |bad=>rfl
theorem qdX (i:Nat):zC i f ρ=match f ρ with|.ok (d,ρ1) => .ok (.nx (ρ1.set i (some d)))|.exc x ρ' => .exc x ρ'|.bad => .bad:=by
 simp only[zC,bnd,sbnd]
 cases f ρ with
 |ok z=>
  obtain⟨z1,ρ1⟩:=z
  rfl
 |exc x ρ'=>rfl
 |bad=>rfl
theorem qav (i:Nat):yK i l ρ=match l ρ with|.ok (ds,ρ1) => .ok (.nx (ρ1.set i (some (.lst ds))))|.exc x ρ' => .exc x ρ'|.bad => .bad:=by
 simp only[yK,bnd,sbnd]
 cases l ρ with
 |ok z=>
  obtain⟨z1,ρ1⟩:=z
  rfl
 |exc x ρ'=>rfl
 |bad=>rfl
theorem vH:jr f ρ=match f ρ with|.ok (_,ρ1) => .ok (.nx ρ1)|.exc x ρ' => .exc x ρ'|.bad => .bad:=by
 simp only[jr,bnd,sbnd]
 cases f ρ with
 |ok z=>
  obtain⟨z1,ρ1⟩:=z
  rfl
 |exc x ρ'=>rfl
 |bad=>rfl
theorem qih:ju ρ=.ok (.nx ρ):=rfl
theorem qii (i j:Nat):qjx i j l ρ=match l ρ with|.ok ([d,e],ρ1) => .ok (.nx ((ρ1.set i (some d)).set j (some e)))|.ok _ => .bad|.exc x ρ' => .exc x ρ'|.bad => .bad:=by
 simp only[qjx,bnd,sbnd]
 cases l ρ with
 |ok z=>
  obtain⟨z1,ρ1⟩:=z
  match z1 with
  | []=>rfl
  | [_]=>rfl
  | [_,_]=>rfl
  |_::_::_::_=>rfl
 |exc x ρ'=>rfl
 |bad=>rfl
theorem qij (G:D->Env->Option Env):qla f G ρ=match f ρ with|.ok (d,ρ1)=>(match G d ρ1 with|some ρ2 => .ok (.nx ρ2)|none => .bad)|.exc x ρ' => .exc x ρ'|.bad => .bad:=by
 simp only[qla,bnd,sbnd]
 cases f ρ with
 |ok z=>
  obtain⟨z1,ρ1⟩:=z
  dsimp only <;>
  cases G z1 ρ1<;>rfl
 |exc x ρ'=>rfl
 |bad=>rfl
theorem yL (G:D->Env->Option Env) (b:MS):vn l G b ρ=match l ρ with|.ok (ds,ρ1)=>yk G b ds ρ1|.exc x ρ' => .exc x ρ'|.bad => .bad:=by
 simp only[vn,bnd,sbnd]
 cases l ρ with
 |ok z=>
  obtain⟨z1,ρ1⟩:=z
  rfl
 |exc x ρ'=>rfl
 |bad=>rfl
theorem qfU:yt f ρ=match f ρ with|.ok (d,ρ1)=>(match qmk d with|some ds => .ok (ds,ρ1)|none => .bad)|.exc x ρ' => .exc x ρ'|.bad => .bad:=by
 simp only[yt,bnd,sbnd]
 cases f ρ with
 |ok z=>
  obtain⟨z1,ρ1⟩:=z
  (dsimp only;cases qmk z1<;>rfl)
 |exc x ρ'=>rfl
 |bad=>rfl
theorem qfV:zn l ρ=match l ρ with|.ok (d,ρ1)=>(match qh5 d with|some ds => .ok (ds,ρ1)|none => .bad)|.exc x ρ' => .exc x ρ'|.bad => .bad:=by
 simp only[zn,bnd,sbnd]
 cases l ρ with
 |ok z=>
  obtain⟨z1,ρ1⟩:=z
  (dsimp only;cases qh5 z1<;>rfl)
 |exc x ρ'=>rfl
 |bad=>rfl
theorem qfW:qlr l ρ=match l ρ with|.ok (d,ρ1)=>(match qlq d with|some ds => .ok (ds,ρ1)|none => .bad)|.exc x ρ' => .exc x ρ'|.bad => .bad:=by
 simp only[qlr,bnd,sbnd]
 cases l ρ with
 |ok z=>
  obtain⟨z1,ρ1⟩:=z
  (dsimp only;cases qlq z1<;>rfl)
 |exc x ρ'=>rfl
 |bad=>rfl
theorem qbE {nt:Nat} {fr:List Nat} {fo:Option (Nat×Nat)} {G:D->Env->Option Env} {e:M D}:zo nt fr fo l G t e ρ=match l ρ with
  |.ok (ds,ρ1)=>(match zB G t e ds [] (yp nt fr ρ1) with|.ok (ys,ρe) => .ok (.lst ys,qjh fo ρe ρ1)|_ => .bad)|.exc x ρ' => .exc x ρ'|.bad => .bad:=by
 simp only[zo,bnd,sbnd]
 cases l ρ with
 |ok z=>
  obtain⟨z1,ρ1⟩:=z
  dsimp only <;>
  cases zB G t e z1 [] (yp nt fr ρ1) with
  |ok z=>obtain⟨z2,ρ2⟩:=z;rfl
  |exc x ρ'=>rfl
  |bad=>rfl
 |exc x ρ'=>rfl
 |bad=>rfl
theorem vU (F:List D->List D->R (D×List D)) (i:Nat):qm F i l ρ=match zJ i ρ with
  |none => .bad
  | some _=>(match l ρ with
   |.ok (ds,ρ1)=>(match zJ i ρ1 with
    |none => .bad
    |some bs=>(match F bs ds with|.ok (d,bs') => .ok (d,ρ1.set i (some (.lst bs')))|_ => .bad))
   |.exc x ρ' => .exc x ρ'|.bad => .bad):=by
 simp only[qm,bnd]
 cases zJ i ρ with
 |none=>rfl
 | some _=>
  dsimp only <;>
  cases l ρ with
  | ok z=>
   obtain⟨z1,ρ1⟩:=z
   dsimp only <;>
   cases zJ i ρ1 with
   |none=>rfl
   |some bs=>
    dsimp only <;>
    cases F bs z1 with
    |ok z=>obtain⟨z2,z3⟩:=z;rfl
    |exc x ρ'=>rfl
    |bad=>rfl
  |exc x ρ'=>rfl
  |bad=>rfl
theorem qdc (F:List D->R D):vG F l ρ=match l ρ with
  |.ok (ds,ρ1)=>(if immFs ds then(match F ds with|.ok (.lst bs)=>(if immL bs then .ok (bs,ρ1)else .bad)|_ => .bad)else .bad)|.exc x ρ' => .exc x ρ'|.bad => .bad:=by
 simp only[vG,bnd,sbnd]
 cases l ρ with
 | ok z=>
  obtain⟨z1,ρ1⟩:=z
  dsimp only <;>
  cases immFs z1 with
  |false=>rfl
  |true=>
   simp only[if_true]
   cases F z1 with
   |ok z=>cases z<;>rfl
   |exc x ρ'=>rfl
   |bad=>rfl
 |exc x ρ'=>rfl
 |bad=>rfl
theorem qfX (i:Nat):qa6 i f ρ=match zJ i ρ with
  |none => .bad
  | some _=>(match f ρ with
   |.ok (k,ρ1)=>(match k,zJ i ρ1 with
    |.int n,some ds=>(match atI ds n with|some d => .ok (d,ρ1)|none => .bad)
    |_,_ => .bad)
   |.exc x ρ' => .exc x ρ'|.bad => .bad):=by
 simp only[qa6,bnd]
 cases zJ i ρ with
 |none=>rfl
 | some _=>
  dsimp only <;>
  cases f ρ with
  |ok z=>
   obtain⟨z1,ρ1⟩:=z
   dsimp only <;>
   cases z1<;>cases zJ i ρ1<;>try rfl
  |exc x ρ'=>rfl
  |bad=>rfl
theorem qfY (i:Nat):qhg i k f ρ=match f ρ with
  | .ok (d,ρ1)=>(match zJ i ρ1 with
   |none => .bad
   | some _=>(match k ρ1 with
    | .ok (j,ρ2)=>(match j,zJ i ρ2 with
     |.int n,some ds=>(match ixN ds.length n with
      |some q=>if imm d then .ok (.nx (ρ2.set i (some (.lst (ds.set q d)))))else .bad
      |none => .bad)
     |_,_ => .bad)
    |.exc x ρ' => .exc x ρ'|.bad => .bad))
  |.exc x ρ' => .exc x ρ'|.bad => .bad:=by
 simp only[qhg,bnd,sbnd]
 cases f ρ with
 | ok z=>
  obtain⟨z1,ρ1⟩:=z
  dsimp only <;>
  cases zJ i ρ1 with
  |none=>rfl
  | some _=>
   dsimp only <;>
   cases k ρ1 with
   |ok z=>
    obtain⟨z2,ρ2⟩:=z
    dsimp only <;>
    cases z2<;>cases zJ i ρ2<;>try rfl
   |exc x ρ'=>rfl
   |bad=>rfl
 |exc x ρ'=>rfl
 |bad=>rfl
theorem qfZ (i:Nat):qcr i ρ=match zJ i ρ with|some ds => .ok (.int ds.length,ρ)|none => .bad:=by
 unfold qcr
 cases zJ i ρ<;>rfl
theorem qf0 (i:Nat):qeD i ρ=match zJ i ρ with|some ds => .ok (.tup ds,ρ)|none => .bad:=by
 unfold qeD
 cases zJ i ρ<;>rfl
theorem qik (i:Nat):qh9 i f ρ=match zJ i ρ with
  |none => .bad
  | some _=>(match f ρ with
   |.ok (y,ρ1)=>(match zJ i ρ1 with
    |none => .bad
    |some ds=>(match neA (.lst ds) y with|some d => .ok (d,ρ1)|none => .bad))
   |.exc x ρ' => .exc x ρ'|.bad => .bad):=by
 simp only[qh9,bnd]
 cases zJ i ρ with
 |none=>rfl
 | some _=>
  dsimp only <;>
  cases f ρ with
  |ok z=>
   obtain⟨z1,ρ1⟩:=z
   dsimp only <;>
   cases zJ i ρ1 with
   |none=>rfl
   |some ds=>(dsimp only;cases neA (.lst ds) z1<;>rfl)
  |exc x ρ'=>rfl
  |bad=>rfl
theorem qaw (i:Nat):qV i f ρ=match zJ i ρ with
  |none => .bad
  | some _=>(match f ρ with
   |.ok (d,ρ1)=>(match zJ i ρ1 with
    |some ds=>if imm d&&qQ (ds.length+1)then .ok (.non,ρ1.set i (some (.lst (ds++[d]))))else .bad
    |none => .bad)
   |.exc x ρ' => .exc x ρ'|.bad => .bad):=by
 simp only[qV,bnd]
 cases zJ i ρ with
 |none=>rfl
 | some _=>
  dsimp only <;>
  cases f ρ with
  |ok z=>
   obtain⟨z1,ρ1⟩:=z
   dsimp only <;>
   cases zJ i ρ1<;>rfl
  |exc x ρ'=>rfl
  |bad=>rfl
theorem qly {g k:M (Option Int)}:dsl f g k ρ=match f ρ with
  | .ok (d,ρ1)=>(match g ρ1 with
   |.ok (lo,ρ2)=>(match k ρ2 with
    |.ok (hi,ρ3)=>(match slD d lo hi with|some x => .ok (x,ρ3)|none => .bad)
    |.exc x ρ' => .exc x ρ'|.bad => .bad)
   |.exc x ρ' => .exc x ρ'|.bad => .bad)
  |.exc x ρ' => .exc x ρ'|.bad => .bad:=by
 simp only[dsl,bnd,sbnd]
 cases f ρ with
 | ok z=>
  obtain⟨z1,ρ1⟩:=z
  dsimp only <;>
  cases g ρ1 with
  |ok z=>
   obtain⟨z2,ρ2⟩:=z
   dsimp only <;>
   cases k ρ2 with
   |ok z=>obtain⟨z3,ρ3⟩:=z;(dsimp only;cases slD z1 z2 z3<;>rfl)
   |exc x ρ'=>rfl
   |bad=>rfl
  |exc x ρ'=>rfl
  |bad=>rfl
 |exc x ρ'=>rfl
 |bad=>rfl
theorem qdd:uj f ρ=match f ρ with|.ok (.int i,ρ1) => .ok (some i,ρ1)|.ok _ => .bad|.exc x ρ' => .exc x ρ'|.bad => .bad:=by
 simp only[uj,bnd,sbnd]
 cases f ρ with
 |ok z=>
  obtain⟨z1,ρ1⟩:=z
  cases z1<;>rfl
 |exc x ρ'=>rfl
 |bad=>rfl
end
theorem zx {n:Nat} (h:n<=1000000):qQ n=true:=by
 unfold qQ
 exact decide_eq_true (yaF h (by rw[yfr];decide))
theorem qjC {n p:Nat} {body:MS} {ds:List D} {d:D} {ρ:Env} (h:ds.length=p) (e:body (ym n ds)=.ok (.rt d ρ)):dfn n p body ds=.ok d:=by
 unfold dfn;rw[if_pos h,e]
theorem qba {n p:Nat} {body:MS} {bs ds bs':List D} {d:D} {ρ:Env} (h:ds.length+1=p) (e:body (ym n (.lst bs::ds))=.ok (.rt d ρ)) (g:zJ 0 ρ=some bs'):vF n p body bs ds=.ok (d,bs'):=by
 unfold vF;rw[if_pos h,e];simp only[g]
end L2.Sk
namespace L2.Sk
open PySem PySem.Spec PyProof.Rows
section
variable{prog:yao}{w:World}{A:yau}{E:Value->yab->Prop}{s:yab}
theorem qf1 {l:Addr} {xs:Array Value} {Q:Value->yab->Prop} (t1:s.heap.IsTuple l xs)
  (fin:∀h',IsEnum h' (s.heap.objs.size+1) s.heap.objs.size 0 .none->h'.IsTupleIter s.heap.objs.size l 0->(∀c o,s.heap.get? c=some o->h'.get? c=some o)->Q (.ref (s.heap.objs.size+1)) {s with heap:=h' }) :
  wpAny (model prog w) A (call (.type "enumerate") [.ref l]) Q E s:=by
 have meets:Meets (ybV.«enumerate.__new__» ⟨[.type "enumerate",.ref l],[]⟩) (λ_ R s=>s.heap.IsTuple l xs /\
   R (.ok (.ret (.ref (s.heap.objs.size+1)))) {s with heap:=(s.heap.push {cls:=.type "tuple_iterator",data:=.fields #[.ref l,.int 0 0]}).push {cls:=.type "enumerate",data:=.fields #[.none,.bool false,.ref s.heap.objs.size,ybG 0,.none,.none]} }) :=
  .of_wp λprog w A R s h=>by
   obtain⟨hp,g,d,tk,os⟩:=s
   obtain⟨ha,h⟩:=h
   have hsub:=sub_enumerate
   have hA:yfd (yfA ⟨hp,g,d,tk,os⟩) l xs:=ha
   obtain⟨o,ho,_⟩:=id ha
   have ho':hp.get? l=some o:=ho
   wp_walk using ybZ ho'
   refine wpAny_stack_any λst=>yac ?_
   split
   ·rename_i c _ _ _ _ _
    cases (c==yb3 "enumerate")
    ·wp_walk using ybZ ho',ybI hA
     simp only[ybr]at *
     exact⟨_,rfl,h⟩
    ·wp_walk using ybZ ho',ybI hA
     simp only[ybr]at *
     exact⟨_,rfl,h⟩
   ·wp_walk using ybZ ho',ybI hA
    simp only[ybr]at *
    exact⟨_,rfl,h⟩
 refine callType_new F.called_enumerate (by decide) (F.typeCall_enumerate_1 _) (F.newCall_enumerate_1 _) (λobj=>F.args_object_init_2 obj _) F.entry_enumerate_new meets ⟨t1,?_⟩
 generalize e1:s.heap.push {cls:=.type "tuple_iterator",data:=.fields #[.ref l,.int 0 0]}=m1
 have s1:m1.objs.size=s.heap.objs.size+1:=by rw[<-e1,ybr]
 have q1:m1.get? s.heap.objs.size=some {cls:=.type "tuple_iterator",data:=.fields #[.ref l,.int 0 0]}:=by rw[<-e1];exact Heap.get?_push_size _ rfl
 have k1:∀c o,s.heap.get? c=some o->m1.get? c=some o:=λc o x=>by rw[<-e1];exact Heap.get?_push_of_some _ x
 generalize e2:m1.push {cls:=.type "enumerate",data:=.fields #[.none,.bool false,.ref s.heap.objs.size,ybG 0,.none,.none]}=m2
 have q2:m2.get? (s.heap.objs.size+1)=some {cls:=.type "enumerate",data:=.fields #[.none,.bool false,.ref s.heap.objs.size,ybG 0,.none,.none]}:=by rw[<-e2,<-s1];exact Heap.get?_push_size _ rfl
 have k2:∀c o,m1.get? c=some o->m2.get? c=some o:=λc o x=>by rw[<-e2];exact Heap.get?_push_of_some _ x
 show _/\_
 exact⟨⟨_,q2,rfl⟩,fin m2 q2 ⟨_,k2 _ _ q1,rfl,rfl⟩ λc o x=>k2 _ _ (k1 _ _ x)⟩
end
def Ite (K:Fr0) (a:Addr) (xs:List V):It :=
 ⟨λi H=>i<xs.length/\SqT K H a xs,λi H x H'=>∃p u,H p=none/\xs[i]? = some u/\x=.ref p/\H'=upd H p (.tup [.int i,u]),λi H=>i=xs.length/\SqT K H a xs⟩
def ESt(z i1 a1:Addr)(i:Nat)(h:Heap):Prop:=(∃old,IsEnum h z i1 i old)/\h.IsTupleIter i1 a1 i
theorem qf2 {P:yao} {w:World} {K:Fr0} {es:List Expr} {kk:Nat} {pos:Pos} {z i1 a1:Addr} {xs:List V} (zi:z≠i1) (za:z≠a1) (n1:a1≠i1) :
  qkm P w K (.Tuple es kk pos) (Ite K a1 xs) [z,i1] z (ESt z i1 a1) where
 mem:=by simp
 obj:=λi h st b hb=>by
  obtain⟨⟨old,h1⟩,⟨o4,h4,c4,d4⟩⟩:=st
  simp only[yan,nN_,or_false]at hb
  rcases hb with rfl|rfl
  ·exact⟨_,h1,λv e=>by cases (show yen _=yea v from e)⟩
  ·exact⟨_,h4,λv e=>by rw[d4]at e;cases e⟩
 keep:=λi h h' st k=>by
  obtain⟨⟨old,h1⟩,h4⟩:=st
  exact⟨⟨old,k z (by simp) _ h1⟩,h4.at λo e=>k i1 (by simp) o e⟩
 item:=by
  intro X hP hw hK hc i pins s σ H E I hf st hg
  subst hP hw hK
  obtain⟨hlt,hx⟩:=hg
  obtain⟨⟨old,h1⟩,h4⟩:=st
  obtain⟨it1,r1,p1,z1⟩:=I.tuple hx
  have l1:i<it1.toArray.size:=by rw[sT_,<-r1.length];omega
  have hh:X.A.in1.handled=none:=I.ok.hd hc
  refine wpAny_pyNext_enum_itemD (ya hh i1 a1 n1 it1.toArray) h1 ⟨h4,p1⟩ l1 zi (by simp[zi,za]) λx h' tk px ho u1 new hsz kp=>?_
  refine⟨.ref s.heap.objs.size,rfl,wpAny_letOwnedTupleGo_enum ho λh2' zz2 sb=>?_⟩
  obtain⟨xv,hxv⟩:∃v,xs[i]? = some v:=⟨xs[i]'(by omega),gG (by omega)⟩
  obtain⟨x',ex,rx⟩:=r1.get hxv
  have exx:x'=x:=by
   have:it1.toArray[i]? = some x:=px
   rw[List.getElem?_toArray,ex]at this
   exact yaI this
  subst exx
  have lz:z<s.heap.objs.size:=yad h1
  have keep:∀b u,b ∉ [z,i1]->s.heap.get? b=some u->h2'.get? b=some u:=λb u hb e=>by
   simp only[yan,nN_,or_false,not_or]at hb
   exact(sb.2 b hb.1).trans (kp b u hb.1 hb.2 e)
  have I2:Inv X pins σ (upd H s.heap.objs.size (.tup [.int i,xv])) {s with heap:=h2',toks:=tk+1} :=
   qfL I keep hf (yah _) ⟨by show 2<=yam;decide,[.int i tk,x'],.cons ⟨tk,rfl⟩ (.cons rx .nil),⟨_,(sb.2 _ (yb8 lz)).trans new,rfl,_,rfl⟩⟩
  refine⟨.ref s.heap.objs.size,upd H s.heap.objs.size (.tup [.int i,xv]),I2,rfl,⟨s.heap.objs.size,xv,I.hok.fresh (yah _),hxv,rfl,rfl⟩,?_,λb hb=>?_⟩
  ·exact⟨⟨_,by simpa using zz2⟩,u1.1.at λo e=>(sb.2 i1 zi.symm).trans e⟩
  ·have hb1:b≠s.heap.objs.size:=by
    simp only[yan,nN_,or_false]at hb
    obtain⟨o4,g4,_⟩:=h4
    rcases hb with rfl|rfl
    ·exact yat (yad h1)
    ·exact yat (yad g4)
   rw[qz hb1]
   exact(hf b hb).1
 done:=by
  intro X hP hw hK hc i pins s σ H E I hf st hg
  subst hP hw hK
  obtain⟨hlt,hx⟩:=hg
  obtain⟨⟨old,h1⟩,h4⟩:=st
  obtain⟨it1,r1,p1,z1⟩:=I.tuple hx
  have hh:X.A.in1.handled=none:=I.ok.hd hc
  have e:i=it1.toArray.size:=by rw[sT_,<-r1.length];exact hlt
  subst e
  refine wpAny_pyNext_enum_endD (ya hh i1 a1 n1 it1.toArray) h1 ⟨h4,p1⟩ λh' kp=>⟨rfl,qfM (t':=s.toks) I (λb u hb e=>?_) hf⟩
  simp only[yan,nN_,or_false,not_or]at hb
  exact kp b u hb.2 e
 self:=λA i s Q E st h=>by
  obtain⟨⟨old,h1⟩,_⟩:=st
  exact yft h1 h
section
variable{X:Cx}{c:Fc}{a b e:Expr}{pos:Pos}{es:List Expr}{kk:Nat}{tp:Pos}
def qmV(K:Fr0)(ta:TA):TI:=λσ H R=>ta σ H λvs H1=>∃a1 xs,vs=[.ref a1]/\SqT K H1 a1 xs/\R (Ite K a1 xs) H1
theorem qjD {ta:TA} {p:Pos} (hg:Gl X "enumerate") (hm:X.mg "enumerate"=none) (ha:PA X [a] ta) (hs:yae [a] X.env=[(false,eval a X.env)]:=by rfl) :
  PI X (.Tuple es kk tp) (.Call (.Name "enumerate" p) [a] [] pos) (qmV X.K ta):=by
 intro pins s σ H R I h
 refine Call_ (qaY I hg hm PyProof.Rows.boot_enumerate (ybH (thn (ha pos pins s σ H _ I h) λus s1 ⟨vs,H1,I1,r1,q1⟩=>?_) (by rw[hs];rfl) (by rfl)))
 obtain⟨a1,xs,e1,hx,q⟩:=q1
 subst e1
 obtain⟨u1,rfl,ru1⟩:=ze.one r1
 cases (show u1=yaf a1 from ru1)
 obtain⟨it1,v1,p1,z1⟩:=I1.tuple hx
 refine qf1 (show s1.heap.IsTuple a1 it1.toArray from p1) λh' zz g1 kp=>?_
 refine yft zz ?_
 have la1:a1<s1.heap.objs.size:=by obtain⟨o,e,_⟩:=p1;exact yad e
 refine⟨s1.heap.objs.size+1,[s1.heap.objs.size+1,s1.heap.objs.size],_,_,H1,rfl,I1.kept (t':=s1.toks) kp,qf2 (xs:=xs) (Nat.succ_ne_self _) (yb8 (yfq la1)) (yat la1),⟨⟨_,zz⟩,g1⟩,λb hb=>?_,q⟩
 simp only[yan,nN_,or_false]at hb
 have hb2:s1.heap.objs.size<=b:=by
  rcases hb with e|e<;>rw[e]
  ·exact ycf _ _
  ·exact yah _
 exact I1.fpOk hb2 (I1.hok.fresh hb2)
def wC (k:Nat):List D->List D
 | []=>[]
 |x::xs => .tup [.int (k:Nat),x]::wC (k+1) xs
theorem qax:∀(k:Nat)(xs:List D),(wC k xs).length=xs.length
 |_,[]=>rfl
 |k,x::xs=>by simp[wC,qax (k+1) xs]
theorem qcv:∀{xs:List D}{k i:Nat}{d:D},(wC k xs)[i]? = some d->∃x,xs[i]? = some x/\d=.tup [.int ((k+i:Nat):Int),x]
 | [],_,_,_,h=>by simp[wC]at h
 |x::xs,k,0,d,h=>by
  have:D.tup [.int (k:Nat),x]=d:=by simpa [wC] using h
  exact⟨x,rfl,this.symm⟩
 |x::xs,k,i+1,d,h=>by
  obtain⟨y,h1,h2⟩:=qcv (xs:=xs) (k:=k+1) (i:=i) (d:=d) (by simpa [wC] using h)
  exact⟨y,by simpa using h1,by rw[h2];congr 4;omega⟩
theorem qjE {K:Fr0} {A:Addr->Prop} {H:Hp} {ds:List D} {xs:List V} {a1:Addr} (t1:vj K H a1 xs) (i1:IsL K A H ds xs):qhf K A H (wC 0 ds) (Ite K a1 xs) where
 go:=λH' i d ex hd=>by
  have hl:i<(wC 0 ds).length:=(gI_.mp hd).1
  rw[qax,<-i1.length]at hl
  exact⟨hl,(t1.elim (λh => .inl (ex.tup _ _ h)) .inr:vj K H' a1 xs).sq⟩
 yl:=λH' i d x H'' ex hd y=>by
  obtain⟨p,u,hp,hu,rfl,rfl⟩:=y
  obtain⟨dx,h1,rfl⟩:=qcv hd
  obtain⟨u',g1,g2⟩:=i1.get h1
  rw[hu]at g1
  cases g1
  have sm:=qu hp (.tup [.int i,u])
  exact⟨sm,p,[.int i,u],rfl,.inl qx,.int i,[u],rfl,by rw[ybK];rfl,u,[],rfl,Is.ext (Ext.of_same sm) (λ_ h _=>h) (Is.ext ex (λ_ h _=>h) g2),rfl⟩
 stop:=λH' ex=>⟨by rw[qax,i1.length],(t1.elim (λh => .inl (ex.tup _ _ h)) .inr:vj K H' a1 xs).sq⟩
def qhs:List D->Option (List D)
 | [.tup xs]=>some (wC 0 xs)
 |_=>none
def qde(f:M (List D)):M (List D):=bnd f λds=>lift (qhs ds)
theorem qjF {f:M (List D)} {p:Pos} (hg:Gl X "enumerate") (hm:X.mg "enumerate"=none) (ha:DA X c [a] f) (hs:yae [a] X.env=[(false,eval a X.env)]:=by rfl) :
  DI X c (.Tuple es kk tp) (.Call (.Name "enumerate" p) [a] [] pos) (qde f):=by
 obtain⟨t,pa,w⟩:=ha
 refine⟨_,qjD hg hm pa hs,λρ σ H Q r h=>w ρ σ H _ r (WpL.bndI h λds ρ1 vs H1 r1 i1 g1 h1=>?_)⟩
 obtain⟨es',e,h2⟩:=w6 h1
 unfold qhs at e
 split at e
 ·obtain⟨v,rfl,j1⟩:=IsL.inv1 i1
  cases e
  obtain⟨a1,xs,rfl,t1,il1⟩:=Is.tr j1
  exact⟨a1,xs,rfl,t1.sq,h2 _ H1 r1 (qjE t1 il1) .refl⟩
 ·cases e
end
def vD:D->V
 |.bl b => .bl b
 |.int i => .int i
 |.str x => .str x
 |_ => .non
def flD:D->Bool
 |.non=>true
 |.bl _=>true
 |.int _=>true
 |.str _=>true
 |_=>false
def sqD:D->Option (List D)
 |.tup ds=>some ds
 |.lst ds=>some ds
 |_=>none
def inD (x y:D):Option D:=match sqD y with
 |some ds=>if flD x&&ds.all flD then some (.bl (ds.any λd=>eqV (vD d) (vD x)))else none
 |none=>none
theorem qdf {l:M (List D)} {ρ:Env}:qde l ρ=match l ρ with|.ok (d,ρ1)=>(match qhs d with|some ds => .ok (ds,ρ1)|none => .bad)|.exc x ρ' => .exc x ρ'|.bad => .bad:=by
 simp only[qde,bnd]
 cases l ρ with
 |ok z=>obtain⟨z1,ρ1⟩:=z;(dsimp only;cases qhs z1<;>rfl)
 |exc x ρ'=>rfl
 |bad=>rfl
section
variable{X:Cx}{tg iter elt:Expr}{ifs:List Expr}{scope:Scope}{pos:Pos}{wi:TI}{N':List Str}{nt:Nat}{fr:List Nat}
theorem qjG {i:Nat} {x:Str} {pos' spos:Pos} (hN:X.N.Nodup) (hix:X.N[i]? = some x) (hx:Loc X.env.scope x) (hfx:X.fn x=true\/X.env.scope.names.lookup x=some .local) (hc:X.calm=true) (hi:PI X tg iter wi) (S:jK X scope N' nt fr)
  (hsw:ycY (.ListComp elt [⟨tg,iter,ifs,0⟩] scope pos) (some (.Name x pos')) spos.line X.env=pure true)
  (hs:∀x,ybR iter X.env x=pure x:=by intro _;rfl):PS X (.Assign [.Name x pos'] (.ListComp elt [⟨tg,iter,ifs,0⟩] scope pos) spos) (λD σ H=>qjf X tg ifs elt scope N' wi nt fr σ H λv H'=>D.nx (σ.set i (some v)) H'):=by
 intro pins s σ H D I hw
 obtain⟨cl,hcl,cl1,cl2⟩:=vQ (env:=X.env) (scope:=scope) (λy hy hf=>I.ok.has y.1 (.inl (S.frees y hy hf)))
 rw[exec_Assign_Name_used _ _ _ _ hsw]
 refine yaa (ycM (yaa ?_))
 show wpAny (model X.prog X.w) X.A (comprehension (.ListComp elt [⟨tg,iter,ifs,0⟩] scope pos) scope X.env _ (newList []) false (eval iter X.env) (some (ych (.Name x pos') X.env)) >>= λ_=>pure ()) _ _ s
 refine yaa (thn (Q:=λ_ s'=>SP X pins D .next s') ?_ λ_ s' q=>yac (yac q))
 refine ydV (use:=some (ych (.Name x pos') X.env)) rfl hs hcl S.kind S.names (thn (hi pins s σ H _ I hw) λv s1 h1=>thn h1 λitv s2 h2=>?_)
 obtain⟨it,fp,tn,J,H2,e,I2,T,st2,f2,hR⟩:=h2
 subst e
 have hacc:H2 s2.heap.objs.size=none:=I2.hok.fresh (yah _)
 refine yaJ (yeM S.nocell (by intro y hy;simp at hy) (λh₁ hns1 hsb1=>?_) S.kind)
 dsimp only at hns1 hsb1 |-
 have I3:Inv X pins σ (upd H2 s2.heap.objs.size (.lst [])) {s2 with heap:=s2.heap.push {cls:=.type "list",dict:=none,data:=.seq ([]:List Value).toArray} } :=
  I2.lnew (t':=s2.toks) (its:=[]) .nil (ya5 _)
 generalize hs3:({s2 with heap:=s2.heap.push {cls:=.type "list",dict:=none,data:=.seq ([]:List Value).toArray} }:yab)=s3 at I3
 have hh3:s2.heap.push {cls:=.type "list",dict:=none,data:=.seq ([]:List Value).toArray}=s3.heap:=by rw[<-hs3]
 rw[hh3]at hns1 hsb1
 have old:∀b o,s3.heap.get? b=some o->h₁.get? b=some o:=λb o q=>hsb1.extBut b o (yat (yad q)) (Heap.get?_push_of_some _ q)
 have objs2:∀b∈fp,∃o,s2.heap.get? b=some o:=λb hb=>by
  obtain⟨o,q,_⟩:=T.obj 0 _ st2 b hb
  exact⟨o,q⟩
 have keep23:∀b o,s2.heap.get? b=some o->s3.heap.get? b=some o:=λb o q=>by rw[<-hh3];exact Heap.get?_push_of_some _ q
 have fpne:∀b∈fp,b≠s2.heap.objs.size:=λb hb=>by
  obtain⟨o,q⟩:=objs2 b hb
  exact yat (yad q)
 have f3:∀b∈fp,qcV X pins (upd H2 s2.heap.objs.size (.lst [])) b:=λb hb=>⟨by rw[qz (fpne b hb)];exact(f2 b hb).1,(f2 b hb).2⟩
 have J0:Inv (zT X scope N' fp cl s3.heap.objs.size s3 (upd H2 s2.heap.objs.size (.lst [])) (X.pn++pins)) [] (qO nt fr σ) (upd H2 s2.heap.objs.size (.lst [])) {s3 with heap:=h₁,toks:=s3.toks} :=
  qa5 S I3 f3 (λb hb=>(objs2 b hb).imp λo q=>keep23 b o q) cl1 cl2 ⟨_,hns1⟩ old
 obtain⟨g,tt,te,hg,hf,he,W,⟨m0,w0⟩,turn⟩:=hR s2.heap.objs.size fp cl s3.heap.objs.size s3 (upd H2 s2.heap.objs.size (.lst [])) (X.pn++pins) hacc
 have T0:tn 0 h₁:=T.keep 0 _ _ st2 λb hb o q=>old b o (keep23 b o q)
 have s3e:∀tk:Nat,({s2 with heap:=h₁,toks:=tk}:yab)={s3 with heap:=h₁,toks:=tk}:=λtk=>by rw[<-hs3]
 have loop:∀tk:Nat,ybU (model X.prog X.w) X.A (.compLoop (.ListComp elt [⟨tg,iter,ifs,0⟩] scope pos) 0 (.ref it) (.ref s2.heap.objs.size) (yeL scope cl s3.heap.objs.size X.env))
   (yfE (model X.prog X.w) X.A X.xe (some (ych (.Name x pos') X.env)) (λ_ s'=>SP X pins D .next s') (.ref s2.heap.objs.size) s3.heap.objs.size) {s3 with heap:=h₁,toks:=tk}:=λtk=>by
  have stat:∀{H':Hp},(∀b∈fp,H' b=none)->∀b∈fp,qcV (zT X scope N' fp cl s3.heap.objs.size s3 (upd H2 s2.heap.objs.size (.lst [])) (X.pn++pins)) [] H' b:=λ{H'} hn b hb=>by
   obtain⟨o,q⟩:=objs2 b hb
   have hbC:b≠s3.heap.objs.size:=yat (yad (keep23 b o q))
   refine⟨hn b hb,hbC,λz=>?_,.inl hb,λx c hx=>(f2 b hb).2.2.2.2.1 x c (cl1 x c hx),λp hp=>?_⟩
   ·rcases List.mem_cons.mp (I2.stkSub b z)with z|z
    ·exact(f2 b hb).2.1 z
    ·exact(f2 b hb).2.2.1 z
   ·have hp':p∈X.pn++pins:=by
     rcases mA_.mp (show p∈(X.pn++pins)++[]from hp)with z|z
     ·exact z
     ·cases z
    exact(f2 b hb).2.2.2.2.2 p hp'
  have fr0:∀b∈fp,upd H2 s2.heap.objs.size (.lst []) b=none:=λb hb=>(f3 b hb).1
  refine qar (λn s'=>∃i σ' H',Inv (zT X scope N' fp cl s3.heap.objs.size s3 (upd H2 s2.heap.objs.size (.lst [])) (X.pn++pins)) [] σ' H' s'/\tn i s'.heap/\(∀b∈fp,H' b=none)/\W i n σ' H') ?_ m0
   ⟨0,qO nt fr σ,_,J0.tok tk,T0,fr0,w0⟩
  rintro n s4 ⟨i,σ4,H4,J4,st4,fr4,w4⟩
  rcases turn i n σ4 H4 w4 with⟨stop,qn⟩|⟨go,step⟩
  ·refine thn (T.done (zT X scope N' fp cl s3.heap.objs.size s3 (upd H2 s2.heap.objs.size (.lst [])) (X.pn++pins)) rfl rfl rfl hc i [] s4 σ4 H4 _ J4 (stat fr4) st4 stop) λr s5 ⟨hr,J5⟩=>?_
   subst hr
   obtain⟨m5,n5,_⟩:=J5.loc
   have I5:Inv X pins σ H4 s5:=qdO I3 f3 J5 (yfu ..)
   have lC:X.env.locals≠s3.heap.objs.size:=yat I3.lt
   have cC:∀y c,X.env.cells.lookup y=some c->c≠s3.heap.objs.size:=λy c hy=>by
    obtain⟨v,o,ho,_⟩:=I3.cell y c hy
    exact yat (yad ho)
   have pC:∀p∈X.pn++pins,p.1≠s3.heap.objs.size:=λp hp=>yat (yad (I3.pin p hp).1)
   refine yfj (qca (v:=.ref s2.heap.objs.size) I5 hN hix hx rfl (λs'' I6 ⟨a,sb,ha⟩=>?_) hfx)
   have aC:s3.heap.objs.size≠a:=by
    rcases ha with rfl|ha
    ·exact lC.symm
    ·exact(cC _ _ ha).symm
   exact⟨m5,n5.sameBut sb aC,λh' sb'=>⟨_,H4,I6.turned (t':=s''.toks) (λb o hb q=>(sb'.2 b hb).trans q) J5.free lC.symm (.inr I3.sz) cC pC,qn⟩⟩
  ·refine thn (T.item (zT X scope N' fp cl s3.heap.objs.size s3 (upd H2 s2.heap.objs.size (.lst [])) (X.pn++pins)) rfl rfl rfl hc i [] s4 σ4 H4 _ J4 (stat fr4) st4 go) λr s5 ⟨u,hr,h5⟩=>?_
   subst hr
   refine thn h5 λ_ s6 ⟨x,H6,J6,r6,y6,st6,fr6⟩=>?_
   have J6':=J6.pinned (stat fr6) (T.obj _ _ st6)
   have again:∀{σ7:St}{H7:Hp}{s7:yab},Inv (zT X scope N' fp cl s3.heap.objs.size s3 (upd H2 s2.heap.objs.size (.lst [])) (X.pn++pins)) ([]++qaZ fp s6.heap) σ7 H7 s7->(∃m',m'<n/\W (i+1) m' σ7 H7) ->
     ∃m,m<n/\∃i σ' H',Inv (zT X scope N' fp cl s3.heap.objs.size s3 (upd H2 s2.heap.objs.size (.lst [])) (X.pn++pins)) [] σ' H' s7/\tn i s7.heap/\(∀b∈fp,H' b=none)/\W i m σ' H':=λ{σ7 H7 s7} I7 hm=>by
    obtain⟨m',hm,w7⟩:=hm
    refine⟨m',hm,i+1,σ7,H7,I7.unpinned,T.keep _ _ _ st6 λb hb o q=>(I7.pin (b,o) (mr_ _ (mr_ _ (yy hb q)))).1,λb hb=>?_,w7⟩
    obtain⟨o,q,d⟩:=T.obj _ _ st6 b hb
    exact(I7.pin (b,o) (mr_ _ (mr_ _ (yy hb q)))).2.1
   refine thn (hg _ s6 σ4 H6 x u _ J6' r6 (step x H6 y6)) λ_ s7 ⟨σ7,H7,J7,q7⟩=>?_
   refine thn (hf _ s7 σ7 H7 _ J7 q7) λok s8 ⟨H8,J8,q8⟩=>?_
   cases ok with
   |false=>
    rw[if_neg yav]at q8 |-
    exact again J8 q8
   |true=>
    rw[if_pos rfl]at q8 |-
    refine thn (he _ s8 σ7 H8 _ J8 q8) λz s9 ⟨y,H9,J9,r9,ys,hys,hz,hm⟩=>?_
    refine thn (qal _ s9 σ7 H9 (.ref s2.heap.objs.size) [y] (.ref s2.heap.objs.size) [z] (λ_ H'=>H'=upd H9 s2.heap.objs.size (.lst (ys++[y]))) J9 rfl (.cons r9 .nil) ⟨_,ys,y,rfl,rfl,hys,hz,rfl⟩) λ_ s10 ⟨_,H10,J10,_,e10⟩=>?_
    subst e10
    exact again J10 hm
 have z7:∀tk:Nat,ybU (model X.prog X.w) X.A (.compStart (.ListComp elt [⟨tg,iter,ifs,0⟩] scope pos) 0 (.ref it) (.ref s2.heap.objs.size) (yeL scope cl s3.heap.objs.size X.env))
   (yfE (model X.prog X.w) X.A X.xe (some (ych (.Name x pos') X.env)) (λ_ s'=>SP X pins D .next s') (.ref s2.heap.objs.size) s3.heap.objs.size) {s3 with heap:=h₁,toks:=tk}:=λtk=>
  yep (loop tk) (T.self X.A 0 _ _ _ T0 (loop tk))
 have fin:=z7 (s2.toks+([]:List (Str×Value)).length)
 rw[<-s3e]at fin
 rw[<-hh3]at fin
 rw[hh3]at fin |-
 exact fin
end
section
variable{X:Cx}{c:Fc}
def DC(X:Cx)(c:Fc)(tg it elt:Expr)(ifs:List Expr)(scope:Scope)(N':List Str)(nt:Nat)(fr:List Nat)(f:M D):Prop:=∃wi,PI X tg it wi/\∀ρ σ H Q,Rep X.K c ρ σ H->Wp X.K c σ H Q (f ρ)->qjf X tg ifs elt scope N' wi nt fr σ H Q
theorem qf3 {it elt tg:Expr} {ifs:List Expr} {scope:Scope} {N':List Str} {nt:Nat} {fr:List Nat} {fo:Option (Nat×Nat)} {f:M (List D)} {g:D->Env->Option Env} {t:M Bool} {k:M D} (hc:X.calm=true) (hi:DI X c tg it f) (S:jK X scope N' nt fr)
  (hfo:qji c nt fr fo)
  (hb:∀fp cl C s₀ H₀ pn B0 H1 Io' acc S',DG (zT X scope N' fp cl C s₀ H₀ pn) (cin B0 H1 (foO fo) Io' acc S') tg g/\DF (zT X scope N' fp cl C s₀ H₀ pn) (cin B0 H1 (foO fo) Io' acc S') ifs t/\DE (zT X scope N' fp cl C s₀ H₀ pn) (cin B0 H1 (foO fo) Io' acc S') elt k)
  : DC X c tg it elt ifs scope N' nt fr (zo nt fr fo f g t k):=by
 obtain⟨wi,pi,wI⟩:=hi
 refine⟨wi,pi,λρ σ H Q r h=>wI ρ σ H _ r (WpI.bnd h λds ρ1 J H1 r1 iok g1 h1=>?_)⟩
 intro acc fp cl C s₀ H₀ pn hn
 obtain⟨⟨tg',pg,wg⟩,⟨tt,pt,wt⟩,⟨te,pe,we⟩⟩:=hb fp cl C s₀ H₀ pn (Cn c σ) H1 (qb8 σ fo) acc λj=>(qO nt fr σ)[j]?
 refine⟨tg',tt,te,pg,pt,pe,?_⟩
 cases ew:zB g t k ds [] (yp nt fr ρ1) with
 |exc x ρ'=>rw[ew]at h1;exact h1.elim
 |bad=>rw[ew]at h1;exact h1.elim
 | ok p =>
  rw[ew]at h1
  obtain⟨ys,ρe⟩:=p
  have h1:∀v H',Rep X.K c (qjh fo ρe ρ1) σ H'->Is X.K (Cn c σ) H' (.lst ys) v->Gr c.O σ H1 H'->Q v H':=h1
  have accO:∀j∈foO fo,(qO nt fr σ)[j]? ≠ some (some (.ref acc)):=λj hj e=>by
   have r0:=r1.entry (acc:=acc) hn hfo
   cases fo with
   |none=>cases hj
   |some p=>
    obtain⟨i',j'⟩:=p
    have e2:j=i':=by simpa [foO] using hj
    subst e2
    obtain⟨k2,j2,e1,e2,e3⟩:=yz e
    have hk2:k2=j-nt:=by omega
    subst hk2
    rw[hfo.2.2.1]at e2
    cases e2
    obtain⟨a,us,e4,e5,_⟩:=r1.own j' hfo.1 _ e3
    cases e4;rw[hn]at e5;cases e5
  refine ⟨λi m σ' H'=>m=ds.length-i/\i<=ds.length/\∃ρ' zs xs,Rep X.K (cin (Cn c σ) H1 (foO fo) (qb8 σ fo) acc λj=>(qO nt fr σ)[j]?) ρ' σ' H'/\(∀j∈foO fo,σ'[j]? = (qO nt fr σ)[j]?)/\H' acc=some (.lst xs)/\IsL X.K (Cn (cin (Cn c σ) H1 (foO fo) (qb8 σ fo) acc λj=>(qO nt fr σ)[j]?) σ') H' zs xs/\zB g t k (ds.drop i) zs ρ'=.ok (ys,ρe),
   ⟨ds.length,by simp,ya5 _,yp nt fr ρ1,[],[],r1.entry hn hfo,λ_ _=>rfl,qx,rfl,by simpa using ew⟩,?_⟩
  rintro i m σ' H' ⟨rfl,hi,ρ',zs,xs,r',so,ha,iz,w⟩
  obtain⟨_,gr⟩:=r1.leave hn hfo (λi j e=>so i (by rw[e];simp[foO])) r'
  have ex:Ext (CnT c σ H1) H1 H':=⟨gr.ext.tup,gr.ext.frz,λb o hb hq=>gr.ext.at_ b o hb.1.2 hq⟩
  have accC:∀τ:St,(∀j∈foO fo,τ[j]? = (qO nt fr σ)[j]?)->Cl (foO fo) τ acc:=λτ hτ j hj e=>accO j hj (by rw[<-hτ j hj];exact e)
  by_cases hlt:i<ds.length
  ·refine .inr ⟨iok.go H' i ds[i] ex (by simp[hlt]),λx H'' y=>?_⟩
   obtain⟨sm,ix⟩:=iok.yl H' i ds[i] x H'' ex (by simp[hlt]) y
   rw[ww hlt]at w
   unfold zB at w
   have ix2:Is X.K (Cn (cin (Cn c σ) H1 (foO fo) (qb8 σ fo) acc λj=>(qO nt fr σ)[j]?) σ') H'' ds[i] x:=Is.ext Ext.refl (λa ha _=>⟨⟨ha.1,λe=>by
    have:=ha.2
    rw [e,hn]at this;cases this⟩,λj hj e=>by
     rw[so j hj]at e
     cases fo with
     |none=>cases hj
     |some p=>
      obtain⟨i',j'⟩:=p
      have e2:j=i':=by simpa [foO,cin] using hj
      subst e2
      obtain⟨k2,j2,e1,e2,e3⟩:=yz e
      have hk2:k2=j-nt:=by omega
      subst hk2
      rw[hfo.2.2.1]at e2
      cases e2
      exact ha.1.2 j' hfo.1 e3⟩) ix
   cases e1:g ds[i] ρ' with
   |none=>simp only[e1]at w;cases w
   | some ρ2=>
    simp only[e1]at w
    refine wg ρ' σ' H'' ds[i] x ρ2 _ (r'.same sm) ix2 e1 λσ2 r2 g2 o2=>?_
    have so2:∀j∈foO fo,σ2[j]? = (qO nt fr σ)[j]? := λj hj=>(o2 j hj).trans (so j hj)
    have ha2:H'' acc=some (.lst xs):=sm _ _ ha
    have iz2:=g2.isL (IsL.ext (Ext.of_same sm) (λ_ h _=>h) iz)
    cases e2:t ρ2 with
    |exc x ρ3=>simp only[e2]at w;cases w
    |bad=>simp only[e2]at w;cases w
    | ok p2=>
     obtain⟨bb,ρ3⟩:=p2
     refine wt ρ2 σ2 H'' _ r2 ?_
     rw[e2]
     intro H3 r3 g3
     have ha3:H3 acc=some (.lst xs):=g3.ext.at_ _ _ (accC σ2 so2) ha2
     have iz3:=g3.isL iz2
     cases bb with
     |false=>
      rw[if_neg yav]
      simp only[e2]at w
      exact⟨ds.length-(i+1),by omega,rfl,hlt,ρ3,zs,xs,r3,so2,ha3,iz3,w⟩
     | true=>
      rw[if_pos rfl]
      simp only[e2]at w
      cases e3:k ρ3 with
      |exc x ρ4=>simp only[e3]at w;cases w
      |bad=>simp only[e3]at w;cases w
      | ok p3=>
       obtain⟨d4,ρ4⟩:=p3
       simp only[e3]at w
       refine we ρ3 σ2 H3 _ r3 ?_
       rw[e3]
       intro y4 H4 r4 i4 g4
       have ha4:H4 acc=some (.lst xs):=g4.ext.at_ _ _ (accC σ2 so2) ha3
       have hsz:qQ (zs.length+1)=true:=by
        cases e5:qQ (zs.length+1) with
        |true=>rfl
        |false=>rw[e5]at w;simp at w
       rw[if_pos hsz]at w
       have hsz':zs.length+1<=yam:=of_decide_eq_true hsz
       have r5:=r4.grow (ys:=xs++[y4]) ha4 (λj hj e=>accC σ2 so2 j hj e)
       have ext5:Ext (Cn (cin (Cn c σ) H1 (foO fo) (qb8 σ fo) acc λj=>(qO nt fr σ)[j]?) σ2) H4 (upd H4 acc (.lst (xs++[y4]))):=⟨λb us hb=>by rw[qz (wX hb ha4 (by intro z;cases z))];exact hb,λb o u hb=>by rw[qz (wX hb ha4 (by intro z;cases z))];exact hb,λb o hb hq=>by rw[qz hb.1.2];exact hq⟩
       refine⟨xs,ha4,by rw[iz3.length];omega,ds.length-(i+1),by omega,rfl,hlt,ρ4,zs++[d4],xs++[y4],r5,so2,qx,?_,w⟩
       exact IsL.append (IsL.ext ext5 (λ_ h _=>h) (g4.isL iz3)) (IsL.one (Is.ext ext5 (λ_ h _=>h) i4))
  ·have hie:i=ds.length:=by omega
   subst hie
   rw[ycL (yah _)]at w
   unfold zB at w
   cases w
   obtain⟨r6,g6⟩:=r1.leave hn hfo (λi j e=>so i (by rw[e];simp[foO])) r'
   exact .inl ⟨iok.stop H' ex,h1 _ H' r6 ⟨acc,xs,rfl,r1.new hn,ha,IsL.ext Ext.refl (λa ha hs=>ha.1.1) iz⟩ g6⟩
theorem qf4 {i:Nat} {x:Str} {pos' spos pos:Pos} {tg it elt:Expr} {ifs:List Expr} {scope:Scope} {N':List Str} {nt:Nat} {fr:List Nat} {f:M D} (hN:X.N.Nodup) (h:DC X c tg it elt ifs scope N' nt fr f) (hc:X.calm=true) (S:jK X scope N' nt fr)
  (ho:i ∉ c.O:=by exact of_decide_eq_false rfl) (hix:X.N[i]? = some x:=by rfl) (hx:Loc X.env.scope x:=by first|exact ybj rfl|exact yaR rfl) (hfx:X.fn x=true\/X.env.scope.names.lookup x=some .local:=by first|exact .inl rfl|exact .inr rfl|assumption)
  (hsw:ycY (.ListComp elt [⟨tg,it,ifs,0⟩] scope pos) (some (.Name x pos')) spos.line X.env=pure true:=by rfl) (hs:∀x,ybR it X.env x=pure x:=by intro _;rfl) :
  DS X c (.Assign [.Name x pos'] (.ListComp elt [⟨tg,it,ifs,0⟩] scope pos) spos) (zC i f):=by
 obtain⟨wi,pi,w⟩:=h
 refine⟨_,qjG hN hix hx hfx hc pi S hsw hs,λρ σ H D r h=>w ρ σ H _ r (Wp.sbnd h λd ρ1 v H1 r1 i1 g1 h1=>?_)⟩
 exact h1 _ H1 (r1.set ho i1) (.set ho)
end
def qdg:List Int->Int
 | []=>0
 | [n]=>n
 |n::m::ns=>max n (qdg (m::ns))
theorem qbF:∀(n:Int)(ns:List Int),qdg (n::ns)∈n::ns
 |n,[]=>mS_
 |n,m::ns=>by
  have h:=qbF m ns
  show max n (qdg (m::ns))∈_
  rw[Int.max_def]
  split
  ·exact mM _ h
  ·exact mS_
theorem qf5:∀(n:Int)(ns:List Int),∀k∈n::ns,k<=qdg (n::ns)
 |n,[]=>λk hk=>by
  have:k=n:=by simpa using hk
  rw[this];exact Int.le_refl _
 |n,m::ns=>λk hk=>by
  have h:=qf5 m ns
  show k<=max n (qdg (m::ns))
  rcases List.mem_cons.mp hk with rfl|hk
  ·exact Int.le_max_left ..
  ·exact Int.le_trans (h k hk) (Int.le_max_right ..)
theorem qjH {ns:List Int} {z:Int} (h1:z∈ns) (h2:∀n∈ns,n<=z):qdg ns=z:=by
 cases ns with
 |nil=>cases h1
 |cons n ns=>exact Int.le_antisymm (h2 _ (qbF n ns)) (qf5 n ns z h1)
theorem qcw {zs:Array (Int×Tok)} {i:Nat} (h:i<zs.size):(zs.toList.map (·.1))[i]? = some (numAt zs i):=by
 have h':i<zs.toList.length:=by simpa using h
 rw[gM_,gG h']
 simp[numAt,h]
section
variable{X:Cx}
theorem qcx (hc:X.calm=true):yr X (.builtin "max") (λxs H Q=>∃(p:Addr)(ns:List Int),xs=[.ref p]/\H p=some (.lst (ns.map V.int))/\ns≠[]/\Q (.int (qdg ns)) H):=by
 intro pins s σ H xs us Q I r h
 obtain⟨p,ns,rfl,hp,hne,q⟩:=h
 obtain⟨u,rfl,ru⟩:=ze.one r
 cases ru
 obtain⟨its,rv,pl,hz⟩:=I.list (SqL.of hp)
 have hl:=pl.isList
 have hi:ybN its ns:=qex rv
 obtain⟨zs,hx⟩:=hi.allInts.items
 have hl':s.heap.IsList p (intItems zs):=hx▸hl
 have e1:ns=zs.toList.map (·.1):=by
  rw[<-nums_intItems,<-hx]
  exact(show numsOf its.toArray.toList=ns from hi.numsOf).symm
 have hsz:0<zs.size:=by
  cases hzz:zs.toList with
  |nil=>rw[hzz]at e1;exact absurd e1 hne
  |cons a b=>
   have:zs.size=zs.toList.length:=by simp
   rw[this,hzz];simp
 refine max_intList (I.ok.hd hc) hl' hsz λv h' tk hv hk=>?_
 obtain⟨t,rfl⟩:=intItems_at hv
 obtain⟨b1,b2⟩:=argBest_gt (numAt zs) (zs.size-1)
 have e2:qdg ns=numAt zs (argBest (λi j=>decide (numAt zs i>numAt zs j)) (zs.size-1)):=by
  refine qjH ?_ λn hn=>?_
  ·rw[e1]
   exact yce (qcw (by omega))
  ·rw [e1]at hn
   obtain⟨j,hj⟩:=List.mem_iff_getElem?.mp hn
   have hj2:j<zs.size:=by
    have:=(gI_.mp hj).1
    simpa using this
   rw[qcw hj2]at hj
   cases hj
   exact b2 j (by omega)
 rw[<-e2]
 exact⟨.int _,H,I.kept hk,⟨_,rfl⟩,q⟩
end
def qdh:List D->Option D
 | [.lst ds]=>match vA ds with
  |some (n::ns)=>some (.int (qdg (n::ns)))
  |_=>none
 |_=>none
theorem qbb {K:Fr0}:wm K qdh (λxs H Q=>∃(p:Addr)(ns:List Int),xs=[.ref p]/\H p=some (.lst (ns.map V.int))/\ns≠[]/\Q (.int (qdg ns)) H):=by
 intro A H xs d vs Q hn h e k
 unfold qdh at e
 split at e
 ·obtain ⟨v,rfl,a,zs,rfl,_,ta,il⟩:=IsL.inv1 h
  split at e
  ·rename_i n ns hi
   cases e
   rw[qa3 il hi]at ta
   exact⟨a,n::ns,rfl,ta,by simp,k _ H (jG.refl H) rfl⟩
  ·cases e
 ·cases e
def qlz (t:M Bool) (b:MS):Nat->MS
 |0,_ => .bad
 | n+1,ρ=>match t ρ with
  |.ok (true,ρ1)=>match b ρ1 with
   |.ok (.nx ρ2)=>qlz t b n ρ2
   |.ok (.ct ρ2)=>qlz t b n ρ2
   |.ok (.bk ρ2) => .ok (.nx ρ2)
   |.ok (.rt d ρ2) => .ok (.rt d ρ2)
   |.exc x ρ2 => .exc x ρ2
   |.bad => .bad
  |.ok (false,ρ1) => .ok (.nx ρ1)
  |.exc x ρ1 => .exc x ρ1
  |.bad => .bad
open Classical in
section
variable{X:Cx}{c:Fc}{pos:Pos}
end
def qmn(K:Fr0)(a:Addr)(ns:List Int):Prop:=∃(o:Obj)(its:Array Value)(n:Nat),K.lookup a=some o/\o.cls=.type "tuple"/\o.data=.seq its n/\its.size<=yam/\ze (ns.map V.int) its.toList
theorem qmn.is{K:Fr0}{a:Addr}{ns:List Int}(h:qmn K a ns)(H:Hp)(A:Addr->Prop):Is K A H (.tup (ns.map .int)) (.ref a):=⟨a,_,rfl,.inr h,qbA ns⟩
theorem qht {X:Cx} {c:Fc} {x:Str} {a:Addr} {ns:List Int} {pos:Pos} (hg:Gl X x) (hm:X.mg x=some (.ref a)) (ht:qmn X.K a ns) (hdb:(x==("__debug__":Str))=false:=by decide):DE X c (.Name x pos) (ret (.tup (ns.map .int))) :=
 qfu (v:=.ref a) hg hm rfl (λH A=>ht.is H A) hdb
def qbG (h:Heap) (e T:Addr) (cls:Value):Prop :=
 ∃oe vs oT ts a0,h.get? e=some oe/\(oe.cls=cls/\vs[2]? = some .none/\vs[0]? = some a0)/\oe.data=.fields vs/\vs[1]? = some (.ref T)/\T≠e/\h.get? T=some oT/\oT.data=.fields ts/\ts[3]? = some .none
def CX1 (P:yao) (w:World):CXT:=λouter H s E u s'=>∃e T C H',u=.ref e/\s'.os=s.os/\yck s'.gens/\Un (frs outer) [] H H' s.heap s'.heap/\HOk P w H' s'.heap /\
 s.heap.get? e=none/\s.heap.get? T=none/\H' e=none/\H' T=none/\qbG s'.heap e T (.ref C)/\E (.ref C) none H'
structure Lft (h h':Heap) (ch fs:List Addr):Prop where
 keep:∀b o,b ∉ ch->b ∉ fs->h.get? b=some o->h'.get? b=some o
 slot:∀b o,b∈fs->h.get? b=some o->∃sl,h'.get? b=some {o with slots:=sl}
section
variable{M:Model}{A:yau}{E:Value->yab->Prop}{s:yab}
abbrev wD:Obj->Obj:=yeV (·.setIfInBounds 3 yax)
theorem qjI {base:Heap} {l:List yaN} {h:Heap} {b:Addr} {o:Obj} {vs:Array Value} (hl:h.FunFrames base l) (hb:h.get? b=some o) (hd:o.data=.fields vs):b ∉ frs l:=λz=>by
 obtain⟨_,o',ho',hn⟩:=hl.mem z
 rw[hb]at ho'
 cases ho'
 exact hn vs hd
theorem qdY {e T:Addr} {oe oT:Obj} {vs ts:Array Value} {Q:Unit->yab->Prop} (he:s.heap.get? e=some oe) (hd:oe.data=.fields vs) (h1:vs[1]? = some (.ref T)) (hT:s.heap.get? T=some oT) (hdT:oT.data=.fields ts) (h3:3<ts.size)
  (k:Q () {s with heap:=s.heap.update T wD}):wpAny M A (ydt (.ref e) none) Q E s:=by
 unfold ydt
 refine yaa (yaA he hd h1 ?_)
 have t:(yaf T != yax)=true:=by simp
 rw[if_pos t]
 exact ycD hT hdT h3 k
theorem wE {h:Heap} {T:Addr} {oT:Obj} {ts:Array Value} (hT:h.get? T=some oT) (hdT:oT.data=.fields ts) (h3:3<ts.size):∃o2 t2,(h.update T wD).get? T=some o2/\o2.data=.fields t2/\t2[3]? = some .none :=
 ⟨_,_,Heap.get?_update_self _ hT (yc2 (ybJ hdT _)),ybJ hdT _,by simp[h3]⟩
theorem zH{h:Heap}{T b:Addr}(n:b≠T):(h.update T wD).get? b=h.get? b:=Heap.get?_update_other _ _ (yaX n)
theorem qhu {base:Heap} {env:yaN} {outer:List yaN} {L e:Addr} {oe:Obj} {vs:Array Value} {head:Value} {had:Bool} {Q:Unit->yab->Prop} (hfr:A.frames=some (env::outer)) (hl:s.heap.FunFrames base (env::outer)) (hf:env.frame=some L)
  (he:s.heap.get? e=some oe) (hd:oe.data=.fields vs) (h1:1<vs.size)
  (k:∀h' T,s.heap.get? T=none->T≠e->(∀b o,b≠e->b ∉ frs (env::outer)->s.heap.get? b=some o->h'.get? b=some o)->(∀b o,b∈frs (env::outer)->s.heap.get? b=some o->∃sl,h'.get? b=some {o with slots:=sl}) ->
   h'.get? e=some (yeV (·.setIfInBounds 1 (yaf T)) oe)->(∃oT ts,h'.get? T=some oT/\oT.data=.fields ts/\3<ts.size)->h'.FunFrames base (env::outer)->Q () {s with heap:=h' }) :
  wpAny M A (do let a <-frameOf env;let pl <-entryPlaceOf L had;let b <-ydf head a .none (ybG L) .none pl;setField (.ref e) 1 b) Q E s:=by
 have hene:=qjI hl he hd
 refine yaa (wpAny_frameOf_fun hfr hl hf λh₁ hs1=>yaa (wpAny_entryPlaceOf λpl hpl=>?_))
 unfold ydf newFields
 have he1:h₁.get? e=some oe:=(hs1.2.1 e hene).trans he
 refine yaa (yaJ ?_ (hpl.sizeOk5 _ _ _ _ _))
 generalize hob:({cls:=yb3 "traceback",dict:=none,data:=yen ([head,yaf L,yax,ybG L,yax]++(if pl.isEmpty then yap 6 yax else pl)).toArray}:Obj)=ob
 have nT:h₁.objs.size≠e:=yb8 (yad he1)
 have hnT:s.heap.get? h₁.objs.size=none:=by
  cases q:s.heap.get? h₁.objs.size with
  |none=>rfl
  |some o=>
   obtain⟨sl,q'⟩:=hs1.2.2 _ o q
   exact absurd (yad q') (ybB _)
 refine ycD (Heap.get?_push_of_some _ he1) hd h1 ?_
 have keep:∀b o,b≠e->h₁.get? b=some o->((h₁.push ob).update e (yeV (·.setIfInBounds 1 (yaf h₁.objs.size)))).get? b=some o:=λb o hb q=>(Heap.get?_update_other _ _ (yaX hb)).trans (Heap.get?_push_of_some _ q)
 refine k _ h₁.objs.size hnT nT (λb o hb hf q=>keep b o hb ((hs1.2.1 b hf).trans q)) (λb o hb q=>?_) (Heap.get?_update_self _ (Heap.get?_push_of_some _ he1) (yc2 (ybJ hd _))) ⟨ob,([head,yaf L,yax,ybG L,yax]++(if pl.isEmpty then yap 6 yax else pl)).toArray,?_,by rw[<-hob],by simp⟩ (hl.of_keeps λb o q hn=>?_)
 ·obtain⟨sl,q'⟩:=hs1.2.2 b o q
  exact⟨sl,keep b _ (λz=>hene (z▸hb)) q'⟩
 ·exact(Heap.get?_update_other _ _ (yaX nT)).trans (Heap.get?_push_size _ (by rw[<-hob];rfl))
 ·obtain⟨sl,q'⟩:=hs1.2.2 b o q
  exact⟨_,keep b _ (λz=>by subst z;rw[he]at q;cases q;exact hn vs hd) q',rfl⟩
theorem qdZ {base:Heap} {env:yaN} {outer:List yaN} {L e:Addr} {oe:Obj} {vs:Array Value} {a0 head:Value} {had:Bool} {Q:Unit->yab->Prop} (hfr:A.frames=some (env::outer)) (hl:s.heap.FunFrames base (env::outer)) (hf:env.frame=some L)
  (he:s.heap.get? e=some oe) (hd:oe.data=.fields vs) (h1:1<vs.size) (h2:vs[2]? = some .none) (h0:vs[0]? = some a0)
  (k:∀h' T',Lft s.heap h' [e] (frs (env::outer))->qbG h' e T' oe.cls->s.heap.get? T'=none->Q () {s with heap:=h' }) :
  wpAny M A (do let a <-frameOf env;let pl <-entryPlaceOf L had;let b <-ydf head a .none (ybG L) .none pl;setField (.ref e) 1 b) (λ_ s'=>wpAny M A (ydt (.ref e) none) Q E s') E s:=by
 refine qhu hfr hl hf he hd h1 λh' T nT ne kp sl ee eT _=>?_
 obtain⟨oT,ts,gT,dT,sT⟩:=eT
 have dd:=ybJ hd (·.setIfInBounds 1 (yaf T))
 refine qdY (s:={s with heap:=h' }) ee dd (by simp[h1]) gT dT sT ?_
 obtain⟨o2,t2,q1,q2,q3⟩:=wE gT dT sT
 have nf:∀b o,s.heap.get? b=some o->b≠T:=λb o q z=>by rw[z,nT]at q;cases q
 refine k _ T ⟨λb o hb hf q=>(zH (nf b o q)).trans (kp b o (by simpa using hb) hf q),λb o hb q=>?_⟩ ⟨_,_,o2,t2,a0,(zH (yaX ne)).trans ee,⟨yfp _ _,?_,?_⟩,dd,by simp[h1],ne,q1,q2,q3⟩ nT
 ·obtain⟨sl,q'⟩:=sl b o hb q
  exact⟨sl,(zH (nf b o q)).trans q'⟩
 ·rw[Array.getElem?_setIfInBounds_ne (by decide)];exact h2
 ·rw[Array.getElem?_setIfInBounds_ne (by decide)];exact h0
theorem qcy {base:Heap} {env:yaN} {outer:List yaN} {L e T:Addr} {cls:Value} {Q:Unit->yab->Prop} (hfr:A.frames=some (env::outer)) (hl:s.heap.FunFrames base (env::outer)) (hf:env.frame=some L) (F:qbG s.heap e T cls)
  (k:∀h' T',Lft s.heap h' [e,T] (frs (env::outer))->qbG h' e T' cls->(T'=T\/s.heap.get? T'=none)->Q () {s with heap:=h' }) :
  wpAny M A (yed (.ref e) env) (λ_ sQ=>wpAny M A (ydt (.ref e) none) Q E sQ) E s:=by
 obtain⟨oe,vs,oT,ts,a0,he,⟨hc,h2,h0⟩,hd,h1,hne,hT,hdT,h3⟩:=F
 subst hc
 have z3:3<ts.size:=(Array.getElem?_eq_some_iff.mp h3).1
 have z1:1<vs.size:=(Array.getElem?_eq_some_iff.mp h1).1
 have tT:(yaf T != yax)=true:=by simp
 have tL:¬((yax==ybG L)=true):=by simp[ybG]
 have nf:=qjI hl hT hdT
 unfold yed
 simp only[hf]
 refine yaa (yaA he hd h1 ?_)
 rw[if_pos tT]
 refine yaa (yaA hT hdT h3 ?_)
 rw[if_neg tL]
 refine yaa (ycD hT hdT z3 ?_)
 have hl1:(s.heap.update T wD).FunFrames base (env::outer):=hl.of_keeps λb o q hn=>⟨o,(zH λz=>by subst z;rw[hT]at q;cases q;exact hn ts hdT).trans q,rfl⟩
 refine qdZ (s:={s with heap:=s.heap.update T wD}) hfr hl1 hf ((zH (yaX hne)).trans he) hd z1 h2 h0 λh' T' x y z=>?_
 refine k h' T' ⟨λb o hb hf q=>?_,λb o hb q=>?_⟩ y (.inr ?_)
 ·simp only[yan,nN_,or_false,not_or]at hb
  exact x.keep b o (by simpa using hb.1) hf ((zH hb.2).trans q)
 ·exact x.slot b o hb ((zH λ(z:b=T)=>nf (z▸hb)).trans q)
 ·by_cases e2:T'=T
  ·subst e2
   obtain⟨_,_,q,_⟩:=wE hT hdT z3
   have z':(s.heap.update T' wD).get? T'=none:=z
   rw[q]at z';cases z'
  ·exact(zH e2).symm.trans z
theorem qeF {base:Heap} {env:yaN} {outer:List yaN} {L e T:Addr} {cls:Value} {Q:Unit->yab->Prop} (hfr:A.frames=some (env::outer)) (hl:s.heap.FunFrames base (env::outer)) (hf:env.frame=some L) (F:qbG s.heap e T cls)
  (k:∀h' T',Lft s.heap h' [e,T] (frs (env::outer))->qbG h' e T' cls->(T'=T\/s.heap.get? T'=none)->Q () {s with heap:=h' }):wpAny M A (ydi env (.ref e)) Q E s:=by
 unfold ydi
 exact yaa (qcy hfr hl hf F k)
theorem qeG {base h:Heap} {env:yaN} {outer:List yaN} {L e:Addr} {cls:Value} {args:List Value} {Q:Unit->yab->Prop} (hfr:A.frames=some (env::outer)) (hl:h.FunFrames base (env::outer)) (hf:env.frame=some L) (hx:yeD h s.heap e cls args)
  (k:∀h' T',Lft s.heap h' [e] (frs (env::outer))->qbG h' e T' cls->s.heap.get? T'=none->Q () {s with heap:=h' }):wpAny M A (ydi env (.ref e)) Q E s:=by
 obtain⟨t,he,htn,ht⟩:=hx.there
 have hl1:s.heap.FunFrames base (env::outer):=hl.of_keeps λb o q _=>⟨o,hx.keeps b o q,rfl⟩
 unfold ydi yed
 simp only[hf]
 refine yaa (yaa (yaA he rfl (x:=.none) rfl ?_))
 rw[if_neg (by decide)]
 exact qdZ hfr hl1 hf he rfl (of_decide_eq_true rfl) rfl rfl k
theorem qeH {base:Heap} {l:List yaN} {e T:Addr} {cls:Value} {Q:Unit->yab->Prop} (hl:s.heap.FunFrames base l) (F:qbG s.heap e T cls)
  (k:∀h' T',Lft s.heap h' [e,T] (frs l)->qbG h' e T' cls->(T'=T\/s.heap.get? T'=none)->Q () {s with heap:=h' }) :
  wpAny M A (ydt (.ref e) none) Q E s:=by
 obtain⟨oe,vs,oT,ts,a0,he,hc,hd,h1,hne,hT,hdT,h3⟩:=F
 have z3:3<ts.size:=(Array.getElem?_eq_some_iff.mp h3).1
 have nf:=qjI hl hT hdT
 refine qdY he hd h1 hT hdT z3 ?_
 obtain⟨o2,t2,q1,q2,q3⟩:=wE hT hdT z3
 refine k _ T ⟨λb o hb _ q=>?_,λb o hb q=>⟨o.slots,(zH λ(z:b=T)=>nf (z▸hb)).trans q⟩⟩ ⟨oe,vs,o2,t2,a0,(zH (yaX hne)).trans he,hc,hd,h1,hne,q1,q2,q3⟩ (.inl rfl)
 simp only[yan,nN_,or_false,not_or]at hb
 exact(zH hb.2).trans q
end
theorem qil {P:yao} {w:World} {H:Hp} {h h':Heap} (x:HOk P w H h) (k:∀b o,(H b).isSome=true->h.get? b=some o->h'.get? b=some o):HOk P w H h':=λa o e=>
 (x a o e).stay (λb u hb q=>k b u (by
   rcases hb with rfl|hb;· rw[e];rfl
   ·rw[hb];rfl) q) (λ_ z=>z) λ_ _ z=>z
theorem ux {P:yao} {w:World} {H:Hp} {h:Heap} {a:Addr} {o:HO} (x:yq P w H h a o):∃u,h.get? a=some u:=by
 cases o with
 |lst xs=>obtain⟨_,_,_,_,e⟩:=x;exact⟨_,e⟩
 |tup xs=>obtain⟨_,_,_,ob,e,_⟩:=x;exact⟨_,e⟩
 |dK kvs=>obtain⟨_,_,_,_,o,_,_,e,_⟩:=x;exact⟨_,e⟩
 |dT kvs=>obtain⟨_,_,_,_,o,_,_,e,_⟩:=x;exact⟨_,e⟩
 |set S n=>obtain⟨o,_,_,_,e,_⟩:=x;exact⟨_,e⟩
 |ins C dx fs=>obtain⟨_,_,_,e,_⟩:=x;exact⟨_,e⟩
 |own y=>obtain⟨_,e⟩:=x;exact⟨_,e⟩
 |xd fs=>obtain⟨_,⟨_,_,_,e,_⟩,_⟩:=x;exact⟨_,e⟩
 |rng lo hi=>obtain⟨_,_,_,e⟩:=x;exact⟨_,e⟩
 |frz ob u=>obtain⟨e,_⟩:=x;exact⟨_,e⟩
 |tbl ps=>exact⟨_,(show h.get? a=some _ from x)⟩
 |met f y=>exact⟨_,(show h.get? a=some _ from x)⟩
 |ext φ=>obtain⟨_,e,_⟩:=x;exact e
 |lam pos q=>rcases x with e|⟨_,_,_,_,_,_,_,e⟩<;>exact⟨_,e⟩
section
variable{X:Cx}{pins:List (Addr×Obj)}{σ:St}{H:Hp}{s:yab}
theorem qd0 {H':Hp} {s':yab} {h':Heap} {ch:List Addr} (I:Inv X pins σ H s) (hs:X.stack=X.env::X.outer) (hf:X.env.frame=some X.env.locals) (hex:X.ex=[])
  (u:Un (frs X.stack) [] H H' s.heap s'.heap) (hok:HOk X.prog X.w H' s'.heap) (hch:∀b∈ch,H' b=none) (hchn:∀b∈ch,s.heap.get? b=none) (x:Lft s'.heap h' ch (frs X.stack)) :
  Un (frs X.outer) [] X.H₀ H' X.s₀.heap h'/\HOk X.prog X.w H' h':=by
 have hfs:frs X.stack=X.env.locals::frs X.outer:=by rw[hs];unfold frs;rw[ybd,hf]
 have hb:=I.base
 rw[hex]at hb
 have nL:∀b o,X.s₀.heap.get? b=some o->b≠X.env.locals:=λb o q z=>absurd (yaw (yad q) (z▸I.ok.above)) (ybB _)
 have nch:∀b o,X.s₀.heap.get? b=some o->b ∉ ch:=λb o q z=>by
  obtain⟨o',q'⟩:=hb.there b o q (by simp)
  rw[hchn b z]at q';cases q'
 have nfs:∀b o,X.s₀.heap.get? b=some o->b ∉ frs X.outer->b ∉ frs X.stack:=λb o q z y=>by
  rw[hfs]at y
  exact(List.mem_cons.mp y).elim (nL b o q) z
 have yfs:∀b,b∈frs X.outer->b∈frs X.stack:=λb z=>by rw[hfs];exact mM _ z
 refine⟨⟨λb o q n hb1 _=>?_,λb o q n hb1 _=>?_,λb o q n _=>?_,λb o q _=>?_,λb xs q=>u.tups b xs (hb.tups b xs q),λb o v q=>u.frzs b o v (hb.frzs b o v q),λb ps y q=>u.tbls b ps y (hb.tbls b ps y q)⟩,?_⟩
 ·exact x.keep b o (nch b o q) (nfs b o q hb1) (u.keep b o (hb.keep b o q n hb1 (by simp)) (hb.free b o q n (by simp)) (nfs b o q hb1) (by simp))
 ·obtain⟨sl,q1⟩:=hb.slot b o q n hb1 (by simp)
  obtain⟨sl2,q2⟩:=u.slot b _ q1 (hb.free b o q n (by simp)) (yfs b hb1) (by simp)
  obtain⟨sl3,q3⟩:=x.slot b _ (yfs b hb1) q2
  exact⟨sl3,q3⟩
 ·obtain⟨o',q'⟩:=hb.there b o q (by simp)
  exact u.free b o' q' (hb.free b o q n (by simp)) (by simp)
 ·obtain ⟨o1,q1⟩:=hb.there b o q (by simp)
  obtain⟨o2,q2⟩:=u.there b o1 q1 (by simp)
  by_cases hb1:b∈frs X.stack
  ·obtain⟨sl,q3⟩:=x.slot b o2 hb1 q2
   exact⟨_,q3⟩
  ·exact⟨o2,x.keep b o2 (nch b o q) hb1 q2⟩
 ·refine qil hok λb o hb1 q=>x.keep b o (λz=>?_) (λz=>?_) q
  ·rw[hch b z]at hb1;cases hb1
  ·obtain⟨_,o1,ho1,_⟩:=I.stack.mem z
   rw[u.free b o1 ho1 (I.stkFree b z) (by simp)]at hb1
   cases hb1
theorem qjJ {s':yab} {E:XK} {u:Value} {A:yau} (I:Inv X pins σ H s) (hs:X.stack=X.env::X.outer) (hf:X.env.frame=some X.env.locals) (hex:X.ex=[]) (hA:A.frames=some X.stack) (x:CX1 X.prog X.w X.stack H s E u s') {E':Value->yab->Prop} :
  wpAny (model X.prog X.w) A (ydi X.env u) (λ_ s''=>CX1 X.prog X.w X.outer X.H₀ X.s₀ E u s'') E' s':=by
 obtain⟨e,T,C,H',rfl,os,bare,un,hok,he,hT,hHe,hHT,F,q⟩:=x
 have hl:s'.heap.FunFrames X.base X.stack:=by
  have h0:=I.stack
  have all:∀(l:List yaN),(∀b∈frs l,b∈frs X.stack)->s.heap.FunFrames X.base l->s'.heap.FunFrames X.base l:=by
   intro l
   induction l with
   |nil=>intro _ _;trivial
   |cons env r ih=>
    intro hss hl
    obtain⟨hk,⟨L,o,hf',hn,ho,hd⟩,hr⟩:=hl
    have hfr:frs (env::r)=L::frs r:=by unfold frs;rw[ybd,hf']
    rw[hfr]at hss
    have hL:=hss L mS_
    obtain⟨sl,e⟩:=un.slot L o ho (I.stkFree L hL) hL (by simp)
    exact⟨hk,⟨L,_,hf',hn,e,hd⟩,ih (λb hb=>hss b (mM _ hb)) hr⟩
  exact all X.stack (λ_ z=>z) h0
 rw[hs]at hl hA
 refine qeF hA hl hf F λh' T' y1 y2 y3=>?_
 rw[<-hs]at y1
 have hz:∀b∈[e,T],H' b=none:=λb hb=>by
  simp only[yan,nN_,or_false]at hb
  rcases hb with rfl|rfl
  ·exact hHe
  ·exact hHT
 have hzn:∀b∈[e,T],s.heap.get? b=none:=λb hb=>by
  simp only[yan,nN_,or_false]at hb
  rcases hb with rfl|rfl
  ·exact he
  ·exact hT
 obtain⟨z1,z2⟩:=qd0 I hs hf hex un hok hz hzn y1
 have up:∀b,s.heap.get? b=none->X.s₀.heap.get? b=none:=λb hb=>by
  cases q:X.s₀.heap.get? b with
  |none=>rfl
  |some o=>
   obtain⟨o',q'⟩:=I.base.there b o q (by rw[hex];simp)
   rw[hb]at q';cases q'
 have up':∀b,s'.heap.get? b=none->s.heap.get? b=none:=λb hb=>by
  cases q:s.heap.get? b with
  |none=>rfl
  |some o=>
   obtain⟨o',q'⟩:=un.there b o q (by simp)
   rw[hb]at q';cases q'
 have hT2:s.heap.get? T'=none:=y3.elim (λz=>z▸hT) (up' T')
 have hHT2:H' T'=none:=y3.elim (λz=>z▸hHT) λz=>by
  cases q:H' T' with
  |none=>rfl
  |some o=>
   obtain⟨o',q'⟩:=ux (hok _ _ q)
   rw[z]at q';cases q'
 exact⟨e,T',C,H',rfl,os.trans I.os,bare,z1,z2,up e he,up T' hT2,hHe,hHT2,y2,q⟩
end
structure XC (base:Heap) (C:Addr) (bm:List Value):Prop where
 hasBase:bm.contains (.type "BaseException")=true
 ex:∃nm q N bs hdct sn sub ab col dd k0 k1 k2 k3 k5 newId initId B bmB mN,base.get? C=some (yfB nm q C N bs bm hdct sn sub ab col dd k0 k1 k2 k3 k5 newId)/\base.Ns N mN/\mN "__init__"=none/\OwnTail base bmB bm/\ExcBaseFacts B newId initId bmB
def qaR (n p:Nat) (body:MS) (ds:List D):R D:=if ds.length=p then match body (ym n ds) with
 |.ok (.rt d _) => .ok d
 |.ok (.nx _) => .ok .non
 |.exc x ρ => .exc x ρ
 |_ => .bad else .bad
section
variable{X:Cx}{c:Fc}{e:Expr}{es:List Expr}{pos cpos np:Pos}
theorem qhv {x:Str} {C:Addr} {bm:List Value} {t:TA} {E:XK} (hc:X.calm=true) (hg:Gl X x) (hm:X.mg x=some (.ref C)) (xc:XC X.base C bm) (ha:PA X (e::es) t)
  (made:∀pins σ H s h' a us,Inv X pins σ H s->yeD s.heap h' a (.ref C) us->E (.ref C) none H->X.xe (.ref a) {s with heap:=h' })
  (hd:(x==("__debug__":Str))=false:=by decide) (he:yae (e::es) X.env=(false,eval e X.env)::yae es X.env:=by rfl) (hpl:(yaQ cpos (yae es X.env)).any (·.1)=false:=by rfl) :
  PS X (.Raise (some (.Call (.Name x np) (e::es) [] cpos)) none pos) (λ_ σ H=>t σ H λvs H1=>vs.length<=yam/\E (.ref C) none H1):=by
 intro pins s σ H D I h
 obtain⟨nm,q,N,bs,hdct,sn,sub,ab,col,dd,k0,k1,k2,k3,k5,newId,initId,B,bmB,mN,hC,hN,hni,T,FB⟩:=xc.ex
 refine wpAny_Raise_call_subT (C:=C) (nm:=nm) (q:=q) (N:=N) (bs:=bs) (bm:=bm) (hdct:=hdct) (sn:=sn) (sub:=sub) (ab:=ab) (col:=col) (dd:=dd) (k0:=k0) (k1:=k1) (k2:=k2) (k3:=k3) (k5:=k5)
  FB (mN:=mN) xc.hasBase (I.ok.hd hc) (by rw[he];show(false||(yaQ cpos (yae es X.env)).any (·.1))=false;rw[hpl];rfl) hni ?_
 have hn:PE X (.Name x np) (λ_ H Q=>Q (.ref C) H):=qc0 hg hm rfl hd
 refine thn (hn pins s σ H (λv H1=>v=.ref C/\H1=H) I ⟨rfl,rfl⟩) λf s1 h1=>?_
 obtain⟨v,H1,I1,rv,rfl,rfl⟩:=h1
 refine⟨rv,?_⟩
 have h2:=ha cpos pins s1 σ _ _ I1 h
 rw[he]at h2 |-
 refine yeI (thn h2 λvs s2 h3=>?_)
 obtain⟨ws,H2,I2,r2,hl,hE⟩:=h3
 refine⟨rfl,by rw[<-r2.length];exact hl,I2.bk _ _ hC,hN.keeps I2.bk,T.keeps I2.bk,λh' a hx=>made pins σ H2 s2 h' a vs I2 hx hE⟩
structure XL (X:Cx) (c:Fc) (cl:Str->Option Addr) (E:XK):Prop where
 made:∀C pins σ H s h' a us,Inv X pins σ H s->yeD s.heap h' a (.ref C) us->E (.ref C) none H->X.xe (.ref a) {s with heap:=h' }
 pass:qaf (CX1 X.prog X.w) X E
 wish:∀x C H',cl x.cls=some C->c.E x H'->E (.ref C) none H'
structure XL2 (X:Cx) (c:Fc) (cl:Str->Option Addr) (E:XK):Prop where
 pass:qaf (CX1 X.prog X.w) X E
 wish:∀x C H',cl x.cls=some C->c.E x H'->E (.ref C) none H'
theorem XL.two{X:Cx}{c:Fc}{cl:Str->Option Addr}{E:XK}(L:XL X c cl E):XL2 X c cl E:=⟨L.pass,L.wish⟩
def qbc (x:Str) (f:M (List D)):MS:=λρ=>match f ρ with
 |.ok (ds,ρ')=>if qQ ds.length then .exc ⟨x,.non⟩ ρ' else .bad
 |.exc z ρ' => .exc z ρ'
 |.bad => .bad
theorem qbH {x:Str} {C:Addr} {bm:List Value} {f:M (List D)} {E:XK} {cl:Str->Option Addr} (hc:X.calm=true) (L:XL X c cl E) (hcl:cl x=some C) (hg:Gl X x) (hm:X.mg x=some (.ref C)) (xc:XC X.base C bm) (ha:DA X c (e::es) f)
  (hd:(x==("__debug__":Str))=false:=by decide) (he:yae (e::es) X.env=(false,eval e X.env)::yae es X.env:=by rfl) (hpl:(yaQ cpos (yae es X.env)).any (·.1)=false:=by rfl) :
  DS X c (.Raise (some (.Call (.Name x np) (e::es) [] cpos)) none pos) (qbc x f):=by
 obtain⟨t,pa,w⟩:=ha
 refine⟨_,qhv (E:=E) hc hg hm xc pa (L.made C) hd he hpl,λρ σ H D r h=>w ρ σ H _ r ?_⟩
 unfold qbc at h
 cases ef:f ρ with
 |bad=>rw[ef]at h;exact h
 |exc z ρ'=>rw[ef]at h;exact λH' r' g'=>h σ H' r' g'.s
 | ok p=>
  obtain⟨ds,ρ'⟩:=p
  rw[ef]at h
  intro vs H' r' i' g'
  by_cases hs:qQ ds.length=true
  ·simp only[hs,if_true]at h
   exact⟨by rw[i'.length];exact of_decide_eq_true hs,L.wish ⟨x,.non⟩ C H' hcl (h σ H' r' g'.s)⟩
  ·simp only[hs]at h
   exact h.elim
def spX (K:Fr0) (cl:Str->Option Addr) (F:List D->R D):Sp:=λvs H Q E=>∃ds A,IsL K A H ds vs/\qcl K H/\match F ds with
 |.ok d=>∀v H',jG H H'->Is K (λa=>A a\/H a=none) H' d v->Q v H'
 |.exc x _=>∃C,cl x.cls=some C/\∀H',jG H H'->E (.ref C) none H'
 |.bad=>False
def ul (RN:List Str) (F:List D->R D) (g:M (List D)):M D:=bnd g λds ρ=>match F ds with
 |.ok d => .ok (d,ρ)
 |.exc x _=>if RN.contains x.cls then .exc x ρ else .bad
 |.bad => .bad
theorem qhw {k:Nat} {f:Addr} {fd:yaM} {ps:List Str} {F:List D->R D} {x:Str} {p:Pos} {g:M (List D)} {E:XK} {cl:Str->Option Addr} (L:XL2 X c cl E) {RN:List Str} (hcl:∀n,RN.contains n=true->(cl n).isSome=true)
  (G:vi X.prog X.w X.K X.mg X.base (CX1 X.prog X.w) k f fd ps (spX X.K cl F)) (hr:uH k X.A) (hg:Gl X x) (hm:X.mg x=some (.ref f)) (hk:yaj X.K (.ref f)=true) (hb:uM X.K fd ps [])
  (ha:DA X c (e::es) g) (hd:(x==("__debug__":Str))=false:=by decide) (he:yae (e::es) X.env=(false,eval e X.env)::yae es X.env:=by rfl) (hpl:(yaQ pos (yae es X.env)).any (·.1)=false:=by rfl):DE X c (.Call (.Name x p) (e::es) [] pos) (ul RN F g):=by
 obtain⟨t,pa,w⟩:=ha
 refine⟨_,qag G hr hg hm hk hb .nil L.pass pa hd he hpl,λρ σ H Q r h=>w ρ σ H _ r (WpL.bnd h λds ρ1 vs H1 r1 i1 g1 h1=>?_)⟩
 rw[ybn]
 refine⟨ds,Cn c σ,i1,r1.tb,?_⟩
 cases ef:F ds with
 |bad=>simp only[ef]at h1;exact h1.elim
 |exc z ρ'=>
  simp only[ef]at h1
  by_cases hz:RN.contains z.cls=true
  case neg=>rw[if_neg hz]at h1;exact h1.elim
  rw[if_pos hz]at h1
  obtain⟨C,hC⟩:=Option.isSome_iff_exists.mp (hcl z.cls hz)
  exact⟨C,hC,λH' sm=>L.wish z C H' hC (h1 H' (r1.same sm) (.of_same sm))⟩
 |ok d=>
  simp only[ef]at h1
  exact λv H' sm i=>h1 v H' (r1.same sm) (Is.ext Ext.refl (λa ha _=>ha.elim id r1.new) i) (.of_same sm)
def uK (F:List D->R D) (g:M (List D)):M D:=bnd g λds ρ=>match F ds with
 |.ok d => .ok (d,ρ)
 |_ => .bad
theorem qhx {k:Nat} {f:Addr} {fd:yaM} {ps:List Str} {F:List D->R D} {x:Str} {p:Pos} {g:M (List D)} {cl:Str->Option Addr}
  (G:vi X.prog X.w X.K X.mg X.base (CX1 X.prog X.w) k f fd ps (spX X.K cl F)) (hr:uH k X.A) (hg:Gl X x) (hm:X.mg x=some (.ref f)) (hk:yaj X.K (.ref f)=true) (hb:uM X.K fd ps [])
  (ha:DA X c (e::es) g) (hd:(x==("__debug__":Str))=false:=by decide) (he:yae (e::es) X.env=(false,eval e X.env)::yae es X.env:=by rfl) (hpl:(yaQ pos (yae es X.env)).any (·.1)=false:=by rfl):DE X c (.Call (.Name x p) (e::es) [] pos) (uK F g):=by
 obtain⟨t,pa,w⟩:=ha
 refine⟨_,qag (E:=λ_ _ _=>False) G hr hg hm hk hb .nil (λ_ _ _ _ _ _ _ ⟨_,_,_,_,_,_,_,_,_,_,_,_,_,_,z⟩=>z.elim) pa hd he hpl,λρ σ H Q r h=>w ρ σ H _ r (WpL.bnd h λds ρ1 vs H1 r1 i1 g1 h1=>?_)⟩
 rw[ybn]
 refine⟨ds,Cn c σ,i1,r1.tb,?_⟩
 cases ef:F ds with
 |bad=>simp only[ef]at h1;exact h1.elim
 |exc z ρ'=>simp only[ef]at h1;exact h1.elim
 |ok d=>
  simp only[ef]at h1
  exact λv H' sm i=>h1 v H' (r1.same sm) (Is.ext Ext.refl (λa ha _=>ha.elim id r1.new) i) (.of_same sm)
end
section
variable{P:yao}{w:World}{K:yai}{mg:Str->Option Value}{base:Heap}
theorem qbd {N:List Str} {qual:Str} {scope:Scope} {f:Addr} {cdv:Value} {A:yau} {outer:List yaN} {s:yab} {H:Hp} {E:XK} {c:Fc} {cl:Str->Option Addr} (hf:(ybf qual scope s.heap.objs.size f cdv).frame=some s.heap.objs.size)
  (hw:∀x C H',cl x.cls=some C->c.E x H'->E (.ref C) none H'):XL (qgS (CX1 P w) P w K mg base N qual scope f cdv A outer s H E) c cl E where
 made:=λC pins σ H1 s1 h' a us I hx hE=>by
  show wpAny (model P w) _ (ydi _ (.ref a)) _ _ _
  refine qeG (s:={s1 with heap:=h' }) (h:=s1.heap) (base:=base) I.ok.frames I.stack hf hx λh2 T' y1 y2 y3=>?_
  have hn:H1 a=none:=by
   cases q:H1 a with
   |none=>rfl
   |some o=>
    obtain⟨o',q'⟩:=ux (I.hok _ _ q)
    rw[hx.new]at q';cases q'
  have hT:s1.heap.get? T'=none:=by
   cases q:s1.heap.get? T' with
   |none=>rfl
   |some o=>rw[show({s1 with heap:=h' }:yab).heap.get? T'=some o from hx.keeps _ _ q]at y3;cases y3
  have hHT:H1 T'=none:=by
   cases q:H1 T' with
   |none=>rfl
   |some o=>
    obtain⟨o',q'⟩:=ux (I.hok _ _ q)
    rw[hT]at q';cases q'
  have up:∀b,s1.heap.get? b=none->s.heap.get? b=none:=λb hb=>by
   cases q:s.heap.get? b with
   |none=>rfl
   |some o=>
    obtain⟨o',q'⟩:=I.base.there b o q (by show b ∉ ([]:List Addr);simp)
    rw[hb]at q';cases q'
  obtain⟨z1,z2⟩:=qd0 (s':={s1 with heap:=h' }) I rfl hf rfl (Un.kept hx.keeps) (I.hok.kept hx.keeps) (λb hb=>by rw[ms_]at hb;subst hb;exact hn) (λb hb=>by rw[ms_]at hb;subst hb;exact hx.new) y1
  exact⟨a,T',C,H1,rfl,I.os,I.bare,z1,z2,up a hx.new,up T' hT,hn,hHT,y2,hE⟩
 pass:=λpins σ H1 s1 u s' I x=>qjJ I rfl hf rfl I.ok.frames x
 wish:=hw
theorem qbe {x qual:Str} {st:Stmt} {f:Addr} {fd:yaM} {N ps:List Str} {k:Nat} {O:List Nat} {body:MS} {cl:Str->Option Addr} (F:Fun K x qual st f fd) (S:qE N ps (qf st)) (hO:∀i∈O,ps.length<=i)
  (hb:∀(cdv:Value)(A:yau)(outer:List yaN)(s:yab)(H:Hp)(E:XK)(B:Addr->Prop),uH k (A.deeper (ybf qual (qf st) s.heap.objs.size f cdv)) ->
   DSs (qgS (CX1 P w) P w K mg base N qual (qf st) f cdv A outer s H E) (cfn O [] B H (λ_=>False) (λx H'=>∀C,cl x.cls=some C->E (.ref C) none H') λ_=>none) (qB st) body) :
  vi P w K mg base (CX1 P w) (k+1) f fd ps (spX K cl (qaR N.length ps.length body)):=by
 obtain⟨oc,od,kV,doc,pm,an,cdv,ct,osl,rfl,lk,hcd⟩:=F.ex
 refine qkU lk hcd S (λvs H Q E h=>?_) λA outer s H vs Q E hr h=>?_
 ·obtain⟨ds,B,il,_,h⟩:=h
  unfold qaR at h
  by_cases e:ds.length=ps.length
  ·rw[il.length];exact e
  ·rw[if_neg e]at h;exact h.elim
 ·obtain ⟨ds,B,il,tb,h⟩:=h
  obtain⟨t,p,wt⟩:=hb cdv A outer s H E B hr
  refine⟨t,p,?_⟩
  unfold qaR at h
  by_cases e:ds.length=ps.length
  ·rw [if_pos e]at h
   refine wt (ym N.length ds) (z7 N vs) H _ (qat il tb (λi hi=>by rw[e];exact hO i hi)) ?_
   have same:∀{ρ:Env}{σ:St}{H':Hp},Rep K (cfn O [] B H (λ_=>False) (λx H'=>∀C,cl x.cls=some C->E (.ref C) none H') λ_=>none) ρ σ H'->jG H H':=λr b o hb=>r.kp b o hb λz=>z
   cases eb:body (ym N.length ds) with
   |bad=>rw[eb]at h;exact h.elim
   | exc z ρ=>
    rw[eb]at h
    obtain⟨C,hC,h⟩:=h
    exact λσ' H' r' _ C' hC'=>by
     rw[hC]at hC';cases hC'
     exact h H' (same r')
   |ok fl=>
    rw[eb]at h
    cases fl with
    |nx ρ=>exact λσ' H' r' _=>h .non H' (same r') rfl
    |rt d ρ=>exact λv σ' H' r' i' _=>h v H' (same r') i'
    |bk ρ=>exact h.elim
    |ct ρ=>exact h.elim
  ·rw[if_neg e]at h;exact h.elim
structure uU (P:yao) (w:World) (K:yai) (mg:Str->Option Value) (base:Heap) (k:Nat) (x:Str) (ps:List Str) (sp:Sp):Prop where
 ex:∃f fd,vi P w K mg base (CX1 P w) k f fd ps sp/\mg x=some (.ref f)/\yaj K (.ref f)=true/\uM K fd ps []
end
theorem qim {X:Cx} {c:Fc} {st:Stmt} {f:MS} (h:DS X.nox c st f):DS X c st f:=by
 obtain⟨t,p,w⟩:=h
 exact⟨t,λpins s σ H D I hw=>ya8 (p pins s σ H D (I.wish _) hw) (λ_ _ q=>q.unwish) λ_ _ z=>yaV z,w⟩
section
variable{M:Model}{A:yau}{E:Value->yab->Prop}
variable{nm q nm' q':Str}{C S N N':Addr}{bs bm bs' bm':List Value}{hdct hdct':Bool}{sn sn':List Str}{sub sub':List Value}{ab ab':Bool}{col col':Option Bool}{dd dd':Option Addr}{k0 k1 k2 k3 k5 j0 j1 j2 j3 j5:Option Value}{newId newId':String}
theorem qaS {h:Heap} {g:Array yfC} {d:Drawn} {t:Nat} {os:OsState} {e:Addr} {oe:Obj} {Q:Bool->yab->Prop}
  (hC:h.get? C=some (yfB nm q C N bs bm hdct sn sub ab col dd k0 k1 k2 k3 k5 newId)) (hS:h.get? S=some (yfB nm' q' S N' bs' bm' hdct' sn' sub' ab' col' dd' j0 j1 j2 j3 j5 newId'))
  (he:h.get? e=some oe) (hcls:oe.cls=.ref C) (hbase:bm'.contains (.type "BaseException")=true)
  (hq:Q ((yaf C::bm).contains (.ref S)) ⟨h,g,d,t,os⟩):wpAny M A (excMatches (.ref e) (.ref S)) Q E ⟨h,g,d,t,os⟩:=by
 have hcB:(yaf S::bm').contains (.type "BaseException")=true:=by rw[List.contains_cons,hbase,yfe]
 have f:=tc_notTuple
 unfold excMatches
 repeat (first|(with_reducible refine yfv he ?_;rw[hcls])|with_reducible refine yfv hS ?_|(with_reducible refine yeZ hS ?_;rw[hcB])|with_reducible refine yeZ hC ?_|wp_step)
 all_goals (first|exact hq|(cases hb:(yaf C::bm).contains (.ref S)<;>(rw[hb]at hq;wp_walk;exact hq)))
end
end L2.Sk
namespace L2
open PySem PySem.Spec PyProof.Rows
def AloneA(A:yau)(H:Hp):Prop:=∃e oe u vs,A.handled=some (.ref e)/\H e=some (.frz oe u)/\oe.data=.fields vs/\vs[2]? = some .none
def qlA(A:yau)(sp:Sp)(dvs:List V)(E:XK)(t:TA):TE:=λσ H Q=>t σ H λvs H1=>AloneA A H1/\sp (vs++dvs) H1 Q E
structure uV (k:Nat) (A:yau):Prop where
 dp:A.depth+3*k+5<ydh
 un:A.units+16*k+200<cLine
 gd:A.guards=some []
theorem uV.mono{j k:Nat}{A:yau}(r:uV k A)(h:j<=k):uV j A:=⟨by have:=r.dp;omega,by have:=r.un;omega,r.gd⟩
theorem uV.deeper {k:Nat} {A:yau} (r:uV (k+1) A) (env:Env):uV k (A.deeper env) :=
 ⟨by have:=r.dp;show A.depth+1+3*k+5<_;omega,by have:=r.un;show A.units+3+16*k+200<_;omega,r.gd⟩
theorem uV.depth{k:Nat}{A:yau}(r:uV k A):A.depth<ydh:=by have:=r.dp;omega
structure qcz (P:yao) (w:World) (K:yai) (mg:Str->Option Value) (base:Heap) (CX:CXT) (k:Nat) (f:Addr) (fd:yaM) (ps:List Str) (sp:Sp):Prop where
 len:∀vs H Q E,sp vs H Q E->vs.length=ps.length
 run:∀(A:yau)(outer:List Env)(s:yab)(H:Hp)(args:Args)(us:List Value)(vs:List V)(Q:VK)(E:XK),uV k A->AloneA A H->qkn P w K mg base A outer s H->ydN s fd args (ps.zip us)->ze vs us->sp vs H Q E ->
  ybU (model P w) A (.call (.ref f) args) (CR CX outer P w H s Q E) s
def qeI (CX:CXT) (P:yao) (w:World) (K:yai) (mg:Str->Option Value) (base:Heap) (N:List Str) (qual:Str) (scope:Scope) (f:Addr) (cd:Value) (A:yau) (outer:List Env) (s:yab) (H:Hp) (E:XK):Cx where
 prog:=P
 w:=w
 K:=K
 mg:=mg
 base:=base
 A:=A.deeper (ybf qual scope s.heap.objs.size f cd)
 N:=N
 s₀:=s
 H₀:=H
 env:=ybf qual scope s.heap.objs.size f cd
 outer:=outer
 stack:=ybf qual scope s.heap.objs.size f cd::outer
 ex:=[]
 calm:=false
 fn:=λ_=>true
 pn:=[]
 xe:=λe s'=>wpAny (model P w) (A.deeper (ybf qual scope s.heap.objs.size f cd)) (ydi (ybf qual scope s.heap.objs.size f cd) e) (λ_ s''=>CX outer H s E e s'') (λe' s''=>CX outer H s E e' s'') s'
theorem qeJ {CX:CXT} {P:yao} {w:World} {K:yai} {mg:Str->Option Value} {base:Heap} {N ps:List Str} {qual:Str} {scope:Scope} {f:Addr} {cd:Value} {A:yau} {outer:List Env} {s s1:yab} {H:Hp} {E:XK} {us:List Value} {vs:List V}
  (S:qE N ps scope) (e0:qkn P w K mg base A outer s H) (hl:vs.length=ps.length) (r:ze vs us)
  (x:InCallC s s.heap.objs.size (bindL (ybf qual scope s.heap.objs.size f cd).kindOf (ps.zip us) λ_=>none) (ydo (s.heap.objs.size+1) scope.names []) (bindC (ybf qual scope s.heap.objs.size f cd).kindOf (ps.zip us) λ_=>none) s1) :
  Inv (qeI CX P w K mg base N qual scope f cd A outer s H E) [] (z7 N vs) H s1:=by
 have hpl:ps.length<=N.length:=by have:=congrArg List.length S.pre;rw[ya3]at this;omega
 obtain⟨h1,tk,rfl,hk⟩:=x.done
 have noA:∀b:Addr,b ∉ (qeI CX P w K mg base N qual scope f cd A outer s H E).ex:=λb z=>absurd (show b∈([]:List Addr)from z) (by simp)
 refine ⟨⟨e0.mod,S.kind,rfl,rfl,yah _,λy z c h1 h2=>?_,λy hy=>?_,λy c _ h=>?_,(λz=>Bool.noConfusion z),yeH e0.frames,.inr ⟨rfl,rfl⟩,λb z=>absurd z (noA b),e0.bs,e0.bsz,λb _ _=>noA b,λb z=>absurd z (noA b),e0.funs,e0.frf⟩,
  rfl,e0.bare,Un.kept hk,⟨_,x.toInCall.ns,λi y v h1 h2 h3=>?_⟩,λy c h=>⟨_,x.cell y c h⟩,e0.hok.fresh (yah _),λy c h=>?_,λp hp=>absurd (show p∈([]:List (Addr×Obj))from hp) (by simp),e0.hok.kept hk,?_⟩
 ·exact name_of_addr x.apart (yaP h1) (yaP h2)
 ·have hy:scope.names.lookup y=some .cell\/scope.names.lookup y=some .free:=hy
  rcases hy with hy|hy
  ·exact w5 hy
  ·exact absurd rfl (S.nofree _ (yaP hy))
 ·exact ycu (x.above y c (yaP h))
 ·have hi:i<vs.length:=by
   unfold z7 at h2
   by_cases hi:i<vs.length
   ·exact hi
   ·rw[List.getElem?_append_right (by simpa using hi)]at h2
    rw[List.getElem?_replicate]at h2
    split at h2<;>cases h2
  have ha:vs[i]? = some v:=by
   unfold z7 at h2
   rw[List.getElem?_append_left (by simpa using hi),gM_]at h2
   cases e:vs[i]? with
   |none=>rw[e]at h2;cases h2
   |some a=>rw[e]at h2;cases h2;rfl
  obtain⟨u,hu,rv⟩:=r.get ha
  have hp:ps[i]? = some y:=by
   rw[<-S.pre,List.getElem?_take_of_lt (by omega)];exact h1
  have ndP:ps.Nodup:=by rw[<-S.pre];exact S.nd.sublist (yfn _ _)
  refine⟨u,rv,?_⟩
  rcases S.par y (yce hp)with k|k
  ·exact .inl ⟨k,qah ndP hp hu k⟩
  ·obtain⟨c,e⟩:=w5 (n:=s.heap.objs.size+1) k
   refine .inr ⟨.inl k,c,e,?_⟩
   have q:=x.cell y c e
   rw[qai ndP hp hu (by show scope.names.lookup y≠_;rw[k];decide)]at q
   exact q
 ·exact e0.hok.fresh (ycu (x.above y c (yaP h)))
 ·unfold z7
  show _=N.length
  rw[lA_,lM_,yaO]
  omega
theorem qlB {CX:CXT} {P:yao} {w:World} {K:yai} {mg:Str->Option Value} {base:Heap} {k:Nat} {f:Addr} {name qual:Str} {params:yeb} {body:List Stmt} {scope:Scope} {dV kV doc pm cdv ct oc:Value} {an od:Option Addr}
  {osl:Array (Option Value)} {N ps:List Str} {sp:Sp} (lk:K.lookup f=some ⟨oc,od,.func (yas name qual params body scope dV kV doc pm an cdv ct),osl⟩) (hcd:yaq K cdv qual=true) (S:qE N ps scope)
  (len:∀vs H Q E,sp vs H Q E->vs.length=ps.length)
  (hbody:∀(A:yau)(outer:List Env)(s:yab)(H:Hp)(vs:List V)(Q:VK)(E:XK),uV k (A.deeper (ybf qual scope s.heap.objs.size f cdv))->AloneA (A.deeper (ybf qual scope s.heap.objs.size f cdv)) H->sp vs H Q E ->
   ∃t,PSs (qeI CX P w K mg base N qual scope f cdv A outer s H E) body t/\t {nx:=λ_ H'=>Q .non H',rt:=Q} (z7 N vs) H) :
  qcz P w K mg base CX (k+1) f (yas name qual params body scope dV kV doc pm an cdv ct) ps sp:=by
 refine⟨len,λA outer s H args us vs Q E hr al e0 hb r hsp=>?_⟩
 have hl:=len _ _ _ _ hsp
 have KX:K.In s.heap:=e0.mod.kin.keeps λb o e=>(e0.bs b o e).1
 have lim:s.heap.NoLimit:=e0.mod.nolimit.keeps λb o e=>(e0.bs b o e).1
 have hkind:∀y∈ps.zip us,scope.names.lookup y.1=some .local\/(scope.names.lookup y.1=some .cell/\((ydo (s.heap.objs.size+1) scope.names []).lookup y.1).isSome=true):=λ⟨n,v⟩ hy=>by
  rcases S.par n (yc5 hy).1 with q|q
  ·exact .inl q
  ·exact .inr ⟨q,ycJ _ _ _ (.inl q)⟩
 refine yex hr.depth (KX _ _ lk) rfl S.co S.gen rfl (ye6 KX hcd) (hb _ _ _ _ ?_)
 refine ydA S.kind hkind λenv he s1 x=>?_
 subst he
 refine⟨lim.keeps x.toInCall.keep,codeAny_func ?_⟩
 obtain⟨t,ht,hq⟩:=hbody A outer s H vs Q E (hr.deeper _) al hsp
 have I:Inv (qeI CX P w K mg base N qual scope f cdv A outer s H E) [] (z7 N vs) H s1:=qeJ S e0 hl r x
 refine ya8 (ht [] s1 (z7 N vs) H _ I hq) (λfl s' hs=>?_) λe s' hs=>hs
 have fin:∀{σ':St}{H':Hp}{v:V}{u:Value},Inv (qeI CX P w K mg base N qual scope f cdv A outer s H E) [] σ' H' s'->jO v u->Q v H'->CE outer P w H s Q u s' :=
  λ{σ' H' v u} J rv q=>⟨v,H',J.os,J.bare,J.base,J.hok,rv,q⟩
 cases fl with
 |ret u=>
  obtain⟨v,σ',H',J,rv,q⟩:=hs
  exact fin J rv q
 |next=>
  obtain⟨σ',H',J,q⟩:=hs
  exact fin (v:=V.non) (u:=yax) J rfl q
 |brk=>
  obtain⟨_,_,_,q⟩:=hs
  exact yaV q
 |cont=>
  obtain⟨_,_,_,q⟩:=hs
  exact yaV q
section
variable{X:Cx}{CX:CXT}{k:Nat}{f C:Addr}{fd:yaM}{ps:List Str}{sp:Sp}{dvs:List V}{ds:List Value}{E:XK}{x m:Str}{p pos apos:Pos}{e o:Expr}{es:List Expr}{ta:TE}{t:TA}
theorem qjK {pins:List (Addr×Obj)} {σ:St} {H:Hp} {s:yab} {Q:VK} {us:List Value} {vs:List V} (F:qcz X.prog X.w X.K X.mg X.base CX k f fd ps sp) (hr:uV k X.A) (hb:uM X.K fd ps ds) (hd:ze dvs ds) (hx:qaf CX X E)
  (I:Inv X pins σ H s) (r:ze vs us) (al:AloneA X.A H) (h:sp (vs++dvs) H Q E):wpAny (model X.prog X.w) X.A (call (.ref f) us) (EP X pins σ Q) X.xe s:=by
 have r2:ze (vs++dvs) (us++ds):=r.append hd
 have hl:(us++ds).length=ps.length:=by rw[<-r2.length];exact F.len _ _ _ _ h
 refine wpAny_call (ydS (F.run X.A X.stack s H ⟨us,[]⟩ (us++ds) (vs++dvs) Q E hr al I.env0 (hb s us I.kIn hl) r2 h) λr s' hq=>?_)
 cases r with
 |error e=>exact hx pins σ H s e s' I hq
 |ok fl=>
  cases fl with
  |ret u=>exact I.after hq
  |next=>exact yaV hq
  |brk=>exact yaV hq
  |cont=>exact yaV hq
theorem qd1 (F:qcz X.prog X.w X.K X.mg X.base CX k f fd ps sp) (hr:uV k X.A) (hg:Gl X x) (hm:X.mg x=some (.ref f)) (hk:yaj X.K (.ref f)=true) (hb:uM X.K fd ps ds) (hd:ze dvs ds) (hx:qaf CX X E)
  (ha:PA X (e::es) t) (hdb:(x==("__debug__":Str))=false:=by decide) (he:yae (e::es) X.env=(false,eval e X.env)::yae es X.env:=by rfl) (hpl:(yaQ pos (yae es X.env)).any (·.1)=false:=by rfl) :
  PE X (.Call (.Name x p) (e::es) [] pos) (qlA X.A sp dvs E t):=by
 intro pins s σ H Q I h
 refine ycv (qbq I hg hm ?_ hdb)
 refine ye5 (h₀:=X.base) I.ok.mod.kin hk (thn (ha pos pins s σ H _ I h) λus s1 ⟨vs,H1,I1,r,q⟩=>⟨I1.kIn,?_⟩) he hpl
 exact qjK F hr hb hd hx I1 r q.1 q.2
end
end L2
namespace L2.Sk
open PySem PySem.Spec PyProof.Rows
def isT (b:Bool):Value->Bool
 |.bool a=>a==b
 |_=>false
theorem wF:∀{bs:List Bool}{us:List Value},ze (bs.map V.bl) us->us=bs.map yaL
 | [],_,r=>by rw[yc7]at r;cases r;rfl
 | b::bs,_,r=>by
  rw[mC_]at r
  cases r with
  |cons r1 r2=>
   have e:_=yaL b:=r1
   rw[e,wF r2];rfl
theorem qbf (b:Bool):∀bs:List Bool,List.countP (isT b) (bs.map yaL)=bs.countP (·==b)
 | []=>rfl
 |a::bs=>by simp[yd1,qbf b bs,isT]
def qin:V->List V->Hp->VK->Prop:=λx vs H Q=>∃(l:Addr)(bs:List Bool)(b:Bool),x=.ref l/\vs=[.bl b]/\H l=some (.lst (bs.map V.bl))/\Q (.int (bs.countP (·==b))) H
def qio:V->List V->Hp->VK->Prop:=λx vs H Q=>∃(l:Addr)(bs:List Bool)(b:Bool)(j:Nat),x=.ref l/\vs=[.bl b]/\H l=some (.lst (bs.map V.bl))/\bs.findIdx? (·==b)=some j/\Q (.int j) H
section
variable{X:Cx}
theorem qhy:MtR X "list.count" qin:=by
 intro pins s σ H x vs v us Q I rx rv h
 obtain⟨l,bs,b,rfl,rfl,hH,q⟩:=h
 cases rx
 obtain⟨u,rfl,ru⟩:=ze.one rv
 have ru':u=yaL b:=ru
 subst ru'
 obtain⟨z,its,n,r,hl,e⟩:=I.lstM hH
 have hi:=wF r
 subst hi
 refine ybu F.slot_list_count ⟨_,e,rfl⟩ F.entry_list_count (F.args_list_count_2 _ _) (SeqAt.list_countAt l (bs.map yaL).toArray n none #[] (.bool b) (isT b)) ⟨e,λy hy=>?_,?_⟩
 ·have hy':y∈bs.map yaL:=by simpa using hy
  obtain⟨a,_,rfl⟩:=mP_.mp hy'
  exact yeN a b
 ·refine⟨.int _,H,I.tok _,⟨s.toks,?_⟩,q⟩
  show yb2 _ _=yb2 _ _
  rw[List.toList_toArray,qbf]
theorem qhz:MtR X "list.index" qio:=by
 intro pins s σ H x vs v us Q I rx rv h
 obtain⟨l,bs,b,j,rfl,rfl,hH,hj,q⟩:=h
 cases rx
 obtain⟨u,rfl,ru⟩:=ze.one rv
 have ru':u=yaL b:=ru
 subst ru'
 obtain⟨z,its,n,r,hl,e⟩:=I.lstM hH
 have hi:=wF r
 subst hi
 rw[List.findIdx?_eq_some_iff_getElem]at hj
 obtain⟨h1,h2,h3⟩:=hj
 have hz:bs.length<=yam:=by simpa using z
 rw[ybT]at hz
 refine ybu F.slot_list_index ⟨_,e,rfl⟩ F.entry_list_index (F.args_list_index_2 _ _) (SeqAt.list_indexAt l (bs.map yaL).toArray n none #[] (.bool b) (isT b) j (by simpa using h1) (by omega) ?_ ?_) ⟨e,λy hy=>?_,?_⟩
 ·simpa [isT] using h2
 ·intro m hm hmj
  have:=h3 m hmj
  simpa [isT] using this
 ·have hy':y∈bs.map yaL:=by simpa using hy
  obtain⟨a,_,rfl⟩:=mP_.mp hy'
  exact yeN a b
 ·exact⟨.int _,H,I.tok _,⟨s.toks,rfl⟩,q⟩
end
def qcA (x:D) (ys:List D):Option D:=match x,ys with
 |.lst ds,[.bl b]=>(yI ds).map λbs => .int (bs.countP (·==b))
 |_,_=>none
def qcB (x:D) (ys:List D):Option D:=match x,ys with
 |.lst ds,[.bl b]=>(yI ds).bind λbs=>(bs.findIdx? (·==b)).map λj => .int j
 |_,_=>none
def qf6 (F:D->List D->Option D) (f:M D) (g:M (List D)):M D:=bnd f λx=>match x with
 |.lst ds=>bnd g λys=>lift (F (.lst ds) ys)
 |_=>λ_ => .bad
def qjL(K:Fr0)(F:D->List D->Option D)(r:V->List V->Hp->VK->Prop):Prop:=∀A H x ys d v vs (Q:VK),(∀a,H a=none->A a)->Is K A H x v->IsL K A H ys vs->F x ys=some d->(∀u H',jG H H'->Is K A H' d u->Q u H')->r v vs H Q
theorem qdi {K:Fr0}:qjL K qcA qin:=by
 intro A H x ys d v vs Q hn ix iy e k
 unfold qcA at e
 split at e
 ·rename_i ds b
  obtain⟨u,rfl,e2⟩:=IsL.inv1 iy
  cases e2
  obtain⟨a,xs,rfl,_,ta,il⟩:=ix
  cases eb:yI ds with
  |none=>rw[eb]at e;cases e
  |some bs=>
   rw[eb]at e
   cases e
   rw[uu il eb]at ta
   exact⟨a,bs,b,rfl,rfl,ta,k _ H (jG.refl H) rfl⟩
 ·cases e
theorem qdj {K:Fr0}:qjL K qcB qio:=by
 intro A H x ys d v vs Q hn ix iy e k
 unfold qcB at e
 split at e
 ·rename_i ds b
  obtain⟨u,rfl,e2⟩:=IsL.inv1 iy
  cases e2
  obtain⟨a,xs,rfl,_,ta,il⟩:=ix
  cases eb:yI ds with
  |none=>rw[eb]at e;cases e
  | some bs=>
   rw[eb]at e
   cases ej:bs.findIdx? (·==b) with
   |none=>simp only[yd2,ej]at e;cases e
   |some j=>
    simp only[yd2,ej,yee]at e
    cases e
    rw[uu il eb]at ta
    exact⟨a,bs,b,j,rfl,rfl,ta,ej,k _ H (jG.refl H) rfl⟩
 ·cases e
section
variable{X:Cx}{c:Fc}{o e:Expr}{es:List Expr}{apos cpos:Pos}
theorem qf7 {id:String} {name:Str} {r:V->List V->Hp->VK->Prop} {F:D->List D->Option D} {f:M D} {g:M (List D)} (slot:Slot "list" name id) (hty:typeOf (.builtin id)=pure (.type "method_descriptor")) (hm:MtR X id r) (hF:qjL X.K F r)
  (ho:DE X c o f) (ha:DA X c (e::es) g)
  (hbase:yeU o name X.env (eval o X.env)=eval o X.env:=by rfl)
  (hfew:((yaQ cpos (yae (e::es) X.env)).all (λx => !x.1)&&(backToKw cpos (yfz [] X.env)).all (λx=>x.1.isSome)
   && decide ((e::es).length+([]:List ydO).length+(if([]:List ydO).isEmpty then 0 else 1)<30))=true:=by rfl)
  (hline:(apos.endLine==cpos.line)=true:=by rfl) (hs:yae (e::es) X.env=(false,eval e X.env)::yae es X.env:=by rfl) (hplain:(yaQ cpos (yae es X.env)).any (·.1)=false:=by rfl) :
  DE X c (.Call (.Attribute o name apos) (e::es) [] cpos) (qf6 F f g):=by
 obtain⟨to,po,wo⟩:=ho
 obtain⟨t,pa,wa⟩:=ha
 refine⟨_,qk0 yd6 slot hty hm po pa hbase hfew hline hs hplain,λρ σ H Q r0 h=>wo ρ σ H _ r0 (Wp.bnd h λx ρ1 v H1 r1 i1 g1 h1=>?_)⟩
 cases x with
 |lst ds=>
  obtain⟨a,xs,rfl,ha,hH,il⟩:=i1
  refine⟨.inl ⟨rfl,xs,.inl (.inl hH)⟩,wa ρ1 σ H1 _ r1 (WpL.bnd h1 λys ρ2 vs H2 r2 i2 g2 h2=>?_)⟩
  obtain⟨d,ed,h3⟩:=h2.lift
  exact hF (Cn c σ) H2 (.lst ds) ys d (.ref a) vs Q (λa ha=>r2.new ha) (g2.is ⟨a,xs,rfl,ha,hH,il⟩) i2 ed λu H' sm i=>h3 u H' (r2.same sm) i (.of_same sm)
 |_=>exact h1.elim
end
def isI (b:Int):Value->Bool
 |.int a _=>a==b
 |_=>false
section
variable{X:Cx}
end
def qnw (x:D) (ys:List D):Option D:=match x,ys with
 |.lst ds,[.int b]=>(vA ds).map λns => .int (ns.countP (·==b))
 |_,_=>none
@[reducible] def toX (X:Cx) (xe:Value->yab->Prop) (pn:List (Addr×Obj)):Cx:={X with xe:=xe,pn:=pn}
@[reducible] def hdX (X:Cx) (e:Addr):Cx:={X with A:=X.A.mark (some (.ref e)),calm:=false,xe:=λ_ _=>False}
section
variable{X:Cx}{pins:List (Addr×Obj)}{σ:St}{H:Hp}{s:yab}{xe:Value->yab->Prop}
theorem qlC (I:Inv X pins σ H s):Inv (toX X xe (X.pn++pins)) [] σ H s :=
 let k:=I.ok
 ⟨⟨k.mod,k.kind,k.glob,k.blt,k.above,k.inj,k.has,k.cab,k.hd,k.frames,k.stk,k.exf,k.bs,k.bsz,k.noex,k.exfs,k.funs,k.frf⟩,I.os,I.bare,I.base,I.loc,I.cell,I.free,I.freeC,
  λp hp=>I.pin p (by rw[ybn]at hp;exact hp),I.hok,I.len⟩
theorem vV {pins2:List (Addr×Obj)} (I:Inv (toX X xe (X.pn++pins)) pins2 σ H s):Inv X pins σ H s :=
 let k:=I.ok
 ⟨⟨k.mod,k.kind,k.glob,k.blt,k.above,k.inj,k.has,k.cab,k.hd,k.frames,k.stk,k.exf,k.bs,k.bsz,k.noex,k.exfs,k.funs,k.frf⟩,I.os,I.bare,I.base,I.loc,I.cell,I.free,I.freeC,
  λp hp=>I.pin p (ycd _ hp),I.hok,I.len⟩
theorem qip (e:Addr) (I:Inv X pins σ H s):Inv (hdX X e) pins σ H s :=
 let k:=I.ok
 ⟨⟨k.mod,k.kind,k.glob,k.blt,k.above,k.inj,k.has,k.cab,λz=>(nomatch z),k.frames,k.stk,k.exf,k.bs,k.bsz,k.noex,k.exfs,k.funs,k.frf⟩,I.os,I.bare,I.base,I.loc,I.cell,I.free,I.freeC,I.pin,I.hok,I.len⟩
theorem qhA {e:Addr} {σ':St} {H':Hp} {s':yab} (k:X.Ok) (I:Inv (hdX X e) pins σ' H' s'):Inv X pins σ' H' s' :=
 ⟨k,I.os,I.bare,I.base,I.loc,I.cell,I.free,I.freeC,I.pin,I.hok,I.len⟩
theorem qeK {h':Heap} {m':Str->Option Value} {tk:Nat} (I:Inv X pins σ H s) (hn:h'.Ns X.env.locals m') (hs:ybW X.env.locals s.heap h') :
  Inv X pins (yap X.N.length none) H {s with heap:=h',toks:=tk}:=by
 obtain⟨m,hn0,_⟩:=id I.loc
 obtain⟨oL,_,_,hoL,_⟩:=id hn0
 have ne:∀b o,X.s₀.heap.get? b=some o->b≠X.env.locals:=λb o q=>yat (yaw (yad q) I.ok.above)
 refine⟨I.ok,I.os,I.bare,⟨λb o e n hb hx=>(hs.2 b (ne b o e)).trans (I.base.keep b o e n hb hx),λb o e n hb hx=>?_,I.base.free,λb o e hx=>?_,I.base.tups,I.base.frzs,I.base.tbls⟩,⟨m',hn,λj y v e1 e2 e3=>?_⟩,λy c e=>?_,I.free,I.freeC,λp hp=>?_,λb ob e=>?_,by simp⟩
 ·obtain⟨sl,q⟩:=I.base.slot b o e n hb hx
  exact⟨sl,(hs.2 b (ne b o e)).trans q⟩
 ·obtain⟨o',q⟩:=I.base.there b o e hx
  exact⟨o',(hs.2 b (ne b o e)).trans q⟩
 ·rw[List.getElem?_replicate]at e2
  split at e2<;>cases e2
 ·obtain⟨w',z⟩:=I.cell y c e
  exact⟨w',z.sameBut hs (I.cne y c e)⟩
 ·obtain⟨e,n,nl,nf,d⟩:=I.pin p hp
  exact⟨(hs.2 p.1 nl).trans e,n,nl,nf,d⟩
 ·refine(I.hok b ob e).stay (λc w' hc q=>(hs.2 c ?_).trans q) (λ_ q=>q) λ_ _ q=>q
  rintro rfl
  rcases hc with rfl|hc
  ·rw[I.free]at e;cases e
  ·rw[I.free]at hc;cases hc
theorem qf8 {H':Hp} {h':Heap} (I:Inv X pins σ H s) (u:Un (frs X.stack) [] H H' s.heap h'):h'.FunFrames X.base X.stack:=by
 have all:∀(l:List yaN),(∀b∈frs l,b∈frs X.stack)->s.heap.FunFrames X.base l->h'.FunFrames X.base l:=by
  intro l
  induction l with
  |nil=>intro _ _;trivial
  |cons env r ih=>
   intro hss hl
   obtain⟨hk,⟨L,o,hf',hn,ho,hd⟩,hr⟩:=hl
   have hfr:frs (env::r)=L::frs r:=by unfold frs;rw[ybd,hf']
   rw[hfr]at hss
   have hL:=hss L mS_
   obtain⟨sl,e⟩:=u.slot L o ho (I.stkFree L hL) hL (by simp)
   exact⟨hk,⟨L,_,hf',hn,e,hd⟩,ih (λb hb=>hss b (mM _ hb)) hr⟩
 exact all X.stack (λ_ z=>z) I.stack
theorem qiq {H':Hp} {h1 h':Heap} {ch:List Addr} (u:Un (frs X.stack) [] H H' s.heap h1) (hchn:∀b∈ch,s.heap.get? b=none) (x:Lft h1 h' ch (frs X.stack)):Un (frs X.stack) [] H H' s.heap h':=by
 have nch:∀b o,s.heap.get? b=some o->b ∉ ch:=λb o q z=>by rw[hchn b z]at q;cases q
 refine⟨λb o q n hb hx=>x.keep b o (nch b o q) hb (u.keep b o q n hb hx),λb o q n hb hx=>?_,u.free,λb o q hx=>?_,u.tups,u.frzs,u.tbls⟩
 ·obtain⟨sl,q1⟩:=u.slot b o q n hb hx
  obtain⟨sl2,q2⟩:=x.slot b _ hb q1
  exact⟨sl2,q2⟩
 ·obtain ⟨o2,q2⟩:=u.there b o q hx
  by_cases hb:b∈frs X.stack
  ·obtain⟨sl,q3⟩:=x.slot b o2 hb q2
   exact⟨_,q3⟩
  ·exact⟨o2,x.keep b o2 (nch b o q) hb q2⟩
theorem qf9 {H':Hp} {h1 h':Heap} {ch:List Addr} (I:Inv X pins σ H s) (u:Un (frs X.stack) [] H H' s.heap h1) (hok:HOk X.prog X.w H' h1) (hch:∀b∈ch,H' b=none) (x:Lft h1 h' ch (frs X.stack)):HOk X.prog X.w H' h' :=
 qil hok λb o hb1 q=>x.keep b o (λz=>by rw[hch b z]at hb1;cases hb1) (λz=>by
  obtain⟨_,o1,ho1,_⟩:=I.stack.mem z
  rw[u.free b o1 ho1 (I.stkFree b z) (by simp)]at hb1
  cases hb1) q
theorem qjM {H':Hp} {h':Heap} {e:Addr} {o:HO} (u:Un (frs X.stack) [] H H' s.heap h') (he:s.heap.get? e=none) (hHe:H' e=none):Un (frs X.stack) [] H (upd H' e o) s.heap h':=by
 have ne:∀b ob,s.heap.get? b=some ob->b≠e:=λb ob q z=>by rw[z,he]at q;cases q
 have ne':∀b u,H' b=some u->b≠e:=λb u q z=>by rw[z,hHe]at q;cases q
 refine⟨u.keep,u.slot,λb ob q n hx=>by rw[qz (ne b ob q)];exact u.free b ob q n hx,u.there,λb xs q=>?_,λb ob w q=>?_,λb ps y q=>?_⟩
 ·have:=u.tups b xs q
  rw[qz (ne' b _ this)];exact this
 ·have:=u.frzs b ob w q
  rw[qz (ne' b _ this)];exact this
 ·have:=u.tbls b ps y q
  rw[qz (ne' b _ this)];exact this
theorem qhB {P:yao} {w:World} {H':Hp} {h':Heap} {e:Addr} {oe:Obj} (hok:HOk P w H' h') (hHe:H' e=none) (he:h'.get? e=some oe):HOk P w (upd H' e (.frz oe (.own e))) h':=λb ob q=>by
 by_cases hb:b=e
 ·subst hb
  rw[qx]at q
  cases q
  exact⟨he,oe,he⟩
 ·rw[qz hb]at q
  have ne':∀c u,H' c=some u->c≠e:=λc u q z=>by rw[z,hHe]at q;cases q
  exact(hok b ob q).stay (λ_ _ _ q=>q) (λc q=>by rw[qz (ne' c _ q)];exact q) (λc xs q=>by rw[qz (ne' c _ q)];exact q) λc ob y q=>by rw[qz (ne' c _ q)];exact q
end
def qga (RN:List Str) (f:MS) (F:List D->R D):MS:=λρ=>match f ρ with
 | .exc x ρ'=>if RN.contains x.cls then match F [.exc x.cls] with
   |.ok d => .ok (.rt d ρ')
   |_ => .bad
  else .bad
 |r=>r
def reE(c:Fc)(E:Exn->Hp->Prop):Fc:={c with E:=E}
theorem Rep.reE{K:Fr0}{c:Fc}{E:Exn->Hp->Prop}{ρ:Env}{σ:St}{H:Hp}(r:Rep K c ρ σ H):Rep K (Sk.reE c E) ρ σ H:=⟨r.len,r.val,r.own,r.inj,r.b0,r.kp,r.dm,r.pO,r.ps⟩
theorem Rep.unE{K:Fr0}{c:Fc}{E:Exn->Hp->Prop}{ρ:Env}{σ:St}{H:Hp}(r:Rep K (Sk.reE c E) ρ σ H):Rep K c ρ σ H:=⟨r.len,r.val,r.own,r.inj,r.b0,r.kp,r.dm,r.pO,r.ps⟩
structure qnx (K:Fr0) (base:Heap) (RN:List Str) (S:Addr):Prop where
 sup:∃bm,XC base S bm
 own:∀n C,clR K RN n=some C->∃bm,XC base C bm/\(yaf C::bm).contains (.ref S)=true
 ki:∀n C,clR K RN n=some C->XK6 K C
def ch(H6:Hp):Fc:=⟨[],[],λa=>H6 a=none,H6,λ_=>False,λ_ _=>False,λ_=>none⟩
section
variable{X:Cx}{c:Fc}{pos np hpos p1 p2 p3 p4:Pos}{body:List Stmt}
theorem qlD {x n m:Str} {i:Nat} {S fm:Addr} {fd:yaM} {ps:List Str} {k:Nat} {F:List D->R D} {f:MS} {RN:List Str} (hN:X.N.Nodup) (hcx:X.stack=X.env::X.outer) (hf:X.env.frame=some X.env.locals)
  (hcl:qnx X.K X.base RN S) (hgS:Gl X x) (hmS:X.mg x=some (.ref S))
  (G:qcz X.prog X.w X.K X.mg X.base CX0 k fm fd ps (spD X.K F)) (hr:uH k X.A) (hgm:Gl X m) (hmm:X.mg m=some (.ref fm)) (hkm:yaj X.K (.ref fm)=true) (hbm:uM X.K fd ps [])
  (hb:∀(xe:Value->yab->Prop)(pn:List (Addr×Obj))(E:XK)(cE:Exn->Hp->Prop),XL2 (toX X xe pn) (reE c cE) (clR X.K RN) E->DSs (toX X xe pn) (reE c cE) body f)
  (hi:X.N[i]? = some n:=by rfl) (hx:X.env.scope.names.lookup n=some .local:=by rfl) (hkn:X.env.kindOf n=some .local:=by rfl)
  (hdx:(x==("__debug__":Str))=false:=by decide) (hdm:(m==("__debug__":Str))=false:=by decide) (hdn:(n==("__debug__":Str))=false:=by decide) (hcn:(n==("__classdict__":Str))=false:=by decide)
  (hst:yae [.Name n p2] X.env=(false,eval (.Name n p2) X.env)::yae [] X.env:=by rfl) (hpl:(yaQ p3 (yae [] X.env)).any (·.1)=false:=by rfl) :
  DS X c (.Try body [.ExceptHandler (some (.Name x np)) (some n) [.Return (some (.Call (.Name m p1) [.Name n p2] [] p3)) p4] hpos] [] [] pos) (qga RN f F):=by
 refine⟨λD σ H=>∃ρ,Rep X.K c ρ σ H/\WpS X.K c σ H D (qga RN f F ρ),?_,λρ σ H D r h=>⟨ρ,r,h⟩⟩
 rintro pins s σ H D I ⟨ρ,r,w⟩
 refine wpAny_Try_except ?_
 have hk:=I.ok
 let xe:Value->yab->Prop:=λe sY=>wpAny (model X.prog X.w) X.A (yed e X.env) (λ_ sQ=>wpAny (model X.prog X.w) X.A (ydt e none) (λ_ sV=>wpAny (model X.prog X.w) X.A (handleBy e X.env [.ExceptHandler (some (.Name x np)) (some n) [.Return (some (.Call (.Name m p1) [.Name n p2] [] p3)) p4] hpos]) (SP X pins D) X.xe sV) X.xe sQ) X.xe sY
 let cE:Exn->Hp->Prop:=λz H'=>∃ρ' σ',f ρ=.exc z ρ'/\Rep X.K c ρ' σ' H'/\GrS c.O σ H σ' H'
 let E:XK:=λcv _ H'=>∃C z,cv=.ref C/\clR X.K RN z.cls=some C/\cE z H'
 have L:XL2 (toX X xe (X.pn++pins)) (reE c cE) (clR X.K RN) E:=by
  refine⟨?_,λz C H' h1 h2=>⟨C,z,rfl,h1,h2⟩⟩
  intro pins2 σ2 H2 s2 u s' I2 hx2
  obtain⟨e,T,C,H',rfl,os,bare,un,hok,he,hT,hHe,hHT,Fl,C',z,hC',hz,ρ',σ',ef,r',g'⟩:=hx2
  have eC:C=C':=Value.ref.inj hC'
  subst eC
  have I3:Inv X pins σ2 H2 s2:=vV I2
  have hz2:∀b∈[e,T],H' b=none:=λb hb=>by
   simp only[yan,nN_,or_false]at hb
   rcases hb with rfl|rfl
   ·exact hHe
   ·exact hHT
  have hz3:∀b∈[e,T],s2.heap.get? b=none:=λb hb=>by
   simp only[yan,nN_,or_false]at hb
   rcases hb with rfl|rfl
   ·exact he
   ·exact hT
  have hl:s'.heap.FunFrames X.base X.stack:=qf8 I3 un
  have hA:X.A.frames=some (X.env::X.outer):=by rw[<-hcx];exact hk.frames
  show wpAny _ _ _ _ _ _
  rw[hcx]at hl
  refine qcy hA hl hf Fl λh3 T3 y1 y2 y3=>?_
  rw[<-hcx]at y1
  have un3:Un (frs X.stack) [] H2 H' s2.heap h3:=qiq un hz3 y1
  have hok3:HOk X.prog X.w H' h3:=qf9 I3 un hok hz2 y1
  have I4:Inv X pins σ2 H' {s' with heap:=h3}:=I3.call' (s':={s' with heap:=h3}) (ch:=[]) os un3 hok3 bare (λb hb=>nomatch hb)
  have up:∀b,s'.heap.get? b=none->s2.heap.get? b=none:=λb hb=>by
   cases q:s2.heap.get? b with
   |none=>rfl
   |some o=>
    obtain⟨o',q'⟩:=un.there b o q (by simp)
    rw[hb]at q';cases q'
  have hT3:s2.heap.get? T3=none:=y3.elim (λz=>z▸hT) (up T3)
  have hHT3:H' T3=none:=y3.elim (λz=>z▸hHT) λz=>by
   cases q:H' T3 with
   |none=>rfl
   |some o=>
    obtain⟨o',q'⟩:=ux (hok _ _ q)
    rw[z]at q';cases q'
  refine wpAny_handleBy_cons (codeAny_handlers_test ?_) (by intro q;cases q)
  refine qbq (X:=hdX X e) (qip e I4) hgS hmS ?_ hdx
  obtain⟨bmS,xS⟩:=hcl.sup
  obtain⟨bm,xC,hin⟩:=hcl.own _ _ hz
  obtain⟨nmS,qS,NS,bsS,hdctS,snS,subS,abS,colS,ddS,j0,j1,j2,j3,j5,newIdS,_,_,_,_,hS,_⟩:=xS.ex
  obtain⟨nm,q,N,bs,hdct,sn,sub,ab,col,dd,k0,k1,k2,k3,k5,newId,_,_,_,_,hC,_⟩:=xC.ex
  obtain⟨oe,vs,oT,ts,a0,hoe,hoc,hod,_⟩:=id y2
  refine qaS (M:=model X.prog X.w) (A:=X.A.mark (some (.ref e))) (h:=h3) (g:=s'.gens) (d:=s'.drawn) (t:=s'.toks) (os:=s'.os) (I4.bk _ _ hC) (I4.bk _ _ hS) hoe hoc.1 xS.hasBase ?_
  rw[hin]
  show ybU _ _ _ _ _
  refine codeAny_handlers_suite_as ?_
  have hl3:h3.FunFrames X.base X.stack:=qf8 I3 un3
  refine qeH (s:={s' with heap:=h3}) hl3 y2 λh4 T4 z1 z2 z3=>?_
  have hz4:∀b∈[e,T3],H' b=none:=λb hb=>by
   simp only[yan,nN_,or_false]at hb
   rcases hb with rfl|rfl
   ·exact hHe
   ·exact hHT3
  have hz5:∀b∈[e,T3],s2.heap.get? b=none:=λb hb=>by
   simp only[yan,nN_,or_false]at hb
   rcases hb with rfl|rfl
   ·exact he
   ·exact hT3
  have un4:Un (frs X.stack) [] H2 H' s2.heap h4:=qiq un3 hz5 z1
  have hok4:HOk X.prog X.w H' h4:=qf9 I3 un3 hok3 hz4 z1
  obtain⟨oe4,vs4,oT4,ts4,a04,hoe4,hoc4,hod4,_⟩:=id z2
  have I5:Inv X pins σ2 (upd H' e (.frz oe4 (.own e))) {s' with heap:=h4}:=I3.call' (s':={s' with heap:=h4}) (ch:=[]) os (qjM un4 he hHe) (qhB hok4 hHe hoe4) bare (λb hb=>nomatch hb)
  refine vL (v:=.ref e) I5 hN hi (.inl hx) rfl (λs5 I6=>?_) (.inr hx)
  have sm:jG H' (upd H' e (.frz oe4 (.own e))):=qu hHe _
  have hil:IsL X.K (λ_=>False) (upd H' e (.frz oe4 (.own e))) [.exc z.cls] [.ref e]:=⟨.ref e,[],rfl,⟨e,rfl,C,(qdI hz).2,hcl.ki _ _ hz,oe4,vs4,qx,hoc4.1,hod4⟩,rfl⟩
  cases em:F [.exc z.cls] with
  |bad=>simp only[qga,ef,(qdI hz).1,em,if_true]at w;exact w.elim
  |exc z' ρ''=>simp only[qga,ef,(qdI hz).1,em,if_true]at w;exact w.elim
  | ok d=>
   simp only[qga,ef,(qdI hz).1,em,if_true]at w
   have hσl:i<σ2.length:=by rw[I5.len];exact(gI_.mp hi).1
   have call:=qe8 (qe9 (pos:=p4) (qd1 (X:=hdX X e) (E:=λ_ _ _=>False) (pos:=p3) (p:=p1) G ⟨hr.dp,hr.un,hr.gd⟩ hgm hmm hkm hbm .nil (λ_ _ _ _ _ _ _ z=>z.elim) (yj (vp (X:=hdX X e) (pos:=p2) hi (.inl hx) hdn hcn) wQ hst) hdm hst hpl))
   have run:=call pins s5 _ _ ({nx:=λ_ _=>False,rt:=D.rt}:qe6) (qip e I6) ⟨.ref e,List.getElem?_set_self hσl,⟨e,oe4,.own e,vs4,rfl,qx,hod4,hoc4.2.1⟩,[.exc z.cls],λ_=>False,hil,r'.tb.same sm,by
    rw[em]
    exact λv H6 sm6 i6=>w v σ' H6 (r'.same (λb o q=>sm6 b o (sm b o q))) (Is.ext Ext.refl (λa ha _=>ha.elim (λz=>z.elim) λhn=>r'.b0.1 a (r'.dm a (sm.free hn))) i6) (g'.trans (Gr.of_same (λb o q=>sm6 b o (sm b o q))).s)⟩
   refine ya8 run (λfl s6 h6=>?_) (λ_ _ z=>z.elim)
   cases fl with
   |next=>obtain⟨_,_,_,z⟩:=h6;exact z.elim
   |brk=>obtain⟨_,_,_,z⟩:=h6;exact z.elim
   |cont=>obtain⟨_,_,_,z⟩:=h6;exact z.elim
   |ret u=>
    obtain⟨v,σ7,H7,I7,rv,q7⟩:=h6
    have I8:=qhA hk I7
    obtain⟨m8,hn8,_⟩:=id I8.loc
    exact wpAny_nameGoes hkn hn8 (by rw[hk.kind];rfl) λh9 m9 hn9 hs9=>⟨v,_,H7,qeK I8 hn9 hs9,rv,q7⟩
 obtain⟨t,p,wt⟩:=hb xe (X.pn++pins) E cE L
 have w':WpS X.K (reE c cE) σ H D (f ρ):=by
  cases ef:f ρ with
  |bad=>simp only[qga,ef]at w;exact w
  |exc z ρ'=>exact λσ' H' r' g'=>⟨ρ',σ',ef,r'.unE,g'⟩
  |ok fl=>
   simp only[qga,ef]at w
   cases fl with
   |nx ρ'=>exact λσ' H' r' g'=>w σ' H' r'.unE g'
   |rt d ρ'=>exact λv σ' H' r' i' g'=>w v σ' H' r'.unE i' g'
   |bk ρ'=>exact λσ' H' r' g'=>w σ' H' r'.unE g'
   |ct ρ'=>exact λσ' H' r' g'=>w σ' H' r'.unE g'
 have run:=p [] s σ H D (qlC I) (wt ρ σ H D r.reE w')
 refine ya8 run (λfl s1 h1=>?_) (λ_ _ z=>z)
 cases fl with
 |next=>
  obtain⟨σ1,H1,I1,q1⟩:=h1
  exact yc3 ⟨σ1,H1,vV I1,q1⟩
 |brk=>obtain⟨σ1,H1,I1,q1⟩:=h1;exact⟨σ1,H1,vV I1,q1⟩
 |cont=>obtain⟨σ1,H1,I1,q1⟩:=h1;exact⟨σ1,H1,vV I1,q1⟩
 |ret u=>obtain⟨v,σ1,H1,I1,rv,q1⟩:=h1;exact⟨v,σ1,H1,vV I1,rv,q1⟩
end
end L2.Sk
namespace L2.Sk
open PySem PySem.Spec PyProof.Rows PySem.W
def bmV:List Value:=[.type "ValueError",.type "Exception",.type "BaseException",.type "object"]
def qeL (K:Fr0) (C S:Addr):Bool:=match K.lookup C with
 |some ⟨_,_,.cls cd,_⟩=>cd.mro.contains (.ref S)
 |_=>false
theorem qd2 {K:Fr0} {h:Heap} {C S:Addr} (X:K.In h) (q:excIn K C bmV "ValueError.__new__"=true) (hs:qeL K C S=true):∃bm,XC h C bm/\(yaf C::bm).contains (.ref S)=true:=by
 unfold excIn at q
 split at q
 ·rename_i dd cd sl ho
  split at q
  ·rename_i C' bm k0 k1 k2 k3 n k5 hm hl
   simp only[yal,beq_iff_eq,ydJ]at q
   obtain⟨⟨⟨⟨⟨e1,e2⟩,hdel⟩,ht⟩,hok⟩,hni⟩:=q
   subst e1 e2
   unfold qeL at hs
   rw[ho]at hs
   dsimp only at hs
   rw[hm]at hs
   obtain⟨nm,bs,mro,ns,qn,hd,sn,sub,ab,col,del⟩:=cd
   dsimp only at hm hdel hok hni
   subst hm hdel
   have hz:sl = #[k0,k1,k2,k3,some (.builtin _),k5]:=Array.toList_inj.mp hl
   subst hz
   have hT:=tail_of_in X ht
   refine⟨bm,⟨hT.hasType (by decide +kernel),nm,qn,ns,bs,hd,sn,sub,ab,col,dd,k0,k1,k2,k3,k5,_,"ValueError.__init__","ValueError",bmV,_,X _ _ ho,.of_isNs (isNs_of_in X hok),nsMap_none_of_in X hok hni,hT,PySem.F.excBase_ValueError⟩,hs⟩
  ·cases q
 ·cases q
def qjN (K:Fr0) (D:Addr):Bool :=
 findIn K (.ref D) "__getattribute__"==some (some (.builtin "BaseException.__getattribute__"))&&findIn K (.ref D) "__getattr__"==some none &&
 findIn K (.ref D) "__class__"==some (some (.builtin "object.__class__"))&&mroIn K D (.type "object")==some true&&subIn K (.ref D) (.type "BaseException")==some true&&(clsIn K D).isSome &&
 (["int","bool","str","tuple","list","dict"].all λT=>kitOne K (.ref D) (.type T)==some false)
theorem qlE {K:Fr0} {D:Addr} (h:qjN K D=true):XK6 K D:=by
 unfold qjN at h
 simp only[yal,beq_iff_eq]at h
 obtain⟨⟨⟨⟨⟨⟨h1,h2⟩,h3⟩,h4⟩,h5⟩,h6⟩,h7⟩:=h
 exact⟨h1,h2,h3,h4,h5,h6,λT hT=>by simpa using List.all_eq_true.mp h7 T hT⟩
def yW(n m:Str):Bool:=n==m||m=="SackError"
def qlF (K:Fr0) (S:Addr) (TN:List Str) (n:Str):Bool:=match uN K n with
 | some C=>excIn K C bmV "ValueError.__new__"&&qeL K C S&&qjN K C&&kitOne K (.ref C) (.type "ValueError")==some true &&
  TN.all λm=>match uN K m with
   |some Cm=>kitOne K (.ref C) (.ref Cm)==some (yW n m)
   |none=>false
 |none=>false
def qmW (K:Fr0) (RN TN:List Str):Bool:=match uN K "SackError" with
 |some S=>excIn K S bmV "ValueError.__new__"&&qeL K S S&&RN.all (qlF K S TN)
 |none=>false
structure XT (K:Fr0) (mg:Str->Option Value) (RN TN:List Str):Prop where
 all:qmW K RN TN=true
 mgc:∀n C,uN K n=some C->mg n=some (.ref C)
theorem qhC {K:Fr0} {h:Heap} {mg:Str->Option Value} (X:K.In h) (G:h.Ns yag mg) (n:Str) (C:Addr) (e:uN K n=some C):mg n=some (.ref C):=by
 unfold uN at e
 split at e
 ·rename_i C' q
  cases e
  exact mg_of X G q
 ·cases e
section
variable{K:Fr0}{mg:Str->Option Value}{RN TN:List Str}
theorem XT.sup (t:XT K mg RN TN):∃S,uN K "SackError"=some S/\excIn K S bmV "ValueError.__new__"=true/\qeL K S S=true/\RN.all (qlF K S TN)=true:=by
 have h:=t.all
 unfold qmW at h
 split at h
 ·rename_i S e
  simp only[yal]at h
  exact⟨S,e,h.1.1,h.1.2,h.2⟩
 ·cases h
theorem XT.row (t:XT K mg RN TN) {S:Addr} (hS:uN K "SackError"=some S) {n:Str} (hn:RN.contains n=true):qlF K S TN n=true:=by
 obtain⟨S',e,_,_,h⟩:=t.sup
 rw[hS]at e
 cases e
 exact List.all_eq_true.mp h n (by simpa using hn)
theorem XT.cls (t:XT K mg RN TN) {n:Str} {C:Addr} (h:clR K RN n=some C):uN K n=some C/\∃S,uN K "SackError"=some S/\excIn K C bmV "ValueError.__new__"=true/\qeL K C S=true/\XK6 K C/\kitOne K (.ref C) (.type "ValueError")=some true /\
  ∀m∈TN,∃Cm,uN K m=some Cm/\kitOne K (.ref C) (.ref Cm)=some (yW n m):=by
 unfold clR at h
 split at h
 ·rename_i hn
  obtain⟨S,hS,_⟩:=t.sup
  have r:=t.row hS hn
  unfold qlF at r
  rw[h]at r
  simp only[yal,beq_iff_eq]at r
  obtain⟨⟨⟨⟨r1,r2⟩,r3⟩,r4⟩,r5⟩:=r
  refine⟨h,S,hS,r1,r2,qlE r3,r4,λm hm=>?_⟩
  have:=List.all_eq_true.mp r5 m hm
  split at this
  ·rename_i Cm e
   exact⟨Cm,e,by simpa using this⟩
  ·cases this
 ·cases h
theorem XT.has (t:XT K mg RN TN) {n:Str} (hn:RN.contains n=true):∃C,clR K RN n=some C:=by
 obtain⟨S,hS,_⟩:=t.sup
 have r:=t.row hS hn
 unfold qlF at r
 split at r
 ·rename_i C e
  exact⟨C,by unfold clR;rw[if_pos hn];exact e⟩
 ·cases r
theorem XT.ask (t:XT K mg RN TN) {n m:Str} (hn:RN.contains n=true) (hm:m∈TN):∃Cm,uN K m=some Cm:=by
 obtain⟨C,hC⟩:=t.has hn
 obtain⟨_,_,_,_,_,_,_,h⟩:=t.cls hC
 obtain⟨Cm,e,_⟩:=h m hm
 exact⟨Cm,e⟩
theorem XT.xcls (t:XT K mg RN TN) {base:Heap} (X:K.In base):∃S,mg "SackError"=some (.ref S)/\qnx K base RN S:=by
 obtain⟨S,hS,h1,h2,_⟩:=t.sup
 refine⟨S,t.mgc _ _ hS,⟨(qd2 X h1 h2).imp λbm h=>h.1,λn C h=>?_,λn C h=>?_⟩⟩
 ·obtain⟨_,S',hS',r1,r2,_⟩:=t.cls h
  rw[hS]at hS'
  cases hS'
  exact qd2 X r1 r2
 ·obtain⟨_,_,_,_,_,r,_⟩:=t.cls h
  exact r
end
theorem qhD:typeOf (.builtin "list.count")=pure (.type "method_descriptor"):=by kernel_rfl
theorem qhE:typeOf (.builtin "list.index")=pure (.type "method_descriptor"):=by kernel_rfl
def qeM (RN:List Str) (m:Str) (f:M D):M D:=bnd f λd=>match d with
 |.exc n=>if RN.contains n then ret (.bl (m=="ValueError"||yW n m))else λ_ => .bad
 |_=>λ_ => .bad
section
variable{X:Cx}{c:Fc}{a b e:Expr}{pos:Pos}{RN TN:List Str}
def qny(K:Fr0)(RN:List Str)(m:Str)(Cm:V):List V->Hp->VK->Prop:=λxs H Q=>∃v n A,xs=[v,Cm]/\RN.contains n=true/\Is K A H (.exc n) v/\Q (.bl (m=="ValueError"||yW n m)) H
theorem qd3 {m:Str} {Cm:V} {um:Value} (hr:jO Cm um) (hu:∀u,jO Cm u->u=um) (hk:∀n C,uN X.K n=some C->RN.contains n=true->kitOne X.K (.ref C) um=some (m=="ValueError"||yW n m)):yr X (.builtin "isinstance") (qny X.K RN m Cm):=by
 intro pins s σ H xs us Q I r h
 obtain⟨v,n,A,rfl,hn,hi,q⟩:=h
 obtain⟨u,w,rfl,r1,r2⟩:=ze.two r
 rw[hu w r2]
 obtain⟨z,rfl,C,hC,h1,h2⟩:=hi
 cases (show u=yaf z from r1)
 exact qa1 I h1 h2 (hk n C hC hn) λtk=>⟨.bl _,H,I.tok tk,rfl,q⟩
theorem qgb {m:Str} {f:M D} {t:TE} {Cm:V} (w:∀ρ σ H Q,Rep X.K c ρ σ H->Wp X.K c σ H Q (f ρ)->t σ H Q):∀ρ σ H Q,Rep X.K c ρ σ H->Wp X.K c σ H Q (qeM RN m f ρ)->tCB (qny X.K RN m Cm) (qiZ t (qiZ (tC Cm) qnn)) σ H Q:=λρ σ H Q r h=>w ρ σ H _ r (Wp.bnd h λd ρ1 v H1 r1 i1 g1 h1=>by
 cases d with
 | exc n=>
  dsimp only at h1
  by_cases hn:RN.contains n=true
  ·rw[if_pos hn]at h1
   exact⟨v,n,_,rfl,hn,i1,h1 _ H1 r1 rfl .refl⟩
  ·rw[if_neg hn]at h1
   exact h1.elim
 |_=>exact h1.elim)
theorem qay {m:Str} {mgl:Str->Option Value} {p p2:Pos} {f:M D} (t:XT X.K X.mg RN TN) (hm:m∈TN) (hne:(m=="ValueError")=false) (hg:Gl X "isinstance") (hmi:X.mg "isinstance"=none) (hg2:Gl X m) (ha:DE X c a f)
  (hs:∃Cm,uN X.K m=some Cm)
  (hv:yaz "isinstance"=some (.builtin "isinstance"):=by first|rfl|exact PySem.boot_isinstance) (hdb2:(m==("__debug__":Str))=false:=by decide)
  (he:yae [a,.Name m p2] X.env=(false,eval a X.env)::yae [.Name m p2] X.env:=by rfl) (hpl:(yaQ pos (yae [.Name m p2] X.env)).any (·.1)=false:=by rfl):DE X c (.Call (.Name "isinstance" p) [a,.Name m p2] [] pos) (qeM RN m f):=by
 obtain⟨ta,pa,w⟩:=ha
 obtain⟨Cm,hCm⟩:=hs
 refine⟨_,vM (qd3 (RN:=RN) (m:=m) (Cm:=.ref Cm) (um:=.ref Cm) rfl (λu h=>h) λn C hC hn=>?_) hg hmi hv (yj pa (yj (qc0 (v:=.ref Cm) hg2 (t.mgc m Cm hCm) rfl hdb2) wQ (by rfl)) he) (by decide) (by decide) he hpl,qgb w⟩
 have hcl:clR X.K RN n=some C:=by unfold clR;rw[if_pos hn];exact hC
 obtain⟨_,_,_,_,_,_,_,h⟩:=t.cls hcl
 obtain⟨Cm',e1,e2⟩:=h m hm
 rw[hCm]at e1
 cases e1
 rw[e2,hne];rfl
theorem qjO {p p2:Pos} {f:M D} (t:XT X.K X.mg RN TN) (hg:Gl X "isinstance") (hmi:X.mg "isinstance"=none) (hg2:Gl X "ValueError") (hm2:X.mg "ValueError"=none) (ha:DE X c a f)
  (hv:yaz "isinstance"=some (.builtin "isinstance"):=by first|rfl|exact PySem.boot_isinstance) (hv2:yaz "ValueError"=some (.type "ValueError"):=by rfl)
  (he:yae [a,.Name "ValueError" p2] X.env=(false,eval a X.env)::yae [.Name "ValueError" p2] X.env:=by rfl) (hpl:(yaQ pos (yae [.Name "ValueError" p2] X.env)).any (·.1)=false:=by rfl):DE X c (.Call (.Name "isinstance" p) [a,.Name "ValueError" p2] [] pos) (qeM RN "ValueError" f):=by
 obtain⟨ta,pa,w⟩:=ha
 refine⟨_,vM (qd3 (RN:=RN) (m:="ValueError") (Cm:=.ty "ValueError") (um:=.type "ValueError") rfl (λu h=>h) λn C hC hn=>?_) hg hmi hv (yj pa (yj (qe7 (v:=.ty "ValueError") hg2 hm2 hv2 rfl (by decide) (by decide)) wQ (by rfl)) he) (by decide) (by decide) he hpl,qgb w⟩
 have hcl:clR X.K RN n=some C:=by unfold clR;rw[if_pos hn];exact hC
 obtain⟨_,_,_,_,_,_,h,_⟩:=t.cls hcl
 rw[h];rfl
end
section
variable{P:yao}{w:World}{K:yai}{mg:Str->Option Value}{base:Heap}
theorem qhF {x qual:Str} {st:Stmt} {f:Addr} {fd:yaM} {N ps:List Str} {k:Nat} {O:List Nat} {body:MS} (F:Fun K x qual st f fd) (S:qE N ps (qf st)) (hO:∀i∈O,ps.length<=i)
  (hb:∀(cdv:Value)(A:yau)(outer:List yaN)(s:yab)(H:Hp)(E:XK)(B:Addr->Prop),uV k (A.deeper (ybf qual (qf st) s.heap.objs.size f cdv))->AloneA (A.deeper (ybf qual (qf st) s.heap.objs.size f cdv)) H ->
   DSs (qeI CX0 P w K mg base N qual (qf st) f cdv A outer s H E).nox (cfn O [] B H (λ_=>False) (λ_ _=>False) λ_=>none) (qB st) body) :
  qcz P w K mg base CX0 (k+1) f fd ps (spD K (dfn N.length ps.length body)):=by
 obtain⟨oc,od,kV,doc,pm,an,cdv,ct,osl,rfl,lk,hcd⟩:=F.ex
 refine qlB lk hcd S (λvs H Q E h=>?_) (λA outer s H vs Q E hr al h=>?_)
 ·obtain⟨ds,B,il,_,h⟩:=h
  unfold dfn at h
  by_cases e:ds.length=ps.length
  ·rw[il.length];exact e
  ·rw[if_neg e]at h;exact h.elim
 ·obtain ⟨ds,B,il,tb,h⟩:=h
  obtain⟨t,p,wt⟩:=hb cdv A outer s H E B hr al
  refine⟨t,p.nox,?_⟩
  unfold dfn at h
  by_cases e:ds.length=ps.length
  ·rw [if_pos e]at h
   refine wt (ym N.length ds) (z7 N vs) H _ (qat il tb (λi hi=>by rw[e];exact hO i hi)) ?_
   have same:∀{ρ:Env}{σ:St}{H':Hp},Rep K (cfn O [] B H (λ_=>False) (λ_ _=>False) λ_=>none) ρ σ H'->jG H H':=λr b o hb=>r.kp b o hb λz=>z
   cases eb:body (ym N.length ds) with
   |bad=>rw[eb]at h;exact h.elim
   |exc z ρ=>rw[eb]at h;exact h.elim
   |ok fl=>
    rw[eb]at h
    cases fl with
    |nx ρ=>exact λσ' H' r' _=>h .non H' (same r') rfl
    |rt d ρ=>exact λv σ' H' r' i' _=>h v H' (same r') i'
    |bk ρ=>exact h.elim
    |ct ρ=>exact h.elim
  ·rw[if_neg e]at h;exact h.elim
structure qgc (P:yao) (w:World) (K:yai) (mg:Str->Option Value) (base:Heap) (k:Nat) (x:Str) (ps:List Str) (sp:Sp):Prop where
 ex:∃f fd,qcz P w K mg base CX0 k f fd ps sp/\mg x=some (.ref f)/\yaj K (.ref f)=true/\uM K fd ps []
end
end L2.Sk
namespace L2.Sk
open PySem PySem.Spec PyProof.Rows
section
variable{ρ:Env}{f g:M D}{l:M (List D)}{p q:MS}{RN:List Str}
theorem vW (F:List D->R D):ul RN F l ρ=match l ρ with|.ok (xs,ρ1)=>(match F xs with|.ok d => .ok (d,ρ1)|.exc x _=>(if RN.contains x.cls then .exc x ρ1 else .bad)|.bad => .bad)|.exc x ρ' => .exc x ρ'|.bad => .bad:=by
 simp only[ul,bnd]
 cases l ρ with
 |ok z=>obtain⟨z1,ρ1⟩:=z;cases F z1<;>rfl
 |exc x ρ'=>rfl
 |bad=>rfl
theorem qbI (F:List D->R D):uK F l ρ=match l ρ with|.ok (xs,ρ1)=>(match F xs with|.ok d => .ok (d,ρ1)|_ => .bad)|.exc x ρ' => .exc x ρ'|.bad => .bad:=by
 simp only[uK,bnd]
 cases l ρ with
 |ok z=>obtain⟨z1,ρ1⟩:=z;cases F z1<;>rfl
 |exc x ρ'=>rfl
 |bad=>rfl
theorem qd4(x:Str):qbc x l ρ=match l ρ with|.ok (ds,ρ')=>(if qQ ds.length then .exc ⟨x,.non⟩ ρ' else .bad)|.exc z ρ' => .exc z ρ'|.bad => .bad:=rfl
theorem qir(F:List D->R D):qga RN p F ρ=match p ρ with|.exc x ρ'=>(if RN.contains x.cls then(match F [.exc x.cls] with|.ok d => .ok (.rt d ρ')|_ => .bad)else .bad)|r=>r:=rfl
theorem qis (m:Str):qeM RN m f ρ=match f ρ with|.ok (.exc n,ρ1)=>(if RN.contains n then .ok (.bl (m=="ValueError"||yW n m),ρ1)else .bad)|.ok _ => .bad|.exc x ρ' => .exc x ρ'|.bad => .bad:=by
 simp only[qeM,bnd]
 cases f ρ with
 |ok z=>
  obtain⟨z1,ρ1⟩:=z
  cases z1<;>first|rfl|(dsimp only;split<;>rfl)
 |exc x ρ'=>rfl
 |bad=>rfl
theorem qgd (F:D->List D->Option D):qf6 F f l ρ=match f ρ with
  |.ok (.lst ds,ρ1)=>(match l ρ1 with|.ok (ys,ρ2)=>(match F (.lst ds) ys with|some d => .ok (d,ρ2)|none => .bad)|.exc x ρ' => .exc x ρ'|.bad => .bad)
  |.ok _ => .bad|.exc x ρ' => .exc x ρ'|.bad => .bad:=by
 simp only[qf6,bnd]
 cases f ρ with
 | ok z=>
  obtain⟨z1,ρ1⟩:=z
  cases z1 with
  |lst ds=>
   show bnd l (λys=>lift (F (D.lst ds) ys)) ρ1=(match l ρ1 with|.ok (ys,ρ2)=>(match F (.lst ds) ys with|some d => .ok (d,ρ2)|none => .bad)|.exc x ρ' => .exc x ρ'|.bad => .bad)
   unfold bnd
   cases l ρ1 with
   |ok z=>obtain⟨z2,ρ2⟩:=z;(dsimp only;cases F (.lst ds) z2<;>rfl)
   |exc x ρ'=>rfl
   |bad=>rfl
  |_=>rfl
 |exc x ρ'=>rfl
 |bad=>rfl
end
theorem qhG {n p:Nat} {body:MS} {ds:List D} {d:D} (h:ds.length=p) (e:∃ρ,body (ym n ds)=.ok (.rt d ρ)):qaR n p body ds=.ok d:=by
 obtain⟨ρ,e⟩:=e
 unfold qaR;rw[if_pos h,e]
theorem qd5 {n p:Nat} {body:MS} {ds:List D} (h:ds.length=p) (e:∃ρ,body (ym n ds)=.ok (.nx ρ)):qaR n p body ds=.ok .non:=by
 obtain⟨ρ,e⟩:=e
 unfold qaR;rw[if_pos h,e]
theorem qbg {n p:Nat} {body:MS} {ds:List D} {x:Exn} {ρ:Env} (h:ds.length=p) (e:body (ym n ds)=.exc x ρ):qaR n p body ds=.exc x ρ:=by
 unfold qaR;rw[if_pos h,e]
theorem qcC{p q:MS}{ρ ρ':Env}{x:Exn}(h:p ρ=.exc x ρ'):qH p q ρ=.exc x ρ':=by unfold qH;rw[h]
def unO(_:Nat)(c:Fc):Fc:={c with O:=[],P:=[],B:=λ_=>True}
theorem Gr.unSame{c:Fc}{σ:St}{H H':Hp}{i:Nat}(g:Gr (unO i c).O σ H H'):jG H H':=λb o h=>g.ext.at_ b o (λj hj=>by cases hj) h
theorem Rep.un {K:Fr0} {c:Fc} {ρ:Env} {σ:St} {H:Hp} {i:Nat} (r:Rep K c ρ σ H) (_:i∈c.O):Rep K (unO i c) ρ σ H:=by
 have all:∀b:Addr,Cn (unO i c) σ b:=λb=>⟨trivial,λj hj=>by cases hj⟩
 refine⟨r.len,λk d hk=>?_,λj hj=>(by cases hj),λk j a hk=>(by cases hk),⟨λ_ _=>trivial,r.b0.2⟩,r.kp,r.dm,λj hj=>(by cases hj),λj hj=>(by cases hj)⟩
 obtain⟨v,h1,h2⟩:=r.val k d hk
 refine⟨v,h1,.inr ⟨λz=>(by cases z),?_⟩⟩
 rcases h2 with⟨hk2,ds,a,xs,h3,h5,h6,h7⟩|⟨hk2,h3⟩
 ·subst h3 h5
  exact⟨a,xs,rfl,all a,h6,IsL.ext Ext.refl (λb _ _=>all b) h7⟩
 ·exact Is.ext Ext.refl (λb _ _=>all b) h3
theorem Gr.un{c:Fc}{σ:St}{H H':Hp}{i:Nat}(g:Gr (unO i c).O σ H H'):Gr c.O σ H H':=.of_same g.unSame
theorem Rep.re{K:Fr0}{c:Fc}{ρ:Env}{σ:St}{H H':Hp}{i:Nat}(r:Rep K c ρ σ H)(_:i∈c.O)(_:Rep K (unO i c) ρ σ H')(g:Gr (unO i c).O σ H H'):Rep K c ρ σ H':=r.same g.unSame
open Classical in
noncomputable def qaz (f:M D):M D:=λρ=>match f ρ with
 |.ok (d,ρ')=>if imm d=true/\ρ'=ρ then .ok (d,ρ)else .bad
 |.exc x ρ'=>if ρ'=ρ then .exc x ρ else .bad
 |.bad => .bad
open Classical in
open Classical in
section
variable{X:Cx}{c:Fc}{e:Expr}{pos:Pos}
theorem qjP {i:Nat} {f:M D} (h:DE X (unO i c) e f) (ho:i∈c.O:=by exact of_decide_eq_true rfl):DE X c e (qaz f):=by
 obtain⟨t,p,w⟩:=h
 refine⟨t,p,λρ σ H Q r h=>w ρ σ H Q (r.un ho) ?_⟩
 unfold qaz at h
 cases ef:f ρ with
 |bad=>rw[ef]at h;exact h.elim
 | exc x ρ'=>
  rw[ef]at h
  simp only at h
  split at h
  ·rename_i e1
   subst e1
   exact λH' r' g'=>h H' (r.re ho r' g') g'.un
  ·exact h.elim
 | ok q=>
  obtain⟨d,ρ'⟩:=q
  rw[ef]at h
  simp only at h
  split at h
  ·rename_i e1
   obtain⟨e1,e2⟩:=e1
   subst e2
   exact λv H' r' i' g'=>h v H' (r.re ho r' g') (Is.imm e1 i') g'.un
  ·exact h.elim
def qor:List D->Option (List D)
 | [.int i,.int j]=>if decide (-(2 ^ 62)<=i)&&decide (i<2 ^ 62)&&decide (-(2 ^ 62)<=j)&&decide (j<2 ^ 62)then some (qbB i (j-i).toNat)else none
 |_=>none
theorem XL2.un{i:Nat}{cl:Str->Option Addr}{E:XK}(L:XL2 X c cl E):XL2 X (unO i c) cl E:=⟨L.pass,L.wish⟩
def qit (i n:Nat) (g:D->Env->Option Env) (b:MS):Nat->MS
 |0,ρ=>match zJ i ρ with
  |some ds=>if ds.length<=n then .ok (.nx ρ)else .bad
  |none => .bad
 | m + 1,ρ=>match zJ i ρ with
  | some ds=>match ds[n-(m+1)]? with
   |none => .bad
   | some d=>match g d ρ with
    |none => .bad
    |some ρ1=>match b ρ1 with
     |.ok (.nx ρ2)=>qit i n g b m ρ2
     |.ok (.ct ρ2)=>qit i n g b m ρ2
     |.ok (.bk ρ2) => .ok (.nx ρ2)
     |.ok (.rt r ρ2) => .ok (.rt r ρ2)
     |.exc x ρ2 => .exc x ρ2
     |.bad => .bad
  |none => .bad
end
section
variable{ρ:Env}{f:M D}{t:M Bool}{n:M (List D)}
open Classical in
theorem qjQ:qaz f ρ=match f ρ with|.ok (d,ρ')=>(if imm d=true/\ρ'=ρ then .ok (d,ρ)else .bad)|.exc x ρ'=>(if ρ'=ρ then .exc x ρ else .bad)|.bad => .bad:=rfl
open Classical in
open Classical in
end
def inA (x y:D):Option D:=match sqD y with
 |some ds=>if qa8 x&&qa8 y then some (.bl ((toPDs ds).any λy=>ycC y (qR x)))else none
 |none=>none
section
variable{X:Cx}
end
section
variable{prog:yao}{w:World}{A:yau}{R:ydR->yab->Prop}{I:Addr}{fp wr:List Addr}{n:Nat}{P:Nat->Value->Prop}{St:Nat->Heap->Prop}
end
section
variable{prog:yao}{w:World}{A:yau}{E:Value->yab->Prop}{s:yab}
end
def qlG:List D->Option (List (List Int))
 | []=>some []
 |.tup ts::r=>match vA ts,qlG r with
  |some n,some ns=>some (n::ns)
  |_,_=>none
 |_=>none
def qmX(ns:List (List Int))(i:Nat):List Int:=(ns[i]?).getD []
def qmY(ns:List (List Int)):Nat:=argBest (λi j=>HT.lexLt (qmX ns i) (qmX ns j)) (ns.length-1)
def qoi:List D->Option D
 | [.lst ds]=>match qlG ds with
  |some (n::ns)=>some (.tup ((qmX (n::ns) (qmY (n::ns))).map .int))
  |_=>none
 |_=>none
section
variable{X:Cx}
end
def qnz (x:D) (ys:List D):Option D:=match x,ys with
 |.lst ds,[d]=>if ds.all qa8&&qa8 d then(ds.findIdx? λe=>ycC (qR e) (qR d)).map λj => .int j else none
 |_,_=>none
section
variable{prog:yao}{w:World}{A:yau}{E:Value->yab->Prop}{s:yab}
end
section
variable{X:Cx}{c:Fc}{a b e:Expr}{pos:Pos}{es:List Expr}{kk:Nat}{tp:Pos}
end
section
variable{X:Cx}{c:Fc}{a b e:Expr}{pos:Pos}{es:List Expr}{kk:Nat}{tp:Pos}
def qlH:List D->Option (List D)
 | [.lst xs]=>some (wC 0 xs)
 |_=>none
def qlI(f:M (List D)):M (List D):=bnd f λds=>lift (qlH ds)
end
section
variable{X:Cx}{c:Fc}{pos:Pos}
end
section
variable{prog:yao}{w:World}{A:yau}{E:Value->yab->Prop}{s:yab}
end
theorem AloneA.laid {A:yau} {H:Hp} {p:Addr} {o:HO} (x:AloneA A H) (h:H p=none):AloneA A (upd H p o):=by
 obtain⟨e,oe,u,vs,h1,h2,h3⟩:=x
 exact⟨e,oe,u,vs,h1,by rw[qz (qP h2 h)];exact h2,h3⟩
theorem AloneA.rep {K:Fr0} {c:Fc} {A:yau} (x:AloneA A c.H0) (hio:∀a,¬c.Io a) (ρ:Env) (σ:St) (H:Hp) (r:Rep K c ρ σ H):AloneA A H:=by
 obtain⟨e,oe,u,vs,h1,h2,h3⟩:=x
 exact⟨e,oe,u,vs,h1,r.kp _ _ h2 (hio e),h3⟩
end L2.Sk
namespace L2
open PySem PySem.Spec PyProof.Rows L2.Sk
structure qoj (P:yao) (w:World) (K:yai) (tg:Expr) (J:It) (fp:List Addr) (it:Addr) (tn:Nat->Heap->Prop):Prop where
 mem:it∈fp
 obj:∀i h,tn i h->∀b∈fp,∃o,h.get? b=some o/\∀v,o.data ≠ .cell v
 keep:∀i h h',tn i h->(∀b∈fp,∀o,h.get? b=some o->h'.get? b=some o)->tn i h'
 item:∀(X:Cx),X.prog=P->X.w=w->X.K=K->AloneA X.A X.H₀->∀(i:Nat)(pins:List (Addr×Obj))(s:yab)(σ:St)(H:Hp)(E:Value->yab->Prop),Inv X pins σ H s->(∀b∈fp,qcV X pins H b)->tn i s.heap->J.go i H ->
  wpAny (model P w) X.A (yci (.ref it)) (λr s1=>∃u,r=some u /\
   wpAny (model P w) X.A (ycp tg (.ref it) u) (λ_ s2=>∃x H',Inv X pins σ H' s2/\jO x u/\J.yld i H x H'/\tn (i+1) s2.heap/\∀b∈fp,H' b=none) E s1) E s
 done:∀(X:Cx),X.prog=P->X.w=w->X.K=K->AloneA X.A X.H₀->∀(i:Nat)(pins:List (Addr×Obj))(s:yab)(σ:St)(H:Hp)(E:Value->yab->Prop),Inv X pins σ H s->(∀b∈fp,qcV X pins H b)->tn i s.heap->J.stop i H ->
  wpAny (model P w) X.A (yci (.ref it)) (λr s1=>r=none/\Inv X pins σ H s1) E s
 self:∀(A:yau)(i:Nat)(s:yab)(Q:Value->yab->Prop)(E:Value->yab->Prop),tn i s.heap->Q (.ref it) s->wpAny (model P w) A (pyIter (.ref it)) Q E s
section
variable{X:Cx}{tg:Expr}
end
end L2
namespace L2.Sk
open PySem PySem.Spec PyProof.Rows
section
variable{X:Cx}{tg iter elt:Expr}{ifs:List Expr}{scope:Scope}{pos:Pos}{wi:TI}{N':List Str}{nt:Nat}{fr:List Nat}
end
section
variable{X:Cx}{c:Fc}{tg a b e:Expr}{pos:Pos}
end
theorem uV.units{k:Nat}{A:yau}(r:uV k A):A.units+64<cLine:=by have:=r.un;omega
section
variable{X:Cx}{c:Fc}{e:Expr}{es:List Expr}{pos:Pos}
theorem qhH {k:Nat} {f:Addr} {fd:yaM} {ps:List Str} {F:List D->R D} {x:Str} {p:Pos} {g:M (List D)} (hal:∀ρ σ H,Rep X.K c ρ σ H->AloneA X.A H)
  (G:qcz X.prog X.w X.K X.mg X.base CX0 k f fd ps (spD X.K F)) (hr:uV k X.A) (hg:Gl X x) (hm:X.mg x=some (.ref f)) (hk:yaj X.K (.ref f)=true) (hb:uM X.K fd ps [])
  (ha:DA X c (e::es) g) (hd:(x==("__debug__":Str))=false:=by decide) (he:yae (e::es) X.env=(false,eval e X.env)::yae es X.env:=by rfl) (hpl:(yaQ pos (yae es X.env)).any (·.1)=false:=by rfl):DE X c (.Call (.Name x p) (e::es) [] pos) (qq F g):=by
 obtain⟨t,pa,w⟩:=ha
 refine⟨_,qd1 (E:=λ_ _ _=>False) G hr hg hm hk hb .nil (λ_ _ _ _ _ _ _ z=>z.elim) pa hd he hpl,λρ σ H Q r h=>w ρ σ H _ r (WpL.bnd h λds ρ1 vs H1 r1 i1 g1 h1=>⟨hal _ _ _ r1,?_⟩)⟩
 rw[ybn]
 refine⟨ds,Cn c σ,i1,r1.tb,?_⟩
 cases ef:F ds with
 |bad=>simp only[ef]at h1;exact h1.elim
 |exc z ρ'=>simp only[ef]at h1;exact h1.elim
 |ok d=>
  simp only[ef]at h1
  exact λv H' sm i=>h1 v H' (r1.same sm) (Is.ext Ext.refl (λa ha _=>ha.elim id r1.new) i) (.of_same sm)
end
section
variable{prog:yao}{w:World}{A:yau}{R:ydR->yab->Prop}{I:Addr}{fp wr:List Addr}{n:Nat}{P:Nat->Value->Prop}{St:Nat->Heap->Prop}{dv:Value}
end
section
variable{prog:yao}{w:World}{A:yau}{E:Value->yab->Prop}{s:yab}
end
section
variable{prog:yao}{w:World}{A:yau}{R:ydR->yab->Prop}{I:Addr}{fp wr:List Addr}{n:Nat}{P:Nat->Value->Prop}{St:Nat->Heap->Prop}{dv:Value}
end
section
variable{prog:yao}{w:World}{A:yau}{E:Value->yab->Prop}{s:yab}
end
section
variable{prog:yao}{w:World}{A:yau}{E:Value->yab->Prop}{s:yab}
end
section
variable{X:Cx}
end
section
variable{X:Cx}{c:Fc}{a b e:Expr}{pos:Pos}
def qiu(F:List D->List D->Option D)(f g:M (List D)):M D:=bnd f λxs=>bnd g λzs=>lift (F xs zs)
end
def qok (xs zs:List D):Option D:=match xs,zs with
 | [.lst ds],[z]=>(vA ds).map λns=>if ns=[]then z else .int (qdg ns)
 |_,_=>none
def slB (x:D) (lo hi:Option Int):Option D:=match x with
 |.tup ds=>some (.tup (qa4 ds lo hi))
 |.lst ds=>some (.lst (qa4 ds lo hi))
 |_=>none
def qbJ(f:M D)(g k:M (Option Int)):M D:=bnd f λd=>bnd g λl=>bnd k λu=>lift (slB d l u)
section
variable{X:Cx}{c:Fc}{a b e:Expr}{pos p2:Pos}
theorem yM {lo hi:Option Expr} {f:M D} {g k:M (Option Int)} (ha:DE X c a f) (hl:DO X c lo g) (hu:DO X c hi k):DE X c (.Subscript a (.Slice lo hi none p2) pos) (qbJ f g k):=by
 obtain⟨ta,pa,wa⟩:=ha
 obtain⟨tl,pl,wl⟩:=hl
 obtain⟨tu,pu,wu⟩:=hu
 refine⟨_,qg4 (SlR.or qle qi3) pa pl pu,λρ σ H Q r h=>wa ρ σ H _ r (Wp.bnd h λd ρ1 v H1 r1 i1 g1 h1=>?_)⟩
 refine wl ρ1 σ H1 _ r1 (λl ρ2 e2 H2 r2 g2=>?_) (λx ρ2 e2 H2 r2 g2=>?_) (λe2=>?_)
 ·rw [qhW e2]at h1
  have h1:=h1.gr g2
  refine wu ρ2 σ H2 _ r2 (λu ρ3 e3 H3 r3 g3=>?_) (λx ρ3 e3 H3 r3 g3=>?_) (λe3=>?_)
  ·rw [qhW e3]at h1
   obtain⟨d',e4,h4⟩:=h1.lift
   have i3:=g3.is (g2.is i1)
   clear h1
   cases d<;>simp only[slB]at e4<;>try (cases e4;done)
   ·rename_i ds
    cases e4
    obtain⟨a,xs,rfl,ta,il⟩:=i3
    refine .inl ?_
    by_cases hw:HT.sIx xs.length 0 l=0/\HT.sIx xs.length xs.length u=xs.length
    ·refine .inl ⟨a,xs,rfl,ta.sq,hw,h4 _ H3 r3 ⟨a,xs,rfl,ta,?_⟩ g3⟩
     have e5:qa4 ds l u=ds:=by
      unfold qa4
      rw[<-il.length,hw.1,hw.2]
      simp[il.length]
     rw[e5];exact il
    ·refine .inr ⟨a,xs,rfl,ta.sq,hw,λp hp=>h4 _ _ (r3.laid hp _) ⟨p,qgT xs l u,rfl,.inl qx,?_⟩ (g3.trans (.of_same (qu hp _)))⟩
     refine IsL.ext (Ext.of_same (qu hp _)) (λ_ h _=>h) ?_
     unfold qa4 qgT
     rw[<-il.length]
     exact IsL.take _ (IsL.drop _ il)
   ·rename_i ds
    cases e4
    obtain⟨a,xs,rfl,hA,ta,il⟩:=i3
    refine .inr ⟨a,xs,rfl,.inl (.inl ta),λp hp=>h4 _ _ (r3.laid hp _) ⟨p,qgT xs l u,rfl,r3.new hp,qx,?_⟩ (g3.trans (.of_same (qu hp _)))⟩
    refine IsL.ext (Ext.of_same (qu hp _)) (λ_ h _=>h) ?_
    unfold qa4 qgT
    rw[<-il.length]
    exact IsL.take _ (IsL.drop _ il)
  ·unfold bnd at h1;rw[e3]at h1;exact h1 H3 r3 g3
  ·unfold bnd at h1;rw[e3]at h1;exact h1
 ·unfold bnd at h1;rw[e2]at h1;exact h1 H2 r2 g2
 ·unfold bnd at h1;rw[e2]at h1;exact h1
def qmZ (x y:D):Option (List D):=match x,y with
 |.lst ds,.int k=>if(decide (-(2 ^ 62)<=k)&&decide (k<2 ^ 62))&&(qQ (ds.length*k.toNat)&&immL ds)then some (yap k.toNat ds).flatten else none
 |_,_=>none
def qnA(f g:M D):M (List D):=bnd f λx=>bnd g λy=>lift (qmZ x y)
def qol (f:M D):M (List D):=bnd f λx=>lift (match x with
 |.lst ds=>if immL ds then some ds else none
 |.tup ds=>if immL ds then some ds else none
 |_=>none)
def qge (i:Nat) (f:M D):M D:=λρ=>match zJ i ρ with
 |none => .bad
 |some _=>(bnd f λd ρ=>match d,zJ i ρ with
  |.lst es,some ds=>if immL es&&qQ (ds.length+es.length)then .ok (.non,ρ.set i (some (.lst (ds++es))))else .bad
  |_,_ => .bad) ρ
theorem vX {pins:List (Addr×Obj)} {σ:St} {H:Hp} {s:yab} (I:Inv X pins σ H s) (j:Nat):Inv X pins (σ.set j none) H s:=by
 refine⟨I.ok,I.os,I.bare,I.base,?_,I.cell,I.free,I.freeC,I.pin,I.hok,by rw[lS_];exact I.len⟩
 obtain⟨m,hn,hl⟩:=I.loc
 refine⟨m,hn,λi x v e1 e2 e3=>?_⟩
 by_cases hij:j=i
 ·subst hij
  rw[List.getElem?_set]at e2
  simp only[if_true]at e2
  split at e2<;>cases e2
 ·rw[List.getElem?_set_ne hij]at e2
  exact hl i x v e1 e2 e3
def qnB (f:M (List D)):M (List D):=λρ=>match f ρ with
 |.ok ([.tup _],_)=>qde f ρ
 |_=>qlI f ρ
end
section
variable{ρ:Env}{f g:M D}{l k:M (List D)}
theorem qmo (F:List D->List D->Option D):qiu F l k ρ=match l ρ with|.ok (xs,ρ1)=>(match k ρ1 with|.ok (zs,ρ2)=>(match F xs zs with|some d => .ok (d,ρ2)|none => .bad)|.exc x ρ' => .exc x ρ'|.bad => .bad)|.exc x ρ' => .exc x ρ'|.bad => .bad:=by
 simp only[qiu,bnd]
 cases l ρ with
 |ok z=>
  obtain⟨z1,ρ1⟩:=z
  dsimp only
  cases k ρ1 with
  |ok z=>obtain⟨z2,ρ2⟩:=z;(dsimp only;cases F z1 z2<;>rfl)
  |exc x ρ'=>rfl
  |bad=>rfl
 |exc x ρ'=>rfl
 |bad=>rfl
theorem qnC:qnA f g ρ=match f ρ with|.ok (x,ρ1)=>(match g ρ1 with|.ok (y,ρ2)=>(match qmZ x y with|some ds => .ok (ds,ρ2)|none => .bad)|.exc x ρ' => .exc x ρ'|.bad => .bad)|.exc x ρ' => .exc x ρ'|.bad => .bad:=by
 simp only[qnA,bnd]
 cases f ρ with
 |ok z=>
  obtain⟨z1,ρ1⟩:=z
  dsimp only
  cases g ρ1 with
  |ok z=>obtain⟨z2,ρ2⟩:=z;(dsimp only;cases qmZ z1 z2<;>rfl)
  |exc x ρ'=>rfl
  |bad=>rfl
 |exc x ρ'=>rfl
 |bad=>rfl
theorem qlJ (i:Nat):qge i f ρ=match zJ i ρ with
  |none => .bad
  |some _=>(match f ρ with|.ok (d,ρ1)=>(match d,zJ i ρ1 with|.lst es,some ds=>(if immL es&&qQ (ds.length+es.length)then .ok (.non,ρ1.set i (some (.lst (ds++es))))else .bad)|_,_ => .bad)|.exc x ρ' => .exc x ρ'|.bad => .bad):=by
 unfold qge
 cases zJ i ρ with
 |none=>rfl
 |some z=>
  simp only[bnd]
  cases f ρ with
  |ok z=>obtain⟨z1,ρ1⟩:=z;rfl
  |exc x ρ'=>rfl
  |bad=>rfl
theorem qlK (p q:M (Option Int)):qbJ f p q ρ=match f ρ with|.ok (d,ρ1)=>(match p ρ1 with|.ok (l,ρ2)=>(match q ρ2 with|.ok (u,ρ3)=>(match slB d l u with|some r => .ok (r,ρ3)|none => .bad)|.exc x ρ' => .exc x ρ'|.bad => .bad)|.exc x ρ' => .exc x ρ'|.bad => .bad)|.exc x ρ' => .exc x ρ'|.bad => .bad:=by
 simp only[qbJ,bnd]
 cases f ρ with
 | ok z=>
  obtain⟨z1,ρ1⟩:=z
  dsimp only
  cases p ρ1 with
  |ok z=>
   obtain⟨z2,ρ2⟩:=z
   dsimp only
   cases q ρ2 with
   |ok z=>obtain⟨z3,ρ3⟩:=z;(dsimp only;cases slB z1 z2 z3<;>rfl)
   |exc x ρ'=>rfl
   |bad=>rfl
  |exc x ρ'=>rfl
  |bad=>rfl
 |exc x ρ'=>rfl
 |bad=>rfl
end
section
variable{X:Cx}{c:Fc}{e:Expr}{es:List Expr}{pos:Pos}
theorem dC {k j:Nat} {ps:List Str} {F:List D->R D} {x:Str} {p:Pos} {g:M (List D)} (C:zG X.prog X.w X.K X.mg X.base k x ps (spD X.K F)) (hr:uH j X.A) (ha:DA X c (e::es) g)
  (hk:k<=j:=by decide) (hg:Gl X x:=by rfl) (hd:(x==("__debug__":Str))=false:=by decide) (he:yae (e::es) X.env=(false,eval e X.env)::yae es X.env:=by rfl) (hpl:(yaQ pos (yae es X.env)).any (·.1)=false:=by rfl):DE X c (.Call (.Name x p) (e::es) [] pos) (qq F g):=by
 obtain⟨f,fd,G,m,kk,b⟩:=C.ex
 exact qjn G (hr.mono hk) hg m kk b ha hd he hpl
theorem nC {k j:Nat} {ps:List Str} {F:List D->R D} {x:Str} {p:Pos} {g:M (List D)} (C:zG X.prog X.w X.K X.mg X.base k x ps (spD X.K F)) (hr:uH j X.A) (ha:DA X c (e::es) g)
  (hk:k<=j:=by decide) (hg:Gl X x:=by rfl) (hd:(x==("__debug__":Str))=false:=by decide) (he:yae (e::es) X.env=(false,eval e X.env)::yae es X.env:=by rfl) (hpl:(yaQ pos (yae es X.env)).any (·.1)=false:=by rfl):DN X c (.Call (.Name x p) (e::es) [] pos) (vG F g):=by
 obtain⟨f,fd,G,m,kk,b⟩:=C.ex
 exact qjy G (hr.mono hk) hg m kk b ha hd he hpl
theorem iC {k j i:Nat} {ps:List Str} {F:List D->List D->R (D×List D)} {x y:Str} {p p1:Pos} {g:M (List D)} (C:zG X.prog X.w X.K X.mg X.base k x ps (qdQ X.K F)) (hr:uH j X.A) (ha:DA X c es g)
  (hk:k<=j:=by decide) (hg:Gl X x:=by rfl) (ho:i∈c.O:=by exact of_decide_eq_true rfl) (hN:X.N[i]? = some y:=by rfl) (hv:Vis X.env.scope y:=by first|exact ybj rfl|exact yaR (ybj rfl)|exact yaR (yaR rfl)) (hdy:(y==("__debug__":Str))=false:=by decide) (hcd:(y==("__classdict__":Str))=false:=by decide)
  (hd:(x==("__debug__":Str))=false:=by decide) (he:yae (.Name y p1::es) X.env=(false,eval (.Name y p1) X.env)::yae es X.env:=by rfl) (hpl:(yaQ pos (yae es X.env)).any (·.1)=false:=by rfl):DE X c (.Call (.Name x p) (.Name y p1::es) [] pos) (qm F i g):=by
 obtain⟨f,fd,G,m,kk,b⟩:=C.ex
 exact qfJ G (hr.mono hk) hg m kk b ha ho hN hv hdy hcd hd he hpl
theorem xC {k j:Nat} {ps:List Str} {F:List D->R D} {x:Str} {p:Pos} {g:M (List D)} {E:XK} {cl:Str->Option Addr} {RN:List Str} (L:XL2 X c cl E) (hcl:∀n,RN.contains n=true->(cl n).isSome=true) (C:uU X.prog X.w X.K X.mg X.base k x ps (spX X.K cl F)) (hr:uH j X.A) (ha:DA X c (e::es) g)
  (hk:k<=j:=by decide) (hg:Gl X x:=by rfl) (hd:(x==("__debug__":Str))=false:=by decide) (he:yae (e::es) X.env=(false,eval e X.env)::yae es X.env:=by rfl) (hpl:(yaQ pos (yae es X.env)).any (·.1)=false:=by rfl):DE X c (.Call (.Name x p) (e::es) [] pos) (ul RN F g):=by
 obtain⟨f,fd,G,m,kk,b⟩:=C.ex
 exact qhw L hcl G (hr.mono hk) hg m kk b ha hd he hpl
theorem pC {k j:Nat} {ps:List Str} {F:List D->R D} {x:Str} {p:Pos} {g:M (List D)} {cl:Str->Option Addr} (C:uU X.prog X.w X.K X.mg X.base k x ps (spX X.K cl F)) (hr:uH j X.A) (ha:DA X c (e::es) g)
  (hk:k<=j:=by decide) (hg:Gl X x:=by rfl) (hd:(x==("__debug__":Str))=false:=by decide) (he:yae (e::es) X.env=(false,eval e X.env)::yae es X.env:=by rfl) (hpl:(yaQ pos (yae es X.env)).any (·.1)=false:=by rfl):DE X c (.Call (.Name x p) (e::es) [] pos) (uK F g):=by
 obtain⟨f,fd,G,m,kk,b⟩:=C.ex
 exact qhx G (hr.mono hk) hg m kk b ha hd he hpl
theorem lC {k j:Nat} {ps:List Str} {F:List D->R D} {x:Str} {p:Pos} {g:M (List D)} (hal:∀ρ σ H,Rep X.K c ρ σ H->AloneA X.A H) (C:qgc X.prog X.w X.K X.mg X.base k x ps (spD X.K F)) (hr:uV j X.A) (ha:DA X c (e::es) g)
  (hk:k<=j:=by decide) (hg:Gl X x:=by rfl) (hd:(x==("__debug__":Str))=false:=by decide) (he:yae (e::es) X.env=(false,eval e X.env)::yae es X.env:=by rfl) (hpl:(yaQ pos (yae es X.env)).any (·.1)=false:=by rfl):DE X c (.Call (.Name x p) (e::es) [] pos) (qq F g):=by
 obtain⟨f,fd,G,m,kk,b⟩:=C.ex
 exact qhH hal G (hr.mono hk) hg m kk b ha hd he hpl
theorem gI {x:Str} {i:Int} (h:∃t,X.mg x=some (.int i t)) (hg:Gl X x:=by rfl) (hd:(x==("__debug__":Str))=false:=by decide):DE X c (.Name x pos) (ret (.int i)):=by
 obtain⟨t,h⟩:=h
 exact qfu (v:=.int i) (d:=.int i) hg h ⟨_,rfl⟩ (λ_ _=>rfl) hd
theorem gT {x:Str} {ns:List Int} (h:∃a,X.mg x=some (.ref a)/\qmn X.K a ns) (hg:Gl X x:=by rfl) (hd:(x==("__debug__":Str))=false:=by decide):DE X c (.Name x pos) (ret (.tup (ns.map .int))):=by
 obtain⟨a,h1,h2⟩:=h
 exact qht hg h1 h2 hd
end
theorem nd(N:List Str)(h:N.Nodup:=by decide +kernel):N.Nodup:=h
theorem cs {X:Cx} (N N':List Str) (nt:Nat) (fr:List Nat) (outer:Scope) {scope:Scope} (h0:scope.kind=.function:=by rfl) (h1:∀y∈scope.names,y.2 ≠ .cell:=by decide +kernel) (h2:∀y∈scope.names,y.2=.local->scope.names.lookup y.1=some .local:=by decide +kernel)
  (h3:∀y∈scope.names,y.2=.free->outer.names.lookup y.1=some .cell:=by decide +kernel) (h4:N'.length=nt+fr.length:=by rfl) (h5:∀p∈fr.zipIdx,N'[nt+p.2]? = N[p.1]? /\ ((N[p.1]?).bind λx=>scope.names.lookup x)=some .free:=by decide +kernel)
  (h6:X.env.scope=outer:=by rfl) (h7:X.N=N:=by rfl):jK X scope N' nt fr:=qjz.ok (outer:=outer) (N:=N) ⟨h0,h1,h2,h3,h4,h5⟩ h6 h7
theorem cs0 {X:Cx} (N':List Str) (nt:Nat) {scope:Scope} (h0:scope.kind=.function:=by rfl) (h1:∀y∈scope.names,y.2 ≠ .cell:=by decide +kernel) (h2:∀y∈scope.names,y.2=.local->scope.names.lookup y.1=some .local:=by decide +kernel)
  (h3:∀y∈scope.names,y.2 ≠ .free:=by decide +kernel) (h4:N'.length=nt:=by rfl):jK X scope N' nt [] :=
 ⟨h0,h1,h2,λy hy h=>absurd h (h3 y hy),h4,λi j h=>by simp at h⟩
theorem f0{c:Fc}{nt:Nat}(fr O:List Nat)(e:c.O=O:=by rfl)(h:∀j∈fr,j ∉ O:=by decide):qji c nt fr none:=λj hj=>by rw[e];exact h j hj
theorem f1 {c:Fc} (nt:Nat) (fr O:List Nat) (i j:Nat) (e:c.O=O:=by rfl) (h1:j∈O:=by decide) (h2:nt<=i:=by decide) (h3:fr[i-nt]? = some j:=by rfl) (h4:∀p∈fr.zipIdx,nt+p.2≠i->p.1 ∉ O:=by decide):qji c nt fr (some (i,j)) :=
 qjA (by rw[e];exact h1) h2 h3 (by rw[e];exact h4)
def qgf(c:Fc)(i:Nat):Fc:={c with O:=i::c.O}
def qiv (i:Nat) (f:MS):MS:=λρ=>match f (ρ.set i none) with
 |.ok (.nx ρ') => .ok (.nx (ρ'.set i none))
 |.ok (.rt d ρ') => .ok (.rt d (ρ'.set i none))
 |.ok (.bk ρ') => .ok (.bk (ρ'.set i none))
 |.ok (.ct ρ') => .ok (.ct (ρ'.set i none))
 |.exc x ρ' => .exc x (ρ'.set i none)
 |.bad => .bad
theorem yc {α:Type} {l:List (Option α)} {i j:Nat} {a:α} (h:(l.set i none)[j]? = some (some a)):j≠i/\l[j]? = some (some a):=by
 by_cases e:j=i
 ·subst e
  rw[List.getElem?_set]at h
  simp only[if_true]at h
  split at h<;>cases h
 ·exact⟨e,by rw[List.getElem?_set_ne (yaX e)]at h;exact h⟩
theorem qbh {c:Fc} {i:Nat} {σ:St} {b:Addr} (h:Cl c.O σ b):Cl (qgf c i).O (σ.set i none) b:=λj hj e=>by
 obtain⟨ne,e⟩:=yc e
 exact h j ((List.mem_cons.mp hj).resolve_left ne) e
theorem qgg {c:Fc} {i:Nat} {σ:St} {b:Addr} (h:Cl (qgf c i).O σ b):Cl c.O (σ.set i none) b:=λj hj e=>by
 obtain⟨_,e⟩:=yc e
 exact h j (mM _ hj) e
theorem Rep.into {K:Fr0} {c:Fc} {i:Nat} {ρ:Env} {σ:St} {H:Hp} (r:Rep K c ρ σ H) (hi:i ∉ c.O):Rep K (qgf c i) (ρ.set i none) (σ.set i none) H where
 len:=by rw[lS_,lS_];exact r.len
 val:=λj d h=>by
  obtain⟨ne,h⟩:=yc h
  obtain⟨v,h1,h2⟩:=r.val j d h
  refine⟨v,by rw[List.getElem?_set_ne (yaX ne)];exact h1,?_⟩
  rcases h2 with⟨h3,ds,a,xs,g3,g5,g6,g7⟩|⟨h3,h4⟩
  ·exact .inl ⟨mM _ h3,ds,a,xs,g3,g5,g6,IsL.ext Ext.refl (λa ha _=>⟨ha.1,qbh ha.2⟩) g7⟩
  ·exact .inr ⟨λz=>(List.mem_cons.mp z).elim ne h3,Is.ext Ext.refl (λa ha _=>⟨ha.1,qbh ha.2⟩) h4⟩
 own:=λj hj v h=>by
  obtain⟨ne,h⟩:=yc h
  exact r.own j ((List.mem_cons.mp hj).resolve_left ne) v h
 inj:=λj k a hj hk h1 h2=>by
  obtain⟨n1,h1⟩:=yc h1
  obtain⟨n2,h2⟩:=yc h2
  exact r.inj j k a ((List.mem_cons.mp hj).resolve_left n1) ((List.mem_cons.mp hk).resolve_left n2) h1 h2
 b0:=r.b0
 kp:=r.kp
 dm:=r.dm
 pO:=λj hj=>mM _ (r.pO j hj)
 ps:=λj hj=>by
  have:j≠i:=λe=>hi (e▸r.pO j hj)
  rw[List.getElem?_set_ne (yaX this)];exact r.ps j hj
theorem Rep.outof {K:Fr0} {c:Fc} {i:Nat} {ρ:Env} {σ:St} {H:Hp} (r:Rep K (qgf c i) ρ σ H) (hi:i ∉ c.O) (hpO:∀j∈c.P,j∈c.O):Rep K c (ρ.set i none) (σ.set i none) H where
 len:=by rw[lS_,lS_];exact r.len
 val:=λj d h=>by
  obtain⟨ne,h⟩:=yc h
  obtain⟨v,h1,h2⟩:=r.val j d h
  refine⟨v,by rw[List.getElem?_set_ne (yaX ne)];exact h1,?_⟩
  rcases h2 with⟨h3,ds,a,xs,g3,g5,g6,g7⟩|⟨h3,h4⟩
  ·exact .inl ⟨(List.mem_cons.mp h3).resolve_left ne,ds,a,xs,g3,g5,g6,IsL.ext Ext.refl (λa ha _=>⟨ha.1,qgg ha.2⟩) g7⟩
  ·exact .inr ⟨λz=>h3 (mM _ z),Is.ext Ext.refl (λa ha _=>⟨ha.1,qgg ha.2⟩) h4⟩
 own:=λj hj v h=>by
  obtain⟨_,h⟩:=yc h
  exact r.own j (mM _ hj) v h
 inj:=λj k a hj hk h1 h2=>by
  obtain⟨_,h1⟩:=yc h1
  obtain⟨_,h2⟩:=yc h2
  exact r.inj j k a (mM _ hj) (mM _ hk) h1 h2
 b0:=r.b0
 kp:=r.kp
 dm:=r.dm
 pO:=hpO
 ps:=λj hj=>by
  have:j≠i:=λe=>hi (e▸hpO j hj)
  rw[List.getElem?_set_ne (yaX this)];exact r.ps j hj
theorem qaA {c:Fc} {i:Nat} {σ σ':St} {H H':Hp} (g:GrS (qgf c i).O (σ.set i none) H σ' H'):GrS c.O σ H (σ'.set i none) H' :=
 ⟨⟨g.ext.tup,g.ext.frz,λb o hb h=>g.ext.at_ b o (qbh hb) h⟩,λb hb hs=>qgg (g.cl b (qbh hb) hs),g.dom⟩
section
variable{X:Cx}{c:Fc}
theorem qlL {i:Nat} {st:Stmt} {f:MS} (h:DS X (qgf c i) st f) (hi:i ∉ c.O:=by exact of_decide_eq_false rfl):DS X c st (qiv i f):=by
 obtain⟨t,p,w⟩:=h
 refine⟨λD σ H=>t {nx:=λσ' H'=>D.nx (σ'.set i none) H',rt:=D.rt,bk:=λσ' H'=>D.bk (σ'.set i none) H',ct:=λσ' H'=>D.ct (σ'.set i none) H' } (σ.set i none) H,?_,λρ σ H D r hw=>?_⟩
 ·intro pins s σ H D I hq
  refine ya8 (p pins s _ H _ (vX I i) hq) (λfl s1 h1=>?_) (λ_ _ z=>z)
  cases fl with
  |next=>obtain⟨σ1,H1,I1,q⟩:=h1;exact⟨_,H1,vX I1 i,q⟩
  |brk=>obtain⟨σ1,H1,I1,q⟩:=h1;exact⟨_,H1,vX I1 i,q⟩
  |cont=>obtain⟨σ1,H1,I1,q⟩:=h1;exact⟨_,H1,vX I1 i,q⟩
  |ret u=>exact h1
 ·refine w _ _ H _ (r.into hi) ?_
  unfold qiv at hw
  cases ef:f (ρ.set i none) with
  |bad=>rw[ef]at hw;exact hw
  |exc z ρ'=>rw[ef]at hw;exact λσ' H' r' g'=>hw _ H' (r'.outof hi r.pO) (qaA g')
  |ok fl=>
   rw[ef]at hw
   cases fl with
   |nx ρ'=>exact λσ' H' r' g'=>hw _ H' (r'.outof hi r.pO) (qaA g')
   |rt d ρ'=>exact λv σ' H' r' i' g'=>hw v _ H' (r'.outof hi r.pO) i' (qaA g')
   |bk ρ'=>exact λσ' H' r' g'=>hw _ H' (r'.outof hi r.pO) (qaA g')
   |ct ρ'=>exact λσ' H' r' g'=>hw _ H' (r'.outof hi r.pO) (qaA g')
end
end L2.Sk
namespace L2.Sk
open PySem PySem.Spec PyProof.Rows
section
variable{X:Cx}{c:Fc}{a b e:Expr}{pos:Pos}
def qgh (i:Nat) (f:M D):M D:=λρ=>match zJ i ρ with
 |none => .bad
 |some _=>(bnd f λd ρ=>match zJ i ρ with
  |some ds=>if qQ (ds.length+1)then .ok (.non,ρ.set i (some (.lst (d::ds))))else .bad
  |none => .bad) ρ
def qaT(f:M (List D)):M (List D):=bnd f λds=>lift (if qQ ds.length then some ds else none)
theorem qgi {es:List Expr} {f:M (List D)} (h:DA X c es f):DN X c (.List es pos) (qaT f):=by
 obtain⟨t,p,w⟩:=h
 refine⟨_,qfl p,λρ σ H Q r h=>w ρ σ H _ r (WpL.bndN h λds ρ1 vs H1 r1 i1 g1 h1=>?_)⟩
 by_cases hb:qQ ds.length=true
 ·rw[if_pos hb]at h1
  refine⟨by rw[i1.length];exact of_decide_eq_true hb,λp hp=>?_⟩
  exact h1 p vs _ hp (r1.laid hp _) (r1.apart hp) qx trivial (IsL.ext (Ext.of_same (qu hp _)) (λb h hs=>⟨h,λe=>by rw[e,hp]at hs;cases hs⟩) i1) (.of_same (qu hp _))
 ·rw[if_neg hb]at h1;exact h1.elim
end
section
variable{prog:yao}{w:World}{A:yau}{E:Value->yab->Prop}{s:yab}
end
section
variable{X:Cx}{c:Fc}{a e:Expr}{pos:Pos}{tg:Expr}
def qm0:List D->Option (List D)
 | [.tup xs]=>some xs.reverse
 |_=>none
def qnD(f:M (List D)):M (List D):=bnd f λds=>lift (qm0 ds)
theorem qnE {l:M (List D)} {ρ:Env}:qnD l ρ=match l ρ with|.ok (d,ρ1)=>(match qm0 d with|some ds => .ok (ds,ρ1)|none => .bad)|.exc x ρ' => .exc x ρ'|.bad => .bad:=by
 simp only[qnD,bnd]
 cases l ρ with
 |ok z=>obtain⟨z1,ρ1⟩:=z;(dsimp only;cases qm0 z1<;>rfl)
 |exc x ρ'=>rfl
 |bad=>rfl
theorem qlM {f:M D} {ρ:Env} (i:Nat):qgh i f ρ=match zJ i ρ with
  |none => .bad
  |some _=>(match f ρ with
   |.ok (d,ρ1)=>(match zJ i ρ1 with|some ds=>(if qQ (ds.length+1)then .ok (.non,ρ1.set i (some (.lst (d::ds))))else .bad)|none => .bad)
   |.exc x ρ' => .exc x ρ'|.bad => .bad):=by
 unfold qgh
 cases zJ i ρ with
 |none=>rfl
 |some z=>
  simp only[bnd]
  cases f ρ with
  |ok z=>obtain⟨z1,ρ1⟩:=z;rfl
  |exc x ρ'=>rfl
  |bad=>rfl
end
end L2.Sk
namespace HT
open PySem PySem.Spec PyProof.Rows
section
variable{prog:yao}{w:World}{A:yau}{E:Value->yab->Prop}{s:yab}
theorem qgj (n:Nat):((yay n).map λk=>n-1-k)=(yay n).reverse:=by
 refine List.ext_getElem (by simp) λi h1 h2=>?_
 simp
theorem qd6 {α β:Type} {f g:α->Option β}:∀l:List α,(∀a∈l,f a=g a)->l.filterMap f=l.filterMap g
 | [],_=>rfl
 |a::l,h=>by rw[ybd,ybd,h a mS_,qd6 l λx hx=>h x (mM _ hx)]
theorem qd7 (xs:Array Value):((yay xs.size).filterMap λ(m:Nat)=>xs[(((xs.size:Int)-1)+(m:Int) * -1).toNat]?)=xs.toList.reverse:=by
 have e:((yay xs.size).filterMap λ(m:Nat)=>xs[(((xs.size:Int)-1)+(m:Int) * -1).toNat]?)=((yay xs.size).map λk=>xs.size-1-k).filterMap λx=>xs[x]? := by
  rw[ycy]
  refine qd6 _ λm hm=>?_
  have:=mR_.mp hm
  have e:(((xs.size:Int)-1)+(m:Int) * -1).toNat=xs.size-1-m:=by omega
  rw[e]
  rfl
 rw[e,qgj,List.filterMap_reverse]
 have:=pick_run xs 0 xs.size
 rw[ycy]at this
 have e2:((λx=>xs[x]?)∘λx=>0+x)=λx=>xs[x]? := by
  funext x
  show xs[0+x]? = _
  rw[ybK]
 rw[e2]at this
 rw[this,List.drop_zero]
 congr 1
 exact yer (by simp)
theorem qdk {sl:Addr} {vk:Value} {n:Nat} {Q:Int×Int×Nat->yab->Prop} (hs:s.heap.IsSliceOf sl .none .none vk) (pk:ycx vk (some (-1)))
  (h:Q ((n:Int)-1,-1,n) s):wpAny (model prog w) A (ybP (.ref sl) (pure (n:Int))) Q E s:=by
 obtain⟨os,hos,hcs,hds⟩:=id hs
 unfold ybP ydK
 refine yaa (yaa (yaA hos hds (x:=.none) rfl (yaa (yaA hos hds (x:=.none) rfl (yaa (yaA hos hds (x:=vk) rfl (yac ?_)))))))
 refine yaa (wj pk ?_)
 show wpAny _ _ (if((-1:Int)==0)=true then _ else _) _ _ s
 rw[if_neg (by decide)]
 refine yaa (ydj (yaa (ydj (yaa (yac ?_)))))
 show wpAny _ _ (pure ((n:Int)-1,(-1:Int),ya6 ((n:Int)-1) (-1) (-1))) _ _ s
 have e:ya6 ((n:Int)-1) (-1) (-1)=n:=by
  unfold ya6
  rw[if_neg (by decide),show(- -1:Int)=1 from rfl,ye8]
  split<;>omega
 rw[e]
 exact yac h
theorem getItem_tuple_rev {t sl:Addr} {items:Array Value} {vk:Value} {Q:Value->yab->Prop} (ht:IsTup s.heap t items) (hs:s.heap.IsSliceOf sl .none .none vk) (pk:ycx vk (some (-1)))
  (h:Q (.ref s.heap.objs.size) {s with heap:=s.heap.push {cls:=.type "tuple",data:=.seq items.toList.reverse.toArray} })
  (hsz:items.size<=yam):wpAny (model prog w) A (ycl (.ref t) (.ref sl)) Q E s:=by
 have htake:sizeOk (.seq items.toList.reverse.toArray):=by
  show items.toList.reverse.toArray.size<=yam
  rw[sT_,yb0,ycm]
  exact hsz
 obtain⟨os,hos,hcs,hds⟩:=id hs
 have hTs:s.TypeIs (.ref sl) "slice":=⟨os,hos,hcs⟩
 unfold ycl
 try with_reducible refine yba ?_
 first|refine yaa (yac ?_)|skip
 refine yaa (ydH ht.typeIs (by decide) ?_)
 refine yaa (wpAny_callSpecial?_slot (name:=ybo "__getitem__") ht.typeIs yaW
  (ybi yaW ht.typeIs yde ?_ (ydq _ _)))
 show wpAny _ _ (ycj (.ref t) >>= _) _ _ s
 refine yaa (yeS ht ?_)
 refine yaa (yc6 hTs ?_)
 rw[if_pos (by decide)]
 refine yaa (qdk hs pk ?_)
 have hno:¬((((items.size:Int)-1)==0&&(-1:Int)==1&&items.size==items.size)=true):=by
  intro q
  rw[yal,yal]at q
  exact absurd q.1.2 (by decide)
 show wpAny _ _ (if(((items.size:Int)-1)==0&&(-1:Int)==1&&items.size==items.size)=true then _ else _) _ _ s
 rw[if_neg hno,qd7]
 first
  |exact yaa (m:=yaU _) (yaJ (yac ⟨_,rfl,yac h⟩) htake)
  |exact yaa (m:=yaU _) (yaJ (yaa (yac (yac ⟨_,rfl,yac h⟩))) htake)
  |exact yaa (yaa (m:=yaU _) (yaJ (yac (yac ⟨_,rfl,yac h⟩)) htake))
  |exact yaa (yaa (m:=yaU _) (yaJ (yac ⟨_,rfl,yac h⟩) htake))
theorem rev_slicePick (its:List Value):yfb its.toArray none none (some (-1))=its.reverse.toArray:=by
 have b:yb7 none none (some (-1)) its.toArray.size=((its.toArray.size:Int)-1,-1,-1):=rfl
 unfold yfb
 rw[b]
 show((yfK ((its.toArray.size:Int)-1) (-1) (-1)).filterMap λx=>its.toArray[x]?).toArray=_
 have c:yfK ((its.toArray.size:Int)-1) (-1) (-1)=(yay its.toArray.size).map λ(m:Nat)=>(((its.toArray.size:Int)-1)+(m:Int) * -1).toNat:=by
  unfold yfK
  have e:(if(-1:Int)>0 then(if(its.toArray.size:Int)-1 < -1 then(-1-((its.toArray.size:Int)-1) + -1-1) / -1 else 0)else if(its.toArray.size:Int)-1 > -1 then((its.toArray.size:Int)-1 - -1 - -1-1) / - -1 else 0).toNat=its.toArray.size:=by
   rw[if_neg (by decide),show(- -1:Int)=1 from rfl,ye8]
   split<;>omega
  simp only[e]
  refine ye0 λm _=>?_
  congr 1
  omega
 rw[c,ycy]
 have:=qd7 its.toArray
 exact congrArg List.toArray this
end
end HT
namespace L2
open PySem PySem.Spec PyProof.Rows
section
variable{X:Cx}{e:Expr}{te:TE}{ste:Expr}{ts:TO}{pos p2:Pos}
def qm1(K:yai):V->Hp->VK->Prop:=λx H Q=>∃a xs,x=.ref a/\((SqT K H a xs/\∀p,H p=none->Q (.ref p) (upd H p (.tup xs.reverse)))\/(SqL K H a xs/\∀p,H p=none->Q (.ref p) (upd H p (.lst xs.reverse))))
theorem qjR (he:PE X e te) (hs:PO X (some ste) ts):PE X (.Subscript e (.Slice none none (some ste) p2) pos) (λσ H Q=>te σ H λx H1=>ts σ H1 λl H2=>l=some (-1)/\qm1 X.K x H2 Q):=by
 intro pins s σ H Q I h
 refine yfI (thn (he pins s σ H _ I h) λv s1 ⟨x,H1,I1,r1,q1⟩=>?_)
 refine wpAny_Slice ?_
 rw[yeT]
 refine yac (yac (thn (hs pins s1 σ H1 _ I1 q1) λvk s3 ⟨k,H3,I3,pk,q3⟩=>?_))
 obtain⟨rfl,a,xs,rfl,q3⟩:=q3
 have I4:Inv X pins σ H3 {s3 with heap:=s3.heap.push {cls:=.type "slice",data:=.fields #[.none,.none,vk]} }:=I3.kept (t':=s3.toks) λb ob q=>Heap.get?_push_of_some _ q
 have hsl:=ye9 s3.heap .none .none vk
 cases r1
 rcases q3 with⟨hx,q⟩|⟨hx,q⟩
 ·obtain ⟨its,r,ht,hz⟩:=I4.tuple hx
  have hlen:its.toArray.size=xs.length:=by rw[sT_];exact r.length.symm
  have hg:wpAny (model X.prog X.w) X.A (ycl (.ref a) (.ref s3.heap.objs.size)) (EP X pins σ Q) X.xe {s3 with heap:=s3.heap.push {cls:=.type "slice",data:=.fields #[.none,.none,vk]} }:=by
   refine HT.getItem_tuple_rev ht hsl pk ?_ (by rw[hlen];exact hz)
   refine⟨.ref _,_,I4.laid (t':=s3.toks) (o:=.tup xs.reverse) (λb ob q=>Heap.get?_push_of_some _ q) (yah _) ?_,rfl,q _ (I4.hok.fresh (yah _))⟩
   exact⟨by rw[yb0];exact hz,_,r.reverse,ycZ _ _⟩
  exact tail_any (ops:=[.ref a,.ref s3.heap.objs.size]) ht.typeIs PyProof.Rows.slot_tuple_getitem.lookup hg (by with_unfolding_all rfl)
 ·obtain ⟨its,r,ht,hz⟩:=I4.list hx
  have hlen:=r.length
  have hg:wpAny (model X.prog X.w) X.A (ycl (.ref a) (.ref s3.heap.objs.size)) (EP X pins σ Q) X.xe {s3 with heap:=s3.heap.push {cls:=.type "slice",data:=.fields #[.none,.none,vk]} }:=by
   refine ydU ht.isList hsl .none .none pk (by simp) ?_ (by rw[sT_]<;>omega)
   rw[HT.rev_slicePick]
   refine⟨.ref _,_,I4.laid (t':=s3.toks) (o:=.lst xs.reverse) (λb ob q=>Heap.get?_push_of_some _ q) (yah _) ?_,rfl,q _ (I4.hok.fresh (yah _))⟩
   exact⟨by rw[yb0];exact hz,_,0,r.reverse,Heap.get?_push_size _ rfl⟩
  exact tail_any (ops:=[.ref a,.ref s3.heap.objs.size]) ht.isList.typeIs slot_list_getitem.lookup hg (by with_unfolding_all rfl)
end
end L2
namespace L2.Sk
open PySem PySem.Spec PyProof.Rows
theorem IsL.rev {K:Fr0} {A:Addr->Prop} {H:Hp}:∀{ds:List D}{xs:List V},IsL K A H ds xs->IsL K A H ds.reverse xs.reverse:=by
 intro ds
 induction ds with
 |nil=>
  intro xs h
  cases xs with
  |nil=>exact h
  |cons x xs=>exact absurd h.length (by simp)
 |cons d ds ih=>
  intro xs h
  obtain⟨x,ys,rfl,h1,h2⟩:=h
  rw[ycF,ycF]
  have one:IsL K A H [d] [x]:=⟨x,[],rfl,h1,IsL.take 0 h2⟩
  exact IsL.append (ih h2) one
def qmp:D->Option D
 |.tup ds=>some (.tup ds.reverse)
 |.lst ds=>some (.lst ds.reverse)
 |_=>none
def vY(f:M D):M D:=bnd f λd=>lift (qmp d)
section
variable{X:Cx}{c:Fc}{a:Expr}{pos p2 p3 p4:Pos}{cj:Nat}
theorem qgk {f:M D} (ha:DE X c a f):DE X c (.Subscript a (.Slice none none (some (.UnaryOp .USub (.Constant (.int 1) cj p3) p4)) p2) pos) (vY f):=by
 obtain⟨ta,pa,wa⟩:=ha
 obtain⟨tk,pk,wk⟩:=y7 (X:=X) (c:=c) (pos:=p4) (qh (X:=X) (c:=c) (i:=1) (j:=cj) (pos:=p3))
 refine⟨_,qjR pa (qfo pk),λρ σ H Q r h=>wa ρ σ H _ r (Wp.bnd h λd ρ1 v H1 r1 i1 g1 h1=>?_)⟩
 refine wk ρ1 σ H1 _ r1 ?_
 have e0:d1 uw (ret (.int 1)) ρ1=.ok (.int (-1),ρ1):=rfl
 rw[e0]
 intro u H2 r2 i2 g2
 have hu:u=V.int (-1):=i2
 refine⟨-1,hu,rfl,?_⟩
 obtain⟨d',e,h3⟩:=(h1.gr g2).lift
 have i3:=g2.is i1
 clear h1
 cases d<;>simp only[qmp]at e<;>try (cases e;done)
 ·cases e
  obtain⟨b,xs,rfl,tb,il⟩:=i3
  exact⟨b,xs,rfl,.inl ⟨tb.sq,λp hp=>h3 _ _ (r2.laid hp _) ⟨p,xs.reverse,rfl,.inl qx,IsL.ext (Ext.of_same (qu hp _)) (λ_ h _=>h) (IsL.rev il)⟩ (.of_same (qu hp _))⟩⟩
 ·cases e
  obtain⟨b,xs,rfl,hA,tb,il⟩:=i3
  exact⟨b,xs,rfl,.inr ⟨.inl (.inl tb),λp hp=>h3 _ _ (r2.laid hp _) ⟨p,xs.reverse,rfl,r2.new hp,qx,IsL.ext (Ext.of_same (qu hp _)) (λ_ h _=>h) (IsL.rev il)⟩ (.of_same (qu hp _))⟩⟩
theorem qgl {f:M D} {ρ:Env}:vY f ρ=match f ρ with|.ok (d,ρ1)=>(match qmp d with|some x => .ok (x,ρ1)|none => .bad)|.exc x ρ' => .exc x ρ'|.bad => .bad:=by
 simp only[vY,bnd]
 cases f ρ with
 |ok z=>obtain⟨z1,ρ1⟩:=z;(dsimp only;cases qmp z1<;>rfl)
 |exc x ρ'=>rfl
 |bad=>rfl
end
def qeN(i:Nat)(f:MS):MS:=λρ=>f (ρ.set i none)
theorem Rep.keepof {K:Fr0} {c:Fc} {i:Nat} {ρ:Env} {σ:St} {H:Hp} (r:Rep K (qgf c i) ρ σ H) (hi:i ∉ c.O) (hpO:∀j∈c.P,j∈c.O):Rep K c ρ σ H where
 len:=r.len
 val := λj d h=>by
  obtain⟨v,h1,h2⟩:=r.val j d h
  refine⟨v,h1,?_⟩
  have sub:∀b,Cl (qgf c i).O σ b->Cl c.O σ b:=λb hb k hk e=>hb k (mM _ hk) e
  rcases h2 with⟨h3,ds,a,xs,g3,g5,g6,g7⟩|⟨h3,h4⟩
  ·rcases List.mem_cons.mp h3 with e|h3
   ·subst e
    subst g3 g5
    have hB:c.B a:=by
     obtain⟨a',_,e2,_,e3⟩:=r.own j mS_ _ h1
     cases e2
     exact r.b0.1 a (e3.resolve_right λz=>hi (hpO j z.1))
    refine .inr ⟨hi,a,xs,rfl,⟨hB,λk hk e=>?_⟩,g6,IsL.ext Ext.refl (λa ha _=>⟨ha.1,sub a ha.2⟩) g7⟩
    exact hi (r.inj k j a (mM _ hk) mS_ e h1▸hk)
   ·exact .inl ⟨h3,ds,a,xs,g3,g5,g6,IsL.ext Ext.refl (λa ha _=>⟨ha.1,sub a ha.2⟩) g7⟩
  ·exact .inr ⟨λz=>h3 (mM _ z),Is.ext Ext.refl (λa ha _=>⟨ha.1,sub a ha.2⟩) h4⟩
 own:=λj hj v h=>r.own j (mM _ hj) v h
 inj:=λj k a hj hk h1 h2=>r.inj j k a (mM _ hj) (mM _ hk) h1 h2
 b0:=r.b0
 kp:=r.kp
 dm:=r.dm
 pO:=hpO
 ps:=r.ps
theorem yw {c:Fc} {i:Nat} {σ σ':St} {H H':Hp} (g:GrS (qgf c i).O (σ.set i none) H σ' H'):GrS c.O σ H σ' H' :=
 ⟨⟨g.ext.tup,g.ext.frz,λb o hb h=>g.ext.at_ b o (qbh hb) h⟩,λb hb hs k hk e=>g.cl b (qbh hb) hs k (mM _ hk) e,g.dom⟩
section
variable{X:Cx}{c:Fc}
theorem qgm {i:Nat} {s1 s2:Stmt} {sts:List Stmt} {f g k:MS} (h1:DS X (qgf c i) s1 f) (h2:DS X (qgf c i) s2 g) (h3:DSs X c sts k) (hi:i ∉ c.O:=by exact of_decide_eq_false rfl):DSs X c (s1::s2::sts) (qH (qeN i (qH f g)) k):=by
 obtain⟨t1,p1,w1⟩:=h1
 obtain⟨t2,p2,w2⟩:=h2
 obtain⟨t3,p3,w3⟩:=h3
 have q1:PS X s1 (λD σ H=>t1 D (σ.set i none) H):=by
  intro pins s σ H D I hq
  exact p1 pins s _ H D (vX I i) hq
 refine⟨_,qbr q1 (qbr p2 p3),λρ σ H D r hw=>?_⟩
 refine w1 _ _ H _ (r.into hi) ?_
 unfold qH qeN at hw
 cases ef:f (ρ.set i none) with
 |bad=>simp only[qH,ef]at hw;exact hw
 |exc z ρ'=>simp only[qH,ef]at hw;exact λσ' H' r' g'=>hw σ' H' (r'.keepof hi r.pO) (yw g')
 | ok fl=>
  cases fl with
  | nx ρ1=>
   intro σ1 H1 r1 g1
   refine w2 ρ1 σ1 H1 _ r1 ?_
   cases eg:g ρ1 with
   |bad=>simp only[qH,ef,eg]at hw;exact hw
   |exc z ρ'=>simp only[qH,ef,eg]at hw;exact λσ' H' r' g'=>hw σ' H' (r'.keepof hi r.pO) (yw (g1.trans g'))
   | ok fl2=>
    cases fl2 with
    |nx ρ2=>
     simp only[qH,ef,eg]at hw
     intro σ2 H2 r2 g2
     exact w3 ρ2 σ2 H2 D (r2.keepof hi r.pO) (hw.gr (yw (g1.trans g2)))
    |rt d ρ'=>simp only[qH,ef,eg]at hw;exact λv σ' H' r' i' g'=>hw v σ' H' (r'.keepof hi r.pO) i' (yw (g1.trans g'))
    |bk ρ'=>simp only[qH,ef,eg]at hw;exact λσ' H' r' g'=>hw σ' H' (r'.keepof hi r.pO) (yw (g1.trans g'))
    |ct ρ'=>simp only[qH,ef,eg]at hw;exact λσ' H' r' g'=>hw σ' H' (r'.keepof hi r.pO) (yw (g1.trans g'))
  |rt d ρ'=>simp only[qH,ef]at hw;exact λv σ' H' r' i' g'=>hw v σ' H' (r'.keepof hi r.pO) i' (yw g')
  |bk ρ'=>simp only[qH,ef]at hw;exact λσ' H' r' g'=>hw σ' H' (r'.keepof hi r.pO) (yw g')
  |ct ρ'=>simp only[qH,ef]at hw;exact λσ' H' r' g'=>hw σ' H' (r'.keepof hi r.pO) (yw g')
end
end L2.Sk
namespace L2
open PySem PySem.Spec PyProof.Rows
section
variable{X:Cx}{pins:List (Addr×Obj)}{σ:St}{H:Hp}{s:yab}
end
end L2
namespace L2.Srt
open PySem PySem.W PyProof.Rows
def runK {α:Type} (cmp:Nat->Nat->Bool):KasT α->α
 |.ret a=>a
 |.ask i j k=>runK cmp (k (cmp i j))
def Fits {α:Type} (n:Nat) (R:α->Prop):KasT α->Prop
 |.ret a=>R a
 |.ask i j k=>i<n/\j<n/\∀b,Fits n R (k b)
theorem Fits.bind {α β:Type} {n:Nat} {R:α->Prop} {R':β->Prop} {f:α->KasT β} (hf:∀a,R a->Fits n R' (f a)):∀{t:KasT α},Fits n R t->Fits n R' (t.bind f)
 |.ret _,h=>hf _ h
 |.ask _ _ _,⟨h1,h2,h3⟩=>⟨h1,h2,λb=>Fits.bind hf (h3 b)⟩
theorem Fits.run {α:Type} {n:Nat} {R:α->Prop} {cmp:Nat->Nat->Bool}:∀{t:KasT α},Fits n R t->R (runK cmp t)
 |.ret _,h=>h
 |.ask i j k,h=>Fits.run (t:=k (cmp i j)) (h.2.2 (cmp i j))
def Pl(n:Nat)(p:Array Nat):Prop:=p.size=n/\p.toList.Perm (yay n)
theorem Pl.of_perm{n:Nat}{p q:Array Nat}(h:Pl n p)(hq:q.Perm p):Pl n q:=⟨hq.size_eq.trans h.1,(Array.perm_iff_toList_perm.mp hq).trans h.2⟩
theorem Pl.lt {n:Nat} {p:Array Nat} (h:Pl n p) (hn:0<n) (k:Nat):p.getD k 0<n:=by
 by_cases hk:k<p.size
 ·have e:p.getD k 0=p[k]:=by simp[Array.getD,hk]
  rw[e]
  have hm:p[k]∈p.toList:=by simp
  exact mR_.mp (h.2.mem_iff.mp hm)
 ·have e:p.getD k 0=0:=by simp[Array.getD,hk]
  rw[e];exact hn
theorem Pl.rev{n:Nat}{p:Array Nat}(h:Pl n p)(i j:Nat):Pl n (kas_rev p i j):=h.of_perm (mirror_perm _ _ _ _)
theorem qbK {n:Nat} (hn:0<n) {p:Array Nat} (h:Pl n p):∀f m,Fits n (λ_=>True) (kas_asc p f m)
 |0,_=>yb5
 |f+1,m=>⟨h.lt hn _,h.lt hn _,λc=>by
  dsimp only
  split
  ·exact yb5
  ·exact qbK hn h f (m+1)⟩
theorem vZ {n:Nat} (hn:0<n):∀f {p:Array Nat} (_:Pl n p) m q,Fits n (λr=>Pl n r.1) (kas_desc f p m q)
 |0,_,h,_,_=>h
 | f+1,p,h,m,q=>⟨h.lt hn _,h.lt hn _,λc=>by
  dsimp only
  split
  ·split
   ·exact vZ hn f (h.rev _ _) _ _
   ·exact vZ hn f h _ _
  ·refine⟨h.lt hn _,h.lt hn _,λd=>?_⟩
   dsimp only
   split
   ·exact h
   ·exact vZ hn f h _ _⟩
theorem qbi {n:Nat} (hn:0<n) {p:Array Nat} (h:Pl n p) (m nrem:Nat):Fits n (λr=>Pl n r.2) (kas_tail3 m nrem p) :=
 Fits.bind (R:=λ_=>True) (n:=n) (R':=λr:Nat×Array Nat=>Pl n r.2) (f:=λk => .ret (k,kas_rev p 0 m)) (λ_ _=>h.rev 0 m) (qbK hn (h.rev _ _) _ _)
theorem v3 {n:Nat} (hn:0<n) {p:Array Nat} (h:Pl n p) (m nrem:Nat):Fits n (λr=>Pl n r.2) (kas_descPart m nrem p) :=
 Fits.bind (R:=λr=>Pl n r.1) (λr hr=>by
  split
  ·exact qbi hn (hr.rev _ _) _ _
  ·exact qbi hn hr _ _) (vZ hn _ h _ _)
theorem qeO {n:Nat} (hn:0<n) {p:Array Nat} (h:Pl n p) (nrem:Nat):Fits n (λr=>Pl n r.2) (kas_count nrem p) :=
 Fits.bind (R:=λ_=>True) (λm _=>by
  split
  ·exact h
  ·split
   ·refine⟨h.lt hn _,h.lt hn _,λc=>?_⟩
    dsimp only
    split
    ·exact h
    ·exact v3 hn (h.rev _ _) _ _
   ·exact v3 hn h _ _) (qbK hn h _ _)
theorem wG {n:Nat} (hn:0<n) {p:Array Nat} (h:Pl n p) (k:Nat):∀f l r,Fits n (λ_=>True) (kas_place p k f l r)
 |0,_,_=>yb5
 | f+1,l,r=>by
  unfold kas_place
  split
  ·exact yb5
  ·refine⟨h.lt hn _,h.lt hn _,λc=>?_⟩
   dsimp only
   split
   ·exact wG hn h k f _ _
   ·exact wG hn h k f _ _
theorem qd8 {n:Nat} (hn:0<n):∀f {p:Array Nat} (_:Pl n p) k,Fits n (Pl n) (kas_bin f p k)
 |0,_,h,_=>h
 |f+1,p,h,k=>Fits.bind (R:=λ_=>True) (λl _=>qd8 hn f (h.of_perm (bubble_perm _ _ _)) _) (wG hn h k _ _ _)
theorem fits_sort {n:Nat} (hn:0<n):Fits n (Pl n) (kas_sort n) :=
 Fits.bind (R:=λr=>Pl n r.2) (λr hr=>by
  split
  ·exact qd8 hn _ hr _
  ·exact hr) (qeO hn ⟨by simp,by simp⟩ _)
def ord(ks:List Int):List Nat:=if ks.length<2 then yay ks.length else(runK (λi j=>decide (ks.getD i 0<ks.getD j 0)) (kas_sort ks.length)).toList
theorem ord_perm (ks:List Int):(ord ks).Perm (yay ks.length):=by
 unfold ord
 split
 ·exact .refl _
 ·exact(Fits.run (fits_sort (by omega))).2
theorem map_getD_range {α:Type} (d:α) (xs:List α):(yay xs.length).map (λi=>xs.getD i d)=xs:=by
 refine List.ext_getElem (by simp) λi h1 h2=>?_
 simp at h1 |-
 simp[h1]
section
variable{prog:yao}{w:World}{A:yau}{s:yab}
end
end L2.Srt
set_option maxHeartbeats 1000000
namespace L2
open PySem PySem.Spec PyProof.Rows
structure SS (X:Cx) (H0:Hp) (s0:yab) (H:Hp) (s:yab):Prop where
 os:s.os=s0.os
 bare:yck s.gens
 un:Un (frs X.stack) [] H0 H s0.heap s.heap
 hok:HOk X.prog X.w H s.heap
 same:jG H0 H
section
variable{X:Cx}{pins:List (Addr×Obj)}{σ:St}{H0 H:Hp}{s0 s:yab}{h':Heap}{b a kS:Addr}
theorem SS.kept (z:SS X H0 s0 H s) (k:∀b u,s.heap.get? b=some u->h'.get? b=some u) (tk:Nat):SS X H0 s0 H {s with heap:=h',toks:=tk} :=
 ⟨z.os,z.bare,z.un.trans (Un.kept k),z.hok.kept k,z.same⟩
theorem SS.poke (z:SS X H0 s0 H s) (hb:H b=none) (hb0:s0.heap.objs.size<=b) (sb:ybW b s.heap h') (tk:Nat):SS X H0 s0 H {s with heap:=h',toks:=tk}:=by
 have ne:∀c o,s0.heap.get? c=some o->c≠b:=λc o e=>yat (yaw (yad e) hb0)
 refine⟨z.os,z.bare,⟨λc o e n f x=>(sb.2 c (ne c o e)).trans (z.un.keep c o e n f x),λc o e n f x=>?_,z.un.free,λc o e x=>?_,z.un.tups,z.un.frzs,z.un.tbls⟩,λc u q=>?_,z.same⟩
 ·obtain⟨sl,q⟩:=z.un.slot c o e n f x
  exact⟨sl,(sb.2 c (ne c o e)).trans q⟩
 ·obtain⟨o',q⟩:=z.un.there c o e x
  exact⟨o',(sb.2 c (ne c o e)).trans q⟩
 ·refine(z.hok c u q).stay (λd v hd r=>(sb.2 d ?_).trans r) (λ_ q=>q) λ_ _ q=>q
  rintro rfl
  rcases hd with rfl|hd
  ·rw[hb]at q;cases q
  ·rw[hb]at hd;cases hd
end
section
variable{X:Cx}{H0 H:Hp}{s0 s:yab}{a kS:Addr}{A:yau}{E:Value->yab->Prop}{f:Value}{vs:List Value}{ks:List Int}{e1:Nat}{P:yff->yab->Prop}
abbrev qiw(ks:List Int)(vs:List Value):List Value:=(Srt.ord ks).map λi=>vs.getD i yax
theorem qhI (h:ks.length=vs.length):(qiw ks vs).length=vs.length:=by
 rw[lM_,(Srt.ord_perm ks).length_eq,lR_,h]
abbrev qlN (X:Cx) (H0:Hp) (s0:yab) (a:Addr) (out:List Value) (P:yff->yab->Prop):Prop :=
 ∀H' s' c,SS X H0 s0 H' s'->H' a=none->s'.heap.get? a=some (ycA "list" out.toArray c)->P (.done (.ret .none)) s'
end
section
variable{X:Cx}{pins:List (Addr×Obj)}{σ:St}{H:Hp}{s:yab}{l f:Addr}{vs:List Value}{ks:List Int}{Q:Value->yab->Prop}{E:Value->yab->Prop}
end
end L2
set_option maxHeartbeats 1000000
namespace L2
open PySem PySem.Spec PyProof.Rows
section
variable{X:Cx}{N':List Str}{fr:List Nat}{q x:Str}{params:yeb}{body:Expr}{scope:Scope}{k:Nat}
end
end L2
namespace L2.Sk
open PySem PySem.Spec PyProof.Rows
def qnF (ρ:Env):List Nat->Option (List D)
 | []=>some []
 |j::fr=>match ρ[j]?,qnF ρ fr with
  |some (some d),some ds=>some (d::ds)
  |_,_=>none
def qlO (g:M D) (n:Nat) (cs:List D):List D->Option (List Int)
 | []=>some []
 |d::ds=>match g (ym n (d::cs)),qlO g n cs ds with
  |.ok (.int k,_),some ks=>some (k::ks)
  |_,_=>none
def qjS(l:List Nat)(ds:List D):List D:=l.map λi=>ds.getD i .non
def qnG (n:Nat) (fr:List Nat) (f g:M D):M D:=bnd f λd ρ=>match d with
 | .lst ds=>if ds.length<64 then match qnF ρ fr with
   |some cs=>match qlO g n cs ds with
    |some ks => .ok (.lst (qjS (Srt.ord ks) ds),ρ)
    |none => .bad
   |none => .bad
  else .bad
 |_ => .bad
section
variable{X:Cx}{c:Fc}{e:Expr}{p pos kpos lpos:Pos}{N':List Str}{fr:List Nat}{x:Str}{params:yeb}{body:Expr}{scope:Scope}{k:Nat}{c0 Pt:Addr}
end
end L2.Sk
namespace L2
open PySem PySem.Spec PyProof.Rows
theorem walk_lam {l:yef} {n k:Nat} {q:yao} {loose:List Str} {XP:(Str->Option Value)->Heap->Prop} {YP:World->Heap->Prop} {d:DefRec} {K:Params->yai} {CX:World->CXT} {sp:World->Sp} {x:Str}
  (hn:l.most=some n) (hn2:n<=yam) (hdf:d.params.defaults=[]) (hr:uH k ydP)
  (hY:∀(w:World)(h:Heap),YP w h->(K w.params).In h) {lm:World->Option (Addr×Addr×Pos×Str)}
  (hlm:∀(w:World)(mean:ExcName->Option Value)(mg mb:Str->Option Value)(h:Heap)(c Pt:Addr)(pos:Pos)(z:Str),Top q (PySem.W.looseW q loose) mean mg mb h->(K w.params).In h->lm w=some (c,Pt,pos,z) ->
   yey h c Pt/\h.get? Pt=some (yez #[])/\(K w.params).lookup Pt=none)
  (F : ∀(w:World)(mg:Str->Option Value)(fa:Addr)(h:Heap),(K w.params).In h->h.Ns yag mg->mg d.name=some (.ref fa) ->
   ∃ fd:yaM,(∀(s:yab)(u:Value),ydN s fd ⟨[u],[]⟩ [(x,u)]) /\
    ∀base:Heap,(K w.params).In base->base.Ns yag mg->vi l.prog w (K w.params) mg base (CX w) k fa fd [x] (sp w))
  (hsp:∀(w:World)(H:Hp)(a:Addr)(ns:List Int),ns.length<=n->qmh H->(∀c Pt pos z,lm w=some (c,Pt,pos,z)->H Pt=some (.lam pos z))->SqL (K w.params) H a (ns.map V.int)->sp w [.ref a] H (λv _=>v=.bl true) λ_ _ _=>False)
  (hCX:∀(w:World)(H:Hp)(s:yab)(e:Value)(s':yab),CX w [] H s (λ_ _ _=>False) e s'->False) :
  PySem.W.WalkO q loose XP YP l.row.toRowW d [] (λf vs=>yfJ f vs):=by
 refine Att.attach_call hn hdf λw s₀ sY mg mb fa o pm cd doc a vs ns G Y ho hd hcd hmg hobj hints hlen hg=>?_
 have KX:=hY w _ Y
 obtain⟨fd,hb,hF⟩:=F w mg fa _ KX G.T.g hmg
 exact qg6 (lm:=lm w) KX G.T.g G.T.b G.T.builtins G.T.nolimit G.T.bmain (λc Pt pos z=>hlm w _ mg mb _ c Pt pos z G.T KX) hg hobj hints (yaF hlen hn2) hr hF hb (λH hO hT hS=>hsp w H a ns hlen hO hT hS) λH e s'=>hCX w H sY e s'
end L2
namespace L2.Sk
open PySem PySem.Spec PyProof.Rows
section
variable{P:yao}{w:World}{K:yai}{mg:Str->Option Value}{base:Heap}
end
section
variable{X:Cx}{c:Fc}{a b e:Expr}{pos:Pos}
def qm2 (i:Nat) (f:M D):M D:=λρ=>match zJ i ρ with
 |none => .bad
 | some _=>(bnd f λd ρ=>match d,(zJ i ρ).bind vA with
  |.int b,some ns=>match ns.findIdx? (·==b) with
   |some j => .ok (.non,ρ.set i (some (.lst ((ns.eraseIdx j).map D.int))))
   |none => .bad
  |_,_ => .bad) ρ
end
end L2.Sk
namespace L2.Sk
open PySem PySem.Spec PyProof.Rows
section
variable{X:Cx}
end
def qos:D->D->Option D
 |.bl a,.bl b=>some (.bl (a==b))
 |_,_=>none
end L2.Sk
namespace L2
open PySem PySem.Spec PyProof.Rows
section
variable{X:Cx}{pos:Pos}
end
end L2
namespace L2.Sk
open PySem PySem.Spec PyProof.Rows
section
variable{X:Cx}{c:Fc}
end
end L2.Sk
set_option maxHeartbeats 1000000
namespace L2
open PySem PySem.Spec PyProof.Rows
abbrev v4:=Int×Int×List Int
def lt3(x y:v4):Bool:=if x.1=y.1 then if x.2.1=y.2.1 then HT.lexLt x.2.2 y.2.2 else decide (x.2.1<y.2.1)else decide (x.1<y.1)
theorem qdl:∀a:List Int,HT.lexLt a a=false
 | []=>rfl
 |x::a=>by rw[HT.lexLt_cons,if_pos rfl];exact qdl a
theorem qd9:∀a b:List Int,HT.lexLt a b=true->HT.lexLt b a=false
 | [],[],_=>rfl
 | [],_::_,_=>rfl
 |_::_,[],h=>by cases h
 | x::a,y::b,h=>by
  rw[HT.lexLt_cons]at h |-
  by_cases c:x=y
  ·subst c
   rw[if_pos rfl]at h |-
   exact qd9 a b h
  ·rw[if_neg c]at h
   rw[if_neg λz=>c z.symm]
   have:=of_decide_eq_true h
   exact decide_eq_false (by omega)
theorem qgn:∀a b c:List Int,HT.lexLt a c=true->HT.lexLt a b=true\/HT.lexLt b c=true
 |a,[],[],h=>by cases a<;>cases h
 |_,[],_::_,_ => .inr rfl
 | [],_::_,_,_ => .inl rfl
 |_::_,_::_,[],h=>by cases h
 | x :: a,y::b,z::c,h=>by
  rw[HT.lexLt_cons]at h
  rw[HT.lexLt_cons,HT.lexLt_cons]
  by_cases e1:x=y
  ·subst e1
   by_cases e2:x=z
   ·rw[if_pos e2]at h |-
    rw[if_pos rfl]
    exact qgn a b c h
   ·rw[if_neg e2]at h |-
    exact .inr h
  ·by_cases e2:y=z
   ·subst e2
    rw[if_neg e1]at h |-
    exact .inl h
   ·rw [if_neg e1,if_neg e2]
    by_cases e3:x=z
    ·subst e3
     simp only[decide_eq_true_eq]
     omega
    ·rw[if_neg e3]at h
     simp only[decide_eq_true_eq]at h |-
     omega
theorem qjT(x:v4):lt3 x x=false:=by unfold lt3;rw[if_pos rfl,if_pos rfl];exact qdl _
theorem qhJ (x y:v4) (h:lt3 x y=true):lt3 y x=false:=by
 unfold lt3 at h |-
 by_cases c:x.1=y.1
 ·rw [if_pos c]at h;rw[if_pos c.symm]
  by_cases d:x.2.1=y.2.1
  ·rw[if_pos d]at h;rw[if_pos d.symm];exact qd9 _ _ h
  ·rw[if_neg d]at h;rw[if_neg λz=>d z.symm]
   have:=of_decide_eq_true h
   exact decide_eq_false (by omega)
 ·rw[if_neg c]at h;rw[if_neg λz=>c z.symm]
  have:=of_decide_eq_true h
  exact decide_eq_false (by omega)
theorem qgo (x y z:v4) (h:lt3 x z=true):lt3 x y=true\/lt3 y z=true:=by
 obtain⟨x1,x2,x3⟩:=x
 obtain⟨y1,y2,y3⟩:=y
 obtain⟨z1,z2,z3⟩:=z
 unfold lt3 at h |-
 dsimp only at h |-
 by_cases e1:x1=y1
 ·subst e1
  by_cases e2:x1=z1
  ·rw [if_pos e2]at h |-
   rw[if_pos rfl]
   by_cases f1:x2=y2
   ·subst f1
    by_cases f2:x2=z2
    ·rw[if_pos f2]at h |-
     rw[if_pos rfl]
     exact qgn _ _ _ h
    ·rw[if_neg f2]at h |-
     exact .inr h
   ·by_cases f2:y2=z2
    ·subst f2
     rw[if_neg f1]at h |-
     exact .inl h
    ·rw [if_neg f1,if_neg f2]
     by_cases f3:x2=z2
     ·subst f3
      simp only[decide_eq_true_eq]
      omega
     ·rw[if_neg f3]at h
      simp only[decide_eq_true_eq]at h |-
      omega
  ·rw[if_neg e2]at h |-
   exact .inr h
 ·by_cases e2:y1=z1
  ·subst e2
   rw[if_neg e1]at h |-
   exact .inl h
  ·rw [if_neg e1,if_neg e2]
   by_cases e3:x1=z1
   ·subst e3
    simp only[decide_eq_true_eq]
    omega
   ·rw[if_neg e3]at h
    simp only[decide_eq_true_eq]at h |-
    omega
def qdm(ks:List v4)(k:v4):Int:=((ks.countP λy=>lt3 y k:Nat):Int)
def yN(ks:List v4):List Int:=ks.map (qdm ks)
theorem qjU {ks:List v4} {x y:v4} (hx:x∈ks):decide (qdm ks x<qdm ks y)=lt3 x y:=by
 have mono:∀(p q:v4->Bool)(l:List v4),(∀z,p z=true->q z=true)->l.countP p<=l.countP q:=λp q l h=>List.countP_mono_left λz _=>h z
 cases c:lt3 x y with
 | true=>
  apply decide_eq_true
  have sub:∀z,lt3 z x=true->lt3 z y=true:=λz hz=>by
   rcases qgo z y x hz with h|h
   ·exact h
   ·rw[qhJ x y c]at h;cases h
  have strict:∀l:List v4,x∈l->l.countP (λz=>lt3 z x)<l.countP (λz=>lt3 z y):=λl=>by
   induction l with
   |nil=>intro h;cases h
   | cons a l ih=>
    intro h
    rw[yd1,yd1]
    rcases List.mem_cons.mp h with rfl|h
    ·rw[qjT,c]
     have:=mono (λz=>lt3 z x) (λz=>lt3 z y) l sub
     simp only[ya0,if_false,if_true]
     omega
    ·have:=ih h
     cases d:lt3 a x with
     |true=>rw[sub a d];simp only[if_true];omega
     |false=>simp only[ya0,if_false];split<;>omega
  have:=strict ks hx
  unfold qdm
  omega
 | false=>
  apply decide_eq_false
  have sub:∀z,lt3 z y=true->lt3 z x=true:=λz hz=>by
   rcases qgo z x y hz with h|h
   ·exact h
   ·rw[c]at h;cases h
  have:=mono (λz=>lt3 z y) (λz=>lt3 z x) ks sub
  unfold qdm
  omega
theorem qcD(ks:List v4):(yN ks).length=ks.length:=lM_ _
def K3V(h:Heap)(k:v4)(u:Value):Prop:=∃p q t1 t2 its,u=.ref p/\IsTup h p #[.int k.1 t1,.int k.2.1 t2,.ref q]/\IsTup h q its/\ybN its.toList k.2.2
inductive qea (h:Heap):List v4->List Value->Prop
 |nil:qea h [] []
 |cons {k:v4} {v:Value} {ks:List v4} {vs:List Value}:K3V h k v->qea h ks vs->qea h (k::ks) (v::vs)
theorem qea.length {h:Heap} {ks:List v4} {vs:List Value} (x:qea h ks vs):ks.length=vs.length:=by
 induction x with
 |nil=>rfl
 |cons _ _ ih=>rw[lC_,lC_,ih]
theorem qea.get {h:Heap} {ks:List v4} {vs:List Value} (x:qea h ks vs):∀{i:Nat},i<ks.length->K3V h (ks.getD i (0,0,[])) (vs.getD i yax):=by
 induction x with
 |nil=>intro i hi;exact absurd hi (Nat.not_lt_zero _)
 |cons a _ ih=>
  intro i hi
  cases i with
  |zero=>exact a
  |succ i=>exact ih (by simpa using hi)
section
variable{X:Cx}{pins:List (Addr×Obj)}{σ:St}{H:Hp}{s:yab}
end
theorem qbj {prog:yao} {w:World} {vs:List Value} {ns:List Int} (h:ybN vs ns):ItemsAre (yfi prog w) ns vs:=by
 induction h with
 |nil=>exact .nil
 |cons n t _ ih=>exact .cons (by simp[yfi,yfx]) ih
section
variable{prog:yao}{w:World}{A:yau}{E:Value->yab->Prop}{s:yab}
theorem qlP {kx ky:v4} {u v:Value} {Q:Bool->yab->Prop} (hu:A.units<cLine) (hx:K3V s.heap kx u) (hy:K3V s.heap ky v) (h:Q (lt3 kx ky) s) :
  wpAny (model prog w) A (ye1 (ycg true) u v) Q E s:=by
 obtain⟨p,q,t1,t2,its,rfl,hp,hq,hi⟩:=hx
 obtain⟨p',q',t1',t2',its',rfl,hp',hq',hi'⟩:=hy
 obtain⟨o,ho,hc,n,hd⟩:=id hp
 obtain⟨o',ho',hc',n',hd'⟩:=id hp'
 refine PySem.W.kat_lt ho hd ho' hd' ?_
 show PySem.W.KatLex prog w A true (decide (3<3)) Q [(.int kx.1 t1,.int ky.1 t1'),(.int kx.2.1 t2,.int ky.2.1 t2'),(.ref q,.ref q')] 0 s
 unfold lt3 at h
 refine yd3 (ydQ ?_)
 by_cases c:kx.1=ky.1
 ·rw [if_pos c]at h
  rw[show(kx.1==ky.1)=true by simp[c]]
  refine yeg (yd3 (ydQ ?_))
  by_cases d:kx.2.1=ky.2.1
  ·rw [if_pos d]at h
   rw[show(kx.2.1==ky.2.1)=true by simp[d]]
   refine yeg (yd3 ?_)
   have kq:IsTupleKey (yfi prog w) s.heap kx.2.2 q:=by
    obtain⟨o2,a1,a2,n2,a3⟩:=hq
    exact⟨o2,its,n2,a1,a2,a3,qbj hi⟩
   have kq':IsTupleKey (yfi prog w) s.heap ky.2.2 q':=by
    obtain⟨o2,a1,a2,n2,a3⟩:=hq'
    exact⟨o2,its',n2,a1,a2,a3,qbj hi'⟩
   refine wpAny_eqBool_tuple hu kq kq' ?_
   by_cases e:kx.2.2=ky.2.2
   ·rw[decide_eq_true e]
    rw[e,qdl]at h
    exact yeg (PySem.W.kat_nil h)
   ·rw[decide_eq_false e]
    exact yeE (PySem.W.kat_one _ _ (HT.lt_tupInts hq hq' hi hi' hu h))
  ·rw[if_neg d]at h
   rw[show(kx.2.1==ky.2.1)=false by simp[d]]
   exact yeE (PySem.W.kat_one _ _ (lt_int h))
 ·rw[if_neg c]at h
  rw[show(kx.1==ky.1)=false by simp[c]]
  exact yeE (oneLt_int h)
theorem qhK {ks:List v4} {vs:List Value} (x:qea s.heap ks vs):∃fs:List Value,PySem.W.KatTups s.heap vs fs/\fs.length=ks.length/\∀v∈fs,∃i t,v=yb2 i t:=by
 induction x with
 |nil=>exact⟨[],.nil,rfl,λv hv=>by cases hv⟩
 | @cons k v ks vs a _ ih=>
  obtain⟨fs,h1,h2,h3⟩:=ih
  obtain⟨p,q,t1,t2,its,rfl,⟨o,ho,hc,n,hd⟩,_,_⟩:=a
  refine⟨.int k.1 t1::fs,.cons ho hc hd rfl h1,by rw[lC_,lC_,h2],λv hv=>?_⟩
  rcases List.mem_cons.mp hv with rfl|hv
  ·exact⟨_,_,rfl⟩
  ·exact h3 v hv
theorem qgp {α:Type} {vs:List Value} {ks:List v4} {R:α->Prop} {G:α->yab->Prop} (hu:A.units<cLine) (hk:qea s.heap ks vs):∀{t:PySem.W.KasT α},Srt.Fits ks.length R t ->
  G (Srt.runK (λi j=>decide ((yN ks).getD i 0<(yN ks).getD j 0)) t) s->t.kasWp (PySem.W.kas_ask prog w A (ycg true) vs) G s
 |.ret _,_,h=>h
 |.ask i j k,⟨h1,h2,h3⟩,h=>by
  have e1:(yN ks).getD i 0=qdm ks (ks.getD i (0,0,[])):=by unfold yN;simp[h1]
  have e2:(yN ks).getD j 0=qdm ks (ks.getD j (0,0,[])):=by unfold yN;simp[h2]
  have hm:ks.getD i (0,0,[])∈ks:=by simp[h1]
  have h':G (Srt.runK (λi j=>decide ((yN ks).getD i 0<(yN ks).getD j 0)) (k (decide ((yN ks).getD i 0<(yN ks).getD j 0)))) s:=h
  rw[e1,e2,qjU hm]at h'
  show wpAny (model prog w) A (ye1 (ycg true) (vs.getD i yax) (vs.getD j yax)) _ _ s
  exact qlP hu (hk.get h1) (hk.get h2) (qgp hu hk (h3 _) h')
end
section
variable{X:Cx}{pins:List (Addr×Obj)}{σ:St}{H0 H:Hp}{s0 s:yab}{a kS:Addr}{A:yau}{E:Value->yab->Prop}{f:Value}{vs:List Value}{ks:List v4}{e1:Nat}{P:yff->yab->Prop}
end
section
variable{X:Cx}{pins:List (Addr×Obj)}{σ:St}{H:Hp}{s:yab}{l f:Addr}{vs:List Value}{ks:List v4}{Q:Value->yab->Prop}{E:Value->yab->Prop}
end
end L2
namespace L2
open PySem PySem.Spec PyProof.Rows
section
variable{X:Cx}{k:Nat}{f:Addr}{fd:yaM}{x:Str}{F:List Sk.D->Sk.R Sk.D}
end
end L2
namespace L2.Sk
open PySem PySem.Spec PyProof.Rows
def qnH:D->Option v4
 |.tup [.int a,.int b,.tup ts]=>match vA ts with
  |some ns=>some (a,b,ns)
  |none=>none
 |_=>none
def qlQ (F:List D->R D):List D->Option (List v4)
 | []=>some []
 | d::ds=>match F [d],qlQ F ds with
  |.ok k,some ks=>match qnH k with
   |some k=>some (k::ks)
   |none=>none
  |_,_=>none
def qnI (F:List D->R D) (f:M D):M D:=bnd f λd ρ=>match d with
 | .lst ds=>if ds.length<64 then match qlQ F ds with
   |some ks => .ok (.lst (qjS (Srt.ord (yN ks)) ds),ρ)
   |none => .bad
  else .bad
 |_ => .bad
section
variable{X:Cx}{c:Fc}{e:Expr}{p pos kpos p2:Pos}{x:Str}{k:Nat}
end
end L2.Sk
set_option maxHeartbeats 1000000
namespace L2.Sk
open PySem PySem.Spec PyProof.Rows
section
variable{X:Cx}{c:Fc}{a b e:Expr}{pos:Pos}
end
end L2.Sk
set_option maxHeartbeats 1000000
namespace L2
open PySem PySem.Spec PyProof.Rows
theorem qbk {h h':Heap} {a:Addr} {its:Array Value} (k:∀b u,h.get? b=some u->h'.get? b=some u) (t:IsTup h a its):IsTup h' a its:=by
 obtain⟨o,h1,h2,n,h3⟩:=t
 exact⟨o,k _ _ h1,h2,n,h3⟩
theorem qea.kept {h h':Heap} {ks:List v4} {vs:List Value} (k:∀b u,h.get? b=some u->h'.get? b=some u) (x:qea h ks vs):qea h' ks vs:=by
 induction x with
 |nil=>exact .nil
 |cons a _ ih=>
  obtain⟨p,q,t1,t2,its,e,h1,h2,h3⟩:=a
  exact .cons ⟨p,q,t1,t2,its,e,qbk k h1,qbk k h2,h3⟩ ih
section
variable{X:Cx}{pins:List (Addr×Obj)}{σ:St}{H0 H:Hp}{s0 s:yab}{a:Addr}{A:yau}{E:Value->yab->Prop}{vs:List Value}{ks:List v4}{P:yff->yab->Prop}
theorem qlR {n:Nat} (I0:Inv X pins σ H0 s0) (hu:A.units<cLine) (kv:qea s0.heap ks vs) (z:SS X H0 s0 H s) (k0:∀b u,s0.heap.get? b=some u->s.heap.get? b=some u) (ho:s.heap.get? a=some (ycA "list" vs.toArray n)) (na:H a=none) (la:s0.heap.objs.size<=a) (h64:vs.length<64)
  (fin:qlN X H0 s0 a (qiw (yN ks) vs) P):wpAny (model X.prog X.w) A (ybV.«list.sort» ⟨[.ref a],[]⟩) P E s:=by
 have hlen:ks.length=vs.length:=kv.length
 have hrl:(yN ks).length=vs.length:=(qcD ks).trans hlen
 have hlt:a<s.heap.objs.size:=yad ho
 have sb:=ycn s.heap a (yaH λ_=>(#[]:Array Value))
 obtain⟨e1,ho1⟩:∃e1,(s.heap.update a (yaH λ_=>(#[]:Array Value))).get? a=some (ycA "list" #[] e1):=⟨_,get?_update_seq ho λ_ => #[]⟩
 have z1:=z.poke na la sb s.toks
 have kp:∀b u,(s.heap.update a (yaH λ_=>(#[]:Array Value))).get? b=some u->(((s.heap.update a (yaH λ_=>(#[]:Array Value))).push (ycA "tuple" vs.toArray 0)).push (ycA "list" #[] 0)).get? b=some u :=
  λb u q=>Heap.get?_push_of_some _ (Heap.get?_push_of_some _ q)
 have z3:=z1.kept kp s.toks
 have ka:∀b u,s0.heap.get? b=some u->(((s.heap.update a (yaH λ_=>(#[]:Array Value))).push (ycA "tuple" vs.toArray 0)).push (ycA "list" #[] 0)).get? b=some u:=λb u q=>by
  refine kp b u ((sb.2 b ?_).trans (k0 b u q))
  exact yat (yaw (yad q) la)
 have kv3:=kv.kept ka
 rw[list_sort_plain]
 refine yaa (listItems_at ho rfl (yaa (yeW ho rfl ?_ (by rw[sT_,ybT];omega) (ya5 _))))
 refine yaa (seqEpoch_at ho1 rfl (yaa (yeA ?_ (by show vs.length<=_;rw[ybT];omega))))
 refine yaa (wpAny_newList (yba ?_) (ya5 _))
 show wpAny (model X.prog X.w) A _ P E {s with heap:=((s.heap.update a (yaH λ_=>(#[]:Array Value))).push (ycA "tuple" vs.toArray 0)).push (ycA "list" #[] 0)}
 generalize hs3:({s with heap:=((s.heap.update a (yaH λ_=>(#[]:Array Value))).push (ycA "tuple" vs.toArray 0)).push (ycA "list" #[] 0)}:yab)=s3
 have z3':SS X H0 s0 H s3:=by rw[<-hs3];exact z3
 have ga:s3.heap.get? a=some (ycA "list" #[] e1):=by rw[<-hs3];exact kp _ _ ho1
 have kv3':qea s3.heap ks vs:=by rw[<-hs3];exact kv3
 dsimp only
 have tail:∀(st:SortSt),(arrOf st).map (·.2)=(qiw (yN ks) vs).toArray->failedOf st=none ->
   wpAny (model X.prog X.w) A (do
    let touched:=(<-seqEpoch a) != e1
    yd7 (.ref a) λ_=>(arrOf st).map (·.2)
    if let some e:=failedOf st then rule "list.sort.comparison-raised";throw e
    if touched then rule "list.sort.modified";raiseError "ValueError" "list modified during sort"
    ret .none) P E s3:=λst ho hf=>by
  have ol:=qhI hrl
  have sb2:=ycn s3.heap a (yaH λ_=>(qiw (yN ks) vs).toArray)
  have z4:=z3'.poke na la sb2 s3.toks
  refine yaa (seqEpoch_at ga rfl ?_)
  rw[ho,hf]
  refine yaa (yeW ga rfl ?_ (ya5 _) (by show(qiw (yN ks) vs).toArray.size<=_;rw[sT_,ybT];omega))
  simp only[bne_self_eq_false,ya0,if_false]
  exact yac (fin H _ _ z4 na (get?_update_seq ga λ_=>(qiw (yN ks) vs).toArray))
 by_cases h2:vs.length<2
 ·have h2':vs.toArray.size<2:=by rw[sT_];exact h2
  rw[if_pos h2',if_pos h2']
  refine yaa (yac ?_)
  rw[StateT.run_pure]
  refine yaa (yac ?_)
  refine tail _ ?_ rfl
  have e0:qiw (yN ks) vs=vs:=by
   show(Srt.ord (yN ks)).map _=vs
   unfold Srt.ord
   rw[if_pos (by omega),hrl]
   exact Srt.map_getD_range _ vs
  rw[e0]
  apply Array.toList_inj.mp
  show((vs.toArray.zip vs.toArray).map (·.2)).toList=vs.toArray.toList
  rw[Array.toList_map,ksk_zip,List.map_snd_zip (yah _)]
 ·have h2':¬vs.toArray.size<2:=by rw[sT_];exact h2
  rw[if_neg h2',if_neg h2']
  obtain⟨fs,t1,t2,t3⟩:=qhK kv3'
  refine yaa ?_
  refine PySem.W.kat_kind (T:=.type "int") t1 (by omega) (λv hv=>?_) rfl ?_
  ·obtain⟨i,t,rfl⟩:=t3 v hv
   exact .now
  show wpAny _ _ _ _ _ _
  refine yaa (ya8 (PySem.W.kat_run (κ:=ycg true) (Q:=λst' s'=>s'=s3/\(arrOf st').map (·.2)=(qiw (yN ks) vs).toArray/\failedOf st'=none) (G:=λp s'=>s'=s3/\p.toList=Srt.ord (yN ks)) rfl (by omega) h64 (λp st' s' a1 a2 a3 a4=>?_) ?_) ?_ λ_ _ x=>x)
  ·refine⟨a4.1,?_,a3⟩
   rw[PySem.W.kat_snds rfl a2,a4.2]
  ·have ft:=Srt.fits_sort (n:=ks.length) (by omega)
   rw[<-hlen]
   refine qgp hu kv3' ft ⟨rfl,?_⟩
   unfold Srt.ord
   rw[if_neg (by omega),qcD]
  ·rintro⟨⟨⟩,st'⟩ s' ⟨rfl,h3,h4⟩
   exact tail st' h3 h4
end
end L2
namespace L2.Sk
open PySem PySem.Spec PyProof.Rows
def qlS:List D->Option (List v4)
 | []=>some []
 |d::ds=>match qnH d,qlS ds with
  |some k,some ks=>some (k::ks)
  |_,_=>none
def qnJ (i:Nat):M (List D):=λρ=>match zJ i ρ with
 | some ds=>if ds.length<64 then match qlS ds with
   |some ks => .ok (qjS (Srt.ord (yN ks)) ds,ρ)
   |none => .bad
  else .bad
 |none => .bad
section
variable{X:Cx}{c:Fc}{pos:Pos}
end
def ltB:D->D->Option D
 |.int i,.int j=>some (.bl (decide (i<j)))
 |.tup xs,.tup ys=>match vA xs,vA ys with
  |some ns,some ms=>some (.bl (HT.lexLt ns ms))
  |_,_=>none
 |_,_=>none
end L2.Sk
set_option maxHeartbeats 1000000
namespace L2.Sk
open PySem PySem.Spec PyProof.Rows
def qlT (O:List Nat) (ρ:Env):Bool:=O.all λj=>match ρ[j]? with
 |some (some (.lst ds))=>immL ds
 |_=>true
open Classical in
noncomputable def qnK (i:Nat) (O:List Nat) (F:List D->R D) (g:M (List D)) (t:M Bool):MS:=λρ=>match g ρ with
 | .ok (ds,ρ1)=>if immFs ds=true/\qlT O ρ1=true/\i<ρ1.length then match F ds with
   | .ok (.tup [.lst xs,.lst ys])=>match t (ρ1.set i (some (.tup [.lst xs,.lst ys]))) with
     |.ok (b,ρ2)=>if b=true then .ok (.rt (.bl false) ρ2)else if ρ2=ρ1.set i (some (.tup [.lst xs,.lst ys]))/\xs.length+ys.length<1000 then .ok (.nx (ρ1.set i none))else .bad
     |_ => .bad
   |_ => .bad
  else .bad
 |_ => .bad
section
variable{X:Cx}{c:Fc}
end
end L2.Sk
set_option maxHeartbeats 1000000
namespace L2.Sk
open PySem PySem.Spec PyProof.Rows
structure qkq (z:Str) (X:Cx) (scope:Scope) (N':List Str) (nt:Nat) (fr:List Nat):Prop where
 kind:scope.kind=.function
 cell:∀y∈scope.names,y.2=.cell->y.1=z
 cz:scope.names.lookup z=some .cell
 cf:∀n acc,ydo n scope.names acc=(z,n)::acc
 pc:∀h:Heap,pushCells h scope.names=h.push {cls:=.type "cell",data:=.cell none}
 names:∀y∈scope.names,y.2=.local->scope.names.lookup y.1=some .local
 frees:∀y∈scope.names,y.2=.free->X.env.kindOf y.1=some .cell/\y.1≠z
 len:N'.length=nt+fr.length
 slot:∀i j,fr[i]? = some j->∃x,N'[nt+i]? = some x/\X.N[j]? = some x/\scope.names.lookup x=some .free
section
variable{z:Str}{X:Cx}{tg iter elt:Expr}{ifs:List Expr}{scope:Scope}{pos:Pos}{wi:TI}{N':List Str}{nt:Nat}{fr:List Nat}
end
section
variable{X:Cx}{c:Fc}{tg:Expr}{pos:Pos}
end
end L2.Sk
set_option maxHeartbeats 1000000
namespace L2.Sk
open PySem PySem.Spec PyProof.Rows
abbrev qaB (h:Heap) (z TI TO:Addr) (a:Nat) (b:Bool):Prop :=
 h.get? z=some {cls:=.type "zip",dict:=none,data:=.fields #[ybG a,.bool b,.bool false,.ref TI,.ref TO],slots := #[]}
section
variable{prog:yao}{w:World}{A:yau}{E:Value->yab->Prop}{s:yab}{z TI TO i1 i2:Addr}{fp1 fp2:List Addr}{n1 n2 k:Nat}{P1 P2:Nat->Value->Prop}{S1 S2:Nat->Heap->Prop}
theorem qm3 {M:Model} {a:Addr} {Q:Option Obj->yab->Prop} (h:Q (s.heap.get? a) s):wpAny M A (loadIfAlive a) Q E s:=λΓ p _=>by
 show Sem.wp M Γ (.loadIfAlive a .pure) _ _ p s
 rw[Sem.wp_loadIfAlive]
 exact h
theorem qeb {a:Nat} {b:Bool} {o:Obj} (zz:qaB s.heap z TI TO a b) (ho:s.heap.get? a=some o) {Q:Bool->yab->Prop}
  (fin:∀h',qaB h' z TI TO a true->ybW z s.heap h'->Q false {s with heap:=h' }):wpAny (model prog w) A (yaE (.ref z)) Q E s:=by
 unfold yaE
 refine yaa (yaA zz rfl (x:=ybG a) rfl ?_)
 show wpAny (model prog w) A (loadIfAlive (Int.toNat (a:Int)) >>= _) _ _ _
 refine yaa (qm3 ?_)
 have e:s.heap.get? (Int.toNat (a:Int))=some o:=ho
 rw[e]
 simp only[Option.isNone_some,ya0,if_false]
 refine yaa (yaA zz rfl (x:=yaL b) rfl ?_)
 cases b with
 |true=>
  have e1:(yaL true != yaL true)=false:=by decide
  simp only[e1,ya0,if_false]
  exact yac (fin s.heap zz (yfu ..))
 |false=>
  have e1:(yaL false != yaL true)=true:=by decide
  simp only[e1,if_true]
  refine yaa (ybq zz (by simp) λh1 zz1 b1=>yac (fin h1 zz1 b1))
theorem qjV (D1:Draws prog w A i1 fp1 n1 P1 S1) (D2:Draws prog w A i2 fp2 n2 P2 S2) (ap:ZAp z TI TO i1 i2 fp1 fp2) {a:Nat} {b:Bool} {o:Obj} (zz:qaB s.heap z TI TO a b) (ho:s.heap.get? a=some o) (zI:ya9 s.heap TI (.ref i1) (.ref i2))
  (t1:S1 k s.heap) (t2:S2 k s.heap) (l1:k<n1) (l2:k<n2) {Q:Value->yab->Prop}
  (fin:∀x y h' tk,P1 k x->P2 k y->qaB h' z TI TO a true->S1 (k+1) h'->S2 (k+1) h'->ya9 h' s.heap.objs.size x y ->
   (∀c o,c≠z->c≠i1->c≠i2->s.heap.get? c=some o->h'.get? c=some o)->Q (.ref s.heap.objs.size) {s with heap:=h',toks:=tk}) :
  wpAny (model prog w) A (ybV.«zip.__next__» ⟨[.ref z],[]⟩) (λr s'=>∃v,r=.done (.ret v)/\Q v s') E s:=by
 show wpAny (model prog w) A (field (yaf z) 2 >>= _) _ _ _
 refine yaa (yaA zz rfl (x:=yaL false) rfl ?_)
 show wpAny (model prog w) A (field (yaf z) 3 >>= _) _ _ _
 refine yaa (yaA zz rfl (x:=yaf TI) rfl (yaa (ybk zI rfl ?_)))
 show wpAny (model prog w) A (yaE (yaf z) >>= _) _ _ _
 refine yaa (qeb zz ho λh1 zz1 b1=>?_)
 simp only[ya0,if_false]
 refine yaa ?_
 simp only[<-yfg,yct,ydl]
 refine yaa (yaa (yba ?_))
 show wpAny (model prog w) A (yaB (yaf i1) >>= _) _ _ _
 refine yaa (D1.item k _ _ _ l1 (D1.frame _ _ _ t1 (zL b1 ap.z1)) λx h2 tk2 px u1 b2=>yac (yac ?_))
 refine yaa (yaa (yba ?_))
 show wpAny (model prog w) A (yaB (yaf i2) >>= _) _ _ _
 have t2':S2 k h2:=D2.frame _ _ _ (D2.frame _ _ _ t2 (zL b1 ap.z2)) (zL b2 ap.i12)
 refine yaa (D2.item k _ _ _ l2 t2' λy h3 tk3 py u2 b3=>yac (yac (yac ?_)))
 refine yaa (m:=newTuple [x,y]) (yeA ?_)
 have sz:h3.objs.size=s.heap.objs.size:=by rw[b3.1,b2.1,b1.1]
 have zz3:qaB h3 z TI TO a true:=b3.extBut _ _ ap.zi2 (b2.extBut _ _ ap.zi1 zz1)
 have v1:S1 (k+1) h3:=D1.frame _ _ _ u1 (zL b3 ap.i21)
 have up:∀c o,h3.get? c=some o->(h3.push {cls:=.type "tuple",data:=.seq #[x,y]}).get? c=some o:=λc o e=>Heap.get?_push_of_some _ e
 have new:ya9 (h3.push {cls:=.type "tuple",data:=.seq #[x,y]}) s.heap.objs.size x y:=by
  have:ya9 (h3.push {cls:=.type "tuple",data:=.seq #[x,y]}) h3.objs.size x y:=Heap.get?_push_size _ rfl
  rw[sz]at this
  exact this
 refine yac ⟨_,rfl,?_⟩
 show Q (yaf h3.objs.size) _
 rw[sz]
 exact fin x y _ tk3 px py (up _ _ zz3) (D1.frame _ _ _ v1 λb hb o e=>up b o e) (D2.frame _ _ _ u2 λb hb o e=>up b o e) new λc o c1 c2 c3 e=>up c o (b3.extBut _ _ c3 (b2.extBut _ _ c2 (b1.extBut _ _ c1 e)))
theorem qgq (hh:A.handled=none) (D1:Draws prog w A i1 fp1 n1 P1 S1) (D2:Draws prog w A i2 fp2 n2 P2 S2) (ap:ZAp z TI TO i1 i2 fp1 fp2) {a:Nat} {b:Bool} {o:Obj} (zz:qaB s.heap z TI TO a b) (ho:s.heap.get? a=some o) (zI:ya9 s.heap TI (.ref i1) (.ref i2))
  (t1:S1 k s.heap) (t2:S2 k s.heap) (hk:k=min n1 n2) {Q:Fin->yab->Prop}
  (fin:∀h' tk e,(∀c o,c≠z->c≠i1->c≠i2->s.heap.get? c=some o->h'.get? c=some o)->(∃o,h'.get? e=some o/\o.cls=.type "StopIteration")->E (.ref e) {s with heap:=h',toks:=tk}) :
  wpAny (model prog w) A (ybV.«zip.__next__» ⟨[.ref z],[]⟩) Q E s:=by
 show wpAny (model prog w) A (field (yaf z) 2 >>= _) _ _ _
 refine yaa (yaA zz rfl (x:=yaL false) rfl ?_)
 show wpAny (model prog w) A (field (yaf z) 3 >>= _) _ _ _
 refine yaa (yaA zz rfl (x:=yaf TI) rfl (yaa (ybk zI rfl ?_)))
 show wpAny (model prog w) A (yaE (yaf z) >>= _) _ _ _
 refine yaa (qeb zz ho λh1 zz1 b1=>?_)
 simp only[ya0,if_false]
 refine yaa ?_
 simp only[<-yfg,yct,ydl]
 refine yaa (yaa (yba ?_))
 show wpAny (model prog w) A (yaB (yaf i1) >>= _) _ _ _
 have t1':S1 k h1:=D1.frame _ _ _ t1 (zL b1 ap.z1)
 by_cases h12:n1<=n2
 ·have e1:k=n1:=by rw[hk];exact yda h12
  rw[e1]at t1'
  refine yaa (D1.done _ _ _ t1' λh2 e b2 he=>?_)
  exact fin h2 s.toks e (λc o c1 c3 _ x=>b2 _ _ c3 (b1.extBut _ _ c1 x)) he
 ·have e1:k=n2:=by rw[hk];exact ydW (by omega)
  refine yaa (D1.item k _ _ _ (by omega) t1' λx h2 tk2 px u1 b2=>yac (yac ?_))
  refine yaa (yaa (yba ?_))
  show wpAny (model prog w) A (yaB (yaf i2) >>= _) _ _ _
  have t2':S2 k h2:=D2.frame _ _ _ (D2.frame _ _ _ t2 (zL b1 ap.z2)) (zL b2 ap.i12)
  rw[e1]at t2'
  refine yaa (D2.done _ _ _ t2' λh4 e b4 he=>?_)
  exact fin h4 tk2 e (λc o c1 c3 c4 x=>b4 _ _ c4 (b2.extBut _ _ c3 (b1.extBut _ _ c1 x))) he
end
def yO (h:Heap) (lo:Nat) (ch:List Addr) (u v acc:Array Value) (n:Nat):Prop :=
 acc.size=n/\(∀(i:Nat)(x y:Value),i<n->u[i]? = some x->v[i]? = some y->∃p:Addr,acc[i]? = some (yaf p)/\ya9 h p x y/\lo<=p/\p ∉ ch)/\∀(i j:Nat)(p:Addr),acc[i]? = some (yaf p)->acc[j]? = some (yaf p)->i=j
theorem yO.keep {h h':Heap} {lo:Nat} {ch:List Addr} {u v acc:Array Value} {n:Nat} (P:yO h lo ch u v acc n) (k:∀c o,c ∉ ch->h.get? c=some o->h'.get? c=some o):yO h' lo ch u v acc n :=
 ⟨P.1,λi x y hi h1 h2=>by
  obtain⟨p,e1,e2,e3,e4⟩:=P.2.1 i x y hi h1 h2
  exact⟨p,e1,k p _ e4 e2,e3,e4⟩,P.2.2⟩
theorem yO.push {h:Heap} {lo:Nat} {ch:List Addr} {u v acc:Array Value} {n:Nat} {x y:Value} {p:Addr} (P:yO h lo ch u v acc n) (hx:u[n]? = some x) (hy:v[n]? = some y) (hp:ya9 h p x y) (hlo:lo<=p) (hc:p ∉ ch) (hnew:∀i:Nat,acc[i]? ≠ some (yaf p)):yO h lo ch u v (acc.push (.ref p)) (n+1):=by
 refine⟨by rw[Array.size_push,P.1],λi x' y' hi h1 h2=>?_,λi j q h1 h2=>?_⟩
 rotate_left
 ·rw [Array.getElem?_push]at h1 h2
  split at h1<;>split at h2
  ·omega
  ·cases h1
   exact absurd h2 (hnew j)
  ·cases h2
   exact absurd h1 (hnew i)
  ·exact P.2.2 i j q h1 h2
 by_cases e:i=n
 ·subst e
  rw[hx]at h1
  rw[hy]at h2
  cases h1
  cases h2
  refine⟨p,?_,hp,hlo,hc⟩
  rw[<-P.1]
  simp
 ·obtain⟨q,e1,e2,e3,e4⟩:=P.2.1 i x' y' (by omega) h1 h2
  refine⟨q,?_,e2,e3,e4⟩
  rw[Array.getElem?_push,if_neg (by rw[P.1];exact e)]
  exact e1
def LZ (z TI TO i1 i2 a1 a2 S:Addr) (u v:Array Value) (k:Nat) (h:Heap):Prop :=
 ((IsZip h z TI TO .none/\∃p q,ya9 h TO p q)\/∃(a:Nat)(b:Bool)(o o':Obj),qaB h z TI TO a b/\h.get? a=some o/\h.get? TO=some o'/\(a:Addr) ∉ [z,TO,i1,i2,S])/\ya9 h TI (.ref i1) (.ref i2)/\(h.IsTupleIter i1 a1 k/\h.IsTuple a1 u)/\(h.IsTupleIter i2 a2 k/\h.IsTuple a2 v)
section
variable{prog:yao}{w:World}{A:yau}{s:yab}{R:ydR->yab->Prop}{z TI TO i1 i2 a1 a2 S:Addr}{u v:Array Value}
theorem LZ.keep {k:Nat} {h h':Heap} (L:LZ z TI TO i1 i2 a1 a2 S u v k h) (n1:S≠z) (n2:S≠TO) (n3:S≠TI) (n4:S≠i1) (n5:S≠i2) (n6:S≠a1) (n7:S≠a2) (kp:∀c o,c≠S->h.get? c=some o->h'.get? c=some o):LZ z TI TO i1 i2 a1 a2 S u v k h':=by
 obtain⟨f,q1,⟨q2,o2,g2,r2⟩,⟨q3,o3,g3,r3⟩⟩:=L
 refine⟨?_,kp _ _ n3.symm q1,⟨q2.at λo e=>kp _ o n4.symm e,o2,kp _ _ n6.symm g2,r2⟩,⟨q3.at λo e=>kp _ o n5.symm e,o3,kp _ _ n7.symm g3,r3⟩⟩
 rcases f with⟨f1,p,q,f2⟩|⟨a,b,o,o',f1,f2,f4,f3⟩
 ·exact .inl ⟨kp _ _ n1.symm f1,p,q,kp _ _ n2.symm f2⟩
 ·refine .inr ⟨a,b,o,o',kp _ _ n1.symm f1,kp _ _ (λe=>f3 ?_) f2,kp _ _ n2.symm f4,f3⟩
  rw[e]
  simp
theorem qjW {E:Value->yab->Prop} (hh:A.in1.handled=none) (ap:ZAp z TI TO i1 i2 [i1,a1] [i2,a2]) (m1:a1≠i1) (m2:a2≠i2) {k:Nat} (L:LZ z TI TO i1 i2 a1 a2 S u v k s.heap) (l1:k<u.size) (l2:k<v.size) (hS:∃o,s.heap.get? S=some o) (sa1:a1 ∉ [z,TO,i1,i2]) (sa2:a2 ∉ [z,TO,i1,i2]) {Q:Option Value->yab->Prop}
  (fin:∀x y h' tk,u[k]? = some x->v[k]? = some y->LZ z TI TO i1 i2 a1 a2 S u v (k+1) h'->ya9 h' s.heap.objs.size x y->(∀c o,c ∉ [z,TO,i1,i2]->s.heap.get? c=some o->h'.get? c=some o)->(s.heap.objs.size:Addr) ∉ [z,TO,i1,i2,S]->Q (some (.ref s.heap.objs.size)) {s with heap:=h',toks:=tk}) :
  wpAny (model prog w) A (yci (.ref z)) Q E s:=by
 obtain⟨f,q1,q2,q3⟩:=L
 have D1:=ya (prog:=prog) (w:=w) hh i1 a1 m1 u
 have D2:=ya (prog:=prog) (w:=w) hh i2 a2 m2 v
 have hT:s.TypeIs (.ref z) "zip":=by
  rcases f with⟨f1,_⟩|⟨a,b,o,o',f1,_⟩
  ·exact⟨_,f1,rfl⟩
  ·exact⟨_,f1,rfl⟩
 have lt:∀c∈[z,TO,i1,i2,S],c≠s.heap.objs.size:=λc hc=>by
  have hz:∃o,s.heap.get? c=some o:=by
   simp only[yan,nN_,or_false]at hc
   obtain⟨⟨o4,g4,_⟩,_⟩:=q2
   obtain⟨⟨o5,g5,_⟩,_⟩:=q3
   rcases hc with rfl|rfl|rfl|rfl|rfl
   ·obtain⟨o,e,_⟩:=hT
    exact⟨o,e⟩
   ·rcases f with⟨_,p,q,f2⟩|⟨_,_,_,o',_,_,f4,_⟩
    ·exact⟨_,f2⟩
    ·exact⟨_,f4⟩
   ·exact⟨_,g4⟩
   ·exact⟨_,g5⟩
   ·exact hS
  obtain⟨o,e⟩:=hz
  exact yat (yad e)
 unfold yci
 refine yaa (ydD (wpAny_callSpecial?_slot (name:=ybo "__next__") hT ybx (ybi ybx hT ycV ?_ (ycH _))))
 rcases f with⟨f1,p,q,f2⟩|⟨a,b,o,o',f1,f2,f4,f3⟩
 ·refine qia D1 D2 ap f1 q1 f2 q2 q3 l1 l2 λx y h' tk px py zz zO u1 u2 new kp=>yac ?_
  have hsz:s.heap.objs.size<h'.objs.size:=yad new
  refine fin x y h' tk px py ⟨.inr ⟨s.heap.objs.size,false,_,_,zz,new,zO,λhm=>lt _ hm rfl⟩,kp _ _ ap.zTI.symm ap.IO ap.Ii1 ap.Ii2 q1,u1,u2⟩ new (λc o hc e=>?_) (λhm=>lt _ hm rfl)
  simp only[yan,nN_,or_false,not_or]at hc
  exact kp c o hc.1 hc.2.1 hc.2.2.1 hc.2.2.2 e
 ·refine qjV D1 D2 ap f1 f2 q1 q2 q3 l1 l2 λx y h' tk px py zz u1 u2 new kp=>yac ?_
  have hsz:s.heap.objs.size<h'.objs.size:=yad new
  have f3':=f3
  simp only[yan,nN_,or_false,not_or]at f3'
  refine fin x y h' tk px py ⟨.inr ⟨a,true,o,o',zz,kp _ _ f3'.1 f3'.2.2.1 f3'.2.2.2.1 f2,kp _ _ ap.zTO.symm ap.Oi1 ap.Oi2 f4,f3⟩,kp _ _ ap.zTI.symm ap.Ii1 ap.Ii2 q1,u1,u2⟩ new (λc o hc e=>?_) (λhm=>lt _ hm rfl)
  simp only[yan,nN_,or_false,not_or]at hc
  exact kp c o hc.1 hc.2.2.1 hc.2.2.2 e
theorem qjX {E:Value->yab->Prop} (hh:A.in1.handled=none) (ap:ZAp z TI TO i1 i2 [i1,a1] [i2,a2]) (m1:a1≠i1) (m2:a2≠i2) {k:Nat} (L:LZ z TI TO i1 i2 a1 a2 S u v k s.heap) (hk:k=min u.size v.size) {Q:Option Value->yab->Prop}
  (fin:∀h' tk,(∀c o,c ∉ [z,TO,i1,i2]->s.heap.get? c=some o->h'.get? c=some o)->Q none {s with heap:=h',toks:=tk}) :
  wpAny (model prog w) A (yci (.ref z)) Q E s:=by
 obtain⟨f,q1,q2,q3⟩:=L
 have D1:=ya (prog:=prog) (w:=w) hh i1 a1 m1 u
 have D2:=ya (prog:=prog) (w:=w) hh i2 a2 m2 v
 have hT:s.TypeIs (.ref z) "zip":=by
  rcases f with⟨f1,_⟩|⟨a,b,o,o',f1,_⟩
  ·exact⟨_,f1,rfl⟩
  ·exact⟨_,f1,rfl⟩
 unfold yci
 refine yaa (ydD (wpAny_callSpecial?_slot (name:=ybo "__next__") hT ybx (ybi ybx hT ycV ?_ (ycH _))))
 rcases f with⟨f1,p,q,f2⟩|⟨a,b,o,o',f1,f2,f4,f3⟩
 ·refine qdT hh D1 D2 ap f1 q1 f2 q2 q3 hk λh' tk e kp he=>?_
  obtain⟨o,ho,hcl⟩:=he
  refine yaa (ydX (T:="StopIteration") (b:=true) ⟨o,ho,hcl⟩ yeB (yac (fin h' tk λc o hc e=>?_)))
  simp only[yan,nN_,or_false,not_or]at hc
  exact kp c o hc.1 hc.2.1 hc.2.2.1 hc.2.2.2 e
 ·refine qgq hh D1 D2 ap f1 f2 q1 q2 q3 hk λh' tk e kp he=>?_
  obtain⟨o,ho,hcl⟩:=he
  refine yaa (ydX (T:="StopIteration") (b:=true) ⟨o,ho,hcl⟩ yeB (yac (fin h' tk λc o hc e=>?_)))
  simp only[yan,nN_,or_false,not_or]at hc
  exact kp c o hc.1 hc.2.2.1 hc.2.2.2 e
theorem qjY (hh:A.handled=none) (ap:ZAp z TI TO i1 i2 [i1,a1] [i2,a2]) (m1:a1≠i1) (m2:a2≠i2) (sa1:a1 ∉ [z,TO,i1,i2]) (sa2:a2 ∉ [z,TO,i1,i2]) (hS:S ∉ [z,TI,TO,i1,i2,a1,a2]) (lo:Nat) (hmin:min u.size v.size<=1000) (res:Value) :
  ∀(m k:Nat)(s:yab)(acc:Array Value)(c:Nat),m=min u.size v.size-k->k<=min u.size v.size->lo<=s.heap.objs.size->LZ z TI TO i1 i2 a1 a2 S u v k s.heap->yO s.heap lo [z,TO,i1,i2,S] u v acc k->s.heap.get? S=some {cls:=.type "list",dict:=none,data:=.seq acc c,slots := #[]} ->
  (∀h' tk acc' c',(∀b o,b ∉ [z,TO,i1,i2,S]->s.heap.get? b=some o->h'.get? b=some o)->h'.get? S=some {cls:=.type "list",dict:=none,data:=.seq acc' c',slots := #[]}->yO h' lo [z,TO,i1,i2,S] u v acc' (min u.size v.size)->R (.ok (.ret res)) {s with heap:=h',toks:=tk}) ->
  ybU (model prog w) A (.builtin "list.extend.loop" ⟨[.ref S,.ref z,res],[]⟩) R s:=by
 have hS':=hS
 simp only[yan,nN_,or_false,not_or]at hS'
 have cut:∀c,c ∉ [z,TO,i1,i2,S]->c ∉ [z,TO,i1,i2]:=λc hc h=>hc (by
  simp only[yan,nN_,or_false]at h
  rcases h with h|h|h|h<;>rw[h]<;>simp)
 have sS:S ∉ [z,TO,i1,i2]:=by
  simp only[yan,nN_,or_false,not_or]
  exact⟨hS'.1,hS'.2.2.1,hS'.2.2.2.1,hS'.2.2.2.2.1⟩
 intro m
 induction m with
 |zero=>
  intro k s acc c hm hk hlo L P hs fin
  refine yec ye2 ?_
  rw[yeO yco _]
  show wpAny (model prog w) A.in1 (yci (yaf z) >>= _) _ _ s
  refine yaa (qjX (A:=A.in1) hh ap m1 m2 L (by omega) λh' tk kp=>yac ?_)
  have ek:k=min u.size v.size:=by omega
  rw[ek]at P
  exact fin h' tk acc c (λb o hb e=>kp b o (cut b hb) e) (kp S _ sS hs) (P.keep λb o hb e=>kp b o (cut b hb) e)
 | succ m ih=>
  intro k s acc c hm hk hlo L P hs fin
  refine yec ye2 ?_
  rw[yeO yco _]
  show wpAny (model prog w) A.in1 (yci (yaf z) >>= _) _ _ s
  refine yaa (qjW (A:=A.in1) hh ap m1 m2 L (by omega) (by omega) ⟨_,hs⟩ sa1 sa2 λx y h' tk px py L' new kp nin=>?_)
  have hs':=kp S _ sS hs
  show wpAny (model prog w) A.in1 (updateSeq S (·.push (yaf s.heap.objs.size)) >>= _) _ _ _
  refine yaa ?_
  have P':yO h' lo [z,TO,i1,i2,S] u v (acc.push (.ref s.heap.objs.size)) (k+1):=yO.push (P.keep λb o hb e=>kp b o (cut b hb) e) px py new hlo nin λi hi=>by
   have hik:i<k:=by
    have:=(Array.getElem?_eq_some_iff.mp hi).1
    rw[P.1]at this
    exact this
   obtain⟨p,e1,e2,_⟩:=P.2.1 i u[i] v[i] hik (Array.getElem?_eq_getElem (by omega)) (Array.getElem?_eq_getElem (by omega))
   rw[hi]at e1
   cases e1
   exact ybB _ (yad e2)
  have oth:∀b o,b≠S->h'.get? b=some o->(h'.update S (yaH (·.push (yaf s.heap.objs.size)))).get? b=some o:=λb o hb e=>(Heap.get?_update_other _ _ (yaX hb)).trans e
  have nS:∀b,b ∉ [z,TO,i1,i2,S]->b≠S:=λb hb e=>hb (by rw[e];simp)
  refine yeh hs' rfl (yac ⟨plainId_quiet yco _,ih (k+1) _ (acc.push (.ref s.heap.objs.size)) _ (by omega) (by omega) ?_ (L'.keep hS'.1 hS'.2.2.1 hS'.2.1 hS'.2.2.2.1 hS'.2.2.2.2.1 hS'.2.2.2.2.2.1 hS'.2.2.2.2.2.2 oth) (P'.keep λb o hb e=>oth b o (nS b hb) e) (Heap.get?_update_self _ hs' rfl) λh'' tk' acc' c' kp2 hs'' P''=>?_⟩) (by have:=P.1;rw[ybT];omega) (by show(acc.push _).size<=yam+1;rw[Array.size_push,ybT];have:=P.1;omega)
  ·show lo<=(h'.update S _).objs.size
   rw[ycW]
   have:=yad new
   exact yaF hlo (ycu this)
  ·exact fin h'' tk' acc' c' (λb o hb e=>kp2 b o hb (oth b o (nS b hb) (kp b o (cut b hb) e))) hs'' P''
end
end L2.Sk
set_option maxHeartbeats 1000000
namespace L2.Sk
open PySem PySem.Spec PyProof.Rows
theorem qeP:yfH (.type "zip") "__len__"=pure none:=by
 rw[typeLookup_type,yeF]
 kernel_rfl
theorem qdn:yfH (.type "zip") "__length_hint__"=pure none:=by
 rw[typeLookup_type,yeF]
 kernel_rfl
section
variable{prog:yao}{w:World}{A:yau}{s:yab}{R:ydR->yab->Prop}{z TI TO i1 i2 a1 a2 S:Addr}{u v:Array Value}
theorem qm4 (hh:A.handled=none) (ap:ZAp z TI TO i1 i2 [i1,a1] [i2,a2]) (m1:a1≠i1) (m2:a2≠i2) (sa1:a1 ∉ [z,TO,i1,i2]) (sa2:a2 ∉ [z,TO,i1,i2]) (hS:S ∉ [z,TI,TO,i1,i2,a1,a2]) (hmin:min u.size v.size<=1000)
  (zz:IsZip s.heap z TI TO .none) (zO:∃p q,ya9 s.heap TO p q) (zI:ya9 s.heap TI (.ref i1) (.ref i2)) (t1:s.heap.IsTupleIter i1 a1 0/\s.heap.IsTuple a1 u) (t2:s.heap.IsTupleIter i2 a2 0/\s.heap.IsTuple a2 v)
  (lo:Nat) (hlo:lo<=s.heap.objs.size) (hs:s.heap.get? S=some {cls:=.type "list",data:=.seq #[]})
  (fin:∀h' tk acc' c',(∀b o,b ∉ [z,TO,i1,i2,S]->s.heap.get? b=some o->h'.get? b=some o)->h'.get? S=some {cls:=.type "list",dict:=none,data:=.seq acc' c',slots := #[]}->yO h' lo [z,TO,i1,i2,S] u v acc' (min u.size v.size)->R (.ok (.ret .none)) {s with heap:=h',toks:=tk}) :
  wpAny (model prog w) A.in1 (ybV.«list.__init__» ⟨[.ref S,.ref z],[]⟩)
   (λr s'=>match r with|.done f=>R (.ok f) s'|.again c'=>c'.quiet=true/\ybU (model prog w) A c' R s') (λe s'=>R (.error e) s') s:=by
 have hS':=hS
 simp only[yan,nN_,or_false,not_or]at hS'
 have hT:s.TypeIs (.ref z) "zip":=⟨_,zz,rfl⟩
 show wpAny (model prog w) A.in1 (Builtin.List.listItems (yaf S) >>= λold=>yd7 (yaf S) (λ_ => #[]) >>= λ_=>letGo old.toList.reverse >>= λ_=>ydu (yaf S) (yaf z) yax) _ _ s
 refine yaa (listItems_at hs rfl (yaa (yeW hs rfl ?_ (ya5 _) (ya5 _))))
 have hs2:=Heap.get?_update_self (yaH λ_=>(#[]:Array Value)) hs rfl
 have o2:∀b o,b≠S->s.heap.get? b=some o->(s.heap.update S (yaH λ_=>(#[]:Array Value))).get? b=some o:=λb o hb e=>(Heap.get?_update_other _ _ (yaX hb)).trans e
 refine yaa (yeq ?_)
 generalize hm:s.heap.update S (yaH λ_=>(#[]:Array Value))=m at hs2 o2
 have szm:m.objs.size=s.heap.objs.size:=by rw[<-hm,ycW]
 unfold ydu
 have hT2:({s with heap:=m}:yab).TypeIs (.ref z) "zip":=⟨_,o2 _ _ (yaX hS'.1) zz,rfl⟩
 refine yaa (yc6 hT2 ?_)
 have e1:yd4 (yaf S) (yaf z)=false:=by simp[yd4,hS'.1]
 have e2:(yb3 "zip"==yb3 "list")=false:=by decide
 have e3:(yb3 "zip"==yb3 "tuple")=false:=by decide
 simp only[e1,e2,e3,Bool.or_false,ya0,if_false]
 have zz2:IsZip m z TI TO .none:=o2 _ _ (yaX hS'.1) zz
 refine yaa (ydY zz2 (yaa (yba ?_)))
 unfold Builtin.List.listLengthHint
 refine yaa (wpAny_specialOf hT2 qeP ?_)
 show wpAny (model prog w) A.in1 (specialOf (yaf z) (ybo "__length_hint__") >>= _) _ _ _
 refine yaa (wpAny_specialOf hT2 qdn (yac ?_))
 show wpAny (model prog w) A.in1 (rule "list.extend.makes-room" >>= λ_=>Builtin.List.listTouch (yaf S) >>= λ_=>again (.builtin "list.extend.loop" ⟨[yaf S,yaf z,yax],[]⟩)) _ _ _
 refine yaa (yc4 (yaa ?_))
 show wpAny (model prog w) A.in1 (updateSeq S (·.push yax) >>= λ_=>updateSeq S (·.pop)) _ _ _
 refine yaa (yeh hs2 rfl ?_)
 have hs3:=Heap.get?_update_self (yaH (·.push yax)) hs2 rfl
 refine yeh (hz:=by seq_fits) hs3 rfl ?_
 have hs4:=Heap.get?_update_self (yaH (·.pop)) hs3 rfl
 have o4:∀b o,b≠S->s.heap.get? b=some o->((m.update S (yaH (·.push yax))).update S (yaH (·.pop))).get? b=some o:=λb o hb e=>(Heap.get?_update_other _ _ (yaX hb)).trans ((Heap.get?_update_other _ _ (yaX hb)).trans (o2 b o hb e))
 have sz4:((m.update S (yaH (·.push yax))).update S (yaH (·.pop))).objs.size=s.heap.objs.size:=by rw[ycW,ycW,szm]
 have L:LZ z TI TO i1 i2 a1 a2 S u v 0 ((m.update S (yaH (·.push yax))).update S (yaH (·.pop))):=LZ.keep (h:=s.heap) ⟨.inl ⟨zz,zO⟩,zI,t1,t2⟩ hS'.1 hS'.2.2.1 hS'.2.1 hS'.2.2.2.1 hS'.2.2.2.2.1 hS'.2.2.2.2.2.1 hS'.2.2.2.2.2.2 o4
 have nS:∀b,b ∉ [z,TO,i1,i2,S]->b≠S:=λb hb e=>hb (by rw[e];simp)
 exact yac ⟨plainId_quiet yco _,qjY hh ap m1 m2 sa1 sa2 hS lo hmin .none _ 0 _ _ _ rfl (ya5 _) (by show lo<=_;rw[sz4];exact hlo) L ⟨rfl,λi x y hi=>absurd hi (Nat.not_lt_zero _),λi j p h=>by simp at h⟩ hs4 λh' tk acc' c' kp hs' P=>fin h' tk acc' c' (λb o hb e=>kp b o hb (o4 b o (nS b hb) e)) hs' P⟩
end
section
variable{prog:yao}{w:World}{A:yau}{s:yab}{E:Value->yab->Prop}{z TI TO i1 i2 a1 a2:Addr}{u v:Array Value}
end
end L2.Sk
set_option maxHeartbeats 1000000
namespace L2.Sk
open PySem PySem.Spec PyProof.Rows
section
variable{X:Cx}{H0 H:Hp}{s0 s:yab}{T:Addr}{o:HO}
end
section
variable{X:Cx}{a b:Expr}{pos:Pos}
end
end L2.Sk
set_option maxHeartbeats 1000000
namespace L2.Sk
open PySem PySem.Spec PyProof.Rows
end L2.Sk
set_option maxHeartbeats 1000000
namespace L2.Sk
open PySem PySem.Spec PyProof.Rows
theorem qjZ (l:Addr) (dd:Option Addr) (items:Array Value) (n:Nat) (sl:Array (Option Value)) (t:Tok) :
  Meets (ybV.«tuple.__mul__» ⟨[.ref l,.int 1 t],[]⟩) (λ_ R s=>s.heap.get? l=some {cls:=.type "tuple",dict:=dd,data:=.seq items n,slots:=sl}/\R (.ok (.ret (.ref l))) s) :=
 .of_wp λprog w A R s h=>by
  obtain⟨hp,g,d,tk,os⟩:=s
  obtain⟨hl,h⟩:=h
  have f1:=ydZ
  have f2:=ybX
  have h3:¬(decide ((1:Int) < -(2 ^ 63))||decide ((1:Int) >= 2 ^ 63))=true:=by decide
  have h01:(items.isEmpty||(1:Int)==1)=true:=by simp
  wp_walk using ybt hl
  exact⟨_,rfl,h⟩
theorem qj0 (l:Addr) (dd:Option Addr) (items:Array Value) (n:Nat) (sl:Array (Option Value)) (t:Tok) (h0:¬items.isEmpty=true) :
  Meets (ybV.«tuple.__mul__» ⟨[.ref l,.int 0 t],[]⟩) (λ_ R s=>s.heap.get? l=some {cls:=.type "tuple",dict:=dd,data:=.seq items n,slots:=sl}/\R (.ok (.ret (.ref s.heap.objs.size))) {s with heap:=s.heap.push {cls:=.type "tuple",data:=.seq #[]} }) :=
 .of_wp λprog w A R s h=>by
  obtain⟨hp,g,d,tk,os⟩:=s
  obtain⟨hl,h⟩:=h
  have f1:=ydZ
  have f2:=ybX
  have h3:¬(decide ((0:Int) < -(2 ^ 63))||decide ((0:Int) >= 2 ^ 63))=true:=by decide
  have h01:¬(items.isEmpty||(0:Int)==1)=true:=by simp only[ycs,not_or];exact⟨h0,by decide⟩
  wp_walk using ybt hl
  exact⟨_,rfl,h⟩
section
variable{X:Cx}
def qgr(K:Fr0):R2:=λx y H Q=>∃a xs k,x=.ref a/\y=.int k/\SqT K H a xs/\xs≠[]/\((k=1/\Q (.ref a) H)\/(k=0/\∀p,H p=none->Q (.ref p) (upd H p (.tup []))))
theorem qhL:OpR X (ybe .Mult) (qgr X.K):=by
 intro pins s σ H x y v u Q I rx ry h
 obtain⟨a,xs,k,rfl,rfl,hx,hne,q⟩:=h
 cases rx
 obtain⟨t,rfl⟩:=ry
 obtain⟨its,r,p1,_⟩:=I.tuple hx
 obtain⟨⟨cls,dd,data,sl⟩,ho,hc,n,hd⟩:=id p1
 simp only at hc hd
 subst hc hd
 have hl:=r.length
 have e0:¬its.toArray.isEmpty=true:=by
  intro e
  have:its=[]:=by simpa using e
  rw[this]at hl
  exact hne (List.length_eq_zero_iff.mp hl)
 have T1:s.TypeIs (.ref a) "tuple":=⟨_,ho,rfl⟩
 rcases q with⟨rfl,q⟩|⟨rfl,q⟩
 ·exact ybS (T:="tuple") (U:="int") (by decide) T1 (λs'=>yb6 s' 1 t) uv yc8 ybv wz F.slot_int_index.lookup
   (ybu ybv (yb6 s 1 t) ycS (ycG _ _) (uR 1 t a dd its.toArray n sl)
    ⟨ho,rfl,T1,ybu yd0 T1 ydI (yds _ _) (qjZ a dd its.toArray n sl t) ⟨ho,⟨.ref a,H,I,rfl,q⟩⟩⟩)
 ·refine ybS (T:="tuple") (U:="int") (by decide) T1 (λs'=>yb6 s' 0 t) uv yc8 ybv wz F.slot_int_index.lookup
   (ybu ybv (yb6 s 0 t) ycS (ycG _ _) (uR 0 t a dd its.toArray n sl)
    ⟨ho,rfl,T1,ybu yd0 T1 ydI (yds _ _) (qj0 a dd its.toArray n sl t e0) ⟨ho,?_⟩⟩)
  exact⟨.ref s.heap.objs.size,_,I.laid (t':=s.toks) (o:=.tup []) (λb ob q=>Heap.get?_push_of_some _ q) (yah _) ⟨ya5 _,[],.nil,ycZ _ _⟩,rfl,q _ (I.hok.fresh (yah _))⟩
theorem qgs:OpR X (ybe .Mult) (λx y H Q=>qhl X.K x y H Q\/qgr X.K x y H Q):=OpR.or jU qhL
end
def qgt:D->D->Option D
 |.tup ds,.int k=>if ds.isEmpty then none else if k=0 then some (.tup [])else if k=1 then some (.tup ds)else uS (.tup ds) (.int k)
 |x,y=>uS x y
theorem qec {K:Fr0}:OpS K qgt (λx y H Q=>qhl K x y H Q\/qgr K x y H Q):=by
 intro A H x y d v u Q hn ix iy e k
 unfold qgt at e
 split at e
 ·rename_i ds j
  by_cases h0:ds.isEmpty=true
  ·rw[if_pos h0]at e;cases e
  rw[if_neg h0]at e
  by_cases h1:j=0
  ·rw[if_pos h1]at e
   cases e
   subst h1
   obtain⟨a,xs,rfl,ta,il⟩:=ix
   cases iy
   refine .inr ⟨a,xs,0,rfl,rfl,ta.sq,λz=>?_,.inr ⟨rfl,λp hp=>k _ _ (qu hp _) ⟨p,[],rfl,.inl qx,rfl⟩⟩⟩
   have:=il.length
   rw[z]at this
   exact h0 (by rw[List.length_eq_zero_iff.mp this.symm];rfl)
  rw[if_neg h1]at e
  by_cases h2:j=1
  ·rw[if_pos h2]at e
   cases e
   subst h2
   have ix':=ix
   obtain⟨a,xs,rfl,ta,il⟩:=ix
   cases iy
   refine .inr ⟨a,xs,1,rfl,rfl,ta.sq,λz=>?_,.inl ⟨rfl,k _ H (jG.refl H) ix'⟩⟩
   have:=il.length
   rw[z]at this
   exact h0 (by rw[List.length_eq_zero_iff.mp this.symm];rfl)
  rw[if_neg h2]at e
  exact .inl (zZ A H _ _ d v u Q hn ix iy e k)
 ·exact .inl (zZ A H _ _ d v u Q hn ix iy e k)
end L2.Sk
set_option maxHeartbeats 1000000
namespace L2.Sk
open PySem PySem.Spec PyProof.Rows
section
variable{X:Cx}{pins:List (Addr×Obj)}{σ:St}{H:Hp}{s:yab}{A:Addr->Prop}
def Shw(X:Cx)(s:yab)(d:D)(u:Value):Prop:=∃bs,ReadAtMost s.heap (qR d).depth bs/\ReprK X.prog X.w bs s.heap (qR d).depth u (qR d).shown
theorem qdo (I:Inv X pins σ H s) {d:D} {v:V} {u:Value} (hs:(qR d).showable=true) (hd:(qR d).hasDict=true->noL d=true) (i:Is X.K A H d v) (r:jO v u) (hz:(qR d).shown.length<=yam):Shw X s d u:=by
 obtain⟨as,q,nl⟩:=yu I (qa7 hs) i r
 exact ReprK.of_reads q hs (λe=>nl (hd e)) hz
theorem qgu:∀ns:List Int,yfw (ns.map .int)=false
 | []=>rfl
 |n::ns=>by
  rw[mC_,yfw,qgu ns]
  rfl
theorem qj1 (ns:List Int):(qR (.fz ns)).hasDict=false:=by
 simp only[qR,PyData.hasDict]
 exact qgu ns
theorem qaC:∀(ds:List D)(xs:List V)(us:List Value),(∀d∈ds,∀(v:V)(u:Value),(qR d).showable=true->Is X.K A H d v->jO v u->(qR d).shown.length<=yam->Shw X s d u)->yaK (toPDs ds)=true->IsL X.K A H ds xs->ze xs us->(∀t∈ybh (toPDs ds),t.length<=yam) ->
  ∃bs,ReadAtMost s.heap (yaG (toPDs ds)) bs/\ReprAllK X.prog X.w bs s.heap (yaG (toPDs ds)) us (ybh (toPDs ds))
 | [],_,_,_,_,i,r,_=>by
  cases i
  cases r
  exact⟨[],(λ_ h=>nomatch h),by simp only[toPDs,ybh];exact .nil⟩
 | d::ds,_,_,ih,hs,⟨x,ys,hx,i1,i2⟩,r,hz=>by
  subst hx
  cases r with
  |cons r1 r2=>
   simp only[toPDs,yaK,yal]at hs
   simp only[toPDs,ybh,yan]at hz
   obtain⟨b1,g1,k1⟩:=ih d mS_ _ _ hs.1 i1 r1 (hz _ (.inl rfl))
   obtain⟨b2,g2,k2⟩:=qaC ds _ _ (λy hy=>ih y (mM _ hy)) hs.2 i2 r2 λt ht=>hz t (.inr ht)
   simp only[toPDs,yaG,ybh]
   exact⟨b1++b2,(g1.mono (yei _ _)).append (g2.mono (yd5 _ _)),.cons ((k1.more λb hb=>ycd _ hb).level_le (yei _ _)) (k2.more_le (λb hb=>mr_ _ hb) (yd5 _ _))⟩
theorem qaD:∀{ds:List D}{d:D},d∈ds->(qR d).depth<=yaG (toPDs ds)
 |e::ds,d,h=>by
  simp only[toPDs,yaG]
  rcases List.mem_cons.mp h with rfl|h
  ·exact yei _ _
  ·exact yaF (qaD h) (yd5 _ _)
theorem qix (I:Inv X pins σ H s):∀(n:Nat)(d:D)(v:V)(u:Value),(qR d).depth<=n->(qR d).showable=true->Is X.K A H d v->jO v u->(qR d).shown.length<=yam->Shw X s d u:=λn=>by
 induction n with
 |zero=>
  intro d v u hn hs i r hz
  refine qdo I hs (λe=>?_) i r hz
  have nx:=qa7 hs
  cases d with
  |non=>cases e
  |bl b=>cases e
  |int j=>cases e
  |str x=>cases e
  |dic kvs=>rfl
  |exc c=>simp[noX]at nx
  |fz ns=>rw[qj1]at e;cases e
  |tup ds=>simp only[qR,ya1]at hn;omega
  |lst ds=>simp only[qR,ya1]at hn;omega
 | succ n ih=>
  intro d v u hn hs i r hz
  have nx:=qa7 hs
  obtain⟨as,q,_⟩:=yu I nx i r
  cases d with
  |non=>exact qdo I hs (λe=>by cases e) i r hz
  |bl b=>exact qdo I hs (λe=>by cases e) i r hz
  |int j=>exact qdo I hs (λe=>by cases e) i r hz
  |str x=>exact qdo I hs (λe=>by cases e) i r hz
  |dic kvs=>exact qdo I hs (λe=>rfl) i r hz
  |exc c=>simp[noX]at nx
  |fz ns=>exact qdo I hs (λe=>by rw[qj1]at e;cases e) i r hz
  |tup ds=>
   obtain⟨a,xs,hv,ta,il⟩:=i
   subst hv
   cases r
   obtain⟨its,rv,p,_⟩:=I.tuple ta.sq
   obtain⟨o,h1,h2,m,h3⟩:=p
   have e:(qR (.tup ds)).depth=yaG (toPDs ds)+1:=by simp only[qR,ya1]
   have hs':yaK (toPDs ds)=true:=by simpa [qR,ybg] using hs
   have hz':(tupleText (ybh (toPDs ds))).length<=yam:=by simpa only[qR,ybL] using hz
   obtain⟨bs,hb,hk⟩:=qaC ds xs its (λy hy v u=>ih y v u (by have:=qaD hy;omega)) hs' il rv λt ht=>yaF (tupleText_mem_le ht) hz'
   have hna:a ∉ bs:=ycI q (by rw[e];omega) hb
   refine⟨a::bs,ReadAtMost.cons q (by rw[e];omega) hb,?_⟩
   simp only[qR,ya1,ybL]
   exact ReprK.tuple h1 h2 h3 hna (by simpa using hk)
  | lst ds=>
   obtain⟨a,xs,hv,_,ta,il⟩:=i
   subst hv
   cases r
   obtain⟨its,rv,p,_⟩:=I.list (SqL.of ta)
   obtain⟨o,h1,h2,m,h3⟩:=p.isList
   have e:(qR (.lst ds)).depth=yaG (toPDs ds)+1:=by simp only[qR,ya1]
   have hs':yaK (toPDs ds)=true:=by simpa [qR,ybg] using hs
   have hz':(listText (ybh (toPDs ds))).length<=yam:=by simpa only[qR,ybL] using hz
   obtain⟨bs,hb,hk⟩:=qaC ds xs its (λy hy v u=>ih y v u (by have:=qaD hy;omega)) hs' il rv λt ht=>yaF (listText_mem_le ht) hz'
   have hna:a ∉ bs:=ycI q (by rw[e];omega) hb
   refine⟨a::bs,ReadAtMost.cons q (by rw[e];omega) hb,?_⟩
   simp only[qR,ya1,ybL]
   cases its with
   | nil=>
    have e0:toPDs ds=[]:=by
     have g1:=il.length
     have g2:=rv.length
     cases ds with
     |nil=>rfl
     |cons d ds=>exact absurd (g1.symm.trans g2) (by simp)
    rw[e0]
    simp only[ybh,listText_nil]
    exact ReprK.listEmpty h1 h2 h3
   |cons y its=>exact ReprK.list h1 h2 h3 hna (by simpa using hk.length_eq) λj w g=>hk.item j w (by simpa using g)
end
def uf(d:D):Bool:=(qR d).showable&&decide ((qR d).shown.length<=yam)&&decide ((qR d).depth<=50)
def qiy(K:Fr0):List V->Hp->VK->Prop:=λxs H Q=>∃v d A,xs=[v]/\Is K A H d v/\uf d=true/\Q (.str (qR d).shown) H
section
variable{X:Cx}
theorem yA {k:Nat} (hr:uH k X.A):yr X (.builtin "repr") (qiy X.K):=by
 intro pins s σ H xs us Q I r h
 obtain⟨v,d,A,rfl,hi,ok,q⟩:=h
 obtain⟨u,rfl,ru⟩:=ze.one r
 have ok':=ok
 unfold uf at ok'
 simp only[yal,decide_eq_true_eq]at ok'
 obtain⟨⟨o1,o2⟩,o3⟩:=ok'
 have nx:=qa7 o1
 have hun:=hr.un
 have leaf:((qR d).hasDict=true->noL d=true)->wpAny (model X.prog X.w) X.A (call (.builtin "repr") [u]) (EP X pins σ Q) X.xe s:=λhl=>by
  refine qeE hr pins s σ H [v] [u] Q I r ⟨v,d,A,rfl,hi,?_,q⟩
  unfold qdR
  simp only[o1,o2,o3,decide_true,yaT,ycs,ydJ]
  cases e:(qR d).hasDict with
  |false=>exact .inl rfl
  |true=>exact .inr (hl e)
 have fin:∀h' (t:Tok) tk,(∀b o,s.heap.get? b=some o->h'.get? b=some o)->EP X pins σ Q (.str (qR d).shown t) {s with heap:=h',toks:=tk}:=λh' t tk hk=>⟨.str _,H,I.kept hk,⟨_,rfl⟩,q⟩
 obtain⟨as,rd,_⟩:=yu I nx hi ru
 cases d with
 |non=>exact leaf λe=>by cases e
 |bl b=>exact leaf λe=>by cases e
 |int j=>exact leaf λe=>by cases e
 |str x=>exact leaf λe=>by cases e
 |dic kvs=>exact leaf λe=>rfl
 |exc c=>simp[noX]at nx
 |fz ns=>exact leaf λe=>by rw[qj1]at e;cases e
 |tup ds=>
  obtain⟨a,xs,hv,ta,il⟩:=hi
  subst hv
  cases ru
  obtain⟨its,rv,p,_⟩:=I.tuple ta.sq
  obtain⟨o,h1,h2,m,h3⟩:=p
  have e:(qR (.tup ds)).depth=yaG (toPDs ds)+1:=by simp only[qR,ya1]
  have hs':yaK (toPDs ds)=true:=by simpa [qR,ybg] using o1
  have hz':(tupleText (ybh (toPDs ds))).length<=yam:=by simpa only[qR,ybL] using o2
  obtain⟨bs,hb,hk⟩:=qaC (X:=X) (s:=s) ds xs its (λy hy v u=>qix I _ y v u (yah _)) hs' il rv λt ht=>yaF (tupleText_mem_le ht) hz'
  have hna:a ∉ bs:=ycI rd (by rw[e];omega) hb
  refine call_repr_slot (by omega) ⟨o,h1,h2⟩ F.slot_tuple_repr (call_tuple_reprK h1 h2 h3 hna (by simpa using hk) hr.gd (λb _=>Clear.nil b) (by show X.A.units+1+_<cLine;omega) (λ_ _ z=>z) (λh' t tk hk'=>⟨_,_,rfl,?_⟩) hz')
  have:=fin h' t tk hk'
  simp only[qR,ybL]at this
  exact this
 | lst ds=>
  obtain⟨a,xs,hv,_,ta,il⟩:=hi
  subst hv
  cases ru
  obtain⟨its,rv,p,_⟩:=I.list (SqL.of ta)
  obtain⟨o,h1,h2,m,h3⟩:=p.isList
  have e:(qR (.lst ds)).depth=yaG (toPDs ds)+1:=by simp only[qR,ya1]
  have hs':yaK (toPDs ds)=true:=by simpa [qR,ybg] using o1
  have hz':(listText (ybh (toPDs ds))).length<=yam:=by simpa only[qR,ybL] using o2
  obtain⟨bs,hb,hk⟩:=qaC (X:=X) (s:=s) ds xs its (λy hy v u=>qix I _ y v u (yah _)) hs' il rv λt ht=>yaF (listText_mem_le ht) hz'
  have hna:a ∉ bs:=ycI rd (by rw[e];omega) hb
  cases its with
  | nil=>
   have e0:ds=[]:=by
    have g1:=il.length
    have g2:=rv.length
    cases ds with
    |nil=>rfl
    |cons d ds=>exact absurd (g1.symm.trans g2) (by simp)
   subst e0
   exact leaf λz=>by cases z
  |cons y its=>
   refine call_repr_slot (by omega) ⟨o,h1,h2⟩ F.slot_list_repr.toG (call_list_reprK h1 h2 h3 hna (by simpa using hk.length_eq) (λj w g=>hk.item j w (by simpa using g)) hr.gd (λb _=>Clear.nil b) (by show X.A.units+1+_<cLine;omega) (λ_ _ z=>z) (λh' t tk hk'=>⟨_,_,rfl,?_⟩) hz')
   have:=fin h' t tk hk'
   simp only[qR,ybL]at this
   exact this
end
def zu:List D->Option D
 | [d]=>if uf d then some (.str (qR d).shown)else none
 |_=>none
theorem jV {K:Fr0}:wm K zu (qiy K):=by
 intro A H xs d vs Q hn h e k
 unfold zu at e
 split at e
 ·rename_i d0
  obtain⟨v,rfl,e2⟩:=IsL.inv1 h
  obtain⟨e6,e7⟩:=jn e
  subst e7
  exact⟨v,d0,A,rfl,e2,e6,k _ H (jG.refl H) rfl⟩
 ·cases e
end L2.Sk
namespace L2.Sk
namespace Law
open PySem PySem.Spec PyProof.Rows
set_option maxHeartbeats 4000000
theorem qiz(ds:List D)(r:Env):zJ 0 (some (.lst ds)::r)=some ds:=rfl
theorem qiA(i:Nat)(o:Option D)(r:Env):zJ (i+1) (o::r)=zJ i r:=rfl
theorem ix0(a b c:D):ixD (.tup [a,b,c]) (.int 0)=some a:=rfl
theorem ix1(a b c:D):ixD (.tup [a,b,c]) (.int 1)=some b:=rfl
theorem ix2(a b c:D):ixD (.tup [a,b,c]) (.int 2)=some c:=rfl
theorem qbL(i j:Int):neB (.int i) (.int j)=some (.bl (!decide (i=j))):=rfl
theorem qbM(i j:Int):eqB (.int i) (.int j)=some (.bl (decide (i=j))):=rfl
theorem uW(ds:List D):qbz (tyD (.tup ds)) "tuple"=true:=rfl
theorem z5(ds:List D):ud [.tup ds]=some (.int ds.length):=rfl
theorem qcE(d:D):isN d .non=some (.bl (uI d)):=rfl
theorem qgv(d:D):qoc d .non=some (.bl (!uI d)):=rfl
theorem qbN(i j:Int):gtD (.int i) (.int j)=some (.bl (decide (j<i))):=rfl
theorem qbO(i j:Int):ltD (.int i) (.int j)=some (.bl (decide (i<j))):=rfl
theorem qgw(i j:Int):leD (.int i) (.int j)=some (.bl (decide (i<=j))):=rfl
local macro_rules | `(tactic| push_cast [$xs,*]) => `(tactic| simp only [ym, qaQ, qnu, z8, qcu, vT, qid, qmm, qnv, wB, u9, qfS, qjB, wS, qfT, qie, qhp, qdW, qlx, qif, qhq, qhr, qa9, qdX, qav, vH, qih, qii, qij, yL, qfU, qfV, qfW, vU, qdc, qfX, qfY, qfZ, qf0, qik, qaw, qly, qdd, lC_, lN_, mC_, List.map_nil, List.replicate, List.nil_append, List.cons_append, List.append_nil, List.getElem?_cons_zero, List.getElem?_cons_succ, List.set_cons_zero, List.set_cons_succ, Nat.reduceAdd, Nat.reduceSub, Nat.sub_self, Nat.zero_add, reduceIte, Bool.not_true, Bool.not_false, Bool.false_eq_true, if_true, if_false, ite_true, ite_false, cond_true, cond_false, decide_true, decide_false, ix0, ix1, ix2, uW, z5, qbL, qbM, qcE, qgv, qbN, qbO, qgw, qiz, qiA, vW, qbI, qd4, qis, qgd, qdf, $xs,*])
theorem vv {n p:Nat} {body:MS} {ds:List D} {d:D} (h:ds.length=p) (e:∃ρ,body (ym n ds)=.ok (.rt d ρ)):dfn n p body ds=.ok d:=by
 obtain⟨ρ,e⟩:=e
 exact qjC h e
def qgx:D->Bool
 |.int _=>true
 |_=>false
def zq:D->Bool
 |.int i=>decide (0<=i)
 |_=>false
def qgy:D->Bool
 |.int i=>decide (0<i)
 |_=>false
def vw:D->Bool
 |.tup [a,b,c]=>qgy a&&zq b&&(uI c||zq c)
 |_=>false
theorem qom {ds:List D} (h:ds.length=3):∃a b c,ds=[a,b,c]:=by
 match ds,h with
 | [a,b,c],_=>exact⟨a,b,c,rfl⟩
theorem qeQ {ds:List D} (h:ds.length≠3):vw (.tup ds)=false:=by
 match ds,h with
 | [],_=>rfl
 | [_],_=>rfl
 | [_,_],_=>rfl
 | [a,b,c],h=>exact absurd rfl h
 |_::_::_::_::_,_=>rfl
theorem qk{p q:MS}{ρ ρ':Env}(h:p ρ=.ok (.nx ρ')):qH p q ρ=q ρ':=by rw[qig,h]
theorem jQ{p q:MS}{ρ ρ':Env}{d:D}(h:p ρ=.ok (.rt d ρ')):qH p q ρ=.ok (.rt d ρ'):=by rw[qig,h]
theorem qlU {e:M D} {f:D->D}:∀(ds acc:List D)(o:Option D),(∀d∈ds,e [some d]=.ok (f d,[some d]))->acc.length+ds.length<=1000->∃ρ',zB (qt 0) (ret true) e ds acc [o]=.ok (acc++ds.map f,ρ')
 | [],acc,o,_,_=>⟨[o],by simp[zB]⟩
 |d::ds,acc,o,h,hl=>by
  have hl':acc.length+(ds.length+1)<=1000:=hl
  obtain⟨ρ',q⟩:=qlU ds (acc++[f d]) (some d) (λx hx=>h x (mM _ hx)) (by rw[lA_,yaC];omega)
  refine⟨ρ',?_⟩
  unfold zB
  simp only[qt,ybM,ret,h d mS_,zx (show acc.length+1<=1000000 by omega),if_true,q]
  simp
theorem qcF (f:D->Bool):∀ds:List D,yI (ds.map λd=>D.bl (f d))=some (ds.map f)
 | []=>rfl
 |d::ds=>by simp[yI,qcF f ds]
theorem all_map {ds:List D} {f:D->Bool}:qcX [.lst (ds.map λd=>D.bl (f d))]=some (.bl (ds.all f)):=by
 simp only[qcX,qcF,yee]
 congr 2
 rw[yfh]
 rfl
theorem qj2 {F:List D->R D} {f:D->Bool} {xs:M (List D)} {ds:List D} {ρ:Env} (hx:xs ρ=.ok (ds,ρ)) (hF:∀d∈ds,F [d]=.ok (.bl (f d))) (hl:ds.length<=1000) :
  qp qcX (qa (zo 1 [] none xs (qt 0) (ret true) (qq F (qa (dv 0) (ret [])))) (ret [])) ρ=.ok (.bl (ds.all f),ρ):=by
 obtain⟨ρ',q⟩:=qlU (e:=qq F (qa (dv 0) (ret []))) (f:=λd=>D.bl (f d)) ds [] none (λx hm=>by push_cast [];rw[hF x hm]) (by simpa using hl)
 have q':zB (qt 0) (ret true) (qq F (qa (dv 0) (ret []))) ds [] (yp 1 [] ρ)=.ok ([]++ds.map λd=>D.bl (f d),ρ'):=q
 simp only[wB,z8,qbE,hx,q',qaQ,ybO,all_map]
 rfl
def uy:D->Bool
 |.tup ds=>decide (ds.length<=12)&&ds.all vw
 |_=>false
def leI:D->D->Bool
 |.int i,.int j=>decide (i<=j)
 |_,_=>false
def qm5 (k x:D):Bool:=match k with
 |.tup [_,_,m]=>zq x&&(uI m||leI x m)
 |_=>false
def qed:List D->List D->Bool
 |k::ks,x::xs=>qm5 k x&&qed ks xs
 |_,_=>true
def qnL:D->D->Bool
 |.tup xs,.tup ks=>decide (xs.length=ks.length)&&qed ks xs
 |_,_=>false
theorem qee:∀bs:List Bool,yI (bs.map D.bl)=some bs
 | []=>rfl
 |b::bs=>by simp[yI,qee bs]
theorem qaE {ds:List D} {i:Nat} {d:D} (h:ds[i]? = some d):ixD (.tup ds) (.int (i:Nat))=some d:=by
 have hi:i<ds.length:=(gI_.mp h).1
 show atI ds (i:Int)=some d
 unfold atI ixN
 rw[if_pos (by omega),if_pos (by omega)]
 simpa using h
theorem yx {l:M (List D)} {ρ ρ1:Env} {j:Int} (e:l ρ=.ok ([.int j],ρ1)) (h0:0<=j) (h:j<=1000000):zn l ρ=.ok (qbB 0 j.toNat,ρ1):=by
 have h1:(-(2 ^ 62)<=j):=by omega
 have h2:(j<2 ^ 62):=by omega
 have e2:qh5 [.int j]=some (qbB 0 j.toNat):=by
  simp only[qh5,h1,h2,decide_true,yaZ,if_true]
 have e3:zn l ρ=lift (qh5 [.int j]) ρ1:=by
  show bnd l (λds=>lift (qh5 ds)) ρ=_
  rw[qmU,e]
 rw[e3,e2]
 rfl
theorem qgz {n m:Int} (h0:0<m) (h1:m<1606938044258990275541962092341162602522202993782792835301376):qaq [.int n,.int m]=some (.tup [.int (n/m),.int (n%m)]):=by
 simp only[qaq,qeA,h0,h1,decide_true,yaZ,if_true]
theorem at0 (d:D) (r:List D):atI (d::r) 0=some d:=by
 unfold atI ixN
 rw[if_pos (by omega),if_pos (by simp)]
 rfl
theorem qon:ixN 1 0=some 0:=by decide
theorem zM(i j:Int):qU (.int i) (.int j)=some (.int (i+j)):=rfl
theorem qbP(i j:Int):qfx (.int i) (.int j)=some (.int (i-j)):=rfl
theorem qbl {ds:List D} {k:Int} (h0:0<=k) (h1:k<ds.length):∃d∈ds,ixD (.lst ds) (.int k)=some d:=by
 obtain⟨i,rfl⟩:=yd8 h0
 have hi:i<ds.length:=by omega
 refine⟨ds[i],ybF hi,?_⟩
 show atI ds (i:Int)=_
 unfold atI ixN
 rw[if_pos (by omega),if_pos (by omega)]
 show ds[(i:Int).toNat]? = _
 rw[ybc,gG hi]
theorem qoo (i:Int):uS (.int 2) (.int i)=some (.int (2*i)):=by
 have h:qc6 2 i=true:=by
  unfold qc6
  have:yo 2=true:=by decide
  rw[this];rfl
 simp only[uS,h,if_true]
def qj3(c m:D):Prop:=m=c\/∃j,m=.int j/\0<=j/\j<=5
def z6(k:D):Prop:=∃a b m,k=.tup [.int a,.int b,m]/\1<=a/\a<=25/\0<=b/\b<=39/\qj3 .non m
theorem z6.imm {k:D} (h:z6 k):imm k=true:=by
 obtain⟨a,b,m,rfl,_,_,_,_,hm⟩:=h
 rcases hm with rfl|⟨j,rfl,_⟩<;>rfl
theorem z6.lay {k:D} (h:z6 k):(qR k).canLay0=true/\(qR k).depth=1:=by
 obtain⟨a,b,m,rfl,_,_,_,_,hm⟩:=h
 rcases hm with rfl|⟨j,rfl,_⟩<;>exact⟨rfl,rfl⟩
theorem qiB:∀ks:List D,(∀k∈ks,z6 k)->ybl (toPDs ks)=true/\yaG (toPDs ks)<=1
 | [],_=>⟨rfl,ya5 _⟩
 |k::ks,h=>by
  obtain⟨h1,h2⟩:=qiB ks λx hx=>h x (mM _ hx)
  obtain⟨g1,g2⟩:=(h k mS_).lay
  unfold toPDs
  simp only[ybl,yaG,h1,g1,g2,yaZ,true_and]
  omega
theorem qdp {ks:List D} (h:∀k∈ks,z6 k):∃b,neA (.lst ks) (.lst [])=some (.bl b)/\(b=true->ks≠[]):=by
 obtain⟨h1,h2⟩:=qiB ks h
 have e1:qa8 (.lst ks)=true:=by
  have e:qa8 (.lst ks)=(ybl (toPDs ks)&&decide (yaG (toPDs ks)+1<=50)):=by
   simp only[qa8,qR,yca,ya1]
  rw[e,h1,yaT,decide_eq_true_eq]
  omega
 have e2:qa8 (.lst [])=true:=rfl
 refine⟨!ycC (qR (.lst ks)) (qR (.lst [])),by simp only[neA,e1,e2,yaZ,if_true],λhb hn=>?_⟩
 subst hn
 exact absurd hb (by decide)
theorem qlV {ds:List D} {k:Int} (h0:0<=k) (h1:k<ds.length):∃d∈ds,atI ds k=some d:=by
 obtain⟨d,hd,e⟩:=qbl h0 h1
 exact⟨d,hd,e⟩
theorem qhM(j:Nat):(qbB 0 j).length=j:=by simp[qbB]
theorem va {i j:Int} (h:0<j):qh0 (.int i) (.int j)=some (.int (i%j)):=by
 simp only[qh0,qhZ,h,decide_true,if_true]
theorem uX {i j:Int} (h:0<j) (h1:j<1606938044258990275541962092341162602522202993782792835301376):vz (.int i) (.int j)=some (.int (i/j)):=by
 simp only[vz,qhZ,qeA,h,h1,decide_true,yaZ,if_true]
theorem qcG {i j:Int} (h:yo i=true):uS (.int i) (.int j)=some (.int (i*j)):=by
 simp only[uS,qc6,h,Bool.true_or,if_true]
theorem qlW {i j:Int} (h:yo j=true):uS (.int i) (.int j)=some (.int (i*j)):=by
 simp only[uS,qc6,h,yfe,if_true]
theorem qbQ {i:Int} (h0:0<=i) (h1:i<2000000000):yo i=true:=by
 unfold yo
 rw[yal,decide_eq_true_eq,decide_eq_true_eq]
 constructor<;>omega
def facts:List Int:=[48271,69621,16807,39373,30269,40014,40692,50021,61687,71993,83869,95561,30307]
structure vb (w e:Nat) (d:D):Prop where
 lv:(qR d).leavesShort 40=true
 sh:(qR d).showable=true
 wt:(qR d).weight<=w
 dp:(qR d).depth<=e
theorem vb.mono{w e w' e':Nat}{d:D}(h:vb w e d)(h1:w<=w')(h2:e<=e'):vb w' e' d:=⟨h.lv,h.sh,yaF h.wt h1,yaF h.dp h2⟩
theorem qbR {w e:Nat}:∀ds:List D,(∀d∈ds,vb w e d)->ycb 40 (toPDs ds)=true/\yaK (toPDs ds)=true/\ycX (toPDs ds)<=ds.length*(w+1)/\yaG (toPDs ds)<=e
 | [],_=>⟨rfl,rfl,ya5 _,ya5 _⟩
 |d::ds,h=>by
  obtain⟨h1,h2,h3,h4⟩:=qbR ds λx hx=>h x (mM _ hx)
  have g:=h d mS_
  have g3:=g.wt
  have g4:=g.dp
  simp only[toPDs,ycb,yaK,ycX,yaG,h1,h2,g.lv,g.sh,yaZ,true_and,lC_,Nat.succ_mul]
  omega
theorem vc {w e n:Nat} {ds:List D} (h:∀d∈ds,vb w e d) (hl:ds.length<=n):vb (n*(w+1)) (e+1) (.tup ds):=by
 obtain⟨h1,h2,h3,h4⟩:=qbR ds h
 refine⟨?_,?_,?_,?_⟩
 ·simp only[qR,ycB,h1]
 ·simp only[qR,ybg,h2]
 ·simp only[qR,ydE]
  exact yaF h3 (yeP _ hl)
 ·simp only[qR,ya1]
  omega
theorem uz {w e n:Nat} {ds:List D} (h:∀d∈ds,vb w e d) (hl:ds.length<=n):vb (n*(w+1)) (e+1) (.lst ds):=by
 obtain⟨h1,h2,h3,h4⟩:=qbR ds h
 refine⟨?_,?_,?_,?_⟩
 ·simp only[qR,ycB,h1]
 ·simp only[qR,ybg,h2]
 ·simp only[qR,ydE]
  exact yaF h3 (yeP _ hl)
 ·simp only[qR,ya1]
  omega
def qj4(d:D):Bool:=(qR d).leavesShort 40&&(qR d).showable&&decide ((qR d).weight<=130)&&decide ((qR d).depth<=5)
theorem wH {d:D} (h:qj4 d=true):vb 130 5 d:=by
 simp only[qj4,yal,decide_eq_true_eq]at h
 exact⟨h.1.1.1,h.1.1.2,h.1.2,h.2⟩
def dl(d:D):Bool := !(qR d).hasDict||noL d
def plain(d:D):Bool := !(qR d).hasDict&&noL d
def qcH:List D:=[.non,.bl true,.bl false,.int (-1),.str "",.str "1",.tup [.int 0],.lst [.int 1],.dic [(.inr "a",1)],.tup [.int (-1)],.tup [.bl true],.tup [.tup [.int 1,.int 2]],.tup [.non],.int 100000000000000000000000000000]
def qcI:List D:=[.tup [.int 1,.int 2,.int 3],.tup [.tup [.int 0,.int 1,.int 1]],.tup [.tup [.int 1,.int (-1),.int 1]],.tup [.tup [.int 1,.int 1,.int (-1)]],.lst [.tup [.int 1,.int 1,.int 1]],.dic [(.inl 0,1)],.str "1/1*1",.tup [.tup [.int 1,.int 1,.bl true]]]
theorem qgA:(qcH++qcI).all (λd=>qj4 d&&dl d)=true:=by decide +kernel
theorem neg_int(i:Int):uw (.int i)=some (.int (-i)):=rfl
theorem qj5:qml (.int 10) (.int 29)=some (.int 100000000000000000000000000000):=by
 have h:qju 10 29=true:=by decide +kernel
 have e:(10:Int) ^ (29:Int).toNat=100000000000000000000000000000:=by decide +kernel
 simp only[qml,qhZ,h,if_true,e]
theorem y9 {xs ys:List D} (h:xs.length+ys.length<=1000000):qU (.lst xs) (.lst ys)=some (.lst (xs++ys)):=by
 simp only[qU,zx h,if_true]
theorem qbS {xs ys:List D} (h:xs.length+ys.length<=1000000):qU (.tup xs) (.tup ys)=some (.tup (xs++ys)):=by
 simp only[qU,zx h,if_true]
def pt (p:Int):D->Int
 |.tup [.int a,.int b,_]=>if p=0 then a else b
 |_=>0
def num:D->Int
 |.int x=>x
 |_=>0
def qm6 (p:Int):List D->List D->List Int
 |k::ks,x::xs=>(pt p k*num x)::qm6 p ks xs
 |_,_=>[]
theorem qef:∀ns:List Int,vA (ns.map D.int)=some ns
 | []=>rfl
 |n::ns=>by simp[vA,qef ns]
theorem qhN {i:Int} (h:i.natAbs<10 ^ 39):vb 130 0 (.int i):=by
 have hl:i.natAbs.log2<130:=by
  by_cases h0:i.natAbs=0
  ·rw[h0];decide
  ·refine(Nat.log2_lt h0).mpr (yaw h (by decide +kernel))
 refine⟨?_,?_,?_,yah _⟩
 ·show decide ((ybL (.int i)).length<=40)=true
  refine decide_eq_true ?_
  have e:=int_text_length_le10 (k:=39) (by decide) h
  show(ybo (toString i)).length<=40
  rw[PySem.ofString_length]
  exact e
 ·show decide (i.natAbs.log2<1920)=true
  exact decide_eq_true (by omega)
 ·show(if(i==0)=true then 0 else i.natAbs.log2+1)<=130
  split<;>omega
theorem vd(xs:List D):yZ [.lst xs]=some (.tup xs):=rfl
theorem qgB(xs:List D):qc8 [.tup xs]=some (.lst xs):=rfl
theorem qdq (x:Str):neB (.str x) (.str x)=some (.bl false):=by
 show some (D.bl (!decide (x=x)))=_
 rw[decide_eq_true rfl];rfl
theorem qgC (xs:List D) (a b:Option Int):(qa4 xs a b).length<=xs.length:=by
 unfold qa4
 simp only[ya3,ybp]
 omega
theorem qm7 {F:List D->R D} {f g h:M D} {ρ:Env} {a b c d:D} (hf:f ρ=.ok (a,ρ)) (hg:g ρ=.ok (b,ρ)) (hh:h ρ=.ok (c,ρ)) (e:F [a,b,c]=.ok d):qq F (qa f (qa g (qa h (ret [])))) ρ=.ok (d,ρ):=by
 have e1:qa h (ret []) ρ=.ok ([c],ρ):=by rw[z8,hh];rfl
 have e2:qa g (qa h (ret [])) ρ=.ok ([b,c],ρ):=by rw[z8,hg];dsimp only;rw[e1]
 have e3:qa f (qa g (qa h (ret []))) ρ=.ok ([a,b,c],ρ):=by rw[z8,hf];dsimp only;rw[e2]
 rw[u9,e3]
 dsimp only
 rw[e]
theorem zj {F:List D->Option D} {f:M D} {ρ:Env} {a d:D} (hf:f ρ=.ok (a,ρ)) (e:F [a]=some d):qp F (qa f (ret [])) ρ=.ok (d,ρ):=by
 have e0:qa f (ret []) ρ=.ok ([a],ρ):=by rw[z8,hf];rfl
 rw[wB,e0]
 dsimp only
 rw[e]
theorem qeg(i j:Int):wn [.int i,.int j]=some (.int (if j<i then j else i)):=rfl
theorem sl_tup(xs:List D)(a b:Option Int):slD (.tup xs) a b=some (.tup (qa4 xs a b)):=rfl
theorem qj6 {α:Type} {e:M D} {t:M Bool} {k f:α->D} {p:α->Bool} {r:Env}:∀(as:List α)(acc:List D)(o:Option D),(∀a∈as,t (some (k a)::r)=.ok (p a,some (k a)::r))->(∀a∈as,p a=true->e (some (k a)::r)=.ok (f a,some (k a)::r))->acc.length+as.length<=1000000 ->
  ∃o',zB (qt 0) t e (as.map k) acc (o::r)=.ok (acc++(as.filter p).map f,o'::r)
 | [],acc,o,_,_,_=>⟨o,by simp[zB]⟩
 | a::as,acc,o,ht,he,hl=>by
  have hl':acc.length+(as.length+1)<=1000000:=hl
  have h1:=ht a mS_
  rw[mC_]
  unfold zB
  simp only[qt,ybM,h1]
  cases hp:p a with
  |false=>
   obtain⟨o',q⟩:=qj6 as acc (some (k a)) (λx hx=>ht x (mM _ hx)) (λx hx=>he x (mM _ hx)) (by omega)
   refine⟨o',?_⟩
   simp only[q,ft_,hp,ya0,if_false]
  |true=>
   obtain⟨o',q⟩:=qj6 as (acc++[f a]) (some (k a)) (λx hx=>ht x (mM _ hx)) (λx hx=>he x (mM _ hx)) (by rw[lA_,yaC];omega)
   refine⟨o',?_⟩
   simp only[he a mS_ hp,zx (show acc.length+1<=1000000 by omega),if_true,q,ft_,hp,mC_,aA_,yeG]
theorem qiC {α:Type} {e:M D} {t:M Bool} {k:α->D} {xs:M (List D)} {ρ r:Env} {fr:List Nat} (as:List α) (p:α->Bool) (f:α->D) (hx:xs ρ=.ok (as.map k,ρ)) (hr:yp 1 fr ρ=none::r) (hl:as.length<=1000000)
  (ht:∀a∈as,t (some (k a)::r)=.ok (p a,some (k a)::r)) (he:∀a∈as,p a=true->e (some (k a)::r)=.ok (f a,some (k a)::r)):zo 1 fr none xs (qt 0) t e ρ=.ok (.lst ((as.filter p).map f),ρ):=by
 obtain⟨o',q⟩:=qj6 as [] none ht he (by simpa using hl)
 rw[qbE,hx]
 simp only[hr,q,ybO]
 rfl
theorem qaF{α:Type}(as:List α):as.filter (λ_=>true)=as:=by simp
theorem uL {α:Type} {e:M D} {k:α->D} {xs:M (List D)} {ρ r:Env} {fr:List Nat} (as:List α) (f:α->D) (hx:xs ρ=.ok (as.map k,ρ)) (hr:yp 1 fr ρ=none::r) (hl:as.length<=1000000)
  (he:∀a∈as,e (some (k a)::r)=.ok (f a,some (k a)::r)):zo 1 fr none xs (qt 0) (ret true) e ρ=.ok (.lst (as.map f),ρ):=by
 rw[qiC as (λ_=>true) f hx hr hl (λ_ _=>rfl) λa ha _=>he a ha,qaF]
theorem qaG {α β:Type} {G:D->Env->Option Env} {b:MS} {k:α->D} {step:β->α->β} {Inv:Nat->β->Env->Prop}:∀(as:List α)(n:Nat)(s:β)(ρ:Env),Inv n s ρ ->
  (∀a∈as,∀m s ρ,n<=m->m<n+as.length->Inv m s ρ->∃ρ1 ρ2,G (k a) ρ=some ρ1/\b ρ1=.ok (.nx ρ2)/\Inv (m+1) (step s a) ρ2) ->
  ∃ρ',yk G b (as.map k) ρ=.ok (.nx ρ')/\Inv (n+as.length) (as.foldl step s) ρ'
 | [],n,s,ρ,h,_=>⟨ρ,rfl,h⟩
 | a::as,n,s,ρ,h,H=>by
  obtain⟨ρ1,ρ2,h1,h2,h3⟩:=H a mS_ n s ρ (yah _) (by rw[lC_];omega) h
  obtain⟨ρ',q,w⟩:=qaG as (n+1) (step s a) ρ2 h3 λx hx m s ρ m1 m2=>H x (mM _ hx) m s ρ (by omega) (by rw[lC_];omega)
  refine⟨ρ',?_,?_⟩
  ·rw[mC_]
   unfold yk
   simp only[h1,h2]
   exact q
  ·rw[lC_,show n+(as.length+1)=n+1+as.length by omega]
   exact w
theorem vo{f:M D}{ρ:Env}{a:D}(hf:f ρ=.ok (a,ρ)):qa f (ret []) ρ=.ok ([a],ρ):=by rw[z8,hf];rfl
theorem qaU{f g:M D}{ρ:Env}{a b:D}(hf:f ρ=.ok (a,ρ))(hg:g ρ=.ok (b,ρ)):qa f (qa g (ret [])) ρ=.ok ([a,b],ρ):=by rw[z8,hf];simp only[vo hg]
theorem qj7{f g h:M D}{ρ:Env}{a b c:D}(hf:f ρ=.ok (a,ρ))(hg:g ρ=.ok (b,ρ))(hh:h ρ=.ok (c,ρ)):qa f (qa g (qa h (ret []))) ρ=.ok ([a,b,c],ρ):=by rw[z8,hf];simp only[qaU hg hh]
theorem qgD{F:List D->R D}{f:M D}{ρ:Env}{a d:D}(hf:f ρ=.ok (a,ρ))(e:F [a]=.ok d):qq F (qa f (ret [])) ρ=.ok (d,ρ):=by rw[u9,vo hf];simp only[e]
theorem qcJ{F:List D->R D}{f g:M D}{ρ:Env}{a b d:D}(hf:f ρ=.ok (a,ρ))(hg:g ρ=.ok (b,ρ))(e:F [a,b]=.ok d):qq F (qa f (qa g (ret []))) ρ=.ok (d,ρ):=by rw[u9,qaU hf hg];simp only[e]
theorem qs{F:D->D->Option D}{f g:M D}{ρ:Env}{a b d:D}(hf:f ρ=.ok (a,ρ))(hg:g ρ=.ok (b,ρ))(e:F a b=some d):d2 F f g ρ=.ok (d,ρ):=by rw[qmm,hf];simp only[hg,e]
theorem jy{f:M D}{ρ:Env}{b:Bool}(hf:f ρ=.ok (.bl b,ρ)):tst f ρ=.ok (b,ρ):=by rw[qjB,hf];rfl
theorem qeR{t:M Bool}{p q:MS}{ρ:Env}(h:t ρ=.ok (true,ρ)):sif t p q ρ=p ρ:=by rw[qhr,h];rfl
theorem qdr{t:M Bool}{p q:MS}{ρ:Env}(h:t ρ=.ok (false,ρ)):sif t p q ρ=q ρ:=by rw[qhr,h];rfl
theorem v5 {i:Nat} {f:M D} {ρ:Env} {ds:List D} {d:D} (h:zJ i ρ=some ds) (hf:f ρ=.ok (d,ρ)) (hi:imm d=true) (hl:ds.length<1000000):jr (qV i f) ρ=.ok (.nx (ρ.set i (some (.lst (ds++[d]))))):=by
 simp only[vH,qaw,h,hf,hi,zx (show ds.length+1<=1000000 by omega),yaZ,if_true]
theorem zV {G:D->Env->Option Env} {b:MS} {d:D} {ds:List D} {ρ ρ1 ρ2:Env} (h1:G d ρ=some ρ1) (h2:b ρ1=.ok (.nx ρ2)):yk G b (d::ds) ρ=yk G b ds ρ2:=by
 show(match G d ρ with|none=>R.bad|some ρ1=>_)=_
 rw[h1]
 simp only[h2]
theorem io1 {F:List D->List D->R (D×List D)} {i:Nat} {f:M D} {ρ:Env} {ds ds':List D} {a d:D} (h:zJ i ρ=some ds) (hf:f ρ=.ok (a,ρ)) (e:F ds [a]=.ok (d,ds')):qm F i (qa f (ret [])) ρ=.ok (d,ρ.set i (some (.lst ds'))):=by
 simp only[vU,h,vo hf,e]
def mD:Option Int->D
 |none => .non
 |some j => .int j
abbrev Kd:=Int×Int×Option Int
def kD(x:Kd):D:=.tup [.int x.1,.int x.2.1,mD x.2.2]
theorem qbT {α:Type} {f:α->D}:∀{as:List α},(∀a∈as,imm (f a)=true)->immL (as.map f)=true
 | [],_=>rfl
 |a::as,h=>by simp only[mC_,immL,h a mS_,qbT λx hx=>h x (mM _ hx),yaZ]
def okK(x:Kd):Prop:=0<x.1/\0<=x.2.1/\(∀j,x.2.2=some j->0<=j)
theorem qgE {x:Kd} (h:okK x):vw (kD x)=true:=by
 obtain⟨a,b,m⟩:=x
 obtain⟨h1,h2,h3⟩:=h
 have e1:qgy (.int a)=true:=decide_eq_true h1
 have e2:zq (.int b)=true:=decide_eq_true h2
 cases m with
 |none=>simp only[kD,mD,vw,e1,e2,uI,yaT,Bool.true_or]
 |some j=>
  have e3:zq (.int j)=true:=decide_eq_true (h3 j rfl)
  simp only[kD,mD,vw,e1,e2,e3,yaT,yfe]
theorem qeh(m:Option Int):uI (mD m)=m.isNone:=by cases m<;>rfl
theorem qlX {α:Type} {ds:List α} {n:Nat} {d:α} (h:ds[n]? = some d):atI ds (n:Int)=some d:=by
 unfold atI ixN
 have hl:=(gI_.mp h).1
 rw[if_pos (by omega),if_pos (by omega)]
 show ds[(n:Int).toNat]? = _
 rw[ybc];exact h
theorem v6 {α:Type} {as:List α} {f:α->Bool}:qcX [.lst (as.map λa=>D.bl (f a))]=some (.bl (as.all f)):=by
 have:yI (as.map λa=>D.bl (f a))=some (as.map f):=by
  have:=qee (as.map f)
  rw[mm_]at this
  exact this
 simp only[qcX,this,yee]
 congr 2
 rw[yfh]
 rfl
theorem qgF {α:Type} {e:M D} {t:M Bool} {u v f:α->D} {p:α->Bool} {r:Env}:∀(as:List α)(acc:List D)(o o':Option D),(∀a∈as,t (some (u a)::some (v a)::r)=.ok (p a,some (u a)::some (v a)::r))->(∀a∈as,p a=true->e (some (u a)::some (v a)::r)=.ok (f a,some (u a)::some (v a)::r))->acc.length+as.length<=1000000 ->
  ∃o1 o2,zB (qc5 2 (jI (qt 0) (jI (qt 1) qc4))) t e (as.map λa => .tup [u a,v a]) acc (o::o'::r)=.ok (acc++(as.filter p).map f,o1::o2::r)
 | [],acc,o,o',_,_,_=>⟨o,o',by simp[zB]⟩
 | a::as,acc,o,o',ht,he,hl=>by
  have hl':acc.length+(as.length+1)<=1000000:=hl
  have h1:=ht a mS_
  rw[mC_]
  unfold zB
  have hg:qc5 2 (jI (qt 0) (jI (qt 1) qc4)) (.tup [u a,v a]) (o::o'::r)=some (some (u a)::some (v a)::r):=rfl
  simp only[hg,h1]
  cases hp:p a with
  |false=>
   obtain⟨o1,o2,q⟩:=qgF as acc (some (u a)) (some (v a)) (λx hx=>ht x (mM _ hx)) (λx hx=>he x (mM _ hx)) (by omega)
   refine⟨o1,o2,?_⟩
   simp only[q,ft_,hp,ya0,if_false]
  |true=>
   obtain⟨o1,o2,q⟩:=qgF as (acc++[f a]) (some (u a)) (some (v a)) (λx hx=>ht x (mM _ hx)) (λx hx=>he x (mM _ hx)) (by rw[lA_,yaC];omega)
   refine⟨o1,o2,?_⟩
   simp only[he a mS_ hp,zx (show acc.length+1<=1000000 by omega),if_true,q,ft_,hp,mC_,aA_,yeG]
theorem qj8 {α:Type} {e:M D} {t:M Bool} {u v:α->D} {xs:M (List D)} {ρ r:Env} {fr:List Nat} (as:List α) (p:α->Bool) (f:α->D) (hx:xs ρ=.ok (as.map λa => .tup [u a,v a],ρ)) (hr:yp 2 fr ρ=none::none::r) (hl:as.length<=1000000)
  (ht:∀a∈as,t (some (u a)::some (v a)::r)=.ok (p a,some (u a)::some (v a)::r)) (he:∀a∈as,p a=true->e (some (u a)::some (v a)::r)=.ok (f a,some (u a)::some (v a)::r)):zo 2 fr none xs (qc5 2 (jI (qt 0) (jI (qt 1) qc4))) t e ρ=.ok (.lst ((as.filter p).map f),ρ):=by
 obtain⟨o1,o2,q⟩:=qgF as [] none none ht he (by simpa using hl)
 rw[qbE,hx]
 simp only[hr,q,ybO]
 rfl
theorem qlY (n:Nat):qbB 0 n=(yay n).map λi=>D.int (i:Nat):=by
 unfold qbB
 refine ye0 λi _=>?_
 rw[Int.zero_add]
theorem qj9 (l:List Nat):neB (.lst (l.map λi=>D.int (i:Nat))) (.lst [])=some (.bl (!l.isEmpty)):=by
 have h:∀l:List Nat,ybl (toPDs (l.map λi=>D.int (i:Nat)))=true/\yaG (toPDs (l.map λi=>D.int (i:Nat)))=0:=λl=>by
  induction l with
  |nil=>exact⟨rfl,rfl⟩
  |cons n ns ih=>exact⟨by simp only[mC_,toPDs,qR,ybl,yca,ih.1,yaZ],by simp only[mC_,toPDs,qR,yaG,ya1,ih.2];rfl⟩
 obtain⟨h1,h2⟩:=h l
 have o1:qa8 (.lst (l.map λi=>D.int (i:Nat)))=true:=by
  simp only[qa8,qR,yca,ya1,h1,h2]
  rfl
 have e:neB (.lst (l.map λi=>D.int (i:Nat))) (.lst [])=neA (.lst (l.map λi=>D.int (i:Nat))) (.lst []):=rfl
 rw[e]
 unfold neA
 rw[o1]
 cases l with
 |nil=>rfl
 |cons n l=>rfl
end Law
end L2.Sk
namespace L2.Sk.Law
def qnM:Nat->(Nat->Nat)->Nat
 |0,_=>0
 |n+1,f=>qnM n f+f n
structure Kw where
 w:Int
 v:Int
 m:Option Int
def okT(k:Kw)(t:Nat)(r:Int):Bool:=decide ((t:Int)*k.w<=r)&&(match k.m with|none=>true|some j=>decide ((t:Int)<=j))
def qnN (N:Nat) (φ:Int->Nat):List Kw->Int->Int->Nat
 | [],_,y=>φ y
 |k::ks,r,y=>qnM (N+1) λt=>if okT k t r then qnN N φ ks (r-t*k.w) (y+t*k.v)else 0
def ofn(k:Kw)(r:Int):Nat:=(match k.m with|none=>r/k.w|some j=>if j<r/k.w then j else r/k.w).toNat
theorem qka {k:Kw} (hw:1<=k.w) (hm:∀j,k.m=some j->0<=j) {r:Int} (hr:0<=r) (t:Nat):okT k t r=decide (t<=ofn k r):=by
 have hd:0<=r/k.w:=yej hr (by omega)
 have he:((t:Int)*k.w<=r) ↔ ((t:Int)<=r/k.w):=(Int.le_ediv_iff_mul_le (by omega)).symm
 unfold okT ofn
 cases hk:k.m with
 |none=>
  dsimp only
  rw[Bool.and_true,ybm,decide_eq_true_eq,decide_eq_true_eq,he]
  omega
 |some j=>
  have hj:=hm j hk
  dsimp only
  rw[ybm,yal,decide_eq_true_eq,decide_eq_true_eq,decide_eq_true_eq,he]
  split<;>omega
theorem qiD {k:Kw} (hw:1<=k.w) (hm:∀j,k.m=some j->0<=j) {r:Int} (hr:0<=r) {t:Nat} (h:t<=ofn k r):(t:Int)*k.w<=r/\(t:Int)<=r:=by
 have h1:okT k t r=true:=by rw[qka hw hm hr];exact decide_eq_true h
 unfold okT at h1
 rw[yal,decide_eq_true_eq]at h1
 refine⟨h1.1,Int.le_trans ?_ h1.1⟩
 have:=Int.mul_le_mul_of_nonneg_left hw (show(0:Int)<=t by omega)
 omega
def qiE:List Kw->List Int->Int
 |k::ks,t::ts=>t*k.v+qiE ks ts
 |_,_=>0
def qiF(k:Kw):Prop:=1<=k.w/\∀j,k.m=some j->0<=j
end L2.Sk.Law
namespace L2.Sk
namespace Law
open PySem PySem.Spec PyProof.Rows
set_option maxHeartbeats 4000000
def Zn(ks:List Kw)(s z:Int):Nat:=qnN 20 (λy=>if y=z then 1 else 0) ks s 0
structure qnO (ks:List Kw) (s:Int) (p:Int×Nat):Prop where
 at_:Zn ks s p.1=p.2
 pos:0<p.2
 no:∀z,p.1<z->Zn ks s z=0
theorem qmq{t u:M Bool}{ρ:Env}(h1:t ρ=.ok (true,ρ)):tor t u ρ=.ok (true,ρ):=by rw[qhp,h1];rfl
theorem wT{F:List D->R D}{f g h:M D}{ρ:Env}{a b c d:D}(hf:f ρ=.ok (a,ρ))(hg:g ρ=.ok (b,ρ))(hh:h ρ=.ok (c,ρ))(e:F [a,b,c]=.ok d):qq F (qa f (qa g (qa h (ret [])))) ρ=.ok (d,ρ):=qm7 hf hg hh e
theorem qei (xs:List D) (j:Nat) (h:j<=xs.length):qa4 xs none (some (j:Int))=xs.take j:=by
 unfold qa4
 rw[HT.sIx_none,HT.sIx_nat,yda h]
 simp
theorem qgG {xs:List D} {a b:Option Int} {d:D} (h:d∈qa4 xs a b):d∈xs:=by
 unfold qa4 at h
 exact yby (ydb h)
theorem uo{i:Nat}{f:M D}{ρ ρ1:Env}{d:D}(h:f ρ=.ok (d,ρ1)):zC i f ρ=.ok (.nx (ρ1.set i (some d))):=by rw[qdX,h]
theorem jm{f:M D}{ρ ρ1:Env}{d:D}(h:f ρ=.ok (d,ρ1)):zK f ρ=.ok (.rt d ρ1):=by rw[qa9,h]
end Law
end L2.Sk
namespace L2.Sk.Law
def qlZ:List Kw->Int->List (List Int)
 | [],_=>[[]]
 |k::ks,r=>(yay (ofn k r+1)).flatMap λt:Nat=>(qlZ ks (r-(t:Int)*k.w)).map λl=>(t:Int)::l
end L2.Sk.Law
namespace L2.Srt
open PySem PySem.W PyProof.Rows
section
variable(ks:List Int)
end
section
variable{ks:List Int}
end
end L2.Srt
namespace L2.Sk.Law
def sgK(k:Kw):Prop:=1<=k.w/\0<=k.v/\(k.m=some 0\/k.m=some 1)
theorem sgK.kd{k:Kw}(h:sgK k):qiF k:=⟨h.1,λj e=>by rcases h.2.2 with q|q<;>rw[q]at e<;>cases e<;>decide⟩
def tm(k:Kw):Nat:=(k.m.getD 0).toNat
def qm8:List Kw->List (List Int)
 | []=>[[]]
 |k::ks=>(yay (tm k+1)).flatMap λt:Nat=>(qm8 ks).map λl=>(t:Int)::l
def qgH:List Kw->List Int->Int
 |k::ks,t::ts=>t*k.w+qgH ks ts
 |_,_=>0
abbrev T3:=Int×Int×List Int
def wg(ks:List Kw)(l:List Int):T3:=(qgH ks l,qiE ks l,l)
structure Kp (P kept:List T3):Prop where
 sub:∀x∈kept,x∈P
 dom:∀x∈P,∃y∈kept,y.1<=x.1/\x.2.1<=y.2.1
 top:∀y,kept.getLast? = some y->∀x∈P,x.2.1<=y.2.1
 rise:kept.Pairwise λx y=>x.1<y.1/\x.2.1<y.2.1
theorem qkb {l:List Int} (h:l≠[]):qdg l∈l:=by
 cases l with
 |nil=>exact absurd rfl h
 |cons a l=>exact qbF a l
def bb(one:T3)(S:List T3)(r:Int):Int:=one.2.1+qdg ((S.filter λo=>decide (o.1<=r-one.1)).map λo=>o.2.1)
section
variable{a b:List Kw}(ha:∀k∈a,sgK k)(hb:∀k∈b,sgK k){r:Int}(hr:0<=r)
include ha hb hr
end
section
variable{a b:List Kw}(ha:∀k∈a,sgK k)(hb:∀k∈b,sgK k){r:Int}(hr:0<=r)
include ha hb hr
end
end L2.Sk.Law
namespace L2.Sk
namespace Law
open PySem PySem.Spec PyProof.Rows
def top(i:Nat):Stmt:=PySem.Challenge.pw_sackloads_k31_table_papers.main.body.getD i (.Pass ⟨0,0,0,0⟩)
abbrev z9:Stmt:=top 43
abbrev jg:Stmt:=top 19
abbrev jW:Stmt:=top 24
abbrev jz:Stmt:=top 25
abbrev jv:Stmt:=top 26
abbrev jX:Stmt:=top 30
abbrev jY:Stmt:=top 22
abbrev yB:Stmt:=top 13
abbrev yC:Stmt:=top 14
abbrev ja:Stmt:=top 18
abbrev uq:Stmt:=top 15
abbrev jZ:Stmt:=top 16
abbrev jb:Stmt:=top 17
abbrev jc:Stmt:=top 23
abbrev zN:Stmt:=top 33
abbrev jd:Stmt:=top 31
abbrev uA:Stmt:=top 28
abbrev yP:Stmt:=top 29
abbrev zP:Stmt:=top 32
abbrev j4:Stmt:=top 47
abbrev j6:Stmt:=top 38
abbrev zk:Stmt:=top 46
abbrev zl:Stmt:=top 44
abbrev jA:Stmt:=top 39
abbrev zc:Stmt:=top 45
abbrev zr:Stmt:=top 42
abbrev zW:Stmt:=top 40
abbrev zX:Stmt:=top 41
abbrev yD:Stmt:=top 36
abbrev j7:Stmt:=top 35
abbrev yE:Stmt:=top 37
abbrev qaH:Stmt:=top 48
structure Txt (K:yai) (mg:Str->Option Value):Prop where
 b_ValueError:mg "ValueError"=none
 b_abs:mg "abs"=none
 b_all:mg "all"=none
 b_bool:mg "bool"=none
 b_divmod:mg "divmod"=none
 b_enumerate:mg "enumerate"=none
 b_int:mg "int"=none
 b_isinstance:mg "isinstance"=none
 b_len:mg "len"=none
 b_list:mg "list"=none
 b_max:mg "max"=none
 b_min:mg "min"=none
 b_range:mg "range"=none
 b_repr:mg "repr"=none
 b_tuple:mg "tuple"=none
 b_zip:mg "zip"=none
 c_ASKED_AT_MOST:∃t,mg "ASKED_AT_MOST"=some (.int 200 t)
 c_KINDS_AT_MOST:∃t,mg "KINDS_AT_MOST"=some (.int 12 t)
 c_MOST:∃t,mg "MOST"=some (.int 2 t)
 c_WEIGHT:∃t,mg "WEIGHT"=some (.int 0 t)
 c_WORTH:∃t,mg "WORTH"=some (.int 1 t)
def RN:List Str:=["TooMany","NoNumber","NoStore"]
def TN:List Str:=["SackError","NoText","NotSingle","TooMany","NoLoad","NoNumber","NoStore"]
noncomputable def yg:MS :=
  (qH (sif (tor (vK (tst (qeM RN "SackError" (dv 0)))) (vK (tst (qeM RN "ValueError" (dv 0))))) (zK (ret (.str "other"))) ju)
  (qH (zC 1 (jP (qa (qeM RN "NoStore" (dv 0)) (qa (qeM RN "NoNumber" (dv 0)) (qa (qeM RN "NoLoad" (dv 0)) (qa (qeM RN "TooMany" (dv 0)) (ret [])))))))
  (qH (zC 1 (d2 qU (dv 1) (jP (qa (qeM RN "NotSingle" (dv 0)) (qa (qeM RN "NoText" (dv 0)) (ret []))))))
  (qH (sif (tst (d2 neS (qf6 qcA (dv 1) (qa (ret (.bl true)) (ret []))) (ret (.int 1)))) (zK (ret (.str "other"))) ju)
  (zK (d2 ixD (jP (qa (ret (.str "store")) (qa (ret (.str "number")) (qa (ret (.str "load")) (qa (ret (.str "many")) (qa (ret (.str "single")) (qa (ret (.str "text")) (ret [])))))))) (qf6 qcB (dv 1) (qa (ret (.bl true)) (ret [])))))))))
noncomputable def jB:List D->R D:=dfn 2 1 yg
noncomputable def uB:MS :=
  (qH (zC 2 (d2 vz (dv 1) (d2 ixD (dv 0) (ret (.int 0)))))
  (zK (dif (tst (d2 isN (d2 ixD (dv 0) (ret (.int 2))) (ret .non))) (dv 2) (qp wn (qa (dv 2) (qa (d2 ixD (dv 0) (ret (.int 2))) (ret [])))))))
noncomputable def jL:List D->R D:=dfn 3 2 uB
noncomputable def vI:MS :=
  (zK (d2 qfx (dv 2) (d2 uS (dv 1) (d2 ixD (dv 0) (ret (.int 0))))))
noncomputable def yQ:List D->R D:=dfn 3 3 vI
noncomputable def uY:MS :=
  (zK (d2 qU (d2 uS (dv 1) (d2 ixD (dv 0) (ret (.int 1)))) (d2 ixD (dv 2) (qq yQ (qa (dv 0) (qa (dv 1) (qa (dv 3) (ret []))))))))
noncomputable def yh:List D->R D:=dfn 4 4 uY
noncomputable def vJ:MS :=
  (zK (qp qdh (qa (zo 1 [0,1,2] none (zn (qa (d2 qU (qq jL (qa (dv 0) (qa (dv 2) (ret [])))) (ret (.int 1))) (ret []))) (qt 0) (ret true) (qq yh (qa (dv 1) (qa (dv 0) (qa (dv 2) (qa (dv 3) (ret []))))))) (ret []))))
noncomputable def yR:List D->R D:=dfn 3 3 vJ
noncomputable def wJ:MS :=
  (zK (qp yZ (qa (zo 1 [0,1] none (zn (qa (qp ud (qa (dv 1) (ret []))) (ret []))) (qt 0) (ret true) (qq yR (qa (dv 1) (qa (dv 2) (qa (dv 0) (ret [])))))) (ret []))))
noncomputable def zY:List D->R D:=dfn 2 2 wJ
noncomputable def ur:MS :=
  (sif (tst (d2 gtD (dv 0) (ret (.int 200)))) (qbc "TooMany" (qa (ret (.str "a room or a worth greater than 200 is asked for")) (ret []))) ju)
noncomputable def yF:List D->R D:=qaR 1 1 ur
noncomputable def wK:MS :=
  (zK (qcW (qa2 "int" (dv 0)) (qk7 (qa2 "bool" (dv 0)))))
noncomputable def ve:List D->R D:=dfn 1 1 wK
noncomputable def wL:MS :=
  (zK (qcW (qq ve (qa (dv 0) (ret []))) (d2 geD (dv 0) (ret (.int 0)))))
noncomputable def jh:List D->R D:=dfn 1 1 wL
noncomputable def yi:MS :=
  (sif (vK (tst (qq jh (qa (dv 0) (ret []))))) (qbc "NoNumber" (qa (ret (.str "this is no whole number from 0 on")) (ret []))) ju)
noncomputable def jC:List D->R D:=qaR 1 1 yi
noncomputable def qaI:MS :=
  (qH (sif (tor (vK (tst (qa2 "tuple" (dv 0)))) (tst (d2 neB (qp ud (qa (dv 0) (ret []))) (ret (.int 3))))) (zK (ret (.bl false))) ju)
  (qH (sif (tor (vK (tst (qq jh (qa (d2 ixD (dv 0) (ret (.int 0))) (ret []))))) (tst (d2 eqB (d2 ixD (dv 0) (ret (.int 0))) (ret (.int 0))))) (zK (ret (.bl false))) ju)
  (zK (qcW (qq jh (qa (d2 ixD (dv 0) (ret (.int 1))) (ret []))) (dor (d2 isN (d2 ixD (dv 0) (ret (.int 2))) (ret .non)) (qq jh (qa (d2 ixD (dv 0) (ret (.int 2))) (ret []))))))))
noncomputable def uZ:List D->R D:=dfn 1 1 qaI
noncomputable def wM:MS :=
  (qH (sif (tor (vK (tst (qa2 "tuple" (dv 0)))) (tst (d2 gtD (qp ud (qa (dv 0) (ret []))) (ret (.int 12))))) (zK (ret (.bl false))) ju)
  (zK (qp qcX (qa (zo 1 [] none (yt (dv 0)) (qt 0) (ret true) (qq uZ (qa (dv 0) (ret [])))) (ret [])))))
noncomputable def vf:List D->R D:=dfn 1 1 wM
noncomputable def ua:MS :=
  (sif (vK (tst (qq vf (qa (dv 0) (ret []))))) (qbc "NoStore" (qa (ret (.str "this is no store")) (ret []))) ju)
noncomputable def ub:List D->R D:=qaR 1 1 ua
noncomputable def jD:MS :=
  (qH (jr (ul RN ub (qa (dv 0) (ret []))))
  (qH (jr (ul RN jC (qa (dv 1) (ret []))))
  (jr (ul RN yF (qa (dv 1) (ret []))))))
noncomputable def qT:List D->R D:=qaR 2 2 jD
noncomputable def jM:MS :=
  (qH (jr (ul RN qT (qa (dv 0) (qa (dv 1) (ret [])))))
  (qH (yK 2 (qaT (qa (d2 qgt (jf (qa (ret (.int 0)) (ret []))) (d2 qU (dv 1) (ret (.int 1)))) (ret []))))
  (qH (vn (yt (dv 0)) (qt 3) (jr (qV 2 (qq zY (qa (dv 3) (qa (qa6 2 (d1 uw (ret (.int 1)))) (ret [])))))))
  (qjl 2))))
noncomputable def ji:List D->R D:=qaR 4 2 jM
noncomputable def u0:MS :=
  (zK (qp qcX (qa (zo 2 [] none (qlr (qa (dv 0) (qa (dv 1) (ret [])))) (qc5 2 (jI (qt 0) (jI (qt 1) qc4))) (ret true) (d2 geD (dv 0) (dv 1))) (ret []))))
noncomputable def jE:List D->R D:=dfn 2 2 u0
noncomputable def qbU:MS :=
  (qH (sif (tor (vK (tst (qa2 "tuple" (dv 0)))) (tst (d2 neB (qp ud (qa (dv 0) (ret []))) (d2 qU (dv 1) (ret (.int 1)))))) (zK (ret (.bl false))) ju)
  (zK (qp qcX (qa (zo 1 [] none (yt (dv 0)) (qt 0) (ret true) (qq jh (qa (dv 0) (ret [])))) (ret [])))))
noncomputable def v7:List D->R D:=dfn 2 2 qbU
noncomputable def qaJ:MS :=
  (qH (sif (tor (vK (tst (qa2 "list" (dv 0)))) (tst (d2 neB (qp ud (qa (dv 0) (ret []))) (d2 qU (qp ud (qa (dv 1) (ret []))) (ret (.int 1)))))) (zK (ret (.bl false))) ju)
  (zK (qp qcX (qa (zo 1 [2] none (yt (dv 0)) (qt 0) (ret true) (qq v7 (qa (dv 0) (qa (dv 1) (ret []))))) (ret [])))))
noncomputable def v8:List D->R D:=dfn 3 3 qaJ
noncomputable def zQ:MS :=
  (qH (jr (ul RN qT (qa (dv 1) (qa (dv 2) (ret [])))))
  (qH (sif (vK (tst (qq v8 (qa (dv 0) (qa (dv 1) (qa (dv 2) (ret []))))))) (zK (ret .non)) ju)
  (qH (vn (qde (qa (dv 1) (ret []))) (qc5 2 (jI (qt 3) (jI (qt 4) qc4))) (sif (vK (tst (qq jE (qa (d2 ixD (dv 0) (d2 qU (dv 3) (ret (.int 1)))) (qa (qq zY (qa (dv 4) (qa (d2 ixD (dv 0) (dv 3)) (ret [])))) (ret [])))))) (zK (ret .non)) ju))
  (zK (d2 ixD (d2 ixD (dv 0) (d1 uw (ret (.int 1)))) (d1 uw (ret (.int 1))))))))
noncomputable def qD:List D->R D:=qaR 5 3 zQ
noncomputable def jw:MS :=
  (qga RN (qH (sif (tst (d2 eqB (dv 0) (ret (.int 0)))) (zK (ul RN qD (qa (ret .non) (qa (dv 1) (qa (dv 2) (ret [])))))) ju)
  (zK (ul RN ji (qa (dv 1) (qa (dv 2) (ret [])))))) jB)
noncomputable def qv:List D->R D:=dfn 4 3 jw
noncomputable def uC:MS :=
  (qH (qla (qp qaq (qa (qa6 0 (ret (.int 0))) (qa (dv 1) (ret [])))) (qc5 2 (jI (qt 2) (jI (qt 3) qc4))))
  (qH (qhg 0 (ret (.int 0)) (dv 2))
  (zK (dv 3))))
noncomputable def qj:List D->List D->R (D×List D):=vF 4 2 uC
noncomputable def yS:MS :=
  (qH (zC 3 (qm qj 0 (qa (qp ud (qa (dv 1) (ret []))) (ret []))))
  (qH (zC 4 (d2 ixD (dv 1) (dv 3)))
  (qH (zC 5 (qm qj 0 (qa (qp ud (qa (dv 4) (ret []))) (ret []))))
  (qH (zC 6 (d2 ixD (dv 4) (dv 5)))
  (qH (zC 7 (zo 1 [4,5] none (yt (jP (qa (d2 qfx (dv 6) (ret (.int 1))) (qa (d2 qU (dv 6) (ret (.int 1))) (qa (d2 eqB (dv 6) (ret (.int 1))) (qa (ret .non) (qa (d1 uw (ret (.int 1))) (qa (dv 2) (qa (d2 qU (dv 6) (ret (.int 5))) (ret [])))))))))) (qt 0) (ret true) (d2 qU (d2 qU (qbJ (dv 1) (ret none) (uj (dv 2))) (jf (qa (dv 0) (ret [])))) (qbJ (dv 1) (uj (d2 qU (dv 2) (ret (.int 1)))) (ret none)))))
  (qH (zC 7 (d2 qU (dv 7) (jP (qa (qbJ (dv 4) (uj (ret (.int 1))) (ret none)) (qa (d2 qU (dv 4) (jf (qa (dv 6) (ret [])))) (qa (qp qc8 (qa (dv 4) (ret []))) (qa (vY (dv 4)) (qa (qp yZ (qa (zo 1 [] none (yt (dv 4)) (qt 0) (ret true) (d2 qU (dv 0) (ret (.int 3)))) (ret []))) (ret [])))))))))
  (qH (zC 8 (qm qj 0 (qa (ret (.int 16)) (ret []))))
  (qH (sif (tst (d2 ltD (dv 8) (ret (.int 12)))) (zK (d2 qU (d2 qU (qbJ (dv 1) (ret none) (uj (dv 3))) (jP (qa (d2 ixD (dv 7) (dv 8)) (ret [])))) (qbJ (dv 1) (uj (d2 qU (dv 3) (ret (.int 1)))) (ret none)))) ju)
  (qH (zC 9 (zo 1 [] none (yt (dv 1)) (qt 0) (ret true) (qp yZ (qa (zo 1 [] none (yt (dv 0)) (qt 0) (ret true) (d2 qU (dv 0) (ret (.int 2)))) (ret [])))))
  (zK (d2 ixD (jP (qa (qp yZ (qa (dv 1) (ret []))) (qa (qbJ (dv 1) (ret none) (uj (d1 uw (ret (.int 1))))) (qa (d2 qU (dv 1) (qbJ (dv 1) (uj (d1 uw (ret (.int 1)))) (ret none))) (qa (dv 9) (ret [])))))) (d2 qfx (dv 8) (ret (.int 12))))))))))))))
noncomputable def qL:List D->List D->R (D×List D):=vF 10 3 yS
noncomputable def yT:MS :=
  (qH (qla (dv 1) (qc5 3 (jI (qt 3) (jI (qt 4) (jI (qt 5) qc4)))))
  (qH (yK 6 (qll (ret [])))
  (qH (vn (zn (qa (d2 qU (dv 2) (ret (.int 1))) (ret []))) (qt 7) (qH (zC 8 (dif (tst (d2 isN (dv 5) (ret .non))) (d2 vz (dv 7) (dv 3)) (qp wn (qa (dv 5) (qa (d2 vz (dv 7) (dv 3)) (ret []))))))
  (jr (qV 6 (qp qdh (qa (zo 1 [0,4,7,3] none (zn (qa (d2 qU (dv 8) (ret (.int 1))) (ret []))) (qt 0) (ret true) (d2 qU (d2 ixD (dv 1) (d2 qfx (dv 3) (d2 uS (dv 0) (dv 4)))) (d2 uS (dv 0) (dv 2)))) (ret [])))))))
  (zK (qeD 6)))))
noncomputable def qA:List D->R D:=dfn 9 3 yT
noncomputable def u3:MS :=
  (zK (qcW (qa2 "int" (dv 0)) (qk7 (qa2 "bool" (dv 0)))))
noncomputable def zd:List D->R D:=dfn 1 1 u3
noncomputable def js:MS :=
  (qH (sif (tor (vK (tst (qa2 "list" (dv 0)))) (tst (d2 neB (qp ud (qa (dv 0) (ret []))) (d2 qU (qp ud (qa (dv 1) (ret []))) (ret (.int 1)))))) (zK (ret .non)) ju)
  (qH (vn (yt (dv 0)) (qt 3) (qH (sif (tor (vK (tst (qa2 "tuple" (dv 3)))) (tst (d2 neB (qp ud (qa (dv 3) (ret []))) (d2 qU (dv 2) (ret (.int 1)))))) (zK (ret .non)) ju)
  (sif (vK (tst (qp qcX (qa (zo 1 [] none (yt (dv 3)) (qt 0) (ret true) (qcW (qq zd (qa (dv 0) (ret []))) (d2 geD (dv 0) (ret (.int 0))))) (ret []))))) (zK (ret .non)) ju)))
  (qH (vn (zn (qa (qp ud (qa (dv 1) (ret []))) (ret []))) (qt 4) (qH (zC 5 (qq qA (qa (d2 ixD (dv 0) (dv 4)) (qa (d2 ixD (dv 1) (dv 4)) (qa (dv 2) (ret []))))))
  (sif (tst (d2 neB (zo 1 [5,0,4] none (zn (qa (d2 qU (dv 2) (ret (.int 1))) (ret []))) (qt 0) (tst (d2 ltD (d2 ixD (d2 ixD (dv 2) (d2 qU (dv 3) (ret (.int 1)))) (dv 0)) (d2 ixD (dv 1) (dv 0)))) (dv 0)) (jP (ret [])))) (zK (ret .non)) ju)))
  (zK (d2 ixD (d2 ixD (dv 0) (d1 uw (ret (.int 1)))) (dv 2))))))
noncomputable def qN:List D->R D:=dfn 6 3 js
noncomputable def jt:MS :=
  (qH (zC 1 (jP (qa (ret .non) (qa (ret (.bl true)) (qa (ret (.bl false)) (qa (d1 uw (ret (.int 1))) (qa (ret (.str "")) (qa (ret (.str "1")) (qa (jf (qa (ret (.int 0)) (ret []))) (qa (jP (qa (ret (.int 1)) (ret []))) (qa (ret (.dic [(.inr "a",1)])) (qa (jf (qa (d1 uw (ret (.int 1))) (ret []))) (qa (jf (qa (ret (.bl true)) (ret []))) (qa (jf (qa (jf (qa (ret (.int 1)) (qa (ret (.int 2)) (ret [])))) (ret []))) (qa (jf (qa (ret .non) (ret []))) (qa (d2 qml (ret (.int 10)) (ret (.int 29))) (ret [])))))))))))))))))
  (qH (zC 1 (d2 qU (dv 1) (jP (qa (jf (qa (ret (.int 1)) (qa (ret (.int 2)) (qa (ret (.int 3)) (ret []))))) (qa (jf (qa (jf (qa (ret (.int 0)) (qa (ret (.int 1)) (qa (ret (.int 1)) (ret []))))) (ret []))) (qa (jf (qa (jf (qa (ret (.int 1)) (qa (d1 uw (ret (.int 1))) (qa (ret (.int 1)) (ret []))))) (ret []))) (qa (jf (qa (jf (qa (ret (.int 1)) (qa (ret (.int 1)) (qa (d1 uw (ret (.int 1))) (ret []))))) (ret []))) (qa (jP (qa (jf (qa (ret (.int 1)) (qa (ret (.int 1)) (qa (ret (.int 1)) (ret []))))) (ret []))) (qa (ret (.dic [(.inl 0,1)])) (qa (ret (.str "1/1*1")) (qa (jf (qa (jf (qa (ret (.int 1)) (qa (ret (.int 1)) (qa (ret (.bl true)) (ret []))))) (ret []))) (ret []))))))))))))
  (zK (d2 ixD (dv 1) (qm qj 0 (qa (ret (.int 22)) (ret [])))))))
noncomputable def qW:List D->List D->R (D×List D):=vF 2 1 jt
noncomputable def yd:MS :=
  (qH (zC 2 (qm qj 0 (qa (ret (.int 6)) (ret []))))
  (qH (qjx 3 4 (qa (d2 qU (ret (.int 1)) (qm qj 0 (qa (ret (.int 7)) (ret [])))) (qa (qm qj 0 (qa (ret (.int 10)) (ret []))) (ret []))))
  (qH (sif (tst (d2 eqB (dv 2) (ret (.int 1)))) (zC 4 (d2 uS (ret (.int 2)) (dv 3))) ju)
  (qH (sif (tst (d2 eqB (dv 2) (ret (.int 2)))) (zC 4 (d2 qU (dv 3) (qm qj 0 (qa (ret (.int 3)) (ret []))))) ju)
  (qH (sif (tst (d2 eqB (dv 2) (ret (.int 3)))) (qjx 3 4 (qa (d2 qU (ret (.int 1)) (qm qj 0 (qa (ret (.int 25)) (ret [])))) (qa (qm qj 0 (qa (ret (.int 40)) (ret []))) (ret [])))) ju)
  (qH (zC 5 (d2 ixD (jP (qa (ret (.int 1)) (qa (ret (.int 1)) (qa (ret (.int 1)) (qa (ret (.int 2)) (qa (ret (.int 3)) (qa (ret (.int 0)) (qa (ret (.int 5)) (qa (dv 1) (ret [])))))))))) (qm qj 0 (qa (ret (.int 8)) (ret [])))))
  (zK (jf (qa (dv 3) (qa (dv 4) (qa (dv 5) (ret []))))))))))))
noncomputable def zy:List D->List D->R (D×List D):=vF 6 2 yd
noncomputable def ye:MS :=
  (qH (yK 3 (qll (ret [])))
  (qH (vn (zn (qa (qm qj 0 (qa (d2 qU (dv 1) (ret (.int 1))) (ret []))) (ret []))) (qt 4) (qH (zC 5 (qm zy 0 (qa (dv 2) (ret []))))
  (qH (sif (qi7 (tst (qh9 3 (jP (ret [])))) (tst (d2 eqB (qm qj 0 (qa (ret (.int 7)) (ret []))) (ret (.int 6))))) (zC 5 (qa6 3 (qm qj 0 (qa (qcr 3) (ret []))))) ju)
  (jr (qV 3 (dv 5))))))
  (zK (qeD 3))))
noncomputable def zA:List D->List D->R (D×List D):=vF 6 3 ye
noncomputable def wN:MS :=
  (qH (zC 2 (jP (qa (ret (.int 48271)) (qa (ret (.int 69621)) (qa (ret (.int 16807)) (qa (ret (.int 39373)) (qa (ret (.int 30269)) (qa (ret (.int 40014)) (qa (ret (.int 40692)) (qa (ret (.int 50021)) (qa (ret (.int 61687)) (qa (ret (.int 71993)) (qa (ret (.int 83869)) (qa (ret (.int 95561)) (qa (ret (.int 30307)) (ret []))))))))))))))))
  (qH (zC 3 (d2 qU (d2 qU (d2 uS (d2 qU (d2 qh0 (dv 0) (ret (.int 2147483647))) (ret (.int 12345))) (d2 ixD (dv 2) (d2 qh0 (dv 1) (ret (.int 13))))) (d2 uS (ret (.int 977)) (dv 1))) (d2 uS (ret (.int 7919)) (d2 vz (dv 1) (ret (.int 13))))))
  (qH (zC 3 (d2 qh0 (dv 3) (ret (.int 1000000007))))
  (zK (d2 vz (d2 qh0 (d2 qU (d2 uS (dv 3) (dv 3)) (d2 uS (ret (.int 48271)) (dv 1))) (ret (.int 1000000007))) (ret (.int 7)))))))
noncomputable def yG:List D->R D:=dfn 4 2 wN
noncomputable def uD:MS :=
  (qH (sif (tst (d2 ltD (dv 1) (qp ud (qa (dv 0) (ret []))))) (zK (d2 ixD (dv 0) (dv 1))) ju)
  (zK (ret (.int 0))))
noncomputable def j8:List D->R D:=dfn 2 2 uD
noncomputable def vg:MS :=
  (qH (zC 2 (qq j8 (qa (dv 0) (qa (dv 1) (ret [])))))
  (qH (sif (tst (d2 eqB (d2 qh0 (dv 2) (ret (.int 2))) (ret (.int 0)))) (zK (jP (qa (d2 vz (qp qmj (qa (dv 2) (ret []))) (ret (.int 2))) (ret [])))) ju)
  (qH (zC 3 (ret (.int 0)))
  (qH (vn (zn (qa (ret (.int 40)) (ret []))) (qt 4) (zC 3 (d2 qU (d2 uS (dv 3) (ret (.int 142857143))) (qq yG (qa (dv 2) (qa (dv 4) (ret [])))))))
  (zK (jP (qa (dv 3) (ret []))))))))
noncomputable def jF:List D->R D:=dfn 5 2 vg
noncomputable def qkc:MS :=
  (qH (vn (zn (qa (qp qjb (qa (ret (.int 1)) (qa (qp wn (qa (qp ud (qa (dv 0) (ret []))) (qa (ret (.int 3)) (ret [])))) (ret [])))) (ret []))) (qt 1) (qH (yK 2 (vG jF (qa (dv 0) (qa (dv 1) (ret [])))))
  (qH (zC 3 (qm zA 2 (qa (ret (.int 4)) (qa (ret .non) (ret [])))))
  (qH (zC 4 (qm qj 2 (qa (ret (.int 13)) (ret []))))
  (qH (zC 5 (qm qW 2 (ret [])))
  (qH (qeN 6 (qH (yK 6 (qaT (qa (d2 qgt (jf (qa (ret (.int 0)) (ret []))) (d2 qU (dv 4) (ret (.int 1)))) (ret []))))
  (vn (yt (dv 3)) (qt 7) (jr (qV 6 (qq qA (qa (qa6 6 (d1 uw (ret (.int 1)))) (qa (dv 7) (qa (dv 4) (ret []))))))))))
  (qH (qiv 9 (vn (zn (qa (ret (.int 2)) (ret []))) (qt 8) (qH (yK 9 (vG qv (qa (ret (.int 1)) (qa (dv 3) (qa (dv 4) (ret []))))))
  (qH (sif (tst (d2 neB (qaz (qp zu (qa (dv 9) (ret [])))) (qp zu (qa (dv 6) (ret []))))) (zK (ret (.bl false))) ju)
  (jr (qV 9 (jf (ret []))))))))
  (qH (vn (yt (d2 qU (jP (qa (dv 6) (qa (dv 5) (qa (jP (ret [])) (qa (vY (dv 6)) (ret [])))))) (zo 1 [2,6,5] (some (1,2)) (zn (qa (ret (.int 6)) (ret []))) (qt 0) (ret true) (qm qL 1 (qa (dv 2) (qa (dv 3) (ret []))))))) (qt 10) (qH (zC 11 (qp zu (qa (dv 10) (ret []))))
  (qH (zC 9 (uK qD (qa (dv 10) (qa (dv 3) (qa (dv 4) (ret []))))))
  (sif (tor (tst (d2 neB (qp zu (qa (dv 9) (ret []))) (qp zu (qa (qq qN (qa (dv 10) (qa (dv 3) (qa (dv 4) (ret []))))) (ret []))))) (tst (d2 neB (qp zu (qa (dv 10) (ret []))) (dv 11)))) (zK (ret (.bl false))) ju))))
  (vn (yt (jP (qa (jf (qa (d1 uw (ret (.int 1))) (qa (ret (.str "number")) (ret [])))) (qa (jf (qa (ret .non) (qa (ret (.str "number")) (ret [])))) (qa (jf (qa (ret (.bl true)) (qa (ret (.str "number")) (ret [])))) (qa (jf (qa (ret (.str "1")) (qa (ret (.str "number")) (ret [])))) (qa (jf (qa (ret (.int 201)) (qa (ret (.str "many")) (ret [])))) (ret [])))))))) (qc5 2 (jI (qt 10) (jI (qt 12) qc4))) (sif (tst (d2 neB (zo 1 [3,10] none (zn (qa (ret (.int 2)) (ret []))) (qt 0) (ret true) (qq qv (qa (dv 0) (qa (dv 1) (qa (dv 2) (ret [])))))) (d2 uS (jP (qa (dv 12) (ret []))) (ret (.int 2))))) (zK (ret (.bl false))) ju))))))))))
  (zK (ret (.bl true))))
noncomputable def qds:List D->R D:=dfn 13 1 qkc
local macro_rules | `(tactic| push_cast [$xs,*]) => `(tactic| simp only [ym, qaQ, qnu, z8, qcu, vT, qid, qmm, qnv, wB, u9, qfS, qjB, wS, qfT, qie, qhp, qdW, qlx, qif, qhq, qhr, qa9, qdX, qav, vH, qih, qii, qij, yL, qfU, qfV, qfW, vU, qdc, qfX, qfY, qfZ, qf0, qik, qaw, qly, qdd, lC_, lN_, mC_, List.map_nil, List.replicate, List.nil_append, List.cons_append, List.append_nil, List.getElem?_cons_zero, List.getElem?_cons_succ, List.set_cons_zero, List.set_cons_succ, Nat.reduceAdd, Nat.reduceSub, Nat.sub_self, Nat.zero_add, reduceIte, Bool.not_true, Bool.not_false, Bool.false_eq_true, if_true, if_false, ite_true, ite_false, cond_true, cond_false, decide_true, decide_false, ix0, ix1, ix2, uW, z5, qbL, qbM, qcE, qgv, qbN, qbO, qgw, qiz, qiA, vW, qbI, qd4, qis, qgd, qdf, $xs,*])
theorem qbV (d:D):ve [d]=.ok (.bl (qgx d)):=by
 unfold ve wK
 refine vv rfl ⟨[some d],?_⟩
 push_cast []
 cases d<;>rfl
theorem jj (d:D):jh [d]=.ok (.bl (zq d)):=by
 unfold jh wL
 refine vv rfl ⟨[some d],?_⟩
 push_cast []
 rw[qbV]
 cases d<;>rfl
theorem qcK (d:D):uZ [d]=.ok (.bl (vw d)):=by
 unfold uZ qaI
 refine vv rfl ⟨[some d],?_⟩
 cases d with
 | tup ds=>
  by_cases h:ds.length=3
  ·obtain ⟨a,b,c,rfl⟩:=qom h
   refine(qk (ρ':=[some (.tup [a,b,c])]) rfl).trans ?_
   by_cases hp:qgy a=true
   ·refine (qk (ρ':=[some (.tup [a,b,c])]) ?_).trans ?_
    ·cases a with
     |int i=>
      have h2:0<i:=of_decide_eq_true hp
      have h0:0<=i:=by omega
      have h1:¬i=0:=by omega
      push_cast [ix0,jj,zq,qbM,wS,h0,h1,decide_true,decide_false]
     |_=>exact absurd hp (by simp[qgy])
    ·push_cast [ix1,ix2,jj,qcE,vw,hp,wS,yaT]
     cases hb:zq b<;>cases hc:uI c<;>rfl
   ·refine (jQ (d:=.bl false) (ρ':=[some (.tup [a,b,c])]) ?_).trans ?_
    ·cases a with
     | int i=>
      have h2:¬0<i:=λz=>hp (decide_eq_true z)
      push_cast [ix0,jj,zq,qbM,wS]
      by_cases h0:0<=i
      ·have h1:i=0:=by omega
       subst h1;rfl
      ·simp only[h0,decide_false]
       rfl
     |_=>rfl
    ·have hp':qgy a=false:=by simpa using hp
     simp only[vw,hp',ybD]
  ·refine (jQ (d:=.bl false) (ρ':=[some (.tup ds)]) ?_).trans ?_
   ·push_cast []
    have h3:¬((ds.length:Int)=3):=by omega
    simp only[uW,z5,qbL,h3,decide_false,wS]
    rfl
   ·rw[qeQ h]
 |_=>rfl
theorem qbW (d:D):vf [d]=.ok (.bl (uy d)):=by
 unfold vf wM
 refine vv rfl ⟨[some d],?_⟩
 cases d with
 | tup ds=>
  by_cases h:ds.length<=12
  ·have h2:¬((12:Int)<(ds.length:Int)):=by omega
   refine(qk (ρ':=[some (.tup ds)]) ?_).trans ?_
   ·push_cast [uW,z5,qbN,h2,decide_false,wS]
   ·rw[qa9,qj2 (F:=uZ) (f:=vw) (xs:=yt (dv 0)) (ds:=ds) (ρ:=[some (.tup ds)]) rfl (λd _=>qcK d) (by omega)]
    simp only[uy,h,decide_true,yaT]
  ·have h2:((12:Int)<(ds.length:Int)):=by omega
   refine(jQ (d:=.bl false) (ρ':=[some (.tup ds)]) ?_).trans ?_
   ·push_cast [uW,z5,qbN,h2,decide_true,wS]
   ·simp only[uy,h,decide_false,ybD]
 |_=>rfl
theorem sm1:qQ 1=true:=zx (by omega)
theorem uE (d:D) (h:uy d=true):ub [d]=.ok .non:=by
 unfold ub
 refine qd5 rfl ⟨[some d],?_⟩
 unfold ua
 push_cast [qbW,h]
theorem v9 (d:D) (h:zq d=true):jC [d]=.ok .non:=by
 unfold jC
 refine qd5 rfl ⟨[some d],?_⟩
 unfold yi
 push_cast [jj,h]
theorem qcL (d:D) (h:zq d=false):jC [d]=.exc ⟨"NoNumber",.non⟩ [some d]:=by
 unfold jC
 refine qbg rfl ?_
 unfold yi
 push_cast [jj,h,sm1]
theorem ql0{p:MS}{F:List D->R D}{ρ ρ':Env}{d:D}(h:p ρ=.ok (.rt d ρ')):qga RN p F ρ=.ok (.rt d ρ'):=by rw[qir,h]
theorem qhO {p:MS} {F:List D->R D} {ρ ρ':Env} {d v:D} {n:Str} (h:p ρ=.exc ⟨n,v⟩ ρ') (hn:RN.contains n=true) (hF:F [.exc n]=.ok d):qga RN p F ρ=.ok (.rt d ρ'):=by
 rw[qir,h]
 simp only[hn,if_true,hF]
theorem u4 (d:D):zd [d]=.ok (.bl (qgx d)):=by
 unfold zd u3
 refine vv rfl ⟨[some d],?_⟩
 push_cast []
 cases d<;>rfl
theorem jo {n m:Int} (h0:0<m) (h1:m<1606938044258990275541962092341162602522202993782792835301376):qj [.int n] [.int m]=.ok (.int (n%m),[.int (n/m)]):=by
 unfold qj
 refine qba (ρ:=[some (.lst [.int (n/m)]),some (.int m),some (.int (n/m)),some (.int (n%m))]) rfl ?_ rfl
 unfold uC
 refine(qk (ρ':=[some (.lst [.int n]),some (.int m),some (.int (n/m)),some (.int (n%m))]) ?_).trans ?_
 ·push_cast [at0,qgz h0 h1,qc5,jI,qt,qc4,yd2]
 ·refine(qk (ρ':=[some (.lst [.int (n/m)]),some (.int m),some (.int (n/m)),some (.int (n%m))]) ?_).trans rfl
  push_cast [qon,imm]
theorem qeS (n:Int) (c:D):∃a b m n',zy [.int n] [c]=.ok (.tup [.int a,.int b,m],[.int n'])/\1<=a/\a<=25/\0<=b/\b<=39/\qj3 c m:=by
 have s2:∀n k:Int,∃n' a b,(qjx 3 4 (qa (d2 qU (ret (.int 1)) (qm qj 0 (qa (ret (.int 7)) (ret [])))) (qa (qm qj 0 (qa (ret (.int 10)) (ret []))) (ret [])))) [some (.lst [.int n]),some c,some (.int k),none,none,none]=.ok (.nx [some (.lst [.int n']),some c,some (.int k),some (.int a),some (.int b),none])/\1<=a/\a<=7/\0<=b/\b<=9:=by
  intro n k
  refine⟨n/7/10,1+n%7,n/7%10,?_,by omega,by omega,by omega,by omega⟩
  push_cast [jo (m:=7) (by decide) (by decide),jo (m:=10) (by decide) (by decide),zM]
 have s3:∀n k a b:Int,1<=a->a<=7->0<=b->b<=9->∃b',(sif (tst (d2 eqB (dv 2) (ret (.int 1)))) (zC 4 (d2 uS (ret (.int 2)) (dv 3))) ju) [some (.lst [.int n]),some c,some (.int k),some (.int a),some (.int b),none]=.ok (.nx [some (.lst [.int n]),some c,some (.int k),some (.int a),some (.int b'),none])/\0<=b'/\b'<=14:=by
  intro n k a b h1 h2 h3 h4
  by_cases hk:k=1
  ·refine⟨2*a,?_,by omega,by omega⟩
   push_cast [hk,qoo]
  ·refine⟨b,?_,by omega,by omega⟩
   push_cast [hk]
 have s4:∀n k a b:Int,1<=a->a<=7->0<=b->b<=14->∃n' b',(sif (tst (d2 eqB (dv 2) (ret (.int 2)))) (zC 4 (d2 qU (dv 3) (qm qj 0 (qa (ret (.int 3)) (ret []))))) ju) [some (.lst [.int n]),some c,some (.int k),some (.int a),some (.int b),none]=.ok (.nx [some (.lst [.int n']),some c,some (.int k),some (.int a),some (.int b'),none])/\0<=b'/\b'<=14:=by
  intro n k a b h1 h2 h3 h4
  by_cases hk:k=2
  ·refine⟨n/3,a+n%3,?_,by omega,by omega⟩
   push_cast [hk,zM,jo (m:=3) (by decide) (by decide)]
  ·refine⟨n,b,?_,by omega,by omega⟩
   push_cast [hk]
 have s5:∀n k a b:Int,1<=a->a<=7->0<=b->b<=14->∃n' a' b',(sif (tst (d2 eqB (dv 2) (ret (.int 3)))) (qjx 3 4 (qa (d2 qU (ret (.int 1)) (qm qj 0 (qa (ret (.int 25)) (ret [])))) (qa (qm qj 0 (qa (ret (.int 40)) (ret []))) (ret [])))) ju) [some (.lst [.int n]),some c,some (.int k),some (.int a),some (.int b),none]=.ok (.nx [some (.lst [.int n']),some c,some (.int k),some (.int a'),some (.int b'),none])/\1<=a'/\a'<=25/\0<=b'/\b'<=39:=by
  intro n k a b h1 h2 h3 h4
  by_cases hk:k=3
  ·refine⟨n/25/40,1+n%25,n/25%40,?_,by omega,by omega,by omega,by omega⟩
   push_cast [hk,zM,jo (m:=25) (by decide) (by decide),jo (m:=40) (by decide) (by decide)]
  ·refine⟨n,a,b,?_,by omega,by omega,by omega,by omega⟩
   push_cast [hk]
 have s6:∀n k a b:Int,∃n' m,(zC 5 (d2 ixD (jP (qa (ret (.int 1)) (qa (ret (.int 1)) (qa (ret (.int 1)) (qa (ret (.int 2)) (qa (ret (.int 3)) (qa (ret (.int 0)) (qa (ret (.int 5)) (qa (dv 1) (ret [])))))))))) (qm qj 0 (qa (ret (.int 8)) (ret []))))) [some (.lst [.int n]),some c,some (.int k),some (.int a),some (.int b),none]=.ok (.nx [some (.lst [.int n']),some c,some (.int k),some (.int a),some (.int b),some m])/\qj3 c m:=by
  intro n k a b
  obtain⟨m,hm,e⟩:=qbl (ds:=[.int 1,.int 1,.int 1,.int 2,.int 3,.int 0,.int 5,c]) (k:=n%8) (by omega) (by simp;omega)
  refine⟨n/8,m,?_,?_⟩
  ·push_cast [jo (m:=8) (by decide) (by decide),zx (show 8<=1000000 by omega),e]
  ·simp only[yan,nN_,or_false]at hm
   rcases hm with h|h|h|h|h|h|h|h
   ·exact .inr ⟨_,h,by omega,by omega⟩
   ·exact .inr ⟨_,h,by omega,by omega⟩
   ·exact .inr ⟨_,h,by omega,by omega⟩
   ·exact .inr ⟨_,h,by omega,by omega⟩
   ·exact .inr ⟨_,h,by omega,by omega⟩
   ·exact .inr ⟨_,h,by omega,by omega⟩
   ·exact .inr ⟨_,h,by omega,by omega⟩
   ·exact .inl h
 obtain⟨n2,a2,b2,e2,p2,q2,r2,t2⟩:=s2 (n/6) (n%6)
 obtain⟨b3,e3,r3,t3⟩:=s3 n2 (n%6) a2 b2 p2 q2 r2 t2
 obtain⟨n4,b4,e4,r4,t4⟩:=s4 n2 (n%6) a2 b3 p2 q2 r3 t3
 obtain⟨n5,a5,b5,e5,p5,q5,r5,t5⟩:=s5 n4 (n%6) a2 b4 p2 q2 r4 t4
 obtain⟨n6,m,e6,g6⟩:=s6 n5 (n%6) a5 b5
 refine⟨a5,b5,m,n6,?_,p5,q5,r5,t5,g6⟩
 unfold zy
 refine qba (ρ:=[some (.lst [.int n6]),some c,some (.int (n%6)),some (.int a5),some (.int b5),some m]) rfl ?_ rfl
 unfold yd
 refine(qk (ρ':=[some (.lst [.int (n/6)]),some c,some (.int (n%6)),none,none,none]) ?_).trans ?_
 ·push_cast [jo (m:=6) (by decide) (by decide)]
 refine(qk e2).trans ?_
 refine(qk e3).trans ?_
 refine(qk e4).trans ?_
 refine(qk e5).trans ?_
 refine(qk e6).trans ?_
 push_cast [zx (show 3<=1000000 by omega)]
theorem qeT (n:Int) (ks:List D) (o4 o5:Option D) (h:∀k∈ks,z6 k) (hl:ks.length<=12):∃n' k',z6 k'/\(qH (zC 5 (qm zy 0 (qa (dv 2) (ret [])))) (qH (sif (qi7 (tst (qh9 3 (jP (ret [])))) (tst (d2 eqB (qm qj 0 (qa (ret (.int 7)) (ret []))) (ret (.int 6))))) (zC 5 (qa6 3 (qm qj 0 (qa (qcr 3) (ret []))))) ju) (jr (qV 3 (dv 5))))) [some (.lst [.int n]),some (.int 4),some .non,some (.lst ks),o4,o5]=.ok (.nx [some (.lst [.int n']),some (.int 4),some .non,some (.lst (ks++[k'])),o4,some k']):=by
 obtain⟨a,b,m,n1,e1,p1,p2,p3,p4,p5⟩:=qeS n .non
 have gk:z6 (.tup [.int a,.int b,m]):=⟨a,b,m,rfl,p1,p2,p3,p4,p5⟩
 obtain⟨b0,eb,hb⟩:=qdp h
 have s1:(zC 5 (qm zy 0 (qa (dv 2) (ret [])))) [some (.lst [.int n]),some (.int 4),some .non,some (.lst ks),o4,o5]=.ok (.nx [some (.lst [.int n1]),some (.int 4),some .non,some (.lst ks),o4,some (.tup [.int a,.int b,m])]):=by
  push_cast [e1]
 have s2:∃n' k',z6 k'/\(sif (qi7 (tst (qh9 3 (jP (ret [])))) (tst (d2 eqB (qm qj 0 (qa (ret (.int 7)) (ret []))) (ret (.int 6))))) (zC 5 (qa6 3 (qm qj 0 (qa (qcr 3) (ret []))))) ju) [some (.lst [.int n1]),some (.int 4),some .non,some (.lst ks),o4,some (.tup [.int a,.int b,m])]=.ok (.nx [some (.lst [.int n']),some (.int 4),some .non,some (.lst ks),o4,some k']):=by
  cases b0 with
  |false=>
   refine⟨n1,_,gk,?_⟩
   push_cast [eb,zx (show 0<=1000000 by omega)]
  | true=>
   have hne:=hb rfl
   have hpos:0<ks.length:=List.length_pos_iff.mpr hne
   by_cases h6:n1%7=6
   ·obtain⟨k',hk',e⟩:=qlV (ds:=ks) (k:=n1/7%(ks.length:Int)) (yek _ (by omega)) (ydv _ (by omega))
    refine⟨n1/7/(ks.length:Int),k',h k' hk',?_⟩
    push_cast [eb,zx (show 0<=1000000 by omega),jo (m:=7) (by decide) (by decide),h6,jo (m:=(ks.length:Int)) (by omega) (by omega),e]
   ·refine⟨n1/7,_,gk,?_⟩
    push_cast [eb,zx (show 0<=1000000 by omega),jo (m:=7) (by decide) (by decide),h6]
 obtain⟨n2,k',gk',e2⟩:=s2
 refine⟨n2,k',gk',?_⟩
 refine(qk s1).trans ((qk e2).trans ?_)
 push_cast [gk'.imm,zx (show ks.length+1<=1000000 by omega),yaZ]
theorem qbm:∀(ds:List D)(n:Int)(ks:List D)(o4 o5:Option D),(∀k∈ks,z6 k)->ks.length+ds.length<=4 ->
  ∃n' ks' o4' o5',yk (qt 4) (qH (zC 5 (qm zy 0 (qa (dv 2) (ret [])))) (qH (sif (qi7 (tst (qh9 3 (jP (ret [])))) (tst (d2 eqB (qm qj 0 (qa (ret (.int 7)) (ret []))) (ret (.int 6))))) (zC 5 (qa6 3 (qm qj 0 (qa (qcr 3) (ret []))))) ju) (jr (qV 3 (dv 5))))) ds [some (.lst [.int n]),some (.int 4),some .non,some (.lst ks),o4,o5]=.ok (.nx [some (.lst [.int n']),some (.int 4),some .non,some (.lst ks'),o4',o5'])/\(∀k∈ks',z6 k)/\ks'.length<=4
 | [],n,ks,o4,o5,h,hl=>⟨n,ks,o4,o5,rfl,h,by simpa using hl⟩
 | d::ds,n,ks,o4,o5,h,hl=>by
  have hl':ks.length+(ds.length+1)<=4:=hl
  obtain⟨n1,k',gk,e⟩:=qeT n ks (some d) o5 h (by omega)
  obtain ⟨n',ks',o4',o5',q,g,l⟩:=qbm ds n1 (ks++[k']) (some d) (some k') (λx hx=>(mA_.mp hx).elim (h x) λhx=>by
   rw[ms_]at hx;subst hx;exact gk) (by rw[lA_,yaC];omega)
  refine⟨n',ks',o4',o5',?_,g,l⟩
  unfold yk
  simp only[qt,ybM,ydw,e]
  exact q
theorem qeU (n:Int):∃ks n',zA [.int n] [.int 4,.non]=.ok (.tup ks,[.int n'])/\(∀k∈ks,z6 k)/\ks.length<=4:=by
 obtain⟨n',ks',o4',o5',q,g,l⟩:=qbm (qbB 0 (n%5).toNat) (n/5) [] none none (λ_ h=>by cases h) (by rw[qhM];simp;omega)
 refine⟨ks',n',?_,g,l⟩
 unfold zA
 refine qba (ρ:=[some (.lst [.int n']),some (.int 4),some .non,some (.lst ks'),o4',o5']) rfl ?_ rfl
 unfold ye
 refine(qk (ρ':=[some (.lst [.int n]),some (.int 4),some .non,some (.lst []),none,none]) ?_).trans ?_
 ·push_cast [immL,zx (show 0<=1000000 by omega),yaZ]
 refine(qk (ρ':=[some (.lst [.int n']),some (.int 4),some .non,some (.lst ks'),o4',o5']) ?_).trans ?_
 ·rw[yL,yx (j:=n%5) (ρ1:=[some (.lst [.int (n/5)]),some (.int 4),some .non,some (.lst []),none,none]) ?_ (by omega) (by omega)]
  ·exact q
  ·push_cast [zM,jo (m:=5) (by decide) (by decide),Int.reduceAdd]
 ·push_cast []
theorem qkd (ns:List Int) (i:Int) (h0:0<=i):∃x,j8 [.fz ns,.int i]=.ok (.int x):=by
 by_cases h:i<ns.length
 ·obtain ⟨j,rfl⟩:=yd8 h0
  have hj:j<ns.length:=by omega
  have e:ixD (.fz ns) (.int (j:Int))=some (.int ns[j]):=by
   show(atI ns (j:Int)).map D.int=_
   unfold atI ixN
   rw[if_pos (by omega),if_pos (by omega)]
   show(ns[(j:Int).toNat]?).map D.int=_
   rw[ybc,gG hj];rfl
  refine⟨ns[j],?_⟩
  unfold j8 uD
  refine vv rfl ⟨[some (.fz ns),some (.int (j:Int))],?_⟩
  refine(jQ (d:=.int ns[j]) (ρ':=[some (.fz ns),some (.int (j:Int))]) ?_)
  push_cast [e,ud,h]
 ·refine⟨0,?_⟩
  unfold j8 uD
  refine vv rfl ⟨[some (.fz ns),some (.int i)],?_⟩
  refine(qk (ρ':=[some (.fz ns),some (.int i)]) ?_).trans rfl
  push_cast [ud,h]
theorem ql1 (x j:Int) (h0:0<=j) (h1:j<40):∃v,yG [.int x,.int j]=.ok (.int v):=by
 obtain⟨m,hm,e⟩:=qbl (ds:=[.int 48271,.int 69621,.int 16807,.int 39373,.int 30269,.int 40014,.int 40692,.int 50021,.int 61687,.int 71993,.int 83869,.int 95561,.int 30307]) (k:=j%13) (by omega) (by simp;omega)
 have hm2:∃c,m=.int c/\yo c=true:=by
  have:m∈facts.map D.int:=hm
  obtain⟨c,hc,rfl⟩:=mP_.mp this
  exact⟨c,rfl,List.all_eq_true.mp (show facts.all yo=true by decide) c hc⟩
 obtain⟨c,rfl,hc⟩:=hm2
 have f3:∀s:Int,yo (s%1000000007)=true:=λs=>qbQ (by omega) (by omega)
 have f977:yo 977=true:=by decide
 have f79:yo 7919=true:=by decide
 have f48:yo 48271=true:=by decide
 let L:D:=.lst [.int 48271,.int 69621,.int 16807,.int 39373,.int 30269,.int 40014,.int 40692,.int 50021,.int 61687,.int 71993,.int 83869,.int 95561,.int 30307]
 let s1:Int:=(x%2147483647+12345)*c+977*j+7919*(j/13)
 let s2:Int:=s1%1000000007
 refine⟨(s2*s2+48271*j)%1000000007/7,?_⟩
 unfold yG wN
 refine vv rfl ⟨[some (.int x),some (.int j),some L,some (.int s2)],?_⟩
 refine(qk (ρ':=[some (.int x),some (.int j),some L,none]) ?_).trans ?_
 ·push_cast [zx (show 13<=1000000 by omega)]
  rfl
 refine(qk (ρ':=[some (.int x),some (.int j),some L,some (.int s1)]) ?_).trans ?_
 ·push_cast [L,va (j:=2147483647) (by decide),va (j:=13) (by decide),zM,e,qlW hc,qcG f977,qcG f79,uX (j:=13) (by decide) (by decide)]
  rfl
 refine(qk (ρ':=[some (.int x),some (.int j),some L,some (.int s2)]) ?_).trans ?_
 ·push_cast [va (j:=1000000007) (by decide),s2]
 ·push_cast [va (j:=1000000007) (by decide),s2,zM,qcG (f3 _),qcG f48,uX (j:=7) (by decide) (by decide)]
theorem qej (A B:Option D) (x:Int):∀(ds:List D)(s:Int)(o:Option D),(∀d∈ds,∃j:Int,d=.int j/\0<=j/\j<40)->∃s' o',yk (qt 4) (zC 3 (d2 qU (d2 uS (dv 3) (ret (.int 142857143))) (qq yG (qa (dv 2) (qa (dv 4) (ret [])))))) ds [A,B,some (.int x),some (.int s),o]=.ok (.nx [A,B,some (.int x),some (.int s'),o'])
 | [],s,o,_=>⟨s,o,rfl⟩
 | d::ds,s,o,h=>by
  obtain⟨j,rfl,h0,h1⟩:=h d mS_
  obtain⟨v,e⟩:=ql1 x j h0 h1
  obtain⟨s',o',q⟩:=qej A B x ds (s*142857143+v) (some (.int j)) λy hy=>h y (mM _ hy)
  refine⟨s',o',?_⟩
  have st:(zC 3 (d2 qU (d2 uS (dv 3) (ret (.int 142857143))) (qq yG (qa (dv 2) (qa (dv 4) (ret [])))))) [A,B,some (.int x),some (.int s),some (.int j)]=.ok (.nx [A,B,some (.int x),some (.int (s*142857143+v)),some (.int j)]):=by
   push_cast [e,qlW (j:=142857143) (by decide),zM]
  unfold yk
  simp only[qt,ybM,ydw,st]
  exact q
theorem ql2 (ns:List Int) (i:Int) (h0:0<=i):∃n,jF [.fz ns,.int i]=.ok (.lst [.int n]):=by
 obtain⟨x,e⟩:=qkd ns i h0
 have s1:(zC 2 (qq j8 (qa (dv 0) (qa (dv 1) (ret []))))) [some (.fz ns),some (.int i),none,none,none]=.ok (.nx [some (.fz ns),some (.int i),some (.int x),none,none]):=by
  push_cast [e]
 by_cases hx:x%2=0
 ·refine⟨(if x<0 then -x else x)/2,?_⟩
  unfold jF vg
  refine vv rfl ⟨[some (.fz ns),some (.int i),some (.int x),none,none],?_⟩
  refine(qk s1).trans (jQ ?_)
  push_cast [va (j:=2) (by decide),hx,qmj,uX (j:=2) (by decide) (by decide),zx (show 1<=1000000 by omega)]
 ·obtain ⟨s',o',q⟩:=qej (some (.fz ns)) (some (.int i)) x (qbB 0 40) 0 none λd hd=>by
   unfold qbB at hd
   obtain⟨k,hk,rfl⟩:=mP_.mp hd
   have hk':=mR_.mp hk
   exact⟨_,rfl,by omega,by omega⟩
  refine⟨s',?_⟩
  unfold jF vg
  refine vv rfl ⟨[some (.fz ns),some (.int i),some (.int x),some (.int s'),o'],?_⟩
  refine(qk s1).trans ?_
  refine(qk (ρ':=[some (.fz ns),some (.int i),some (.int x),none,none]) ?_).trans ?_
  ·push_cast [va (j:=2) (by decide),hx]
  refine(qk (ρ':=[some (.fz ns),some (.int i),some (.int x),some (.int 0),none]) ?_).trans ?_
  ·push_cast []
  refine(qk (ρ':=[some (.fz ns),some (.int i),some (.int x),some (.int s'),o']) ?_).trans ?_
  ·rw[yL,yx (j:=40) (ρ1:=[some (.fz ns),some (.int i),some (.int x),some (.int 0),none]) rfl (by omega) (by omega)]
   exact q
  ·push_cast [zx (show 1<=1000000 by omega)]
def kw(k:Kw):D:=.tup [.int k.w,.int k.v,mD k.m]
def yn(k:Kw):Prop:=(1<=k.w/\k.w<=25)/\(0<=k.v/\k.v<=39)/\∀j,k.m=some j->0<=j/\j<=5
theorem yn.kd{k:Kw}(h:yn k):qiF k:=⟨h.1.1,λj e=>(h.2.2 j e).1⟩
theorem qek:∀ds:List D,(∀d∈ds,z6 d)->∃ks:List Kw,ds=ks.map kw/\∀k∈ks,yn k
 | [],_=>⟨[],rfl,λ_ h=>by cases h⟩
 | d::ds,h=>by
  obtain⟨ks,e,g⟩:=qek ds λx hx=>h x (mM _ hx)
  obtain⟨a,b,m,rfl,h1,h2,h3,h4,hm⟩:=h d mS_
  have:∃o:Option Int,m=mD o/\∀j,o=some j->0<=j/\j<=5:=by
   rcases hm with rfl|⟨j,rfl,j0,j1⟩
   ·exact⟨none,rfl,λj e=>by cases e⟩
   ·exact⟨some j,rfl,λi e=>by cases e;exact⟨j0,j1⟩⟩
  obtain⟨o,rfl,ho⟩:=this
  refine⟨⟨a,b,o⟩::ks,by rw[e];rfl,λk hk=>?_⟩
  rcases List.mem_cons.mp hk with rfl|hk
  ·exact⟨⟨h1,h2⟩,⟨h3,h4⟩,ho⟩
  ·exact g k hk
theorem ql3(k:Kw):ixD (kw k) (.int 0)=some (.int k.w):=rfl
theorem qm9(k:Kw):ixD (kw k) (.int 1)=some (.int k.v):=rfl
theorem ql4(k:Kw):ixD (kw k) (.int 2)=some (mD k.m):=rfl
theorem qaK{ds:List D}{i:Nat}{d:D}(h:ds[i]? = some d):ixD (.lst ds) (.int (i:Nat))=some d:=qlX h
theorem wY {k:Kw} (hk:yn k) {s:Int} (h0:0<=s):jL [kw k,.int s]=.ok (.int (ofn k s:Nat)):=by
 unfold jL uB
 have hd:0<=s/k.w:=yej h0 (by have:=hk.1.1;omega)
 let ρ:Env:=[some (kw k),some (.int s),some (.int (s/k.w))]
 refine vv rfl ⟨ρ,?_⟩
 refine(qk (ρ':=ρ) ?_).trans ?_
 ·show zC 2 _ [some (kw k),some (.int s),none]=_
  rw[qdX,qs rfl (qs rfl rfl (ql3 k)) (uX (by have:=hk.1.1;omega) (by have:=hk.1.2;omega))]
  rfl
 ·have c1:d2 isN (d2 ixD (dv 0) (ret (.int 2))) (ret .non) ρ=.ok (.bl k.m.isNone,ρ):=qs (qs rfl rfl (ql4 k)) rfl (by rw[qcE,qeh])
  rw[qa9,qhq,jy c1]
  cases em:k.m with
  |none=>
   have e:((ofn k s:Nat):Int)=s/k.w:=by unfold ofn;rw[em];show((s/k.w).toNat:Int)=_;omega
   rw[e]
   rfl
  | some j=>
   have hj:=(hk.2.2 j em).1
   have e:((ofn k s:Nat):Int)=if j<s/k.w then j else s/k.w:=by
    unfold ofn
    rw[em]
    show((if j<s/k.w then j else s/k.w).toNat:Int)=_
    split<;>omega
   have c2:qp wn (qa (dv 2) (qa (d2 ixD (dv 0) (ret (.int 2))) (ret []))) ρ=.ok (.int (ofn k s:Nat),ρ):=by
    rw[wB,qaU rfl (qs rfl rfl (by rw[ql4,em]))]
    show(match wn [.int (s/k.w),.int j] with|some d=>R.ok (d,ρ)|none => .bad)=_
    rw[qeg,e]
   show(match qp wn (qa (dv 2) (qa (d2 ixD (dv 0) (ret (.int 2))) (ret []))) ρ with|.ok (d,ρ1)=>R.ok (Fl.rt d ρ1)|.exc x ρ' => .exc x ρ'|.bad => .bad)=_
   rw[c2]
theorem qaV (k:Kw) {t:Nat} (ht:t<=20) (s:Int):yQ [kw k,.int (t:Nat),.int s]=.ok (.int (s-t*k.w)):=by
 unfold yQ vI
 refine vv rfl ⟨[some (kw k),some (.int (t:Nat)),some (.int s)],?_⟩
 show zK _ [some (kw k),some (.int (t:Nat)),some (.int s)]=_
 rw[qa9,qs rfl (qs rfl (qs rfl rfl (ql3 k)) (qcG (qbQ (by omega) (by omega)))) (qbP _ _)]
theorem qcM {l:M (List D)} {ρ:Env} {k:Kw} {s:Int} (hn:ofn k s<=20) (h:l ρ=.ok ([.int ((ofn k s:Nat)+1)],ρ)):zn l ρ=.ok ((yay (ofn k s+1)).map λt=>D.int (t:Nat),ρ):=by
 rw[yx h (by omega) (by omega)]
 have e:((ofn k s:Nat)+1:Int).toNat=ofn k s+1:=by omega
 rw[e,qlY]
theorem qel {k:Kw} (hk:yn k) {s:Int} (h0:0<=s) (h1:s<=20):ofn k s<=20:=by
 have:=(qiD hk.kd.1 hk.kd.2 h0 (yah (ofn k s))).2
 omega
theorem qke {k:Kw} (hk:yn k) {s r:Nat} (hs:s<=r) (hr:r<=20) {t:Nat} (ht:t<=ofn k s):∃i:Nat,i<=r/\((i:Nat):Int)=(s:Int)-t*k.w:=by
 have:=(qiD hk.kd.1 hk.kd.2 (show(0:Int)<=(s:Int) by omega) ht).1
 have h2:0<=(t:Int)*k.w:=Int.mul_nonneg (by omega) (by have:=hk.1.1;omega)
 exact⟨((s:Int)-t*k.w).toNat,by omega,by omega⟩
theorem qdt {n:Int} (h:n<=200):yF [.int n]=.ok .non:=by
 unfold yF
 refine qd5 rfl ⟨[some (.int n)],?_⟩
 unfold ur
 have h':¬200<n:=by omega
 push_cast [h']
theorem qeV:yF [.int 201]=.exc ⟨"TooMany",.non⟩ [some (.int 201)]:=by
 unfold yF
 refine qbg rfl ?_
 unfold ur
 have h':(200:Int)<201:=by omega
 push_cast [h',sm1]
theorem qna:RN.contains "NoNumber"=true:=by decide
theorem qnb:RN.contains "TooMany"=true:=by decide
theorem wc {d:D} (hs:uy d=true) {n:Int} (h0:0<=n) (h:n<=200):qT [d,.int n]=.ok .non:=by
 have hc:zq (.int n)=true:=decide_eq_true h0
 unfold qT
 refine qd5 rfl ⟨[some d,some (.int n)],?_⟩
 unfold jD
 refine(qk (ρ':=[some d,some (.int n)]) ?_).trans ((qk (ρ':=[some d,some (.int n)]) ?_).trans ?_)
 ·push_cast [uE _ hs]
 ·push_cast [v9 _ hc]
 ·push_cast [qdt h]
theorem wU {d x:D} (hs:uy d=true) (hc:zq x=false):qT [d,x]=.exc ⟨"NoNumber",.non⟩ [some d,some x]:=by
 unfold qT
 refine qbg rfl ?_
 unfold jD
 refine(qk (ρ':=[some d,some x]) ?_).trans (qcC ?_)
 ·push_cast [uE _ hs]
 ·push_cast [qcL _ hc,qna]
theorem wV {d:D} (hs:uy d=true):qT [d,.int 201]=.exc ⟨"TooMany",.non⟩ [some d,some (.int 201)]:=by
 have hc:zq (.int 201)=true:=rfl
 unfold qT
 refine qbg rfl ?_
 unfold jD
 refine(qk (ρ':=[some d,some (.int 201)]) ?_).trans ((qk (ρ':=[some d,some (.int 201)]) ?_).trans ?_)
 ·push_cast [uE _ hs]
 ·push_cast [v9 _ hc]
 ·push_cast [qeV,qnb]
theorem vh {ks:List Kw} (h:∀k∈ks,yn k) (hl:ks.length<=12):uy (.tup (ks.map kw))=true:=by
 have:(ks.map kw).all vw=true:=by
  rw[yfh]
  refine List.all_eq_true.mpr λk hk=>?_
  have g:=h k hk
  exact qgE (x:=(k.w,k.v,k.m)) ⟨by have:=g.1.1;show 0<k.w;omega,g.2.1.1,λj e=>(g.2.2 j e).1⟩
 simp only[uy,lM_,hl,decide_true,this,yaT]
theorem qcN {α:Type} {l:List α} {f:α->Int} (h:l≠[]):qdh [.lst (l.map λa=>D.int (f a))]=some (.int (qdg (l.map f))):=by
 cases l with
 |nil=>exact absurd rfl h
 |cons a l=>
  have:=qef ((a::l).map f)
  rw[mm_]at this
  simp only[Function.comp_def,mC_]at this
  simp only[mC_,qdh,this]
structure okF (n:Nat) (F:List (List Int×Int)):Prop where
 bd:∀p∈F,0<=p.2/\p.2<=20/\p.1.length=n
 len:F.length<=21 ^ n
def rD(row:List Int):D:=.tup (row.map D.int)
def ixT(k:Kw)(z t:Nat):Nat:=((z:Int)-t*k.w).toNat
def bw(k:Kw)(row:List Int)(z:Nat):Int:=qdg ((yay (ofn k z+1)).map λt:Nat=>(t:Int)*k.v+row.getD (ixT k z t) 0)
def wO(k:Kw)(row:List Int):List Int:=(yay row.length).map (bw k row)
theorem w9(k:Kw)(row:List Int):(wO k row).length=row.length:=by unfold wO;rw[lM_,lR_]
theorem ql5 {F:List D->R D} {f g h k:M D} {ρ:Env} {a b c z d:D} (hf:f ρ=.ok (a,ρ)) (hg:g ρ=.ok (b,ρ)) (hh:h ρ=.ok (c,ρ)) (hk:k ρ=.ok (z,ρ)) (e:F [a,b,c,z]=.ok d):qq F (qa f (qa g (qa h (qa k (ret []))))) ρ=.ok (d,ρ):=by
 have a4:qa f (qa g (qa h (qa k (ret [])))) ρ=.ok ([a,b,c,z],ρ):=by
  rw[z8,hf]
  simp only[qj7 hg hh hk]
 rw[u9,a4]
 simp only[e]
theorem qcO {row:List Int} {i:Nat} (h:i<row.length):(row.map D.int)[i]? = some (.int (row.getD i 0)):=by
 rw[gM_,gG h]
 simp[h]
section
variable{k:Kw}(hk:yn k){row:List Int}(hl:row.length<=20){z:Nat}(hz:z<row.length)
include hk hl hz
theorem qiG {t:Nat} (ht:t<=ofn k z):ixT k z t<row.length/\((ixT k z t:Nat):Int)=(z:Int)-t*k.w:=by
 obtain⟨i,hi,e⟩:=qke hk (show z<=z from yah _) (by omega) ht
 have:ixT k z t=i:=by unfold ixT;rw[<-e];rfl
 rw[this]
 exact⟨by omega,e⟩
theorem qbX {t:Nat} (ht:t<=ofn k z):yh [kw k,.int (t:Nat),rD row,.int (z:Nat)]=.ok (.int ((t:Int)*k.v+row.getD (ixT k z t) 0)):=by
 obtain⟨i1,i2⟩:=qiG hk hl hz ht
 have h20:=qel hk (s:=(z:Nat)) (by omega) (by omega)
 unfold yh uY
 let ρ:Env:=[some (kw k),some (.int (t:Nat)),some (rD row),some (.int (z:Nat))]
 have rl:yQ [kw k,.int (t:Nat),.int (z:Nat)]=.ok (.int ((ixT k z t:Nat):Int)):=by rw[qaV k (by omega),i2]
 exact vv rfl ⟨ρ,jm (qs (qs rfl (qs rfl rfl (qm9 k)) (qcG (qbQ (by omega) (by omega)))) (qs rfl (wT rfl rfl rfl rl) (qaE (qcO i1))) (zM _ _))⟩
theorem qcP:yR [kw k,rD row,.int (z:Nat)]=.ok (.int (bw k row z)):=by
 have h20:=qel hk (s:=(z:Nat)) (by omega) (by omega)
 unfold yR vJ
 let ρ:Env:=[some (kw k),some (rD row),some (.int (z:Nat))]
 refine vv rfl ⟨ρ,jm ?_⟩
 have c:=uL (e:=qq yh (qa (dv 1) (qa (dv 0) (qa (dv 2) (qa (dv 3) (ret [])))))) (xs:=zn (qa (d2 qU (qq jL (qa (dv 0) (qa (dv 2) (ret [])))) (ret (.int 1))) (ret []))) (fr:=[0,1,2]) (ρ:=ρ) (r:=[some (kw k),some (rD row),some (.int (z:Nat))]) (k:=λt:Nat=>D.int (t:Nat)) (yay (ofn k z+1)) (λt=>D.int ((t:Int)*k.v+row.getD (ixT k z t) 0)) (qcM h20 (vo (qs (qcJ rfl rfl (wY hk (by omega))) rfl (zM _ _)))) rfl (by rw[lR_];omega) λt ht=>ql5 rfl rfl rfl rfl (qbX hk hl hz (by have:=mR_.mp ht;omega))
 exact zj c (qcN (by simp))
end
theorem qaL {k:Kw} (hk:yn k) {row:List Int} (hl:row.length<=20):zY [kw k,rD row]=.ok (rD (wO k row)):=by
 unfold zY wJ
 let ρ:Env:=[some (kw k),some (rD row)]
 refine vv rfl ⟨ρ,jm ?_⟩
 have c:=uL (e:=qq yR (qa (dv 1) (qa (dv 2) (qa (dv 0) (ret []))))) (xs:=zn (qa (qp ud (qa (dv 1) (ret []))) (ret []))) (fr:=[0,1]) (ρ:=ρ) (r:=[some (kw k),some (rD row)]) (k:=λt:Nat=>D.int (t:Nat)) (yay row.length) (λz=>D.int (bw k row z)) (by
  rw[yx (j:=(row.length:Nat)) (vo (zj (a:=rD row) rfl (by unfold rD;rw[z5,lM_]))) (by omega) (by omega),ybc,qlY]) rfl (by rw[lR_];omega) λz hz=>wT rfl rfl rfl (qcP hk hl (mR_.mp hz))
 refine zj c ?_
 rw[vd]
 unfold rD wO
 rw[mm_]
 rfl
theorem qaM {k:Kw} (hk:yn k) {row:List Int} {m:Nat} (hm:row.length=m+1) (hl:m<=15):qA [rD row,kw k,.int (m:Nat)]=.ok (rD (wO k row)):=by
 let Rw:Option D:=some (rD row)
 let K:Option D:=some (kw k)
 let Rm:Option D:=some (.int (m:Nat))
 let A:Option D:=some (.int k.w)
 let V:Option D:=some (.int k.v)
 let Mo:Option D:=some (mD k.m)
 have hw:=hk.1.1
 obtain ⟨ρ',q,o7,o8,_,rfl⟩:=qaG (G:=qt 7) (b:=(qH (zC 8 (dif (tst (d2 isN (dv 5) (ret .non))) (d2 vz (dv 7) (dv 3)) (qp wn (qa (dv 5) (qa (d2 vz (dv 7) (dv 3)) (ret [])))))) (jr (qV 6 (qp qdh (qa (zo 1 [0,4,7,3] none (zn (qa (d2 qU (dv 8) (ret (.int 1))) (ret []))) (qt 0) (ret true) (d2 qU (d2 ixD (dv 1) (d2 qfx (dv 3) (d2 uS (dv 0) (dv 4)))) (d2 uS (dv 0) (dv 2)))) (ret []))))))) (k:=λz:Nat=>D.int (z:Nat)) (step:=λ(acc:List Int) (z:Nat)=>acc++[bw k row z]) (Inv:=λn acc ρ=>∃o7 o8,acc.length<=n/\ρ=[Rw,K,Rm,A,V,Mo,some (.lst (acc.map D.int)),o7,o8]) (yay (m+1)) 0 [] [Rw,K,Rm,A,V,Mo,some (.lst []),none,none] ⟨none,none,yah _,rfl⟩ (λz hz n acc ρ _ hn=>by
  rintro⟨o7,o8,ha,rfl⟩
  have hz':z<row.length:=by have:=mR_.mp hz;omega
  rw[lR_]at hn
  have h20:=qel hk (s:=(z:Nat)) (by omega) (by omega)
  let Ac:Option D:=some (.lst (acc.map D.int))
  let Z:Option D:=some (.int (z:Nat))
  let ρ1:Env:=[Rw,K,Rm,A,V,Mo,Ac,Z,o8]
  let ρ2:Env:=[Rw,K,Rm,A,V,Mo,Ac,Z,some (.int (ofn k z:Nat))]
  have hd:0<=(z:Int)/k.w:=yej (by omega) (by omega)
  have fd:d2 vz (dv 7) (dv 3) ρ1=.ok (.int ((z:Int)/k.w),ρ1):=qs rfl rfl (uX (by omega) (by have:=hk.1.2;omega))
  have e1:(zC 8 (dif (tst (d2 isN (dv 5) (ret .non))) (d2 vz (dv 7) (dv 3)) (qp wn (qa (dv 5) (qa (d2 vz (dv 7) (dv 3)) (ret [])))))) ρ1=.ok (.nx ρ2):=by
   refine uo (ρ1:=ρ1) ?_
   have c1:tst (d2 isN (dv 5) (ret .non)) ρ1=.ok (k.m.isNone,ρ1):=jy (qs rfl rfl (by rw[qcE,qeh]))
   show dif _ _ _ ρ1=_
   rw[qhq,c1]
   cases em:k.m with
   |none=>
    have e:((ofn k z:Nat):Int)=(z:Int)/k.w:=by unfold ofn;rw[em];show(((z:Int)/k.w).toNat:Int)=_;omega
    rw[e]
    exact fd
   | some j=>
    have hj:=(hk.2.2 j em).1
    have e:((ofn k z:Nat):Int)=if(z:Int)/k.w<j then(z:Int)/k.w else j:=by
     unfold ofn
     rw[em]
     show((if j<(z:Int)/k.w then j else(z:Int)/k.w).toNat:Int)=_
     split<;>split<;>omega
    have hv:dv 5 ρ1=.ok (.int j,ρ1):=by
     show R.ok (mD k.m,ρ1)=_
     rw[em]
     rfl
    show qp wn (qa (dv 5) (qa (d2 vz (dv 7) (dv 3)) (ret []))) ρ1=_
    rw[wB,qaU hv fd]
    show(match wn [.int j,.int ((z:Int)/k.w)] with|some d=>R.ok (d,ρ1)|none => .bad)=_
    rw[qeg,e]
  have c:=uL (e:=d2 qU (d2 ixD (dv 1) (d2 qfx (dv 3) (d2 uS (dv 0) (dv 4)))) (d2 uS (dv 0) (dv 2))) (xs:=zn (qa (d2 qU (dv 8) (ret (.int 1))) (ret []))) (fr:=[0,4,7,3]) (ρ:=ρ2) (r:=[Rw,V,Z,A]) (k:=λt:Nat=>D.int (t:Nat)) (yay (ofn k z+1)) (λt=>D.int ((t:Int)*k.v+row.getD (ixT k z t) 0)) (qcM h20 (vo (qs rfl rfl (zM _ _)))) rfl (by rw[lR_];omega) λt ht=>by
   have ht':t<=ofn k z:=by have:=mR_.mp ht;omega
   obtain⟨i1,i2⟩:=qiG hk (by omega) hz' ht'
   have ft:yo (t:Int)=true:=qbQ (by omega) (by omega)
   refine qs (qs rfl (qs rfl (qs rfl rfl (qcG ft)) (show qfx (.int (z:Nat)) (.int ((t:Int)*k.w))=some (.int ((ixT k z t:Nat):Int)) by rw[qbP,i2])) (qaE (qcO i1))) (qs rfl rfl (qcG ft)) ?_
   rw[zM,Int.add_comm]
  have mx:=zj c (qcN (by simp))
  refine⟨ρ1,[Rw,K,Rm,A,V,Mo,some (.lst ((acc++[bw k row z]).map D.int)),Z,some (.int (ofn k z:Nat))],rfl,(qk e1).trans ?_,Z,some (.int (ofn k z:Nat)),by rw[lA_,yaC];omega,rfl⟩
  rw[v5 (ρ:=ρ2) (ds:=acc.map D.int) (d:=.int (bw k row z)) rfl mx rfl (by rw[lM_];omega),yel]
  rfl)
 have fe:(yay (m+1)).foldl (λ(acc:List Int) (z:Nat)=>acc++[bw k row z]) []=wO k row:=by
  have:∀(l:List Nat)(acc:List Int),l.foldl (λ(acc:List Int) (z:Nat)=>acc++[bw k row z]) acc=acc++l.map (bw k row):=λl=>by
   induction l with
   |nil=>intro acc;simp
   |cons a l ih=>intro acc;rw[List.foldl_cons,ih,mC_,aA_];rfl
  rw[this,ybO]
  unfold wO
  rw[hm]
 rw[fe]at q
 unfold qA yT
 let ρ3:Env:=[Rw,K,Rm,A,V,Mo,some (.lst ((wO k row).map D.int)),o7,o8]
 refine vv rfl ⟨ρ3,?_⟩
 refine(qk (ρ':=[Rw,K,Rm,A,V,Mo,none,none,none]) rfl).trans ?_
 refine(qk (ρ':=[Rw,K,Rm,A,V,Mo,some (.lst []),none,none]) ?_).trans ?_
 ·push_cast [immL,zx (show 0<=1000000 by omega),yaZ,Rw,K,Rm,A,V,Mo]
 refine(qk (ρ':=ρ3) ?_).trans rfl
 have rg:zn (qa (d2 qU (dv 2) (ret (.int 1))) (ret [])) [Rw,K,Rm,A,V,Mo,some (.lst []),none,none]=.ok ((yay (m+1)).map λz:Nat=>D.int (z:Nat),[Rw,K,Rm,A,V,Mo,some (.lst []),none,none]):=by
  rw[yx (vo (qs rfl rfl (zM _ _))) (by omega) (by omega)]
  have:((m:Nat)+1:Int).toNat=m+1:=by omega
  rw[this,qlY]
 rw[yL,rg]
 exact q
theorem ntn{t:M Bool}{ρ:Env}{b:Bool}(h:t ρ=.ok (b,ρ)):vK t ρ=.ok (!b,ρ):=by rw[qfT,h]
theorem qaN{t u:M Bool}{ρ:Env}{b:Bool}(h1:t ρ=.ok (false,ρ))(h2:u ρ=.ok (b,ρ)):tor t u ρ=.ok (b,ρ):=by rw[qhp,h1];exact h2
theorem ql6{f g:M D}{ρ:Env}(h:f ρ=.ok (.bl false,ρ)):qcW f g ρ=.ok (.bl false,ρ):=by rw[qdW,h];rfl
theorem qiH{f g:M D}{ρ:Env}(h:f ρ=.ok (.bl true,ρ)):qcW f g ρ=g ρ:=by rw[qdW,h];rfl
theorem qaW {T:String} {ρ:Env} {d:D} (i:Nat) (h:dv i ρ=.ok (d,ρ)) {b:Bool} (e:qbz (tyD d) T=b):vK (tst (qa2 T (dv i))) ρ=.ok (!b,ρ):=by
 have d0:qa2 T (dv i) ρ=.ok (.bl b,ρ):=by
  rw[qfS,h]
  simp only[e]
 exact ntn (jy d0)
theorem wP (a b:Nat):neB (.int (a:Nat)) (.int (b:Nat))=some (.bl (!decide (a=b))):=by
 rw[qbL]
 congr 2
 rw[ybm]
 simp only[ydJ,decide_eq_false_iff_not]
 omega
theorem qaa(ds:List D):ud [.lst ds]=some (.int ((ds.length:Nat):Int)):=rfl
def qkf:D->Bool
 |.fz _=>true
 |_=>false
def u5 (m:Nat):D->Bool
 |.tup xs=>decide (xs.length=m+1)&&xs.all zq
 |_=>false
theorem qdu(m:Nat)(xs:List D):u5 m (.tup xs)=(decide (xs.length=m+1)&&xs.all zq):=rfl
def qdv (n m:Nat):D->Bool
 |.lst ts=>decide (ts.length=n+1)&&ts.all (u5 m)
 |_=>false
theorem qbY(n m:Nat)(ts:List D):qdv n m (.lst ts)=(decide (ts.length=n+1)&&ts.all (u5 m)):=rfl
theorem qgI (d:D) {m:Nat} (hm:m<=15):v7 [d,.int (m:Nat)]=.ok (.bl (u5 m d)):=by
 unfold v7 qbU
 let ρ:Env:=[some d,some (.int (m:Nat))]
 refine vv rfl ⟨ρ,?_⟩
 cases d with
 | tup xs=>
  have t1:=qaW (T:="tuple") (ρ:=ρ) (d:=.tup xs) 0 rfl (uW xs)
  have t2:tst (d2 neB (qp ud (qa (dv 0) (ret []))) (d2 qU (dv 1) (ret (.int 1)))) ρ=.ok (!decide (xs.length=m+1),ρ):=jy (qs (zj (a:=.tup xs) rfl (z5 xs)) (qs (d:=.int ((m+1:Nat):Int)) rfl rfl rfl) (wP _ _))
  rw[qdu]
  by_cases c:xs.length=m+1
  ·rw[decide_eq_true c]at t2
   rw[decide_eq_true c,yaT]
   refine(qk (ρ':=ρ) ((qdr (qaN t1 t2)).trans rfl)).trans (jm ?_)
   have cc:=uL (e:=qq jh (qa (dv 0) (ret []))) (xs:=yt (dv 0)) (fr:=[]) (ρ:=ρ) (r:=[]) (k:=λd:D=>d) xs (λd=>D.bl (zq d)) (by rw[ydc];rfl) rfl (by omega) λd _=>qgD rfl (jj d)
   exact zj cc v6
  ·rw[decide_eq_false c]at t2
   rw[decide_eq_false c,ybD]
   exact jQ ((qeR (qaN t1 t2)).trans (jm rfl))
 |_=>exact jQ ((qeR (qmq (qaW (T:="tuple") (ρ:=ρ) 0 rfl (b:=false) (by first|decide|rfl)))).trans (jm rfl))
theorem qdw(ts:List D):qbz (tyD (.lst ts)) "list"=true:=rfl
theorem qeW (t:D) (hf:qkf t=false) (ks:List Kw) (hl:ks.length<=4) {m:Nat} (hm:m<=15):v8 [t,.tup (ks.map kw),.int (m:Nat)]=.ok (.bl (qdv ks.length m t)):=by
 unfold v8 qaJ
 let ρ:Env:=[some t,some (.tup (ks.map kw)),some (.int (m:Nat))]
 refine vv rfl ⟨ρ,?_⟩
 cases t with
 | lst ts=>
  have t1:=qaW (T:="list") (ρ:=ρ) (d:=.lst ts) 0 rfl (qdw ts)
  have t2:tst (d2 neB (qp ud (qa (dv 0) (ret []))) (d2 qU (qp ud (qa (dv 1) (ret []))) (ret (.int 1)))) ρ=.ok (!decide (ts.length=ks.length+1),ρ):=jy (qs (zj (a:=.lst ts) rfl (qaa ts)) (qs (d:=.int ((ks.length+1:Nat):Int)) (zj (a:=.tup (ks.map kw)) rfl (by rw[z5,lM_])) rfl rfl) (wP _ _))
  rw[qbY]
  by_cases c:ts.length=ks.length+1
  ·rw[decide_eq_true c]at t2
   rw[decide_eq_true c,yaT]
   refine(qk (ρ':=ρ) ((qdr (qaN t1 t2)).trans rfl)).trans (jm ?_)
   have cc:=uL (e:=qq v7 (qa (dv 0) (qa (dv 1) (ret [])))) (xs:=yt (dv 0)) (fr:=[2]) (ρ:=ρ) (r:=[some (.int (m:Nat))]) (k:=λd:D=>d) ts (λd=>D.bl (u5 m d)) (by rw[ydc];rfl) rfl (by omega) λd _=>qcJ rfl rfl (qgI d hm)
   exact zj cc v6
  ·rw[decide_eq_false c]at t2
   rw[decide_eq_false c,ybD]
   exact jQ ((qeR (qaN t1 t2)).trans (jm rfl))
 |fz ns=>cases hf
 |_=>exact jQ ((qeR (qmq (qaW (T:="list") (ρ:=ρ) 0 rfl (b:=false) (by first|decide|rfl)))).trans (jm rfl))
structure qhP (m:Nat) (row:List Int):Prop where
 len:row.length=m+1
 nn:∀x∈row,0<=x
theorem qiI {m:Nat} {d:D} (h:u5 m d=true):∃row,d=rD row/\qhP m row:=by
 cases d with
 | tup xs=>
  rw[qdu,yal,decide_eq_true_eq,List.all_eq_true]at h
  obtain⟨hl,ha⟩:=h
  have:∀xs:List D,(∀x∈xs,zq x=true)->∃row:List Int,xs=row.map D.int/\∀x∈row,0<=x:=λxs=>by
   induction xs with
   |nil=>intro _;exact⟨[],rfl,λx hx=>by cases hx⟩
   | cons x xs ih=>
    intro h
    obtain⟨row,e,g⟩:=ih λy hy=>h y (mM _ hy)
    have hx:=h x mS_
    cases x with
    |int n=>
     refine⟨n::row,by rw[e];rfl,λy hy=>?_⟩
     rcases List.mem_cons.mp hy with rfl|hy
     ·exact of_decide_eq_true hx
     ·exact g y hy
    |_=>cases hx
  obtain⟨row,rfl,g⟩:=this xs ha
  exact⟨row,rfl,by simpa using hl,g⟩
 |_=>cases h
theorem qgJ {m:Nat}:∀ts:List D,ts.all (u5 m)=true->∃rows:List (List Int),ts=rows.map rD/\∀r∈rows,qhP m r
 | [],_=>⟨[],rfl,λr hr=>by cases hr⟩
 |t::ts,h=>by
  rw[List.all_cons,yal]at h
  obtain⟨row,rfl,g⟩:=qiI h.1
  obtain⟨rows,rfl,gs⟩:=qgJ ts h.2
  refine⟨row::rows,rfl,λr hr=>?_⟩
  rcases List.mem_cons.mp hr with rfl|hr
  ·exact g
  ·exact gs r hr
def leB(b low:List Int):Bool:=(b.zip low).all λz=>decide (z.2<=z.1)
theorem qiJ:∀a b:List Int,qcY (a.map D.int) (b.map D.int)=(a.zip b).map λz=>D.tup [.int z.1,.int z.2]
 | [],_=>by simp[qcY]
 |_::_,[]=>by simp[qcY]
 |x::a,y::b=>by
  rw[mC_,mC_,ydp,mC_,<-qiJ a b]
  rfl
theorem qeX (a b:List Int) (hl:a.length<=20):jE [rD a,rD b]=.ok (.bl (leB a b)):=by
 unfold jE u0
 let ρ:Env:=[some (rD a),some (rD b)]
 refine vv rfl ⟨ρ,jm ?_⟩
 have c1:=qj8 (e:=d2 geD (dv 0) (dv 1)) (t:=ret true) (xs:=qlr (qa (dv 0) (qa (dv 1) (ret [])))) (fr:=[]) (ρ:=ρ) (r:=[]) (u:=λz:Int×Int=>D.int z.1) (v:=λz=>D.int z.2) (a.zip b) (λ_=>true) (λz=>D.bl (decide (z.2<=z.1))) (by
  rw[qfW,qaU (a:=.tup (a.map D.int)) (b:=.tup (b.map D.int)) rfl rfl]
  simp only[qlq,qiJ]) rfl (by rw[yem];omega) (λ_ _=>rfl) (λz _ _=>qs rfl rfl rfl)
 rw[qaF]at c1
 exact zj c1 v6
theorem qeY {a b:List Int} {m:Nat} (ha:a.length=m+1) (hb:b.length=m+1):((yay (m+1)).filter λj=>decide (a.getD j 0<b.getD j 0)).isEmpty=leB a b:=by
 rw[ybm]
 unfold leB
 rw[List.isEmpty_iff,List.filter_eq_nil_iff,List.all_eq_true]
 constructor
 ·intro h z hz
  obtain⟨i,hi,e⟩:=List.getElem_of_mem hz
  rw[yem]at hi
  have:=h i (mR_.mpr (by omega))
  rw[List.getElem_zip]at e
  have h1:a.getD i 0=a[i]'(by omega):=by simp[show i<a.length by omega]
  have h2:b.getD i 0=b[i]'(by omega):=by simp[show i<b.length by omega]
  rw[h1,h2]at this
  rw[<-e]
  simp only[decide_eq_true_eq]at this |-
  omega
 ·intro h j hj
  have hj':=mR_.mp hj
  have hz:(a[j]'(by omega),b[j]'(by omega))∈a.zip b:=by
   rw[List.mem_iff_getElem]
   exact⟨j,by rw[yem];omega,by rw[List.getElem_zip]⟩
  have:=h _ hz
  have h1:a.getD j 0=a[j]'(by omega):=by simp[show j<a.length by omega]
  have h2:b.getD j 0=b[j]'(by omega):=by simp[show j<b.length by omega]
  rw[h1,h2]
  simp only[decide_eq_true_eq]at this |-
  omega
def chB:List Kw->List (List Int)->Bool
 |k::ks,a::b::rs=>leB b (wO k a)&&chB ks (b::rs)
 |_,_=>true
theorem qbZ {α:Type} {f:α->D} {l:List α} {y:α} (h:l.getLast? = some y):atI (l.map f) (-1)=some (f y):=by
 have hne:l≠[]:=λe=>by rw[e]at h;cases h
 have hl:0<l.length:=List.length_pos_iff.mpr hne
 have e:l[l.length-1]? = some y:=by rw[<-List.getLast?_eq_getElem?];exact h
 unfold atI ixN
 rw[if_neg (by omega),lM_]
 split
 ·have e2:((-1:Int)+(l.length:Int)).toNat=l.length-1:=by omega
  show(l.map f)[((-1:Int)+(l.length:Int)).toNat]? = _
  rw[e2,gM_,e]
  rfl
 ·omega
theorem qdx {G:D->Env->Option Env} {b:MS} {d v:D} {ds:List D} {ρ ρ1 ρ2:Env} (h1:G d ρ=some ρ1) (h2:b ρ1=.ok (.rt v ρ2)):yk G b (d::ds) ρ=.ok (.rt v ρ2):=by
 unfold yk
 simp only[h1,h2]
section
variable{ks:List Kw}(hk:∀k∈ks,yn k)(hl:ks.length<=4){m:Nat}(hm:m<=15)
include hk hl hm
theorem qbn {rows:List (List Int)} (hr:∀r∈rows,qhP m r) (hn:rows.length=ks.length+1):∀(kt:List Kw)(i:Nat)(o3 o4:Option D),i+kt.length=ks.length->ks.drop i=kt ->
  ∃p3 p4,yk (qc5 2 (jI (qt 3) (jI (qt 4) qc4))) (sif (vK (tst (qq jE (qa (d2 ixD (dv 0) (d2 qU (dv 3) (ret (.int 1)))) (qa (qq zY (qa (dv 4) (qa (d2 ixD (dv 0) (dv 3)) (ret [])))) (ret [])))))) (zK (ret .non)) ju) (kt.zipIdx i |>.map λz=>D.tup [.int (z.2:Nat),kw z.1]) [some (.lst (rows.map rD)),some (.tup (ks.map kw)),some (.int (m:Nat)),o3,o4]=.ok (if chB kt (rows.drop i)=true then .nx [some (.lst (rows.map rD)),some (.tup (ks.map kw)),some (.int (m:Nat)),p3,p4]else .rt .non [some (.lst (rows.map rD)),some (.tup (ks.map kw)),some (.int (m:Nat)),p3,p4])
 | [],i,o3,o4,_,_=>⟨o3,o4,by
  have:chB [] (rows.drop i)=true:=by unfold chB;rfl
  rw[this]
  rfl⟩
 | k::kt,i,o3,o4,hi,hd=>by
  rw[lC_]at hi
  have gk:=hk k (yby (by rw[hd];exact mS_))
  have i1:i<rows.length:=by omega
  have i2:i+1<rows.length:=by omega
  have ea:rows.drop i=rows[i]::rows[i+1]::rows.drop (i+2):=by rw[ya7 i1,ya7 i2]
  have eb:rows.drop (i+1)=rows[i+1]::rows.drop (i+2):=ya7 i2
  have h1:=hr rows[i] (ybF i1)
  have h2:=hr rows[i+1] (ybF i2)
  let T:Option D:=some (.lst (rows.map rD))
  let K:Option D:=some (.tup (ks.map kw))
  let M:Option D:=some (.int (m:Nat))
  let ρ1:Env:=[T,K,M,some (.int (i:Nat)),some (kw k)]
  have x1:d2 ixD (dv 0) (dv 3) ρ1=.ok (rD rows[i],ρ1):=qs rfl rfl (qaK (by rw[gM_,gG i1];rfl))
  have x2:d2 ixD (dv 0) (d2 qU (dv 3) (ret (.int 1))) ρ1=.ok (rD rows[i+1],ρ1):=qs rfl (qs (d:=.int ((i+1:Nat):Int)) rfl rfl rfl) (qaK (by rw[gM_,gG i2];rfl))
  have nx1:qq zY (qa (dv 4) (qa (d2 ixD (dv 0) (dv 3)) (ret []))) ρ1=.ok (rD (wO k rows[i]),ρ1):=qcJ rfl x1 (qaL gk (by rw[h1.len];omega))
  have tt:=ntn (jy (qcJ x2 nx1 (qeX rows[i+1] (wO k rows[i]) (by rw[h2.len];omega))))
  rw[ycU,mC_]
  have ech:chB (k::kt) (rows.drop i)=(leB rows[i+1] (wO k rows[i])&&chB kt (rows.drop (i+1))):=by rw[ea,eb];rfl
  cases c:leB rows[i+1] (wO k rows[i]) with
  |true=>
   rw[c]at tt
   obtain⟨p3,p4,q⟩:=qbn hr hn kt (i+1) (some (.int (i:Nat))) (some (kw k)) (by omega) (by rw[<-List.drop_drop,hd];rfl)
   refine⟨p3,p4,?_⟩
   rw[ech,c,yaT]
   exact(zV (ρ1:=ρ1) (ρ2:=ρ1) rfl ((qdr tt).trans rfl)).trans q
  |false=>
   rw[c]at tt
   refine⟨some (.int (i:Nat)),some (kw k),?_⟩
   rw[ech,c,ybD,if_neg (by simp)]
   exact qdx (ρ1:=ρ1) rfl ((qeR tt).trans (jm rfl))
theorem qem {rows:List (List Int)} (hr:∀r∈rows,qhP m r) (hn:rows.length=ks.length+1):∀(kt:List Kw)(i:Nat)(o3 o4 o5:Option D),i+kt.length=ks.length->ks.drop i=kt ->
  ∃p4 p5,yk (qt 4) (qH (zC 5 (qq qA (qa (d2 ixD (dv 0) (dv 4)) (qa (d2 ixD (dv 1) (dv 4)) (qa (dv 2) (ret [])))))) (sif (tst (d2 neB (zo 1 [5,0,4] none (zn (qa (d2 qU (dv 2) (ret (.int 1))) (ret []))) (qt 0) (tst (d2 ltD (d2 ixD (d2 ixD (dv 2) (d2 qU (dv 3) (ret (.int 1)))) (dv 0)) (d2 ixD (dv 1) (dv 0)))) (dv 0)) (jP (ret [])))) (zK (ret .non)) ju)) ((List.range' i kt.length).map λj=>D.int (j:Nat)) [some (.lst (rows.map rD)),some (.tup (ks.map kw)),some (.int (m:Nat)),o3,o4,o5]=.ok (if chB kt (rows.drop i)=true then .nx [some (.lst (rows.map rD)),some (.tup (ks.map kw)),some (.int (m:Nat)),o3,p4,p5]else .rt .non [some (.lst (rows.map rD)),some (.tup (ks.map kw)),some (.int (m:Nat)),o3,p4,p5])
 | [],i,o3,o4,o5,_,_=>⟨o4,o5,by
  have:chB [] (rows.drop i)=true:=by unfold chB;rfl
  rw[this]
  rfl⟩
 | k::kt,i,o3,o4,o5,hi,hd=>by
  rw[lC_]at hi
  have gk:=hk k (yby (by rw[hd];exact mS_))
  have i1:i<rows.length:=by omega
  have i2:i+1<rows.length:=by omega
  have ki:ks[i]? = some k:=by
   have:=congrArg (·[0]?) hd
   simpa using this
  have ea:rows.drop i=rows[i]::rows[i+1]::rows.drop (i+2):=by rw[ya7 i1,ya7 i2]
  have eb:rows.drop (i+1)=rows[i+1]::rows.drop (i+2):=ya7 i2
  have h1:=hr rows[i] (ybF i1)
  have h2:=hr rows[i+1] (ybF i2)
  let low:=wO k rows[i]
  have hlow:low.length=m+1:=by show(wO k rows[i]).length=_;rw[w9,h1.len]
  let T:Option D:=some (.lst (rows.map rD))
  let K:Option D:=some (.tup (ks.map kw))
  let M:Option D:=some (.int (m:Nat))
  let I:Option D:=some (.int (i:Nat))
  let Lo:Option D:=some (rD low)
  let ρ1:Env:=[T,K,M,o3,I,o5]
  let ρ2:Env:=[T,K,M,o3,I,Lo]
  have x1:d2 ixD (dv 0) (dv 4) ρ1=.ok (rD rows[i],ρ1):=qs rfl rfl (qaK (by rw[gM_,gG i1];rfl))
  have x2:d2 ixD (dv 1) (dv 4) ρ1=.ok (kw k,ρ1):=qs rfl rfl (qaE (by rw[gM_,ki];rfl))
  have s0:(zC 5 (qq qA (qa (d2 ixD (dv 0) (dv 4)) (qa (d2 ixD (dv 1) (dv 4)) (qa (dv 2) (ret [])))))) ρ1=.ok (.nx ρ2):=uo (ρ1:=ρ1) (wT x1 x2 rfl (qaM gk h1.len (by omega)))
  have rg:zn (qa (d2 qU (dv 2) (ret (.int 1))) (ret [])) ρ2=.ok ((yay (m+1)).map λz:Nat=>D.int (z:Nat),ρ2):=by
   rw[yx (vo (qs rfl rfl (zM _ _))) (by omega) (by omega)]
   have:((m:Nat)+1:Int).toNat=m+1:=by omega
   rw[this,qlY]
  have cc:=qiC (e:=dv 0) (t:=tst (d2 ltD (d2 ixD (d2 ixD (dv 2) (d2 qU (dv 3) (ret (.int 1)))) (dv 0)) (d2 ixD (dv 1) (dv 0)))) (xs:=zn (qa (d2 qU (dv 2) (ret (.int 1))) (ret []))) (fr:=[5,0,4]) (ρ:=ρ2) (r:=[Lo,T,I]) (k:=λz:Nat=>D.int (z:Nat)) (yay (m+1)) (λj=>decide (rows[i+1].getD j 0<low.getD j 0)) (λz=>D.int (z:Nat)) rg rfl (by rw[lR_];omega) (λj hj=>by
   have hj':=mR_.mp hj
   exact jy (qs (qs (qs rfl (qs (d:=.int ((i+1:Nat):Int)) rfl rfl rfl) (qaK (by rw[gM_,gG i2];rfl))) rfl (qaE (qcO (by rw[h2.len];omega)))) (qs rfl rfl (qaE (qcO (by rw[hlow];omega)))) (qbO _ _))) (λ_ _ _=>rfl)
  have l0:jP (ret []) ρ2=.ok (.lst [],ρ2):=by
   rw[vT]
   simp only[qaQ,lN_,zx (show 0<=1000000 by omega),if_true]
  have tt:=jy (qs cc l0 (qj9 _))
  rw[qeY h2.len hlow]at tt
  have ech:chB (k::kt) (rows.drop i)=(leB rows[i+1] low&&chB kt (rows.drop (i+1))):=by rw[ea,eb];rfl
  rw[lC_,List.range'_succ,mC_]
  cases c:leB rows[i+1] low with
  |true=>
   rw[c]at tt
   obtain⟨p4,p5,q⟩:=qem hr hn kt (i+1) o3 I Lo (by omega) (by rw[<-List.drop_drop,hd];rfl)
   refine⟨p4,p5,?_⟩
   rw[ech,c,yaT]
   exact(zV (ρ1:=ρ1) (ρ2:=ρ2) rfl ((qk s0).trans ((qdr tt).trans rfl))).trans q
  |false=>
   rw[c]at tt
   refine⟨I,Lo,?_⟩
   rw[ech,c,ybD,if_neg (by simp)]
   exact qdx (ρ1:=ρ1) rfl ((qk s0).trans ((qeR tt).trans (jm rfl)))
end
theorem qb0 {m:Nat} (hm:m<=15) (T K:Option D):∀(ts:List D)(o3 o4 o5:Option D),∃p3,yk (qt 3) (qH (sif (tor (vK (tst (qa2 "tuple" (dv 3)))) (tst (d2 neB (qp ud (qa (dv 3) (ret []))) (d2 qU (dv 2) (ret (.int 1)))))) (zK (ret .non)) ju) (sif (vK (tst (qp qcX (qa (zo 1 [] none (yt (dv 3)) (qt 0) (ret true) (qcW (qq zd (qa (dv 0) (ret []))) (d2 geD (dv 0) (ret (.int 0))))) (ret []))))) (zK (ret .non)) ju)) ts [T,K,some (.int (m:Nat)),o3,o4,o5]=.ok (if ts.all (u5 m)=true then .nx [T,K,some (.int (m:Nat)),p3,o4,o5]else .rt .non [T,K,some (.int (m:Nat)),p3,o4,o5])
 | [],o3,o4,o5=>⟨o3,rfl⟩
 | d :: ts,o3,o4,o5=>by
  let M:Option D:=some (.int (m:Nat))
  let ρ1:Env:=[T,K,M,some d,o4,o5]
  have yes:u5 m d=true->(qH (sif (tor (vK (tst (qa2 "tuple" (dv 3)))) (tst (d2 neB (qp ud (qa (dv 3) (ret []))) (d2 qU (dv 2) (ret (.int 1)))))) (zK (ret .non)) ju) (sif (vK (tst (qp qcX (qa (zo 1 [] none (yt (dv 3)) (qt 0) (ret true) (qcW (qq zd (qa (dv 0) (ret []))) (d2 geD (dv 0) (ret (.int 0))))) (ret []))))) (zK (ret .non)) ju)) ρ1=.ok (.nx ρ1):=λh=>by
   obtain⟨row,rfl,g⟩:=qiI h
   have t1:=qaW (T:="tuple") (ρ:=ρ1) (d:=rD row) 3 rfl (uW _)
   have t2:tst (d2 neB (qp ud (qa (dv 3) (ret []))) (d2 qU (dv 2) (ret (.int 1)))) ρ1=.ok (false,ρ1):=by
    have:=jy (qs (ρ:=ρ1) (f:=qp ud (qa (dv 3) (ret []))) (g:=d2 qU (dv 2) (ret (.int 1))) (zj (a:=rD row) rfl (by unfold rD;rw[z5,lM_])) (qs (d:=.int ((m+1:Nat):Int)) rfl rfl rfl) (wP row.length (m+1)))
    rw[g.len,decide_eq_true rfl]at this
    exact this
   have cc:=uL (e:=qcW (qq zd (qa (dv 0) (ret []))) (d2 geD (dv 0) (ret (.int 0)))) (xs:=yt (dv 3)) (fr:=[]) (ρ:=ρ1) (r:=[]) (k:=D.int) row (λ_=>D.bl true) rfl rfl (by rw[g.len];omega) λn hn=>by
    rw[qiH (qgD (a:=.int n) rfl (u4 _))]
    exact qs rfl rfl (show geD (.int n) (.int 0)=some (.bl true) by show some (D.bl (decide (0<=n)))=_;rw[decide_eq_true (g.nn n hn)])
   have ca:=zj cc (v6 (as:=row) (f:=λ_=>true))
   have e1:(row.all λ_=>true)=true:=List.all_eq_true.mpr λ_ _=>rfl
   rw[e1]at ca
   exact(qk (ρ':=ρ1) ((qdr (qaN t1 t2)).trans rfl)).trans ((qdr (ntn (jy ca))).trans rfl)
  have no:u5 m d=false->(qH (sif (tor (vK (tst (qa2 "tuple" (dv 3)))) (tst (d2 neB (qp ud (qa (dv 3) (ret []))) (d2 qU (dv 2) (ret (.int 1)))))) (zK (ret .non)) ju) (sif (vK (tst (qp qcX (qa (zo 1 [] none (yt (dv 3)) (qt 0) (ret true) (qcW (qq zd (qa (dv 0) (ret []))) (d2 geD (dv 0) (ret (.int 0))))) (ret []))))) (zK (ret .non)) ju)) ρ1=.ok (.rt .non ρ1):=λh=>by
   cases d with
   | tup xs=>
    have t1:=qaW (T:="tuple") (ρ:=ρ1) (d:=.tup xs) 3 rfl (uW xs)
    have t2:=jy (qs (ρ:=ρ1) (f:=qp ud (qa (dv 3) (ret []))) (g:=d2 qU (dv 2) (ret (.int 1))) (zj (a:=.tup xs) rfl (z5 xs)) (qs (d:=.int ((m+1:Nat):Int)) rfl rfl rfl) (wP xs.length (m+1)))
    by_cases c:xs.length=m+1
    ·rw [decide_eq_true c]at t2
     rw[qdu,decide_eq_true c,yaT]at h
     have cc:=uL (e:=qcW (qq zd (qa (dv 0) (ret []))) (d2 geD (dv 0) (ret (.int 0)))) (xs:=yt (dv 3)) (fr:=[]) (ρ:=ρ1) (r:=[]) (k:=λd:D=>d) xs (λd=>D.bl (zq d)) (by rw[ydc];rfl) rfl (by omega) λx _=>by
      have w:=qgD (ρ:=[some x]) (f:=dv 0) (a:=x) rfl (u4 x)
      cases x with
      |int n=>exact(qiH w).trans (qs rfl rfl rfl)
      |_=>exact ql6 w
     have ca:=zj cc v6
     rw[h]at ca
     exact(qk (ρ':=ρ1) ((qdr (qaN t1 t2)).trans rfl)).trans ((qeR (ntn (jy ca))).trans (jm rfl))
    ·rw[decide_eq_false c]at t2
     exact jQ ((qeR (qaN t1 t2)).trans (jm rfl))
   |_=>exact jQ ((qeR (qmq (qaW (T:="tuple") (ρ:=ρ1) 3 rfl (b:=false) (by first|decide|rfl)))).trans (jm rfl))
  rw[List.all_cons]
  cases c:u5 m d with
  |true=>
   obtain⟨p3,q⟩:=qb0 hm T K ts (some d) o4 o5
   exact⟨p3,by rw[yaT];exact(zV (ρ1:=ρ1) (ρ2:=ρ1) rfl (yes c)).trans q⟩
  |false=>
   exact⟨some d,by rw[ybD,if_neg (by simp)];exact qdx (ρ1:=ρ1) rfl (no c)⟩
theorem qgK:∀(ks:List Kw)(i:Nat),wC i (ks.map kw)=(ks.zipIdx i).map λz=>D.tup [.int (z.2:Nat),kw z.1]
 | [],_=>rfl
 |k::ks,i=>by
  rw[mC_,wC,ycU,mC_,qgK ks (i+1)]
theorem qhQ {ks:List Kw} (hk:∀k∈ks,yn k) (hl:ks.length<=4) {m:Nat} (hm:m<=15) (t:D) (hf:qkf t=false):∃d,qD [t,.tup (ks.map kw),.int (m:Nat)]=.ok d/\qN [t,.tup (ks.map kw),.int (m:Nat)]=.ok d/\(d=.non\/∃(rows:List (List Int))(n:Int),t=.lst (rows.map rD)/\d=.int n/\∃r∈rows,n∈r):=by
 have hs:=vh hk (show ks.length<=12 by omega)
 let T:Option D:=some t
 let K:Option D:=some (.tup (ks.map kw))
 let M:Option D:=some (.int (m:Nat))
 let σ:Env:=[T,K,M,none,none]
 let τ:Env:=[T,K,M,none,none,none]
 have s0:(jr (ul RN qT (qa (dv 1) (qa (dv 2) (ret []))))) σ=.ok (.nx σ):=by
  rw[vH,vW,qaU (a:=.tup (ks.map kw)) (b:=.int (m:Nat)) rfl rfl]
  simp only[wc hs (show(0:Int)<=(m:Nat) by omega) (by omega)]
 have tr:=ntn (jy (wT (ρ:=σ) (f:=dv 0) (g:=dv 1) (h:=dv 2) rfl rfl rfl (qeW t hf ks hl hm)))
 cases er:qdv ks.length m t with
 | false=>
  rw[er]at tr
  refine⟨.non,?_,?_,.inl rfl⟩
  ·unfold qD zQ
   exact qhG rfl ⟨σ,(qk s0).trans (jQ ((qeR tr).trans (jm rfl)))⟩
  ·unfold qN js
   cases t with
   | lst ts=>
    have t1:=qaW (T:="list") (ρ:=τ) (d:=.lst ts) 0 rfl (qdw ts)
    have t2:=jy (qs (ρ:=τ) (f:=qp ud (qa (dv 0) (ret []))) (g:=d2 qU (qp ud (qa (dv 1) (ret []))) (ret (.int 1))) (zj (a:=.lst ts) rfl (qaa ts)) (qs (d:=.int ((ks.length+1:Nat):Int)) (zj (a:=.tup (ks.map kw)) rfl (by rw[z5,lM_])) rfl rfl) (wP ts.length (ks.length+1)))
    rw[qbY]at er
    by_cases c:ts.length=ks.length+1
    ·rw[decide_eq_true c]at t2
     rw[decide_eq_true c,yaT]at er
     obtain⟨p3,q⟩:=qb0 hm T K ts none none none
     rw[er,if_neg (by simp)]at q
     refine vv rfl ⟨[T,K,M,p3,none,none],(qk (ρ':=τ) ((qdr (qaN t1 t2)).trans rfl)).trans (jQ ?_)⟩
     rw[yL]
     exact q
    ·rw[decide_eq_false c]at t2
     exact vv rfl ⟨τ,jQ ((qeR (qaN t1 t2)).trans (jm rfl))⟩
   |fz ns=>cases hf
   |_=>exact vv rfl ⟨τ,jQ ((qeR (qmq (qaW (T:="list") (ρ:=τ) 0 rfl (b:=false) (by first|decide|rfl)))).trans (jm rfl))⟩
 | true=>
  rw[er]at tr
  cases t with
  | lst ts=>
   rw[qbY,yal,decide_eq_true_eq]at er
   obtain⟨hn,ha⟩:=er
   obtain⟨rows,rfl,hr⟩:=qgJ ts ha
   rw[lM_]at hn
   obtain ⟨lr,elr⟩:∃r,rows.getLast? = some r:=by
    cases e:rows.getLast? with
    |none=>rw[List.getLast?_eq_none_iff.mp e]at hn;simp at hn
    |some r=>exact⟨r,rfl⟩
   have lm:=hr lr (ydd elr)
   obtain ⟨n,en⟩:∃n,lr.getLast? = some n:=by
    cases e:lr.getLast? with
    |none=>have:=lm.len;rw[List.getLast?_eq_none_iff.mp e]at this;simp at this
    |some r=>exact⟨r,rfl⟩
   have enm:lr[m]? = some n:=by
    have:=lm.len
    rw[List.getLast?_eq_getElem?,this]at en
    exact en
   obtain⟨p3,p4,qb⟩:=qbn hk hl hm hr hn ks 0 none none (by omega) rfl
   obtain⟨q3,qr⟩:=qb0 hm T K (rows.map rD) none none none
   rw[ha,if_pos rfl]at qr
   obtain⟨q4,q5,qd⟩:=qem hk hl hm hr hn ks 0 q3 none none (by omega) rfl
   rw[List.drop_zero]at qb qd
   have s2:(vn (qde (qa (dv 1) (ret []))) (qc5 2 (jI (qt 3) (jI (qt 4) qc4))) (sif (vK (tst (qq jE (qa (d2 ixD (dv 0) (d2 qU (dv 3) (ret (.int 1)))) (qa (qq zY (qa (dv 4) (qa (d2 ixD (dv 0) (dv 3)) (ret [])))) (ret [])))))) (zK (ret .non)) ju)) σ=.ok (if chB ks rows=true then .nx [T,K,M,p3,p4]else .rt .non [T,K,M,p3,p4]):=by
    rw[yL]
    have en:qde (qa (dv 1) (ret [])) σ=.ok (ks.zipIdx 0 |>.map λz=>D.tup [.int (z.2:Nat),kw z.1],σ):=by
     rw[qdf,vo (a:=.tup (ks.map kw)) rfl,<-qgK]
     rfl
    rw[en]
    exact qb
   have ng:∀ρ:Env,d1 uw (ret (.int 1)) ρ=.ok (.int (-1),ρ):=λ_=>rfl
   have t1:=qaW (T:="list") (ρ:=τ) (d:=.lst (rows.map rD)) 0 rfl (qdw _)
   have t2:=jy (qs (ρ:=τ) (f:=qp ud (qa (dv 0) (ret []))) (g:=d2 qU (qp ud (qa (dv 1) (ret []))) (ret (.int 1))) (zj (a:=.lst (rows.map rD)) rfl (qaa _)) (qs (d:=.int ((ks.length+1:Nat):Int)) (zj (a:=.tup (ks.map kw)) rfl (by rw[z5,lM_])) rfl rfl) (wP (rows.map rD).length (ks.length+1)))
   rw[lM_,hn,decide_eq_true rfl]at t2
   let τ1:Env:=[T,K,M,q3,none,none]
   have e0:(sif (tor (vK (tst (qa2 "list" (dv 0)))) (tst (d2 neB (qp ud (qa (dv 0) (ret []))) (d2 qU (qp ud (qa (dv 1) (ret []))) (ret (.int 1)))))) (zK (ret .non)) ju) τ=.ok (.nx τ):=(qdr (qaN t1 t2)).trans rfl
   have e1:(vn (yt (dv 0)) (qt 3) (qH (sif (tor (vK (tst (qa2 "tuple" (dv 3)))) (tst (d2 neB (qp ud (qa (dv 3) (ret []))) (d2 qU (dv 2) (ret (.int 1)))))) (zK (ret .non)) ju) (sif (vK (tst (qp qcX (qa (zo 1 [] none (yt (dv 3)) (qt 0) (ret true) (qcW (qq zd (qa (dv 0) (ret []))) (d2 geD (dv 0) (ret (.int 0))))) (ret []))))) (zK (ret .non)) ju))) τ=.ok (.nx τ1):=by
    rw[yL]
    exact qr
   have e2:(vn (zn (qa (qp ud (qa (dv 1) (ret []))) (ret []))) (qt 4) (qH (zC 5 (qq qA (qa (d2 ixD (dv 0) (dv 4)) (qa (d2 ixD (dv 1) (dv 4)) (qa (dv 2) (ret [])))))) (sif (tst (d2 neB (zo 1 [5,0,4] none (zn (qa (d2 qU (dv 2) (ret (.int 1))) (ret []))) (qt 0) (tst (d2 ltD (d2 ixD (d2 ixD (dv 2) (d2 qU (dv 3) (ret (.int 1)))) (dv 0)) (d2 ixD (dv 1) (dv 0)))) (dv 0)) (jP (ret [])))) (zK (ret .non)) ju))) τ1=.ok (if chB ks rows=true then .nx [T,K,M,q3,q4,q5]else .rt .non [T,K,M,q3,q4,q5]):=by
    rw[yL]
    have rg:zn (qa (qp ud (qa (dv 1) (ret []))) (ret [])) τ1=.ok ((List.range' 0 ks.length).map λz:Nat=>D.int (z:Nat),τ1):=by
     rw[yx (vo (zj (a:=.tup (ks.map kw)) (d:=.int (ks.length:Nat)) rfl (by rw[z5,lM_]))) (by omega) (by omega)]
     rw[ybc,qlY,List.range_eq_range']
    rw[rg]
    exact qd
   cases c:chB ks rows with
   | false=>
    rw[c,if_neg (by simp)]at s2 e2
    refine⟨.non,?_,?_,.inl rfl⟩
    ·unfold qD zQ
     exact qhG rfl ⟨_,(qk s0).trans ((qk ((qdr tr).trans rfl)).trans (jQ s2))⟩
    ·unfold qN js
     exact vv rfl ⟨_,(qk e0).trans ((qk e1).trans (jQ e2))⟩
   | true=>
    rw[c,if_pos rfl]at s2 e2
    refine⟨.int n,?_,?_,.inr ⟨rows,n,rfl,rfl,lr,ydd elr,ydd en⟩⟩
    ·unfold qD zQ
     refine qhG rfl ⟨_,(qk s0).trans ((qk ((qdr tr).trans rfl)).trans ((qk s2).trans (jm (qs (qs rfl (ng _) (d:=rD lr) ?_) (ng _) ?_))))⟩
     ·exact qbZ (f:=rD) elr
     ·exact qbZ (f:=D.int) en
    ·unfold qN js
     refine vv rfl ⟨_,(qk e0).trans ((qk e1).trans ((qk e2).trans (jm (qs (qs rfl (ng _) (d:=rD lr) ?_) rfl ?_))))⟩
     ·exact qbZ (f:=rD) elr
     ·exact qaE (by rw[gM_,enm];rfl)
  |_=>cases er
def pap (row:List Int):List Kw->List (List Int)
 | []=>[row]
 |k::ks=>row::pap (wO k row) ks
theorem qkg (ks:List Kw) (row:List Int):(pap row ks).length=ks.length+1:=by
 induction ks generalizing row with
 |nil=>rfl
 |cons k ks ih=>rw[pap,lC_,ih,lC_]
theorem ql7 (n:Nat):(yap n [D.int 0]).flatten=(yap n (0:Int)).map D.int:=by
 induction n with
 |zero=>rfl
 |succ n ih=>rw[rS_,ybA,ih,rS_,mC_];rfl
theorem qop (n:Nat) (h:n<=20):qgt (.tup [.int 0]) (.int (n:Nat))=some (rD (yap n 0)):=by
 match n with
 |0=>rfl
 |1=>rfl
 |n+2=>
  have h1:¬(((n+2:Nat):Int)=0):=by omega
  have h2:¬(((n+2:Nat):Int)=1):=by omega
  have e1:([D.int 0]:List D).isEmpty=false:=rfl
  have e2:decide (2<=((n+2:Nat):Int))=true:=decide_eq_true (by omega)
  have e3:qQ (([D.int 0]:List D).length*((n+2:Nat):Int).toNat)=true:=zx (by show 1*((n+2:Nat):Int).toNat<=1000000;omega)
  show(if([D.int 0]:List D).isEmpty then none else if((n+2:Nat):Int)=0 then some (.tup [])else if((n+2:Nat):Int)=1 then some (.tup [.int 0])else uS (.tup [.int 0]) (.int ((n+2:Nat):Int)))=_
  rw[if_neg (by rw[e1];simp),if_neg h1,if_neg h2]
  show(if(!([D.int 0]:List D).isEmpty&&decide (2<=((n+2:Nat):Int)))&&qQ (([D.int 0]:List D).length*((n+2:Nat):Int).toNat)then some (D.tup (yap ((n+2:Nat):Int).toNat [.int 0]).flatten)else none)=_
  rw[e1,e2,e3,ybc,ql7]
  rfl
theorem qkh {f:M (List D)} {ρ:Env} {ds:List D} (h:f ρ=.ok (ds,ρ)) (hl:ds.length<=1000000):qaT f ρ=.ok (ds,ρ):=by
 unfold qaT bnd
 rw[h]
 simp only[zx hl,if_true]
 rfl
theorem qen {i:Nat} {ρ:Env} {A:List (List Int)} {r:List Int} (h:zJ i ρ=some ((A++[r]).map rD)):qa6 i (d1 uw (ret (.int 1))) ρ=.ok (rD r,ρ):=by
 have n1:d1 uw (ret (.int 1)) ρ=.ok (.int (-1),ρ):=rfl
 have e:atI ((A++[r]).map rD) (-1)=some (rD r):=qbZ (f:=rD) (by simp)
 rw[qfX]
 simp only[h,n1,e]
def qcZ(m:Nat):List Int:=yap (m+1) 0
theorem qeo {ρ:Env} {i m:Nat} (hm:m<=15) (e:dv i ρ=.ok (.int (m:Nat),ρ)):qaT (qa (d2 qgt (jf (qa (ret (.int 0)) (ret []))) (d2 qU (dv i) (ret (.int 1)))) (ret [])) ρ=.ok ([rD (qcZ m)],ρ):=by
 have z0:jf (qa (ret (.int 0)) (ret [])) ρ=.ok (.tup [.int 0],ρ):=by
  rw[qcu,vo rfl]
  simp only[lC_,lN_,ybK,sm1,if_true]
 have z:d2 qgt (jf (qa (ret (.int 0)) (ret []))) (d2 qU (dv i) (ret (.int 1))) ρ=.ok (rD (qcZ m),ρ):=qs z0 (qs (d:=.int ((m+1:Nat):Int)) e rfl rfl) (qop (m+1) (by omega))
 exact qkh (vo z) (by simp)
theorem qdy (r:List Int):imm (rD r)=true:=by
 unfold rD imm
 exact qbT λ_ _=>rfl
theorem qbo {m:Nat} (hm:m<=15) (K M:Option D):∀(ks:List Kw)(A:List (List Int))(r:List Int)(o3:Option D),(∀k∈ks,yn k)->r.length=m+1->A.length+ks.length<=100 ->
  ∃p3,yk (qt 3) (jr (qV 2 (qq zY (qa (dv 3) (qa (qa6 2 (d1 uw (ret (.int 1)))) (ret [])))))) (ks.map kw) [K,M,some (.lst ((A++[r]).map rD)),o3]=.ok (.nx [K,M,some (.lst ((A++pap r ks).map rD)),p3])
 | [],A,r,o3,_,_,_=>⟨o3,rfl⟩
 |k::ks,A,r,o3,hk,hr,hA=>by
  rw[lC_]at hA
  let ρ1:Env:=[K,M,some (.lst ((A++[r]).map rD)),some (kw k)]
  have ap:=v5 (i:=2) (ρ:=ρ1) (f:=qq zY (qa (dv 3) (qa (qa6 2 (d1 uw (ret (.int 1)))) (ret [])))) (ds:=(A++[r]).map rD) (d:=rD (wO k r)) rfl (qcJ rfl (qen rfl) (qaL (hk k mS_) (by omega))) (qdy _) (by simp;omega)
  obtain⟨p3,q⟩:=qbo hm K M ks (A++[r]) (wO k r) (some (kw k)) (λx hx=>hk x (mM _ hx)) (by rw[w9,hr]) (by simp;omega)
  refine⟨p3,?_⟩
  rw[pap,show A++r::pap (wO k r) ks=A++[r]++pap (wO k r) ks by simp]
  refine(zV (ρ1:=ρ1) rfl ap).trans ?_
  rw[<-q,yel (l₁:=A++[r])]
  rfl
theorem qaX {ks:List Kw} (hk:∀k∈ks,yn k) (hl:ks.length<=4) {m:Nat} (hm:m<=15):ji [.tup (ks.map kw),.int (m:Nat)]=.ok (.lst ((pap (qcZ m) ks).map rD)):=by
 have hs:=vh hk (show ks.length<=12 by omega)
 let K:Option D:=some (.tup (ks.map kw))
 let M:Option D:=some (.int (m:Nat))
 obtain⟨p3,q⟩:=qbo hm K M ks [] (qcZ m) none hk (by unfold qcZ;rw[yaO]) (by simp;omega)
 unfold ji jM
 refine qhG rfl ⟨[K,M,some (.lst ((pap (qcZ m) ks).map rD)),p3],?_⟩
 refine(qk (ρ':=[K,M,none,none]) ?_).trans ?_
 ·rw[vH,vW,qaU (a:=.tup (ks.map kw)) (b:=.int (m:Nat)) rfl rfl]
  simp only[wc hs (show(0:Int)<=(m:Nat) by omega) (by omega)]
  rfl
 refine(qk (ρ':=[K,M,some (.lst [rD (qcZ m)]),none]) ?_).trans ?_
 ·rw[qav,qeo hm rfl]
  rfl
 refine(qk (ρ':=[K,M,some (.lst ((pap (qcZ m) ks).map rD)),p3]) ?_).trans rfl
 rw[yL]
 exact q
theorem qep {m:Nat} (hm:m<=15) (a b c K M f o8 o9 o10 o11 o12:Option D) (eM:M=some (.int (m:Nat))):∀(ks:List Kw)(A:List (List Int))(r:List Int)(o7:Option D),(∀k∈ks,yn k)->r.length=m+1->A.length+ks.length<=100 ->
  ∃p7,yk (qt 7) (jr (qV 6 (qq qA (qa (qa6 6 (d1 uw (ret (.int 1)))) (qa (dv 7) (qa (dv 4) (ret []))))))) (ks.map kw) [a,b,c,K,M,f,some (.lst ((A++[r]).map rD)),o7,o8,o9,o10,o11,o12]=.ok (.nx [a,b,c,K,M,f,some (.lst ((A++pap r ks).map rD)),p7,o8,o9,o10,o11,o12])
 | [],A,r,o7,_,_,_=>⟨o7,rfl⟩
 |k::ks,A,r,o7,hk,hr,hA=>by
  subst eM
  rw[lC_]at hA
  let ρ1:Env:=[a,b,c,K,some (.int (m:Nat)),f,some (.lst ((A++[r]).map rD)),some (kw k),o8,o9,o10,o11,o12]
  have ap:=v5 (i:=6) (ρ:=ρ1) (f:=qq qA (qa (qa6 6 (d1 uw (ret (.int 1)))) (qa (dv 7) (qa (dv 4) (ret []))))) (ds:=(A++[r]).map rD) (d:=rD (wO k r)) rfl (wT (qen rfl) rfl rfl (qaM (hk k mS_) hr hm)) (qdy _) (by simp;omega)
  obtain⟨p7,q⟩:=qep hm a b c K _ f o8 o9 o10 o11 o12 rfl ks (A++[r]) (wO k r) (some (kw k)) (λx hx=>hk x (mM _ hx)) (by rw[w9,hr]) (by simp;omega)
  refine⟨p7,?_⟩
  rw[pap,show A++r::pap (wO k r) ks=A++[r]++pap (wO k r) ks by simp]
  refine(zV (ρ1:=ρ1) rfl ap).trans ?_
  rw[<-q,yel (l₁:=A++[r])]
  rfl
theorem qab {w e:Nat} {d:D} (h:vb w e d) (hw:w<=100000) (he:e<=50):uf d=true:=by
 have h1:=PyData.shown_le 40 (by omega) _ h.lv
 have h2:(40+2)*(qR d).weight<=42*100000:=Nat.mul_le_mul_left _ (yaF h.wt hw)
 have h3:=h.dp
 have e1:(qR d).shown.length<=yam:=by rw[yfr];omega
 have e2:(qR d).depth<=50:=by omega
 simp only[uf,h.sh,e1,e2,decide_true,yaT]
theorem rE{d:D}(h:uf d=true):zu [d]=some (.str (qR d).shown):=by simp only[zu,h,if_true]
theorem qdz {w:Nat}:∀(ds:List D),ycb 40 (toPDs ds)=true->yaK (toPDs ds)=true->ycX (toPDs ds)<=w->∀d∈ds,(qR d).leavesShort 40=true/\(qR d).showable=true/\(qR d).weight<=w
 | [],_,_,_,d,hd=>by cases hd
 |x::ds,h1,h2,h3,d,hd=>by
  simp only[toPDs,ycb,yaK,ycX,yal]at h1 h2 h3
  rcases List.mem_cons.mp hd with rfl|hd
  ·exact⟨h1.1,h2.1,by omega⟩
  ·exact qdz ds h1.2 h2.2 (by omega) d hd
theorem qgL {w e:Nat} {ds:List D} {d:D} (h:vb w e (.lst ds)\/vb w e (.tup ds)) (hd:d∈ds) (he:(qR d).depth<=5):vb w 5 d:=by
 rcases h with h|h
 ·have h1:=h.lv
  have h2:=h.sh
  have h3:=h.wt
  simp only[qR,ycB,ybg,ydE]at h1 h2 h3
  obtain⟨a,b,c⟩:=qdz ds h1 h2 h3 d hd
  exact⟨a,b,c,he⟩
 ·have h1:=h.lv
  have h2:=h.sh
  have h3:=h.wt
  simp only[qR,ycB,ybg,ydE]at h1 h2 h3
  obtain⟨a,b,c⟩:=qdz ds h1 h2 h3 d hd
  exact⟨a,b,c,he⟩
theorem qgM (r:List Int):(qR (rD r)).depth<=5:=by
 have:∀r:List Int,yaG (toPDs (r.map D.int))=0:=λr=>by
  induction r with
  |nil=>rfl
  |cons x r ih=>simp only[mC_,toPDs,yaG,qR,ya1,ih,Nat.max_self]
 simp only[rD,qR,ya1,this]
 omega
def bdR(B:Int)(row:List Int):Prop:=∀x∈row,0<=x/\x<=B
theorem qgN {B:Int} {row:List Int} (hb:bdR B row) (h0:0<=B) (i:Nat):0<=row.getD i 0/\row.getD i 0<=B:=by
 by_cases h:i<row.length
 ·have e:row.getD i 0=row[i]:=by simp[h]
  rw[e]
  exact hb _ (ybF h)
 ·have e:row.getD i 0=0:=by simp[h]
  rw[e]
  omega
theorem qnc {k:Kw} (hk:yn k) {B:Int} {row:List Int} (hb:bdR B row) (h0:0<=B) {z:Nat} (hz:z<=20):0<=bw k row z/\bw k row z<=B+780:=by
 have hm:bw k row z∈(yay (ofn k z+1)).map λt:Nat=>(t:Int)*k.v+row.getD (ixT k z t) 0:=qkb (by simp)
 obtain⟨t,ht,e⟩:=mP_.mp hm
 have ht':=mR_.mp ht
 have h20:=qel hk (s:=(z:Nat)) (by omega) (by omega)
 obtain⟨g1,g2⟩:=qgN hb h0 (ixT k z t)
 have v0:=hk.2.1.1
 have v1:=hk.2.1.2
 have m0:0<=(t:Int)*k.v:=Int.mul_nonneg (by omega) v0
 have m1:(t:Int)*k.v<=20*39:=Int.mul_le_mul (by omega) v1 v0 (by omega)
 rw[<-e]
 exact⟨by omega,by omega⟩
theorem qki {k:Kw} (hk:yn k) {B:Int} {row:List Int} (hb:bdR B row) (h0:0<=B) (hl:row.length<=20):bdR (B+780) (wO k row):=λx hx=>by
 unfold wO at hx
 obtain⟨z,hz,rfl⟩:=mP_.mp hx
 exact qnc hk hb h0 (by have:=mR_.mp hz;omega)
theorem qiK:∀(ks:List Kw)(B:Int)(row:List Int)(m:Nat),(∀k∈ks,yn k)->bdR B row->0<=B->row.length=m+1->m<=15->∀r∈pap row ks,r.length=m+1/\bdR (B+780*ks.length) r
 | [],B,row,m,_,hb,h0,hl,hm,r,hr=>by
  rw[pap,ms_]at hr
  subst hr
  exact⟨hl,λx hx=>by have:=hb x hx;simp only[lN_];omega⟩
 | k::ks,B,row,m,hk,hb,h0,hl,hm,r,hr=>by
  rw[pap,yan]at hr
  rcases hr with rfl|hr
  ·exact⟨hl,λx hx=>by have:=hb x hx;simp only[lC_];omega⟩
  ·obtain⟨a,b⟩:=qiK ks (B+780) (wO k row) m (λx hx=>hk x (mM _ hx)) (qki (hk k mS_) hb h0 (by omega)) (by omega) (by rw[w9,hl]) hm r hr
   exact⟨a,λx hx=>by have:=b x hx;simp only[lC_];omega⟩
structure okP (m n:Nat) (P:List (List Int)):Prop where
 ln:P.length=n+1
 rl:∀r∈P,r.length=m+1
 bd:∀r∈P,bdR 3120 r
theorem ql8 {ks:List Kw} (hk:∀k∈ks,yn k) (hl:ks.length<=4) {m:Nat} (hm:m<=15):okP m ks.length (pap (qcZ m) ks):=by
 have h:=qiK ks 0 (qcZ m) m hk (λx hx=>by rw[List.eq_of_mem_replicate hx];omega) (by omega) (by unfold qcZ;rw[yaO]) hm
 exact⟨qkg _ _,λr hr=>(h r hr).1,λr hr x hx=>by have:=(h r hr).2 x hx;omega⟩
theorem u6{x:Int}(h0 : -10<=x)(h1:x<=5000):vb 130 5 (.int x):=(qhN (by omega)).mono (by omega) (by omega)
theorem qnP {r:List Int} (h:∀x∈r,-10<=x/\x<=5000) (hl:r.length<=20):∀d∈r.map D.int,vb 130 5 d:=λd hd=>by
 obtain⟨x,hx,rfl⟩:=mP_.mp hd
 exact u6 (h x hx).1 (h x hx).2
theorem qac{r:List Int}(h:∀x∈r,-10<=x/\x<=5000)(hl:r.length<=20):vb 2620 6 (rD r):=vc (w:=130) (e:=5) (n:=20) (qnP h hl) (by rw[lM_];omega)
theorem qnd {ks:List Kw} (hk:∀k∈ks,yn k) (hl:ks.length<=4) {m:Nat} (hm:m<=15):qv [.int 1,.tup (ks.map kw),.int (m:Nat)]=.ok (.lst ((pap (qcZ m) ks).map rD)):=by
 let ρ:Env:=[some (.int 1),some (.tup (ks.map kw)),some (.int (m:Nat)),none]
 unfold qv
 refine vv rfl ⟨ρ,?_⟩
 unfold jw
 refine ql0 ((qk (ρ':=ρ) rfl).trans ?_)
 push_cast [ρ,qaX hk hl hm]
theorem zR:RN.contains "NoNumber"=true:=by decide
theorem vx:jB [.exc "NoNumber"]=.ok (.str "number"):=by
 have f0:(("SackError":Str)=="ValueError"||yW "NoNumber" "SackError")=true:=by decide
 have f1:(("ValueError":Str)=="ValueError"||yW "NoNumber" "ValueError")=true:=by decide
 have f2:(("NoStore":Str)=="ValueError"||yW "NoNumber" "NoStore")=false:=by decide
 have f3:(("NoNumber":Str)=="ValueError"||yW "NoNumber" "NoNumber")=true:=by decide
 have f4:(("NoLoad":Str)=="ValueError"||yW "NoNumber" "NoLoad")=false:=by decide
 have f5:(("TooMany":Str)=="ValueError"||yW "NoNumber" "TooMany")=false:=by decide
 have f6:(("NotSingle":Str)=="ValueError"||yW "NoNumber" "NotSingle")=false:=by decide
 have f7:(("NoText":Str)=="ValueError"||yW "NoNumber" "NoText")=false:=by decide
 unfold jB
 refine vv rfl ⟨[some (.exc "NoNumber"),some (.lst [.bl false,.bl true,.bl false,.bl false,.bl false,.bl false])],?_⟩
 unfold yg
 refine(qk (ρ':=[some (.exc "NoNumber"),none]) ?_).trans ?_
 ·push_cast [f0,f1,zR]
 refine(qk (ρ':=[some (.exc "NoNumber"),some (.lst [.bl false,.bl true,.bl false,.bl false])]) ?_).trans ?_
 ·push_cast [f2,f3,f4,f5,zR,zx (show 4<=1000000 by omega)]
 refine(qk (ρ':=[some (.exc "NoNumber"),some (.lst [.bl false,.bl true,.bl false,.bl false,.bl false,.bl false])]) ?_).trans ?_
 ·push_cast [f6,f7,zR,zx (show 2<=1000000 by omega),y9 (xs:=[.bl false,.bl true,.bl false,.bl false]) (ys:=[.bl false,.bl false]) (by simp)]
 have c1:qcA (.lst [.bl false,.bl true,.bl false,.bl false,.bl false,.bl false]) [.bl true]=some (.int 1):=rfl
 have c2:neS (.int 1) (.int 1)=some (.bl false):=rfl
 have c3:qcB (.lst [.bl false,.bl true,.bl false,.bl false,.bl false,.bl false]) [.bl true]=some (.int 1):=rfl
 have c4:ixD (.lst [.str "store",.str "number",.str "load",.str "many",.str "single",.str "text"]) (.int 1)=some (.str "number"):=rfl
 refine(qk (ρ':=[some (.exc "NoNumber"),some (.lst [.bl false,.bl true,.bl false,.bl false,.bl false,.bl false])]) ?_).trans ?_
 ·push_cast [c1,c2]
 ·push_cast [c3,c4,zx (show 6<=1000000 by omega)]
theorem jk:RN.contains "TooMany"=true:=by decide
theorem wd:jB [.exc "TooMany"]=.ok (.str "many"):=by
 have f0:(("SackError":Str)=="ValueError"||yW "TooMany" "SackError")=true:=by decide
 have f1:(("ValueError":Str)=="ValueError"||yW "TooMany" "ValueError")=true:=by decide
 have f2:(("NoStore":Str)=="ValueError"||yW "TooMany" "NoStore")=false:=by decide
 have f3:(("NoNumber":Str)=="ValueError"||yW "TooMany" "NoNumber")=false:=by decide
 have f4:(("NoLoad":Str)=="ValueError"||yW "TooMany" "NoLoad")=false:=by decide
 have f5:(("TooMany":Str)=="ValueError"||yW "TooMany" "TooMany")=true:=by decide
 have f6:(("NotSingle":Str)=="ValueError"||yW "TooMany" "NotSingle")=false:=by decide
 have f7:(("NoText":Str)=="ValueError"||yW "TooMany" "NoText")=false:=by decide
 unfold jB
 refine vv rfl ⟨[some (.exc "TooMany"),some (.lst [.bl false,.bl false,.bl false,.bl true,.bl false,.bl false])],?_⟩
 unfold yg
 refine(qk (ρ':=[some (.exc "TooMany"),none]) ?_).trans ?_
 ·push_cast [f0,f1,jk]
 refine(qk (ρ':=[some (.exc "TooMany"),some (.lst [.bl false,.bl false,.bl false,.bl true])]) ?_).trans ?_
 ·push_cast [f2,f3,f4,f5,jk,zx (show 4<=1000000 by omega)]
 refine(qk (ρ':=[some (.exc "TooMany"),some (.lst [.bl false,.bl false,.bl false,.bl true,.bl false,.bl false])]) ?_).trans ?_
 ·push_cast [f6,f7,jk,zx (show 2<=1000000 by omega),y9 (xs:=[.bl false,.bl false,.bl false,.bl true]) (ys:=[.bl false,.bl false]) (by simp)]
 have c1:qcA (.lst [.bl false,.bl false,.bl false,.bl true,.bl false,.bl false]) [.bl true]=some (.int 1):=rfl
 have c2:neS (.int 1) (.int 1)=some (.bl false):=rfl
 have c3:qcB (.lst [.bl false,.bl false,.bl false,.bl true,.bl false,.bl false]) [.bl true]=some (.int 3):=rfl
 have c4:ixD (.lst [.str "store",.str "number",.str "load",.str "many",.str "single",.str "text"]) (.int 3)=some (.str "many"):=rfl
 refine(qk (ρ':=[some (.exc "TooMany"),some (.lst [.bl false,.bl false,.bl false,.bl true,.bl false,.bl false])]) ?_).trans ?_
 ·push_cast [c1,c2]
 ·push_cast [c3,c4,zx (show 6<=1000000 by omega)]
theorem qiL {F:List D->R D} {l:M (List D)} {ρ ρ':Env} {ds:List D} {n:Str} (hl:l ρ=.ok (ds,ρ)) (h:F ds=.exc ⟨n,.non⟩ ρ') (hn:RN.contains n=true):ul RN F l ρ=.exc ⟨n,.non⟩ ρ:=by
 rw[vW,hl]
 simp only[h,hn,if_true]
theorem qgO {s x:D} {n:Str} (h:qT [s,x]=.exc ⟨n,.non⟩ [some s,some x]) (hn:RN.contains n=true):qD [.non,s,x]=.exc ⟨n,.non⟩ [some .non,some s,some x,none,none]:=by
 unfold qD zQ
 refine qbg rfl (qcC ?_)
 show jr _ [some .non,some s,some x,none,none]=_
 rw[vH,qiL (ρ:=[some .non,some s,some x,none,none]) (qaU (a:=s) (b:=x) rfl rfl) h hn]
theorem ql9 {ks:List Kw} (hk:∀k∈ks,yn k) (hl:ks.length<=4) {x:D} (hc:zq x=false):qv [.int 0,.tup (ks.map kw),x]=.ok (.str "number"):=by
 have hs:=vh hk (show ks.length<=12 by omega)
 let ρ:Env:=[some (.int 0),some (.tup (ks.map kw)),some x,none]
 unfold qv
 refine vv rfl ⟨ρ,?_⟩
 unfold jw
 refine qhO (n:="NoNumber") (v:=.non) (qcC ?_) zR vx
 push_cast [ρ,qgO (wU hs hc) zR,zR]
theorem qma {ks:List Kw} (hk:∀k∈ks,yn k) (hl:ks.length<=4):qv [.int 0,.tup (ks.map kw),.int 201]=.ok (.str "many"):=by
 have hs:=vh hk (show ks.length<=12 by omega)
 let ρ:Env:=[some (.int 0),some (.tup (ks.map kw)),some (.int 201),none]
 unfold qv
 refine vv rfl ⟨ρ,?_⟩
 unfold jw
 refine qhO (n:="TooMany") (v:=.non) (qcC ?_) jk wd
 push_cast [ρ,qgO (wV hs) jk,jk]
theorem qb1 (xs:List D) (j:Nat):qa4 xs (some (j:Int)) none=xs.drop j:=by
 unfold qa4
 rw[HT.sIx_none,HT.sIx_nat,yer (by simp)]
 by_cases c:j<=xs.length
 ·rw[yda c]
 ·rw[ydW (by omega),yet (by omega),yet (by omega)]
theorem qkj {f:M D} {p q:M (Option Int)} {ρ:Env} {X Y:D} {l u:Option Int} (ef:f ρ=.ok (X,ρ)) (ep:p ρ=.ok (l,ρ)) (eq:q ρ=.ok (u,ρ)) (es:slB X l u=some Y):qbJ f p q ρ=.ok (Y,ρ):=by
 rw[qlK,ef]
 simp only[ep,eq,es]
theorem pt1{g:M D}{ρ:Env}{j:Int}(e:g ρ=.ok (.int j,ρ)):uj g ρ=.ok (some j,ρ):=by rw[qdd,e]
theorem qnQ {f:M D} {ρ:Env} {d:D} (e:f ρ=.ok (d,ρ)):jf (qa f (ret [])) ρ=.ok (.tup [d],ρ):=by
 rw[qcu,vo e]
 simp only[lC_,lN_,ybK,sm1,if_true]
def qcQ(x:Int)(d:D):List D:=[.int (x-1),.int (x+1),.bl (decide (x=1)),.non,.int (-1),d,.int (x+5)]
def qne(row:List Int)(z:Nat)(c:D):D:=.tup ((row.take z).map D.int++[c]++(row.drop (z+1)).map D.int)
def qhR(row:List Int)(x:Int):List D:=[.tup ((row.drop 1).map D.int),.tup (row.map D.int++[.int x]),.lst (row.map D.int),.tup (row.map D.int).reverse,rD (row.map λy=>y+3)]
theorem qgP {row:List Int} (hb:bdR 3120 row) {m:Nat} (hm:m<=15) (hl:row.length=m+1) {x:Int} (hx:0<=x/\x<=3120) {d:D} (hd:vb 130 5 d) (z:Nat):∀y∈(qcQ x d).map (qne row z)++qhR row x,vb 2620 6 y:=λy hy=>by
 have hb':∀x∈row,-10<=x/\x<=5000:=λx hx=>by have:=hb x hx;omega
 have N:∀d∈row.map D.int,vb 130 5 d:=qnP hb' (by omega)
 have nx:vb 130 5 (.int x):=u6 (by omega) (by omega)
 rcases mA_.mp hy with hy|hy
 ·obtain ⟨c,hc,rfl⟩:=mP_.mp hy
  have nc:vb 130 5 c:=by
   simp only[qcQ,yan,nN_,or_false]at hc
   rcases hc with rfl|rfl|rfl|rfl|rfl|rfl|rfl
   ·exact u6 (by omega) (by omega)
   ·exact u6 (by omega) (by omega)
   ·cases decide (x=1)<;>exact wH (by decide +kernel)
   ·exact wH (by decide +kernel)
   ·exact wH (by decide +kernel)
   ·exact hd
   ·exact u6 (by omega) (by omega)
  refine vc (w:=130) (e:=5) (n:=20) (λd hd=>?_) (by simp only[lA_,lM_,ya3,ybp,yaC];omega)
  rcases mA_.mp hd with hd|hd
  ·rcases mA_.mp hd with hd|hd
   ·exact N d (by obtain⟨v,hv,rfl⟩:=mP_.mp hd;exact yb1 (ydb hv))
   ·rw[ms_]at hd
    rw[hd]
    exact nc
  ·exact N d (by obtain⟨v,hv,rfl⟩:=mP_.mp hd;exact yb1 (yby hv))
 ·simp only[qhR,yan,nN_,or_false]at hy
  rcases hy with rfl|rfl|rfl|rfl|rfl
  ·exact vc (w:=130) (e:=5) (n:=20) (λd hd=>N d (by obtain⟨v,hv,rfl⟩:=mP_.mp hd;exact yb1 (yby hv))) (by simp only[lM_,ybp];omega)
  ·refine vc (w:=130) (e:=5) (n:=20) (λd hd=>?_) (by simp only[lA_,lM_,yaC];omega)
   rcases mA_.mp hd with hd|hd
   ·exact N d hd
   ·rw[ms_]at hd
    rw[hd]
    exact nx
  ·exact uz (w:=130) (e:=5) (n:=20) N (by rw[lM_];omega)
  ·exact vc (w:=130) (e:=5) (n:=20) (λd hd=>N d (List.mem_reverse.mp hd)) (by rw[yb0,lM_];omega)
  ·exact qac (λv hv=>by obtain⟨u,hu,rfl⟩:=mP_.mp hv;have:=hb u hu;omega) (by rw[lM_];omega)
theorem qbp {P:List (List Int)} {m n:Nat} (h:okP m n P) (hm:m<=15) (hn:n<=4) {d:D} (hd:vb 130 5 d) (b:Int):∃t b',qL [.int b] [.lst (P.map rD),d]=.ok (t,[.int b'])/\vb 26210 7 t/\qkf t=false:=by
 have hln:=h.ln
 have hP:((P.map rD).length:Int)=n+1:=by rw[lM_,h.ln];omega
 obtain ⟨a,ha,hal⟩:∃a:Nat,b%((n:Int)+1)=(a:Int)/\a<=n:=by
  have h1:0<=b%((n:Int)+1):=yek _ (by omega)
  have h2:b%((n:Int)+1)<(n:Int)+1:=ydv _ (by omega)
  exact⟨(b%((n:Int)+1)).toNat,by omega,by omega⟩
 let b1:=b/((n:Int)+1)
 obtain ⟨z,hz,hzl⟩:∃z:Nat,b1%((m:Int)+1)=(z:Int)/\z<=m:=by
  have h1:0<=b1%((m:Int)+1):=yek _ (by omega)
  have h2:b1%((m:Int)+1)<(m:Int)+1:=ydv _ (by omega)
  exact⟨(b1%((m:Int)+1)).toNat,by omega,by omega⟩
 let b2:=b1/((m:Int)+1)
 let b3:=b2/16
 let kd:=b2%16
 have k0:0<=kd:=by show 0<=b2%16;omega
 have k1:kd<16:=by show b2%16<16;omega
 have hap:a<P.length:=by rw[h.ln];omega
 let row:=P[a]
 have hrm:row∈P:=ybF hap
 have hrl:row.length=m+1:=h.rl row hrm
 have hrb:bdR 3120 row:=h.bd row hrm
 let x:=row.getD z 0
 have hx:=qgN hrb (by omega) z
 have rowN':∀r∈P,vb 2620 6 (rD r):=λr hr=>qac (λv hv=>by have:=h.bd r hr v hv;omega) (by rw[h.rl r hr];omega)
 let Pa:Option D:=some (.lst (P.map rD))
 let Dd:Option D:=some d
 let At:Option D:=some (.int (a:Nat))
 let Rw:Option D:=some (rD row)
 let Zz:Option D:=some (.int (z:Nat))
 let Xx:Option D:=some (.int x)
 let N7:=(qcQ x d).map (qne row z)
 let N12:=N7++qhR row x
 let B1:Option D:=some (.lst [.int b1])
 let B2:Option D:=some (.lst [.int b2])
 let B3:Option D:=some (.lst [.int b3])
 let ρ0:Env:=[some (.lst [.int b]),Pa,Dd,none,none,none,none,none,none,none]
 let ρ1:Env:=[B1,Pa,Dd,At,none,none,none,none,none,none]
 let ρ2:Env:=[B1,Pa,Dd,At,Rw,none,none,none,none,none]
 let ρ3:Env:=[B2,Pa,Dd,At,Rw,Zz,none,none,none,none]
 let ρ4:Env:=[B2,Pa,Dd,At,Rw,Zz,Xx,none,none,none]
 let ρ5:Env:=[B2,Pa,Dd,At,Rw,Zz,Xx,some (.lst N7),none,none]
 let ρ6:Env:=[B2,Pa,Dd,At,Rw,Zz,Xx,some (.lst N12),none,none]
 let ρ7:Env:=[B3,Pa,Dd,At,Rw,Zz,Xx,some (.lst N12),some (.int kd),none]
 have s0:(zC 3 (qm qj 0 (qa (qp ud (qa (dv 1) (ret []))) (ret [])))) ρ0=.ok (.nx ρ1):=by
  have c:(qm qj 0 (qa (qp ud (qa (dv 1) (ret []))) (ret []))) ρ0=.ok (.int (a:Nat),[B1,Pa,Dd,none,none,none,none,none,none,none]):=by
   rw[io1 (i:=0) (ρ:=ρ0) (ds:=[.int b]) (a:=.int ((n:Int)+1)) rfl (zj (a:=.lst (P.map rD)) rfl (by rw[qaa,hP])) (jo (by omega) (by omega)),ha]
   rfl
  rw[uo c]
  rfl
 have s1:(zC 4 (d2 ixD (dv 1) (dv 3))) ρ1=.ok (.nx ρ2):=uo (qs rfl rfl (qaK (by rw[gM_,gG hap];rfl)))
 have s2:(zC 5 (qm qj 0 (qa (qp ud (qa (dv 4) (ret []))) (ret [])))) ρ2=.ok (.nx ρ3):=by
  have c:(qm qj 0 (qa (qp ud (qa (dv 4) (ret []))) (ret []))) ρ2=.ok (.int (z:Nat),[B2,Pa,Dd,At,Rw,none,none,none,none,none]):=by
   rw[io1 (i:=0) (ρ:=ρ2) (ds:=[.int b1]) (a:=.int ((m:Int)+1)) rfl (zj (a:=rD row) rfl (by unfold rD;rw[z5,lM_,hrl];rfl)) (jo (by omega) (by omega)),hz]
   rfl
  rw[uo c]
  rfl
 have s3:(zC 6 (d2 ixD (dv 4) (dv 5))) ρ3=.ok (.nx ρ4):=uo (qs rfl rfl (qaE (qcO (by rw[hrl];omega))))
 have s4:(zC 7 (zo 1 [4,5] none (yt (jP (qa (d2 qfx (dv 6) (ret (.int 1))) (qa (d2 qU (dv 6) (ret (.int 1))) (qa (d2 eqB (dv 6) (ret (.int 1))) (qa (ret .non) (qa (d1 uw (ret (.int 1))) (qa (dv 2) (qa (d2 qU (dv 6) (ret (.int 5))) (ret [])))))))))) (qt 0) (ret true) (d2 qU (d2 qU (qbJ (dv 1) (ret none) (uj (dv 2))) (jf (qa (dv 0) (ret [])))) (qbJ (dv 1) (uj (d2 qU (dv 2) (ret (.int 1)))) (ret none))))) ρ4=.ok (.nx ρ5):=by
  have lx:(yt (jP (qa (d2 qfx (dv 6) (ret (.int 1))) (qa (d2 qU (dv 6) (ret (.int 1))) (qa (d2 eqB (dv 6) (ret (.int 1))) (qa (ret .non) (qa (d1 uw (ret (.int 1))) (qa (dv 2) (qa (d2 qU (dv 6) (ret (.int 5))) (ret [])))))))))) ρ4=.ok ((qcQ x d).map λd=>d,ρ4):=by
   rw[ydc]
   push_cast [ρ4,Dd,Xx,neg_int,zx (show 7<=1000000 by omega)]
   rfl
  exact uo (uL (r:=[Rw,Zz]) (k:=λd:D=>d) (qcQ x d) (qne row z) lx rfl (by show 7<=1000000;omega) λc _=>by
   have er:∀c:D,dv 1 [some c,Rw,Zz]=.ok (.tup (row.map D.int),[some c,Rw,Zz]):=λ_=>rfl
   have c1:=qkj (p:=ret none) (er c) rfl (pt1 (g:=dv 2) (j:=(z:Nat)) rfl) (show slB (.tup (row.map D.int)) none (some ((z:Nat):Int))=some (.tup ((row.take z).map D.int)) by rw[slB,qei _ z (by rw[lM_,hrl];omega),List.map_take])
   have c2:=qkj (q:=ret none) (er c) (pt1 (g:=d2 qU (dv 2) (ret (.int 1))) (j:=((z+1:Nat):Int)) (qs rfl rfl rfl)) rfl (show slB (.tup (row.map D.int)) (some ((z+1:Nat):Int)) none=some (.tup ((row.drop (z+1)).map D.int)) by rw[slB,qb1,yeX])
   exact qs (qs c1 (qnQ rfl) (qbS (by rw[lM_,ya3,yaC];omega))) c2 (qbS (by simp only[lA_,lM_,ya3,ybp,yaC];omega)))
 have s5:(zC 7 (d2 qU (dv 7) (jP (qa (qbJ (dv 4) (uj (ret (.int 1))) (ret none)) (qa (d2 qU (dv 4) (jf (qa (dv 6) (ret [])))) (qa (qp qc8 (qa (dv 4) (ret []))) (qa (vY (dv 4)) (qa (qp yZ (qa (zo 1 [] none (yt (dv 4)) (qt 0) (ret true) (d2 qU (dv 0) (ret (.int 3)))) (ret []))) (ret []))))))))) ρ5=.ok (.nx ρ6):=by
  have er:dv 4 ρ5=.ok (.tup (row.map D.int),ρ5):=rfl
  have c1:=qkj (q:=ret none) er (pt1 (g:=ret (.int 1)) (j:=((1:Nat):Int)) rfl) rfl (show slB (.tup (row.map D.int)) (some ((1:Nat):Int)) none=some (.tup ((row.drop 1).map D.int)) by rw[slB,qb1,yeX])
  have c2:d2 qU (dv 4) (jf (qa (dv 6) (ret []))) ρ5=.ok (.tup (row.map D.int++[.int x]),ρ5):=qs er (qnQ rfl) (qbS (by rw[lM_,yaC];omega))
  have c3:qp qc8 (qa (dv 4) (ret [])) ρ5=.ok (.lst (row.map D.int),ρ5):=zj er (qgB _)
  have c4:vY (dv 4) ρ5=.ok (.tup (row.map D.int).reverse,ρ5):=by
   rw[qgl,er]
   rfl
  have c5:qp yZ (qa (zo 1 [] none (yt (dv 4)) (qt 0) (ret true) (d2 qU (dv 0) (ret (.int 3)))) (ret [])) ρ5=.ok (rD (row.map λy=>y+3),ρ5):=by
   have:=uL (e:=d2 qU (dv 0) (ret (.int 3))) (xs:=yt (dv 4)) (fr:=[]) (ρ:=ρ5) (r:=[]) (k:=D.int) row (λy=>D.int (y+3)) rfl rfl (by omega) λy _=>qs rfl rfl (zM _ _)
   rw[zj this (vd _)]
   unfold rD
   rw[mm_]
   rfl
  have c:(jP (qa (qbJ (dv 4) (uj (ret (.int 1))) (ret none)) (qa (d2 qU (dv 4) (jf (qa (dv 6) (ret [])))) (qa (qp qc8 (qa (dv 4) (ret []))) (qa (vY (dv 4)) (qa (qp yZ (qa (zo 1 [] none (yt (dv 4)) (qt 0) (ret true) (d2 qU (dv 0) (ret (.int 3)))) (ret []))) (ret []))))))) ρ5=.ok (.lst (qhR row x),ρ5):=by
   rw[vT,z8,c1]
   simp only[z8,c2,c3,c4,c5,qaQ,lC_,lN_,ybK,yeY,zx (show 5<=1000000 by omega),if_true]
   rfl
  exact uo (qs rfl c (y9 (by show 7+5<=1000000;omega)))
 have s6:(zC 8 (qm qj 0 (qa (ret (.int 16)) (ret [])))) ρ6=.ok (.nx ρ7):=uo (io1 (i:=0) (ρ:=ρ6) (ds:=[.int b2]) (a:=.int 16) rfl rfl (jo (by omega) (by omega)))
 have tk:tst (d2 ltD (dv 8) (ret (.int 12))) ρ7=.ok (decide (kd<12),ρ7):=jy (qs rfl rfl (qbO _ _))
 have ep:dv 1 ρ7=.ok (.lst (P.map rD),ρ7):=rfl
 by_cases ck:kd<12
 ·rw [decide_eq_true ck]at tk
  obtain⟨y,hy,ey⟩:=qbl (ds:=N12) (k:=kd) k0 (by show kd<12;omega)
  have ny:=qgP hrb hm hrl hx hd z y hy
  refine⟨.lst ((P.take a).map rD++[y]++(P.drop (a+1)).map rD),b3,?_,?_,rfl⟩
  ·unfold qL yS
   refine qba (ρ:=ρ7) rfl ?_ rfl
   refine(qk s0).trans ((qk s1).trans ((qk s2).trans ((qk s3).trans ((qk s4).trans ((qk s5).trans ((qk s6).trans (jQ ((qeR tk).trans (jm ?_)))))))))
   have c1:=qkj (p:=ret none) ep rfl (pt1 (g:=dv 3) (j:=(a:Nat)) rfl) (show slB (.lst (P.map rD)) none (some ((a:Nat):Int))=some (.lst ((P.take a).map rD)) by rw[slB,qei _ a (by rw[lM_];omega),List.map_take])
   have c2:=qkj (q:=ret none) ep (pt1 (g:=d2 qU (dv 3) (ret (.int 1))) (j:=((a+1:Nat):Int)) (qs rfl rfl rfl)) rfl (show slB (.lst (P.map rD)) (some ((a+1:Nat):Int)) none=some (.lst ((P.drop (a+1)).map rD)) by rw[slB,qb1,yeX])
   have c3:jP (qa (d2 ixD (dv 7) (dv 8)) (ret [])) ρ7=.ok (.lst [y],ρ7):=by
    rw[vT,vo (qs rfl rfl ey)]
    simp only[lC_,lN_,ybK,sm1,if_true]
   exact qs (qs c1 c3 (y9 (by rw[lM_,ya3,yaC];omega))) c2 (y9 (by simp only[lA_,lM_,ya3,ybp,yaC];omega))
  ·refine uz (w:=2620) (e:=6) (n:=10) (λd hd=>?_) (by simp only[lA_,lM_,ya3,ybp,yaC];omega)
   rcases mA_.mp hd with hd|hd
   ·rcases mA_.mp hd with hd|hd
    ·obtain⟨v,hv,rfl⟩:=mP_.mp hd
     exact rowN' v (ydb hv)
    ·rw[ms_]at hd
     rw[hd]
     exact ny
   ·obtain⟨v,hv,rfl⟩:=mP_.mp hd
    exact rowN' v (yby hv)
 ·rw [decide_eq_false ck]at tk
  let more:=P.map λr=>r.map λy=>y+2
  let ρ8:Env:=[B3,Pa,Dd,At,Rw,Zz,Xx,some (.lst N12),some (.int kd),some (.lst (more.map rD))]
  have s8:(zC 9 (zo 1 [] none (yt (dv 1)) (qt 0) (ret true) (qp yZ (qa (zo 1 [] none (yt (dv 0)) (qt 0) (ret true) (d2 qU (dv 0) (ret (.int 2)))) (ret []))))) ρ7=.ok (.nx ρ8):=by
   have:=uL (e:=(qp yZ (qa (zo 1 [] none (yt (dv 0)) (qt 0) (ret true) (d2 qU (dv 0) (ret (.int 2)))) (ret [])))) (xs:=yt (dv 1)) (fr:=[]) (ρ:=ρ7) (r:=[]) (k:=rD) P (λr=>rD (r.map λy=>y+2)) rfl rfl (by rw[h.ln];omega) λr hr=>by
    have c:=uL (e:=d2 qU (dv 0) (ret (.int 2))) (xs:=yt (dv 0)) (fr:=[]) (ρ:=[some (rD r)]) (r:=[]) (k:=D.int) r (λy=>D.int (y+2)) rfl rfl (by rw[h.rl r hr];omega) λy _=>qs rfl rfl (zM _ _)
    rw[zj c (vd _)]
    unfold rD
    rw[mm_]
    rfl
   rw[uo this]
   show _=R.ok (Fl.nx [B3,Pa,Dd,At,Rw,Zz,Xx,some (.lst N12),some (.int kd),some (.lst ((P.map λr=>r.map λy=>y+2).map rD))])
   rw[mm_]
   rfl
  let C1:=qa4 (P.map rD) none (some (-1))
  let C2:=qa4 (P.map rD) (some (-1)) none
  let L4:List D:=[.tup (P.map rD),.lst C1,.lst (P.map rD++C2),.lst (more.map rD)]
  obtain⟨y,hy,ey⟩:=qbl (ds:=L4) (k:=kd-12) (by omega) (by show kd-12<4;omega)
  have l1:C1.length<=5:=by have:=qgC (P.map rD) none (some (-1));rw[lM_,h.ln]at this;show(qa4 (P.map rD) none (some (-1))).length<=5;omega
  have l2:C2.length<=5:=by have:=qgC (P.map rD) (some (-1)) none;rw[lM_,h.ln]at this;show(qa4 (P.map rD) (some (-1)) none).length<=5;omega
  have l0:(P.map rD).length<=5:=by rw[lM_,h.ln];omega
  have NP:∀d∈P.map rD,vb 2620 6 d:=λd hd=>by
   obtain⟨v,hv,rfl⟩:=mP_.mp hd
   exact rowN' v hv
  refine⟨y,b3,?_,?_⟩
  ·unfold qL yS
   refine qba (ρ:=ρ8) rfl ?_ rfl
   refine(qk s0).trans ((qk s1).trans ((qk s2).trans ((qk s3).trans ((qk s4).trans ((qk s5).trans ((qk s6).trans ((qk (ρ':=ρ7) ((qdr tk).trans rfl)).trans ((qk s8).trans (jm ?_)))))))))
   have ep:dv 1 ρ8=.ok (.lst (P.map rD),ρ8):=rfl
   have ng:d1 uw (ret (.int 1)) ρ8=.ok (.int (-1),ρ8):=rfl
   have c1:qp yZ (qa (dv 1) (ret [])) ρ8=.ok (.tup (P.map rD),ρ8):=zj ep (vd _)
   have c2:qbJ (dv 1) (ret none) (uj (d1 uw (ret (.int 1)))) ρ8=.ok (.lst C1,ρ8):=qkj ep rfl (pt1 ng) rfl
   have c3:d2 qU (dv 1) (qbJ (dv 1) (uj (d1 uw (ret (.int 1)))) (ret none)) ρ8=.ok (.lst (P.map rD++C2),ρ8):=qs ep (qkj (Y:=.lst C2) ep (pt1 ng) rfl rfl) (y9 (ys:=C2) (by omega))
   have c4:dv 9 ρ8=.ok (.lst (more.map rD),ρ8):=rfl
   have c:(jP (qa (qp yZ (qa (dv 1) (ret []))) (qa (qbJ (dv 1) (ret none) (uj (d1 uw (ret (.int 1))))) (qa (d2 qU (dv 1) (qbJ (dv 1) (uj (d1 uw (ret (.int 1)))) (ret none))) (qa (dv 9) (ret [])))))) ρ8=.ok (.lst L4,ρ8):=by
    rw[vT,z8,c1]
    simp only[z8,c2,c3,c4,qaQ,lC_,lN_,ybK,yeY,zx (show 4<=1000000 by omega),if_true]
    rfl
   exact qs c (qs rfl rfl (qbP _ _)) ey
  ·simp only[L4,yan,nN_,or_false]at hy
   rcases hy with rfl|rfl|rfl|rfl
   ·exact⟨vc (w:=2620) (e:=6) (n:=10) NP (by omega),rfl⟩
   ·exact⟨uz (w:=2620) (e:=6) (n:=10) (λd hd=>NP d (qgG hd)) (by omega),rfl⟩
   ·refine⟨uz (w:=2620) (e:=6) (n:=10) (λd hd=>?_) (by rw[lA_];omega),rfl⟩
    rcases mA_.mp hd with hd|hd
    ·exact NP d hd
    ·exact NP d (qgG hd)
   ·refine⟨uz (w:=2620) (e:=6) (n:=10) (λd hd=>?_) (by simp only[more,lM_,h.ln];omega),rfl⟩
    obtain⟨v,hv,rfl⟩:=mP_.mp hd
    obtain⟨r,hr,rfl⟩:=mP_.mp hv
    exact qac (λv hv=>by obtain⟨u,hu,rfl⟩:=mP_.mp hv;have:=h.bd r hr u hu;omega) (by rw[lM_,h.rl r hr];omega)
theorem qkk:(qcH++qcI).all (λd => !qkf d)=true:=by decide +kernel
theorem qnf (n:Int):∃d n',qW [.int n] []=.ok (d,[.int n'])/\vb 130 5 d/\qkf d=false:=by
 obtain⟨d,hd,e⟩:=qbl (ds:=qcH++qcI) (k:=n%22) (by omega) (by show n%22<22;omega)
 have hn:=List.all_eq_true.mp qgA d hd
 rw[yal]at hn
 have hz:=List.all_eq_true.mp qkk d hd
 refine⟨d,n/22,?_,wH hn.1,by simpa using hz⟩
 unfold qW
 refine qba (ρ:=[some (.lst [.int (n/22)]),some (.lst (qcH++qcI))]) rfl ?_ rfl
 unfold jt
 refine(qk (ρ':=[some (.lst [.int n]),some (.lst qcH)]) ?_).trans ?_
 ·push_cast [neg_int,qj5,zx (show 1<=1000000 by omega),zx (show 2<=1000000 by omega),zx (show 14<=1000000 by omega),qcH]
 refine(qk (ρ':=[some (.lst [.int n]),some (.lst (qcH++qcI))]) ?_).trans ?_
 ·have e2:=y9 (xs:=qcH) (ys:=qcI) (by decide)
  simp only[qcI]at e2
  push_cast [neg_int,zx (show 1<=1000000 by omega),zx (show 3<=1000000 by omega),zx (show 8<=1000000 by omega),e2,qcI]
 ·push_cast [jo (m:=22) (by decide) (by decide),e]
theorem qgQ {s x:D} {n:Str} (h:qT [s,x]=.exc ⟨n,.non⟩ [some s,some x]) (hn:RN.contains n=true):ji [s,x]=.exc ⟨n,.non⟩ [some s,some x,none,none]:=by
 unfold ji jM
 refine qbg rfl (qcC ?_)
 show jr _ [some s,some x,none,none]=_
 rw[vH,qiL (ρ:=[some s,some x,none,none]) (qaU (a:=s) (b:=x) rfl rfl) h hn]
theorem qmb {ks:List Kw} (hk:∀k∈ks,yn k) (hl:ks.length<=4) {x:D} (hc:zq x=false):qv [.int 1,.tup (ks.map kw),x]=.ok (.str "number"):=by
 have hs:=vh hk (show ks.length<=12 by omega)
 let ρ:Env:=[some (.int 1),some (.tup (ks.map kw)),some x,none]
 unfold qv
 refine vv rfl ⟨ρ,?_⟩
 unfold jw
 refine qhO (n:="NoNumber") (v:=.non) ((qk (ρ':=ρ) rfl).trans ?_) zR vx
 push_cast [ρ,qgQ (wU hs hc) zR,zR]
theorem qmc {ks:List Kw} (hk:∀k∈ks,yn k) (hl:ks.length<=4):qv [.int 1,.tup (ks.map kw),.int 201]=.ok (.str "many"):=by
 have hs:=vh hk (show ks.length<=12 by omega)
 let ρ:Env:=[some (.int 1),some (.tup (ks.map kw)),some (.int 201),none]
 unfold qv
 refine vv rfl ⟨ρ,?_⟩
 unfold jw
 refine qhO (n:="TooMany") (v:=.non) ((qk (ρ':=ρ) rfl).trans ?_) jk wd
 push_cast [ρ,qgQ (wV hs) jk,jk]
theorem qkl (k:Kw):immF (kw k)=true:=by
 obtain⟨w,v,m⟩:=k
 cases m<;>rfl
theorem qcR {α:Type} {f:α->D} (h:∀a,immF (f a)=true):∀as:List α,immFs (as.map f)=true
 | []=>rfl
 |a::as=>by rw[mC_,immFs,h a,qcR h as];rfl
theorem qmd:uf .non=true:=qab (w:=130) (e:=5) (wH (by decide +kernel)) (by omega) (by omega)
theorem qeZ {ks:List Kw} (hk:∀k∈ks,yn k) (hl:ks.length<=4) {m:Nat} (hm:m<=15) {t:D} (ht:vb 26210 7 t) (hf:qkf t=false) (S I B Od Pp o7 o8 o9 o11 o12:Option D) :
  ∃q9 q11,(qH (zC 11 (qp zu (qa (dv 10) (ret [])))) (qH (zC 9 (uK qD (qa (dv 10) (qa (dv 3) (qa (dv 4) (ret [])))))) (sif (tor (tst (d2 neB (qp zu (qa (dv 9) (ret []))) (qp zu (qa (qq qN (qa (dv 10) (qa (dv 3) (qa (dv 4) (ret []))))) (ret []))))) (tst (d2 neB (qp zu (qa (dv 10) (ret []))) (dv 11)))) (zK (ret (.bl false))) ju))) [S,I,B,some (.tup (ks.map kw)),some (.int (m:Nat)),Od,Pp,o7,o8,o9,some t,o11,o12]=.ok (.nx [S,I,B,some (.tup (ks.map kw)),some (.int (m:Nat)),Od,Pp,o7,o8,q9,some t,q11,o12]):=by
 obtain⟨d,e1,e2,hd⟩:=qhQ hk hl hm t hf
 have okt:uf t=true:=qab ht (by omega) (by omega)
 have okd:uf d=true:=by
  rcases hd with rfl|⟨rows,n,rfl,rfl,r,hr,hn⟩
  ·exact qmd
  ·have h1:=qgL (.inl ht) (yb1 (f:=rD) hr) (qgM r)
   have h2:vb 26210 5 (.int n):=qgL (ds:=r.map D.int) (.inr h1) (yb1 hn) (ya5 _)
   exact qab h2 (by omega) (by omega)
 let K:Option D:=some (.tup (ks.map kw))
 let M:Option D:=some (.int (m:Nat))
 let H:Option D:=some (.str (qR t).shown)
 let ρ0:Env:=[S,I,B,K,M,Od,Pp,o7,o8,o9,some t,o11,o12]
 let ρ1:Env:=[S,I,B,K,M,Od,Pp,o7,o8,o9,some t,H,o12]
 let ρ2:Env:=[S,I,B,K,M,Od,Pp,o7,o8,some d,some t,H,o12]
 have s0:(zC 11 (qp zu (qa (dv 10) (ret [])))) ρ0=.ok (.nx ρ1):=uo (zj (a:=t) rfl (rE okt))
 have s1:(zC 9 (uK qD (qa (dv 10) (qa (dv 3) (qa (dv 4) (ret [])))))) ρ1=.ok (.nx ρ2):=by
  have c:uK qD (qa (dv 10) (qa (dv 3) (qa (dv 4) (ret [])))) ρ1=.ok (d,ρ1):=by
   rw[qbI,qj7 (a:=t) (b:=.tup (ks.map kw)) (c:=.int (m:Nat)) rfl rfl rfl]
   simp only[e1]
  exact uo c
 have t1:=jy (qs (ρ:=ρ2) (zj (f:=dv 9) (a:=d) rfl (rE okd)) (zj (wT (f:=dv 10) (g:=dv 3) (h:=dv 4) rfl rfl rfl e2) (rE okd)) (qdq _))
 have t2:=jy (qs (ρ:=ρ2) (zj (f:=dv 10) (a:=t) rfl (rE okt)) (g:=dv 11) rfl (qdq _))
 exact⟨some d,H,(qk s0).trans ((qk s1).trans ((qdr (qaN t1 t2)).trans rfl))⟩
theorem qme:neB (.lst [.str "number",.str "number"]) (.lst [.str "number",.str "number"])=some (.bl false):=by kernel_rfl
theorem qmf:neB (.lst [.str "many",.str "many"]) (.lst [.str "many",.str "many"])=some (.bl false):=by kernel_rfl
theorem qeq {ks:List Kw} {x:D} {w:Str} (h0:qv [.int 0,.tup (ks.map kw),x]=.ok (.str w)) (h1:qv [.int 1,.tup (ks.map kw),x]=.ok (.str w)) (hw:neB (.lst [.str w,.str w]) (.lst [.str w,.str w])=some (.bl false)) (S I B M Od Pp o7 o8 o9 o11:Option D) :
  (sif (tst (d2 neB (zo 1 [3,10] none (zn (qa (ret (.int 2)) (ret []))) (qt 0) (ret true) (qq qv (qa (dv 0) (qa (dv 1) (qa (dv 2) (ret [])))))) (d2 uS (jP (qa (dv 12) (ret []))) (ret (.int 2))))) (zK (ret (.bl false))) ju) [S,I,B,some (.tup (ks.map kw)),M,Od,Pp,o7,o8,o9,some x,o11,some (.str w)]=.ok (.nx [S,I,B,some (.tup (ks.map kw)),M,Od,Pp,o7,o8,o9,some x,o11,some (.str w)]):=by
 let K:Option D:=some (.tup (ks.map kw))
 let ρ:Env:=[S,I,B,K,M,Od,Pp,o7,o8,o9,some x,o11,some (.str w)]
 have cc:=uL (e:=qq qv (qa (dv 0) (qa (dv 1) (qa (dv 2) (ret []))))) (xs:=zn (qa (ret (.int 2)) (ret []))) (fr:=[3,10]) (ρ:=ρ) (r:=[K,some x]) (k:=λd:D=>d) [.int 0,.int 1] (λ_=>D.str w) rfl rfl (by show 2<=1000000;omega) λc hc=>by
  simp only[yan,nN_,or_false]at hc
  rcases hc with rfl|rfl
  ·exact wT rfl rfl rfl h0
  ·exact wT rfl rfl rfl h1
 have l1:jP (qa (dv 12) (ret [])) ρ=.ok (.lst [.str w],ρ):=by
  rw[vT,vo (a:=.str w) rfl]
  simp only[lC_,lN_,ybK,sm1,if_true]
 have l2:d2 uS (jP (qa (dv 12) (ret []))) (ret (.int 2)) ρ=.ok (.lst [.str w,.str w],ρ):=qs l1 rfl (by
  have e3:qQ (([D.str w]:List D).length*((2:Int)).toNat)=true:=zx (by show 1*2<=1000000;omega)
  show(if(!([D.str w]:List D).isEmpty&&decide (2<=(2:Int)))&&qQ (([D.str w]:List D).length*((2:Int)).toNat)then some (D.lst (yap (2:Int).toNat [.str w]).flatten)else none)=_
  rw[e3]
  rfl)
 exact(qdr (jy (qs cc l2 hw))).trans rfl
theorem qhS (ns:List Int) (i:Int) (h0:0<=i) (h3:i<3) (r:Env) (hr:r.length=11):∃r',r'.length=11/\(qH (yK 2 (vG jF (qa (dv 0) (qa (dv 1) (ret []))))) (qH (zC 3 (qm zA 2 (qa (ret (.int 4)) (qa (ret .non) (ret []))))) (qH (zC 4 (qm qj 2 (qa (ret (.int 13)) (ret [])))) (qH (zC 5 (qm qW 2 (ret []))) (qH (qeN 6 (qH (yK 6 (qaT (qa (d2 qgt (jf (qa (ret (.int 0)) (ret []))) (d2 qU (dv 4) (ret (.int 1)))) (ret [])))) (vn (yt (dv 3)) (qt 7) (jr (qV 6 (qq qA (qa (qa6 6 (d1 uw (ret (.int 1)))) (qa (dv 7) (qa (dv 4) (ret [])))))))))) (qH (qiv 9 (vn (zn (qa (ret (.int 2)) (ret []))) (qt 8) (qH (yK 9 (vG qv (qa (ret (.int 1)) (qa (dv 3) (qa (dv 4) (ret [])))))) (qH (sif (tst (d2 neB (qaz (qp zu (qa (dv 9) (ret [])))) (qp zu (qa (dv 6) (ret []))))) (zK (ret (.bl false))) ju) (jr (qV 9 (jf (ret [])))))))) (qH (vn (yt (d2 qU (jP (qa (dv 6) (qa (dv 5) (qa (jP (ret [])) (qa (vY (dv 6)) (ret [])))))) (zo 1 [2,6,5] (some (1,2)) (zn (qa (ret (.int 6)) (ret []))) (qt 0) (ret true) (qm qL 1 (qa (dv 2) (qa (dv 3) (ret []))))))) (qt 10) (qH (zC 11 (qp zu (qa (dv 10) (ret [])))) (qH (zC 9 (uK qD (qa (dv 10) (qa (dv 3) (qa (dv 4) (ret [])))))) (sif (tor (tst (d2 neB (qp zu (qa (dv 9) (ret []))) (qp zu (qa (qq qN (qa (dv 10) (qa (dv 3) (qa (dv 4) (ret []))))) (ret []))))) (tst (d2 neB (qp zu (qa (dv 10) (ret []))) (dv 11)))) (zK (ret (.bl false))) ju)))) (vn (yt (jP (qa (jf (qa (d1 uw (ret (.int 1))) (qa (ret (.str "number")) (ret [])))) (qa (jf (qa (ret .non) (qa (ret (.str "number")) (ret [])))) (qa (jf (qa (ret (.bl true)) (qa (ret (.str "number")) (ret [])))) (qa (jf (qa (ret (.str "1")) (qa (ret (.str "number")) (ret [])))) (qa (jf (qa (ret (.int 201)) (qa (ret (.str "many")) (ret [])))) (ret [])))))))) (qc5 2 (jI (qt 10) (jI (qt 12) qc4))) (sif (tst (d2 neB (zo 1 [3,10] none (zn (qa (ret (.int 2)) (ret []))) (qt 0) (ret true) (qq qv (qa (dv 0) (qa (dv 1) (qa (dv 2) (ret [])))))) (d2 uS (jP (qa (dv 12) (ret []))) (ret (.int 2))))) (zK (ret (.bl false))) ju))))))))) ([some (.fz ns),some (.int i)]++r)=.ok (.nx ([some (.fz ns),some (.int i)]++r')):=by
 match r,hr with
 | [o2,o3,o4,o5,o6,o7,o8,o9,o10,o11,o12],_=>
  obtain⟨n,eb⟩:=ql2 ns i h0
  obtain⟨dks,n1,es,hk0,hl0⟩:=qeU n
  obtain⟨ks,rfl,hk⟩:=qek dks hk0
  have hl:ks.length<=4:=by rw[lM_]at hl0;exact hl0
  let n2:=n1/13
  obtain⟨m,em,hm12⟩:∃m:Nat,n1%13=(m:Int)/\m<=12:=⟨(n1%13).toNat,by omega,by omega⟩
  have hm:m<=15:=by omega
  obtain⟨d,n3,eo,hd1,hd2⟩:=qnf n2
  let P:=pap (qcZ m) ks
  have hP:okP m ks.length P:=ql8 hk hl hm
  obtain⟨t1,m1,b1,g1,f1⟩:=qbp hP hm hl hd1 n3
  obtain⟨t2,m2,b2,g2,f2⟩:=qbp hP hm hl hd1 m1
  obtain⟨t3,m3,b3,g3,f3⟩:=qbp hP hm hl hd1 m2
  obtain⟨t4,m4,b4,g4,f4⟩:=qbp hP hm hl hd1 m3
  obtain⟨t5,m5,b5,g5,f5⟩:=qbp hP hm hl hd1 m4
  obtain⟨t6,m6,b6,g6,f6⟩:=qbp hP hm hl hd1 m5
  let S:Option D:=some (.fz ns)
  let I:Option D:=some (.int i)
  let K:Option D:=some (.tup (ks.map kw))
  let M:Option D:=some (.int (m:Nat))
  let Od:Option D:=some d
  let Pd:D:=.lst (P.map rD)
  let Pp:Option D:=some Pd
  let B6:Option D:=some (.lst [.int m6])
  have NP:∀d∈P.map rD,vb 2620 6 d:=λd hd=>by
   obtain⟨r,hr,rfl⟩:=mP_.mp hd
   exact qac (λv hv=>by have:=hP.bd r hr v hv;omega) (by rw[hP.rl r hr];omega)
  have lP:(P.map rD).length<=10:=by rw[lM_,hP.ln];omega
  have nP:vb 26210 7 Pd:=uz (w:=2620) (e:=6) (n:=10) NP lP
  have nR:vb 26210 7 (.lst (P.map rD).reverse):=uz (w:=2620) (e:=6) (n:=10) (λd hd=>NP d (List.mem_reverse.mp hd)) (by rw[yb0];exact lP)
  have nE:vb 26210 7 (.lst []):=(wH (d:=.lst []) (by decide +kernel)).mono (by omega) (by omega)
  have okP':uf Pd=true:=qab nP (by omega) (by omega)
  let Th:List D:=[Pd,d,.lst [],.lst (P.map rD).reverse]++[t1,t2,t3,t4,t5,t6]
  have hT:∀x∈Th,vb 26210 7 x/\qkf x=false:=λx hx=>by
   simp only[Th,mA_,yan,nN_,or_false]at hx
   rcases hx with(rfl|rfl|rfl|rfl)|rfl|rfl|rfl|rfl|rfl|rfl
   ·exact⟨nP,rfl⟩
   ·exact⟨hd1.mono (by omega) (by omega),hd2⟩
   ·exact⟨nE,rfl⟩
   ·exact⟨nR,rfl⟩
   ·exact⟨g1,f1⟩
   ·exact⟨g2,f2⟩
   ·exact⟨g3,f3⟩
   ·exact⟨g4,f4⟩
   ·exact⟨g5,f5⟩
   ·exact⟨g6,f6⟩
  obtain⟨p7,qo⟩:=qep hm S I (some (.lst [.int n3])) K M Od o8 o9 o10 o11 o12 rfl ks [] (qcZ m) o7 hk (by unfold qcZ;rw[yaO]) (by simp;omega)
  obtain ⟨ρr,qr,p9,p10,p11,rfl⟩:=qaG (G:=qt 10) (b:=(qH (zC 11 (qp zu (qa (dv 10) (ret [])))) (qH (zC 9 (uK qD (qa (dv 10) (qa (dv 3) (qa (dv 4) (ret [])))))) (sif (tor (tst (d2 neB (qp zu (qa (dv 9) (ret []))) (qp zu (qa (qq qN (qa (dv 10) (qa (dv 3) (qa (dv 4) (ret []))))) (ret []))))) (tst (d2 neB (qp zu (qa (dv 10) (ret []))) (dv 11)))) (zK (ret (.bl false))) ju)))) (k:=λx:D=>x) (step:=λ(s:Unit) (_:D)=>s) (Inv:=λ_ _ ρ=>∃o9 o10 o11,ρ=[S,I,B6,K,M,Od,Pp,p7,some (.int 1),o9,o10,o11,o12]) Th 0 () [S,I,B6,K,M,Od,Pp,p7,some (.int 1),none,o10,o11,o12] ⟨none,o10,o11,rfl⟩ (λx hx k _ ρ _ _=>by
   rintro⟨o9,o10,o11,rfl⟩
   obtain⟨q9,q11,e⟩:=qeZ hk hl hm (hT x hx).1 (hT x hx).2 S I B6 Od Pp p7 (some (.int 1)) o9 o11 o12
   exact⟨[S,I,B6,K,M,Od,Pp,p7,some (.int 1),o9,some x,o11,o12],_,rfl,e,q9,some x,q11,rfl⟩)
  rw[ydc]at qr
  refine⟨[B6,K,M,Od,Pp,p7,some (.int 1),p9,some (.int 201),p11,some (.str "many")],rfl,?_⟩
  show(qH (yK 2 (vG jF (qa (dv 0) (qa (dv 1) (ret []))))) (qH (zC 3 (qm zA 2 (qa (ret (.int 4)) (qa (ret .non) (ret []))))) (qH (zC 4 (qm qj 2 (qa (ret (.int 13)) (ret [])))) (qH (zC 5 (qm qW 2 (ret []))) (qH (qeN 6 (qH (yK 6 (qaT (qa (d2 qgt (jf (qa (ret (.int 0)) (ret []))) (d2 qU (dv 4) (ret (.int 1)))) (ret [])))) (vn (yt (dv 3)) (qt 7) (jr (qV 6 (qq qA (qa (qa6 6 (d1 uw (ret (.int 1)))) (qa (dv 7) (qa (dv 4) (ret [])))))))))) (qH (qiv 9 (vn (zn (qa (ret (.int 2)) (ret []))) (qt 8) (qH (yK 9 (vG qv (qa (ret (.int 1)) (qa (dv 3) (qa (dv 4) (ret [])))))) (qH (sif (tst (d2 neB (qaz (qp zu (qa (dv 9) (ret [])))) (qp zu (qa (dv 6) (ret []))))) (zK (ret (.bl false))) ju) (jr (qV 9 (jf (ret [])))))))) (qH (vn (yt (d2 qU (jP (qa (dv 6) (qa (dv 5) (qa (jP (ret [])) (qa (vY (dv 6)) (ret [])))))) (zo 1 [2,6,5] (some (1,2)) (zn (qa (ret (.int 6)) (ret []))) (qt 0) (ret true) (qm qL 1 (qa (dv 2) (qa (dv 3) (ret []))))))) (qt 10) (qH (zC 11 (qp zu (qa (dv 10) (ret [])))) (qH (zC 9 (uK qD (qa (dv 10) (qa (dv 3) (qa (dv 4) (ret [])))))) (sif (tor (tst (d2 neB (qp zu (qa (dv 9) (ret []))) (qp zu (qa (qq qN (qa (dv 10) (qa (dv 3) (qa (dv 4) (ret []))))) (ret []))))) (tst (d2 neB (qp zu (qa (dv 10) (ret []))) (dv 11)))) (zK (ret (.bl false))) ju)))) (vn (yt (jP (qa (jf (qa (d1 uw (ret (.int 1))) (qa (ret (.str "number")) (ret [])))) (qa (jf (qa (ret .non) (qa (ret (.str "number")) (ret [])))) (qa (jf (qa (ret (.bl true)) (qa (ret (.str "number")) (ret [])))) (qa (jf (qa (ret (.str "1")) (qa (ret (.str "number")) (ret [])))) (qa (jf (qa (ret (.int 201)) (qa (ret (.str "many")) (ret [])))) (ret [])))))))) (qc5 2 (jI (qt 10) (jI (qt 12) qc4))) (sif (tst (d2 neB (zo 1 [3,10] none (zn (qa (ret (.int 2)) (ret []))) (qt 0) (ret true) (qq qv (qa (dv 0) (qa (dv 1) (qa (dv 2) (ret [])))))) (d2 uS (jP (qa (dv 12) (ret []))) (ret (.int 2))))) (zK (ret (.bl false))) ju))))))))) [S,I,o2,o3,o4,o5,o6,o7,o8,o9,o10,o11,o12]=_
  refine(qk (ρ':=[S,I,some (.lst [.int n]),o3,o4,o5,o6,o7,o8,o9,o10,o11,o12]) ?_).trans ?_
  ·push_cast [S,I,eb,immFs,immF,immL,imm,yaZ]
  refine(qk (ρ':=[S,I,some (.lst [.int n1]),K,o4,o5,o6,o7,o8,o9,o10,o11,o12]) ?_).trans ?_
  ·push_cast [es]
   rfl
  refine(qk (ρ':=[S,I,some (.lst [.int n2]),K,M,o5,o6,o7,o8,o9,o10,o11,o12]) ?_).trans ?_
  ·have c:(qm qj 2 (qa (ret (.int 13)) (ret []))) [S,I,some (.lst [.int n1]),K,o4,o5,o6,o7,o8,o9,o10,o11,o12]=.ok (.int (m:Nat),[S,I,some (.lst [.int n2]),K,o4,o5,o6,o7,o8,o9,o10,o11,o12]):=by
    rw[io1 (i:=2) (ds:=[.int n1]) (a:=.int 13) rfl rfl (jo (by omega) (by omega)),em]
    rfl
   rw[uo c]
   rfl
  refine(qk (ρ':=[S,I,some (.lst [.int n3]),K,M,Od,o6,o7,o8,o9,o10,o11,o12]) ?_).trans ?_
  ·push_cast [eo]
   rfl
  refine(qk (ρ':=[S,I,some (.lst [.int n3]),K,M,Od,Pp,p7,o8,o9,o10,o11,o12]) ?_).trans ?_
  ·show (qH (yK 6 (qaT (qa (d2 qgt (jf (qa (ret (.int 0)) (ret []))) (d2 qU (dv 4) (ret (.int 1)))) (ret [])))) (vn (yt (dv 3)) (qt 7) (jr (qV 6 (qq qA (qa (qa6 6 (d1 uw (ret (.int 1)))) (qa (dv 7) (qa (dv 4) (ret []))))))))) [S,I,some (.lst [.int n3]),K,M,Od,none,o7,o8,o9,o10,o11,o12]=_
   refine(qk (ρ':=[S,I,some (.lst [.int n3]),K,M,Od,some (.lst [rD (qcZ m)]),o7,o8,o9,o10,o11,o12]) ?_).trans ?_
   ·rw[qav,qeo hm rfl]
    rfl
   ·rw[yL]
    exact qo
  let ρ5:Env:=[S,I,some (.lst [.int n3]),K,M,Od,Pp,p7,some (.int 1),none,o10,o11,o12]
  refine(qk (ρ':=ρ5) ?_).trans ?_
  ·have lap:∀(j:Int)(o8 o9:Option D),(qH (yK 9 (vG qv (qa (ret (.int 1)) (qa (dv 3) (qa (dv 4) (ret [])))))) (qH (sif (tst (d2 neB (qaz (qp zu (qa (dv 9) (ret [])))) (qp zu (qa (dv 6) (ret []))))) (zK (ret (.bl false))) ju) (jr (qV 9 (jf (ret [])))))) [S,I,some (.lst [.int n3]),K,M,Od,Pp,p7,some (.int j),o9,o10,o11,o12]=.ok (.nx [S,I,some (.lst [.int n3]),K,M,Od,Pp,p7,some (.int j),some (.lst (P.map rD++[.tup []])),o10,o11,o12]):=λj o8 o9=>by
    let ρ1:Env:=[S,I,some (.lst [.int n3]),K,M,Od,Pp,p7,some (.int j),some Pd,o10,o11,o12]
    have iP:immL (P.map rD)=true:=qbT λr _=>qdy r
    have iA:immFs [.int 1,.tup (ks.map kw),.int (m:Nat)]=true:=by simp only[immFs,immF,qcR qkl,yaZ]
    refine(qk (ρ':=ρ1) ?_).trans ?_
    ·rw[qav,qdc,qj7 (a:=.int 1) (b:=.tup (ks.map kw)) (c:=.int (m:Nat)) rfl rfl rfl]
     simp only[iA,if_true,qnd hk hl hm,iP,P]
     rfl
    have r1:qaz (qp zu (qa (dv 9) (ret []))) ρ1=.ok (.str (qR Pd).shown,ρ1):=by
     rw[qjQ,zj (a:=Pd) rfl (rE okP')]
     simp only[imm,and_self,if_true]
    refine(qk (ρ':=ρ1) ((qdr (jy (qs r1 (zj (a:=Pd) rfl (rE okP')) (qdq _)))).trans rfl)).trans ?_
    have e0:jf (ret []) ρ1=.ok (.tup [],ρ1):=by
     rw[qcu]
     simp only[qaQ,lN_,zx (show 0<=1000000 by omega),if_true]
    exact v5 (i:=9) (ρ:=ρ1) (ds:=P.map rD) rfl e0 rfl (by omega)
   have e5:(vn (zn (qa (ret (.int 2)) (ret []))) (qt 8) (qH (yK 9 (vG qv (qa (ret (.int 1)) (qa (dv 3) (qa (dv 4) (ret [])))))) (qH (sif (tst (d2 neB (qaz (qp zu (qa (dv 9) (ret [])))) (qp zu (qa (dv 6) (ret []))))) (zK (ret (.bl false))) ju) (jr (qV 9 (jf (ret []))))))) [S,I,some (.lst [.int n3]),K,M,Od,Pp,p7,o8,none,o10,o11,o12]=.ok (.nx [S,I,some (.lst [.int n3]),K,M,Od,Pp,p7,some (.int 1),some (.lst (P.map rD++[.tup []])),o10,o11,o12]):=by
    have er:zn (qa (ret (.int 2)) (ret [])) [S,I,some (.lst [.int n3]),K,M,Od,Pp,p7,o8,none,o10,o11,o12]=.ok ([.int 0,.int 1],[S,I,some (.lst [.int n3]),K,M,Od,Pp,p7,o8,none,o10,o11,o12]):=rfl
    rw[yL,er]
    show yk _ _ _ _=_
    exact(zV (ρ1:=[S,I,some (.lst [.int n3]),K,M,Od,Pp,p7,some (.int 0),none,o10,o11,o12]) rfl (lap 0 o8 none)).trans ((zV (ρ1:=[S,I,some (.lst [.int n3]),K,M,Od,Pp,p7,some (.int 1),some (.lst (P.map rD++[.tup []])),o10,o11,o12]) rfl (lap 1 o8 _)).trans rfl)
   show qiv 9 (vn (zn (qa (ret (.int 2)) (ret []))) (qt 8) (qH (yK 9 (vG qv (qa (ret (.int 1)) (qa (dv 3) (qa (dv 4) (ret [])))))) (qH (sif (tst (d2 neB (qaz (qp zu (qa (dv 9) (ret [])))) (qp zu (qa (dv 6) (ret []))))) (zK (ret (.bl false))) ju) (jr (qV 9 (jf (ret []))))))) [S,I,some (.lst [.int n3]),K,M,Od,Pp,p7,o8,o9,o10,o11,o12]=_
   unfold qiv
   have ee:([S,I,some (.lst [.int n3]),K,M,Od,Pp,p7,o8,o9,o10,o11,o12]:Env).set 9 none=[S,I,some (.lst [.int n3]),K,M,Od,Pp,p7,o8,none,o10,o11,o12]:=rfl
   rw[ee,e5]
   rfl
  let ρ6:Env:=[S,I,B6,K,M,Od,Pp,p7,some (.int 1),none,o10,o11,o12]
  let ρ7:Env:=[S,I,B6,K,M,Od,Pp,p7,some (.int 1),p9,p10,p11,o12]
  refine(qk (ρ':=ρ7) ?_).trans ?_
  ·have io:∀(j a b:Int)(t:D),qL [.int a] [Pd,d]=.ok (t,[.int b])->qm qL 1 (qa (dv 2) (qa (dv 3) (ret []))) [some (.int j),some (.lst [.int a]),Pp,Od]=.ok (t,[some (.int j),some (.lst [.int b]),Pp,Od]):=λj a b t e=>by
    rw[vU]
    have g:zJ 1 [some (.int j),some (.lst [.int a]),Pp,Od]=some [.int a]:=rfl
    simp only[g,qaU (ρ:=[some (.int j),some (.lst [.int a]),Pp,Od]) (f:=dv 2) (g:=dv 3) (a:=Pd) (b:=d) rfl rfl,e]
    rfl
   have cl:∀(j a b:Int)(t:D)(ds acc:List D)(o:Option D),qL [.int a] [Pd,d]=.ok (t,[.int b])->acc.length<=100->zB (qt 0) (ret true) (qm qL 1 (qa (dv 2) (qa (dv 3) (ret [])))) (.int j::ds) acc [o,some (.lst [.int a]),Pp,Od]=zB (qt 0) (ret true) (qm qL 1 (qa (dv 2) (qa (dv 3) (ret [])))) ds (acc++[t]) [some (.int j),some (.lst [.int b]),Pp,Od]:=λj a b t ds acc o e ha=>by
    rw[zB]
    simp only[qt,ybM,qaQ,io j a b t e,zx (show acc.length+1<=1000000 by omega),if_true]
   have cc:(zo 1 [2,6,5] (some (1,2)) (zn (qa (ret (.int 6)) (ret []))) (qt 0) (ret true) (qm qL 1 (qa (dv 2) (qa (dv 3) (ret []))))) ρ5=.ok (.lst [t1,t2,t3,t4,t5,t6],ρ6):=by
    rw[qbE]
    have rg:zn (qa (ret (.int 6)) (ret [])) ρ5=.ok ([.int 0,.int 1,.int 2,.int 3,.int 4,.int 5],ρ5):=by
     rw[yx (vo rfl) (by omega) (by omega)]
     rfl
    rw[rg]
    have el:zB (qt 0) (ret true) (qm qL 1 (qa (dv 2) (qa (dv 3) (ret [])))) [.int 0,.int 1,.int 2,.int 3,.int 4,.int 5] [] [none,some (.lst [.int n3]),Pp,Od]=.ok ([t1,t2,t3,t4,t5,t6],[some (.int 5),some (.lst [.int m6]),Pp,Od]):=by
     rw[cl 0 n3 m1 t1 _ _ _ b1 (by simp),cl 1 m1 m2 t2 _ _ _ b2 (by simp),cl 2 m2 m3 t3 _ _ _ b3 (by simp),cl 3 m3 m4 t4 _ _ _ b4 (by simp),cl 4 m4 m5 t5 _ _ _ b5 (by simp),cl 5 m5 m6 t6 _ _ _ b6 (by simp)]
     rfl
    show(match zB (qt 0) (ret true) (qm qL 1 (qa (dv 2) (qa (dv 3) (ret [])))) [.int 0,.int 1,.int 2,.int 3,.int 4,.int 5] [] [none,some (.lst [.int n3]),Pp,Od] with|.ok (ys,ρe)=>R.ok (D.lst ys,qjh (some (1,2)) ρe _)|_ => .bad)=_
    rw[el]
    rfl
   have l4:(jP (qa (dv 6) (qa (dv 5) (qa (jP (ret [])) (qa (vY (dv 6)) (ret [])))))) ρ5=.ok (.lst [Pd,d,.lst [],.lst (P.map rD).reverse],ρ5):=by
    have z0:jP (ret []) ρ5=.ok (.lst [],ρ5):=by
     rw[vT]
     simp only[qaQ,lN_,zx (show 0<=1000000 by omega),if_true]
    have ep:dv 6 ρ5=.ok (.lst (P.map rD),ρ5):=rfl
    have z:vY (dv 6) ρ5=.ok (.lst (P.map rD).reverse,ρ5):=by
     rw[qgl,ep]
     rfl
    have ed:dv 5 ρ5=.ok (d,ρ5):=rfl
    rw[vT,z8,ep]
    simp only[z8,ed,z0,z,qaQ,lC_,lN_,ybK,yeY,zx (show 4<=1000000 by omega),if_true]
    rfl
   have it:(yt (d2 qU (jP (qa (dv 6) (qa (dv 5) (qa (jP (ret [])) (qa (vY (dv 6)) (ret [])))))) (zo 1 [2,6,5] (some (1,2)) (zn (qa (ret (.int 6)) (ret []))) (qt 0) (ret true) (qm qL 1 (qa (dv 2) (qa (dv 3) (ret []))))))) ρ5=.ok (Th,ρ6):=by
    rw[qfU,qmm,l4]
    simp only[cc,y9 (show([Pd,d,.lst [],.lst (P.map rD).reverse]:List D).length+[t1,t2,t3,t4,t5,t6].length<=1000000 by simp)]
    rfl
   rw[yL,it]
   exact qr
  let pr (x:D) (w:Str):D:=.tup [x,.str w]
  let W5:List D:=[pr (.int (-1)) "number",pr .non "number",pr (.bl true) "number",pr (.str "1") "number",pr (.int 201) "many"]
  have it7:(yt (jP (qa (jf (qa (d1 uw (ret (.int 1))) (qa (ret (.str "number")) (ret [])))) (qa (jf (qa (ret .non) (qa (ret (.str "number")) (ret [])))) (qa (jf (qa (ret (.bl true)) (qa (ret (.str "number")) (ret [])))) (qa (jf (qa (ret (.str "1")) (qa (ret (.str "number")) (ret [])))) (qa (jf (qa (ret (.int 201)) (qa (ret (.str "many")) (ret [])))) (ret [])))))))) ρ7=.ok (W5,ρ7):=by
   push_cast [ρ7,neg_int,zx (show 2<=1000000 by omega),zx (show 5<=1000000 by omega)]
   rfl
  rw[yL,it7]
  have nn:=λ(x:D) (hx:zq x=false) (o10 o12:Option D)=>qeq (ql9 hk hl hx) (qmb hk hl hx) qme S I B6 M Od Pp p7 (some (.int 1)) p9 p11
  refine(zV rfl (nn (.int (-1)) rfl none none)).trans ?_
  refine(zV rfl (nn .non rfl none none)).trans ?_
  refine(zV rfl (nn (.bl true) rfl none none)).trans ?_
  refine(zV rfl (nn (.str "1") rfl none none)).trans ?_
  exact(zV rfl (qeq (qma hk hl) (qmc hk hl) qmf S I B6 M Od Pp p7 (some (.int 1)) p9 p11)).trans rfl
theorem qer (ns:List Int):∀(ds:List D)(o1:Option D)(r:Env),r.length=11->(∀d∈ds,∃i:Int,d=.int i/\0<=i/\i<3)->∃ρ,yk (qt 1) (qH (yK 2 (vG jF (qa (dv 0) (qa (dv 1) (ret []))))) (qH (zC 3 (qm zA 2 (qa (ret (.int 4)) (qa (ret .non) (ret []))))) (qH (zC 4 (qm qj 2 (qa (ret (.int 13)) (ret [])))) (qH (zC 5 (qm qW 2 (ret []))) (qH (qeN 6 (qH (yK 6 (qaT (qa (d2 qgt (jf (qa (ret (.int 0)) (ret []))) (d2 qU (dv 4) (ret (.int 1)))) (ret [])))) (vn (yt (dv 3)) (qt 7) (jr (qV 6 (qq qA (qa (qa6 6 (d1 uw (ret (.int 1)))) (qa (dv 7) (qa (dv 4) (ret [])))))))))) (qH (qiv 9 (vn (zn (qa (ret (.int 2)) (ret []))) (qt 8) (qH (yK 9 (vG qv (qa (ret (.int 1)) (qa (dv 3) (qa (dv 4) (ret [])))))) (qH (sif (tst (d2 neB (qaz (qp zu (qa (dv 9) (ret [])))) (qp zu (qa (dv 6) (ret []))))) (zK (ret (.bl false))) ju) (jr (qV 9 (jf (ret [])))))))) (qH (vn (yt (d2 qU (jP (qa (dv 6) (qa (dv 5) (qa (jP (ret [])) (qa (vY (dv 6)) (ret [])))))) (zo 1 [2,6,5] (some (1,2)) (zn (qa (ret (.int 6)) (ret []))) (qt 0) (ret true) (qm qL 1 (qa (dv 2) (qa (dv 3) (ret []))))))) (qt 10) (qH (zC 11 (qp zu (qa (dv 10) (ret [])))) (qH (zC 9 (uK qD (qa (dv 10) (qa (dv 3) (qa (dv 4) (ret [])))))) (sif (tor (tst (d2 neB (qp zu (qa (dv 9) (ret []))) (qp zu (qa (qq qN (qa (dv 10) (qa (dv 3) (qa (dv 4) (ret []))))) (ret []))))) (tst (d2 neB (qp zu (qa (dv 10) (ret []))) (dv 11)))) (zK (ret (.bl false))) ju)))) (vn (yt (jP (qa (jf (qa (d1 uw (ret (.int 1))) (qa (ret (.str "number")) (ret [])))) (qa (jf (qa (ret .non) (qa (ret (.str "number")) (ret [])))) (qa (jf (qa (ret (.bl true)) (qa (ret (.str "number")) (ret [])))) (qa (jf (qa (ret (.str "1")) (qa (ret (.str "number")) (ret [])))) (qa (jf (qa (ret (.int 201)) (qa (ret (.str "many")) (ret [])))) (ret [])))))))) (qc5 2 (jI (qt 10) (jI (qt 12) qc4))) (sif (tst (d2 neB (zo 1 [3,10] none (zn (qa (ret (.int 2)) (ret []))) (qt 0) (ret true) (qq qv (qa (dv 0) (qa (dv 1) (qa (dv 2) (ret [])))))) (d2 uS (jP (qa (dv 12) (ret []))) (ret (.int 2))))) (zK (ret (.bl false))) ju))))))))) ds ([some (.fz ns),o1]++r)=.ok (.nx ρ)
 | [],o1,r,_,_=>⟨_,rfl⟩
 |d::ds,o1,r,hr,h=>by
  obtain⟨i,rfl,h0,h1⟩:=h d mS_
  obtain⟨r',hr',e⟩:=qhS ns i h0 h1 r hr
  obtain⟨ρ,q⟩:=qer ns ds (some (.int i)) r' hr' λy hy=>h y (mM _ hy)
  refine⟨ρ,?_⟩
  unfold yk
  simp only[qt,List.cons_append,ybO,ybM,ydw]at e |-
  simp only[e]
  exact q
theorem law_true (ns:List Int) (hn:ns.length<=63):qds [.fz ns]=.ok (.bl true):=by
 let j:Int:=if(if(3:Int)<(ns.length:Int) then(3:Int) else(ns.length:Int))>1 then(if(3:Int)<(ns.length:Int) then(3:Int) else(ns.length:Int))else 1
 have hj0:0<=j:=by simp only[j];split<;>split<;>omega
 have hj2:j<=3:=by simp only[j];split<;>split<;>omega
 have hj1:j<=6:=by simp only[j];split<;>split<;>omega
 obtain ⟨ρ,q⟩:=qer ns (qbB 0 j.toNat) none [none,none,none,none,none,none,none,none,none,none,none] rfl λd hd=>by
  unfold qbB at hd
  obtain⟨k,hk,rfl⟩:=mP_.mp hd
  have hk2:=mR_.mp hk
  exact⟨_,rfl,by omega,by omega⟩
 unfold qds
 refine vv rfl ⟨ρ,?_⟩
 unfold qkc
 refine(qk (ρ':=ρ) ?_).trans rfl
 rw[yL,yx (j:=j) (ρ1:=[some (.fz ns),none,none,none,none,none,none,none,none,none,none,none,none]) ?_ hj0 (by omega)]
 ·exact q
 ·rfl
section
variable{P:yao}{w:World}{K:yai}{mg:Str->Option Value}{base:Heap}
variable{f:Addr}{fd:yaM}
set_option maxHeartbeats 4000000
theorem uF:qE ["e","found"] ["e"] (qf z9):=⟨rfl,rfl,rfl,by decide +kernel,rfl,by decide +kernel,by decide +kernel⟩
section
variable(P:yao)(w:World)(K:Fr0)(mg:Str->Option Value)(base:Heap)
abbrev Q0:Prop:=qgc P w K mg base 1 "_law_marks" ["e"] (spD K jB)
abbrev Q1:Prop:=zG P w K mg base 1 "most_within" ["kind","room"] (spD K jL)
abbrev Q2:Prop:=zG P w K mg base 1 "room_left" ["kind","times","room"] (spD K yQ)
abbrev Q3:Prop:=zG P w K mg base 2 "worth_with" ["kind","times","row","room"] (spD K yh)
abbrev Q4:Prop:=zG P w K mg base 3 "best_with" ["kind","row","room"] (spD K yR)
abbrev Q5:Prop:=zG P w K mg base 4 "next_row" ["kind","row"] (spD K zY)
abbrev Q6:Prop:=uU P w K mg base 1 "need_few" ["number"] (spX K (clR K RN) yF)
abbrev Q7:Prop:=zG P w K mg base 1 "is_whole" ["thing"] (spD K ve)
abbrev Q8:Prop:=zG P w K mg base 2 "is_count" ["thing"] (spD K jh)
abbrev Q9:Prop:=uU P w K mg base 3 "need_count" ["thing"] (spX K (clR K RN) jC)
abbrev Q10:Prop:=zG P w K mg base 3 "is_kind" ["thing"] (spD K uZ)
abbrev Q11:Prop:=zG P w K mg base 4 "is_store" ["thing"] (spD K vf)
abbrev Q12:Prop:=uU P w K mg base 5 "need_store" ["thing"] (spX K (clR K RN) ub)
abbrev Q13:Prop:=uU P w K mg base 6 "need_asked" ["store","number"] (spX K (clR K RN) qT)
abbrev Q14:Prop:=uU P w K mg base 7 "table_paper" ["store","room"] (spX K (clR K RN) ji)
abbrev Q15:Prop:=zG P w K mg base 1 "is_no_less" ["row","least"] (spD K jE)
abbrev Q16:Prop:=zG P w K mg base 3 "is_row" ["thing","room"] (spD K v7)
abbrev Q17:Prop:=zG P w K mg base 4 "is_rows" ["thing","store","room"] (spD K v8)
abbrev Q18:Prop:=uU P w K mg base 7 "table_bound" ["thing","store","room"] (spX K (clR K RN) qD)
abbrev Q19:Prop:=zG P w K mg base 8 "_law_said" ["kind","store","room"] (spD K qv)
abbrev Q20:Prop:=zG P w K mg base 1 "_law_take" ["box","many"] (qdQ K qj)
abbrev Q21:Prop:=zG P w K mg base 2 "_law_bent" ["box","paper","odd"] (qdQ K qL)
abbrev Q22:Prop:=zG P w K mg base 1 "_law_row_with" ["row","kind","room"] (spD K qA)
abbrev Q23:Prop:=zG P w K mg base 1 "_law_whole" ["thing"] (spD K zd)
abbrev Q24:Prop:=zG P w K mg base 2 "_law_due_for" ["thing","store","room"] (spD K qN)
abbrev Q25:Prop:=zG P w K mg base 2 "_law_odd_thing" ["box"] (qdQ K qW)
abbrev Q26:Prop:=zG P w K mg base 2 "_law_kind_of" ["box","ends"] (qdQ K zy)
abbrev Q27:Prop:=zG P w K mg base 3 "_law_stocked" ["box","most","ends"] (qdQ K zA)
abbrev Q28:Prop:=zG P w K mg base 1 "_law_mix" ["cell","k"] (spD K yG)
abbrev Q29:Prop:=zG P w K mg base 1 "_law_cell" ["script","k"] (spD K j8)
abbrev Q30:Prop:=zG P w K mg base 2 "_law_box" ["script","k"] (spD K jF)
end
theorem q0 (F:Fun K "_law_marks" "_law_marks" z9 f fd) (m:mg "_law_marks"=some (.ref f)) (T:Txt K mg) (XTt:XT K mg RN TN) (hB:K.In base):Q0 P w K mg base:=by
 have rn0:RN.contains "TooMany"=true:=by decide
 refine⟨f,fd,?_,m,F.kp,F.binds λ_ _ _ _ _ _ us hl=>match us,hl with | [_],_=>rfl⟩
 show qcz P w K mg base CX0 1 f fd ["e"] (spD K (dfn (["e","found"]:List Str).length (["e"]:List Str).length yg))
 refine qhF (N:=["e","found"]) (ps:=["e"]) (k:=0) (O:=[]) (body:=yg) F uF ?a ?b
 case a=>decide
 intro cdv A outer s H E B hr al
 have hal:∀ρ σ H',Rep K (cfn [] [] B H (λ_=>False) (λ_ _=>False) λ_=>none) ρ σ H'->AloneA (A.deeper (ybf "_law_marks" (qf z9) s.heap.objs.size f cdv)) H':=Sk.AloneA.rep al (λ_ z=>z)
 exact (qi (jR (DW.dt (qbw (yY (yX (qay (RN:=RN) (m:="SackError") (mgl:=mg) XTt (by decide) (by decide) rfl T.b_isinstance rfl (qe 0) (XTt.ask rn0 (by decide)) qy))) (vN (yY (yX (qjO XTt rfl T.b_isinstance rfl T.b_ValueError (qe 0) qy)))))) (ql (qJ jx)) qM)
   (qi (zp (i:=1) uF.nd (jp (qc (qay (RN:=RN) (m:="NoStore") (mgl:=mg) XTt (by decide) (by decide) rfl T.b_isinstance rfl (qe 0) (XTt.ask rn0 (by decide)) qy) (qc (qay (RN:=RN) (m:="NoNumber") (mgl:=mg) XTt (by decide) (by decide) rfl T.b_isinstance rfl (qe 0) (XTt.ask rn0 (by decide)) qy) (qc (qay (RN:=RN) (m:="NoLoad") (mgl:=mg) XTt (by decide) (by decide) rfl T.b_isinstance rfl (qe 0) (XTt.ask rn0 (by decide)) qy) (qc (qay (RN:=RN) (m:="TooMany") (mgl:=mg) XTt (by decide) (by decide) rfl T.b_isinstance rfl (qe 0) (XTt.ask rn0 (by decide)) qy) qg))))))
   (qi (zp (i:=1) uF.nd (qw qF qG (qe 1) (jp (qc (qay (RN:=RN) (m:="NotSingle") (mgl:=mg) XTt (by decide) (by decide) rfl T.b_isinstance rfl (qe 0) (XTt.ask rn0 (by decide)) qy) (qc (qay (RN:=RN) (m:="NoText") (mgl:=mg) XTt (by decide) (by decide) rfl T.b_isinstance rfl (qe 0) (XTt.ask rn0 (by decide)) qy) qg)))))
   (qi (jR (zS qkQ qfA (qf7 PySem.F.slot_list_count qhD qhy qdi (qe 1) (qc vm qg)) qh (zg _)) (ql (qJ jx)) qM)
   (ql (qJ (jq zb qZ (jp (qc jx (qc jx (qc jx (qc jx (qc jx (qc jx qg))))))) (qf7 PySem.F.slot_list_index qhE qhz qdj (qe 1) (qc vm qg)))))))))
theorem vy:qE ["kind","room","alone"] ["kind","room"] (qf jg):=⟨rfl,rfl,rfl,by decide +kernel,rfl,by decide +kernel,by decide +kernel⟩
theorem q1 (F:Fun K "most_within" "most_within" jg f fd) (m:mg "most_within"=some (.ref f)) (T:Txt K mg) (XTt:XT K mg RN TN) (hB:K.In base):Q1 P w K mg base:=by
 refine⟨f,fd,?_,m,F.kp,F.binds λ_ _ _ _ _ _ us hl=>match us,hl with | [_,_],_=>rfl⟩
 exact zF (N:=["kind","room","alone"]) (O:=[]) (body:=uB) F vy (by decide) λcdv A outer s H E B hr=>(qi (zp (i:=2) vy.nd (qw wf u8 (qe 1) (jq zb qZ (qe 0) (gI T.c_WEIGHT))))
   (ql (qJ (qk8 (zS qfg qc7 (jq zb qZ (qe 0) (gI T.c_MOST)) yH (zg _)) (qe 2) (qC (qae rfl) qap rfl T.b_min qfO (qc (qe 2) (qc (jq zb qZ (qe 0) (gI T.c_MOST)) qg)))))))
theorem qcS:qE ["kind","times","room"] ["kind","times","room"] (qf jW):=⟨rfl,rfl,rfl,by decide +kernel,rfl,by decide +kernel,by decide +kernel⟩
theorem q2 (F:Fun K "room_left" "room_left" jW f fd) (m:mg "room_left"=some (.ref f)) (T:Txt K mg) (XTt:XT K mg RN TN) (hB:K.In base):Q2 P w K mg base:=by
 refine⟨f,fd,?_,m,F.kp,F.binds λ_ _ _ _ _ _ us hl=>match us,hl with | [_,_,_],_=>rfl⟩
 exact zF (N:=["kind","times","room"]) (O:=[]) (body:=vI) F qcS (by decide) λcdv A outer s H E B hr=>(ql (qJ (qw qdG qby (qe 2) (qw jU zZ (qe 1) (jq zb qZ (qe 0) (gI T.c_WEIGHT))))))
theorem qb2:qE ["kind","times","row","room"] ["kind","times","row","room"] (qf jz):=⟨rfl,rfl,rfl,by decide +kernel,rfl,by decide +kernel,by decide +kernel⟩
theorem q3 (F:Fun K "worth_with" "worth_with" jz f fd) (m:mg "worth_with"=some (.ref f)) (T:Txt K mg) (XTt:XT K mg RN TN) (hB:K.In base) (C_room_left:Q2 P w K mg base):Q3 P w K mg base:=by
 refine⟨f,fd,?_,m,F.kp,F.binds λ_ _ _ _ _ _ us hl=>match us,hl with | [_,_,_,_],_=>rfl⟩
 exact zF (N:=["kind","times","row","room"]) (O:=[]) (body:=uY) F qb2 (by decide) λcdv A outer s H E B hr=>(ql (qJ (qw qF qG (qw jU zZ (qe 1) (jq zb qZ (qe 0) (gI T.c_WORTH))) (jq zb qZ (qe 2) (dC C_room_left hr (qc (qe 0) (qc (qe 1) (qc (qe 3) qg))))))))
theorem qcT:qE ["kind","row","room"] ["kind","row","room"] (qf jv):=⟨rfl,rfl,rfl,by decide +kernel,rfl,by decide +kernel,by decide +kernel⟩
theorem q4 (F:Fun K "best_with" "best_with" jv f fd) (m:mg "best_with"=some (.ref f)) (T:Txt K mg) (XTt:XT K mg RN TN) (hB:K.In base) (C_most_within:Q1 P w K mg base) (C_worth_with:Q3 P w K mg base):Q4 P w K mg base:=by
 refine⟨f,fd,?_,m,F.kp,F.binds λ_ _ _ _ _ _ us hl=>match us,hl with | [_,_,_],_=>rfl⟩
 exact zF (N:=["kind","row","room"]) (O:=[]) (body:=vJ) F qcT (by decide) λcdv A outer s H E B hr=>(ql (qJ (qC (qcx rfl) qbb rfl T.b_max qfN (qc (jT (fo:=none) rfl (zU rfl T.b_range (qc (qw qF qG (dC C_most_within hr (qc (qe 0) (qc (qe 2) qg))) qh) qg)) (cs ["kind","row","room"] ["times","kind","row","room"] 1 [0,1,2] (qf jv)) (f0 [0,1,2] []) (λ_ _ _ _ _ _ _ _ _ _ _=>⟨(qK (i:=0) (nd ["times","kind","row","room"])),y0,(dC C_worth_with hr (qc (qe 1) (qc (qe 0) (qc (qe 2) (qc (qe 3) qg)))))⟩)) qg))))
theorem qdA:qE ["kind","row"] ["kind","row"] (qf jX):=⟨rfl,rfl,rfl,by decide +kernel,rfl,by decide +kernel,by decide +kernel⟩
theorem q5 (F:Fun K "next_row" "next_row" jX f fd) (m:mg "next_row"=some (.ref f)) (T:Txt K mg) (XTt:XT K mg RN TN) (hB:K.In base) (C_best_with:Q4 P w K mg base):Q5 P w K mg base:=by
 refine⟨f,fd,?_,m,F.kp,F.binds λ_ _ _ _ _ _ us hl=>match us,hl with | [_,_],_=>rfl⟩
 exact zF (N:=["kind","row"]) (O:=[]) (body:=wJ) F qdA (by decide) λcdv A outer s H E B hr=>(ql (qJ (uO jH ut rfl T.b_tuple yb (qc (jT (fo:=none) rfl (zU rfl T.b_range (qc (qC zh zt rfl T.b_len y8 (qc (qe 1) qg)) qg)) (cs ["kind","row"] ["size","kind","row"] 1 [0,1] (qf jX)) (f0 [0,1] []) (λ_ _ _ _ _ _ _ _ _ _ _=>⟨(qK (i:=0) (nd ["size","kind","row"])),y0,(dC C_best_with hr (qc (qe 1) (qc (qe 2) (qc (qe 0) qg))))⟩)) qg))))
theorem qdB:qE ["number"] ["number"] (qf jY):=⟨rfl,rfl,rfl,by decide +kernel,rfl,by decide +kernel,by decide +kernel⟩
theorem q6 (F:Fun K "need_few" "need_few" jY f fd) (m:mg "need_few"=some (.ref f)) (T:Txt K mg) (XTt:XT K mg RN TN) (hB:K.In base):Q6 P w K mg base:=by
 obtain⟨S,mS,xS⟩:=XTt.xcls hB
 obtain⟨C_TooMany,hc_TooMany⟩:=XTt.has (n:="TooMany") (by decide)
 have mc_TooMany:=XTt.mgc _ _ (XTt.cls hc_TooMany).1
 obtain⟨bm_TooMany,xc_TooMany,_⟩:=xS.own _ _ hc_TooMany
 refine⟨f,fd,?_,m,F.kp,F.binds λ_ _ _ _ _ _ us hl=>match us,hl with | [_],_=>rfl⟩
 show vi P w K mg base (CX1 P w) 1 f fd ["number"] (spX K (clR K RN) (qaR (["number"]:List Str).length (["number"]:List Str).length ur))
 refine qbe (N:=["number"]) (ps:=["number"]) (k:=0) (O:=[]) (body:=ur) (cl:=clR K RN) F qdB ?a ?b
 case a=>decide
 intro cdv A outer s H E B hr
 have L:=qbd (P:=P) (w:=w) (K:=K) (mg:=mg) (base:=base) (N:=["number"]) (qual:="need_few") (scope:=qf jY) (f:=f) (cdv:=cdv) (A:=A) (outer:=outer) (s:=s) (H:=H) (E:=E) (c:=cfn [] [] B H (λ_=>False) (λx H'=>∀C,clR K RN x.cls=some C->E (.ref C) none H') λ_=>none) (cl:=clR K RN) rfl (λx C H' h1 h2=>h2 C h1)
 exact(ql (jR (zS qkR qh1 (qe 0) (gI T.c_ASKED_AT_MOST) (zg _)) (ql (qbH rfl L hc_TooMany rfl mc_TooMany xc_TooMany (qc jx qg))) qM))
theorem qdC:qE ["thing"] ["thing"] (qf yB):=⟨rfl,rfl,rfl,by decide +kernel,rfl,by decide +kernel,by decide +kernel⟩
theorem q7 (F:Fun K "is_whole" "is_whole" yB f fd) (m:mg "is_whole"=some (.ref f)) (T:Txt K mg) (XTt:XT K mg RN TN) (hB:K.In base):Q7 P w K mg base:=by
 refine⟨f,fd,?_,m,F.kp,F.binds λ_ _ _ _ _ _ us hl=>match us,hl with | [_],_=>rfl⟩
 exact zF (N:=["thing"]) (O:=[]) (body:=wK) F qdC (by decide) λcdv A outer s H E B hr=>(ql (qJ (qcn (vq qfD rfl T.b_isinstance rfl T.b_int qic (qe 0) qy) (qa0 (qhX (vq qdM rfl T.b_isinstance rfl T.b_bool qfQ (qe 0) qy))))))
theorem qdD:qE ["thing"] ["thing"] (qf yC):=⟨rfl,rfl,rfl,by decide +kernel,rfl,by decide +kernel,by decide +kernel⟩
theorem q8 (F:Fun K "is_count" "is_count" yC f fd) (m:mg "is_count"=some (.ref f)) (T:Txt K mg) (XTt:XT K mg RN TN) (hB:K.In base) (C_is_whole:Q7 P w K mg base):Q8 P w K mg base:=by
 refine⟨f,fd,?_,m,F.kp,F.binds λ_ _ _ _ _ _ us hl=>match us,hl with | [_],_=>rfl⟩
 exact zF (N:=["thing"]) (O:=[]) (body:=wL) F qdD (by decide) λcdv A outer s H E B hr=>(ql (qJ (qcn (dC C_is_whole hr (qc (qe 0) qg)) (qa0 (qcm qiV qfz (qe 0) qh (zg _))))))
theorem qb3:qE ["thing"] ["thing"] (qf ja):=⟨rfl,rfl,rfl,by decide +kernel,rfl,by decide +kernel,by decide +kernel⟩
theorem q9 (F:Fun K "need_count" "need_count" ja f fd) (m:mg "need_count"=some (.ref f)) (T:Txt K mg) (XTt:XT K mg RN TN) (hB:K.In base) (C_is_count:Q8 P w K mg base):Q9 P w K mg base:=by
 obtain⟨S,mS,xS⟩:=XTt.xcls hB
 obtain⟨C_NoNumber,hc_NoNumber⟩:=XTt.has (n:="NoNumber") (by decide)
 have mc_NoNumber:=XTt.mgc _ _ (XTt.cls hc_NoNumber).1
 obtain⟨bm_NoNumber,xc_NoNumber,_⟩:=xS.own _ _ hc_NoNumber
 refine⟨f,fd,?_,m,F.kp,F.binds λ_ _ _ _ _ _ us hl=>match us,hl with | [_],_=>rfl⟩
 show vi P w K mg base (CX1 P w) 3 f fd ["thing"] (spX K (clR K RN) (qaR (["thing"]:List Str).length (["thing"]:List Str).length yi))
 refine qbe (N:=["thing"]) (ps:=["thing"]) (k:=2) (O:=[]) (body:=yi) (cl:=clR K RN) F qb3 ?a ?b
 case a=>decide
 intro cdv A outer s H E B hr
 have L:=qbd (P:=P) (w:=w) (K:=K) (mg:=mg) (base:=base) (N:=["thing"]) (qual:="need_count") (scope:=qf ja) (f:=f) (cdv:=cdv) (A:=A) (outer:=outer) (s:=s) (H:=H) (E:=E) (c:=cfn [] [] B H (λ_=>False) (λx H'=>∀C,clR K RN x.cls=some C->E (.ref C) none H') λ_=>none) (cl:=clR K RN) rfl (λx C H' h1 h2=>h2 C h1)
 exact(ql (jR (yY (yX (dC C_is_count hr (qc (qe 0) qg)))) (ql (qbH rfl L hc_NoNumber rfl mc_NoNumber xc_NoNumber (qc jx qg))) qM))
theorem qe0:qE ["thing"] ["thing"] (qf uq):=⟨rfl,rfl,rfl,by decide +kernel,rfl,by decide +kernel,by decide +kernel⟩
theorem q10 (F:Fun K "is_kind" "is_kind" uq f fd) (m:mg "is_kind"=some (.ref f)) (T:Txt K mg) (XTt:XT K mg RN TN) (hB:K.In base) (C_is_count:Q8 P w K mg base):Q10 P w K mg base:=by
 refine⟨f,fd,?_,m,F.kp,F.binds λ_ _ _ _ _ _ us hl=>match us,hl with | [_],_=>rfl⟩
 exact zF (N:=["thing"]) (O:=[]) (body:=qaI) F qe0 (by decide) λcdv A outer s H E B hr=>(qi (jR (DW.dt (qbw (yY (yX (vq vO rfl T.b_isinstance rfl T.b_tuple yb (qe 0) qy))) (vN (zS (vt hr) ue (qC zh zt rfl T.b_len y8 (qc (qe 0) qg)) qh (zg _))))) (ql (qJ vm)) qM)
   (qi (jR (DW.dt (qbw (yY (yX (dC C_is_count hr (qc (jq zb qZ (qe 0) (gI T.c_WEIGHT)) qg)))) (vN (zS (wR hr) uT (jq zb qZ (qe 0) (gI T.c_WEIGHT)) qh (zg _))))) (ql (qJ vm)) qM)
   (ql (qJ (qcn (dC C_is_count hr (qc (jq zb qZ (qe 0) (gI T.c_WORTH)) qg)) (qa0 (qmR (qcm qfg qc7 (jq zb qZ (qe 0) (gI T.c_MOST)) yH (zg _)) (qa0 (dC C_is_count hr (qc (jq zb qZ (qe 0) (gI T.c_MOST)) qg))))))))))
theorem qdE:qE ["thing"] ["thing"] (qf jZ):=⟨rfl,rfl,rfl,by decide +kernel,rfl,by decide +kernel,by decide +kernel⟩
theorem q11 (F:Fun K "is_store" "is_store" jZ f fd) (m:mg "is_store"=some (.ref f)) (T:Txt K mg) (XTt:XT K mg RN TN) (hB:K.In base) (C_is_kind:Q10 P w K mg base):Q11 P w K mg base:=by
 refine⟨f,fd,?_,m,F.kp,F.binds λ_ _ _ _ _ _ us hl=>match us,hl with | [_],_=>rfl⟩
 exact zF (N:=["thing"]) (O:=[]) (body:=wM) F qdE (by decide) λcdv A outer s H E B hr=>(qi (jR (DW.dt (qbw (yY (yX (vq vO rfl T.b_isinstance rfl T.b_tuple yb (qe 0) qy))) (vN (zS qkR qh1 (qC zh zt rfl T.b_len y8 (qc (qe 0) qg)) (gI T.c_KINDS_AT_MOST) (zg _))))) (ql (qJ vm)) qM)
   (ql (qJ (qC (vP rfl) uP rfl T.b_all qct (qc (jT (fo:=none) rfl (uk (qe 0)) (cs ["thing"] ["part"] 1 [] (qf jZ)) (f0 [] []) (λ_ _ _ _ _ _ _ _ _ _ _=>⟨(qK (i:=0) (nd ["part"])),y0,(dC C_is_kind hr (qc (qe 0) qg))⟩)) qg)))))
theorem qb4:qE ["thing"] ["thing"] (qf jb):=⟨rfl,rfl,rfl,by decide +kernel,rfl,by decide +kernel,by decide +kernel⟩
theorem q12 (F:Fun K "need_store" "need_store" jb f fd) (m:mg "need_store"=some (.ref f)) (T:Txt K mg) (XTt:XT K mg RN TN) (hB:K.In base) (C_is_store:Q11 P w K mg base):Q12 P w K mg base:=by
 obtain⟨S,mS,xS⟩:=XTt.xcls hB
 obtain⟨C_NoStore,hc_NoStore⟩:=XTt.has (n:="NoStore") (by decide)
 have mc_NoStore:=XTt.mgc _ _ (XTt.cls hc_NoStore).1
 obtain⟨bm_NoStore,xc_NoStore,_⟩:=xS.own _ _ hc_NoStore
 refine⟨f,fd,?_,m,F.kp,F.binds λ_ _ _ _ _ _ us hl=>match us,hl with | [_],_=>rfl⟩
 show vi P w K mg base (CX1 P w) 5 f fd ["thing"] (spX K (clR K RN) (qaR (["thing"]:List Str).length (["thing"]:List Str).length ua))
 refine qbe (N:=["thing"]) (ps:=["thing"]) (k:=4) (O:=[]) (body:=ua) (cl:=clR K RN) F qb4 ?a ?b
 case a=>decide
 intro cdv A outer s H E B hr
 have L:=qbd (P:=P) (w:=w) (K:=K) (mg:=mg) (base:=base) (N:=["thing"]) (qual:="need_store") (scope:=qf jb) (f:=f) (cdv:=cdv) (A:=A) (outer:=outer) (s:=s) (H:=H) (E:=E) (c:=cfn [] [] B H (λ_=>False) (λx H'=>∀C,clR K RN x.cls=some C->E (.ref C) none H') λ_=>none) (cl:=clR K RN) rfl (λx C H' h1 h2=>h2 C h1)
 exact(ql (jR (yY (yX (dC C_is_store hr (qc (qe 0) qg)))) (ql (qbH rfl L hc_NoStore rfl mc_NoStore xc_NoStore (qc jx qg))) qM))
theorem qb5:qE ["store","number"] ["store","number"] (qf jc):=⟨rfl,rfl,rfl,by decide +kernel,rfl,by decide +kernel,by decide +kernel⟩
theorem q13 (F:Fun K "need_asked" "need_asked" jc f fd) (m:mg "need_asked"=some (.ref f)) (T:Txt K mg) (XTt:XT K mg RN TN) (hB:K.In base) (C_need_few:Q6 P w K mg base) (C_need_count:Q9 P w K mg base) (C_need_store:Q12 P w K mg base):Q13 P w K mg base:=by
 have hcl:∀n,RN.contains n=true->(clR K RN n).isSome=true:=λn hn=>Option.isSome_iff_exists.mpr (XTt.has hn)
 refine⟨f,fd,?_,m,F.kp,F.binds λ_ _ _ _ _ _ us hl=>match us,hl with | [_,_],_=>rfl⟩
 show vi P w K mg base (CX1 P w) 6 f fd ["store","number"] (spX K (clR K RN) (qaR (["store","number"]:List Str).length (["store","number"]:List Str).length jD))
 refine qbe (N:=["store","number"]) (ps:=["store","number"]) (k:=5) (O:=[]) (body:=jD) (cl:=clR K RN) F qb5 ?a ?b
 case a=>decide
 intro cdv A outer s H E B hr
 have L:=qbd (P:=P) (w:=w) (K:=K) (mg:=mg) (base:=base) (N:=["store","number"]) (qual:="need_asked") (scope:=qf jc) (f:=f) (cdv:=cdv) (A:=A) (outer:=outer) (s:=s) (H:=H) (E:=E) (c:=cfn [] [] B H (λ_=>False) (λx H'=>∀C,clR K RN x.cls=some C->E (.ref C) none H') λ_=>none) (cl:=clR K RN) rfl (λx C H' h1 h2=>h2 C h1)
 exact (qi (uc (xC L.two hcl C_need_store hr (qc (qe 0) qg)))
   (qi (uc (xC L.two hcl C_need_count hr (qc (qe 1) qg)))
   (ql (uc (xC L.two hcl C_need_few hr (qc (qe 1) qg))))))
theorem ug:qE ["store","room","rows","kind"] ["store","room"] (qf zN):=⟨rfl,rfl,rfl,by decide +kernel,rfl,by decide +kernel,by decide +kernel⟩
theorem q14 (F:Fun K "table_paper" "table_paper" zN f fd) (m:mg "table_paper"=some (.ref f)) (T:Txt K mg) (XTt:XT K mg RN TN) (hB:K.In base) (C_next_row:Q5 P w K mg base) (C_need_asked:Q13 P w K mg base):Q14 P w K mg base:=by
 have hcl:∀n,RN.contains n=true->(clR K RN n).isSome=true:=λn hn=>Option.isSome_iff_exists.mpr (XTt.has hn)
 refine⟨f,fd,?_,m,F.kp,F.binds λ_ _ _ _ _ _ us hl=>match us,hl with | [_,_],_=>rfl⟩
 show vi P w K mg base (CX1 P w) 7 f fd ["store","room"] (spX K (clR K RN) (qaR (["store","room","rows","kind"]:List Str).length (["store","room"]:List Str).length jM))
 refine qbe (N:=["store","room","rows","kind"]) (ps:=["store","room"]) (k:=6) (O:=[2]) (body:=jM) (cl:=clR K RN) F ug ?a ?b
 case a=>decide
 intro cdv A outer s H E B hr
 have L:=qbd (P:=P) (w:=w) (K:=K) (mg:=mg) (base:=base) (N:=["store","room","rows","kind"]) (qual:="table_paper") (scope:=qf zN) (f:=f) (cdv:=cdv) (A:=A) (outer:=outer) (s:=s) (H:=H) (E:=E) (c:=cfn [2] [] B H (λ_=>False) (λx H'=>∀C,clR K RN x.cls=some C->E (.ref C) none H') λ_=>none) (cl:=clR K RN) rfl (λx C H' h1 h2=>h2 C h1)
 exact (qi (uc (xC L.two hcl C_need_asked hr (qc (qe 0) (qc (qe 1) qg))))
   (qi (wy (i:=2) ug.nd (qgi (qc (qw qgs qec (zD (qc qh qg)) (qw qF qG (qe 1) qh)) qg)))
   (qi (qim (uJ ya2 rfl (uk (qe 0)) (qK (i:=3) ug.nd) (ql (uc (uQ (i:=2) (dC C_next_row hr (qc (qe 3) (qc (qdP (i:=2) (y7 qh)) qg))))))))
   (ql (qjm (i:=2))))))
theorem qb6:qE ["row","least"] ["row","least"] (qf jd):=⟨rfl,rfl,rfl,by decide +kernel,rfl,by decide +kernel,by decide +kernel⟩
theorem q15 (F:Fun K "is_no_less" "is_no_less" jd f fd) (m:mg "is_no_less"=some (.ref f)) (T:Txt K mg) (XTt:XT K mg RN TN) (hB:K.In base):Q15 P w K mg base:=by
 refine⟨f,fd,?_,m,F.kp,F.binds λ_ _ _ _ _ _ us hl=>match us,hl with | [_,_],_=>rfl⟩
 exact zF (N:=["row","least"]) (O:=[]) (body:=u0) F qb6 (by decide) λcdv A outer s H E B hr=>(ql (qJ (qC (vP rfl) uP rfl T.b_all qct (qc (jT (fo:=none) rfl (qls rfl T.b_zip (qc (qe 0) (qc (qe 1) qg))) (cs ["row","least"] ["number","needed"] 2 [] (qf jd)) (f0 [] []) (λ_ _ _ _ _ _ _ _ _ _ _=>⟨(qco (n:=2) rfl (jJ (qK (i:=0) (nd ["number","needed"])) (jJ (qK (i:=1) (nd ["number","needed"])) qan))),y0,(qcm qiV qfz (qe 0) (qe 1) (zg _))⟩)) qg))))
theorem qgR:qE ["thing","room"] ["thing","room"] (qf uA):=⟨rfl,rfl,rfl,by decide +kernel,rfl,by decide +kernel,by decide +kernel⟩
theorem q16 (F:Fun K "is_row" "is_row" uA f fd) (m:mg "is_row"=some (.ref f)) (T:Txt K mg) (XTt:XT K mg RN TN) (hB:K.In base) (C_is_count:Q8 P w K mg base):Q16 P w K mg base:=by
 refine⟨f,fd,?_,m,F.kp,F.binds λ_ _ _ _ _ _ us hl=>match us,hl with | [_,_],_=>rfl⟩
 exact zF (N:=["thing","room"]) (O:=[]) (body:=qbU) F qgR (by decide) λcdv A outer s H E B hr=>(qi (jR (DW.dt (qbw (yY (yX (vq vO rfl T.b_isinstance rfl T.b_tuple yb (qe 0) qy))) (vN (zS (vt hr) ue (qC zh zt rfl T.b_len y8 (qc (qe 0) qg)) (qw qF qG (qe 1) qh) (zg _))))) (ql (qJ vm)) qM)
   (ql (qJ (qC (vP rfl) uP rfl T.b_all qct (qc (jT (fo:=none) rfl (uk (qe 0)) (cs ["thing","room"] ["number"] 1 [] (qf uA)) (f0 [] []) (λ_ _ _ _ _ _ _ _ _ _ _=>⟨(qK (i:=0) (nd ["number"])),y0,(dC C_is_count hr (qc (qe 0) qg))⟩)) qg)))))
theorem qe1:qE ["thing","store","room"] ["thing","store","room"] (qf yP):=⟨rfl,rfl,rfl,by decide +kernel,rfl,by decide +kernel,by decide +kernel⟩
theorem q17 (F:Fun K "is_rows" "is_rows" yP f fd) (m:mg "is_rows"=some (.ref f)) (T:Txt K mg) (XTt:XT K mg RN TN) (hB:K.In base) (C_is_row:Q16 P w K mg base):Q17 P w K mg base:=by
 refine⟨f,fd,?_,m,F.kp,F.binds λ_ _ _ _ _ _ us hl=>match us,hl with | [_,_,_],_=>rfl⟩
 exact zF (N:=["thing","store","room"]) (O:=[]) (body:=qaJ) F qe1 (by decide) λcdv A outer s H E B hr=>(qi (jR (DW.dt (qbw (yY (yX (vq qdN rfl T.b_isinstance rfl T.b_list qdb (qe 0) qy))) (vN (zS (vt hr) ue (qC zh zt rfl T.b_len y8 (qc (qe 0) qg)) (qw qF qG (qC zh zt rfl T.b_len y8 (qc (qe 1) qg)) qh) (zg _))))) (ql (qJ vm)) qM)
   (ql (qJ (qC (vP rfl) uP rfl T.b_all qct (qc (jT (fo:=none) rfl (uk (qe 0)) (cs ["thing","store","room"] ["row","room"] 1 [2] (qf yP)) (f0 [2] []) (λ_ _ _ _ _ _ _ _ _ _ _=>⟨(qK (i:=0) (nd ["row","room"])),y0,(dC C_is_row hr (qc (qe 0) (qc (qe 1) qg)))⟩)) qg)))))
theorem uh:qE ["thing","store","room","place","kind"] ["thing","store","room"] (qf zP):=⟨rfl,rfl,rfl,by decide +kernel,rfl,by decide +kernel,by decide +kernel⟩
theorem q18 (F:Fun K "table_bound" "table_bound" zP f fd) (m:mg "table_bound"=some (.ref f)) (T:Txt K mg) (XTt:XT K mg RN TN) (hB:K.In base) (C_is_no_less:Q15 P w K mg base) (C_next_row:Q5 P w K mg base) (C_is_rows:Q17 P w K mg base) (C_need_asked:Q13 P w K mg base):Q18 P w K mg base:=by
 have hcl:∀n,RN.contains n=true->(clR K RN n).isSome=true:=λn hn=>Option.isSome_iff_exists.mpr (XTt.has hn)
 refine⟨f,fd,?_,m,F.kp,F.binds λ_ _ _ _ _ _ us hl=>match us,hl with | [_,_,_],_=>rfl⟩
 show vi P w K mg base (CX1 P w) 7 f fd ["thing","store","room"] (spX K (clR K RN) (qaR (["thing","store","room","place","kind"]:List Str).length (["thing","store","room"]:List Str).length zQ))
 refine qbe (N:=["thing","store","room","place","kind"]) (ps:=["thing","store","room"]) (k:=6) (O:=[]) (body:=zQ) (cl:=clR K RN) F uh ?a ?b
 case a=>decide
 intro cdv A outer s H E B hr
 have L:=qbd (P:=P) (w:=w) (K:=K) (mg:=mg) (base:=base) (N:=["thing","store","room","place","kind"]) (qual:="table_bound") (scope:=qf zP) (f:=f) (cdv:=cdv) (A:=A) (outer:=outer) (s:=s) (H:=H) (E:=E) (c:=cfn [] [] B H (λ_=>False) (λx H'=>∀C,clR K RN x.cls=some C->E (.ref C) none H') λ_=>none) (cl:=clR K RN) rfl (λx C H' h1 h2=>h2 C h1)
 exact (qi (uc (xC L.two hcl C_need_asked hr (qc (qe 1) (qc (qe 2) qg))))
   (qi (jR (yY (yX (dC C_is_rows hr (qc (qe 0) (qc (qe 1) (qc (qe 2) qg)))))) (ql (qJ yH)) qM)
   (qi (qim (uJ ya2 rfl (qjF rfl T.b_enumerate (qc (qe 1) qg)) (qco (n:=2) rfl (jJ (qK (i:=3) uh.nd) (jJ (qK (i:=4) uh.nd) qan))) (ql (jR (yY (yX (dC C_is_no_less hr (qc (jq zb qZ (qe 0) (qw qF qG (qe 3) qh)) (qc (dC C_next_row hr (qc (qe 4) (qc (jq zb qZ (qe 0) (qe 3)) qg))) qg))))) (ql (qJ yH)) qM))))
   (ql (qJ (jq zb qZ (jq zb qZ (qe 0) (y7 qh)) (y7 qh)))))))
theorem wW:qE ["kind","store","room","e"] ["kind","store","room"] (qf j4):=⟨rfl,rfl,rfl,by decide +kernel,rfl,by decide +kernel,by decide +kernel⟩
theorem q19 (F:Fun K "_law_said" "_law_said" j4 f fd) (m:mg "_law_said"=some (.ref f)) (T:Txt K mg) (XTt:XT K mg RN TN) (hB:K.In base) (C__law_marks:Q0 P w K mg base) (C_table_paper:Q14 P w K mg base) (C_table_bound:Q18 P w K mg base):Q19 P w K mg base:=by
 obtain⟨f__law_marks,fd__law_marks,G__law_marks,m__law_marks,k__law_marks,b__law_marks⟩:=C__law_marks.ex
 have hcl:∀n,RN.contains n=true->(clR K RN n).isSome=true:=λn hn=>Option.isSome_iff_exists.mpr (XTt.has hn)
 obtain⟨S,mS,xS⟩:=XTt.xcls hB
 refine⟨f,fd,?_,m,F.kp,F.binds λ_ _ _ _ _ _ us hl=>match us,hl with | [_,_,_],_=>rfl⟩
 exact zF (N:=["kind","store","room","e"]) (O:=[]) (body:=jw) F wW (by decide) λcdv A outer s H E B hr=>(ql (qlD (i:=3) wW.nd rfl rfl xS rfl mS G__law_marks (hr.mono (by decide)) rfl m__law_marks k__law_marks b__law_marks (λxe pn E2 cE L=>(qi (jR (zS (wR hr) uT (qe 0) qh (zg _)) (ql (qJ (xC L hcl C_table_bound hr (qc yH (qc (qe 1) (qc (qe 2) qg)))))) qM)
   (ql (qJ (xC L hcl C_table_paper hr (qc (qe 1) (qc (qe 2) qg)))))))))
theorem u7:qE ["box","many","left","digit"] ["box","many"] (qf j6):=⟨rfl,rfl,rfl,by decide +kernel,rfl,by decide +kernel,by decide +kernel⟩
theorem q20 (F:Fun K "_law_take" "_law_take" j6 f fd) (m:mg "_law_take"=some (.ref f)) (T:Txt K mg) (XTt:XT K mg RN TN) (hB:K.In base):Q20 P w K mg base:=by
 refine⟨f,fd,?_,m,F.kp,F.binds λ_ _ _ _ _ _ us hl=>match us,hl with | [_,_],_=>rfl⟩
 show vi P w K mg base CX0 1 f fd ["box","many"] (qdQ K (vF (["box","many","left","digit"]:List Str).length (["box","many"]:List Str).length uC))
 refine qfI (N:=["box","many","left","digit"]) (ps:=["box","many"]) (k:=0) (O:=[0]) (body:=uC) F u7 ?a ?a0 ?b
 case a=>decide
 case a0=>decide
 intro cdv A outer s H E B Io S hr
 exact (qi (qhY (qC qc1 qcq rfl T.b_divmod qfP (qc (qdP (i:=0) qh) (qc (qe 1) qg))) (qco (n:=2) rfl (jJ (qK (i:=2) u7.nd) (jJ (qK (i:=3) u7.nd) qan))))
   (qi (qjj (i:=0) (qe 2) qh)
   (ql (qJ (qe 3)))))
theorem zv:qE ["box","paper","odd","at","row","to","one","news","kind","more"] ["box","paper","odd"] (qf zk):=⟨rfl,rfl,rfl,by decide +kernel,rfl,by decide +kernel,by decide +kernel⟩
theorem q21 (F:Fun K "_law_bent" "_law_bent" zk f fd) (m:mg "_law_bent"=some (.ref f)) (T:Txt K mg) (XTt:XT K mg RN TN) (hB:K.In base) (C__law_take:Q20 P w K mg base):Q21 P w K mg base:=by
 refine⟨f,fd,?_,m,F.kp,F.binds λ_ _ _ _ _ _ us hl=>match us,hl with | [_,_,_],_=>rfl⟩
 show vi P w K mg base CX0 2 f fd ["box","paper","odd"] (qdQ K (vF (["box","paper","odd","at","row","to","one","news","kind","more"]:List Str).length (["box","paper","odd"]:List Str).length yS))
 refine qfI (N:=["box","paper","odd","at","row","to","one","news","kind","more"]) (ps:=["box","paper","odd"]) (k:=1) (O:=[0]) (body:=yS) F zv ?a ?a0 ?b
 case a=>decide
 case a0=>decide
 intro cdv A outer s H E B Io S hr
 exact (qi (zp (i:=3) zv.nd (iC (i:=0) C__law_take hr (qc (qC zh zt rfl T.b_len y8 (qc (qe 1) qg)) qg)))
   (qi (zp (i:=4) zv.nd (jq zb qZ (qe 1) (qe 3)))
   (qi (zp (i:=5) zv.nd (iC (i:=0) C__law_take hr (qc (qC zh zt rfl T.b_len y8 (qc (qe 4) qg)) qg)))
   (qi (zp (i:=6) zv.nd (jq zb qZ (qe 4) (qe 5)))
   (qi (qf4 (i:=7) zv.nd (qf3 (fo:=none) rfl (uk (jp (qc (qw qdG qby (qe 6) qh) (qc (qw qF qG (qe 6) qh) (qc (qcm (wR hr) uT (qe 6) qh (zg _)) (qc yH (qc (y7 qh) (qc (qe 2) (qc (qw qF qG (qe 6) qh) qg))))))))) (cs ["box","paper","odd","at","row","to","one","news","kind","more"] ["other","row","to"] 1 [4,5] (qf zk)) (f0 [4,5] [0]) (λ_ _ _ _ _ _ _ _ _ _ _=>⟨(qK (i:=0) (nd ["other","row","to"])),y0,(qw qF qG (qw qF qG (yM (qe 1) vC (vE (qe 2))) (zD (qc (qe 0) qg))) (yM (qe 1) (vE (qw qF qG (qe 2) qh)) vC))⟩)) rfl (cs ["box","paper","odd","at","row","to","one","news","kind","more"] ["other","row","to"] 1 [4,5] (qf zk)))
   (qi (zp (i:=7) zv.nd (qw qF qG (qe 7) (jp (qc (yM (qe 4) (vE qh) vC) (qc (qw qF qG (qe 4) (zD (qc (qe 6) qg))) (qc (uO qcj qeB rfl T.b_list qdb (qc (qe 4) qg)) (qc (qgk (qe 4)) (qc (uO jH ut rfl T.b_tuple yb (qc (jT (fo:=none) rfl (uk (qe 4)) (cs ["box","paper","odd","at","row","to","one","news","kind","more"] ["other"] 1 [] (qf zk)) (f0 [] [0]) (λ_ _ _ _ _ _ _ _ _ _ _=>⟨(qK (i:=0) (nd ["other"])),y0,(qw qF qG (qe 0) qh)⟩)) qg)) qg))))))))
   (qi (zp (i:=8) zv.nd (iC (i:=0) C__law_take hr (qc qh qg)))
   (qi (jR (zS qiU qfy (qe 8) qh (zg _)) (ql (qJ (qw qF qG (qw qF qG (yM (qe 1) vC (vE (qe 3))) (jp (qc (jq zb qZ (qe 7) (qe 8)) qg))) (yM (qe 1) (vE (qw qF qG (qe 3) qh)) vC)))) qM)
   (qi (qf4 (i:=9) zv.nd (qf3 (fo:=none) rfl (uk (qe 1)) (cs ["box","paper","odd","at","row","to","one","news","kind","more"] ["some"] 1 [] (qf zk)) (f0 [] [0]) (λ_ _ _ _ _ _ _ _ _ _ _=>⟨(qK (i:=0) (nd ["some"])),y0,(uO jH ut rfl T.b_tuple yb (qc (jT (fo:=none) rfl (uk (qe 0)) (cs0 ["other"] 1) (f0 [] []) (λ_ _ _ _ _ _ _ _ _ _ _=>⟨(qK (i:=0) (nd ["other"])),y0,(qw qF qG (qe 0) qh)⟩)) qg))⟩)) rfl (cs ["box","paper","odd","at","row","to","one","news","kind","more"] ["some"] 1 [] (qf zk)))
   (ql (qJ (jq zb qZ (jp (qc (uO jH ut rfl T.b_tuple yb (qc (qe 1) qg)) (qc (yM (qe 1) vC (vE (y7 qh))) (qc (qw qF qG (qe 1) (yM (qe 1) (vE (y7 qh)) vC)) (qc (qe 9) qg))))) (qw qdG qby (qe 8) qh)))))))))))))
theorem qX:qE ["row","kind","room","heavy","dear","most","found","here","often"] ["row","kind","room"] (qf zl):=⟨rfl,rfl,rfl,by decide +kernel,rfl,by decide +kernel,by decide +kernel⟩
theorem q22 (F:Fun K "_law_row_with" "_law_row_with" zl f fd) (m:mg "_law_row_with"=some (.ref f)) (T:Txt K mg) (XTt:XT K mg RN TN) (hB:K.In base):Q22 P w K mg base:=by
 refine⟨f,fd,?_,m,F.kp,F.binds λ_ _ _ _ _ _ us hl=>match us,hl with | [_,_,_],_=>rfl⟩
 exact zF (N:=["row","kind","room","heavy","dear","most","found","here","often"]) (O:=[6]) (body:=yT) F qX (by decide) λcdv A outer s H E B hr=>(qi (qhY (qe 1) (qco (n:=3) rfl (jJ (qK (i:=3) qX.nd) (jJ (qK (i:=4) qX.nd) (jJ (qK (i:=5) qX.nd) qan)))))
   (qi (wy (i:=6) qX.nd (qh6 qg))
   (qi (uJ ya2 rfl (zU rfl T.b_range (qc (qw qF qG (qe 2) qh) qg)) (qK (i:=7) qX.nd) (qi (zp (i:=8) qX.nd (qk8 (zS qfg qc7 (qe 5) yH (zg _)) (qw wf u8 (qe 7) (qe 3)) (qC (qae rfl) qap rfl T.b_min qfO (qc (qe 5) (qc (qw wf u8 (qe 7) (qe 3)) qg)))))
   (ql (uc (uQ (i:=6) (qC (qcx rfl) qbb rfl T.b_max qfN (qc (jT (fo:=none) rfl (zU rfl T.b_range (qc (qw qF qG (qe 8) qh) qg)) (cs ["row","kind","room","heavy","dear","most","found","here","often"] ["k","row","dear","here","heavy"] 1 [0,4,7,3] (qf zl)) (f0 [0,4,7,3] [6]) (λ_ _ _ _ _ _ _ _ _ _ _=>⟨(qK (i:=0) (nd ["k","row","dear","here","heavy"])),y0,(qw qF qG (jq zb qZ (qe 1) (qw qdG qby (qe 3) (qw jU zZ (qe 0) (qe 4)))) (qw jU zZ (qe 0) (qe 2)))⟩)) qg)))))))
   (ql (qJ (qfH (i:=6) rfl T.b_tuple yb))))))
theorem qb7:qE ["thing"] ["thing"] (qf jA):=⟨rfl,rfl,rfl,by decide +kernel,rfl,by decide +kernel,by decide +kernel⟩
theorem q23 (F:Fun K "_law_whole" "_law_whole" jA f fd) (m:mg "_law_whole"=some (.ref f)) (T:Txt K mg) (XTt:XT K mg RN TN) (hB:K.In base):Q23 P w K mg base:=by
 refine⟨f,fd,?_,m,F.kp,F.binds λ_ _ _ _ _ _ us hl=>match us,hl with | [_],_=>rfl⟩
 exact zF (N:=["thing"]) (O:=[]) (body:=u3) F qb7 (by decide) λcdv A outer s H E B hr=>(ql (qJ (qcn (vq qfD rfl T.b_isinstance rfl T.b_int qic (qe 0) qy) (qa0 (qhX (vq qdM rfl T.b_isinstance rfl T.b_bool qfQ (qe 0) qy))))))
theorem jN:qE ["thing","store","room","row","at","low"] ["thing","store","room"] (qf zc):=⟨rfl,rfl,rfl,by decide +kernel,rfl,by decide +kernel,by decide +kernel⟩
theorem q24 (F:Fun K "_law_due_for" "_law_due_for" zc f fd) (m:mg "_law_due_for"=some (.ref f)) (T:Txt K mg) (XTt:XT K mg RN TN) (hB:K.In base) (C__law_row_with:Q22 P w K mg base) (C__law_whole:Q23 P w K mg base):Q24 P w K mg base:=by
 refine⟨f,fd,?_,m,F.kp,F.binds λ_ _ _ _ _ _ us hl=>match us,hl with | [_,_,_],_=>rfl⟩
 exact zF (N:=["thing","store","room","row","at","low"]) (O:=[]) (body:=js) F jN (by decide) λcdv A outer s H E B hr=>(qi (jR (DW.dt (qbw (yY (yX (vq qdN rfl T.b_isinstance rfl T.b_list qdb (qe 0) qy))) (vN (zS (vt hr) ue (qC zh zt rfl T.b_len y8 (qc (qe 0) qg)) (qw qF qG (qC zh zt rfl T.b_len y8 (qc (qe 1) qg)) qh) (zg _))))) (ql (qJ yH)) qM)
   (qi (uJ ya2 rfl (uk (qe 0)) (qK (i:=3) jN.nd) (qi (jR (DW.dt (qbw (yY (yX (vq vO rfl T.b_isinstance rfl T.b_tuple yb (qe 3) qy))) (vN (zS (vt hr) ue (qC zh zt rfl T.b_len y8 (qc (qe 3) qg)) (qw qF qG (qe 2) qh) (zg _))))) (ql (qJ yH)) qM)
   (ql (jR (yY (yX (qC (vP rfl) uP rfl T.b_all qct (qc (jT (fo:=none) rfl (uk (qe 3)) (cs ["thing","store","room","row","at","low"] ["one"] 1 [] (qf zc)) (f0 [] []) (λ_ _ _ _ _ _ _ _ _ _ _=>⟨(qK (i:=0) (nd ["one"])),y0,(qcn (dC C__law_whole hr (qc (qe 0) qg)) (qa0 (qcm qiV qfz (qe 0) qh (zg _))))⟩)) qg)))) (ql (qJ yH)) qM))))
   (qi (uJ ya2 rfl (zU rfl T.b_range (qc (qC zh zt rfl T.b_len y8 (qc (qe 1) qg)) qg)) (qK (i:=4) jN.nd) (qi (zp (i:=5) jN.nd (dC C__law_row_with hr (qc (jq zb qZ (qe 0) (qe 4)) (qc (jq zb qZ (qe 1) (qe 4)) (qc (qe 2) qg)))))
   (ql (jR (zS (vt hr) ue (jT (fo:=none) rfl (zU rfl T.b_range (qc (qw qF qG (qe 2) qh) qg)) (cs ["thing","store","room","row","at","low"] ["k","low","thing","at"] 1 [5,0,4] (qf zc)) (f0 [5,0,4] []) (λ_ _ _ _ _ _ _ _ _ _ _=>⟨(qK (i:=0) (nd ["k","low","thing","at"])),(qlk (zS qiU qfy (jq zb qZ (jq zb qZ (qe 2) (qw qF qG (qe 3) qh)) (qe 0)) (jq zb qZ (qe 1) (qe 0)) (zg _))),(qe 0)⟩)) (jp qg) (zg _)) (ql (qJ yH)) qM))))
   (ql (qJ (jq zb qZ (jq zb qZ (qe 0) (y7 qh)) (qe 2)))))))
theorem j9:qE ["box","some"] ["box"] (qf zr):=⟨rfl,rfl,rfl,by decide +kernel,rfl,by decide +kernel,by decide +kernel⟩
theorem q25 (F:Fun K "_law_odd_thing" "_law_odd_thing" zr f fd) (m:mg "_law_odd_thing"=some (.ref f)) (T:Txt K mg) (XTt:XT K mg RN TN) (hB:K.In base) (C__law_take:Q20 P w K mg base):Q25 P w K mg base:=by
 refine⟨f,fd,?_,m,F.kp,F.binds λ_ _ _ _ _ _ us hl=>match us,hl with | [_],_=>rfl⟩
 show vi P w K mg base CX0 2 f fd ["box"] (qdQ K (vF (["box","some"]:List Str).length (["box"]:List Str).length jt))
 refine qfI (N:=["box","some"]) (ps:=["box"]) (k:=1) (O:=[0]) (body:=jt) F j9 ?a ?a0 ?b
 case a=>decide
 case a0=>decide
 intro cdv A outer s H E B Io S hr
 exact (qi (zp (i:=1) j9.nd (jp (qc yH (qc vm (qc vm (qc (y7 qh) (qc jx (qc jx (qc (zD (qc qh qg)) (qc (jp (qc qh qg)) (qc qho (qc (zD (qc (y7 qh) qg)) (qc (zD (qc vm qg)) (qc (zD (qc (zD (qc qh (qc qh qg))) qg)) (qc (zD (qc yH qg)) (qc (qw qkO qjv qh qh) qg))))))))))))))))
   (qi (zp (i:=1) j9.nd (qw qF qG (qe 1) (jp (qc (zD (qc qh (qc qh (qc qh qg)))) (qc (zD (qc (zD (qc qh (qc qh (qc qh qg)))) qg)) (qc (zD (qc (zD (qc qh (qc (y7 qh) (qc qh qg)))) qg)) (qc (zD (qc (zD (qc qh (qc qh (qc (y7 qh) qg)))) qg)) (qc (jp (qc (zD (qc qh (qc qh (qc qh qg)))) qg)) (qc qhn (qc jx (qc (zD (qc (zD (qc qh (qc qh (qc vm qg)))) qg)) qg)))))))))))
   (ql (qJ (jq zb qZ (qe 1) (iC (i:=0) C__law_take hr (qc qh qg)))))))
theorem zm:qE ["box","ends","way","heavy","dear","often"] ["box","ends"] (qf zW):=⟨rfl,rfl,rfl,by decide +kernel,rfl,by decide +kernel,by decide +kernel⟩
theorem q26 (F:Fun K "_law_kind_of" "_law_kind_of" zW f fd) (m:mg "_law_kind_of"=some (.ref f)) (T:Txt K mg) (XTt:XT K mg RN TN) (hB:K.In base) (C__law_take:Q20 P w K mg base):Q26 P w K mg base:=by
 refine⟨f,fd,?_,m,F.kp,F.binds λ_ _ _ _ _ _ us hl=>match us,hl with | [_,_],_=>rfl⟩
 show vi P w K mg base CX0 2 f fd ["box","ends"] (qdQ K (vF (["box","ends","way","heavy","dear","often"]:List Str).length (["box","ends"]:List Str).length yd))
 refine qfI (N:=["box","ends","way","heavy","dear","often"]) (ps:=["box","ends"]) (k:=1) (O:=[0]) (body:=yd) F zm ?a ?a0 ?b
 case a=>decide
 case a0=>decide
 intro cdv A outer s H E B Io S hr
 exact (qi (zp (i:=2) zm.nd (iC (i:=0) C__law_take hr (qc qh qg)))
   (qi (qib (i:=3) (j:=4) zm.nd (qc (qw qF qG qh (iC (i:=0) C__law_take hr (qc qh qg))) (qc (iC (i:=0) C__law_take hr (qc qh qg)) qg)) rfl)
   (qi (jR (zS (wR hr) uT (qe 2) qh (zg _)) (ql (zp (i:=4) zm.nd (qw jU zZ qh (qe 3)))) qM)
   (qi (jR (zS (wR hr) uT (qe 2) qh (zg _)) (ql (zp (i:=4) zm.nd (qw qF qG (qe 3) (iC (i:=0) C__law_take hr (qc qh qg))))) qM)
   (qi (jR (zS (wR hr) uT (qe 2) qh (zg _)) (ql (qib (i:=3) (j:=4) zm.nd (qc (qw qF qG qh (iC (i:=0) C__law_take hr (qc qh qg))) (qc (iC (i:=0) C__law_take hr (qc qh qg)) qg)) rfl)) qM)
   (qi (zp (i:=5) zm.nd (jq zb qZ (jp (qc qh (qc qh (qc qh (qc qh (qc qh (qc qh (qc qh (qc (qe 1) qg))))))))) (iC (i:=0) C__law_take hr (qc qh qg))))
   (ql (qJ (zD (qc (qe 3) (qc (qe 4) (qc (qe 5) qg))))))))))))
theorem je:qE ["box","most","ends","found","k","kind"] ["box","most","ends"] (qf zX):=⟨rfl,rfl,rfl,by decide +kernel,rfl,by decide +kernel,by decide +kernel⟩
theorem q27 (F:Fun K "_law_stocked" "_law_stocked" zX f fd) (m:mg "_law_stocked"=some (.ref f)) (T:Txt K mg) (XTt:XT K mg RN TN) (hB:K.In base) (C__law_take:Q20 P w K mg base) (C__law_kind_of:Q26 P w K mg base):Q27 P w K mg base:=by
 refine⟨f,fd,?_,m,F.kp,F.binds λ_ _ _ _ _ _ us hl=>match us,hl with | [_,_,_],_=>rfl⟩
 show vi P w K mg base CX0 3 f fd ["box","most","ends"] (qdQ K (vF (["box","most","ends","found","k","kind"]:List Str).length (["box","most","ends"]:List Str).length ye))
 refine qfI (N:=["box","most","ends","found","k","kind"]) (ps:=["box","most","ends"]) (k:=2) (O:=[0,3]) (body:=ye) F je ?a ?a0 ?b
 case a=>decide
 case a0=>decide
 intro cdv A outer s H E B Io S hr
 exact (qi (wy (i:=3) je.nd (qh6 qg))
   (qi (uJ ya2 rfl (zU rfl T.b_range (qc (iC (i:=0) C__law_take hr (qc (qw qF qG (qe 1) qh) qg)) qg)) (qK (i:=4) je.nd) (qi (zp (i:=5) je.nd (iC (i:=0) C__law_kind_of hr (qc (qe 2) qg)))
   (qi (jR (DW.dt (qk6 (qln (i:=3) hr (jp qg)) (qi8 (zS (wR hr) uT (iC (i:=0) C__law_take hr (qc qh qg)) qh (zg _))))) (ql (zp (i:=5) je.nd (qdP (i:=3) (iC (i:=0) C__law_take hr (qc (qjk (i:=3) rfl T.b_len) qg))))) qM)
   (ql (uc (uQ (i:=3) (qe 5)))))))
   (ql (qJ (qfH (i:=3) rfl T.b_tuple yb)))))
theorem uG:qE ["cell","k","some","stir"] ["cell","k"] (qf yD):=⟨rfl,rfl,rfl,by decide +kernel,rfl,by decide +kernel,by decide +kernel⟩
theorem q28 (F:Fun K "_law_mix" "_law_mix" yD f fd) (m:mg "_law_mix"=some (.ref f)) (T:Txt K mg) (XTt:XT K mg RN TN) (hB:K.In base):Q28 P w K mg base:=by
 refine⟨f,fd,?_,m,F.kp,F.binds λ_ _ _ _ _ _ us hl=>match us,hl with | [_,_],_=>rfl⟩
 exact zF (N:=["cell","k","some","stir"]) (O:=[]) (body:=wN) F uG (by decide) λcdv A outer s H E B hr=>(qi (zp (i:=2) uG.nd (jp (qc qh (qc qh (qc qh (qc qh (qc qh (qc qh (qc qh (qc qh (qc qh (qc qh (qc qh (qc qh (qc qh qg)))))))))))))))
   (qi (zp (i:=3) uG.nd (qw qF qG (qw qF qG (qw jU zZ (qw qF qG (qw qcb qao (qe 0) qh) qh) (jq zb qZ (qe 2) (qw qcb qao (qe 1) qh))) (qw jU zZ qh (qe 1))) (qw jU zZ qh (qw wf u8 (qe 1) qh))))
   (qi (zp (i:=3) uG.nd (qw qcb qao (qe 3) qh))
   (ql (qJ (qw wf u8 (qw qcb qao (qw qF qG (qw jU zZ (qe 3) (qe 3)) (qw jU zZ qh (qe 1))) qh) qh))))))
theorem qcU:qE ["script","k"] ["script","k"] (qf j7):=⟨rfl,rfl,rfl,by decide +kernel,rfl,by decide +kernel,by decide +kernel⟩
theorem q29 (F:Fun K "_law_cell" "_law_cell" j7 f fd) (m:mg "_law_cell"=some (.ref f)) (T:Txt K mg) (XTt:XT K mg RN TN) (hB:K.In base):Q29 P w K mg base:=by
 refine⟨f,fd,?_,m,F.kp,F.binds λ_ _ _ _ _ _ us hl=>match us,hl with | [_,_],_=>rfl⟩
 exact zF (N:=["script","k"]) (O:=[]) (body:=uD) F qcU (by decide) λcdv A outer s H E B hr=>(qi (jR (zS qiU qfy (qe 1) (qC zh zt rfl T.b_len y8 (qc (qe 0) qg)) (zg _)) (ql (qJ (jq zb qZ (qe 0) (qe 1)))) qM)
   (ql (qJ qh)))
theorem yU:qE ["script","k","cell","number","j"] ["script","k"] (qf yE):=⟨rfl,rfl,rfl,by decide +kernel,rfl,by decide +kernel,by decide +kernel⟩
theorem q30 (F:Fun K "_law_box" "_law_box" yE f fd) (m:mg "_law_box"=some (.ref f)) (T:Txt K mg) (XTt:XT K mg RN TN) (hB:K.In base) (C__law_mix:Q28 P w K mg base) (C__law_cell:Q29 P w K mg base):Q30 P w K mg base:=by
 refine⟨f,fd,?_,m,F.kp,F.binds λ_ _ _ _ _ _ us hl=>match us,hl with | [_,_],_=>rfl⟩
 exact zF (N:=["script","k","cell","number","j"]) (O:=[]) (body:=vg) F yU (by decide) λcdv A outer s H E B hr=>(qi (zp (i:=2) yU.nd (dC C__law_cell hr (qc (qe 0) (qc (qe 1) qg))))
   (qi (jR (zS (wR hr) uT (qw qcb qao (qe 2) qh) qh (zg _)) (ql (qJ (jp (qc (qw wf u8 (qC qg0 qfB rfl T.b_abs qlw (qc (qe 2) qg)) qh) qg)))) qM)
   (qi (zp (i:=3) yU.nd qh)
   (qi (uJ ya2 rfl (zU rfl T.b_range (qc qh qg)) (qK (i:=4) yU.nd) (ql (zp (i:=3) yU.nd (qw qF qG (qw jU zZ (qe 3) qh) (dC C__law_mix hr (qc (qe 2) (qc (qe 4) qg)))))))
   (ql (qJ (jp (qc (qe 3) qg))))))))
theorem yV:qE ["script","k","box","store","room","odd","paper","kind","lap","found","thing","held","due"] ["script"] (qf qaH):=⟨rfl,rfl,rfl,by decide +kernel,rfl,by decide +kernel,by decide +kernel⟩
theorem qmg (F:Fun K "law" "law" qaH f fd) (T:Txt K mg) (XTt:XT K mg RN TN) (hB:K.In base) (C__law_said:Q19 P w K mg base) (C__law_bent:Q21 P w K mg base) (C__law_due_for:Q24 P w K mg base) (C_table_bound:Q18 P w K mg base) (C__law_row_with:Q22 P w K mg base) (C__law_odd_thing:Q25 P w K mg base) (C__law_take:Q20 P w K mg base) (C__law_stocked:Q27 P w K mg base) (C__law_box:Q30 P w K mg base):vi P w K mg base CX0 9 f fd ["script"] (spD K qds):=by
 exact zF (N:=["script","k","box","store","room","odd","paper","kind","lap","found","thing","held","due"]) (O:=[2]) (body:=qkc) F yV (by decide) λcdv A outer s H E B hr=>(qi (uJ ya2 rfl (zU rfl T.b_range (qc (qC (qfj rfl) qfC rfl T.b_max qfN (qc qh (qc (qC (qae rfl) qap rfl T.b_min qfO (qc (qC zh zt rfl T.b_len y8 (qc (qe 0) qg)) (qc qh qg))) qg))) qg)) (qK (i:=1) yV.nd) (qi (wy (i:=2) yV.nd (nC C__law_box hr (qc (qe 0) (qc (qe 1) qg))))
   (qi (zp (i:=3) yV.nd (iC (i:=2) C__law_stocked hr (qc qh (qc yH qg))))
   (qi (zp (i:=4) yV.nd (iC (i:=2) C__law_take hr (qc qh qg)))
   (qi (zp (i:=5) yV.nd (iC (i:=2) C__law_odd_thing hr qg))
   (qgm (i:=6) (wy (i:=6) yV.nd (qgi (qc (qw qgs qec (zD (qc qh qg)) (qw qF qG (qe 4) qh)) qg)))
   (uJ ya2 rfl (uk (qe 3)) (qK (i:=7) yV.nd) (ql (uc (uQ (i:=6) (dC C__law_row_with hr (qc (qdP (i:=6) (y7 qh)) (qc (qe 7) (qc (qe 4) qg))))))))
   (qi (qlL (i:=9) (uJ ya2 rfl (zU rfl T.b_range (qc qh qg)) (qK (i:=8) yV.nd) (qi (wy (i:=9) yV.nd (nC C__law_said hr (qc qh (qc (qe 3) (qc (qe 4) qg)))))
   (qi (jR (zS (vt hr) ue (qjP (i:=9) (qC (yA hr) jV rfl T.b_repr wA (qc (qe 9) qg))) (qC (yA hr) jV rfl T.b_repr wA (qc (qe 6) qg)) (zg _)) (ql (qJ vm)) qM)
   (ql (uc (uQ (i:=9) (zD qg))))))))
   (qi (uJ ya2 rfl (uk (qw qF qG (jp (qc (qe 6) (qc (qe 5) (qc (jp qg) (qc (qgk (qe 6)) qg))))) (jT (fo:=(some (1,2))) rfl (zU rfl T.b_range (qc qh qg)) (cs ["script","k","box","store","room","odd","paper","kind","lap","found","thing","held","due"] ["lap","box","paper","odd"] 1 [2,6,5] (qf qaH)) (f1 1 [2,6,5] [2] 1 2) (λ_ _ _ _ _ _ _ _ _ _ _=>⟨(qK (i:=0) (nd ["lap","box","paper","odd"])),y0,(iC (i:=1) C__law_bent hr (qc (qe 2) (qc (qe 3) qg)))⟩)))) (qK (i:=10) yV.nd) (qi (zp (i:=11) yV.nd (qC (yA hr) jV rfl T.b_repr wA (qc (qe 10) qg)))
   (qi (zp (i:=9) yV.nd (pC C_table_bound hr (qc (qe 10) (qc (qe 3) (qc (qe 4) qg)))))
   (ql (jR (DW.dt (qbw (zS (vt hr) ue (qC (yA hr) jV rfl T.b_repr wA (qc (qe 9) qg)) (qC (yA hr) jV rfl T.b_repr wA (qc (dC C__law_due_for hr (qc (qe 10) (qc (qe 3) (qc (qe 4) qg)))) qg)) (zg _)) (vN (zS (vt hr) ue (qC (yA hr) jV rfl T.b_repr wA (qc (qe 10) qg)) (qe 11) (zg _))))) (ql (qJ vm)) qM)))))
   (ql (uJ ya2 rfl (uk (jp (qc (zD (qc (y7 qh) (qc jx qg))) (qc (zD (qc yH (qc jx qg))) (qc (zD (qc vm (qc jx qg))) (qc (zD (qc jx (qc jx qg))) (qc (zD (qc qh (qc jx qg))) qg))))))) (qco (n:=2) rfl (jJ (qK (i:=10) yV.nd) (jJ (qK (i:=12) yV.nd) qan))) (ql (jR (zS (vt hr) ue (jT (fo:=none) rfl (zU rfl T.b_range (qc qh qg)) (cs ["script","k","box","store","room","odd","paper","kind","lap","found","thing","held","due"] ["sort","store","thing"] 1 [3,10] (qf qaH)) (f0 [3,10] [2]) (λ_ _ _ _ _ _ _ _ _ _ _=>⟨(qK (i:=0) (nd ["sort","store","thing"])),y0,(dC C__law_said hr (qc (qe 0) (qc (qe 1) (qc (qe 2) qg))))⟩)) (qw jU zZ (jp (qc (qe 12) qg)) qh) (zg _)) (ql (qJ vm)) qM))))))))))))
   (ql (qJ vm)))
end
theorem all_mk {l:yef} {w:World} {K:yai} {h:Heap} {mg:Str->Option Value} {fa f0 f1 f2 f3 f4 f5 f6 f7 f8 f9 f10 f11 f12 f13 f14 f15 f16 f17 f18 f19 f20 f21 f22 f23 f24 f25 f26 f27 f28 f29 f30 f31:Addr} (X:K.In h) (G:h.Ns yag mg) (hfa:mg "law"=some (.ref fa))
  {od0 an0 od1 an1 od2 an2 od3 an3 od4 an4 od5 an5 od6 an6 od7 an7 od8 an8 od9 an9 od10 an10 od11 an11 od12 an12 od13 an13 od14 an14 od15 an15 od16 an16 od17 an17 od18 an18 od19 an19 od20 an20 od21 an21 od22 an22 od23 an23 od24 an24 od25 an25 od26 an26 od27 an27 od28 an28 od29 an29 od30 an30 od31 an31:Option Addr} {sl0 sl1 sl2 sl3 sl4 sl5 sl6 sl7 sl8 sl9 sl10 sl11 sl12 sl13 sl14 sl15 sl16 sl17 sl18 sl19 sl20 sl21 sl22 sl23 sl24 sl25 sl26 sl27 sl28 sl29 sl30 sl31:Array (Option Value)} {oc0 kV0 dc0 pm0 cd0 ct0 oc1 kV1 dc1 pm1 cd1 ct1 oc2 kV2 dc2 pm2 cd2 ct2 oc3 kV3 dc3 pm3 cd3 ct3 oc4 kV4 dc4 pm4 cd4 ct4 oc5 kV5 dc5 pm5 cd5 ct5 oc6 kV6 dc6 pm6 cd6 ct6 oc7 kV7 dc7 pm7 cd7 ct7 oc8 kV8 dc8 pm8 cd8 ct8 oc9 kV9 dc9 pm9 cd9 ct9 oc10 kV10 dc10 pm10 cd10 ct10 oc11 kV11 dc11 pm11 cd11 ct11 oc12 kV12 dc12 pm12 cd12 ct12 oc13 kV13 dc13 pm13 cd13 ct13 oc14 kV14 dc14 pm14 cd14 ct14 oc15 kV15 dc15 pm15 cd15 ct15 oc16 kV16 dc16 pm16 cd16 ct16 oc17 kV17 dc17 pm17 cd17 ct17 oc18 kV18 dc18 pm18 cd18 ct18 oc19 kV19 dc19 pm19 cd19 ct19 oc20 kV20 dc20 pm20 cd20 ct20 oc21 kV21 dc21 pm21 cd21 ct21 oc22 kV22 dc22 pm22 cd22 ct22 oc23 kV23 dc23 pm23 cd23 ct23 oc24 kV24 dc24 pm24 cd24 ct24 oc25 kV25 dc25 pm25 cd25 ct25 oc26 kV26 dc26 pm26 cd26 ct26 oc27 kV27 dc27 pm27 cd27 ct27 oc28 kV28 dc28 pm28 cd28 ct28 oc29 kV29 dc29 pm29 cd29 ct29 oc30 kV30 dc30 pm30 cd30 ct30 oc31 kV31 dc31 pm31 cd31 ct31:Value} {tk_ASKED_AT_MOST:Tok} {tk_KINDS_AT_MOST:Tok} {tk_MOST:Tok} {tk_WEIGHT:Tok} {tk_WORTH:Tok}
  (a0:yak K yag "_law_marks"=some (some (.ref f0))) (l0:K.lookup f0=some ⟨oc0,od0,.func (yas "_law_marks" "_law_marks" (qI z9) (qB z9) (qf z9) .none kV0 dc0 pm0 an0 cd0 ct0),sl0⟩) (c0:yaq K cd0 "_law_marks"=true) (k0:yaj K (.ref f0)=true)
  (a1:yak K yag "most_within"=some (some (.ref f1))) (l1:K.lookup f1=some ⟨oc1,od1,.func (yas "most_within" "most_within" (qI jg) (qB jg) (qf jg) .none kV1 dc1 pm1 an1 cd1 ct1),sl1⟩) (c1:yaq K cd1 "most_within"=true) (k1:yaj K (.ref f1)=true)
  (a2:yak K yag "room_left"=some (some (.ref f2))) (l2:K.lookup f2=some ⟨oc2,od2,.func (yas "room_left" "room_left" (qI jW) (qB jW) (qf jW) .none kV2 dc2 pm2 an2 cd2 ct2),sl2⟩) (c2:yaq K cd2 "room_left"=true) (k2:yaj K (.ref f2)=true)
  (a3:yak K yag "worth_with"=some (some (.ref f3))) (l3:K.lookup f3=some ⟨oc3,od3,.func (yas "worth_with" "worth_with" (qI jz) (qB jz) (qf jz) .none kV3 dc3 pm3 an3 cd3 ct3),sl3⟩) (c3:yaq K cd3 "worth_with"=true) (k3:yaj K (.ref f3)=true)
  (a4:yak K yag "best_with"=some (some (.ref f4))) (l4:K.lookup f4=some ⟨oc4,od4,.func (yas "best_with" "best_with" (qI jv) (qB jv) (qf jv) .none kV4 dc4 pm4 an4 cd4 ct4),sl4⟩) (c4:yaq K cd4 "best_with"=true) (k4:yaj K (.ref f4)=true)
  (a5:yak K yag "next_row"=some (some (.ref f5))) (l5:K.lookup f5=some ⟨oc5,od5,.func (yas "next_row" "next_row" (qI jX) (qB jX) (qf jX) .none kV5 dc5 pm5 an5 cd5 ct5),sl5⟩) (c5:yaq K cd5 "next_row"=true) (k5:yaj K (.ref f5)=true)
  (a6:yak K yag "need_few"=some (some (.ref f6))) (l6:K.lookup f6=some ⟨oc6,od6,.func (yas "need_few" "need_few" (qI jY) (qB jY) (qf jY) .none kV6 dc6 pm6 an6 cd6 ct6),sl6⟩) (c6:yaq K cd6 "need_few"=true) (k6:yaj K (.ref f6)=true)
  (a7:yak K yag "is_whole"=some (some (.ref f7))) (l7:K.lookup f7=some ⟨oc7,od7,.func (yas "is_whole" "is_whole" (qI yB) (qB yB) (qf yB) .none kV7 dc7 pm7 an7 cd7 ct7),sl7⟩) (c7:yaq K cd7 "is_whole"=true) (k7:yaj K (.ref f7)=true)
  (a8:yak K yag "is_count"=some (some (.ref f8))) (l8:K.lookup f8=some ⟨oc8,od8,.func (yas "is_count" "is_count" (qI yC) (qB yC) (qf yC) .none kV8 dc8 pm8 an8 cd8 ct8),sl8⟩) (c8:yaq K cd8 "is_count"=true) (k8:yaj K (.ref f8)=true)
  (a9:yak K yag "need_count"=some (some (.ref f9))) (l9:K.lookup f9=some ⟨oc9,od9,.func (yas "need_count" "need_count" (qI ja) (qB ja) (qf ja) .none kV9 dc9 pm9 an9 cd9 ct9),sl9⟩) (c9:yaq K cd9 "need_count"=true) (k9:yaj K (.ref f9)=true)
  (a10:yak K yag "is_kind"=some (some (.ref f10))) (l10:K.lookup f10=some ⟨oc10,od10,.func (yas "is_kind" "is_kind" (qI uq) (qB uq) (qf uq) .none kV10 dc10 pm10 an10 cd10 ct10),sl10⟩) (c10:yaq K cd10 "is_kind"=true) (k10:yaj K (.ref f10)=true)
  (a11:yak K yag "is_store"=some (some (.ref f11))) (l11:K.lookup f11=some ⟨oc11,od11,.func (yas "is_store" "is_store" (qI jZ) (qB jZ) (qf jZ) .none kV11 dc11 pm11 an11 cd11 ct11),sl11⟩) (c11:yaq K cd11 "is_store"=true) (k11:yaj K (.ref f11)=true)
  (a12:yak K yag "need_store"=some (some (.ref f12))) (l12:K.lookup f12=some ⟨oc12,od12,.func (yas "need_store" "need_store" (qI jb) (qB jb) (qf jb) .none kV12 dc12 pm12 an12 cd12 ct12),sl12⟩) (c12:yaq K cd12 "need_store"=true) (k12:yaj K (.ref f12)=true)
  (a13:yak K yag "need_asked"=some (some (.ref f13))) (l13:K.lookup f13=some ⟨oc13,od13,.func (yas "need_asked" "need_asked" (qI jc) (qB jc) (qf jc) .none kV13 dc13 pm13 an13 cd13 ct13),sl13⟩) (c13:yaq K cd13 "need_asked"=true) (k13:yaj K (.ref f13)=true)
  (a14:yak K yag "table_paper"=some (some (.ref f14))) (l14:K.lookup f14=some ⟨oc14,od14,.func (yas "table_paper" "table_paper" (qI zN) (qB zN) (qf zN) .none kV14 dc14 pm14 an14 cd14 ct14),sl14⟩) (c14:yaq K cd14 "table_paper"=true) (k14:yaj K (.ref f14)=true)
  (a15:yak K yag "is_no_less"=some (some (.ref f15))) (l15:K.lookup f15=some ⟨oc15,od15,.func (yas "is_no_less" "is_no_less" (qI jd) (qB jd) (qf jd) .none kV15 dc15 pm15 an15 cd15 ct15),sl15⟩) (c15:yaq K cd15 "is_no_less"=true) (k15:yaj K (.ref f15)=true)
  (a16:yak K yag "is_row"=some (some (.ref f16))) (l16:K.lookup f16=some ⟨oc16,od16,.func (yas "is_row" "is_row" (qI uA) (qB uA) (qf uA) .none kV16 dc16 pm16 an16 cd16 ct16),sl16⟩) (c16:yaq K cd16 "is_row"=true) (k16:yaj K (.ref f16)=true)
  (a17:yak K yag "is_rows"=some (some (.ref f17))) (l17:K.lookup f17=some ⟨oc17,od17,.func (yas "is_rows" "is_rows" (qI yP) (qB yP) (qf yP) .none kV17 dc17 pm17 an17 cd17 ct17),sl17⟩) (c17:yaq K cd17 "is_rows"=true) (k17:yaj K (.ref f17)=true)
  (a18:yak K yag "table_bound"=some (some (.ref f18))) (l18:K.lookup f18=some ⟨oc18,od18,.func (yas "table_bound" "table_bound" (qI zP) (qB zP) (qf zP) .none kV18 dc18 pm18 an18 cd18 ct18),sl18⟩) (c18:yaq K cd18 "table_bound"=true) (k18:yaj K (.ref f18)=true)
  (a19:yak K yag "_law_said"=some (some (.ref f19))) (l19:K.lookup f19=some ⟨oc19,od19,.func (yas "_law_said" "_law_said" (qI j4) (qB j4) (qf j4) .none kV19 dc19 pm19 an19 cd19 ct19),sl19⟩) (c19:yaq K cd19 "_law_said"=true) (k19:yaj K (.ref f19)=true)
  (a20:yak K yag "_law_take"=some (some (.ref f20))) (l20:K.lookup f20=some ⟨oc20,od20,.func (yas "_law_take" "_law_take" (qI j6) (qB j6) (qf j6) .none kV20 dc20 pm20 an20 cd20 ct20),sl20⟩) (c20:yaq K cd20 "_law_take"=true) (k20:yaj K (.ref f20)=true)
  (a21:yak K yag "_law_bent"=some (some (.ref f21))) (l21:K.lookup f21=some ⟨oc21,od21,.func (yas "_law_bent" "_law_bent" (qI zk) (qB zk) (qf zk) .none kV21 dc21 pm21 an21 cd21 ct21),sl21⟩) (c21:yaq K cd21 "_law_bent"=true) (k21:yaj K (.ref f21)=true)
  (a22:yak K yag "_law_row_with"=some (some (.ref f22))) (l22:K.lookup f22=some ⟨oc22,od22,.func (yas "_law_row_with" "_law_row_with" (qI zl) (qB zl) (qf zl) .none kV22 dc22 pm22 an22 cd22 ct22),sl22⟩) (c22:yaq K cd22 "_law_row_with"=true) (k22:yaj K (.ref f22)=true)
  (a23:yak K yag "_law_whole"=some (some (.ref f23))) (l23:K.lookup f23=some ⟨oc23,od23,.func (yas "_law_whole" "_law_whole" (qI jA) (qB jA) (qf jA) .none kV23 dc23 pm23 an23 cd23 ct23),sl23⟩) (c23:yaq K cd23 "_law_whole"=true) (k23:yaj K (.ref f23)=true)
  (a24:yak K yag "_law_due_for"=some (some (.ref f24))) (l24:K.lookup f24=some ⟨oc24,od24,.func (yas "_law_due_for" "_law_due_for" (qI zc) (qB zc) (qf zc) .none kV24 dc24 pm24 an24 cd24 ct24),sl24⟩) (c24:yaq K cd24 "_law_due_for"=true) (k24:yaj K (.ref f24)=true)
  (a25:yak K yag "_law_odd_thing"=some (some (.ref f25))) (l25:K.lookup f25=some ⟨oc25,od25,.func (yas "_law_odd_thing" "_law_odd_thing" (qI zr) (qB zr) (qf zr) .none kV25 dc25 pm25 an25 cd25 ct25),sl25⟩) (c25:yaq K cd25 "_law_odd_thing"=true) (k25:yaj K (.ref f25)=true)
  (a26:yak K yag "_law_kind_of"=some (some (.ref f26))) (l26:K.lookup f26=some ⟨oc26,od26,.func (yas "_law_kind_of" "_law_kind_of" (qI zW) (qB zW) (qf zW) .none kV26 dc26 pm26 an26 cd26 ct26),sl26⟩) (c26:yaq K cd26 "_law_kind_of"=true) (k26:yaj K (.ref f26)=true)
  (a27:yak K yag "_law_stocked"=some (some (.ref f27))) (l27:K.lookup f27=some ⟨oc27,od27,.func (yas "_law_stocked" "_law_stocked" (qI zX) (qB zX) (qf zX) .none kV27 dc27 pm27 an27 cd27 ct27),sl27⟩) (c27:yaq K cd27 "_law_stocked"=true) (k27:yaj K (.ref f27)=true)
  (a28:yak K yag "_law_mix"=some (some (.ref f28))) (l28:K.lookup f28=some ⟨oc28,od28,.func (yas "_law_mix" "_law_mix" (qI yD) (qB yD) (qf yD) .none kV28 dc28 pm28 an28 cd28 ct28),sl28⟩) (c28:yaq K cd28 "_law_mix"=true) (k28:yaj K (.ref f28)=true)
  (a29:yak K yag "_law_cell"=some (some (.ref f29))) (l29:K.lookup f29=some ⟨oc29,od29,.func (yas "_law_cell" "_law_cell" (qI j7) (qB j7) (qf j7) .none kV29 dc29 pm29 an29 cd29 ct29),sl29⟩) (c29:yaq K cd29 "_law_cell"=true) (k29:yaj K (.ref f29)=true)
  (a30:yak K yag "_law_box"=some (some (.ref f30))) (l30:K.lookup f30=some ⟨oc30,od30,.func (yas "_law_box" "_law_box" (qI yE) (qB yE) (qf yE) .none kV30 dc30 pm30 an30 cd30 ct30),sl30⟩) (c30:yaq K cd30 "_law_box"=true) (k30:yaj K (.ref f30)=true)
  (a31:yak K yag "law"=some (some (.ref f31))) (l31:K.lookup f31=some ⟨oc31,od31,.func (yas "law" "law" (qI qaH) (qB qaH) (qf qaH) .none kV31 dc31 pm31 an31 cd31 ct31),sl31⟩) (c31:yaq K cd31 "law"=true) (k31:yaj K (.ref f31)=true)
  (zb_ValueError:yak K yag "ValueError"=some none)
  (zb_abs:yak K yag "abs"=some none)
  (zb_all:yak K yag "all"=some none)
  (zb_bool:yak K yag "bool"=some none)
  (zb_divmod:yak K yag "divmod"=some none)
  (zb_enumerate:yak K yag "enumerate"=some none)
  (zb_int:yak K yag "int"=some none)
  (zb_isinstance:yak K yag "isinstance"=some none)
  (zb_len:yak K yag "len"=some none)
  (zb_list:yak K yag "list"=some none)
  (zb_max:yak K yag "max"=some none)
  (zb_min:yak K yag "min"=some none)
  (zb_range:yak K yag "range"=some none)
  (zb_repr:yak K yag "repr"=some none)
  (zb_tuple:yak K yag "tuple"=some none)
  (zb_zip:yak K yag "zip"=some none)
  (xz:qmW K RN TN=true)
  (zg_ASKED_AT_MOST:yak K yag "ASKED_AT_MOST"=some (some (.int 200 tk_ASKED_AT_MOST)))
  (zg_KINDS_AT_MOST:yak K yag "KINDS_AT_MOST"=some (some (.int 12 tk_KINDS_AT_MOST)))
  (zg_MOST:yak K yag "MOST"=some (some (.int 2 tk_MOST)))
  (zg_WEIGHT:yak K yag "WEIGHT"=some (some (.int 0 tk_WEIGHT)))
  (zg_WORTH:yak K yag "WORTH"=some (some (.int 1 tk_WORTH))) :
  ∃fd:yaM,(∀(s:yab)(v:Value),ydN s fd ⟨[v],[]⟩ [("script",v)])/\∀base:Heap,K.In base->base.Ns yag mg->vi l.prog w K mg base CX0 9 fa fd ["script"] (spD K qds):=by
 have e:=hfa.symm.trans (yar X G a31)
 cases e
 have T:Txt K mg:=⟨yaD X G zb_ValueError,yaD X G zb_abs,yaD X G zb_all,yaD X G zb_bool,yaD X G zb_divmod,yaD X G zb_enumerate,yaD X G zb_int,yaD X G zb_isinstance,yaD X G zb_len,yaD X G zb_list,yaD X G zb_max,yaD X G zb_min,yaD X G zb_range,yaD X G zb_repr,yaD X G zb_tuple,yaD X G zb_zip,⟨_,yar X G zg_ASKED_AT_MOST⟩,⟨_,yar X G zg_KINDS_AT_MOST⟩,⟨_,yar X G zg_MOST⟩,⟨_,yar X G zg_WEIGHT⟩,⟨_,yar X G zg_WORTH⟩⟩
 refine⟨yas "law" "law" (qI qaH) (qB qaH) (qf qaH) .none kV31 dc31 pm31 an31 cd31 ct31,λs v => .of_eq rfl,λbase hB _=>?_⟩
 have XTt:XT K mg RN TN:=⟨xz,qhC X G⟩
 have C__law_marks:=q0 (P:=l.prog) (w:=w) (base:=base) (qY (st:=z9) l0 c0 k0) (yar X G a0) T XTt hB
 have C_most_within:=q1 (P:=l.prog) (w:=w) (base:=base) (qY (st:=jg) l1 c1 k1) (yar X G a1) T XTt hB
 have C_room_left:=q2 (P:=l.prog) (w:=w) (base:=base) (qY (st:=jW) l2 c2 k2) (yar X G a2) T XTt hB
 have C_worth_with:=q3 (P:=l.prog) (w:=w) (base:=base) (qY (st:=jz) l3 c3 k3) (yar X G a3) T XTt hB C_room_left
 have C_best_with:=q4 (P:=l.prog) (w:=w) (base:=base) (qY (st:=jv) l4 c4 k4) (yar X G a4) T XTt hB C_most_within C_worth_with
 have C_next_row:=q5 (P:=l.prog) (w:=w) (base:=base) (qY (st:=jX) l5 c5 k5) (yar X G a5) T XTt hB C_best_with
 have C_need_few:=q6 (P:=l.prog) (w:=w) (base:=base) (qY (st:=jY) l6 c6 k6) (yar X G a6) T XTt hB
 have C_is_whole:=q7 (P:=l.prog) (w:=w) (base:=base) (qY (st:=yB) l7 c7 k7) (yar X G a7) T XTt hB
 have C_is_count:=q8 (P:=l.prog) (w:=w) (base:=base) (qY (st:=yC) l8 c8 k8) (yar X G a8) T XTt hB C_is_whole
 have C_need_count:=q9 (P:=l.prog) (w:=w) (base:=base) (qY (st:=ja) l9 c9 k9) (yar X G a9) T XTt hB C_is_count
 have C_is_kind:=q10 (P:=l.prog) (w:=w) (base:=base) (qY (st:=uq) l10 c10 k10) (yar X G a10) T XTt hB C_is_count
 have C_is_store:=q11 (P:=l.prog) (w:=w) (base:=base) (qY (st:=jZ) l11 c11 k11) (yar X G a11) T XTt hB C_is_kind
 have C_need_store:=q12 (P:=l.prog) (w:=w) (base:=base) (qY (st:=jb) l12 c12 k12) (yar X G a12) T XTt hB C_is_store
 have C_need_asked:=q13 (P:=l.prog) (w:=w) (base:=base) (qY (st:=jc) l13 c13 k13) (yar X G a13) T XTt hB C_need_few C_need_count C_need_store
 have C_table_paper:=q14 (P:=l.prog) (w:=w) (base:=base) (qY (st:=zN) l14 c14 k14) (yar X G a14) T XTt hB C_next_row C_need_asked
 have C_is_no_less:=q15 (P:=l.prog) (w:=w) (base:=base) (qY (st:=jd) l15 c15 k15) (yar X G a15) T XTt hB
 have C_is_row:=q16 (P:=l.prog) (w:=w) (base:=base) (qY (st:=uA) l16 c16 k16) (yar X G a16) T XTt hB C_is_count
 have C_is_rows:=q17 (P:=l.prog) (w:=w) (base:=base) (qY (st:=yP) l17 c17 k17) (yar X G a17) T XTt hB C_is_row
 have C_table_bound:=q18 (P:=l.prog) (w:=w) (base:=base) (qY (st:=zP) l18 c18 k18) (yar X G a18) T XTt hB C_is_no_less C_next_row C_is_rows C_need_asked
 have C__law_said:=q19 (P:=l.prog) (w:=w) (base:=base) (qY (st:=j4) l19 c19 k19) (yar X G a19) T XTt hB C__law_marks C_table_paper C_table_bound
 have C__law_take:=q20 (P:=l.prog) (w:=w) (base:=base) (qY (st:=j6) l20 c20 k20) (yar X G a20) T XTt hB
 have C__law_bent:=q21 (P:=l.prog) (w:=w) (base:=base) (qY (st:=zk) l21 c21 k21) (yar X G a21) T XTt hB C__law_take
 have C__law_row_with:=q22 (P:=l.prog) (w:=w) (base:=base) (qY (st:=zl) l22 c22 k22) (yar X G a22) T XTt hB
 have C__law_whole:=q23 (P:=l.prog) (w:=w) (base:=base) (qY (st:=jA) l23 c23 k23) (yar X G a23) T XTt hB
 have C__law_due_for:=q24 (P:=l.prog) (w:=w) (base:=base) (qY (st:=zc) l24 c24 k24) (yar X G a24) T XTt hB C__law_row_with C__law_whole
 have C__law_odd_thing:=q25 (P:=l.prog) (w:=w) (base:=base) (qY (st:=zr) l25 c25 k25) (yar X G a25) T XTt hB C__law_take
 have C__law_kind_of:=q26 (P:=l.prog) (w:=w) (base:=base) (qY (st:=zW) l26 c26 k26) (yar X G a26) T XTt hB C__law_take
 have C__law_stocked:=q27 (P:=l.prog) (w:=w) (base:=base) (qY (st:=zX) l27 c27 k27) (yar X G a27) T XTt hB C__law_take C__law_kind_of
 have C__law_mix:=q28 (P:=l.prog) (w:=w) (base:=base) (qY (st:=yD) l28 c28 k28) (yar X G a28) T XTt hB
 have C__law_cell:=q29 (P:=l.prog) (w:=w) (base:=base) (qY (st:=j7) l29 c29 k29) (yar X G a29) T XTt hB
 have C__law_box:=q30 (P:=l.prog) (w:=w) (base:=base) (qY (st:=yE) l30 c30 k30) (yar X G a30) T XTt hB C__law_mix C__law_cell
 exact qmg (P:=l.prog) (w:=w) (base:=base) (qY (st:=qaH) l31 c31 k31) T XTt hB C__law_said C__law_bent C__law_due_for C_table_bound C__law_row_with C__law_odd_thing C__law_take C__law_stocked C__law_box
theorem qng {K:Fr0} {H:Hp} {a:Addr} {ns:List Int} (hO:qmh H) (hS:SqL K H a (ns.map V.int)):qk5 K H a (ns.map V.int):=by
 rcases hS with(h|h)|h
 ·rcases hO a with z|z
  ·rw[h]at z;cases z
  ·rcases z with⟨_,_,z⟩|⟨_,_,z⟩<;>(rw[h]at z;cases z)
 ·exact .inl h
 ·exact .inr h
theorem walk {l:yef} {q:yao} {loose:List Str} {XP:(Str->Option Value)->Heap->Prop} {YP:World->Heap->Prop} {d:DefRec} {K:Params->yai} (hn:l.most=some 63) (hdf:d.params.defaults=[])
  (hY:∀(w:World)(h:Heap),YP w h->(K w.params).In h) (hlm:∀(w:World)(mean:ExcName->Option Value)(mg mb:Str->Option Value)(h:Heap)(c Pt:Addr)(pos:Pos),Top q (PySem.W.looseW q loose) mean mg mb h->(K w.params).In h->lamOf (K w.params)=some (c,Pt,pos)->yey h c Pt/\h.get? Pt=some (yez #[])/\(K w.params).lookup Pt=none) (hlaw:∀ns:List Int,ns.length<=63->qds [.fz ns]=.ok (.bl true))
  (F:∀(w:World)(mg:Str->Option Value)(fa:Addr)(h:Heap),(K w.params).In h->h.Ns yag mg->mg d.name=some (.ref fa) ->
   ∃fd:yaM,(∀(s:yab)(u:Value),ydN s fd ⟨[u],[]⟩ [("script",u)])/\∀base:Heap,(K w.params).In base->base.Ns yag mg->vi l.prog w (K w.params) mg base CX0 9 fa fd ["script"] (spD (K w.params) qds)) :
  PySem.W.WalkO q loose XP YP l.row.toRowW d [] (λf vs=>yfJ f vs) :=
 L2.walk_lam (n:=63) (k:=9) (x:="script") (CX:=λ_=>CX0) (sp:=λw=>spD (K w.params) qds) (lm:=λw=>(lamOf (K w.params)).map λz=>(z.1,z.2.1,z.2.2,qmQ)) hn (by decide) hdf ⟨rfl,by decide,by decide,rfl⟩ hY (λw mean mg mb h c Pt pos z T X e=>by
  cases el:lamOf (K w.params) with
  |none=>rw[el]at e;cases e
  |some p=>obtain⟨c',P',pos'⟩:=p;rw[el]at e;cases e;exact hlm w mean mg mb h _ _ _ T X el) F (λw H a ns hl hO hT hS=>by
  refine⟨[.fz ns],λ_=>False,⟨.ref a,[],rfl,⟨a,rfl,qng hO hS⟩,rfl⟩,λc P pos e=>⟨hT c P pos qmQ (by rw[e];rfl),λz=>z⟩,?_⟩
  rw[hlaw ns hl]
  exact λv H' _ h=>h) λ_ _ _ _ _ z=>z
end Law
end L2.Sk
open PySem PySem.W PyProof.Rows
set_option maxRecDepth 100000 in
set_option maxHeartbeats 0 in
theorem PySem.Challenge.cw_sackloads_k31_table_papers_holds : PySem.Challenge.rw_sackloads_k31_table_papers.Holds := by
 w_on;o_law;k_head;(case hw=>w_witness2)
 k_fill
 refine L2.Sk.Law.walk (l:=PySem.Challenge.rw_sackloads_k31_table_papers) rfl rfl (λw h Y=>by first|exact PySem.W.kIn_of Y|exact PySem.W.km_in_of Y) ?hlm0 L2.Sk.Law.law_true ?F
 case hlm0=>
  intro w mean mg mb h c Pt pos T X e
  exact absurd ((show L2.Sk.lamOf _=none by kernel_rfl).symm.trans e) (by simp)
 case F=>
  intro w mg fa h KX G hmg
  refine' L2.Sk.Law.all_mk KX G hmg ?a0 ?l0 ?c0 ?k0 ?a1 ?l1 ?c1 ?k1 ?a2 ?l2 ?c2 ?k2 ?a3 ?l3 ?c3 ?k3 ?a4 ?l4 ?c4 ?k4 ?a5 ?l5 ?c5 ?k5 ?a6 ?l6 ?c6 ?k6 ?a7 ?l7 ?c7 ?k7 ?a8 ?l8 ?c8 ?k8 ?a9 ?l9 ?c9 ?k9 ?a10 ?l10 ?c10 ?k10 ?a11 ?l11 ?c11 ?k11 ?a12 ?l12 ?c12 ?k12 ?a13 ?l13 ?c13 ?k13 ?a14 ?l14 ?c14 ?k14 ?a15 ?l15 ?c15 ?k15 ?a16 ?l16 ?c16 ?k16 ?a17 ?l17 ?c17 ?k17 ?a18 ?l18 ?c18 ?k18 ?a19 ?l19 ?c19 ?k19 ?a20 ?l20 ?c20 ?k20 ?a21 ?l21 ?c21 ?k21 ?a22 ?l22 ?c22 ?k22 ?a23 ?l23 ?c23 ?k23 ?a24 ?l24 ?c24 ?k24 ?a25 ?l25 ?c25 ?k25 ?a26 ?l26 ?c26 ?k26 ?a27 ?l27 ?c27 ?k27 ?a28 ?l28 ?c28 ?k28 ?a29 ?l29 ?c29 ?k29 ?a30 ?l30 ?c30 ?k30 ?a31 ?l31 ?c31 ?k31 ?zb_ValueError ?zb_abs ?zb_all ?zb_bool ?zb_divmod ?zb_enumerate ?zb_int ?zb_isinstance ?zb_len ?zb_list ?zb_max ?zb_min ?zb_range ?zb_repr ?zb_tuple ?zb_zip ?xz ?zg_ASKED_AT_MOST ?zg_KINDS_AT_MOST ?zg_MOST ?zg_WEIGHT ?zg_WORTH
  (case a0=>k_is)
  (case l0=>k_is)
  (case c0=>k_is)
  (case k0=>k_is)
  (case a1=>k_is)
  (case l1=>k_is)
  (case c1=>k_is)
  (case k1=>k_is)
  (case a2=>k_is)
  (case l2=>k_is)
  (case c2=>k_is)
  (case k2=>k_is)
  (case a3=>k_is)
  (case l3=>k_is)
  (case c3=>k_is)
  (case k3=>k_is)
  (case a4=>k_is)
  (case l4=>k_is)
  (case c4=>k_is)
  (case k4=>k_is)
  (case a5=>k_is)
  (case l5=>k_is)
  (case c5=>k_is)
  (case k5=>k_is)
  (case a6=>k_is)
  (case l6=>k_is)
  (case c6=>k_is)
  (case k6=>k_is)
  (case a7=>k_is)
  (case l7=>k_is)
  (case c7=>k_is)
  (case k7=>k_is)
  (case a8=>k_is)
  (case l8=>k_is)
  (case c8=>k_is)
  (case k8=>k_is)
  (case a9=>k_is)
  (case l9=>k_is)
  (case c9=>k_is)
  (case k9=>k_is)
  (case a10=>k_is)
  (case l10=>k_is)
  (case c10=>k_is)
  (case k10=>k_is)
  (case a11=>k_is)
  (case l11=>k_is)
  (case c11=>k_is)
  (case k11=>k_is)
  (case a12=>k_is)
  (case l12=>k_is)
  (case c12=>k_is)
  (case k12=>k_is)
  (case a13=>k_is)
  (case l13=>k_is)
  (case c13=>k_is)
  (case k13=>k_is)
  (case a14=>k_is)
  (case l14=>k_is)
  (case c14=>k_is)
  (case k14=>k_is)
  (case a15=>k_is)
  (case l15=>k_is)
  (case c15=>k_is)
  (case k15=>k_is)
  (case a16=>k_is)
  (case l16=>k_is)
  (case c16=>k_is)
  (case k16=>k_is)
  (case a17=>k_is)
  (case l17=>k_is)
  (case c17=>k_is)
  (case k17=>k_is)
  (case a18=>k_is)
  (case l18=>k_is)
  (case c18=>k_is)
  (case k18=>k_is)
  (case a19=>k_is)
  (case l19=>k_is)
  (case c19=>k_is)
  (case k19=>k_is)
  (case a20=>k_is)
  (case l20=>k_is)
  (case c20=>k_is)
  (case k20=>k_is)
  (case a21=>k_is)
  (case l21=>k_is)
  (case c21=>k_is)
  (case k21=>k_is)
  (case a22=>k_is)
  (case l22=>k_is)
  (case c22=>k_is)
  (case k22=>k_is)
  (case a23=>k_is)
  (case l23=>k_is)
  (case c23=>k_is)
  (case k23=>k_is)
  (case a24=>k_is)
  (case l24=>k_is)
  (case c24=>k_is)
  (case k24=>k_is)
  (case a25=>k_is)
  (case l25=>k_is)
  (case c25=>k_is)
  (case k25=>k_is)
  (case a26=>k_is)
  (case l26=>k_is)
  (case c26=>k_is)
  (case k26=>k_is)
  (case a27=>k_is)
  (case l27=>k_is)
  (case c27=>k_is)
  (case k27=>k_is)
  (case a28=>k_is)
  (case l28=>k_is)
  (case c28=>k_is)
  (case k28=>k_is)
  (case a29=>k_is)
  (case l29=>k_is)
  (case c29=>k_is)
  (case k29=>k_is)
  (case a30=>k_is)
  (case l30=>k_is)
  (case c30=>k_is)
  (case k30=>k_is)
  (case a31=>k_is)
  (case l31=>k_is)
  (case c31=>k_is)
  (case k31=>k_is)
  (case zb_ValueError=>k_is)
  (case zb_abs=>k_is)
  (case zb_all=>k_is)
  (case zb_bool=>k_is)
  (case zb_divmod=>k_is)
  (case zb_enumerate=>k_is)
  (case zb_int=>k_is)
  (case zb_isinstance=>k_is)
  (case zb_len=>k_is)
  (case zb_list=>k_is)
  (case zb_max=>k_is)
  (case zb_min=>k_is)
  (case zb_range=>k_is)
  (case zb_repr=>k_is)
  (case zb_tuple=>k_is)
  (case zb_zip=>k_is)
  (case xz=>kernel_rfl)
  (case zg_ASKED_AT_MOST=>k_is)
  (case zg_KINDS_AT_MOST=>k_is)
  (case zg_MOST=>k_is)
  (case zg_WEIGHT=>k_is)
  (case zg_WORTH=>k_is)
