import PyProof.Rows.All
import Wide.All
import OpenK.AllK
import Wide.FinOn
import Lean
import PyProof.EqAt
import PyProof.EqKinds
import PyProof.TupleCall
import KE.KUnpack
import PyProof.Rows.SetFrom
import KE.KRevIter
import KE.KIntText
import KE.KxWritten
import KE.KxIndex
import PyProof.Rows.StrPartPair
import PyProof.StrLawsTight
import PyProof.StrLawsChain
import PySem.Challenge.RW_sackloads_k81_deeds_at_a_desk
namespace PySem.W.Fast
def tw15252195514473127979:Nat:=0
def tw249858820969363683:Nat:=0
def tw5636863838984556828:Nat:=0
def tw4352151987404297540:Nat:=0
def tw12336026274386086956:Nat:=0
def tw6291330730392568846:Nat:=0
def tw15090531280496111078:Nat:=0
def tw2384947833512717844:Nat:=0
def tw14060285699220796425:Nat:=0
def tw5527153892017084683:Nat:=0
def tw4903897541140062988:Nat:=0
def tw11146028718022135704:Nat:=0
def tw17534155161164656185:Nat:=0
def tw11669661745387390878:Nat:=0
def tw12224360905947239949:Nat:=0
def tw3354999627540498207:Nat:=0
def tw9074604067351438504:Nat:=0
def tw10833390670647537323:Nat:=0
def tw17321264920806833592:Nat:=0
def tw14564944339704194554:Nat:=0
def tw12864178129294831495:Nat:=0
def tw2649981968261447938:Nat:=0
def tw9840346610998509506:Nat:=0
def tw6291864375668139501:Nat:=0
def tw4660928285433163146:Nat:=0
end PySem.W.Fast
open PySem renaming Shared→yaa,wpAny_bind→yab,starEach→yac,Program→yag,mainGlobals→yah,Around→yal,wpAny_pure→yam,sizeLine→yao,backTo→yaz,bootBuiltins→yaF,FuncData→yaH,attributeBase→yaI,wpAny_field→yaJ,Env→yaL,wpAny_newObj_type→yaM,mem_of_lookup→yaN,compareOp→yaV,wpAny_call_entry→ya2,strValues→ya3,keywordEach→ya4,wpAny_mono→ya5,binaryOp→ya9,swapsWith→ybe,assignEach→ybh,wpAny_truthy_bool→ybl,Keyword→ybm,hashStr→ybp,wpAny_seqItems→ybr,IsPair→ybx,wpAny_setField_rec→yby,wpAny_passesOwn→ybz,codeAny→ybA,backToKw→ybD,foldedSetIterable→ybF,call_meets→ybI,rawInt→ybK,behindInMarks→ybO,holding→ybP,wpAny_holding→ybQ,wpAny_execs_nil→ybS,letOwnedTupleGo→ybT,wpAny_Call_Name_kw→ybU,wpAny_setField→ybY,sysModules→ybZ,sizeLine_eq→yb7,sliceBounds→yb8,builtinsNs→yci,typeIs_str→ycl,pyNext→yct,IsRangeIter→ycu,wpAny_Call_method_late→ycx,JoinOk→ycz,swapsWithSole→ycA,swappedStores→ycB,wpAny_onRaise→ycE,wpAny_attempt→ycF,NameKind→ycG,wpAny_isInstance→ycJ,standAt→ycM,getMethod→ycN,setFlight→ycR,plainObj_wpAny_Assign_Attribute→ycT,wpAny_rule→ycV,Result→ycW,codeAny_mono→ycX,IsPart→yc0,wpAny_typeOf→yc1,codeAny_call_builtin→yc4,codeAny_builtin→yc5,wpAny_updateSeq_pair→yc6,wpAny_loadPart'→yc8,recursionLimit→ydd,leaving→yde,firstArgMember→ydh,assign→ydj,noteFrame→ydm,DictEntry→ydn,wpAny_newFunctionEnv_cells→ydv,wpAny_pyIter_list→ydD,typeIs_int→ydG,wpAny_binaryOp_repeat_ref→ydH,wpAny_letOwnedTupleGo_zip→ydI,codeAny_handlers_suite_as→ydJ,BindsTo→ydM,getItem→ydN,callerA→ydO,Builtin→ydP,valueAt→ydQ,Within→ydR,GenState→ydS,noFill_tuple_add→ydV,wpAny_comprehension_free→ydW,wpAny_pyIter_zip→ydX,PassesOwn→yd4,cellsFrom→yd7,Arguments→yd8,wpAny_pyIter_rangeiter→yed,codeAny_compStart_list→yef,wpAny_isTrue_Compare1→yeh,wpAny_bindName→yei,codeAny_call_function→yel,isSubtype_stop→yem,codeAny_handlers_test→yeo,builtinLookup_eq_fast→yep,intText?→yeq,bindName→yex,wpAny_call→yey,compEnvC→yeB,wpAny_newFunctionEnv→yeC,unbindBehindTheSuite→yeD,wpAny_pyIter_revIter→yeE,callWith→yeF,assignInOrder→yeH,wpAny_standAt→yeI,seq_tuple_add→yeJ,wpAny_isSubtype_exc→yeO,wpAny_handleBy_cons→yeP,pyIter→yeU,wpAny_pyIter_range→yeV,concat_meets→ye1,seqIndex_neg→ye3,wpAny_pyIter_tuple→ye6,wpAny_sequenceKey→yfg,wpAny_loadPart_at→yfj,seqIndex_of→yfo,wpAny_letGo→yfp,excClassObj→yfq,compPost→yfr,ReadsAll→yft,wpAny_Name→yfu,typeLookup→yfv,call→yfw,strKind_is→yfx
open PySem.W renaming Frag→yad,keepIn→yai,nsIn→yaj,codeIn→yap,fnOf→yaq,mg_of→yat,findIn→yaD,mg_none_of→yaK,kia_one→yaP,emptyDict→ya0,instObj→ybb,isFn→ybv,plainGet→yb1,tabObj→ycm,hasDictIn→ycp,cellsFrom_some→ycv,plainGet_of→yda,lookIn→ydc,CodeHd→ydf,callWith_K→ydl,methodObj→ydA,plainOver→ydB,kitx_list→ydC,takerIn→yd5,makesIn→yd6,OpenLaw→yeb,kitOne→yek,methodCall_KW→yet,callWith_K0→yeL,kitx_tuple→yeX,codeRec_of→ye0,kitx_dict→yfd
open PySem.Heap renaming lt_size→yae,SameBut→ybt,size_push→ybJ,MadeExcOf→yen
open PySem.Value renaming ref→yaf,none→yaB,type→ya1,bool→ybR,builtin→ycC,int→ydi,str→yd3,float→yfl
open Nat renaming le_refl→yak,ne_of_lt→yas,lt_of_lt_of_le→yay,le_trans→yaZ,zero_le→ybs,ne_of_gt→ybu,lt_irrefl→ybC,le_of_not_lt→ycH,le_add_right→ycL,le_of_lt→ycU,min_eq_left→yc7,lt_succ_self→ydT,exists_eq_add_of_le→yd2,succ_mul→ye4,mul_comm→ye5,add_sub_cancel→yfa,le_succ→yfm
open List renaming replicate→yan,range→yaw,mem_cons→yaA,length_singleton→yaE,append_nil→yaS,lookup_cons→yaT,length_replicate→yaX,map_append→yaY,lookup→ybg,filterMap_cons→ybo,length_take→ybq,nil_append→ybB,flatten_cons→ybG,mem_append_left→yb0,length_drop→yb2,set_cons_zero→ych,drop_of_length_le→ycy,dropLast_eq_take→ycS,of_mem_zip→ycY,mem_of_getElem?→ycZ,map_nil→yc3,map_reverse→yd0,forIn_cons→yea,foldl→yeA,set_cons_succ→ye9,take_sublist→yff,length→yfn
open Bool renaming false_ne_true→yar,and_eq_true→yau,and_self→ybd,true_and→yb5,eq_iff_iff→yb9,not_eq_true'→ycs,or_eq_true→yd9,false_and→yej,or_true→ye7
open Or renaming inr→yav,inl→yaC
open Option.some renaming inj→yax
open Ne renaming symm→yaG
open PySem.Builtin.SmallTypes renaming nextOf→yaO,ownedTupleIsFree→ya7,ownedTupleHandOut→ycg
open False renaming elim→yaQ
open PySem.NameKind renaming free→yaR,cell→ycD
open PyProof.Rows renaming envOfC→yaU,callWith_type1→ybc,slot_tuple_getitem→ybf,kindOf→ybX,AllBare→ycj,assignInOrder_cons→ydk,subscriptTail_builtinR→yee,entry_tuple_getitem→yeM,args_tuple_getitem→ye2,IntsAre→yfb,assignInOrder_nil→yfc
open Array renaming length_toList→yaW,toList_append→yeS
open PySem.PyData renaming canLay0→ya6,canLayAll0→yba,depth→ybN,depthAll→ycb,eqv→ycn
open PySem.Builtin.Str renaming occurrences→ya8,strKind→yeQ,tooLong→yeR,strSub→ye8
open PySem.Str renaming ofString→ybi,join→yeG,empty→yeW
open ForInStep renaming yield→ybj
open PySem.F renaming slot_zip_next→ybk,plainAttrs_list→ybn,slot_tuple_iterator_next→ybE,args_tuple_add_2→ycd,slot_list_append→yce,type_list_append→ycf,entry_tuple_add→yco,args_zip_next_1→ycr,slot_tuple_add→ycw,entry_zip_next→ycI,slot_range_iterator_next→ycK,typeOf_object_class→ycP,slot_int_rmul→yc2,args_tuple_iterator_next_1→ydg,entry_tuple_iterator_next→ydo,args_str_split_2→ydp,entry_str_split→ydE,slot_str_split→ydY,slot_list_pop→yer,type_list_pop→yes,slot_dict_get→yeu,slot_str_join→yev,type_str_join→yew,args_int_rmul_2→yfh,plain_list_iadd→yfk
open PySem.Obj renaming data_mapFields→ybw,isFreed_of_fields→ycQ,mapSeq→ydF,mapFields→yeK,cls_mapFields→yfi
open PySem.Builtin.Slice renaming slicePlaces→ybH,sliceAdjust→yca,sliceApplied→ydw
open PySem.Builtin.Tuple renaming tupleExact→ybL,tupleItemsOf→ydx,tupleIsExact→ydz
open PySem.Builtin.List renaming listTooLong→ybM,listExtendWith→ydq,listSameRef→ydZ
open PySem.PassesOwn renaming never→ybV
open PySem.Calls renaming callWith_builtin→ybW,evalArgs_plain→yb3,Name_function_global→yds,spliced_cons→yeZ,spliced_nil→yfe
open PySem.Data renaming seq→yb4,fields→yb6,cell→ycc
open True renaming intro→yck
open Int renaming toNat_natCast→ycq,emod_lt_of_pos→ydr,fdiv_eq_ediv_of_nonneg→ydt,fmod_eq_emod_of_nonneg→ydu,emod_nonneg→yec
open LawfulBEq renaming eq_of_beq→ycO
open PySem.Around renaming under_plainId→yc9,under→ydU,frames_deeper→yez
open PySem.EntryCells renaming newEntry→ydb
open PySem.Value.ref renaming inj→ydy
open Sum renaming inl→ydK,inr→ydL
open PySem.Builtin.Range renaming rangeSize→yd1
open PySem.SeqAt renaming compareEq_shaped→yeg
open PySem.Heap.SameBut renaming update→yeN
open PyProof.Rows.IsTup renaming new→yeT
open PySem.Code renaming isFrame→yeY
set_option linter.all false
set_option Elab.async false
set_option maxRecDepth 100000
open List renaming mem_cons_of_mem → mM, mem_cons_self → mS_, getElem?_eq_getElem → gG, length_cons → lC_, length_map → lM_, length_append → lA_, getElem?_map → gM_, map_cons → mC_, mem_append → mA_, length_nil → lN_, size_toArray → sT_, mem_map → mP_, map_map → mm_, replicate_succ → rS_, length_set → lS_, not_mem_nil → nN_, append_assoc → aA_, getElem?_eq_some_iff → gI_, mem_singleton → ms_, mem_append_right → mr_
namespace L2
open PySem PySem.Spec PyProof.Rows
abbrev Key:=Sum Int Str
def qjs:Key->Value->Bool
 |.inl k,v=>Value.isInt k v
 |.inr x,v=>Value.isStrOf x v
def qmU (w:World):Key->Int
 |.inl k=>hashInt k
 |.inr x=>ybp w x
theorem zl:∀{k:Key}{v:Value},qjs k v=true->(∃i t,k=ydK i/\v=ydi i t)\/(∃x t,k=ydL x/\v=yd3 x t)
 |.inl i,v,h=>by
  obtain⟨t,e⟩:=Value.isInt_shape (k:=i) (v:=v) h
  exact .inl ⟨i,t,rfl,e⟩
 |.inr x,v,h=>by
  obtain⟨t,e⟩:=Value.isStrOf_shape (x:=x) (v:=v) h
  exact .inr ⟨x,t,rfl,e⟩
theorem qjt (a b:Int):decide ((ydK a:Key)=ydK b)=(a==b):=by
 by_cases e:a=b
 ·subst e;simp
 ·have h:¬(ydK a:Key)=ydK b:=λq=>e (Sum.inl.inj q)
  rw[decide_eq_false h]
  exact(beq_eq_false_iff_ne.mpr e).symm
theorem qju (a b:Str):decide ((ydL a:Key)=ydL b)=decide (a=b):=by
 by_cases e:a=b
 ·subst e;simp
 ·have h:¬(ydL a:Key)=ydL b:=λq=>e (Sum.inr.inj q)
  rw[decide_eq_false h,decide_eq_false e]
theorem qjv(a:Int)(b:Str):decide ((ydK a:Key)=ydL b)=false:=decide_eq_false (λq=>nomatch q)
theorem qjw(a:Str)(b:Int):decide ((ydL a:Key)=ydK b)=false:=decide_eq_false (λq=>nomatch q)
def qax (prog:yag) (w:World):PySem.KeyKind prog w Key where
 is:=qjs
 hash:=qmU w
 inj:=λv a b ha hb=>by
  rcases zl ha with⟨i,t,rfl,rfl⟩|⟨x,t,rfl,rfl⟩
  ·rcases zl hb with⟨j,u,rfl,e⟩|⟨y,u,rfl,e⟩
   ·injection e with e1 _;rw[e1]
   ·exact nomatch e
  ·rcases zl hb with⟨j,u,rfl,e⟩|⟨y,u,rfl,e⟩
   ·exact nomatch e
   ·injection e with e1 _;rw[e1]
 byValue:=λk v h=>by
  rcases zl h with⟨i,t,rfl,rfl⟩|⟨x,t,rfl,rfl⟩<;>rfl
 pyHash:=λhv h=>by
  rcases zl hv with⟨i,t,rfl,rfl⟩|⟨x,t,rfl,rfl⟩
  ·exact wpAny_pyHash_int h
  ·exact wpAny_pyHash_str h
 eqBool:=λhu hv h=>by
  rcases zl hu with⟨i,t,rfl,rfl⟩|⟨x,t,rfl,rfl⟩
  ·rcases zl hv with⟨j,u,rfl,rfl⟩|⟨y,u,rfl,rfl⟩
   ·rw[qjt]at h;exact wpAny_eqBool_int h
   ·rw[qjv]at h;exact SeqAt.EqAt.int_str i t y u _ _ _ _ h
  ·rcases zl hv with⟨j,u,rfl,rfl⟩|⟨y,u,rfl,rfl⟩
   ·rw[qjw]at h;exact SeqAt.EqAt.str_int x t j u _ _ _ _ h
   ·rw[qju]at h;exact wpAny_eqBool_str h
 «strs»:=λk x t v h=>by
  rcases zl h with⟨i,u,rfl,e⟩|⟨y,u,rfl,e⟩
  ·exact nomatch e
  ·injection e with e1 _
   subst e1
   cases v<;>rfl
end L2
namespace L2
open PySem PySem.Spec PyProof.Rows
inductive V where
 |non|bl (b:Bool)|int (i:Int)|str (x:Str)|byt (b:Array UInt8)|flt (b:UInt64)|ref (a:Addr)|ty (n:String)
 deriving DecidableEq
def jp:V->Value->Prop
 |.non,u=>u=yaB
 |.bl b,u=>u=ybR b
 |.int i,u=>∃t,u=ydi i t
 |.str x,u=>∃t,u=yd3 x t
 |.byt b,u=>∃t,u=Value.bytes b t
 |.flt b,u=>∃t,u=yfl b t
 |.ref a,u=>u=yaf a
 |.ty n,u=>u=ya1 n
abbrev ze:List V->List Value->Prop:=Paired jp
theorem ze.length{xs:List V}{us:List Value}(r:ze xs us):xs.length=us.length:=Paired.length r
theorem ze.get:∀{xs:List V}{us:List Value}{i:Nat}{x:V},ze xs us->xs[i]? = some x->∃u,us[i]? = some u/\jp x u
 |_,_,_,_,.nil,e=>by simp at e
 |_,_,0,_,.cons r _,e=>by simp at e;subst e;exact⟨_,rfl,r⟩
 |_,_,i+1,x,.cons _ t,e=>by
  obtain⟨u,h1,h2⟩:=ze.get (i:=i) (x:=x) t (by simpa using e)
  exact⟨u,by simpa using h1,h2⟩
theorem ze.set {x:V} {u:Value} (r:jp x u):∀{xs:List V}{us:List Value}(i:Nat),ze xs us->ze (xs.set i x) (us.set i u)
 |_,_,_,.nil => .nil
 |_,_,0,.cons _ t => .cons r t
 |_,_,i+1,.cons q t => .cons q (ze.set r i t)
theorem ze.append:∀{xs ys:List V}{us ws:List Value},ze xs us->ze ys ws->ze (xs++ys) (us++ws)
 |_,_,_,_,.nil,s=>s
 |_,_,_,_,.cons r t,s => .cons r (ze.append t s)
theorem ze.take:∀{xs:List V}{us:List Value}(n:Nat),ze xs us->ze (xs.take n) (us.take n)
 |_,_,0,_ => .nil
 |_,_,_+1,.nil => .nil
 |_,_,n+1,.cons r t => .cons r (ze.take n t)
theorem ze.drop:∀{xs:List V}{us:List Value}(n:Nat),ze xs us->ze (xs.drop n) (us.drop n)
 |_,_,0,r=>r
 |_,_,_+1,.nil => .nil
 |_,_,n+1,.cons _ t=>ze.drop n t
def qd3:Option V->Option Value->Prop
 |some v,some u=>jp v u
 |none,none=>True
 |_,_=>False
def KV{κ:Type}:List (κ×V)->List (κ×Value)->Prop:=Paired λ(p:κ×V) (q:κ×Value)=>p.1=q.1/\jp p.2 q.2
def kV:Key->V
 |.inl i => .int i
 |.inr x => .str x
inductive HO where
 |lst (xs:List V)
 |tup (xs:List V)
 |dK (kvs:List (Key×V))|dT (kvs:List (List Key×V))
 |set (S:Int->Bool) (n:Nat)
 |ins (C dx:Addr) (fs:List (Str×V))
 |own (x:Addr)
 |xd (fs:List (Str×V))
 |met (f x:Addr)
 |rng (lo hi:Int)
 |frz (o:Obj) (u:HO)
 |tbl (ps:Array Value)
 |ext (φ:Heap->Prop)
 |dsk (C dx l:Addr) (xs:List V)
 |lam (pos:Pos) (q:Str)
abbrev Hp:=Addr->Option HO
def upd(H:Hp)(a:Addr)(o:HO):Hp:=λb=>if b=a then some o else H b
theorem qi{H:Hp}{a:Addr}{o:HO}:upd H a o a=some o:=by unfold upd;rw[if_pos rfl]
theorem qg{H:Hp}{a b:Addr}{o:HO}(h:b≠a):upd H a o b=H b:=by unfold upd;rw[if_neg h]
theorem zP {H:Hp} {a b:Addr} {o u:HO} (h:H a=some o) (h':H b=some u) (d:o≠u):a≠b:=by
 intro e;subst e;rw[h]at h';exact d (yax h')
theorem qr {H:Hp} {a b:Addr} {o:HO} (h:H a=some o) (h':H b=none):a≠b:=by
 intro e;subst e;rw[h]at h';cases h'
def vI(v1 v2:V)(l:Addr):List (Str×V):=[("store",v1),("room",v2),("past",.ref l)]
section
variable(P:yag)(w:World)
def jO (H:Hp) (h:Heap) (a:Addr):HO->Prop
 |.lst xs=>xs.length<=yao/\∃(its:List Value)(n:Nat),ze xs its/\h.get? a=some {cls:=.type "list",data:=.seq its.toArray n}
 |.tup xs=>xs.length<=yao/\∃its:List Value,ze xs its/\IsTup h a its.toArray
 |.dK kvs=>kvs.length<=yao/\(a==ybZ)=false/\∃vs,KV kvs vs/\h.DictOf (qax P w) a vs
 | .dT kvs=>kvs.length<=yao/\(a==ybZ)=false/\∃xs:List (List Key×Addr×Value),
   Paired (λ(p:List Key×V) (q:List Key×Addr×Value)=>p.1=q.1/\H q.2.1=some (.tup (p.1.map kV))/\jp p.2 q.2.2) kvs xs /\
   ∃o es ep,h.get? a=some o/\o.ExactDict/\o.data=.dict es ep/\es.toList=xs.map (entryOfKey (tupleKind (qax P w)))/\(xs.map (·.1)).Nodup
 |.set S n=>h.SetOf (intKind P w) a S n
 | .ins C dx fs=>H dx=some (.own a)/\fs.length<=1000/\dx≠a/\h.get? a=some (ybb C dx) /\
   ∃mA,h.Ns1 dx mA/\(∀f,qd3 (fs.lookup f) (mA f))/\ydR mA (fs.map (·.1))
 |.own _=>∃o,h.get? a=some o
 |.xd fs=>∃mA,h.Ns1 a mA/\∀f,qd3 (fs.lookup f) (mA f)
 |.rng lo hi=>∃t u v,h.get? a=some {cls:=.type "range",data:=.fields #[.int lo t,.int hi u,.int 1 v]}
 |.frz o u=>h.get? a=some o/\jO H h a u
 |.tbl ps=>h.get? a=some {cls:=.none,data:=.fields ps}
 |.met f x=>h.get? a=some (ydA (.ref f) (.ref x))
 | .dsk C dx l xs=>H dx=some (.own a)/\H l=some (.own a)/\dx≠a/\l≠a/\l≠dx/\h.get? a=some (ybb C dx)/\∃v1 v2 ys,xs=v1::v2::ys /\
   (∃mA,h.Ns1 dx mA/\(∀f,qd3 ((vI v1 v2 l).lookup f) (mA f))/\ydR mA ((vI v1 v2 l).map (·.1)))/\ys.length<=yao/\∃(its:List Value)(n:Nat),ze ys its/\h.get? l=some {cls:=.type "list",data:=.seq its.toArray n}
 | .lam pos q=>h.get? a=some {cls:=.none,data:=.fields #[]}\/∃(c:Addr)(oc:Obj)(vs:Array Value)(t:Tok),H c=some (.frz oc (.own c))/\oc.data=.fields vs/\vs[1]? = some (.str q t) /\
   h.get? a=some {cls:=.none,data:=.fields #[ybK pos.line,ybK pos.col,.ref c]}
 |.ext φ=>φ h/\(∃o,h.get? a=some o)/\∀h1 h2:Heap,φ h1->(∀o,h1.get? a=some o->h2.get? a=some o)->φ h2
def HOk(H:Hp)(h:Heap):Prop:=∀a o,H a=some o->jO P w H h a o
end
section
variable{P:yag}{w:World}{H H':Hp}{h h':Heap}{a:Addr}{o:HO}
theorem jO.lt (x:jO P w H h a o):a<h.objs.size:=by
 cases o with
 |lst xs=>obtain⟨_,_,_,_,e⟩:=x;exact yae e
 |tup xs=>obtain⟨_,_,_,p⟩:=x;exact p.lt
 |dK kvs=>obtain⟨_,_,_,_,o,_,_,e,_⟩:=x;exact yae e
 |dT kvs=>obtain⟨_,_,_,_,o,_,_,e,_⟩:=x;exact yae e
 |set S n=>obtain⟨o,_,_,_,e,_⟩:=x;exact yae e
 |ins C dx fs=>obtain⟨_,_,_,e,_⟩:=x;exact yae e
 |own y=>obtain⟨_,e⟩:=x;exact yae e
 |xd fs=>obtain⟨_,⟨_,_,_,e,_⟩,_⟩:=x;exact yae e
 |rng lo hi=>obtain⟨_,_,_,e⟩:=x;exact yae e
 |frz ob u=>obtain⟨e,_⟩:=x;exact yae e
 |tbl ps=>exact yae (show h.get? a=some _ from x)
 |met f y=>exact yae (show h.get? a=some _ from x)
 |ext φ=>obtain⟨_,⟨_,e⟩,_⟩:=x;exact yae e
 |dsk C dx l xs=>obtain⟨_,_,_,_,_,e,_⟩:=x;exact yae e
 |lam pos q=>
  rcases x with e|⟨_,_,_,_,_,_,_,e⟩
  ·exact yae e
  ·exact yae e
theorem Paired.mapP {α β:Type} {F G:α->β->Prop}:∀{l₁:List α}{lQ:List β},Paired F l₁ lQ->(∀a b,F a b->G a b)->Paired G l₁ lQ
 |_,_,.nil,_ => .nil
 |_,_,.cons r t,f => .cons (f _ _ r) (Paired.mapP t f)
theorem jO.stay (x:jO P w H h a o) (k:∀b u,(b=a\/H b=some (.own a))->h.get? b=some u->h'.get? b=some u)
  (ho:∀b,H b=some (.own a)->H' b=some (.own a)) (ht:∀b xs,H b=some (.tup xs)->H' b=some (.tup xs)) (hz:∀b ob u,H b=some (.frz ob u)->H' b=some (.frz ob u):=by exact λ_ _ _ q=>q):jO P w H' h' a o:=by
 induction o with
 |lst xs=>obtain⟨z,its,n,r,e⟩:=x;exact⟨z,its,n,r,k _ _ (.inl rfl) e⟩
 |tup xs=>obtain⟨z,its,r,ob,e,c⟩:=x;exact⟨z,its,r,ob,k _ _ (.inl rfl) e,c⟩
 |dK kvs=>obtain⟨z,y,vs,r,ob,es,ep,e,c⟩:=x;exact⟨z,y,vs,r,ob,es,ep,k _ _ (.inl rfl) e,c⟩
 |dT kvs=>
  obtain⟨z,y,xs,r,ob,es,ep,e,c⟩:=x
  exact⟨z,y,xs,Paired.mapP r λp q z=>⟨z.1,ht _ _ z.2.1,z.2.2⟩,ob,es,ep,k _ _ (.inl rfl) e,c⟩
 |set S n=>obtain⟨ob,es,ep,t,e,c⟩:=x;exact⟨ob,es,ep,t,k _ _ (.inl rfl) e,c⟩
 |ins C dx fs=>
  obtain⟨d,z,ne,e,mA,⟨od,es,ep,e2,c⟩,r⟩:=x
  exact⟨ho _ d,z,ne,k _ _ (.inl rfl) e,mA,⟨od,es,ep,k _ _ (.inr d) e2,c⟩,r⟩
 |own y=>obtain⟨ob,e⟩:=x;exact⟨ob,k _ _ (.inl rfl) e⟩
 |xd fs=>obtain⟨mA,⟨od,es,ep,e,c⟩,r⟩:=x;exact⟨mA,⟨od,es,ep,k _ _ (.inl rfl) e,c⟩,r⟩
 |rng lo hi=>obtain⟨t,u,v,e⟩:=x;exact⟨t,u,v,k _ _ (.inl rfl) e⟩
 |frz ob u ih=>obtain⟨e,q⟩:=x;exact⟨k _ _ (.inl rfl) e,ih q⟩
 |tbl ps=>
  have e:h.get? a=some {cls:=.none,data:=.fields ps}:=x
  show h'.get? a=some {cls:=.none,data:=.fields ps}
  exact k a _ (.inl rfl) e
 |met f y=>
  have e:h.get? a=some (ydA (.ref f) (.ref y)):=x
  show h'.get? a=some (ydA (.ref f) (.ref y))
  exact k a _ (.inl rfl) e
 |ext φ=>obtain⟨p,⟨o,e⟩,st⟩:=x;exact⟨st _ _ p λo q=>k _ _ (.inl rfl) q,⟨o,k _ _ (.inl rfl) e⟩,st⟩
 |dsk C dx l xs=>
  obtain⟨d,dl,ne,nl,nd,e,v1,v2,ys,ex,⟨mA,⟨od,es,ep,e2,c⟩,r⟩,z,its,n,rv,el⟩:=x
  exact⟨ho _ d,ho _ dl,ne,nl,nd,k _ _ (.inl rfl) e,v1,v2,ys,ex,⟨mA,⟨od,es,ep,k _ _ (.inr d) e2,c⟩,r⟩,z,its,n,rv,k _ _ (.inr dl) el⟩
 |lam pos q=>
  rcases x with e|⟨c,oc,vs,t,h1,h2,h3,e⟩
  ·exact .inl (k _ _ (.inl rfl) e)
  ·exact .inr ⟨c,oc,vs,t,hz _ _ _ h1,h2,h3,k _ _ (.inl rfl) e⟩
theorem HOk.lt(x:HOk P w H h)(e:H a=some o):a<h.objs.size:=(x a o e).lt
theorem HOk.fresh (x:HOk P w H h) (e:h.objs.size<=a):H a=none:=by
 cases q:H a with
 |none=>rfl
 |some u=>exact absurd (yay (x.lt q) e) (ybC _)
theorem HOk.kept (x:HOk P w H h) (k:∀b u,h.get? b=some u->h'.get? b=some u):HOk P w H h':=λa o e=>
 (x a o e).stay (λb u _ q=>k b u q) (λ_ q=>q) λ_ _ q=>q
theorem HOk.laid (x:HOk P w H h) (k:∀b u,h.get? b=some u->h'.get? b=some u) (hp:h.objs.size<=a) (new:jO P w (upd H a o) h' a o):HOk P w (upd H a o) h':=λb u e=>by
 have hn:=x.fresh hp
 by_cases hb:b=a
 ·subst hb;rw[qi]at e;cases e;exact new
 ·rw[qg hb]at e
  exact(x b u e).stay (λc v _ q=>k c v q) (λc q=>by rw[qg (qr q hn)];exact q) (λc xs q=>by rw[qg (qr q hn)];exact q) λc ob z q=>by rw[qg (qr q hn)];exact q
end
def Rd(H:Hp)(a:Addr)(u:HO):Prop:=H a=some u\/∃o,H a=some (.frz o u)
theorem Rd.ok {P:yag} {w:World} {H:Hp} {h:Heap} {a:Addr} {u:HO} (r:Rd H a u) (x:HOk P w H h):jO P w H h a u:=by
 rcases r with r|⟨o,r⟩
 ·exact x a u r
 ·obtain⟨_,q⟩:=x a _ r
  exact q
def Mut:Option HO->Prop
 |some (.lst _)=>True
 |some (.dK _)=>True
 |some (.dT _)=>True
 |some (.set _ _)=>True
 |some (.ins _ _ _)=>True
 |some (.ext _)=>True
 |some (.dsk _ _ _ _)=>True
 |_=>False
section
variable{P:yag}{w:World}{H:Hp}{h h':Heap}{x e:Addr}{o':HO}
theorem HOk.write (ok:HOk P w H h) (mu:Mut (H x)) (he:e=x\/H e=some (.own x)) (k:∀b u,b≠e->h.get? b=some u->h'.get? b=some u) (heo:∃u,h'.get? e=some u)
  (new:jO P w (upd H x o') h' x o'):HOk P w (upd H x o') h':=λb u q=>by
 have nown:∀c y,H c=some (.own y)->c≠x:=λc y r z=>by subst z;rw[r]at mu;exact mu
 have ntup:∀c xs,H c=some (.tup xs)->c≠x:=λc xs r z=>by subst z;rw[r]at mu;exact mu
 have nfrz:∀c ob y,H c=some (.frz ob y)->c≠x:=λc ob y r z=>by subst z;rw[r]at mu;exact mu
 by_cases hb:b=x
 ·subst hb;rw[qi]at q;cases q;exact new
 ·rw [qg hb]at q
  by_cases hbe:b=e
  ·have q':H b=some (.own x):=by
    rcases he with z|z
    ·exact absurd (hbe.trans z) hb
    ·rw[hbe];exact z
   rw[q]at q';cases q'
   obtain⟨v,hv⟩:=heo
   exact⟨v,by rw[hbe];exact hv⟩
  ·refine (ok b u q).stay (λc v hc r=>k c v ?_ r) (λc r=>by rw[qg (nown c b r)];exact r) (λc xs r=>by rw[qg (ntup c xs r)];exact r) λc ob z r=>by rw[qg (nfrz c ob z r)];exact r
   rcases hc with rfl|hc
   ·exact hbe
   ·rintro rfl
    rcases he with z|z
    ·exact nown c b hc z
    ·rw[hc]at z;cases z;exact hb rfl
end
structure Un (fs ex:List Addr) (H H':Hp) (h h':Heap):Prop where
 keep:∀b o,h.get? b=some o->H b=none->b ∉ fs->b ∉ ex->h'.get? b=some o
 slot:∀b o,h.get? b=some o->H b=none->b∈fs->b ∉ ex->∃sl,h'.get? b=some {o with slots:=sl}
 free:∀b o,h.get? b=some o->H b=none->b ∉ ex->H' b=none
 there:∀b o,h.get? b=some o->b ∉ ex->∃o',h'.get? b=some o'
 tups:∀b xs,H b=some (.tup xs)->H' b=some (.tup xs)
 frzs:∀b o u,H b=some (.frz o u)->H' b=some (.frz o u)
 tbls:∀b pos q,H b=some (.lam pos q)->H' b=some (.lam pos q)
section
variable{fs fs' ex ex':List Addr}{H H1 H2:Hp}{h h1 h2 h':Heap}{a x e:Addr}{o:HO}
theorem Un.any (u:Un fs ex H H1 h h1) {b:Addr} {ob:Obj} (q:h.get? b=some ob) (n:H b=none) (hx:b ∉ ex):∃sl,h1.get? b=some {ob with slots:=sl}:=by
 by_cases hb:b∈fs
 ·exact u.slot b ob q n hb hx
 ·exact⟨ob.slots,u.keep b ob q n hb hx⟩
theorem Un.kept (k:∀b u,h.get? b=some u->h'.get? b=some u):Un fs ex H H h h' :=
 ⟨λb ob q _ _ _=>k b ob q,λb ob q _ _ _=>⟨ob.slots,k b ob q⟩,λ_ _ _ n _=>n,λb ob q _=>⟨ob,k b ob q⟩,λ_ _ q=>q,λ_ _ _ q=>q,λ_ _ _ q=>q⟩
theorem Un.refl:Un fs ex H H h h:=Un.kept λ_ _ q=>q
theorem Un.laid (k:∀b u,h.get? b=some u->h'.get? b=some u) (hp:h.objs.size<=a) (hn:H a=none):Un fs ex H (upd H a o) h h' where
 keep:=λb u q _ _ _=>k b u q
 slot:=λb u q _ _ _=>⟨u.slots,k b u q⟩
 free:=λb u q n _=>by rw[qg (yas (yay (yae q) hp))];exact n
 there:=λb u q _=>⟨u,k b u q⟩
 tups:=λb xs q=>by rw[qg (qr q hn)];exact q
 frzs:=λb u xs q=>by rw[qg (qr q hn)];exact q
 tbls:=λb ps x q=>by rw[qg (qr q hn)];exact q
theorem Un.write (mu:Mut (H x)) (he:e=x\/H e=some (.own x)) (k:∀b u,b≠e->h.get? b=some u->h'.get? b=some u) (heo:∃u,h'.get? e=some u):Un fs ex H (upd H x o) h h':=by
 have hx:∀b,H b=none->b≠x:=λb n z=>by subst z;rw[n]at mu;exact mu
 have hb:∀b,H b=none->b≠e:=λb n z=>by
  subst z
  rcases he with r|r
  ·exact hx b n r
  ·rw[n]at r;cases r
 have hm:∀b u,H b=some u->¬Mut (some u)->b≠x:=λb u q nm z=>by subst z;rw[q]at mu;exact nm mu
 refine ⟨λb u q n _ _=>k b u (hb b n) q,λb u q n _ _=>⟨u.slots,k b u (hb b n) q⟩,λb u q n _=>by rw[qg (hx b n)];exact n,λb u q _=>?_,
  λb xs q=>by rw[qg (hm b _ q λz=>z)];exact q,λb u xs q=>by rw[qg (hm b _ q λz=>z)];exact q,λb ps x q=>by rw[qg (hm b _ q λz=>z)];exact q⟩
 by_cases hbe:b=e
 ·subst hbe;exact heo
 ·exact⟨u,k b u hbe q⟩
end
def trk(h:Heap)(H:Hp):List Addr:=(yaw h.objs.size).filter λa=>(H a).isSome
def qfX(h:Heap)(H:Hp):Heap:=PySem.W.hideAll h (trk h H)
theorem qd4(h:Heap)(H:Hp):(qfX h H).objs.size=h.objs.size:=PySem.W.hideAll_size _ _
theorem qfY {h:Heap} {H:Hp} {b:Addr} {o:Obj} (e:h.get? b=some o) (n:H b=none):(qfX h H).get? b=some o :=
 PySem.W.hideAll_get _ e λhm=>by
  have q:(H b).isSome=true:=(List.mem_filter.mp hm).2
  rw[n]at q;simp at q
theorem qhF {h:Heap} {H:Hp} {b:Addr} {o:Obj} (e:(qfX h H).get? b=some o):h.get? b=some o/\H b=none:=by
 have e':h.get? b=some o:=PySem.W.of_hideAll (trk h H) e
 refine⟨e',?_⟩
 cases q:H b with
 |none=>rfl
 |some x=>
  have hm:b∈trk h H:=List.mem_filter.mpr ⟨List.mem_range.mpr (yae e'),by simp[q]⟩
  have z:(qfX h H).get? b=none:=PySem.W.hideAll_none (trk h H) hm
  rw[z]at e;cases e
end L2
namespace L2
open PySem PySem.Spec PyProof.Rows
structure Mod (K:yad) (mg:Str->Option Value) (base:Heap):Prop where
 kin:K.In base
 glob:base.Ns yah mg
 blt:∃mb,base.Ns yci mb/\∀x:Str,x≠"__name__"->mb x=yaF x
 nolimit:base.NoLimit
 bm:∃bm ob,mg "__builtins__"=some (.ref bm)/\bm≠yci/\base.get? bm=some ob/\ob.cls=.type "module"/\ob.dict=some yci/\ob.data=.plain
structure Cx where
 prog:yag
 w:World
 K:yad
 mg:Str->Option Value
 base:Heap
 A:yal
 N:List Str
 s₀:yaa
 H₀:Hp
 env:Env
 outer:List Env
 stack:List Env
 ex:List Addr
 fn:Str->Bool
 calm:Bool
 pn:List (Addr×Obj)
 xe:Value->yaa->Prop
def frs(l:List Env):List Addr:=l.filterMap (·.frame)
abbrev Cx.fs(X:Cx):List Addr:=frs X.outer
def Vis(sc:Scope)(x:Str):Prop:=sc.names.lookup x=some .local\/sc.names.lookup x=some .cell\/sc.names.lookup x=some .free
def Loc(sc:Scope)(x:Str):Prop:=sc.names.lookup x=some .local\/sc.names.lookup x=some .cell
def qmV (env:Env) (h:Heap) (m:Str->Option Value) (x:Str) (u:Value):Prop :=
 (env.kindOf x=some .local/\m x=some u)\/((env.kindOf x=some .cell\/env.kindOf x=some .free)/\∃c,env.cells.lookup x=some c/\h.IsCell c (some u))
structure Cx.Ok (X:Cx):Prop where
 mod:Mod X.K X.mg X.base
 kind:X.env.scope.kind=.function
 glob:X.env.globals=yah
 blt:X.env.builtins=yci
 above:X.s₀.heap.objs.size<=X.env.locals
 inj:∀x y c,X.env.cells.lookup x=some c->X.env.cells.lookup y=some c->x=y
 has:∀x,(X.env.kindOf x=some .cell\/X.env.kindOf x=some .free)->∃c,X.env.cells.lookup x=some c
 cab:∀x c,X.fn x=true->X.env.cells.lookup x=some c->X.s₀.heap.objs.size<=c
 hd:X.calm=true->X.A.handled=none
 frames:X.A.frames=some X.stack
 stk:X.stack=X.outer\/(X.stack=X.env::X.outer/\X.env.frame=some X.env.locals)
 exf:∀b∈X.ex,b≠X.env.locals/\∀x c,X.env.cells.lookup x=some c->c≠b
 bs:∀b o,X.base.get? b=some o->X.s₀.heap.get? b=some o/\X.H₀ b=none
 bsz:X.base.objs.size<=X.s₀.heap.objs.size
 noex:∀b o,X.base.get? b=some o->b ∉ X.ex
 exfs:∀b∈X.ex,b ∉ X.fs
 funs:X.s₀.heap.FunFrames X.base X.outer
 frf:∀b∈X.fs,X.H₀ b=none
structure Inv (X:Cx) (pins:List (Addr×Obj)) (σ:List (Option V)) (H:Hp) (s:yaa):Prop where
 ok:X.Ok
 os:s.os=X.s₀.os
 bare:ycj s.gens
 base:Un X.fs X.ex X.H₀ H X.s₀.heap s.heap
 loc:∃m,s.heap.Ns X.env.locals m/\∀(i:Nat)(x:Str)(v:V),X.N[i]? = some x->σ[i]? = some (some v)->Vis X.env.scope x->∃u,jp v u/\qmV X.env s.heap m x u
 cell:∀x c,X.env.cells.lookup x=some c->∃v,s.heap.IsCell c v
 free:H X.env.locals=none
 freeC:∀x c,X.env.cells.lookup x=some c->H c=none
 pin:∀p∈X.pn++pins,s.heap.get? p.1=some p.2/\H p.1=none/\p.1≠X.env.locals/\p.1 ∉ X.fs/\∀v,p.2.data ≠ .cell v
 hok:HOk X.prog X.w H s.heap
 len:σ.length=X.N.length
section
variable{X:Cx}{pins:List (Addr×Obj)}{σ:List (Option V)}{H H':Hp}{s:yaa}{h':Heap}
theorem Cx.Ok.nofr (ok:X.Ok) {b:Addr} {o:Obj} (e:X.base.get? b=some o):b ∉ X.fs:=λhb=>by
 have:=(ok.funs.mem hb).1
 rw[e]at this;cases this
theorem Inv.bs (I:Inv X pins σ H s):∀b o,X.base.get? b=some o->s.heap.get? b=some o/\H b=none:=λb o e=>
 ⟨I.base.keep b o (I.ok.bs b o e).1 (I.ok.bs b o e).2 (I.ok.nofr e) (I.ok.noex b o e),I.base.free b o (I.ok.bs b o e).1 (I.ok.bs b o e).2 (I.ok.noex b o e)⟩
theorem Inv.bk(I:Inv X pins σ H s):∀b o,X.base.get? b=some o->s.heap.get? b=some o:=λb o e=>(I.bs b o e).1
theorem Inv.mod(I:Inv X pins σ H s):Mod X.K X.mg X.base:=I.ok.mod
theorem Inv.kIn(I:Inv X pins σ H s):X.K.In s.heap:=I.ok.mod.kin.keeps I.bk
theorem Inv.lt(I:Inv X pins σ H s):X.env.locals<s.heap.objs.size:=let ⟨_,hn,_⟩:=I.loc;hn.lt
theorem Inv.sz(I:Inv X pins σ H s):X.s₀.heap.objs.size<=s.heap.objs.size:=yaZ I.ok.above (ycU I.lt)
theorem Inv.nofs (I:Inv X pins σ H s) {a:Addr} (h:s.heap.objs.size<=a):a ∉ X.fs:=λhb=>by
 obtain⟨_,o,ho,_⟩:=I.ok.funs.mem hb
 exact absurd (yay (yae ho) (yaZ I.sz h)) (ybC _)
theorem Inv.cne (I:Inv X pins σ H s):∀x c,X.env.cells.lookup x=some c->c≠X.env.locals:=λx c e z=>by
 obtain⟨v,o,ho,hd⟩:=I.cell x c e
 obtain⟨m,⟨o',es,ep,ho',hd',_⟩,_⟩:=I.loc
 rw[z,ho']at ho;cases ho;rw[hd']at hd;cases hd
theorem Inv.funs (I:Inv X pins σ H s):s.heap.FunFrames X.base X.outer:=by
 have all:∀(l:List Env),(∀b∈frs l,b∈X.fs)->X.s₀.heap.FunFrames X.base l->s.heap.FunFrames X.base l:=by
  intro l
  induction l with
  |nil=>intro _ _;trivial
  |cons env r ih=>
   intro hs hl
   obtain⟨hk,⟨L,o,hf,hn,ho,hd⟩,hr⟩:=hl
   have hL:L∈X.fs:=hs L (by unfold frs;rw[ybo,hf];exact mS_)
   obtain⟨sl,e⟩:=I.base.slot L o ho (I.ok.frf L hL) hL λz=>I.ok.exfs L z hL
   exact⟨hk,⟨L,_,hf,hn,e,hd⟩,ih (λb hb=>hs b (by unfold frs;rw[ybo,hf];exact mM _ hb)) hr⟩
 exact all X.outer (λ_ hb=>hb) I.ok.funs
theorem Inv.stack (I:Inv X pins σ H s):s.heap.FunFrames X.base X.stack:=by
 rcases I.ok.stk with e|⟨e,hf⟩
 ·rw[e];exact I.funs
 ·rw[e]
  obtain⟨m,hn,_⟩:=I.loc
  refine .cons (by rw[I.ok.kind];decide) hf hn ?_ I.funs
  exact Heap.get?_none_of_le (yaZ I.ok.bsz I.ok.above)
theorem Inv.stkSub (I:Inv X pins σ H s):∀b∈frs X.stack,b∈X.env.locals::X.fs:=λb hb=>by
 rcases I.ok.stk with e|⟨e,hf⟩
 ·rw[e]at hb;exact mM _ hb
 ·rw[e]at hb
  unfold frs at hb
  rw[ybo,hf]at hb
  exact hb
theorem Inv.stkFree (I:Inv X pins σ H s):∀b∈frs X.stack,H b=none:=λb hb=>by
 rcases List.mem_cons.mp (I.stkSub b hb)with e|hb
 ·rw[e];exact I.free
 ·obtain⟨_,o,ho,_⟩:=I.ok.funs.mem hb
  exact I.base.free b o ho (I.ok.frf b hb) λz=>I.ok.exfs b z hb
theorem Inv.step {g':Array ydS} {t':Nat} {d':Drawn} {ch:List Addr} (I:Inv X pins σ H s)
  (hch:∀b∈ch,(b∈X.ex\/X.s₀.heap.objs.size<=b)/\b≠X.env.locals/\(∀x c,X.env.cells.lookup x=some c->c≠b)/\∀p∈X.pn++pins,p.1≠b)
  (keep:∀b o,b≠X.env.locals->b ∉ X.fs->b ∉ ch->s.heap.get? b=some o->H b=none->h'.get? b=some o)
  (slot:∀b o,b≠X.env.locals->b∈X.fs->b ∉ ch->s.heap.get? b=some o->H b=none->∃sl,h'.get? b=some {o with slots:=sl}) (free:∀b o,b ∉ ch->s.heap.get? b=some o->H b=none->H' b=none)
  (there:∀b o,b ∉ ch->s.heap.get? b=some o->∃o',h'.get? b=some o')
  (tups:∀b xs,H b=some (.tup xs)->H' b=some (.tup xs)) (frzs:∀b o u,H b=some (.frz o u)->H' b=some (.frz o u)) (tbls:∀b pos q,H b=some (.lam pos q)->H' b=some (.lam pos q))
  (ns:∀m,s.heap.Ns X.env.locals m->h'.Ns X.env.locals m) (hok:HOk X.prog X.w H' h') (hg:ycj g') :
  Inv X pins σ H' {s with heap:=h',gens:=g',drawn:=d',toks:=t' }:=by
 have neL:∀b o,X.s₀.heap.get? b=some o->b≠X.env.locals:=λb o e=>yas (yay (yae e) I.ok.above)
 have neC:∀b o,X.s₀.heap.get? b=some o->b ∉ X.ex->b ∉ ch:=λb o e hx hb=>by
  rcases(hch b hb).1 with z|z
  ·exact hx z
  ·exact absurd (yay (yae e) z) (ybC _)
 have cellK:∀x c,X.env.cells.lookup x=some c->∀v,s.heap.IsCell c v->h'.IsCell c v:=λx c e v ⟨o,ho,hd⟩=>by
  have nch:c ∉ ch:=λz=>(hch c z).2.2.1 x c e rfl
  by_cases hc:c∈X.fs
  ·obtain⟨sl,q⟩:=slot c o (I.cne x c e) hc nch ho (I.freeC x c e)
   exact⟨_,q,hd⟩
  ·exact⟨o,keep c o (I.cne x c e) hc nch ho (I.freeC x c e),hd⟩
 refine⟨I.ok,I.os,hg,⟨λb o e n hb hx=>?_,λb o e n hb hx=>?_,λb o e n hx=>?_,λb o e hx=>?_,λb xs e=>tups b xs (I.base.tups b xs e),λb o xs e=>frzs b o xs (I.base.frzs b o xs e),λb ps x e=>tbls b ps x (I.base.tbls b ps x e)⟩,?_,λx c e=>?_,?_,λx c e=>?_,λp hp=>?_,hok,I.len⟩
 ·exact keep b o (neL b o e) hb (neC b o e hx) (I.base.keep b o e n hb hx) (I.base.free b o e n hx)
 ·obtain⟨sl,e1⟩:=I.base.slot b o e n hb hx
  obtain⟨sl',e2⟩:=slot b _ (neL b o e) hb (neC b o e hx) e1 (I.base.free b o e n hx)
  exact⟨sl',e2⟩
 ·obtain⟨o',e1⟩:=I.base.there b o e hx
  exact free b o' (neC b o e hx) e1 (I.base.free b o e n hx)
 ·obtain⟨o',e1⟩:=I.base.there b o e hx
  exact there b o' (neC b o e hx) e1
 ·obtain⟨m,hn,hl⟩:=I.loc
  refine⟨m,ns m hn,λi x v e1 e2 e3=>?_⟩
  obtain⟨u,r,l⟩:=hl i x v e1 e2 e3
  refine⟨u,r,?_⟩
  rcases l with l|⟨k,c,e,z⟩
  ·exact .inl l
  ·exact .inr ⟨k,c,e,cellK x c e _ z⟩
 ·obtain⟨v,z⟩:=I.cell x c e
  exact⟨v,cellK x c e v z⟩
 ·obtain⟨m,⟨o,_,_,ho,_⟩,_⟩:=I.loc
  exact free _ o (λz=>(hch _ z).2.1 rfl) ho I.free
 ·obtain⟨v,o,ho,hd⟩:=I.cell x c e
  exact free c o (λz=>(hch c z).2.2.1 x c e rfl) ho (I.freeC x c e)
 ·obtain⟨e,n,ne,nf,d⟩:=I.pin p hp
  have nch:p.1 ∉ ch:=λz=>(hch p.1 z).2.2.2 p hp rfl
  exact⟨keep p.1 p.2 ne nf nch e n,free p.1 p.2 nch e n,ne,nf,d⟩
theorem Inv.un {t':Nat} (I:Inv X pins σ H s) (u:Un X.fs [] H H' s.heap h') (hok:HOk X.prog X.w H' h'):Inv X pins σ H' {s with heap:=h',toks:=t' }:=by
 obtain⟨m,⟨o,es,ep,ho,r⟩,_⟩:=id I.loc
 obtain⟨sl,hL⟩:=u.any ho I.free (by simp)
 exact I.step (g':=s.gens) (d':=s.drawn) (ch:=[]) (λ_ z=>nomatch z) (λb o _ hb _ e n=>u.keep b o e n hb (by simp)) (λb o _ hb _ e n=>u.slot b o e n hb (by simp)) (λb o _ e n=>u.free b o e n (by simp)) (λb o _ e=>u.there b o e (by simp)) u.tups u.frzs u.tbls (λm' hm=>by
  obtain⟨o',es',ep',ho',r'⟩:=hm
  rw[ho]at ho';cases ho'
  exact⟨_,es',ep',hL,r'⟩) hok I.bare
theorem Inv.call {g':Array ydS} {t':Nat} {d':Drawn} {ch:List Addr} (I:Inv X pins σ H s) (u:Un (frs X.stack) ch H H' s.heap h') (hok:HOk X.prog X.w H' h') (hg:ycj g')
  (hch:∀b∈ch,(b∈X.ex\/X.s₀.heap.objs.size<=b)/\b≠X.env.locals/\(∀x c,X.env.cells.lookup x=some c->c≠b)/\∀p∈X.pn++pins,p.1≠b) :
  Inv X pins σ H' {s with heap:=h',gens:=g',drawn:=d',toks:=t' }:=by
 obtain⟨m,⟨o,es,ep,ho,r⟩,_⟩:=id I.loc
 obtain⟨sl,hL⟩:=u.any ho I.free λz=>(hch _ z).2.1 rfl
 exact I.step (ch:=ch) hch (λb o hL hb hc e n=>u.keep b o e n (λz=>(List.mem_cons.mp (I.stkSub b z)).elim hL hb) hc) (λb o _ _ hc e n=>u.any e n hc) (λb o hc e n=>u.free b o e n hc) (λb o hc e=>u.there b o e hc) u.tups u.frzs u.tbls (λm' hm=>by
  obtain⟨o',es',ep',ho',r'⟩:=hm
  rw[ho]at ho';cases ho'
  exact⟨_,es',ep',hL,r'⟩) hok hg
theorem Inv.turned {t':Nat} {it:Addr} (I:Inv X pins σ H s) (k:∀b o,b≠it->s.heap.get? b=some o->h'.get? b=some o) (hn:H it=none) (hL:it≠X.env.locals)
  (h1:it∈X.ex\/X.s₀.heap.objs.size<=it) (h2:∀x c,X.env.cells.lookup x=some c->c≠it) (h3:∀p∈X.pn++pins,p.1≠it):Inv X pins σ H {s with heap:=h',toks:=t' }:=by
 have nit:∀b u,H b=some u->b≠it:=λb u e z=>by rw[z,hn]at e;cases e
 refine I.step (g':=s.gens) (d':=s.drawn) (ch:=[it]) (λb hb=>?_) (λb o _ _ hc e _=>k b o (λz=>hc (by simp[z])) e) (λb o _ _ hc e _=>⟨o.slots,k b o (λz=>hc (by simp[z])) e⟩) (λ_ _ _ _ n=>n)
  (λb o hc e=>⟨o,k b o (λz=>hc (by simp[z])) e⟩) (λ_ _ e=>e) (λ_ _ _ e=>e) (λ_ _ _ e=>e) (λm hm=>?_) (λb u e=>?_) I.bare
 ·have e:b=it:=by simpa using hb
  subst e
  exact⟨h1,hL,h2,h3⟩
 ·obtain⟨o,es,ep,ho,r⟩:=hm
  exact⟨o,es,ep,k _ o (yaG hL) ho,r⟩
 ·refine(I.hok b u e).stay (λc v hc q=>k c v ?_ q) (λ_ q=>q) λ_ _ q=>q
  rcases hc with z|z
  ·rw[z];exact nit b u e
  ·exact nit c _ z
theorem Inv.tok(I:Inv X pins σ H s)(t:Nat):Inv X pins σ H {s with toks:=t}:=I.un (h':=s.heap) (t':=t) Un.refl I.hok
theorem Inv.kept{t':Nat}(I:Inv X pins σ H s)(k:∀b u,s.heap.get? b=some u->h'.get? b=some u):Inv X pins σ H {s with heap:=h',toks:=t' }:=I.un (Un.kept k) (I.hok.kept k)
theorem Inv.laid {a:Addr} {o:HO} {t':Nat} (I:Inv X pins σ H s) (k:∀b u,s.heap.get? b=some u->h'.get? b=some u) (hp:s.heap.objs.size<=a) (new:jO X.prog X.w (upd H a o) h' a o) :
  Inv X pins σ (upd H a o) {s with heap:=h',toks:=t' }:=I.un (Un.laid k hp (I.hok.fresh hp)) (I.hok.laid k hp new)
theorem Inv.write {x e:Addr} {o:HO} {t':Nat} (I:Inv X pins σ H s) (mu:Mut (H x)) (he:e=x\/H e=some (.own x)) (k:∀b u,b≠e->s.heap.get? b=some u->h'.get? b=some u) (heo:∃u,h'.get? e=some u)
  (new:jO X.prog X.w (upd H x o) h' x o):Inv X pins σ (upd H x o) {s with heap:=h',toks:=t' }:=I.un (Un.write mu he k heo) (I.hok.write mu he k heo new)
theorem Inv.pins_of {pins':List (Addr×Obj)} (I:Inv X pins σ H s) (h:∀p∈pins',s.heap.get? p.1=some p.2/\H p.1=none/\p.1≠X.env.locals/\p.1 ∉ X.fs/\∀v,p.2.data ≠ .cell v):Inv X pins' σ H s :=
 ⟨I.ok,I.os,I.bare,I.base,I.loc,I.cell,I.free,I.freeC,λp hp=>(mA_.mp hp).elim (λz=>I.pin p (yb0 _ z)) (h p),I.hok,I.len⟩
theorem qct {N:List Str} (hN:N.Nodup) {i j:Nat} {x:Str} (a:N[i]? = some x) (b:N[j]? = some x):i=j:=by
 obtain⟨h1,e1⟩:=gI_.mp a
 obtain⟨h2,e2⟩:=gI_.mp b
 exact(List.getElem_inj hN).mp (e1.trans e2.symm)
theorem qd5 {M:Model} {A:yal} {E:Value->yaa->Prop} {i:Nat} {x:Str} {v:V} {u:Value} {Q:Unit->yaa->Prop} (I:Inv X pins σ H s) (hN:X.N.Nodup) (hi:X.N[i]? = some x) (hx:Loc X.env.scope x) (r:jp v u)
  (h:∀s',Inv X pins (σ.set i (some v)) H s'->(∃a,ybt a s.heap s'.heap/\(a=X.env.locals\/X.env.cells.lookup x=some a))->Q () s') (hf:X.fn x=true\/X.env.scope.names.lookup x=some .local:=by first|exact .inl rfl|exact .inr rfl|assumption):wpAny M A (storeName X.env x u) Q E s:=by
 obtain⟨m,hn,hl⟩:=id I.loc
 have hcls:(X.env.scope.kind == .class||(X.env.scope.kind == .module&&X.env.locals != X.env.globals))=false:=by rw[I.ok.kind];rfl
 have hiσ:i<σ.length:=by rw[I.len];exact(gI_.mp hi).1
 have cne:=I.cne
 have tracked:∀{a:Addr}{h':Heap},(∃o,s.heap.get? a=some o/\H a=none)->ybt a s.heap h'->HOk X.prog X.w H h':=λ{a h'} ha hs b ob e=>by
  obtain⟨_,_,hfree⟩:=ha
  refine(I.hok b ob e).stay (λc w' hc q=>(hs.2 c ?_).trans q) (λ_ q=>q) λ_ _ q=>q
  rintro rfl
  rcases hc with rfl|hc
  ·rw[hfree]at e;cases e
  ·rw[hfree]at hc;cases hc
 rcases hx with hk|hk
 ·refine wpAny_storeName_local hk hn (λh' hn' hs=>?_) hcls
  obtain⟨oL,_,_,hoL,_⟩:=id hn
  refine h _ ⟨I.ok,I.os,I.bare,⟨λb o e n hb hx=>?_,λb o e n hb hx=>?_,I.base.free,λb o e hx=>?_,I.base.tups,I.base.frzs,I.base.tbls⟩,⟨_,hn',λj y v' e1 e2 e3=>?_⟩,λy c e=>?_,I.free,I.freeC,λp hp=>?_,tracked ⟨oL,hoL,I.free⟩ hs,by simpa using I.len⟩ ⟨_,hs,.inl rfl⟩
  ·exact(hs.2 b (yas (yay (yae e) I.ok.above))).trans (I.base.keep b o e n hb hx)
  ·obtain⟨sl,e1⟩:=I.base.slot b o e n hb hx
   exact⟨sl,(hs.2 b (yas (yay (yae e) I.ok.above))).trans e1⟩
  ·obtain⟨o',e1⟩:=I.base.there b o e hx
   exact⟨o',(hs.2 b (yas (yay (yae e) I.ok.above))).trans e1⟩
  ·by_cases hj:j=i
   ·subst hj
    rw[hi]at e1;cases e1
    rw[List.getElem?_set_self hiσ]at e2
    cases e2
    exact⟨u,r,.inl ⟨hk,by simp⟩⟩
   ·rw [List.getElem?_set_ne (yaG hj)]at e2
    obtain⟨u',r',q⟩:=hl j y v' e1 e2 e3
    refine⟨u',r',?_⟩
    rcases q with⟨k,e⟩|⟨k,c,e,z⟩
    ·refine .inl ⟨k,?_⟩
     have:y≠x:=λe=>hj (qct hN e1 (e▸hi))
     simp[this,e]
    ·exact .inr ⟨k,c,e,z.sameBut hs (cne y c e)⟩
  ·obtain⟨w',z⟩:=I.cell y c e
   exact⟨w',z.sameBut hs (cne y c e)⟩
  ·obtain⟨e,n,ne,nf,d⟩:=I.pin p hp
   exact⟨(hs.2 p.1 ne).trans e,n,ne,nf,d⟩
 ·have hfn:X.fn x=true:=by
   rcases hf with z|z
   ·exact z
   ·rw[z]at hk;cases hk
  obtain⟨c,hc⟩:=I.ok.has x (.inl hk)
  obtain⟨w',z⟩:=I.cell x c hc
  refine wpAny_storeName_cell I.ok.kind hk hc z (λh' hc' hs=>?_)
  obtain⟨oc,hoc,hocd⟩:=id z
  refine h {s with heap:=h' } ⟨I.ok,I.os,I.bare,⟨λb o e n hb hx=>?_,λb o e n hb hx=>?_,I.base.free,λb o e hx=>?_,I.base.tups,I.base.frzs,I.base.tbls⟩,⟨m,hn.sameBut hs (yaG (cne x c hc)),λj y v' e1 e2 e3=>?_⟩,λy c' e=>?_,I.free,I.freeC,λp hp=>?_,tracked ⟨oc,hoc,I.freeC x c hc⟩ hs,by simpa using I.len⟩ ⟨c,hs,.inr hc⟩
  ·exact(hs.2 b (yas (yay (yae e) (I.ok.cab x c hfn hc)))).trans (I.base.keep b o e n hb hx)
  ·obtain⟨sl,e1⟩:=I.base.slot b o e n hb hx
   exact⟨sl,(hs.2 b (yas (yay (yae e) (I.ok.cab x c hfn hc)))).trans e1⟩
  ·obtain⟨o',e1⟩:=I.base.there b o e hx
   exact⟨o',(hs.2 b (yas (yay (yae e) (I.ok.cab x c hfn hc)))).trans e1⟩
  ·by_cases hj:j=i
   ·subst hj
    rw[hi]at e1;cases e1
    rw[List.getElem?_set_self hiσ]at e2
    cases e2
    exact⟨u,r,.inr ⟨.inl hk,c,hc,hc'⟩⟩
   ·rw [List.getElem?_set_ne (yaG hj)]at e2
    obtain⟨u',r',q⟩:=hl j y v' e1 e2 e3
    refine⟨u',r',?_⟩
    rcases q with q|⟨k,c',e,z'⟩
    ·exact .inl q
    ·refine .inr ⟨k,c',e,z'.sameBut hs ?_⟩
     rintro rfl
     exact hj (qct hN e1 (I.ok.inj _ _ _ e hc▸hi))
  ·by_cases hcc:c'=c
   ·subst hcc;exact⟨_,hc'⟩
   ·obtain⟨w2,z2⟩:=I.cell y c' e
    exact⟨w2,z2.sameBut hs hcc⟩
  ·obtain⟨e,n,ne,nf,d⟩:=I.pin p hp
   refine⟨(hs.2 p.1 ?_).trans e,n,ne,nf,d⟩
   intro q
   rw[q,hoc]at e
   have q':oc=p.2:=yax e
   exact d w' (by rw[<-q'];exact hocd)
theorem yY {M:Model} {A:yal} {E:Value->yaa->Prop} {i:Nat} {x:Str} {v:V} {u:Value} {Q:Unit->yaa->Prop} (I:Inv X pins σ H s) (hN:X.N.Nodup) (hi:X.N[i]? = some x) (hx:Loc X.env.scope x) (r:jp v u)
  (h:∀s',Inv X pins (σ.set i (some v)) H s'->Q () s') (hf:X.fn x=true\/X.env.scope.names.lookup x=some .local:=by first|exact .inl rfl|exact .inr rfl|assumption):wpAny M A (storeName X.env x u) Q E s :=
 qd5 I hN hi hx r (λs' I' _=>h s' I') hf
theorem Inv.call' {s':yaa} {ch:List Addr} (I:Inv X pins σ H s) (ho:s'.os=s.os) (u:Un (frs X.stack) ch H H' s.heap s'.heap) (hok:HOk X.prog X.w H' s'.heap) (hg:ycj s'.gens)
  (hch:∀b∈ch,(b∈X.ex\/X.s₀.heap.objs.size<=b)/\b≠X.env.locals/\(∀x c,X.env.cells.lookup x=some c->c≠b)/\∀p∈X.pn++pins,p.1≠b):Inv X pins σ H' s':=by
 obtain⟨h',g',d',t',o'⟩:=s'
 have e:o'=s.os:=ho
 subst e
 exact I.call (g':=g') (t':=t') (d':=d') u hok hg hch
end
abbrev XK:=Value->Option Addr->Hp->Prop
abbrev St:=List (Option V)
abbrev VK:=V->Hp->Prop
abbrev TE:=St->Hp->VK->Prop
abbrev TT:=St->Hp->(Bool->Hp->Prop)->Prop
abbrev TA:=St->Hp->(List V->Hp->Prop)->Prop
structure qdZ where
 nx:St->Hp->Prop
 rt:VK
 bk:St->Hp->Prop:=λ_ _=>False
 ct:St->Hp->Prop:=λ_ _=>False
abbrev TS:=qdZ->St->Hp->Prop
def EP(X:Cx)(pins:List (Addr×Obj))(σ:St)(Q:VK)(u:Value)(s':yaa):Prop:=∃v H',Inv X pins σ H' s'/\jp v u/\Q v H'
def TP(X:Cx)(pins:List (Addr×Obj))(σ:St)(Q:Bool->Hp->Prop)(b:Bool)(s':yaa):Prop:=∃H',Inv X pins σ H' s'/\Q b H'
def AP(X:Cx)(pins:List (Addr×Obj))(σ:St)(Q:List V->Hp->Prop)(us:List Value)(s':yaa):Prop:=∃vs H',Inv X pins σ H' s'/\ze vs us/\Q vs H'
def SP (X:Cx) (pins:List (Addr×Obj)) (D:qdZ) (f:Flow) (s':yaa):Prop :=
 match f with
 |.next=>∃σ' H',Inv X pins σ' H' s'/\D.nx σ' H'
 |.brk=>∃σ' H',Inv X pins σ' H' s'/\D.bk σ' H'
 |.cont=>∃σ' H',Inv X pins σ' H' s'/\D.ct σ' H'
 |.ret u=>∃v σ' H',Inv X pins σ' H' s'/\jp v u/\D.rt v H'
def PE (X:Cx) (e:Expr) (t:TE):Prop :=
 ∀(pins:List (Addr×Obj))(s:yaa)(σ:St)(H:Hp)(Q:VK),Inv X pins σ H s->t σ H Q->wpAny (model X.prog X.w) X.A (eval e X.env) (EP X pins σ Q) X.xe s
def PT (X:Cx) (e:Expr) (t:TT):Prop :=
 ∀(pins:List (Addr×Obj))(s:yaa)(σ:St)(H:Hp)(Q:Bool->Hp->Prop),Inv X pins σ H s->t σ H Q->wpAny (model X.prog X.w) X.A (isTrue e X.env (eval e X.env)) (TP X pins σ Q) X.xe s
def PW (X:Cx) (e:Expr) (t:TT):Prop :=
 ∀(whole:Sem Value)(pins:List (Addr×Obj))(s:yaa)(σ:St)(H:Hp)(Q:Bool->Hp->Prop),Inv X pins σ H s->t σ H Q->wpAny (model X.prog X.w) X.A (isTrue e X.env whole) (TP X pins σ Q) X.xe s
theorem PW.pt{X:Cx}{e:Expr}{t:TT}(h:PW X e t):PT X e t:=h _
def PA (X:Cx) (es:List Expr) (t:TA):Prop :=
 ∀(pos:Pos)(pins:List (Addr×Obj))(s:yaa)(σ:St)(H:Hp)(Q:List V->Hp->Prop),Inv X pins σ H s->t σ H Q->wpAny (model X.prog X.w) X.A (spliced (yaz pos (yac es X.env))) (AP X pins σ Q) X.xe s
def PS (X:Cx) (st:Stmt) (t:TS):Prop :=
 ∀(pins:List (Addr×Obj))(s:yaa)(σ:St)(H:Hp)(D:qdZ),Inv X pins σ H s->t D σ H->wpAny (model X.prog X.w) X.A (exec st X.env) (SP X pins D) X.xe s
def PSs (X:Cx) (st:List Stmt) (t:TS):Prop :=
 ∀(pins:List (Addr×Obj))(s:yaa)(σ:St)(H:Hp)(D:qdZ),Inv X pins σ H s->t D σ H->wpAny (model X.prog X.w) X.A (execs st X.env) (SP X pins D) X.xe s
theorem thn{α:Type}{t:Sem α}{Q Q':α->yaa->Prop}{M:Model}{A:yal}{E:Value->yaa->Prop}{s:yaa}(h:wpAny M A t Q E s)(hQ:∀a s,Q a s->Q' a s):wpAny M A t Q' E s:=ya5 h hQ λ_ _ x=>x
end L2
namespace L2
open PySem PySem.Spec PyProof.Rows
section
variable{X:Cx}
theorem bin {a b:Expr} {ta tb:TE} (ha:PE X a ta) (hb:PE X b tb) {pins:List (Addr×Obj)} {s:yaa} {σ:St} {H:Hp} {R:V->V->Hp->Prop} (I:Inv X pins σ H s) (h:ta σ H λx H1=>tb σ H1 λy H2=>R x y H2)
  {α:Type} {Q:α->yaa->Prop} {f:Value->Value->Sem α}
  (hf:∀v u s2 x y H2,Inv X pins σ H2 s2->jp x v->jp y u->R x y H2->wpAny (model X.prog X.w) X.A (f v u) Q X.xe s2) :
  wpAny (model X.prog X.w) X.A (eval a X.env) (λv sQ=>wpAny (model X.prog X.w) X.A (eval b X.env) (λu sK=>wpAny (model X.prog X.w) X.A (f v u) Q X.xe sK) X.xe sQ) X.xe s:=by
 refine thn (ha pins s σ H _ I h) λv s1 ⟨x,H1,I1,r1,q1⟩=>?_
 refine thn (hb pins s1 σ H1 _ I1 q1) λu s2 ⟨y,H2,I2,r2,q2⟩=>?_
 exact hf v u s2 x y H2 I2 r1 r2 q2
def qlw(i:Nat):TE:=λσ H Q=>∃v,σ[i]? = some (some v)/\Q v H
def tC(v:V):TE:=λ_ H Q=>Q v H
theorem zq {i:Nat} {x:Str} {pos:Pos} (hN:X.N[i]? = some x) (hv:Vis X.env.scope x) (hd:(x==("__debug__":Str))=false:=by decide) (hcd:(x==("__classdict__":Str))=false:=by decide):PE X (.Name x pos) (qlw i):=by
 intro pins s σ H Q I h
 obtain⟨v,e,h⟩:=h
 obtain⟨m,hn,hl⟩:=I.loc
 obtain⟨u,r,l⟩:=hl i x v hN e hv
 have fin:EP X pins σ Q u s:=⟨v,H,I,r,h⟩
 rcases l with⟨hk,hm⟩|⟨hk,c,hc,hcell⟩
 ·exact yfu (wpAny_loadName_local I.ok.kind hk hn hm fin) hd
 ·rcases hk with hk|hk
  ·exact yfu (wpAny_loadName_cell I.ok.kind hk hc hcell fin) hd
  ·exact yfu (wpAny_loadName_free I.ok.kind hk hc hcell fin hcd) hd
theorem qgX{i j pos}:PE X (.Constant (.int i) j pos) (tC (.int i)):=λ_ _ _ H _ I h=>wpAny_Constant_int ⟨.int i,H,I.tok _,⟨_,rfl⟩,h⟩
theorem qlH{b j pos}:PE X (.Constant (.bool b) j pos) (tC (.bl b)):=λ_ _ _ H _ I h=>Constant_bool ⟨.bl b,H,I,rfl,h⟩
theorem qjx{j pos}:PE X (.Constant .none j pos) (tC .non):=λ_ _ _ H _ I h=>Constant_none ⟨.non,H,I,rfl,h⟩
theorem qgY{x j pos}:PE X (.Constant (.str x) j pos) (tC (.str x)):=λ_ _ _ H _ I h=>Calls.Constant_str ⟨.str x,H,I.tok _,⟨_,rfl⟩,h⟩
def Gl(X:Cx)(x:Str):Prop:=X.env.kindOf x=some .globalImplicit
theorem vk {E:Value->yaa->Prop} {pins:List (Addr×Obj)} {s:yaa} {σ:St} {H:Hp} {x:Str} {u:Value} {pos:Pos} {Q:Value->yaa->Prop} (I:Inv X pins σ H s) (hg:Gl X x) (hm:X.mg x=some u) (h:Q u s)
  (hd:(x==("__debug__":Str))=false:=by decide):wpAny (model X.prog X.w) X.A (eval (.Name x pos) X.env) Q E s :=
 yds I.ok.kind hg (Calls.loadGlobal_global (by rw[I.ok.glob];exact I.mod.glob.keeps I.bk) hm h) hd
theorem v7 {E:Value->yaa->Prop} {pins:List (Addr×Obj)} {s:yaa} {σ:St} {H:Hp} {x:Str} {u:Value} {pos:Pos} {Q:Value->yaa->Prop} (I:Inv X pins σ H s) (hg:Gl X x) (hm:X.mg x=none) (hv:yaF x=some u) (h:Q u s)
  (hn:x≠"__name__":=by decide) (hd:(x==("__debug__":Str))=false:=by decide):wpAny (model X.prog X.w) X.A (eval (.Name x pos) X.env) Q E s:=by
 obtain⟨mb,h1,h2⟩:=I.mod.blt
 exact yds I.ok.kind hg (Calls.loadGlobal_builtin (by rw[I.ok.glob];exact I.mod.glob.keeps I.bk) hm (by rw[I.ok.blt];exact h1.keeps I.bk) ((h2 x hn).trans hv) h) hd
theorem qay {x:Str} {v:V} {u:Value} {pos:Pos} (hg:Gl X x) (hm:X.mg x=some u) (r:jp v u) (hd:(x==("__debug__":Str))=false:=by decide):PE X (.Name x pos) (tC v) :=
 λ_ _ _ H _ I h=>vk I hg hm ⟨v,H,I,r,h⟩ hd
theorem qd6 {x:Str} {v:V} {u:Value} {pos:Pos} (hg:Gl X x) (hm:X.mg x=none) (hv:yaF x=some u) (r:jp v u) (hn:x≠"__name__":=by decide) (hd:(x==("__debug__":Str))=false:=by decide):PE X (.Name x pos) (tC v) :=
 λ_ _ _ H _ I h=>v7 I hg hm hv ⟨v,H,I,r,h⟩ hn hd
variable{a b:Expr}{ta tb:TE}{pos:Pos}
def PC (X:Cx) (op:CmpOp) (a b:Expr) (t:TE):Prop :=
 ∀ (pins:List (Addr×Obj)) (s:yaa) (σ:St) (H:Hp) (Q:VK),Inv X pins σ H s->t σ H Q ->
  wpAny (model X.prog X.w) X.A (eval a X.env) (λv sQ=>wpAny (model X.prog X.w) X.A (eval b X.env) (λu sK=>wpAny (model X.prog X.w) X.A (yaV op v u) (EP X pins σ Q) X.xe sK) X.xe sQ) X.xe s
def tB(t:TE):TT:=λσ H Q=>t σ H λx H1=>∃c,x=.bl c/\Q c H1
theorem qmz {op:CmpOp} {t:TE} (h:PC X op a b t) (h1:ybO op b=false:=by first|exact nobehind _ (by decide) (by decide)|rfl):PT X (.Compare a [op] [b] pos) (tB t):=by
 intro pins s σ H Q I hw
 refine yeh (thn (h pins s σ H _ I hw) λv s1 h1=>thn h1 λu s2 h2=>thn h2 λc s3 ⟨x,H1,I1,r1,q1⟩=>?_) h1
 obtain⟨d,rfl,q⟩:=q1
 cases r1
 exact ybl ⟨H1,I1,q⟩
theorem qjy {e:Expr} {t:TE} (h:PE X e t) (he:∀whole,isTrue e X.env whole=(do let v <-whole;ycM e.pos;ybP [v] (truthy v)):=by intro _;rfl):PT X e (tB t):=by
 intro pins s σ H Q I hw
 refine isTrue_plain (thn (h pins s σ H _ I hw) λv s1 ⟨x,H1,I1,r1,q1⟩=>?_) (he _)
 obtain⟨d,rfl,q⟩:=q1
 cases r1
 exact ybl ⟨H1,I1,q⟩
variable{tA tB':TT}{rest:List Expr}
def qmW(t u:TT):TT:=λσ H Q=>t σ H λc H1=>if c=true then u σ H1 Q else Q false H1
def tOr(t u:TT):TT:=λσ H Q=>t σ H λc H1=>if c=true then Q true H1 else u σ H1 Q
def qmX(t:TT):TT:=λσ H Q=>t σ H λc H1=>Q (!c) H1
theorem qhG (ha:PT X a tA):PW X (.BoolOp .And [a] pos) tA:=by
 intro wh pins s σ H Q I h
 refine isTrue_and (thn (ha pins s σ H Q I h) λc s1 e=>?_)
 cases c with
 |true=>exact isTrue_and_nil e
 |false=>exact e
theorem qjz (ha:PT X a tA):PW X (.BoolOp .Or [a] pos) tA:=by
 intro wh pins s σ H Q I h
 refine isTrue_or (thn (ha pins s σ H Q I h) λc s1 e=>?_)
 cases c with
 |false=>exact isTrue_or_nil e
 |true=>exact e
theorem qjA (ha:PT X a tA) (hb:PW X (.BoolOp .And (b::rest) pos) tB'):PW X (.BoolOp .And (a::b::rest) pos) (qmW tA tB'):=by
 intro wh pins s σ H Q I h
 refine isTrue_and (thn (ha pins s σ H _ I h) λc s1 ⟨H1,I1,q1⟩=>?_)
 cases c with
 |true=>exact hb wh pins s1 σ H1 Q I1 q1
 |false=>exact⟨H1,I1,q1⟩
theorem qlI (ha:PT X a tA) (hb:PW X (.BoolOp .Or (b::rest) pos) tB'):PW X (.BoolOp .Or (a::b::rest) pos) (tOr tA tB'):=by
 intro wh pins s σ H Q I h
 refine isTrue_or (thn (ha pins s σ H _ I h) λc s1 ⟨H1,I1,q1⟩=>?_)
 cases c with
 |true=>exact⟨H1,I1,q1⟩
 |false=>exact hb wh pins s1 σ H1 Q I1 q1
theorem qjB (ha:PT X a tA):PT X (.UnaryOp .Not a pos) (qmX tA):=by
 intro pins s σ H Q I h
 exact isTrue_not (ha pins s σ H (λc H1=>Q (!c) H1) I h)
def qlJ(ta tb:TE):TE:=λσ H Q=>ta σ H λx H1=>∃c,x=.bl c/\if c=true then tb σ H1 Q else Q (.bl false) H1
def qmY(ta tb:TE):TE:=λσ H Q=>ta σ H λx H1=>∃c,x=.bl c/\if c=true then Q (.bl true) H1 else tb σ H1 Q
def qlK(ta:TE):TE:=λσ H Q=>ta σ H λx H1=>∃c,x=.bl c/\Q (.bl (!c)) H1
theorem qjC{op}{t:TE}(h:PE X a t):PE X (.BoolOp op [a] pos) t:=λpins s σ H Q I hw=>BoolOp_one (h pins s σ H Q I hw)
theorem qjD (ha:PE X a ta) (hb:PE X (.BoolOp .And (b::rest) pos) tb):PE X (.BoolOp .And (a::b::rest) pos) (qlJ ta tb):=by
 intro pins s σ H Q I h
 refine BoolOp_and (thn (ha pins s σ H _ I h) λv s1 ⟨x,H1,I1,r1,q1⟩=>?_)
 obtain⟨c,rfl,q1⟩:=q1
 cases r1
 refine ybl ?_
 cases c with
 |true=>exact hb pins s1 σ H1 Q I1 q1
 |false=>exact⟨.bl false,H1,I1,rfl,q1⟩
theorem qlL (ha:PE X a ta) (hb:PE X (.BoolOp .Or (b::rest) pos) tb):PE X (.BoolOp .Or (a::b::rest) pos) (qmY ta tb):=by
 intro pins s σ H Q I h
 refine BoolOp_or (thn (ha pins s σ H _ I h) λv s1 ⟨x,H1,I1,r1,q1⟩=>?_)
 obtain⟨c,rfl,q1⟩:=q1
 cases r1
 refine ybl ?_
 cases c with
 |false=>exact hb pins s1 σ H1 Q I1 q1
 |true=>exact⟨.bl true,H1,I1,rfl,q1⟩
theorem qjE (ha:PE X a ta):PE X (.UnaryOp .Not a pos) (qlK ta):=by
 intro pins s σ H Q I h
 refine UnaryOp_ (thn (ha pins s σ H _ I h) λv s1 ⟨x,H1,I1,r1,q1⟩=>?_)
 obtain⟨c,rfl,q1⟩:=q1
 cases r1
 exact not_of (ybl ⟨.bl (!c),H1,I1,rfl,q1⟩)
def tIf(t:TT)(ta tb:TE):TE:=λσ H Q=>t σ H λc H1=>if c=true then ta σ H1 Q else tb σ H1 Q
theorem qfZ {c:Expr} (hc:PT X c tA) (ha:PE X a ta) (hb:PE X b tb):PE X (.IfExp c a b pos) (tIf tA ta tb):=by
 intro pins s σ H Q I h
 refine wpAny_IfExp (thn (hc pins s σ H _ I h) λd s1 ⟨H1,I1,q1⟩=>?_)
 cases d with
 |true=>exact ha pins s1 σ H1 Q I1 q1
 |false=>exact hb pins s1 σ H1 Q I1 q1
end
end L2
namespace L2
open PySem PySem.Spec PyProof.Rows
def SqL (K:yad) (H:Hp) (a:Addr) (xs:List V):Prop :=
 Rd H a (.lst xs) \/
  ∃(o:Obj)(its:Array Value)(n:Nat),K.lookup a=some o/\o.cls=.type "list"/\o.dict=none/\o.data=.seq its n/\its.size<=yao/\ze xs its.toList
def SqT (K:yad) (H:Hp) (a:Addr) (xs:List V):Prop :=
 Rd H a (.tup xs) \/
  ∃(o:Obj)(its:Array Value)(n:Nat),K.lookup a=some o/\o.cls=.type "tuple"/\o.data=.seq its n/\its.size<=yao/\ze xs its.toList
def qmZ:Value->Option V
 |.none=>some .non
 |.bool b=>some (.bl b)
 |.int i _=>some (.int i)
 |.str x _=>some (.str x)
 |.bytes b _=>some (.byt b)
 |.float b _=>some (.flt b)
 |.ref a=>some (.ref a)
 |.type n=>some (.ty n)
 |_=>none
theorem jp.abs {x:V} {u:Value} (r:jp x u):qmZ u=some x:=by
 cases x with
 |non=>cases r;rfl
 |bl _=>cases r;rfl
 |int _=>obtain⟨t,rfl⟩:=r;rfl
 |str _=>obtain⟨t,rfl⟩:=r;rfl
 |byt _=>obtain⟨t,rfl⟩:=r;rfl
 |flt _=>obtain⟨t,rfl⟩:=r;rfl
 |ref _=>cases r;rfl
 |ty _=>cases r;rfl
theorem jp.inj{x y:V}{u:Value}(r:jp x u)(q:jp y u):x=y:=yax (r.abs.symm.trans q.abs)
theorem ze.inj:∀{xs ys:List V}{us:List Value},ze xs us->ze ys us->xs=ys
 |_,_,_,.nil,.nil=>rfl
 |_,_,_,.cons r t,.cons r' t'=>by rw[r.inj r',ze.inj t t']
section
variable{X:Cx}{pins:List (Addr×Obj)}{σ:St}{H:Hp}{s:yaa}{a:Addr}{xs ys:List V}
theorem SqL.of{K:yad}(h:H a=some (.lst xs)):SqL K H a xs:=.inl (.inl h)
theorem Inv.list (I:Inv X pins σ H s) (h:SqL X.K H a xs):∃its:List Value,ze xs its/\PlainL s.heap a its.toArray/\xs.length<=yao:=by
 rcases h with h|⟨o,its,n,hk,hc,hd,hs,hz,r⟩
 ·obtain⟨z,its,n,r,e⟩:=h.ok I.hok
  exact⟨its,r,⟨_,n,e,rfl,rfl,rfl⟩,z⟩
 ·refine⟨its.toList,r,⟨o,n,I.kIn a o hk,hc,hd,by simpa using hs⟩,?_⟩
  have e:=r.length
  simp only[yaW]at e
  omega
theorem Inv.tuple (I:Inv X pins σ H s) (h:SqT X.K H a xs):∃its:List Value,ze xs its/\IsTup s.heap a its.toArray/\xs.length<=yao:=by
 rcases h with h|⟨o,its,n,hk,hc,hs,hz,r⟩
 ·obtain⟨z,its,r,p⟩:=h.ok I.hok
  exact⟨its,r,p,z⟩
 ·refine⟨its.toList,r,⟨o,I.kIn a o hk,hc,n,by simpa using hs⟩,?_⟩
  have e:=r.length
  simp only[yaW]at e
  omega
theorem Inv.list_inj (I:Inv X pins σ H s) (h:SqL X.K H a xs) (h':SqL X.K H a ys):xs=ys:=by
 obtain⟨its,r,⟨o,n,e,_,_,d⟩,_⟩:=I.list h
 obtain⟨its',r',⟨o',n',e',_,_,d'⟩,_⟩:=I.list h'
 rw[e]at e';cases e'
 rw[d]at d'
 injection d' with d1 _
 have:its=its':=by simpa using congrArg Array.toList d1
 subst this
 exact r.inj r'
theorem Inv.tuple_inj (I:Inv X pins σ H s) (h:SqT X.K H a xs) (h':SqT X.K H a ys):xs=ys:=by
 obtain⟨its,r,⟨o,e,_,n,d⟩,_⟩:=I.tuple h
 obtain⟨its',r',⟨o',e',_,n',d'⟩,_⟩:=I.tuple h'
 rw[e]at e';cases e'
 rw[d]at d'
 injection d' with d1 _
 have:its=its':=by simpa using congrArg Array.toList d1
 subst this
 exact r.inj r'
end
abbrev Cx.wish(X:Cx)(E:Value->yaa->Prop):Cx:={X with xe:=E}
abbrev Cx.nox(X:Cx):Cx:=X.wish λ_ _=>False
theorem Cx.Ok.wish {X:Cx} (ok:X.Ok) (E:Value->yaa->Prop):(X.wish E).Ok :=
 ⟨ok.mod,ok.kind,ok.glob,ok.blt,ok.above,ok.inj,ok.has,ok.cab,ok.hd,ok.frames,ok.stk,ok.exf,ok.bs,ok.bsz,ok.noex,ok.exfs,ok.funs,ok.frf⟩
theorem Cx.Ok.unwish {X:Cx} {E:Value->yaa->Prop} (ok:(X.wish E).Ok):X.Ok :=
 ⟨ok.mod,ok.kind,ok.glob,ok.blt,ok.above,ok.inj,ok.has,ok.cab,ok.hd,ok.frames,ok.stk,ok.exf,ok.bs,ok.bsz,ok.noex,ok.exfs,ok.funs,ok.frf⟩
section
variable{X:Cx}{pins:List (Addr×Obj)}{σ:St}{H:Hp}{s:yaa}{E:Value->yaa->Prop}
theorem Inv.wish(I:Inv X pins σ H s)(E:Value->yaa->Prop):Inv (X.wish E) pins σ H s:=⟨I.ok.wish E,I.os,I.bare,I.base,I.loc,I.cell,I.free,I.freeC,I.pin,I.hok,I.len⟩
theorem Inv.unwish(I:Inv (X.wish E) pins σ H s):Inv X pins σ H s:=⟨I.ok.unwish,I.os,I.bare,I.base,I.loc,I.cell,I.free,I.freeC,I.pin,I.hok,I.len⟩
theorem SP.unwish {D:qdZ} {f:Flow} {s':yaa} (h:SP (X.wish E) pins D f s'):SP X pins D f s':=by
 cases f with
 |next=>obtain⟨σ',H',I,q⟩:=h;exact⟨σ',H',I.unwish,q⟩
 |brk=>obtain⟨σ',H',I,q⟩:=h;exact⟨σ',H',I.unwish,q⟩
 |cont=>obtain⟨σ',H',I,q⟩:=h;exact⟨σ',H',I.unwish,q⟩
 |ret u=>obtain⟨v,σ',H',I,r,q⟩:=h;exact⟨v,σ',H',I.unwish,r,q⟩
theorem PSs.nox {st:List Stmt} {t:TS} (h:PSs X.nox st t):PSs X st t:=λpins s σ H D I hw=>
 ya5 (h pins s σ H D (I.wish _) hw) (λ_ _ q=>q.unwish) λ_ _ z=>yaQ z
end
section
variable{X:Cx}{st:Stmt}{rest:List Stmt}{t u:TS}{e:Expr}{te:TE}{pos:Pos}
def qlM:TS:=λD σ H=>D.nx σ H
def qm0(t u:TS):TS:=λD σ H=>t {D with nx:=u D} σ H
theorem qhH:PSs X [] qlM:=λ_ _ σ H _ I h=>ybS ⟨σ,H,I,h⟩
theorem qaz (h1:PS X st t) (h2:PSs X rest u):PSs X (st::rest) (qm0 t u):=by
 intro pins s σ H D I h
 refine wpAny_execs_cons (thn (h1 pins s σ H {D with nx:=u D} I h) λf s1 q=>?_)
 cases f with
 |next=>
  obtain⟨σ',H',I',q⟩:=q
  exact h2 pins s1 σ' H' D I' q
 |ret v=>exact q
 |brk=>exact q
 |cont=>exact q
theorem qaA (h1:PS X st t):PSs X [st] t:=by
 intro pins s σ H D I h
 refine wpAny_execs_cons (thn (h1 pins s σ H D I h) λf s1 q=>?_)
 cases f with
 |next=>exact ybS q
 |ret v=>exact q
 |brk=>exact q
 |cont=>exact q
theorem Inv.quiet{pins:List (Addr×Obj)}{σ:St}{H:Hp}{s:yaa}(I:Inv X pins σ H s):interactive X.env=false:=by simp[interactive,I.ok.kind]
def qlN(te:TE):TS:=λD σ H=>te σ H λ_ H1=>D.nx σ H1
theorem qhI (he:PE X e te) (hs:ybe e none pos.line X.env=pure false:=by rfl):PS X (.Expr e pos) (qlN te):=by
 intro pins s σ H D I h
 exact wpAny_Expr_any (thn (he pins s σ H _ I h) λv s1 ⟨x,H1,I1,r1,q1⟩=>⟨σ,H1,I1,q1⟩) I.quiet hs
def qm1(te:TE):TS:=λD σ H=>te σ H D.rt
theorem qd7 (he:PE X e te):PS X (.Return (some e) pos) (qm1 te):=by
 intro pins s σ H D I h
 exact wpAny_Return_some (thn (he pins s σ H _ I h) λv s1 ⟨x,H1,I1,r1,q1⟩=>⟨x,σ,H1,I1,r1,q1⟩)
def qm2(c:TT)(t u:TS):TS:=λD σ H=>c σ H λb H1=>if b=true then t D σ H1 else u D σ H1
theorem qlO {c:Expr} {a b:List Stmt} {tc:TT} (hc:PT X c tc) (ha:PSs X a t) (hb:PSs X b u):PS X (.If c a b pos) (qm2 tc t u):=by
 intro pins s σ H D I h
 refine wpAny_If (thn (hc pins s σ H _ I h) λd s1 ⟨H1,I1,q1⟩=>?_)
 cases d with
 |true=>exact ha pins s1 σ H1 D I1 q1
 |false=>exact hb pins s1 σ H1 D I1 q1
end
abbrev TG:=V->St->Hp->(St->Hp->Prop)->Prop
abbrev TGs:=List V->St->Hp->(St->Hp->Prop)->Prop
def PG (X:Cx) (target:Expr) (t:TG):Prop :=
 ∀ (pins:List (Addr×Obj)) (s:yaa) (σ:St) (H:Hp) (v:V) (u:Value) (Q:St->Hp->Prop),Inv X pins σ H s->jp v u->t v σ H Q ->
  wpAny (model X.prog X.w) X.A (ydj target X.env u) (λ_ s'=>∃σ' H',Inv X pins σ' H' s'/\Q σ' H') X.xe s
def PGs (X:Cx) (ts:List Expr) (t:TGs):Prop :=
 ∀ (pins:List (Addr×Obj)) (s:yaa) (σ:St) (H:Hp) (vs:List V) (us:List Value) (Q:St->Hp->Prop),Inv X pins σ H s->ze vs us->t vs σ H Q ->
  wpAny (model X.prog X.w) X.A (yeH ((ybh ts X.env).map (·.2)) us) (λ_ s'=>∃σ' H',Inv X pins σ' H' s'/\Q σ' H') X.xe s
abbrev qlP:=V->V->V->Hp->(Hp->Prop)->Prop
def qmA (X:Cx) (t:qlP):Prop :=
 ∀ (pins:List (Addr×Obj)) (s:yaa) (σ:St) (H:Hp) (o i v:V) (ov iv u:Value) (Q:Hp->Prop),Inv X pins σ H s->jp o ov->jp i iv->jp v u->t o i v H Q ->
  wpAny (model X.prog X.w) X.A (setItem ov iv u) (λ_ s'=>∃H',Inv X pins σ H' s'/\Q H') X.xe s
section
variable{X:Cx}{pos:Pos}
def qjF(i:Nat):TG:=λv σ H Q=>Q (σ.set i (some v)) H
theorem qhJ {i:Nat} {x:Str} (hN:X.N.Nodup) (hi:X.N[i]? = some x) (hx:Loc X.env.scope x) (hf:X.fn x=true\/X.env.scope.names.lookup x=some .local:=by first|exact .inl rfl|exact .inr rfl|assumption):PG X (.Name x pos) (qjF i):=by
 intro pins s σ H v u Q I r h
 exact wpAny_assign_Name (yY I hN hi hx r (λs' I'=>⟨_,H,I',h⟩) hf)
def qm3:TGs:=λvs σ H Q=>vs=[]/\Q σ H
def qlQ(t:TG)(u:TGs):TGs:=λvs σ H Q=>∃v r,vs=v::r/\t v σ H λσ' H'=>u r σ' H' Q
theorem qhK:PGs X [] qm3:=by
 intro pins s σ H vs us Q I r h
 obtain⟨e,h⟩:=h
 subst e
 cases r
 exact yfc ⟨σ,H,I,h⟩
theorem qf0 {e:Expr} {es:List Expr} {t:TG} {u:TGs} (h1:PG X e t) (h2:PGs X es u)
  (hs:(ybh (e::es) X.env).map (·.2)=ydj e X.env::(ybh es X.env).map (·.2):=by rfl):PGs X (e::es) (qlQ t u):=by
 intro pins s σ H vs us Q I r h
 obtain⟨v,vr,e1,h⟩:=h
 subst e1
 cases r with
 |cons r rr=>
  rw[hs]
  refine ydk (thn (h1 pins s σ H _ _ _ I r h) λ_ s1 ⟨σ1,H1,I1,q1⟩=>?_)
  exact h2 pins s1 σ1 H1 _ _ Q I1 rr q1
def qm4(K:yad)(n:Nat)(t:TGs):TG:=λv σ H Q=>∃a xs,v=.ref a/\SqT K H a xs/\xs.length=n/\t xs σ H Q
theorem qjG {es:List Expr} {k:Nat} {t:TGs} {n:Nat} (hc:X.calm=true) (h:PGs X es t)
  (hn:(ybh es X.env).length=n:=by rfl) (hst:(ybh es X.env).findIdx? (·.1)=none:=by rfl):PG X (.Tuple es k pos) (qm4 X.K n t):=by
 intro pins s σ H v u Q I r hw
 obtain⟨a,xs,e1,hq,hl,hw⟩:=hw
 subst e1
 cases r
 obtain⟨its,rv,ht,hz⟩:=I.tuple hq
 refine assign_Tuple_tuple (I.ok.hd hc) ht (by simp[hn,<-hl,rv.length]) hst λh' hx=>?_
 have I1:Inv X pins σ H {s with heap:=h' }:=I.kept (t':=s.toks) λb o e=>hx b o (yas (yae e)) e
 exact h pins _ σ H xs _ Q I1 (by simpa using rv) hw
def qm5(to ti:TE)(t:qlP):TG:=λv σ H Q=>to σ H λo H1=>ti σ H1 λi H2=>t o i v H2 λH3=>Q σ H3
theorem qjH {o i:Expr} {to ti:TE} {t:qlP} (ho:PE X o to) (hi:PE X i ti) (hs:qmA X t)
  (ha:∀v,ydj (.Subscript o i pos) X.env v=(do
   let ov <-ybP [v] (eval o X.env)
   let iv <-ybP [v,ov] (eval i X.env)
   ycM pos
   ybP [v,ov,iv] (setItem ov iv v)
   release [v,ov,iv] []):=by intro _;rfl):PG X (.Subscript o i pos) (qm5 to ti t):=by
 intro pins s σ H v u Q I r h
 rw[ha]
 refine yab (ybQ (thn (ho pins s σ H _ I h) λov s1 ⟨x,H1,I1,r1,q1⟩=>?_))
 refine yab (ybQ (thn (hi pins s1 σ H1 _ I1 q1) λiv s2 ⟨y,H2,I2,r2,q2⟩=>?_))
 refine yab (yeI (yab (ybQ (thn (hs pins s2 σ H2 x y v ov iv u _ I2 r1 r2 r q2) λ_ s3 ⟨H3,I3,q3⟩=>?_))))
 exact wpAny_release ⟨σ,H3,I3,q3⟩
def qmB(te:TE)(g:TG):TS:=λD σ H=>te σ H λx H1=>g x σ H1 D.nx
theorem qgZ {tg e:Expr} {te:TE} {g:TG} (he:PE X e te) (hg:PG X tg g) (hs:ycA [tg] e pos.line X.env=pure false:=by rfl) (hw:ycB [tg] e X.env=pure none:=by rfl)
  (h1:(ybh [tg] X.env).map (·.2)=[ydj tg X.env]:=by rfl):PS X (.Assign [tg] e pos) (qmB te g):=by
 intro pins s σ H D I h
 refine wpAny_Assign_stores (thn (he pins s σ H _ I h) λv s1 ⟨x,H1,I1,r1,q1⟩=>?_) hs hw
 rw[h1]
 exact thn (hg pins s1 σ H1 x v _ I1 r1 q1) λ_ s2 q=>q
theorem qcu {i:Nat} {x:Str} {e:Expr} {te:TE} {pos':Pos} (hN:X.N.Nodup) (hi:X.N[i]? = some x) (hx:Loc X.env.scope x) (he:PE X e te) (hs:ybe e (some (.Name x pos')) pos.line X.env=pure false:=by rfl) (hf:X.fn x=true\/X.env.scope.names.lookup x=some .local:=by first|exact .inl rfl|exact .inr rfl|assumption) :
  PS X (.Assign [.Name x pos'] e pos) (qmB te (qjF i)):=by
 intro pins s σ H D I h
 refine wpAny_Assign_Name (thn (he pins s σ H _ I h) λv s1 ⟨y,H1,I1,r1,q1⟩=>?_) hs
 exact yY I1 hN hi hx r1 (λs2 I2=>⟨_,H1,I2,q1⟩) hf
def qm6(i j:Nat)(ta:TA):TS:=λD σ H=>ta σ H λvs H1=>∃v w,vs=[v,w]/\D.nx ((σ.set i (some v)).set j (some w)) H1
theorem qjI {i j:Nat} {x y:Str} {a b:Expr} {ta:TA} {px py pt:Pos} {kt k2 pt2} (hc:X.calm=true) (hN:X.N.Nodup) (hi:X.N[i]? = some x) (hj:X.N[j]? = some y) (hij:i≠j)
  (hx:X.env.scope.names.lookup x=some .local) (hy:X.env.scope.names.lookup y=some .local) (ha:PA X [a,b] ta)
  (hw:ycB [.Tuple [.Name x px,.Name y py] kt pt] (.Tuple [a,b] k2 pt2) X.env=pure (some [x,y]))
  (hs:ycA [.Tuple [.Name x px,.Name y py] kt pt] (.Tuple [a,b] k2 pt2) pos.line X.env=pure false:=by rfl) :
  PS X (.Assign [.Tuple [.Name x px,.Name y py] kt pt] (.Tuple [a,b] k2 pt2) pos) (qm6 i j ta):=by
 intro pins s σ H D I h
 rw[exec_Assign_arm]
 refine yab (yeI ?_)
 rw[hs]
 refine yab (yam ?_)
 rw[if_neg (by decide)]
 refine yab (Tuple_ (thn (ha _ pins s σ H _ I h) λus s1 ⟨vs,H1,I1,r1,q1⟩=>?_))
 obtain⟨v,w,e1,q1⟩:=q1
 subst e1
 obtain ⟨u1,u2,rfl,rv,rw'⟩:∃u1 u2,us=[u1,u2]/\jp v u1/\jp w u2:=by
  cases r1 with
  | cons p q=>
   cases q with
   |cons p' q'=>
    cases q'
    exact⟨_,_,rfl,p,p'⟩
 refine yaM ?_ (by show 2<=yao;decide)
 have I2:Inv X pins σ H1 {s1 with heap:=s1.heap.push {cls:=.type "tuple",data:=.seq [u1,u2].toArray} }:=I1.kept (t':=s1.toks) λb o e=>Heap.get?_push_of_some _ e
 rw[hw]
 refine yab (yam ?_)
 show wpAny (model X.prog X.w) X.A (do rule "assign.swapped-stores";let items <-unpackItems (.ref s1.heap.objs.size) 2 none;yeH [λv=>yex X.env y v,λv=>yex X.env x v] items.reverse;pure Flow.next) _ _ _
 refine yab (ycV (yab (unpackItems_tuple (items := #[u1,u2]) (I.ok.hd hc) (yeT s1.heap _) λh' hx'=>?_)))
 have I3:=I2.kept (h':=h') (t':=s1.toks) λb o e=>hx' b o (yas (yae e)) e
 show wpAny _ _ (yeH [λv=>yex X.env y v,λv=>yex X.env x v] [u2,u1] >>= λ_=>pure Flow.next) _ _ _
 refine yab (ydk (yei (yY I3 hN hj (.inl hy) rw' (λs2 I4=>?_) (.inr hy))))
 refine ydk (yei (yY I4 hN hi (.inl hx) rv (λs3 I5=>yfc (yam ?_)) (.inr hx)))
 rw[List.set_comm _ _ (yaG hij)]at I5
 exact⟨_,H1,I5,q1⟩
end
section
variable{X:Cx}{pos:Pos}
def qjJ (c:TT) (tb:TS):TS:=λD σ H=>∃W:Nat->St->Hp->Prop,(∃m,W m σ H)/\∀m σ H,W m σ H ->
 c σ H λb H1=>if b=true then ∃N:St->Hp->Prop,(∀σ' H',N σ' H'->∃m',m'<m/\W m' σ' H')/\tb {D with nx:=N,ct:=N,bk:=D.nx} σ H1 else D.nx σ H1
theorem qf1 {c:Expr} {body:List Stmt} {tc:TT} {tb:TS} (hp:yd4 (model X.prog X.w) X.A X.env X.xe) (hc:PT X c tc) (hb:PSs X body tb):PS X (.While c body [] pos) (qjJ tc tb):=by
 intro pins s σ H D I h
 obtain⟨W,⟨m0,w0⟩,turn⟩:=h
 refine wpAny_While (codeAny_whileLoop (λn s'=>∃σ' H',Inv X pins σ' H' s'/\W n σ' H') ?_ m0 ⟨σ,H,I,w0⟩)
 rintro n s1 ⟨σ1,H1,I1,w1⟩
 refine ybz hp (thn (hc pins s1 σ1 H1 _ I1 (turn n σ1 H1 w1)) λb s2 ⟨H2,I2,q2⟩=>?_)
 cases b with
 | true=>
  obtain⟨N,hN,q2⟩:=q2
  rw[if_pos rfl]
  refine ybz hp (thn (hb pins s2 σ1 H2 _ I2 q2) λf s3 q3=>?_)
  cases f with
  |next=>
   obtain⟨σ3,H3,I3,n3⟩:=q3
   obtain⟨m',hm,w3⟩:=hN σ3 H3 n3
   exact⟨m',hm,σ3,H3,I3,w3⟩
  |cont=>
   obtain⟨σ3,H3,I3,n3⟩:=q3
   obtain⟨m',hm,w3⟩:=hN σ3 H3 n3
   exact⟨m',hm,σ3,H3,I3,w3⟩
  |brk=>exact q3
  |ret v=>exact q3
 |false=>
  rw[if_neg yar]
  exact ybS ⟨σ1,H2,I2,q2⟩
end
structure It where
 go:Nat->Hp->Prop
 yld:Nat->Hp->V->Hp->Prop
 stop:Nat->Hp->Prop
def qbc (X:Cx) (pins:List (Addr×Obj)) (H:Hp) (b:Addr):Prop :=
 H b=none/\b≠X.env.locals/\b ∉ X.fs/\(b∈X.ex\/X.s₀.heap.objs.size<=b)/\(∀x c,X.env.cells.lookup x=some c->c≠b)/\∀p∈X.pn++pins,p.1≠b
theorem Inv.fpOk {X:Cx} {pins:List (Addr×Obj)} {σ:St} {H H':Hp} {s:yaa} {b:Addr} (I:Inv X pins σ H s) (hb:s.heap.objs.size<=b) (hn:H' b=none):qbc X pins H' b:=by
 refine⟨hn,ybu (yay I.lt hb),I.nofs hb,.inr (yaZ I.sz hb),λx c e z=>?_,λp hp z=>?_⟩
 ·obtain⟨v,q⟩:=I.cell x c e
  exact absurd (yay q.lt (by rw[z];exact hb)) (ybC _)
 ·exact absurd (yay (yae (I.pin p hp).1) (by rw[z];exact hb)) (ybC _)
structure qhL (P:yag) (w:World) (K:yad) (tg:Expr) (J:It) (fp:List Addr) (it:Addr) (tn:Nat->Heap->Prop):Prop where
 mem:it∈fp
 obj:∀i h,tn i h->∀b∈fp,∃o,h.get? b=some o/\∀v,o.data ≠ .cell v
 keep:∀i h h',tn i h->(∀b∈fp,∀o,h.get? b=some o->h'.get? b=some o)->tn i h'
 item:∀(X:Cx),X.prog=P->X.w=w->X.K=K->X.calm=true->∀(i:Nat)(pins:List (Addr×Obj))(s:yaa)(σ:St)(H:Hp)(E:Value->yaa->Prop),Inv X pins σ H s->(∀b∈fp,qbc X pins H b)->tn i s.heap->J.go i H ->
  wpAny (model P w) X.A (yct (.ref it)) (λr s1=>∃u,r=some u /\
   wpAny (model P w) X.A (ybT tg (.ref it) u) (λ_ s2=>∃x H',Inv X pins σ H' s2/\jp x u/\J.yld i H x H'/\tn (i+1) s2.heap/\∀b∈fp,H' b=none) E s1) E s
 done:∀(X:Cx),X.prog=P->X.w=w->X.K=K->X.calm=true->∀(i:Nat)(pins:List (Addr×Obj))(s:yaa)(σ:St)(H:Hp)(E:Value->yaa->Prop),Inv X pins σ H s->(∀b∈fp,qbc X pins H b)->tn i s.heap->J.stop i H ->
  wpAny (model P w) X.A (yct (.ref it)) (λr s1=>r=none/\Inv X pins σ H s1) E s
 self:∀(A:yal)(i:Nat)(s:yaa)(Q:Value->yaa->Prop)(E:Value->yaa->Prop),tn i s.heap->Q (.ref it) s->wpAny (model P w) A (yeU (.ref it)) Q E s
abbrev TI:=St->Hp->(It->Hp->Prop)->Prop
def PIE (X:Cx) (pins:List (Addr×Obj)) (σ:St) (tg:Expr) (R:It->Hp->Prop) (itv:Value) (s2:yaa):Prop :=
 ∃(it:Addr)(fp:List Addr)(tn:Nat->Heap->Prop)(J:It)(H':Hp),itv=.ref it/\Inv X pins σ H' s2/\qhL X.prog X.w X.K tg J fp it tn/\tn 0 s2.heap/\(∀b∈fp,qbc X pins H' b)/\R J H'
def PI (X:Cx) (tg iter:Expr) (wi:TI):Prop :=
 ∀ (pins:List (Addr×Obj)) (s:yaa) (σ:St) (H:Hp) (R:It->Hp->Prop),Inv X pins σ H s->wi σ H R ->
  wpAny (model X.prog X.w) X.A (eval iter X.env) (λv s1=>wpAny (model X.prog X.w) X.A (yeU v) (PIE X pins σ tg R) X.xe s1) X.xe s
theorem qd8 {M:Model} {A:yal} {E:Value->yaa->Prop} {s:yaa} {tg:Expr} {it:Addr} {u:Value} {o:Obj} {n:String} {vs:Array Value} {Q:Unit->yaa->Prop} (ho:s.heap.get? it=some o) (hc:o.cls=.type n) (hd:o.data=.fields vs)
  (hn:["enumerate","zip","dict_itemiterator","dict_reverseitemiterator","odict_iterator","itertools.zip_longest","itertools.pairwise"].contains n=false) (hQ:Q () s):wpAny M A (ybT tg (.ref it) u) Q E s:=by
 unfold ybT
 cases tg<;>first
  |exact yam hQ
  | (cases u<;>first
    |exact yam hQ
    | (refine yab (wpAny_load ho ?_)
       rw[hc,hd]
       show wpAny M A (if(["enumerate","zip","dict_itemiterator","dict_reverseitemiterator","odict_iterator","itertools.zip_longest","itertools.pairwise"].contains n&&vs[0]? == some (ybK _))=true then _ else _) Q E s
       rw[if_neg (by intro h;rw[hn,yej]at h;cases h)]
       exact yam hQ))
def Itl (K:yad) (a:Addr):It :=
 ⟨λi H=>∃xs x,SqL K H a xs/\xs[i]? = some x,λi H x H'=>H'=H/\∀xs,SqL K H a xs->xs[i]? = some x,λi H=>∃xs,SqL K H a xs/\xs.length<=i⟩
def Itt (K:yad) (a:Addr):It :=
 ⟨λi H=>∃xs x,SqT K H a xs/\xs[i]? = some x,λi H x H'=>H'=H/\∀xs,SqT K H a xs->xs[i]? = some x,λi H=>∃xs,SqT K H a xs/\xs.length<=i⟩
def Itr(lo:Int)(n:Nat):It:=⟨λi _=>i<n,λi H x H'=>H'=H/\x=.int (lo+i),λi _=>n<=i⟩
theorem qd9 {P:yag} {w:World} {K:yad} {tg:Expr} (a it:Addr):qhL P w K tg (Itl K a) [it] it (λi h=>h.IsListIter it a i) where
 mem:=by simp
 obj:=λi h st b hb=>by
  have e:b=it:=by simpa using hb
  subst e
  obtain⟨o,e,c,d⟩:=st
  exact⟨o,e,λv z=>by rw[d]at z;cases z⟩
 keep:=λi h h' st k=>st.at λo e=>k it (by simp) o e
 item:=by
  intro X hP hw hK hc i pins s σ H E I hf st hg
  subst hP hw hK
  obtain⟨xs,x,hq,hx⟩:=hg
  obtain⟨its,rv,p,hz⟩:=I.list hq
  obtain⟨u,hu,ru⟩:=rv.get hx
  obtain⟨f0,f1,f2,f3,f4,f5⟩:=hf it (by simp)
  refine wpAny_pyNext_list_item st p.isList (x:=u) (by simpa using hu) λh' st' sb=>?_
  have I1:Inv X pins σ H {s with heap:=h' }:=I.turned (t':=s.toks) (λb o hb e=>(sb.2 b hb).trans e) f0 f1 f3 f4 f5
  obtain⟨o,e,c,d⟩:=id st'
  exact⟨u,rfl,qd8 (s:={s with heap:=h' }) e c d (by decide) ⟨x,H,I1,ru,⟨rfl,λys hy=>by rw[I.list_inj hy hq];exact hx⟩,st',λb hb=>(hf b hb).1⟩⟩
 done:=by
  intro X hP hw hK hc i pins s σ H E I hf st hg
  subst hP hw hK
  obtain⟨xs,hq,hx⟩:=hg
  obtain⟨its,rv,p,hz⟩:=I.list hq
  obtain⟨f0,f1,f2,f3,f4,f5⟩:=hf it (by simp)
  have hl:=rv.length
  exact wpAny_pyNext_list_end (I.ok.hd hc) st p.isList (by simp;omega) λh' eb=>⟨rfl,I.turned (t':=s.toks) (λb o hb e=>eb b o hb e) f0 f1 f3 f4 f5⟩
 self:=λ_ _ _ _ _ st h=>wpAny_pyIter_listiter st h
theorem qdi {P:yag} {w:World} {K:yad} {tg:Expr} (a it:Addr):qhL P w K tg (Itt K a) [it] it (λi h=>h.IsTupleIter it a i) where
 mem:=by simp
 obj:=λi h st b hb=>by
  have e:b=it:=by simpa using hb
  subst e
  obtain⟨o,e,c,d⟩:=st
  exact⟨o,e,λv z=>by rw[d]at z;cases z⟩
 keep:=λi h h' st k=>st.at λo e=>k it (by simp) o e
 item:=by
  intro X hP hw hK hc i pins s σ H E I hf st hg
  subst hP hw hK
  obtain⟨xs,x,hq,hx⟩:=hg
  obtain⟨its,rv,p,hz⟩:=I.tuple hq
  obtain⟨u,hu,ru⟩:=rv.get hx
  obtain⟨f0,f1,f2,f3,f4,f5⟩:=hf it (by simp)
  refine wpAny_pyNext_tuple_item st (show s.heap.IsTuple a its.toArray from p) (x:=u) (by simpa using hu) λh' st' sb=>?_
  have I1:Inv X pins σ H {s with heap:=h' }:=I.turned (t':=s.toks) (λb o hb e=>(sb.2 b hb).trans e) f0 f1 f3 f4 f5
  obtain⟨o,e,c,d⟩:=id st'
  exact⟨u,rfl,qd8 (s:={s with heap:=h' }) e c d (by decide) ⟨x,H,I1,ru,⟨rfl,λys hy=>by rw[I.tuple_inj hy hq];exact hx⟩,st',λb hb=>(hf b hb).1⟩⟩
 done:=by
  intro X hP hw hK hc i pins s σ H E I hf st hg
  subst hP hw hK
  obtain⟨xs,hq,hx⟩:=hg
  obtain⟨its,rv,p,hz⟩:=I.tuple hq
  obtain⟨f0,f1,f2,f3,f4,f5⟩:=hf it (by simp)
  have hl:=rv.length
  exact wpAny_pyNext_tuple_end (I.ok.hd hc) st (show s.heap.IsTuple a its.toArray from p) (by simp;omega) λh' eb=>⟨rfl,I.turned (t':=s.toks) (λb o hb e=>eb b o hb e) f0 f1 f3 f4 f5⟩
 self:=λ_ _ _ _ _ st h=>wpAny_pyIter_tupleiter st h
theorem qdj {P:yag} {w:World} {K:yad} {tg:Expr} (it:Addr) (lo:Int) (n:Nat):qhL P w K tg (Itr lo n) [it] it (λi h=>ycu h it (lo+(i:Nat)*1) ((n:Int)-(i:Nat)) 1) where
 mem:=by simp
 obj:=λi h st b hb=>by
  have e:b=it:=by simpa using hb
  subst e
  exact ⟨_,st,λv z=>by
   have z':yb6 _=ycc v:=z
   cases z'⟩
 keep:=λi h h' st k=>k it (by simp) _ st
 item:=by
  intro X hP hw hK hc i pins s σ H E I hf st hg
  subst hP hw hK
  obtain⟨f0,f1,f2,f3,f4,f5⟩:=hf it (by simp)
  have W:=Walks.range (prog:=X.prog) (w:=X.w) (I.ok.hd hc) it lo 1 n
  refine W.item i s _ _ hg st λv h' tk hv st' kk=>?_
  obtain⟨t,rfl⟩:=hv
  have I1:Inv X pins σ H {s with heap:=h',toks:=tk}:=I.turned (λb o hb e=>kk b o (by simpa using hb) e) f0 f1 f3 f4 f5
  refine⟨_,rfl,qd8 (s:={s with heap:=h',toks:=tk}) (n:="range_iterator") st' rfl rfl (by decide) ⟨.int (lo+i),H,I1,⟨t,?_⟩,⟨rfl,rfl⟩,st',λb hb=>(hf b hb).1⟩⟩
  rw[Int.mul_one]
 done:=by
  intro X hP hw hK hc i pins s σ H E I hf st hg
  subst hP hw hK
  obtain⟨f0,f1,f2,f3,f4,f5⟩:=hf it (by simp)
  exact wpAny_pyNext_range_end (I.ok.hd hc) st (by have:n<=i:=hg;omega) λh' eb=>⟨rfl,I.turned (t':=s.toks) (λb o hb e=>eb b o hb e) f0 f1 f3 f4 f5⟩
 self:=λ_ _ _ _ _ st h=>yed st h
end L2
namespace L2
open PySem PySem.Spec PyProof.Rows
section
variable{X:Cx}{tg:Expr}
theorem qf2 {pins:List (Addr×Obj)} {σ:St} {H:Hp} {s:yaa} {R:It->Hp->Prop} {E:Value->yaa->Prop} {lo hi:Int} {t u v:Tok} {tk:Nat} (I:Inv X pins σ H s) (h1 : -(2 ^ 62)<=lo) (h2:lo<2 ^ 62) (h3 : -(2 ^ 62)<=hi) (h4:hi<2 ^ 62)
  (q:R (Itr lo (hi-lo).toNat) H):wpAny (model X.prog X.w) X.A (yeU (.ref s.heap.objs.size)) (PIE X pins σ tg R) E {s with heap:=s.heap.push {cls:=.type "range",data:=.fields #[.int lo t,.int hi u,.int 1 v]},toks:=tk}:=by
 refine yeV (IsRange.new ..) (small_one h1 h2 h3 h4) ?_
 have I1:Inv X pins σ H {s with heap:=s.heap.push {cls:=.type "range",data:=.fields #[.int lo t,.int hi u,.int 1 v]},toks:=tk}:=I.kept λb o e=>Heap.get?_push_of_some _ e
 refine ⟨(s.heap.push {cls:=.type "range",data:=.fields #[.int lo t,.int hi u,.int 1 v]}).objs.size,[(s.heap.push {cls:=.type "range",data:=.fields #[.int lo t,.int hi u,.int 1 v]}).objs.size],_,_,H,rfl,
  I1.kept (t':=tk) λb o e=>Heap.get?_push_of_some _ e,qdj _ lo (hi-lo).toNat,?_,λb hb=>?_,q⟩
 ·have e1:lo+((0:Nat):Int)*1=lo:=by simp
  have e2:(((hi-lo).toNat:Nat):Int)-((0:Nat):Int)=yd1 lo hi 1:=by rw[rangeSize_one];split<;>omega
  show ycu _ _ (lo+((0:Nat):Int)*1) ((((hi-lo).toNat:Nat):Int)-((0:Nat):Int)) 1
  rw[e1,e2]
  exact Heap.get?_push_size _ rfl
 ·have e:b=(s.heap.push {cls:=.type "range",data:=.fields #[.int lo t,.int hi u,.int 1 v]}).objs.size:=by simpa using hb
  subst e
  exact I1.fpOk (yak _) (I1.hok.fresh (yak _))
def qjK(ta:TA):TI:=λσ H R=>ta σ H λvs H1=>∃j:Int,vs=[.int j] /\ -(2 ^ 62)<=j/\j<2 ^ 62/\R (Itr 0 j.toNat) H1
theorem qea {a:Expr} {ta:TA} {p pos:Pos} (hg:Gl X "range") (hm:X.mg "range"=none) (ha:PA X [a] ta) (hs:yac [a] X.env=[(false,eval a X.env)]:=by rfl):PI X tg (.Call (.Name "range" p) [a] [] pos) (qjK ta):=by
 intro pins s σ H R I h
 refine Call_ (v7 I hg hm boot_range (ybc (thn (ha pos pins s σ H _ I h) λus s1 ⟨vs,H1,I1,r1,q1⟩=>?_) hs rfl))
 obtain⟨j,e,q1,q2,q⟩:=q1
 subst e
 cases r1 with
 |cons r rr=>
  cases rr
  obtain⟨t,rfl⟩:=r
  exact call_range_1 (qf2 I1 (by omega) (by omega) q1 q2 (by simpa using q))
def qm7 (wi:TI) (g:TG) (tb:TS):TS:=λD σ H=>wi σ H λJ H1=>∃W:Nat->Nat->St->Hp->Prop,(∃m,W 0 m σ H1)/\∀i m σ H,W i m σ H ->
 (J.stop i H/\D.nx σ H)\/(J.go i H/\∃N:St->Hp->Prop,(∀σ' H',N σ' H'->∃m',m'<m/\W (i+1) m' σ' H')/\∀x H',J.yld i H x H'->g x σ H' λσ2 H2=>tb {D with nx:=N,ct:=N,bk:=D.nx} σ2 H2)
def qad(fp:List Addr)(h:Heap):List (Addr×Obj):=fp.filterMap λb=>(h.get? b).map λo=>(b,o)
theorem ya{fp:List Addr}{h:Heap}{b:Addr}{o:Obj}(hb:b∈fp)(e:h.get? b=some o):(b,o)∈qad fp h:=List.mem_filterMap.mpr ⟨b,hb,by rw[e];rfl⟩
theorem qeb {fp:List Addr} {h:Heap} {p:Addr×Obj} (hp:p∈qad fp h):p.1∈fp/\h.get? p.1=some p.2:=by
 obtain⟨b,hb,e⟩:=List.mem_filterMap.mp hp
 cases q:h.get? b with
 |none=>rw[q]at e;cases e
 |some o=>
  rw[q]at e
  have e':(b,o)=p:=yax e
  subst e'
  exact⟨hb,q⟩
theorem Inv.pinned {pins:List (Addr×Obj)} {σ:St} {H:Hp} {s:yaa} {fp:List Addr} (I:Inv X pins σ H s) (hf:∀b∈fp,qbc X pins H b) (ho:∀b∈fp,∃o,s.heap.get? b=some o/\∀v,o.data ≠ .cell v):Inv X (pins++qad fp s.heap) σ H s :=
 I.pins_of λp hp=>(mA_.mp hp).elim (λz=>I.pin p (mr_ _ z)) λz=>by
  obtain⟨hb,e⟩:=qeb z
  obtain⟨f0,f1,f2,_⟩:=hf p.1 hb
  obtain⟨o,e',d⟩:=ho p.1 hb
  rw[e]at e';cases e'
  exact⟨e,f0,f1,f2,d⟩
theorem Inv.unpinned{pins pl:List (Addr×Obj)}{σ:St}{H:Hp}{s:yaa}(I:Inv X (pins++pl) σ H s):Inv X pins σ H s:=I.pins_of λp hp=>I.pin p (mr_ _ (yb0 _ hp))
theorem qjL {iter:Expr} {body:List Stmt} {wi:TI} {g:TG} {tb:TS} {pos:Pos} (hp:yd4 (model X.prog X.w) X.A X.env X.xe) (hc:X.calm=true) (hi:PI X tg iter wi) (hg:PG X tg g) (hb:PSs X body tb)
  (hs:∀x,ybF iter X.env x=pure x:=by intro _;rfl):PS X (.For tg iter body [] pos) (qm7 wi g tb):=by
 intro pins s σ H D I h
 refine wpAny_For (thn (hi pins s σ H _ I h) λv s1 h1=>thn h1 λitv s2 h2=>?_) hs
 obtain⟨it,fp,tn,J,H2,e,I2,T,st2,f2,W,⟨m0,w0⟩,turn⟩:=h2
 subst e
 have stat:∀{H':Hp},(∀b∈fp,H' b=none)->∀b∈fp,qbc X pins H' b:=λhn b hb=>⟨hn b hb,(f2 b hb).2⟩
 refine codeAny_forLoop_any (λn s'=>∃i σ' H',Inv X pins σ' H' s'/\tn i s'.heap/\(∀b∈fp,H' b=none)/\W i n σ' H') ?_ m0 ⟨0,σ,H2,I2,st2,λb hb=>(f2 b hb).1,w0⟩
 rintro n s3 ⟨i,σ3,H3,I3,st3,fr3,w3⟩
 rcases turn i n σ3 H3 w3 with⟨stop,qn⟩|⟨go,N,hN,step⟩
 ·refine ybz hp (thn (T.done X rfl rfl rfl hc i pins s3 σ3 H3 X.xe I3 (stat fr3) st3 stop) λr s4 ⟨hr,I4⟩=>?_)
  subst hr
  exact ybS ⟨σ3,H3,I4,qn⟩
 ·refine ybz hp (thn (T.item X rfl rfl rfl hc i pins s3 σ3 H3 X.xe I3 (stat fr3) st3 go) λr s4 ⟨u,hr,h4⟩=>?_)
  subst hr
  refine ybz hp (thn h4 λ_ s5 ⟨x,H5,I5,r5,y5,st5,fr5⟩=>?_)
  have I5':=I5.pinned (stat fr5) (T.obj _ _ st5)
  refine ybz hp (thn (hg _ s5 σ3 H5 x u _ I5' r5 (step x H5 y5)) λ_ s6 ⟨σ6,H6,I6,q6⟩=>?_)
  refine ybz hp (thn (hb _ s6 σ6 H6 _ I6 q6) λf s7 q7=>?_)
  have again:∀{σ7:St}{H7:Hp},Inv X (pins++qad fp s5.heap) σ7 H7 s7->N σ7 H7->∃m,m<n/\∃i σ' H',Inv X pins σ' H' s7/\tn i s7.heap/\(∀b∈fp,H' b=none)/\W i m σ' H':=λ{σ7 H7} I7 n7=>by
   obtain⟨m',hm,w7⟩:=hN σ7 H7 n7
   refine⟨m',hm,i+1,σ7,H7,I7.unpinned,T.keep _ _ _ st5 λb hb o e=>(I7.pin (b,o) (mr_ _ (mr_ _ (ya hb e)))).1,λb hb=>?_,w7⟩
   obtain⟨o,e,d⟩:=T.obj _ _ st5 b hb
   exact(I7.pin (b,o) (mr_ _ (mr_ _ (ya hb e)))).2.1
  cases f with
  |next=>obtain⟨σ7,H7,I7,n7⟩:=q7;exact again I7 n7
  |cont=>obtain⟨σ7,H7,I7,n7⟩:=q7;exact again I7 n7
  |brk=>obtain⟨σ7,H7,I7,q7⟩:=q7;exact⟨σ7,H7,I7.unpinned,q7⟩
  |ret v=>obtain⟨x7,σ7,H7,I7,r7,q7⟩:=q7;exact⟨x7,σ7,H7,I7.unpinned,r7,q7⟩
end
end L2
namespace L2
open PySem PySem.Spec PyProof.Rows
abbrev R2:=V->V->Hp->VK->Prop
def OpR (X:Cx) (f:Value->Value->Sem Value) (r:R2):Prop :=
 ∀ (pins:List (Addr×Obj)) (s:yaa) (σ:St) (H:Hp) (x y:V) (v u:Value) (Q:VK),Inv X pins σ H s->jp x v->jp y u->r x y H Q ->
  wpAny (model X.prog X.w) X.A (f v u) (EP X pins σ Q) X.xe s
def UnR (X:Cx) (f:Value->Sem Value) (r:V->Hp->VK->Prop):Prop :=
 ∀ (pins:List (Addr×Obj)) (s:yaa) (σ:St) (H:Hp) (x:V) (v:Value) (Q:VK),Inv X pins σ H s->jp x v->r x H Q ->
  wpAny (model X.prog X.w) X.A (f v) (EP X pins σ Q) X.xe s
def yM (X:Cx) (f:Value) (r:List V->Hp->VK->Prop):Prop :=
 ∀ (pins:List (Addr×Obj)) (s:yaa) (σ:St) (H:Hp) (xs:List V) (us:List Value) (Q:VK),Inv X pins σ H s->ze xs us->r xs H Q ->
  wpAny (model X.prog X.w) X.A (call f us) (EP X pins σ Q) X.xe s
def tOp(r:R2)(ta tb:TE):TE:=λσ H Q=>ta σ H λx H1=>tb σ H1 λy H2=>r x y H2 Q
def tUn(r:V->Hp->VK->Prop)(ta:TE):TE:=λσ H Q=>ta σ H λx H1=>r x H1 Q
def rI(C:Int->Int->Prop)(g:Int->Int->V):R2:=λx y H Q=>∃i j,x=.int i/\y=.int j/\C i j/\Q (g i j) H
def rI0(g:Int->Int->V):R2:=λx y H Q=>∃i j,x=.int i/\y=.int j/\Q (g i j) H
def rU(g:Int->V):V->Hp->VK->Prop:=λx H Q=>∃i,x=.int i/\Q (g i) H
section
variable{X:Cx}{a b c:Expr}{ta tb tc:TE}{pos:Pos}
theorem qlR (ha:PE X a ta) (hb:PE X b tb) {pins:List (Addr×Obj)} {s:yaa} {σ:St} {H:Hp} {R:V->V->Hp->Prop} (I:Inv X pins σ H s)
  (h:ta σ H λx H1=>tb σ H1 λy H2=>R x y H2) {Q:Value->yaa->Prop} {f:Value->Value->Sem Value}
  (hf:∀v u s2 x y H2,Inv X pins σ H2 s2->jp x v->jp y u->R x y H2->wpAny (model X.prog X.w) X.A (f v u) Q X.xe s2) :
  wpAny (model X.prog X.w) X.A (eval a X.env) (λv sQ=>wpAny (model X.prog X.w) X.A (eval b X.env) (λu sK=>wpAny (model X.prog X.w) X.A (f v u) Q X.xe sK) X.xe sQ) X.xe s:=by
 refine thn (ha pins s σ H _ I h) λv s1 ⟨x,H1,I1,r1,q1⟩=>?_
 refine thn (hb pins s1 σ H1 _ I1 q1) λu s2 ⟨y,H2,I2,r2,q2⟩=>?_
 exact hf v u s2 x y H2 I2 r1 r2 q2
theorem qlS {op:Operator} {r:R2} (ho:OpR X (ya9 op) r) (ha:PE X a ta) (hb:PE X b tb):PE X (.BinOp a op b pos) (tOp r ta tb):=by
 intro pins s σ H Q I h
 exact wpAny_BinOp (qlR ha hb I h λv u s2 x y H2 I2 rx ry q=>ho pins s2 σ H2 x y v u Q I2 rx ry q)
theorem qlT {op:UnaryOp} {r:V->Hp->VK->Prop} (ho:UnR X (unaryOp op) r) (ha:PE X a ta):PE X (.UnaryOp op a pos) (tUn r ta):=by
 intro pins s σ H Q I h
 exact UnaryOp_ (thn (ha pins s σ H _ I h) λv s1 ⟨x,H1,I1,r1,q1⟩=>ho pins s1 σ H1 x v Q I1 r1 q1)
theorem opI {f:Value->Value->Sem Value} {C:Int->Int->Prop} {g:Int->Int->Int}
  (rule:∀(i j:Int)(t u:Tok)(s:yaa)(Q:Value->yaa->Prop)(E:Value->yaa->Prop),C i j->Q (.int (g i j) s.toks) {s with toks:=s.toks+1}->wpAny (model X.prog X.w) X.A (f (.int i t) (.int j u)) Q E s) :
  OpR X f (rI C λi j => .int (g i j)):=by
 intro pins s σ H x y v u Q I rx ry h
 obtain⟨i,j,rfl,rfl,hc,q⟩:=h
 obtain⟨t,rfl⟩:=rx
 obtain⟨t',rfl⟩:=ry
 exact rule i j t t' s _ _ hc ⟨.int (g i j),H,I.tok _,⟨_,rfl⟩,q⟩
theorem qmC {f:Value->Value->Sem Value} {g:Int->Int->Int}
  (rule:∀(i j:Int)(t u:Tok)(s:yaa)(Q:Value->yaa->Prop)(E:Value->yaa->Prop),Q (.int (g i j) s.toks) {s with toks:=s.toks+1}->wpAny (model X.prog X.w) X.A (f (.int i t) (.int j u)) Q E s) :
  OpR X f (rI0 λi j => .int (g i j)):=by
 intro pins s σ H x y v u Q I rx ry h
 obtain⟨i,j,rfl,rfl,q⟩:=h
 obtain⟨t,rfl⟩:=rx
 obtain⟨t',rfl⟩:=ry
 exact rule i j t t' s _ _ ⟨.int (g i j),H,I.tok _,⟨_,rfl⟩,q⟩
theorem qlU {f:Value->Value->Sem Value} {g:Int->Int->Bool}
  (rule:∀(i j:Int)(t u:Tok)(s:yaa)(Q:Value->yaa->Prop)(E:Value->yaa->Prop),Q (.bool (g i j)) s->wpAny (model X.prog X.w) X.A (f (.int i t) (.int j u)) Q E s) :
  OpR X f (rI0 λi j => .bl (g i j)):=by
 intro pins s σ H x y v u Q I rx ry h
 obtain⟨i,j,rfl,rfl,q⟩:=h
 obtain⟨t,rfl⟩:=rx
 obtain⟨t',rfl⟩:=ry
 exact rule i j t t' s _ _ ⟨.bl (g i j),H,I,rfl,q⟩
def qjM(i j:Int):Prop:=0<j/\j<1606938044258990275541962092341162602522202993782792835301376
theorem qmD {i j:Int} (h1:0<j) (h2:j<1606938044258990275541962092341162602522202993782792835301376):Builtin.divisionGoesByPylong i j=false:=by
 refine PyProof.noPylong_of_log2 ?_
 have h0:j.natAbs≠0:=by omega
 have h3:j.natAbs<2 ^ 200:=by
   have:(2:Nat) ^ 200=1606938044258990275541962092341162602522202993782792835301376:=by decide +kernel
   omega
 have:=(Nat.log2_lt h0).mpr h3
 omega
def qmE(i j:Int):Prop:=0<=j/\j<=1000000/\i.natAbs<2 ^ 64
def qjN(i j:Int):Prop:=(-(2 ^ 64)<i/\i<2 ^ 64)\/(-(2 ^ 64)<j/\j<2 ^ 64)
theorem qjN.ok {i j:Int} (h:qjN i j):IntMulOk i j:=by
 rcases h with⟨h1,h2⟩|⟨h1,h2⟩
 ·exact .of_left (intBits_le_64 h1 h2)
 ·exact .of_right (intBits_le_64 h1 h2)
theorem qjO:OpR X (ya9 .Add) (rI0 λi j => .int (i+j)):=qmC λ_ _ _ _ _ _ _ q=>add_int q
theorem qg0:OpR X (ya9 .Sub) (rI0 λi j => .int (i-j)):=qmC λ_ _ _ _ _ _ _ q=>sub_int q
theorem qjP:OpR X (ya9 .Mult) (rI qjN λi j => .int (i*j)):=opI λ_ _ _ _ _ _ _ hc q=>mul_int q hc.ok
theorem qbX:OpR X (ya9 .FloorDiv) (rI qjM λi j => .int (i/j)):=opI λi j _ _ _ _ _ hc q=>by
 have h1:(0:Int)<j:=hc.1
 have h2:j<1606938044258990275541962092341162602522202993782792835301376:=hc.2
 exact floordiv_int (by omega) (by rw[ydt i (by omega)];exact q) (.inl (qmD h1 h2))
theorem vJ:OpR X (ya9 .Mod) (rI (λ_ j=>0<j) λi j => .int (i%j)):=opI λi j _ _ _ _ _ hc q=>by
 have h1:(0:Int)<j:=hc
 exact mod_int' (by omega) (by rw[ydu i (by omega)];exact q)
theorem qg1:OpR X (ya9 .Pow) (rI qmE λi j => .int (i ^ j.toNat)):=opI λ_ _ _ _ _ _ _ hc q=>pow_int_small hc.1 hc.2.1 hc.2.2 q
theorem unI {f:Value->Sem Value} {g:Int->Int}
  (rule:∀(i:Int)(t:Tok)(s:yaa)(Q:Value->yaa->Prop)(E:Value->yaa->Prop),Q (.int (g i) s.toks) {s with toks:=s.toks+1}->wpAny (model X.prog X.w) X.A (f (.int i t)) Q E s) :
  UnR X f (rU λi => .int (g i)):=by
 intro pins s σ H x v Q I rx h
 obtain⟨i,rfl,q⟩:=h
 obtain⟨t,rfl⟩:=rx
 exact rule i t s _ _ ⟨.int (g i),H,I.tok _,⟨_,rfl⟩,q⟩
theorem qjQ:UnR X (unaryOp .USub) (rU λi => .int (-i)):=unI λ_ _ _ _ _ q=>neg_int q
end
def qlV:V->V->Bool
 |.non,.non=>true|.non,.int _=>true|.int _,.non=>true|.non,.bl _=>true|.bl _,.non=>true|.non,.str _=>true|.str _,.non=>true
 |.int _,.int _=>true|.bl _,.bl _=>true|.str _,.str _=>true|.byt _,.byt _=>true
 |.int _,.str _=>true|.str _,.int _=>true|.bl _,.str _=>true|.str _,.bl _=>true
 |_,_=>false
def rEq:R2:=λx y H Q=>qlV x y=true/\Q (.bl (decide (x=y))) H
def rNe:R2:=λx y H Q=>qlV x y=true/\Q (.bl (!decide (x=y))) H
theorem qec {i j:Int}:decide (V.int i=V.int j)=(i==j):=by
 rw[yb9]
 simp
theorem qg2 {i j:Bool}:decide (V.bl i=V.bl j)=(i==j):=by
 rw[yb9]
 simp
theorem qed {i j:Str}:decide (V.str i=V.str j)=(i==j):=by
 rw[yb9]
 simp
theorem qee {i j:Array UInt8}:decide (V.byt i=V.byt j)=(i.toList==j.toList):=by
 rw[yb9]
 cases i
 cases j
 simp
section
variable{X:Cx}{a b c:Expr}{ta tb tc:TE}{pos:Pos}
theorem zb {pins:List (Addr×Obj)} {σ:St} {H:Hp} {s:yaa} {Q:VK} {k k':Bool} (I:Inv X pins σ H s) (q:Q (.bl k) H) (e:k=k'):EP X pins σ Q (.bool k') s:=by
 subst e
 exact⟨.bl k,H,I,rfl,q⟩
theorem qjR:OpR X (yaV .Eq) rEq:=by
 intro pins s σ H x y v u Q I rx ry h
 obtain⟨hs,q⟩:=h
 cases x with
 |non=>
  cases rx
  cases y with
  |non=>cases ry;exact PySem.EqNone.eq_none_none (zb I q (by simp))
  |bl j=>cases ry;exact PySem.EqNone.eq_none_bool (zb I q (by simp))
  |int j=>obtain⟨t',rfl⟩:=ry;exact PySem.EqNone.eq_none_int (zb I q (by simp))
  |str j=>obtain⟨t',rfl⟩:=ry;exact PySem.EqNone.eq_none_str (zb I q (by simp))
  |_=>exact absurd (show false=true from hs) yar
 |bl i=>
  cases rx
  cases y with
  |non=>cases ry;exact PySem.EqNone.eq_bool_none (zb I q (by simp))
  |bl j=>cases ry;exact eq_bool (zb I q qg2)
  |str j=>obtain⟨t',rfl⟩:=ry;exact PySem.EqMixed.eq_bool_str (zb I q (by simp))
  |_=>exact absurd (show false=true from hs) yar
 |int i=>
  obtain⟨t,rfl⟩:=rx
  cases y with
  |non=>cases ry;exact PySem.EqNone.eq_int_none (zb I q (by simp))
  |int j=>obtain⟨t',rfl⟩:=ry;exact eq_int (zb I q qec)
  |str j=>obtain⟨t',rfl⟩:=ry;exact PySem.EqMixed.eq_int_str (zb I q (by simp))
  |_=>exact absurd (show false=true from hs) yar
 |str i=>
  obtain⟨t,rfl⟩:=rx
  cases y with
  |non=>cases ry;exact PySem.EqNone.eq_str_none (zb I q (by simp))
  |bl j=>cases ry;exact PySem.EqMixed.eq_str_bool (zb I q (by simp))
  |int j=>obtain⟨t',rfl⟩:=ry;exact PySem.EqMixed.eq_str_int (zb I q (by simp))
  |str j=>obtain⟨t',rfl⟩:=ry;exact eq_str (zb I q qed)
  |_=>exact absurd (show false=true from hs) yar
 |byt i=>
  obtain⟨t,rfl⟩:=rx
  cases y with
  |byt j=>obtain⟨t',rfl⟩:=ry;exact PySem.W.eq_bytes (zb I q qee)
  |_=>exact absurd (show false=true from hs) yar
 |_=>cases y<;>exact absurd (show false=true from hs) yar
theorem qlW:OpR X (yaV .NotEq) rNe:=by
 intro pins s σ H x y v u Q I rx ry h
 obtain⟨hs,q⟩:=h
 cases x with
 |non=>
  cases rx
  cases y with
  |non=>cases ry;exact PySem.EqNone.ne_none_none (zb I q (by simp))
  |bl j=>cases ry;exact PySem.EqNone.ne_none_bool (zb I q (by simp))
  |int j=>obtain⟨t',rfl⟩:=ry;exact PySem.EqNone.ne_none_int (zb I q (by simp))
  |str j=>obtain⟨t',rfl⟩:=ry;exact PySem.EqNone.ne_none_str (zb I q (by simp))
  |_=>exact absurd (show false=true from hs) yar
 |bl i=>
  cases rx
  cases y with
  |non=>cases ry;exact PySem.EqNone.ne_bool_none (zb I q (by simp))
  |bl j=>cases ry;exact ne_bool (zb I q (congrArg not qg2))
  |str j=>obtain⟨t',rfl⟩:=ry;exact PySem.EqMixed.ne_bool_str (zb I q (by simp))
  |_=>exact absurd (show false=true from hs) yar
 |int i=>
  obtain⟨t,rfl⟩:=rx
  cases y with
  |non=>cases ry;exact PySem.EqNone.ne_int_none (zb I q (by simp))
  |int j=>obtain⟨t',rfl⟩:=ry;exact ne_int (zb I q (congrArg not qec))
  |str j=>obtain⟨t',rfl⟩:=ry;exact PySem.EqMixed.ne_int_str (zb I q (by simp))
  |_=>exact absurd (show false=true from hs) yar
 |str i=>
  obtain⟨t,rfl⟩:=rx
  cases y with
  |non=>cases ry;exact PySem.EqNone.ne_str_none (zb I q (by simp))
  |bl j=>cases ry;exact PySem.EqMixed.ne_str_bool (zb I q (by simp))
  |int j=>obtain⟨t',rfl⟩:=ry;exact PySem.EqMixed.ne_str_int (zb I q (by simp))
  |str j=>obtain⟨t',rfl⟩:=ry;exact ne_str (zb I q (congrArg not qed))
  |_=>exact absurd (show false=true from hs) yar
 |byt i=>
  obtain⟨t,rfl⟩:=rx
  cases y with
  |byt j=>obtain⟨t',rfl⟩:=ry;exact PySem.W.ne_bytes (zb I q (congrArg not qee))
  |_=>exact absurd (show false=true from hs) yar
 |_=>cases y<;>exact absurd (show false=true from hs) yar
theorem qf3:OpR X (yaV .Lt) (rI0 λi j => .bl (decide (i<j))):=qlU λ_ _ _ _ _ _ _ q=>lt_int q
theorem qhM:OpR X (yaV .Gt) (rI0 λi j => .bl (decide (j<i))):=qlU λ_ _ _ _ _ _ _ q=>gt_int q
theorem qjS:OpR X (yaV .GtE) (rI0 λi j => .bl (decide (j<=i))):=qlU λ_ _ _ _ _ _ _ q=>ge_int q
theorem qef:OpR X (yaV .In) (λx y H Q=>∃i j,x=.str i/\y=.str j/\Q (.bl (!(ya8 j i 0 j.length 1).isEmpty)) H):=by
 intro pins s σ H x y v u Q I rx ry h
 obtain⟨i,j,rfl,rfl,q⟩:=h
 obtain⟨t,rfl⟩:=rx
 obtain⟨t',rfl⟩:=ry
 exact in_str (zb I q rfl)
theorem qbd:OpR X (yaV .Is) (λx y H Q=>y=.non/\Q (.bl (decide (x=.non))) H):=by
 intro pins s σ H x y v u Q I rx ry h
 obtain⟨rfl,q⟩:=h
 cases ry
 refine is_none_gen (zb I q ?_)
 cases x<;>first
  |(cases rx;rfl)
  |(obtain⟨t,rfl⟩:=rx;rfl)
theorem qhN:OpR X (yaV .IsNot) (λx y H Q=>y=.non/\Q (.bl (!decide (x=.non))) H):=by
 intro pins s σ H x y v u Q I rx ry h
 obtain⟨rfl,q⟩:=h
 cases ry
 refine isnot_none_gen (zb I q ?_)
 cases x<;>first
  |(cases rx;rfl)
  |(obtain⟨t,rfl⟩:=rx;rfl)
theorem OpR.or {f:Value->Value->Sem Value} {r r':R2} (h:OpR X f r) (h':OpR X f r'):OpR X f (λx y H Q=>r x y H Q\/r' x y H Q):=by
 intro pins s σ H x y v u Q I rx ry q
 rcases q with q|q
 ·exact h pins s σ H x y v u Q I rx ry q
 ·exact h' pins s σ H x y v u Q I rx ry q
theorem qG (b:Expr) {op:CmpOp} (h:op ≠ .In:=by decide) (h2:op ≠ .NotIn:=by decide):ybO op b=false:=by
 have e1:(op==CmpOp.In)=false:=by cases op<;>first|rfl|exact absurd rfl h
 have e2:(op==CmpOp.NotIn)=false:=by cases op<;>first|rfl|exact absurd rfl h2
 cases b<;>simp[ybO,e1,e2]
theorem qhO {op:CmpOp} {r:R2} (ho:OpR X (yaV op) r) (ha:PE X a ta) (hb:PE X b tb) (hm:ybO op b=false):PE X (.Compare a [op] [b] pos) (tOp r ta tb):=by
 intro pins s σ H Q I h
 exact wpAny_Compare1 (qlR ha hb I h λv u s2 x y H2 I2 rx ry q=>ho pins s2 σ H2 x y v u Q I2 rx ry q) hm
def qlX(t:TE):TT:=λσ H Q=>t σ H λx H'=>∃k,x=.bl k/\Q k H'
theorem qeg {op:CmpOp} {r:R2} (ho:OpR X (yaV op) r) (ha:PE X a ta) (hb:PE X b tb) (hm:ybO op b=false):PT X (.Compare a [op] [b] pos) (qlX (tOp r ta tb)):=by
 intro pins s σ H Q I h
 refine yeh (thn (ha pins s σ H _ I h) λv s1 ⟨x,H1,I1,r1,q1⟩=>thn (hb pins s1 σ H1 _ I1 q1) λu s2 ⟨y,H2,I2,r2,q2⟩=>
  thn (ho pins s2 σ H2 x y v u _ I2 r1 r2 q2) λc s3 ⟨z,H3,I3,r3,k,e,q3⟩=>?_) hm
 subst e
 cases r3
 exact ybl ⟨H3,I3,q3⟩
theorem qae:(yao:Nat)<2 ^ 63:=by rw[yb7];decide
theorem qdk:OpR X (ya9 .Add) (λx y H Q=>∃i j,x=.str i/\y=.str j/\i.length+j.length<=yao/\Q (.str (i++j)) H):=by
 intro pins s σ H x y v u Q I rx ry h
 obtain⟨i,j,rfl,rfl,hz,q⟩:=h
 obtain⟨t,rfl⟩:=rx
 obtain⟨t',rfl⟩:=ry
 exact add_str (λt' tk=>⟨.str (i++j),H,I.tok _,⟨_,rfl⟩,q⟩) hz
theorem qhP {x:V} {us:List Value} (r:ze [x] us):∃u,us=[u]/\jp x u:=by
 cases r with
 |cons r1 r2=>cases r2;exact⟨_,rfl,r1⟩
theorem qhQ {x y:V} {us:List Value} (r:ze [x,y] us):∃u w',us=[u,w']/\jp x u/\jp y w':=by
 cases r with
 |cons r1 r2=>
  cases r2 with
  |cons r3 r4=>cases r4;exact⟨_,_,rfl,r1,r3⟩
theorem qeh (hc:X.calm=true):yM X (.builtin "max") (λxs H Q=>∃i j,xs=[.int i,.int j]/\Q (.int (if j>i then j else i)) H):=by
 intro pins s σ H xs us Q I r h
 obtain⟨i,j,rfl,q⟩:=h
 obtain⟨u,w',rfl,⟨t,rfl⟩,⟨t',rfl⟩⟩:=qhQ r
 refine max_two_ints (I.ok.hd hc) λh' tk k=>⟨_,H,I.kept k,?_,q⟩
 by_cases hj:j>i
 ·rw[if_pos hj,if_pos hj];exact⟨_,rfl⟩
 ·rw[if_neg hj,if_neg hj];exact⟨_,rfl⟩
theorem qei (hc:X.calm=true):yM X (.builtin "min") (λxs H Q=>∃i j,xs=[.int i,.int j]/\Q (.int (if j<i then j else i)) H):=by
 intro pins s σ H xs us Q I r h
 obtain⟨i,j,rfl,q⟩:=h
 obtain⟨u,w',rfl,⟨t,rfl⟩,⟨t',rfl⟩⟩:=qhQ r
 refine min_two_ints (I.ok.hd hc) λh' tk k=>⟨_,H,I.kept k,?_,q⟩
 by_cases hj:j<i
 ·rw[if_pos hj,if_pos hj];exact⟨_,rfl⟩
 ·rw[if_neg hj,if_neg hj];exact⟨_,rfl⟩
theorem qQ:yM X (.type "str") (λxs H Q=>∃i,xs=[.int i]/\i.natAbs.log2<1920/\Q (.str (toString i)) H):=by
 intro pins s σ H xs us Q I r h
 obtain⟨i,rfl,hz,q⟩:=h
 obtain⟨u,rfl,t,rfl⟩:=qhP r
 exact PySem.P.str_of_int hz ⟨.str _,H,I.tok _,⟨_,rfl⟩,q⟩
theorem qbY:yM X (.builtin "divmod") (λxs H Q=>∃i j,xs=[.int i,.int j]/\qjM i j/\∀p,H p=none->Q (.ref p) (upd H p (.tup [.int (i/j),.int (i%j)]))):=by
 intro pins s σ H xs us Q I r h
 obtain⟨i,j,rfl,⟨h1,h2⟩,q⟩:=h
 obtain⟨u,w',rfl,⟨t,rfl⟩,⟨t',rfl⟩⟩:=qhQ r
 refine divmod_int (by omega) ?_ (.inl (qmD h1 h2))
 rw[ydt i (by omega),ydu i (by omega)]
 have hn:H s.heap.objs.size=none:=I.hok.fresh (yak _)
 refine⟨.ref s.heap.objs.size,_,?_,rfl,q _ hn⟩
 refine I.laid (λb o e=>Heap.get?_push_of_some _ e) (yak _) ⟨by simp only[lC_,lN_];rw[yb7];decide,[.int (i/j) s.toks,.int (i%j) (s.toks+1)],.cons ⟨_,rfl⟩ (.cons ⟨_,rfl⟩ .nil),?_⟩
 exact⟨_,Heap.get?_push_size s.heap rfl,rfl,0,rfl⟩
end
end L2
namespace L2
open PySem PySem.Spec PyProof.Rows
structure qhR (h:Heap) (x dx C:Addr) (mA:Str->Option Value):Prop where
 obj:h.get? x=some (ybb C dx)
 ns:h.Ns1 dx mA
 ne:dx≠x
theorem qej {h:Heap} {dx:Addr} {mA:Str->Option Value} (n:h.Ns1 dx mA):∃od,h.get? dx=some od/\∀name,ydc name od=some (mA name):=by
 obtain⟨o,es,ep,ho,hd,hk,_,hm⟩:=n
 refine⟨o,ho,λname=>?_⟩
 have e:=hm name
 unfold nsFind findBy at e
 rw[<-Array.find?_toList]at e
 unfold ydc
 rw[hd]
 dsimp only
 split
 ·rename_i y q
  rw[q]at e
  exact congrArg some e
 ·rename_i q
  rw[q]at e
  have a:es.toList.any (·.refKey)=false:=by
   rw[List.any_eq_false]
   intro y hy
   obtain⟨z,t,hkey⟩:=hk y (Array.mem_toList_iff.mp hy)
   simp[DictEntry.refKey,hkey]
  have a':¬es.toList.any (·.refKey)=true:=by rw[a];exact yar
  rw[if_neg a']
  exact congrArg some e
theorem qhR.look {h:Heap} {x dx C:Addr} {mA:Str->Option Value} (I:qhR h x dx C mA):∃od,PySem.W.InstAt h x (ybb C dx) C (some od)/\∀name,ydc name od=some (mA name) :=
 let ⟨od,ho,hl⟩:=qej I.ns
 ⟨od,⟨I.obj,rfl,rfl,ho⟩,hl⟩
section
variable{prog:yag}{w:World}{A:yal}{E:Value->yaa->Prop}{s:yaa}{K:yad}{x dx C f:Addr}{mA:Str->Option Value}{name:Str}{v:Value}
theorem qhS {expr:Bool} {Q:Value->yaa->Prop} (X:K.In s.heap) (I:qhR s.heap x dx C mA) (hg:yb1 K C name=true) (hh:ycp K C=true)
  (ha:yaD K (.ref C) name=some none) (hv:mA name=some v) (hv':PySem.W.handedIn v=true) (h:Q v {s with toks:=s.toks+1}) :
  wpAny (model prog w) A (getAttr (.ref x) name expr) Q E s:=by
 obtain⟨od,J,hl⟩:=I.look
 exact PySem.W.get_value X J (yda hg).1 (PySem.W.findObj_own hh ha rfl (by rw[hl,hv])) hv' h
theorem qf4 {pl:Sem Bool} {Q:Value×List Value->yaa->Prop} (X:K.In s.heap) (I:qhR s.heap x dx C mA) (hg:yb1 K C name=true)
  (hf:yaD K (.ref C) name=some (some (.ref f))) (ht:ybv K (.ref f)=true) (hv:mA name=none) (h:Q (.ref f,[.ref x]) s) :
  wpAny (model prog w) A (ycN (.ref x) name pl) Q E s:=by
 obtain⟨od,J,hl⟩:=I.look
 exact PySem.W.method_fn X J (yda hg).1 (yda hg).2 hf (beq_iff_eq.mp ht) (by show(ydc name od).map (·.isSome)=some false;rw[hl,hv];rfl) h
theorem qhT {ns:List Str} {Q:Unit->yaa->Prop} (X:K.In s.heap) (I:qhR s.heap x dx C mA)
  (hs:yaD K (.ref C) "__setattr__"=some (some (.builtin "object.__setattr__"))) (hp:ydB K C=true) (ht:yd5 K C name=some none) (hh:ycp K C=true)
  (hw:ydR mA ns) (hsz:ns.length<=yao)
  (h:∀h',qhR h' x dx C (λy=>if y=name then some v else mA y)->ybt dx s.heap h'->Q () {s with heap:=h',toks:=s.toks+2}) :
  wpAny (model prog w) A (setAttr (.ref x) name v) Q E s:=by
 obtain⟨od,J,hl⟩:=I.look
 refine PySem.W.set_plain X J hs (PySem.W.osa_open (s:={s with toks:=s.toks+1}) (r:=none) X J hp ht λb=>?_)
 obtain⟨cd,hc,hd'⟩:=PySem.W.any_some hh
 have hx:s.heap.get? x=some ⟨.ref C,some dx,.plain,#[]⟩:=I.obj
 refine yab (yam (yab (yab (wpAny_loadPart hx (yab (PySem.W.Looks.here (s:={s with toks:=s.toks+1}) (PySem.W.looks_clsIn X hc) ?_))))))
 rw[hd']
 refine yam (a:=some dx) (yab (yam (yab ?_)))
 refine wpAny_nsSet1 (s:={s with toks:=s.toks+1}) I.ns λh' hn2 hs2=>?_
 obtain⟨oD,esD,epD,hoD,hdD,hcD⟩:=hn2.count (PySem.Within.cons name v hw)
 refine yab (wpAny_lookBehind hoD (by rw[hdD];exact pastItsLine_dict (yaZ hcD (by rw[lC_];omega))) ?_)
 exact yam (h _ ⟨(hs2.2 _ (yaG I.ne)).trans I.obj,hn2,I.ne⟩ hs2)
theorem qf5 {R:ycW->yaa->Prop} {vs:List Value} {kw:List (Str×Value)} (X:K.In s.heap) (hm:yd6 K C=true)
  (hi:yaD K (.ref C) "__init__"=some (some (.ref f))) (hf:PySem.W.typeIn K (.ref f)=some (.type "function"))
  (h:ybA (model prog w) (A.under (.builtin "type.__call__" ⟨.ref C::vs,kw⟩)) (.call (.ref f) ⟨.ref (s.heap.objs.size+1)::vs,kw⟩) (PySem.W.InitBack (s.heap.objs.size+1) R)
   {s with heap:=(s.heap.push ya0).push (ybb C s.heap.objs.size)}) :
  ybA (model prog w) A (.call (.ref C) ⟨vs,kw⟩) R s:=by
 obtain⟨hh,g,d,t,os⟩:=s
 exact PySem.W.make_core (PySem.W.makes_of X hm) (PySem.W.looks_findIn X hi) (λself=>PySem.W.bind_fn X self hf) (.inl rfl) h
end
def qaB (f:Str) (v:V):List (Str×V)->List (Str×V)
 | []=>[(f,v)]
 |(g,x)::r=>if g=f then(g,v)::r else(g,x)::qaB f v r
theorem v8 (f g:Str) (v:V):∀fs:List (Str×V),(qaB f v fs).lookup g=if g=f then some v else fs.lookup g
 | []=>by
  show ybg g [(f,v)]=_
  by_cases h:g=f
  ·have hb:(g==f)=true:=beq_iff_eq.mpr h
   simp only[ybg,hb,if_pos h]
  ·have hb:(g==f)=false:=beq_eq_false_iff_ne.mpr h
   simp only[ybg,hb,if_neg h]
 | (k,x)::r=>by
  have ih:=v8 f g v r
  rw[show qaB f v ((k,x)::r)=(if k=f then(k,v)::r else(k,x)::qaB f v r)from rfl]
  by_cases hk:k=f
  ·rw [if_pos hk]
   by_cases h:g=k
   ·have hb:(g==k)=true:=beq_iff_eq.mpr h
    simp only[ybg,hb,if_pos (h.trans hk)]
   ·have hb:(g==k)=false:=beq_eq_false_iff_ne.mpr h
    simp only[ybg,hb,if_neg (λe:g=f=>h (e.trans hk.symm))]
  ·rw [if_neg hk]
   by_cases h:g=k
   ·have hb:(g==k)=true:=beq_iff_eq.mpr h
    simp only[ybg,hb,if_neg (λe:g=f=>hk (h.symm.trans e))]
   ·have hb:(g==k)=false:=beq_eq_false_iff_ne.mpr h
    simp only[ybg,hb]
    exact ih
theorem v9 (f:Str) (v:V):∀fs:List (Str×V),f∈(qaB f v fs).map (·.1)/\∀g,g∈fs.map (·.1)->g∈(qaB f v fs).map (·.1)
 | []=>⟨by simp[qaB],λg h=>by simp at h⟩
 | (k,x)::r=>by
  obtain⟨i1,i2⟩:=v9 f v r
  rw[show qaB f v ((k,x)::r)=(if k=f then(k,v)::r else(k,x)::qaB f v r)from rfl]
  by_cases hk:k=f
  ·rw[if_pos hk]
   subst hk
   exact⟨by simp,λg h=>by simpa using h⟩
  ·rw [if_neg hk]
   refine⟨?_,λg h=>?_⟩
   ·rw[mC_]
    exact mM _ i1
   ·rw[mC_]at h |-
    rcases List.mem_cons.mp h with e|e
    ·exact List.mem_cons.mpr (.inl e)
    ·exact mM _ (i2 g e)
theorem wd (f:Str) (v:V):∀fs:List (Str×V),(qaB f v fs).length<=fs.length+1
 | []=>by simp[qaB]
 |(k,x)::r=>by
  have ih:=wd f v r
  rw[show qaB f v ((k,x)::r)=(if k=f then(k,v)::r else(k,x)::qaB f v r)from rfl]
  by_cases hk:k=f
  ·rw[if_pos hk,lC_,lC_];omega
  ·rw[if_neg hk,lC_,lC_];omega
theorem qd3.some_of {v:V} {o:Option Value} (r:qd3 (some v) o):∃u,o=some u/\jp v u:=by
 cases o with
 |none=>exact(show False from r).elim
 |some u=>exact⟨u,rfl,r⟩
theorem qd3.none_of {o:Option Value} (r:qd3 none o):o=none:=by
 cases o with
 |none=>rfl
 |some u=>exact(show False from r).elim
theorem qek {v:V} {u:Value} (r:jp v u):PySem.W.handedIn u=true:=by
 cases v with
 |non=>cases (show u=yaB from r);rfl
 |bl b=>cases (show u=ybR b from r);rfl
 |int i=>obtain⟨t,e⟩:=(show ∃t,u=ydi i t from r);cases e;rfl
 |str x=>obtain⟨t,e⟩:=(show ∃t,u=yd3 x t from r);cases e;rfl
 |byt b=>obtain⟨t,e⟩:=(show ∃t,u=Value.bytes b t from r);cases e;rfl
 |flt b=>obtain⟨t,e⟩:=(show ∃t,u=yfl b t from r);cases e;rfl
 |ref a=>cases (show u=yaf a from r);rfl
 |ty n=>cases (show u=ya1 n from r);rfl
section
variable{P:yag}{w:World}{H H':Hp}{h h':Heap}{a C dx:Addr}{fs fs':List (Str×V)}
theorem qaC (hok:HOk P w H h) (e:H a=some (.ins C dx fs)):∃mA,qhR h a dx C mA/\(∀f,qd3 (fs.lookup f) (mA f))/\ydR mA (fs.map (·.1))/\fs.length<=1000/\H dx=some (.own a):=by
 obtain⟨d,z,ne,ob,mA,n,r,q⟩:=(show jO P w H h a (.ins C dx fs)from hok a _ e)
 exact⟨mA,⟨ob,n,ne⟩,r,q,z,d⟩
end
structure Cls (K:yad) (C:Addr):Prop where
 pg:yb1 K C yeW=true
 hd:ycp K C=true
 po:ydB K C=true
 sa:yaD K (.ref C) "__setattr__"=some (some (.builtin "object.__setattr__"))
theorem Cls.get{K:yad}{C:Addr}(c:Cls K C)(f:Str):yb1 K C f=true:=c.pg
def uO(K:yad)(C:Addr)(f:Str):Prop:=yaD K (.ref C) f=some none
theorem uO.taker {K:yad} {C:Addr} {f:Str} (n:uO K C f):yd5 K C f=some none:=by
 unfold yd5
 rw[show yaD K (.ref C) f=some none from n]
 rfl
structure qf6 (K:yad) (C:Addr) (m:Str) (f:Addr):Prop where
 at_:yaD K (.ref C) m=some (some (.ref f))
 fn:ybv K (.ref f)=true
 kp:yai K (.ref f)=true
section
variable{X:Cx}{pins:List (Addr×Obj)}{σ:St}{H:Hp}{s:yaa}{a C dx:Addr}{fs:List (Str×V)}{f:Str}{v:V}{A:yal}{E:Value->yaa->Prop}
theorem qdl {b:Bool} {Q:Value->yaa->Prop} (I:Inv X pins σ H s) (e:H a=some (.ins C dx fs)) (c:Cls X.K C) (n:uO X.K C f) (l:fs.lookup f=some v)
  (h:∀u s',Inv X pins σ H s'->jp v u->Q u s'):wpAny (model X.prog X.w) A (getAttr (.ref a) f b) Q E s:=by
 obtain⟨mA,O,r,_,_,_⟩:=qaC I.hok e
 obtain⟨u,hu,ru⟩:=qd3.some_of (v:=v) (o:=mA f) (by rw[<-l];exact r f)
 exact qhS I.kIn O (c.get f) c.hd n hu (qek ru) (h u _ (I.tok _) ru)
theorem qaf {m:Str} {g:Addr} {pl:Sem Bool} {Q:Value×List Value->yaa->Prop} (I:Inv X pins σ H s) (e:H a=some (.ins C dx fs)) (c:Cls X.K C) (k:qf6 X.K C m g) (l:fs.lookup m=none)
  (h:Q (.ref g,[.ref a]) s):wpAny (model X.prog X.w) A (ycN (.ref a) m pl) Q E s:=by
 obtain⟨mA,O,r,_,_,_⟩:=qaC I.hok e
 have hn:mA m=none:=qd3.none_of (by rw[<-l];exact r m)
 exact qf4 I.kIn O (c.get m) k.at_ k.fn hn h
theorem qag {y:V} {u:Value} {Q:Unit->yaa->Prop} (I:Inv X pins σ H s) (e:H a=some (.ins C dx fs)) (c:Cls X.K C) (n:uO X.K C f) (hl:fs.length<1000) (ry:jp y u)
  (h:∀s',Inv X pins σ (upd H a (.ins C dx (qaB f y fs))) s'->Q () s'):wpAny (model X.prog X.w) A (setAttr (.ref a) f u) Q E s:=by
 obtain⟨mA,O,r,wi,_,ho⟩:=qaC I.hok e
 have hz:(fs.map (·.1)).length<=yao:=by rw[lM_,yb7];omega
 refine qhT I.kIn O c.sa c.po n.taker c.hd wi hz λh' O' sb=>h _ ?_
 have hd:∃o,h'.get? dx=some o:=let ⟨o,_,_,e',_⟩:=O'.ns;⟨o,e'⟩
 refine I.write (x:=a) (e:=dx) (by rw[e];exact yck) (.inr ho) (λb q hb z=>(sb.2 b hb).trans z) hd ?_
 refine⟨by rw[qg O.ne];exact ho,?_,O.ne,O'.obj,_,O'.ns,λg=>?_,λg hg=>?_⟩
 ·have:=wd f y fs;omega
 ·show qd3 ((qaB f y fs).lookup g) (if g=f then some u else mA g)
  rw[v8]
  by_cases q:g=f
  ·rw[if_pos q,if_pos q];exact ry
  ·rw[if_neg q,if_neg q];exact r g
 ·by_cases q:g=f
  ·rw[q];exact(v9 f y fs).1
  ·refine(v9 f y fs).2 g (wi g λz=>hg ?_)
   show(if g=f then some u else mA g)=none
   rw[if_neg q];exact z
theorem Inv.made (I:Inv X pins σ H s):Inv X pins σ (upd (upd H s.heap.objs.size (.own (s.heap.objs.size+1))) (s.heap.objs.size+1) (.ins C s.heap.objs.size []))
  {s with heap:=(s.heap.push ya0).push (ybb C s.heap.objs.size)}:=by
 have e1:(s.heap.push ya0).get? s.heap.objs.size=some ya0:=Heap.get?_push_size s.heap rfl
 have e2:((s.heap.push ya0).push (ybb C s.heap.objs.size)).get? (s.heap.objs.size+1)=some (ybb C s.heap.objs.size):=by
  have:=Heap.get?_push_size (s.heap.push ya0) (o:=ybb C s.heap.objs.size) rfl
  rwa [ybJ]at this
 have e3:(s.heap.push ya0).Ns s.heap.objs.size (λ_=>none):=⟨ya0,#[],_,e1,rfl,(λe he=>absurd he (by simp)),λ_=>rfl⟩
 have I1:=I.laid (a:=s.heap.objs.size) (o:=.own (s.heap.objs.size+1)) (h':=s.heap.push ya0) (t':=s.toks) (λb u q=>Heap.get?_push_of_some _ q) (yak _) ⟨_,e1⟩
 refine I1.laid (a:=s.heap.objs.size+1) (o:=.ins C s.heap.objs.size []) (t':=s.toks) (λb u q=>Heap.get?_push_of_some _ q) (Nat.le_of_eq (ybJ _ _)) ?_
 have ne:s.heap.objs.size≠s.heap.objs.size+1:=yas (ydT _)
 refine⟨by rw[qg ne,qi],ybs _,ne,e2,λ_=>none,(Heap.Ns1.of_empty e3).at λo q=>Heap.get?_push_of_some _ q,λ_=>yck,λy hy=>absurd rfl hy⟩
theorem qhU {prog:yag} {w:World} {env:Env} {e:Expr} {f:Str} {pos:Pos} {s:yaa} {Q:Value->yaa->Prop} (hb:yaI e f env (eval e env)=eval e env)
  (h:wpAny (model prog w) A (eval e env) (λo sQ=>wpAny (model prog w) A (getAttr o f true) Q E sQ) E s):wpAny (model prog w) A (eval (.Attribute e f pos) env) Q E s :=
 Attribute_any_ h (by rw[arm_eval_Attribute,hb])
end
def qm8(K:yad)(ta:TE)(f:Str):TE:=λσ H Q=>ta σ H λx H1=>∃a C dx fs v,x=.ref a/\H1 a=some (.ins C dx fs)/\Cls K C/\uO K C f/\fs.lookup f=some v/\Q v H1
def qm9 (K:yad) (ta tv:TE) (f:Str):TS:=λD σ H=>tv σ H λy H1=>ta σ H1 λx H2=>∃a C dx fs,x=.ref a/\H2 a=some (.ins C dx fs)/\Cls K C/\uO K C f/\fs.length<1000 /\
 D.nx σ (upd H2 a (.ins C dx (qaB f y fs)))
section
variable{X:Cx}{o e value:Expr}{f:Str}{pos pos' tpos:Pos}{ta tv:TE}
theorem wf (he:PE X e ta) (hb:yaI e f X.env (eval e X.env)=eval e X.env):PE X (.Attribute e f pos) (qm8 X.K ta f):=by
 intro pins s σ H Q I h
 refine qhU hb (thn (he pins s σ H _ I h) λu s1 ⟨x,H1,I1,rx,a,C,dx,fs,v,ex,ea,c,n,l,q⟩=>?_)
 subst ex
 obtain rfl:u=yaf a:=rx
 exact qdl I1 ea c n l λu' s2 I2 ru=>⟨v,H1,I2,ru,q⟩
theorem qel (ha:PE X o ta) (hv:PE X value tv) (hs:ybe value (some (.Attribute o f pos')) pos.line X.env=pure false):PS X (.Assign [.Attribute o f pos'] value pos) (qm9 X.K ta tv f):=by
 intro pins s σ H D I h
 refine ycT (thn (hv pins s σ H _ I h) λu s1 ⟨y,H1,I1,ry,q⟩=>thn (ha pins s1 σ H1 _ I1 q) λov s2 ⟨x,H2,I2,rx,a,C,dx,fs,ex,ea,c,n,l,q2⟩=>?_) hs
 subst ex
 obtain rfl:ov=yaf a:=rx
 exact qag I2 ea c n l ry λs3 I3=>⟨σ,_,I3,q2⟩
end
section
variable{X:Cx}{pins:List (Addr×Obj)}{σ:St}{H:Hp}{s:yaa}{A:yal}{E:Value->yaa->Prop}{Q:Value->yaa->Prop}{c:Value}{b:Bool}
inductive qd0 (K:yad) (H:Hp):V->Value->Prop where
 |non:qd0 K H .non (.type "NoneType")
 |bl (x:Bool):qd0 K H (.bl x) (.type "bool")
 |int (i:Int):qd0 K H (.int i) (.type "int")
 |str (x:Str):qd0 K H (.str x) (.type "str")
 |flt (x:UInt64):qd0 K H (.flt x) (.type "float")
 |lst {a:Addr} {xs:List V} (e:H a=some (.lst xs)):qd0 K H (.ref a) (.type "list")
 |frz {a:Addr} {o:Obj} {xs:List V} (e:H a=some (.frz o (.lst xs))):qd0 K H (.ref a) (.type "list")
 |tup {a:Addr} {xs:List V} (e:H a=some (.tup xs)):qd0 K H (.ref a) (.type "tuple")
 |dK {a:Addr} {kvs:List (Key×V)} (e:H a=some (.dK kvs)):qd0 K H (.ref a) (.type "dict")
 |dT {a:Addr} {kvs:List (List Key×V)} (e:H a=some (.dT kvs)):qd0 K H (.ref a) (.type "dict")
 | ins {a C dx:Addr} {fs:List (Str×V)} (e:H a=some (.ins C dx fs)) (cl:Cls K C) (ha:yaD K (.ref C) "__class__"=some (some (.builtin "object.__class__")))
   (hn:PySem.W.specialIn K (.builtin "object.__class__") "__get__"=some (some (.builtin "getset_descriptor.__get__"))) (htk:PySem.W.takesIn K (.builtin "object.__class__")=some true)
   (hm:PySem.W.mroIn K C (.type "object")=some true):qd0 K H (.ref a) (.ref C)
theorem yN {x:V} {u t:Value} (I:Inv X pins σ H s) (rx:jp x u) (ty:qd0 X.K H x t) (e:yek X.K t c=some b) (h:∀tk,Q (.bool b) {s with toks:=tk}) :
  wpAny (model X.prog X.w) A (call (.builtin "isinstance") [u,c]) Q E s:=by
 cases ty with
 |non=>cases (show u=yaB from rx);exact yaP PySem.W.kitx_none I.kIn yck e (λz=>nomatch z) h
 |bl y=>cases (show u=ybR y from rx);exact yaP PySem.W.kitx_bool I.kIn yck e (λz=>nomatch z) h
 |int i=>obtain⟨t,q⟩:=(show ∃t,u=ydi i t from rx);cases q;exact yaP PySem.W.kitx_int I.kIn yck e (λz=>nomatch z) h
 |str y=>obtain⟨t,q⟩:=(show ∃t,u=yd3 y t from rx);cases q;exact yaP PySem.W.kitx_str I.kIn yck e (λz=>nomatch z) h
 |flt y=>obtain⟨t,q⟩:=(show ∃t,u=yfl y t from rx);cases q;exact yaP PySem.W.kitx_float I.kIn yck e (λz=>nomatch z) h
 | @lst a xs ea=>
  cases (show u=yaf a from rx)
  obtain⟨_,_,n,_,h1⟩:=(show jO X.prog X.w H s.heap a (.lst xs)from I.hok a _ ea)
  exact yaP ydC I.kIn ⟨_,h1,rfl⟩ e (λz=>nomatch z) h
 | @frz a ob xs ea=>
  cases (show u=yaf a from rx)
  obtain⟨_,_,_,n,_,h1⟩:=(show jO X.prog X.w H s.heap a (.frz ob (.lst xs))from I.hok a _ ea)
  exact yaP ydC I.kIn ⟨_,h1,rfl⟩ e (λz=>nomatch z) h
 | @tup a xs ea=>
  cases (show u=yaf a from rx)
  obtain⟨_,_,_,p⟩:=(show jO X.prog X.w H s.heap a (.tup xs)from I.hok a _ ea)
  obtain⟨o,h1,h2,_⟩:=p
  exact yaP yeX I.kIn ⟨o,h1,h2⟩ e (λz=>nomatch z) h
 | @dK a kvs ea=>
  cases (show u=yaf a from rx)
  obtain⟨_,_,vs,_,p⟩:=(show jO X.prog X.w H s.heap a (.dK kvs)from I.hok a _ ea)
  obtain⟨o,es,ep,h1,h2,_⟩:=p
  exact yaP yfd I.kIn ⟨o,h1,h2.1⟩ e (λz=>nomatch z) h
 | @dT a kvs ea=>
  cases (show u=yaf a from rx)
  obtain⟨_,_,xs,_,o,es,ep,h1,h2,_⟩:=(show jO X.prog X.w H s.heap a (.dT kvs)from I.hok a _ ea)
  exact yaP yfd I.kIn ⟨o,h1,h2.1⟩ e (λz=>nomatch z) h
 | @ins a C dx fs ea cl ha hn htk hm=>
  cases (show u=yaf a from rx)
  obtain⟨mA,O,_⟩:=qaC I.hok ea
  obtain⟨od,J,_⟩:=O.look
  exact yaP (PySem.W.kitx_own (cl.get _) cl.hd ha hn htk hm) I.kIn J e (λz=>nomatch z) h
end
end L2
namespace L2
open PySem PySem.Spec PyProof.Rows
structure jX (k:Nat) (A:yal):Prop where
 hd:A.handled=none
 dp:A.depth+3*k+5<ydd
 un:A.units+16*k+200<cLine
 gd:A.guards=some []
theorem jX.mono{j k:Nat}{A:yal}(r:jX k A)(h:j<=k):jX j A:=⟨r.hd,by have:=r.dp;omega,by have:=r.un;omega,r.gd⟩
theorem jX.deeper {k:Nat} {A:yal} (r:jX (k+1) A) (env:Env):jX k (A.deeper env) :=
 ⟨r.hd,by have:=r.dp;show A.depth+1+3*k+5<_;omega,by have:=r.un;show A.units+3+16*k+200<_;omega,r.gd⟩
theorem qdm {A:yal} {C:Addr} {us:List Value} {kw:List (Str×Value)}:(A.under (.builtin "type.__call__" ⟨.ref C::us,kw⟩)).depth=A.depth+1:=by
 first|rfl|simp[ydU,Code.weight,Code.isCreation,Code.isGuard,Code.isCaller,Code.frames,yeY,guardIds]
theorem qdn {A:yal} {C:Addr} {us:List Value} {kw:List (Str×Value)}:(A.under (.builtin "type.__call__" ⟨.ref C::us,kw⟩)).units=A.units+1:=by
 first|rfl|simp[ydU,Code.cUnits,Code.frames,yeY]
theorem jX.make {k:Nat} {A:yal} (r:jX (k+1) A) (C:Addr) (us:List Value) (kw:List (Str×Value)):jX k (A.under (.builtin "type.__call__" ⟨.ref C::us,kw⟩)) :=
 ⟨r.hd,by have:=r.dp;rw[qdm];omega,by have:=r.un;rw[qdn];omega,by first|exact r.gd|(simpa [ydU,Code.guards,Code.isGuard,guardIds,pushGuards] using r.gd)⟩
theorem jX.depth{k:Nat}{A:yal}(r:jX k A):A.depth<ydd:=by have:=r.dp;omega
theorem jX.units{k:Nat}{A:yal}(r:jX k A):A.units+64<cLine:=by have:=r.un;omega
def qlx:TA:=λ_ H Q=>Q [] H
def qhV(ta:TE)(tr:TA):TA:=λσ H Q=>ta σ H λx H1=>tr σ H1 λxs H2=>Q (x::xs) H2
section
variable{X:Cx}{e:Expr}{es:List Expr}{te:TE}{t:TA}{pos:Pos}
theorem yi:PA X [] qlx:=λ_ _ _ _ H Q I h=>yfe ⟨[],H,I,.nil,h⟩
theorem zJ (ha:PE X e te) (hr:PA X es t) (hs:yac (e::es) X.env=(false,eval e X.env)::yac es X.env:=by rfl):PA X (e::es) (qhV te t):=by
 intro pos pins s σ H Q I h
 rw[hs]
 show wpAny _ _ (spliced ((false,eval e X.env)::yaz pos (yac es X.env))) _ _ s
 refine yeZ (thn (ha pins s σ H _ I h) λu s1 ⟨x,H1,I1,r1,q1⟩=>?_)
 exact thn (hr pos pins s1 σ H1 _ I1 q1) λus s2 ⟨xs,H2,I2,r2,q2⟩=>⟨x::xs,H2,I2,.cons r1 r2,q2⟩
def qna(t:TA):TE:=λσ H Q=>t σ H λxs H1=>xs.length<=yao/\∀p,H1 p=none->Q (.ref p) (upd H1 p (.tup xs))
def qnb(t:TA):TE:=λσ H Q=>t σ H λxs H1=>xs.length<=yao/\∀p,H1 p=none->Q (.ref p) (upd H1 p (.lst xs))
theorem qem {x1} (h:PA X es t):PE X (.Tuple es x1 pos) (qna t):=by
 intro pins s σ H Q I hq
 refine wpAny_Tuple_spliced (thn (h pos pins s σ H _ I hq) λus s1 ⟨xs,H1,I1,r,z,q⟩=>⟨by rw[<-r.length];exact z,?_⟩)
 have hf:H1 s1.heap.objs.size=none:=I1.hok.fresh (yak _)
 refine⟨.ref s1.heap.objs.size,upd H1 s1.heap.objs.size (.tup xs),I1.laid (t':=s1.toks) (λb u e=>Heap.get?_push_of_some _ e) (yak _) ?_,rfl,q _ hf⟩
 exact⟨z,us,r,⟨_,Heap.get?_push_size _ rfl,rfl,_,rfl⟩⟩
theorem qbe (h:PA X es t):PE X (.List es pos) (qnb t):=by
 intro pins s σ H Q I hq
 refine wpAny_List_spliced (thn (h pos pins s σ H _ I hq) λus s1 ⟨xs,H1,I1,r,z,q⟩=>⟨by rw[<-r.length];exact z,?_⟩)
 have hf:H1 s1.heap.objs.size=none:=I1.hok.fresh (yak _)
 refine⟨.ref s1.heap.objs.size,upd H1 s1.heap.objs.size (.lst xs),I1.laid (t':=s1.toks) (λb u e=>Heap.get?_push_of_some _ e) (yak _) ?_,rfl,q _ hf⟩
 exact⟨z,us,0,r,Heap.get?_push_size _ rfl⟩
end
abbrev Sp:=List V->Hp->VK->XK->Prop
abbrev CXT:=List Env->Hp->yaa->XK->Value->yaa->Prop
structure qf7 (P:yag) (w:World) (K:yad) (mg:Str->Option Value) (base:Heap) (A:yal) (outer:List Env) (s:yaa) (H:Hp):Prop where
 frames:A.frames=some outer
 mod:Mod K mg base
 bs:∀b o,base.get? b=some o->s.heap.get? b=some o/\H b=none
 bsz:base.objs.size<=s.heap.objs.size
 funs:s.heap.FunFrames base outer
 frf:∀b∈frs outer,H b=none
 hok:HOk P w H s.heap
 bare:ycj s.gens
def CE (outer:List Env) (P:yag) (w:World) (H:Hp) (s:yaa) (Q:VK) (u:Value) (s':yaa):Prop :=
 ∃v H',s'.os=s.os/\ycj s'.gens/\Un (frs outer) [] H H' s.heap s'.heap/\HOk P w H' s'.heap/\jp v u/\Q v H'
def CR (CX:CXT) (outer:List Env) (P:yag) (w:World) (H:Hp) (s:yaa) (Q:VK) (E:XK) (r:ycW) (s':yaa):Prop :=
 match r with
 |.ok (.ret u)=>CE outer P w H s Q u s'
 |.ok _=>False
 |.error e=>CX outer H s E e s'
structure yz (P:yag) (w:World) (K:yad) (mg:Str->Option Value) (base:Heap) (CX:CXT) (k:Nat) (f:Addr) (fd:yaH) (ps:List Str) (sp:Sp):Prop where
 len:∀vs H Q E,sp vs H Q E->vs.length=ps.length
 run:∀(A:yal)(outer:List Env)(s:yaa)(H:Hp)(args:Args)(us:List Value)(vs:List V)(Q:VK)(E:XK),jX k A->qf7 P w K mg base A outer s H->ydM s fd args (ps.zip us)->ze vs us->sp vs H Q E ->
  ybA (model P w) A (.call (.ref f) args) (CR CX outer P w H s Q E) s
theorem qf7.make {P:yag} {w:World} {K:yad} {mg:Str->Option Value} {base:Heap} {A:yal} {outer:List Env} {s:yaa} {H:Hp} (e:qf7 P w K mg base A outer s H) (C:Addr) (us:List Value) (kw:List (Str×Value)) :
  qf7 P w K mg base (A.under (.builtin "type.__call__" ⟨.ref C::us,kw⟩)) outer s H:=⟨by first|exact e.frames|(simpa [ydU,Code.envs,yeY,pushEnvs] using e.frames),e.mod,e.bs,e.bsz,e.funs,e.frf,e.hok,e.bare⟩
section
variable{X:Cx}{pins:List (Addr×Obj)}{σ:St}{H:Hp}{s s':yaa}
theorem Inv.env0 (I:Inv X pins σ H s):qf7 X.prog X.w X.K X.mg X.base X.A X.stack s H :=
 ⟨I.ok.frames,I.ok.mod,I.bs,yaZ I.ok.bsz I.sz,I.stack,I.stkFree,I.hok,I.bare⟩
theorem Inv.after {Q:VK} {u:Value} (I:Inv X pins σ H s) (h:CE X.stack X.prog X.w H s Q u s'):EP X pins σ Q u s':=by
 obtain⟨v,H',os,bare,un,hok,r,q⟩:=h
 obtain⟨hh,g,d,t,os'⟩:=s'
 obtain rfl:os'=s.os:=os
 exact⟨v,H',I.call (h':=hh) (g':=g) (d':=d) (t':=t) (ch:=[]) un hok bare (λb z=>absurd z (by simp)),r,q⟩
end
def qlY(sp:Sp)(dvs:List V)(E:XK)(t:TA):TE:=λσ H Q=>t σ H λvs H1=>sp (vs++dvs) H1 Q E
def qlZ (C:Addr) (sp:Sp) (dvs:List V) (E:XK) (t:TA):TE:=λσ H Q=>t σ H λvs H1=>∀x dx,H1 x=none->H1 dx=none->dx≠x ->
 sp (.ref x::(vs++dvs)) (upd (upd H1 dx (.own x)) x (.ins C dx [])) (λv H2=>v=.non/\Q (.ref x) H2) E
def yy (K:yad) (fd:yaH) (ps:List Str) (ds:List Value):Prop :=
 ∀(s:yaa)(us:List Value),K.In s.heap->(us++ds).length=ps.length->ydM s fd ⟨us,[]⟩ (ps.zip (us++ds))
theorem yy.all {K:yad} {fd:yaH} {ps:List Str} (h:∀us:List Value,us.length=ps.length->bindArgs fd ⟨us,[]⟩=pure (ps.zip us)):yy K fd ps []:=λs us _ hl=>by
 rw[yaS]at hl |-
 exact .of_eq (h us hl)
def ul(CX:CXT)(X:Cx)(E:XK):Prop:=∀(pins:List (Addr×Obj))(σ:St)(H:Hp)(s:yaa)(e:Value)(s':yaa),Inv X pins σ H s->CX X.stack H s E e s'->X.xe e s'
section
variable{X:Cx}{CX:CXT}{k:Nat}{f C:Addr}{fd:yaH}{ps:List Str}{sp:Sp}{dvs:List V}{ds:List Value}{E:XK}{x m:Str}{p pos apos:Pos}{e o:Expr}{es:List Expr}{ta:TE}{t:TA}
theorem qen {pins:List (Addr×Obj)} {σ:St} {H:Hp} {s:yaa} {Q:VK} {us:List Value} {vs:List V} (F:yz X.prog X.w X.K X.mg X.base CX k f fd ps sp) (hr:jX k X.A) (hb:yy X.K fd ps ds) (hd:ze dvs ds) (hx:ul CX X E)
  (I:Inv X pins σ H s) (r:ze vs us) (h:sp (vs++dvs) H Q E):wpAny (model X.prog X.w) X.A (call (.ref f) us) (EP X pins σ Q) X.xe s:=by
 have r2:ze (vs++dvs) (us++ds):=r.append hd
 have hl:(us++ds).length=ps.length:=by rw[<-r2.length];exact F.len _ _ _ _ h
 refine yey (ycX (F.run X.A X.stack s H ⟨us,[]⟩ (us++ds) (vs++dvs) Q E hr I.env0 (hb s us I.kIn hl) r2 h) λr s' hq=>?_)
 cases r with
 |error e=>exact hx pins σ H s e s' I hq
 |ok fl=>
  cases fl with
  |ret u=>exact I.after hq
  |next=>exact yaQ hq
  |brk=>exact yaQ hq
  |cont=>exact yaQ hq
theorem vm (F:yz X.prog X.w X.K X.mg X.base CX k f fd ps sp) (hr:jX k X.A) (hg:Gl X x) (hm:X.mg x=some (.ref f)) (hk:yai X.K (.ref f)=true) (hb:yy X.K fd ps ds) (hd:ze dvs ds) (hx:ul CX X E)
  (ha:PA X (e::es) t) (hdb:(x==("__debug__":Str))=false:=by decide) (he:yac (e::es) X.env=(false,eval e X.env)::yac es X.env:=by rfl) (hpl:(yaz pos (yac es X.env)).any (·.1)=false:=by rfl) :
  PE X (.Call (.Name x p) (e::es) [] pos) (qlY sp dvs E t):=by
 intro pins s σ H Q I h
 refine ybU (vk I hg hm ?_ hdb)
 refine ydl (h₀:=X.base) I.ok.mod.kin hk (thn (ha pos pins s σ H _ I h) λus s1 ⟨vs,H1,I1,r,q⟩=>⟨I1.kIn,?_⟩) he hpl
 exact qen F hr hb hd hx I1 r q
structure Mk (K:yad) (C f:Addr):Prop where
 makes:yd6 K C=true
 init:yaD K (.ref C) "__init__"=some (some (.ref f))
 fn:ybv K (.ref f)=true
 kp:yai K (.ref C)=true
theorem qf8 {pins:List (Addr×Obj)} {σ:St} {H:Hp} {s:yaa} {Q:VK} {us:List Value} {vs:List V} (M:Mk X.K C f) (F:yz X.prog X.w X.K X.mg X.base CX k f fd ps sp) (hr:jX (k+1) X.A) (hb:yy X.K fd ps ds) (hd:ze dvs ds)
  (hx:ul CX X E) (I:Inv X pins σ H s) (r:ze vs us)
  (h:∀x dx,H x=none->H dx=none->dx≠x->sp (.ref x::(vs++dvs)) (upd (upd H dx (.own x)) x (.ins C dx [])) (λv H2=>v=.non/\Q (.ref x) H2) E) :
  wpAny (model X.prog X.w) X.A (call (.ref C) us) (EP X pins σ Q) X.xe s:=by
 have hq:=h (s.heap.objs.size+1) s.heap.objs.size (I.hok.fresh (yfm _)) (I.hok.fresh (yak _)) (yas (ydT _))
 have I2:=Inv.made (C:=C) I
 have r2:ze (V.ref (s.heap.objs.size+1)::(vs++dvs)) (yaf (s.heap.objs.size+1)::(us++ds)):=.cons rfl (r.append hd)
 have hl:(yaf (s.heap.objs.size+1)::us++ds).length=ps.length:=by
  have e:=r2.length
  rw[F.len _ _ _ _ hq]at e
  exact e.symm
 refine yey (qf5 (f:=f) I.kIn M.makes M.init (beq_iff_eq.mp M.fn) (ycX (F.run _ X.stack _ _ ⟨yaf (s.heap.objs.size+1)::us,[]⟩ (yaf (s.heap.objs.size+1)::(us++ds)) _ _ E (hr.make C us [])
  (I2.env0.make C us []) (hb _ (yaf (s.heap.objs.size+1)::us) I2.kIn hl) r2 hq) λr s' hq'=>?_))
 cases r with
 |error e=>exact hx pins σ _ _ e s' I2 hq'
 | ok fl=>
  cases fl with
  |ret u=>
   obtain⟨v,H',I3,rv,ev,q3⟩:=I2.after hq'
   subst ev
   exact⟨rv,⟨V.ref (s.heap.objs.size+1),H',I3,rfl,q3⟩⟩
  |next=>exact yaQ hq'
  |brk=>exact yaQ hq'
  |cont=>exact yaQ hq'
theorem qf9 (M:Mk X.K C f) (F:yz X.prog X.w X.K X.mg X.base CX k f fd ps sp) (hr:jX (k+1) X.A) (hg:Gl X x) (hm:X.mg x=some (.ref C)) (hb:yy X.K fd ps ds) (hd:ze dvs ds) (hx:ul CX X E)
  (hdb:(x==("__debug__":Str))=false:=by decide):PE X (.Call (.Name x p) [] [] pos) (qlZ C sp dvs E qlx):=by
 intro pins s σ H Q I h
 refine ybU (vk I hg hm ?_ hdb)
 exact yeL I.kIn M.kp (qf8 (us:=[]) M F hr hb hd hx I .nil h)
end
structure qv (N P:List Str) (sc:Scope):Prop where
 kind:sc.kind=.function
 co:sc.isCoroutine=false
 gen:sc.isGenerator=false
 nd:N.Nodup
 pre:N.take P.length=P
 par:∀x∈P,sc.names.lookup x=some .local\/sc.names.lookup x=some .cell
 nofree:∀y∈sc.names,y.2 ≠ .free
theorem qbf {ybX:Str->Option ycG} {x:Str}:∀{binds:List (Str×Value)}{m:Str->Option Value},(∀v,(x,v) ∉ binds)->bindL ybX binds m x=m x
 | [],_,_=>rfl
 | (n,v)::r,m,h=>by
  unfold bindL
  rw[qbf λw hw=>h w (mM _ hw)]
  split
  ·have:x≠n:=by rintro rfl;exact h v mS_
   simp[this]
  ·rfl
theorem qbg {ybX:Str->Option ycG} {x:Str}:∀{binds:List (Str×Value)}{m:Str->Option Value},(∀v,(x,v) ∉ binds)->bindC ybX binds m x=m x
 | [],_,_=>rfl
 | (n,v)::r,m,h=>by
  unfold bindC
  rw[qbg λw hw=>h w (mM _ hw)]
  split
  ·rfl
  ·have:x≠n:=by rintro rfl;exact h v mS_
   simp[this]
theorem wj {ybX:Str->Option ycG} {x:Str} {v:Value}:∀{P:List Str}{vs:List Value}{i:Nat}{m:Str->Option Value},P.Nodup->P[i]? = some x->vs[i]? = some v->ybX x=some .local ->
  bindL ybX (P.zip vs) m x=some v
 | [],_,_,_,_,h,_,_=>by simp at h
 |_::_,[],_,_,_,_,h,_=>by simp at h
 |p::P,w::vs,0,m,nd,h1,h2,hk=>by
  simp at h1 h2;subst h1;subst h2
  show bindL ybX ((p,w)::P.zip vs) m p=_
  unfold bindL
  rw[qbf λv hv=>(List.nodup_cons.mp nd).1 (ycY hv).1,if_pos hk]
  simp
 |p::P,w::vs,i+1,m,nd,h1,h2,hk=>by
  show bindL ybX ((p,w)::P.zip vs) m x=_
  unfold bindL
  exact wj (i:=i) (List.nodup_cons.mp nd).2 (by simpa using h1) (by simpa using h2) hk
theorem wm {ybX:Str->Option ycG} {x:Str} {v:Value}:∀{P:List Str}{vs:List Value}{i:Nat}{m:Str->Option Value},P.Nodup->P[i]? = some x->vs[i]? = some v->ybX x≠some .local ->
  bindC ybX (P.zip vs) m x=some v
 | [],_,_,_,_,h,_,_=>by simp at h
 |_::_,[],_,_,_,_,h,_=>by simp at h
 |p::P,w::vs,0,m,nd,h1,h2,hk=>by
  simp at h1 h2;subst h1;subst h2
  show bindC ybX ((p,w)::P.zip vs) m p=_
  unfold bindC
  rw[qbg λv hv=>(List.nodup_cons.mp nd).1 (ycY hv).1,if_neg hk]
  simp
 |p::P,w::vs,i+1,m,nd,h1,h2,hk=>by
  show bindC ybX ((p,w)::P.zip vs) m x=_
  unfold bindC
  exact wm (i:=i) (List.nodup_cons.mp nd).2 (by simpa using h1) (by simpa using h2) hk
def qV(N:List Str)(vs:List V):St:=vs.map some++yan (N.length-vs.length) none
def qcv (CX:CXT) (P:yag) (w:World) (K:yad) (mg:Str->Option Value) (base:Heap) (N:List Str) (qual:Str) (scope:Scope) (f:Addr) (cd:Value) (A:yal) (outer:List Env) (s:yaa) (H:Hp) (E:XK):Cx where
 prog:=P
 w:=w
 K:=K
 mg:=mg
 base:=base
 A:=A.deeper (yaU qual scope s.heap.objs.size f cd)
 N:=N
 s₀:=s
 H₀:=H
 env:=yaU qual scope s.heap.objs.size f cd
 outer:=outer
 stack:=yaU qual scope s.heap.objs.size f cd::outer
 ex:=[]
 calm:=true
 fn:=λ_=>true
 pn:=[]
 xe:=λe s'=>wpAny (model P w) (A.deeper (yaU qual scope s.heap.objs.size f cd)) (yde (yaU qual scope s.heap.objs.size f cd) e) (λ_ s''=>CX outer H s E e s'') (λe' s''=>CX outer H s E e' s'') s'
theorem vY {sc:Scope} {n:Nat} {x:Str} (h:sc.names.lookup x=some .cell):∃c,(yd7 n sc.names []).lookup x=some c:=by
 have q:=ycv sc.names n [] (.inl h)
 exact Option.isSome_iff_exists.mp q
theorem qeo {CX:CXT} {P:yag} {w:World} {K:yad} {mg:Str->Option Value} {base:Heap} {N ps:List Str} {qual:Str} {scope:Scope} {f:Addr} {cd:Value} {A:yal} {outer:List Env} {s s1:yaa} {H:Hp} {E:XK} {us:List Value} {vs:List V}
  (S:qv N ps scope) (hd:A.handled=none) (e0:qf7 P w K mg base A outer s H) (hl:vs.length=ps.length) (r:ze vs us)
  (x:InCallC s s.heap.objs.size (bindL (yaU qual scope s.heap.objs.size f cd).kindOf (ps.zip us) λ_=>none) (yd7 (s.heap.objs.size+1) scope.names []) (bindC (yaU qual scope s.heap.objs.size f cd).kindOf (ps.zip us) λ_=>none) s1) :
  Inv (qcv CX P w K mg base N qual scope f cd A outer s H E) [] (qV N vs) H s1:=by
 have hpl:ps.length<=N.length:=by have:=congrArg yfn S.pre;rw[ybq]at this;omega
 obtain⟨h1,tk,rfl,hk⟩:=x.done
 have noA:∀b:Addr,b ∉ (qcv CX P w K mg base N qual scope f cd A outer s H E).ex:=λb z=>absurd (show b∈([]:List Addr)from z) (by simp)
 refine ⟨⟨e0.mod,S.kind,rfl,rfl,yak _,λy z c h1 h2=>?_,λy hy=>?_,λy c _ h=>?_,λ_=>hd,yez e0.frames,.inr ⟨rfl,rfl⟩,λb z=>absurd z (noA b),e0.bs,e0.bsz,λb _ _=>noA b,λb z=>absurd z (noA b),e0.funs,e0.frf⟩,
  rfl,e0.bare,Un.kept hk,⟨_,x.toInCall.ns,λi y v h1 h2 h3=>?_⟩,λy c h=>⟨_,x.cell y c h⟩,e0.hok.fresh (yak _),λy c h=>?_,λp hp=>absurd (show p∈([]:List (Addr×Obj))from hp) (by simp),e0.hok.kept hk,?_⟩
 ·exact name_of_addr x.apart (yaN h1) (yaN h2)
 ·have hy:scope.names.lookup y=some .cell\/scope.names.lookup y=some .free:=hy
  rcases hy with hy|hy
  ·exact vY hy
  ·exact absurd rfl (S.nofree _ (yaN hy))
 ·exact ycU (x.above y c (yaN h))
 ·have hi:i<vs.length:=by
   unfold qV at h2
   by_cases hi:i<vs.length
   ·exact hi
   ·rw[List.getElem?_append_right (by simpa using hi)]at h2
    rw[List.getElem?_replicate]at h2
    split at h2<;>cases h2
  have ha:vs[i]? = some v:=by
   unfold qV at h2
   rw[List.getElem?_append_left (by simpa using hi),gM_]at h2
   cases e:vs[i]? with
   |none=>rw[e]at h2;cases h2
   |some a=>rw[e]at h2;cases h2;rfl
  obtain⟨u,hu,rv⟩:=r.get ha
  have hp:ps[i]? = some y:=by
   rw[<-S.pre,List.getElem?_take_of_lt (by omega)];exact h1
  have ndP:ps.Nodup:=by rw[<-S.pre];exact S.nd.sublist (yff _ _)
  refine⟨u,rv,?_⟩
  rcases S.par y (ycZ hp)with k|k
  ·exact .inl ⟨k,wj ndP hp hu k⟩
  ·obtain⟨c,e⟩:=vY (n:=s.heap.objs.size+1) k
   refine .inr ⟨.inl k,c,e,?_⟩
   have q:=x.cell y c e
   rw[wm ndP hp hu (by show scope.names.lookup y≠_;rw[k];decide)]at q
   exact q
 ·exact e0.hok.fresh (ycU (x.above y c (yaN h)))
 ·unfold qV
  show _=N.length
  rw[lA_,lM_,yaX]
  omega
theorem qhW {CX:CXT} {P:yag} {w:World} {K:yad} {mg:Str->Option Value} {base:Heap} {k:Nat} {f:Addr} {name qual:Str} {params:yd8} {body:List Stmt} {scope:Scope} {dV kV doc pm cdv ct oc:Value} {an od:Option Addr}
  {osl:Array (Option Value)} {N ps:List Str} {sp:Sp} (lk:K.lookup f=some ⟨oc,od,.func (yaq name qual params body scope dV kV doc pm an cdv ct),osl⟩) (hcd:yap K cdv qual=true) (S:qv N ps scope)
  (len:∀vs H Q E,sp vs H Q E->vs.length=ps.length)
  (hbody:∀(A:yal)(outer:List Env)(s:yaa)(H:Hp)(vs:List V)(Q:VK)(E:XK),jX k (A.deeper (yaU qual scope s.heap.objs.size f cdv))->sp vs H Q E ->
   ∃t,PSs (qcv CX P w K mg base N qual scope f cdv A outer s H E) body t/\t {nx:=λ_ H'=>Q .non H',rt:=Q} (qV N vs) H) :
  yz P w K mg base CX (k+1) f (yaq name qual params body scope dV kV doc pm an cdv ct) ps sp:=by
 refine⟨len,λA outer s H args us vs Q E hr e0 hb r hsp=>?_⟩
 have hl:=len _ _ _ _ hsp
 have KX:K.In s.heap:=e0.mod.kin.keeps λb o e=>(e0.bs b o e).1
 have lim:s.heap.NoLimit:=e0.mod.nolimit.keeps λb o e=>(e0.bs b o e).1
 have hkind:∀y∈ps.zip us,scope.names.lookup y.1=some .local\/(scope.names.lookup y.1=some .cell/\((yd7 (s.heap.objs.size+1) scope.names []).lookup y.1).isSome=true):=λ⟨n,v⟩ hy=>by
  rcases S.par n (ycY hy).1 with q|q
  ·exact .inl q
  ·exact .inr ⟨q,ycv _ _ _ (.inl q)⟩
 refine yel hr.depth (KX _ _ lk) rfl S.co S.gen rfl (ye0 KX hcd) (hb _ _ _ _ ?_)
 refine ydv S.kind hkind λenv he s1 x=>?_
 subst he
 refine⟨lim.keeps x.toInCall.keep,codeAny_func ?_⟩
 obtain⟨t,ht,hq⟩:=hbody A outer s H vs Q E (hr.deeper _) hsp
 have I:Inv (qcv CX P w K mg base N qual scope f cdv A outer s H E) [] (qV N vs) H s1:=qeo S hr.hd e0 hl r x
 refine ya5 (ht [] s1 (qV N vs) H _ I hq) (λfl s' hs=>?_) λe s' hs=>hs
 have fin:∀{σ':St}{H':Hp}{v:V}{u:Value},Inv (qcv CX P w K mg base N qual scope f cdv A outer s H E) [] σ' H' s'->jp v u->Q v H'->CE outer P w H s Q u s' :=
  λ{σ' H' v u} J rv q=>⟨v,H',J.os,J.bare,J.base,J.hok,rv,q⟩
 cases fl with
 |ret u=>
  obtain⟨v,σ',H',J,rv,q⟩:=hs
  exact fin J rv q
 |next=>
  obtain⟨σ',H',J,q⟩:=hs
  exact fin (v:=V.non) (u:=yaB) J rfl q
 |brk=>
  obtain⟨_,_,_,q⟩:=hs
  exact yaQ q
 |cont=>
  obtain⟨_,_,_,q⟩:=hs
  exact yaQ q
end L2
namespace L2
open PySem PySem.Spec PyProof.Rows
section
variable{X:Cx}{x:Str}{p pos:Pos}{e:Expr}{es:List Expr}{t:TA}{id T:String}{r:List V->Hp->VK->Prop}
def tCB(r:List V->Hp->VK->Prop)(t:TA):TE:=λσ H Q=>t σ H λvs H1=>r vs H1 Q
theorem u4 (hc:yM X (.builtin id) r) (hg:Gl X x) (hm:X.mg x=none) (hv:yaF x=some (.builtin id)) (ha:PA X (e::es) t) (hn:x≠"__name__":=by decide) (hdb:(x==("__debug__":Str))=false:=by decide)
  (he:yac (e::es) X.env=(false,eval e X.env)::yac es X.env:=by rfl) (hpl:(yaz pos (yac es X.env)).any (·.1)=false:=by rfl):PE X (.Call (.Name x p) (e::es) [] pos) (tCB r t):=by
 intro pins s σ H Q I h
 refine ybU (v7 I hg hm hv ?_ hn hdb)
 exact PyProof.Rows.callWith_builtin1 (thn (ha pos pins s σ H _ I h) λus s1 ⟨vs,H1,I1,r1,q1⟩=>hc pins s1 σ H1 vs us Q I1 r1 q1) he hpl
theorem qep (hc:yM X (.type T) r) (hg:Gl X x) (hm:X.mg x=none) (hv:yaF x=some (.type T)) (ha:PA X (e::es) t) (hn:x≠"__name__":=by decide) (hdb:(x==("__debug__":Str))=false:=by decide)
  (he:yac (e::es) X.env=(false,eval e X.env)::yac es X.env:=by rfl) (hpl:(yaz pos (yac es X.env)).any (·.1)=false:=by rfl):PE X (.Call (.Name x p) (e::es) [] pos) (tCB r t):=by
 intro pins s σ H Q I h
 refine ybU (v7 I hg hm hv ?_ hn hdb)
 exact ybc (thn (ha pos pins s σ H _ I h) λus s1 ⟨vs,H1,I1,r1,q1⟩=>hc pins s1 σ H1 vs us Q I1 r1 q1) he hpl
end
end L2
namespace HT
open PySem PyProof.Rows
section
open PySem.SeqAt
open PySem.AutoSeq1 (wpAny_loadPart')
open PySem.MeetsSeq PySem.MeetsSeq2 PySem.MeetsSeq3
end
section
variable{prog:yag}{w:World}{A:yal}{E:Value->yaa->Prop}{s:yaa}
theorem cat_tup {t b:Addr} {vs ws:List Value} {Q:Value->yaa->Prop} (ht:IsTup s.heap t vs.toArray) (hb:IsTup s.heap b ws.toArray) (hv:vs≠[])
  (h1:ws=[]->Q (.ref t) s) (h2:ws≠[]->Q (.ref s.heap.objs.size) {s with heap:=s.heap.push {cls:=.type "tuple",data:=.seq (vs++ws).toArray} })
  (hsz:vs.length+ws.length<=yao):wpAny (model prog w) A (ya9 .Add (.ref t) (.ref b)) Q E s:=by
 obtain⟨⟨cls,dd,data,sl⟩,ho,hc,n,hd⟩:=id ht
 obtain⟨⟨cls2,dd2,data2,sl2⟩,ho2,hc2,n2,hd2⟩:=id hb
 simp only at hc hd hc2 hd2
 subst hc hd hc2 hd2
 have e:vs.toArray++ws.toArray=(vs++ws).toArray:=by simp
 by_cases hw:ws=[]
 ·exact ye1 ⟨_,ho,rfl⟩ ⟨_,ho2,rfl⟩ ydV yeJ ycw yco (ycd _ _)
   (tuple_addW1 t b vs.toArray ws.toArray n n2 dd dd2 sl sl2 (by simpa using hv) (by simp[hw])) ⟨ho,ho2,h1 hw⟩
 ·refine ye1 ⟨_,ho,rfl⟩ ⟨_,ho2,rfl⟩ ydV yeJ ycw yco (ycd _ _)
   (tuple_addW2 t b vs.toArray ws.toArray n n2 dd dd2 sl sl2 (by simpa using hv) (by simpa using hw) (by rw[sT_,sT_];exact hsz)) ⟨ho,ho2,?_⟩
  rw[e]
  exact h2 hw
def sIx (n d:Nat):Option Int->Nat
 |none=>d
 |some v=>if v<0 then(v+(n:Int)).toNat else min v.toNat n
theorem sIx_none(n d:Nat):sIx n d none=d:=rfl
theorem sIx_nat (n d k:Nat):sIx n d (some (k:Int))=min k n:=by
 show(if(k:Int)<0 then((k:Int)+(n:Int)).toNat else min (k:Int).toNat n)=min k n
 rw[if_neg (by omega),ycq]
theorem qjT (n d:Nat) (hd:d<=n) (o:Option Int):sIx n d o<=n:=by
 cases o with
 |none=>exact hd
 |some v=>
  show(if v<0 then(v+(n:Int)).toNat else min v.toNat n)<=n
  by_cases hv:v<0
  ·rw[if_pos hv];omega
  ·rw[if_neg hv];exact Nat.min_le_right _ _
theorem qeq (v:Int) (n d:Nat):(if v<0 then max (v+(n:Int)) 0 else min v (n:Int))=((sIx n d (some v):Nat):Int):=by
 show(if v<0 then max (v+(n:Int)) 0 else min v (n:Int))=(((if v<0 then(v+(n:Int)).toNat else min v.toNat n):Nat):Int)
 by_cases hv:v<0
 ·simp only[if_pos hv];omega
 ·simp only[if_neg hv];omega
theorem qdo (lo hi:Option Int) (n:Nat):yca lo hi 1 (n:Int)=(((sIx n 0 lo:Nat):Int),((sIx n n hi:Nat):Int)):=by
 have h1:¬((1:Int)<0):=by omega
 unfold yca
 simp only[h1,if_false]
 refine Prod.ext ?_ ?_
 ·cases lo with
  |none=>rfl
  |some v=>exact qeq v n 0
 ·cases hi with
  |none=>rfl
  |some v=>exact qeq v n n
theorem qdp (i j:Nat):ybH (i:Int) (j:Int) 1=j-i:=by
 unfold ybH
 have h1:(1:Int)>0:=by omega
 simp only[h1,if_true,Int.ediv_one]
 split<;>omega
theorem qah {v:Value} {o:Option Int} {Q:Option Int->yaa->Prop} (p:yc0 v o) (h:Q o s):wpAny (model prog w) A (Builtin.Slice.slicePartIndex v) Q E s:=by
 cases p with
 |none=>exact slicePart_none h
 |int i t=>exact slicePart_int h
theorem sliceApplied_gen {sl:Addr} {vl vu:Value} {lo hi:Option Int} {n:Nat} {Q:Int×Int×Nat->yaa->Prop} (hs:s.heap.IsSliceOf sl vl vu .none) (pl:yc0 vl lo) (pu:yc0 vu hi)
  (h:Q (((sIx n 0 lo:Nat):Int),1,sIx n n hi-sIx n 0 lo) s):wpAny (model prog w) A (ydw (.ref sl) (pure (n:Int))) Q E s:=by
 obtain⟨os,hos,hcs,hds⟩:=id hs
 unfold ydw Builtin.Slice.sliceFields
 refine yab (yab (yaJ hos hds (x:=vl) rfl (yab (yaJ hos hds (x:=vu) rfl (yab (yaJ hos hds (x:=.none) rfl (yam ?_)))))))
 refine yab (slicePart_none ?_)
 show wpAny _ _ (if((1:Int)==0)=true then _ else _) _ _ s
 rw[if_neg (by decide)]
 refine yab (qah pl (yab (qah pu (yab (yam ?_)))))
 show wpAny _ _ (match yca lo hi 1 (n:Int) with|(lo,hi)=>pure (lo,(1:Int),ybH lo hi 1)) _ _ s
 rw[qdo lo hi n]
 show wpAny _ _ (pure (((sIx n 0 lo:Nat):Int),(1:Int),ybH ((sIx n 0 lo:Nat):Int) ((sIx n n hi:Nat):Int) 1)) _ _ s
 rw[qdp]
 exact yam h
theorem qga (xs:Array Value) (i k:Nat):((yaw k).filterMap λ(m:Nat)=>xs[((i:Int)+(m:Int)*1).toNat]?).toArray=((xs.toList.drop i).take k).toArray:=by
 have e:(λ(m:Nat)=>xs[((i:Int)+(m:Int)*1).toNat]?)=λm=>xs[i+m]? := by
  funext m
  have:((i:Int)+(m:Int)*1).toNat=i+m:=by omega
  rw[this]
 rw[e]
 have:=pick_run xs i k
 rw[List.filterMap_map]at this
 have e2:((λx=>xs[x]?)∘λx=>i+x)=λm=>xs[i+m]? := rfl
 rw[e2]at this
 rw[this]
theorem getItem_tuple_cut {t sl:Addr} {items:Array Value} {vl vu:Value} {lo hi:Option Int} {Q:Value->yaa->Prop} (ht:IsTup s.heap t items) (hs:s.heap.IsSliceOf sl vl vu .none) (pl:yc0 vl lo) (pu:yc0 vu hi)
  (hw:¬(sIx items.size 0 lo=0/\sIx items.size items.size hi=items.size))
  (h:Q (.ref s.heap.objs.size) {s with heap:=s.heap.push {cls:=.type "tuple",data:=.seq ((items.toList.drop (sIx items.size 0 lo)).take (sIx items.size items.size hi-sIx items.size 0 lo)).toArray} })
  (hsz:items.size<=yao):wpAny (model prog w) A (ydN (.ref t) (.ref sl)) Q E s:=by
 have htake:sizeOk (.seq ((items.toList.drop (sIx items.size 0 lo)).take (sIx items.size items.size hi-sIx items.size 0 lo)).toArray):=by
  show((items.toList.drop (sIx items.size 0 lo)).take (sIx items.size items.size hi-sIx items.size 0 lo)).toArray.size<=yao
  rw[sT_,ybq,yb2,yaW]
  omega
 have hj:sIx items.size items.size hi<=items.size:=qjT _ _ (yak _) hi
 obtain⟨os,hos,hcs,hds⟩:=id hs
 have hTs:s.TypeIs (.ref sl) "slice":=⟨os,hos,hcs⟩
 unfold ydN
 try with_reducible refine ybQ ?_
 first|refine yab (yam ?_)|skip
 refine yab (yfg ht.typeIs (by decide) ?_)
 refine yab (wpAny_callSpecial?_slot (name:=ybi "__getitem__") ht.typeIs ybf
  (ya2 ybf ht.typeIs yeM ?_ (ye2 _ _)))
 show wpAny _ _ (ydx (.ref t) >>= _) _ _ s
 refine yab (tupleItemsOf_ ht ?_)
 refine yab (yc1 hTs ?_)
 rw[if_pos (by decide)]
 refine yab (sliceApplied_gen hs pl pu ?_)
 have hno:¬((((sIx items.size 0 lo:Nat):Int)==0&&(1:Int)==1&&(sIx items.size items.size hi-sIx items.size 0 lo)==items.size)=true):=by
  intro q
  rw[yau,yau]at q
  have q1:((sIx items.size 0 lo:Nat):Int)=0:=ycO q.1.1
  have q2:sIx items.size items.size hi-sIx items.size 0 lo=items.size:=ycO q.2
  exact hw ⟨by omega,by omega⟩
 show wpAny _ _ (if(((sIx items.size 0 lo:Nat):Int)==0&&(1:Int)==1&&(sIx items.size items.size hi-sIx items.size 0 lo)==items.size)=true then _ else _) _ _ s
 rw[if_neg hno,qga]
 first
  |exact yab (m:=ybL _) (yaM (yam ⟨_,rfl,yam h⟩) htake)
  |exact yab (m:=ybL _) (yaM (yab (yam (yam ⟨_,rfl,yam h⟩))) htake)
  |exact yab (yab (m:=ybL _) (yaM (yam (yam ⟨_,rfl,yam h⟩)) htake))
  |exact yab (yab (m:=ybL _) (yaM (yam ⟨_,rfl,yam h⟩) htake))
end
end HT
namespace L2
open PySem PySem.Spec PyProof.Rows
abbrev TO:=St->Hp->(Option Int->Hp->Prop)->Prop
def PO (X:Cx) (e:Option Expr) (t:TO):Prop :=
 ∀ (pins:List (Addr×Obj)) (s:yaa) (σ:St) (H:Hp) (Q:Option Int->Hp->Prop),Inv X pins σ H s->t σ H Q ->
  wpAny (model X.prog X.w) X.A (evalPart e X.env) (λu s'=>∃o H',Inv X pins σ H' s'/\yc0 u o/\Q o H') X.xe s
def qhX:TO:=λ_ H Q=>Q none H
def ql0(t:TE):TO:=λσ H Q=>t σ H λx H1=>∃i,x=.int i/\Q (some i) H1
section
variable{X:Cx}{e:Expr}{te:TE}{lo hi:Option Expr}{tl th:TO}{pos p2:Pos}
theorem qhY:PO X none qhX:=by
 intro pins s σ H Q I h
 rw[evalPart_none]
 exact yam ⟨none,H,I,.none,h⟩
theorem qhZ (h:PE X e te):PO X (some e) (ql0 te):=by
 intro pins s σ H Q I hw
 rw[evalPart_some]
 refine thn (h pins s σ H _ I hw) λu s1 ⟨x,H1,I1,r1,q1⟩=>?_
 obtain⟨i,rfl,q⟩:=q1
 obtain⟨t,rfl⟩:=r1
 exact⟨some i,H1,I1,.int i t,q⟩
def SlR (X:Cx) (r:V->Option Int->Option Int->Hp->VK->Prop):Prop :=
 ∀ (pins:List (Addr×Obj)) (s:yaa) (σ:St) (H:Hp) (x:V) (v vl vu:Value) (lo hi:Option Int) (sl:Addr) (Q:VK),Inv X pins σ H s->jp x v->s.heap.IsSliceOf sl vl vu .none->yc0 vl lo->yc0 vu hi->r x lo hi H Q ->
  ∃T id,yfv (.type T) "__getitem__"=pure (some (.builtin id))/\s.TypeIs v T/\wpAny (model X.prog X.w) X.A (ydN v (.ref sl)) (EP X pins σ Q) X.xe s
theorem SlR.or {r r':V->Option Int->Option Int->Hp->VK->Prop} (h:SlR X r) (h':SlR X r'):SlR X (λx lo hi H Q=>r x lo hi H Q\/r' x lo hi H Q):=by
 intro pins s σ H x v vl vu lo hi sl Q I rx hs pl pu q
 rcases q with q|q
 ·exact h pins s σ H x v vl vu lo hi sl Q I rx hs pl pu q
 ·exact h' pins s σ H x v vl vu lo hi sl Q I rx hs pl pu q
def tSl(r:V->Option Int->Option Int->Hp->VK->Prop)(te:TE)(tl th:TO):TE:=λσ H Q=>te σ H λx H1=>tl σ H1 λl H2=>th σ H2 λu H3=>r x l u H3 Q
theorem qgb {r:V->Option Int->Option Int->Hp->VK->Prop} (hr:SlR X r) (he:PE X e te) (hl:PO X lo tl) (hu:PO X hi th):PE X (.Subscript e (.Slice lo hi none p2) pos) (tSl r te tl th):=by
 intro pins s σ H Q I h
 refine Subscript_ (thn (he pins s σ H _ I h) λv s1 ⟨x,H1,I1,r1,q1⟩=>?_)
 refine wpAny_Slice (thn (hl pins s1 σ H1 _ I1 q1) λvl s2 ⟨l,H2,I2,pl,q2⟩=>thn (hu pins s2 σ H2 _ I2 q2) λvu s3 ⟨u,H3,I3,pu,q3⟩=>?_)
 rw[evalPart_none]
 refine yam ?_
 have I4:Inv X pins σ H3 {s3 with heap:=s3.heap.push {cls:=.type "slice",data:=.fields #[vl,vu,.none]} }:=I3.kept (t':=s3.toks) λb ob q=>Heap.get?_push_of_some _ q
 obtain⟨T,id,hT,ht,hg⟩:=hr pins {s3 with heap:=s3.heap.push {cls:=.type "slice",data:=.fields #[vl,vu,.none]} } σ H3 x v vl vu l u s3.heap.objs.size Q I4 r1 (Heap.IsSliceOf.new ..) pl pu q3
 show wpAny (model X.prog X.w) X.A (subscriptTail e (.Slice lo hi none p2) v (.ref s3.heap.objs.size)) (EP X pins σ Q) X.xe {s3 with heap:=s3.heap.push {cls:=.type "slice",data:=.fields #[vl,vu,.none]} }
 exact tail_any (ops:=[.ref s3.heap.objs.size,v]) ht hT hg (by with_unfolding_all rfl)
def qfT(xs:List V)(lo hi:Option Int):List V:=(xs.drop (HT.sIx xs.length 0 lo)).take (HT.sIx xs.length xs.length hi-HT.sIx xs.length 0 lo)
theorem wn (xs:List V) (lo hi:Option Int):(qfT xs lo hi).length<=xs.length:=by
 unfold qfT
 rw[ybq,yb2]
 omega
def qmF (K:yad):V->Option Int->Option Int->Hp->VK->Prop:=λx lo hi H Q=>∃a xs,x=.ref a/\SqT K H a xs /\
 ¬(HT.sIx xs.length 0 lo=0/\HT.sIx xs.length xs.length hi=xs.length)/\∀p,H p=none->Q (.ref p) (upd H p (.tup (qfT xs lo hi)))
theorem qjU:SlR X (qmF X.K):=by
 intro pins s σ H x v vl vu lo hi sl Q I rx hs pl pu h
 obtain⟨a,xs,rfl,hx,hw,q⟩:=h
 cases rx
 obtain⟨its,r,ht,hz⟩:=I.tuple hx
 have hlen:its.toArray.size=xs.length:=by rw[sT_];exact r.length.symm
 refine⟨"tuple",_,PyProof.Rows.slot_tuple_getitem.lookup,ht.typeIs,?_⟩
 refine HT.getItem_tuple_cut ht hs pl pu (by rw[hlen];exact hw) ?_ (by rw[hlen];exact hz)
 rw[hlen]
 refine⟨.ref s.heap.objs.size,_,I.laid (t':=s.toks) (o:=.tup (qfT xs lo hi)) (λb ob q=>Heap.get?_push_of_some _ q) (yak _) ?_,rfl,q _ (I.hok.fresh (yak _))⟩
 exact⟨yaZ (wn xs lo hi) hz,_,(r.drop (HT.sIx xs.length 0 lo)).take (HT.sIx xs.length xs.length hi-HT.sIx xs.length 0 lo),yeT _ _⟩
def qjV (K:yad):R2:=λx y H Q=>∃a b xs ys,x=.ref a/\y=.ref b/\SqT K H a xs/\SqT K H b ys/\xs≠[]/\xs.length+ys.length<=yao /\
 (ys=[]->Q (.ref a) H)/\(ys≠[]->∀p,H p=none->Q (.ref p) (upd H p (.tup (xs++ys))))
theorem ze.nil_iff {xs:List V} {us:List Value} (r:ze xs us):us=[] ↔ xs=[]:=by
 cases r with
 |nil=>simp
 |cons _ _=>simp
theorem qh0:OpR X (ya9 .Add) (qjV X.K):=by
 intro pins s σ H x y v u Q I rx ry h
 obtain⟨a,b,xs,ys,rfl,rfl,ha,hb,hx,hz,q1,q2⟩:=h
 cases rx
 cases ry
 obtain⟨its,r1,p1,_⟩:=I.tuple ha
 obtain⟨its2,r2,p2,_⟩:=I.tuple hb
 refine HT.cat_tup p1 p2 (λz=>hx (r1.nil_iff.mp z)) (λz=>⟨.ref a,H,I,rfl,q1 (r2.nil_iff.mp z)⟩) (λz=>?_) (by rw[<-r1.length,<-r2.length];exact hz)
 refine⟨.ref s.heap.objs.size,_,I.laid (t':=s.toks) (o:=.tup (xs++ys)) (λb ob q=>Heap.get?_push_of_some _ q) (yak _) ?_,rfl,q2 (λw=>z (r2.nil_iff.mpr w)) _ (I.hok.fresh (yak _))⟩
 exact⟨by rw[lA_];exact hz,_,r1.append r2,yeT _ _⟩
end
end L2
namespace L2
open PySem PySem.Spec PyProof.Rows
def ixN(n:Nat)(i:Int):Option Nat:=if 0<=i then(if i<n then some i.toNat else none)else if -(n:Int)<=i then some (i+n).toNat else none
def atI{α:Type}(xs:List α)(i:Int):Option α:=(ixN xs.length i).bind λj=>xs[j]?
theorem qer {n:Nat} {i:Int} {j:Nat} (h:ixN n i=some j):seqIndex? i n=some j/\j<n /\ -(n:Int)<=i/\i<n:=by
 unfold ixN at h
 by_cases h0:0<=i
 ·rw [if_pos h0]at h
  by_cases h1:i<n
  ·rw[if_pos h1]at h
   have e:i.toNat=j:=yax h
   exact⟨by rw[yfo h0 h1,e],by omega,by omega,h1⟩
  ·rw[if_neg h1]at h;cases h
 ·rw [if_neg h0]at h
  by_cases h1 : -(n:Int)<=i
  ·rw[if_pos h1]at h
   have e:(i+n).toNat=j:=yax h
   exact⟨by rw[ye3 (by omega) h1,e],by omega,h1,by omega⟩
  ·rw[if_neg h1]at h;cases h
theorem qbZ {α:Type} {xs:List α} {i:Int} {v:α} (h:atI xs i=some v):∃j,seqIndex? i xs.length=some j/\xs[j]? = some v/\j<xs.length /\ -(xs.length:Int)<=i/\i<xs.length:=by
 unfold atI at h
 cases e:ixN xs.length i with
 |none=>rw[e]at h;cases h
 |some j=>
  rw[e]at h
  obtain⟨h1,h2,h3,h4⟩:=qer e
  exact⟨j,h1,h,h2,h3,h4⟩
theorem qcw {α:Type} (xs:List α) (v:α):atI (xs++[v]) (-1)=some v:=by
 have hl:(xs++[v]).length=xs.length+1:=by simp
 have e:ixN (xs++[v]).length (-1)=some xs.length:=by
  unfold ixN
  rw[hl,if_neg (by decide),if_pos (by omega)]
  congr 1
  omega
 unfold atI
 rw[e]
 show(xs++[v])[xs.length]? = some v
 simp
def qb0(b:Expr):Prop:=∀o i,subscripted b false o i=operate [o,i] (ydN o i)
def IxR (X:Cx) (r:R2):Prop :=
 ∀ (value slice:Expr) (pins:List (Addr×Obj)) (s:yaa) (σ:St) (H:Hp) (x y:V) (v u:Value) (Q:VK),Inv X pins σ H s->jp x v->jp y u->r x y H Q ->
  subscripted slice false v u=operate [v,u] (ydN v u)->wpAny (model X.prog X.w) X.A (subscriptTail value slice v u) (EP X pins σ Q) X.xe s
def MtR (X:Cx) (id:String) (r:V->List V->Hp->VK->Prop):Prop :=
 ∀ (pins:List (Addr×Obj)) (s:yaa) (σ:St) (H:Hp) (x:V) (xs:List V) (v:Value) (us:List Value) (Q:VK),Inv X pins σ H s->jp x v->ze xs us->r x xs H Q ->
  wpAny (model X.prog X.w) X.A (call (.builtin id) (v::us)) (EP X pins σ Q) X.xe s
section
variable{X:Cx}{a b:Expr}{ta tb:TE}{pos:Pos}
theorem IxR.or {r r':R2} (h:IxR X r) (h':IxR X r'):IxR X (λx y H Q=>r x y H Q\/r' x y H Q):=by
 intro value slice pins s σ H x y v u Q I rx ry q hs
 rcases q with q|q
 ·exact h value slice pins s σ H x y v u Q I rx ry q hs
 ·exact h' value slice pins s σ H x y v u Q I rx ry q hs
theorem qjW {r:R2} (hr:IxR X r) (ha:PE X a ta) (hb:PE X b tb) (hs:qb0 b):PE X (.Subscript a b pos) (tOp r ta tb):=by
 intro pins s σ H Q I h
 exact Subscript_ (qlR ha hb I h λv u s2 x y H2 I2 rx ry q=>hr a b pins s2 σ H2 x y v u Q I2 rx ry q (hs _ _))
def qjX(K:yad):R2:=λx y H Q=>∃p xs i v,x=.ref p/\y=.int i/\SqL K H p xs/\atI xs i=some v/\Q v H
def qjY(K:yad):R2:=λx y H Q=>∃p xs i v,x=.ref p/\y=.int i/\SqT K H p xs/\atI xs i=some v/\Q v H
def qly:R2:=λx y H Q=>∃z i c,x=.str z/\y=.int i/\z.length<=yao/\atI z.cps.toList i=some c/\Q (.str ⟨#[c]⟩) H
theorem qes:IxR X (qjX X.K):=by
 intro value slice pins s σ H x y v u Q I rx ry h hs
 obtain⟨p,xs,i,z,rfl,rfl,hq,he,q⟩:=h
 cases rx
 obtain⟨t,rfl⟩:=ry
 obtain⟨its,r,pl,hz⟩:=I.list hq
 obtain⟨j,h1,h2,h3,h4,h5⟩:=qbZ he
 obtain⟨w,ew,rw'⟩:=r.get h2
 have hl:=r.length
 have hn:=qae
 have fin:EP X pins σ Q w s:=⟨z,H,I,rw',q⟩
 by_cases h0:0<=i
 ·have hj:i.toNat=j:=by
   rw[yfo h0 h5]at h1
   exact yax h1
  exact item_listR pl.isList h0 (by omega) (by rw[hj];simpa using ew) fin hs
 ·have hj:(i+(its.toArray.size:Int)).toNat=j:=by
   rw[ye3 (by omega) h4]at h1
   rw[sT_,<-hl]
   exact yax h1
  exact yee (x:=w) pl.isList.typeIs slot_list_getitem.lookup
   (wpAny_getItem_list_neg (Q:=λr s'=>r=w/\EP X pins σ Q r s') pl.isList (by omega) (by rw[sT_]<;>omega) (by omega) (by rw[hj];simpa using ew) ⟨rfl,fin⟩) hs
theorem qjZ:IxR X (qjY X.K):=by
 intro value slice pins s σ H x y v u Q I rx ry h hs
 obtain⟨p,xs,i,z,rfl,rfl,hq,he,q⟩:=h
 cases rx
 obtain⟨t,rfl⟩:=ry
 obtain⟨its,r,pl,hz⟩:=I.tuple hq
 obtain⟨j,h1,h2,h3,h4,h5⟩:=qbZ he
 obtain⟨w,ew,rw'⟩:=r.get h2
 have hl:=r.length
 have hn:=qae
 have fin:EP X pins σ Q w s:=⟨z,H,I,rw',q⟩
 exact yee (x:=w) pl.typeIs slot_tuple_getitem.lookup
  (getItem_tuple (j:=j) (Q:=λr s'=>r=w/\EP X pins σ Q r s') pl (by omega) (by omega) (by rw[sT_,<-hl];exact h1) (by simpa using ew) ⟨rfl,fin⟩) hs
theorem qj0:IxR X qly:=by
 intro value slice pins s σ H x y v u Q I rx ry h hs
 obtain⟨z,i,c,rfl,rfl,hz,he,q⟩:=h
 obtain⟨t,rfl⟩:=rx
 obtain⟨t',rfl⟩:=ry
 obtain⟨j,h1,h2,h3,h4,h5⟩:=qbZ he
 have hl:z.cps.toList.length=z.length:=by simp[Str.length]
 rw[hl]at h1 h4 h5
 have hn:=qae
 exact tail_any (ycl s z t) slot_str_getitem.lookup (getItem_str (c:=c) (by
  have e1:decide (i < -(2 ^ 63:Int))=false:=decide_eq_false (by omega)
  have e2:decide (i >= 2 ^ 63)=false:=decide_eq_false (by omega)
  rw[e1,e2,Bool.or_false]) (by rw[h1];simpa using h2) ⟨.str ⟨#[c]⟩,H,I.tok _,⟨_,rfl⟩,q⟩) hs
theorem qdq (its:List Value) (n j:Nat) (u:Value):ydF (·.setIfInBounds j u) {cls:=.type "list",data:=.seq its.toArray n}={cls:=.type "list",data:=.seq (its.set j u).toArray n}:=by
 simp[ydF]
theorem Inv.lst {pins:List (Addr×Obj)} {σ:St} {H:Hp} {s:yaa} {p:Addr} {xs:List V} (I:Inv X pins σ H s) (h:H p=some (.lst xs)) :
  ∃(its:List Value)(n:Nat),ze xs its/\s.heap.get? p=some {cls:=.type "list",data:=.seq its.toArray n}/\xs.length<=yao:=by
 obtain⟨z,its,n,r,e⟩:=I.hok p _ h
 exact⟨its,n,r,e,z⟩
theorem Inv.lstUpd {pins:List (Addr×Obj)} {σ:St} {H:Hp} {s:yaa} {p:Addr} {xs ys:List V} {its its':List Value} {n n':Nat} {f:Obj->Obj} (I:Inv X pins σ H s) (h:H p=some (.lst xs))
  (ho:s.heap.get? p=some {cls:=.type "list",data:=.seq its.toArray n}) (hf:f {cls:=.type "list",data:=.seq its.toArray n}={cls:=.type "list",data:=.seq its'.toArray n' }) (r:ze ys its') (hz:ys.length<=yao) (t:Nat) :
  Inv X pins σ (upd H p (.lst ys)) {s with heap:=s.heap.update p f,toks:=t}:=by
 have e:(s.heap.update p f).get? p=some {cls:=.type "list",data:=.seq its'.toArray n' }:=by
  rw[Heap.get?_update_self f ho (by rw[hf]<;>rfl),hf]
 refine I.write (x:=p) (e:=p) (by rw[h];trivial) (.inl rfl) (λb u hb q=>(Heap.get?_update_other _ _ (yaG hb)).trans q) ⟨_,e⟩ ?_
 exact⟨hz,its',n',r,e⟩
def ql1:V->V->V->Hp->(Hp->Prop)->Prop:=λo i v H Q=>∃p xs k j,o=.ref p/\i=.int k/\H p=some (.lst xs)/\ixN xs.length k=some j/\Q (upd H p (.lst (xs.set j v)))
theorem qgc:qmA X ql1:=by
 intro pins s σ H o i v ov iv u Q I ro ri rv h
 obtain⟨p,xs,k,j,rfl,rfl,hp,hj,q⟩:=h
 cases ro
 obtain⟨t,rfl⟩:=ri
 obtain⟨its,n,r,ho,hz⟩:=I.lst hp
 obtain⟨h1,h2,h3,h4⟩:=qer hj
 have hl:=r.length
 have hn:=qae
 have I':Inv X pins σ (upd H p (.lst (xs.set j v))) {s with heap:=s.heap.update p (ydF (·.setIfInBounds j u))} :=
  I.lstUpd hp ho (qdq its n j u) (r.set rv j) (by rw[lS_];exact hz) s.toks
 by_cases h0:0<=k
 ·have hk:k.toNat=j:=by
   rw[yfo h0 h4]at h1
   exact yax h1
  exact PySem.W.ki_setAt ho h0 (by omega) (by rw[sT_,<-hl];exact h4) (by rw[hk];exact⟨_,I',q⟩)
 ·have hk:(k+(its.toArray.size:Int)).toNat=j:=by
   rw[ye3 (by omega) h3]at h1
   rw[sT_,<-hl]
   exact yax h1
  exact PySem.W.ki_setBack ho (by omega) (by rw[sT_,<-hl];exact h3) (by omega) (by rw[hk];exact⟨_,I',q⟩)
theorem qbh (lo hi:Option Int) (n:Nat):(yb8 lo hi none n).1=((HT.sIx n 0 lo:Nat):Int)/\(yb8 lo hi none n).2.1=((HT.sIx n n hi:Nat):Int)/\(yb8 lo hi none n).2.2=1:=by
 refine⟨?_,?_,rfl⟩
 ·cases lo with
  |none=>simp[yb8,HT.sIx]
  |some i=>
   simp only[yb8,HT.sIx,Option.getD_none,show(1:Int)>0 by decide,if_true]
   by_cases h:i<0
   ·simp only[h,if_true]<;>omega
   ·simp only[h,if_false]<;>omega
 ·cases hi with
  |none=>simp[yb8,HT.sIx]
  |some i=>
   simp only[yb8,HT.sIx,Option.getD_none,show(1:Int)>0 by decide,if_true]
   by_cases h:i<0
   ·simp only[h,if_true]<;>omega
   ·simp only[h,if_false]<;>omega
theorem qaD (its:List Value) (lo hi:Option Int):slicePick its.toArray lo hi none=((its.drop (HT.sIx its.length 0 lo)).take (HT.sIx its.length its.length hi-HT.sIx its.length 0 lo)).toArray:=by
 obtain⟨h1,h2,h3⟩:=qbh lo hi its.toArray.size
 unfold slicePick
 rw[h1,h2,h3]
 simp only[sliceRange_one,pick_run,sT_]<;>rfl
def qnc(K:yad):V->Option Int->Option Int->Hp->VK->Prop:=λx lo hi H Q=>∃a xs,x=.ref a/\SqL K H a xs/\∀p,H p=none->Q (.ref p) (upd H p (.lst (qfT xs lo hi)))
theorem qh1:SlR X (qnc X.K):=by
 intro pins s σ H x v vl vu lo hi sl Q I rx hs pl pu h
 obtain⟨a,xs,rfl,hx,q⟩:=h
 cases rx
 obtain⟨its,r,ht,hz⟩:=I.list hx
 have hlen:=r.length
 refine⟨"list",_,slot_list_getitem.lookup,ht.isList.typeIs,?_⟩
 refine wpAny_getItem_list_slice ht.isList hs pl pu .none (by simp) ?_ (by rw[sT_]<;>omega)
 rw[qaD,<-hlen]
 refine⟨.ref s.heap.objs.size,_,I.laid (t':=s.toks) (o:=.lst (qfT xs lo hi)) (λb ob q=>Heap.get?_push_of_some _ q) (yak _) ?_,rfl,q _ (I.hok.fresh (yak _))⟩
 exact⟨yaZ (wn xs lo hi) hz,_,0,(r.drop (HT.sIx xs.length 0 lo)).take (HT.sIx xs.length xs.length hi-HT.sIx xs.length 0 lo),Heap.get?_push_size _ rfl⟩
theorem qbi:yM X (.builtin "len") (λxs H Q=>∃p ys,xs=[.ref p]/\(SqL X.K H p ys\/SqT X.K H p ys)/\Q (.int ys.length) H):=by
 intro pins s σ H xs us Q I r h
 obtain⟨p,ys,rfl,hq,q⟩:=h
 obtain⟨u,rfl,rx⟩:=qhP r
 cases rx
 have hn:=qae
 rcases hq with hq|hq
 ·obtain⟨its,r',pl,hz⟩:=I.list hq
  have hlen:=r'.length
  exact Calls.call_len_list pl.isList (by simp only[sT_]<;>omega) ⟨.int ys.length,H,I.tok _,⟨s.toks+1,by rw[sT_,hlen]⟩,q⟩
 ·obtain⟨its,r',pl,hz⟩:=I.tuple hq
  have hlen:=r'.length
  exact len_tuple pl (by simp only[sT_]<;>omega) ⟨.int ys.length,H,I.tok _,⟨s.toks+1,by rw[sT_,hlen]⟩,q⟩
theorem qbj:yM X (.builtin "len") (λxs H Q=>∃z,xs=[.str z]/\z.length<=yao/\Q (.int z.length) H):=by
 intro pins s σ H xs us Q I r h
 obtain⟨z,rfl,hz,q⟩:=h
 obtain⟨u,rfl,t,rfl⟩:=qhP r
 have hn:=qae
 exact len_str (by omega) ⟨.int z.length,H,I.tok _,⟨_,rfl⟩,q⟩
theorem yM.or {f:Value} {r r':List V->Hp->VK->Prop} (h:yM X f r) (h':yM X f r'):yM X f (λxs H Q=>r xs H Q\/r' xs H Q):=by
 intro pins s σ H xs us Q I rs q
 rcases q with q|q
 ·exact h pins s σ H xs us Q I rs q
 ·exact h' pins s σ H xs us Q I rs q
def tyV (K:yad) (T:String) (x:V) (H:Hp):Prop:=match x with
 |.str _=>T="str"
 |.int _=>T="int"
 | .ref p=>(T="list"/\∃xs,SqL K H p xs)\/(T="tuple"/\∃o,K.lookup p=some o/\o.cls=.type "tuple"/\o.dict=none) \/
   (T="dict"/\((∃kvs,H p=some (.dK kvs))\/∃kvs,H p=some (.dT kvs)))\/(T="set"/\∃S n,H p=some (.set S n))
 |_=>False
theorem qg3 {pins:List (Addr×Obj)} {σ:St} {H:Hp} {s:yaa} {T:String} {x:V} {v:Value} (I:Inv X pins σ H s) (r:jp x v) (ty:tyV X.K T x H) :
  s.TypeIs v T/\∀a,v=.ref a->∃ob,s.heap.get? a=some ob/\ob.dict=none:=by
 cases x with
 |str z=>
  obtain⟨t,rfl⟩:=r
  cases (show T="str" from ty)
  exact⟨ycl s z t,λ_ e=>nomatch e⟩
 |int i=>
  obtain⟨t,rfl⟩:=r
  cases (show T="int" from ty)
  exact⟨ydG s i t,λ_ e=>nomatch e⟩
 | ref p=>
  cases r
  rcases ty with⟨rfl,xs,hq⟩|⟨rfl,o,hk,hc,hd⟩|⟨rfl,hk⟩|⟨rfl,S,n,hk⟩
  ·obtain⟨its,_,pl,_⟩:=I.list hq
   refine⟨pl.isList.typeIs,λa e=>?_⟩
   cases e
   obtain⟨o,n,e,c,hd,_⟩:=pl
   exact⟨o,e,hd⟩
  ·refine⟨⟨o,I.kIn p o hk,hc⟩,λa e=>?_⟩
   cases e
   exact⟨o,I.kIn _ o hk,hd⟩
  ·have z:∃o,s.heap.get? p=some o/\o.ExactDict:=by
    rcases hk with⟨kvs,hk⟩|⟨kvs,hk⟩
    ·obtain⟨_,_,_,_,o,_,_,e,ex,_⟩:=I.hok p _ hk
     exact⟨o,e,ex⟩
    ·obtain⟨_,_,_,_,o,_,_,e,ex,_⟩:=I.hok p _ hk
     exact⟨o,e,ex⟩
   obtain⟨o,e,ex⟩:=z
   refine⟨⟨o,e,ex.1⟩,λa e2=>?_⟩
   cases e2
   exact⟨o,e,ex.2.1⟩
  ·obtain⟨o,_,_,_,e,ex,_⟩:=I.hok p _ hk
   refine⟨⟨o,e,ex.1⟩,λa e2=>?_⟩
   cases e2
   exact⟨o,e,ex.2.1⟩
 |_=>exact yaQ ty
def qnd(K:yad)(T:String)(r:V->List V->Hp->VK->Prop)(to:TE):TE:=λσ H Q=>to σ H λx H1=>tyV K T x H1/\r x [] H1 Q
def tBM(K:yad)(T:String)(r:V->List V->Hp->VK->Prop)(to:TE)(t:TA):TE:=λσ H Q=>to σ H λx H1=>tyV K T x H1/\t σ H1 λxs H2=>r x xs H2 Q
variable{o e:Expr}{es:List Expr}{to:TE}{t:TA}{name:Str}{apos cpos:Pos}{T id:String}{r:V->List V->Hp->VK->Prop}
theorem qg4 (pa:PlainAttrs T) (slot:Slot T name id) (hty:typeOf (.builtin id)=pure (.type "method_descriptor")) (hm:MtR X id r) (ho:PE X o to)
  (hbase:yaI o name X.env (eval o X.env)=eval o X.env:=by rfl) (hline:(apos.endLine==cpos.line)=true:=by rfl):PE X (.Call (.Attribute o name apos) [] [] cpos) (qnd X.K T r to):=by
 intro pins s σ H Q I h
 refine wpAny_Call_method0_late hbase hline (thn (ho pins s σ H _ I h) λv s1 ⟨x,H1,I1,r1,ty,q1⟩=>?_)
 obtain⟨h1,h2⟩:=qg3 I1 r1 ty
 exact⟨T,id,pa,slot,hty,h1,h2,ybW rfl (PySem.evalArgs_none (hm pins s1 σ H1 x [] v [] Q I1 r1 .nil q1))⟩
theorem qgd (pa:PlainAttrs T) (slot:Slot T name id) (hty:typeOf (.builtin id)=pure (.type "method_descriptor")) (hm:MtR X id r) (ho:PE X o to) (ha:PA X (e::es) t)
  (hbase:yaI o name X.env (eval o X.env)=eval o X.env:=by rfl)
  (hfew:((yaz cpos (yac (e::es) X.env)).all (λx => !x.1)&&(ybD cpos (ya4 [] X.env)).all (λx=>x.1.isSome)
   && decide ((e::es).length+([]:List ybm).length+(if([]:List ybm).isEmpty then 0 else 1)<30))=true:=by rfl)
  (hline:(apos.endLine==cpos.line)=true:=by rfl) (hs:yac (e::es) X.env=(false,eval e X.env)::yac es X.env:=by rfl) (hplain:(yaz cpos (yac es X.env)).any (·.1)=false:=by rfl) :
  PE X (.Call (.Attribute o name apos) (e::es) [] cpos) (tBM X.K T r to t):=by
 intro pins s σ H Q I h
 refine ycx hbase hfew hline rfl (thn (ho pins s σ H _ I h) λv s1 ⟨x,H1,I1,r1,ty,q1⟩=>?_)
 obtain⟨h1,h2⟩:=qg3 I1 r1 ty
 refine⟨T,id,pa,slot,hty,h1,h2,?_⟩
 have hA:=ha cpos pins s1 σ H1 _ I1 q1
 rw[hs]at hA |-
 refine ybW (by show(false||(yaz cpos (yac es X.env)).any (·.1))=false;rw[hplain]<;>rfl) (yb3 ?_)
 exact thn hA λus s2 ⟨vs,H2,I2,r2,q2⟩=>hm pins s2 σ H2 x vs v us Q I2 r1 r2 q2
/- xs.append(e),list.index on a module's tuple .. are MtR facts of 06m -/
end
end L2
namespace L2
open PySem PySem.Spec PyProof.Rows
def MtM (X:Cx) (id:String) (r:V->List V->Hp->VK->Prop):Prop :=
 ∀ (pins:List (Addr×Obj)) (s:yaa) (σ:St) (H:Hp) (x:V) (xs:List V) (v:Value) (us:List Value) (Q:VK),Inv X pins σ H s->jp x v->ze xs us->r x xs H Q ->
  wpAny (model X.prog X.w) X.A (call (.builtin id) (v::us)) (EP X pins σ Q) X.xe s
theorem ze.one:∀{x:V}{us:List Value},ze [x] us->∃u,us=[u]/\jp x u
 |_,_,.cons r .nil=>⟨_,rfl,r⟩
theorem ze.two:∀{x y:V}{us:List Value},ze [x,y] us->∃u v,us=[u,v]/\jp x u/\jp y v
 |_,_,_,.cons r (.cons q .nil)=>⟨_,_,rfl,r,q⟩
theorem ze.zero:∀{us:List Value},ze [] us->us=[]
 |_,.nil=>rfl
theorem ze.dropLast {xs:List V} {us:List Value} (h:ze xs us):ze xs.dropLast us.dropLast:=by
 induction h with
 |nil=>exact .nil
 |cons r t ih=>
  cases t with
  |nil=>exact .nil
  |cons q t'=>exact .cons r ih
theorem ze.rep {xs:List V} {us:List Value} (h:ze xs us):∀k:Nat,ze (yan k xs).flatten (yan k us).flatten
 |0 => .nil
 |k+1=>by
  rw[rS_,rS_,ybG,ybG]
  exact ze.append h (ze.rep h k)
theorem qdr {α:Type} (l:List α):l.eraseIdx (l.length-1)=l.dropLast:=by
 induction l with
 |nil=>rfl
 | cons a r ih=>
  cases r with
  |nil=>rfl
  | cons b r=>
   have e:(a::b::r).length-1=((b::r).length-1)+1:=by
    have h1:(a::b::r).length=r.length+2:=rfl
    have h2:(b::r).length=r.length+1:=rfl
    omega
   rw[e,List.eraseIdx_cons_succ,ih]
   all_goals rfl
theorem wp (its:List Value):∀(k:Nat)(acc:List Value),
  yeA (λx1 x2=>x1++x2) acc.toArray (yan k its.toArray)=(acc++(yan k its).flatten).toArray
 |0,acc=>by simp
 | k+1,acc=>by
  have e:acc.toArray++its.toArray=(acc++its).toArray:=by simp
  have e2:(acc++its)++(yan k its).flatten=acc++(yan (k+1) its).flatten:=by
   rw[rS_,ybG,aA_]
  rw[<-e2,<-wp its k (acc++its),<-e,rS_,List.foldl_cons]
section
variable{X:Cx}{pins:List (Addr×Obj)}{σ:St}{H:Hp}{s:yaa}{l b:Addr}{xs ys zs:List V}
theorem Inv.lset {its its':List Value} {n:Nat} {f:Array Value->Array Value} {t':Nat} (I:Inv X pins σ H s) (hH:H l=some (.lst xs))
  (e:s.heap.get? l=some {cls:=.type "list",data:=.seq its.toArray n}) (hf:f its.toArray=its'.toArray) (hv:ze ys its') (hz:ys.length<=yao) :
  Inv X pins σ (upd H l (.lst ys)) {s with heap:=s.heap.update l (ydF f),toks:=t' }:=by
 have q:=PySem.IsL.update e f
 rw[hf]at q
 refine I.write (x:=l) (e:=l) (by rw[hH];exact trivial) (.inl rfl) (λb' u hb hu=>(Heap.get?_update_other s.heap (ydF f) (yaG hb)).trans hu) ⟨_,q⟩ ?_
 exact⟨hz,its',_,hv,q⟩
theorem Inv.lnew {its:List Value} {t':Nat} (I:Inv X pins σ H s) (hv:ze ys its) (hz:ys.length<=yao) :
  Inv X pins σ (upd H s.heap.objs.size (.lst ys)) {s with heap:=s.heap.push {cls:=.type "list",data:=.seq its.toArray},toks:=t' } :=
 I.laid (λ_ _ q=>Heap.get?_push_of_some _ q) (yak _) ⟨hz,its,0,hv,Heap.get?_push_size _ rfl⟩
theorem Inv.fresh(I:Inv X pins σ H s):H s.heap.objs.size=none:=I.hok.fresh (yak _)
theorem Inv.lstM (I:Inv X pins σ H s) (hH:H l=some (.lst xs)):xs.length<=yao/\∃(its:List Value)(n:Nat),ze xs its/\xs.length=its.length/\s.heap.get? l=some {cls:=.type "list",data:=.seq its.toArray n}:=by
 obtain⟨z,its,n,r,e⟩:=I.hok l _ hH
 exact⟨z,its,n,r,r.length,e⟩
theorem qcx {n:Nat} (h:n<=yao):ybM n=false:=by
 unfold ybM
 exact decide_eq_false (by omega)
end
section
variable{X:Cx}
def qh2:V->List V->Hp->VK->Prop:=λx vs H Q=>∃l xs y,x=.ref l/\vs=[y]/\H l=some (.lst xs)/\xs.length<yao/\Q .non (upd H l (.lst (xs++[y])))
theorem uo:MtM X "list.append" qh2:=by
 intro pins s σ H x vs v us Q I rx rv h
 obtain⟨l,xs,y,rfl,rfl,hH,hz,q⟩:=h
 cases rx
 obtain⟨u,rfl,ru⟩:=rv.one
 obtain⟨z,its,n,r,hl,e⟩:=I.lstM hH
 refine ybI F.slot_list_append ⟨_,e,rfl⟩ F.entry_list_append (F.args_list_append_2 _ _) (PySem.list_append l its.toArray n u (by rw[sT_];omega)) ⟨e,?_⟩
 refine⟨.non,_,I.lset (its':=its++[u]) hH e (by simp) (r.append (.cons ru .nil)) ?_,rfl,q⟩
 rw[lA_,yaE]
 omega
def qh3:V->List V->Hp->VK->Prop:=λx vs H Q=>∃l b xs zs,x=.ref l/\vs=[.ref b]/\H l=some (.lst xs)/\H b=some (.lst zs)/\xs.length+zs.length<=yao/\Q .non (upd H l (.lst (xs++zs)))
theorem qj1:MtM X "list.extend" qh3:=by
 intro pins s σ H x vs v us Q I rx rv h
 obtain⟨l,b,xs,zs,rfl,rfl,hH,hB,hz,q⟩:=h
 cases rx
 obtain⟨u,rfl,ru⟩:=rv.one
 cases ru
 obtain⟨z,its,n,r,hl,e⟩:=I.lstM hH
 obtain⟨z2,its2,n2,r2,hl2,e2⟩:=I.lstM hB
 have hsz:its.toArray.size+its2.toArray.size<=yao:=by rw[sT_,sT_];omega
 have hlong:¬(!its.toArray.isEmpty&&ybM (its.toArray.size+its2.toArray.size))=true:=by
  rw[qcx hsz,Bool.and_false]
  exact yar
 refine ybI F.slot_list_extend ⟨_,e,rfl⟩ F.entry_list_extend (F.args_list_extend_2 _ _)
  (AutoSeq1.list_extend_list_list_0 l its.toArray n b its2.toArray n2 hlong (by rw[sT_];omega) (by omega)) ⟨e,e2,?_⟩
 refine⟨.non,_,I.lset (its':=its++its2) hH e (by simp) (r.append r2) ?_,rfl,q⟩
 rw[lA_]
 omega
def qne:V->List V->Hp->VK->Prop:=λx vs H Q=>∃l xs y,x=.ref l/\vs=[]/\H l=some (.lst xs)/\xs[xs.length-1]? = some y/\Q y (upd H l (.lst xs.dropLast))
theorem qg5:MtM X "list.pop" qne:=by
 intro pins s σ H x vs v us Q I rx rv h
 obtain⟨l,xs,y,rfl,rfl,hH,hy,q⟩:=h
 cases rx
 have hus:=rv.zero
 subst hus
 obtain⟨z,its,n,r,hl,e⟩:=I.lstM hH
 obtain⟨u,hu,ru⟩:=r.get hy
 have hy':its.toArray[its.toArray.size-1]? = some u:=by
  show its.toArray[its.length-1]? = some u
  rw[<-Array.getElem?_toList,<-hl]
  exact hu
 refine ybI F.slot_list_pop ⟨_,e,rfl⟩ F.entry_list_pop (F.args_list_pop_1 _) (MeetsSeq.list_pop_last l its.toArray n u hy' (by rw[sT_];omega)) ⟨e,?_⟩
 refine⟨y,_,I.lset (its':=its.dropLast) hH e ?_ r.dropLast ?_,ru,q⟩
 ·show its.toArray.eraseIdxIfInBounds (its.toArray.size-1)=its.dropLast.toArray
  rw[sT_,List.eraseIdxIfInBounds_toArray,qdr]
 ·rw[List.length_dropLast]
  omega
def qmG:R2:=λx y H Q=>∃l b xs zs,x=.ref l/\y=.ref b/\H l=some (.lst xs)/\H b=some (.lst zs)/\xs.length+zs.length<=yao/\∀p,H p=none->Q (.ref p) (upd H p (.lst (xs++zs)))
theorem qj2:OpR X (ya9 .Add) qmG:=by
 intro pins s σ H x y v u Q I rx ry h
 obtain⟨l,b,xs,zs,rfl,rfl,hH,hB,hz,q⟩:=h
 cases rx
 cases ry
 obtain⟨z,its,n,r,hl,e⟩:=I.lstM hH
 obtain⟨z2,its2,n2,r2,hl2,e2⟩:=I.lstM hB
 refine PySem.P.add_list e e2 ?_ (by rw[sT_,sT_];omega)
 have ea:its.toArray++its2.toArray=(its++its2).toArray:=by simp
 rw[ea]
 exact⟨.ref _,_,I.lnew (t':=s.toks) (r.append r2) (by rw[lA_];omega),rfl,q _ I.fresh⟩
def qmH:R2:=λx y H Q=>∃l k xs,x=.ref l/\y=.int k/\H l=some (.lst xs) /\ -(2 ^ 63)<=k/\k<2 ^ 63/\xs.length*k.toNat<=yao /\
 ∀p,H p=none->Q (.ref p) (upd H p (.lst (yan k.toNat xs).flatten))
theorem qb1 {α:Type} (xs:List α) (k:Nat):(yan k xs).flatten.length=k*xs.length:=by
 induction k with
 |zero=>simp
 |succ k ih=>rw[rS_,ybG,lA_,ih,ye4,Nat.add_comm]
theorem qj3:OpR X (ya9 .Mult) qmH:=by
 intro pins s σ H x y v u Q I rx ry h
 obtain⟨l,k,xs,rfl,rfl,hH,h1,h2,hz,q⟩:=h
 cases rx
 obtain⟨t,rfl⟩:=ry
 obtain⟨z,its,n,r,hl,e⟩:=I.lstM hH
 have hlen:its.toArray.size*k.toNat<=yao:=by rw[sT_,<-hl];exact hz
 have hcap:¬its.toArray.size*k.toNat>(2 ^ 63-1)/8:=by
  have:(yao:Nat)<=(2 ^ 63-1)/8:=by decide
  omega
 have hfit:¬(!Builtin.List.listFitsIndex k)=true:=by
  rw[fitsIndex_both h1 h2]
  exact yar
 have hlong:¬ybM (its.toArray.size*k.toNat)=true:=by
  rw[qcx hlen]
  exact yar
 have hnew:yeA (λx1 x2=>x1++x2) #[] (yan (if its.toArray.isEmpty=true then 0 else k.toNat) its.toArray)=(yan k.toNat its).flatten.toArray:=by
  have f0:∀m:Nat,yeA (λx1 x2=>x1++x2) #[] (yan m its.toArray)=(yan m its).flatten.toArray:=λm=>by
   have:=wp its m []
   rw[ybB]at this
   exact this
  rw[f0]
  cases its with
  |nil=>simp
  |cons a r'=>rw[if_neg (by simp)]
 refine ydH (T:="list") (U:="int") (by decide) ⟨_,e,rfl⟩ (λs'=>ydG s' k t) noFill_list_mul F.fills_int_mul yc2 repeat_list F.slot_int_index.lookup
  (ybI yc2 (ydG s k t) F.entry_int_rmul (yfh _ _) (int___rmul___int_list k t l its.toArray n)
   ⟨e,rfl,⟨_,e,rfl⟩,ybI F.slot_list_mul ⟨_,e,rfl⟩ F.entry_list_mul (F.args_list_mul_2 _ _) (AutoListH.list___mul___list_int_3 l its.toArray n k t hfit hcap hlong) ⟨e,?_⟩⟩)
 rw[hnew]
 exact⟨.ref _,_,I.lnew (t':=s.toks) (r.rep k.toNat) (by rw[qb1,ye5];exact hz),rfl,q _ I.fresh⟩
end
section
variable{prog:yag}{w:World}{A:yal}{E:Value->yaa->Prop}{s:yaa}
set_option maxRecDepth 100000 in
end
end L2
namespace Att
open PySem PySem.W PySem.Calls PyProof.Rows
theorem wv {P:Params} {h:Heap}:∀(ns:List Int)(vs:List Value),WellAll P h vs (ns.map WData.int)->yfb vs ns:=by
 intro ns
 induction ns with
 |nil=>
  intro vs w
  rw[yc3]at w
  cases w
  exact .nil
 | cons n ns ih=>
  intro vs w
  rw[mC_]at w
  cases w with
  |cons a b=>
   cases a
   exact .cons _ _ (ih _ b)
theorem qet {l:OpenLaw} {n:Nat} (hn:l.most=some n) {P:Params} {h:Heap} {args:List WData} {vals:List Value}
  (hpre:l.row.toRowW.claim.pre args=true) (hwl:WellAll P h vals args) :
  ∃a vs ns,vals=[yaf a]/\args=[WData.list (ns.map WData.int)]/\h.get? a=some {cls:=.type "list",data:=.seq vs.toArray}/\yfb vs ns/\ns.length<=n:=by
 have hsh:WShape.hasAll [] args [.list .int]=true:=(pre_splitW hpre).1
 have hc:l.pre.holds [] {args:=args}=true:=(pre_splitW hpre).2
 obtain⟨d,r,rfl,h1,h2⟩:=hasAllW_cons hsh
 obtain rfl:=hasAllW_nil h2
 obtain⟨xs,rfl,h3⟩:=hasW_list h1
 obtain⟨ns,rfl⟩:=items_int h3
 have hlen:ns.length<=n:=by
  unfold OpenLaw.pre at hc
  have h4:(WTm.not (.lt (.lit (.int (n:Int))) (.len (.arg 0)))).holds [] {args:=[.list (ns.map .int)]}=true:=by
   have h4:=(holds_andW hc).1
   rw[hn]at h4
   exact h4
  have h5:=condW_of h4 (w_not (w_lt w_lit (w_len_list (w_arg rfl))))
  rw[lM_]at h5
  refine ycH λq=>?_
  have q':(n:Int)<((ns.length:Nat):Int):=by omega
  first
   |(rw[decide_eq_true q']at h5;exact absurd h5 (by decide))
   |(simp at h5;omega)
 cases hwl with
 |cons w1 w2=>
  cases w2
  cases w1 with
  |list ho hall=>exact⟨_,_,ns,rfl,rfl,ho,wv ns _ hall,hlen⟩
theorem qeu (l:OpenLaw) (args:List WData):l.row.toRowW.claim.post args (.bool true) args=true :=
 postW_of (r:=l.row.toRowW) (X:=(true==true))
  (show WShape.has [] (.bool true) .bool=true by first|rfl|decide|simp[WShape.has,WShape.arms,WShape.armsAll])
  (show(WTm.eq .res (.lit (.bool true))).value [] {args:=args,res:=some (.bool true),after:=args}=some (.bool (true==true))from w_eq_bool (w_res rfl) w_lit) rfl
theorem attach_call {l:OpenLaw} {n:Nat} {q:yag} {loose:List Str} {XP:(Str->Option Value)->Heap->Prop} {YP:World->Heap->Prop} {d:DefRec}
  (hn:l.most=some n) (hdf:d.params.defaults=[])
  (call:∀(w:World)(s₀ sQ:yaa)(mg mb:Str->Option Value)(fa:Addr)(o:Obj)(pm cd doc:Value)(a:Addr)(vs:List Value)(ns:List Int),
   Ground q loose [] XP w s₀ mg mb sQ.heap->YP w sQ.heap ->
   sQ.heap.get? fa=some o->o.data=.func (docDef d.name d.params d.body d.scope pm cd doc)->sQ.heap.CodeRec cd d.name->mg d.name=some (.ref fa) ->
   sQ.heap.get? a=some {cls:=.type "list",data:=.seq vs.toArray}->yfb vs ns->ns.length<=n->sQ.gens = #[] ->
   ybA (model l.prog w) ydO (.call (.ref fa) ⟨[.ref a],[]⟩) (λr s'=>r=.ok (.ret (.bool true))/\OldK sQ.heap s'.heap/\s'.os=sQ.os/\ycj s'.gens) sQ) :
  WalkO q loose XP YP l.row.toRowW d [] (λf vs=>yfw f vs):=by
 intro w s₀ sQ mg mb G Y fa o pm cd doc dV kV ho hd hcd hD hmg hg args vals as hpre hlay hrd hwl hlo
 obtain rfl:dV=.none:=Dflts.none hD hdf
 obtain rfl:kV=.none:=Dflts.noKw hD
 obtain⟨a,vs,ns,rfl,rfl,hobj,hints,hlen⟩:=qet hn hpre hwl
 refine enter_call (ycX (call w s₀ sQ mg mb fa o pm cd doc a vs ns G Y ho (fd_plain hd) hcd hmg hobj hints hlen hg) λr s' hq=>?_)
 obtain⟨rfl,h2,h3,h4⟩:=hq
 exact⟨.inl ⟨.bool true,.bool true,[],rfl,λ_=>rfl,.bool true,qeu l _,λ_=>⟨List.Pairwise.nil,λ_ hm=>(nomatch hm)⟩⟩,h2,h3,h4⟩
end Att
namespace L2
open PySem PySem.Spec PyProof.Rows
theorem qbk:∀{vs:List Value}{ns:List Int},yfb vs ns->ze (ns.map V.int) vs
 |_,_,.nil => .nil
 |_,_,.cons n t h => .cons ⟨t,rfl⟩ (qbk h)
def qlz(H:Hp):Prop:=∀b,H b=none\/(∃o xs,H b=some (.frz o (.lst xs)))\/∃pos q,H b=some (.lam pos q)
def qlA:Option (Addr×Addr×Pos×Str)->Hp
 |some (_,Pt,pos,q)=>λb=>if b=Pt then some (.lam pos q)else none
 |none=>λ_=>none
theorem qge {P:yag} {w:World} {K:yad} {mg mb:Str->Option Value} {CX:CXT} {k:Nat} {fa a:Addr} {fd:yaH} {x:Str} {sp:Sp} {sQ:yaa} {vs:List Value} {ns:List Int} {lm:Option (Addr×Addr×Pos×Str)}
  (KX:K.In sQ.heap) (hns:sQ.heap.Ns yah mg) (hb:sQ.heap.Ns yci mb) (hbb:∀x:Str,x≠"__name__"->mb x=yaF x) (hlim:sQ.heap.NoLimit)
  (hbm:∃bm ob,mg "__builtins__"=some (.ref bm)/\bm≠yci/\sQ.heap.get? bm=some ob/\ob.cls=.type "module"/\ob.dict=some yci/\ob.data=.plain)
  (hlm:∀c Pt pos q,lm=some (c,Pt,pos,q)->ydf sQ.heap c Pt/\sQ.heap.get? Pt=some (ycm #[])/\K.lookup Pt=none)
  (hg:sQ.gens = #[])
  (ha:sQ.heap.get? a=some {cls:=.type "list",data:=.seq vs.toArray}) (hi:yfb vs ns) (hl:ns.length<=yao) (hr:jX k ydO)
  (F:∀base:Heap,K.In base->base.Ns yah mg->yz P w K mg base CX k fa fd [x] sp) (hbind:∀(s:yaa)(u:Value),ydM s fd ⟨[u],[]⟩ [(x,u)])
  (hsp:∀H:Hp,qlz H->(∀c Pt pos q,lm=some (c,Pt,pos,q)->H Pt=some (.lam pos q))->SqL K H a (ns.map V.int)->sp [.ref a] H (λv _=>v=.bl true) λ_ _ _=>False)
  (hCX:∀H e s',CX [] H sQ (λ_ _ _=>False) e s'->False) :
  ybA (model P w) ydO (.call (.ref fa) ⟨[.ref a],[]⟩) (λr s'=>r=.ok (.ret (.bool true))/\OldK sQ.heap s'.heap/\s'.os=sQ.os/\ycj s'.gens) sQ:=by
 have rv:=qbk hi
 have lenV:=hi.length
 have core:∀H:Hp,qlz H->(∀c Pt pos q,lm=some (c,Pt,pos,q)->H Pt=some (.lam pos q))->SqL K H a (ns.map V.int)->HOk P w H sQ.heap ->
   (∀b u,H b=some u->K.lookup b=none/\((∃o xs,u=.frz o (.lst xs))\/∃c pos q,lm=some (c,b,pos,q)/\u=.lam pos q)) ->
   ybA (model P w) ydO (.call (.ref fa) ⟨[.ref a],[]⟩) (λr s'=>r=.ok (.ret (.bool true))/\OldK sQ.heap s'.heap/\s'.os=sQ.os/\ycj s'.gens) sQ:=by
  intro H hO hT hS hok hA
  have base_of:∀{b:Addr}{o:Obj},sQ.heap.get? b=some o->H b=none->(qfX sQ.heap H).get? b=some o:=λe n=>qfY e n
  have noD:∀{b:Addr}{o:Obj},sQ.heap.get? b=some o->(∀its n,o.data ≠ .seq its n)->(∀f,o.data ≠ .fields f)->H b=none:=λ{b o} e d1 d2=>by
   cases q:H b with
   |none=>rfl
   | some u=>
    rcases(hA b u q).2 with⟨ob,xs,rfl⟩|⟨c,pos,q',hl2,rfl⟩
    ·obtain⟨e1,_,its,n,_,e2⟩:=hok b _ q
     rw[e]at e2;cases e2
     exact(d1 _ _ rfl).elim
    ·have e2:=(hlm _ _ _ _ hl2).2.1
     rw[e]at e2;cases e2
     exact(d2 _ rfl).elim
  have nsK:∀{b:Addr}{m:Str->Option Value},sQ.heap.Ns b m->(qfX sQ.heap H).Ns b m:=λ{b m} ⟨o,es,ep,e,d,r⟩=>⟨o,es,ep,base_of e (noD e (λ_ _ z=>by rw[d]at z;cases z) λ_ z=>by rw[d]at z;cases z),d,r⟩
  have hKb:K.In (qfX sQ.heap H):=λb o e=>base_of (KX b o e) (by
   cases q:H b with
   |none=>rfl
   |some u=>rw[(hA b u q).1]at e;cases e)
  have hM:Mod K mg (qfX sQ.heap H):=⟨hKb,nsK hns,⟨mb,nsK hb,hbb⟩,let ⟨mc,h1,h2⟩:=hlim;⟨mc,nsK h1,h2⟩,
   let ⟨bm,ob,b1,b2,b3,b4,b5,b6⟩:=hbm;⟨bm,ob,b1,b2,base_of b3 (noD b3 (λ_ _ z=>by rw[b6]at z;cases z) λ_ z=>by rw[b6]at z;cases z),b4,b5,b6⟩⟩
  have e0:qf7 P w K mg (qfX sQ.heap H) ydO [] sQ H:=⟨rfl,hM,λb o e=>qhF e,Nat.le_of_eq (qd4 _ _),trivial,λb hb=>absurd (show b∈([]:List Addr)from hb) (by simp),hok,.of_eq hg⟩
  refine ycX ((F _ hKb (nsK hns)).run ydO [] sQ H ⟨[.ref a],[]⟩ [.ref a] [.ref a] _ _ hr e0 (hbind sQ (.ref a)) (.cons rfl .nil) (hsp H hO hT hS)) λr s' h=>?_
  cases r with
  |error e=>exact(hCX H e s' h).elim
  | ok fl=>
   cases fl with
   |next=>exact yaQ h
   |brk=>exact yaQ h
   |cont=>exact yaQ h
   | ret u=>
    obtain⟨v,H',os,bare,un,hok',r',q⟩:=h
    have q':v=.bl true:=q
    subst q'
    obtain rfl:u=ybR true:=r'
    have asIt:∀b o,sQ.heap.get? b=some o->asItWas sQ.heap s'.heap b o:=λb o e=>by
     cases q:H b with
     |none=>exact .inl (un.keep b o e q (by intro z;exact absurd (show b∈([]:List Addr)from z) (by simp)) (by simp))
     | some u=>
      rcases(hA b u q).2 with⟨ob,xs,rfl⟩|⟨c,pos,q2,hl2,rfl⟩
      ·have z2:=un.frzs b ob _ q
       obtain⟨e1,_⟩:=hok b _ q
       obtain⟨e2,_⟩:=hok' b _ z2
       rw[e]at e1;cases e1
       exact .inl e2
      ·obtain⟨hc,e2,_⟩:=hlm _ _ _ _ hl2
       rw[e]at e2;cases e2
       rcases hok' b _ (un.tbls b pos q2 q)with z|⟨c',oc,vs',t,_,_,_,z⟩
       ·exact .inl z
       ·exact .inr (.inl ⟨(hc.tab e).isCodeTable,rfl,#[],_,rfl,by rw[Array.empty_append];exact z⟩)
    exact⟨rfl,⟨asIt,λb o e=>un.there b o e (by simp)⟩,os,bare⟩
 let T:Hp:=qlA lm
 have hTb:∀b u,T b=some u->∃c pos q,lm=some (c,b,pos,q)/\u=.lam pos q:=λb u z=>by
  cases hq:lm with
  |none=>simp only[T,hq,qlA]at z;cases z
  | some p=>
   obtain⟨c,Pt,pos,q⟩:=p
   simp only[T,hq,qlA]at z
   by_cases hbp:b=Pt
   ·rw[if_pos hbp]at z;cases z
    exact⟨c,pos,q,by rw[hbp],rfl⟩
   ·rw[if_neg hbp]at z;cases z
 have hTa:T a=none:=by
  cases q:T a with
  |none=>rfl
  |some u=>
   obtain⟨c,pos,q2,hl2,_⟩:=hTb a u q
   have:=(hlm _ _ _ _ hl2).2.1
   rw[ha]at this;cases this
 have hTt:∀c Pt pos q,lm=some (c,Pt,pos,q)->T Pt=some (.lam pos q):=λc Pt pos q e=>by
  simp only[T,e,qlA,if_true]
 cases hk:K.lookup a with
 | some o=>
  have e:=KX a o hk
  rw[ha]at e
  cases e
  refine core T (λb=>?_) hTt (.inr ⟨_,vs.toArray,_,hk,rfl,rfl,rfl,by rw[sT_,lenV];exact hl,by simpa using rv⟩) (λb u z=>?_) (λb u z=>?_)
  ·cases q:T b with
   |none=>exact .inl rfl
   |some u=>obtain⟨_,pos,q2,_,rfl⟩:=hTb b u q;exact .inr (.inr ⟨pos,q2,rfl⟩)
  ·obtain⟨c,pos,q2,hl2,rfl⟩:=hTb b u z
   exact .inl (hlm _ _ _ _ hl2).2.1
  ·obtain⟨c,pos,q2,hl2,rfl⟩:=hTb b u z
   exact⟨(hlm _ _ _ _ hl2).2.2,.inr ⟨c,pos,q2,hl2,rfl⟩⟩
 | none=>
  refine core (upd T a (.frz {cls:=.type "list",data:=.seq vs.toArray} (.lst (ns.map V.int)))) (λb=>?_) (λc Pt pos q e=>?_) (.inl (.inr ⟨{cls:=.type "list",data:=.seq vs.toArray},qi⟩)) (λb u z=>?_) (λb u z=>?_)
  ·by_cases hb:b=a
   ·subst hb;exact .inr (.inl ⟨_,_,qi⟩)
   ·rw[qg hb]
    cases q:T b with
    |none=>exact .inl rfl
    |some u=>obtain⟨_,pos,q2,_,rfl⟩:=hTb b u q;exact .inr (.inr ⟨pos,q2,rfl⟩)
  ·have h1:=hTt c Pt pos q e
   rw[qg (qr h1 hTa)]
   exact h1
  ·by_cases hb:b=a
   ·subst hb
    rw[qi]at z;cases z
    exact⟨ha,by rw[lM_];exact hl,vs,_,rv,ha⟩
   ·rw[qg hb]at z
    obtain⟨c,pos,q2,hl2,rfl⟩:=hTb b u z
    exact .inl (hlm _ _ _ _ hl2).2.1
  ·by_cases hb:b=a
   ·subst hb
    rw[qi]at z;cases z
    exact⟨hk,.inl ⟨_,_,rfl⟩⟩
   ·rw[qg hb]at z
    obtain⟨c,pos,q2,hl2,rfl⟩:=hTb b u z
    exact⟨(hlm _ _ _ _ hl2).2.2,.inr ⟨c,pos,q2,hl2,rfl⟩⟩
end L2
namespace L2
open PySem PySem.Spec PyProof.Rows
end L2
/- THE LAST THEOREM (shape;LID,My.* are yours):
   My.Adr: a structure of the addresses that your layer names (classes,functions);My.Txt K t: a structure (Prop) of the equations over K;
   My.txt_mk:{K} {implicit addresses ..} (e1:nsIn K yah "law"=some (some (.ref f))) (e2:K.lookup f=some ⟨oc,od,.func (fnOf "law" "law" params body scope dV kV doc pm an cdv ct),sl⟩) (e3:codeIn K cdv "law"=true) .. : ∃t,My.Txt K t
set_option maxRecDepth 100000 in
set_option maxHeartbeats 0 in
theorem PySem.Challenge.cw_LID_holds : PySem.Challenge.rw_LID.Holds := by
 w_on;o_law;k_head;(case hw=>w_witness2)
 k_fill
 refine L2.walk_of (l:=PySem.Challenge.rw_LID) (n:=63) (k:=40) (x:="script") (CX:=λw => ..) (sp:=λ_=>My.sp_law) rfl (by decide) rfl ⟨rfl,by decide,by decide⟩ (λw h Y=>PySem.W.kIn_of Y) ?F ?S ?C
 case F=>
  intro w mg fa h KX G hmg
  have T:∃t,My.Txt (L2.KOf KX) t:=by
   dsimp only[L2.KOf]                          -- K must stand as «<heap const> w.params» for k_is
   refine' My.txt_mk ?e1 ?e2 ?e3 ..
   (case e1=>PySem.W.k_is)                    -- in the order: a name->its address->its object->its parts
   (case e2=>PySem.W.k_is)
   ..
  obtain⟨t,T⟩:=T
  have e0:=hmg.symm.trans (yat KX G T.law)
  cases e0                                       -- fa is the law's own address
  exact⟨_,λs u => .of_eq rfl,λbase kb nb=>My.law_fn T kb nb⟩     -- if «.of_eq rfl» comes too early: refine' ⟨_,?b,λbase kb nb=>My.law_fn T kb nb⟩;exact λs u => .of_eq rfl
 case S=>exact λw H a ns hl hO hS => ..
 case C=>exact ..
(the tactic k_is has no namespace: write k_is) -/
namespace L2
open PySem PySem.Spec PyProof.Rows
def vn (s:Stmt) (j:Nat):Stmt:=match s with
 |.ClassDef _ _ _ body _ _ _ _ _ _ _=>body.getD j (.Pass ⟨0,0,0,0⟩)
 |_ => .Pass ⟨0,0,0,0⟩
def qB (s:Stmt):yd8:=match s with
 |.FunctionDef _ a _ _ _ _ _ _ _ _=>a
 |_=>{posonlyargs:=[],args:=[],vararg:=none,kwonlyargs:=[],kw_defaults:=[],kwarg:=none,defaults:=[]}
def qt (s:Stmt):List Stmt:=match s with
 |.FunctionDef _ _ b _ _ _ _ _ _ _=>b
 |_=>[]
def qc (s:Stmt):Scope:=match s with
 |.FunctionDef _ _ _ _ _ _ sc _ _ _=>sc
 |_=>{kind:=.function,names:=[],isGenerator:=false,isCoroutine:=false}
abbrev CX0:CXT:=λ_ _ _ _ _ _=>False
abbrev E0:XK:=λ_ _ _=>False
theorem qev{X:Cx}:ul CX0 X E0:=λ_ _ _ _ _ _ _ h=>h.elim
structure Fun (K:yad) (x qual:Str) (st:Stmt) (f:Addr) (fd:yaH):Prop where
 ex:∃(oc:Value)(od:Option Addr)(kV doc pm:Value)(an:Option Addr)(cdv ct:Value)(osl:Array (Option Value)),
  fd=yaq x qual (qB st) (qt st) (qc st) .none kV doc pm an cdv ct/\K.lookup f=some ⟨oc,od,.func fd,osl⟩/\yap K cdv qual=true
 kp:yai K (.ref f)=true
section
variable{P:yag}{w:World}{K:yad}{mg:Str->Option Value}{base:Heap}
theorem Fun.ok {x qual:Str} {st:Stmt} {f:Addr} {fd:yaH} {N ps:List Str} {k:Nat} {sp:Sp} (F:Fun K x qual st f fd) (S:qv N ps (qc st)) (len:∀vs H Q E,sp vs H Q E->vs.length=ps.length)
  (hbody:∀(cdv:Value)(A:yal)(outer:List Env)(s:yaa)(H:Hp)(vs:List V)(Q:VK)(E:XK),jX k (A.deeper (yaU qual (qc st) s.heap.objs.size f cdv))->sp vs H Q E ->
   ∃t,PSs (qcv CX0 P w K mg base N qual (qc st) f cdv A outer s H E).nox (qt st) t/\t {nx:=λ_ H'=>Q .non H',rt:=Q} (qV N vs) H):yz P w K mg base CX0 (k+1) f fd ps sp:=by
 obtain⟨oc,od,kV,doc,pm,an,cdv,ct,osl,rfl,lk,hcd⟩:=F.ex
 refine qhW lk hcd S len λA outer s H vs Q E hr hsp=>?_
 obtain⟨t,h,q⟩:=hbody cdv A outer s H vs Q E hr hsp
 exact⟨t,h.nox,q⟩
theorem Fun.binds {x qual:Str} {st:Stmt} {f:Addr} {fd:yaH} {ps:List Str} (F:Fun K x qual st f fd)
  (h:∀(kV doc pm:Value)(an:Option Addr)(cdv ct:Value)(us:List Value),us.length=ps.length->bindArgs (yaq x qual (qB st) (qt st) (qc st) .none kV doc pm an cdv ct) ⟨us,[]⟩=pure (ps.zip us)):yy K fd ps []:=by
 obtain⟨oc,od,kV,doc,pm,an,cdv,ct,osl,rfl,lk,hcd⟩:=F.ex
 exact .all (h kV doc pm an cdv ct)
theorem zc {x qual:Str} {st:Stmt} {f:Addr} {oc:Value} {od an:Option Addr} {osl:Array (Option Value)} {kV doc pm cdv ct:Value} (l:K.lookup f=some ⟨oc,od,.func (yaq x qual (qB st) (qt st) (qc st) .none kV doc pm an cdv ct),osl⟩)
  (c:yap K cdv qual=true) (k:yai K (.ref f)=true):Fun K x qual st f (yaq x qual (qB st) (qt st) (qc st) .none kV doc pm an cdv ct):=⟨⟨oc,od,kV,doc,pm,an,cdv,ct,osl,rfl,l,c⟩,k⟩
end
theorem qjl {A B:Prop} (h:B):if false=true then A else B:=by
 rw[if_neg yar]
 exact h
theorem qjm {A B:Prop} (h:A):if true=true then A else B:=by
 rw[if_pos rfl]
 exact h
def jq(H H':Hp):Prop:=∀b o,H b=some o->H' b=some o
theorem jq.refl(H:Hp):jq H H:=λ_ _ h=>h
theorem jq.free {H H':Hp} (e:jq H H') {l:Addr} (h:H' l=Option.none):H l=Option.none:=by
 cases q:H l with
 |none=>rfl
 |some o=>
  rw[e l o q]at h
  cases h
end L2
namespace L2.Sk
open PySem PySem.Spec PyProof.Rows
inductive D where
 |non|bl (b:Bool)|int (i:Int)|str (x:Str)|tup (xs:List D)|lst (xs:List D)|dic (kvs:List (Key×Int))|fz (ns:List Int)
 |exc (n:Str)
abbrev OD:=Option D
abbrev Fr0:=yad
def qg6:FuncBody->Option Pos
 |.stmts [_,_,.Return (some (.Call _ _ [⟨_,.Lambda _ _ _ pos,_⟩] _)) _]=>some pos
 |_=>none
def qb2 (K:Fr0):Option (Addr×Addr×Pos):=match PySem.W.tabIn K "dearest_first",yaj K yah "dearest_first" with
 |some (c,P),some (some (.ref f))=>(match K.lookup f with
  |some ⟨_,_,.func fd,_⟩=>(qg6 fd.body).map λpos=>(c,P,pos)
  |_=>none)
 |_,_=>none
abbrev ql2:Str:="dearest_first.<locals>.<lambda>"
def qmI(K:Fr0)(H:Hp)(Io:Addr->Prop):Prop:=∀c P pos,qb2 K=some (c,P,pos)->H P=some (.lam pos ql2)/\¬Io P
abbrev vV(K:Fr0)(H:Hp):Prop:=qmI K H λ_=>False
theorem vV.same{K:Fr0}{H H':Hp}(h:vV K H)(s:jq H H'):vV K H':=λc P pos e=>⟨s _ _ (h c P pos e).1,λz=>z⟩
structure XK6 (K:Fr0) (D:Addr):Prop where
 ga:yaD K (.ref D) "__getattribute__"=some (some (.builtin "BaseException.__getattribute__"))
 gt:yaD K (.ref D) "__getattr__"=some none
 cl:yaD K (.ref D) "__class__"=some (some (.builtin "object.__class__"))
 ob:PySem.W.mroIn K D (.type "object")=some true
 be:PySem.W.subIn K (.ref D) (.type "BaseException")=some true
 is:(PySem.W.clsIn K D).isSome=true
 no:∀T∈["int","bool","str","tuple","list","dict"],yek K (.ref D) (.type T)=some false
def zY (K:Fr0) (n:Str):Option Addr:=match yaj K yah n with
 |some (some (.ref C))=>some C
 |_=>none
def clR(K:Fr0)(RN:List Str)(n:Str):Option Addr:=if RN.contains n then zY K n else none
theorem vK {K:Fr0} {RN:List Str} {n:Str} {C:Addr} (h:clR K RN n=some C):RN.contains n=true/\zY K n=some C:=by
 unfold clR at h
 split at h
 ·rename_i hn;exact⟨hn,h⟩
 ·cases h
def qnf(K:Fr0)(H:Hp)(a:Addr)(n:Str):Prop:=∃C,zY K n=some C/\XK6 K C/\∃o vs,H a=some (.frz o (.own a))/\o.cls=.ref C/\o.data=.fields vs
def wZ (K:Fr0) (H:Hp) (a:Addr) (xs:List V):Prop :=
 H a=some (.tup xs)\/∃(o:Obj)(its:Array Value)(n:Nat),K.lookup a=some o/\o.cls=.type "tuple"/\o.data=.seq its n/\its.size<=yao/\ze xs its.toList
def qj4 (K:Fr0) (H:Hp) (a:Addr) (xs:List V):Prop :=
 (∃o,H a=some (.frz o (.lst xs)))\/∃(o:Obj)(its:Array Value)(n:Nat),K.lookup a=some o/\o.cls=.type "list"/\o.dict=none/\o.data=.seq its n/\its.size<=yao/\ze xs its.toList
theorem wZ.sq {K:Fr0} {H:Hp} {a:Addr} {xs:List V} (h:wZ K H a xs):SqT K H a xs:=by
 rcases h with h|h
 ·exact .inl (.inl h)
 ·exact .inr h
theorem qj4.sq {K:Fr0} {H:Hp} {a:Addr} {xs:List V} (h:qj4 K H a xs):SqL K H a xs:=by
 rcases h with h|h
 ·exact .inl (.inr h)
 ·exact .inr h
mutual
def Is (K:Fr0) (A:Addr->Prop) (H:Hp):D->V->Prop
 |.non,v=>v=.non
 |.bl b,v=>v=.bl b
 |.int i,v=>v=.int i
 |.str x,v=>v=.str x
 |.tup ds,v=>∃a xs,v=.ref a/\wZ K H a xs/\IsL K A H ds xs
 |.lst ds,v=>∃a xs,v=.ref a/\A a/\H a=some (.lst xs)/\IsL K A H ds xs
 |.dic kvs,v=>∃a,v=.ref a/\A a/\H a=some (.dK (kvs.map λp=>(p.1,V.int p.2)))
 |.fz ns,v=>∃a,v=.ref a/\qj4 K H a (ns.map V.int)
 |.exc n,v=>∃a,v=.ref a/\qnf K H a n
def IsL (K:Fr0) (A:Addr->Prop) (H:Hp):List D->List V->Prop
 | [],xs=>xs=[]
 |d::ds,xs=>∃x ys,xs=x::ys/\Is K A H d x/\IsL K A H ds ys
end
mutual
def imm:D->Bool
 |.tup ds=>immL ds
 |.lst _=>false
 |.dic _=>false
 |.fz _=>false
 |_=>true
def immL:List D->Bool
 | []=>true
 |d::ds=>imm d&&immL ds
end
structure Ext (A:Addr->Prop) (H H':Hp):Prop where
 tup:∀b xs,H b=some (.tup xs)->H' b=some (.tup xs)
 frz:∀b o u,H b=some (.frz o u)->H' b=some (.frz o u)
 at_:∀b o,A b->H b=some o->H' b=some o
theorem Ext.refl{A:Addr->Prop}{H:Hp}:Ext A H H:=⟨λ_ _ h=>h,λ_ _ _ h=>h,λ_ _ _ h=>h⟩
theorem Ext.of_same{A:Addr->Prop}{H H':Hp}(s:jq H H'):Ext A H H':=⟨λb xs h=>s b _ h,λb o u h=>s b _ h,λb o _ h=>s b o h⟩
mutual
theorem Is.ext {K:Fr0} {A B:Addr->Prop} {H H':Hp} (e:Ext A H H') (hAB:∀a,A a->(H a).isSome=true->B a):∀{d:D}{v:V},Is K A H d v->Is K B H' d v
 |.non,_,h=>h
 |.bl _,_,h=>h
 |.int _,_,h=>h
 |.str _,_,h=>h
 |.tup ds,_,⟨a,xs,hv,h,r⟩=>⟨a,xs,hv,h.elim (λh => .inl (e.tup _ _ h)) .inr,IsL.ext e hAB r⟩
 |.lst ds,_,⟨a,xs,hv,hA,h,r⟩=>⟨a,xs,hv,hAB a hA (by rw[h];rfl),e.at_ _ _ hA h,IsL.ext e hAB r⟩
 |.dic kvs,_,⟨a,hv,hA,h⟩=>⟨a,hv,hAB a hA (by rw[h];rfl),e.at_ _ _ hA h⟩
 |.fz ns,_,⟨a,hv,h⟩=>⟨a,hv,h.elim (λ⟨o,h⟩ => .inl ⟨o,e.frz _ _ _ h⟩) .inr⟩
 |.exc n,_,⟨a,hv,C,hc,hk,o,vs,h,r⟩=>⟨a,hv,C,hc,hk,o,vs,e.frz _ _ _ h,r⟩
theorem IsL.ext {K:Fr0} {A B:Addr->Prop} {H H':Hp} (e:Ext A H H') (hAB:∀a,A a->(H a).isSome=true->B a):∀{ds:List D}{xs:List V},IsL K A H ds xs->IsL K B H' ds xs
 | [],_,h=>h
 |_::_,_,⟨x,ys,hx,h,r⟩=>⟨x,ys,hx,Is.ext e hAB h,IsL.ext e hAB r⟩
end
mutual
theorem Is.imm {K:Fr0} {A B:Addr->Prop} {H:Hp}:∀{d:D}{v:V},imm d=true->Is K A H d v->Is K B H d v
 |.non,_,_,h=>h
 |.bl _,_,_,h=>h
 |.int _,_,_,h=>h
 |.str _,_,_,h=>h
 |.tup ds,_,i,⟨a,xs,hv,h,r⟩=>⟨a,xs,hv,h,IsL.imm (by simpa [Sk.imm] using i) r⟩
 |.lst _,_,i,_=>by simp[Sk.imm]at i
 |.dic _,_,i,_=>by simp[Sk.imm]at i
 |.fz _,_,i,_=>by simp[Sk.imm]at i
 |.exc _,_,_,h=>h
theorem IsL.imm {K:Fr0} {A B:Addr->Prop} {H:Hp}:∀{ds:List D}{xs:List V},immL ds=true->IsL K A H ds xs->IsL K B H ds xs
 | [],_,_,h=>h
 |d::ds,_,i,⟨x,ys,hx,h,r⟩=>by
  have i':Sk.imm d=true/\immL ds=true:=by simpa [immL] using i
  exact⟨x,ys,hx,Is.imm i'.1 h,IsL.imm i'.2 r⟩
end
theorem IsL.length {K:Fr0} {A:Addr->Prop} {H:Hp}:∀{ds:List D}{xs:List V},IsL K A H ds xs->xs.length=ds.length
 | [],_,h=>by rw[h];rfl
 |_::_,_,⟨x,ys,hx,_,r⟩=>by rw[hx,lC_,lC_,IsL.length r]
theorem IsL.get {K:Fr0} {A:Addr->Prop} {H:Hp}:∀{ds:List D}{xs:List V}{i:Nat}{d:D},IsL K A H ds xs->ds[i]? = some d->∃x,xs[i]? = some x/\Is K A H d x
 | [],_,_,_,_,h=>by simp at h
 |e::_,_,0,d,⟨x,ys,hx,h,r⟩,hd=>by
  have e1:e=d:=by simpa using hd
  subst e1
  exact⟨x,by rw[hx];rfl,h⟩
 |_::ds,_,i+1,d,⟨x,ys,hx,h,r⟩,hd=>by
  obtain⟨y,h1,h2⟩:=IsL.get (i:=i) (d:=d) r (by simpa using hd)
  exact⟨y,by rw[hx];simpa using h1,h2⟩
theorem IsL.append {K:Fr0} {A:Addr->Prop} {H:Hp}:∀{ds es:List D}{xs ys:List V},IsL K A H ds xs->IsL K A H es ys->IsL K A H (ds++es) (xs++ys)
 | [],_,_,_,h,g=>by rw[h];exact g
 |_::_,_,_,_,⟨x,zs,hx,h,r⟩,g=>⟨x,zs++_,by rw[hx];rfl,h,IsL.append r g⟩
theorem IsL.take {K:Fr0} {A:Addr->Prop} {H:Hp}:∀{ds:List D}{xs:List V}(n:Nat),IsL K A H ds xs->IsL K A H (ds.take n) (xs.take n)
 |_,_,0,_=>by simp[IsL]
 | [],_,_+1,h=>by rw[h];simp[IsL]
 |_::_,_,n+1,⟨x,ys,hx,h,r⟩=>by rw[hx];exact⟨x,ys.take n,rfl,h,IsL.take n r⟩
theorem IsL.drop {K:Fr0} {A:Addr->Prop} {H:Hp}:∀{ds:List D}{xs:List V}(n:Nat),IsL K A H ds xs->IsL K A H (ds.drop n) (xs.drop n)
 |_,_,0,h=>h
 | [],_,_+1,h=>by rw[h];simp[IsL]
 |_::_,_,n+1,⟨x,ys,hx,h,r⟩=>by rw[hx];exact IsL.drop n r
theorem IsL.one{K:Fr0}{A:Addr->Prop}{H:Hp}{d:D}{v:V}(h:Is K A H d v):IsL K A H [d] [v]:=⟨v,[],rfl,h,rfl⟩
theorem IsL.set {K:Fr0} {A:Addr->Prop} {H:Hp} {d:D} {v:V} (hd:Is K A H d v):∀{ds:List D}{xs:List V}(n:Nat),IsL K A H ds xs->IsL K A H (ds.set n d) (xs.set n v)
 | [],_,_,h=>by rw[h];simp[IsL]
 |_::_,_,0,⟨x,ys,hx,h,r⟩=>by rw[hx];exact⟨v,ys,rfl,hd,r⟩
 |_::_,_,n+1,⟨x,ys,hx,h,r⟩=>by rw[hx];exact⟨x,ys.set n v,rfl,h,IsL.set hd n r⟩
abbrev Env:=List (OD)
structure Exn where
 cls:Str
 val:D
inductive R (α:Type) where
 |ok (a:α)|exc (x:Exn) (Z:Env)|bad
structure Fc where
 O:List Nat
 P:List Nat
 B:Addr->Prop
 H0:Hp
 Io:Addr->Prop
 E:Exn->Hp->Prop
 S:Nat->Option (Option V)
 J:List Nat:=[]
def Cl(O:List Nat)(σ:St)(a:Addr):Prop:=∀j∈O,σ[j]? ≠ some (some (.ref a))
def Cn(c:Fc)(σ:St)(a:Addr):Prop:=c.B a/\Cl c.O σ a
inductive Tg where
 |l|d (C dx l:Addr)
def lab:Tg×List V->HO
 |(.l,xs) => .lst xs
 |(.d C dx l,xs) => .dsk C dx l xs
def qds (K:Fr0) (J:List Nat) (i:Nat) (t:Tg) (d:D) (ds:List D):Prop:=match t with
 |.l=>d=.lst ds
 |.d C _ _=>d=.tup ds/\i∈J/\zY K "Desk"=some C/\immL ds=true
theorem qew {p:Tg×List V} {xs:List V}:lab p ≠ .tup xs:=by
 obtain⟨t,ys⟩:=p
 cases t<;>(intro h;cases h)
theorem qex {p:Tg×List V} {o:Obj} {u:HO}:lab p ≠ .frz o u:=by
 obtain⟨t,ys⟩:=p
 cases t<;>(intro h;cases h)
theorem qh4 {p:Tg×List V} {o:Pos} {u:Str}:lab p ≠ .lam o u:=by
 obtain⟨t,ys⟩:=p
 cases t<;>(intro h;cases h)
structure Rep (K:Fr0) (c:Fc) (Z:Env) (σ:St) (H:Hp):Prop where
 len:Z.length=σ.length
 val:∀i d,Z[i]? = some (some d)->∃v,σ[i]? = some (some v) /\
  ((i∈c.O/\∃(ds:List D)(a:Addr)(xs:Tg×List V),qds K c.J i xs.1 d ds/\v=.ref a/\H a=some (lab xs)/\IsL K (Cn c σ) H ds xs.2)\/(i ∉ c.O/\Is K (Cn c σ) H d v))
 own:∀j∈c.O,∀v,σ[j]? = some (some v)->∃a xs,v=.ref a/\H a=some (lab xs)/\(c.H0 a=none\/(j∈c.P/\c.Io a))
 inj:∀i j a,i∈c.O->j∈c.O->σ[i]? = some (some (.ref a))->σ[j]? = some (some (.ref a))->i=j
 b0:(∀a,c.H0 a=none->c.B a)/\qmI K c.H0 c.Io
 kp:∀b o,c.H0 b=some o->¬c.Io b->H b=some o
 dm:∀b,H b=none->c.H0 b=none
 pO:∀j∈c.P,j∈c.O
 ps:∀j∈c.P,σ[j]? = c.S j
theorem Rep.tb{K:Fr0}{c:Fc}{Z:Env}{σ:St}{H:Hp}(r:Rep K c Z σ H):vV K H:=λq P pos e=>⟨r.kp P _ (r.b0.2 q P pos e).1 (r.b0.2 q P pos e).2,λz=>z⟩
structure Gr (O:List Nat) (σ:St) (H H':Hp):Prop where
 ext:Ext (Cl O σ) H H'
 dom:∀b,H' b=none->H b=none
theorem Gr.refl{O:List Nat}{σ:St}{H:Hp}:Gr O σ H H:=⟨Ext.refl,λ_ h=>h⟩
theorem Gr.of_same{O:List Nat}{σ:St}{H H':Hp}(s:jq H H'):Gr O σ H H':=⟨Ext.of_same s,λ_ h=>s.free h⟩
theorem Gr.trans {O:List Nat} {σ:St} {H H1 H2:Hp} (a:Gr O σ H H1) (b:Gr O σ H1 H2):Gr O σ H H2 :=
 ⟨⟨λc xs h=>b.ext.tup c xs (a.ext.tup c xs h),λc o u h=>b.ext.frz c o u (a.ext.frz c o u h),λc o hc h=>b.ext.at_ c o hc (a.ext.at_ c o hc h)⟩,λc h=>a.dom c (b.dom c h)⟩
theorem Gr.cn{c:Fc}{σ:St}{H H':Hp}(g:Gr c.O σ H H'):Ext (Cn c σ) H H':=⟨g.ext.tup,g.ext.frz,λb o hb h=>g.ext.at_ b o hb.2 h⟩
theorem Gr.is{K:Fr0}{c:Fc}{σ:St}{H H':Hp}{d:D}{v:V}(g:Gr c.O σ H H')(h:Is K (Cn c σ) H d v):Is K (Cn c σ) H' d v:=Is.ext g.cn (λ_ h _=>h) h
theorem Gr.isL{K:Fr0}{c:Fc}{σ:St}{H H':Hp}{d:List D}{v:List V}(g:Gr c.O σ H H')(h:IsL K (Cn c σ) H d v):IsL K (Cn c σ) H' d v:=IsL.ext g.cn (λ_ h _=>h) h
theorem Rep.new {K:Fr0} {c:Fc} {Z:Env} {σ:St} {H:Hp} (r:Rep K c Z σ H) {a:Addr} (h:H a=none):Cn c σ a :=
 ⟨r.b0.1 a (r.dm a h),λj hj e=>by obtain⟨b,xs,e1,e2,_⟩:=r.own j hj _ e;cases e1;rw[h]at e2;cases e2⟩
theorem Rep.same {K:Fr0} {c:Fc} {Z:Env} {σ:St} {H H':Hp} (r:Rep K c Z σ H) (s:jq H H'):Rep K c Z σ H' where
 len:=r.len
 val:=λi d h=>by
  obtain⟨v,h1,h2⟩:=r.val i d h
  refine⟨v,h1,?_⟩
  rcases h2 with⟨hi,ds,a,xs,h3,h5,h6,h7⟩|⟨hi,h3⟩
  ·exact .inl ⟨hi,ds,a,xs,h3,h5,s _ _ h6,IsL.ext (Ext.of_same s) (λ_ h _=>h) h7⟩
  ·exact .inr ⟨hi,Is.ext (Ext.of_same s) (λ_ h _=>h) h3⟩
 own:=λj hj v h=>by
  obtain⟨a,xs,h1,h2,h3⟩:=r.own j hj v h
  exact⟨a,xs,h1,s _ _ h2,h3⟩
 inj:=r.inj
 b0:=r.b0
 kp:=λb o h1 h2=>s _ _ (r.kp b o h1 h2)
 dm:=λb h=>r.dm b (s.free h)
 pO:=r.pO
 ps:=r.ps
theorem Rep.get {K:Fr0} {c:Fc} {Z:Env} {σ:St} {H:Hp} (r:Rep K c Z σ H) {i:Nat} {d:D} (hi:i ∉ c.O) (h:Z[i]? = some (some d)):∃v,σ[i]? = some (some v)/\Is K (Cn c σ) H d v:=by
 obtain⟨v,h1,h2⟩:=r.val i d h
 rcases h2 with⟨h3,_⟩|⟨_,h3⟩
 ·exact absurd h3 hi
 ·exact⟨v,h1,h3⟩
theorem Rep.getO {K:Fr0} {c:Fc} {Z:Env} {σ:St} {H:Hp} (r:Rep K c Z σ H) {i:Nat} {d:D} (hi:i∈c.O) (h:Z[i]? = some (some d)) :
  ∃(ds:List D)(a:Addr)(xs:Tg×List V),qds K c.J i xs.1 d ds/\σ[i]? = some (some (.ref a))/\H a=some (lab xs)/\IsL K (Cn c σ) H ds xs.2:=by
 obtain⟨v,h1,h2⟩:=r.val i d h
 rcases h2 with⟨_,ds,a,xs,h3,h5,h6,h7⟩|⟨h3,_⟩
 ·subst h5;exact⟨ds,a,xs,h3,h1,h6,h7⟩
 ·exact absurd hi h3
theorem qj5 {K:Fr0} {J:List Nat} {i:Nat} {t:Tg} {es ds:List D} (h:qds K J i t (.lst es) ds):t=.l/\es=ds:=by
 cases t with
 |l=>cases (show D.lst es=.lst ds from h);exact⟨rfl,rfl⟩
 |d C dx l=>cases (show D.lst es=.tup ds/\_ from h).1
theorem Rep.getOL {K:Fr0} {c:Fc} {Z:Env} {σ:St} {H:Hp} (r:Rep K c Z σ H) {i:Nat} {es:List D} (hi:i∈c.O) (h:Z[i]? = some (some (.lst es))) :
  ∃ds a xs,D.lst es=.lst ds/\σ[i]? = some (some (.ref a))/\H a=some (.lst xs)/\IsL K (Cn c σ) H ds xs:=by
 obtain⟨ds,a,⟨t,xs⟩,h1,h2,h3,h4⟩:=r.getO hi h
 obtain⟨e1,e2⟩:=qj5 h1
 cases e1;cases e2
 exact⟨es,a,xs,rfl,h2,h3,h4⟩
abbrev M(α:Type):=Env->R (α×Env)
def Wp (K:Fr0) (c:Fc) (σ:St) (H:Hp) (Q:VK):R (D×Env)->Prop
 |.ok (d,Z)=>∀v H',Rep K c Z σ H'->Is K (Cn c σ) H' d v->Gr c.O σ H H'->Q v H'
 |.exc x Z=>∀H',Rep K c Z σ H'->Gr c.O σ H H'->c.E x H'
 |.bad=>False
def WpB (K:Fr0) (c:Fc) (σ:St) (H:Hp) (Q:Bool->Hp->Prop):R (Bool×Env)->Prop
 |.ok (b,Z)=>∀H',Rep K c Z σ H'->Gr c.O σ H H'->Q b H'
 |.exc x Z=>∀H',Rep K c Z σ H'->Gr c.O σ H H'->c.E x H'
 |.bad=>False
def WpL (K:Fr0) (c:Fc) (σ:St) (H:Hp) (Q:List V->Hp->Prop):R (List D×Env)->Prop
 |.ok (ds,Z)=>∀vs H',Rep K c Z σ H'->IsL K (Cn c σ) H' ds vs->Gr c.O σ H H'->Q vs H'
 |.exc x Z=>∀H',Rep K c Z σ H'->Gr c.O σ H H'->c.E x H'
 |.bad=>False
def DE(X:Cx)(c:Fc)(e:Expr)(f:M D):Prop:=∃t,PE X e t/\∀Z σ H Q,Rep X.K c Z σ H->Wp X.K c σ H Q (f Z)->t σ H Q
def DT(X:Cx)(c:Fc)(e:Expr)(f:M Bool):Prop:=∃t,PT X e t/\∀Z σ H Q,Rep X.K c Z σ H->WpB X.K c σ H Q (f Z)->t σ H Q
def DA(X:Cx)(c:Fc)(es:List Expr)(f:M (List D)):Prop:=∃t,PA X es t/\∀Z σ H Q,Rep X.K c Z σ H->WpL X.K c σ H Q (f Z)->t σ H Q
def ret{α:Type}(a:α):M α:=λZ => .ok (a,Z)
def bnd {α β:Type} (f:M α) (k:α->M β):M β:=λZ=>match f Z with
 |.ok (a,Z')=>k a Z'
 |.exc x Z' => .exc x Z'
 |.bad => .bad
def lift {α:Type}:Option α->M α
 |some a=>ret a
 |none=>λ_ => .bad
theorem jQ{α β:Type}{f:M α}{k:α->M β}{Z Z':Env}{a:α}(h:f Z=.ok (a,Z')):bnd f k Z=k a Z':=by unfold bnd;rw[h]
section
variable{K:Fr0}{c:Fc}{σ:St}{H H1:Hp}{Q:VK}{QB:Bool->Hp->Prop}{QL:List V->Hp->Prop}{r:R (D×Env)}
theorem Wp.gr:∀{r:R (D×Env)},Wp K c σ H Q r->Gr c.O σ H H1->Wp K c σ H1 Q r
 |.ok (d,Z),h,g=>λv H' hr hi hg=>h v H' hr hi (g.trans hg)
 |.exc x Z,h,g=>λH' hr hg=>h H' hr (g.trans hg)
 |.bad,h,_=>h
theorem WpB.gr:∀{r:R (Bool×Env)},WpB K c σ H QB r->Gr c.O σ H H1->WpB K c σ H1 QB r
 |.ok (d,Z),h,g=>λH' hr hg=>h H' hr (g.trans hg)
 |.exc x Z,h,g=>λH' hr hg=>h H' hr (g.trans hg)
 |.bad,h,_=>h
theorem WpL.gr:∀{r:R (List D×Env)},WpL K c σ H QL r->Gr c.O σ H H1->WpL K c σ H1 QL r
 |.ok (d,Z),h,g=>λv H' hr hi hg=>h v H' hr hi (g.trans hg)
 |.exc x Z,h,g=>λH' hr hg=>h H' hr (g.trans hg)
 |.bad,h,_=>h
theorem Wp.bnd {f:M D} {k:D->M D} {Z:Env} {Q':VK} (h:Wp K c σ H Q (bnd f k Z)) (hQ:∀d Z' v H',Rep K c Z' σ H'->Is K (Cn c σ) H' d v->Gr c.O σ H H'->Wp K c σ H' Q (k d Z')->Q' v H'):Wp K c σ H Q' (f Z):=by
 unfold Sk.bnd at h
 cases e:f Z with
 |ok p=>rw[e]at h;exact λv H' hr hi hg=>hQ p.1 p.2 v H' hr hi hg (h.gr hg)
 |exc x Z'=>rw[e]at h;exact h
 |bad=>rw[e]at h;exact h
theorem Wp.bndB {f:M D} {k:D->M Bool} {Z:Env} {Q':VK} (h:WpB K c σ H QB (Sk.bnd f k Z)) (hQ:∀d Z' v H',Rep K c Z' σ H'->Is K (Cn c σ) H' d v->Gr c.O σ H H'->WpB K c σ H' QB (k d Z')->Q' v H'):Wp K c σ H Q' (f Z):=by
 unfold Sk.bnd at h
 cases e:f Z with
 |ok p=>rw[e]at h;exact λv H' hr hi hg=>hQ p.1 p.2 v H' hr hi hg (h.gr hg)
 |exc x Z'=>rw[e]at h;exact h
 |bad=>rw[e]at h;exact h
theorem Wp.bndL {f:M D} {k:D->M (List D)} {Z:Env} {Q':VK} (h:WpL K c σ H QL (Sk.bnd f k Z)) (hQ:∀d Z' v H',Rep K c Z' σ H'->Is K (Cn c σ) H' d v->Gr c.O σ H H'->WpL K c σ H' QL (k d Z')->Q' v H'):Wp K c σ H Q' (f Z):=by
 unfold Sk.bnd at h
 cases e:f Z with
 |ok p=>rw[e]at h;exact λv H' hr hi hg=>hQ p.1 p.2 v H' hr hi hg (h.gr hg)
 |exc x Z'=>rw[e]at h;exact h
 |bad=>rw[e]at h;exact h
theorem WpB.bnd {f:M Bool} {k:Bool->M D} {Z:Env} {Q':Bool->Hp->Prop} (h:Wp K c σ H Q (Sk.bnd f k Z)) (hQ:∀d Z' H',Rep K c Z' σ H'->Gr c.O σ H H'->Wp K c σ H' Q (k d Z')->Q' d H'):WpB K c σ H Q' (f Z):=by
 unfold Sk.bnd at h
 cases e:f Z with
 |ok p=>rw[e]at h;exact λH' hr hg=>hQ p.1 p.2 H' hr hg (h.gr hg)
 |exc x Z'=>rw[e]at h;exact h
 |bad=>rw[e]at h;exact h
theorem WpB.bndB {f:M Bool} {k:Bool->M Bool} {Z:Env} {Q':Bool->Hp->Prop} (h:WpB K c σ H QB (Sk.bnd f k Z)) (hQ:∀d Z' H',Rep K c Z' σ H'->Gr c.O σ H H'->WpB K c σ H' QB (k d Z')->Q' d H'):WpB K c σ H Q' (f Z):=by
 unfold Sk.bnd at h
 cases e:f Z with
 |ok p=>rw[e]at h;exact λH' hr hg=>hQ p.1 p.2 H' hr hg (h.gr hg)
 |exc x Z'=>rw[e]at h;exact h
 |bad=>rw[e]at h;exact h
theorem WpL.bnd {f:M (List D)} {k:List D->M D} {Z:Env} {Q':List V->Hp->Prop} (h:Wp K c σ H Q (Sk.bnd f k Z)) (hQ:∀d Z' v H',Rep K c Z' σ H'->IsL K (Cn c σ) H' d v->Gr c.O σ H H'->Wp K c σ H' Q (k d Z')->Q' v H'):WpL K c σ H Q' (f Z):=by
 unfold Sk.bnd at h
 cases e:f Z with
 |ok p=>rw[e]at h;exact λv H' hr hi hg=>hQ p.1 p.2 v H' hr hi hg (h.gr hg)
 |exc x Z'=>rw[e]at h;exact h
 |bad=>rw[e]at h;exact h
theorem WpL.bndL {f:M (List D)} {k:List D->M (List D)} {Z:Env} {Q':List V->Hp->Prop} (h:WpL K c σ H QL (Sk.bnd f k Z)) (hQ:∀d Z' v H',Rep K c Z' σ H'->IsL K (Cn c σ) H' d v->Gr c.O σ H H'->WpL K c σ H' QL (k d Z')->Q' v H'):WpL K c σ H Q' (f Z):=by
 unfold Sk.bnd at h
 cases e:f Z with
 |ok p=>rw[e]at h;exact λv H' hr hi hg=>hQ p.1 p.2 v H' hr hi hg (h.gr hg)
 |exc x Z'=>rw[e]at h;exact h
 |bad=>rw[e]at h;exact h
theorem Wp.lift {o:OD} {Z:Env} (h:Wp K c σ H Q (Sk.lift o Z)):∃d,o=some d/\∀v H',Rep K c Z σ H'->Is K (Cn c σ) H' d v->Gr c.O σ H H'->Q v H':=by
 cases o with
 |none=>exact h.elim
 |some d=>exact⟨d,rfl,h⟩
end
section
variable{X:Cx}{c:Fc}{a b e:Expr}{pos:Pos}
theorem qk{i j pos}:DE X c (.Constant (.int i) j pos) (ret (.int i)):=⟨_,qgX,λ_ _ H Q r h=>h _ H r rfl .refl⟩
theorem ww{i j pos}:DE X c (.Constant (.bool i) j pos) (ret (.bl i)):=⟨_,qlH,λ_ _ H Q r h=>h _ H r rfl .refl⟩
theorem uq{j pos}:DE X c (.Constant .none j pos) (ret .non):=⟨_,qjx,λ_ _ H Q r h=>h _ H r rfl .refl⟩
theorem qC{x j pos}:DE X c (.Constant (.str x) j pos) (ret (.str x)):=⟨_,qgY,λ_ _ H Q r h=>h _ H r rfl .refl⟩
def dv (i:Nat):M D:=λZ=>match Z[i]? with
 |some (some d) => .ok (d,Z)
 |_ => .bad
theorem qd (i:Nat) {x:Str} (ho:i ∉ c.O:=by exact of_decide_eq_false rfl) (hN:X.N[i]? = some x:=by rfl) (hv:Vis X.env.scope x:=by first|exact yaC rfl|exact yav (yaC rfl)|exact yav (yav rfl)) (hd:(x==("__debug__":Str))=false:=by decide)
  (hcd:(x==("__classdict__":Str))=false:=by decide):DE X c (.Name x pos) (dv i):=by
 refine⟨_,zq hN hv hd hcd,λZ σ H Q r h=>?_⟩
 unfold dv at h
 split at h
 ·rename_i d e
  obtain⟨v,h1,h2⟩:=r.get ho e
  exact⟨v,h1,h v H r h2 .refl⟩
 ·exact h.elim
theorem qey {x:Str} {v:V} {u:Value} {d:D} (hg:Gl X x) (hm:X.mg x=some u) (rv:jp v u) (hd:∀H A,Is X.K A H d v) (hdb:(x==("__debug__":Str))=false:=by decide):DE X c (.Name x pos) (ret d) :=
 ⟨_,qay hg hm rv hdb,λ_ _ H Q r h=>h _ H r (hd _ _) .refl⟩
theorem qf:DA X c [] (ret []):=⟨_,yi,λ_ _ H Q r h=>h _ H r rfl .refl⟩
def qa(f:M D)(g:M (List D)):M (List D):=bnd f λd=>bnd g λds=>ret (d::ds)
theorem qb {es:List Expr} {f:M D} {g:M (List D)} (ha:DE X c e f) (hr:DA X c es g) (hs:yac (e::es) X.env=(false,eval e X.env)::yac es X.env:=by rfl):DA X c (e::es) (qa f g):=by
 obtain⟨ta,pa,wa⟩:=ha
 obtain⟨tr,pr,wr⟩:=hr
 refine⟨_,zJ pa pr hs,λZ σ H Q r h=>wa Z σ H _ r (Wp.bndL h λd Z1 v H1 r1 i1 g1 h1=>wr Z1 σ H1 _ r1 (WpL.bndL h1 λds Z2 vs H2 r2 i2 g2 h2=>?_))⟩
 exact h2 _ H2 r2 ⟨v,vs,rfl,g2.is i1,i2⟩ .refl
def qF(n:Nat):Bool:=decide (n<=yao)
def j6(f:M (List D)):M D:=bnd f λds=>lift (if qF ds.length then some (.tup ds)else none)
def yb(f:M (List D)):M D:=bnd f λds=>lift (if qF ds.length then some (.lst ds)else none)
theorem qA{H:Hp}{p:Addr}(h:H p=none)(o:HO):jq H (upd H p o):=λb u q=>by rw[qg (qr q h)];exact q
theorem Rep.laid{K:Fr0}{Z:Env}{σ:St}{H:Hp}(r:Rep K c Z σ H){p:Addr}(h:H p=none)(o:HO):Rep K c Z σ (upd H p o):=r.same (qA h o)
theorem z8 {p:Bool} {d e:D} (h:(if p then some d else none)=some e):p=true/\d=e:=by
 cases p with
 |true=>exact⟨rfl,by simpa using h⟩
 |false=>simp at h
theorem yA {es:List Expr} {x1} {f:M (List D)} (h:DA X c es f):DE X c (.Tuple es x1 pos) (j6 f):=by
 obtain⟨t,p,w⟩:=h
 refine⟨_,qem p,λZ σ H Q r h=>w Z σ H _ r (WpL.bnd h λds Z1 vs H1 r1 i1 g1 h1=>?_)⟩
 obtain⟨d,e,h2⟩:=h1.lift
 obtain⟨e1,e2⟩:=z8 e
 subst e2
 refine⟨by rw[i1.length];exact of_decide_eq_true e1,λp hp=>h2 _ _ (r1.laid hp _) ⟨p,vs,rfl,.inl qi,IsL.ext (Ext.of_same (qA hp _)) (λ_ h _=>h) i1⟩ (.of_same (qA hp _))⟩
theorem yO {es:List Expr} {f:M (List D)} (h:DA X c es f):DE X c (.List es pos) (yb f):=by
 obtain⟨t,p,w⟩:=h
 refine⟨_,qbe p,λZ σ H Q r h=>w Z σ H _ r (WpL.bnd h λds Z1 vs H1 r1 i1 g1 h1=>?_)⟩
 obtain⟨d,e,h2⟩:=h1.lift
 obtain⟨e1,e2⟩:=z8 e
 subst e2
 refine⟨by rw[i1.length];exact of_decide_eq_true e1,λp hp=>h2 _ _ (r1.laid hp _) ⟨p,vs,rfl,r1.new hp,qi,IsL.ext (Ext.of_same (qA hp _)) (λ_ h _=>h) i1⟩ (.of_same (qA hp _))⟩
def OpS (K:Fr0) (F:D->D->OD) (r:R2):Prop:=∀(A:Addr->Prop)(H:Hp)(x y d:D)(v u:V)(Q:VK),(∀a,H a=none->A a)->Is K A H x v->Is K A H y u->F x y=some d ->
 (∀w H',jq H H'->Is K A H' d w->Q w H')->r v u H Q
def d2(F:D->D->OD)(f g:M D):M D:=bnd f λx=>bnd g λy=>lift (F x y)
theorem op2 {r:R2} {F:D->D->OD} {f g:M D} {ta tb:TE} (hF:OpS X.K F r) (wa:∀Z σ H Q,Rep X.K c Z σ H->Wp X.K c σ H Q (f Z)->ta σ H Q) (wb:∀Z σ H Q,Rep X.K c Z σ H->Wp X.K c σ H Q (g Z)->tb σ H Q) :
  ∀Z σ H Q,Rep X.K c Z σ H->Wp X.K c σ H Q (d2 F f g Z)->tOp r ta tb σ H Q:=λZ σ H Q rp h=>wa Z σ H _ rp (Wp.bnd h λx Z1 v H1 r1 i1 g1 h1=>wb Z1 σ H1 _ r1 (Wp.bnd h1 λy Z2 u H2 r2 i2 g2 h2=>by
 obtain⟨d,e,h3⟩:=h2.lift
 exact hF _ H2 x y d v u Q (λa ha=>r2.new ha) (g2.is i1) i2 e λw H' s i=>h3 w H' (r2.same s) i (.of_same s)))
theorem qz {op:Operator} {r:R2} {F:D->D->OD} {f g:M D} (ho:OpR X (ya9 op) r) (hF:OpS X.K F r) (ha:DE X c a f) (hb:DE X c b g):DE X c (.BinOp a op b pos) (d2 F f g):=by
 obtain⟨ta,pa,wa⟩:=ha
 obtain⟨tb,pb,wb⟩:=hb
 exact⟨_,qlS ho pa pb,op2 hF wa wb⟩
theorem uP {op:CmpOp} {r:R2} {F:D->D->OD} {f g:M D} (ho:OpR X (yaV op) r) (hF:OpS X.K F r) (ha:DE X c a f) (hb:DE X c b g) (hm:ybO op b=false):DE X c (.Compare a [op] [b] pos) (d2 F f g):=by
 obtain⟨ta,pa,wa⟩:=ha
 obtain⟨tb,pb,wb⟩:=hb
 exact⟨_,qhO ho pa pb hm,op2 hF wa wb⟩
def asB:D->Option Bool
 |.bl b=>some b
 |_=>none
def tst(f:M D):M Bool:=bnd f λd=>lift (asB d)
theorem qcy {K:Fr0} {σ:St} {H:Hp} {QB:Bool->Hp->Prop} {o:Option Bool} {Z:Env} (h:WpB K c σ H QB (lift o Z)):∃b,o=some b/\∀H',Rep K c Z σ H'->Gr c.O σ H H'->QB b H':=by
 cases o with
 |none=>exact h.elim
 |some d=>exact⟨d,rfl,h⟩
theorem qaE {d:D} {b:Bool} (h:asB d=some b):d=.bl b:=by
 cases d<;>simp[asB]at h
 subst h;rfl
theorem qO {op:CmpOp} {r:R2} {F:D->D->OD} {f g:M D} (ho:OpR X (yaV op) r) (hF:OpS X.K F r) (ha:DE X c a f) (hb:DE X c b g) (hm:ybO op b=false):DT X c (.Compare a [op] [b] pos) (tst (d2 F f g)):=by
 obtain⟨ta,pa,wa⟩:=ha
 obtain⟨tb,pb,wb⟩:=hb
 refine⟨_,qeg ho pa pb hm,λZ σ H Q rp h=>op2 hF wa wb Z σ H _ rp (Wp.bndB h λd Z1 v H1 r1 i1 g1 h1=>?_)⟩
 obtain⟨b,e,h2⟩:=qcy h1
 have:=qaE e
 subst this
 exact⟨b,i1,h2 H1 r1 .refl⟩
theorem yP {f:M D} (h:DE X c e f) (he:∀whole,isTrue e X.env whole=(do let v <-whole;ycM e.pos;ybP [v] (truthy v)):=by intro _;rfl):DT X c e (tst f):=by
 obtain⟨t,p,w⟩:=h
 refine⟨_,qjy p he,λZ σ H Q rp h=>w Z σ H _ rp (Wp.bndB h λd Z1 v H1 r1 i1 g1 h1=>?_)⟩
 obtain⟨b,e,h2⟩:=qcy h1
 have:=qaE e
 subst this
 exact⟨b,i1,h2 H1 r1 .refl⟩
def qb3(f:M Bool):M Bool:=bnd f λb=>ret (!b)
theorem ui {f:M Bool} (h:DT X c a f):DT X c (.UnaryOp .Not a pos) (qb3 f):=by
 obtain⟨t,p,w⟩:=h
 exact⟨_,qjB p,λZ σ H Q rp h=>w Z σ H _ rp (WpB.bndB h λd Z1 H1 r1 g1 h1=>h1 H1 r1 .refl)⟩
def DW(X:Cx)(c:Fc)(e:Expr)(f:M Bool):Prop:=∃t,PW X e t/\∀Z σ H Q,Rep X.K c Z σ H->WpB X.K c σ H Q (f Z)->t σ H Q
theorem DW.dt {f:M Bool} (h:DW X c e f):DT X c e f:=by
 obtain⟨t,p,w⟩:=h
 exact⟨t,p.pt,w⟩
def qlB(f g:M Bool):M Bool:=bnd f λb=>if b then g else ret false
def tor(f g:M Bool):M Bool:=bnd f λb=>if b then ret true else g
variable{rest:List Expr}
theorem qh5 {f:M Bool} (h:DT X c a f):DW X c (.BoolOp .And [a] pos) f:=by
 obtain⟨t,p,w⟩:=h
 exact⟨t,qhG p,w⟩
theorem vL {f:M Bool} (h:DT X c a f):DW X c (.BoolOp .Or [a] pos) f:=by
 obtain⟨t,p,w⟩:=h
 exact⟨t,qjz p,w⟩
theorem qj6 {f g:M Bool} (ha:DT X c a f) (hb:DW X c (.BoolOp .And (b::rest) pos) g):DW X c (.BoolOp .And (a::b::rest) pos) (qlB f g):=by
 obtain⟨ta,pa,wa⟩:=ha
 obtain⟨tb,pb,wb⟩:=hb
 refine⟨_,qjA pa pb,λZ σ H Q rp h=>wa Z σ H _ rp (WpB.bndB h λd Z1 H1 r1 g1 h1=>?_)⟩
 cases d with
 |true=>exact qjm (wb Z1 σ H1 Q r1 (by simpa using h1))
 |false=>exact qjl ((by simpa using h1:WpB X.K c σ H1 Q (ret false Z1)) H1 r1 .refl)
theorem qbl {f g:M Bool} (ha:DT X c a f) (hb:DW X c (.BoolOp .Or (b::rest) pos) g):DW X c (.BoolOp .Or (a::b::rest) pos) (tor f g):=by
 obtain⟨ta,pa,wa⟩:=ha
 obtain⟨tb,pb,wb⟩:=hb
 refine⟨_,qlI pa pb,λZ σ H Q rp h=>wa Z σ H _ rp (WpB.bndB h λd Z1 H1 r1 g1 h1=>?_)⟩
 cases d with
 |true=>exact qjm ((by simpa using h1:WpB X.K c σ H1 Q (ret true Z1)) H1 r1 .refl)
 |false=>exact qjl (wb Z1 σ H1 Q r1 (by simpa using h1))
def qlC(f:M D):M D:=bnd f λd=>bnd (lift (asB d)) λb=>ret (.bl (!b))
def qh6(f g:M D):M D:=bnd f λd=>bnd (lift (asB d)) λb=>if b then g else ret (.bl false)
def dor(f g:M D):M D:=bnd f λd=>bnd (lift (asB d)) λb=>if b then ret (.bl true)else g
theorem qez {K:Fr0} {σ:St} {H:Hp} {Q:VK} {d:D} {k:Bool->M D} {Z:Env} (h:Wp K c σ H Q (bnd (lift (asB d)) k Z)):∃b,d=.bl b/\Wp K c σ H Q (k b Z):=by
 unfold bnd at h
 cases e:asB d with
 |none=>rw[e]at h;exact h.elim
 |some b=>rw[e]at h;exact⟨b,qaE e,h⟩
theorem vM {op} {f:M D} (h:DE X c a f):DE X c (.BoolOp op [a] pos) f:=by
 obtain⟨t,p,w⟩:=h
 exact⟨t,qjC p,w⟩
theorem qj7 {f:M D} (h:DE X c a f):DE X c (.UnaryOp .Not a pos) (qlC f):=by
 obtain⟨t,p,w⟩:=h
 refine⟨_,qjE p,λZ σ H Q rp h=>w Z σ H _ rp (Wp.bnd h λd Z1 v H1 r1 i1 g1 h1=>?_)⟩
 obtain⟨b,e,h2⟩:=qez h1
 subst e
 exact⟨b,i1,h2 _ H1 r1 rfl .refl⟩
theorem qcz {f g:M D} (ha:DE X c a f) (hb:DE X c (.BoolOp .And (b::rest) pos) g):DE X c (.BoolOp .And (a::b::rest) pos) (qh6 f g):=by
 obtain⟨ta,pa,wa⟩:=ha
 obtain⟨tb,pb,wb⟩:=hb
 refine⟨_,qjD pa pb,λZ σ H Q rp h=>wa Z σ H _ rp (Wp.bnd h λd Z1 v H1 r1 i1 g1 h1=>?_)⟩
 obtain⟨k,e,h2⟩:=qez h1
 subst e
 refine⟨k,i1,?_⟩
 cases k with
 |true=>exact qjm (wb Z1 σ H1 Q r1 (by simpa using h2))
 |false=>exact qjl ((by simpa using h2:Wp X.K c σ H1 Q (ret (.bl false) Z1)) _ H1 r1 rfl .refl)
theorem qh7 {f g:M D} (ha:DE X c a f) (hb:DE X c (.BoolOp .Or (b::rest) pos) g):DE X c (.BoolOp .Or (a::b::rest) pos) (dor f g):=by
 obtain⟨ta,pa,wa⟩:=ha
 obtain⟨tb,pb,wb⟩:=hb
 refine⟨_,qlL pa pb,λZ σ H Q rp h=>wa Z σ H _ rp (Wp.bnd h λd Z1 v H1 r1 i1 g1 h1=>?_)⟩
 obtain⟨k,e,h2⟩:=qez h1
 subst e
 refine⟨k,i1,?_⟩
 cases k with
 |true=>exact qjm ((by simpa using h2:Wp X.K c σ H1 Q (ret (.bl true) Z1)) _ H1 r1 rfl .refl)
 |false=>exact qjl (wb Z1 σ H1 Q r1 (by simpa using h2))
def dif(f:M Bool)(g k:M D):M D:=bnd f λb=>if b then g else k
theorem qdt {t:Expr} {f:M Bool} {g k:M D} (ht:DT X c t f) (ha:DE X c a g) (hb:DE X c b k):DE X c (.IfExp t a b pos) (dif f g k):=by
 obtain⟨tt,pt,wt⟩:=ht
 obtain⟨ta,pa,wa⟩:=ha
 obtain⟨tb,pb,wb⟩:=hb
 refine⟨_,qfZ pt pa pb,λZ σ H Q rp h=>wt Z σ H _ rp (WpB.bnd h λd Z1 H1 r1 g1 h1=>?_)⟩
 cases d with
 |true=>exact qjm (wa Z1 σ H1 Q r1 (by simpa using h1))
 |false=>exact qjl (wb Z1 σ H1 Q r1 (by simpa using h1))
def w5 (K:Fr0) (F:List D->OD) (r:List V->Hp->VK->Prop):Prop:=∀(A:Addr->Prop)(H:Hp)(xs:List D)(d:D)(vs:List V)(Q:VK),(∀a,H a=none->A a)->IsL K A H xs vs->F xs=some d ->
 (∀w H',jq H H'->Is K A H' d w->Q w H')->r vs H Q
def qp(F:List D->OD)(f:M (List D)):M D:=bnd f λds=>lift (F ds)
theorem qj8 {r:List V->Hp->VK->Prop} {F:List D->OD} {f:M (List D)} {t:TA} (hF:w5 X.K F r) (w:∀Z σ H Q,Rep X.K c Z σ H->WpL X.K c σ H Q (f Z)->t σ H Q) :
  ∀Z σ H Q,Rep X.K c Z σ H->Wp X.K c σ H Q (qp F f Z)->tCB r t σ H Q:=λZ σ H Q rp h=>w Z σ H _ rp (WpL.bnd h λds Z1 vs H1 r1 i1 g1 h1=>by
 obtain⟨d,e,h3⟩:=h1.lift
 exact hF _ H1 ds d vs Q (λa ha=>r1.new ha) i1 e λw H' s i=>h3 w H' (r1.same s) i (.of_same s))
theorem qW {id:String} {x:Str} {p:Pos} {es:List Expr} {r:List V->Hp->VK->Prop} {F:List D->OD} {f:M (List D)} (hc:yM X (.builtin id) r) (hF:w5 X.K F r) (hg:Gl X x) (hm:X.mg x=none) (hv:yaF x=some (.builtin id)) (ha:DA X c (e::es) f) (hn:x≠"__name__":=by decide) (hdb:(x==("__debug__":Str))=false:=by decide)
  (he:yac (e::es) X.env=(false,eval e X.env)::yac es X.env:=by rfl) (hpl:(yaz pos (yac es X.env)).any (·.1)=false:=by rfl):DE X c (.Call (.Name x p) (e::es) [] pos) (qp F f):=by
 obtain⟨t,pa,w⟩:=ha
 exact⟨_,u4 hc hg hm hv pa hn hdb he hpl,qj8 hF w⟩
theorem zv {T:String} {x:Str} {p:Pos} {es:List Expr} {r:List V->Hp->VK->Prop} {F:List D->OD} {f:M (List D)} (hc:yM X (.type T) r) (hF:w5 X.K F r) (hg:Gl X x) (hm:X.mg x=none) (hv:yaF x=some (.type T)) (ha:DA X c (e::es) f) (hn:x≠"__name__":=by decide) (hdb:(x==("__debug__":Str))=false:=by decide)
  (he:yac (e::es) X.env=(false,eval e X.env)::yac es X.env:=by rfl) (hpl:(yaz pos (yac es X.env)).any (·.1)=false:=by rfl):DE X c (.Call (.Name x p) (e::es) [] pos) (qp F f):=by
 obtain⟨t,pa,w⟩:=ha
 exact⟨_,qep hc hg hm hv pa hn hdb he hpl,qj8 hF w⟩
theorem zx {r:R2} {F:D->D->OD} {f g:M D} (hr:IxR X r) (hF:OpS X.K F r) (ha:DE X c a f) (hb:DE X c b g) (hs:qb0 b:=by intro _ _;rfl):DE X c (.Subscript a b pos) (d2 F f g):=by
 obtain⟨ta,pa,wa⟩:=ha
 obtain⟨tb,pb,wb⟩:=hb
 exact⟨_,qjW hr pa pb hs,op2 hF wa wb⟩
end
inductive Fl where
 |nx (Z:Env)|rt (d:D) (Z:Env)|bk (Z:Env)|ct (Z:Env)
structure GrS (O:List Nat) (σ:St) (H:Hp) (σ':St) (H':Hp):Prop where
 ext:Ext (Cl O σ) H H'
 cl:∀b,Cl O σ b->(H b).isSome=true->Cl O σ' b
 dom:∀b,H' b=none->H b=none
theorem qdu {H H':Hp} {b:Addr} (dom:H' b=none->H b=none) (h:(H b).isSome=true):(H' b).isSome=true:=by
 cases e:H' b with
 |none=>rw[dom e]at h;cases h
 |some o=>rfl
theorem GrS.refl{O:List Nat}{σ:St}{H:Hp}:GrS O σ H σ H:=⟨Ext.refl,λ_ h _=>h,λ_ h=>h⟩
theorem Gr.s{O:List Nat}{σ:St}{H H':Hp}(g:Gr O σ H H'):GrS O σ H σ H':=⟨g.ext,λ_ h _=>h,g.dom⟩
theorem GrS.trans {O:List Nat} {σ σ1 σ2:St} {H H1 H2:Hp} (a:GrS O σ H σ1 H1) (b:GrS O σ1 H1 σ2 H2):GrS O σ H σ2 H2 :=
 ⟨⟨λc xs h=>b.ext.tup c xs (a.ext.tup c xs h),λc o u h=>b.ext.frz c o u (a.ext.frz c o u h),λc o hc h=>b.ext.at_ c o (a.cl c hc (by rw[h];rfl)) (a.ext.at_ c o hc h)⟩,
  λc hc h=>b.cl c (a.cl c hc h) (qdu (a.dom c) h),λc h=>a.dom c (b.dom c h)⟩
theorem GrS.is {K:Fr0} {c:Fc} {σ σ':St} {H H':Hp} {d:D} {v:V} (g:GrS c.O σ H σ' H') (h:Is K (Cn c σ) H d v):Is K (Cn c σ') H' d v :=
 Is.ext ⟨g.ext.tup,g.ext.frz,λb o hb h=>g.ext.at_ b o hb.2 h⟩ (λa ha hs=>⟨ha.1,g.cl a ha.2 hs⟩) h
theorem GrS.isL {K:Fr0} {c:Fc} {σ σ':St} {H H':Hp} {d:List D} {v:List V} (g:GrS c.O σ H σ' H') (h:IsL K (Cn c σ) H d v):IsL K (Cn c σ') H' d v :=
 IsL.ext ⟨g.ext.tup,g.ext.frz,λb o hb h=>g.ext.at_ b o hb.2 h⟩ (λa ha hs=>⟨ha.1,g.cl a ha.2 hs⟩) h
def WpS (K:Fr0) (c:Fc) (σ:St) (H:Hp) (D:qdZ):R Fl->Prop
 |.ok (.nx Z)=>∀σ' H',Rep K c Z σ' H'->GrS c.O σ H σ' H'->D.nx σ' H'
 |.ok (.rt d Z)=>∀v σ' H',Rep K c Z σ' H'->Is K c.B H' d v->GrS c.O σ H σ' H'->D.rt v H'
 |.ok (.bk Z)=>∀σ' H',Rep K c Z σ' H'->GrS c.O σ H σ' H'->D.bk σ' H'
 |.ok (.ct Z)=>∀σ' H',Rep K c Z σ' H'->GrS c.O σ H σ' H'->D.ct σ' H'
 |.exc x Z=>∀σ' H',Rep K c Z σ' H'->GrS c.O σ H σ' H'->c.E x H'
 |.bad=>False
abbrev MS:=Env->R Fl
def DS(X:Cx)(c:Fc)(st:Stmt)(f:MS):Prop:=∃t,PS X st t/\∀Z σ H D,Rep X.K c Z σ H->WpS X.K c σ H D (f Z)->t D σ H
def DSs(X:Cx)(c:Fc)(st:List Stmt)(f:MS):Prop:=∃t,PSs X st t/\∀Z σ H D,Rep X.K c Z σ H->WpS X.K c σ H D (f Z)->t D σ H
theorem WpS.gr {K:Fr0} {c:Fc} {σ σ1:St} {H H1:Hp} {D:qdZ}:∀{r:R Fl},WpS K c σ H D r->GrS c.O σ H σ1 H1->WpS K c σ1 H1 D r
 |.ok (.nx Z),h,g=>λσ' H' hr hg=>h σ' H' hr (g.trans hg)
 |.ok (.rt d Z),h,g=>λv σ' H' hr hi hg=>h v σ' H' hr hi (g.trans hg)
 |.ok (.bk Z),h,g=>λσ' H' hr hg=>h σ' H' hr (g.trans hg)
 |.ok (.ct Z),h,g=>λσ' H' hr hg=>h σ' H' hr (g.trans hg)
 |.exc x Z,h,g=>λσ' H' hr hg=>h σ' H' hr (g.trans hg)
 |.bad,h,_=>h
def sbnd {α:Type} (f:M α) (k:α->MS):MS:=λZ=>match f Z with
 |.ok (a,Z')=>k a Z'
 |.exc x Z' => .exc x Z'
 |.bad => .bad
section
variable{K:Fr0}{c:Fc}{σ:St}{H:Hp}{D:qdZ}
theorem Wp.sbnd {f:M Sk.D} {k:Sk.D->MS} {Z:Env} {Q':VK} (h:WpS K c σ H D (sbnd f k Z)) (hQ:∀d Z' v H',Rep K c Z' σ H'->Is K (Cn c σ) H' d v->Gr c.O σ H H'->WpS K c σ H' D (k d Z')->Q' v H'):Wp K c σ H Q' (f Z):=by
 unfold Sk.sbnd at h
 cases e:f Z with
 |ok p=>rw[e]at h;exact λv H' hr hi hg=>hQ p.1 p.2 v H' hr hi hg (h.gr hg.s)
 |exc x Z'=>rw[e]at h;exact λH' hr hg=>h σ H' hr hg.s
 |bad=>rw[e]at h;exact h
theorem WpB.sbnd {f:M Bool} {k:Bool->MS} {Z:Env} {Q':Bool->Hp->Prop} (h:WpS K c σ H D (sbnd f k Z)) (hQ:∀d Z' H',Rep K c Z' σ H'->Gr c.O σ H H'->WpS K c σ H' D (k d Z')->Q' d H'):WpB K c σ H Q' (f Z):=by
 unfold Sk.sbnd at h
 cases e:f Z with
 |ok p=>rw[e]at h;exact λH' hr hg=>hQ p.1 p.2 H' hr hg (h.gr hg.s)
 |exc x Z'=>rw[e]at h;exact λH' hr hg=>h σ H' hr hg.s
 |bad=>rw[e]at h;exact h
theorem WpL.sbnd {f:M (List Sk.D)} {k:List Sk.D->MS} {Z:Env} {Q':List V->Hp->Prop} (h:WpS K c σ H D (sbnd f k Z)) (hQ:∀d Z' v H',Rep K c Z' σ H'->IsL K (Cn c σ) H' d v->Gr c.O σ H H'->WpS K c σ H' D (k d Z')->Q' v H'):WpL K c σ H Q' (f Z):=by
 unfold Sk.sbnd at h
 cases e:f Z with
 |ok p=>rw[e]at h;exact λv H' hr hi hg=>hQ p.1 p.2 v H' hr hi hg (h.gr hg.s)
 |exc x Z'=>rw[e]at h;exact λH' hr hg=>h σ H' hr hg.s
 |bad=>rw[e]at h;exact h
end
def qJ (f g:MS):MS:=λZ=>match f Z with
 |.ok (.nx Z')=>g Z'
 |r=>r
theorem WpS.mono_nx {K:Fr0} {c:Fc} {σ:St} {H:Hp} {D:qdZ} {f g:MS} {Z:Env} {N:St->Hp->Prop} (h:WpS K c σ H D (qJ f g Z)) (hN:∀Z' σ' H',Rep K c Z' σ' H'->GrS c.O σ H σ' H'->WpS K c σ' H' D (g Z')->N σ' H') :
  WpS K c σ H {D with nx:=N} (f Z):=by
 unfold qJ at h
 cases e:f Z with
 |ok fl=>
  rw[e]at h
  cases fl with
  |nx Z'=>exact λσ' H' hr hg=>hN Z' σ' H' hr hg (h.gr hg)
  |rt d Z'=>exact h
  |bk Z'=>exact h
  |ct Z'=>exact h
 |exc x Z'=>rw[e]at h;exact h
 |bad=>rw[e]at h;exact h
section
variable{X:Cx}{c:Fc}{a b e:Expr}{pos:Pos}{st:Stmt}{sts:List Stmt}
theorem qh8:DSs X c [] (λZ => .ok (.nx Z)):=⟨_,qhH,λZ σ H D r h=>h σ H r .refl⟩
theorem qj {f:MS} (h:DS X c st f):DSs X c [st] f:=by
 obtain⟨t,p,w⟩:=h
 exact⟨t,qaA p,w⟩
theorem qh {f g:MS} (h:DS X c st f) (hr:DSs X c sts g):DSs X c (st::sts) (qJ f g):=by
 obtain⟨t,p,w⟩:=h
 obtain⟨t2,p2,w2⟩:=hr
 exact⟨_,qaz p p2,λZ σ H D r h=>w Z σ H _ r (h.mono_nx λZ' σ' H' r' g' h'=>w2 Z' σ' H' D r' h')⟩
def zu(f:M D):MS:=sbnd f λd Z => .ok (.rt d Z)
theorem Is.cn{K:Fr0}{σ:St}{H:Hp}{d:D}{v:V}(h:Is K (Cn c σ) H d v):Is K c.B H d v:=Is.ext Ext.refl (λ_ h _=>h.1) h
theorem qE {f:M D} (h:DE X c e f):DS X c (.Return (some e) pos) (zu f):=by
 obtain⟨t,p,w⟩:=h
 exact⟨_,qd7 p,λZ σ H D r h=>w Z σ H _ r (Wp.sbnd h λd Z1 v H1 r1 i1 g1 h1=>h1 v σ H1 r1 i1.cn .refl)⟩
def jY(f:M D):MS:=sbnd f λ_ Z => .ok (.nx Z)
theorem yH {f:M D} (h:DE X c e f) (hs:ybe e none pos.line X.env=pure false:=by rfl):DS X c (.Expr e pos) (jY f):=by
 obtain⟨t,p,w⟩:=h
 exact⟨_,qhI p hs,λZ σ H D r h=>w Z σ H _ r (Wp.sbnd h λd Z1 v H1 r1 i1 g1 h1=>h1 σ H1 r1 .refl)⟩
def sif(f:M Bool)(g k:MS):MS:=sbnd f λb=>if b then g else k
theorem zQ {t:Expr} {s1 s2:List Stmt} {f:M Bool} {g k:MS} (ht:DT X c t f) (ha:DSs X c s1 g) (hb:DSs X c s2 k):DS X c (.If t s1 s2 pos) (sif f g k):=by
 obtain⟨tt,pt,wt⟩:=ht
 obtain⟨ta,pa,wa⟩:=ha
 obtain⟨tb,pb,wb⟩:=hb
 refine⟨_,qlO pt pa pb,λZ σ H D rp h=>wt Z σ H _ rp (WpB.sbnd h λd Z1 H1 r1 g1 h1=>?_)⟩
 cases d with
 |true=>exact qjm (wa Z1 σ H1 D r1 (by simpa using h1))
 |false=>exact qjl (wb Z1 σ H1 D r1 (by simpa using h1))
theorem zy{α:Type}{l:List α}{i j:Nat}{v:α}(h:j≠i):(l.set i v)[j]? = l[j]? := List.getElem?_set_ne (yaG h)
theorem Cl.set {O:List Nat} {σ:St} {i:Nat} {v:Option V} (hi:i ∉ O) (a:Addr):Cl O (σ.set i v) a ↔ Cl O σ a:=by
 constructor
 ·intro h j hj
  have e:j≠i:=λe=>hi (e▸hj)
  have:=h j hj
  rw[zy e]at this
  exact this
 ·intro h j hj
  have e:j≠i:=λe=>hi (e▸hj)
  rw[zy e]
  exact h j hj
theorem Rep.set {K:Fr0} {Z:Env} {σ:St} {H:Hp} {i:Nat} {d:D} {v:V} (r:Rep K c Z σ H) (hi:i ∉ c.O) (h:Is K (Cn c σ) H d v):Rep K c (Z.set i (some d)) (σ.set i (some v)) H where
 len:=by rw[lS_,lS_];exact r.len
 val := λj e hj=>by
  have up:∀{d':D}{v':V},Is K (Cn c σ) H d' v'->Is K (Cn c (σ.set i (some v))) H d' v':=λh=>Is.ext Ext.refl (λa ha _=>⟨ha.1,(Cl.set hi a).mpr ha.2⟩) h
  by_cases e1:j=i
  ·subst e1
   have hl:j<Z.length:=by
    have:=(gI_.mp hj).1
    rwa [lS_]at this
   rw[List.getElem?_set_self hl]at hj
   cases hj
   refine⟨v,List.getElem?_set_self (by rw[<-r.len];exact hl),.inr ⟨hi,up h⟩⟩
  ·rw[zy e1]at hj
   obtain⟨w,h1,h2⟩:=r.val j e hj
   refine⟨w,by rw[zy e1];exact h1,?_⟩
   rcases h2 with⟨hj2,ds,a,xs,h3,h5,h6,h7⟩|⟨h3,h4⟩
   ·exact .inl ⟨hj2,ds,a,xs,h3,h5,h6,IsL.ext Ext.refl (λa ha _=>⟨ha.1,(Cl.set hi a).mpr ha.2⟩) h7⟩
   ·exact .inr ⟨h3,up h4⟩
 own:=λj hj w h=>by
  have e1:j≠i:=λe=>hi (e▸hj)
  rw[zy e1]at h
  exact r.own j hj w h
 inj:=λj k a hj hk h1 h2=>by
  have e1:j≠i:=λe=>hi (e▸hj)
  have e2:k≠i:=λe=>hi (e▸hk)
  rw[zy e1]at h1
  rw[zy e2]at h2
  exact r.inj j k a hj hk h1 h2
 b0:=r.b0
 kp:=r.kp
 dm:=r.dm
 pO:=r.pO
 ps:=λj hj=>by
  have e:j≠i:=λe=>hi (e▸r.pO j hj)
  rw[zy e];exact r.ps j hj
theorem GrS.set{O:List Nat}{σ:St}{H:Hp}{i:Nat}{v:Option V}(hi:i ∉ O):GrS O σ H (σ.set i v) H:=⟨Ext.refl,λb h _=>(Cl.set hi b).mpr h,λ_ h=>h⟩
def yc(i:Nat)(f:M D):MS:=sbnd f λd Z => .ok (.nx (Z.set i (some d)))
theorem z5 {i:Nat} {x:Str} {pos':Pos} {f:M D} (hN:X.N.Nodup) (he:DE X c e f) (ho:i ∉ c.O:=by exact of_decide_eq_false rfl) (hi:X.N[i]? = some x:=by rfl) (hx:Loc X.env.scope x:=by first|exact yaC rfl|exact yav rfl) (hs:ybe e (some (.Name x pos')) pos.line X.env=pure false:=by rfl) (hf:X.fn x=true\/X.env.scope.names.lookup x=some .local:=by first|exact .inl rfl|exact .inr rfl|assumption) :
  DS X c (.Assign [.Name x pos'] e pos) (yc i f):=by
 obtain⟨t,p,w⟩:=he
 refine⟨_,qcu hN hi hx p hs hf,λZ σ H D r h=>w Z σ H _ r (Wp.sbnd h λd Z1 v H1 r1 i1 g1 h1=>?_)⟩
 exact h1 _ H1 (r1.set ho i1) (.set ho)
def DG (X:Cx) (c:Fc) (tg:Expr) (f:D->Env->Option Env):Prop:=∃g,PG X tg g/\∀Z σ H d v Z' (N:St->Hp->Prop),Rep X.K c Z σ H->Is X.K (Cn c σ) H d v->f d Z=some Z' ->
 (∀σ',Rep X.K c Z' σ' H->GrS c.O σ H σ' H->(∀j∈c.O,σ'[j]? = σ[j]?)->N σ' H)->g v σ H N
def qH(i:Nat):D->Env->Option Env:=λd Z=>some (Z.set i (some d))
theorem zm {i:Nat} {x:Str} (hN:X.N.Nodup) (ho:i ∉ c.O:=by exact of_decide_eq_false rfl) (hi:X.N[i]? = some x:=by rfl) (hx:Loc X.env.scope x:=by first|exact yaC rfl|exact yav rfl) (hf:X.fn x=true\/X.env.scope.names.lookup x=some .local:=by first|exact .inl rfl|exact .inr rfl|assumption) {p:Pos}:DG X c (.Name x p) (qH i):=by
 refine⟨_,qhJ hN hi hx hf,λZ σ H d v Z' N r h e k=>?_⟩
 cases e
 exact k _ (r.set ho h) (.set ho) λj hj=>zy λe=>ho (e▸hj)
def DGs (X:Cx) (c:Fc) (tgs:List Expr) (f:List D->Env->Option Env):Prop:=∃g,PGs X tgs g/\∀Z σ H ds vs Z' (N:St->Hp->Prop),Rep X.K c Z σ H->IsL X.K (Cn c σ) H ds vs->f ds Z=some Z' ->
 (∀σ',Rep X.K c Z' σ' H->GrS c.O σ H σ' H->(∀j∈c.O,σ'[j]? = σ[j]?)->N σ' H)->g vs σ H N
def qb4:List D->Env->Option Env
 | [],Z=>some Z
 |_,_=>none
def zM (f:D->Env->Option Env) (g:List D->Env->Option Env):List D->Env->Option Env
 |d::ds,Z=>(f d Z).bind (g ds)
 |_,_=>none
theorem wx:DGs X c [] qb4:=by
 refine⟨_,qhK,λZ σ H ds vs Z' N r h e k=>?_⟩
 cases ds with
 |nil=>
  cases e
  exact⟨h,k σ r .refl λ_ _=>rfl⟩
 |cons d ds=>cases e
theorem jd {tg:Expr} {tgs:List Expr} {f:D->Env->Option Env} {g:List D->Env->Option Env} (h1:DG X c tg f) (h2:DGs X c tgs g)
  (hs:(ybh (tg::tgs) X.env).map (·.2)=ydj tg X.env::(ybh tgs X.env).map (·.2):=by rfl):DGs X c (tg::tgs) (zM f g):=by
 obtain⟨t1,p1,w1⟩:=h1
 obtain⟨t2,p2,w2⟩:=h2
 refine⟨_,qf0 p1 p2 hs,λZ σ H ds vs Z' N r h e k=>?_⟩
 cases ds with
 |nil=>cases e
 | cons d ds=>
  obtain⟨v,ws,rfl,i1,i2⟩:=h
  have e':(f d Z).bind (g ds)=some Z':=e
  cases e1:f d Z with
  |none=>rw[e1]at e';cases e'
  |some Z1=>
   rw[e1]at e'
   exact⟨v,ws,rfl,w1 Z σ H d v Z1 _ r i1 e1 λσ1 r1 g1 o1=>w2 Z1 σ1 H ds ws Z' N r1 (g1.isL i2) e' λσ2 r2 g2 o2=>k σ2 r2 (g1.trans g2) λj hj=>(o2 j hj).trans (o1 j hj)⟩
def qb5 (n:Nat) (g:List D->Env->Option Env):D->Env->Option Env
 |.tup ds,Z=>if ds.length=n then g ds Z else none
 |_,_=>none
theorem qbm {es:List Expr} {k n:Nat} {p:Pos} {g:List D->Env->Option Env} (hc:X.calm=true) (h:DGs X c es g) (hn:(ybh es X.env).length=n:=by rfl) (hst:(ybh es X.env).findIdx? (·.1)=none:=by rfl):DG X c (.Tuple es k p) (qb5 n g):=by
 obtain⟨t,p,w⟩:=h
 refine⟨_,qjG (n:=n) hc p hn hst,λZ σ H d v Z' N r h e q=>?_⟩
 cases d with
 | tup ds=>
  obtain⟨a,xs,rfl,ta,il⟩:=h
  have e':(if ds.length=n then g ds Z else none)=some Z':=e
  by_cases hl:ds.length=n
  ·rw[if_pos hl]at e'
   exact⟨a,xs,rfl,ta.sq,by rw[il.length];exact hl,w Z σ H ds xs Z' N r il e' q⟩
  ·rw[if_neg hl]at e';cases e'
 |_=>cases e
def qd1 (f:M D) (g:D->Env->Option Env):MS:=sbnd f λd Z=>match g d Z with
 |some Z' => .ok (.nx Z')
 |none => .bad
theorem qeA {tg:Expr} {f:M D} {g:D->Env->Option Env} (he:DE X c e f) (hg:DG X c tg g) (hs:ycA [tg] e pos.line X.env=pure false:=by rfl) (hw:ycB [tg] e X.env=pure none:=by rfl) (h1:(ybh [tg] X.env).map (·.2)=[ydj tg X.env]:=by rfl):DS X c (.Assign [tg] e pos) (qd1 f g):=by
 obtain⟨t,p,w⟩:=he
 obtain⟨t2,p2,w2⟩:=hg
 refine⟨_,qgZ p p2 hs hw h1,λZ σ H D r h=>w Z σ H _ r (Wp.sbnd h λd Z1 v H1 r1 i1 g1 h1=>?_)⟩
 cases e:g d Z1 with
 |none=>rw[e]at h1;exact h1.elim
 |some Z2=>
  rw[e]at h1
  exact w2 Z1 σ H1 d v Z2 _ r1 i1 e λσ' r2 g2 _=>h1 σ' H1 r2 g2
end
section
variable{K:Fr0}
def iiD (g:Int->Int->D):D->D->OD
 |.int i,.int j=>some (g i j)
 |_,_=>none
def qh9 (C:Int->Int->Bool) (g:Int->Int->D):D->D->OD
 |.int i,.int j=>if C i j then some (g i j)else none
 |_,_=>none
theorem qaF {g:Int->Int->V} {gD:Int->Int->D} (hg:∀A H i j,Is K A H (gD i j) (g i j)):OpS K (iiD gD) (rI0 g):=by
 intro A H x y d v u Q hn ix iy e k
 cases x<;>cases y<;>simp only[iiD]at e<;>try (cases e;done)
 rename_i i j
 cases (yax e)
 cases (show v=.int i from ix)
 cases (show u=.int j from iy)
 exact⟨i,j,rfl,rfl,k _ H (jq.refl H) (hg _ _ _ _)⟩
theorem qeB {C:Int->Int->Prop} {CB:Int->Int->Bool} {g:Int->Int->V} {gD:Int->Int->D} (hC:∀i j,CB i j=true->C i j) (hg:∀A H i j,Is K A H (gD i j) (g i j)):OpS K (qh9 CB gD) (rI C g):=by
 intro A H x y d v u Q hn ix iy e k
 cases x<;>cases y<;>simp only[qh9]at e<;>try (cases e;done)
 rename_i i j
 obtain⟨e1,e2⟩:=z8 e
 subst e2
 cases (show v=.int i from ix)
 cases (show u=.int j from iy)
 exact⟨i,j,rfl,rfl,hC i j e1,k _ H (jq.refl H) (hg _ _ _ _)⟩
def qcA:D->D->OD:=iiD λi j => .int (i-j)
theorem qeC:OpS K qcA (rI0 λi j => .int (i-j)):=qaF λ_ _ _ _=>rfl
def yB(i:Int):Bool:=decide (-(2 ^ 64)<i)&&decide (i<2 ^ 64)
theorem qbn {i:Int} (h:yB i=true) : -(2 ^ 64)<i/\i<2 ^ 64:=by
 unfold yB at h
 rw[yau]at h
 exact⟨of_decide_eq_true h.1,of_decide_eq_true h.2⟩
def qeD(i j:Int):Bool:=yB i||yB j
theorem qgf {i j:Int} (h:qeD i j=true):qjN i j:=by
 unfold qeD at h
 rw[yd9]at h
 rcases h with h|h
 ·exact .inl (qbn h)
 ·exact .inr (qbn h)
def qdv(i j:Int):Bool:=decide (0<j)&&decide (j<1606938044258990275541962092341162602522202993782792835301376)
theorem qcB {i j:Int} (h:qdv i j=true):qjM i j:=by
 unfold qdv at h
 rw[yau]at h
 exact⟨of_decide_eq_true h.1,of_decide_eq_true h.2⟩
def qdw:D->D->OD:=qh9 qdv λi j => .int (i/j)
theorem qaG:OpS K qdw (rI qjM λi j => .int (i/j)):=qeB (λ_ _=>qcB) λ_ _ _ _=>rfl
def vZ:D->D->OD:=qh9 (λ_ j=>decide (0<j)) λi j => .int (i%j)
theorem ur:OpS K vZ (rI (λ_ j=>0<j) λi j => .int (i%j)):=qeB (λ_ _ h=>of_decide_eq_true h) λ_ _ _ _=>rfl
def ltD:D->D->OD:=iiD λi j => .bl (decide (i<j))
def gtD:D->D->OD:=iiD λi j => .bl (decide (j<i))
def geD:D->D->OD:=iiD λi j => .bl (decide (j<=i))
theorem qcC:OpS K ltD (rI0 λi j => .bl (decide (i<j))):=qaF λ_ _ _ _=>rfl
theorem qeE:OpS K gtD (rI0 λi j => .bl (decide (j<i))):=qaF λ_ _ _ _=>rfl
theorem qg7:OpS K geD (rI0 λi j => .bl (decide (j<=i))):=qaF λ_ _ _ _=>rfl
def sc2:D->D->Option Bool
 |.non,.non=>some true|.non,.int _=>some false|.int _,.non=>some false|.non,.bl _=>some false|.bl _,.non=>some false|.non,.str _=>some false|.str _,.non=>some false
 |.int i,.int j=>some (decide (i=j))|.bl i,.bl j=>some (decide (i=j))|.str i,.str j=>some (decide (i=j))
 |.int _,.str _=>some false|.str _,.int _=>some false|.bl _,.str _=>some false|.str _,.bl _=>some false
 |_,_=>none
def eqS(x y:D):OD:=(sc2 x y).map D.bl
def neS(x y:D):OD:=(sc2 x y).map λb=>D.bl (!b)
theorem qg8 {A:Addr->Prop} {H:Hp} {x y:D} {v u:V} {b:Bool} (ix:Is K A H x v) (iy:Is K A H y u) (e:sc2 x y=some b):qlV v u=true/\decide (v=u)=b:=by
 cases x<;>cases y<;>simp only[sc2]at e<;>first
  |(cases e;done)
  |(cases ix;cases iy;cases e;exact⟨rfl,rfl⟩)
  |(cases ix;cases iy;cases e;exact⟨rfl,by simp⟩)
  |(cases ix;cases iy;cases e;exact⟨rfl,by rw[yb9];simp⟩)
theorem qia:OpS K eqS rEq:=by
 intro A H x y d v u Q hn ix iy e k
 unfold eqS at e
 cases e1:sc2 x y with
 |none=>rw[e1]at e;cases e
 |some b=>
  rw[e1]at e
  cases e
  obtain⟨h1,h2⟩:=qg8 ix iy e1
  exact⟨h1,by rw[h2];exact k _ H (jq.refl H) rfl⟩
theorem qib:OpS K neS rNe:=by
 intro A H x y d v u Q hn ix iy e k
 unfold neS at e
 cases e1:sc2 x y with
 |none=>rw[e1]at e;cases e
 |some b=>
  rw[e1]at e
  cases e
  obtain⟨h1,h2⟩:=qg8 ix iy e1
  exact⟨h1,by rw[h2];exact k _ H (jq.refl H) rfl⟩
def uQ:D->Bool
 |.non=>true
 |_=>false
theorem v4 {A:Addr->Prop} {H:Hp} {x:D} {v:V} (ix:Is K A H x v):decide (v=V.non)=uQ x:=by
 cases x with
 |non=>cases ix;rfl
 |bl b=>cases ix;rfl
 |int i=>cases ix;rfl
 |str s=>cases ix;rfl
 |tup ds=>obtain⟨a,xs,rfl,_⟩:=ix;rfl
 |lst ds=>obtain⟨a,xs,rfl,_⟩:=ix;rfl
 |dic ds=>obtain⟨a,rfl,_⟩:=ix;rfl
 |fz ds=>obtain⟨a,rfl,_⟩:=ix;rfl
 |exc ds=>obtain⟨a,rfl,_⟩:=ix;rfl
def isN(x y:D):OD:=if uQ y then some (.bl (uQ x))else none
def qfU(x y:D):OD:=if uQ y then some (.bl (!uQ x))else none
theorem wy:OpS K isN (λx y H Q=>y=.non/\Q (.bl (decide (x=.non))) H):=by
 intro A H x y d v u Q hn ix iy e k
 obtain⟨e1,e2⟩:=z8 e
 subst e2
 have h:=v4 iy
 rw[e1]at h
 refine⟨of_decide_eq_true h,?_⟩
 rw[v4 ix]
 exact k _ H (jq.refl H) rfl
theorem qgg:OpS K qfU (λx y H Q=>y=.non/\Q (.bl (!decide (x=.non))) H):=by
 intro A H x y d v u Q hn ix iy e k
 obtain⟨e1,e2⟩:=z8 e
 subst e2
 have h:=v4 iy
 rw[e1]at h
 refine⟨of_decide_eq_true h,?_⟩
 rw[v4 ix]
 exact k _ H (jq.refl H) rfl
def ixD:D->D->OD
 |.tup ds,.int i=>atI ds i
 |.lst ds,.int i=>atI ds i
 |.fz ns,.int i=>(atI ns i).map D.int
 |_,_=>none
theorem IsL.atI {A:Addr->Prop} {H:Hp} {ds:List D} {xs:List V} {i:Int} {d:D} (h:IsL K A H ds xs) (e:L2.atI ds i=some d):∃v,L2.atI xs i=some v/\Is K A H d v:=by
 unfold L2.atI at e |-
 rw[h.length]
 cases e1:ixN ds.length i with
 |none=>rw[e1]at e;cases e
 |some j=>
  rw[e1]at e
  exact h.get e
theorem jx:OpS K ixD (λx y H Q=>qjX K x y H Q\/qjY K x y H Q):=by
 intro A H x y d v u Q hn ix iy e k
 cases x<;>cases y<;>simp only[ixD]at e<;>try (cases e;done)
 ·rename_i ds i
  cases iy
  obtain⟨a,xs,rfl,ta,il⟩:=ix
  obtain⟨w,h1,h2⟩:=il.atI e
  exact .inr ⟨a,xs,i,w,rfl,rfl,ta.sq,h1,k w H (jq.refl H) h2⟩
 ·rename_i ds i
  cases iy
  obtain⟨a,xs,rfl,_,ta,il⟩:=ix
  obtain⟨w,h1,h2⟩:=il.atI e
  exact .inl ⟨a,xs,i,w,rfl,rfl,.inl (.inl ta),h1,k w H (jq.refl H) h2⟩
 ·rename_i ns i
  cases iy
  obtain⟨a,rfl,ta⟩:=ix
  cases e1:L2.atI ns i with
  |none=>rw[e1]at e;cases e
  | some m=>
   rw[e1]at e
   cases e
   have h1:L2.atI (ns.map V.int) i=some (V.int m):=by
    unfold L2.atI at e1 |-
    rw[lM_]
    cases e2:ixN ns.length i with
    |none=>rw[e2]at e1;cases e1
    |some j=>
     rw[e2]at e1
     have e3:ns[j]? = some m:=e1
     show(ns.map V.int)[j]? = some (V.int m)
     rw[gM_,e3];rfl
   exact .inl ⟨a,_,i,.int m,rfl,rfl,ta.sq,h1,k _ H (jq.refl H) rfl⟩
theorem IsL.inv1 {A:Addr->Prop} {H:Hp} {d:D} {vs:List V} (h:IsL K A H [d] vs):∃v,vs=[v]/\Is K A H d v:=by
 obtain⟨x,ys,e1,e2,e3⟩:=h
 have e3':ys=[]:=e3
 exact⟨x,by rw[e1,e3'],e2⟩
theorem IsL.inv2 {A:Addr->Prop} {H:Hp} {d d':D} {vs:List V} (h:IsL K A H [d,d'] vs):∃v w,vs=[v,w]/\Is K A H d v/\Is K A H d' w:=by
 obtain⟨x,ys,e1,e2,e3⟩:=h
 obtain⟨w,e4,e5⟩:=IsL.inv1 e3
 exact⟨x,w,by rw[e1,e4],e2,e5⟩
def qnx:List D->OD
 | [.int i]=>some (.int (if i<0 then -i else i))
 |_=>none
def qic:List D->OD
 | [.int i,.int j]=>some (.int (if j>i then j else i))
 |_=>none
def qid:List D->OD
 | [.int i,.int j]=>some (.int (if j<i then j else i))
 |_=>none
theorem qeF:w5 K qic (λxs H Q=>∃i j,xs=[.int i,.int j]/\Q (.int (if j>i then j else i)) H):=by
 intro A H xs d vs Q hn h e k
 unfold qic at e
 split at e
 ·rename_i i j
  obtain⟨v,w,rfl,e2,e3⟩:=IsL.inv2 h
  cases e2;cases e3;cases e
  exact⟨i,j,rfl,k _ H (jq.refl H) rfl⟩
 ·cases e
theorem qeG:w5 K qid (λxs H Q=>∃i j,xs=[.int i,.int j]/\Q (.int (if j<i then j else i)) H):=by
 intro A H xs d vs Q hn h e k
 unfold qid at e
 split at e
 ·rename_i i j
  obtain⟨v,w,rfl,e2,e3⟩:=IsL.inv2 h
  cases e2;cases e3;cases e
  exact⟨i,j,rfl,k _ H (jq.refl H) rfl⟩
 ·cases e
def wz:List D->OD
 | [.int i,.int j]=>if qdv i j then some (.tup [.int (i/j),.int (i%j)])else none
 |_=>none
theorem qbo:w5 K wz (λxs H Q=>∃i j,xs=[.int i,.int j]/\qjM i j/\∀p,H p=none->Q (.ref p) (upd H p (.tup [.int (i/j),.int (i%j)]))):=by
 intro A H xs d vs Q hn h e k
 unfold wz at e
 split at e
 ·rename_i i j
  obtain⟨v,w,rfl,e2,e3⟩:=IsL.inv2 h
  cases e2;cases e3
  obtain⟨e6,e7⟩:=z8 e
  subst e7
  exact⟨i,j,rfl,qcB e6,λp hp=>k _ _ (qA hp _) ⟨p,_,rfl,.inl qi,_,_,rfl,rfl,_,_,rfl,rfl,rfl⟩⟩
 ·cases e
def yZ:List D->OD
 | [.tup ds]=>some (.int ds.length)
 | [.lst ds]=>some (.int ds.length)
 | [.fz ns]=>some (.int ns.length)
 | [.str x]=>if qF x.length then some (.int x.length)else none
 |_=>none
def qmJ(K:Fr0):List V->Hp->VK->Prop:=λxs H Q=>(∃p ys,xs=[.ref p]/\(SqL K H p ys\/SqT K H p ys)/\Q (.int ys.length) H)\/(∃z,xs=[.str z]/\z.length<=yao/\Q (.int z.length) H)
theorem zg{X:Cx}:yM X (.builtin "len") (qmJ X.K):=yM.or qbi qbj
theorem zj:w5 K yZ (qmJ K):=by
 intro A H xs d vs Q hn h e k
 unfold yZ at e
 split at e
 ·obtain⟨v,rfl,a,zs,rfl,ta,il⟩:=IsL.inv1 h
  cases e
  exact .inl ⟨a,zs,rfl,.inr ta.sq,by rw[il.length];exact k _ H (jq.refl H) rfl⟩
 ·obtain⟨v,rfl,a,zs,rfl,_,ta,il⟩:=IsL.inv1 h
  cases e
  exact .inl ⟨a,zs,rfl,.inl (.inl (.inl ta)),by rw[il.length];exact k _ H (jq.refl H) rfl⟩
 ·obtain⟨v,rfl,a,rfl,ta⟩:=IsL.inv1 h
  cases e
  exact .inl ⟨a,_,rfl,.inl ta.sq,by rw[lM_];exact k _ H (jq.refl H) rfl⟩
 ·rename_i z
  obtain⟨v,rfl,e2⟩:=IsL.inv1 h
  cases e2
  obtain⟨e4,e5⟩:=z8 e
  subst e5
  exact .inr ⟨z,rfl,of_decide_eq_true e4,k _ H (jq.refl H) rfl⟩
 ·cases e
end
end L2.Sk
namespace L2.Sk
open PySem PySem.Spec PySem.Calls PyProof.Rows PySem.W
def qg9(h:Heap)(a D:Addr):Prop:=∃o,h.get? a=some o/\o.cls=.ref D
theorem qg9.looks {M:Model} {h:Heap} {a D:Addr} (I:qg9 h a D):Looks M h (typeOf (.ref a)) (.ref D):=by
 obtain⟨o,h1,h2⟩:=I
 rw[<-h2]
 exact(Looks.ld h1).andThen .now
section
variable{prog:yag}{w:World}{A:yal}{E:Value->yaa->Prop}{K:Frag}{h:Heap}{g:Array ydS}{d:Drawn}{t:Nat}{os:OsState}{a D:Addr}
theorem qj9 (hm:mroIn K D (.type "object")=some true) {tp:Value} {R:ycW->yaa->Prop} (X:K.In h) (I:qg9 h a D) (hq:R (.ok (.ret (.ref D))) ⟨h,g,d,t,os⟩) :
  ybA (model prog w) A (.call (.builtin "getset_descriptor.__get__") ⟨[.builtin "object.__class__",.ref a,tp],[]⟩) R ⟨h,g,d,t,os⟩:=by
 have L0:=I.looks (M:=model prog w)
 have L1:=looks_mroIn (M:=model prog w) X hm
 have hT5:(⟨h,g,d,t,os⟩:yaa).TypeIs (.builtin "object.__class__") "getset_descriptor":=ycP
 refine yc4 F.slot_gs_get.plain F.entry_gs_get (F.slot_gs_get.check _ _ _ _ _ _ _ _ hT5 (F.args_gs_get _ _ _) ?_)
 have eo:".".intercalate ("object.__class__".cutAt '.').dropLast="object":=by decide +kernel
 repeat (any_goals (first|assumption|with_reducible refine L0.at ?_|with_reducible refine L1.at ?_|wp_step))
 rw[eo]
 refine L1.at ?_
 repeat (any_goals (first|assumption|with_reducible refine L0.at ?_|wp_step))
 refine⟨Code.quiet_builtin _ (by decide +kernel),yc5 F.entry_object_class ?_⟩
 repeat (any_goals (first|assumption|with_reducible refine L0.at ?_|wp_step))
theorem qgh (ha:findIn K (.ref D) "__class__"=some (some (.builtin "object.__class__"))) (hm:mroIn K D (.type "object")=some true) {tk:Tok} {Q:Fin->yaa->Prop} (X:K.In h) (I:qg9 h a D) (hq:Q (.done (.ret (.ref D))) ⟨h,g,d,t,os⟩) :
  wpAny (model prog w) A (ydP.«object.__getattribute__» ⟨[.ref a,.str "__class__" tk],[]⟩) Q E ⟨h,g,d,t,os⟩:=by
 have L0:=I.looks (M:=model prog w)
 have L1:=looks_findIn (M:=model prog w) X ha
 have hT5:(⟨h,g,d,t,os⟩:yaa).TypeIs (.builtin "object.__class__") "getset_descriptor":=ycP
 have f5:=ycP
 have f6:=F.slot_gs_get.lookup
 have f7:=F.slot_gs_set.lookup
 repeat (any_goals (first|assumption|with_reducible refine L0.at ?_|with_reducible refine L1.at ?_|wp_step))
 refine qj9 hm X I ?_
 repeat (any_goals (first|assumption|wp_step))
theorem qgi (hb:Looks (model prog w) h (isSubtype (.ref D) (.type "BaseException")) true) {nameV:Value} {Q:Unit->yaa->Prop} (I:qg9 h a D) (hq:Q () ⟨h,g,d,t,os⟩):wpAny (model prog w) A (checkBuiltinCall "BaseException.__getattribute__" ⟨[.ref a,nameV],[]⟩) Q E ⟨h,g,d,t,os⟩:=by
 have hk:builtinKind "BaseException.__getattribute__"=some .slot:=by decide +kernel
 have hsplit:splitId "BaseException.__getattribute__"=some ("BaseException","__getattribute__"):=by decide +kernel
 have L0:=I.looks (M:=model prog w)
 have ha:=F.args_bexc_ga (.ref a) nameV
 simp only[checkBuiltinCall,hk,hsplit]
 refine yab ?_
 ·unfold isInstance
  repeat (first|with_reducible refine L0.at ?_|with_reducible refine hb.at ?_|wp_step)
  exact hq
theorem ql3 (FA:ExcAttrFacts "ValueError") (hga:findIn K (.ref D) "__getattribute__"=some (some (.builtin "BaseException.__getattribute__"))) (hgt:findIn K (.ref D) "__getattr__"=some none) (ha:findIn K (.ref D) "__class__"=some (some (.builtin "object.__class__"))) (hm:mroIn K D (.type "object")=some true)
  (hb:Looks (model prog w) h (isSubtype (.ref D) (.type "BaseException")) true) {tk:Tok} {fill expr:Bool} {Q:Value->yaa->Prop} (X:K.In h) (I:qg9 h a D) (hq:Q (.ref D) ⟨h,g,d,t,os⟩) :
  wpAny (model prog w) A (getAttrBy (.ref a) (.str "__class__" tk) fill expr) Q E ⟨h,g,d,t,os⟩:=by
 have L0:=I.looks (M:=model prog w)
 have L1:=looks_findIn (M:=model prog w) X hga
 have L2:=looks_findIn (M:=model prog w) X hgt
 have f3:=FA.ga.bind (.ref a)
 have hx0:(expr&&onTheHeap (ycC "BaseException.__getattribute__"))=false:=by cases expr<;>rfl
 have hx2:(ycC "BaseException.__getattribute__"==ycC "object.__getattribute__")=false:=by decide +kernel
 have hx1:(onTheHeap (yaf D)&&ycC "BaseException.__getattribute__"==ycC "object.__getattribute__")=false:=by rw[hx2];rfl
 repeat (any_goals (first|assumption|with_reducible refine L0.at ?_|with_reducible refine L1.at ?_|with_reducible refine L2.at ?_|wp_step))
 refine yc4 FA.ga.plain F.entry_bexc_ga (qgi hb I (qgh ha hm X I ?_))
 repeat (any_goals (first|assumption|wp_step))
theorem qie (FA:ExcAttrFacts "ValueError") (hga:findIn K (.ref D) "__getattribute__"=some (some (.builtin "BaseException.__getattribute__"))) (hgt:findIn K (.ref D) "__getattr__"=some none) (ha:findIn K (.ref D) "__class__"=some (some (.builtin "object.__class__"))) (hm:mroIn K D (.type "object")=some true)
  (hb:Looks (model prog w) h (isSubtype (.ref D) (.type "BaseException")) true) {Q:Option Value->yaa->Prop} (X:K.In h) (I:qg9 h a D) (hq:Q (some (.ref D)) ⟨h,g,d,t+1,os⟩) :
  wpAny (model prog w) A (getAttr? (.ref a) "__class__") Q E ⟨h,g,d,t,os⟩:=by
 unfold getAttr? getAttrBy?
 repeat (any_goals (first|assumption|with_reducible apply ql3 FA hga hgt ha hm hb X I|wp_step))
end
theorem qgj {K:Frag} {a D:Addr} (c:XK6 K D):KitX K (.ref a) (.ref D) (λh=>qg9 h a D) where
 ty:=λ_ _ _ I=>I.looks
 it := λ_ _ X _=>by
  obtain⟨cdD,hcD⟩:=Option.isSome_iff_exists.mp c.is
  unfold clsIn at hcD
  split at hcD
  ·rename_i c' d' cd' sl' ho
   intro A' Q' E' s' k q
   unfold isType loadHead
   exact yab (wpAny_loadPart (k _ _ (X _ _ ho)) (yam q))
  ·cases hcD
 ne := λh tp dd its n sl X htp=>by
  obtain⟨cdD,hcD⟩:=Option.isSome_iff_exists.mp c.is
  refine Bool.eq_false_iff.mpr λq=>?_
  have e:D=tp:=ydy (beq_iff_eq.mp q)
  subst e
  unfold clsIn at hcD
  split at hcD
  ·rename_i c' d' cd' sl' ho
   have z:=(X _ _ ho).symm.trans htp
   cases z
  ·cases hcD
 ca:=λ{prog w A E Q s} X p k=>by
  have I:=p
  obtain⟨h,g,d,t,os⟩:=s
  exact qie PySem.F.attrBase_ValueError.toExcAttrFacts c.ga c.gt c.cl c.ob (looks_subIn X c.be) X I k
theorem qai {X:Cx} {pins:List (Addr×Obj)} {σ:St} {H:Hp} {s:yaa} {A:yal} {E:Value->yaa->Prop} {Q:Value->yaa->Prop} {a C:Addr} {c:Value} {b:Bool} (I:Inv X pins σ H s) (xc:XK6 X.K C) (hH:∃o vs,H a=some (.frz o (.own a))/\o.cls=.ref C/\o.data=.fields vs)
  (e:kitOne X.K (.ref C) c=some b) (h:∀tk,Q (.bool b) {s with toks:=tk}):wpAny (model X.prog X.w) A (call (.builtin "isinstance") [.ref a,c]) Q E s:=by
 obtain⟨o,vs,h1,h2,_⟩:=hH
 obtain⟨p,_⟩:=(show jO X.prog X.w H s.heap a (.frz o (.own a))from I.hok a _ h1)
 exact kia_one (qgj xc) I.kIn ⟨o,p,h2⟩ e (λz=>nomatch z) h
end L2.Sk
namespace L2.Sk
open PySem PySem.Spec PyProof.Rows
def tyD:D->String
 |.non=>"NoneType"
 |.bl _=>"bool"
 |.int _=>"int"
 |.str _=>"str"
 |.tup _=>"tuple"
 |.lst _=>"list"
 |.dic _=>"dict"
 |.fz _=>"list"
 |.exc _=>"exc"
def qb6(t T:String):Bool:=t==T||(t=="bool"&&T=="int")
def qb7:List String:=["NoneType","bool","int","str","tuple","list","dict"]
theorem qif (d:D) (h:∀C,d ≠ .exc C):tyD d∈qb7:=by
 cases d<;>first|(simp[tyD,qb7];done)|exact absurd rfl (h _)
structure qig (K:Fr0) (T:String):Prop where
 ok:∀t∈qb7,yek K (.type t) (.type T)=some (qb6 t T)
 ex:T∈["int","bool","str","tuple","list","dict"]
 nx:qb6 "exc" T=false
theorem qih {K:Fr0}:qig K "int":=⟨λt ht=>by
 simp only[qb7,yaA,nN_,or_false]at ht
 rcases ht with rfl|rfl|rfl|rfl|rfl|rfl|rfl<;>kernel_rfl,by decide,by decide⟩
theorem qgk {K:Fr0}:qig K "bool":=⟨λt ht=>by
 simp only[qb7,yaA,nN_,or_false]at ht
 rcases ht with rfl|rfl|rfl|rfl|rfl|rfl|rfl<;>kernel_rfl,by decide,by decide⟩
theorem qii {K:Fr0}:qig K "str":=⟨λt ht=>by
 simp only[qb7,yaA,nN_,or_false]at ht
 rcases ht with rfl|rfl|rfl|rfl|rfl|rfl|rfl<;>kernel_rfl,by decide,by decide⟩
theorem qbp {K:Fr0}:qig K "tuple":=⟨λt ht=>by
 simp only[qb7,yaA,nN_,or_false]at ht
 rcases ht with rfl|rfl|rfl|rfl|rfl|rfl|rfl<;>kernel_rfl,by decide,by decide⟩
section
variable{X:Cx}{pins:List (Addr×Obj)}{σ:St}{H:Hp}{s:yaa}{A:Addr->Prop}{E:Value->yaa->Prop}{Q:Value->yaa->Prop}
theorem qka {d:D} {v:V} {u:Value} {T:String} (I:Inv X pins σ H s) (h:Is X.K A H d v) (rv:jp v u) (kt:qig X.K T) (hQ:∀tk,Q (.bool (qb6 (tyD d) T)) {s with toks:=tk}) :
  wpAny (model X.prog X.w) X.A (call (.builtin "isinstance") [u,.type T]) Q E s:=by
 by_cases hx:∃C,d=.exc C
 ·obtain ⟨C,rfl⟩:=hx
  obtain⟨a,rfl,xa⟩:=h
  cases (show u=yaf a from rv)
  have q:∀tk,Q (.bool false) {s with toks:=tk}:=λtk=>by
   have:=hQ tk
   rw[show tyD (.exc C)="exc" from rfl,kt.nx]at this
   exact this
  obtain⟨D0,h0,h1,h2⟩:=xa
  exact qai I h1 h2 (h1.no T kt.ex) q
 have e:=kt.ok (tyD d) (qif d λC hC=>hx ⟨C,hC⟩)
 cases d with
 |exc C=>exact absurd ⟨C,rfl⟩ hx
 |non=>cases h;exact yN I rv .non e hQ
 |bl b=>cases h;exact yN I rv (.bl b) e hQ
 |int i=>cases h;exact yN I rv (.int i) e hQ
 |str x=>cases h;exact yN I rv (.str x) e hQ
 |tup ds=>
  obtain⟨a,xs,rfl,ta,il⟩:=h
  cases (show u=yaf a from rv)
  obtain⟨its,r,p,z⟩:=I.tuple ta.sq
  obtain⟨o,h1,h2,_⟩:=p
  exact yaP yeX I.kIn ⟨o,h1,h2⟩ e (λz=>nomatch z) hQ
 |lst ds=>
  obtain⟨a,xs,rfl,hA,ta,il⟩:=h
  exact yN I rv (.lst ta) e hQ
 |dic kvs=>
  obtain⟨a,rfl,hA,ta⟩:=h
  exact yN I rv (.dK ta) e hQ
 |fz ns=>
  obtain⟨a,rfl,ta⟩:=h
  cases (show u=yaf a from rv)
  obtain⟨its,r,p,z⟩:=I.list ta.sq
  obtain⟨o,h1,h2,_⟩:=p.isList
  exact yaP ydC I.kIn ⟨o,h1,h2⟩ e (λz=>nomatch z) hQ
end
def qha(T:String)(f:M D):M D:=bnd f λd=>ret (.bl (qb6 (tyD d) T))
section
variable{X:Cx}{c:Fc}{a b e:Expr}{pos:Pos}
def qng(K:Fr0)(T:String):List V->Hp->VK->Prop:=λxs H Q=>∃v d A,xs=[v,.ty T]/\Is K A H d v/\Q (.bl (qb6 (tyD d) T)) H
theorem qgl {T:String} (kt:qig X.K T):yM X (.builtin "isinstance") (qng X.K T):=by
 intro pins s σ H xs us Q I r h
 obtain⟨v,d,A,rfl,hi,q⟩:=h
 obtain⟨u,w,rfl,r1,r2⟩:=ze.two r
 cases (show w=ya1 T from r2)
 exact qka I hi r1 kt λtk=>⟨.bl _,H,I.tok tk,rfl,q⟩
theorem qbq {T:String} {x:Str} {p p2:Pos} {f:M D} (kt:qig X.K T) (hg:Gl X "isinstance") (hm:X.mg "isinstance"=none) (hg2:Gl X x) (hm2:X.mg x=none) (hv2:yaF x=some (.type T)) (ha:DE X c a f)
  (hv:yaF "isinstance"=some (.builtin "isinstance"):=by first|rfl|exact PySem.boot_isinstance) (hn2:x≠"__name__":=by decide) (hdb2:(x==("__debug__":Str))=false:=by decide)
  (he:yac [a,.Name x p2] X.env=(false,eval a X.env)::yac [.Name x p2] X.env:=by rfl) (hpl:(yaz pos (yac [.Name x p2] X.env)).any (·.1)=false:=by rfl):DE X c (.Call (.Name "isinstance" p) [a,.Name x p2] [] pos) (qha T f):=by
 obtain⟨t,pa,w⟩:=ha
 refine⟨_,u4 (qgl kt) hg hm hv (zJ pa (zJ (qd6 (v:=.ty T) hg2 hm2 hv2 rfl hn2 hdb2) yi (by rfl)) he) (by decide) (by decide) he hpl,λZ σ H Q r h=>w Z σ H _ r (Wp.bnd h λd Z1 v H1 r1 i1 g1 h1=>?_)⟩
 exact⟨v,d,_,rfl,i1,h1 _ H1 r1 rfl .refl⟩
end
def vN:List D->Option (List Bool)
 | []=>some []
 |.bl b::r=>(vN r).map (b::·)
 |_=>none
def qkb:List D->Option (List Int)
 | []=>some []
 |.int i::r=>(qkb r).map (i::·)
 |_=>none
theorem wA {K:Fr0} {A:Addr->Prop} {H:Hp}:∀{ds:List D}{xs:List V}{bs:List Bool},IsL K A H ds xs->vN ds=some bs->xs=bs.map V.bl
 | [],_,_,h,e=>by cases e;exact h
 | .bl b::r,_,bs,⟨x,ys,hx,h1,h2⟩,e=>by
  cases h1
  cases e1:vN r with
  |none=>simp[vN,e1]at e
  |some l=>
   simp[vN,e1]at e
   subst e
   rw[hx,wA h2 e1];rfl
 |.non::_,_,_,_,e=>by cases e
 |.int _::_,_,_,_,e=>by cases e
 |.str _::_,_,_,_,e=>by cases e
 |.tup _::_,_,_,_,e=>by cases e
 |.lst _::_,_,_,_,e=>by cases e
 |.dic _::_,_,_,_,e=>by cases e
 |.fz _::_,_,_,_,e=>by cases e
 |.exc _::_,_,_,_,e=>by cases e
theorem qgm {bs:List Bool}:∀{us:List Value},ze (bs.map V.bl) us->LSm.BoolsAre us bs:=by
 induction bs with
 |nil=>intro us r;rw[yc3]at r;cases r;exact .nil
 | cons b bs ih=>
  intro us r
  rw[mC_]at r
  cases r with
  |cons r1 r2=>
   cases (show _=ybR b from r1)
   exact .cons b (ih r2)
section
variable{X:Cx}
theorem qaH (hc:X.calm=true):yM X (.builtin "all") (λxs H Q=>∃(p:Addr)(bs:List Bool),xs=[.ref p]/\H p=some (.lst (bs.map V.bl))/\Q (.bl (bs.all id)) H):=by
 intro pins s σ H xs us Q I r h
 obtain⟨p,bs,rfl,hp,q⟩:=h
 obtain⟨u,rfl,ru⟩:=ze.one r
 cases ru
 obtain⟨its,rv,pl,hz⟩:=I.list (SqL.of hp)
 have hl:=pl.isList
 have hb:=qgm rv
 have hlt:p<s.heap.objs.size:=by obtain⟨_,e,_⟩:=hl;exact yae e
 refine call_all_walk (ydD hl ?_)
 refine ⟨s.heap.objs.size,[s.heap.objs.size,p],[s.heap.objs.size],its.toArray.size,_,_,λi=>(bs[i]?).getD true,rfl,Walks.list (A:=X.A.in1) (I.ok.hd hc) _ p (yas hlt) its.toArray,
  ⟨⟨_,Heap.get?_push_size _ rfl,rfl,rfl⟩,hl.push _⟩,λi v s' Q' E' hP hQ=>?_,λh' tk hk=>?_⟩
 ·obtain⟨b,e,rfl⟩:=hb.get i v (by simpa using hP)
  simp only[e,Option.getD_some]at hQ
  exact ybl hQ
 ·have e:((yaw its.toArray.size).all λi=>(bs[i]?).getD true)=bs.all id:=by
   rw[sT_,hb.length];exact LSm.range_all bs
  rw[e]
  exact⟨.bl _,H,I.kept (LSm.kept_iter hk),rfl,q⟩
end
def qhb:List D->OD
 | [.lst ds]=>(vN ds).map λbs => .bl (bs.all id)
 |_=>none
section
variable{K:Fr0}
theorem wB:w5 K qhb (λxs H Q=>∃(p:Addr)(bs:List Bool),xs=[.ref p]/\H p=some (.lst (bs.map V.bl))/\Q (.bl (bs.all id)) H):=by
 intro A H xs d vs Q hn h e k
 unfold qhb at e
 split at e
 ·obtain⟨v,rfl,a,zs,rfl,_,ta,il⟩:=IsL.inv1 h
  obtain⟨bs,h1,h2⟩:=Option.map_eq_some_iff.mp e
  subst h2
  rw[wA il h1]at ta
  exact⟨a,bs,rfl,ta,k _ H (jq.refl H) rfl⟩
 ·cases e
end
section
variable{X:Cx}
def qhc(K:Fr0):R2:=λx y H Q=>∃a b ys,x=.ref a/\y=.ref b/\SqT K H a []/\SqT K H b ys/\Q (.ref b) H
theorem qgn:OpR X (ya9 .Add) (qhc X.K):=by
 intro pins s σ H x y v u Q I rx ry h
 obtain⟨a,b,ys,rfl,rfl,ha,hb,q⟩:=h
 cases rx
 cases ry
 obtain⟨its,r1,p1,_⟩:=I.tuple ha
 obtain⟨its2,r2,p2,_⟩:=I.tuple hb
 cases r1
 obtain⟨⟨cls,dd,data,sl⟩,ho,hc,n,hd⟩:=id p1
 obtain⟨⟨cls2,dd2,data2,sl2⟩,ho2,hc2,n2,hd2⟩:=id p2
 simp only at hc hd hc2 hd2
 subst hc hd hc2 hd2
 exact ye1 ⟨_,ho,rfl⟩ ⟨_,ho2,rfl⟩ ydV yeJ ycw yco (ycd _ _)
   (tuple_addW0 a b [].toArray its2.toArray n n2 dd dd2 sl sl2 (by simp)) ⟨ho,ho2,⟨.ref b,H,I,rfl,q⟩⟩
def qkc(K:Fr0):R2:=λx y H Q=>(∃i j,x=.int i/\y=.int j/\Q (.int (i+j)) H)\/((∃i j,x=.str i/\y=.str j/\i.length+j.length<=yao/\Q (.str (i++j)) H)\/(qhc K x y H Q\/(qjV K x y H Q\/qmG x y H Q)))
theorem qK:OpR X (ya9 .Add) (qkc X.K):=OpR.or qjO (OpR.or qdk (OpR.or qgn (OpR.or qh0 qj2)))
end
def qR:D->D->OD
 |.int i,.int j=>some (.int (i+j))
 |.str x,.str y=>if qF (x.length+y.length)then some (.str (x++y))else none
 |.tup xs,.tup ys=>if qF (xs.length+ys.length)then some (.tup (xs++ys))else none
 |.lst xs,.lst ys=>if qF (xs.length+ys.length)then some (.lst (xs++ys))else none
 |_,_=>none
theorem qL {K:Fr0}:OpS K qR (qkc K):=by
 intro A H x y d v u Q hn ix iy e k
 cases x<;>cases y<;>simp only[qR]at e<;>try (cases e;done)
 ·rename_i i j
  cases ix;cases iy;cases e
  exact .inl ⟨i,j,rfl,rfl,k _ H (jq.refl H) rfl⟩
 ·rename_i i j
  cases ix;cases iy
  obtain⟨e1,e2⟩:=z8 e
  subst e2
  exact .inr (.inl ⟨i,j,rfl,rfl,of_decide_eq_true e1,k _ H (jq.refl H) rfl⟩)
 ·rename_i ds es
  obtain⟨a,xs,rfl,ta,il⟩:=ix
  obtain⟨b,ys,rfl,tb,jl⟩:=iy
  obtain⟨e1,e2⟩:=z8 e
  subst e2
  have hs:xs.length+ys.length<=yao:=by rw[il.length,jl.length];exact of_decide_eq_true e1
  refine .inr (.inr ?_)
  cases ds with
  |nil=>
   have hx:xs=[]:=il
   subst hx
   exact .inl ⟨a,b,ys,rfl,rfl,ta.sq,tb.sq,k _ H (jq.refl H) ⟨b,ys,rfl,tb,jl⟩⟩
  | cons d0 ds=>
   refine .inr (.inl ⟨a,b,xs,ys,rfl,rfl,ta.sq,tb.sq,?_,hs,λhy=>?_,λhy p hp=>?_⟩)
   ·obtain⟨x,zs,hx,_⟩:=il
    rw[hx];simp
   ·subst hy
    cases es with
    |nil=>rw[yaS]at k;exact k _ H (jq.refl H) ⟨a,xs,rfl,ta,il⟩
    |cons e0 es=>obtain⟨_,_,hx,_⟩:=jl;cases hx
   ·exact k _ _ (qA hp _) ⟨p,xs++ys,rfl,.inl qi,IsL.ext (Ext.of_same (qA hp _)) (λ_ h _=>h) (IsL.append il jl)⟩
 ·rename_i ds es
  obtain⟨a,xs,rfl,hA,ta,il⟩:=ix
  obtain⟨b,ys,rfl,hB,tb,jl⟩:=iy
  obtain⟨e1,e2⟩:=z8 e
  subst e2
  have hs:xs.length+ys.length<=yao:=by rw[il.length,jl.length];exact of_decide_eq_true e1
  exact .inr (.inr (.inr (.inr ⟨a,b,xs,ys,rfl,rfl,ta,tb,hs,λp hp=>k _ _ (qA hp _) ⟨p,xs++ys,rfl,hn p hp,qi,IsL.ext (Ext.of_same (qA hp _)) (λ_ h _=>h) (IsL.append il jl)⟩⟩)))
section
variable{X:Cx}
def qmK(K:Fr0):V->Option Int->Option Int->Hp->VK->Prop:=λx lo hi H Q=>∃a xs,x=.ref a/\SqT K H a xs/\(HT.sIx xs.length 0 lo=0/\HT.sIx xs.length xs.length hi=xs.length)/\Q (.ref a) H
theorem uV {prog:yag} {w:World} {A:yal} {E:Value->yaa->Prop} {s:yaa} {t sl:Addr} {items:Array Value} {vl vu:Value} {lo hi:Option Int} {Q:Value->yaa->Prop} (ht:IsTup s.heap t items) (hs:s.heap.IsSliceOf sl vl vu .none) (pl:yc0 vl lo) (pu:yc0 vu hi)
  (hw:HT.sIx items.size 0 lo=0/\HT.sIx items.size items.size hi=items.size) (h:Q (.ref t) s):wpAny (model prog w) A (ydN (.ref t) (.ref sl)) Q E s:=by
 obtain⟨os,hos,hcs,hds⟩:=id hs
 have hTs:s.TypeIs (.ref sl) "slice":=⟨os,hos,hcs⟩
 unfold ydN
 try with_reducible refine ybQ ?_
 first|refine yab (yam ?_)|skip
 refine yab (yfg ht.typeIs (by decide) ?_)
 refine yab (wpAny_callSpecial?_slot (name:=ybi "__getitem__") ht.typeIs ybf
  (ya2 ybf ht.typeIs yeM ?_ (ye2 _ _)))
 show wpAny _ _ (ydx (.ref t) >>= _) _ _ s
 refine yab (tupleItemsOf_ ht ?_)
 refine yab (yc1 hTs ?_)
 rw[if_pos (by decide)]
 refine yab (HT.sliceApplied_gen hs pl pu ?_)
 have hyes:(((HT.sIx items.size 0 lo:Nat):Int)==0&&(1:Int)==1&&(HT.sIx items.size items.size hi-HT.sIx items.size 0 lo)==items.size)=true:=by
  rw[hw.1,hw.2];simp
 show wpAny _ _ (if(((HT.sIx items.size 0 lo:Nat):Int)==0&&(1:Int)==1&&(HT.sIx items.size items.size hi-HT.sIx items.size 0 lo)==items.size)=true then _ else _) _ _ s
 rw[if_pos hyes]
 refine yab (m:=ydz (.ref t)) ?_
 unfold ydz
 refine yab (yc1 ht.typeIs ?_)
 refine yam ?_
 rw[if_pos (by decide)]
 exact yab (ycV (yam ⟨_,rfl,yam h⟩))
theorem qgo:SlR X (qmK X.K):=by
 intro pins s σ H x v vl vu lo hi sl Q I rx hs pl pu h
 obtain⟨a,xs,rfl,hx,hw,q⟩:=h
 cases rx
 obtain⟨its,r,ht,hz⟩:=I.tuple hx
 have hlen:its.toArray.size=xs.length:=by rw[sT_];exact r.length.symm
 refine⟨"tuple",_,PyProof.Rows.slot_tuple_getitem.lookup,ht.typeIs,?_⟩
 exact uV ht hs pl pu (by rw[hlen];exact hw) ⟨.ref a,H,I,rfl,q⟩
theorem qkd:SlR X (λx lo hi H Q=>qmK X.K x lo hi H Q\/qmF X.K x lo hi H Q):=SlR.or qgo qjU
end
def qcD(xs:List D)(lo hi:Option Int):List D:=(xs.drop (HT.sIx xs.length 0 lo)).take (HT.sIx xs.length xs.length hi-HT.sIx xs.length 0 lo)
section
variable{X:Cx}{c:Fc}{a b e:Expr}{pos p2:Pos}
def DO(X:Cx)(c:Fc)(e:Option Expr)(f:M (Option Int)):Prop:=∃t,PO X e t/\∀Z σ H Q,Rep X.K c Z σ H->(∀o Z',f Z=.ok (o,Z')->∀H',Rep X.K c Z' σ H'->Gr c.O σ H H'->Q o H')->(∀x Z',f Z=.exc x Z'->∀H',Rep X.K c Z' σ H'->Gr c.O σ H H'->c.E x H')->f Z ≠ .bad->t σ H Q
theorem wC:DO X c none (ret none):=⟨_,qhY,λZ σ H Q r h _ _=>h none Z rfl H r .refl⟩
def asI:D->Option Int
 |.int i=>some i
 |_=>none
def yI (f:M D):M (Option Int):=bnd f λd=>match d with
 |.int i=>ret (some i)
 |_=>λ_ => .bad
theorem wD {f:M D} (h:DE X c e f):DO X c (some e) (yI f):=by
 obtain⟨t,p,w⟩:=h
 refine⟨_,qhZ p,λZ σ H Q r h1 h2 h3=>w Z σ H _ r ?_⟩
 unfold yI bnd at h1 h2 h3
 cases e1:f Z with
 |ok q=>
  obtain⟨d,Z'⟩:=q
  rw[e1]at h1 h2 h3
  intro v H' r' i' g'
  cases d<;>simp only[ret]at h1 h2 h3<;>try (exact absurd rfl h3)
  rename_i i
  exact⟨i,i',h1 (some i) Z' rfl H' r' g'⟩
 |exc x Z'=>rw[e1]at h2;exact λH' r' g'=>h2 x Z' rfl H' r' g'
 |bad=>rw[e1]at h3;exact absurd rfl h3
end
def zr (X:Cx) (scope:Scope) (N':List Str) (fp:List Addr) (cl:List (Str×Addr)) (C:Addr) (s₀:yaa) (H₀:Hp) (pn:List (Addr×Obj)):Cx where
 prog:=X.prog
 w:=X.w
 K:=X.K
 mg:=X.mg
 base:=X.base
 A:=X.A
 N:=N'
 s₀:=s₀
 H₀:=H₀
 env:=yeB scope cl C X.env
 outer:=X.stack
 stack:=X.stack
 ex:=fp
 fn:=λ_=>false
 calm:=X.calm
 pn:=pn
 xe:=λ_ _=>False
def PF (X:Cx) (ifs:List Expr) (t:TT):Prop:=∀(pins:List (Addr×Obj))(s:yaa)(σ:St)(H:Hp)(Q:Bool->Hp->Prop),Inv X pins σ H s->t σ H Q ->
 wpAny (model X.prog X.w) X.A (forIn ifs true λc r=>if r=true then do let ok <-isTrue c X.env (eval c X.env);pure (ybj ok)else pure (ybj r)) (TP X pins σ Q) X.xe s
theorem qke{X:Cx}:PF X [] (λ_ H Q=>Q true H):=λpins s σ H Q I h=>wpAny_tests_nil ⟨H,I,h⟩
theorem qkf{X:Cx}{e:Expr}{t:TT}(h:PT X e t):PF X [e] t:=λpins s σ H Q I hw=>wpAny_tests_one (h pins s σ H Q I hw)
structure yj (X:Cx) (scope:Scope) (N':List Str) (nt:Nat) (fr:List Nat):Prop where
 kind:scope.kind=.function
 nocell:∀y∈scope.names,y.2 ≠ .cell
 names:∀y∈scope.names,y.2=.local->scope.names.lookup y.1=some .local
 frees:∀y∈scope.names,y.2=.free->X.env.kindOf y.1=some .cell
 len:N'.length=nt+fr.length
 slot:∀i j,fr[i]? = some j->∃x,N'[nt+i]? = some x/\X.N[j]? = some x/\scope.names.lookup x=some .free
theorem vo {env:yaL}:∀(names:List (Str×ycG))(cs:List (Str×Addr)),(∀y∈names,y.2=.free->∃a,env.cells.lookup y.1=some a)->(∀n a,cs.lookup n=some a->env.cells.lookup n=some a) ->
  ∃ cl,(forIn names cs λx r=>match x with|(name,kind)=>if(kind==yaR)=true then do let a <-cellOf env name;pure (ybj ((name,a)::r))else pure (ybj r):Sem (List (Str×Addr)))=pure cl /\
   (∀n a,cl.lookup n=some a->env.cells.lookup n=some a)/\(∀n,(∃a,cs.lookup n=some a)->∃a,cl.lookup n=some a)/\∀y∈names,y.2=.free->∃a,cl.lookup y.1=some a
 | [],cs,_,h=>⟨cs,rfl,h,λ_ h=>h,λy hy=>by cases hy⟩
 | (n,k)::r,cs,hf,h=>by
  have hr:∀y∈r,y.2=.free->∃a,env.cells.lookup y.1=some a:=λy hy=>hf y (mM _ hy)
  rw[yea]
  by_cases hk:k=.free
  ·subst hk
   obtain⟨a,ha⟩:=hf (n,.free) mS_ rfl
   have ha':env.cells.lookup n=some a:=ha
   have hcell:cellOf env n=pure a:=by unfold cellOf;rw[ha']
   obtain ⟨cl,e1,e2,e3,e4⟩:=vo r ((n,a)::cs) hr (λm b hm=>by
    rw[yaT]at hm
    cases e:m==n with
    |true=>rw[e]at hm;cases hm;rw[ycO e];exact ha'
    |false=>rw[e]at hm;exact h m b hm)
   refine⟨cl,?_,e2,λm ⟨b,hm⟩=>e3 m ?_,λy hy hyf=>?_⟩
   ·show((if(yaR==yaR)=true then _ else _) >>= _)=_
    rw[if_pos (by rfl),hcell]
    exact e1
   ·rw[yaT]
    cases e:m==n with
    |true=>exact⟨a,rfl⟩
    |false=>exact⟨b,hm⟩
   ·rcases List.mem_cons.mp hy with rfl|hy
    ·exact e3 n ⟨a,by rw[yaT];simp⟩
    ·exact e4 y hy hyf
  ·have hb:(k==yaR)=false:=by simpa using hk
   obtain⟨cl,e1,e2,e3,e4⟩:=vo r cs hr h
   refine⟨cl,?_,e2,e3,λy hy hyf=>?_⟩
   ·show((if(k==yaR)=true then _ else _) >>= _)=_
    rw[hb,if_neg yar]
    exact e1
   ·rcases List.mem_cons.mp hy with rfl|hy
    ·exact absurd hyf hk
    ·exact e4 y hy hyf
theorem u5 {env:yaL} {scope:Scope} (hf:∀y∈scope.names,y.2=.free->∃a,env.cells.lookup y.1=some a) :
  ∃cl,closureFor scope env=pure cl/\(∀n a,cl.lookup n=some a->env.cells.lookup n=some a)/\∀y∈scope.names,y.2=.free->∃a,cl.lookup y.1=some a:=by
 obtain⟨cl,e1,e2,_,e4⟩:=vo scope.names [] hf (λn a h=>by cases h)
 refine⟨cl,?_,e2,e4⟩
 unfold closureFor
 show(forIn scope.names [] _ >>= _)=_
 have e5:(forIn scope.names [] λx r=>match x with|(name,kind)=>if(kind==yaR)=true then do let a <-cellOf env name;pure (ybj ((name,a)::r))else pure (ybj r):Sem (List (Str×Addr)))=pure cl:=e1
 first
  |(rw[e5];rfl)
  |(simp only[bind_pure_comp,e5];rfl)
theorem yk {env:yaL}:∀{names:List (Str×ycG)}{x:Str},names.lookup x=some .free->env.scope.kind=.function->env.kindOf x=some .cell ->
  (names.map λ(n,k)=>if(k==yaR&&env.scope.kind == .function&&env.kindOf n==some .cell) then(n,ycD) else(n,k)).lookup x=some .cell
 | [],_,h,_,_=>by simp at h
 | (n,k)::r,x,h,hk,hx=>by
  have ih := @yk env r x
  show ybg x ((if(k==yaR&&env.scope.kind == .function&&env.kindOf n==some .cell)=true then(n,ycD) else(n,k))::_)=_
  cases hxn:x==n with
  |true=>
   have e:x=n:=ycO hxn
   subst e
   simp only[yaT,hxn]at h
   cases h
   rw[if_pos (by rw[hk,hx];rfl)]
   simp only[yaT,hxn]
  |false=>
   simp only[yaT,hxn]at h
   by_cases hc:(k==yaR&&env.scope.kind == .function&&env.kindOf n==some .cell)=true
   ·rw[if_pos hc];simp only[yaT,hxn];exact ih h hk hx
   ·rw[if_neg hc];simp only[yaT,hxn];exact ih h hk hx
theorem jz {env:yaL}:∀{names:List (Str×ycG)}{x:Str}{q:ycG},(names.map λ(n,k)=>if(k==yaR&&env.scope.kind == .function&&env.kindOf n==some .cell) then(n,ycD) else(n,k)).lookup x=some q ->
  q=.cell\/q=.free->(∀y∈names,y.2 ≠ .cell)->∃k,(x,k)∈names/\k=.free
 | [],_,_,h,_,_=>by simp at h
 | (n,k)::r,x,q,h,hq,hc=>by
  have ih := @jz env r x q
  have h':ybg x ((if(k==yaR&&env.scope.kind == .function&&env.kindOf n==some .cell)=true then(n,ycD) else(n,k))::(r.map λ(n,k)=>if(k==yaR&&env.scope.kind == .function&&env.kindOf n==some .cell) then(n,ycD) else(n,k)))=some q:=h
  have hr:∀y∈r,y.2 ≠ .cell:=λy hy=>hc y (mM _ hy)
  by_cases hcd:(k==yaR&&env.scope.kind == .function&&env.kindOf n==some .cell)=true
  ·rw [if_pos hcd]at h'
   cases hxn:x==n with
   |true=>
    have e:x=n:=ycO hxn
    subst e
    refine⟨k,mS_,?_⟩
    rw[yau,yau]at hcd
    exact ycO hcd.1.1
   |false=>
    simp only[yaT,hxn]at h'
    obtain⟨k',m,e⟩:=ih h' hq hr
    exact⟨k',mM _ m,e⟩
  ·rw [if_neg hcd]at h'
   cases hxn:x==n with
   |true=>
    have e:x=n:=ycO hxn
    subst e
    simp only[yaT,hxn]at h'
    cases h'
    rcases hq with rfl|rfl
    ·exact absurd rfl (hc (x,.cell) mS_)
    ·exact⟨.free,mS_,rfl⟩
   |false=>
    simp only[yaT,hxn]at h'
    obtain⟨k',m,e⟩:=ih h' hq hr
    exact⟨k',mM _ m,e⟩
def qM(nt:Nat)(fr:List Nat)(σ:St):St:=yan nt none++fr.map λj=>(σ[j]?).join
def ql4 (X:Cx) (tg:Expr) (ifs:List Expr) (elt:Expr) (scope:Scope) (N':List Str) (wi:TI) (nt:Nat) (fr:List Nat):TE:=λσ H Q=>wi σ H λJ H1=>∀acc fp cl C s₀ H₀ pn,H1 acc=none ->
 ∃(g:TG)(tt:TT)(te:TE),PG (zr X scope N' fp cl C s₀ H₀ pn) tg g/\PF (zr X scope N' fp cl C s₀ H₀ pn) ifs tt/\PE (zr X scope N' fp cl C s₀ H₀ pn) elt te /\
 ∃W:Nat->Nat->St->Hp->Prop,(∃m,W 0 m (qM nt fr σ) (upd H1 acc (.lst []))) /\
 ∀ i m σ' H',W i m σ' H'->(J.stop i H'/\Q (.ref acc) H')\/(J.go i H'/\∀x H'',J.yld i H' x H''->g x σ' H'' λσ2 H2=>tt σ2 H2 λb H3=>
  if b=true then te σ2 H3 λy H4=>∃ys,H4 acc=some (.lst ys)/\ys.length<yao/\∃m',m'<m/\W (i+1) m' σ2 (upd H4 acc (.lst (ys++[y])))else ∃m',m'<m/\W (i+1) m' σ2 H3)
section
variable{X:Cx}{tg iter elt:Expr}{ifs:List Expr}{scope:Scope}{pos:Pos}{wi:TI}{N':List Str}{nt:Nat}{fr:List Nat}
theorem wE {prog:yag} {w:World} {A:yal} {R:ycW->yaa->Prop} {s:yaa} {it acc:Value} {env:yaL} (I:Nat->yaa->Prop)
  (turn : ∀n s,I n s->wpAny (model prog w) A (yct it) (λr sQ=>match r with
   |none=>R (.ok .next) sQ
   | some v=>wpAny (model prog w) A (ybT tg it v) (λ_ s1'=>wpAny (model prog w) A (ydj tg env v) (λ_ sK=>
     wpAny (model prog w) A (forIn ifs true λc r=>if r=true then do let ok <-isTrue c env (eval c env);pure (ybj ok)else pure (ybj r)) (λok sJ=>
      if ok=true then wpAny (model prog w) A (eval elt env) (λx sV=>
       wpAny (model prog w) A (call (.builtin "list.append") [acc,x]) (λ_ sY=>∃m,m<n/\I m sY) (λ_ _=>False) sV) (λ_ _=>False) sJ
      else ∃m,m<n/\I m sJ) (λ_ _=>False) sK) (λ_ _=>False) s1') (λ_ _=>False) sQ) (λ_ _=>False) s)
  (n:Nat) (h:I n s):ybA (model prog w) A (.compLoop (.ListComp elt [⟨tg,iter,ifs,0⟩] scope pos) 0 it acc env) R s:=by
 refine codeAny_loop rfl I (λn s hI=>?_) n h
 show wpAny _ A ((compTurn (.ListComp elt [⟨tg,iter,ifs,0⟩] scope pos) 0 it acc env).onRaise (λx=>do ydm x env;theTreesLotGoes x)) _ _ s
 refine wpAny_noted ?_
 rw[compTurn_list]
 refine yab (yeI (yab (ya5 (turn n s hI) (λr sQ h₁=>?_) λ_ _ h'=>h'.elim)))
 cases r with
 |none=>exact yam h₁
 | some v=>
  refine yab (ya5 h₁ (λ_ s1' hK'=>?_) λ_ _ h'=>h'.elim)
  refine yab (ya5 hK' (λ_ sK hV=>yab (ya5 hV (λok sJ h₃=>?_) λ_ _ h'=>h'.elim)) λ_ _ h'=>h'.elim)
  cases ok with
  |false=>exact yam ⟨rfl,h₃⟩
  |true=>
   exact yab (yab (ya5 h₃ (λx sV hG=>yab (ya5 hG (λ_ sY hX=>yam (yam ⟨rfl,hX⟩)) λ_ _ h'=>h'.elim)) λ_ _ h'=>h'.elim))
theorem qaj {pins:List (Addr×Obj)} {σ:St} {H:Hp} {s:yaa} {h₁:Heap} {tk:Nat} {fp:List Addr} {cl:List (Str×Addr)} (S:yj X scope N' nt fr) (I:Inv X pins σ H s) (hfp:∀b∈fp,qbc X pins H b)
  (hex:∀b∈fp,∃o,s.heap.get? b=some o) (cl1:∀n a,cl.lookup n=some a->X.env.cells.lookup n=some a) (cl2:∀y∈scope.names,y.2=.free->∃a,cl.lookup y.1=some a)
  (hns:∃m,h₁.Ns s.heap.objs.size m) (old:∀b o,s.heap.get? b=some o->h₁.get? b=some o) :
  Inv (zr X scope N' fp cl s.heap.objs.size s H (X.pn++pins)) [] (qM nt fr σ) H {s with heap:=h₁,toks:=tk}:=by
 have stkB:∀b∈frs X.stack,b=X.env.locals\/b∈X.fs:=λb hb=>List.mem_cons.mp (I.stkSub b hb)
 have hC:∀b o,s.heap.get? b=some o->b≠s.heap.objs.size:=λb o e=>yas (yae e)
 obtain⟨m,hn⟩:=hns
 refine ⟨⟨I.ok.mod,S.kind,I.ok.glob,I.ok.blt,yak _,λx y c h1 h2=>I.ok.inj x y c (cl1 x c h1) (cl1 y c h2),λx hx=>?_,λx c hx=>?_,I.ok.hd,I.ok.frames,.inl rfl,λb hb=>⟨?_,λx c hx=>(hfp b hb).2.2.2.2.1 x c (cl1 x c hx)⟩,I.bs,yaZ I.ok.bsz I.sz,λb o e hb=>?_,λb hb hb2=>?_,I.stack,I.stkFree⟩,
  rfl,I.bare,Un.kept old,⟨m,hn,λi x v h1 h2 h3=>?_⟩,λx c hx=>?_,I.hok.fresh (yak _),λx c hx=>I.freeC x c (cl1 x c hx),λp hp=>?_,I.hok.kept old,?_⟩
 ·have hx':∃k,(x,k)∈scope.names/\k=.free:=by
   rcases hx with hx|hx
   ·exact jz (env:=X.env) (q:=.cell) hx (.inl rfl) S.nocell
   ·exact jz (env:=X.env) (q:=.free) hx (.inr rfl) S.nocell
  obtain⟨k,m,rfl⟩:=hx'
  exact cl2 (x,.free) m rfl
 ·have hx':false=true:=hx
  cases hx'
 ·obtain⟨o,e⟩:=hex b hb
  exact hC b o e
 ·obtain⟨f0,f1,f2,f3,f4,f5⟩:=hfp b hb
  rcases f3 with z|z
  ·exact I.ok.noex b o e z
  ·exact absurd (yay (yae e) (yaZ I.ok.bsz z)) (ybC _)
 ·obtain⟨f0,f1,f2,f3,f4,f5⟩:=hfp b hb
  rcases stkB b hb2 with z|z
  ·exact f1 z
  ·exact f2 z
 ·-- names
  have hi:nt<=i:=by
   apply ycH
   intro hlt
   unfold qM at h2
   rw[List.getElem?_append_left (by simpa using hlt),List.getElem?_replicate]at h2
   split at h2<;>cases h2
  have h2':(fr.map λj=>(σ[j]?).join)[i-nt]? = some (some v):=by
   unfold qM at h2
   rw[List.getElem?_append_right (by simpa using hi),yaX]at h2
   exact h2
  rw[gM_]at h2'
  cases ej:fr[i-nt]? with
  |none=>rw[ej]at h2';cases h2'
  | some j=>
   rw[ej]at h2'
   have hσ:(σ[j]?).join=some v:=by simpa using h2'
   have hσ':σ[j]? = some (some v):=by
    cases e:σ[j]? with
    |none=>rw[e]at hσ;cases hσ
    |some o=>
     rw[e]at hσ
     have:o=some v:=hσ
     rw[this]
   obtain⟨y,hy1,hy2,hy3⟩:=S.slot (i-nt) j ej
   have hii:nt+(i-nt)=i:=by omega
   rw[hii]at hy1
   have exy:y=x:=by
    have h1':N'[i]? = some x:=h1
    rw[h1']at hy1
    exact(yax hy1).symm
   subst exy
   have hmem:(y,yaR)∈scope.names:=yaN hy3
   have hcellk:X.env.kindOf y=some .cell:=S.frees (y,.free) hmem rfl
   obtain⟨m0,hn0,hl0⟩:=I.loc
   obtain⟨u,ru,lk⟩:=hl0 j y v hy2 hσ' (.inr (.inl hcellk))
   refine⟨u,ru,.inr ⟨.inl (yk hy3 I.ok.kind hcellk),?_⟩⟩
   rcases lk with⟨k1,_⟩|⟨_,c,e,z⟩
   ·rw[hcellk]at k1;cases k1
   ·obtain⟨a,ea⟩:=cl2 (y,.free) hmem rfl
    have ea':=cl1 y a ea
    rw[e]at ea'
    cases ea'
    obtain⟨o,ho,hd⟩:=z
    exact⟨c,ea,o,old _ _ ho,hd⟩
 ·obtain⟨v,o,ho,hd⟩:=I.cell x c (cl1 x c hx)
  exact⟨v,o,old _ _ ho,hd⟩
 ·have hp':p∈X.pn++pins:=by
   rcases mA_.mp (show p∈(X.pn++pins)++[]from hp)with z|z
   ·exact z
   ·cases z
  obtain⟨e,n,ne,nf,d⟩:=I.pin p hp'
  refine⟨old _ _ e,n,hC _ _ e,λz=>?_,d⟩
  rcases stkB p.1 z with z|z
  ·exact ne z
  ·exact nf z
 ·show(qM nt fr σ).length=N'.length
  unfold qM
  rw[lA_,yaX,lM_,S.len]
theorem qcE {pins:List (Addr×Obj)} {σ σ':St} {H H':Hp} {s s':yaa} {h':Heap} {fp:List Addr} {cl:List (Str×Addr)} (I:Inv X pins σ H s) (hfp:∀b∈fp,qbc X pins H b)
  (J:Inv (zr X scope N' fp cl s.heap.objs.size s H (X.pn++pins)) [] σ' H' s') (sb:ybt s.heap.objs.size s'.heap h'):Inv X pins σ H' {s' with heap:=h' }:=by
 have hC:H' s.heap.objs.size=none:=J.free
 have u:=J.base
 have big:∀b o,s.heap.get? b=some o->b≠s.heap.objs.size:=λb o e=>yas (yae e)
 have get':∀b,b≠s.heap.objs.size->h'.get? b=s'.heap.get? b:=λb hb=>sb.2 b hb
 have u2:Un (frs X.stack) fp H H' s.heap h' :=
  ⟨λb o e n hb hx=>(get' b (big b o e)).trans (u.keep b o e n hb hx),λb o e n hb hx=>by
   obtain⟨sl,q⟩:=u.slot b o e n hb hx
   exact⟨sl,(get' b (big b o e)).trans q⟩,u.free,λb o e hx=>by
   obtain⟨o',q⟩:=u.there b o e hx
   exact⟨o',(get' b (big b o e)).trans q⟩,u.tups,u.frzs,u.tbls⟩
 refine I.call' (s':={s' with heap:=h' }) (ch:=fp) J.os u2 (λb o e=>?_) J.bare (λb hb=>?_)
 ·refine(J.hok b o e).stay (λc v hc q=>?_) (λ_ q=>q) λ_ _ q=>q
  refine(get' c ?_).trans q
  rintro rfl
  rcases hc with hc|hc
  ·rw[<-hc,hC]at e;cases e
  ·rw[hC]at hc;cases hc
 ·obtain⟨f0,f1,f2,f3,f4,f5⟩:=hfp b hb
  exact⟨f3,f1,f4,f5⟩
theorem qij (hc:X.calm=true) (hi:PI X tg iter wi) (S:yj X scope N' nt fr)
  (hs:∀x,ybF iter X.env x=pure x:=by intro _;rfl):PE X (.ListComp elt [⟨tg,iter,ifs,0⟩] scope pos) (ql4 X tg ifs elt scope N' wi nt fr):=by
 intro pins s σ H Q I hw
 obtain⟨cl,hcl,cl1,cl2⟩:=u5 (env:=X.env) (scope:=scope) (λy hy hf=>I.ok.has y.1 (.inl (S.frees y hy hf)))
 rw[eval_ListComp]
 refine ydW (use:=none) rfl hs hcl S.kind S.names (thn (hi pins s σ H _ I hw) λv s1 h1=>thn h1 λitv s2 h2=>?_)
 obtain⟨it,fp,tn,J,H2,e,I2,T,st2,f2,hR⟩:=h2
 subst e
 have hacc:H2 s2.heap.objs.size=none:=I2.hok.fresh (yak _)
 refine yaM (yeC S.nocell (by intro y hy;simp at hy) (λh₁ hns1 hsb1=>?_) S.kind)
 dsimp only at hns1 hsb1 |-
 have I3:Inv X pins σ (upd H2 s2.heap.objs.size (.lst [])) {s2 with heap:=s2.heap.push {cls:=.type "list",dict:=none,data:=.seq ([]:List Value).toArray} } :=
  I2.lnew (t':=s2.toks) (its:=[]) .nil (ybs _)
 generalize hs3:({s2 with heap:=s2.heap.push {cls:=.type "list",dict:=none,data:=.seq ([]:List Value).toArray} }:yaa)=s3 at I3
 have hh3:s2.heap.push {cls:=.type "list",dict:=none,data:=.seq ([]:List Value).toArray}=s3.heap:=by rw[<-hs3]
 rw[hh3]at hns1 hsb1
 have old:∀b o,s3.heap.get? b=some o->h₁.get? b=some o:=λb o q=>hsb1.extBut b o (yas (yae q)) (Heap.get?_push_of_some _ q)
 have objs2:∀b∈fp,∃o,s2.heap.get? b=some o:=λb hb=>by
  obtain⟨o,q,_⟩:=T.obj 0 _ st2 b hb
  exact⟨o,q⟩
 have keep23:∀b o,s2.heap.get? b=some o->s3.heap.get? b=some o:=λb o q=>by rw[<-hh3];exact Heap.get?_push_of_some _ q
 have fpne:∀b∈fp,b≠s2.heap.objs.size:=λb hb=>by
  obtain⟨o,q⟩:=objs2 b hb
  exact yas (yae q)
 have f3:∀b∈fp,qbc X pins (upd H2 s2.heap.objs.size (.lst [])) b:=λb hb=>⟨by rw[qg (fpne b hb)];exact(f2 b hb).1,(f2 b hb).2⟩
 have J0:Inv (zr X scope N' fp cl s3.heap.objs.size s3 (upd H2 s2.heap.objs.size (.lst [])) (X.pn++pins)) [] (qM nt fr σ) (upd H2 s2.heap.objs.size (.lst [])) {s3 with heap:=h₁,toks:=s3.toks} :=
  qaj S I3 f3 (λb hb=>(objs2 b hb).imp λo q=>keep23 b o q) cl1 cl2 ⟨_,hns1⟩ old
 obtain⟨g,tt,te,hg,hf,he,W,⟨m0,w0⟩,turn⟩:=hR s2.heap.objs.size fp cl s3.heap.objs.size s3 (upd H2 s2.heap.objs.size (.lst [])) (X.pn++pins) hacc
 have T0:tn 0 h₁:=T.keep 0 _ _ st2 λb hb o q=>old b o (keep23 b o q)
 have s3e:∀tk:Nat,({s2 with heap:=h₁,toks:=tk}:yaa)={s3 with heap:=h₁,toks:=tk}:=λtk=>by rw[<-hs3]
 have loop:∀tk:Nat,ybA (model X.prog X.w) X.A (.compLoop (.ListComp elt [⟨tg,iter,ifs,0⟩] scope pos) 0 (.ref it) (.ref s2.heap.objs.size) (yeB scope cl s3.heap.objs.size X.env))
   (yfr (model X.prog X.w) X.A X.xe none (EP X pins σ Q) (.ref s2.heap.objs.size) s3.heap.objs.size) {s3 with heap:=h₁,toks:=tk}:=λtk=>by
  have stat:∀{H':Hp},(∀b∈fp,H' b=none)->∀b∈fp,qbc (zr X scope N' fp cl s3.heap.objs.size s3 (upd H2 s2.heap.objs.size (.lst [])) (X.pn++pins)) [] H' b:=λ{H'} hn b hb=>by
   obtain⟨o,q⟩:=objs2 b hb
   have hbC:b≠s3.heap.objs.size:=yas (yae (keep23 b o q))
   refine⟨hn b hb,hbC,λz=>?_,.inl hb,λx c hx=>(f2 b hb).2.2.2.2.1 x c (cl1 x c hx),λp hp=>?_⟩
   ·rcases List.mem_cons.mp (I2.stkSub b z)with z|z
    ·exact(f2 b hb).2.1 z
    ·exact(f2 b hb).2.2.1 z
   ·have hp':p∈X.pn++pins:=by
     rcases mA_.mp (show p∈(X.pn++pins)++[]from hp)with z|z
     ·exact z
     ·cases z
    exact(f2 b hb).2.2.2.2.2 p hp'
  have fr0:∀b∈fp,upd H2 s2.heap.objs.size (.lst []) b=none:=λb hb=>(f3 b hb).1
  refine wE (λn s'=>∃i σ' H',Inv (zr X scope N' fp cl s3.heap.objs.size s3 (upd H2 s2.heap.objs.size (.lst [])) (X.pn++pins)) [] σ' H' s'/\tn i s'.heap/\(∀b∈fp,H' b=none)/\W i n σ' H') ?_ m0
   ⟨0,qM nt fr σ,_,J0.tok tk,T0,fr0,w0⟩
  rintro n s4 ⟨i,σ4,H4,J4,st4,fr4,w4⟩
  rcases turn i n σ4 H4 w4 with⟨stop,qn⟩|⟨go,step⟩
  ·refine thn (T.done (zr X scope N' fp cl s3.heap.objs.size s3 (upd H2 s2.heap.objs.size (.lst [])) (X.pn++pins)) rfl rfl rfl hc i [] s4 σ4 H4 _ J4 (stat fr4) st4 stop) λr s5 ⟨hr,J5⟩=>?_
   subst hr
   obtain⟨m5,n5,_⟩:=J5.loc
   refine⟨m5,n5,λh' sb=>⟨.ref s2.heap.objs.size,H4,qcE I3 f3 J5 sb,rfl,qn⟩⟩
  ·refine thn (T.item (zr X scope N' fp cl s3.heap.objs.size s3 (upd H2 s2.heap.objs.size (.lst [])) (X.pn++pins)) rfl rfl rfl hc i [] s4 σ4 H4 _ J4 (stat fr4) st4 go) λr s5 ⟨u,hr,h5⟩=>?_
   subst hr
   refine thn h5 λ_ s6 ⟨x,H6,J6,r6,y6,st6,fr6⟩=>?_
   have J6':=J6.pinned (stat fr6) (T.obj _ _ st6)
   have again:∀{σ7:St}{H7:Hp}{s7:yaa},Inv (zr X scope N' fp cl s3.heap.objs.size s3 (upd H2 s2.heap.objs.size (.lst [])) (X.pn++pins)) ([]++qad fp s6.heap) σ7 H7 s7->(∃m',m'<n/\W (i+1) m' σ7 H7) ->
     ∃m,m<n/\∃i σ' H',Inv (zr X scope N' fp cl s3.heap.objs.size s3 (upd H2 s2.heap.objs.size (.lst [])) (X.pn++pins)) [] σ' H' s7/\tn i s7.heap/\(∀b∈fp,H' b=none)/\W i m σ' H':=λ{σ7 H7 s7} I7 hm=>by
    obtain⟨m',hm,w7⟩:=hm
    refine⟨m',hm,i+1,σ7,H7,I7.unpinned,T.keep _ _ _ st6 λb hb o q=>(I7.pin (b,o) (mr_ _ (mr_ _ (ya hb q)))).1,λb hb=>?_,w7⟩
    obtain⟨o,q,d⟩:=T.obj _ _ st6 b hb
    exact(I7.pin (b,o) (mr_ _ (mr_ _ (ya hb q)))).2.1
   refine thn (hg _ s6 σ4 H6 x u _ J6' r6 (step x H6 y6)) λ_ s7 ⟨σ7,H7,J7,q7⟩=>?_
   refine thn (hf _ s7 σ7 H7 _ J7 q7) λok s8 ⟨H8,J8,q8⟩=>?_
   cases ok with
   |false=>
    rw[if_neg yar]at q8 |-
    exact again J8 q8
   |true=>
    rw[if_pos rfl]at q8 |-
    refine thn (he _ s8 σ7 H8 _ J8 q8) λz s9 ⟨y,H9,J9,r9,ys,hys,hz,hm⟩=>?_
    refine thn (uo _ s9 σ7 H9 (.ref s2.heap.objs.size) [y] (.ref s2.heap.objs.size) [z] (λ_ H'=>H'=upd H9 s2.heap.objs.size (.lst (ys++[y]))) J9 rfl (.cons r9 .nil) ⟨_,ys,y,rfl,rfl,hys,hz,rfl⟩) λ_ s10 ⟨_,H10,J10,_,e10⟩=>?_
    subst e10
    exact again J10 hm
 have qV:∀tk:Nat,ybA (model X.prog X.w) X.A (.compStart (.ListComp elt [⟨tg,iter,ifs,0⟩] scope pos) 0 (.ref it) (.ref s2.heap.objs.size) (yeB scope cl s3.heap.objs.size X.env))
   (yfr (model X.prog X.w) X.A X.xe none (EP X pins σ Q) (.ref s2.heap.objs.size) s3.heap.objs.size) {s3 with heap:=h₁,toks:=tk}:=λtk=>
  yef (loop tk) (T.self X.A 0 _ _ _ T0 (loop tk))
 have fin:=qV (s2.toks+([]:List (Str×Value)).length)
 rw[<-s3e]at fin
 rw[<-hh3]at fin
 rw[hh3]at fin |-
 exact fin
end
structure qgp (K:Fr0) (A:Addr->Prop) (H:Hp) (ds:List D) (J:It):Prop where
 go:∀H' i d,Ext A H H'->ds[i]? = some d->J.go i H'
 yl:∀H' i d x H'',Ext A H H'->ds[i]? = some d->J.yld i H' x H''->jq H' H''/\Is K A H'' d x
 stop:∀H',Ext A H H'->J.stop ds.length H'
def CnT(c:Fc)(σ:St)(H:Hp)(a:Addr):Prop:=Cn c σ a/\(H a).isSome=true
def WpI (K:Fr0) (c:Fc) (σ:St) (H:Hp) (Q:It->Hp->Prop):R (List D×Env)->Prop
 |.ok (ds,Z)=>∀J H',Rep K c Z σ H'->qgp K (CnT c σ H') H' ds J->Gr c.O σ H H'->Q J H'
 |.exc x Z=>∀H',Rep K c Z σ H'->Gr c.O σ H H'->c.E x H'
 |.bad=>False
def DI(X:Cx)(c:Fc)(tg it:Expr)(f:M (List D)):Prop:=∃w,PI X tg it w/\∀Z σ H Q,Rep X.K c Z σ H->WpI X.K c σ H Q (f Z)->w σ H Q
section
variable{X:Cx}{c:Fc}{tg a b e:Expr}{pos:Pos}
def qnh(K:Fr0)(tl:TE):TI:=λσ H R=>tl σ H λx H1=>(∃a,x=.ref a/\(∃xs,SqL K H1 a xs)/\R (Itl K a) H1)\/(∃a,x=.ref a/\(∃xs,SqT K H1 a xs)/\R (Itt K a) H1)
theorem qkg {tl:TE} (hl:PE X e tl):PI X tg e (qnh X.K tl):=by
 intro pins s σ H R I h
 refine thn (hl pins s σ H _ I h) λv s1 ⟨x,H1,I1,r1,q1⟩=>?_
 rcases q1 with⟨a,e,⟨xs,hq⟩,q⟩|⟨a,e,⟨xs,hq⟩,q⟩
 ·subst e
  cases r1
  obtain⟨its,rv,p,hz⟩:=I1.list hq
  refine ydD p.isList ?_
  refine⟨s1.heap.objs.size,[s1.heap.objs.size],_,_,H1,rfl,I1.kept (t':=s1.toks) λb o e=>Heap.get?_push_of_some _ e,qd9 a _,⟨_,Heap.get?_push_size _ rfl,rfl,rfl⟩,λb hb=>?_,q⟩
  have e:b=s1.heap.objs.size:=by simpa using hb
  subst e
  exact I1.fpOk (yak _) (I1.hok.fresh (yak _))
 ·subst e
  cases r1
  obtain⟨its,rv,p,hz⟩:=I1.tuple hq
  refine ye6 (show s1.heap.IsTuple a its.toArray from p) ?_
  refine⟨s1.heap.objs.size,[s1.heap.objs.size],_,_,H1,rfl,I1.kept (t':=s1.toks) λb o e=>Heap.get?_push_of_some _ e,qdi a _,⟨_,Heap.get?_push_size _ rfl,rfl,rfl⟩,λb hb=>?_,q⟩
  have e:b=s1.heap.objs.size:=by simpa using hb
  subst e
  exact I1.fpOk (yak _) (I1.hok.fresh (yak _))
def qlD:D->Option (List D)
 |.tup ds=>some ds
 |.lst ds=>some ds
 |.fz ns=>some (ns.map .int)
 |_=>none
theorem qcF {K:Fr0} {A:Addr->Prop} {H:Hp}:∀ns:List Int,IsL K A H (ns.map .int) (ns.map V.int)
 | []=>rfl
 |n::ns=>⟨.int n,ns.map V.int,rfl,rfl,qcF ns⟩
theorem qeH {K:Fr0} {A:Addr->Prop} {H:Hp} {ds:List D} {xs:List V} {a:Addr} (hs:∀H',Ext A H H'->SqL K H' a xs) (il:IsL K A H ds xs):qgp K A H ds (Itl K a) where
 go:=λH' i d ex hd=>by
  obtain⟨x,h1,h2⟩:=il.get hd
  exact⟨xs,x,hs H' ex,h1⟩
 yl:=λH' i d x H'' ex hd y=>by
  obtain⟨e,y⟩:=y
  subst e
  obtain⟨x',h1,h2⟩:=il.get hd
  have h3:=y xs (hs _ ex)
  rw[h1]at h3
  cases h3
  exact⟨jq.refl _,Is.ext ex (λ_ h _=>h) h2⟩
 stop:=λH' ex=>⟨xs,hs H' ex,by rw[il.length];exact yak _⟩
theorem qkh {K:Fr0} {A:Addr->Prop} {H:Hp} {ds:List D} {xs:List V} {a:Addr} (hs:wZ K H a xs) (il:IsL K A H ds xs):qgp K A H ds (Itt K a) where
 go:=λH' i d ex hd=>by
  obtain⟨x,h1,h2⟩:=il.get hd
  exact⟨xs,x,(hs.elim (λh => .inl (ex.tup _ _ h)) .inr:wZ K H' a xs).sq,h1⟩
 yl:=λH' i d x H'' ex hd y=>by
  obtain⟨e,y⟩:=y
  subst e
  obtain⟨x',h1,h2⟩:=il.get hd
  have h3:=y xs (hs.elim (λh => .inl (ex.tup _ _ h)) .inr:wZ K _ a xs).sq
  rw[h1]at h3
  cases h3
  exact⟨jq.refl _,Is.ext ex (λ_ h _=>h) h2⟩
 stop:=λH' ex=>⟨xs,(hs.elim (λh => .inl (ex.tup _ _ h)) .inr:wZ K H' a xs).sq,by rw[il.length];exact yak _⟩
def qfV(f:M D):M (List D):=bnd f λd=>lift (qlD d)
theorem u6 {K:Fr0} {σ:St} {H:Hp} {Q:It->Hp->Prop} {o:Option (List D)} {Z:Env} (h:WpI K c σ H Q (lift o Z)):∃ds,o=some ds/\∀J H',Rep K c Z σ H'->qgp K (CnT c σ H') H' ds J->Gr c.O σ H H'->Q J H':=by
 cases o with
 |none=>exact h.elim
 |some d=>exact⟨d,rfl,h⟩
theorem WpI.gr {K:Fr0} {σ:St} {H H1:Hp} {Q:It->Hp->Prop}:∀{r:R (List D×Env)},WpI K c σ H Q r->Gr c.O σ H H1->WpI K c σ H1 Q r
 |.ok (d,Z),h,g=>λv H' hr hi hg=>h v H' hr hi (g.trans hg)
 |.exc x Z,h,g=>λH' hr hg=>h H' hr (g.trans hg)
 |.bad,h,_=>h
theorem Wp.bndI {K:Fr0} {σ:St} {H:Hp} {Q:It->Hp->Prop} {f:M D} {k:D->M (List D)} {Z:Env} {Q':VK} (h:WpI K c σ H Q (Sk.bnd f k Z)) (hQ:∀d Z' v H',Rep K c Z' σ H'->Is K (Cn c σ) H' d v->Gr c.O σ H H'->WpI K c σ H' Q (k d Z')->Q' v H'):Wp K c σ H Q' (f Z):=by
 unfold Sk.bnd at h
 cases e:f Z with
 |ok p=>rw[e]at h;exact λv H' hr hi hg=>hQ p.1 p.2 v H' hr hi hg (h.gr hg)
 |exc x Z'=>rw[e]at h;exact h
 |bad=>rw[e]at h;exact h
theorem WpL.bndI {K:Fr0} {σ:St} {H:Hp} {Q:It->Hp->Prop} {f:M (List D)} {k:List D->M (List D)} {Z:Env} {Q':List V->Hp->Prop} (h:WpI K c σ H Q (Sk.bnd f k Z)) (hQ:∀d Z' v H',Rep K c Z' σ H'->IsL K (Cn c σ) H' d v->Gr c.O σ H H'->WpI K c σ H' Q (k d Z')->Q' v H'):WpL K c σ H Q' (f Z):=by
 unfold Sk.bnd at h
 cases e:f Z with
 |ok p=>rw[e]at h;exact λv H' hr hi hg=>hQ p.1 p.2 v H' hr hi hg (h.gr hg)
 |exc x Z'=>rw[e]at h;exact h
 |bad=>rw[e]at h;exact h
theorem Is.tr{K:Fr0}{A:Addr->Prop}{H:Hp}{d:D}{v:V}(h:Is K A H d v):Is K (λa=>A a/\(H a).isSome=true) H d v:=Is.ext Ext.refl (λa h1 h2=>⟨h1,h2⟩) h
theorem qeI {f:M D} (h:DE X c e f):DI X c tg e (qfV f):=by
 obtain⟨t,p,w⟩:=h
 refine⟨_,qkg p,λZ σ H Q r h=>w Z σ H _ r (Wp.bndI h λd Z1 v H1 r1 i1 g1 h1=>?_)⟩
 obtain⟨ds,e,h2⟩:=u6 h1
 have i2:Is X.K (CnT c σ H1) H1 d v:=i1.tr
 cases d<;>simp only[qlD]at e<;>try (cases e;done)
 ·cases e
  obtain⟨a,xs,rfl,ta,il⟩:=i2
  exact .inr ⟨a,rfl,⟨xs,ta.sq⟩,h2 _ H1 r1 (qkh ta il) .refl⟩
 ·cases e
  obtain⟨a,xs,rfl,hA,ta,il⟩:=i2
  exact .inl ⟨a,rfl,⟨xs,.inl (.inl ta)⟩,h2 _ H1 r1 (qeH (λH' ex => .inl (.inl (ex.at_ _ _ hA ta))) il) .refl⟩
 ·cases e
  obtain⟨a,rfl,ta⟩:=i2
  exact .inl ⟨a,rfl,⟨_,ta.sq⟩,h2 _ H1 r1 (qeH (λH' ex=>(ta.elim (λ⟨o,h⟩ => .inl ⟨o,ex.frz _ _ _ h⟩) .inr:qj4 X.K H' a _).sq) (qcF _)) .refl⟩
def qb8(lo:Int)(n:Nat):List D:=(yaw n).map λi => .int (lo+(i:Nat))
theorem qhd {K:Fr0} {A:Addr->Prop} {H:Hp} (lo:Int) (n:Nat):qgp K A H (qb8 lo n) (Itr lo n) where
 go:=λH' i d ex hd=>by
  have:i<(qb8 lo n).length:=(gI_.mp hd).1
  show i<n
  simpa [qb8] using this
 yl := λH' i d x H'' ex hd y=>by
  obtain⟨e,y⟩:=y
  subst e
  subst y
  refine⟨jq.refl _,?_⟩
  unfold qb8 at hd
  rw[gM_]at hd
  cases e2:(yaw n)[i]? with
  |none=>rw[e2]at hd;cases hd
  | some j=>
   rw[e2]at hd
   have hj:j=i:=by
    have:=(gI_.mp e2).2
    simpa using this.symm
   subst hj
   cases hd
   rfl
 stop:=λH' ex=>by show n<=(qb8 lo n).length;simp[qb8]
def qgq:List D->Option (List D)
 | [.int j]=>if decide (-(2 ^ 62)<=j)&&decide (j<2 ^ 62)then some (qb8 0 j.toNat)else none
 |_=>none
def y0(f:M (List D)):M (List D):=bnd f λds=>lift (qgq ds)
theorem wF {f:M (List D)} {p:Pos} (hg:Gl X "range") (hm:X.mg "range"=none) (ha:DA X c [a] f) (hs:yac [a] X.env=[(false,eval a X.env)]:=by rfl):DI X c tg (.Call (.Name "range" p) [a] [] pos) (y0 f):=by
 obtain⟨t,p,w⟩:=ha
 refine⟨_,qea hg hm p hs,λZ σ H Q r h=>w Z σ H _ r (WpL.bndI h λds Z1 vs H1 r1 i1 g1 h1=>?_)⟩
 obtain⟨es,e,h2⟩:=u6 h1
 unfold qgq at e
 split at e
 ·rename_i j
  obtain⟨v,rfl,e2⟩:=IsL.inv1 i1
  cases e2
  by_cases hb:(decide (-(2 ^ 62)<=j)&&decide (j<2 ^ 62))=true
  ·rw[if_pos hb]at e
   cases e
   rw[yau]at hb
   exact⟨j,rfl,of_decide_eq_true hb.1,of_decide_eq_true hb.2,h2 _ H1 r1 (qhd 0 _) .refl⟩
  ·rw[if_neg hb]at e
   cases e
 ·cases e
def uW (g:D->Env->Option Env) (b:MS):List D->MS
 | [],Z => .ok (.nx Z)
 | d::ds,Z=>match g d Z with
  |none => .bad
  |some Z1=>match b Z1 with
   |.ok (.nx Z2)=>uW g b ds Z2
   |.ok (.ct Z2)=>uW g b ds Z2
   |.ok (.bk Z2) => .ok (.nx Z2)
   |.ok (.rt r Z2) => .ok (.rt r Z2)
   |.exc x Z2 => .exc x Z2
   |.bad => .bad
def qeJ(f:M (List D))(g:D->Env->Option Env)(b:MS):MS:=sbnd f λds=>uW g b ds
theorem WpI.sbnd {K:Fr0} {σ:St} {H:Hp} {D':qdZ} {f:M (List D)} {k:List D->MS} {Z:Env} {Q':It->Hp->Prop} (h:WpS K c σ H D' (Sk.sbnd f k Z))
  (hQ:∀ds Z' J H',Rep K c Z' σ H'->qgp K (CnT c σ H') H' ds J->Gr c.O σ H H'->WpS K c σ H' D' (k ds Z')->Q' J H'):WpI K c σ H Q' (f Z):=by
 unfold Sk.sbnd at h
 cases e:f Z with
 |ok p=>rw[e]at h;exact λv H' hr hi hg=>hQ p.1 p.2 v H' hr hi hg (h.gr hg.s)
 |exc x Z'=>rw[e]at h;exact λH' hr hg=>h σ H' hr hg.s
 |bad=>rw[e]at h;exact h
theorem GrS.extT{σ σ':St}{H H':Hp}(g:GrS c.O σ H σ' H'):Ext (CnT c σ H) H H':=⟨g.ext.tup,g.ext.frz,λb o hb h=>g.ext.at_ b o hb.1.2 h⟩
theorem GrS.cnT{σ σ':St}{H H':Hp}(g:GrS c.O σ H σ' H'){a:Addr}(h:CnT c σ H a):Cn c σ' a:=⟨h.1.1,g.cl a h.1.2 h.2⟩
theorem vp{α:Type}{l:List α}{i:Nat}(h:i<l.length):l.drop i=l[i]::l.drop (i+1):=List.drop_eq_getElem_cons h
theorem qbr {it:Expr} {body:List Stmt} {f:M (List D)} {g:D->Env->Option Env} {b:MS} (hp:yd4 (model X.prog X.w) X.A X.env X.xe) (hc:X.calm=true) (hi:DI X c tg it f) (hg:DG X c tg g) (hb:DSs X c body b)
  (hs:∀x,ybF it X.env x=pure x:=by intro _;rfl):DS X c (.For tg it body [] pos) (qeJ f g b):=by
 obtain⟨wi,pi,wI⟩:=hi
 obtain⟨tg',pg,wg⟩:=hg
 obtain⟨tb,pb,wb⟩:=hb
 refine⟨_,qjL hp hc pi pg pb hs,λZ σ H D' r h=>wI Z σ H _ r (WpI.sbnd h λds Z1 J H1 r1 iok g1 h1=>?_)⟩
 refine⟨λi m σ' H'=>m=ds.length-i/\i<=ds.length/\∃Z',Rep X.K c Z' σ' H'/\GrS c.O σ H1 σ' H'/\WpS X.K c σ' H' D' (uW g b (ds.drop i) Z'),⟨ds.length,by simp,ybs _,Z1,r1,.refl,by simpa using h1⟩,?_⟩
 rintro i m σ' H' ⟨rfl,hi,Z',r',gs,w⟩
 by_cases hlt:i<ds.length
 ·refine .inr ⟨iok.go H' i ds[i] gs.extT (by simp[hlt]),λσ2 H2=>∃Z2,Rep X.K c Z2 σ2 H2/\GrS c.O σ H1 σ2 H2/\WpS X.K c σ2 H2 D' (uW g b (ds.drop (i+1)) Z2),λσ2 H2 n=>⟨ds.length-(i+1),by omega,rfl,hlt,n⟩,λx H'' y=>?_⟩
  obtain⟨sm,ix⟩:=iok.yl H' i ds[i] x H'' gs.extT (by simp[hlt]) y
  rw[vp hlt]at w
  unfold uW at w
  have gs2:GrS c.O σ H1 σ' H'':=gs.trans (Gr.of_same sm).s
  have ix2:Is X.K (Cn c σ') H'' ds[i] x:=Is.ext Ext.refl (λa ha _=>gs2.cnT ha) ix
  cases e1:g ds[i] Z' with
  |none=>simp only[e1]at w;exact w.elim
  | some Z2=>
   simp only[e1]at w
   refine wg Z' σ' H'' ds[i] x Z2 _ (r'.same sm) ix2 e1 λσ2 r2 g2 _=>wb Z2 σ2 H'' _ r2 ?_
   have w2:=w.gr ((Gr.of_same sm).s.trans g2)
   have gs3:GrS c.O σ H1 σ2 H'':=gs2.trans g2
   cases e2:b Z2 with
   |ok fl=>
    cases fl with
    |nx Z3=>simp only[e2]at w2;exact λσ3 H3 r3 g3=>⟨Z3,r3,gs3.trans g3,w2.gr g3⟩
    |ct Z3=>simp only[e2]at w2;exact λσ3 H3 r3 g3=>⟨Z3,r3,gs3.trans g3,w2.gr g3⟩
    |bk Z3=>simp only[e2]at w2;exact w2
    |rt d Z3=>simp only[e2]at w2;exact w2
   |exc x Z3=>simp only[e2]at w2;exact w2
   |bad=>simp only[e2]at w2;exact w2
 ·have hie:i=ds.length:=by omega
  subst hie
  rw[ycy (yak _)]at w
  exact .inl ⟨iok.stop H' gs.extT,w σ' H' r' .refl⟩
end
def cin (B0:Addr->Prop) (H1:Hp) (O' J':List Nat) (Io':Addr->Prop) (acc:Addr) (S':Nat->Option (Option V)):Fc where
 J:=J'
 O:=O'
 P:=O'
 B:=λa=>B0 a/\a≠acc
 H0:=upd H1 acc (.lst [])
 Io:=λa=>Io' a\/a=acc
 E:=λ_ _=>False
 S:=S'
def jk (g:D->Env->Option Env) (t:M Bool) (e:M D):List D->List D->Env->R (List D×Env)
 | [],acc,Z => .ok (acc,Z)
 | d :: ds,acc,Z=>match g d Z with
  |none => .bad
  | some Z1=>match t Z1 with
   |.ok (true,Z2)=>match e Z2 with
    |.ok (y,Z3)=>if qF (acc.length+1)then jk g t e ds (acc++[y]) Z3 else .bad
    |_ => .bad
   |.ok (false,Z2)=>jk g t e ds acc Z2
   |_ => .bad
def ym(nt:Nat)(fr:List Nat)(Z:Env):Env:=yan nt none++fr.map λj=>(Z[j]?).join
def qjn (fo:Option (Nat×Nat)) (Ze Z:Env):Env:=match fo with
 |none=>Z
 |some (i,j)=>Z.set j (Ze[i]?).join
def y7 (nt:Nat) (fr:List Nat) (fo:Option (Nat×Nat)) (f:M (List D)) (g:D->Env->Option Env) (t:M Bool) (e:M D):M D:=bnd f λds Z=>match jk g t e ds [] (ym nt fr Z) with
 |.ok (ys,Ze) => .ok (.lst ys,qjn fo Ze Z)
 |_ => .bad
def DF(X:Cx)(c:Fc)(ifs:List Expr)(f:M Bool):Prop:=∃t,PF X ifs t/\∀Z σ H Q,Rep X.K c Z σ H->WpB X.K c σ H Q (f Z)->t σ H Q
def foO (fo:Option (Nat×Nat)):List Nat:=match fo with
 |none=>[]
 |some (i,_)=>[i]
def foJ (c:Fc) (fo:Option (Nat×Nat)):List Nat:=match fo with
 |none=>[]
 |some (i,j)=>if c.J.contains j then [i]else []
section
variable{X:Cx}{c:Fc}{tg a b e:Expr}{pos:Pos}
theorem qbs:DF X c [] (ret true):=⟨_,qke,λZ σ H Q r h=>h H r .refl⟩
theorem qki {f:M Bool} (h:DT X c e f):DF X c [e] f:=by
 obtain⟨t,p,w⟩:=h
 exact⟨_,qkf p,w⟩
theorem WpI.bnd {K:Fr0} {σ:St} {H:Hp} {Q:VK} {f:M (List D)} {k:List D->M D} {Z:Env} {Q':It->Hp->Prop} (h:Wp K c σ H Q (Sk.bnd f k Z))
  (hQ:∀ds Z' J H',Rep K c Z' σ H'->qgp K (CnT c σ H') H' ds J->Gr c.O σ H H'->Wp K c σ H' Q (k ds Z')->Q' J H'):WpI K c σ H Q' (f Z):=by
 unfold Sk.bnd at h
 cases e:f Z with
 |ok p=>rw[e]at h;exact λv H' hr hi hg=>hQ p.1 p.2 v H' hr hi hg (h.gr hg)
 |exc x Z'=>rw[e]at h;exact h
 |bad=>rw[e]at h;exact h
theorem Rep.grow {K:Fr0} {B0:Addr->Prop} {H1:Hp} {O' J':List Nat} {Io':Addr->Prop} {acc:Addr} {S':Nat->Option (Option V)} {Z:Env} {σ:St} {H:Hp} {xs ys:List V} (r:Rep K (cin B0 H1 O' J' Io' acc S') Z σ H) (h:H acc=some (.lst xs)) (ho:∀j∈O',σ[j]? ≠ some (some (.ref acc))) :
  Rep K (cin B0 H1 O' J' Io' acc S') Z σ (upd H acc (.lst ys)):=by
 have ext:Ext (λa=>a≠acc) H (upd H acc (.lst ys)):=⟨λb zs hb=>by rw[qg (zP hb h (by intro z;cases z))];exact hb,λb o u hb=>by rw[qg (zP hb h (by intro z;cases z))];exact hb,λb o hb hq=>by rw[qg hb];exact hq⟩
 have cnext:Ext (Cn (cin B0 H1 O' J' Io' acc S') σ) H (upd H acc (.lst ys)):=⟨ext.tup,ext.frz,λb o hb hq=>ext.at_ b o hb.1.2 hq⟩
 refine⟨r.len,λi d hd=>?_,λj hj v hv=>?_,r.inj,r.b0,λb o hb hio=>?_,λb hb=>?_,r.pO,r.ps⟩
 ·obtain ⟨v,h1,h2⟩:=r.val i d hd
  refine⟨v,h1,?_⟩
  rcases h2 with⟨hi,ds,a,zs,h3,h5,h6,h7⟩|⟨hi,h3⟩
  ·subst h5
   have ne:a≠acc:=λe=>ho i hi (by rw[h1,e])
   exact .inl ⟨hi,ds,a,zs,h3,rfl,by rw[qg ne];exact h6,IsL.ext cnext (λ_ h _=>h) h7⟩
  ·exact .inr ⟨hi,Is.ext cnext (λ_ h _=>h) h3⟩
 ·obtain⟨a,zs,h1,h2,h3⟩:=r.own j hj v hv
  subst h1
  have ne:a≠acc:=λe=>ho j hj (by rw[hv,e])
  exact⟨a,zs,rfl,by rw[qg ne];exact h2,h3⟩
 ·have ne:b≠acc:=λe=>hio (.inr e)
  rw[qg ne]
  exact r.kp b o hb hio
 ·by_cases e:b=acc
  ·subst e;rw[qi]at hb;cases hb
  ·rw[qg e]at hb;exact r.dm b hb
theorem wG {α:Type} {o:Option (Option α)} {a:α} (h:o.join=some a):o=some (some a):=by
 cases o with
 |none=>cases h
 |some x=>have:x=some a:=h;rw[this]
theorem ql5 {K:Fr0} {c:Fc} {i j:Nat} {t:Tg} {d:D} {ds:List D} (h:qds K c.J j t d ds):qds K (foJ c (some (i,j))) i t d ds:=by
 cases t with
 |l=>exact h
 |d C dx l=>
  obtain⟨h1,h2,h3⟩:=h
  refine⟨h1,?_,h3⟩
  unfold foJ
  simp[h2]
theorem qkj {K:Fr0} {c:Fc} {i j:Nat} {t:Tg} {d:D} {ds:List D} (h:qds K (foJ c (some (i,j))) i t d ds):qds K c.J j t d ds:=by
 cases t with
 |l=>exact h
 |d C dx l=>
  obtain⟨h1,h2,h3⟩:=h
  refine⟨h1,?_,h3⟩
  unfold foJ at h2
  simp only at h2
  split at h2
  ·rename_i hc;simpa using hc
  ·cases h2
def qkk (c:Fc) (nt:Nat) (fr:List Nat) (fo:Option (Nat×Nat)):Prop:=match fo with
 |none=>∀j∈fr,j ∉ c.O
 |some (i,j)=>j∈c.O/\nt<=i/\fr[i-nt]? = some j/\∀k j',fr[k]? = some j'->nt+k≠i->j' ∉ c.O
def qba (σ:St) (fo:Option (Nat×Nat)) (a:Addr):Prop:=match fo with
 |none=>False
 |some (_,j)=>σ[j]? = some (some (.ref a))
theorem vq {nt:Nat} {fr:List Nat} {σ:St} {k j:Nat} (h:fr[k]? = some j):(qM nt fr σ)[nt+k]? = some (σ[j]?).join:=by
 unfold qM
 rw[List.getElem?_append_right (by simp),yaX,gM_,show nt+k-nt=k by omega,h]
 rfl
theorem qdx {nt:Nat} {fr:List Nat} {Z:Env} {i:Nat} {d:D} (hd:(ym nt fr Z)[i]? = some (some d)):∃k j,i=nt+k/\fr[k]? = some j/\Z[j]? = some (some d):=by
 have hi:nt<=i:=by
  apply ycH
  intro hlt
  unfold ym at hd
  rw[List.getElem?_append_left (by simpa using hlt),List.getElem?_replicate]at hd
  split at hd<;>cases hd
 unfold ym at hd
 rw[List.getElem?_append_right (by simpa using hi),yaX,gM_]at hd
 cases ej:fr[i-nt]? with
 |none=>rw[ej]at hd;cases hd
 |some j=>
  rw[ej]at hd
  exact⟨i-nt,j,by omega,ej,wG (by simpa using hd)⟩
theorem yd {nt:Nat} {fr:List Nat} {σ:St} {i:Nat} {d:V} (hd:(qM nt fr σ)[i]? = some (some d)):∃k j,i=nt+k/\fr[k]? = some j/\σ[j]? = some (some d):=by
 have hi:nt<=i:=by
  apply ycH
  intro hlt
  unfold qM at hd
  rw[List.getElem?_append_left (by simpa using hlt),List.getElem?_replicate]at hd
  split at hd<;>cases hd
 unfold qM at hd
 rw[List.getElem?_append_right (by simpa using hi),yaX,gM_]at hd
 cases ej:fr[i-nt]? with
 |none=>rw[ej]at hd;cases hd
 |some j=>
  rw[ej]at hd
  exact⟨i-nt,j,by omega,ej,wG (by simpa using hd)⟩
theorem Rep.entry {K:Fr0} {nt:Nat} {fr:List Nat} {fo:Option (Nat×Nat)} {acc:Addr} {Z:Env} {σ:St} {H:Hp} (r:Rep K c Z σ H) (hn:H acc=none) (hfo:qkk c nt fr fo) :
  Rep K (cin (Cn c σ) H (foO fo) (foJ c fo) (qba σ fo) acc λj=>(qM nt fr σ)[j]?) (ym nt fr Z) (qM nt fr σ) (upd H acc (.lst [])):=by
 have sm:jq H (upd H acc (.lst [])):=qA hn _
 have ownI:∀i∈foO fo,∀v,(qM nt fr σ)[i]? = some (some v)->∃j,fo=some (i,j)/\j∈c.O/\σ[j]? = some (some v):=λi hi v hv=>by
  cases fo with
  |none=>cases hi
  |some p=>
   obtain⟨i',j'⟩:=p
   have e:i=i':=by simpa [foO] using hi
   subst e
   obtain⟨h1,h2,h3,h4⟩:=hfo
   obtain⟨k,j,e1,e2,e3⟩:=yd hv
   have hk:k=i-nt:=by omega
   subst hk
   rw[h3]at e2
   cases e2
   exact⟨j',rfl,h1,e3⟩
 have clI:∀a,Cl c.O σ a->Cl (foO fo) (qM nt fr σ) a:=λa ha i hi e=>by
  obtain⟨j,_,hj,e2⟩:=ownI i hi _ e
  exact ha j hj e2
 refine⟨by simp[ym,qM],λi d hd=>?_,λi hi v hv=>?_,λi j a hi hj h1 h2=>?_,⟨λa ha=>?_,λq P pos eP=>?_⟩,λb o hb hio=>?_,λb hb=>?_,λ_ h=>h,λ_ _=>rfl⟩
 ·obtain ⟨k,j,e1,e2,e3⟩:=qdx hd
  subst e1
  by_cases hO:nt+k∈foO fo
  ·obtain ⟨v,hv⟩:∃v,σ[j]? = some (some v):=by
    obtain⟨v,h1,_⟩:=r.val j d e3
    exact⟨v,h1⟩
   have hc:(qM nt fr σ)[nt+k]? = some (some v):=by rw[vq e2,hv];rfl
   obtain⟨j',f1,f2,f3⟩:=ownI _ hO v hc
   subst f1
   obtain⟨g1,g2,g3,g4⟩:=hfo
   rw[show nt+k-nt=k by omega,e2]at g3
   cases g3
   obtain⟨ds,a,xs,h1,h3,h4,h5⟩:=r.getO g1 e3
   rw[hv]at h3
   cases h3
   exact⟨.ref a,hc,.inl ⟨hO,ds,a,xs,ql5 h1,rfl,sm _ _ h4,IsL.ext (Ext.of_same sm) (λb hb hs=>⟨⟨hb,λe=>by subst e;rw[hn]at hs;cases hs⟩,clI b hb.2⟩) h5⟩⟩
  ·have hj:j ∉ c.O:=by
    cases fo with
    |none=>exact hfo j (ycZ e2)
    |some p=>
     obtain⟨i',j'⟩:=p
     exact hfo.2.2.2 k j e2 (λe=>hO (by simp[foO,e]))
   obtain⟨v,h1,h2⟩:=r.get hj e3
   refine⟨v,by rw[vq e2,h1];rfl,.inr ⟨hO,?_⟩⟩
   refine Is.ext (Ext.of_same sm) (λa ha hs=>⟨⟨ha,λe=>?_⟩,clI a ha.2⟩) h2
   subst e;rw[hn]at hs;cases hs
 ·obtain⟨j,f1,f2,f3⟩:=ownI i hi v hv
  obtain⟨a,xs,h1,h2,h3⟩:=r.own j f2 v f3
  subst h1 f1
  exact⟨a,xs,rfl,sm _ _ h2,.inr ⟨hi,.inl f3⟩⟩
 ·cases fo with
  |none=>cases hi
  |some p=>
   obtain⟨i',j'⟩:=p
   have e:i=i':=by simpa [foO,cin] using hi
   have e2:j=i':=by simpa [foO,cin] using hj
   rw[e,e2]
 ·have ha':upd H acc (.lst []) a=none:=ha
  by_cases e:a=acc
  ·subst e;rw[qi]at ha';cases ha'
  ·rw[qg e]at ha';exact⟨r.new ha',e⟩
 ·have hP:=(r.tb q P pos eP).1
  refine⟨sm _ _ hP,λz=>?_⟩
  rcases z with z|z
  ·cases fo with
   |none=>exact z
   |some p=>
    obtain⟨b,xs,e1,e2,_⟩:=r.own _ hfo.1 _ z
    cases e1
    rw[hP]at e2;exact qh4 (yax e2).symm
  ·rw[z,hn]at hP;cases hP
 ·exact hb
 ·exact hb
theorem Rep.leave {K:Fr0} {nt:Nat} {fr:List Nat} {fo:Option (Nat×Nat)} {acc:Addr} {Z Ze:Env} {σ σe:St} {H H':Hp} (r:Rep K c Z σ H) (hn:H acc=none) (hfo:qkk c nt fr fo) (hf:∀i j,fo=some (i,j)->σe[i]? = (qM nt fr σ)[i]?)
  (q:Rep K (cin (Cn c σ) H (foO fo) (foJ c fo) (qba σ fo) acc λj=>(qM nt fr σ)[j]?) Ze σe H'):Rep K c (qjn fo Ze Z) σ H'/\Gr c.O σ H H':=by
 have kp:∀b o,H b=some o->¬qba σ fo b->H' b=some o:=λb o hb hio=>q.kp b o (by show upd H acc (.lst []) b=some o;rw[qg (qr hb hn)];exact hb) λz=>z.elim hio λe=>absurd e (qr hb hn)
 have clean:∀b,Cl c.O σ b->¬qba σ fo b:=λb hb hio=>by
  cases fo with
  |none=>exact hio
  |some p=>exact hb p.2 hfo.1 hio
 have dom:∀b,H' b=none->H b=none:=λb hb=>by
  have:=q.dm b hb
  by_cases e:b=acc
  ·subst e;exact hn
  ·have this:upd H acc (.lst []) b=none:=this
   rw[qg e]at this;exact this
 have notT:∀b xs,H b=some (.tup xs)->¬qba σ fo b:=λb xs hb hio=>by
  cases fo with
  |none=>exact hio
  |some p=>
   obtain⟨a,ys,e1,e2,_⟩:=r.own p.2 hfo.1 _ hio
   cases e1;rw[hb]at e2;exact qew (yax e2).symm
 have notF:∀b o u,H b=some (.frz o u)->¬qba σ fo b:=λb o u hb hio=>by
  cases fo with
  |none=>exact hio
  |some p=>
   obtain⟨a,ys,e1,e2,_⟩:=r.own p.2 hfo.1 _ hio
   cases e1;rw[hb]at e2;exact qex (yax e2).symm
 have gr:Gr c.O σ H H':=⟨⟨λb xs hb=>kp b _ hb (notT b xs hb),λb o u hb=>kp b _ hb (notF b o u hb),λb o hc hb=>kp b o hb (clean b hc)⟩,dom⟩
 refine⟨⟨?_,λk d hd=>?_,λj hj v hv=>?_,r.inj,r.b0,λb o hb hio=>?_,λb hb=>r.dm b (dom b hb),r.pO,r.ps⟩,gr⟩
 ·cases fo with
  |none=>exact r.len
  |some p=>show(Z.set _ _).length=_;rw[lS_];exact r.len
 ·-- an old slot,or the one that came qjn
  have oldSlot:Z[k]? = some (some d)->(∀i,fo≠some (i,k))->∃v,σ[k]? = some (some v)/\((k∈c.O/\∃(ds:List D)(a:Addr)(xs:Tg×List V),qds K c.J k xs.1 d ds/\v=.ref a/\H' a=some (lab xs)/\IsL K (Cn c σ) H' ds xs.2)\/(k ∉ c.O/\Is K (Cn c σ) H' d v)):=λhk hne=>by
   obtain⟨v,h1,h2⟩:=r.val k d hk
   refine⟨v,h1,?_⟩
   rcases h2 with⟨hi,ds,a,xs,h3,h5,h6,h7⟩|⟨hi,h3⟩
   ·subst h5
    refine .inl ⟨hi,ds,a,xs,h3,rfl,kp a _ h6 (λhio=>?_),gr.isL h7⟩
    cases fo with
    |none=>exact hio
    |some p=>
     obtain⟨i',j'⟩:=p
     have e:=r.inj k j' a hi hfo.1 h1 hio
     exact hne i' (by rw[e])
   ·exact .inr ⟨hi,gr.is h3⟩
  cases fo with
  |none=>exact oldSlot hd (λi e=>by cases e)
  | some p=>
   obtain⟨i',j'⟩:=p
   have hd':(Z.set j' (Ze[i']?).join)[k]? = some (some d):=hd
   by_cases e:k=j'
   ·subst e
    have hl:k<Z.length:=by
     have:=(gI_.mp hd').1
     rwa [lS_]at this
    rw[List.getElem?_set_self hl]at hd'
    have he:Ze[i']? = some (some d):=wG (yax hd')
    obtain⟨ds,a,xs,h1,h3,h4,h5⟩:=q.getO (show i'∈foO (some (i',k)) by simp[foO]) he
    have h3':=hf i' k rfl
    rw[h3]at h3'
    obtain⟨k2,j2,e1,e2,e3⟩:=yd h3'.symm
    have hk2:k2=i'-nt:=by omega
    subst hk2
    rw[hfo.2.2.1]at e2
    cases e2
    exact⟨.ref a,e3,.inl ⟨hfo.1,ds,a,xs,qkj h1,rfl,h4,IsL.ext Ext.refl (λb hb _=>hb.1.1) h5⟩⟩
   ·rw[zy e]at hd'
    exact oldSlot hd' (λi e2=>e (by cases e2;rfl))
 ·obtain ⟨a,xs,h1,h2,h3⟩:=r.own j hj v hv
  subst h1
  by_cases hio:qba σ fo a
  ·cases fo with
   |none=>exact hio.elim
   | some p=>
    obtain⟨i',j'⟩:=p
    have hc:(qM nt fr σ)[i']? = some (some (.ref a)):=by
     have:=vq (σ:=σ) (nt:=nt) hfo.2.2.1
     rw[show nt+(i'-nt)=i' by have:=hfo.2.1;omega]at this
     rw[this]
     have hio':σ[j']? = some (some (.ref a)):=hio
     rw[hio'];rfl
    have h3':=hf i' j' rfl
    rw[hc]at h3'
    obtain⟨a',ys,e1,e2,_⟩:=q.own i' (by simp[foO,cin]) _ h3'
    cases e1
    exact⟨a,ys,rfl,e2,h3⟩
  ·exact⟨a,xs,rfl,kp a _ h2 hio,h3⟩
 ·by_cases hio2:qba σ fo b
  ·cases fo with
   |none=>exact hio2.elim
   |some p=>
    obtain⟨a,ys,e1,e2,e3⟩:=r.own p.2 hfo.1 _ hio2
    cases e1
    rcases e3 with e3|e3
    ·rw[hb]at e3;cases e3
    ·exact absurd e3.2 hio
  ·exact kp b o (r.kp b o hb hio) hio2
theorem qaI {it elt:Expr} {ifs:List Expr} {scope:Scope} {N':List Str} {nt:Nat} {fr:List Nat} {fo:Option (Nat×Nat)} {f:M (List D)} {g:D->Env->Option Env} {t:M Bool} {k:M D} (hc:X.calm=true) (hi:DI X c tg it f) (S:yj X scope N' nt fr)
  (hfo:qkk c nt fr fo)
  (hb:∀fp cl C s₀ H₀ pn B0 H1 Io' acc S',DG (zr X scope N' fp cl C s₀ H₀ pn) (cin B0 H1 (foO fo) (foJ c fo) Io' acc S') tg g/\DF (zr X scope N' fp cl C s₀ H₀ pn) (cin B0 H1 (foO fo) (foJ c fo) Io' acc S') ifs t/\DE (zr X scope N' fp cl C s₀ H₀ pn) (cin B0 H1 (foO fo) (foJ c fo) Io' acc S') elt k)
  (hs:∀x,ybF it X.env x=pure x:=by intro _;rfl):DE X c (.ListComp elt [⟨tg,it,ifs,0⟩] scope pos) (y7 nt fr fo f g t k):=by
 obtain⟨wi,pi,wI⟩:=hi
 refine⟨_,qij hc pi S hs,λZ σ H Q r h=>wI Z σ H _ r (WpI.bnd h λds Z1 J H1 r1 iok g1 h1=>?_)⟩
 intro acc fp cl C s₀ H₀ pn hn
 obtain⟨⟨tg',pg,wg⟩,⟨tt,pt,wt⟩,⟨te,pe,we⟩⟩:=hb fp cl C s₀ H₀ pn (Cn c σ) H1 (qba σ fo) acc λj=>(qM nt fr σ)[j]?
 refine⟨tg',tt,te,pg,pt,pe,?_⟩
 cases ew:jk g t k ds [] (ym nt fr Z1) with
 |exc x Z'=>rw[ew]at h1;exact h1.elim
 |bad=>rw[ew]at h1;exact h1.elim
 | ok p =>
  rw[ew]at h1
  obtain⟨ys,Ze⟩:=p
  have h1:∀v H',Rep X.K c (qjn fo Ze Z1) σ H'->Is X.K (Cn c σ) H' (.lst ys) v->Gr c.O σ H1 H'->Q v H':=h1
  have accO:∀j∈foO fo,(qM nt fr σ)[j]? ≠ some (some (.ref acc)):=λj hj e=>by
   have r0:=r1.entry (acc:=acc) hn hfo
   cases fo with
   |none=>cases hj
   |some p=>
    obtain⟨i',j'⟩:=p
    have e2:j=i':=by simpa [foO] using hj
    subst e2
    obtain⟨k2,j2,e1,e2,e3⟩:=yd e
    have hk2:k2=j-nt:=by omega
    subst hk2
    rw[hfo.2.2.1]at e2
    cases e2
    obtain⟨a,us,e4,e5,_⟩:=r1.own j' hfo.1 _ e3
    cases e4;rw[hn]at e5;cases e5
  refine ⟨λi m σ' H'=>m=ds.length-i/\i<=ds.length/\∃Z' zs xs,Rep X.K (cin (Cn c σ) H1 (foO fo) (foJ c fo) (qba σ fo) acc λj=>(qM nt fr σ)[j]?) Z' σ' H'/\(∀j∈foO fo,σ'[j]? = (qM nt fr σ)[j]?)/\H' acc=some (.lst xs)/\IsL X.K (Cn (cin (Cn c σ) H1 (foO fo) (foJ c fo) (qba σ fo) acc λj=>(qM nt fr σ)[j]?) σ') H' zs xs/\jk g t k (ds.drop i) zs Z'=.ok (ys,Ze),
   ⟨ds.length,by simp,ybs _,ym nt fr Z1,[],[],r1.entry hn hfo,λ_ _=>rfl,qi,rfl,by simpa using ew⟩,?_⟩
  rintro i m σ' H' ⟨rfl,hi,Z',zs,xs,r',so,ha,iz,w⟩
  obtain⟨_,gr⟩:=r1.leave hn hfo (λi j e=>so i (by rw[e];simp[foO])) r'
  have ex:Ext (CnT c σ H1) H1 H':=⟨gr.ext.tup,gr.ext.frz,λb o hb hq=>gr.ext.at_ b o hb.1.2 hq⟩
  have accC:∀τ:St,(∀j∈foO fo,τ[j]? = (qM nt fr σ)[j]?)->Cl (foO fo) τ acc:=λτ hτ j hj e=>accO j hj (by rw[<-hτ j hj];exact e)
  by_cases hlt:i<ds.length
  ·refine .inr ⟨iok.go H' i ds[i] ex (by simp[hlt]),λx H'' y=>?_⟩
   obtain⟨sm,ix⟩:=iok.yl H' i ds[i] x H'' ex (by simp[hlt]) y
   rw[vp hlt]at w
   unfold jk at w
   have ix2:Is X.K (Cn (cin (Cn c σ) H1 (foO fo) (foJ c fo) (qba σ fo) acc λj=>(qM nt fr σ)[j]?) σ') H'' ds[i] x:=Is.ext Ext.refl (λa ha _=>⟨⟨ha.1,λe=>by
    have:=ha.2
    rw [e,hn]at this;cases this⟩,λj hj e=>by
     rw[so j hj]at e
     cases fo with
     |none=>cases hj
     |some p=>
      obtain⟨i',j'⟩:=p
      have e2:j=i':=by simpa [foO,cin] using hj
      subst e2
      obtain⟨k2,j2,e1,e2,e3⟩:=yd e
      have hk2:k2=j-nt:=by omega
      subst hk2
      rw[hfo.2.2.1]at e2
      cases e2
      exact ha.1.2 j' hfo.1 e3⟩) ix
   cases e1:g ds[i] Z' with
   |none=>simp only[e1]at w;cases w
   | some Z2=>
    simp only[e1]at w
    refine wg Z' σ' H'' ds[i] x Z2 _ (r'.same sm) ix2 e1 λσ2 r2 g2 o2=>?_
    have so2:∀j∈foO fo,σ2[j]? = (qM nt fr σ)[j]? := λj hj=>(o2 j hj).trans (so j hj)
    have ha2:H'' acc=some (.lst xs):=sm _ _ ha
    have iz2:=g2.isL (IsL.ext (Ext.of_same sm) (λ_ h _=>h) iz)
    cases e2:t Z2 with
    |exc x Z3=>simp only[e2]at w;cases w
    |bad=>simp only[e2]at w;cases w
    | ok p2=>
     obtain⟨bb,Z3⟩:=p2
     refine wt Z2 σ2 H'' _ r2 ?_
     rw[e2]
     intro H3 r3 g3
     have ha3:H3 acc=some (.lst xs):=g3.ext.at_ _ _ (accC σ2 so2) ha2
     have iz3:=g3.isL iz2
     cases bb with
     |false=>
      rw[if_neg yar]
      simp only[e2]at w
      exact⟨ds.length-(i+1),by omega,rfl,hlt,Z3,zs,xs,r3,so2,ha3,iz3,w⟩
     | true=>
      rw[if_pos rfl]
      simp only[e2]at w
      cases e3:k Z3 with
      |exc x Z4=>simp only[e3]at w;cases w
      |bad=>simp only[e3]at w;cases w
      | ok p3=>
       obtain⟨d4,Z4⟩:=p3
       simp only[e3]at w
       refine we Z3 σ2 H3 _ r3 ?_
       rw[e3]
       intro y4 H4 r4 i4 g4
       have ha4:H4 acc=some (.lst xs):=g4.ext.at_ _ _ (accC σ2 so2) ha3
       have hsz:qF (zs.length+1)=true:=by
        cases e5:qF (zs.length+1) with
        |true=>rfl
        |false=>rw[e5]at w;simp at w
       rw[if_pos hsz]at w
       have hsz':zs.length+1<=yao:=of_decide_eq_true hsz
       have r5:=r4.grow (ys:=xs++[y4]) ha4 (λj hj e=>accC σ2 so2 j hj e)
       have ext5:Ext (Cn (cin (Cn c σ) H1 (foO fo) (foJ c fo) (qba σ fo) acc λj=>(qM nt fr σ)[j]?) σ2) H4 (upd H4 acc (.lst (xs++[y4]))):=⟨λb us hb=>by rw[qg (zP hb ha4 (by intro z;cases z))];exact hb,λb o u hb=>by rw[qg (zP hb ha4 (by intro z;cases z))];exact hb,λb o hb hq=>by rw[qg hb.1.2];exact hq⟩
       refine⟨xs,ha4,by rw[iz3.length];omega,ds.length-(i+1),by omega,rfl,hlt,Z4,zs++[d4],xs++[y4],r5,so2,qi,?_,w⟩
       exact IsL.append (IsL.ext ext5 (λ_ h _=>h) (g4.isL iz3)) (IsL.one (Is.ext ext5 (λ_ h _=>h) i4))
  ·have hie:i=ds.length:=by omega
   subst hie
   rw[ycy (yak _)]at w
   unfold jk at w
   cases w
   obtain⟨r6,g6⟩:=r1.leave hn hfo (λi j e=>so i (by rw[e];simp[foO])) r'
   exact .inl ⟨iok.stop H' ex,h1 _ H' r6 ⟨acc,xs,rfl,r1.new hn,ha,IsL.ext Ext.refl (λa ha hs=>ha.1.1) iz⟩ g6⟩
end
theorem Rep.ioT {K:Fr0} {c:Fc} {Z:Env} {σ:St} {H H':Hp} {i:Nat} {a:Addr} {d0:D} {bs:List D} {xs:Tg×List V} (r:Rep K c Z σ H) (hi:i∈c.O) (hs:σ[i]? = some (some (.ref a))) (kp:∀b o,b≠a->H b=some o->H' b=some o)
  (ha:H' a=some (lab xs)) (him:qds K c.J i xs.1 d0 bs) (il:IsL K (Cn c σ) H' bs xs.2) (dm:∀b,H' b=none->H b=none):Rep K c (Z.set i (some d0)) σ H'/\Gr c.O σ H H':=by
 obtain⟨a',xs0,e0,h0,hown⟩:=r.own i hi _ hs
 cases e0
 have gr:Gr c.O σ H H':=⟨⟨λb us hb=>kp b _ (zP hb h0 (yaG qew)) hb,λb o u hb=>kp b _ (zP hb h0 (yaG qex)) hb,λb o hc hb=>kp b o (λe=>hc i hi (by rw[hs,e])) hb⟩,dm⟩
 refine⟨⟨by rw[lS_];exact r.len,λk d hk=>?_,λj hj v hv=>?_,r.inj,r.b0,λb o hb hio=>?_,λb hb=>r.dm b (dm b hb),r.pO,r.ps⟩,gr⟩
 ·by_cases e:k=i
  ·subst e
   have hl:k<Z.length:=by
    have:=(gI_.mp hk).1
    rwa [lS_]at this
   rw[List.getElem?_set_self hl]at hk
   cases hk
   exact⟨.ref a,hs,.inl ⟨hi,bs,a,xs,him,rfl,ha,il⟩⟩
  ·rw [zy e]at hk
   obtain⟨v,h1,h2⟩:=r.val k d hk
   refine⟨v,h1,?_⟩
   rcases h2 with⟨hk2,ds,b,ys,h3,h5,h6,h7⟩|⟨hk2,h3⟩
   ·subst h5
    have ne:b≠a:=λe2=>e (r.inj k i a hk2 hi (by rw[h1,e2]) hs)
    exact .inl ⟨hk2,ds,b,ys,h3,rfl,kp b _ ne h6,gr.isL h7⟩
   ·exact .inr ⟨hk2,gr.is h3⟩
 ·obtain⟨b,ys,h1,h2,h3⟩:=r.own j hj v hv
  subst h1
  by_cases e:b=a
  ·subst e;exact⟨b,xs,rfl,ha,h3⟩
  ·exact⟨b,ys,rfl,kp b _ e h2,h3⟩
 ·have ne:b≠a:=λe=>by
   subst e
   rcases hown with z|z
   ·rw[hb]at z;cases z
   ·exact hio z.2
  exact kp b o ne (r.kp b o hb hio)
theorem Rep.io {K:Fr0} {c:Fc} {Z:Env} {σ:St} {H H':Hp} {i:Nat} {a:Addr} {bs:List D} {xs:List V} (r:Rep K c Z σ H) (hi:i∈c.O) (hs:σ[i]? = some (some (.ref a))) (kp:∀b o,b≠a->H b=some o->H' b=some o)
  (ha:H' a=some (.lst xs)) (him:True) (il:IsL K (Cn c σ) H' bs xs) (dm:∀b,H' b=none->H b=none):Rep K c (Z.set i (some (.lst bs))) σ H'/\Gr c.O σ H H' :=
 r.ioT (xs:=(.l,xs)) hi hs kp ha rfl il dm
def zZ (i:Nat) (Z:Env):Option (List D):=match Z[i]? with
 |some (some (.lst ds))=>some ds
 |_=>none
theorem qeK {i:Nat} {Z:Env} {ds:List D} (h:zZ i Z=some ds):Z[i]? = some (some (.lst ds)):=by
 unfold zZ at h
 split at h
 ·rename_i e;cases h;exact e
 ·cases h
theorem Rep.getLO {K:Fr0} {c:Fc} {Z:Env} {σ:St} {H:Hp} (r:Rep K c Z σ H) {i:Nat} {ds:List D} (hi:i∈c.O) (h:zZ i Z=some ds) :
  ∃a xs,True/\σ[i]? = some (some (.ref a))/\H a=some (.lst xs)/\IsL K (Cn c σ) H ds xs:=by
 obtain⟨ds',a,xs,h1,h3,h4,h5⟩:=r.getOL hi (qeK h)
 cases h1
 exact⟨a,xs,trivial,h3,h4,h5⟩
theorem qb9 {xs ys:List D} (h1:immL xs=true) (h2:immL ys=true):immL (xs++ys)=true:=by
 induction xs with
 |nil=>exact h2
 |cons d ds ih=>
  have:imm d=true/\immL ds=true:=by simpa [immL] using h1
  simp[immL,this.1,ih this.2]
theorem qP{H:Hp}{a b:Addr}{o u:HO}(h:b≠a)(hb:H b=some o):upd H a u b=some o:=by rw[qg h];exact hb
theorem zA {H:Hp} {a b:Addr} {u:HO} (h:upd H a u b=none):H b=none:=by
 by_cases e:b=a
 ·subst e;rw[qi]at h;cases h
 ·rw[qg e]at h;exact h
section
variable{X:Cx}{c:Fc}{a b e:Expr}{pos:Pos}
def y8 (i:Nat) (f:M D):M D:=λZ=>match zZ i Z with
 |none => .bad
 |some _=>(bnd f λd Z=>match zZ i Z with
  |some ds=>if imm d&&qF (ds.length+1)then .ok (.non,Z.set i (some (.lst (ds++[d]))))else .bad
  |none => .bad) Z
theorem qbt {i:Nat} {x:Str} {p1 apos:Pos} {f:M D} (he:DE X c e f) (ho:i∈c.O:=by exact of_decide_eq_true rfl) (hN:X.N[i]? = some x:=by rfl) (hv:Vis X.env.scope x:=by first|exact yaC rfl|exact yav (yaC rfl)|exact yav (yav rfl)) (hd:(x==("__debug__":Str))=false:=by decide) (hcd:(x==("__classdict__":Str))=false:=by decide)
  (hbase:yaI (.Name x p1) "append" X.env (eval (.Name x p1) X.env)=eval (.Name x p1) X.env:=by rfl)
  (hfew:((yaz pos (yac [e] X.env)).all (λx => !x.1)&&(ybD pos (ya4 [] X.env)).all (λx=>x.1.isSome)
   && decide ([e].length+([]:List ybm).length+(if([]:List ybm).isEmpty then 0 else 1)<30))=true:=by rfl)
  (hline:(apos.endLine==pos.line)=true:=by rfl) (hs:yac [e] X.env=(false,eval e X.env)::yac [] X.env:=by rfl) (hplain:(yaz pos (yac [] X.env)).any (·.1)=false:=by rfl) :
  DE X c (.Call (.Attribute (.Name x p1) "append" apos) [e] [] pos) (y8 i f):=by
 obtain⟨t,p,w⟩:=he
 refine⟨_,qgd ybn yce ycf uo (zq hN hv hd hcd) (zJ p yi hs) hbase hfew hline hs hplain,λZ σ H Q r h=>?_⟩
 unfold y8 at h
 cases e0:zZ i Z with
 |none=>rw[e0]at h;exact h.elim
 | some ds0=>
  simp only[e0]at h
  obtain⟨l,xs0,_,hl,hH,_⟩:=r.getLO ho e0
  refine⟨.ref l,hl,.inl ⟨rfl,xs0,.inl (.inl hH)⟩,w Z σ H _ r (Wp.bnd h λd Z1 v H1 r1 i1 g1 h1=>?_)⟩
  cases e1:zZ i Z1 with
  |none=>simp only[e1]at h1;exact h1.elim
  | some ds=>
   simp only[e1]at h1
   by_cases hb:(imm d&&qF (ds.length+1))=true
   ·rw [if_pos hb]at h1
    rw[yau]at hb
    obtain⟨l',xs,him,hl',hH',il⟩:=r1.getLO ho e1
    rw[hl]at hl'
    cases hl'
    have hsz:ds.length+1<=yao:=of_decide_eq_true hb.2
    have ext:Ext (Cn c σ) H1 (upd H1 l (.lst (xs++[v]))):=⟨λb us hb=>qP (zP hb hH' (by intro z;cases z)) hb,λb o u hb=>qP (zP hb hH' (by intro z;cases z)) hb,λb o hb hq=>qP (λe=>hb.2 i ho (by rw[hl,e])) hq⟩
    obtain ⟨r2,g2⟩:=r1.io (H':=upd H1 l (.lst (xs++[v]))) (bs:=ds++[d]) ho hl (λb o hb ho=>qP hb ho) qi trivial
     (IsL.append (IsL.ext ext (λ_ h _=>h) il) (IsL.one (Is.ext ext (λ_ h _=>h) i1))) (λb hb=>zA hb)
    exact⟨l,xs,v,rfl,rfl,hH',by rw[il.length];omega,h1 _ _ r2 rfl g2⟩
   ·rw[if_neg hb]at h1;exact h1.elim
def qgr (i:Nat) (k f:M D):MS:=sbnd f λd Z=>match zZ i Z with
 |none => .bad
 | some _=>(sbnd k λj Z=>match j,zZ i Z with
  |.int n,some ds=>match ixN ds.length n with
   |some q=>if imm d then .ok (.nx (Z.set i (some (.lst (ds.set q d)))))else .bad
   |none => .bad
  |_,_ => .bad) Z
theorem qik {i:Nat} {x:Str} {p1 p2:Pos} {ke:Expr} {f k:M D} (he:DE X c e f) (hk:DE X c ke k) (ho:i∈c.O:=by exact of_decide_eq_true rfl) (hN:X.N[i]? = some x:=by rfl) (hv:Vis X.env.scope x:=by first|exact yaC rfl|exact yav (yaC rfl)|exact yav (yav rfl)) (hd:(x==("__debug__":Str))=false:=by decide) (hcd:(x==("__classdict__":Str))=false:=by decide)
  (ha:∀v,ydj (.Subscript (.Name x p1) ke p2) X.env v=(do
   let ov <-ybP [v] (eval (.Name x p1) X.env)
   let iv <-ybP [v,ov] (eval ke X.env)
   ycM p2
   ybP [v,ov,iv] (setItem ov iv v)
   release [v,ov,iv] []):=by intro _;rfl)
  (hs:ycA [.Subscript (.Name x p1) ke p2] e pos.line X.env=pure false:=by rfl) (hw:ycB [.Subscript (.Name x p1) ke p2] e X.env=pure none:=by rfl) (h1:(ybh [.Subscript (.Name x p1) ke p2] X.env).map (·.2)=[ydj (.Subscript (.Name x p1) ke p2) X.env]:=by rfl) :
  DS X c (.Assign [.Subscript (.Name x p1) ke p2] e pos) (qgr i k f):=by
 obtain⟨t,p,w⟩:=he
 obtain⟨tk,pk,wk⟩:=hk
 refine⟨_,qgZ p (qjH (zq hN hv hd hcd) pk qgc ha) hs hw h1,λZ σ H D r h=>w Z σ H _ r (Wp.sbnd h λd Z1 v H1 r1 i1 g1 h1=>?_)⟩
 cases e0:zZ i Z1 with
 |none=>simp only[e0]at h1;exact h1.elim
 | some ds0=>
  simp only[e0]at h1
  obtain⟨l,xs0,_,hl,hH,_⟩:=r1.getLO ho e0
  refine⟨.ref l,hl,wk Z1 σ H1 _ r1 (Wp.sbnd h1 λj Z2 u H2 r2 i2 g2 h2=>?_)⟩
  cases j with
  | int n=>
   cases e1:zZ i Z2 with
   |none=>simp only[e1]at h2;exact h2.elim
   | some ds=>
    simp only[e1]at h2
    cases e2:ixN ds.length n with
    |none=>simp only[e2]at h2;exact h2.elim
    | some q=>
     simp only[e2]at h2
     by_cases hb:imm d=true
     ·rw [if_pos hb]at h2
      obtain⟨l',xs,him,hl',hH',il⟩:=r2.getLO ho e1
      rw[hl]at hl'
      cases hl'
      cases i2
      have i3:=g2.is i1
      have ext:Ext (Cn c σ) H2 (upd H2 l (.lst (xs.set q v))):=⟨λb us hb=>qP (zP hb hH' (by intro z;cases z)) hb,λb o u hb=>qP (zP hb hH' (by intro z;cases z)) hb,λb o hb hq=>qP (λe=>hb.2 i ho (by rw[hl,e])) hq⟩
      obtain ⟨r3,g3⟩:=r2.io (H':=upd H2 l (.lst (xs.set q v))) (bs:=ds.set q d) ho hl (λb o hb ho=>qP hb ho) qi trivial
       (IsL.set (Is.ext ext (λ_ h _=>h) i3) q (IsL.ext ext (λ_ h _=>h) il)) (λb hb=>zA hb)
      exact⟨l,xs,n,q,rfl,rfl,hH',by rw[il.length];exact e2,h2 σ _ r3 g3.s⟩
     ·rw[if_neg hb]at h2;exact h2.elim
  |_=>exact h2.elim
theorem qeL {p q:Tg×List V} (h:lab p=lab q):p=q:=by
 obtain⟨t,xs⟩:=p
 obtain⟨u,ys⟩:=q
 cases t<;>cases u<;>(first|(cases h;done)|(cases h;rfl))
theorem qeM {K:Fr0} {J:List Nat} {i:Nat} {p q:Tg×List V} {d:D} {ds es:List D} (h1:qds K J i p.1 d ds) (h2:qds K J i q.1 d es) (e:p=q):ds=es/\p=q:=by
 subst e
 refine⟨?_,rfl⟩
 obtain⟨t,xs⟩:=p
 cases t with
 |l=>
  have a1:d=.lst ds:=h1
  have a2:d=.lst es:=h2
  rw[a1]at a2;exact D.lst.inj a2
 |d C dx l=>
  have a1:d=.tup ds:=h1.1
  have a2:d=.tup es:=h2.1
  rw[a1]at a2;exact D.tup.inj a2
structure qeN (K:Fr0) (c:Fc) (Z:Env) (σ:St) (H:Hp) (a:Addr):Prop where
 val:∀i d v,Z[i]? = some (some d)->i ∉ c.O->σ[i]? = some (some v)->Is K (λb=>Cn c σ b/\b≠a) H d v
 cont:∀i d ds b (xs:Tg×List V),Z[i]? = some (some d)->i∈c.O->σ[i]? = some (some (.ref b))->qds K c.J i xs.1 d ds->H b=some (lab xs)->IsL K (Cn c σ) H ds xs.2->IsL K (λb=>Cn c σ b/\b≠a) H ds xs.2
 own:∀j∈c.O,σ[j]? ≠ some (some (.ref a))
 new:c.H0 a=none
theorem Is.fresh{K:Fr0}{A:Addr->Prop}{H:Hp}{d:D}{v:V}{a:Addr}(h:Is K A H d v)(hn:H a=none):Is K (λb=>A b/\b≠a) H d v:=Is.ext Ext.refl (λb h1 h2=>⟨h1,λe=>by rw[e,hn]at h2;cases h2⟩) h
theorem Rep.apart {K:Fr0} {Z:Env} {σ:St} {H:Hp} {a:Addr} {o:HO} (r:Rep K c Z σ H) (hn:H a=none):qeN K c Z σ (upd H a o) a where
 val:=λi d v h1 h2 h3=>by
  obtain⟨w,h4,h5⟩:=r.get h2 h1
  rw[h3]at h4
  cases h4
  exact Is.ext (Ext.of_same (qA hn _)) (λ_ h _=>h) (h5.fresh hn)
 cont:=λi d ds b xs h1 h2 h3 ht h4 _=>by
  obtain⟨ds',a',ys,e1,e2,e3,e4⟩:=r.getO h2 h1
  rw[h3]at e2
  cases e2
  have:=qA hn o _ _ e3
  rw[h4]at this
  obtain⟨z1,z2⟩:=qeM ht e1 (qeL (yax this))
  subst z1 z2
  exact IsL.ext (Ext.of_same (qA hn _)) (λb hb hs=>⟨hb,λe=>by rw[e,hn]at hs;cases hs⟩) e4
 own:=λj hj e=>(r.new hn).2 j hj e
 new:=r.dm a hn
theorem Rep.apart_same {K:Fr0} {Z:Env} {σ:St} {H H':Hp} {a:Addr} (r:Rep K c Z σ H) (hn:H a=none) (sm:jq H H'):qeN K c Z σ H' a where
 val:=λi d v h1 h2 h3=>by
  obtain⟨w,h4,h5⟩:=r.get h2 h1
  rw[h3]at h4
  cases h4
  exact Is.ext (Ext.of_same sm) (λ_ h _=>h) (h5.fresh hn)
 cont:=λi d ds b xs h1 h2 h3 ht h4 _=>by
  obtain⟨ds',a',ys,e1,e2,e3,e4⟩:=r.getO h2 h1
  rw[h3]at e2
  cases e2
  have:=sm _ _ e3
  rw[h4]at this
  obtain⟨z1,z2⟩:=qeM ht e1 (qeL (yax this))
  subst z1 z2
  exact IsL.ext (Ext.of_same sm) (λb hb hs=>⟨hb,λe=>by rw[e,hn]at hs;cases hs⟩) e4
 own:=λj hj e=>(r.new hn).2 j hj e
 new:=r.dm a hn
def WpN (K:Fr0) (c:Fc) (σ:St) (H:Hp) (Q:VK):R (List D×Env)->Prop
 |.ok (ds,Z)=>∀a xs H',H a=none->Rep K c Z σ H'->qeN K c Z σ H' a->H' a=some (.lst xs)->True->IsL K (λb=>Cn c σ b/\b≠a) H' ds xs->Gr c.O σ H H'->Q (.ref a) H'
 |.exc x Z=>∀H',Rep K c Z σ H'->Gr c.O σ H H'->c.E x H'
 |.bad=>False
def DN(X:Cx)(c:Fc)(e:Expr)(f:M (List D)):Prop:=∃t,PE X e t/\∀Z σ H Q,Rep X.K c Z σ H->WpN X.K c σ H Q (f Z)->t σ H Q
theorem WpN.gr {K:Fr0} {σ:St} {H H1:Hp} {Q:VK}:∀{r:R (List D×Env)},WpN K c σ H Q r->Gr c.O σ H H1->WpN K c σ H1 Q r
 |.ok (d,Z),h,g=>λa xs H' hn h1 h2 h3 h4 h5 hg=>h a xs H' (g.dom a hn) h1 h2 h3 h4 h5 (g.trans hg)
 |.exc x Z,h,g=>λH' hr hg=>h H' hr (g.trans hg)
 |.bad,h,_=>h
theorem WpL.bndN {K:Fr0} {σ:St} {H:Hp} {Q:VK} {f:M (List D)} {k:List D->M (List D)} {Z:Env} {Q':List V->Hp->Prop} (h:WpN K c σ H Q (Sk.bnd f k Z)) (hQ:∀d Z' v H',Rep K c Z' σ H'->IsL K (Cn c σ) H' d v->Gr c.O σ H H'->WpN K c σ H' Q (k d Z')->Q' v H'):WpL K c σ H Q' (f Z):=by
 unfold Sk.bnd at h
 cases e:f Z with
 |ok p=>rw[e]at h;exact λv H' hr hi hg=>hQ p.1 p.2 v H' hr hi hg (h.gr hg)
 |exc x Z'=>rw[e]at h;exact h
 |bad=>rw[e]at h;exact h
def qkl(f:M (List D)):M (List D):=bnd f λds=>lift (if immL ds&&qF ds.length then some ds else none)
theorem qhe {es:List Expr} {f:M (List D)} (h:DA X c es f):DN X c (.List es pos) (qkl f):=by
 obtain⟨t,p,w⟩:=h
 refine⟨_,qbe p,λZ σ H Q r h=>w Z σ H _ r (WpL.bndN h λds Z1 vs H1 r1 i1 g1 h1=>?_)⟩
 by_cases hb:(immL ds&&qF ds.length)=true
 ·rw[if_pos hb]at h1
  rw[yau]at hb
  refine⟨by rw[i1.length];exact of_decide_eq_true hb.2,λp hp=>?_⟩
  exact h1 p vs _ hp (r1.laid hp _) (r1.apart hp) qi trivial (IsL.ext (Ext.of_same (qA hp _)) (λb h hs=>⟨h,λe=>by rw[e,hp]at hs;cases hs⟩) i1) (.of_same (qA hp _))
 ·rw[if_neg hb]at h1;exact h1.elim
theorem Cl.setO {O:List Nat} {σ:St} {i:Nat} {a b:Addr} (h:Cl O σ b) (hb:b≠a):Cl O (σ.set i (some (.ref a))) b:=λj hj e=>by
 by_cases hji:j=i
 ·subst hji
  have hl:j<σ.length:=by
   have:=(gI_.mp e).1
   rwa [lS_]at this
  rw[List.getElem?_set_self hl]at e
  cases e
  exact hb rfl
 ·rw[zy hji]at e
  exact h j hj e
theorem Rep.setOT {K:Fr0} {Z:Env} {σ:St} {H:Hp} {i:Nat} {a:Addr} {d0:D} {ds:List D} {xs:Tg×List V} (r:Rep K c Z σ H) (hi:i∈c.O) (hP:i ∉ c.P) (ap:qeN K c Z σ H a) (ha:H a=some (lab xs)) (him:qds K c.J i xs.1 d0 ds) (il:IsL K (λb=>Cn c σ b/\b≠a) H ds xs.2) :
  Rep K c (Z.set i (some d0)) (σ.set i (some (.ref a))) H where
 len:=by rw[lS_,lS_];exact r.len
 val := λj e hj=>by
  by_cases e1:j=i
  ·subst e1
   have hl:j<Z.length:=by
    have:=(gI_.mp hj).1
    rwa [lS_]at this
   rw[List.getElem?_set_self hl]at hj
   cases hj
   exact⟨.ref a,List.getElem?_set_self (by rw[<-r.len];exact hl),.inl ⟨hi,ds,a,xs,him,rfl,ha,IsL.ext Ext.refl (λb hb _=>⟨hb.1.1,hb.1.2.setO hb.2⟩) il⟩⟩
  ·rw [zy e1]at hj
   obtain⟨w,h1,h2⟩:=r.val j e hj
   refine⟨w,by rw[zy e1];exact h1,?_⟩
   rcases h2 with⟨g1,ds',b',xs',g3,g5,g6,g7⟩|⟨h3,h4⟩
   ·subst g5
    exact .inl ⟨g1,ds',b',xs',g3,rfl,g6,IsL.ext Ext.refl (λb hb _=>⟨hb.1.1,hb.1.2.setO hb.2⟩) (ap.cont j e ds' b' xs' hj g1 h1 g3 g6 g7)⟩
   ·exact .inr ⟨h3,Is.ext Ext.refl (λb hb _=>⟨hb.1.1,hb.1.2.setO hb.2⟩) (ap.val j e w hj h3 h1)⟩
 own := λj hj w h=>by
  by_cases e1:j=i
  ·subst e1
   have hl:j<σ.length:=by
    have:=(gI_.mp h).1
    rwa [lS_]at this
   rw[List.getElem?_set_self hl]at h
   cases h
   exact⟨a,xs,rfl,ha,.inl ap.new⟩
  ·rw[zy e1]at h
   exact r.own j hj w h
 inj := λj k b hj hk h1 h2=>by
  by_cases e1:j=i
  ·by_cases e2:k=i
   ·rw[e1,e2]
   ·subst e1
    have hl:j<σ.length:=by
     have:=(gI_.mp h1).1
     rwa [lS_]at this
    rw[List.getElem?_set_self hl]at h1
    cases h1
    rw[zy e2]at h2
    exact absurd h2 (ap.own k hk)
  ·by_cases e2:k=i
   ·subst e2
    have hl:k<σ.length:=by
     have:=(gI_.mp h2).1
     rwa [lS_]at this
    rw[List.getElem?_set_self hl]at h2
    cases h2
    rw[zy e1]at h1
    exact absurd h1 (ap.own j hj)
   ·rw[zy e1]at h1
    rw[zy e2]at h2
    exact r.inj j k b hj hk h1 h2
 b0:=r.b0
 kp:=r.kp
 dm:=r.dm
 pO:=r.pO
 ps:=λj hj=>by
  have e:j≠i:=λe=>hP (e▸hj)
  rw[zy e];exact r.ps j hj
theorem Rep.setO {K:Fr0} {Z:Env} {σ:St} {H:Hp} {i:Nat} {a:Addr} {ds:List D} {xs:List V} (r:Rep K c Z σ H) (hi:i∈c.O) (hP:i ∉ c.P) (ap:qeN K c Z σ H a) (ha:H a=some (.lst xs)) (him:True) (il:IsL K (λb=>Cn c σ b/\b≠a) H ds xs) :
  Rep K c (Z.set i (some (.lst ds))) (σ.set i (some (.ref a))) H:=r.setOT (xs:=(.l,xs)) hi hP ap ha rfl il
def u7(i:Nat)(f:M (List D)):MS:=sbnd f λds Z => .ok (.nx (Z.set i (some (.lst ds))))
theorem qaJ {i:Nat} {x:Str} {pos':Pos} {f:M (List D)} (hN:X.N.Nodup) (he:DN X c e f) (ho:i∈c.O:=by exact of_decide_eq_true rfl) (hP:i ∉ c.P:=by exact of_decide_eq_false rfl) (hi:X.N[i]? = some x:=by rfl) (hx:Loc X.env.scope x:=by first|exact yaC rfl|exact yav rfl) (hs:ybe e (some (.Name x pos')) pos.line X.env=pure false:=by rfl) (hf:X.fn x=true\/X.env.scope.names.lookup x=some .local:=by first|exact .inl rfl|exact .inr rfl|assumption) :
  DS X c (.Assign [.Name x pos'] e pos) (u7 i f):=by
 obtain⟨t,p,w⟩:=he
 refine⟨_,qcu hN hi hx p hs hf,λZ σ H D r h=>w Z σ H _ r ?_⟩
 unfold u7 sbnd at h
 cases ef:f Z with
 |bad=>rw[ef]at h;exact h
 |exc z Z'=>rw[ef]at h;exact λH' hr hg=>h σ H' hr hg.s
 |ok q=>
  rw[ef]at h
  intro a xs H' hn r' ap ha him il g'
  exact h _ H' (r'.setO ho hP ap ha him il) ⟨g'.ext,λb hb hs=>hb.setO (λe=>by rw[e,hn]at hs;exact absurd hs (by simp)),g'.dom⟩
def w6 (i:Nat):M D:=λZ=>match zZ i Z with
 |some ds => .ok (.int ds.length,Z)
 |none => .bad
theorem qil {i:Nat} {x:Str} {p p1:Pos} (hg:Gl X "len") (hm:X.mg "len"=none) (ho:i∈c.O:=by exact of_decide_eq_true rfl) (hN:X.N[i]? = some x:=by rfl) (hv:Vis X.env.scope x:=by first|exact yaC rfl|exact yav (yaC rfl)|exact yav (yav rfl)) (hd:(x==("__debug__":Str))=false:=by decide) (hcd:(x==("__classdict__":Str))=false:=by decide) :
  DE X c (.Call (.Name "len" p) [.Name x p1] [] pos) (w6 i):=by
 refine⟨_,u4 zg hg hm PySem.boot_len (zJ (zq hN hv hd hcd) yi),λZ σ H Q r h=>?_⟩
 unfold w6 at h
 cases e0:zZ i Z with
 |none=>simp only[e0]at h;exact h.elim
 |some ds=>
  simp only[e0]at h
  obtain⟨l,xs,him,hl,hH,il⟩:=r.getLO ho e0
  exact⟨.ref l,hl,.inl ⟨l,xs,rfl,.inl (.inl (.inl hH)),by rw[il.length];exact h _ H r rfl .refl⟩⟩
def wH (i:Nat) (g:M D):M D:=λZ=>match zZ i Z with
 |none => .bad
 | some _=>(bnd g λk Z=>match k,zZ i Z with
  |.int n,some ds=>match atI ds n with
   |some d => .ok (d,Z)
   |none => .bad
  |_,_ => .bad) Z
theorem qcG {i:Nat} {x:Str} {p1:Pos} {g:M D} (hb:DE X c b g) (hs:qb0 b:=by intro _ _;rfl) (ho:i∈c.O:=by exact of_decide_eq_true rfl) (hN:X.N[i]? = some x:=by rfl) (hv:Vis X.env.scope x:=by first|exact yaC rfl|exact yav (yaC rfl)|exact yav (yav rfl)) (hd:(x==("__debug__":Str))=false:=by decide) (hcd:(x==("__classdict__":Str))=false:=by decide) :
  DE X c (.Subscript (.Name x p1) b pos) (wH i g):=by
 obtain⟨tb,pb,wb⟩:=hb
 refine⟨_,qjW qes (zq hN hv hd hcd) pb hs,λZ σ H Q r h=>?_⟩
 unfold wH at h
 cases e0:zZ i Z with
 |none=>simp only[e0]at h;exact h.elim
 | some ds0=>
  simp only[e0]at h
  obtain⟨l,xs0,_,hl,hH,_⟩:=r.getLO ho e0
  refine⟨.ref l,hl,wb Z σ H _ r (Wp.bnd h λk Z1 v H1 r1 i1 g1 h1=>?_)⟩
  cases k with
  | int n=>
   cases e1:zZ i Z1 with
   |none=>simp only[e1]at h1;exact h1.elim
   | some ds=>
    simp only[e1]at h1
    cases e2:atI ds n with
    |none=>simp only[e2]at h1;exact h1.elim
    |some d=>
     simp only[e2]at h1
     obtain⟨l',xs,him,hl',hH',il⟩:=r1.getLO ho e1
     rw[hl]at hl'
     cases hl'
     cases i1
     obtain⟨w,h3,h4⟩:=il.atI e2
     exact⟨l,xs,n,w,rfl,rfl,.inl (.inl hH'),h3,h1 w H1 r1 h4 .refl⟩
  |_=>exact h1.elim
end
def cfn (O P:List Nat) (A:Addr->Prop) (H:Hp) (Io:Addr->Prop) (E:Exn->Hp->Prop) (S:Nat->Option (Option V)):Fc where
 O:=O
 P:=P
 B:=λa=>A a\/H a=none
 H0:=H
 Io:=Io
 E:=E
 S:=S
def zB(n:Nat)(ds:List D):Env:=ds.map some++yan (n-ds.length) none
def spD (K:Fr0) (F:List D->R D):Sp:=λvs H Q _=>∃ds A,IsL K A H ds vs/\vV K H/\match F ds with
 |.ok d=>∀v H',jq H H'->Is K (λa=>A a\/H a=none) H' d v->Q v H'
 |_=>False
def qjo (K:Fr0) (F:List D->List D->R (D×List D)):Sp:=λvs H Q _=>∃(bs ds:List D)(A:Addr->Prop)(a:Addr)(xs vs':List V),vs=.ref a::vs'/\H a=some (.lst xs)/\vV K H/\IsL K A H bs xs/\¬A a/\IsL K A H ds vs'/\match F bs ds with
 |.ok (d,bs')=>∀v H' xs',(∀b o,b≠a->H b=some o->H' b=some o)->(∀b,H' b=none->H b=none)->H' a=some (.lst xs')->True->IsL K (λb=>A b\/H b=none) H' bs' xs'->Is K (λb=>A b\/H b=none) H' d v->Q v H'
 |_=>False
def dfn (n p:Nat) (body:MS) (ds:List D):R D:=if ds.length=p then match body (zB n ds) with
 |.ok (.rt d _) => .ok d
 |.ok (.nx _) => .ok .non
 |_ => .bad else .bad
def qca (n p:Nat) (body:MS) (bs ds:List D):R (D×List D):=if ds.length+1=p then match body (zB n (.lst bs::ds)) with
 |.ok (.rt d Z)=>match zZ 0 Z with
  |some bs' => .ok (d,bs')
  |none => .bad
 |.ok (.nx Z)=>match zZ 0 Z with
  |some bs' => .ok (.non,bs')
  |none => .bad
 |_ => .bad else .bad
theorem yQ {N:List Str} {vs:List V} {i:Nat} {v:V} (h:(qV N vs)[i]? = some (some v)):vs[i]? = some v:=by
 unfold qV at h
 by_cases hi:i<vs.length
 ·rw[List.getElem?_append_left (by simpa using hi),gM_]at h
  cases e:vs[i]? with
  |none=>rw[e]at h;cases h
  |some w=>rw[e]at h;cases h;rfl
 ·rw[List.getElem?_append_right (by simpa using hi),List.getElem?_replicate]at h
  split at h<;>cases h
theorem jr {N:List Str} {vs:List V} {i:Nat} {v:V} (h:vs[i]? = some v):(qV N vs)[i]? = some (some v):=by
 unfold qV
 have hi:i<vs.length:=(gI_.mp h).1
 rw[List.getElem?_append_left (by simpa using hi),gM_,h];rfl
theorem ut {n:Nat} {ds:List D} {i:Nat} {d:D} (h:(zB n ds)[i]? = some (some d)):ds[i]? = some d:=by
 unfold zB at h
 by_cases hi:i<ds.length
 ·rw[List.getElem?_append_left (by simpa using hi),gM_]at h
  cases e:ds[i]? with
  |none=>rw[e]at h;cases h
  |some w=>rw[e]at h;cases h;rfl
 ·rw[List.getElem?_append_right (by simpa using hi),List.getElem?_replicate]at h
  split at h<;>cases h
theorem u8 {K:Fr0} {N:List Str} {O:List Nat} {A:Addr->Prop} {H:Hp} {E:Exn->Hp->Prop} {ds:List D} {vs:List V} (il:IsL K A H ds vs) (tb:vV K H) (hO:∀i∈O,ds.length<=i) :
  Rep K (cfn O [] A H (λ_=>False) E λ_=>none) (zB N.length ds) (qV N vs) H where
 len:=by unfold zB qV;simp[il.length]
 val:=λi d h=>by
  have h1:=ut h
  obtain⟨v,h2,h3⟩:=il.get h1
  have hi:i ∉ O:=λz=>by
   have:=(gI_.mp h1).1
   have:=hO i z
   omega
  refine⟨v,jr h2,.inr ⟨hi,Is.ext Ext.refl (λa ha _=>⟨.inl ha,λj hj e=>?_⟩) h3⟩⟩
  have:=(gI_.mp (yQ e)).1
  have:=hO j hj
  rw[il.length]at *
  omega
 own:=λj hj v h=>by
  have:=(gI_.mp (yQ h)).1
  have:=hO j hj
  rw[il.length]at *
  omega
 inj:=λi j a hi hj h1 h2=>by
  have:=(gI_.mp (yQ h1)).1
  have:=hO i hi
  rw[il.length]at *
  omega
 b0:=⟨λa h => .inr h,tb⟩
 kp:=λb o h _=>h
 dm:=λb h=>h
 pO:=λj hj=>by cases hj
 ps:=λj hj=>by cases hj
section
variable{P:yag}{w:World}{K:yad}{mg:Str->Option Value}{base:Heap}
theorem js {x qual:Str} {st:Stmt} {f:Addr} {fd:yaH} {N ps:List Str} {k:Nat} {O:List Nat} {body:MS} (F:Fun K x qual st f fd) (S:qv N ps (qc st)) (hO:∀i∈O,ps.length<=i)
  (hb:∀(cdv:Value)(A:yal)(outer:List yaL)(s:yaa)(H:Hp)(E:XK)(B:Addr->Prop),jX k (A.deeper (yaU qual (qc st) s.heap.objs.size f cdv)) ->
   DSs (qcv CX0 P w K mg base N qual (qc st) f cdv A outer s H E).nox (cfn O [] B H (λ_=>False) (λ_ _=>False) λ_=>none) (qt st) body) :
  yz P w K mg base CX0 (k+1) f fd ps (spD K (dfn N.length ps.length body)):=by
 refine F.ok S (λvs H Q E h=>?_) (λcdv A outer s H vs Q E hr h=>?_)
 ·obtain⟨ds,B,il,_,h⟩:=h
  unfold dfn at h
  by_cases e:ds.length=ps.length
  ·rw[il.length];exact e
  ·rw[if_neg e]at h;exact h.elim
 ·obtain ⟨ds,B,il,tb,h⟩:=h
  obtain⟨t,p,wt⟩:=hb cdv A outer s H E B hr
  refine⟨t,p,?_⟩
  unfold dfn at h
  by_cases e:ds.length=ps.length
  ·rw [if_pos e]at h
   refine wt (zB N.length ds) (qV N vs) H _ (u8 il tb (λi hi=>by rw[e];exact hO i hi)) ?_
   have same:∀{Z:Env}{σ:St}{H':Hp},Rep K (cfn O [] B H (λ_=>False) (λ_ _=>False) λ_=>none) Z σ H'->jq H H':=λr b o hb=>r.kp b o hb λz=>z
   cases eb:body (zB N.length ds) with
   |bad=>rw[eb]at h;exact h.elim
   |exc z Z=>rw[eb]at h;exact h.elim
   |ok fl=>
    rw[eb]at h
    cases fl with
    |nx Z=>exact λσ' H' r' _=>h .non H' (same r') rfl
    |rt d Z=>exact λv σ' H' r' i' _=>h v H' (same r') i'
    |bk Z=>exact h.elim
    |ct Z=>exact h.elim
  ·rw[if_neg e]at h;exact h.elim
theorem ql6 {x qual:Str} {st:Stmt} {f:Addr} {fd:yaH} {N ps:List Str} {k:Nat} {O:List Nat} {body:MS} (F:Fun K x qual st f fd) (S:qv N ps (qc st)) (hO:∀i∈O,i=0\/ps.length<=i) (h0:0∈O)
  (hb:∀(cdv:Value)(A:yal)(outer:List yaL)(s:yaa)(H:Hp)(E:XK)(B Io:Addr->Prop)(S:Nat->Option (Option V)),jX k (A.deeper (yaU qual (qc st) s.heap.objs.size f cdv)) ->
   DSs (qcv CX0 P w K mg base N qual (qc st) f cdv A outer s H E).nox (cfn O [0] B H Io (λ_ _=>False) S) (qt st) body) :
  yz P w K mg base CX0 (k+1) f fd ps (qjo K (qca N.length ps.length body)):=by
 refine F.ok S (λvs H Q E h=>?_) (λcdv A outer s H vs Q E hr h=>?_)
 ·obtain⟨bs,ds,B,a,xs,vs',rfl,ha,him,ib,nA,il,h⟩:=h
  unfold qca at h
  by_cases e:ds.length+1=ps.length
  ·rw[lC_,il.length];exact e
  ·rw[if_neg e]at h;exact h.elim
 ·obtain ⟨bs,ds,B,a,xs,vs',rfl,ha,him,ib,nA,il,h⟩:=h
  obtain⟨t,p,wt⟩:=hb cdv A outer s H E B (λb=>b=a) (λj=>(qV N (.ref a::vs'))[j]?) hr
  refine⟨t,p,?_⟩
  unfold qca at h
  by_cases e:ds.length+1=ps.length
  ·rw [if_pos e]at h
   have only:∀j∈O,∀v,(qV N (.ref a::vs'))[j]? = some (some v)->j=0/\v=.ref a:=λj hj v hv=>by
    have h1:=yQ hv
    rcases hO j hj with z|z
    ·subst z;cases h1;exact⟨rfl,rfl⟩
    ·have:=(gI_.mp h1).1
     rw[lC_,il.length]at this
     omega
   have r0:Rep K (cfn O [0] B H (λb=>b=a) (λ_ _=>False) λj=>(qV N (.ref a::vs'))[j]?) (zB N.length (.lst bs::ds)) (qV N (.ref a::vs')) H:=by
    refine⟨by unfold zB qV;simp[il.length],λi d hd=>?_,λj hj v hv=>?_,λi j b hi hj h1 h2=>?_,⟨λb hb => .inr hb,λq P pos eP=>⟨(him q P pos eP).1,λz=>by have:=(him q P pos eP).1;rw[z,ha]at this;cases this⟩⟩,λb o hb _=>hb,λb hb=>hb,λj hj=>?_,λ_ _=>rfl⟩
    ·have h1:=ut hd
     cases i with
     |zero=>
      cases h1
      exact⟨.ref a,jr rfl,.inl ⟨h0,bs,a,(.l,xs),rfl,rfl,ha,IsL.ext Ext.refl (λb hb _=>⟨.inl hb,λj hj e2=>by obtain⟨_,e3⟩:=only j hj _ e2;cases e3;exact nA hb⟩) ib⟩⟩
     | succ i=>
      have h1':ds[i]? = some d:=by simpa using h1
      obtain⟨v,h2,h3⟩:=il.get h1'
      have hi:i+1 ∉ O:=λz=>by
       have h4:=(gI_.mp h1').1
       rcases hO _ z with q|q
       ·cases q
       ·omega
      refine⟨v,jr (by simpa using h2),.inr ⟨hi,Is.ext Ext.refl (λb hb _=>⟨.inl hb,λj hj e2=>?_⟩) h3⟩⟩
      obtain⟨_,e3⟩:=only j hj _ e2
      cases e3
      exact nA hb
    ·obtain⟨rfl,rfl⟩:=only j hj v hv
     exact⟨a,(.l,xs),rfl,ha,.inr ⟨by simp[cfn],rfl⟩⟩
    ·rw[(only i hi _ h1).1,(only j hj _ h2).1]
    ·have:j=0:=by simpa [cfn] using hj
     rw[this];exact h0
   refine wt _ _ H _ r0 ?_
   have fin:∀{Z:Env}{σ:St}{H':Hp}{bs':List D},Rep K (cfn O [0] B H (λb=>b=a) (λ_ _=>False) λj=>(qV N (.ref a::vs'))[j]?) Z σ H'->zZ 0 Z=some bs' ->
     ∃xs',H' a=some (.lst xs')/\True/\IsL K (λb=>B b\/H b=none) H' bs' xs':=λ{Z σ H' bs'} r e1=>by
    obtain⟨l,ys,h1,h2,h3,h4⟩:=r.getLO h0 e1
    have h5:=r.ps 0 (by simp[cfn])
    have h6:(cfn O [0] B H (λb=>b=a) (λ_ _=>False) λj=>(qV N (.ref a::vs'))[j]?).S 0=some (some (.ref a)):=jr rfl
    rw[h2,h6]at h5
    cases h5
    exact⟨ys,h3,h1,IsL.ext Ext.refl (λb hb _=>hb.1) h4⟩
   have kps:∀{Z:Env}{σ:St}{H':Hp},Rep K (cfn O [0] B H (λb=>b=a) (λ_ _=>False) λj=>(qV N (.ref a::vs'))[j]?) Z σ H'->∀b o,b≠a->H b=some o->H' b=some o:=λr b o hb ho=>r.kp b o ho hb
   cases eb:body (zB N.length (.lst bs::ds)) with
   |bad=>rw[eb]at h;exact h.elim
   |exc z Z=>rw[eb]at h;exact h.elim
   | ok fl=>
    rw[eb]at h
    cases fl with
    | nx Z=>
     cases eg:zZ 0 Z with
     |none=>simp only[eg]at h
     | some bs'=>
      simp only[eg]at h
      exact λσ' H' r' _=>by
       obtain⟨xs',h1,h2,h3⟩:=fin r' eg
       exact h .non H' xs' (kps r') (λb hb=>r'.dm b hb) h1 h2 h3 rfl
    | rt d Z=>
     cases eg:zZ 0 Z with
     |none=>simp only[eg]at h
     | some bs'=>
      simp only[eg]at h
      exact λv σ' H' r' i' _=>by
       obtain⟨xs',h1,h2,h3⟩:=fin r' eg
       exact h v H' xs' (kps r') (λb hb=>r'.dm b hb) h1 h2 h3 i'
    |bk Z=>exact h.elim
    |ct Z=>exact h.elim
  ·rw[if_neg e]at h;exact h.elim
end
section
variable{X:Cx}{c:Fc}{a b e:Expr}{pos:Pos}
def qu (F:List D->R D) (g:M (List D)):M D:=bnd g λds Z=>match F ds with
 |.ok d => .ok (d,Z)
 |_ => .bad
theorem qim {k:Nat} {f:Addr} {fd:yaH} {ps:List Str} {F:List D->R D} {x:Str} {p:Pos} {es:List Expr} {g:M (List D)} (G:yz X.prog X.w X.K X.mg X.base CX0 k f fd ps (spD X.K F)) (hr:jX k X.A) (hg:Gl X x) (hm:X.mg x=some (.ref f)) (hk:yai X.K (.ref f)=true) (hb:yy X.K fd ps [])
  (ha:DA X c (e::es) g) (hd:(x==("__debug__":Str))=false:=by decide) (he:yac (e::es) X.env=(false,eval e X.env)::yac es X.env:=by rfl) (hpl:(yaz pos (yac es X.env)).any (·.1)=false:=by rfl):DE X c (.Call (.Name x p) (e::es) [] pos) (qu F g):=by
 obtain⟨t,pa,w⟩:=ha
 refine⟨_,vm G hr hg hm hk hb .nil qev pa hd he hpl,λZ σ H Q r h=>w Z σ H _ r (WpL.bnd h λds Z1 vs H1 r1 i1 g1 h1=>?_)⟩
 rw[yaS]
 refine⟨ds,Cn c σ,i1,r1.tb,?_⟩
 cases ef:F ds with
 |bad=>simp only[ef]at h1;exact h1.elim
 |exc z Z'=>simp only[ef]at h1;exact h1.elim
 |ok d=>
  simp only[ef]at h1
  exact λv H' sm i=>h1 v H' (r1.same sm) (Is.ext Ext.refl (λa ha _=>ha.elim id r1.new) i) (.of_same sm)
def qo (F:List D->List D->R (D×List D)) (i:Nat) (g:M (List D)):M D:=λZ=>match zZ i Z with
 |none => .bad
 | some _=>(bnd g λds Z=>match zZ i Z with
  |none => .bad
  |some bs=>match F bs ds with
   |.ok (d,bs') => .ok (d,Z.set i (some (.lst bs')))
   |_ => .bad) Z
theorem qeO {k i:Nat} {f:Addr} {fd:yaH} {ps:List Str} {F:List D->List D->R (D×List D)} {x y:Str} {p p1:Pos} {es:List Expr} {g:M (List D)} (G:yz X.prog X.w X.K X.mg X.base CX0 k f fd ps (qjo X.K F)) (hr:jX k X.A) (hg:Gl X x) (hm:X.mg x=some (.ref f)) (hk:yai X.K (.ref f)=true) (hb:yy X.K fd ps [])
  (ha:DA X c es g) (ho:i∈c.O:=by exact of_decide_eq_true rfl) (hN:X.N[i]? = some y:=by rfl) (hv:Vis X.env.scope y:=by first|exact yaC rfl|exact yav (yaC rfl)|exact yav (yav rfl)) (hdy:(y==("__debug__":Str))=false:=by decide) (hcd:(y==("__classdict__":Str))=false:=by decide)
  (hd:(x==("__debug__":Str))=false:=by decide) (he:yac (.Name y p1::es) X.env=(false,eval (.Name y p1) X.env)::yac es X.env:=by rfl) (hpl:(yaz pos (yac es X.env)).any (·.1)=false:=by rfl):DE X c (.Call (.Name x p) (.Name y p1::es) [] pos) (qo F i g):=by
 obtain⟨t,pa,w⟩:=ha
 refine⟨_,vm G hr hg hm hk hb .nil qev (zJ (zq hN hv hdy hcd) pa he) hd he hpl,λZ σ H Q r h=>?_⟩
 unfold qo at h
 cases e0:zZ i Z with
 |none=>simp only[e0]at h;exact h.elim
 | some ds0=>
  simp only[e0]at h
  obtain⟨l,xs0,_,hl,hH,_⟩:=r.getLO ho e0
  refine⟨.ref l,hl,w Z σ H _ r (WpL.bnd h λds Z1 vs H1 r1 i1 g1 h1=>?_)⟩
  show qjo X.K F (.ref l::vs++[]) H1 Q E0
  rw[yaS]
  cases e1:zZ i Z1 with
  |none=>simp only[e1]at h1;exact h1.elim
  | some bs=>
   simp only[e1]at h1
   obtain⟨l',xs,him,hl',hH',il⟩:=r1.getLO ho e1
   rw[hl]at hl'
   cases hl'
   refine⟨bs,ds,Cn c σ,l,xs,vs,rfl,hH',r1.tb,il,λhc=>hc.2 i ho hl,i1,?_⟩
   cases ef:F bs ds with
   |bad=>simp only[ef]at h1;exact h1.elim
   |exc z Z'=>simp only[ef]at h1;exact h1.elim
   |ok q=>
    obtain⟨d,bs'⟩:=q
    simp only[ef]at h1
    intro v H' xs' kp dm ha2 him2 il2 i2
    obtain⟨r2,g2⟩:=r1.io (bs:=bs') ho hl kp ha2 him2 (IsL.ext Ext.refl (λa ha _=>ha.elim id r1.new) il2) dm
    exact h1 v H' r2 (Is.ext Ext.refl (λa ha _=>ha.elim id r1.new) i2) g2
end
def qgs:Key->PyData
 |.inl i => .int i
 |.inr x => .str x
mutual
def yX:D->PyData
 |.non => .none
 |.bl b => .bool b
 |.int i => .int i
 |.str x => .str x
 |.tup ds => .tuple (toPDs ds)
 |.lst ds => .list (toPDs ds)
 |.dic kvs => .dict (kvs.map λp=>(qgs p.1,.int p.2))
 |.fz ns => .list (ns.map .int)
 |.exc _ => .dict [(.int (2 ^ 2000),.none)]
def toPDs:List D->List PyData
 | []=>[]
 |d::ds=>yX d::toPDs ds
end
mutual
def noL:D->Bool
 |.tup ds=>noLs ds
 |.lst _=>false
 |.fz _=>false
 |_=>true
def noLs:List D->Bool
 | []=>true
 |d::ds=>noL d&&noLs ds
end
mutual
def noX:D->Bool
 |.tup ds=>noXs ds
 |.lst ds=>noXs ds
 |.exc _=>false
 |_=>true
def noXs:List D->Bool
 | []=>true
 |d::ds=>noX d&&noXs ds
end
mutual
theorem qeP:∀{d:D},(yX d).canLay0=true->noX d=true
 |.non,_=>rfl
 |.bl _,_=>rfl
 |.int _,_=>rfl
 |.str _,_=>rfl
 |.tup ds,h=>by unfold noX;exact noXs_lay (by simpa [yX,ya6] using h)
 |.lst ds,h=>by unfold noX;exact noXs_lay (by simpa [yX,ya6] using h)
 |.dic _,_=>rfl
 |.fz _,_=>rfl
 |.exc _,h=>by simp[yX,ya6]at h
theorem noXs_lay:∀{ds:List D},yba (toPDs ds)=true->noXs ds=true
 | [],_=>rfl
 |d::ds,h=>by
  have h':(yX d).canLay0=true/\yba (toPDs ds)=true:=by simpa [toPDs,yba] using h
  unfold noXs
  rw[qeP h'.1,noXs_lay h'.2];rfl
end
theorem u9 {h:Heap}:∀{ns:List Int}{us:List Value},ze (ns.map V.int) us->∃as,yft h us (ns.map .int) as
 | [],us,r=>by
  rw[yc3]at r;cases r;exact⟨[],.nil⟩
 | n::ns,us,r=>by
  rw[mC_]at r
  cases r with
  |cons r1 r2=>
   obtain⟨t,e⟩:=r1
   subst e
   obtain⟨as,q⟩:=u9 (ns:=ns) r2
   exact⟨[]++as,.cons (.int n t) q⟩
theorem qcb{α:Type}{x:α}{l l':List α}(h1:x ∉ l)(h2:x ∉ l'):x ∉ l++l':=λh=>(mA_.mp h).elim h1 h2
theorem wJ {P:yag} {w:World} {h:Heap}:∀{kvs:List (Key×Int)}{es:List ydn}{vs:List (Key×Value)},KV (kvs.map λp=>(p.1,V.int p.2)) vs->Pairs (qax P w) es vs ->
  yft h (es.map (·.key)) ((kvs.map λp=>(qgs p.1,PyData.int p.2)).map (·.1)) []/\yft h (es.map (·.val)) ((kvs.map λp=>(qgs p.1,PyData.int p.2)).map (·.2)) []
 | [],es,vs,r,p=>by
  have r':KV ([]:List (Key×V)) vs:=r
  unfold KV at r'
  cases r'
  cases p
  exact⟨.nil,.nil⟩
 | (k,i)::kvs,es,vs,r,p=>by
  have r':KV ((k,V.int i)::kvs.map λp=>(p.1,V.int p.2)) vs:=r
  unfold KV at r'
  cases r' with
  | cons r1 r2=>
   cases p with
   | cons p1 p2 p3=>
    obtain⟨q1,q2⟩:=wJ (h:=h) (kvs:=kvs) r2 p3
    obtain⟨e1,t,e2⟩:=r1
    have hk:∀{e:ydn}{kv:Key×Value},k=kv.1->(qax P w).is kv.1 e.key=true->Reads h e.key (qgs k) []:=λ{e kv} hk hi=>by
     subst hk
     rcases zl hi with⟨i,t,e1,e2⟩|⟨x,t,e1,e2⟩
     ·rw[e1,e2];exact .int i t
     ·rw[e1,e2];exact .str x t
    refine⟨.cons (as:=[]) (bs:=[]) (hk e1 p1) q1,.cons (as:=[]) (bs:=[]) ?_ q2⟩
    show Reads h _ (.int i) []
    dsimp only
    rw[p2,e2]
    exact .int i t
section
variable{X:Cx}{pins:List (Addr×Obj)}{σ:St}{H:Hp}{s:yaa}{A:Addr->Prop}
mutual
theorem y9 (I:Inv X pins σ H s):∀{d:D}{v:V}{u:Value},noX d=true->Is X.K A H d v->jp v u->∃as,Reads s.heap u (yX d) as/\(noL d=true->ybZ ∉ as)
 |.non,_,_,_,h,r=>by cases h;cases r;exact⟨[],.none,by simp⟩
 |.bl b,_,_,_,h,r=>by cases h;cases r;exact⟨[],.bool b,by simp⟩
 |.int i,_,_,_,h,r=>by cases h;obtain⟨t,rfl⟩:=r;exact⟨[],.int i t,by simp⟩
 |.str x,_,_,_,h,r=>by cases h;obtain⟨t,rfl⟩:=r;exact⟨[],.str x t,by simp⟩
 |.tup ds,_,_,nx,⟨a,xs,hv,ta,il⟩,r=>by
  subst hv
  cases r
  obtain⟨its,rv,p,_⟩:=I.tuple ta.sq
  obtain⟨o,h1,h2,n,h3⟩:=p
  obtain⟨as,q,nl⟩:=readsL_of I (by simpa [noX] using nx) il rv
  exact⟨as,.tuple h1 h2 h3 (by simpa using q),λz=>nl (by simpa [noL] using z)⟩
 |.lst ds,_,_,nx,⟨a,xs,hv,_,ta,il⟩,r=>by
  subst hv
  cases r
  obtain⟨its,rv,p,_⟩:=I.list (SqL.of ta)
  obtain⟨o,h1,h2,n,h3⟩:=p.isList
  obtain⟨as,q,nl⟩:=readsL_of I (by simpa [noX] using nx) il rv
  exact⟨a::as,.list h1 h2 h3 (by simpa using q),λz=>by simp[noL]at z⟩
 |.dic kvs,_,_,_,⟨a,hv,_,ta⟩,r=>by
  subst hv
  cases r
  obtain⟨hz,hS,vs,rk,o,es,ep,h1,h2,h3,h4,h5,h6⟩:=(show jO X.prog X.w H s.heap a (.dK _)from I.hok a _ ta)
  obtain⟨q1,q2⟩:=wJ (h:=s.heap) rk h5
  refine⟨_,Reads.dict (as:=[]) (bs:=[]) h1 h2.1 h3 q1 q2,λ_ hm=>?_⟩
  have:ybZ=a:=by simpa using hm
  rw[<-this]at hS
  simp at hS
 |.exc _,_,_,nx,_,_=>by simp[noX]at nx
 |.fz ns,_,_,_,⟨a,hv,ta⟩,r=>by
  subst hv
  cases r
  obtain⟨its,rv,p,_⟩:=I.list ta.sq
  obtain⟨o,h1,h2,n,h3⟩:=p.isList
  obtain⟨as,q⟩:=u9 rv
  exact⟨a::as,.list h1 h2 h3 (by simpa using q),λz=>by simp[noL]at z⟩
theorem readsL_of (I:Inv X pins σ H s):∀{ds:List D}{xs:List V}{us:List Value},noXs ds=true->IsL X.K A H ds xs->ze xs us->∃as,yft s.heap us (toPDs ds) as/\(noLs ds=true->ybZ ∉ as)
 | [],_,_,_,h,r=>by cases h;cases r;exact⟨[],.nil,by simp⟩
 | d :: ds,_,_,nx,⟨x,ys,hx,h1,h2⟩,r=>by
  subst hx
  cases r with
  | cons r1 r2=>
   have nx':noX d=true/\noXs ds=true:=by simpa [noXs] using nx
   obtain⟨as,q1,n1⟩:=y9 I nx'.1 h1 r1
   obtain⟨bs,q2,n2⟩:=readsL_of I nx'.2 h2 r2
   exact ⟨as++bs,.cons q1 q2,λz=>by
    have z':noL d=true/\noLs ds=true:=by simpa [noLs] using z
    exact qcb (n1 z'.1) (n2 z'.2)⟩
end
end
def qbb(d:D):Bool:=(yX d).canLay0&&decide ((yX d).depth<=50)
def qfW(K:Fr0)(neg:Bool):R2:=λx y H Q=>∃d e A,Is K A H d x/\Is K A H e y/\qbb d=true/\qbb e=true/\Q (.bl (if neg then !ycn (yX d) (yX e)else ycn (yX d) (yX e))) H
section
variable{X:Cx}
theorem vt {d:D} (h:qbb d=true):SeqAt.shaped (yX d)=true:=by
 unfold qbb at h
 unfold SeqAt.shaped
 simp only[yau,decide_eq_true_eq]at h |-
 exact⟨h.1,by omega⟩
theorem qak {d:D} (h:qbb d=true):noX d=true:=by
 unfold qbb at h
 rw[yau]at h
 exact qeP h.1
theorem qhf {k:Nat} (hr:jX k X.A):OpR X (yaV .Eq) (qfW X.K false):=by
 intro pins s σ H x y v u Q I rx ry h
 obtain⟨d,e,A,h1,h2,o1,o2,q⟩:=h
 obtain⟨as,r1,_⟩:=y9 I (qak o1) h1 rx
 obtain⟨bs,r2,_⟩:=y9 I (qak o2) h2 ry
 exact yeg r1 r2 (vt o1) (vt o2) hr.units ⟨.bl _,H,I,rfl,by simpa using q⟩
theorem qkm {k:Nat} (hr:jX k X.A):OpR X (yaV .NotEq) (qfW X.K true):=by
 intro pins s σ H x y v u Q I rx ry h
 obtain⟨d,e,A,h1,h2,o1,o2,q⟩:=h
 obtain⟨as,r1,_⟩:=y9 I (qak o1) h1 rx
 obtain⟨bs,r2,_⟩:=y9 I (qak o2) h2 ry
 exact SeqAt.compareNe_shaped r1 r2 (vt o1) (vt o2) hr.units ⟨.bl _,H,I,rfl,by simpa using q⟩
end
def eqA(x y:D):OD:=if qbb x&&qbb y then some (.bl (ycn (yX x) (yX y)))else none
def neA(x y:D):OD:=if qbb x&&qbb y then some (.bl (!ycn (yX x) (yX y)))else none
theorem qin {K:Fr0}:OpS K eqA (qfW K false):=by
 intro A H x y d v u Q hn ix iy e k
 obtain⟨e1,e2⟩:=z8 e
 rw[yau]at e1
 subst e2
 exact⟨x,y,A,ix,iy,e1.1,e1.2,k _ H (jq.refl H) rfl⟩
theorem qio {K:Fr0}:OpS K neA (qfW K true):=by
 intro A H x y d v u Q hn ix iy e k
 obtain⟨e1,e2⟩:=z8 e
 rw[yau]at e1
 subst e2
 exact⟨x,y,A,ix,iy,e1.1,e1.2,k _ H (jq.refl H) rfl⟩
section
variable{prog:yag}{w:World}{A:yal}{E:Value->yaa->Prop}{s:yaa}
theorem qip {it tu:Addr} {k:Nat} {arr:Array Value} {x:Value} {Q:Value->yaa->Prop} (hI:s.heap.IsTupleIter it tu k) (hT:s.heap.IsTuple tu arr) (hx:arr[k]? = some x)
  (q:∀h',h'.IsTupleIter it tu (k+1)->ybt it s.heap h'->Q x {s with heap:=h' }):wpAny (model prog w) A (yaO (.ref it)) Q E s:=by
 obtain⟨ob,e1,e2,e3⟩:=id hI
 obtain⟨ot,f1,_,m,f2⟩:=hT
 unfold yaO
 refine yab (wpAny_callSpecial?_slot (name:=ybi "__next__") hI.typeIs ybE (ya2 ybE hI.typeIs ydo ?_ (ydg _)))
 show wpAny (model prog w) _ (field (yaf it) 0 >>= _) _ _ s
 refine yab (yaJ e1 e3 (x:=yaf tu) rfl ?_)
 show wpAny (model prog w) _ (if(yaf tu==yaB)=true then _ else _) _ _ s
 rw[if_neg (show ¬((yaf tu==yaB)=true)from yar)]
 show wpAny (model prog w) _ (field (yaf it) 1 >>= _) _ _ s
 refine yab (yaJ e1 e3 (x:=ydi k 0) rfl ?_)
 show wpAny (model prog w) _ (seqItems? (yaf tu) >>= _) _ _ s
 refine yab (ybr f1 f2 ?_)
 simp only[ycq,hx]
 refine yab (ybY e1 e3 (by simp) (yam ⟨x,rfl,yam (q _ ?_ (yeN ..))⟩))
 exact⟨_,Heap.get?_update_self _ e1 (ycQ (ybw e3 _)),(yfi ..).trans e2,by rw[ybw e3];simp[ybK]⟩
theorem qiq {it tu:Addr} {k:Nat} {arr:Array Value} {Q:Value->yaa->Prop} (hh:A.handled=none) (hI:s.heap.IsTupleIter it tu k) (hT:s.heap.IsTuple tu arr) (hx:arr[k]? = none)
  (q:∀h' e,Heap.ExtBut it s.heap h'->(∃o,h'.get? e=some o/\o.cls=.type "StopIteration")->E (.ref e) {s with heap:=h' }):wpAny (model prog w) A (yaO (.ref it)) Q E s:=by
 obtain⟨ob,e1,e2,e3⟩:=id hI
 obtain⟨ot,f1,_,m,f2⟩:=hT
 unfold yaO
 refine yab (wpAny_callSpecial?_slot (name:=ybi "__next__") hI.typeIs ybE (ya2 ybE hI.typeIs ydo ?_ (ydg _)))
 show wpAny (model prog w) _ (field (yaf it) 0 >>= _) _ _ s
 refine yab (yaJ e1 e3 (x:=yaf tu) rfl ?_)
 show wpAny (model prog w) _ (if(yaf tu==yaB)=true then _ else _) _ _ s
 rw[if_neg (show ¬((yaf tu==yaB)=true)from yar)]
 show wpAny (model prog w) _ (field (yaf it) 1 >>= _) _ _ s
 refine yab (yaJ e1 e3 (x:=ydi k 0) rfl ?_)
 show wpAny (model prog w) _ (seqItems? (yaf tu) >>= _) _ _ s
 refine yab (ybr f1 f2 ?_)
 simp only[ycq,hx]
 refine yab (ycV (yab (ybY e1 e3 (by simp) ?_)))
 show wpAny (model prog w) _ (newExc (ya1 "StopIteration") [] >>= _) _ _ _
 refine yab ?_
 simp only[newExc,newTuple]
 refine yab (yaM ?_ (by size_fits))
 refine yab (m:=ydh _ _) (wpAny_of_eq (a:=yaB) (by first|rfl|(simp only[ydh];rfl)) ?_)
 refine yaM ?_ (by size_fits)
 simp only[raiseNew]
 refine yab (wpAny_handled ?_)
 first|rw[show A.in1.handled=none from hh]|rw[hh]
 exact yab (yam (wpAny_throw (q _ _ (((yeN ..).extBut.push _).push _) ⟨_,Heap.get?_push_size _ rfl,rfl⟩)))
end
theorem uF {prog:yag} {w:World} {A:yal} (hh:A.handled=none) (it tu:Addr) (hne:tu≠it) (arr:Array Value) :
  Draws prog w A it [it,tu] arr.size (λi x=>arr[i]? = some x) (λi h=>h.IsTupleIter it tu i/\h.IsTuple tu arr) where
 live:=λi h st=>by obtain⟨⟨o,e,_⟩,_⟩:=st;exact⟨o,e⟩
 frame:=λi h h' st k=>by
  obtain⟨h1,o,e,r⟩:=st
  exact⟨h1.at λo q=>k it (by simp) o q,o,k tu (by simp) o e,r⟩
 item:=λi s Q E hi st q=>qip st.1 st.2 (Array.getElem?_eq_getElem hi) λh' h1 sb=>q _ h' s.toks (Array.getElem?_eq_getElem hi) ⟨h1,by
  obtain⟨o,e,r⟩:=st.2
  exact⟨o,sb.extBut _ _ hne e,r⟩⟩ sb
 done:=λs Q E st q=>qiq hh st.1 st.2 (Array.getElem?_eq_none (yak _)) q
structure ZAp (z TI TO i1 i2:Addr) (fp1 fp2:List Addr):Prop where
 zTI:z≠TI
 zTO:z≠TO
 zi1:z≠i1
 zi2:z≠i2
 IO:TI≠TO
 Ii1:TI≠i1
 Ii2:TI≠i2
 Oi1:TO≠i1
 Oi2:TO≠i2
 ii:i1≠i2
 z1:z ∉ fp1
 z2:z ∉ fp2
 O1:TO ∉ fp1
 O2:TO ∉ fp2
 i21:i2 ∉ fp1
 i12:i1 ∉ fp2
section
variable{prog:yag}{w:World}{A:yal}{E:Value->yaa->Prop}{s:yaa}{z TI TO i1 i2:Addr}{fp1 fp2:List Addr}{n1 n2 k:Nat}{P1 P2:Nat->Value->Prop}{S1 S2:Nat->Heap->Prop}
theorem jZ{fp:List Addr}{a:Addr}{h h':Heap}(sb:ybt a h h')(ha:a ∉ fp):∀b∈fp,∀o,h.get? b=some o->h'.get? b=some o:=λb hb o e=>sb.extBut _ _ (λq=>ha (q▸hb)) e
theorem qhg (D1:Draws prog w A i1 fp1 n1 P1 S1) (D2:Draws prog w A i2 fp2 n2 P2 S2) (ap:ZAp z TI TO i1 i2 fp1 fp2) {p q:Value} (zz:IsZip s.heap z TI TO .none) (zI:ybx s.heap TI (.ref i1) (.ref i2)) (zO:ybx s.heap TO p q)
  (t1:S1 k s.heap) (t2:S2 k s.heap) (l1:k<n1) (l2:k<n2) {Q:Value->yaa->Prop}
  (fin:∀x y h' tk,P1 k x->P2 k y->IsZip h' z TI TO (ybK s.heap.objs.size)->ybx h' TO x y->S1 (k+1) h'->S2 (k+1) h'->ybx h' s.heap.objs.size x y ->
   (∀c o,c≠z->c≠TO->c≠i1->c≠i2->s.heap.get? c=some o->h'.get? c=some o)->Q (.ref s.heap.objs.size) {s with heap:=h',toks:=tk}) :
  wpAny (model prog w) A (ydP.«zip.__next__» ⟨[.ref z],[]⟩) (λr s'=>∃v,r=.done (.ret v)/\Q v s') E s:=by
 show wpAny (model prog w) A (field (yaf z) 2 >>= _) _ _ _
 refine yab (yaJ zz rfl (x:=ybR false) rfl ?_)
 show wpAny (model prog w) A (field (yaf z) 3 >>= _) _ _ _
 refine yab (yaJ zz rfl (x:=yaf TI) rfl (yab (ybr zI rfl ?_)))
 show wpAny (model prog w) A (ya7 (yaf z) >>= _) _ _ _
 refine yab ?_
 unfold ya7
 refine yab (yaJ zz rfl (x:=yaB) rfl (yam ?_))
 simp only[if_true]
 refine yab (ycV (yab (yaJ zz rfl (x:=yaf TO) rfl (yab (yby zz (by simp) λh1 zz1 b1=>?_)))))
 replace zz1:IsZip h1 z TI TO .ellipsis:=zz1
 refine yab ?_
 simp only[List.zipIdx_cons,List.zipIdx_nil,yea,List.forIn_nil]
 refine yab (yab (ycE ?_))
 show wpAny (model prog w) A (yaO (yaf i1) >>= _) _ _ _
 refine yab (D1.item k _ _ _ l1 (D1.frame _ _ _ t1 (jZ b1 ap.z1)) λx h2 tk2 px u1 b2=>yam ?_)
 have zO2:ybx h2 TO p q:=b2.extBut _ _ ap.Oi1 (b1.extBut _ _ ap.zTO.symm zO)
 refine yab (ybr zO2 rfl (yab (yc6 zO2 λh3 zO3 b3=>?_)))
 replace zO3:ybx h3 TO x q:=zO3
 refine yab (yfp (yam (yab (yab (ycE ?_)))))
 show wpAny (model prog w) A (yaO (yaf i2) >>= _) _ _ _
 have t2':S2 k h3:=D2.frame _ _ _ (D2.frame _ _ _ (D2.frame _ _ _ t2 (jZ b1 ap.z2)) (jZ b2 ap.i12)) (jZ b3 ap.O2)
 refine yab (D2.item k _ _ _ l2 t2' λy h4 tk4 py u2 b4=>yam ?_)
 have zO4:ybx h4 TO x q:=b4.extBut _ _ ap.Oi2 zO3
 refine yab (ybr zO4 rfl (yab (yc6 zO4 λh5 zO5 b5=>?_)))
 replace zO5:ybx h5 TO x y:=zO5
 refine yab (yfp (yam (yam (yab (ybr zO5 rfl (yab (wpAny_newTuple ?_)))))))
 have sz:h5.objs.size=s.heap.objs.size:=by rw[b5.1,b4.1,b3.1,b2.1,b1.1]
 have zz5:IsZip h5 z TI TO .ellipsis:=b5.extBut _ _ ap.zTO (b4.extBut _ _ ap.zi2 (b3.extBut _ _ ap.zTO (b2.extBut _ _ ap.zi1 zz1)))
 have keep5:∀c o,c≠z->c≠TO->c≠i1->c≠i2->s.heap.get? c=some o->h5.get? c=some o:=λc o c1 c2 c3 c4 e=>b5.extBut _ _ c2 (b4.extBut _ _ c4 (b3.extBut _ _ c2 (b2.extBut _ _ c3 (b1.extBut _ _ c1 e))))
 have v1:S1 (k+1) h5:=D1.frame _ _ _ (D1.frame _ _ _ (D1.frame _ _ _ u1 (jZ b3 ap.O1)) (jZ b4 ap.i21)) (jZ b5 ap.O1)
 have v2:S2 (k+1) h5:=D2.frame _ _ _ u2 (jZ b5 ap.O2)
 have lz:z<h5.objs.size:=yae zz5
 show wpAny (model prog w) A (ycg (yaf z) (yaf h5.objs.size) >>= _) _ _ _
 refine yab ?_
 unfold ycg
 have zz6:IsZip (h5.push {cls:=.type "tuple",data:=.seq #[x,y]}) z TI TO .ellipsis:=Heap.get?_push_of_some _ zz5
 refine yab (yby zz6 (by simp) λh7 zz7 b7=>?_)
 replace zz7:IsZip h7 z TI TO (ybK h5.objs.size):=zz7
 refine yby zz7 (by simp) λh8 zz8 b8=>?_
 replace zz8:IsZip h8 z TI TO (ybK h5.objs.size):=zz8
 have up:∀c o,c≠z->h5.get? c=some o->h8.get? c=some o:=λc o c1 e=>b8.extBut _ _ c1 (b7.extBut _ _ c1 (Heap.get?_push_of_some _ e))
 have new8:ybx h8 h5.objs.size x y:=b8.extBut _ _ (ybu lz) (b7.extBut _ _ (ybu lz) (Heap.get?_push_size _ rfl))
 rw[sz]at zz8 new8
 refine yam ⟨_,rfl,?_⟩
 show Q (yaf h5.objs.size) _
 rw[sz]
 exact fin x y h8 tk4 px py zz8 (up _ _ ap.zTO.symm zO5) (D1.frame _ _ _ v1 λb hb o e=>up b o (λq=>ap.z1 (q▸hb)) e) (D2.frame _ _ _ v2 λb hb o e=>up b o (λq=>ap.z2 (q▸hb)) e) new8 λc o c1 c2 c3 c4 e=>up c o c1 (keep5 c o c1 c2 c3 c4 e)
theorem qcH (hh:A.handled=none) (D1:Draws prog w A i1 fp1 n1 P1 S1) (D2:Draws prog w A i2 fp2 n2 P2 S2) (ap:ZAp z TI TO i1 i2 fp1 fp2) {p q:Value} (zz:IsZip s.heap z TI TO .none) (zI:ybx s.heap TI (.ref i1) (.ref i2)) (zO:ybx s.heap TO p q)
  (t1:S1 k s.heap) (t2:S2 k s.heap) (hk:k=min n1 n2) {Q:Fin->yaa->Prop}
  (fin:∀h' tk e,(∀c o,c≠z->c≠TO->c≠i1->c≠i2->s.heap.get? c=some o->h'.get? c=some o)->(∃o,h'.get? e=some o/\o.cls=.type "StopIteration")->E (.ref e) {s with heap:=h',toks:=tk}) :
  wpAny (model prog w) A (ydP.«zip.__next__» ⟨[.ref z],[]⟩) Q E s:=by
 show wpAny (model prog w) A (field (yaf z) 2 >>= _) _ _ _
 refine yab (yaJ zz rfl (x:=ybR false) rfl ?_)
 show wpAny (model prog w) A (field (yaf z) 3 >>= _) _ _ _
 refine yab (yaJ zz rfl (x:=yaf TI) rfl (yab (ybr zI rfl ?_)))
 show wpAny (model prog w) A (ya7 (yaf z) >>= _) _ _ _
 refine yab ?_
 unfold ya7
 refine yab (yaJ zz rfl (x:=yaB) rfl (yam ?_))
 simp only[if_true]
 refine yab (ycV (yab (yaJ zz rfl (x:=yaf TO) rfl (yab (yby zz (by simp) λh1 zz1 b1=>?_)))))
 replace zz1:IsZip h1 z TI TO .ellipsis:=zz1
 refine yab ?_
 simp only[List.zipIdx_cons,List.zipIdx_nil,yea,List.forIn_nil]
 refine yab (yab (ycE ?_))
 show wpAny (model prog w) A (yaO (yaf i1) >>= _) _ _ _
 have t1':S1 k h1:=D1.frame _ _ _ t1 (jZ b1 ap.z1)
 by_cases h12:n1<=n2
 ·have e1:k=n1:=by rw[hk];exact yc7 h12
  rw[e1]at t1'
  refine yab (D1.done _ _ _ t1' λh2 e b2 he=>?_)
  obtain⟨oe,f1,f2⟩:=he
  have zz2:IsZip h2 z TI TO .ellipsis:=b2 _ _ ap.zi1 zz1
  have ez:e≠z:=λx=>by subst x;rw[zz2]at f1;cases f1;simp at f2
  refine yby zz2 (by simp) λh3 _ b3=>?_
  exact fin h3 s.toks e (λc o c1 _ c3 _ x=>b3.extBut _ _ c1 (b2 _ _ c3 (b1.extBut _ _ c1 x))) ⟨oe,b3.extBut _ _ ez f1,f2⟩
 ·have e1:k=n2:=by rw[hk];exact Nat.min_eq_right (by omega)
  refine yab (D1.item k _ _ _ (by omega) t1' λx h2 tk2 px u1 b2=>yam ?_)
  have zO2:ybx h2 TO p q:=b2.extBut _ _ ap.Oi1 (b1.extBut _ _ ap.zTO.symm zO)
  refine yab (ybr zO2 rfl (yab (yc6 zO2 λh3 zO3 b3=>?_)))
  refine yab (yfp (yam (yab (yab (ycE ?_)))))
  show wpAny (model prog w) A (yaO (yaf i2) >>= _) _ _ _
  have t2':S2 k h3:=D2.frame _ _ _ (D2.frame _ _ _ (D2.frame _ _ _ t2 (jZ b1 ap.z2)) (jZ b2 ap.i12)) (jZ b3 ap.O2)
  rw[e1]at t2'
  refine yab (D2.done _ _ _ t2' λh4 e b4 he=>?_)
  obtain⟨oe,f1,f2⟩:=he
  have zz4:IsZip h4 z TI TO .ellipsis:=b4 _ _ ap.zi2 (b3.extBut _ _ ap.zTO (b2.extBut _ _ ap.zi1 zz1))
  have ez:e≠z:=λx=>by subst x;rw[zz4]at f1;cases f1;simp at f2
  refine yby zz4 (by simp) λh5 _ b5=>?_
  exact fin h5 tk2 e (λc o c1 c2 c3 c4 x=>b5.extBut _ _ c1 (b4 _ _ c4 (b3.extBut _ _ c2 (b2.extBut _ _ c3 (b1.extBut _ _ c1 x))))) ⟨oe,b5.extBut _ _ ez f1,f2⟩
end
section
variable{X:Cx}{pins:List (Addr×Obj)}{σ:St}{H:Hp}{s:yaa}{h':Heap}
theorem qeQ {ch:List Addr} {T:Addr} {o:HO} {t':Nat} (I:Inv X pins σ H s) (k:∀b u,b ∉ ch->s.heap.get? b=some u->h'.get? b=some u) (hf:∀b∈ch,qbc X pins H b) (hT:s.heap.objs.size<=T) (new:jO X.prog X.w (upd H T o) h' T o) :
  Inv X pins σ (upd H T o) {s with heap:=h',toks:=t' }:=by
 have hn:H T=none:=I.hok.fresh hT
 have nch:∀b u,H b=some u->b ∉ ch:=λb u e z=>by rw[(hf b z).1]at e;cases e
 refine I.step (g':=s.gens) (d':=s.drawn) (ch:=ch) (λb hb=>⟨(hf b hb).2.2.2.1,(hf b hb).2.1,(hf b hb).2.2.2.2.1,(hf b hb).2.2.2.2.2⟩) (λb u _ _ hc e _=>k b u hc e) (λb u _ _ hc e _=>⟨u.slots,k b u hc e⟩) (λb u hc e n=>?_)
  (λb u hc e=>⟨u,k b u hc e⟩) (λb xs e=>by rw[qg (qr e hn)];exact e) (λb u xs e=>by rw[qg (qr e hn)];exact e) (λb ps y e=>by rw[qg (qr e hn)];exact e) (λm hm=>?_) (λb u e=>?_) I.bare
 ·rw[qg (yas (yay (yae e) hT))];exact n
 ·obtain⟨ob,es,ep,ho,r⟩:=hm
  exact⟨ob,es,ep,k _ ob (λz=>(hf _ z).2.1 rfl) ho,r⟩
 ·by_cases hb:b=T
  ·subst hb;rw[qi]at e;cases e;exact new
  ·rw[qg hb]at e
   refine(I.hok b u e).stay (λc v hc q=>k c v ?_ q) (λc q=>by rw[qg (qr q hn)];exact q) (λc xs q=>by rw[qg (qr q hn)];exact q) λc ob y q=>by rw[qg (qr q hn)];exact q
   rcases hc with z|z
   ·rw[z];exact nch b u e
   ·exact nch c _ z
theorem qeR {ch:List Addr} {t':Nat} (I:Inv X pins σ H s) (k:∀b u,b ∉ ch->s.heap.get? b=some u->h'.get? b=some u) (hf:∀b∈ch,qbc X pins H b):Inv X pins σ H {s with heap:=h',toks:=t' }:=by
 have nch:∀b u,H b=some u->b ∉ ch:=λb u e z=>by rw[(hf b z).1]at e;cases e
 refine I.step (g':=s.gens) (d':=s.drawn) (ch:=ch) (λb hb=>⟨(hf b hb).2.2.2.1,(hf b hb).2.1,(hf b hb).2.2.2.2.1,(hf b hb).2.2.2.2.2⟩) (λb u _ _ hc e _=>k b u hc e) (λb u _ _ hc e _=>⟨u.slots,k b u hc e⟩) (λb u hc e n=>n)
  (λb u hc e=>⟨u,k b u hc e⟩) (λb xs e=>e) (λb u xs e=>e) (λ_ _ _ e=>e) (λm hm=>?_) (λb u e=>?_) I.bare
 ·obtain⟨ob,es,ep,ho,r⟩:=hm
  exact⟨ob,es,ep,k _ ob (λz=>(hf _ z).2.1 rfl) ho,r⟩
 ·refine(I.hok b u e).stay (λc v hc q=>k c v ?_ q) (λc q=>q) λc xs q=>q
  rcases hc with z|z
  ·rw[z];exact nch b u e
  ·exact nch c _ z
end
def Itz (K:Fr0) (a1 a2:Addr) (xs ys:List V):It :=
 ⟨λi H=>i<min xs.length ys.length/\SqT K H a1 xs/\SqT K H a2 ys,λi H x H'=>∃p u v,H p=none/\xs[i]? = some u/\ys[i]? = some v/\x=.ref p/\H'=upd H p (.tup [u,v]),λi H=>i=min xs.length ys.length/\SqT K H a1 xs/\SqT K H a2 ys⟩
def ZSt(z TI TO i1 i2 a1 a2:Addr)(i:Nat)(h:Heap):Prop:=IsZip h z TI TO .none/\ybx h TI (.ref i1) (.ref i2)/\(∃p q,ybx h TO p q)/\h.IsTupleIter i1 a1 i/\h.IsTupleIter i2 a2 i
theorem qlE {P:yag} {w:World} {K:Fr0} {es:List Expr} {kk:Nat} {pos:Pos} {z TI TO i1 i2 a1 a2:Addr} {xs ys:List V} (ap:ZAp z TI TO i1 i2 [i1,a1] [i2,a2]) (n1:a1≠i1) (n2:a2≠i2) :
  qhL P w K (.Tuple es kk pos) (Itz K a1 a2 xs ys) [z,TI,TO,i1,i2] z (ZSt z TI TO i1 i2 a1 a2) where
 mem:=by simp
 obj:=λi h st b hb=>by
  obtain⟨h1,h2,⟨p,q,h3⟩,⟨o4,h4,c4,d4⟩,⟨o5,h5,c5,d5⟩⟩:=st
  simp only[yaA,nN_,or_false]at hb
  rcases hb with rfl|rfl|rfl|rfl|rfl
  ·exact⟨_,h1,λv e=>by cases (show yb6 _=ycc v from e)⟩
  ·exact⟨_,h2,λv e=>by cases (show yb4 _ _=ycc v from e)⟩
  ·exact⟨_,h3,λv e=>by cases (show yb4 _ _=ycc v from e)⟩
  ·exact⟨_,h4,λv e=>by rw[d4]at e;cases e⟩
  ·exact⟨_,h5,λv e=>by rw[d5]at e;cases e⟩
 keep:=λi h h' st k=>by
  obtain⟨h1,h2,⟨p,q,h3⟩,h4,h5⟩:=st
  exact⟨k z (by simp) _ h1,k TI (by simp) _ h2,⟨p,q,k TO (by simp) _ h3⟩,h4.at λo e=>k i1 (by simp) o e,h5.at λo e=>k i2 (by simp) o e⟩
 item:=by
  intro X hP hw hK hc i pins s σ H E I hf st hg
  subst hP hw hK
  obtain⟨hlt,hx,hy⟩:=hg
  obtain⟨h1,h2,⟨p,q,h3⟩,h4,h5⟩:=st
  obtain⟨it1,r1,p1,z1⟩:=I.tuple hx
  obtain⟨it2,r2,p2,z2⟩:=I.tuple hy
  have l1:i<it1.toArray.size:=by rw[sT_,<-r1.length];omega
  have l2:i<it2.toArray.size:=by rw[sT_,<-r2.length];omega
  have hT:s.TypeIs (.ref z) "zip":=⟨_,h1,rfl⟩
  have hh:X.A.in1.handled=none:=I.ok.hd hc
  unfold yct
  refine yab (ycF (wpAny_callSpecial?_slot (name:=ybi "__next__") hT ybk (ya2 ybk hT ycI
   (qhg (uF hh i1 a1 n1 it1.toArray) (uF hh i2 a2 n2 it2.toArray) ap h1 h2 h3 ⟨h4,p1⟩ ⟨h5,p2⟩ l1 l2 λx y h' tk px py zz zO u1 u2 new kp=>yam ?_) (ycr _))))
  refine⟨.ref s.heap.objs.size,rfl,ydI zz λh2' zz2 sb=>?_⟩
  obtain⟨xv,hxv⟩:∃v,xs[i]? = some v:=⟨xs[i]'(by omega),gG (by omega)⟩
  obtain⟨yv,hyv⟩:∃v,ys[i]? = some v:=⟨ys[i]'(by omega),gG (by omega)⟩
  obtain⟨x',ex,rx⟩:=r1.get hxv
  obtain⟨y',ey,ry⟩:=r2.get hyv
  have exx:x'=x:=by
   have:it1.toArray[i]? = some x:=px
   rw[List.getElem?_toArray,ex]at this
   exact yax this
  have eyy:y'=y:=by
   have:it2.toArray[i]? = some y:=py
   rw[List.getElem?_toArray,ey]at this
   exact yax this
  subst exx eyy
  have lz:z<s.heap.objs.size:=yae h1
  have keep:∀b u,b ∉ [z,TI,TO,i1,i2]->s.heap.get? b=some u->h2'.get? b=some u:=λb u hb e=>by
   simp only[yaA,nN_,or_false,not_or]at hb
   exact sb.extBut _ _ hb.1 (kp b u hb.1 hb.2.2.1 hb.2.2.2.1 hb.2.2.2.2 e)
  have I2:Inv X pins σ (upd H s.heap.objs.size (.tup [xv,yv])) {s with heap:=h2',toks:=tk} :=
   qeQ I keep hf (yak _) ⟨by show 2<=yao;decide,[x',y'],.cons rx (.cons ry .nil),⟨_,sb.extBut _ _ (ybu lz) new,rfl,_,rfl⟩⟩
  refine⟨.ref s.heap.objs.size,upd H s.heap.objs.size (.tup [xv,yv]),I2,rfl,⟨s.heap.objs.size,xv,yv,I.hok.fresh (yak _),hxv,hyv,rfl,rfl⟩,?_,λb hb=>?_⟩
  ·exact⟨zz2,sb.extBut _ _ ap.zTI.symm (kp _ _ ap.zTI.symm ap.IO ap.Ii1 ap.Ii2 h2),⟨_,_,sb.extBut _ _ ap.zTO.symm zO⟩,u1.1.at λo e=>sb.extBut _ _ ap.zi1.symm e,u2.1.at λo e=>sb.extBut _ _ ap.zi2.symm e⟩
  ·have hb1:b≠s.heap.objs.size:=by
    simp only[yaA,nN_,or_false]at hb
    obtain⟨o4,g4,_⟩:=h4
    obtain⟨o5,g5,_⟩:=h5
    rcases hb with rfl|rfl|rfl|rfl|rfl
    ·exact yas (yae h1)
    ·exact yas (yae h2)
    ·exact yas (yae h3)
    ·exact yas (yae g4)
    ·exact yas (yae g5)
   rw[qg hb1]
   exact(hf b hb).1
 done:=by
  intro X hP hw hK hc i pins s σ H E I hf st hg
  subst hP hw hK
  obtain⟨hlt,hx,hy⟩:=hg
  obtain⟨h1,h2,⟨p,q,h3⟩,h4,h5⟩:=st
  obtain⟨it1,r1,p1,z1⟩:=I.tuple hx
  obtain⟨it2,r2,p2,z2⟩:=I.tuple hy
  have hT:s.TypeIs (.ref z) "zip":=⟨_,h1,rfl⟩
  have hh:X.A.in1.handled=none:=I.ok.hd hc
  unfold yct
  refine yab (ycF (wpAny_callSpecial?_slot (name:=ybi "__next__") hT ybk (ya2 ybk hT ycI
   (qcH hh (uF hh i1 a1 n1 it1.toArray) (uF hh i2 a2 n2 it2.toArray) ap h1 h2 h3 ⟨h4,p1⟩ ⟨h5,p2⟩ (by rw[sT_,sT_,<-r1.length,<-r2.length];exact hlt) λh' tk e kp he=>?_) (ycr _))))
  obtain⟨o,ho,hcl⟩:=he
  refine yab (ycJ (T:="StopIteration") (b:=true) ⟨o,ho,hcl⟩ yem (yam ⟨rfl,qeR I (λb u hb e=>?_) hf⟩))
  simp only[yaA,nN_,or_false,not_or]at hb
  exact kp b u hb.1 hb.2.2.1 hb.2.2.2.1 hb.2.2.2.2 e
 self:=λA i s Q E st h=>ydX st.1 h
section
variable{X:Cx}{c:Fc}{a b e:Expr}{pos:Pos}{es:List Expr}{kk:Nat}{tp:Pos}
theorem qir (n l1 l2:Nat) (h1:l1<n) (h2:l2<n):ZAp (n+4) (n+2) (n+3) n (n+1) [n,l1] [n+1,l2]:=by
 refine⟨?_,?_,?_,?_,?_,?_,?_,?_,?_,?_,?_,?_,?_,?_,?_,?_⟩<;>simp only[yaA,nN_,or_false,not_or,ne_eq]<;>(unfold Addr at *)<;>omega
def qdy:List D->List D->List D
 |x::xs,y::ys => .tup [x,y]::qdy xs ys
 |_,_=>[]
theorem qcI:∀{xs ys:List D}{i:Nat}{d:D},(qdy xs ys)[i]? = some d->∃x y,xs[i]? = some x/\ys[i]? = some y/\d=.tup [x,y]
 | [],_,_,_,h=>by simp[qdy]at h
 |_::_,[],_,_,h=>by simp[qdy]at h
 |x::xs,y::ys,0,d,h=>by
  have:D.tup [x,y]=d:=by simpa [qdy] using h
  exact⟨x,y,rfl,rfl,this.symm⟩
 |x::xs,y::ys,i+1,d,h=>by
  obtain⟨u,v,h1,h2,h3⟩:=qcI (xs:=xs) (ys:=ys) (i:=i) (d:=d) (by simpa [qdy] using h)
  exact⟨u,v,by simpa using h1,by simpa using h2,h3⟩
theorem qaK:∀(xs ys:List D),(qdy xs ys).length=min xs.length ys.length
 | [],ys=>by simp[qdy]
 |_::_,[]=>by simp[qdy]
 |x::xs,y::ys=>by simp[qdy,qaK xs ys]
end
theorem qaL:fillsNumberSlot (.type "tuple") "mul"=pure false:=by
 first|kernel_rfl|(unfold fillsNumberSlot;kernel_rfl)|decide +kernel
theorem qdz:seqRepeat? (.type "tuple")=pure (some (.builtin "tuple.__mul__")):=by
 first|kernel_rfl|(unfold seqRepeat?;kernel_rfl)|decide +kernel
theorem qbu (a:Int) (t:Tok) (l:Addr) (dd:Option Addr) (items:Array Value) (n:Nat) (sl:Array (Option Value)) :
  Meets (ydP.«int.__rmul__» ⟨[.int a t,.ref l],[]⟩) (λ_ R s=>s.heap.get? l=some {cls:=.type "tuple",dict:=dd,data:=.seq items n,slots:=sl}/\R (.ok (.ret .notImplemented)) s) :=
 .of_wp λprog w A R s h=>by
  obtain⟨hp,g,d,tk,os⟩:=s
  obtain⟨hl,h⟩:=h
  wp_walk using yc8 hl
  exact⟨_,rfl,h⟩
theorem qkn (l:Addr) (dd:Option Addr) (items:Array Value) (n:Nat) (sl:Array (Option Value)) (k:Int) (t:Tok) (h0:¬items.isEmpty=true) (h1:¬(k==1)=true) (h2:¬k<=0) (h3:¬(decide (k < -(2 ^ 63))||decide (k >= 2 ^ 63))=true)
  (h4:¬(items.size:Int)*k>(2 ^ 63-1)/8) (h5:¬Builtin.Tuple.tupleTooMany ((items.size:Int)*k)=true) (h6:((yan k.toNat items).foldl (·++·) #[]).size<=yao) :
  Meets (ydP.«tuple.__mul__» ⟨[.ref l,.int k t],[]⟩) (λ_ R s=>s.heap.get? l=some {cls:=.type "tuple",dict:=dd,data:=.seq items n,slots:=sl} /\
   R (.ok (.ret (.ref s.heap.objs.size))) {s with heap:=s.heap.push {cls:=.type "tuple",data:=.seq ((yan k.toNat items).foldl (·++·) #[])} }) :=
 .of_wp λprog w A R s h=>by
  obtain⟨hp,g,d,tk,os⟩:=s
  obtain⟨hl,h⟩:=h
  have f1:=AutoSeq1.idx_int
  have f2:=AutoSeq1.sub_tuple_tuple
  have h01:¬(items.isEmpty||k==1)=true:=by simp only[yd9,not_or];exact⟨h0,h1⟩
  have h02:¬(decide (k<=0)||items.isEmpty)=true:=by simp only[yd9,decide_eq_true_eq,not_or];exact⟨h2,h0⟩
  wp_walk using yc8 hl
  rw[if_neg h3]
  wp_walk using yc8 hl
  rw[if_neg h4]
  wp_walk using yc8 hl
  exact⟨_,rfl,h⟩
section
variable{X:Cx}
def qko(K:Fr0):R2:=λx y H Q=>∃a xs k,x=.ref a/\y=.int k/\SqT K H a xs/\xs≠[]/\2<=k/\xs.length*k.toNat<=yao/\∀p,H p=none->Q (.ref p) (upd H p (.tup (yan k.toNat xs).flatten))
theorem qis:OpR X (ya9 .Mult) (qko X.K):=by
 intro pins s σ H x y v u Q I rx ry h
 obtain⟨a,xs,k,rfl,rfl,hx,hne,hk,hz,q⟩:=h
 cases rx
 obtain⟨t,rfl⟩:=ry
 obtain⟨its,r,p1,_⟩:=I.tuple hx
 obtain⟨⟨cls,dd,data,sl⟩,ho,hc,n,hd⟩:=id p1
 simp only at hc hd
 subst hc hd
 have hl:=r.length
 have hnew:yeA (λx1 x2=>x1++x2) #[] (yan k.toNat its.toArray)=(yan k.toNat its).flatten.toArray:=by
  have:=wp its k.toNat []
  rw[ybB]at this
  exact this
 have hlen:(yan k.toNat its).flatten.length=k.toNat*its.length:=qb1 its k.toNat
 have hsl:(yao:Nat)=16777216:=yb7
 have e0:¬its.toArray.isEmpty=true:=by
  intro e
  have:its=[]:=by simpa using e
  rw[this]at hl
  exact hne (List.length_eq_zero_iff.mp hl)
 have pos1:1<=its.length:=by
  cases its with
  |nil=>simp at e0
  |cons z zs=>simp
 have kk:((k.toNat:Nat):Int)=k:=Int.toNat_of_nonneg (by omega)
 have mm:(its.toArray.size:Int)*k=((its.length*k.toNat:Nat):Int):=by rw[sT_,Int.natCast_mul,kk]
 have zz:its.length*k.toNat<=yao:=by rw[<-hl];exact hz
 have kle:k.toNat<=its.length*k.toNat:=Nat.le_mul_of_pos_left _ pos1
 have T1:s.TypeIs (.ref a) "tuple":=⟨_,ho,rfl⟩
 refine ydH (T:="tuple") (U:="int") (by decide) T1 (λs'=>ydG s' k t) qaL F.fills_int_mul yc2 qdz F.slot_int_index.lookup
  (ybI yc2 (ydG s k t) F.entry_int_rmul (yfh _ _) (qbu k t a dd its.toArray n sl)
   ⟨ho,rfl,T1,ybI F.slot_tuple_mul T1 F.entry_tuple_mul (F.args_tuple_mul_2 _ _) (qkn a dd its.toArray n sl k t e0 (by simp;omega) (by omega) (by simp;omega) (by rw[mm];omega) ?_ (by rw[hnew,sT_,hlen,ye5];exact zz)) ⟨ho,?_⟩⟩)
 ·rw[mm]
  show ¬decide (((its.length*k.toNat:Nat):Int)>(yao:Int))=true
  rw[decide_eq_true_eq]
  omega
 ·rw[hnew]
  refine⟨.ref s.heap.objs.size,_,I.laid (t':=s.toks) (o:=.tup (yan k.toNat xs).flatten) (λb ob q=>Heap.get?_push_of_some _ q) (yak _) ?_,rfl,q _ (I.hok.fresh (yak _))⟩
  exact⟨by rw[qb1,ye5];exact hz,_,r.rep k.toNat,yeT _ _⟩
def qkp(K:Fr0):R2:=λx y H Q=>(rI qjN (λi j => .int (i*j))) x y H Q\/(qko K x y H Q\/qmH x y H Q)
theorem uX:OpR X (ya9 .Mult) (qkp X.K):=OpR.or qjP (OpR.or qis qj3)
end
def v5:D->D->OD
 |.int i,.int j=>if qeD i j then some (.int (i*j))else none
 |.tup ds,.int k=>if(!ds.isEmpty&&decide (2<=k))&&qF (ds.length*k.toNat)then some (.tup (yan k.toNat ds).flatten)else none
 |.lst ds,.int k=>if(decide (-(2 ^ 62)<=k)&&decide (k<2 ^ 62))&&qF (ds.length*k.toNat)then some (.lst (yan k.toNat ds).flatten)else none
 |_,_=>none
theorem IsL.rep {K:Fr0} {A:Addr->Prop} {H:Hp} {ds:List D} {xs:List V} (h:IsL K A H ds xs):∀k:Nat,IsL K A H (yan k ds).flatten (yan k xs).flatten
 |0=>by simp[IsL]
 |k+1=>by
  rw[rS_,rS_,ybG,ybG]
  exact IsL.append h (IsL.rep h k)
theorem ua {K:Fr0}:OpS K v5 (qkp K):=by
 intro A H x y d v u Q hn ix iy e k
 cases x<;>cases y<;>simp only[v5]at e<;>try (cases e;done)
 ·rename_i i j
  obtain⟨e1,e2⟩:=z8 e
  subst e2
  cases ix;cases iy
  exact .inl ⟨i,j,rfl,rfl,qgf e1,k _ H (jq.refl H) rfl⟩
 ·rename_i ds j
  obtain⟨a,xs,rfl,ta,il⟩:=ix
  cases iy
  obtain⟨e1,e2⟩:=z8 e
  subst e2
  rw[yau,yau]at e1
  obtain⟨⟨e3,e4⟩,e5⟩:=e1
  refine .inr (.inl ⟨a,xs,j,rfl,rfl,ta.sq,λz=>?_,of_decide_eq_true e4,by rw[il.length];exact of_decide_eq_true e5,λp hp=>k _ _ (qA hp _) ⟨p,_,rfl,.inl qi,IsL.ext (Ext.of_same (qA hp _)) (λ_ h _=>h) (IsL.rep il _)⟩⟩)
  have:=il.length
  rw[z]at this
  have:ds=[]:=List.length_eq_zero_iff.mp this.symm
  rw[this]at e3
  simp at e3
 ·rename_i ds j
  obtain⟨a,xs,rfl,_,ta,il⟩:=ix
  cases iy
  obtain⟨e1,e2⟩:=z8 e
  subst e2
  rw[yau,yau]at e1
  obtain⟨⟨e3,e4⟩,e5⟩:=e1
  have e3':=of_decide_eq_true e3
  have e4':=of_decide_eq_true e4
  refine .inr (.inr ⟨a,j,xs,rfl,rfl,ta,by omega,by omega,by rw[il.length];exact of_decide_eq_true e5,λp hp=>k _ _ (qA hp _) ⟨p,_,rfl,hn p hp,qi,IsL.ext (Ext.of_same (qA hp _)) (λ_ h _=>h) (IsL.rep il _)⟩⟩)
def qal:D->OD
 |.int i=>some (.int (-i))
 |_=>none
def d1(F:D->OD)(f:M D):M D:=bnd f λx=>lift (F x)
def qkq(i j:Int):Bool:=decide (0<=j)&&decide (j<=1000000)&&decide (i.natAbs<2 ^ 64)
def qbv:D->D->OD:=qh9 qkq λi j => .int (i ^ j.toNat)
theorem qeS {K:Fr0}:OpS K qbv (rI qmE λi j => .int (i ^ j.toNat)):=qeB (λi j h=>by
 unfold qkq at h
 rw[yau,yau]at h
 exact⟨of_decide_eq_true h.1.1,of_decide_eq_true h.1.2,of_decide_eq_true h.2⟩) λ_ _ _ _=>rfl
section
variable{X:Cx}{c:Fc}{a b e:Expr}{pos:Pos}
theorem qeT {f:M D} (h:DE X c a f):DE X c (.UnaryOp .USub a pos) (d1 qal f):=by
 obtain⟨t,p,w⟩:=h
 refine⟨_,qlT qjQ p,λZ σ H Q r h=>w Z σ H _ r (Wp.bnd h λd Z1 v H1 r1 i1 g1 h1=>?_)⟩
 obtain⟨d',e,h2⟩:=h1.lift
 cases d<;>simp only[qal]at e<;>try (cases e;done)
 rename_i i
 cases e
 cases i1
 exact⟨i,rfl,h2 _ H1 r1 rfl .refl⟩
def qhh (i j:Nat) (f:M (List D)):MS:=sbnd f λds Z=>match ds with
 | [d,e] => .ok (.nx ((Z.set i (some d)).set j (some e)))
 |_ => .bad
theorem qkr {i j:Nat} {x y:Str} {f:M (List D)} {px py pt:Pos} {kt k2 pt2} (hN:X.N.Nodup) (ha:DA X c [a,b] f) (hw:ycB [.Tuple [.Name x px,.Name y py] kt pt] (.Tuple [a,b] k2 pt2) X.env=pure (some [x,y])) (hc:X.calm=true:=by rfl) (hi:X.N[i]? = some x:=by rfl) (hj:X.N[j]? = some y:=by rfl) (hij:i≠j:=by decide)
  (hx:X.env.scope.names.lookup x=some .local:=by rfl) (hy:X.env.scope.names.lookup y=some .local:=by rfl) (ho:i ∉ c.O:=by exact of_decide_eq_false rfl) (hp:j ∉ c.O:=by exact of_decide_eq_false rfl)
  (hs:ycA [.Tuple [.Name x px,.Name y py] kt pt] (.Tuple [a,b] k2 pt2) pos.line X.env=pure false:=by rfl) :
  DS X c (.Assign [.Tuple [.Name x px,.Name y py] kt pt] (.Tuple [a,b] k2 pt2) pos) (qhh i j f):=by
 obtain⟨t,p,w⟩:=ha
 refine⟨_,qjI hc hN hi hj hij hx hy p hw hs,λZ σ H D r h=>w Z σ H _ r (WpL.sbnd h λds Z1 vs H1 r1 i1 g1 h1=>?_)⟩
 match ds,i1,h1 with
 | [],_,h1=>exact h1.elim
 | [_],_,h1=>exact h1.elim
 | [d,e],i1,h1=>
  obtain⟨v,u,rfl,j1,j2⟩:=IsL.inv2 i1
  refine⟨v,u,rfl,h1 _ H1 ((r1.set ho j1).set hp ?_) ((GrS.set ho).trans (GrS.set hp))⟩
  exact(GrS.set (H:=H1) ho).is j2
 |_::_::_::_,_,h1=>exact h1.elim
mutual
def immF:D->Bool
 |.tup ds=>immFs ds
 |.lst _=>false
 |.dic _=>false
 |_=>true
def immFs:List D->Bool
 | []=>true
 |d::ds=>immF d&&immFs ds
end
mutual
theorem Is.immF {K:Fr0} {A B:Addr->Prop} {H:Hp}:∀{d:D}{v:V},immF d=true->Is K A H d v->Is K B H d v
 |.non,_,_,h=>h
 |.bl _,_,_,h=>h
 |.int _,_,_,h=>h
 |.str _,_,_,h=>h
 |.tup ds,_,i,⟨a,xs,hv,h,r⟩=>⟨a,xs,hv,h,IsL.immF (by simpa [Sk.immF] using i) r⟩
 |.lst _,_,i,_=>by simp[Sk.immF]at i
 |.dic _,_,i,_=>by simp[Sk.immF]at i
 |.fz _,_,_,h=>h
 |.exc _,_,_,h=>h
theorem IsL.immF {K:Fr0} {A B:Addr->Prop} {H:Hp}:∀{ds:List D}{xs:List V},immFs ds=true->IsL K A H ds xs->IsL K B H ds xs
 | [],_,_,h=>h
 |d::ds,_,i,⟨x,ys,hx,h,r⟩=>by
  have i':Sk.immF d=true/\immFs ds=true:=by simpa [immFs] using i
  exact⟨x,ys,hx,Is.immF i'.1 h,IsL.immF i'.2 r⟩
end
def qbw (F:List D->R D) (g:M (List D)):M (List D):=bnd g λds Z=>if immFs ds then match F ds with
 |.ok (.lst bs)=>if immL bs then .ok (bs,Z)else .bad
 |_ => .bad else .bad
theorem qit {k:Nat} {f:Addr} {fd:yaH} {ps:List Str} {F:List D->R D} {x:Str} {p:Pos} {es:List Expr} {g:M (List D)} (G:yz X.prog X.w X.K X.mg X.base CX0 k f fd ps (spD X.K F)) (hr:jX k X.A) (hg:Gl X x) (hm:X.mg x=some (.ref f)) (hk:yai X.K (.ref f)=true) (hb:yy X.K fd ps [])
  (ha:DA X c (e::es) g) (hd:(x==("__debug__":Str))=false:=by decide) (he:yac (e::es) X.env=(false,eval e X.env)::yac es X.env:=by rfl) (hpl:(yaz pos (yac es X.env)).any (·.1)=false:=by rfl):DN X c (.Call (.Name x p) (e::es) [] pos) (qbw F g):=by
 obtain⟨t,pa,w⟩:=ha
 refine⟨_,vm G hr hg hm hk hb .nil qev pa hd he hpl,λZ σ H Q r h=>w Z σ H _ r (WpL.bndN h λds Z1 vs H1 r1 i1 g1 h1=>?_)⟩
 rw[yaS]
 by_cases him:immFs ds=true
 ·rw [if_pos him]at h1
  refine⟨ds,λ_=>False,IsL.immF him i1,r1.tb,?_⟩
  cases ef:F ds with
  |bad=>simp only[ef]at h1;exact h1.elim
  |exc z Z'=>simp only[ef]at h1;exact h1.elim
  | ok d=>
   cases d with
   | lst bs=>
    simp only[ef]at h1
    by_cases hb2:immL bs=true
    ·rw[if_pos hb2]at h1
     intro v H' sm i
     obtain⟨a,xs,rfl,hA,ha2,il⟩:=i
     have hn:H1 a=none:=hA.elim yaQ id
     exact h1 a xs H' hn (r1.same sm) (r1.apart_same hn sm) ha2 trivial (IsL.imm hb2 il) (.of_same sm)
    ·rw[if_neg hb2]at h1;exact h1.elim
   |_=>simp only[ef]at h1;exact h1.elim
 ·rw[if_neg him]at h1;exact h1.elim
end
structure qiu (outer:Scope) (N:List Str) (scope:Scope) (N':List Str) (nt:Nat) (fr:List Nat):Prop where
 kind:scope.kind=.function
 nocell:∀y∈scope.names,y.2 ≠ .cell
 names:∀y∈scope.names,y.2=.local->scope.names.lookup y.1=some .local
 frees:∀y∈scope.names,y.2=.free->outer.names.lookup y.1=some .cell
 len:N'.length=nt+fr.length
 slots:∀p∈fr.zipIdx,N'[nt+p.2]? = N[p.1]? /\ ((N[p.1]?).bind λx=>scope.names.lookup x)=some .free
theorem qiu.ok {X:Cx} {outer:Scope} {N:List Str} {scope:Scope} {N':List Str} {nt:Nat} {fr:List Nat} (S:qiu outer N scope N' nt fr) (h1:X.env.scope=outer) (h2:X.N=N):yj X scope N' nt fr:=by
 subst h1 h2
 refine⟨S.kind,S.nocell,S.names,S.frees,S.len,λi j h=>?_⟩
 have hm:(j,i)∈fr.zipIdx:=by
  rw[List.mem_iff_getElem?]
  refine⟨i,?_⟩
  rw[List.getElem?_zipIdx,h]
  simp
 obtain⟨h3,h4⟩:=S.slots (j,i) hm
 cases e:X.N[j]? with
 |none=>
  have h4':((X.N[j]?).bind λx=>scope.names.lookup x)=some .free:=h4
  rw[e]at h4';cases h4'
 | some x=>
  have h4':((X.N[j]?).bind λx=>scope.names.lookup x)=some .free:=h4
  rw[e]at h4'
  exact ⟨x,by
    have h3':N'[nt+i]? = X.N[j]? := h3
    rw[h3',e],rfl,h4'⟩
structure jm (P:yag) (w:World) (K:yad) (mg:Str->Option Value) (base:Heap) (k:Nat) (x:Str) (ps:List Str) (sp:Sp):Prop where
 ex:∃f fd,yz P w K mg base CX0 k f fd ps sp/\mg x=some (.ref f)/\yai K (.ref f)=true/\yy K fd ps []
theorem yC:yaF "len"=some (.builtin "len"):=by decide +kernel
theorem qks:yaF "max"=some (.builtin "max"):=by decide +kernel
theorem qkt:yaF "min"=some (.builtin "min"):=by decide +kernel
theorem qeU:yaF "all"=some (.builtin "all"):=by decide +kernel
theorem qeV:yaF "divmod"=some (.builtin "divmod"):=by decide +kernel
theorem qhi:yaF "int"=some (.type "int"):=by decide +kernel
theorem qiv:yaF "bool"=some (.type "bool"):=by decide +kernel
theorem yR:yaF "str"=some (.type "str"):=by decide +kernel
theorem qcJ:yaF "tuple"=some (.type "tuple"):=by decide +kernel
theorem qy:yaF "isinstance"=some (.builtin "isinstance"):=by decide +kernel
def z9:MS:=λZ => .ok (.nx Z)
theorem qx{X:Cx}{c:Fc}:DSs X c [] z9:=qh8
theorem jy{X:Cx}:IxR X (λx y H Q=>qjX X.K x y H Q\/qjY X.K x y H Q):=qes.or qjZ
def eqB (x y:D):OD:=match sc2 x y with
 |some b=>some (.bl b)
 |none=>eqA x y
def neB (x y:D):OD:=match sc2 x y with
 |some b=>some (.bl (!b))
 |none=>neA x y
theorem zR{X:Cx}{k:Nat}(hr:jX k X.A):OpR X (yaV .Eq) (λx y H Q=>rEq x y H Q\/qfW X.K false x y H Q):=OpR.or qjR (qhf hr)
theorem vO{X:Cx}{k:Nat}(hr:jX k X.A):OpR X (yaV .NotEq) (λx y H Q=>rNe x y H Q\/qfW X.K true x y H Q):=OpR.or qlW (qkm hr)
theorem qX {K:Fr0}:OpS K eqB (λx y H Q=>rEq x y H Q\/qfW K false x y H Q):=by
 intro A H x y d v u Q hn ix iy e k
 unfold eqB at e
 cases e1:sc2 x y with
 |some b=>simp only[e1]at e;exact .inl (qia A H x y d v u Q hn ix iy (by unfold eqS;rw[e1];exact e) k)
 |none=>simp only[e1]at e;exact .inr (qin A H x y d v u Q hn ix iy e k)
theorem uu {K:Fr0}:OpS K neB (λx y H Q=>rNe x y H Q\/qfW K true x y H Q):=by
 intro A H x y d v u Q hn ix iy e k
 unfold neB at e
 cases e1:sc2 x y with
 |some b=>simp only[e1]at e;exact .inl (qib A H x y d v u Q hn ix iy (by unfold neS;rw[e1];exact e) k)
 |none=>simp only[e1]at e;exact .inr (qio A H x y d v u Q hn ix iy e k)
end L2.Sk
namespace L2.Sk
section
variable{α β:Type}{Z:Env}{f g k:M D}{t u:M Bool}{l m:M (List D)}{p q r:MS}
theorem qgt(a:α):ret a Z=.ok (a,Z):=rfl
theorem qeW(o:Option α):lift o Z=match o with|some a => .ok (a,Z)|none => .bad:=by cases o<;>rfl
theorem ql7{f:M α}{k:α->M β}:bnd f k Z=match f Z with|.ok (a,Z')=>k a Z'|.exc x Z' => .exc x Z'|.bad => .bad:=rfl
theorem qni(i:Nat):dv i Z=match Z[i]? with|some (some d) => .ok (d,Z)|_ => .bad:=rfl
theorem zC:qa f l Z=match f Z with|.ok (d,Z1)=>(match l Z1 with|.ok (ds,Z2) => .ok (d::ds,Z2)|.exc x Z' => .exc x Z'|.bad => .bad)|.exc x Z' => .exc x Z'|.bad => .bad:=by
 simp only[qa,bnd,sbnd]
 cases f Z with
 |ok z=>
  obtain⟨z1,Z1⟩:=z
  simp only[ret]
  cases l Z1 with
  |ok z=>obtain⟨z2,Z2⟩:=z;rfl
  |exc x Z'=>rfl
  |bad=>rfl
 |exc x Z'=>rfl
 |bad=>rfl
theorem qcK:j6 l Z=match l Z with|.ok (ds,Z1)=>(if qF ds.length then .ok (.tup ds,Z1)else .bad)|.exc x Z' => .exc x Z'|.bad => .bad:=by
 simp only[j6,bnd,sbnd]
 cases l Z with
 |ok z=>
  obtain⟨z1,Z1⟩:=z
  cases h:qF z1.length<;>simp[h,lift,ret]
 |exc x Z'=>rfl
 |bad=>rfl
theorem qcL:yb l Z=match l Z with|.ok (ds,Z1)=>(if qF ds.length then .ok (.lst ds,Z1)else .bad)|.exc x Z' => .exc x Z'|.bad => .bad:=by
 simp only[yb,bnd,sbnd]
 cases l Z with
 |ok z=>
  obtain⟨z1,Z1⟩:=z
  cases h:qF z1.length<;>simp[h,lift,ret]
 |exc x Z'=>rfl
 |bad=>rfl
theorem qku:qkl l Z=match l Z with|.ok (ds,Z1)=>(if immL ds&&qF ds.length then .ok (ds,Z1)else .bad)|.exc x Z' => .exc x Z'|.bad => .bad:=by
 simp only[qkl,bnd,sbnd]
 cases l Z with
 |ok z=>
  obtain⟨z1,Z1⟩:=z
  cases h:(immL z1&&qF z1.length)<;>simp[h,lift,ret]
 |exc x Z'=>rfl
 |bad=>rfl
theorem qmL (F:D->D->OD):d2 F f g Z=match f Z with|.ok (x,Z1)=>(match g Z1 with|.ok (y,Z2)=>(match F x y with|some d => .ok (d,Z2)|none => .bad)|.exc x Z' => .exc x Z'|.bad => .bad)|.exc x Z' => .exc x Z'|.bad => .bad:=by
 simp only[d2,bnd,sbnd]
 cases f Z with
 |ok z=>
  obtain⟨z1,Z1⟩:=z
  dsimp only <;>
  cases g Z1 with
  |ok z=>obtain⟨z2,Z2⟩:=z;(dsimp only;cases F z1 z2<;>rfl)
  |exc x Z'=>rfl
  |bad=>rfl
 |exc x Z'=>rfl
 |bad=>rfl
theorem qnj (F:D->OD):d1 F f Z=match f Z with|.ok (x,Z1)=>(match F x with|some d => .ok (d,Z1)|none => .bad)|.exc x Z' => .exc x Z'|.bad => .bad:=by
 simp only[d1,bnd,sbnd]
 cases f Z with
 |ok z=>
  obtain⟨z1,Z1⟩:=z
  (dsimp only;cases F z1<;>rfl)
 |exc x Z'=>rfl
 |bad=>rfl
theorem qcc (F:List D->OD):qp F l Z=match l Z with|.ok (xs,Z1)=>(match F xs with|some d => .ok (d,Z1)|none => .bad)|.exc x Z' => .exc x Z'|.bad => .bad:=by
 simp only[qp,bnd,sbnd]
 cases l Z with
 |ok z=>
  obtain⟨z1,Z1⟩:=z
  (dsimp only;cases F z1<;>rfl)
 |exc x Z'=>rfl
 |bad=>rfl
theorem qcM (F:List D->R D):qu F l Z=match l Z with|.ok (xs,Z1)=>(match F xs with|.ok d => .ok (d,Z1)|_ => .bad)|.exc x Z' => .exc x Z'|.bad => .bad:=by
 simp only[qu,bnd,sbnd]
 cases l Z with
 |ok z=>
  obtain⟨z1,Z1⟩:=z
  cases F z1<;>rfl
 |exc x Z'=>rfl
 |bad=>rfl
theorem qkv (T:String):qha T f Z=match f Z with|.ok (d,Z1) => .ok (.bl (qb6 (tyD d) T),Z1)|.exc x Z' => .exc x Z'|.bad => .bad:=by
 simp only[qha,bnd,sbnd]
 cases f Z with
 |ok z=>
  obtain⟨z1,Z1⟩:=z
  rfl
 |exc x Z'=>rfl
 |bad=>rfl
theorem qiw:tst f Z=match f Z with|.ok (d,Z1)=>(match asB d with|some b => .ok (b,Z1)|none => .bad)|.exc x Z' => .exc x Z'|.bad => .bad:=by
 simp only[tst,bnd,sbnd]
 cases f Z with
 |ok z=>
  obtain⟨z1,Z1⟩:=z
  (dsimp only;cases asB z1<;>rfl)
 |exc x Z'=>rfl
 |bad=>rfl
theorem wK(b:Bool):asB (.bl b)=some b:=rfl
theorem qkw:qb3 t Z=match t Z with|.ok (b,Z1) => .ok (!b,Z1)|.exc x Z' => .exc x Z'|.bad => .bad:=by
 simp only[qb3,bnd,sbnd]
 cases t Z with
 |ok z=>
  obtain⟨z1,Z1⟩:=z
  rfl
 |exc x Z'=>rfl
 |bad=>rfl
theorem qkx:qlB t u Z=match t Z with|.ok (b,Z1)=>(bif b then u Z1 else .ok (false,Z1))|.exc x Z' => .exc x Z'|.bad => .bad:=by
 simp only[qlB,bnd,sbnd]
 cases t Z with
 |ok z=>
  obtain⟨z1,Z1⟩:=z
  cases z1<;>rfl
 |exc x Z'=>rfl
 |bad=>rfl
theorem qky:tor t u Z=match t Z with|.ok (b,Z1)=>(bif b then .ok (true,Z1)else u Z1)|.exc x Z' => .exc x Z'|.bad => .bad:=by
 simp only[tor,bnd,sbnd]
 cases t Z with
 |ok z=>
  obtain⟨z1,Z1⟩:=z
  cases z1<;>rfl
 |exc x Z'=>rfl
 |bad=>rfl
theorem qkz:qh6 f g Z=match f Z with|.ok (d,Z1)=>(match asB d with|some b=>(bif b then g Z1 else .ok (.bl false,Z1))|none => .bad)|.exc x Z' => .exc x Z'|.bad => .bad:=by
 simp only[qh6,bnd,sbnd]
 cases f Z with
 |ok z=>
  obtain⟨z1,Z1⟩:=z
  simp only[qeW]
  cases asB z1 with
  |none=>rfl
  |some b=>cases b<;>rfl
 |exc x Z'=>rfl
 |bad=>rfl
theorem ql8:dor f g Z=match f Z with|.ok (d,Z1)=>(match asB d with|some b=>(bif b then .ok (.bl true,Z1)else g Z1)|none => .bad)|.exc x Z' => .exc x Z'|.bad => .bad:=by
 simp only[dor,bnd,sbnd]
 cases f Z with
 |ok z=>
  obtain⟨z1,Z1⟩:=z
  simp only[qeW]
  cases asB z1 with
  |none=>rfl
  |some b=>cases b<;>rfl
 |exc x Z'=>rfl
 |bad=>rfl
theorem qkA:qlC f Z=match f Z with|.ok (d,Z1)=>(match asB d with|some b => .ok (.bl (!b),Z1)|none => .bad)|.exc x Z' => .exc x Z'|.bad => .bad:=by
 simp only[qlC,bnd,sbnd]
 cases f Z with
 |ok z=>
  obtain⟨z1,Z1⟩:=z
  simp only[qeW]
  cases asB z1 with
  |none=>rfl
  |some b=>cases b<;>rfl
 |exc x Z'=>rfl
 |bad=>rfl
theorem qix:dif t f g Z=match t Z with|.ok (b,Z1)=>(bif b then f Z1 else g Z1)|.exc x Z' => .exc x Z'|.bad => .bad:=by
 simp only[dif,bnd,sbnd]
 cases t Z with
 |ok z=>
  obtain⟨z1,Z1⟩:=z
  cases z1<;>rfl
 |exc x Z'=>rfl
 |bad=>rfl
theorem qgu:sif t p q Z=match t Z with|.ok (b,Z1)=>(bif b then p Z1 else q Z1)|.exc x Z' => .exc x Z'|.bad => .bad:=by
 simp only[sif,bnd,sbnd]
 cases t Z with
 |ok z=>
  obtain⟨z1,Z1⟩:=z
  cases z1<;>rfl
 |exc x Z'=>rfl
 |bad=>rfl
theorem qhj:qJ p q Z=match p Z with|.ok (.nx Z')=>q Z'|z=>z:=by
 unfold qJ
 cases p Z with
 |ok z=>cases z<;>rfl
 |exc x Z'=>rfl
 |bad=>rfl
theorem wL:zu f Z=match f Z with|.ok (d,Z1) => .ok (.rt d Z1)|.exc x Z' => .exc x Z'|.bad => .bad:=by
 simp only[zu,bnd,sbnd]
 cases f Z with
 |ok z=>
  obtain⟨z1,Z1⟩:=z
  rfl
 |exc x Z'=>rfl
 |bad=>rfl
theorem qhk (i:Nat):yc i f Z=match f Z with|.ok (d,Z1) => .ok (.nx (Z1.set i (some d)))|.exc x Z' => .exc x Z'|.bad => .bad:=by
 simp only[yc,bnd,sbnd]
 cases f Z with
 |ok z=>
  obtain⟨z1,Z1⟩:=z
  rfl
 |exc x Z'=>rfl
 |bad=>rfl
theorem qiy (i:Nat):u7 i l Z=match l Z with|.ok (ds,Z1) => .ok (.nx (Z1.set i (some (.lst ds))))|.exc x Z' => .exc x Z'|.bad => .bad:=by
 simp only[u7,bnd,sbnd]
 cases l Z with
 |ok z=>
  obtain⟨z1,Z1⟩:=z
  rfl
 |exc x Z'=>rfl
 |bad=>rfl
theorem qcd:jY f Z=match f Z with|.ok (_,Z1) => .ok (.nx Z1)|.exc x Z' => .exc x Z'|.bad => .bad:=by
 simp only[jY,bnd,sbnd]
 cases f Z with
 |ok z=>
  obtain⟨z1,Z1⟩:=z
  rfl
 |exc x Z'=>rfl
 |bad=>rfl
theorem qkB:z9 Z=.ok (.nx Z):=rfl
theorem qhl (i j:Nat):qhh i j l Z=match l Z with|.ok ([d,e],Z1) => .ok (.nx ((Z1.set i (some d)).set j (some e)))|.ok _ => .bad|.exc x Z' => .exc x Z'|.bad => .bad:=by
 simp only[qhh,bnd,sbnd]
 cases l Z with
 |ok z=>
  obtain⟨z1,Z1⟩:=z
  match z1 with
  | []=>rfl
  | [_]=>rfl
  | [_,_]=>rfl
  |_::_::_::_=>rfl
 |exc x Z'=>rfl
 |bad=>rfl
theorem qeX (G:D->Env->Option Env):qd1 f G Z=match f Z with|.ok (d,Z1)=>(match G d Z1 with|some Z2 => .ok (.nx Z2)|none => .bad)|.exc x Z' => .exc x Z'|.bad => .bad:=by
 simp only[qd1,bnd,sbnd]
 cases f Z with
 |ok z=>
  obtain⟨z1,Z1⟩:=z
  dsimp only <;>
  cases G z1 Z1<;>rfl
 |exc x Z'=>rfl
 |bad=>rfl
theorem qbx (G:D->Env->Option Env) (b:MS):qeJ l G b Z=match l Z with|.ok (ds,Z1)=>uW G b ds Z1|.exc x Z' => .exc x Z'|.bad => .bad:=by
 simp only[qeJ,bnd,sbnd]
 cases l Z with
 |ok z=>
  obtain⟨z1,Z1⟩:=z
  rfl
 |exc x Z'=>rfl
 |bad=>rfl
theorem qkC:qfV f Z=match f Z with|.ok (d,Z1)=>(match qlD d with|some ds => .ok (ds,Z1)|none => .bad)|.exc x Z' => .exc x Z'|.bad => .bad:=by
 simp only[qfV,bnd,sbnd]
 cases f Z with
 |ok z=>
  obtain⟨z1,Z1⟩:=z
  (dsimp only;cases qlD z1<;>rfl)
 |exc x Z'=>rfl
 |bad=>rfl
theorem qiz:y0 l Z=match l Z with|.ok (d,Z1)=>(match qgq d with|some ds => .ok (ds,Z1)|none => .bad)|.exc x Z' => .exc x Z'|.bad => .bad:=by
 simp only[y0,bnd,sbnd]
 cases l Z with
 |ok z=>
  obtain⟨z1,Z1⟩:=z
  (dsimp only;cases qgq z1<;>rfl)
 |exc x Z'=>rfl
 |bad=>rfl
theorem qeY {nt:Nat} {fr:List Nat} {fo:Option (Nat×Nat)} {G:D->Env->Option Env} {e:M D}:y7 nt fr fo l G t e Z=match l Z with
  |.ok (ds,Z1)=>(match jk G t e ds [] (ym nt fr Z1) with|.ok (ys,Ze) => .ok (.lst ys,qjn fo Ze Z1)|_ => .bad)|.exc x Z' => .exc x Z'|.bad => .bad:=by
 simp only[y7,bnd,sbnd]
 cases l Z with
 |ok z=>
  obtain⟨z1,Z1⟩:=z
  dsimp only <;>
  cases jk G t e z1 [] (ym nt fr Z1) with
  |ok z=>obtain⟨z2,Z2⟩:=z;rfl
  |exc x Z'=>rfl
  |bad=>rfl
 |exc x Z'=>rfl
 |bad=>rfl
theorem qby (F:List D->List D->R (D×List D)) (i:Nat):qo F i l Z=match zZ i Z with
  |none => .bad
  | some _=>(match l Z with
   |.ok (ds,Z1)=>(match zZ i Z1 with
    |none => .bad
    |some bs=>(match F bs ds with|.ok (d,bs') => .ok (d,Z1.set i (some (.lst bs')))|_ => .bad))
   |.exc x Z' => .exc x Z'|.bad => .bad):=by
 simp only[qo,bnd]
 cases zZ i Z with
 |none=>rfl
 | some _=>
  dsimp only <;>
  cases l Z with
  | ok z=>
   obtain⟨z1,Z1⟩:=z
   dsimp only <;>
   cases zZ i Z1 with
   |none=>rfl
   |some bs=>
    dsimp only <;>
    cases F bs z1 with
    |ok z=>obtain⟨z2,z3⟩:=z;rfl
    |exc x Z'=>rfl
    |bad=>rfl
  |exc x Z'=>rfl
  |bad=>rfl
theorem qiA (F:List D->R D):qbw F l Z=match l Z with
  |.ok (ds,Z1)=>(if immFs ds then(match F ds with|.ok (.lst bs)=>(if immL bs then .ok (bs,Z1)else .bad)|_ => .bad)else .bad)|.exc x Z' => .exc x Z'|.bad => .bad:=by
 simp only[qbw,bnd,sbnd]
 cases l Z with
 | ok z=>
  obtain⟨z1,Z1⟩:=z
  dsimp only <;>
  cases immFs z1 with
  |false=>rfl
  |true=>
   simp only[if_true]
   cases F z1 with
   |ok z=>cases z<;>rfl
   |exc x Z'=>rfl
   |bad=>rfl
 |exc x Z'=>rfl
 |bad=>rfl
theorem qeZ (i:Nat):wH i f Z=match zZ i Z with
  |none => .bad
  | some _=>(match f Z with
   |.ok (k,Z1)=>(match k,zZ i Z1 with
    |.int n,some ds=>(match atI ds n with|some d => .ok (d,Z1)|none => .bad)
    |_,_ => .bad)
   |.exc x Z' => .exc x Z'|.bad => .bad):=by
 simp only[wH,bnd]
 cases zZ i Z with
 |none=>rfl
 | some _=>
  dsimp only <;>
  cases f Z with
  |ok z=>
   obtain⟨z1,Z1⟩:=z
   dsimp only <;>
   cases z1<;>cases zZ i Z1<;>try rfl
  |exc x Z'=>rfl
  |bad=>rfl
theorem qiB (i:Nat):qgr i k f Z=match f Z with
  | .ok (d,Z1)=>(match zZ i Z1 with
   |none => .bad
   | some _=>(match k Z1 with
    | .ok (j,Z2)=>(match j,zZ i Z2 with
     |.int n,some ds=>(match ixN ds.length n with
      |some q=>if imm d then .ok (.nx (Z2.set i (some (.lst (ds.set q d)))))else .bad
      |none => .bad)
     |_,_ => .bad)
    |.exc x Z' => .exc x Z'|.bad => .bad))
  |.exc x Z' => .exc x Z'|.bad => .bad:=by
 simp only[qgr,bnd,sbnd]
 cases f Z with
 | ok z=>
  obtain⟨z1,Z1⟩:=z
  dsimp only <;>
  cases zZ i Z1 with
  |none=>rfl
  | some _=>
   dsimp only <;>
   cases k Z1 with
   |ok z=>
    obtain⟨z2,Z2⟩:=z
    dsimp only <;>
    cases z2<;>cases zZ i Z2<;>try rfl
   |exc x Z'=>rfl
   |bad=>rfl
 |exc x Z'=>rfl
 |bad=>rfl
theorem qiC (i:Nat):w6 i Z=match zZ i Z with|some ds => .ok (.int ds.length,Z)|none => .bad:=by
 unfold w6
 cases zZ i Z<;>rfl
theorem qbz (i:Nat):y8 i f Z=match zZ i Z with
  |none => .bad
  | some _=>(match f Z with
   |.ok (d,Z1)=>(match zZ i Z1 with
    |some ds=>if imm d&&qF (ds.length+1)then .ok (.non,Z1.set i (some (.lst (ds++[d]))))else .bad
    |none => .bad)
   |.exc x Z' => .exc x Z'|.bad => .bad):=by
 simp only[y8,bnd]
 cases zZ i Z with
 |none=>rfl
 | some _=>
  dsimp only <;>
  cases f Z with
  |ok z=>
   obtain⟨z1,Z1⟩:=z
   dsimp only <;>
   cases zZ i Z1<;>rfl
  |exc x Z'=>rfl
  |bad=>rfl
theorem qiD:yI f Z=match f Z with|.ok (.int i,Z1) => .ok (some i,Z1)|.ok _ => .bad|.exc x Z' => .exc x Z'|.bad => .bad:=by
 simp only[yI,bnd,sbnd]
 cases f Z with
 |ok z=>
  obtain⟨z1,Z1⟩:=z
  cases z1<;>rfl
 |exc x Z'=>rfl
 |bad=>rfl
end
theorem uY {n:Nat} (h:n<=1000000):qF n=true:=by
 unfold qF
 exact decide_eq_true (yaZ h (by rw[PySem.sizeLine_eq];decide))
theorem qiE {n p:Nat} {body:MS} {ds:List D} {d:D} {Z:Env} (h:ds.length=p) (e:body (zB n ds)=.ok (.rt d Z)):dfn n p body ds=.ok d:=by
 unfold dfn;rw[if_pos h,e]
theorem qkD {n p:Nat} {body:MS} {bs ds bs':List D} {d:D} {Z:Env} (h:ds.length+1=p) (e:body (zB n (.lst bs::ds))=.ok (.rt d Z)) (g:zZ 0 Z=some bs'):qca n p body bs ds=.ok (d,bs'):=by
 unfold qca;rw[if_pos h,e];simp only[g]
end L2.Sk
namespace L2.Sk
open PySem PySem.Spec PyProof.Rows
def qmM:List Int->Int
 | []=>0
 | [n]=>n
 |n::m::ns=>max n (qmM (m::ns))
def uv (t:M Bool) (b:MS):Nat->MS
 |0,_ => .bad
 | n+1,Z=>match t Z with
  |.ok (true,Z1)=>match b Z1 with
   |.ok (.nx Z2)=>uv t b n Z2
   |.ok (.ct Z2)=>uv t b n Z2
   |.ok (.bk Z2) => .ok (.nx Z2)
   |.ok (.rt d Z2) => .ok (.rt d Z2)
   |.exc x Z2 => .exc x Z2
   |.bad => .bad
  |.ok (false,Z1) => .ok (.nx Z1)
  |.exc x Z1 => .exc x Z1
  |.bad => .bad
open Classical in
noncomputable def qbA(t:M Bool)(b:MS):MS:=λZ=>if h:∃n,uv t b n Z ≠ .bad then uv t b h.choose Z else .bad
theorem uG {t:M Bool} {b:MS}:∀{n:Nat}{Z:Env}(k:Nat),uv t b n Z ≠ .bad->uv t b (n+k) Z=uv t b n Z
 |0,Z,k,h=>absurd rfl h
 | n + 1,Z,k,h=>by
  have e:n+1+k=(n+k)+1:=by omega
  rw[e]
  unfold uv at h |-
  cases et:t Z with
  | ok p=>
   obtain⟨v,Z1⟩:=p
   rw[et]at h
   cases v with
   |false=>rfl
   | true=>
    dsimp only at h |-
    cases eb:b Z1 with
    |ok fl=>
     rw[eb]at h
     cases fl with
     |nx Z2=>exact uG k h
     |ct Z2=>exact uG k h
     |bk Z2=>rfl
     |rt d Z2=>rfl
    |exc x Z2=>rfl
    |bad=>rfl
  |exc x Z1=>rfl
  |bad=>rfl
theorem qe0 {t:M Bool} {b:MS} {n:Nat} {Z:Env} {r:R Fl} (h:uv t b n Z=r) (hb:r ≠ .bad):qbA t b Z=r:=by
 have hx:∃n,uv t b n Z ≠ .bad:=⟨n,by rw[h];exact hb⟩
 unfold qbA
 rw[dif_pos hx]
 have hc:=hx.choose_spec
 generalize hx.choose=m at hc
 rcases Nat.le_total m n with hl|hl
 ·obtain⟨k,rfl⟩:=yd2 hl
  rw[<-uG k hc];exact h
 ·obtain⟨k,rfl⟩:=yd2 hl
  rw[uG k (by rw[h];exact hb)];exact h
theorem qdA {t:M Bool} {b:MS} {Z:Env}:∃n,qbA t b Z=uv t b n Z:=by
 unfold qbA
 split
 ·exact⟨_,rfl⟩
 ·exact⟨0,rfl⟩
section
variable{X:Cx}{c:Fc}{pos:Pos}
theorem qgv {e:Expr} {body:List Stmt} {t:M Bool} {b:MS} (hp:yd4 (model X.prog X.w) X.A X.env X.xe) (ht:DT X c e t) (hb:DSs X c body b):DS X c (.While e body [] pos) (qbA t b):=by
 obtain⟨tc,pc,wc⟩:=ht
 obtain⟨tb,pb,wb⟩:=hb
 refine⟨_,qf1 hp pc pb,λZ σ H D' r h=>?_⟩
 obtain⟨n,en⟩:=qdA (t:=t) (b:=b) (Z:=Z)
 rw[en]at h
 refine⟨λm σ' H'=>∃Z',Rep X.K c Z' σ' H'/\WpS X.K c σ' H' D' (uv t b m Z'),⟨n,Z,r,h⟩,?_⟩
 rintro m σ' H' ⟨Z',r',w⟩
 cases m with
 |zero=>exact w.elim
 | succ m=>
  unfold uv at w
  refine wc Z' σ' H' _ r' ?_
  cases et:t Z' with
  |bad=>rw[et]at w;exact w
  |exc x Z1=>rw[et]at w;exact λH1 r1 g1=>w σ' H1 r1 g1.s
  | ok p=>
   obtain⟨v,Z1⟩:=p
   rw[et]at w
   intro H1 r1 g1
   cases v with
   |false=>
    rw[if_neg yar]
    exact w σ' H1 r1 g1.s
   | true=>
    rw[if_pos rfl]
    dsimp only at w
    refine⟨λσ2 H2=>∃Z2,Rep X.K c Z2 σ2 H2/\WpS X.K c σ2 H2 D' (uv t b m Z2),λσ2 H2 q=>⟨m,ydT m,q⟩,wb Z1 σ' H1 _ r1 ?_⟩
    have w2:=w.gr g1.s
    cases e2:b Z1 with
    |ok fl=>
     cases fl with
     |nx Z3=>simp only[e2]at w2;exact λσ3 H3 r3 g3=>⟨Z3,r3,w2.gr g3⟩
     |ct Z3=>simp only[e2]at w2;exact λσ3 H3 r3 g3=>⟨Z3,r3,w2.gr g3⟩
     |bk Z3=>simp only[e2]at w2;exact w2
     |rt d Z3=>simp only[e2]at w2;exact w2
    |exc x Z3=>simp only[e2]at w2;exact w2
    |bad=>simp only[e2]at w2;exact w2
end
end L2.Sk
namespace L2.Sk
open PySem PySem.Spec PyProof.Rows
def qaM (h:Heap) (e T:Addr) (cls:Value):Prop :=
 ∃oe vs oT ts a0,h.get? e=some oe/\(oe.cls=cls/\vs[2]? = some .none/\vs[0]? = some a0)/\oe.data=.fields vs/\vs[1]? = some (.ref T)/\T≠e/\h.get? T=some oT/\oT.data=.fields ts/\ts[3]? = some .none
def CX1 (P:yag) (w:World):CXT:=λouter H s E u s'=>∃e T C H',u=.ref e/\s'.os=s.os/\ycj s'.gens/\Un (frs outer) [] H H' s.heap s'.heap/\HOk P w H' s'.heap /\
 s.heap.get? e=none/\s.heap.get? T=none/\H' e=none/\H' T=none/\qaM s'.heap e T (.ref C)/\E (.ref C) none H'
structure Lft (h h':Heap) (ch fs:List Addr):Prop where
 keep:∀b o,b ∉ ch->b ∉ fs->h.get? b=some o->h'.get? b=some o
 slot:∀b o,b∈fs->h.get? b=some o->∃sl,h'.get? b=some {o with slots:=sl}
section
variable{M:Model}{A:yal}{E:Value->yaa->Prop}{s:yaa}
abbrev vv:Obj->Obj:=yeK (·.setIfInBounds 3 yaB)
theorem qiF {base:Heap} {l:List yaL} {h:Heap} {b:Addr} {o:Obj} {vs:Array Value} (hl:h.FunFrames base l) (hb:h.get? b=some o) (hd:o.data=.fields vs):b ∉ frs l:=λz=>by
 obtain⟨_,o',ho',hn⟩:=hl.mem z
 rw[hb]at ho'
 cases ho'
 exact hn vs hd
theorem qcN {e T:Addr} {oe oT:Obj} {vs ts:Array Value} {Q:Unit->yaa->Prop} (he:s.heap.get? e=some oe) (hd:oe.data=.fields vs) (h1:vs[1]? = some (.ref T)) (hT:s.heap.get? T=some oT) (hdT:oT.data=.fields ts) (h3:3<ts.size)
  (k:Q () {s with heap:=s.heap.update T vv}):wpAny M A (ycR (.ref e) none) Q E s:=by
 unfold ycR
 refine yab (yaJ he hd h1 ?_)
 have t:(yaf T != yaB)=true:=by simp
 rw[if_pos t]
 exact ybY hT hdT h3 k
theorem vw {h:Heap} {T:Addr} {oT:Obj} {ts:Array Value} (hT:h.get? T=some oT) (hdT:oT.data=.fields ts) (h3:3<ts.size):∃o2 t2,(h.update T vv).get? T=some o2/\o2.data=.fields t2/\t2[3]? = some .none :=
 ⟨_,_,Heap.get?_update_self _ hT (ycQ (ybw hdT _)),ybw hdT _,by simp[h3]⟩
theorem zD{h:Heap}{T b:Addr}(n:b≠T):(h.update T vv).get? b=h.get? b:=Heap.get?_update_other _ _ (yaG n)
theorem qgw {base:Heap} {env:yaL} {outer:List yaL} {L e:Addr} {oe:Obj} {vs:Array Value} {head:Value} {had:Bool} {Q:Unit->yaa->Prop} (hfr:A.frames=some (env::outer)) (hl:s.heap.FunFrames base (env::outer)) (hf:env.frame=some L)
  (he:s.heap.get? e=some oe) (hd:oe.data=.fields vs) (h1:1<vs.size)
  (k:∀h' T,s.heap.get? T=none->T≠e->(∀b o,b≠e->b ∉ frs (env::outer)->s.heap.get? b=some o->h'.get? b=some o)->(∀b o,b∈frs (env::outer)->s.heap.get? b=some o->∃sl,h'.get? b=some {o with slots:=sl}) ->
   h'.get? e=some (yeK (·.setIfInBounds 1 (yaf T)) oe)->(∃oT ts,h'.get? T=some oT/\oT.data=.fields ts/\3<ts.size)->h'.FunFrames base (env::outer)->Q () {s with heap:=h' }) :
  wpAny M A (do let a <-frameOf env;let pl <-entryPlaceOf L had;let b <-ydb head a .none (ybK L) .none pl;setField (.ref e) 1 b) Q E s:=by
 have hene:=qiF hl he hd
 refine yab (wpAny_frameOf_fun hfr hl hf λh₁ hs1=>yab (wpAny_entryPlaceOf λpl hpl=>?_))
 unfold ydb newFields
 have he1:h₁.get? e=some oe:=(hs1.2.1 e hene).trans he
 refine yab (yaM ?_ (hpl.sizeOk5 _ _ _ _ _))
 generalize hob:({cls:=ya1 "traceback",dict:=none,data:=yb6 ([head,yaf L,yaB,ybK L,yaB]++(if pl.isEmpty then yan 6 yaB else pl)).toArray}:Obj)=ob
 have nT:h₁.objs.size≠e:=ybu (yae he1)
 have hnT:s.heap.get? h₁.objs.size=none:=by
  cases q:s.heap.get? h₁.objs.size with
  |none=>rfl
  |some o=>
   obtain⟨sl,q'⟩:=hs1.2.2 _ o q
   exact absurd (yae q') (ybC _)
 refine ybY (Heap.get?_push_of_some _ he1) hd h1 ?_
 have keep:∀b o,b≠e->h₁.get? b=some o->((h₁.push ob).update e (yeK (·.setIfInBounds 1 (yaf h₁.objs.size)))).get? b=some o:=λb o hb q=>(Heap.get?_update_other _ _ (yaG hb)).trans (Heap.get?_push_of_some _ q)
 refine k _ h₁.objs.size hnT nT (λb o hb hf q=>keep b o hb ((hs1.2.1 b hf).trans q)) (λb o hb q=>?_) (Heap.get?_update_self _ (Heap.get?_push_of_some _ he1) (ycQ (ybw hd _))) ⟨ob,([head,yaf L,yaB,ybK L,yaB]++(if pl.isEmpty then yan 6 yaB else pl)).toArray,?_,by rw[<-hob],by simp⟩ (hl.of_keeps λb o q hn=>?_)
 ·obtain⟨sl,q'⟩:=hs1.2.2 b o q
  exact⟨sl,keep b _ (λz=>hene (z▸hb)) q'⟩
 ·exact(Heap.get?_update_other _ _ (yaG nT)).trans (Heap.get?_push_size _ (by rw[<-hob];rfl))
 ·obtain⟨sl,q'⟩:=hs1.2.2 b o q
  exact⟨_,keep b _ (λz=>by subst z;rw[he]at q;cases q;exact hn vs hd) q',rfl⟩
theorem qcO {base:Heap} {env:yaL} {outer:List yaL} {L e:Addr} {oe:Obj} {vs:Array Value} {a0 head:Value} {had:Bool} {Q:Unit->yaa->Prop} (hfr:A.frames=some (env::outer)) (hl:s.heap.FunFrames base (env::outer)) (hf:env.frame=some L)
  (he:s.heap.get? e=some oe) (hd:oe.data=.fields vs) (h1:1<vs.size) (h2:vs[2]? = some .none) (h0:vs[0]? = some a0)
  (k:∀h' T',Lft s.heap h' [e] (frs (env::outer))->qaM h' e T' oe.cls->s.heap.get? T'=none->Q () {s with heap:=h' }) :
  wpAny M A (do let a <-frameOf env;let pl <-entryPlaceOf L had;let b <-ydb head a .none (ybK L) .none pl;setField (.ref e) 1 b) (λ_ s'=>wpAny M A (ycR (.ref e) none) Q E s') E s:=by
 refine qgw hfr hl hf he hd h1 λh' T nT ne kp sl ee eT _=>?_
 obtain⟨oT,ts,gT,dT,sT⟩:=eT
 have dd:=ybw hd (·.setIfInBounds 1 (yaf T))
 refine qcN (s:={s with heap:=h' }) ee dd (by simp[h1]) gT dT sT ?_
 obtain⟨o2,t2,q1,q2,q3⟩:=vw gT dT sT
 have nf:∀b o,s.heap.get? b=some o->b≠T:=λb o q z=>by rw[z,nT]at q;cases q
 refine k _ T ⟨λb o hb hf q=>(zD (nf b o q)).trans (kp b o (by simpa using hb) hf q),λb o hb q=>?_⟩ ⟨_,_,o2,t2,a0,(zD (yaG ne)).trans ee,⟨yfi _ _,?_,?_⟩,dd,by simp[h1],ne,q1,q2,q3⟩ nT
 ·obtain⟨sl,q'⟩:=sl b o hb q
  exact⟨sl,(zD (nf b o q)).trans q'⟩
 ·rw[Array.getElem?_setIfInBounds_ne (by decide)];exact h2
 ·rw[Array.getElem?_setIfInBounds_ne (by decide)];exact h0
theorem wM {base:Heap} {env:yaL} {outer:List yaL} {L e T:Addr} {cls:Value} {Q:Unit->yaa->Prop} (hfr:A.frames=some (env::outer)) (hl:s.heap.FunFrames base (env::outer)) (hf:env.frame=some L) (F:qaM s.heap e T cls)
  (k:∀h' T',Lft s.heap h' [e,T] (frs (env::outer))->qaM h' e T' cls->(T'=T\/s.heap.get? T'=none)->Q () {s with heap:=h' }) :
  wpAny M A (ydm (.ref e) env) (λ_ sK=>wpAny M A (ycR (.ref e) none) Q E sK) E s:=by
 obtain⟨oe,vs,oT,ts,a0,he,⟨hc,h2,h0⟩,hd,h1,hne,hT,hdT,h3⟩:=F
 subst hc
 have z3:3<ts.size:=(Array.getElem?_eq_some_iff.mp h3).1
 have z1:1<vs.size:=(Array.getElem?_eq_some_iff.mp h1).1
 have tT:(yaf T != yaB)=true:=by simp
 have tL:¬((yaB==ybK L)=true):=by simp[ybK]
 have nf:=qiF hl hT hdT
 unfold ydm
 simp only[hf]
 refine yab (yaJ he hd h1 ?_)
 rw[if_pos tT]
 refine yab (yaJ hT hdT h3 ?_)
 rw[if_neg tL]
 refine yab (ybY hT hdT z3 ?_)
 have hl1:(s.heap.update T vv).FunFrames base (env::outer):=hl.of_keeps λb o q hn=>⟨o,(zD λz=>by subst z;rw[hT]at q;cases q;exact hn ts hdT).trans q,rfl⟩
 refine qcO (s:={s with heap:=s.heap.update T vv}) hfr hl1 hf ((zD (yaG hne)).trans he) hd z1 h2 h0 λh' T' x y z=>?_
 refine k h' T' ⟨λb o hb hf q=>?_,λb o hb q=>?_⟩ y (.inr ?_)
 ·simp only[yaA,nN_,or_false,not_or]at hb
  exact x.keep b o (by simpa using hb.1) hf ((zD hb.2).trans q)
 ·exact x.slot b o hb ((zD λ(z:b=T)=>nf (z▸hb)).trans q)
 ·by_cases e2:T'=T
  ·subst e2
   obtain⟨_,_,q,_⟩:=vw hT hdT z3
   have z':(s.heap.update T' vv).get? T'=none:=z
   rw[q]at z';cases z'
  ·exact(zD e2).symm.trans z
theorem qdB {base:Heap} {env:yaL} {outer:List yaL} {L e T:Addr} {cls:Value} {Q:Unit->yaa->Prop} (hfr:A.frames=some (env::outer)) (hl:s.heap.FunFrames base (env::outer)) (hf:env.frame=some L) (F:qaM s.heap e T cls)
  (k:∀h' T',Lft s.heap h' [e,T] (frs (env::outer))->qaM h' e T' cls->(T'=T\/s.heap.get? T'=none)->Q () {s with heap:=h' }):wpAny M A (yde env (.ref e)) Q E s:=by
 unfold yde
 exact yab (wM hfr hl hf F k)
theorem qdC {base h:Heap} {env:yaL} {outer:List yaL} {L e:Addr} {cls:Value} {args:List Value} {Q:Unit->yaa->Prop} (hfr:A.frames=some (env::outer)) (hl:h.FunFrames base (env::outer)) (hf:env.frame=some L) (hx:yen h s.heap e cls args)
  (k:∀h' T',Lft s.heap h' [e] (frs (env::outer))->qaM h' e T' cls->s.heap.get? T'=none->Q () {s with heap:=h' }):wpAny M A (yde env (.ref e)) Q E s:=by
 obtain⟨t,he,htn,ht⟩:=hx.there
 have hl1:s.heap.FunFrames base (env::outer):=hl.of_keeps λb o q _=>⟨o,hx.keeps b o q,rfl⟩
 unfold yde ydm
 simp only[hf]
 refine yab (yab (yaJ he rfl (x:=.none) rfl ?_))
 rw[if_neg (by decide)]
 exact qcO hfr hl1 hf he rfl (of_decide_eq_true rfl) rfl rfl k
theorem qam {base:Heap} {l:List yaL} {e T:Addr} {cls:Value} {Q:Unit->yaa->Prop} (hl:s.heap.FunFrames base l) (F:qaM s.heap e T cls)
  (k:∀h' T',Lft s.heap h' [e,T] (frs l)->qaM h' e T' cls->(T'=T\/s.heap.get? T'=none)->Q () {s with heap:=h' }) :
  wpAny M A (ycR (.ref e) none) Q E s:=by
 obtain⟨oe,vs,oT,ts,a0,he,hc,hd,h1,hne,hT,hdT,h3⟩:=F
 have z3:3<ts.size:=(Array.getElem?_eq_some_iff.mp h3).1
 have nf:=qiF hl hT hdT
 refine qcN he hd h1 hT hdT z3 ?_
 obtain⟨o2,t2,q1,q2,q3⟩:=vw hT hdT z3
 refine k _ T ⟨λb o hb _ q=>?_,λb o hb q=>⟨o.slots,(zD λ(z:b=T)=>nf (z▸hb)).trans q⟩⟩ ⟨oe,vs,o2,t2,a0,(zD (yaG hne)).trans he,hc,hd,h1,hne,q1,q2,q3⟩ (.inl rfl)
 simp only[yaA,nN_,or_false,not_or]at hb
 exact(zD hb.2).trans q
end
theorem qhm {P:yag} {w:World} {H:Hp} {h h':Heap} (x:HOk P w H h) (k:∀b o,(H b).isSome=true->h.get? b=some o->h'.get? b=some o):HOk P w H h':=λa o e=>
 (x a o e).stay (λb u hb q=>k b u (by
   rcases hb with rfl|hb;· rw[e];rfl
   ·rw[hb];rfl) q) (λ_ z=>z) λ_ _ z=>z
theorem yn {P:yag} {w:World} {H:Hp} {h:Heap} {a:Addr} {o:HO} (x:jO P w H h a o):∃u,h.get? a=some u:=by
 cases o with
 |lst xs=>obtain⟨_,_,_,_,e⟩:=x;exact⟨_,e⟩
 |tup xs=>obtain⟨_,_,_,ob,e,_⟩:=x;exact⟨_,e⟩
 |dK kvs=>obtain⟨_,_,_,_,o,_,_,e,_⟩:=x;exact⟨_,e⟩
 |dT kvs=>obtain⟨_,_,_,_,o,_,_,e,_⟩:=x;exact⟨_,e⟩
 |set S n=>obtain⟨o,_,_,_,e,_⟩:=x;exact⟨_,e⟩
 |ins C dx fs=>obtain⟨_,_,_,e,_⟩:=x;exact⟨_,e⟩
 |own y=>obtain⟨_,e⟩:=x;exact⟨_,e⟩
 |xd fs=>obtain⟨_,⟨_,_,_,e,_⟩,_⟩:=x;exact⟨_,e⟩
 |rng lo hi=>obtain⟨_,_,_,e⟩:=x;exact⟨_,e⟩
 |frz ob u=>obtain⟨e,_⟩:=x;exact⟨_,e⟩
 |tbl ps=>exact⟨_,(show h.get? a=some _ from x)⟩
 |met f y=>exact⟨_,(show h.get? a=some _ from x)⟩
 |ext φ=>obtain⟨_,e,_⟩:=x;exact e
 |dsk C dx l xs=>obtain⟨_,_,_,_,_,e,_⟩:=x;exact⟨_,e⟩
 |lam pos q=>rcases x with e|⟨_,_,_,_,_,_,_,e⟩<;>exact⟨_,e⟩
section
variable{X:Cx}{pins:List (Addr×Obj)}{σ:St}{H:Hp}{s:yaa}
theorem qcP {H':Hp} {s':yaa} {h':Heap} {ch:List Addr} (I:Inv X pins σ H s) (hs:X.stack=X.env::X.outer) (hf:X.env.frame=some X.env.locals) (hex:X.ex=[])
  (u:Un (frs X.stack) [] H H' s.heap s'.heap) (hok:HOk X.prog X.w H' s'.heap) (hch:∀b∈ch,H' b=none) (hchn:∀b∈ch,s.heap.get? b=none) (x:Lft s'.heap h' ch (frs X.stack)) :
  Un (frs X.outer) [] X.H₀ H' X.s₀.heap h'/\HOk X.prog X.w H' h':=by
 have hfs:frs X.stack=X.env.locals::frs X.outer:=by rw[hs];unfold frs;rw[ybo,hf]
 have hb:=I.base
 rw[hex]at hb
 have nL:∀b o,X.s₀.heap.get? b=some o->b≠X.env.locals:=λb o q z=>absurd (yay (yae q) (z▸I.ok.above)) (ybC _)
 have nch:∀b o,X.s₀.heap.get? b=some o->b ∉ ch:=λb o q z=>by
  obtain⟨o',q'⟩:=hb.there b o q (by simp)
  rw[hchn b z]at q';cases q'
 have nfs:∀b o,X.s₀.heap.get? b=some o->b ∉ frs X.outer->b ∉ frs X.stack:=λb o q z y=>by
  rw[hfs]at y
  exact(List.mem_cons.mp y).elim (nL b o q) z
 have yfs:∀b,b∈frs X.outer->b∈frs X.stack:=λb z=>by rw[hfs];exact mM _ z
 refine⟨⟨λb o q n hb1 _=>?_,λb o q n hb1 _=>?_,λb o q n _=>?_,λb o q _=>?_,λb xs q=>u.tups b xs (hb.tups b xs q),λb o v q=>u.frzs b o v (hb.frzs b o v q),λb ps y q=>u.tbls b ps y (hb.tbls b ps y q)⟩,?_⟩
 ·exact x.keep b o (nch b o q) (nfs b o q hb1) (u.keep b o (hb.keep b o q n hb1 (by simp)) (hb.free b o q n (by simp)) (nfs b o q hb1) (by simp))
 ·obtain⟨sl,q1⟩:=hb.slot b o q n hb1 (by simp)
  obtain⟨sl2,q2⟩:=u.slot b _ q1 (hb.free b o q n (by simp)) (yfs b hb1) (by simp)
  obtain⟨sl3,q3⟩:=x.slot b _ (yfs b hb1) q2
  exact⟨sl3,q3⟩
 ·obtain⟨o',q'⟩:=hb.there b o q (by simp)
  exact u.free b o' q' (hb.free b o q n (by simp)) (by simp)
 ·obtain ⟨o1,q1⟩:=hb.there b o q (by simp)
  obtain⟨o2,q2⟩:=u.there b o1 q1 (by simp)
  by_cases hb1:b∈frs X.stack
  ·obtain⟨sl,q3⟩:=x.slot b o2 hb1 q2
   exact⟨_,q3⟩
  ·exact⟨o2,x.keep b o2 (nch b o q) hb1 q2⟩
 ·refine qhm hok λb o hb1 q=>x.keep b o (λz=>?_) (λz=>?_) q
  ·rw[hch b z]at hb1;cases hb1
  ·obtain⟨_,o1,ho1,_⟩:=I.stack.mem z
   rw[u.free b o1 ho1 (I.stkFree b z) (by simp)]at hb1
   cases hb1
theorem qiG {s':yaa} {E:XK} {u:Value} {A:yal} (I:Inv X pins σ H s) (hs:X.stack=X.env::X.outer) (hf:X.env.frame=some X.env.locals) (hex:X.ex=[]) (hA:A.frames=some X.stack) (x:CX1 X.prog X.w X.stack H s E u s') {E':Value->yaa->Prop} :
  wpAny (model X.prog X.w) A (yde X.env u) (λ_ s''=>CX1 X.prog X.w X.outer X.H₀ X.s₀ E u s'') E' s':=by
 obtain⟨e,T,C,H',rfl,os,bare,un,hok,he,hT,hHe,hHT,F,q⟩:=x
 have hl:s'.heap.FunFrames X.base X.stack:=by
  have h0:=I.stack
  have all:∀(l:List yaL),(∀b∈frs l,b∈frs X.stack)->s.heap.FunFrames X.base l->s'.heap.FunFrames X.base l:=by
   intro l
   induction l with
   |nil=>intro _ _;trivial
   |cons env r ih=>
    intro hss hl
    obtain⟨hk,⟨L,o,hf',hn,ho,hd⟩,hr⟩:=hl
    have hfr:frs (env::r)=L::frs r:=by unfold frs;rw[ybo,hf']
    rw[hfr]at hss
    have hL:=hss L mS_
    obtain⟨sl,e⟩:=un.slot L o ho (I.stkFree L hL) hL (by simp)
    exact⟨hk,⟨L,_,hf',hn,e,hd⟩,ih (λb hb=>hss b (mM _ hb)) hr⟩
  exact all X.stack (λ_ z=>z) h0
 rw[hs]at hl hA
 refine qdB hA hl hf F λh' T' y1 y2 y3=>?_
 rw[<-hs]at y1
 have hz:∀b∈[e,T],H' b=none:=λb hb=>by
  simp only[yaA,nN_,or_false]at hb
  rcases hb with rfl|rfl
  ·exact hHe
  ·exact hHT
 have hzn:∀b∈[e,T],s.heap.get? b=none:=λb hb=>by
  simp only[yaA,nN_,or_false]at hb
  rcases hb with rfl|rfl
  ·exact he
  ·exact hT
 obtain⟨z1,z2⟩:=qcP I hs hf hex un hok hz hzn y1
 have up:∀b,s.heap.get? b=none->X.s₀.heap.get? b=none:=λb hb=>by
  cases q:X.s₀.heap.get? b with
  |none=>rfl
  |some o=>
   obtain⟨o',q'⟩:=I.base.there b o q (by rw[hex];simp)
   rw[hb]at q';cases q'
 have up':∀b,s'.heap.get? b=none->s.heap.get? b=none:=λb hb=>by
  cases q:s.heap.get? b with
  |none=>rfl
  |some o=>
   obtain⟨o',q'⟩:=un.there b o q (by simp)
   rw[hb]at q';cases q'
 have hT2:s.heap.get? T'=none:=y3.elim (λz=>z▸hT) (up' T')
 have hHT2:H' T'=none:=y3.elim (λz=>z▸hHT) λz=>by
  cases q:H' T' with
  |none=>rfl
  |some o=>
   obtain⟨o',q'⟩:=yn (hok _ _ q)
   rw[z]at q';cases q'
 exact⟨e,T',C,H',rfl,os.trans I.os,bare,z1,z2,up e he,up T' hT2,hHe,hHT2,y2,q⟩
end
structure XC (base:Heap) (C:Addr) (bm:List Value):Prop where
 hasBase:bm.contains (.type "BaseException")=true
 ex:∃nm q N bs hdct sn sub ab col dd k0 k1 k2 k3 k5 newId initId B bmB mN,base.get? C=some (yfq nm q C N bs bm hdct sn sub ab col dd k0 k1 k2 k3 k5 newId)/\base.Ns N mN/\mN "__init__"=none/\OwnTail base bmB bm/\ExcBaseFacts B newId initId bmB
def wN (n p:Nat) (body:MS) (ds:List D):R D:=if ds.length=p then match body (zB n ds) with
 |.ok (.rt d _) => .ok d
 |.ok (.nx _) => .ok .non
 |.exc x Z => .exc x Z
 |_ => .bad else .bad
section
variable{X:Cx}{c:Fc}{e:Expr}{es:List Expr}{pos cpos np:Pos}
theorem qgx {x:Str} {C:Addr} {bm:List Value} {t:TA} {E:XK} (hc:X.calm=true) (hg:Gl X x) (hm:X.mg x=some (.ref C)) (xc:XC X.base C bm) (ha:PA X (e::es) t)
  (made:∀pins σ H s h' a us,Inv X pins σ H s->yen s.heap h' a (.ref C) us->E (.ref C) none H->X.xe (.ref a) {s with heap:=h' })
  (hd:(x==("__debug__":Str))=false:=by decide) (he:yac (e::es) X.env=(false,eval e X.env)::yac es X.env:=by rfl) (hpl:(yaz cpos (yac es X.env)).any (·.1)=false:=by rfl) :
  PS X (.Raise (some (.Call (.Name x np) (e::es) [] cpos)) none pos) (λ_ σ H=>t σ H λvs H1=>vs.length<=yao/\E (.ref C) none H1):=by
 intro pins s σ H D I h
 obtain⟨nm,q,N,bs,hdct,sn,sub,ab,col,dd,k0,k1,k2,k3,k5,newId,initId,B,bmB,mN,hC,hN,hni,T,FB⟩:=xc.ex
 refine wpAny_Raise_call_subT (C:=C) (nm:=nm) (q:=q) (N:=N) (bs:=bs) (bm:=bm) (hdct:=hdct) (sn:=sn) (sub:=sub) (ab:=ab) (col:=col) (dd:=dd) (k0:=k0) (k1:=k1) (k2:=k2) (k3:=k3) (k5:=k5)
  FB (mN:=mN) xc.hasBase (I.ok.hd hc) (by rw[he];show(false||(yaz cpos (yac es X.env)).any (·.1))=false;rw[hpl];rfl) hni ?_
 have hn:PE X (.Name x np) (λ_ H Q=>Q (.ref C) H):=qay hg hm rfl hd
 refine thn (hn pins s σ H (λv H1=>v=.ref C/\H1=H) I ⟨rfl,rfl⟩) λf s1 h1=>?_
 obtain⟨v,H1,I1,rv,rfl,rfl⟩:=h1
 refine⟨rv,?_⟩
 have h2:=ha cpos pins s1 σ _ _ I1 h
 rw[he]at h2 |-
 refine yb3 (thn h2 λvs s2 h3=>?_)
 obtain⟨ws,H2,I2,r2,hl,hE⟩:=h3
 refine⟨rfl,by rw[<-r2.length];exact hl,I2.bk _ _ hC,hN.keeps I2.bk,T.keeps I2.bk,λh' a hx=>made pins σ H2 s2 h' a vs I2 hx hE⟩
structure XL (X:Cx) (c:Fc) (cl:Str->Option Addr) (E:XK):Prop where
 made:∀C pins σ H s h' a us,Inv X pins σ H s->yen s.heap h' a (.ref C) us->E (.ref C) none H->X.xe (.ref a) {s with heap:=h' }
 pass:ul (CX1 X.prog X.w) X E
 wish:∀x C H',cl x.cls=some C->c.E x H'->E (.ref C) none H'
structure XL2 (X:Cx) (c:Fc) (cl:Str->Option Addr) (E:XK):Prop where
 pass:ul (CX1 X.prog X.w) X E
 wish:∀x C H',cl x.cls=some C->c.E x H'->E (.ref C) none H'
theorem XL.two{X:Cx}{c:Fc}{cl:Str->Option Addr}{E:XK}(L:XL X c cl E):XL2 X c cl E:=⟨L.pass,L.wish⟩
def uR (x:Str) (f:M (List D)):MS:=λZ=>match f Z with
 |.ok (ds,Z')=>if qF ds.length then .exc ⟨x,.non⟩ Z' else .bad
 |.exc z Z' => .exc z Z'
 |.bad => .bad
theorem ub {x:Str} {C:Addr} {bm:List Value} {f:M (List D)} {E:XK} {cl:Str->Option Addr} (hc:X.calm=true) (L:XL X c cl E) (hcl:cl x=some C) (hg:Gl X x) (hm:X.mg x=some (.ref C)) (xc:XC X.base C bm) (ha:DA X c (e::es) f)
  (hd:(x==("__debug__":Str))=false:=by decide) (he:yac (e::es) X.env=(false,eval e X.env)::yac es X.env:=by rfl) (hpl:(yaz cpos (yac es X.env)).any (·.1)=false:=by rfl) :
  DS X c (.Raise (some (.Call (.Name x np) (e::es) [] cpos)) none pos) (uR x f):=by
 obtain⟨t,pa,w⟩:=ha
 refine⟨_,qgx (E:=E) hc hg hm xc pa (L.made C) hd he hpl,λZ σ H D r h=>w Z σ H _ r ?_⟩
 unfold uR at h
 cases ef:f Z with
 |bad=>rw[ef]at h;exact h
 |exc z Z'=>rw[ef]at h;exact λH' r' g'=>h σ H' r' g'.s
 | ok p=>
  obtain⟨ds,Z'⟩:=p
  rw[ef]at h
  intro vs H' r' i' g'
  by_cases hs:qF ds.length=true
  ·simp only[hs,if_true]at h
   exact⟨by rw[i'.length];exact of_decide_eq_true hs,L.wish ⟨x,.non⟩ C H' hcl (h σ H' r' g'.s)⟩
  ·simp only[hs]at h
   exact h.elim
def spX (K:Fr0) (cl:Str->Option Addr) (F:List D->R D):Sp:=λvs H Q E=>∃ds A,IsL K A H ds vs/\vV K H/\match F ds with
 |.ok d=>∀v H',jq H H'->Is K (λa=>A a\/H a=none) H' d v->Q v H'
 |.exc x _=>∃C,cl x.cls=some C/\∀H',jq H H'->E (.ref C) none H'
 |.bad=>False
def zN (RN:List Str) (F:List D->R D) (g:M (List D)):M D:=bnd g λds Z=>match F ds with
 |.ok d => .ok (d,Z)
 |.exc x _=>if RN.contains x.cls then .exc x Z else .bad
 |.bad => .bad
theorem qgy {k:Nat} {f:Addr} {fd:yaH} {ps:List Str} {F:List D->R D} {x:Str} {p:Pos} {g:M (List D)} {E:XK} {cl:Str->Option Addr} (L:XL2 X c cl E) {RN:List Str} (hcl:∀n,RN.contains n=true->(cl n).isSome=true)
  (G:yz X.prog X.w X.K X.mg X.base (CX1 X.prog X.w) k f fd ps (spX X.K cl F)) (hr:jX k X.A) (hg:Gl X x) (hm:X.mg x=some (.ref f)) (hk:yai X.K (.ref f)=true) (hb:yy X.K fd ps [])
  (ha:DA X c (e::es) g) (hd:(x==("__debug__":Str))=false:=by decide) (he:yac (e::es) X.env=(false,eval e X.env)::yac es X.env:=by rfl) (hpl:(yaz pos (yac es X.env)).any (·.1)=false:=by rfl):DE X c (.Call (.Name x p) (e::es) [] pos) (zN RN F g):=by
 obtain⟨t,pa,w⟩:=ha
 refine⟨_,vm G hr hg hm hk hb .nil L.pass pa hd he hpl,λZ σ H Q r h=>w Z σ H _ r (WpL.bnd h λds Z1 vs H1 r1 i1 g1 h1=>?_)⟩
 rw[yaS]
 refine⟨ds,Cn c σ,i1,r1.tb,?_⟩
 cases ef:F ds with
 |bad=>simp only[ef]at h1;exact h1.elim
 |exc z Z'=>
  simp only[ef]at h1
  by_cases hz:RN.contains z.cls=true
  case neg=>rw[if_neg hz]at h1;exact h1.elim
  rw[if_pos hz]at h1
  obtain⟨C,hC⟩:=Option.isSome_iff_exists.mp (hcl z.cls hz)
  exact⟨C,hC,λH' sm=>L.wish z C H' hC (h1 H' (r1.same sm) (.of_same sm))⟩
 |ok d=>
  simp only[ef]at h1
  exact λv H' sm i=>h1 v H' (r1.same sm) (Is.ext Ext.refl (λa ha _=>ha.elim id r1.new) i) (.of_same sm)
end
section
variable{P:yag}{w:World}{K:yad}{mg:Str->Option Value}{base:Heap}
theorem uj {N:List Str} {qual:Str} {scope:Scope} {f:Addr} {cdv:Value} {A:yal} {outer:List yaL} {s:yaa} {H:Hp} {E:XK} {c:Fc} {cl:Str->Option Addr} (hf:(yaU qual scope s.heap.objs.size f cdv).frame=some s.heap.objs.size)
  (hw:∀x C H',cl x.cls=some C->c.E x H'->E (.ref C) none H'):XL (qcv (CX1 P w) P w K mg base N qual scope f cdv A outer s H E) c cl E where
 made:=λC pins σ H1 s1 h' a us I hx hE=>by
  show wpAny (model P w) _ (yde _ (.ref a)) _ _ _
  refine qdC (s:={s1 with heap:=h' }) (h:=s1.heap) (base:=base) I.ok.frames I.stack hf hx λh2 T' y1 y2 y3=>?_
  have hn:H1 a=none:=by
   cases q:H1 a with
   |none=>rfl
   |some o=>
    obtain⟨o',q'⟩:=yn (I.hok _ _ q)
    rw[hx.new]at q';cases q'
  have hT:s1.heap.get? T'=none:=by
   cases q:s1.heap.get? T' with
   |none=>rfl
   |some o=>rw[show({s1 with heap:=h' }:yaa).heap.get? T'=some o from hx.keeps _ _ q]at y3;cases y3
  have hHT:H1 T'=none:=by
   cases q:H1 T' with
   |none=>rfl
   |some o=>
    obtain⟨o',q'⟩:=yn (I.hok _ _ q)
    rw[hT]at q';cases q'
  have up:∀b,s1.heap.get? b=none->s.heap.get? b=none:=λb hb=>by
   cases q:s.heap.get? b with
   |none=>rfl
   |some o=>
    obtain⟨o',q'⟩:=I.base.there b o q (by show b ∉ ([]:List Addr);simp)
    rw[hb]at q';cases q'
  obtain⟨z1,z2⟩:=qcP (s':={s1 with heap:=h' }) I rfl hf rfl (Un.kept hx.keeps) (I.hok.kept hx.keeps) (λb hb=>by rw[ms_]at hb;subst hb;exact hn) (λb hb=>by rw[ms_]at hb;subst hb;exact hx.new) y1
  exact⟨a,T',C,H1,rfl,I.os,I.bare,z1,z2,up a hx.new,up T' hT,hn,hHT,y2,hE⟩
 pass:=λpins σ H1 s1 u s' I x=>qiG I rfl hf rfl I.ok.frames x
 wish:=hw
theorem wO {x qual:Str} {st:Stmt} {f:Addr} {fd:yaH} {N ps:List Str} {k:Nat} {O:List Nat} {body:MS} {cl:Str->Option Addr} (F:Fun K x qual st f fd) (S:qv N ps (qc st)) (hO:∀i∈O,ps.length<=i)
  (hb:∀(cdv:Value)(A:yal)(outer:List yaL)(s:yaa)(H:Hp)(E:XK)(B:Addr->Prop),jX k (A.deeper (yaU qual (qc st) s.heap.objs.size f cdv)) ->
   DSs (qcv (CX1 P w) P w K mg base N qual (qc st) f cdv A outer s H E) (cfn O [] B H (λ_=>False) (λx H'=>∀C,cl x.cls=some C->E (.ref C) none H') λ_=>none) (qt st) body) :
  yz P w K mg base (CX1 P w) (k+1) f fd ps (spX K cl (wN N.length ps.length body)):=by
 obtain⟨oc,od,kV,doc,pm,an,cdv,ct,osl,rfl,lk,hcd⟩:=F.ex
 refine qhW lk hcd S (λvs H Q E h=>?_) λA outer s H vs Q E hr h=>?_
 ·obtain⟨ds,B,il,_,h⟩:=h
  unfold wN at h
  by_cases e:ds.length=ps.length
  ·rw[il.length];exact e
  ·rw[if_neg e]at h;exact h.elim
 ·obtain ⟨ds,B,il,tb,h⟩:=h
  obtain⟨t,p,wt⟩:=hb cdv A outer s H E B hr
  refine⟨t,p,?_⟩
  unfold wN at h
  by_cases e:ds.length=ps.length
  ·rw [if_pos e]at h
   refine wt (zB N.length ds) (qV N vs) H _ (u8 il tb (λi hi=>by rw[e];exact hO i hi)) ?_
   have same:∀{Z:Env}{σ:St}{H':Hp},Rep K (cfn O [] B H (λ_=>False) (λx H'=>∀C,cl x.cls=some C->E (.ref C) none H') λ_=>none) Z σ H'->jq H H':=λr b o hb=>r.kp b o hb λz=>z
   cases eb:body (zB N.length ds) with
   |bad=>rw[eb]at h;exact h.elim
   | exc z Z=>
    rw[eb]at h
    obtain⟨C,hC,h⟩:=h
    exact λσ' H' r' _ C' hC'=>by
     rw[hC]at hC';cases hC'
     exact h H' (same r')
   |ok fl=>
    rw[eb]at h
    cases fl with
    |nx Z=>exact λσ' H' r' _=>h .non H' (same r') rfl
    |rt d Z=>exact λv σ' H' r' i' _=>h v H' (same r') i'
    |bk Z=>exact h.elim
    |ct Z=>exact h.elim
  ·rw[if_neg e]at h;exact h.elim
structure yJ (P:yag) (w:World) (K:yad) (mg:Str->Option Value) (base:Heap) (k:Nat) (x:Str) (ps:List Str) (sp:Sp):Prop where
 ex:∃f fd,yz P w K mg base (CX1 P w) k f fd ps sp/\mg x=some (.ref f)/\yai K (.ref f)=true/\yy K fd ps []
end
section
variable{M:Model}{A:yal}{E:Value->yaa->Prop}
variable{nm q nm' q':Str}{C S N N':Addr}{bs bm bs' bm':List Value}{hdct hdct':Bool}{sn sn':List Str}{sub sub':List Value}{ab ab':Bool}{col col':Option Bool}{dd dd':Option Addr}{k0 k1 k2 k3 k5 j0 j1 j2 j3 j5:Option Value}{newId newId':String}
theorem uS {h:Heap} {g:Array ydS} {d:Drawn} {t:Nat} {os:OsState} {e:Addr} {oe:Obj} {Q:Bool->yaa->Prop}
  (hC:h.get? C=some (yfq nm q C N bs bm hdct sn sub ab col dd k0 k1 k2 k3 k5 newId)) (hS:h.get? S=some (yfq nm' q' S N' bs' bm' hdct' sn' sub' ab' col' dd' j0 j1 j2 j3 j5 newId'))
  (he:h.get? e=some oe) (hcls:oe.cls=.ref C) (hbase:bm'.contains (.type "BaseException")=true)
  (hq:Q ((yaf C::bm).contains (.ref S)) ⟨h,g,d,t,os⟩):wpAny M A (excMatches (.ref e) (.ref S)) Q E ⟨h,g,d,t,os⟩:=by
 have hcB:(yaf S::bm').contains (.type "BaseException")=true:=by rw[List.contains_cons,hbase,ye7]
 have f:=tc_notTuple
 unfold excMatches
 repeat (first|(with_reducible refine yfj he ?_;rw[hcls])|with_reducible refine yfj hS ?_|(with_reducible refine yeO hS ?_;rw[hcB])|with_reducible refine yeO hC ?_|wp_step)
 all_goals (first|exact hq|(cases hb:(yaf C::bm).contains (.ref S)<;>(rw[hb]at hq;wp_walk;exact hq)))
end
end L2.Sk
namespace L2
open PySem PySem.Spec PyProof.Rows
def AloneA(A:yal)(H:Hp):Prop:=∃e oe u vs,A.handled=some (.ref e)/\H e=some (.frz oe u)/\oe.data=.fields vs/\vs[2]? = some .none
def qkE(A:yal)(sp:Sp)(dvs:List V)(E:XK)(t:TA):TE:=λσ H Q=>t σ H λvs H1=>AloneA A H1/\sp (vs++dvs) H1 Q E
structure yK (k:Nat) (A:yal):Prop where
 dp:A.depth+3*k+5<ydd
 un:A.units+16*k+200<cLine
 gd:A.guards=some []
theorem yK.mono{j k:Nat}{A:yal}(r:yK k A)(h:j<=k):yK j A:=⟨by have:=r.dp;omega,by have:=r.un;omega,r.gd⟩
theorem yK.deeper {k:Nat} {A:yal} (r:yK (k+1) A) (env:Env):yK k (A.deeper env) :=
 ⟨by have:=r.dp;show A.depth+1+3*k+5<_;omega,by have:=r.un;show A.units+3+16*k+200<_;omega,r.gd⟩
theorem yK.depth{k:Nat}{A:yal}(r:yK k A):A.depth<ydd:=by have:=r.dp;omega
structure qaN (P:yag) (w:World) (K:yad) (mg:Str->Option Value) (base:Heap) (CX:CXT) (k:Nat) (f:Addr) (fd:yaH) (ps:List Str) (sp:Sp):Prop where
 len:∀vs H Q E,sp vs H Q E->vs.length=ps.length
 run:∀(A:yal)(outer:List Env)(s:yaa)(H:Hp)(args:Args)(us:List Value)(vs:List V)(Q:VK)(E:XK),yK k A->AloneA A H->qf7 P w K mg base A outer s H->ydM s fd args (ps.zip us)->ze vs us->sp vs H Q E ->
  ybA (model P w) A (.call (.ref f) args) (CR CX outer P w H s Q E) s
def qdD (CX:CXT) (P:yag) (w:World) (K:yad) (mg:Str->Option Value) (base:Heap) (N:List Str) (qual:Str) (scope:Scope) (f:Addr) (cd:Value) (A:yal) (outer:List Env) (s:yaa) (H:Hp) (E:XK):Cx where
 prog:=P
 w:=w
 K:=K
 mg:=mg
 base:=base
 A:=A.deeper (yaU qual scope s.heap.objs.size f cd)
 N:=N
 s₀:=s
 H₀:=H
 env:=yaU qual scope s.heap.objs.size f cd
 outer:=outer
 stack:=yaU qual scope s.heap.objs.size f cd::outer
 ex:=[]
 calm:=false
 fn:=λ_=>true
 pn:=[]
 xe:=λe s'=>wpAny (model P w) (A.deeper (yaU qual scope s.heap.objs.size f cd)) (yde (yaU qual scope s.heap.objs.size f cd) e) (λ_ s''=>CX outer H s E e s'') (λe' s''=>CX outer H s E e' s'') s'
theorem qdE {CX:CXT} {P:yag} {w:World} {K:yad} {mg:Str->Option Value} {base:Heap} {N ps:List Str} {qual:Str} {scope:Scope} {f:Addr} {cd:Value} {A:yal} {outer:List Env} {s s1:yaa} {H:Hp} {E:XK} {us:List Value} {vs:List V}
  (S:qv N ps scope) (e0:qf7 P w K mg base A outer s H) (hl:vs.length=ps.length) (r:ze vs us)
  (x:InCallC s s.heap.objs.size (bindL (yaU qual scope s.heap.objs.size f cd).kindOf (ps.zip us) λ_=>none) (yd7 (s.heap.objs.size+1) scope.names []) (bindC (yaU qual scope s.heap.objs.size f cd).kindOf (ps.zip us) λ_=>none) s1) :
  Inv (qdD CX P w K mg base N qual scope f cd A outer s H E) [] (qV N vs) H s1:=by
 have hpl:ps.length<=N.length:=by have:=congrArg yfn S.pre;rw[ybq]at this;omega
 obtain⟨h1,tk,rfl,hk⟩:=x.done
 have noA:∀b:Addr,b ∉ (qdD CX P w K mg base N qual scope f cd A outer s H E).ex:=λb z=>absurd (show b∈([]:List Addr)from z) (by simp)
 refine ⟨⟨e0.mod,S.kind,rfl,rfl,yak _,λy z c h1 h2=>?_,λy hy=>?_,λy c _ h=>?_,(λz=>Bool.noConfusion z),yez e0.frames,.inr ⟨rfl,rfl⟩,λb z=>absurd z (noA b),e0.bs,e0.bsz,λb _ _=>noA b,λb z=>absurd z (noA b),e0.funs,e0.frf⟩,
  rfl,e0.bare,Un.kept hk,⟨_,x.toInCall.ns,λi y v h1 h2 h3=>?_⟩,λy c h=>⟨_,x.cell y c h⟩,e0.hok.fresh (yak _),λy c h=>?_,λp hp=>absurd (show p∈([]:List (Addr×Obj))from hp) (by simp),e0.hok.kept hk,?_⟩
 ·exact name_of_addr x.apart (yaN h1) (yaN h2)
 ·have hy:scope.names.lookup y=some .cell\/scope.names.lookup y=some .free:=hy
  rcases hy with hy|hy
  ·exact vY hy
  ·exact absurd rfl (S.nofree _ (yaN hy))
 ·exact ycU (x.above y c (yaN h))
 ·have hi:i<vs.length:=by
   unfold qV at h2
   by_cases hi:i<vs.length
   ·exact hi
   ·rw[List.getElem?_append_right (by simpa using hi)]at h2
    rw[List.getElem?_replicate]at h2
    split at h2<;>cases h2
  have ha:vs[i]? = some v:=by
   unfold qV at h2
   rw[List.getElem?_append_left (by simpa using hi),gM_]at h2
   cases e:vs[i]? with
   |none=>rw[e]at h2;cases h2
   |some a=>rw[e]at h2;cases h2;rfl
  obtain⟨u,hu,rv⟩:=r.get ha
  have hp:ps[i]? = some y:=by
   rw[<-S.pre,List.getElem?_take_of_lt (by omega)];exact h1
  have ndP:ps.Nodup:=by rw[<-S.pre];exact S.nd.sublist (yff _ _)
  refine⟨u,rv,?_⟩
  rcases S.par y (ycZ hp)with k|k
  ·exact .inl ⟨k,wj ndP hp hu k⟩
  ·obtain⟨c,e⟩:=vY (n:=s.heap.objs.size+1) k
   refine .inr ⟨.inl k,c,e,?_⟩
   have q:=x.cell y c e
   rw[wm ndP hp hu (by show scope.names.lookup y≠_;rw[k];decide)]at q
   exact q
 ·exact e0.hok.fresh (ycU (x.above y c (yaN h)))
 ·unfold qV
  show _=N.length
  rw[lA_,lM_,yaX]
  omega
theorem qkF {CX:CXT} {P:yag} {w:World} {K:yad} {mg:Str->Option Value} {base:Heap} {k:Nat} {f:Addr} {name qual:Str} {params:yd8} {body:List Stmt} {scope:Scope} {dV kV doc pm cdv ct oc:Value} {an od:Option Addr}
  {osl:Array (Option Value)} {N ps:List Str} {sp:Sp} (lk:K.lookup f=some ⟨oc,od,.func (yaq name qual params body scope dV kV doc pm an cdv ct),osl⟩) (hcd:yap K cdv qual=true) (S:qv N ps scope)
  (len:∀vs H Q E,sp vs H Q E->vs.length=ps.length)
  (hbody:∀(A:yal)(outer:List Env)(s:yaa)(H:Hp)(vs:List V)(Q:VK)(E:XK),yK k (A.deeper (yaU qual scope s.heap.objs.size f cdv))->AloneA (A.deeper (yaU qual scope s.heap.objs.size f cdv)) H->sp vs H Q E ->
   ∃t,PSs (qdD CX P w K mg base N qual scope f cdv A outer s H E) body t/\t {nx:=λ_ H'=>Q .non H',rt:=Q} (qV N vs) H) :
  qaN P w K mg base CX (k+1) f (yaq name qual params body scope dV kV doc pm an cdv ct) ps sp:=by
 refine⟨len,λA outer s H args us vs Q E hr al e0 hb r hsp=>?_⟩
 have hl:=len _ _ _ _ hsp
 have KX:K.In s.heap:=e0.mod.kin.keeps λb o e=>(e0.bs b o e).1
 have lim:s.heap.NoLimit:=e0.mod.nolimit.keeps λb o e=>(e0.bs b o e).1
 have hkind:∀y∈ps.zip us,scope.names.lookup y.1=some .local\/(scope.names.lookup y.1=some .cell/\((yd7 (s.heap.objs.size+1) scope.names []).lookup y.1).isSome=true):=λ⟨n,v⟩ hy=>by
  rcases S.par n (ycY hy).1 with q|q
  ·exact .inl q
  ·exact .inr ⟨q,ycv _ _ _ (.inl q)⟩
 refine yel hr.depth (KX _ _ lk) rfl S.co S.gen rfl (ye0 KX hcd) (hb _ _ _ _ ?_)
 refine ydv S.kind hkind λenv he s1 x=>?_
 subst he
 refine⟨lim.keeps x.toInCall.keep,codeAny_func ?_⟩
 obtain⟨t,ht,hq⟩:=hbody A outer s H vs Q E (hr.deeper _) al hsp
 have I:Inv (qdD CX P w K mg base N qual scope f cdv A outer s H E) [] (qV N vs) H s1:=qdE S e0 hl r x
 refine ya5 (ht [] s1 (qV N vs) H _ I hq) (λfl s' hs=>?_) λe s' hs=>hs
 have fin:∀{σ':St}{H':Hp}{v:V}{u:Value},Inv (qdD CX P w K mg base N qual scope f cdv A outer s H E) [] σ' H' s'->jp v u->Q v H'->CE outer P w H s Q u s' :=
  λ{σ' H' v u} J rv q=>⟨v,H',J.os,J.bare,J.base,J.hok,rv,q⟩
 cases fl with
 |ret u=>
  obtain⟨v,σ',H',J,rv,q⟩:=hs
  exact fin J rv q
 |next=>
  obtain⟨σ',H',J,q⟩:=hs
  exact fin (v:=V.non) (u:=yaB) J rfl q
 |brk=>
  obtain⟨_,_,_,q⟩:=hs
  exact yaQ q
 |cont=>
  obtain⟨_,_,_,q⟩:=hs
  exact yaQ q
section
variable{X:Cx}{CX:CXT}{k:Nat}{f C:Addr}{fd:yaH}{ps:List Str}{sp:Sp}{dvs:List V}{ds:List Value}{E:XK}{x m:Str}{p pos apos:Pos}{e o:Expr}{es:List Expr}{ta:TE}{t:TA}
theorem qiH {pins:List (Addr×Obj)} {σ:St} {H:Hp} {s:yaa} {Q:VK} {us:List Value} {vs:List V} (F:qaN X.prog X.w X.K X.mg X.base CX k f fd ps sp) (hr:yK k X.A) (hb:yy X.K fd ps ds) (hd:ze dvs ds) (hx:ul CX X E)
  (I:Inv X pins σ H s) (r:ze vs us) (al:AloneA X.A H) (h:sp (vs++dvs) H Q E):wpAny (model X.prog X.w) X.A (call (.ref f) us) (EP X pins σ Q) X.xe s:=by
 have r2:ze (vs++dvs) (us++ds):=r.append hd
 have hl:(us++ds).length=ps.length:=by rw[<-r2.length];exact F.len _ _ _ _ h
 refine yey (ycX (F.run X.A X.stack s H ⟨us,[]⟩ (us++ds) (vs++dvs) Q E hr al I.env0 (hb s us I.kIn hl) r2 h) λr s' hq=>?_)
 cases r with
 |error e=>exact hx pins σ H s e s' I hq
 |ok fl=>
  cases fl with
  |ret u=>exact I.after hq
  |next=>exact yaQ hq
  |brk=>exact yaQ hq
  |cont=>exact yaQ hq
theorem qcQ (F:qaN X.prog X.w X.K X.mg X.base CX k f fd ps sp) (hr:yK k X.A) (hg:Gl X x) (hm:X.mg x=some (.ref f)) (hk:yai X.K (.ref f)=true) (hb:yy X.K fd ps ds) (hd:ze dvs ds) (hx:ul CX X E)
  (ha:PA X (e::es) t) (hdb:(x==("__debug__":Str))=false:=by decide) (he:yac (e::es) X.env=(false,eval e X.env)::yac es X.env:=by rfl) (hpl:(yaz pos (yac es X.env)).any (·.1)=false:=by rfl) :
  PE X (.Call (.Name x p) (e::es) [] pos) (qkE X.A sp dvs E t):=by
 intro pins s σ H Q I h
 refine ybU (vk I hg hm ?_ hdb)
 refine ydl (h₀:=X.base) I.ok.mod.kin hk (thn (ha pos pins s σ H _ I h) λus s1 ⟨vs,H1,I1,r,q⟩=>⟨I1.kIn,?_⟩) he hpl
 exact qiH F hr hb hd hx I1 r q.1 q.2
end
end L2
namespace L2.Sk
open PySem PySem.Spec PyProof.Rows
def qiI(K:Fr0)(F:D->List D->OD)(r:V->List V->Hp->VK->Prop):Prop:=∀A H x ys d v vs (Q:VK),(∀a,H a=none->A a)->Is K A H x v->IsL K A H ys vs->F x ys=some d->(∀u H',jq H H'->Is K A H' d u->Q u H')->r v vs H Q
@[reducible] def toX (X:Cx) (xe:Value->yaa->Prop) (pn:List (Addr×Obj)):Cx:={X with xe:=xe,pn:=pn}
@[reducible] def hdX (X:Cx) (e:Addr):Cx:={X with A:=X.A.mark (some (.ref e)),calm:=false,xe:=λ_ _=>False}
section
variable{X:Cx}{pins:List (Addr×Obj)}{σ:St}{H:Hp}{s:yaa}{xe:Value->yaa->Prop}
theorem qhn (I:Inv X pins σ H s):Inv (toX X xe (X.pn++pins)) [] σ H s :=
 let k:=I.ok
 ⟨⟨k.mod,k.kind,k.glob,k.blt,k.above,k.inj,k.has,k.cab,k.hd,k.frames,k.stk,k.exf,k.bs,k.bsz,k.noex,k.exfs,k.funs,k.frf⟩,I.os,I.bare,I.base,I.loc,I.cell,I.free,I.freeC,
  λp hp=>I.pin p (by rw[yaS]at hp;exact hp),I.hok,I.len⟩
theorem jM {pins2:List (Addr×Obj)} (I:Inv (toX X xe (X.pn++pins)) pins2 σ H s):Inv X pins σ H s :=
 let k:=I.ok
 ⟨⟨k.mod,k.kind,k.glob,k.blt,k.above,k.inj,k.has,k.cab,k.hd,k.frames,k.stk,k.exf,k.bs,k.bsz,k.noex,k.exfs,k.funs,k.frf⟩,I.os,I.bare,I.base,I.loc,I.cell,I.free,I.freeC,
  λp hp=>I.pin p (yb0 _ hp),I.hok,I.len⟩
theorem qcR (e:Addr) (I:Inv X pins σ H s):Inv (hdX X e) pins σ H s :=
 let k:=I.ok
 ⟨⟨k.mod,k.kind,k.glob,k.blt,k.above,k.inj,k.has,k.cab,λz=>(nomatch z),k.frames,k.stk,k.exf,k.bs,k.bsz,k.noex,k.exfs,k.funs,k.frf⟩,I.os,I.bare,I.base,I.loc,I.cell,I.free,I.freeC,I.pin,I.hok,I.len⟩
theorem qcS {e:Addr} {σ':St} {H':Hp} {s':yaa} (k:X.Ok) (I:Inv (hdX X e) pins σ' H' s'):Inv X pins σ' H' s' :=
 ⟨k,I.os,I.bare,I.base,I.loc,I.cell,I.free,I.freeC,I.pin,I.hok,I.len⟩
theorem qdF {h':Heap} {m':Str->Option Value} {tk:Nat} (I:Inv X pins σ H s) (hn:h'.Ns X.env.locals m') (hs:ybt X.env.locals s.heap h') :
  Inv X pins (yan X.N.length none) H {s with heap:=h',toks:=tk}:=by
 obtain⟨m,hn0,_⟩:=id I.loc
 obtain⟨oL,_,_,hoL,_⟩:=id hn0
 have ne:∀b o,X.s₀.heap.get? b=some o->b≠X.env.locals:=λb o q=>yas (yay (yae q) I.ok.above)
 refine⟨I.ok,I.os,I.bare,⟨λb o e n hb hx=>(hs.2 b (ne b o e)).trans (I.base.keep b o e n hb hx),λb o e n hb hx=>?_,I.base.free,λb o e hx=>?_,I.base.tups,I.base.frzs,I.base.tbls⟩,⟨m',hn,λj y v e1 e2 e3=>?_⟩,λy c e=>?_,I.free,I.freeC,λp hp=>?_,λb ob e=>?_,by simp⟩
 ·obtain⟨sl,q⟩:=I.base.slot b o e n hb hx
  exact⟨sl,(hs.2 b (ne b o e)).trans q⟩
 ·obtain⟨o',q⟩:=I.base.there b o e hx
  exact⟨o',(hs.2 b (ne b o e)).trans q⟩
 ·rw[List.getElem?_replicate]at e2
  split at e2<;>cases e2
 ·obtain⟨w',z⟩:=I.cell y c e
  exact⟨w',z.sameBut hs (I.cne y c e)⟩
 ·obtain⟨e,n,nl,nf,d⟩:=I.pin p hp
  exact⟨(hs.2 p.1 nl).trans e,n,nl,nf,d⟩
 ·refine(I.hok b ob e).stay (λc w' hc q=>(hs.2 c ?_).trans q) (λ_ q=>q) λ_ _ q=>q
  rintro rfl
  rcases hc with rfl|hc
  ·rw[I.free]at e;cases e
  ·rw[I.free]at hc;cases hc
theorem qaO {H':Hp} {h':Heap} (I:Inv X pins σ H s) (u:Un (frs X.stack) [] H H' s.heap h'):h'.FunFrames X.base X.stack:=by
 have all:∀(l:List yaL),(∀b∈frs l,b∈frs X.stack)->s.heap.FunFrames X.base l->h'.FunFrames X.base l:=by
  intro l
  induction l with
  |nil=>intro _ _;trivial
  |cons env r ih=>
   intro hss hl
   obtain⟨hk,⟨L,o,hf',hn,ho,hd⟩,hr⟩:=hl
   have hfr:frs (env::r)=L::frs r:=by unfold frs;rw[ybo,hf']
   rw[hfr]at hss
   have hL:=hss L mS_
   obtain⟨sl,e⟩:=u.slot L o ho (I.stkFree L hL) hL (by simp)
   exact⟨hk,⟨L,_,hf',hn,e,hd⟩,ih (λb hb=>hss b (mM _ hb)) hr⟩
 exact all X.stack (λ_ z=>z) I.stack
theorem qcT {H':Hp} {h1 h':Heap} {ch:List Addr} (u:Un (frs X.stack) [] H H' s.heap h1) (hchn:∀b∈ch,s.heap.get? b=none) (x:Lft h1 h' ch (frs X.stack)):Un (frs X.stack) [] H H' s.heap h':=by
 have nch:∀b o,s.heap.get? b=some o->b ∉ ch:=λb o q z=>by rw[hchn b z]at q;cases q
 refine⟨λb o q n hb hx=>x.keep b o (nch b o q) hb (u.keep b o q n hb hx),λb o q n hb hx=>?_,u.free,λb o q hx=>?_,u.tups,u.frzs,u.tbls⟩
 ·obtain⟨sl,q1⟩:=u.slot b o q n hb hx
  obtain⟨sl2,q2⟩:=x.slot b _ hb q1
  exact⟨sl2,q2⟩
 ·obtain ⟨o2,q2⟩:=u.there b o q hx
  by_cases hb:b∈frs X.stack
  ·obtain⟨sl,q3⟩:=x.slot b o2 hb q2
   exact⟨_,q3⟩
  ·exact⟨o2,x.keep b o2 (nch b o q) hb q2⟩
theorem qaP {H':Hp} {h1 h':Heap} {ch:List Addr} (I:Inv X pins σ H s) (u:Un (frs X.stack) [] H H' s.heap h1) (hok:HOk X.prog X.w H' h1) (hch:∀b∈ch,H' b=none) (x:Lft h1 h' ch (frs X.stack)):HOk X.prog X.w H' h' :=
 qhm hok λb o hb1 q=>x.keep b o (λz=>by rw[hch b z]at hb1;cases hb1) (λz=>by
  obtain⟨_,o1,ho1,_⟩:=I.stack.mem z
  rw[u.free b o1 ho1 (I.stkFree b z) (by simp)]at hb1
  cases hb1) q
theorem qe1 {H':Hp} {h':Heap} {e:Addr} {o:HO} (u:Un (frs X.stack) [] H H' s.heap h') (he:s.heap.get? e=none) (hHe:H' e=none):Un (frs X.stack) [] H (upd H' e o) s.heap h':=by
 have ne:∀b ob,s.heap.get? b=some ob->b≠e:=λb ob q z=>by rw[z,he]at q;cases q
 have ne':∀b u,H' b=some u->b≠e:=λb u q z=>by rw[z,hHe]at q;cases q
 refine⟨u.keep,u.slot,λb ob q n hx=>by rw[qg (ne b ob q)];exact u.free b ob q n hx,u.there,λb xs q=>?_,λb ob w q=>?_,λb ps y q=>?_⟩
 ·have:=u.tups b xs q
  rw[qg (ne' b _ this)];exact this
 ·have:=u.frzs b ob w q
  rw[qg (ne' b _ this)];exact this
 ·have:=u.tbls b ps y q
  rw[qg (ne' b _ this)];exact this
theorem qcU {P:yag} {w:World} {H':Hp} {h':Heap} {e:Addr} {oe:Obj} (hok:HOk P w H' h') (hHe:H' e=none) (he:h'.get? e=some oe):HOk P w (upd H' e (.frz oe (.own e))) h':=λb ob q=>by
 by_cases hb:b=e
 ·subst hb
  rw[qi]at q
  cases q
  exact⟨he,oe,he⟩
 ·rw[qg hb]at q
  have ne':∀c u,H' c=some u->c≠e:=λc u q z=>by rw[z,hHe]at q;cases q
  exact(hok b ob q).stay (λ_ _ _ q=>q) (λc q=>by rw[qg (ne' c _ q)];exact q) (λc xs q=>by rw[qg (ne' c _ q)];exact q) λc ob y q=>by rw[qg (ne' c _ q)];exact q
end
def qiJ (RN:List Str) (f:MS) (F:List D->R D):MS:=λZ=>match f Z with
 | .exc x Z'=>if RN.contains x.cls then match F [.exc x.cls] with
   |.ok d => .ok (.rt d Z')
   |_ => .bad
  else .bad
 |r=>r
def reE(c:Fc)(E:Exn->Hp->Prop):Fc:={c with E:=E}
theorem Rep.reE{K:Fr0}{c:Fc}{E:Exn->Hp->Prop}{Z:Env}{σ:St}{H:Hp}(r:Rep K c Z σ H):Rep K (Sk.reE c E) Z σ H:=⟨r.len,r.val,r.own,r.inj,r.b0,r.kp,r.dm,r.pO,r.ps⟩
theorem Rep.unE{K:Fr0}{c:Fc}{E:Exn->Hp->Prop}{Z:Env}{σ:St}{H:Hp}(r:Rep K (Sk.reE c E) Z σ H):Rep K c Z σ H:=⟨r.len,r.val,r.own,r.inj,r.b0,r.kp,r.dm,r.pO,r.ps⟩
structure ql9 (K:Fr0) (base:Heap) (RN:List Str) (S:Addr):Prop where
 sup:∃bm,XC base S bm
 own:∀n C,clR K RN n=some C->∃bm,XC base C bm/\(yaf C::bm).contains (.ref S)=true
 ki:∀n C,clR K RN n=some C->XK6 K C
def ch(H6:Hp):Fc:=⟨[],[],λa=>H6 a=none,H6,λ_=>False,λ_ _=>False,λ_=>none,[]⟩
theorem qkG {K:Fr0} {n i:Nat} {H6:Hp} {σ:St} {d:D} {v:V} (hl:σ.length=n) (hi:∀{A:Addr->Prop},Is K A H6 d v) (tb:vV K H6):Rep K (ch H6) ((yan n none).set i (some d)) (σ.set i (some v)) H6:=by
 refine⟨by simp[hl],λj d' h=>?_,λj hj=>(nomatch hj),λj _ _ hj=>(nomatch hj),⟨λ_ h=>h,tb⟩,λ_ _ h _=>h,λ_ h=>h,λ_ h=>h,λj hj=>(nomatch hj)⟩
 rw[List.getElem?_set]at h
 split at h
 ·rename_i e
  subst e
  rw[yaX]at h
  split at h
  ·rename_i hlt
   cases h
   exact⟨v,List.getElem?_set_self (by rw[hl];exact hlt),.inr ⟨by simp[ch],hi⟩⟩
  ·cases h
 ·rw[List.getElem?_replicate]at h
  split at h<;>cases h
def w8 (RN:List Str) (n i:Nat) (f:MS) (g:M D):MS:=λZ=>match f Z with
 | .exc x Z'=>if RN.contains x.cls then match g ((yan n none).set i (some (.exc x.cls))) with
   |.ok (d,_) => .ok (.rt d Z')
   |_ => .bad
  else .bad
 |r=>r
theorem qce {X:Cx} {pins:List (Addr×Obj)} {σ:St} {H:Hp} {s:yaa} {n:Str} {c:Addr} {h':Heap} {tk:Nat} (I:Inv X pins σ H s) (hc:X.env.cells.lookup n=some c) (hfn:X.fn n=true) (hs:ybt c s.heap h') (hv:h'.IsCell c none) :
  Inv X pins (yan X.N.length none) H {s with heap:=h',toks:=tk}:=by
 obtain⟨m,hn0,_⟩:=id I.loc
 obtain⟨v0,oc,hoc,hocd⟩:=I.cell n c hc
 have big:=I.ok.cab n c hfn hc
 have ne:∀b o,X.s₀.heap.get? b=some o->b≠c:=λb o q=>yas (yay (yae q) big)
 refine⟨I.ok,I.os,I.bare,⟨λb o e q hb hx=>(hs.2 b (ne b o e)).trans (I.base.keep b o e q hb hx),λb o e q hb hx=>?_,I.base.free,λb o e hx=>?_,I.base.tups,I.base.frzs,I.base.tbls⟩,⟨m,hn0.sameBut hs (yaG (I.cne n c hc)),λj y v e1 e2 e3=>?_⟩,λy c' e=>?_,I.free,I.freeC,λp hp=>?_,λb ob e=>?_,by simp⟩
 ·obtain⟨sl,z⟩:=I.base.slot b o e q hb hx
  exact⟨sl,(hs.2 b (ne b o e)).trans z⟩
 ·obtain⟨o',z⟩:=I.base.there b o e hx
  exact⟨o',(hs.2 b (ne b o e)).trans z⟩
 ·rw[List.getElem?_replicate]at e2
  split at e2<;>cases e2
 ·by_cases q:c'=c
  ·subst q;exact⟨_,hv⟩
  ·obtain⟨w',z⟩:=I.cell y c' e
   exact⟨w',z.sameBut hs q⟩
 ·obtain⟨e,q,nl,nf,d⟩:=I.pin p hp
  refine⟨(hs.2 p.1 λz=>?_).trans e,q,nl,nf,d⟩
  rw[z,hoc]at e
  exact d v0 (by rw[<-yax e];exact hocd)
 ·refine(I.hok b ob e).stay (λb2 w' hb2 q=>(hs.2 b2 ?_).trans q) (λ_ q=>q) λ_ _ q=>q
  rintro rfl
  have z:=I.freeC n b2 hc
  rcases hb2 with rfl|hb2
  ·rw[z]at e;cases e
  ·rw[z]at hb2;cases hb2
theorem qe2 {X:Cx} {pins:List (Addr×Obj)} {σ:St} {H:Hp} {s:yaa} {n:Str} {i:Nat} {pos:Pos} {M:Model} {A:yal} {E:Value->yaa->Prop} {Q:Unit->yaa->Prop} (I:Inv X pins σ H s) (hN:X.N.Nodup) (hi:X.N[i]? = some n) (hx:X.env.scope.names.lookup n=some .cell) (hkn:X.env.kindOf n=some .cell) (hfn:X.fn n=true)
  (k:∀s',Inv X pins (yan X.N.length none) H s'->Q () s'):wpAny M A (do yex X.env n .none;yeD X.env n pos) Q E s:=by
 refine yab (yei (yY (v:=.non) (u:=.none) I hN hi (.inr hx) rfl (λs5 I5=>?_) (.inl hfn)))
 obtain⟨c,hc⟩:=I5.ok.has n (.inl hkn)
 obtain⟨m,hn,hl⟩:=id I5.loc
 have hil:i<σ.length:=by rw[I.len];exact(gI_.mp hi).1
 obtain⟨u,ru,lk⟩:=hl i n .non hi (List.getElem?_set_self hil) (.inr (.inl hx))
 have hcv:s5.heap.IsCell c (some u):=by
  rcases lk with⟨z,_⟩|⟨_,c',e,z⟩
  ·rw[hkn]at z;cases z
  ·rw[hc]at e;cases e;exact z
 unfold yeD
 refine ycE ?_
 unfold unbindName
 refine yab (wpAny_point (yab ?_))
 unfold deleteName
 simp only[hkn]
 refine yab (wpAny_cellOf hc (yab (wpAny_cellGet hcv ?_)))
 simp only[Option.isSome_some,if_true]
 exact wpAny_cellSet hcv λh' hv hs=>wpAny_point (k _ (qce (tk:=s5.toks) I5 hc hfn hs hv))
section
variable{X:Cx}{c:Fc}{pos np hpos p1 p2 p3 p4:Pos}{body:List Stmt}
theorem qmN {x n m:Str} {i:Nat} {S fm:Addr} {fd:yaH} {ps:List Str} {k:Nat} {F:List D->R D} {f:MS} {RN:List Str} (hN:X.N.Nodup) (hcx:X.stack=X.env::X.outer) (hf:X.env.frame=some X.env.locals)
  (hcl:ql9 X.K X.base RN S) (hgS:Gl X x) (hmS:X.mg x=some (.ref S))
  (G:qaN X.prog X.w X.K X.mg X.base CX0 k fm fd ps (spD X.K F)) (hr:jX k X.A) (hgm:Gl X m) (hmm:X.mg m=some (.ref fm)) (hkm:yai X.K (.ref fm)=true) (hbm:yy X.K fd ps [])
  (hb:∀(xe:Value->yaa->Prop)(pn:List (Addr×Obj))(E:XK)(cE:Exn->Hp->Prop),XL2 (toX X xe pn) (reE c cE) (clR X.K RN) E->DSs (toX X xe pn) (reE c cE) body f)
  (hi:X.N[i]? = some n:=by rfl) (hx:X.env.scope.names.lookup n=some .local:=by rfl) (hkn:X.env.kindOf n=some .local:=by rfl)
  (hdx:(x==("__debug__":Str))=false:=by decide) (hdm:(m==("__debug__":Str))=false:=by decide) (hdn:(n==("__debug__":Str))=false:=by decide) (hcn:(n==("__classdict__":Str))=false:=by decide)
  (hst:yac [.Name n p2] X.env=(false,eval (.Name n p2) X.env)::yac [] X.env:=by rfl) (hpl:(yaz p3 (yac [] X.env)).any (·.1)=false:=by rfl) :
  DS X c (.Try body [.ExceptHandler (some (.Name x np)) (some n) [.Return (some (.Call (.Name m p1) [.Name n p2] [] p3)) p4] hpos] [] [] pos) (qiJ RN f F):=by
 refine⟨λD σ H=>∃Z,Rep X.K c Z σ H/\WpS X.K c σ H D (qiJ RN f F Z),?_,λZ σ H D r h=>⟨Z,r,h⟩⟩
 rintro pins s σ H D I ⟨Z,r,w⟩
 refine wpAny_Try_except ?_
 have hk:=I.ok
 let xe:Value->yaa->Prop:=λe sQ=>wpAny (model X.prog X.w) X.A (ydm e X.env) (λ_ sK=>wpAny (model X.prog X.w) X.A (ycR e none) (λ_ sJ=>wpAny (model X.prog X.w) X.A (handleBy e X.env [.ExceptHandler (some (.Name x np)) (some n) [.Return (some (.Call (.Name m p1) [.Name n p2] [] p3)) p4] hpos]) (SP X pins D) X.xe sJ) X.xe sK) X.xe sQ
 let cE:Exn->Hp->Prop:=λz H'=>∃Z' σ',f Z=.exc z Z'/\Rep X.K c Z' σ' H'/\GrS c.O σ H σ' H'
 let E:XK:=λcv _ H'=>∃C z,cv=.ref C/\clR X.K RN z.cls=some C/\cE z H'
 have L:XL2 (toX X xe (X.pn++pins)) (reE c cE) (clR X.K RN) E:=by
  refine⟨?_,λz C H' h1 h2=>⟨C,z,rfl,h1,h2⟩⟩
  intro pins2 σ2 H2 s2 u s' I2 hx2
  obtain⟨e,T,C,H',rfl,os,bare,un,hok,he,hT,hHe,hHT,Fl,C',z,hC',hz,Z',σ',ef,r',g'⟩:=hx2
  have eC:C=C':=ydy hC'
  subst eC
  have I3:Inv X pins σ2 H2 s2:=jM I2
  have hz2:∀b∈[e,T],H' b=none:=λb hb=>by
   simp only[yaA,nN_,or_false]at hb
   rcases hb with rfl|rfl
   ·exact hHe
   ·exact hHT
  have hz3:∀b∈[e,T],s2.heap.get? b=none:=λb hb=>by
   simp only[yaA,nN_,or_false]at hb
   rcases hb with rfl|rfl
   ·exact he
   ·exact hT
  have hl:s'.heap.FunFrames X.base X.stack:=qaO I3 un
  have hA:X.A.frames=some (X.env::X.outer):=by rw[<-hcx];exact hk.frames
  show wpAny _ _ _ _ _ _
  rw[hcx]at hl
  refine wM hA hl hf Fl λh3 T3 y1 y2 y3=>?_
  rw[<-hcx]at y1
  have un3:Un (frs X.stack) [] H2 H' s2.heap h3:=qcT un hz3 y1
  have hok3:HOk X.prog X.w H' h3:=qaP I3 un hok hz2 y1
  have I4:Inv X pins σ2 H' {s' with heap:=h3}:=I3.call' (s':={s' with heap:=h3}) (ch:=[]) os un3 hok3 bare (λb hb=>nomatch hb)
  have up:∀b,s'.heap.get? b=none->s2.heap.get? b=none:=λb hb=>by
   cases q:s2.heap.get? b with
   |none=>rfl
   |some o=>
    obtain⟨o',q'⟩:=un.there b o q (by simp)
    rw[hb]at q';cases q'
  have hT3:s2.heap.get? T3=none:=y3.elim (λz=>z▸hT) (up T3)
  have hHT3:H' T3=none:=y3.elim (λz=>z▸hHT) λz=>by
   cases q:H' T3 with
   |none=>rfl
   |some o=>
    obtain⟨o',q'⟩:=yn (hok _ _ q)
    rw[z]at q';cases q'
  refine yeP (yeo ?_) (by intro q;cases q)
  refine vk (X:=hdX X e) (qcR e I4) hgS hmS ?_ hdx
  obtain⟨bmS,xS⟩:=hcl.sup
  obtain⟨bm,xC,hin⟩:=hcl.own _ _ hz
  obtain⟨nmS,qS,NS,bsS,hdctS,snS,subS,abS,colS,ddS,j0,j1,j2,j3,j5,newIdS,_,_,_,_,hS,_⟩:=xS.ex
  obtain⟨nm,q,N,bs,hdct,sn,sub,ab,col,dd,k0,k1,k2,k3,k5,newId,_,_,_,_,hC,_⟩:=xC.ex
  obtain⟨oe,vs,oT,ts,a0,hoe,hoc,hod,_⟩:=id y2
  refine uS (M:=model X.prog X.w) (A:=X.A.mark (some (.ref e))) (h:=h3) (g:=s'.gens) (d:=s'.drawn) (t:=s'.toks) (os:=s'.os) (I4.bk _ _ hC) (I4.bk _ _ hS) hoe hoc.1 xS.hasBase ?_
  rw[hin]
  show ybA _ _ _ _ _
  refine ydJ ?_
  have hl3:h3.FunFrames X.base X.stack:=qaO I3 un3
  refine qam (s:={s' with heap:=h3}) hl3 y2 λh4 T4 z1 z2 z3=>?_
  have hz4:∀b∈[e,T3],H' b=none:=λb hb=>by
   simp only[yaA,nN_,or_false]at hb
   rcases hb with rfl|rfl
   ·exact hHe
   ·exact hHT3
  have hz5:∀b∈[e,T3],s2.heap.get? b=none:=λb hb=>by
   simp only[yaA,nN_,or_false]at hb
   rcases hb with rfl|rfl
   ·exact he
   ·exact hT3
  have un4:Un (frs X.stack) [] H2 H' s2.heap h4:=qcT un3 hz5 z1
  have hok4:HOk X.prog X.w H' h4:=qaP I3 un3 hok3 hz4 z1
  obtain⟨oe4,vs4,oT4,ts4,a04,hoe4,hoc4,hod4,_⟩:=id z2
  have I5:Inv X pins σ2 (upd H' e (.frz oe4 (.own e))) {s' with heap:=h4}:=I3.call' (s':={s' with heap:=h4}) (ch:=[]) os (qe1 un4 he hHe) (qcU hok4 hHe hoe4) bare (λb hb=>nomatch hb)
  refine yY (v:=.ref e) I5 hN hi (.inl hx) rfl (λs5 I6=>?_) (.inr hx)
  have sm:jq H' (upd H' e (.frz oe4 (.own e))):=qA hHe _
  have hil:IsL X.K (λ_=>False) (upd H' e (.frz oe4 (.own e))) [.exc z.cls] [.ref e]:=⟨.ref e,[],rfl,⟨e,rfl,C,(vK hz).2,hcl.ki _ _ hz,oe4,vs4,qi,hoc4.1,hod4⟩,rfl⟩
  cases em:F [.exc z.cls] with
  |bad=>simp only[qiJ,ef,(vK hz).1,em,if_true]at w;exact w.elim
  |exc z' Z''=>simp only[qiJ,ef,(vK hz).1,em,if_true]at w;exact w.elim
  | ok d=>
   simp only[qiJ,ef,(vK hz).1,em,if_true]at w
   have hσl:i<σ2.length:=by rw[I5.len];exact(gI_.mp hi).1
   have call:=qaA (qd7 (pos:=p4) (qcQ (X:=hdX X e) (E:=λ_ _ _=>False) (pos:=p3) (p:=p1) G ⟨hr.dp,hr.un,hr.gd⟩ hgm hmm hkm hbm .nil (λ_ _ _ _ _ _ _ z=>z.elim) (zJ (zq (X:=hdX X e) (pos:=p2) hi (.inl hx) hdn hcn) yi hst) hdm hst hpl))
   have run:=call pins s5 _ _ ({nx:=λ_ _=>False,rt:=D.rt}:qdZ) (qcR e I6) ⟨.ref e,List.getElem?_set_self hσl,⟨e,oe4,.own e,vs4,rfl,qi,hod4,hoc4.2.1⟩,[.exc z.cls],λ_=>False,hil,r'.tb.same sm,by
    rw[em]
    exact λv H6 sm6 i6=>w v σ' H6 (r'.same (λb o q=>sm6 b o (sm b o q))) (Is.ext Ext.refl (λa ha _=>ha.elim (λz=>z.elim) λhn=>r'.b0.1 a (r'.dm a (sm.free hn))) i6) (g'.trans (Gr.of_same (λb o q=>sm6 b o (sm b o q))).s)⟩
   refine ya5 run (λfl s6 h6=>?_) (λ_ _ z=>z.elim)
   cases fl with
   |next=>obtain⟨_,_,_,z⟩:=h6;exact z.elim
   |brk=>obtain⟨_,_,_,z⟩:=h6;exact z.elim
   |cont=>obtain⟨_,_,_,z⟩:=h6;exact z.elim
   |ret u=>
    obtain⟨v,σ7,H7,I7,rv,q7⟩:=h6
    have I8:=qcS hk I7
    obtain⟨m8,hn8,_⟩:=id I8.loc
    exact wpAny_nameGoes hkn hn8 (by rw[hk.kind];rfl) λh9 m9 hn9 hs9=>⟨v,_,H7,qdF I8 hn9 hs9,rv,q7⟩
 obtain⟨t,p,wt⟩:=hb xe (X.pn++pins) E cE L
 have w':WpS X.K (reE c cE) σ H D (f Z):=by
  cases ef:f Z with
  |bad=>simp only[qiJ,ef]at w;exact w
  |exc z Z'=>exact λσ' H' r' g'=>⟨Z',σ',ef,r'.unE,g'⟩
  |ok fl=>
   simp only[qiJ,ef]at w
   cases fl with
   |nx Z'=>exact λσ' H' r' g'=>w σ' H' r'.unE g'
   |rt d Z'=>exact λv σ' H' r' i' g'=>w v σ' H' r'.unE i' g'
   |bk Z'=>exact λσ' H' r' g'=>w σ' H' r'.unE g'
   |ct Z'=>exact λσ' H' r' g'=>w σ' H' r'.unE g'
 have run:=p [] s σ H D (qhn I) (wt Z σ H D r.reE w')
 refine ya5 run (λfl s1 h1=>?_) (λ_ _ z=>z)
 cases fl with
 |next=>
  obtain⟨σ1,H1,I1,q1⟩:=h1
  exact ybS ⟨σ1,H1,jM I1,q1⟩
 |brk=>obtain⟨σ1,H1,I1,q1⟩:=h1;exact⟨σ1,H1,jM I1,q1⟩
 |cont=>obtain⟨σ1,H1,I1,q1⟩:=h1;exact⟨σ1,H1,jM I1,q1⟩
 |ret u=>obtain⟨v,σ1,H1,I1,rv,q1⟩:=h1;exact⟨v,σ1,H1,jM I1,rv,q1⟩
theorem qiK {x n:Str} {i:Nat} {S:Addr} {he:Expr} {f:MS} {g:M D} {RN:List Str} (hN:X.N.Nodup) (hcx:X.stack=X.env::X.outer) (hf:X.env.frame=some X.env.locals)
  (hcl:ql9 X.K X.base RN S) (hgS:Gl X x) (hmS:X.mg x=some (.ref S))
  (hh:∀(e:Addr)(H6:Hp),AloneA (X.A.mark (some (.ref e))) H6->DE (hdX X e) (ch H6) he g)
  (hb:∀(xe:Value->yaa->Prop)(pn:List (Addr×Obj))(E:XK)(cE:Exn->Hp->Prop),XL2 (toX X xe pn) (reE c cE) (clR X.K RN) E->DSs (toX X xe pn) (reE c cE) body f)
  (hi:X.N[i]? = some n:=by rfl) (hx:X.env.scope.names.lookup n=some .cell:=by rfl) (hkn:X.env.kindOf n=some .cell:=by rfl) (hfn:X.fn n=true:=by rfl)
  (hdx:(x==("__debug__":Str))=false:=by decide)  :
  DS X c (.Try body [.ExceptHandler (some (.Name x np)) (some n) [.Return (some he) p4] hpos] [] [] pos) (w8 RN X.N.length i f g):=by
 refine⟨λD σ H=>∃Z,Rep X.K c Z σ H/\WpS X.K c σ H D (w8 RN X.N.length i f g Z),?_,λZ σ H D r h=>⟨Z,r,h⟩⟩
 rintro pins s σ H D I ⟨Z,r,w⟩
 refine wpAny_Try_except ?_
 have hk:=I.ok
 let xe:Value->yaa->Prop:=λe sQ=>wpAny (model X.prog X.w) X.A (ydm e X.env) (λ_ sK=>wpAny (model X.prog X.w) X.A (ycR e none) (λ_ sJ=>wpAny (model X.prog X.w) X.A (handleBy e X.env [.ExceptHandler (some (.Name x np)) (some n) [.Return (some he) p4] hpos]) (SP X pins D) X.xe sJ) X.xe sK) X.xe sQ
 let cE:Exn->Hp->Prop:=λz H'=>∃Z' σ',f Z=.exc z Z'/\Rep X.K c Z' σ' H'/\GrS c.O σ H σ' H'
 let E:XK:=λcv _ H'=>∃C z,cv=.ref C/\clR X.K RN z.cls=some C/\cE z H'
 have L:XL2 (toX X xe (X.pn++pins)) (reE c cE) (clR X.K RN) E:=by
  refine⟨?_,λz C H' h1 h2=>⟨C,z,rfl,h1,h2⟩⟩
  intro pins2 σ2 H2 s2 u s' I2 hx2
  obtain⟨e,T,C,H',rfl,os,bare,un,hok,he,hT,hHe,hHT,Fl,C',z,hC',hz,Z',σ',ef,r',g'⟩:=hx2
  have eC:C=C':=ydy hC'
  subst eC
  have I3:Inv X pins σ2 H2 s2:=jM I2
  have hz2:∀b∈[e,T],H' b=none:=λb hb=>by
   simp only[yaA,nN_,or_false]at hb
   rcases hb with rfl|rfl
   ·exact hHe
   ·exact hHT
  have hz3:∀b∈[e,T],s2.heap.get? b=none:=λb hb=>by
   simp only[yaA,nN_,or_false]at hb
   rcases hb with rfl|rfl
   ·exact he
   ·exact hT
  have hl:s'.heap.FunFrames X.base X.stack:=qaO I3 un
  have hA:X.A.frames=some (X.env::X.outer):=by rw[<-hcx];exact hk.frames
  show wpAny _ _ _ _ _ _
  rw[hcx]at hl
  refine wM hA hl hf Fl λh3 T3 y1 y2 y3=>?_
  rw[<-hcx]at y1
  have un3:Un (frs X.stack) [] H2 H' s2.heap h3:=qcT un hz3 y1
  have hok3:HOk X.prog X.w H' h3:=qaP I3 un hok hz2 y1
  have I4:Inv X pins σ2 H' {s' with heap:=h3}:=I3.call' (s':={s' with heap:=h3}) (ch:=[]) os un3 hok3 bare (λb hb=>nomatch hb)
  have up:∀b,s'.heap.get? b=none->s2.heap.get? b=none:=λb hb=>by
   cases q:s2.heap.get? b with
   |none=>rfl
   |some o=>
    obtain⟨o',q'⟩:=un.there b o q (by simp)
    rw[hb]at q';cases q'
  have hT3:s2.heap.get? T3=none:=y3.elim (λz=>z▸hT) (up T3)
  have hHT3:H' T3=none:=y3.elim (λz=>z▸hHT) λz=>by
   cases q:H' T3 with
   |none=>rfl
   |some o=>
    obtain⟨o',q'⟩:=yn (hok _ _ q)
    rw[z]at q';cases q'
  refine yeP (yeo ?_) (by intro q;cases q)
  refine vk (X:=hdX X e) (qcR e I4) hgS hmS ?_ hdx
  obtain⟨bmS,xS⟩:=hcl.sup
  obtain⟨bm,xC,hin⟩:=hcl.own _ _ hz
  obtain⟨nmS,qS,NS,bsS,hdctS,snS,subS,abS,colS,ddS,j0,j1,j2,j3,j5,newIdS,_,_,_,_,hS,_⟩:=xS.ex
  obtain⟨nm,q,N,bs,hdct,sn,sub,ab,col,dd,k0,k1,k2,k3,k5,newId,_,_,_,_,hC,_⟩:=xC.ex
  obtain⟨oe,vs,oT,ts,a0,hoe,hoc,hod,_⟩:=id y2
  refine uS (M:=model X.prog X.w) (A:=X.A.mark (some (.ref e))) (h:=h3) (g:=s'.gens) (d:=s'.drawn) (t:=s'.toks) (os:=s'.os) (I4.bk _ _ hC) (I4.bk _ _ hS) hoe hoc.1 xS.hasBase ?_
  rw[hin]
  show ybA _ _ _ _ _
  refine ydJ ?_
  have hl3:h3.FunFrames X.base X.stack:=qaO I3 un3
  refine qam (s:={s' with heap:=h3}) hl3 y2 λh4 T4 z1 z2 z3=>?_
  have hz4:∀b∈[e,T3],H' b=none:=λb hb=>by
   simp only[yaA,nN_,or_false]at hb
   rcases hb with rfl|rfl
   ·exact hHe
   ·exact hHT3
  have hz5:∀b∈[e,T3],s2.heap.get? b=none:=λb hb=>by
   simp only[yaA,nN_,or_false]at hb
   rcases hb with rfl|rfl
   ·exact he
   ·exact hT3
  have un4:Un (frs X.stack) [] H2 H' s2.heap h4:=qcT un3 hz5 z1
  have hok4:HOk X.prog X.w H' h4:=qaP I3 un3 hok3 hz4 z1
  obtain⟨oe4,vs4,oT4,ts4,a04,hoe4,hoc4,hod4,_⟩:=id z2
  have I5:Inv X pins σ2 (upd H' e (.frz oe4 (.own e))) {s' with heap:=h4}:=I3.call' (s':={s' with heap:=h4}) (ch:=[]) os (qe1 un4 he hHe) (qcU hok4 hHe hoe4) bare (λb hb=>nomatch hb)
  refine yY (v:=.ref e) I5 hN hi (.inr hx) rfl (λs5 I6=>?_) (.inl hfn)
  have sm:jq H' (upd H' e (.frz oe4 (.own e))):=qA hHe _
  have al:AloneA (X.A.mark (some (.ref e))) (upd H' e (.frz oe4 (.own e))):=⟨e,oe4,.own e,vs4,rfl,qi,hod4,hoc4.2.1⟩
  have hσl:i<σ2.length:=by rw[I5.len];exact(gI_.mp hi).1
  have rh:=qkG (K:=X.K) (n:=X.N.length) (i:=i) (H6:=upd H' e (.frz oe4 (.own e))) (σ:=σ2) (d:=.exc z.cls) (v:=.ref e) I5.len ⟨e,rfl,C,(vK hz).2,hcl.ki _ _ hz,oe4,vs4,qi,hoc4.1,hod4⟩ (r'.tb.same sm)
  cases em:g ((yan X.N.length none).set i (some (.exc z.cls))) with
  |bad=>simp only[w8,ef,(vK hz).1,em,if_true]at w;exact w.elim
  |exc z' Z''=>simp only[w8,ef,(vK hz).1,em,if_true]at w;exact w.elim
  | ok dp=>
   obtain⟨d,Zd⟩:=dp
   simp only[w8,ef,(vK hz).1,em,if_true]at w
   obtain⟨te,pe,we⟩:=hh e _ al
   have call:=qaA (qd7 (pos:=p4) pe)
   have run:=call pins s5 _ _ ({nx:=λ_ _=>False,rt:=D.rt}:qdZ) (qcR e I6) (we _ _ _ _ rh (by
    rw[em]
    exact λv H6 r6 i6 _=>by
     have sm6:jq (upd H' e (.frz oe4 (.own e))) H6:=λb o q=>r6.kp b o q λz=>z
     exact w v σ' H6 (r'.same (λb o q=>sm6 b o (sm b o q))) (Is.ext Ext.refl (λa ha _=>r'.b0.1 a (r'.dm a (sm.free ha.1))) i6) (g'.trans (Gr.of_same (λb o q=>sm6 b o (sm b o q))).s)))
   refine ya5 run (λfl s6 h6=>?_) (λ_ _ z=>z.elim)
   cases fl with
   |next=>obtain⟨_,_,_,z⟩:=h6;exact z.elim
   |brk=>obtain⟨_,_,_,z⟩:=h6;exact z.elim
   |cont=>obtain⟨_,_,_,z⟩:=h6;exact z.elim
   |ret u=>
    obtain⟨v,σ7,H7,I7,rv,q7⟩:=h6
    have I8:=qcS hk I7
    exact qe2 I8 hN hi hx hkn hfn λs9 I9=>⟨v,_,H7,I9,rv,q7⟩
 obtain⟨t,p,wt⟩:=hb xe (X.pn++pins) E cE L
 have w':WpS X.K (reE c cE) σ H D (f Z):=by
  cases ef:f Z with
  |bad=>simp only[w8,ef]at w;exact w
  |exc z Z'=>exact λσ' H' r' g'=>⟨Z',σ',ef,r'.unE,g'⟩
  |ok fl=>
   simp only[w8,ef]at w
   cases fl with
   |nx Z'=>exact λσ' H' r' g'=>w σ' H' r'.unE g'
   |rt d Z'=>exact λv σ' H' r' i' g'=>w v σ' H' r'.unE i' g'
   |bk Z'=>exact λσ' H' r' g'=>w σ' H' r'.unE g'
   |ct Z'=>exact λσ' H' r' g'=>w σ' H' r'.unE g'
 have run:=p [] s σ H D (qhn I) (wt Z σ H D r.reE w')
 refine ya5 run (λfl s1 h1=>?_) (λ_ _ z=>z)
 cases fl with
 |next=>
  obtain⟨σ1,H1,I1,q1⟩:=h1
  exact ybS ⟨σ1,H1,jM I1,q1⟩
 |brk=>obtain⟨σ1,H1,I1,q1⟩:=h1;exact⟨σ1,H1,jM I1,q1⟩
 |cont=>obtain⟨σ1,H1,I1,q1⟩:=h1;exact⟨σ1,H1,jM I1,q1⟩
 |ret u=>obtain⟨v,σ1,H1,I1,rv,q1⟩:=h1;exact⟨v,σ1,H1,jM I1,rv,q1⟩
end
end L2.Sk
namespace L2.Sk
open PySem PySem.Spec PyProof.Rows PySem.W
def bmV:List Value:=[.type "ValueError",.type "Exception",.type "BaseException",.type "object"]
def qdG (K:Fr0) (C S:Addr):Bool:=match K.lookup C with
 |some ⟨_,_,.cls cd,_⟩=>cd.mro.contains (.ref S)
 |_=>false
theorem qcV {K:Fr0} {h:Heap} {C S:Addr} (X:K.In h) (q:excIn K C bmV "ValueError.__new__"=true) (hs:qdG K C S=true):∃bm,XC h C bm/\(yaf C::bm).contains (.ref S)=true:=by
 unfold excIn at q
 split at q
 ·rename_i dd cd sl ho
  split at q
  ·rename_i C' bm k0 k1 k2 k3 n k5 hm hl
   simp only[yau,beq_iff_eq,ycs]at q
   obtain⟨⟨⟨⟨⟨e1,e2⟩,hdel⟩,ht⟩,hok⟩,hni⟩:=q
   subst e1 e2
   unfold qdG at hs
   rw[ho]at hs
   dsimp only at hs
   rw[hm]at hs
   obtain⟨nm,bs,mro,ns,qn,hd,sn,sub,ab,col,del⟩:=cd
   dsimp only at hm hdel hok hni
   subst hm hdel
   have hz:sl = #[k0,k1,k2,k3,some (.builtin _),k5]:=Array.toList_inj.mp hl
   subst hz
   have hT:=tail_of_in X ht
   refine⟨bm,⟨hT.hasType (by decide +kernel),nm,qn,ns,bs,hd,sn,sub,ab,col,dd,k0,k1,k2,k3,k5,_,"ValueError.__init__","ValueError",bmV,_,X _ _ ho,.of_isNs (isNs_of_in X hok),nsMap_none_of_in X hok hni,hT,PySem.F.excBase_ValueError⟩,hs⟩
  ·cases q
 ·cases q
def qiL (K:Fr0) (D:Addr):Bool :=
 findIn K (.ref D) "__getattribute__"==some (some (.builtin "BaseException.__getattribute__"))&&findIn K (.ref D) "__getattr__"==some none &&
 findIn K (.ref D) "__class__"==some (some (.builtin "object.__class__"))&&mroIn K D (.type "object")==some true&&subIn K (.ref D) (.type "BaseException")==some true&&(clsIn K D).isSome &&
 (["int","bool","str","tuple","list","dict"].all λT=>kitOne K (.ref D) (.type T)==some false)
theorem qkH {K:Fr0} {D:Addr} (h:qiL K D=true):XK6 K D:=by
 unfold qiL at h
 simp only[yau,beq_iff_eq]at h
 obtain⟨⟨⟨⟨⟨⟨h1,h2⟩,h3⟩,h4⟩,h5⟩,h6⟩,h7⟩:=h
 exact⟨h1,h2,h3,h4,h5,h6,λT hT=>by simpa using List.all_eq_true.mp h7 T hT⟩
def qdH(n m:Str):Bool:=n==m||m=="SackError"
def qkI (K:Fr0) (S:Addr) (TN:List Str) (n:Str):Bool:=match zY K n with
 | some C=>excIn K C bmV "ValueError.__new__"&&qdG K C S&&qiL K C&&kitOne K (.ref C) (.type "ValueError")==some true &&
  TN.all λm=>match zY K m with
   |some Cm=>kitOne K (.ref C) (.ref Cm)==some (qdH n m)
   |none=>false
 |none=>false
def qma (K:Fr0) (RN TN:List Str):Bool:=match zY K "SackError" with
 |some S=>excIn K S bmV "ValueError.__new__"&&qdG K S S&&RN.all (qkI K S TN)
 |none=>false
structure XT (K:Fr0) (mg:Str->Option Value) (RN TN:List Str):Prop where
 all:qma K RN TN=true
 mgc:∀n C,zY K n=some C->mg n=some (.ref C)
theorem qgz {K:Fr0} {h:Heap} {mg:Str->Option Value} (X:K.In h) (G:h.Ns yah mg) (n:Str) (C:Addr) (e:zY K n=some C):mg n=some (.ref C):=by
 unfold zY at e
 split at e
 ·rename_i C' q
  cases e
  exact mg_of X G q
 ·cases e
section
variable{K:Fr0}{mg:Str->Option Value}{RN TN:List Str}
theorem XT.sup (t:XT K mg RN TN):∃S,zY K "SackError"=some S/\excIn K S bmV "ValueError.__new__"=true/\qdG K S S=true/\RN.all (qkI K S TN)=true:=by
 have h:=t.all
 unfold qma at h
 split at h
 ·rename_i S e
  simp only[yau]at h
  exact⟨S,e,h.1.1,h.1.2,h.2⟩
 ·cases h
theorem XT.row (t:XT K mg RN TN) {S:Addr} (hS:zY K "SackError"=some S) {n:Str} (hn:RN.contains n=true):qkI K S TN n=true:=by
 obtain⟨S',e,_,_,h⟩:=t.sup
 rw[hS]at e
 cases e
 exact List.all_eq_true.mp h n (by simpa using hn)
theorem XT.cls (t:XT K mg RN TN) {n:Str} {C:Addr} (h:clR K RN n=some C):zY K n=some C/\∃S,zY K "SackError"=some S/\excIn K C bmV "ValueError.__new__"=true/\qdG K C S=true/\XK6 K C/\kitOne K (.ref C) (.type "ValueError")=some true /\
  ∀m∈TN,∃Cm,zY K m=some Cm/\kitOne K (.ref C) (.ref Cm)=some (qdH n m):=by
 unfold clR at h
 split at h
 ·rename_i hn
  obtain⟨S,hS,_⟩:=t.sup
  have r:=t.row hS hn
  unfold qkI at r
  rw[h]at r
  simp only[yau,beq_iff_eq]at r
  obtain⟨⟨⟨⟨r1,r2⟩,r3⟩,r4⟩,r5⟩:=r
  refine⟨h,S,hS,r1,r2,qkH r3,r4,λm hm=>?_⟩
  have:=List.all_eq_true.mp r5 m hm
  split at this
  ·rename_i Cm e
   exact⟨Cm,e,by simpa using this⟩
  ·cases this
 ·cases h
theorem XT.has (t:XT K mg RN TN) {n:Str} (hn:RN.contains n=true):∃C,clR K RN n=some C:=by
 obtain⟨S,hS,_⟩:=t.sup
 have r:=t.row hS hn
 unfold qkI at r
 split at r
 ·rename_i C e
  exact⟨C,by unfold clR;rw[if_pos hn];exact e⟩
 ·cases r
theorem XT.ask (t:XT K mg RN TN) {n m:Str} (hn:RN.contains n=true) (hm:m∈TN):∃Cm,zY K m=some Cm:=by
 obtain⟨C,hC⟩:=t.has hn
 obtain⟨_,_,_,_,_,_,_,h⟩:=t.cls hC
 obtain⟨Cm,e,_⟩:=h m hm
 exact⟨Cm,e⟩
theorem XT.xcls (t:XT K mg RN TN) {base:Heap} (X:K.In base):∃S,mg "SackError"=some (.ref S)/\ql9 K base RN S:=by
 obtain⟨S,hS,h1,h2,_⟩:=t.sup
 refine⟨S,t.mgc _ _ hS,⟨(qcV X h1 h2).imp λbm h=>h.1,λn C h=>?_,λn C h=>?_⟩⟩
 ·obtain⟨_,S',hS',r1,r2,_⟩:=t.cls h
  rw[hS]at hS'
  cases hS'
  exact qcV X r1 r2
 ·obtain⟨_,_,_,_,_,r,_⟩:=t.cls h
  exact r
end
def qbW (RN:List Str) (m:Str) (f:M D):M D:=bnd f λd=>match d with
 |.exc n=>if RN.contains n then ret (.bl (m=="ValueError"||qdH n m))else λ_ => .bad
 |_=>λ_ => .bad
section
variable{X:Cx}{c:Fc}{a b e:Expr}{pos:Pos}{RN TN:List Str}
def qmO(K:Fr0)(RN:List Str)(m:Str)(Cm:V):List V->Hp->VK->Prop:=λxs H Q=>∃v n A,xs=[v,Cm]/\RN.contains n=true/\Is K A H (.exc n) v/\Q (.bl (m=="ValueError"||qdH n m)) H
theorem qcW {m:Str} {Cm:V} {um:Value} (hr:jp Cm um) (hu:∀u,jp Cm u->u=um) (hk:∀n C,zY X.K n=some C->RN.contains n=true->kitOne X.K (.ref C) um=some (m=="ValueError"||qdH n m)):yM X (.builtin "isinstance") (qmO X.K RN m Cm):=by
 intro pins s σ H xs us Q I r h
 obtain⟨v,n,A,rfl,hn,hi,q⟩:=h
 obtain⟨u,w,rfl,r1,r2⟩:=ze.two r
 rw[hu w r2]
 obtain⟨z,rfl,C,hC,h1,h2⟩:=hi
 cases (show u=yaf z from r1)
 exact qai I h1 h2 (hk n C hC hn) λtk=>⟨.bl _,H,I.tok tk,rfl,q⟩
theorem qe3 {m:Str} {f:M D} {t:TE} {Cm:V} (w:∀Z σ H Q,Rep X.K c Z σ H->Wp X.K c σ H Q (f Z)->t σ H Q):∀Z σ H Q,Rep X.K c Z σ H->Wp X.K c σ H Q (qbW RN m f Z)->tCB (qmO X.K RN m Cm) (qhV t (qhV (tC Cm) qlx)) σ H Q:=λZ σ H Q r h=>w Z σ H _ r (Wp.bnd h λd Z1 v H1 r1 i1 g1 h1=>by
 cases d with
 | exc n=>
  dsimp only at h1
  by_cases hn:RN.contains n=true
  ·rw[if_pos hn]at h1
   exact⟨v,n,_,rfl,hn,i1,h1 _ H1 r1 rfl .refl⟩
  ·rw[if_neg hn]at h1
   exact h1.elim
 |_=>exact h1.elim)
theorem uT {m:Str} {mgl:Str->Option Value} {p p2:Pos} {f:M D} (t:XT X.K X.mg RN TN) (hm:m∈TN) (hne:(m=="ValueError")=false) (hg:Gl X "isinstance") (hmi:X.mg "isinstance"=none) (hg2:Gl X m) (ha:DE X c a f)
  (hs:∃Cm,zY X.K m=some Cm)
  (hv:yaF "isinstance"=some (.builtin "isinstance"):=by first|rfl|exact PySem.boot_isinstance) (hdb2:(m==("__debug__":Str))=false:=by decide)
  (he:yac [a,.Name m p2] X.env=(false,eval a X.env)::yac [.Name m p2] X.env:=by rfl) (hpl:(yaz pos (yac [.Name m p2] X.env)).any (·.1)=false:=by rfl):DE X c (.Call (.Name "isinstance" p) [a,.Name m p2] [] pos) (qbW RN m f):=by
 obtain⟨ta,pa,w⟩:=ha
 obtain⟨Cm,hCm⟩:=hs
 refine⟨_,u4 (qcW (RN:=RN) (m:=m) (Cm:=.ref Cm) (um:=.ref Cm) rfl (λu h=>h) λn C hC hn=>?_) hg hmi hv (zJ pa (zJ (qay (v:=.ref Cm) hg2 (t.mgc m Cm hCm) rfl hdb2) yi (by rfl)) he) (by decide) (by decide) he hpl,qe3 w⟩
 have hcl:clR X.K RN n=some C:=by unfold clR;rw[if_pos hn];exact hC
 obtain⟨_,_,_,_,_,_,_,h⟩:=t.cls hcl
 obtain⟨Cm',e1,e2⟩:=h m hm
 rw[hCm]at e1
 cases e1
 rw[e2,hne];rfl
theorem qiM {p p2:Pos} {f:M D} (t:XT X.K X.mg RN TN) (hg:Gl X "isinstance") (hmi:X.mg "isinstance"=none) (hg2:Gl X "ValueError") (hm2:X.mg "ValueError"=none) (ha:DE X c a f)
  (hv:yaF "isinstance"=some (.builtin "isinstance"):=by first|rfl|exact PySem.boot_isinstance) (hv2:yaF "ValueError"=some (.type "ValueError"):=by rfl)
  (he:yac [a,.Name "ValueError" p2] X.env=(false,eval a X.env)::yac [.Name "ValueError" p2] X.env:=by rfl) (hpl:(yaz pos (yac [.Name "ValueError" p2] X.env)).any (·.1)=false:=by rfl):DE X c (.Call (.Name "isinstance" p) [a,.Name "ValueError" p2] [] pos) (qbW RN "ValueError" f):=by
 obtain⟨ta,pa,w⟩:=ha
 refine⟨_,u4 (qcW (RN:=RN) (m:="ValueError") (Cm:=.ty "ValueError") (um:=.type "ValueError") rfl (λu h=>h) λn C hC hn=>?_) hg hmi hv (zJ pa (zJ (qd6 (v:=.ty "ValueError") hg2 hm2 hv2 rfl (by decide) (by decide)) yi (by rfl)) he) (by decide) (by decide) he hpl,qe3 w⟩
 have hcl:clR X.K RN n=some C:=by unfold clR;rw[if_pos hn];exact hC
 obtain⟨_,_,_,_,_,_,h,_⟩:=t.cls hcl
 rw[h];rfl
end
section
variable{P:yag}{w:World}{K:yad}{mg:Str->Option Value}{base:Heap}
theorem qcX {x qual:Str} {st:Stmt} {f:Addr} {fd:yaH} {N ps:List Str} {k:Nat} {O:List Nat} {body:MS} (F:Fun K x qual st f fd) (S:qv N ps (qc st)) (hO:∀i∈O,ps.length<=i)
  (hb:∀(cdv:Value)(A:yal)(outer:List yaL)(s:yaa)(H:Hp)(E:XK)(B:Addr->Prop),yK k (A.deeper (yaU qual (qc st) s.heap.objs.size f cdv))->AloneA (A.deeper (yaU qual (qc st) s.heap.objs.size f cdv)) H ->
   DSs (qdD CX0 P w K mg base N qual (qc st) f cdv A outer s H E).nox (cfn O [] B H (λ_=>False) (λ_ _=>False) λ_=>none) (qt st) body) :
  qaN P w K mg base CX0 (k+1) f fd ps (spD K (dfn N.length ps.length body)):=by
 obtain⟨oc,od,kV,doc,pm,an,cdv,ct,osl,rfl,lk,hcd⟩:=F.ex
 refine qkF lk hcd S (λvs H Q E h=>?_) (λA outer s H vs Q E hr al h=>?_)
 ·obtain⟨ds,B,il,_,h⟩:=h
  unfold dfn at h
  by_cases e:ds.length=ps.length
  ·rw[il.length];exact e
  ·rw[if_neg e]at h;exact h.elim
 ·obtain ⟨ds,B,il,tb,h⟩:=h
  obtain⟨t,p,wt⟩:=hb cdv A outer s H E B hr al
  refine⟨t,p.nox,?_⟩
  unfold dfn at h
  by_cases e:ds.length=ps.length
  ·rw [if_pos e]at h
   refine wt (zB N.length ds) (qV N vs) H _ (u8 il tb (λi hi=>by rw[e];exact hO i hi)) ?_
   have same:∀{Z:Env}{σ:St}{H':Hp},Rep K (cfn O [] B H (λ_=>False) (λ_ _=>False) λ_=>none) Z σ H'->jq H H':=λr b o hb=>r.kp b o hb λz=>z
   cases eb:body (zB N.length ds) with
   |bad=>rw[eb]at h;exact h.elim
   |exc z Z=>rw[eb]at h;exact h.elim
   |ok fl=>
    rw[eb]at h
    cases fl with
    |nx Z=>exact λσ' H' r' _=>h .non H' (same r') rfl
    |rt d Z=>exact λv σ' H' r' i' _=>h v H' (same r') i'
    |bk Z=>exact h.elim
    |ct Z=>exact h.elim
  ·rw[if_neg e]at h;exact h.elim
structure qcf (P:yag) (w:World) (K:yad) (mg:Str->Option Value) (base:Heap) (k:Nat) (x:Str) (ps:List Str) (sp:Sp):Prop where
 ex:∃f fd,qaN P w K mg base CX0 k f fd ps sp/\mg x=some (.ref f)/\yai K (.ref f)=true/\yy K fd ps []
end
end L2.Sk
namespace L2.Sk
open PySem PySem.Spec PyProof.Rows
section
variable{Z:Env}{f g:M D}{l:M (List D)}{p q:MS}{RN:List Str}
theorem qaQ (F:List D->R D):zN RN F l Z=match l Z with|.ok (xs,Z1)=>(match F xs with|.ok d => .ok (d,Z1)|.exc x _=>(if RN.contains x.cls then .exc x Z1 else .bad)|.bad => .bad)|.exc x Z' => .exc x Z'|.bad => .bad:=by
 simp only[zN,bnd]
 cases l Z with
 |ok z=>obtain⟨z1,Z1⟩:=z;cases F z1<;>rfl
 |exc x Z'=>rfl
 |bad=>rfl
theorem qgA(x:Str):uR x l Z=match l Z with|.ok (ds,Z')=>(if qF ds.length then .exc ⟨x,.non⟩ Z' else .bad)|.exc z Z' => .exc z Z'|.bad => .bad:=rfl
theorem qkJ (m:Str):qbW RN m f Z=match f Z with|.ok (.exc n,Z1)=>(if RN.contains n then .ok (.bl (m=="ValueError"||qdH n m),Z1)else .bad)|.ok _ => .bad|.exc x Z' => .exc x Z'|.bad => .bad:=by
 simp only[qbW,bnd]
 cases f Z with
 |ok z=>
  obtain⟨z1,Z1⟩:=z
  cases z1<;>first|rfl|(dsimp only;split<;>rfl)
 |exc x Z'=>rfl
 |bad=>rfl
end
theorem qdI {n p:Nat} {body:MS} {ds:List D} {d:D} (h:ds.length=p) (e:∃Z,body (zB n ds)=.ok (.rt d Z)):wN n p body ds=.ok d:=by
 obtain⟨Z,e⟩:=e
 unfold wN;rw[if_pos h,e]
theorem qkK {n p:Nat} {body:MS} {ds:List D} (h:ds.length=p) (e:∃Z,body (zB n ds)=.ok (.nx Z)):wN n p body ds=.ok .non:=by
 obtain⟨Z,e⟩:=e
 unfold wN;rw[if_pos h,e]
theorem qho {n p:Nat} {body:MS} {ds:List D} {x:Exn} {Z:Env} (h:ds.length=p) (e:body (zB n ds)=.exc x Z):wN n p body ds=.exc x Z:=by
 unfold wN;rw[if_pos h,e]
theorem qan{p q:MS}{Z Z':Env}{x:Exn}(h:p Z=.exc x Z'):qJ p q Z=.exc x Z':=by unfold qJ;rw[h]
def unO(_:Nat)(c:Fc):Fc:={c with O:=[],P:=[],B:=λ_=>True}
theorem Gr.unSame{c:Fc}{σ:St}{H H':Hp}{i:Nat}(g:Gr (unO i c).O σ H H'):jq H H':=λb o h=>g.ext.at_ b o (λj hj=>by cases hj) h
theorem Rep.un {K:Fr0} {c:Fc} {Z:Env} {σ:St} {H:Hp} {i:Nat} (r:Rep K c Z σ H) (_:i∈c.O) (hJ:c.J=[]):Rep K (unO i c) Z σ H:=by
 have all:∀b:Addr,Cn (unO i c) σ b:=λb=>⟨trivial,λj hj=>by cases hj⟩
 refine⟨r.len,λk d hk=>?_,λj hj=>(by cases hj),λk j a hk=>(by cases hk),⟨λ_ _=>trivial,r.b0.2⟩,r.kp,r.dm,λj hj=>(by cases hj),λj hj=>(by cases hj)⟩
 obtain⟨v,h1,h2⟩:=r.val k d hk
 refine⟨v,h1,.inr ⟨λz=>(by cases z),?_⟩⟩
 rcases h2 with⟨hk2,ds,a,xs,h3,h5,h6,h7⟩|⟨hk2,h3⟩
 ·subst h5
  obtain⟨t,xs⟩:=xs
  cases t with
  |d C dx l=>have:=h3.2.1;rw[hJ]at this;cases this
  |l=>
   cases (show d=.lst ds from h3)
   exact⟨a,xs,rfl,all a,h6,IsL.ext Ext.refl (λb _ _=>all b) h7⟩
 ·exact Is.ext Ext.refl (λb _ _=>all b) h3
theorem Gr.un{c:Fc}{σ:St}{H H':Hp}{i:Nat}(g:Gr (unO i c).O σ H H'):Gr c.O σ H H':=.of_same g.unSame
theorem Rep.re{K:Fr0}{c:Fc}{Z:Env}{σ:St}{H H':Hp}{i:Nat}(r:Rep K c Z σ H)(_:i∈c.O)(_:Rep K (unO i c) Z σ H')(g:Gr (unO i c).O σ H H'):Rep K c Z σ H':=r.same g.unSame
open Classical in
noncomputable def qe4 (f:M D):M D:=λZ=>match f Z with
 |.ok (d,Z')=>if imm d=true/\Z'=Z then .ok (d,Z)else .bad
 |.exc x Z'=>if Z'=Z then .exc x Z else .bad
 |.bad => .bad
open Classical in
open Classical in
section
variable{X:Cx}{c:Fc}{e:Expr}{pos:Pos}
theorem qiN {i:Nat} {f:M D} (h:DE X (unO i c) e f) (ho:i∈c.O:=by exact of_decide_eq_true rfl) (hJ:c.J=[]:=by rfl):DE X c e (qe4 f):=by
 obtain⟨t,p,w⟩:=h
 refine⟨t,p,λZ σ H Q r h=>w Z σ H Q (r.un ho hJ) ?_⟩
 unfold qe4 at h
 cases ef:f Z with
 |bad=>rw[ef]at h;exact h.elim
 | exc x Z'=>
  rw[ef]at h
  simp only at h
  split at h
  ·rename_i e1
   subst e1
   exact λH' r' g'=>h H' (r.re ho r' g') g'.un
  ·exact h.elim
 | ok q=>
  obtain⟨d,Z'⟩:=q
  rw[ef]at h
  simp only at h
  split at h
  ·rename_i e1
   obtain⟨e1,e2⟩:=e1
   subst e2
   exact λv H' r' i' g'=>h v H' (r.re ho r' g') (Is.imm e1 i') g'.un
  ·exact h.elim
end
section
variable{Z:Env}{f:M D}{t:M Bool}{n:M (List D)}
open Classical in
theorem qiO:qe4 f Z=match f Z with|.ok (d,Z')=>(if imm d=true/\Z'=Z then .ok (d,Z)else .bad)|.exc x Z'=>(if Z'=Z then .exc x Z else .bad)|.bad => .bad:=rfl
end
theorem qmb {f:M D} {Z:Env} {d:D} (h:f Z=.ok (d,Z)) (hi:imm d=true):qe4 f Z=.ok (d,Z):=by
 rw[qiO,h]
 exact if_pos ⟨hi,rfl⟩
theorem qaR:entryFor table "proto.unchain"=some ydP.«proto.unchain»:=entryFor_of_fast (by kernel_rfl)
theorem qaS:plainId "proto.unchain"=true:=by kernel_rfl
section
variable{prog:yag}{w:World}{A:yal}{E:Value->yaa->Prop}{s:yaa}
theorem qaT {x h:Value} {e:Addr} {o:Obj} {vs:Array Value} {Q:Value->yaa->Prop} (he:s.heap.get? e=some o) (hd:o.data=.fields vs) (h2:vs[2]? = some .none) (q:Q .none s) :
  wpAny (model prog w) A (runValue (.builtin "proto.unchain" ⟨[x,.ref e,h,.bool false],[]⟩)) Q E s:=by
 refine wpAny_runValue (yc5 qaR ?_)
 rw[yc9 qaS _]
 show wpAny _ A.in1 (field (.ref e) 2 >>= _) _ _ s
 refine yab (yaJ he hd h2 ?_)
 rw[if_pos (show(yaB==yaB)=true by decide)]
 exact yam q
theorem qcg {it e:Addr} {o:Obj} {vs:Array Value} {x left step:Int} {Q:Option Value->yaa->Prop} (hh:A.handled=some (.ref e)) (he:s.heap.get? e=some o) (hd:o.data=.fields vs) (h2:vs[2]? = some .none)
  (hit:ycu s.heap it x left step) (hleft:left<=0) (q:∀h',Heap.ExtBut it s.heap h'->Q none {s with heap:=h' }):wpAny (model prog w) A (yct (.ref it)) Q E s:=by
 have ty:s.TypeIs (.ref it) "range_iterator":=⟨_,hit,rfl⟩
 unfold yct
 refine yab (ycF (wpAny_callSpecial?_slot (name:=ybi "__next__") ty ycK (ya2 ycK ty PySem.F.entry_range_iterator_next ?_ (PySem.F.args_range_iterator_next_1 _))))
 show wpAny (model prog w) _ (field (yaf it) 0 >>= _) _ _ s
 refine yab (yaJ hit rfl (x:=ybK x) rfl (yab (yaJ hit rfl (x:=ybK left) rfl (yab (yaJ hit rfl (x:=ybK step) rfl ?_)))))
 show wpAny (model prog w) _ (if left<=0 then _ else _) _ _ s
 rw[if_pos hleft]
 refine yab (ycV (yab ?_))
 show wpAny (model prog w) _ (newExc (.type "StopIteration") [] >>= _) _ _ _
 simp only[newExc,newTuple]
 refine yab (yab (yaM ?_ (by size_fits)))
 refine yab (m:=ydh _ _) (wpAny_of_eq (a:=yaB) (by first|rfl|(simp only[ydh];rfl)) (yaM ?_ (by size_fits)))
 simp only[raiseNew]
 refine yab (wpAny_handled ?_)
 rw[show A.in1.handled=some (.ref e)from hh]
 have le:e<s.heap.objs.size:=yae he
 have sz:(s.heap.push {cls:=ya1 "tuple",data:=yb4 #[]}).objs.size=s.heap.objs.size+1:=by simp[Heap.push]
 have ne:(yaf e != yaf (s.heap.push {cls:=ya1 "tuple",data:=yb4 #[]}).objs.size)=true:=by
  rw[bne_iff_ne]
  intro z
  have z':=ydy z
  rw[sz]at z'
  exact absurd (z'▸le) (Nat.not_lt.mpr (yfm _))
 show wpAny _ _ (if(yaf e != yaf (s.heap.push {cls:=ya1 "tuple",data:=yb4 #[]}).objs.size)=true then _ else _) _ _ _
 rw[if_pos ne]
 refine yab (ybQ (qaT (Heap.get?_push_of_some _ (Heap.get?_push_of_some _ he)) hd h2 ?_))
 show wpAny _ _ (setField (.ref (s.heap.push {cls:=ya1 "tuple",data:=yb4 #[]}).objs.size) 2 (.ref e) >>= _) _ _ _
 refine yab (ybY (Heap.get?_push_size _ rfl) rfl (by show 2<_;simp;omega) (wpAny_throw ?_))
 have hn:((s.heap.push {cls:=ya1 "tuple",data:=yb4 #[]}).push {cls:=ya1 "StopIteration",data:=yb6 (#[yaf s.heap.objs.size,yaB,yaB,yaB,ybR false,yaB]++ownMembersOf (ya1 "StopIteration") [])}).get? (s.heap.push {cls:=ya1 "tuple",data:=yb4 #[]}).objs.size=some {cls:=ya1 "StopIteration",data:=yb6 (#[yaf s.heap.objs.size,yaB,yaB,yaB,ybR false,yaB]++ownMembersOf (ya1 "StopIteration") [])}:=Heap.get?_push_size _ rfl
 refine yab (ycJ (T:="StopIteration") (b:=true) ⟨_,Heap.get?_update_self _ hn rfl,rfl⟩ yem ?_)
 refine yam (q _ λb ob hb g=>?_)
 have lb:b<s.heap.objs.size:=yae g
 refine(Heap.get?_update_other _ _ (λz=>?_)).trans (Heap.get?_push_of_some _ (Heap.get?_push_of_some _ g))
 rw[sz]at z
 exact absurd (z▸lb) (Nat.not_lt.mpr (yfm _))
end
theorem AloneA.laid {A:yal} {H:Hp} {p:Addr} {o:HO} (x:AloneA A H) (h:H p=none):AloneA A (upd H p o):=by
 obtain⟨e,oe,u,vs,h1,h2,h3⟩:=x
 exact⟨e,oe,u,vs,h1,by rw[qg (qr h2 h)];exact h2,h3⟩
theorem AloneA.rep {K:Fr0} {c:Fc} {A:yal} (x:AloneA A c.H0) (hio:∀a,¬c.Io a) (Z:Env) (σ:St) (H:Hp) (r:Rep K c Z σ H):AloneA A H:=by
 obtain⟨e,oe,u,vs,h1,h2,h3⟩:=x
 exact⟨e,oe,u,vs,h1,r.kp _ _ h2 (hio e),h3⟩
theorem AloneA.cin {K:Fr0} {A:yal} {B0:Addr->Prop} {H1 H:Hp} {acc:Addr} {S':Nat->Option (Option V)} {O' J':List Nat} {Io':Addr->Prop} {Z:Env} {σ:St} (x:AloneA A H1) (hn:H1 acc=none) (hio:∀a,¬Io' a) (r:Rep K (Sk.cin B0 H1 O' J' Io' acc S') Z σ H):AloneA A H:=by
 obtain⟨e,oe,u,vs,h1,h2,h3⟩:=x
 have ne:e≠acc:=qr h2 hn
 exact⟨e,oe,u,vs,h1,r.kp e _ (show upd H1 acc (.lst []) e=_ by rw[qg ne];exact h2) (λz=>z.elim (hio e) ne),h3⟩
end L2.Sk
namespace L2
open PySem PySem.Spec PyProof.Rows L2.Sk
structure qkL (P:yag) (w:World) (K:yad) (tg:Expr) (J:It) (fp:List Addr) (it:Addr) (tn:Nat->Heap->Prop):Prop where
 mem:it∈fp
 obj:∀i h,tn i h->∀b∈fp,∃o,h.get? b=some o/\∀v,o.data ≠ .cell v
 keep:∀i h h',tn i h->(∀b∈fp,∀o,h.get? b=some o->h'.get? b=some o)->tn i h'
 item:∀(X:Cx),X.prog=P->X.w=w->X.K=K->AloneA X.A X.H₀->∀(i:Nat)(pins:List (Addr×Obj))(s:yaa)(σ:St)(H:Hp)(E:Value->yaa->Prop),Inv X pins σ H s->(∀b∈fp,qbc X pins H b)->tn i s.heap->J.go i H ->
  wpAny (model P w) X.A (yct (.ref it)) (λr s1=>∃u,r=some u /\
   wpAny (model P w) X.A (ybT tg (.ref it) u) (λ_ s2=>∃x H',Inv X pins σ H' s2/\jp x u/\J.yld i H x H'/\tn (i+1) s2.heap/\∀b∈fp,H' b=none) E s1) E s
 done:∀(X:Cx),X.prog=P->X.w=w->X.K=K->AloneA X.A X.H₀->∀(i:Nat)(pins:List (Addr×Obj))(s:yaa)(σ:St)(H:Hp)(E:Value->yaa->Prop),Inv X pins σ H s->(∀b∈fp,qbc X pins H b)->tn i s.heap->J.stop i H ->
  wpAny (model P w) X.A (yct (.ref it)) (λr s1=>r=none/\Inv X pins σ H s1) E s
 self:∀(A:yal)(i:Nat)(s:yaa)(Q:Value->yaa->Prop)(E:Value->yaa->Prop),tn i s.heap->Q (.ref it) s->wpAny (model P w) A (yeU (.ref it)) Q E s
def qmP (X:Cx) (pins:List (Addr×Obj)) (σ:St) (tg:Expr) (R:It->Hp->Prop) (itv:Value) (s2:yaa):Prop :=
 ∃(it:Addr)(fp:List Addr)(tn:Nat->Heap->Prop)(J:It)(H':Hp),itv=.ref it/\Inv X pins σ H' s2/\qkL X.prog X.w X.K tg J fp it tn/\tn 0 s2.heap/\(∀b∈fp,qbc X pins H' b)/\R J H'
def PIH (X:Cx) (tg iter:Expr) (wi:TI):Prop :=
 ∀ (pins:List (Addr×Obj)) (s:yaa) (σ:St) (H:Hp) (R:It->Hp->Prop),Inv X pins σ H s->wi σ H R ->
  wpAny (model X.prog X.w) X.A (eval iter X.env) (λv s1=>wpAny (model X.prog X.w) X.A (yeU v) (qmP X pins σ tg R) X.xe s1) X.xe s
theorem qch {P:yag} {w:World} {K:yad} {tg:Expr} (it:Addr) (lo:Int) (n:Nat):qkL P w K tg (Itr lo n) [it] it (λi h=>ycu h it (lo+(i:Nat)*1) ((n:Int)-(i:Nat)) 1) where
 mem:=by simp
 obj:=λi h st b hb=>by
  have e:b=it:=by simpa using hb
  subst e
  exact ⟨_,st,λv z=>by
   have z':yb6 _=ycc v:=z
   cases z'⟩
 keep:=λi h h' st k=>k it (by simp) _ st
 item:=by
  intro X hP hw hK hc i pins s σ H E I hf st hg
  subst hP hw hK
  obtain⟨f0,f1,f2,f3,f4,f5⟩:=hf it (by simp)
  refine wpAny_pyNext_range_item st (by have:i<n:=hg;omega) λh' st1 sb=>?_
  have st':ycu h' it (lo+((i+1:Nat):Int)*1) ((n:Int)-((i+1:Nat):Int)) 1:=by
   have e1:lo+((i+1:Nat):Int)*1=lo+(i:Nat)*1+1:=by omega
   have e2:(n:Int)-((i+1:Nat):Int)=(n:Int)-(i:Nat)-1:=by omega
   rw[e1,e2];exact st1
  have I1:Inv X pins σ H {s with heap:=h',toks:=s.toks+1}:=I.turned (λb o hb e=>(sb.2 b hb).trans e) f0 f1 f3 f4 f5
  refine⟨_,rfl,qd8 (s:={s with heap:=h',toks:=s.toks+1}) (n:="range_iterator") st' rfl rfl (by decide) ⟨.int (lo+i),H,I1,⟨s.toks,?_⟩,⟨rfl,rfl⟩,st',λb hb=>(hf b hb).1⟩⟩
  rw[Int.mul_one]
 done:=by
  intro X hP hw hK hc i pins s σ H E I hf st hg
  subst hP hw hK
  obtain⟨f0,f1,f2,f3,f4,f5⟩:=hf it (by simp)
  obtain⟨e,oe,u,vs,hh,hHe,hde,h2⟩:=hc
  have hoe:s.heap.get? e=some oe:=(I.hok e _ (I.base.frzs e oe u hHe)).1
  exact qcg hh hoe hde h2 st (by have:n<=i:=hg;omega) λh' eb=>⟨rfl,I.turned (t':=s.toks) (λb o hb e=>eb b o hb e) f0 f1 f3 f4 f5⟩
 self:=λ_ _ _ _ _ st h=>yed st h
section
variable{X:Cx}{tg:Expr}
theorem qe5 {pins:List (Addr×Obj)} {σ:St} {H:Hp} {s:yaa} {R:It->Hp->Prop} {E:Value->yaa->Prop} {lo hi:Int} {t u v:Tok} {tk:Nat} (I:Inv X pins σ H s) (h1 : -(2 ^ 62)<=lo) (h2:lo<2 ^ 62) (h3 : -(2 ^ 62)<=hi) (h4:hi<2 ^ 62)
  (q:R (Itr lo (hi-lo).toNat) H):wpAny (model X.prog X.w) X.A (yeU (.ref s.heap.objs.size)) (qmP X pins σ tg R) E {s with heap:=s.heap.push {cls:=.type "range",data:=.fields #[.int lo t,.int hi u,.int 1 v]},toks:=tk}:=by
 refine yeV (IsRange.new ..) (small_one h1 h2 h3 h4) ?_
 have I1:Inv X pins σ H {s with heap:=s.heap.push {cls:=.type "range",data:=.fields #[.int lo t,.int hi u,.int 1 v]},toks:=tk}:=I.kept λb o e=>Heap.get?_push_of_some _ e
 refine ⟨(s.heap.push {cls:=.type "range",data:=.fields #[.int lo t,.int hi u,.int 1 v]}).objs.size,[(s.heap.push {cls:=.type "range",data:=.fields #[.int lo t,.int hi u,.int 1 v]}).objs.size],_,_,H,rfl,
  I1.kept (t':=tk) λb o e=>Heap.get?_push_of_some _ e,qch _ lo (hi-lo).toNat,?_,λb hb=>?_,q⟩
 ·have e1:lo+((0:Nat):Int)*1=lo:=by simp
  have e2:(((hi-lo).toNat:Nat):Int)-((0:Nat):Int)=yd1 lo hi 1:=by rw[rangeSize_one];split<;>omega
  show ycu _ _ (lo+((0:Nat):Int)*1) ((((hi-lo).toNat:Nat):Int)-((0:Nat):Int)) 1
  rw[e1,e2]
  exact Heap.get?_push_size _ rfl
 ·have e:b=(s.heap.push {cls:=.type "range",data:=.fields #[.int lo t,.int hi u,.int 1 v]}).objs.size:=by simpa using hb
  subst e
  exact I1.fpOk (yak _) (I1.hok.fresh (yak _))
theorem qdJ {a:Expr} {ta:TA} {p pos:Pos} (hg:Gl X "range") (hm:X.mg "range"=none) (ha:PA X [a] ta) (hs:yac [a] X.env=[(false,eval a X.env)]:=by rfl):PIH X tg (.Call (.Name "range" p) [a] [] pos) (qjK ta):=by
 intro pins s σ H R I h
 refine Call_ (v7 I hg hm boot_range (ybc (thn (ha pos pins s σ H _ I h) λus s1 ⟨vs,H1,I1,r1,q1⟩=>?_) hs rfl))
 obtain⟨j,e,q1,q2,q⟩:=q1
 subst e
 cases r1 with
 |cons r rr=>
  cases rr
  obtain⟨t,rfl⟩:=r
  exact call_range_1 (qe5 I1 (by omega) (by omega) q1 q2 (by simpa using q))
end
end L2
namespace L2.Sk
open PySem PySem.Spec PyProof.Rows
def qkM (X:Cx) (tg:Expr) (ifs:List Expr) (elt:Expr) (scope:Scope) (N':List Str) (wi:TI) (nt:Nat) (fr:List Nat):TE:=λσ H Q=>wi σ H λJ H1=>AloneA X.A H1/\∀acc fp cl C s₀ H₀ pn,H1 acc=none ->
 ∃(g:TG)(tt:TT)(te:TE),PG (zr X scope N' fp cl C s₀ H₀ pn) tg g/\PF (zr X scope N' fp cl C s₀ H₀ pn) ifs tt/\PE (zr X scope N' fp cl C s₀ H₀ pn) elt te /\
 ∃W:Nat->Nat->St->Hp->Prop,(∃m,W 0 m (qM nt fr σ) (upd H1 acc (.lst []))) /\
 ∀ i m σ' H',W i m σ' H'->(J.stop i H'/\Q (.ref acc) H')\/(J.go i H'/\∀x H'',J.yld i H' x H''->g x σ' H'' λσ2 H2=>tt σ2 H2 λb H3=>
  if b=true then te σ2 H3 λy H4=>∃ys,H4 acc=some (.lst ys)/\ys.length<yao/\∃m',m'<m/\W (i+1) m' σ2 (upd H4 acc (.lst (ys++[y])))else ∃m',m'<m/\W (i+1) m' σ2 H3)
section
variable{X:Cx}{tg iter elt:Expr}{ifs:List Expr}{scope:Scope}{pos:Pos}{wi:TI}{N':List Str}{nt:Nat}{fr:List Nat}
theorem qgB (hi:PIH X tg iter wi) (S:yj X scope N' nt fr)
  (hs:∀x,ybF iter X.env x=pure x:=by intro _;rfl):PE X (.ListComp elt [⟨tg,iter,ifs,0⟩] scope pos) (qkM X tg ifs elt scope N' wi nt fr):=by
 intro pins s σ H Q I hw
 obtain⟨cl,hcl,cl1,cl2⟩:=u5 (env:=X.env) (scope:=scope) (λy hy hf=>I.ok.has y.1 (.inl (S.frees y hy hf)))
 rw[eval_ListComp]
 refine ydW (use:=none) rfl hs hcl S.kind S.names (thn (hi pins s σ H _ I hw) λv s1 h1=>thn h1 λitv s2 h2=>?_)
 obtain⟨it,fp,tn,J,H2,e,I2,T,st2,f2,hal,hR⟩:=h2
 subst e
 have hacc:H2 s2.heap.objs.size=none:=I2.hok.fresh (yak _)
 have hc:AloneA X.A (upd H2 s2.heap.objs.size (.lst [])):=Sk.AloneA.laid hal hacc
 refine yaM (yeC S.nocell (by intro y hy;simp at hy) (λh₁ hns1 hsb1=>?_) S.kind)
 dsimp only at hns1 hsb1 |-
 have I3:Inv X pins σ (upd H2 s2.heap.objs.size (.lst [])) {s2 with heap:=s2.heap.push {cls:=.type "list",dict:=none,data:=.seq ([]:List Value).toArray} } :=
  I2.lnew (t':=s2.toks) (its:=[]) .nil (ybs _)
 generalize hs3:({s2 with heap:=s2.heap.push {cls:=.type "list",dict:=none,data:=.seq ([]:List Value).toArray} }:yaa)=s3 at I3
 have hh3:s2.heap.push {cls:=.type "list",dict:=none,data:=.seq ([]:List Value).toArray}=s3.heap:=by rw[<-hs3]
 rw[hh3]at hns1 hsb1
 have old:∀b o,s3.heap.get? b=some o->h₁.get? b=some o:=λb o q=>hsb1.extBut b o (yas (yae q)) (Heap.get?_push_of_some _ q)
 have objs2:∀b∈fp,∃o,s2.heap.get? b=some o:=λb hb=>by
  obtain⟨o,q,_⟩:=T.obj 0 _ st2 b hb
  exact⟨o,q⟩
 have keep23:∀b o,s2.heap.get? b=some o->s3.heap.get? b=some o:=λb o q=>by rw[<-hh3];exact Heap.get?_push_of_some _ q
 have fpne:∀b∈fp,b≠s2.heap.objs.size:=λb hb=>by
  obtain⟨o,q⟩:=objs2 b hb
  exact yas (yae q)
 have f3:∀b∈fp,qbc X pins (upd H2 s2.heap.objs.size (.lst [])) b:=λb hb=>⟨by rw[qg (fpne b hb)];exact(f2 b hb).1,(f2 b hb).2⟩
 have J0:Inv (zr X scope N' fp cl s3.heap.objs.size s3 (upd H2 s2.heap.objs.size (.lst [])) (X.pn++pins)) [] (qM nt fr σ) (upd H2 s2.heap.objs.size (.lst [])) {s3 with heap:=h₁,toks:=s3.toks} :=
  qaj S I3 f3 (λb hb=>(objs2 b hb).imp λo q=>keep23 b o q) cl1 cl2 ⟨_,hns1⟩ old
 obtain⟨g,tt,te,hg,hf,he,W,⟨m0,w0⟩,turn⟩:=hR s2.heap.objs.size fp cl s3.heap.objs.size s3 (upd H2 s2.heap.objs.size (.lst [])) (X.pn++pins) hacc
 have T0:tn 0 h₁:=T.keep 0 _ _ st2 λb hb o q=>old b o (keep23 b o q)
 have s3e:∀tk:Nat,({s2 with heap:=h₁,toks:=tk}:yaa)={s3 with heap:=h₁,toks:=tk}:=λtk=>by rw[<-hs3]
 have loop:∀tk:Nat,ybA (model X.prog X.w) X.A (.compLoop (.ListComp elt [⟨tg,iter,ifs,0⟩] scope pos) 0 (.ref it) (.ref s2.heap.objs.size) (yeB scope cl s3.heap.objs.size X.env))
   (yfr (model X.prog X.w) X.A X.xe none (EP X pins σ Q) (.ref s2.heap.objs.size) s3.heap.objs.size) {s3 with heap:=h₁,toks:=tk}:=λtk=>by
  have stat:∀{H':Hp},(∀b∈fp,H' b=none)->∀b∈fp,qbc (zr X scope N' fp cl s3.heap.objs.size s3 (upd H2 s2.heap.objs.size (.lst [])) (X.pn++pins)) [] H' b:=λ{H'} hn b hb=>by
   obtain⟨o,q⟩:=objs2 b hb
   have hbC:b≠s3.heap.objs.size:=yas (yae (keep23 b o q))
   refine⟨hn b hb,hbC,λz=>?_,.inl hb,λx c hx=>(f2 b hb).2.2.2.2.1 x c (cl1 x c hx),λp hp=>?_⟩
   ·rcases List.mem_cons.mp (I2.stkSub b z)with z|z
    ·exact(f2 b hb).2.1 z
    ·exact(f2 b hb).2.2.1 z
   ·have hp':p∈X.pn++pins:=by
     rcases mA_.mp (show p∈(X.pn++pins)++[]from hp)with z|z
     ·exact z
     ·cases z
    exact(f2 b hb).2.2.2.2.2 p hp'
  have fr0:∀b∈fp,upd H2 s2.heap.objs.size (.lst []) b=none:=λb hb=>(f3 b hb).1
  refine wE (λn s'=>∃i σ' H',Inv (zr X scope N' fp cl s3.heap.objs.size s3 (upd H2 s2.heap.objs.size (.lst [])) (X.pn++pins)) [] σ' H' s'/\tn i s'.heap/\(∀b∈fp,H' b=none)/\W i n σ' H') ?_ m0
   ⟨0,qM nt fr σ,_,J0.tok tk,T0,fr0,w0⟩
  rintro n s4 ⟨i,σ4,H4,J4,st4,fr4,w4⟩
  rcases turn i n σ4 H4 w4 with⟨stop,qn⟩|⟨go,step⟩
  ·refine thn (T.done (zr X scope N' fp cl s3.heap.objs.size s3 (upd H2 s2.heap.objs.size (.lst [])) (X.pn++pins)) rfl rfl rfl hc i [] s4 σ4 H4 _ J4 (stat fr4) st4 stop) λr s5 ⟨hr,J5⟩=>?_
   subst hr
   obtain⟨m5,n5,_⟩:=J5.loc
   refine⟨m5,n5,λh' sb=>⟨.ref s2.heap.objs.size,H4,qcE I3 f3 J5 sb,rfl,qn⟩⟩
  ·refine thn (T.item (zr X scope N' fp cl s3.heap.objs.size s3 (upd H2 s2.heap.objs.size (.lst [])) (X.pn++pins)) rfl rfl rfl hc i [] s4 σ4 H4 _ J4 (stat fr4) st4 go) λr s5 ⟨u,hr,h5⟩=>?_
   subst hr
   refine thn h5 λ_ s6 ⟨x,H6,J6,r6,y6,st6,fr6⟩=>?_
   have J6':=J6.pinned (stat fr6) (T.obj _ _ st6)
   have again:∀{σ7:St}{H7:Hp}{s7:yaa},Inv (zr X scope N' fp cl s3.heap.objs.size s3 (upd H2 s2.heap.objs.size (.lst [])) (X.pn++pins)) ([]++qad fp s6.heap) σ7 H7 s7->(∃m',m'<n/\W (i+1) m' σ7 H7) ->
     ∃m,m<n/\∃i σ' H',Inv (zr X scope N' fp cl s3.heap.objs.size s3 (upd H2 s2.heap.objs.size (.lst [])) (X.pn++pins)) [] σ' H' s7/\tn i s7.heap/\(∀b∈fp,H' b=none)/\W i m σ' H':=λ{σ7 H7 s7} I7 hm=>by
    obtain⟨m',hm,w7⟩:=hm
    refine⟨m',hm,i+1,σ7,H7,I7.unpinned,T.keep _ _ _ st6 λb hb o q=>(I7.pin (b,o) (mr_ _ (mr_ _ (ya hb q)))).1,λb hb=>?_,w7⟩
    obtain⟨o,q,d⟩:=T.obj _ _ st6 b hb
    exact(I7.pin (b,o) (mr_ _ (mr_ _ (ya hb q)))).2.1
   refine thn (hg _ s6 σ4 H6 x u _ J6' r6 (step x H6 y6)) λ_ s7 ⟨σ7,H7,J7,q7⟩=>?_
   refine thn (hf _ s7 σ7 H7 _ J7 q7) λok s8 ⟨H8,J8,q8⟩=>?_
   cases ok with
   |false=>
    rw[if_neg yar]at q8 |-
    exact again J8 q8
   |true=>
    rw[if_pos rfl]at q8 |-
    refine thn (he _ s8 σ7 H8 _ J8 q8) λz s9 ⟨y,H9,J9,r9,ys,hys,hz,hm⟩=>?_
    refine thn (uo _ s9 σ7 H9 (.ref s2.heap.objs.size) [y] (.ref s2.heap.objs.size) [z] (λ_ H'=>H'=upd H9 s2.heap.objs.size (.lst (ys++[y]))) J9 rfl (.cons r9 .nil) ⟨_,ys,y,rfl,rfl,hys,hz,rfl⟩) λ_ s10 ⟨_,H10,J10,_,e10⟩=>?_
    subst e10
    exact again J10 hm
 have qV:∀tk:Nat,ybA (model X.prog X.w) X.A (.compStart (.ListComp elt [⟨tg,iter,ifs,0⟩] scope pos) 0 (.ref it) (.ref s2.heap.objs.size) (yeB scope cl s3.heap.objs.size X.env))
   (yfr (model X.prog X.w) X.A X.xe none (EP X pins σ Q) (.ref s2.heap.objs.size) s3.heap.objs.size) {s3 with heap:=h₁,toks:=tk}:=λtk=>
  yef (loop tk) (T.self X.A 0 _ _ _ T0 (loop tk))
 have fin:=qV (s2.toks+([]:List (Str×Value)).length)
 rw[<-s3e]at fin
 rw[<-hh3]at fin
 rw[hh3]at fin |-
 exact fin
end
def DIH(X:Cx)(c:Fc)(tg it:Expr)(f:M (List D)):Prop:=∃w,PIH X tg it w/\∀Z σ H Q,Rep X.K c Z σ H->WpI X.K c σ H Q (f Z)->w σ H Q
section
variable{X:Cx}{c:Fc}{tg a b e:Expr}{pos:Pos}
theorem qao {f:M (List D)} {p:Pos} (hg:Gl X "range") (hm:X.mg "range"=none) (ha:DA X c [a] f) (hs:yac [a] X.env=[(false,eval a X.env)]:=by rfl):DIH X c tg (.Call (.Name "range" p) [a] [] pos) (y0 f):=by
 obtain⟨t,p,w⟩:=ha
 refine⟨_,qdJ hg hm p hs,λZ σ H Q r h=>w Z σ H _ r (WpL.bndI h λds Z1 vs H1 r1 i1 g1 h1=>?_)⟩
 obtain⟨es,e,h2⟩:=u6 h1
 unfold qgq at e
 split at e
 ·rename_i j
  obtain⟨v,rfl,e2⟩:=IsL.inv1 i1
  cases e2
  by_cases hb:(decide (-(2 ^ 62)<=j)&&decide (j<2 ^ 62))=true
  ·rw[if_pos hb]at e
   cases e
   rw[yau]at hb
   exact⟨j,rfl,of_decide_eq_true hb.1,of_decide_eq_true hb.2,h2 _ H1 r1 (qhd 0 _) .refl⟩
  ·rw[if_neg hb]at e
   cases e
 ·cases e
theorem qcY {it elt:Expr} {ifs:List Expr} {scope:Scope} {N':List Str} {nt:Nat} {fr:List Nat} {fo:Option (Nat×Nat)} {f:M (List D)} {g:D->Env->Option Env} {t:M Bool} {k:M D} (hal:∀Z σ H,Rep X.K c Z σ H->AloneA X.A H) (hi:DIH X c tg it f) (S:yj X scope N' nt fr)
  (hfo:qkk c nt fr fo) (hz:fo=none)
  (hb:∀fp cl C s₀ H₀ pn B0 H1 Io' acc S',(∀Z σ H,Rep X.K (cin B0 H1 (foO fo) (foJ c fo) Io' acc S') Z σ H->AloneA X.A H)->DG (zr X scope N' fp cl C s₀ H₀ pn) (cin B0 H1 (foO fo) (foJ c fo) Io' acc S') tg g/\DF (zr X scope N' fp cl C s₀ H₀ pn) (cin B0 H1 (foO fo) (foJ c fo) Io' acc S') ifs t/\DE (zr X scope N' fp cl C s₀ H₀ pn) (cin B0 H1 (foO fo) (foJ c fo) Io' acc S') elt k)
  (hs:∀x,ybF it X.env x=pure x:=by intro _;rfl):DE X c (.ListComp elt [⟨tg,it,ifs,0⟩] scope pos) (y7 nt fr fo f g t k):=by
 obtain⟨wi,pi,wI⟩:=hi
 refine⟨_,qgB pi S hs,λZ σ H Q r h=>wI Z σ H _ r (WpI.bnd h λds Z1 J H1 r1 iok g1 h1=>?_)⟩
 refine⟨hal _ _ _ r1,?_⟩
 intro acc fp cl C s₀ H₀ pn hn
 obtain⟨⟨tg',pg,wg⟩,⟨tt,pt,wt⟩,⟨te,pe,we⟩⟩:=hb fp cl C s₀ H₀ pn (Cn c σ) H1 (qba σ fo) acc (λj=>(qM nt fr σ)[j]?) (λZ2 σ2 H2 q=>Sk.AloneA.cin (hal _ _ _ r1) hn (λa=>by rw[hz];exact id) q)
 refine⟨tg',tt,te,pg,pt,pe,?_⟩
 cases ew:jk g t k ds [] (ym nt fr Z1) with
 |exc x Z'=>rw[ew]at h1;exact h1.elim
 |bad=>rw[ew]at h1;exact h1.elim
 | ok p =>
  rw[ew]at h1
  obtain⟨ys,Ze⟩:=p
  have h1:∀v H',Rep X.K c (qjn fo Ze Z1) σ H'->Is X.K (Cn c σ) H' (.lst ys) v->Gr c.O σ H1 H'->Q v H':=h1
  have accO:∀j∈foO fo,(qM nt fr σ)[j]? ≠ some (some (.ref acc)):=λj hj e=>by
   have r0:=r1.entry (acc:=acc) hn hfo
   cases fo with
   |none=>cases hj
   |some p=>
    obtain⟨i',j'⟩:=p
    have e2:j=i':=by simpa [foO] using hj
    subst e2
    obtain⟨k2,j2,e1,e2,e3⟩:=yd e
    have hk2:k2=j-nt:=by omega
    subst hk2
    rw[hfo.2.2.1]at e2
    cases e2
    obtain⟨a,us,e4,e5,_⟩:=r1.own j' hfo.1 _ e3
    cases e4;rw[hn]at e5;cases e5
  refine ⟨λi m σ' H'=>m=ds.length-i/\i<=ds.length/\∃Z' zs xs,Rep X.K (cin (Cn c σ) H1 (foO fo) (foJ c fo) (qba σ fo) acc λj=>(qM nt fr σ)[j]?) Z' σ' H'/\(∀j∈foO fo,σ'[j]? = (qM nt fr σ)[j]?)/\H' acc=some (.lst xs)/\IsL X.K (Cn (cin (Cn c σ) H1 (foO fo) (foJ c fo) (qba σ fo) acc λj=>(qM nt fr σ)[j]?) σ') H' zs xs/\jk g t k (ds.drop i) zs Z'=.ok (ys,Ze),
   ⟨ds.length,by simp,ybs _,ym nt fr Z1,[],[],r1.entry hn hfo,λ_ _=>rfl,qi,rfl,by simpa using ew⟩,?_⟩
  rintro i m σ' H' ⟨rfl,hi,Z',zs,xs,r',so,ha,iz,w⟩
  obtain⟨_,gr⟩:=r1.leave hn hfo (λi j e=>so i (by rw[e];simp[foO])) r'
  have ex:Ext (CnT c σ H1) H1 H':=⟨gr.ext.tup,gr.ext.frz,λb o hb hq=>gr.ext.at_ b o hb.1.2 hq⟩
  have accC:∀τ:St,(∀j∈foO fo,τ[j]? = (qM nt fr σ)[j]?)->Cl (foO fo) τ acc:=λτ hτ j hj e=>accO j hj (by rw[<-hτ j hj];exact e)
  by_cases hlt:i<ds.length
  ·refine .inr ⟨iok.go H' i ds[i] ex (by simp[hlt]),λx H'' y=>?_⟩
   obtain⟨sm,ix⟩:=iok.yl H' i ds[i] x H'' ex (by simp[hlt]) y
   rw[vp hlt]at w
   unfold jk at w
   have ix2:Is X.K (Cn (cin (Cn c σ) H1 (foO fo) (foJ c fo) (qba σ fo) acc λj=>(qM nt fr σ)[j]?) σ') H'' ds[i] x:=Is.ext Ext.refl (λa ha _=>⟨⟨ha.1,λe=>by
    have:=ha.2
    rw [e,hn]at this;cases this⟩,λj hj e=>by
     rw[so j hj]at e
     cases fo with
     |none=>cases hj
     |some p=>
      obtain⟨i',j'⟩:=p
      have e2:j=i':=by simpa [foO,cin] using hj
      subst e2
      obtain⟨k2,j2,e1,e2,e3⟩:=yd e
      have hk2:k2=j-nt:=by omega
      subst hk2
      rw[hfo.2.2.1]at e2
      cases e2
      exact ha.1.2 j' hfo.1 e3⟩) ix
   cases e1:g ds[i] Z' with
   |none=>simp only[e1]at w;cases w
   | some Z2=>
    simp only[e1]at w
    refine wg Z' σ' H'' ds[i] x Z2 _ (r'.same sm) ix2 e1 λσ2 r2 g2 o2=>?_
    have so2:∀j∈foO fo,σ2[j]? = (qM nt fr σ)[j]? := λj hj=>(o2 j hj).trans (so j hj)
    have ha2:H'' acc=some (.lst xs):=sm _ _ ha
    have iz2:=g2.isL (IsL.ext (Ext.of_same sm) (λ_ h _=>h) iz)
    cases e2:t Z2 with
    |exc x Z3=>simp only[e2]at w;cases w
    |bad=>simp only[e2]at w;cases w
    | ok p2=>
     obtain⟨bb,Z3⟩:=p2
     refine wt Z2 σ2 H'' _ r2 ?_
     rw[e2]
     intro H3 r3 g3
     have ha3:H3 acc=some (.lst xs):=g3.ext.at_ _ _ (accC σ2 so2) ha2
     have iz3:=g3.isL iz2
     cases bb with
     |false=>
      rw[if_neg yar]
      simp only[e2]at w
      exact⟨ds.length-(i+1),by omega,rfl,hlt,Z3,zs,xs,r3,so2,ha3,iz3,w⟩
     | true=>
      rw[if_pos rfl]
      simp only[e2]at w
      cases e3:k Z3 with
      |exc x Z4=>simp only[e3]at w;cases w
      |bad=>simp only[e3]at w;cases w
      | ok p3=>
       obtain⟨d4,Z4⟩:=p3
       simp only[e3]at w
       refine we Z3 σ2 H3 _ r3 ?_
       rw[e3]
       intro y4 H4 r4 i4 g4
       have ha4:H4 acc=some (.lst xs):=g4.ext.at_ _ _ (accC σ2 so2) ha3
       have hsz:qF (zs.length+1)=true:=by
        cases e5:qF (zs.length+1) with
        |true=>rfl
        |false=>rw[e5]at w;simp at w
       rw[if_pos hsz]at w
       have hsz':zs.length+1<=yao:=of_decide_eq_true hsz
       have r5:=r4.grow (ys:=xs++[y4]) ha4 (λj hj e=>accC σ2 so2 j hj e)
       have ext5:Ext (Cn (cin (Cn c σ) H1 (foO fo) (foJ c fo) (qba σ fo) acc λj=>(qM nt fr σ)[j]?) σ2) H4 (upd H4 acc (.lst (xs++[y4]))):=⟨λb us hb=>by rw[qg (zP hb ha4 (by intro z;cases z))];exact hb,λb o u hb=>by rw[qg (zP hb ha4 (by intro z;cases z))];exact hb,λb o hb hq=>by rw[qg hb.1.2];exact hq⟩
       refine⟨xs,ha4,by rw[iz3.length];omega,ds.length-(i+1),by omega,rfl,hlt,Z4,zs++[d4],xs++[y4],r5,so2,qi,?_,w⟩
       exact IsL.append (IsL.ext ext5 (λ_ h _=>h) (g4.isL iz3)) (IsL.one (Is.ext ext5 (λ_ h _=>h) i4))
  ·have hie:i=ds.length:=by omega
   subst hie
   rw[ycy (yak _)]at w
   unfold jk at w
   cases w
   obtain⟨r6,g6⟩:=r1.leave hn hfo (λi j e=>so i (by rw[e];simp[foO])) r'
   exact .inl ⟨iok.stop H' ex,h1 _ H' r6 ⟨acc,xs,rfl,r1.new hn,ha,IsL.ext Ext.refl (λa ha hs=>ha.1.1) iz⟩ g6⟩
end
theorem yK.units{k:Nat}{A:yal}(r:yK k A):A.units+64<cLine:=by have:=r.un;omega
section
variable{X:Cx}{c:Fc}{e:Expr}{es:List Expr}{pos:Pos}
theorem qiP {k:Nat} (hr:yK k X.A):OpR X (yaV .Eq) (qfW X.K false):=by
 intro pins s σ H x y v u Q I rx ry h
 obtain⟨d,e,A,h1,h2,o1,o2,q⟩:=h
 obtain⟨as,r1,_⟩:=y9 I (qak o1) h1 rx
 obtain⟨bs,r2,_⟩:=y9 I (qak o2) h2 ry
 exact yeg r1 r2 (vt o1) (vt o2) (yK.units hr) ⟨.bl _,H,I,rfl,by simpa using q⟩
theorem qmc{K:Fr0}{A:yal}{e:Addr}{H6:Hp}(al:AloneA (A.mark (some (.ref e))) H6):∀Z σ H,Rep K (ch H6) Z σ H->AloneA (A.mark (some (.ref e))) H:=Sk.AloneA.rep (c:=ch H6) al (λ_ z=>z)
theorem qiQ{k:Nat}{A:yal}{e:Addr}(hr:jX k A):yK k (A.mark (some (.ref e))):=⟨hr.dp,hr.un,hr.gd⟩
theorem qe6{k:Nat}(hr:yK k X.A):OpR X (yaV .Eq) (λx y H Q=>rEq x y H Q\/qfW X.K false x y H Q):=OpR.or qjR (qiP hr)
theorem qgC {k:Nat} {f:Addr} {fd:yaH} {ps:List Str} {F:List D->R D} {x:Str} {p:Pos} {g:M (List D)} (hal:∀Z σ H,Rep X.K c Z σ H->AloneA X.A H)
  (G:qaN X.prog X.w X.K X.mg X.base CX0 k f fd ps (spD X.K F)) (hr:yK k X.A) (hg:Gl X x) (hm:X.mg x=some (.ref f)) (hk:yai X.K (.ref f)=true) (hb:yy X.K fd ps [])
  (ha:DA X c (e::es) g) (hd:(x==("__debug__":Str))=false:=by decide) (he:yac (e::es) X.env=(false,eval e X.env)::yac es X.env:=by rfl) (hpl:(yaz pos (yac es X.env)).any (·.1)=false:=by rfl):DE X c (.Call (.Name x p) (e::es) [] pos) (qu F g):=by
 obtain⟨t,pa,w⟩:=ha
 refine⟨_,qcQ (E:=λ_ _ _=>False) G hr hg hm hk hb .nil (λ_ _ _ _ _ _ _ z=>z.elim) pa hd he hpl,λZ σ H Q r h=>w Z σ H _ r (WpL.bnd h λds Z1 vs H1 r1 i1 g1 h1=>⟨hal _ _ _ r1,?_⟩)⟩
 rw[yaS]
 refine⟨ds,Cn c σ,i1,r1.tb,?_⟩
 cases ef:F ds with
 |bad=>simp only[ef]at h1;exact h1.elim
 |exc z Z'=>simp only[ef]at h1;exact h1.elim
 |ok d=>
  simp only[ef]at h1
  exact λv H' sm i=>h1 v H' (r1.same sm) (Is.ext Ext.refl (λa ha _=>ha.elim id r1.new) i) (.of_same sm)
end
section
variable{X:Cx}{c:Fc}{a b e:Expr}{pos:Pos}
def qhp(F:List D->List D->OD)(f g:M (List D)):M D:=bnd f λxs=>bnd g λzs=>lift (F xs zs)
end
def qnk (xs zs:List D):OD:=match xs,zs with
 | [.lst ds],[z]=>(qkb ds).map λns=>if ns=[]then z else .int (qmM ns)
 |_,_=>none
def slB (x:D) (lo hi:Option Int):OD:=match x with
 |.tup ds=>some (.tup (qcD ds lo hi))
 |.lst ds=>some (.lst (qcD ds lo hi))
 |_=>none
def w9(f:M D)(g k:M (Option Int)):M D:=bnd f λd=>bnd g λl=>bnd k λu=>lift (slB d l u)
section
variable{X:Cx}{c:Fc}{a b e:Expr}{pos p2:Pos}
theorem uw {lo hi:Option Expr} {f:M D} {g k:M (Option Int)} (ha:DE X c a f) (hl:DO X c lo g) (hu:DO X c hi k):DE X c (.Subscript a (.Slice lo hi none p2) pos) (w9 f g k):=by
 obtain⟨ta,pa,wa⟩:=ha
 obtain⟨tl,pl,wl⟩:=hl
 obtain⟨tu,pu,wu⟩:=hu
 refine⟨_,qgb (SlR.or qkd qh1) pa pl pu,λZ σ H Q r h=>wa Z σ H _ r (Wp.bnd h λd Z1 v H1 r1 i1 g1 h1=>?_)⟩
 refine wl Z1 σ H1 _ r1 (λl Z2 e2 H2 r2 g2=>?_) (λx Z2 e2 H2 r2 g2=>?_) (λe2=>?_)
 ·rw [jQ e2]at h1
  have h1:=h1.gr g2
  refine wu Z2 σ H2 _ r2 (λu Z3 e3 H3 r3 g3=>?_) (λx Z3 e3 H3 r3 g3=>?_) (λe3=>?_)
  ·rw [jQ e3]at h1
   obtain⟨d',e4,h4⟩:=h1.lift
   have i3:=g3.is (g2.is i1)
   clear h1
   cases d<;>simp only[slB]at e4<;>try (cases e4;done)
   ·rename_i ds
    cases e4
    obtain⟨a,xs,rfl,ta,il⟩:=i3
    refine .inl ?_
    by_cases hw:HT.sIx xs.length 0 l=0/\HT.sIx xs.length xs.length u=xs.length
    ·refine .inl ⟨a,xs,rfl,ta.sq,hw,h4 _ H3 r3 ⟨a,xs,rfl,ta,?_⟩ g3⟩
     have e5:qcD ds l u=ds:=by
      unfold qcD
      rw[<-il.length,hw.1,hw.2]
      simp[il.length]
     rw[e5];exact il
    ·refine .inr ⟨a,xs,rfl,ta.sq,hw,λp hp=>h4 _ _ (r3.laid hp _) ⟨p,qfT xs l u,rfl,.inl qi,?_⟩ (g3.trans (.of_same (qA hp _)))⟩
     refine IsL.ext (Ext.of_same (qA hp _)) (λ_ h _=>h) ?_
     unfold qcD qfT
     rw[<-il.length]
     exact IsL.take _ (IsL.drop _ il)
   ·rename_i ds
    cases e4
    obtain⟨a,xs,rfl,hA,ta,il⟩:=i3
    refine .inr ⟨a,xs,rfl,.inl (.inl ta),λp hp=>h4 _ _ (r3.laid hp _) ⟨p,qfT xs l u,rfl,r3.new hp,qi,?_⟩ (g3.trans (.of_same (qA hp _)))⟩
    refine IsL.ext (Ext.of_same (qA hp _)) (λ_ h _=>h) ?_
    unfold qcD qfT
    rw[<-il.length]
    exact IsL.take _ (IsL.drop _ il)
  ·unfold bnd at h1;rw[e3]at h1;exact h1 H3 r3 g3
  ·unfold bnd at h1;rw[e3]at h1;exact h1
 ·unfold bnd at h1;rw[e2]at h1;exact h1 H2 r2 g2
 ·unfold bnd at h1;rw[e2]at h1;exact h1
def qmd (x y:D):Option (List D):=match x,y with
 |.lst ds,.int k=>if(decide (-(2 ^ 62)<=k)&&decide (k<2 ^ 62))&&(qF (ds.length*k.toNat)&&immL ds)then some (yan k.toNat ds).flatten else none
 |_,_=>none
def qmQ(f g:M D):M (List D):=bnd f λx=>bnd g λy=>lift (qmd x y)
theorem qe7 {body:List Stmt} {t:M Bool} {b:MS} (N:Nat) (hp:yd4 (model X.prog X.w) X.A X.env X.xe) (ht:DT X c e t) (hb:DSs X c body b):DS X c (.While e body [] pos) (uv t b N):=by
 obtain⟨t',p,w⟩:=qgv (pos:=pos) hp ht hb
 refine⟨t',p,λZ σ H D r h=>w Z σ H D r ?_⟩
 by_cases hbad:uv t b N Z=.bad
 ·rw[hbad]at h;exact h.elim
 ·rw[qe0 rfl hbad];exact h
end
section
variable{Z:Env}{f g:M D}{l k:M (List D)}
theorem qlF (F:List D->List D->OD):qhp F l k Z=match l Z with|.ok (xs,Z1)=>(match k Z1 with|.ok (zs,Z2)=>(match F xs zs with|some d => .ok (d,Z2)|none => .bad)|.exc x Z' => .exc x Z'|.bad => .bad)|.exc x Z' => .exc x Z'|.bad => .bad:=by
 simp only[qhp,bnd]
 cases l Z with
 |ok z=>
  obtain⟨z1,Z1⟩:=z
  dsimp only
  cases k Z1 with
  |ok z=>obtain⟨z2,Z2⟩:=z;(dsimp only;cases F z1 z2<;>rfl)
  |exc x Z'=>rfl
  |bad=>rfl
 |exc x Z'=>rfl
 |bad=>rfl
theorem qmR:qmQ f g Z=match f Z with|.ok (x,Z1)=>(match g Z1 with|.ok (y,Z2)=>(match qmd x y with|some ds => .ok (ds,Z2)|none => .bad)|.exc x Z' => .exc x Z'|.bad => .bad)|.exc x Z' => .exc x Z'|.bad => .bad:=by
 simp only[qmQ,bnd]
 cases f Z with
 |ok z=>
  obtain⟨z1,Z1⟩:=z
  dsimp only
  cases g Z1 with
  |ok z=>obtain⟨z2,Z2⟩:=z;(dsimp only;cases qmd z1 z2<;>rfl)
  |exc x Z'=>rfl
  |bad=>rfl
 |exc x Z'=>rfl
 |bad=>rfl
theorem qkN (p q:M (Option Int)):w9 f p q Z=match f Z with|.ok (d,Z1)=>(match p Z1 with|.ok (l,Z2)=>(match q Z2 with|.ok (u,Z3)=>(match slB d l u with|some r => .ok (r,Z3)|none => .bad)|.exc x Z' => .exc x Z'|.bad => .bad)|.exc x Z' => .exc x Z'|.bad => .bad)|.exc x Z' => .exc x Z'|.bad => .bad:=by
 simp only[w9,bnd]
 cases f Z with
 | ok z=>
  obtain⟨z1,Z1⟩:=z
  dsimp only
  cases p Z1 with
  |ok z=>
   obtain⟨z2,Z2⟩:=z
   dsimp only
   cases q Z2 with
   |ok z=>obtain⟨z3,Z3⟩:=z;(dsimp only;cases slB z1 z2 z3<;>rfl)
   |exc x Z'=>rfl
   |bad=>rfl
  |exc x Z'=>rfl
  |bad=>rfl
 |exc x Z'=>rfl
 |bad=>rfl
end
section
variable{X:Cx}{c:Fc}{e:Expr}{es:List Expr}{pos:Pos}
theorem dC {k j:Nat} {ps:List Str} {F:List D->R D} {x:Str} {p:Pos} {g:M (List D)} (C:jm X.prog X.w X.K X.mg X.base k x ps (spD X.K F)) (hr:jX j X.A) (ha:DA X c (e::es) g)
  (hk:k<=j:=by decide) (hg:Gl X x:=by rfl) (hd:(x==("__debug__":Str))=false:=by decide) (he:yac (e::es) X.env=(false,eval e X.env)::yac es X.env:=by rfl) (hpl:(yaz pos (yac es X.env)).any (·.1)=false:=by rfl):DE X c (.Call (.Name x p) (e::es) [] pos) (qu F g):=by
 obtain⟨f,fd,G,m,kk,b⟩:=C.ex
 exact qim G (hr.mono hk) hg m kk b ha hd he hpl
theorem nC {k j:Nat} {ps:List Str} {F:List D->R D} {x:Str} {p:Pos} {g:M (List D)} (C:jm X.prog X.w X.K X.mg X.base k x ps (spD X.K F)) (hr:jX j X.A) (ha:DA X c (e::es) g)
  (hk:k<=j:=by decide) (hg:Gl X x:=by rfl) (hd:(x==("__debug__":Str))=false:=by decide) (he:yac (e::es) X.env=(false,eval e X.env)::yac es X.env:=by rfl) (hpl:(yaz pos (yac es X.env)).any (·.1)=false:=by rfl):DN X c (.Call (.Name x p) (e::es) [] pos) (qbw F g):=by
 obtain⟨f,fd,G,m,kk,b⟩:=C.ex
 exact qit G (hr.mono hk) hg m kk b ha hd he hpl
theorem iC {k j i:Nat} {ps:List Str} {F:List D->List D->R (D×List D)} {x y:Str} {p p1:Pos} {g:M (List D)} (C:jm X.prog X.w X.K X.mg X.base k x ps (qjo X.K F)) (hr:jX j X.A) (ha:DA X c es g)
  (hk:k<=j:=by decide) (hg:Gl X x:=by rfl) (ho:i∈c.O:=by exact of_decide_eq_true rfl) (hN:X.N[i]? = some y:=by rfl) (hv:Vis X.env.scope y:=by first|exact yaC rfl|exact yav (yaC rfl)|exact yav (yav rfl)) (hdy:(y==("__debug__":Str))=false:=by decide) (hcd:(y==("__classdict__":Str))=false:=by decide)
  (hd:(x==("__debug__":Str))=false:=by decide) (he:yac (.Name y p1::es) X.env=(false,eval (.Name y p1) X.env)::yac es X.env:=by rfl) (hpl:(yaz pos (yac es X.env)).any (·.1)=false:=by rfl):DE X c (.Call (.Name x p) (.Name y p1::es) [] pos) (qo F i g):=by
 obtain⟨f,fd,G,m,kk,b⟩:=C.ex
 exact qeO G (hr.mono hk) hg m kk b ha ho hN hv hdy hcd hd he hpl
theorem xC {k j:Nat} {ps:List Str} {F:List D->R D} {x:Str} {p:Pos} {g:M (List D)} {E:XK} {cl:Str->Option Addr} {RN:List Str} (L:XL2 X c cl E) (hcl:∀n,RN.contains n=true->(cl n).isSome=true) (C:yJ X.prog X.w X.K X.mg X.base k x ps (spX X.K cl F)) (hr:jX j X.A) (ha:DA X c (e::es) g)
  (hk:k<=j:=by decide) (hg:Gl X x:=by rfl) (hd:(x==("__debug__":Str))=false:=by decide) (he:yac (e::es) X.env=(false,eval e X.env)::yac es X.env:=by rfl) (hpl:(yaz pos (yac es X.env)).any (·.1)=false:=by rfl):DE X c (.Call (.Name x p) (e::es) [] pos) (zN RN F g):=by
 obtain⟨f,fd,G,m,kk,b⟩:=C.ex
 exact qgy L hcl G (hr.mono hk) hg m kk b ha hd he hpl
theorem lC {k j:Nat} {ps:List Str} {F:List D->R D} {x:Str} {p:Pos} {g:M (List D)} (hal:∀Z σ H,Rep X.K c Z σ H->AloneA X.A H) (C:qcf X.prog X.w X.K X.mg X.base k x ps (spD X.K F)) (hr:yK j X.A) (ha:DA X c (e::es) g)
  (hk:k<=j:=by decide) (hg:Gl X x:=by rfl) (hd:(x==("__debug__":Str))=false:=by decide) (he:yac (e::es) X.env=(false,eval e X.env)::yac es X.env:=by rfl) (hpl:(yaz pos (yac es X.env)).any (·.1)=false:=by rfl):DE X c (.Call (.Name x p) (e::es) [] pos) (qu F g):=by
 obtain⟨f,fd,G,m,kk,b⟩:=C.ex
 exact qgC hal G (hr.mono hk) hg m kk b ha hd he hpl
theorem gI {x:Str} {i:Int} (h:∃t,X.mg x=some (.int i t)) (hg:Gl X x:=by rfl) (hd:(x==("__debug__":Str))=false:=by decide):DE X c (.Name x pos) (ret (.int i)):=by
 obtain⟨t,h⟩:=h
 exact qey (v:=.int i) (d:=.int i) hg h ⟨_,rfl⟩ (λ_ _=>rfl) hd
theorem gS {x y:Str} (h:∃t,X.mg x=some (.str y t)) (hg:Gl X x:=by rfl) (hd:(x==("__debug__":Str))=false:=by decide):DE X c (.Name x pos) (ret (.str y)):=by
 obtain⟨t,h⟩:=h
 exact qey (v:=.str y) (d:=.str y) hg h ⟨_,rfl⟩ (λ_ _=>rfl) hd
end
theorem nd(N:List Str)(h:N.Nodup:=by decide +kernel):N.Nodup:=h
theorem cs {X:Cx} (N N':List Str) (nt:Nat) (fr:List Nat) (outer:Scope) {scope:Scope} (h0:scope.kind=.function:=by rfl) (h1:∀y∈scope.names,y.2 ≠ .cell:=by decide +kernel) (h2:∀y∈scope.names,y.2=.local->scope.names.lookup y.1=some .local:=by decide +kernel)
  (h3:∀y∈scope.names,y.2=.free->outer.names.lookup y.1=some .cell:=by decide +kernel) (h4:N'.length=nt+fr.length:=by rfl) (h5:∀p∈fr.zipIdx,N'[nt+p.2]? = N[p.1]? /\ ((N[p.1]?).bind λx=>scope.names.lookup x)=some .free:=by decide +kernel)
  (h6:X.env.scope=outer:=by rfl) (h7:X.N=N:=by rfl):yj X scope N' nt fr:=qiu.ok (outer:=outer) (N:=N) ⟨h0,h1,h2,h3,h4,h5⟩ h6 h7
theorem f0{c:Fc}{nt:Nat}(fr O:List Nat)(e:c.O=O:=by rfl)(h:∀j∈fr,j ∉ O:=by decide):qkk c nt fr none:=λj hj=>by rw[e];exact h j hj
end L2.Sk
namespace L2.Sk
open PySem PySem.Spec PyProof.Rows
section
variable{X:Cx}{c:Fc}{a b e:Expr}{pos:Pos}
def qe8(f:M (List D)):M (List D):=bnd f λds=>lift (if qF ds.length then some ds else none)
theorem qiR {es:List Expr} {f:M (List D)} (h:DA X c es f):DN X c (.List es pos) (qe8 f):=by
 obtain⟨t,p,w⟩:=h
 refine⟨_,qbe p,λZ σ H Q r h=>w Z σ H _ r (WpL.bndN h λds Z1 vs H1 r1 i1 g1 h1=>?_)⟩
 by_cases hb:qF ds.length=true
 ·rw[if_pos hb]at h1
  refine⟨by rw[i1.length];exact of_decide_eq_true hb,λp hp=>?_⟩
  exact h1 p vs _ hp (r1.laid hp _) (r1.apart hp) qi trivial (IsL.ext (Ext.of_same (qA hp _)) (λb h hs=>⟨h,λe=>by rw[e,hp]at hs;cases hs⟩) i1) (.of_same (qA hp _))
 ·rw[if_neg hb]at h1;exact h1.elim
end
end L2.Sk
namespace HT
open PySem PySem.Spec PyProof.Rows
end HT
namespace L2
open PySem PySem.Spec PyProof.Rows
end L2
namespace L2.Sk
open PySem PySem.Spec PyProof.Rows
end L2.Sk
namespace L2
open PySem PySem.Spec PyProof.Rows
end L2
namespace L2.Srt
open PySem PySem.W PyProof.Rows
end L2.Srt
set_option maxHeartbeats 1000000
namespace L2
open PySem PySem.Spec PyProof.Rows
end L2
set_option maxHeartbeats 1000000
namespace L2
open PySem PySem.Spec PyProof.Rows
end L2
namespace L2.Sk
open PySem PySem.Spec PyProof.Rows
end L2.Sk
namespace L2
open PySem PySem.Spec PyProof.Rows
theorem walk_lam {l:yeb} {n k:Nat} {q:yag} {loose:List Str} {XP:(Str->Option Value)->Heap->Prop} {YP:World->Heap->Prop} {d:DefRec} {K:Params->yad} {CX:World->CXT} {sp:World->Sp} {x:Str}
  (hn:l.most=some n) (hn2:n<=yao) (hdf:d.params.defaults=[]) (hr:jX k ydO)
  (hY:∀(w:World)(h:Heap),YP w h->(K w.params).In h) {lm:World->Option (Addr×Addr×Pos×Str)}
  (hlm:∀(w:World)(mean:ExcName->Option Value)(mg mb:Str->Option Value)(h:Heap)(c Pt:Addr)(pos:Pos)(z:Str),Top q (PySem.W.looseW q loose) mean mg mb h->(K w.params).In h->lm w=some (c,Pt,pos,z) ->
   ydf h c Pt/\h.get? Pt=some (ycm #[])/\(K w.params).lookup Pt=none)
  (F : ∀(w:World)(mg:Str->Option Value)(fa:Addr)(h:Heap),(K w.params).In h->h.Ns yah mg->mg d.name=some (.ref fa) ->
   ∃ fd:yaH,(∀(s:yaa)(u:Value),ydM s fd ⟨[u],[]⟩ [(x,u)]) /\
    ∀base:Heap,(K w.params).In base->base.Ns yah mg->yz l.prog w (K w.params) mg base (CX w) k fa fd [x] (sp w))
  (hsp:∀(w:World)(H:Hp)(a:Addr)(ns:List Int),ns.length<=n->qlz H->(∀c Pt pos z,lm w=some (c,Pt,pos,z)->H Pt=some (.lam pos z))->SqL (K w.params) H a (ns.map V.int)->sp w [.ref a] H (λv _=>v=.bl true) λ_ _ _=>False)
  (hCX:∀(w:World)(H:Hp)(s:yaa)(e:Value)(s':yaa),CX w [] H s (λ_ _ _=>False) e s'->False) :
  PySem.W.WalkO q loose XP YP l.row.toRowW d [] (λf vs=>yfw f vs):=by
 refine Att.attach_call hn hdf λw s₀ sQ mg mb fa o pm cd doc a vs ns G Y ho hd hcd hmg hobj hints hlen hg=>?_
 have KX:=hY w _ Y
 obtain⟨fd,hb,hF⟩:=F w mg fa _ KX G.T.g hmg
 exact qge (lm:=lm w) KX G.T.g G.T.b G.T.builtins G.T.nolimit G.T.bmain (λc Pt pos z=>hlm w _ mg mb _ c Pt pos z G.T KX) hg hobj hints (yaZ hlen hn2) hr hF hb (λH hO hT hS=>hsp w H a ns hlen hO hT hS) λH e s'=>hCX w H sQ e s'
end L2
namespace L2.Sk
open PySem PySem.Spec PyProof.Rows
theorem qiS {K:Fr0} {c Pt:Addr} {pos:Pos} (hl:qb2 K=some (c,Pt,pos)):PySem.W.tabIn K "dearest_first"=some (c,Pt):=by
 unfold qb2 at hl
 split at hl
 ·rename_i c' P' f e1 e2
  split at hl
  ·cases h3:qg6 (FuncData.body _) with
   |none=>rw[h3]at hl;cases hl
   |some p3=>rw[h3]at hl;cases hl;exact e1
  ·cases hl
 ·cases hl
theorem lam_table {q:yag} {loose:List Str} {mean:ExcName->Option Value} {mg mb:Str->Option Value} {h:Heap} {K:Fr0} {c Pt:Addr} {pos:Pos} {d:DefRec} (T:Top q loose mean mg mb h) (X:K.In h) (hl:qb2 K=some (c,Pt,pos))
  (hd:(recsOf q).find? (λe=>e.name==("dearest_first":Str))=some d) (hK:PySem.W.noTabs K=true):ydf h c Pt/\h.get? Pt=some (ycm #[])/\K.lookup Pt=none:=by
 have ht:=qiS hl
 obtain⟨h1,h2⟩:=PySem.W.tab_of T X hd ht
 refine⟨h1,h2,?_⟩
 cases e:K.lookup Pt with
 |none=>rfl
 |some o=>
  have e2:=X _ _ e
  rw[h2]at e2
  cases e2
  have h3:=List.all_eq_true.mp hK (Pt,ycm #[]) (PySem.W.mem_of_lookupK e)
  exact absurd (show false=true from h3) yar
end L2.Sk
namespace L2.Sk
open PySem PySem.Spec PyProof.Rows
end L2.Sk
namespace L2
open PySem PySem.Spec PyProof.Rows
end L2
namespace L2.Sk
open PySem PySem.Spec PyProof.Rows
end L2.Sk
set_option maxHeartbeats 1000000
namespace L2
open PySem PySem.Spec PyProof.Rows
end L2
namespace L2
open PySem PySem.Spec PyProof.Rows
end L2
namespace L2.Sk
open PySem PySem.Spec PyProof.Rows
end L2.Sk
set_option maxHeartbeats 1000000
namespace L2.Sk
open PySem PySem.Spec PyProof.Rows
end L2.Sk
set_option maxHeartbeats 1000000
namespace L2
open PySem PySem.Spec PyProof.Rows
end L2
namespace L2.Sk
open PySem PySem.Spec PyProof.Rows
end L2.Sk
set_option maxHeartbeats 1000000
namespace L2.Sk
open PySem PySem.Spec PyProof.Rows
end L2.Sk
set_option maxHeartbeats 1000000
namespace L2.Sk
open PySem PySem.Spec PyProof.Rows
end L2.Sk
set_option maxHeartbeats 1000000
namespace L2.Sk
open PySem PySem.Spec PyProof.Rows
end L2.Sk
set_option maxHeartbeats 1000000
namespace L2.Sk
open PySem PySem.Spec PyProof.Rows
end L2.Sk
set_option maxHeartbeats 1000000
namespace L2.Sk
open PySem PySem.Spec PyProof.Rows
end L2.Sk
set_option maxHeartbeats 1000000
namespace L2.Sk
open PySem PySem.Spec PyProof.Rows
end L2.Sk
set_option maxHeartbeats 1000000
namespace L2.Sk
open PySem PySem.Spec PyProof.Rows
end L2.Sk
set_option maxHeartbeats 1000000
namespace L2.Sk
open PySem PySem.Spec PyProof.Rows
end L2.Sk
namespace L2
open PySem PySem.Spec PyProof.Rows
end L2
namespace L2
open PySem PySem.Spec PyProof.Rows
end L2
namespace L2.Sk
open PySem PySem.Spec PyProof.Rows
def ja:List D->OD
 | [.int i]=>if decide (i.natAbs.log2<1920)then some (.str (toString i))else none
 |_=>none
theorem zh {K:Fr0}:w5 K ja (λxs H Q=>∃i,xs=[.int i]/\i.natAbs.log2<1920/\Q (.str (toString i)) H):=by
 intro A H xs d vs Q hn h e k
 unfold ja at e
 split at e
 ·rename_i i
  obtain⟨v,rfl,e2⟩:=IsL.inv1 h
  cases e2
  obtain⟨e6,e7⟩:=z8 e
  subst e7
  exact⟨i,rfl,of_decide_eq_true e6,k _ H (jq.refl H) rfl⟩
 ·cases e
end L2.Sk
set_option maxHeartbeats 1000000
namespace L2.St
open PySem
end L2.St
set_option maxHeartbeats 1000000
namespace L2.St
open PySem
end L2.St
set_option maxHeartbeats 3200000
namespace L2.St
open PySem
end L2.St
set_option maxHeartbeats 3200000
namespace L2.St
open PySem
end L2.St
set_option maxHeartbeats 3200000
namespace L2.St
open PySem
end L2.St
set_option maxHeartbeats 3200000
namespace L2.St
open PySem
end L2.St
set_option maxHeartbeats 3200000
namespace L2.St
open PySem
end L2.St
set_option maxHeartbeats 3200000
namespace L2.St
open PySem
end L2.St
set_option maxHeartbeats 3200000
namespace L2
open PySem PySem.Spec PyProof.Rows
end L2
namespace L2.Sk
open PySem PySem.Spec PyProof.Rows
end L2.Sk
set_option maxHeartbeats 1000000
namespace L2.Sk
open PySem PySem.Spec PyProof.Rows
end L2.Sk
set_option maxHeartbeats 1000000
namespace L2.Sk
open PySem PySem.Spec PyProof.Rows
def ixS:D->D->OD
 |.str z,.int i=>if qF z.length then(atI z.cps.toList i).map λc => .str ⟨#[c]⟩else none
 |_,_=>none
theorem qiT {K:Fr0}:OpS K ixS qly:=by
 intro A H x y d v u Q hn ix iy e k
 unfold ixS at e
 split at e
 ·rename_i z i
  cases ix;cases iy
  by_cases h:qF z.length=true
  ·rw [if_pos h]at e
   cases e1:atI z.cps.toList i with
   |none=>rw[e1]at e;cases e
   |some c=>
    rw[e1]at e
    cases e
    exact⟨z,i,c,rfl,rfl,of_decide_eq_true h,e1,k _ H (jq.refl H) rfl⟩
  ·rw[if_neg h]at e;cases e
 ·cases e
def ixB(x y:D):OD:=(ixD x y).or (ixS x y)
theorem j7{X:Cx}:IxR X (λx y H Q=>(qjX X.K x y H Q\/qjY X.K x y H Q)\/qly x y H Q):=jy.or qj0
theorem zf {K:Fr0}:OpS K ixB (λx y H Q=>(qjX K x y H Q\/qjY K x y H Q)\/qly x y H Q):=by
 intro A H x y d v u Q hn ix iy e k
 unfold ixB at e
 cases e1:ixD x y with
 |some b=>rw[e1]at e;exact .inl (jx A H x y d v u Q hn ix iy (by rw[e1];exact e) k)
 |none=>rw[e1]at e;exact .inr (qiT A H x y d v u Q hn ix iy e k)
def qnl(x y:Str):Bool := !(ya8 y x 0 y.length 1).isEmpty
def inS:D->D->OD
 |.str x,.str y=>some (.bl (qnl x y))
 |_,_=>none
abbrev qnm:R2:=λx y H Q=>∃i j,x=.str i/\y=.str j/\Q (.bl (!(ya8 j i 0 j.length 1).isEmpty)) H
theorem qiU {K:Fr0}:OpS K inS qnm:=by
 intro A H x y d v u Q hn ix iy e k
 unfold inS at e
 split at e
 ·rename_i i j
  cases ix;cases iy;cases e
  exact⟨i,j,rfl,rfl,k _ H (jq.refl H) rfl⟩
 ·cases e
def qme (x y:Str):List Str:=match ya8 x y 0 x.length 1 with
 |i::_=>[ye8 x 0 i,y,ye8 x (i+y.length) x.length]
 | []=>[x,yeW,yeW]
end L2.Sk
set_option maxHeartbeats 1000000
namespace L2.Sk
open PySem PySem.Spec PyProof.Rows
def qhq:V->List V->Hp->VK->Prop:=λx vs H Q=>∃z y,x=.str z/\vs=[.str y]/\(y.length==0)=false/\z.length<=yao/\(Txt.split z y).length<=yao/\∀p,H p=none->Q (.ref p) (upd H p (.lst ((Txt.split z y).map V.str)))
def qkO(K:yad):V->List V->Hp->VK->Prop:=λx vs H Q=>∃z a ws,x=.str z/\vs=[.ref a]/\SqL K H a (ws.map V.str)/\ycz z ws=true/\Q (.str (Txt.join z ws)) H
theorem vals_strs:∀{ws:List Str}{its:List Value},ze (ws.map V.str) its->∃l:List (Str×Tok),ya3 l=its/\l.map (·.1)=ws
 | [],_,.nil=>⟨[],rfl,rfl⟩
 |w::ws,_,.cons r rs=>by
  obtain⟨t,rfl⟩:=r
  obtain⟨l,rfl,e⟩:=vals_strs rs
  exact⟨(w,t)::l,rfl,by rw[mC_,e]⟩
theorem qbB:∀l:List (Str×Tok),ze ((l.map (·.1)).map V.str) (ya3 l)
 | [] => .nil
 |(w,t)::l => .cons ⟨t,rfl⟩ (qbB l)
section
variable{X:Cx}
theorem qgD:MtR X "str.split" qhq:=by
 intro pins s σ H x vs v us Q I rx rv h
 obtain⟨z,y,rfl,rfl,hy,hz,hz2,q⟩:=h
 obtain⟨t,rfl⟩:=rx
 obtain⟨u,rfl,ru⟩:=ze.one rv
 obtain⟨t2,rfl⟩:=ru
 have hf:H s.heap.objs.size=none:=I.hok.fresh (yak _)
 have key:∀(l:List (Str×Tok))(tk:Nat),l.map (·.1)=Txt.split z y->EP X pins σ Q (.ref s.heap.objs.size) {s with toks:=tk,heap:=s.heap.push {cls:=.type "list",data:=.seq (ya3 l).toArray} }:=λl tk e=>by
  refine⟨.ref s.heap.objs.size,upd H s.heap.objs.size (.lst ((Txt.split z y).map V.str)),I.laid (t':=tk) (λb u e=>Heap.get?_push_of_some _ e) (yak _) ?_,rfl,q _ hf⟩
  exact⟨by rw[lM_];exact hz2,ya3 l,0,by rw[<-e];exact qbB l,Heap.get?_push_size _ rfl⟩
 cases h1:(decide (z.length<y.length)||decide (yeQ z<yeQ y)) with
 |true=>
  refine ybI ydY (ycl _ _ _) ydE (ydp _ _) (meets_str_split_cannot_occur z y t t2 h1) ?_
  exact key [(z,t)] s.toks (by unfold Txt.split;rw[if_pos h1];rfl)
 | false=>
  cases h2:(ya8 z y 0 z.length (z.length+1)).isEmpty with
  |true=>
   refine ybI ydY (ycl _ _ _) ydE (ydp _ _) (meets_str_split_not_found z y t t2 h1 hy h2) ?_
   exact key [(z,t)] s.toks (by unfold Txt.split;rw[if_neg (by rw[h1];decide),if_pos h2];rfl)
  | false=>
   have e:Txt.split z y=Builtin.Str.partsBetween z (ya8 z y 0 z.length (z.length+1)) y.length:=by
    unfold Txt.split;rw[if_neg (by rw[h1];decide),if_neg (by rw[h2];decide)]
   rw[e]at hz2
   refine ybI ydY (ycl _ _ _) ydE (ydp _ _) (meets_str_split_sep z y t t2 h1 hy h2 hz hz2) ?_
   rw[<-e]at hz2 |-
   rw[strsFrom_eq]
   exact key _ _ (numbered_texts _ _)
theorem qe9:MtR X "str.join" (qkO X.K):=by
 intro pins s σ H x vs v us Q I rx rv h
 obtain⟨z,a,ws,rfl,rfl,hx,ok,q⟩:=h
 obtain⟨t,rfl⟩:=rx
 obtain⟨u,rfl,ru⟩:=ze.one rv
 cases (show u=yaf a from ru)
 obtain⟨its,r,pl,_⟩:=I.list hx
 obtain⟨l,rfl,e⟩:=vals_strs r
 exact SC.join (D:=a) (l:=l) pl.isList e ok λt' k=>⟨.str _,H,I.tok _,⟨t',rfl⟩,q⟩
end
def vx:List D->Option (List Str)
 | []=>some []
 |.str x::r=>(vx r).map (x::·)
 |_=>none
theorem qdK {d:D} {r:List D} {ws:List Str} (e:vx (d::r)=some ws):∃b rs,d=.str b/\vx r=some rs/\ws=b::rs:=by
 unfold vx at e
 split at e
 ·rename_i h;cases h
 ·rename_i b r' h
  cases h
  cases e1:vx r with
  |none=>rw[e1]at e;cases e
  |some rs=>rw[e1]at e;cases e;exact⟨b,rs,rfl,rfl,rfl⟩
 ·cases e
theorem vy {K:Fr0} {A:Addr->Prop} {H:Hp}:∀(ds:List D){xs:List V}{ws:List Str},IsL K A H ds xs->vx ds=some ws->xs=ws.map V.str
 | [],_,_,h,e=>by cases e;exact h
 |d::r,xs,ws,h,e=>by
  obtain⟨b,rs,rfl,e1,rfl⟩:=qdK e
  obtain⟨x,ys,hx,h1,h2⟩:=h
  have h1':x=V.str b:=h1
  rw[hx,h1',vy r h2 e1]
  rfl
theorem qcZ {K:Fr0} {A:Addr->Prop} {H:Hp}:∀ws:List Str,IsL K A H (ws.map D.str) (ws.map V.str)
 | []=>rfl
 |n::ns=>⟨.str n,_,rfl,rfl,qcZ ns⟩
def qnn:D->List D->OD
 |.str z,[.str y]=>if !(y.length==0)&&qF z.length then some (.tup ((qme z y).map D.str))else none
 |_,_=>none
def qfa:D->List D->OD
 |.str z,[.str y]=>if !(y.length==0)&&qF z.length&&qF (Txt.split z y).length then some (.lst ((Txt.split z y).map D.str))else none
 |_,_=>none
def qbC:D->List D->OD
 |.str z,[.lst ds]=>match vx ds with
  |some ws=>if ycz z ws then some (.str (Txt.join z ws))else none
  |none=>none
 |_,_=>none
theorem qci {K:Fr0}:qiI K qfa qhq:=by
 intro A H x ys d v vs Q hn ix iy e k
 unfold qfa at e
 split at e
 ·rename_i z y
  cases ix
  obtain⟨u,rfl,e2⟩:=IsL.inv1 iy
  cases e2
  split at e
  ·rename_i c
   cases e
   rw[yau,yau,ycs]at c
   exact⟨z,y,rfl,rfl,c.1.1,of_decide_eq_true c.1.2,of_decide_eq_true c.2,λp hp=>k _ _ (qA hp _) ⟨p,_,rfl,hn p hp,qi,qcZ _⟩⟩
  ·cases e
 ·cases e
theorem qap {K:Fr0}:qiI K qbC (qkO K):=by
 intro A H x ys d v vs Q hn ix iy e k
 unfold qbC at e
 split at e
 ·rename_i z ds
  cases ix
  obtain⟨u,rfl,e2⟩:=IsL.inv1 iy
  cases e1:vx ds with
  |none=>rw[e1]at e;cases e
  | some ws=>
   rw[e1]at e
   dsimp only at e
   split at e
   ·rename_i c
    cases e
    obtain⟨a,xs,rfl,_,ta,il⟩:=e2
    rw[vy _ il e1]at ta
    exact⟨z,a,ws,rfl,rfl,.inl (.inl ta),c,k _ H (jq.refl H) rfl⟩
   ·cases e
 ·cases e
def qbD (F:D->List D->OD) (f:M D) (g:M (List D)):M D:=bnd f λx=>match x with
 |.str z=>bnd g λys=>lift (F (.str z) ys)
 |_=>λ_ => .bad
section
variable{X:Cx}{c:Fc}{o e:Expr}{es:List Expr}{apos cpos:Pos}
theorem qaU {id:String} {name:Str} {r:V->List V->Hp->VK->Prop} {F:D->List D->OD} {f:M D} {g:M (List D)} (slot:Slot "str" name id) (hty:typeOf (.builtin id)=pure (.type "method_descriptor")) (hm:MtR X id r) (hF:qiI X.K F r)
  (ho:DE X c o f) (ha:DA X c (e::es) g)
  (hbase:yaI o name X.env (eval o X.env)=eval o X.env:=by rfl)
  (hfew:((yaz cpos (yac (e::es) X.env)).all (λx => !x.1)&&(ybD cpos (ya4 [] X.env)).all (λx=>x.1.isSome)
   && decide ((e::es).length+([]:List ybm).length+(if([]:List ybm).isEmpty then 0 else 1)<30))=true:=by rfl)
  (hline:(apos.endLine==cpos.line)=true:=by rfl) (hs:yac (e::es) X.env=(false,eval e X.env)::yac es X.env:=by rfl) (hplain:(yaz cpos (yac es X.env)).any (·.1)=false:=by rfl) :
  DE X c (.Call (.Attribute o name apos) (e::es) [] cpos) (qbD F f g):=by
 obtain⟨to,po,wo⟩:=ho
 obtain⟨t,pa,wa⟩:=ha
 refine⟨_,qgd PySem.F.plainAttrs_str slot hty hm po pa hbase hfew hline hs hplain,λZ σ H Q r0 h=>wo Z σ H _ r0 (Wp.bnd h λx Z1 v H1 r1 i1 g1 h1=>?_)⟩
 cases x with
 |str z=>
  cases i1
  refine⟨rfl,wa Z1 σ H1 _ r1 (WpL.bnd h1 λys Z2 vs H2 r2 i2 g2 h2=>?_)⟩
  obtain⟨d,ed,h3⟩:=h2.lift
  exact hF (Cn c σ) H2 (.str z) ys d (.str z) vs Q (λa ha=>r2.new ha) rfl i2 ed λu H' sm i=>h3 u H' (r2.same sm) i (.of_same sm)
 |_=>exact h1.elim
end
end L2.Sk
set_option maxHeartbeats 1000000
namespace L2
open PySem PySem.Spec PyProof.Rows
def Its(x:Str):It:=⟨λi _=>i<x.cps.size,λi H v H'=>H'=H/\∃c,x.cps[i]? = some c/\v=.str ⟨#[c]⟩,λi _=>x.cps.size<=i⟩
theorem qgE {P:yag} {w:World} {K:yad} {tg:Expr} {T:String} (hT:T="str_ascii_iterator"\/T="str_iterator") (x:Str) (t:Tok) (it:Addr):qhL P w K tg (Its x) [it] it (λi h=>h.IsStrIter it T x t i) where
 mem:=by simp
 obj:=λi h st b hb=>by
  have e:b=it:=by simpa using hb
  subst e
  obtain⟨o,e,c,d⟩:=st
  exact⟨o,e,λv z=>by rw[d]at z;cases z⟩
 keep:=λi h h' st k=>let ⟨o,ho,r⟩:=st;⟨o,k it (by simp) o ho,r⟩
 item:=by
  intro X hP hw hK hc i pins s σ H E I hf st hg
  subst hP hw hK
  have hx:x.cps[i]? = some x.cps[i]:=Array.getElem?_eq_getElem hg
  obtain⟨f0,f1,f2,f3,f4,f5⟩:=hf it (by simp)
  have fin:∀h',h'.IsStrIter it T x t (i+1)->ybt it s.heap h'->∃u,some (yd3 ⟨#[x.cps[i]]⟩ s.toks)=some u /\
    wpAny (model X.prog X.w) X.A (ybT tg (.ref it) u) (λ_ s2=>∃v H',Inv X pins σ H' s2/\jp v u/\(Its x).yld i H v H'/\s2.heap.IsStrIter it T x t (i+1)/\∀b∈[it],H' b=none) E {s with heap:=h',toks:=s.toks+1}:=λh' st' sb=>by
   have I1:Inv X pins σ H {s with heap:=h',toks:=s.toks+1}:=I.turned (t':=s.toks+1) (λb o hb e=>(sb.2 b hb).trans e) f0 f1 f3 f4 f5
   obtain⟨o,e,c,d⟩:=id st'
   refine⟨_,rfl,qd8 (s:={s with heap:=h',toks:=s.toks+1}) e c d ?_ ⟨.str ⟨#[x.cps[i]]⟩,H,I1,⟨_,rfl⟩,⟨rfl,_,hx,rfl⟩,st',λb hb=>(hf b hb).1⟩⟩
   rcases hT with rfl|rfl<;>decide
  rcases hT with rfl|rfl
  ·exact wpAny_pyNext_ascii_item st hx fin
  ·exact wpAny_pyNext_wide_item st hx fin
 done:=by
  intro X hP hw hK hc i pins s σ H E I hf st hg
  subst hP hw hK
  have hx:x.cps[i]? = none:=Array.getElem?_eq_none hg
  obtain⟨f0,f1,f2,f3,f4,f5⟩:=hf it (by simp)
  rcases hT with rfl|rfl
  ·exact wpAny_pyNext_ascii_end (I.ok.hd hc) st hx λh' eb=>⟨rfl,I.turned (t':=s.toks) (λb o hb e=>eb b o hb e) f0 f1 f3 f4 f5⟩
  ·exact wpAny_pyNext_wide_end (I.ok.hd hc) st hx λh' eb=>⟨rfl,I.turned (t':=s.toks) (λb o hb e=>eb b o hb e) f0 f1 f3 f4 f5⟩
 self:=λ_ _ _ _ _ st h=>by
  rcases hT with rfl|rfl
  ·exact wpAny_pyIter_striter_ascii st h
  ·exact wpAny_pyIter_striter_wide st h
section
variable{X:Cx}{tg e:Expr}
def qno(tl:TE):TI:=λσ H R=>tl σ H λx H1=>∃z,x=.str z/\R (Its z) H1
theorem qkP {tl:TE} (hl:PE X e tl):PI X tg e (qno tl):=by
 intro pins s σ H R I h
 refine thn (hl pins s σ H _ I h) λv s1 ⟨x,H1,I1,r1,q1⟩=>?_
 obtain⟨z,e,q⟩:=q1
 subst e
 obtain⟨t,rfl⟩:=r1
 have fin:∀T:String,(T="str_ascii_iterator"\/T="str_iterator")->PIE X pins σ tg R (.ref s1.heap.objs.size) {s1 with heap:=s1.heap.push {cls:=.type T,data:=.fields #[.str z t,.int 0 0]} }:=λT hT=>by
  refine⟨s1.heap.objs.size,[s1.heap.objs.size],_,_,H1,rfl,I1.kept (t':=s1.toks) λb o e=>Heap.get?_push_of_some _ e,qgE hT z t _,⟨_,Heap.get?_push_size _ rfl,rfl,rfl⟩,λb hb=>?_,q⟩
  have e:b=s1.heap.objs.size:=by simpa using hb
  subst e
  exact I1.fpOk (yak _) (I1.hok.fresh (yak _))
 cases ha:z.cps.all (·<128)
 ·exact wpAny_pyIter_wide ha (fin _ (.inr rfl))
 ·exact wpAny_pyIter_ascii ha (fin _ (.inl rfl))
end
end L2
namespace L2.Sk
open PySem PySem.Spec PyProof.Rows
def sgn(c:Nat):D:=.str ⟨#[c]⟩
def qdL(x:Str):List D:=x.cps.toList.map sgn
theorem qkQ {K:Fr0} {A:Addr->Prop} {H:Hp} (x:Str):qgp K A H (qdL x) (Its x) where
 go:=λH' i d ex hd=>by
  have:=(gI_.mp hd).1
  show i<x.cps.size
  simpa [qdL] using this
 yl:=λH' i d v H'' ex hd y=>by
  obtain⟨e,c,hc,rfl⟩:=y
  subst e
  refine⟨jq.refl _,?_⟩
  unfold qdL at hd
  rw[gM_,Array.getElem?_toList,hc]at hd
  cases hd
  rfl
 stop:=λH' ex=>by show x.cps.size<=(qdL x).length;simp[qdL]
def qkR:D->Option (List D)
 |.str x=>some (qdL x)
 |_=>none
def qmf(f:M D):M (List D):=bnd f λd=>lift (qkR d)
section
variable{X:Cx}{c:Fc}{tg e:Expr}
theorem qhr {f:M D} (h:DE X c e f):DI X c tg e (qmf f):=by
 obtain⟨t,p,w⟩:=h
 refine⟨_,qkP p,λZ σ H Q r h=>w Z σ H _ r (Wp.bndI h λd Z1 v H1 r1 i1 g1 h1=>?_)⟩
 obtain⟨ds,e,h2⟩:=u6 h1
 cases d<;>simp only[qkR]at e<;>try (cases e;done)
 rename_i z
 cases e
 cases i1
 exact⟨z,rfl,h2 _ H1 r1 (qkQ z) .refl⟩
end
end L2.Sk
set_option maxHeartbeats 2000000
namespace L2.St
open PySem
theorem qiV:yfv (.type "list_reverseiterator") "__len__"=pure none:=by rw[typeLookup_type,yep];kernel_rfl
theorem qgF:yfv (.type "list_reverseiterator") "__length_hint__"=pure (some (.builtin "list_reverseiterator.__length_hint__")):=by rw[typeLookup_type,yep];kernel_rfl
theorem qkS:splitId "list_reverseiterator.__length_hint__"=some ("list_reverseiterator","__length_hint__"):=by decide +kernel
section
variable{prog:yag}{w:World}{A:yal}{E:Value->yaa->Prop}{s:yaa}{I l:Addr}{items:Array Value}
theorem collect_rev {Q:List Value->yaa->Prop} (hh:A.handled=none) (hne:l≠I) (hit:s.heap.IsRevIter I l ((items.size:Int)-1)) (hl:s.heap.IsList l items) (hn:items.size<=1000000)
  (hQ:∀h' tk,(∀b o,b≠I->s.heap.get? b=some o->h'.get? b=some o)->Q items.toList.reverse {s with heap:=h',toks:=tk}):wpAny (model prog w) A (collect (.ref I)) Q E s:=by
 have hI:I<s.heap.objs.size:=by obtain⟨o,ho,_⟩:=hit;exact yae ho
 have hL:l<s.heap.objs.size:=by obtain⟨o,ho,_⟩:=hl;exact yae ho
 have W:=(Walks.listRev (prog:=prog) (w:=w) (A:=A.in1) hh I l hne items).toS
 have nf:s.heap.objs.size ∉ [I,l]:=λh=>by
  rcases List.mem_cons.mp h with z|z
  ·exact absurd z (ybu hI)
  ·exact absurd (ms_.mp z) (ybu hL)
 unfold collect
 refine yab (wpAny_runValue (yc5 F.entry_proto_collect ?_))
 rw[yc9 F.plain_proto_collect _]
 show wpAny (model prog w) A.in1 (newList [] >>= λl=>again (.builtin "list.__iadd__" ⟨[l,.ref I],[]⟩)) _ _ s
 refine yab (yaM (yam ⟨plainId_quiet yfk _,yc5 F.entry_list_iadd ?_⟩))
 rw[yc9 yfk _]
 have kp:∀b o,s.heap.get? b=some o->(s.heap.push {cls:=.type "list",data:=.seq ([]:List Value).toArray}).get? b=some o:=λb o e=>Heap.get?_push_of_some _ e
 have hit1:(s.heap.push {cls:=.type "list",data:=.seq ([]:List Value).toArray}).IsRevIter I l ((items.size:Int)-1):=hit.at λo=>kp I o
 have hl1:=hl.at λo=>kp l o
 have hT:Shared.TypeIs {s with heap:=s.heap.push {cls:=.type "list",data:=.seq ([]:List Value).toArray} } (.ref I) "list_reverseiterator":=hit1.typeIs (s:={s with heap:=s.heap.push {cls:=.type "list",data:=.seq ([]:List Value).toArray} })
 show wpAny (model prog w) A.in1 (ydq (.ref s.heap.objs.size) (.ref I) (.ref s.heap.objs.size)) _ _ _
 unfold ydq
 refine yab (yc1 hT ?_)
 have h1:ydZ (.ref s.heap.objs.size) (.ref I)=false:=by
  simp only[ydZ,beq_eq_false_iff_ne,ne_eq]
  exact ybu hI
 rw[if_neg (by rw[h1];decide)]
 refine yab (yeE hit1 (yab (ybQ ?_)))
 unfold Builtin.List.listLengthHint
 refine yab (wpAny_specialOf hT qiV ?_)
 dsimp only
 show wpAny (model prog w) A.in1 (specialOf (yaf I) (ybi "__length_hint__") >>= _) _ _ _
 refine yab (wpAny_specialOf hT qgF ?_)
 dsimp only
 rw[qkS]
 dsimp only
 refine yab (ycJ (b:=true) hT (by rw[isSubtype_type];kernel_rfl) ?_)
 rw[if_neg (by decide),if_pos (by decide +kernel),if_neg (by decide +kernel)]
 refine yam ?_
 rw[if_neg (by decide +kernel)]
 refine yam ⟨plainId_quiet F.plain_extend_loop _,codeAny_extend_loopS W (by rw[yb7];omega) _ nf _ items.size 0 _ _ _ rfl (ybs _) ⟨ybs _,by rw[show(items.size:Int)-1-((0:Nat):Int)=(items.size:Int)-1 by omega];exact hit1,hl1⟩ (Heap.get?_push_size _ rfl) (ItemsOf.nil _) λs' acc c hm hS' hacc=>?_⟩
 show wpAny (model prog w) A (load s.heap.objs.size >>= _) _ _ s'
 refine yab (wpAny_load hS' (yam ?_))
 have ea:acc.toList=items.toList.reverse:=by
  refine List.ext_getElem? λj=>?_
  rw[Array.getElem?_toList]
  by_cases c:j<items.size
  ·have q:=Array.getElem?_eq_getElem (show j<acc.size by rw[hacc.1];exact c)
   have p:=hacc.2 j _ q
   rw[q,List.getElem?_reverse (by rw[yaW];exact c),Array.getElem?_toList,yaW]
   exact p.symm
  ·rw[Array.getElem?_eq_none (by rw[hacc.1];omega),List.getElem?_eq_none (by rw[List.length_reverse,yaW];omega)]
 rw[ea]
 obtain⟨h',g',d',tk',os'⟩:=s'
 obtain rfl:g'=s.gens:=hm.gens
 obtain rfl:d'=s.drawn:=hm.drawn
 obtain rfl:os'=s.os:=hm.os
 refine hQ h' tk' λb o hb e=>hm.heap b o (λz=>?_) (kp b o e)
 rcases List.mem_cons.mp z with z|z
 ·exact absurd z (yas (yae e))
 ·exact hb (ms_.mp z)
end
end L2.St
namespace L2.Sk
open PySem PySem.Spec PyProof.Rows
def qiW:List D->OD
 | [.str x]=>if decide (x.length<=640) then(yeq x).map .int else none
 |_=>none
def qkT:List V->Hp->VK->Prop:=λxs H Q=>∃x n,xs=[.str x]/\yeq x=some n/\x.length<=640/\Q (.int n) H
theorem qfb {X:Cx}:yM X (.type "int") qkT:=by
 intro pins s σ H xs us Q I r h
 obtain⟨x,n,rfl,hn,hl,q⟩:=h
 obtain⟨u,rfl,ru⟩:=ze.one r
 obtain⟨t,rfl⟩:=ru
 exact PySem.W.KIN.call_text hn hl ⟨.int n,H,I.tok _,⟨_,rfl⟩,q⟩
theorem qdM {K:Fr0}:w5 K qiW qkT:=by
 intro A H xs d vs Q hn h e k
 unfold qiW at e
 split at e
 ·rename_i x
  obtain⟨v,rfl,e2⟩:=IsL.inv1 h
  cases e2
  split at e
  ·rename_i c
   cases e1:yeq x with
   |none=>rw[e1]at e;cases e
   |some n=>
    rw[e1]at e
    cases e
    exact⟨x,n,rfl,e1,of_decide_eq_true c,k _ H (jq.refl H) rfl⟩
  ·cases e
 ·cases e
end L2.Sk
set_option maxHeartbeats 2000000
namespace L2
open PySem PySem.Spec PyProof.Rows
def tJR(K:yad)(to:TE)(ta:TA):TE:=λσ H Q=>to σ H λv H1=>∃z,v=V.str z/\ta σ H1 λvs H2=>∃(a:Addr)(ws:List Str),vs=[V.ref a]/\SqL K H2 a (ws.map V.str)/\ws.length<=1000000/\ycz z ws.reverse=true/\Q (.str (Txt.join z ws.reverse)) H2
theorem gJ (z:Str) (l:List (Str×Tok)) (ok:yeR (Array.foldl (λx1 x2=>x1+x2.length+z.length) 0 (List.map (λx=>x.fst) l).toArray)=false):Gives (joinTail z (ya3 l)) (joinMade z l):=by
 have g0:=gives_joinTail z l ok
 cases l with
 |nil=>exact g0
 |cons p r=>cases r with
  |nil=>exact g0
  |cons q r'=>exact g0
section
variable{X:Cx}{o e:Expr}{apos cpos:Pos}
theorem qiX {to:TE} {ta:TA} {p1 q:Pos} (hc:X.calm=true) (ho:PE X o to) (hg:Gl X "reversed") (hm:X.mg "reversed"=none) (ha:PA X [e] ta)
  (hbase:yaI o "join" X.env (eval o X.env)=eval o X.env:=by rfl)
  (hfew:((yaz cpos (yac [.Call (.Name "reversed" p1) [e] [] q] X.env)).all (λx => !x.1)&&(ybD cpos (ya4 [] X.env)).all (λx=>x.1.isSome)
   && decide (([.Call (.Name "reversed" p1) [e] [] q]:List Expr).length+([]:List ybm).length+(if([]:List ybm).isEmpty then 0 else 1)<30))=true:=by rfl)
  (hline:(apos.endLine==cpos.line)=true:=by rfl) (hs:yac [e] X.env=(false,eval e X.env)::yac [] X.env:=by rfl)
  (he:yac [.Call (.Name "reversed" p1) [e] [] q] X.env=(false,eval (.Call (.Name "reversed" p1) [e] [] q) X.env)::yac [] X.env:=by rfl) (hpl:(yaz cpos (yac [] X.env)).any (·.1)=false:=by rfl) (hpq:(yaz q (yac [] X.env)).any (·.1)=false:=by rfl) :
  PE X (.Call (.Attribute o "join" apos) [.Call (.Name "reversed" p1) [e] [] q] [] cpos) (tJR X.K to ta):=by
 intro pins s σ H Q I h
 refine ycx hbase hfew hline rfl (thn (ho pins s σ H _ I h) λv s1 ⟨x,H1,I1,r1,z,ez,q1⟩=>?_)
 subst ez
 obtain⟨t,rfl⟩:=r1
 refine⟨"str","str.join",F.plainAttrs_str,F.slot_str_join,F.type_str_join,ycl _ _ _,(λ_ e=>nomatch e),?_⟩
 rw[he]
 refine ybW (by show(false||(yaz cpos (yac [] X.env)).any (·.1))=false;rw[hpl];rfl) (yb3 ?_)
 show wpAny _ _ (spliced ((false,eval (.Call (.Name "reversed" p1) [e] [] q) X.env)::yaz cpos (yac [] X.env))) _ _ s1
 refine yeZ ?_
 refine Call_ (v7 I1 hg hm PyProof.Rows.boot_reversed (ybc (thn (ha q pins s1 σ H1 _ I1 q1) λus s2 ⟨vs,H2,I2,r2,q2⟩=>?_) hs hpq))
 obtain⟨a,ws,rfl,hx,hz,ok,qq⟩:=q2
 obtain⟨u,rfl,ru⟩:=ze.one r2
 cases (show u=yaf a from ru)
 obtain⟨its,rv,pl,_⟩:=I2.list hx
 obtain⟨l,rfl,el⟩:=Sk.vals_strs rv
 have hL:=pl.isList
 have hla:a<s2.heap.objs.size:=by obtain⟨o,ho,_⟩:=hL;exact yae ho
 have hh:X.A.handled=none:=I.ok.hd hc
 refine call_reversed_list hL (yfe ?_)
 show wpAny (model X.prog X.w) X.A (call (.builtin "str.join") [.str z t,.ref s2.heap.objs.size]) _ _ _
 refine yey (yc4 F.slot_str_join.plain F.entry_str_join (F.slot_str_join.check _ _ _ _ _ _ _ _ (ycl _ _ _) (F.args_str_join_2 _ _) ?_))
 rw[join_tree_other]
 have hit:(s2.heap.push (revObj a (((ya3 l).toArray.size:Int)-1))).IsRevIter s2.heap.objs.size a (((ya3 l).toArray.size:Int)-1):=⟨_,Heap.get?_push_size _ rfl,rfl,rfl⟩
 have hL1:(s2.heap.push (revObj a (((ya3 l).toArray.size:Int)-1))).IsList a (ya3 l).toArray:=hL.at λo e=>Heap.get?_push_of_some _ e
 refine yab (yc1 (hit.typeIs (s:={s2 with heap:=s2.heap.push (revObj a (((ya3 l).toArray.size:Int)-1))})) ?_)
 rw[if_neg (by decide)]
 refine yab (wpAny_tryCatch (yeE hit ?_))
 have hlen:(ya3 l).toArray.size=ws.length:=by rw[sT_,<-el];simp[ya3]
 refine yab (St.collect_rev (s:={s2 with heap:=s2.heap.push (revObj a (((ya3 l).toArray.size:Int)-1))}) (by simp[hh]) (yas hla) hit hL1 (by rw[hlen];exact hz) λh' tk kp=>?_)
 have er:(ya3 l).toArray.toList.reverse=ya3 l.reverse:=by simp[ya3,yd0]
 rw[er]
 have ok2:ycz z (l.reverse.map (·.1))=true:=by rw[yd0,el];exact ok
 have ok3:=ok2
 unfold ycz at ok3
 rw[ycs]at ok3
 have g:=gJ z l.reverse ok3
 refine g X.prog X.w X.A (wants (EP X pins σ Q) X.xe) _ (post_join l.reverse ⟨joinFit_length ok3,λt' k=>?_⟩)
 rw[yd0,el]
 exact⟨.str _,H2,I2.kept (t':=k) (h':=h') λb o e=>kp b o (yas (yae e)) (Heap.get?_push_of_some _ e),⟨t',rfl⟩,qq⟩
end
end L2
set_option maxHeartbeats 1000000
namespace L2.Sk
open PySem PySem.Spec PyProof.Rows
def qiY (z:Str) (i:Nat):M D:=λZ=>match zZ i Z with
 |some ds=>match vx ds with
  |some ws=>if decide (ws.length<=1000000)&&ycz z ws.reverse then .ok (.str (Txt.join z ws.reverse),Z)else .bad
  |none => .bad
 |none => .bad
section
variable{X:Cx}{c:Fc}{apos cpos:Pos}
theorem qiZ {z:Str} {jj:Nat} {pz p1 p2 q:Pos} {i:Nat} {x:Str} (hc:X.calm=true) (hg:Gl X "reversed") (hm:X.mg "reversed"=none) (ho:i∈c.O:=by exact of_decide_eq_true rfl) (hN:X.N[i]? = some x:=by rfl) (hv:Vis X.env.scope x:=by first|exact yaC rfl|exact yav (yaC rfl)|exact yav (yav rfl)) (hd:(x==("__debug__":Str))=false:=by decide) (hcd:(x==("__classdict__":Str))=false:=by decide)
  (hbase:yaI (.Constant (.str z) jj pz) "join" X.env (eval (.Constant (.str z) jj pz) X.env)=eval (.Constant (.str z) jj pz) X.env:=by rfl)
  (hfew:((yaz cpos (yac [.Call (.Name "reversed" p1) [.Name x p2] [] q] X.env)).all (λx => !x.1)&&(ybD cpos (ya4 [] X.env)).all (λx=>x.1.isSome)
   && decide (([.Call (.Name "reversed" p1) [.Name x p2] [] q]:List Expr).length+([]:List ybm).length+(if([]:List ybm).isEmpty then 0 else 1)<30))=true:=by rfl)
  (hline:(apos.endLine==cpos.line)=true:=by rfl) (hs:yac [.Name x p2] X.env=(false,eval (.Name x p2) X.env)::yac [] X.env:=by rfl)
  (he:yac [.Call (.Name "reversed" p1) [.Name x p2] [] q] X.env=(false,eval (.Call (.Name "reversed" p1) [.Name x p2] [] q) X.env)::yac [] X.env:=by rfl) (hpl:(yaz cpos (yac [] X.env)).any (·.1)=false:=by rfl) (hpq:(yaz q (yac [] X.env)).any (·.1)=false:=by rfl) :
  DE X c (.Call (.Attribute (.Constant (.str z) jj pz) "join" apos) [.Call (.Name "reversed" p1) [.Name x p2] [] q] [] cpos) (qiY z i):=by
 refine⟨_,qiX hc qgY hg hm (zJ (zq hN hv hd hcd) yi hs) hbase hfew hline hs he hpl hpq,λZ σ H Q r h=>?_⟩
 unfold qiY at h
 cases e0:zZ i Z with
 |none=>simp only[e0]at h;exact h.elim
 | some ds=>
  simp only[e0]at h
  cases e1:vx ds with
  |none=>simp only[e1]at h;exact h.elim
  | some ws=>
   simp only[e1]at h
   cases e2:(decide (ws.length<=1000000)&&ycz z ws.reverse) with
   |false=>rw[e2]at h;exact h.elim
   |true=>
    rw[e2,if_pos rfl]at h
    rw[yau,decide_eq_true_eq]at e2
    obtain⟨l,xs,him,hl,hH,il⟩:=r.getLO ho e0
    rw[vy _ il e1]at hH
    exact⟨z,rfl,.ref l,hl,l,ws,rfl,.inl (.inl hH),e2.1,e2.2,h _ H r rfl .refl⟩
def qjp:MS:=λ_ => .bad
theorem qbE{st:Stmt}:DS X c st qjp:=⟨λ_ _ _=>False,λ_ _ _ _ _ _ h=>h.elim,λ_ _ _ _ _ h=>h.elim⟩
end
end L2.Sk
set_option maxHeartbeats 1000000
namespace L2.Sk
open PySem PySem.Spec PyProof.Rows
end L2.Sk
set_option maxHeartbeats 1000000
namespace L2.Sk
open PySem PySem.Spec PyProof.Rows
def opn(H:Hp)(a C dx l:Addr)(v1 v2:V)(ys:List V):Hp:=upd (upd H l (.lst ys)) a (.ins C dx (vI v1 v2 l))
def clo(H:Hp)(a C dx l:Addr)(v1 v2:V)(ys:List V):Hp:=upd (upd H l (.own a)) a (.dsk C dx l (v1::v2::ys))
section
variable{P:yag}{w:World}{H:Hp}{h:Heap}{a C dx l:Addr}{v1 v2:V}{ys:List V}
theorem va (ok:HOk P w H h) (ha:H a=some (.dsk C dx l (v1::v2::ys))):H dx=some (.own a)/\H l=some (.own a)/\dx≠a/\l≠a/\l≠dx:=by
 obtain⟨d,dl,n1,n2,n3,_⟩:=(show jO P w H h a (.dsk C dx l (v1::v2::ys))from ok a _ ha)
 exact⟨d,dl,n1,n2,n3⟩
theorem qi0 (ok:HOk P w H h) (ha:H a=some (.dsk C dx l (v1::v2::ys))):HOk P w (opn H a C dx l v1 v2 ys) h:=λb o e=>by
 obtain⟨d,dl,n1,n2,n3,ob,w1,w2,zs,ex,⟨mA,n,r,wi⟩,z,its,m,rv,el⟩:=(show jO P w H h a (.dsk C dx l (v1::v2::ys))from ok a _ ha)
 cases ex
 by_cases hb:b=a
 ·subst hb
  unfold opn at e;rw[qi]at e;cases e
  refine⟨by unfold opn;rw[qg n1,qg (yaG n3)];exact d,by show 3<=1000;decide,n1,ob,mA,n,r,wi⟩
 ·unfold opn at e
  rw[qg hb]at e
  by_cases hl:b=l
  ·subst hl
   rw[qi]at e;cases e
   exact⟨z,its,m,rv,el⟩
  ·rw [qg hl]at e
   have st:∀{c:Addr}{u:HO},H c=some u->(∀xs,u ≠ .dsk C dx l xs)->u ≠ .own a->opn H a C dx l v1 v2 ys c=some u:=λ{c u} hc k1 k2=>by
    unfold opn
    rw[qg (zP hc ha (k1 _)),qg (zP hc dl k2)];exact hc
   exact(ok b o e).stay (λ_ _ _ q=>q) (λc q=>st q (λ_ z=>by cases z) (λz=>by cases z;exact hb rfl)) (λc xs q=>st q (λ_ z=>by cases z) (λz=>by cases z)) λc ob z q=>st q (λ_ z=>by cases z) (λz=>by cases z)
theorem qi1 (ok:HOk P w H h) (ha:H a=some (.ins C dx (vI v1 v2 l))) (hl:H l=some (.lst ys)):HOk P w (clo H a C dx l v1 v2 ys) h:=λb o e=>by
 obtain⟨d,_,n1,ob,mA,n,r,wi⟩:=(show jO P w H h a (.ins C dx (vI v1 v2 l))from ok a _ ha)
 obtain⟨z,its,m,rv,el⟩:=(show jO P w H h l (.lst ys)from ok l _ hl)
 have n2:l≠a:=zP hl ha (by intro z;cases z)
 have n3:l≠dx:=zP hl d (by intro z;cases z)
 by_cases hb:b=a
 ·subst hb
  unfold clo at e;rw[qi]at e;cases e
  exact⟨by unfold clo;rw[qg n1,qg (yaG n3)];exact d,by unfold clo;rw[qg n2,qi],n1,n2,n3,ob,v1,v2,ys,rfl,⟨mA,n,r,wi⟩,z,its,m,rv,el⟩
 ·unfold clo at e
  rw[qg hb]at e
  by_cases hlb:b=l
  ·subst hlb
   rw[qi]at e;cases e
   exact⟨_,el⟩
  ·rw [qg hlb]at e
   have st:∀{c:Addr}{u:HO},H c=some u->(∀fs,u ≠ .ins C dx fs)->(∀xs,u ≠ .lst xs)->clo H a C dx l v1 v2 ys c=some u:=λ{c u} hc k1 k2=>by
    unfold clo
    rw[qg (zP hc ha (k1 _)),qg (zP hc hl (k2 _))];exact hc
   exact(ok b o e).stay (λ_ _ _ q=>q) (λc q=>st q (λ_ z=>by cases z) (λ_ z=>by cases z)) (λc xs q=>st q (λ_ z=>by cases z) (λ_ z=>by cases z)) λc ob z q=>st q (λ_ z=>by cases z) (λ_ z=>by cases z)
end
section
variable{X:Cx}{pins:List (Addr×Obj)}{σ:St}{H:Hp}{s:yaa}{a C dx l:Addr}{v1 v2:V}{ys:List V}
theorem wP (I:Inv X pins σ H s) (ha:H a=some (.dsk C dx l (v1::v2::ys))):Inv X pins σ (Sk.opn H a C dx l v1 v2 ys) s:=by
 obtain⟨d,dl,n1,n2,n3⟩:=va I.hok ha
 have st:∀{c:Addr}{u:HO},H c=some u->(∀xs,u ≠ .dsk C dx l xs)->u ≠ .own a->Sk.opn H a C dx l v1 v2 ys c=some u:=λ{c u} hc k1 k2=>by
  unfold Sk.opn
  rw[qg (zP hc ha (k1 _)),qg (zP hc dl k2)];exact hc
 exact I.un (h':=s.heap) (t':=s.toks) ⟨λb o q _ _ _=>q,λb o q _ _ _=>⟨o.slots,q⟩,λb o q n _=>by
  unfold Sk.opn
  rw[qg (λe=>by subst e;rw[ha]at n;cases n),qg (λe=>by subst e;rw[dl]at n;cases n)];exact n,λb o q _=>⟨o,q⟩,
  λb xs q=>st q (λ_ z=>by cases z) (λz=>by cases z),λb o u q=>st q (λ_ z=>by cases z) (λz=>by cases z),λb p u q=>st q (λ_ z=>by cases z) (λz=>by cases z)⟩ (qi0 I.hok ha)
theorem qaV (I:Inv X pins σ H s) (ha:H a=some (.ins C dx (vI v1 v2 l))) (hl:H l=some (.lst ys)):Inv X pins σ (Sk.clo H a C dx l v1 v2 ys) s:=by
 have st:∀{c:Addr}{u:HO},H c=some u->(∀fs,u ≠ .ins C dx fs)->(∀xs,u ≠ .lst xs)->Sk.clo H a C dx l v1 v2 ys c=some u:=λ{c u} hc k1 k2=>by
  unfold Sk.clo
  rw[qg (zP hc ha (k1 _)),qg (zP hc hl (k2 _))];exact hc
 exact I.un (h':=s.heap) (t':=s.toks) ⟨λb o q _ _ _=>q,λb o q _ _ _=>⟨o.slots,q⟩,λb o q n _=>by
  unfold Sk.clo
  rw[qg (λe=>by subst e;rw[ha]at n;cases n),qg (λe=>by subst e;rw[hl]at n;cases n)];exact n,λb o q _=>⟨o,q⟩,
  λb xs q=>st q (λ_ z=>by cases z) (λ_ z=>by cases z),λb o u q=>st q (λ_ z=>by cases z) (λ_ z=>by cases z),λb p u q=>st q (λ_ z=>by cases z) (λ_ z=>by cases z)⟩ (qi1 I.hok ha hl)
end
def qnp(t:TE):TE:=λσ H Q=>∃a C dx l v1 v2 ys,H a=some (.dsk C dx l (v1::v2::ys))/\(H dx=some (.own a)->H l=some (.own a)->dx≠a->l≠a->l≠dx->t σ (opn H a C dx l v1 v2 ys) λv H'=>∃u1 u2 zs,H' a=some (.ins C dx (vI u1 u2 l))/\H' l=some (.lst zs)/\Q v (clo H' a C dx l u1 u2 zs))
def qmg(t:TT):TT:=λσ H Q=>∃a C dx l v1 v2 ys,H a=some (.dsk C dx l (v1::v2::ys))/\(H dx=some (.own a)->H l=some (.own a)->dx≠a->l≠a->l≠dx->t σ (opn H a C dx l v1 v2 ys) λb H'=>∃u1 u2 zs,H' a=some (.ins C dx (vI u1 u2 l))/\H' l=some (.lst zs)/\Q b (clo H' a C dx l u1 u2 zs))
section
variable{X:Cx}{e o value:Expr}{f:Str}{pos pos':Pos}{ta tv:TE}
theorem qc0 {t:TE} (h:PE X e t):PE X e (qnp t):=by
 rintro pins s σ H Q I ⟨a,C,dx,l,v1,v2,ys,ha,k⟩
 obtain⟨d,dl,n1,n2,n3⟩:=va I.hok ha
 exact thn (h pins s σ _ _ (wP I ha) (k d dl n1 n2 n3)) λu s1 ⟨v,H1,I1,rv,u1,u2,zs,q1,q2,q⟩=>⟨v,_,qaV I1 q1 q2,rv,q⟩
theorem qkU {t:TT} (h:PT X e t):PT X e (qmg t):=by
 rintro pins s σ H Q I ⟨a,C,dx,l,v1,v2,ys,ha,k⟩
 obtain⟨d,dl,n1,n2,n3⟩:=va I.hok ha
 exact thn (h pins s σ _ _ (wP I ha) (k d dl n1 n2 n3)) λb s1 ⟨H1,I1,u1,u2,zs,q1,q2,q⟩=>⟨_,qaV I1 q1 q2,q⟩
theorem qfc {H:Hp} {a C dx l:Addr} {v1 v2:V} {ys:List V} (ha:H a=some (.dsk C dx l (v1::v2::ys))) (dl:H l=some (.own a)):clo (opn H a C dx l v1 v2 ys) a C dx l v1 v2 ys=H:=by
 funext b
 unfold clo opn upd
 by_cases h1:b=a
 ·rw[if_pos h1,h1,ha]
 ·rw[if_neg h1]
  by_cases h2:b=l
  ·rw[if_pos h2,h2,dl]
  ·rw[if_neg h2,if_neg h1,if_neg h2]
def qmh (K:yad) (ta tv:TE) (f:Str):TS:=λD σ H=>tv σ H λy H1=>ta σ H1 λx H2=>∃a C dx l v1 v2 ys u1 u2,x=.ref a/\H2 a=some (.dsk C dx l (v1::v2::ys))/\Cls K C/\uO K C f/\qaB f y (vI v1 v2 l)=vI u1 u2 l /\
 D.nx σ (upd H2 a (.dsk C dx l (u1::u2::ys)))
theorem qfd (ha:PE X o ta) (hv:PE X value tv) (hs:ybe value (some (.Attribute o f pos')) pos.line X.env=pure false):PS X (.Assign [.Attribute o f pos'] value pos) (qmh X.K ta tv f):=by
 intro pins s σ H D I h
 refine ycT (thn (hv pins s σ H _ I h) λu s1 ⟨y,H1,I1,ry,q⟩=>thn (ha pins s1 σ H1 _ I1 q) λov s2 ⟨x,H2,I2,rx,a,C,dx,l,v1,v2,ys,u1,u2,ex,ea,c,n,hp,q2⟩=>?_) hs
 subst ex
 obtain rfl:ov=yaf a:=rx
 obtain⟨d,dl,n1,n2,n3⟩:=va I2.hok ea
 refine qag (wP I2 ea) (show Sk.opn H2 a C dx l v1 v2 ys a=some _ by unfold Sk.opn;rw[qi]) c n (by show 3<1000;decide) ry λs3 I3=>⟨σ,_,?_,q2⟩
 rw[hp]at I3
 have I4:=qaV (ys:=ys) I3 qi (by rw[qg n2];unfold Sk.opn;rw[qg n2,qi])
 have e:clo (upd (Sk.opn H2 a C dx l v1 v2 ys) a (.ins C dx (vI u1 u2 l))) a C dx l u1 u2 ys=upd H2 a (.dsk C dx l (u1::u2::ys)):=by
  funext b
  unfold clo Sk.opn upd
  by_cases h1:b=a
  ·simp[h1]
  ·by_cases h2:b=l
   ·subst h2;simp[h1,dl]
   ·simp[h1,h2]
 rw[e]at I4
 exact I4
end
def getJ (i:Nat) (Z:Env):Option (List D):=match Z[i]? with
 |some (some (.tup ds))=>some ds
 |_=>none
theorem qfe {i:Nat} {Z:Env} {ds:List D} (h:getJ i Z=some ds):Z[i]? = some (some (.tup ds)):=by
 unfold getJ at h
 split at h
 ·rename_i e;cases h;exact e
 ·cases h
theorem Rep.getJ {K:Fr0} {c:Fc} {Z:Env} {σ:St} {H:Hp} (r:Rep K c Z σ H) {i:Nat} {ds:List D} (hi:i∈c.O) (h:Sk.getJ i Z=some ds) :
  ∃a C dx l xs,σ[i]? = some (some (.ref a))/\H a=some (.dsk C dx l xs)/\i∈c.J/\zY K "Desk"=some C/\immL ds=true/\IsL K (λ_=>False) H ds xs:=by
 obtain⟨ds',a,⟨t,xs⟩,h1,h2,h3,h4⟩:=r.getO hi (qfe h)
 cases t with
 |l=>cases (show D.tup ds=.lst ds' from h1)
 |d C dx l=>
  obtain⟨e1,e2,e3,e4⟩:=h1
  cases e1
  exact⟨a,C,dx,l,xs,h2,h3,e2,e3,e4,IsL.imm e4 h4⟩
def qgG(K:Fr0):Prop:=∀C,zY K "Desk"=some C->Cls K C/\uO K C "store"/\uO K C "room"/\uO K C "past"
theorem IsL.two {K:Fr0} {A:Addr->Prop} {H:Hp} {d1 d2:D} {ps:List D} {xs:List V} (h:IsL K A H (d1::d2::ps) xs):∃v1 v2 ys,xs=v1::v2::ys/\Is K A H d1 v1/\Is K A H d2 v2/\IsL K A H ps ys:=by
 obtain⟨v1,y1,e1,i1,v2,y2,e2,i2,i3⟩:=h
 subst e2;subst e1
 exact⟨v1,v2,y2,rfl,i1,i2,i3⟩
theorem Rep.getJ2 {K:Fr0} {c:Fc} {Z:Env} {σ:St} {H:Hp} (r:Rep K c Z σ H) {i:Nat} {d1 d2:D} {ps:List D} (hi:i∈c.O) (h:Sk.getJ i Z=some (d1::d2::ps)) :
  ∃a C dx l v1 v2 ys,σ[i]? = some (some (.ref a))/\H a=some (.dsk C dx l (v1::v2::ys))/\i∈c.J/\zY K "Desk"=some C/\(imm d1=true/\imm d2=true/\immL ps=true)/\Is K (λ_=>False) H d1 v1/\Is K (λ_=>False) H d2 v2/\IsL K (λ_=>False) H ps ys:=by
 obtain⟨a,C,dx,l,xs,h1,h2,h3,h4,h5,h6⟩:=r.getJ hi h
 obtain⟨v1,v2,ys,e,i1,i2,i3⟩:=h6.two
 subst e
 have h7:imm d1=true/\imm d2=true/\immL ps=true:=by simpa [immL] using h5
 exact⟨a,C,dx,l,v1,v2,ys,h1,h2,h3,h4,h7,i1,i2,i3⟩
theorem Rep.ioJ {K:Fr0} {c:Fc} {Z:Env} {σ:St} {H H':Hp} {i:Nat} {a C dx l:Addr} {bs:List D} {xs:List V} (r:Rep K c Z σ H) (hi:i∈c.O) (hs:σ[i]? = some (some (.ref a))) (hJ:i∈c.J) (hC:zY K "Desk"=some C) (kp:∀b o,b≠a->H b=some o->H' b=some o)
  (ha:H' a=some (.dsk C dx l xs)) (him:immL bs=true) (il:IsL K (λ_=>False) H' bs xs) (dm:∀b,H' b=none->H b=none):Rep K c (Z.set i (some (.tup bs))) σ H'/\Gr c.O σ H H' :=
 r.ioT (xs:=(.d C dx l,xs)) hi hs kp ha ⟨rfl,hJ,hC,him⟩ (IsL.imm him il) dm
theorem Is.keepF {K:Fr0} {H H':Hp} {a:Addr} {o:HO} {d:D} {v:V} (h:Is K (λ_=>False) H d v) (ha:H a=some o) (h1:∀xs,o ≠ .tup xs) (h2:∀ob u,o ≠ .frz ob u) (kp:∀b u,b≠a->H b=some u->H' b=some u):Is K (λ_=>False) H' d v :=
 Is.ext (A:=λ_=>False) ⟨λb xs hb=>kp b _ (zP hb ha (yaG (h1 xs))) hb,λb ob u hb=>kp b _ (zP hb ha (yaG (h2 ob u))) hb,λ_ _ z=>z.elim⟩ (λ_ z=>z.elim) h
theorem IsL.keepF {K:Fr0} {H H':Hp} {a:Addr} {o:HO} {d:List D} {v:List V} (h:IsL K (λ_=>False) H d v) (ha:H a=some o) (h1:∀xs,o ≠ .tup xs) (h2:∀ob u,o ≠ .frz ob u) (kp:∀b u,b≠a->H b=some u->H' b=some u):IsL K (λ_=>False) H' d v :=
 IsL.ext (A:=λ_=>False) ⟨λb xs hb=>kp b _ (zP hb ha (yaG (h1 xs))) hb,λb ob u hb=>kp b _ (zP hb ha (yaG (h2 ob u))) hb,λ_ _ z=>z.elim⟩ (λ_ z=>z.elim) h
theorem qhs{H:Hp}{a:Addr}{u:HO}:∀b o,b≠a->H b=some o->upd H a u b=some o:=λb o hb h=>by rw[qg hb];exact h
theorem qaq{v1 v2:V}{l:Addr}:(vI v1 v2 l).lookup ("store":Str)=some v1:=rfl
theorem qbF{v1 v2:V}{l:Addr}:(vI v1 v2 l).lookup ("room":Str)=some v2:=rfl
theorem wQ{v1 v2:V}{l:Addr}:(vI v1 v2 l).lookup ("past":Str)=some (V.ref l):=rfl
theorem uN{H:Hp}{a C dx l:Addr}{v1 v2:V}{ys:List V}:opn H a C dx l v1 v2 ys a=some (.ins C dx (vI v1 v2 l)):=by unfold opn;rw[qi]
theorem qaa{H:Hp}{a C dx l:Addr}{v1 v2:V}{ys:List V}(n:l≠a):opn H a C dx l v1 v2 ys l=some (.lst ys):=by unfold opn;rw[qg n,qi]
theorem vb{H:Hp}{a C dx l b:Addr}{v1 v2:V}{ys:List V}(n:b≠a)(m:b≠l):opn H a C dx l v1 v2 ys b=H b:=by unfold opn;rw[qg n,qg m]
section
variable{X:Cx}{c:Fc}{e:Expr}{pos p p1:Pos}{x:Str}{i:Nat}
def qar (i k:Nat):M D:=λZ=>match getJ i Z with
 |some (d1::d2::ps) => .ok (if k=0 then d1 else d2,Z)
 |_ => .bad
theorem qcj (T:qgG X.K) (ho:i∈c.O:=by exact of_decide_eq_true rfl) (hN:X.N[i]? = some x:=by rfl) (hv:Vis X.env.scope x:=by first|exact yaC rfl|exact yav (yaC rfl)|exact yav (yav rfl)) (hd:(x==("__debug__":Str))=false:=by decide) (hcd:(x==("__classdict__":Str))=false:=by decide)
  (hb:yaI (.Name x p) "store" X.env (eval (.Name x p) X.env)=eval (.Name x p) X.env:=by rfl):DE X c (.Attribute (.Name x p) "store" pos) (qar i 0):=by
 refine⟨_,qc0 (wf (zq hN hv hd hcd) hb),λZ σ H Q r h=>?_⟩
 unfold qar at h
 split at h
 ·rename_i d1 d2 ps e0
  obtain⟨a,C,dx,l,v1,v2,ys,hs,ha,hJ,hC,him,i1,i2,i3⟩:=r.getJ2 ho e0
  refine⟨a,C,dx,l,v1,v2,ys,ha,λd dl n1 n2 n3=>⟨.ref a,hs,a,C,dx,_,v1,rfl,uN,(T C hC).1,(T C hC).2.1,qaq,v1,v2,ys,uN,qaa n2,?_⟩⟩
  rw[qfc ha dl]
  exact h v1 H r (Is.imm him.1 i1) .refl
 ·exact h.elim
theorem qi2 (T:qgG X.K) (ho:i∈c.O:=by exact of_decide_eq_true rfl) (hN:X.N[i]? = some x:=by rfl) (hv:Vis X.env.scope x:=by first|exact yaC rfl|exact yav (yaC rfl)|exact yav (yav rfl)) (hd:(x==("__debug__":Str))=false:=by decide) (hcd:(x==("__classdict__":Str))=false:=by decide)
  (hb:yaI (.Name x p) "room" X.env (eval (.Name x p) X.env)=eval (.Name x p) X.env:=by rfl):DE X c (.Attribute (.Name x p) "room" pos) (qar i 1):=by
 refine⟨_,qc0 (wf (zq hN hv hd hcd) hb),λZ σ H Q r h=>?_⟩
 unfold qar at h
 split at h
 ·rename_i d1 d2 ps e0
  obtain⟨a,C,dx,l,v1,v2,ys,hs,ha,hJ,hC,him,i1,i2,i3⟩:=r.getJ2 ho e0
  refine⟨a,C,dx,l,v1,v2,ys,ha,λd dl n1 n2 n3=>⟨.ref a,hs,a,C,dx,_,v2,rfl,uN,(T C hC).1,(T C hC).2.2.1,qbF,v1,v2,ys,uN,qaa n2,?_⟩⟩
  rw[qfc ha dl]
  exact h v2 H r (Is.imm him.2.1 i2) .refl
 ·exact h.elim
def qdN (i k:Nat) (f:M D):MS:=sbnd f λd Z=>match getJ i Z with
 |some (d1::d2::ps)=>if imm d=true then .ok (.nx (Z.set i (some (.tup (if k=0 then d::d2::ps else d1::d::ps)))))else .bad
 |_ => .bad
theorem qff{v1 v2 y:V}{l:Addr}:qaB "store" y (vI v1 v2 l)=vI y v2 l:=rfl
theorem qgH{v1 v2 y:V}{l:Addr}:qaB "room" y (vI v1 v2 l)=vI v1 y l:=rfl
theorem qfg {f:M D} (T:qgG X.K) (he:DE X c e f) (ho:i∈c.O:=by exact of_decide_eq_true rfl) (hN:X.N[i]? = some x:=by rfl) (hv:Vis X.env.scope x:=by first|exact yaC rfl|exact yav (yaC rfl)|exact yav (yav rfl)) (hd:(x==("__debug__":Str))=false:=by decide) (hcd:(x==("__classdict__":Str))=false:=by decide)
  (hs:ybe e (some (.Attribute (.Name x p) "store" p1)) pos.line X.env=pure false:=by rfl):DS X c (.Assign [.Attribute (.Name x p) "store" p1] e pos) (qdN i 0 f):=by
 obtain⟨t,pt,w⟩:=he
 refine⟨_,qfd (zq hN hv hd hcd) pt hs,λZ σ H D r h=>w Z σ H _ r (Wp.sbnd h λd Z1 v H1 r1 i1 g1 h1=>?_)⟩
 simp only at h1
 split at h1
 ·rename_i d1 d2 ps e0
  obtain⟨a,C,dx,l,v1,v2,ys,hs,ha,hJ,hC,him,j1,j2,j3⟩:=r1.getJ2 ho e0
  by_cases hb:imm d=true
  ·rw[if_pos hb]at h1;simp only[if_true]at h1
   refine⟨.ref a,hs,a,C,dx,l,v1,v2,ys,v,v2,rfl,ha,(T C hC).1,(T C hC).2.1,qff,?_⟩
   have kp:=qhs (H:=H1) (a:=a) (u:=.dsk C dx l (v::v2::ys))
   obtain⟨r2,g2⟩:=r1.ioJ (bs:=d::d2::ps) ho hs hJ hC kp qi (by simp[immL,hb,him.2.1,him.2.2]) ⟨v,_,rfl,(Is.imm hb i1).keepF ha (λ_ z=>by cases z) (λ_ _ z=>by cases z) kp,v2,ys,rfl,j2.keepF ha (λ_ z=>by cases z) (λ_ _ z=>by cases z) kp,j3.keepF ha (λ_ z=>by cases z) (λ_ _ z=>by cases z) kp⟩ (λb hb=>zA hb)
   exact h1 σ _ r2 g2.s
  ·rw[if_neg hb]at h1;exact h1.elim
 ·exact h1.elim
theorem qfh {f:M D} (T:qgG X.K) (he:DE X c e f) (ho:i∈c.O:=by exact of_decide_eq_true rfl) (hN:X.N[i]? = some x:=by rfl) (hv:Vis X.env.scope x:=by first|exact yaC rfl|exact yav (yaC rfl)|exact yav (yav rfl)) (hd:(x==("__debug__":Str))=false:=by decide) (hcd:(x==("__classdict__":Str))=false:=by decide)
  (hs:ybe e (some (.Attribute (.Name x p) "room" p1)) pos.line X.env=pure false:=by rfl):DS X c (.Assign [.Attribute (.Name x p) "room" p1] e pos) (qdN i 1 f):=by
 obtain⟨t,pt,w⟩:=he
 refine⟨_,qfd (zq hN hv hd hcd) pt hs,λZ σ H D r h=>w Z σ H _ r (Wp.sbnd h λd Z1 v H1 r1 i1 g1 h1=>?_)⟩
 split at h1
 ·rename_i d1 d2 ps e0
  obtain⟨a,C,dx,l,v1,v2,ys,hs,ha,hJ,hC,him,j1,j2,j3⟩:=r1.getJ2 ho e0
  by_cases hb:imm d=true
  ·rw[if_pos hb]at h1;simp only[Nat.one_ne_zero,if_false]at h1
   refine⟨.ref a,hs,a,C,dx,l,v1,v2,ys,v1,v,rfl,ha,(T C hC).1,(T C hC).2.2.1,qgH,?_⟩
   have kp:=qhs (H:=H1) (a:=a) (u:=.dsk C dx l (v1::v::ys))
   obtain⟨r2,g2⟩:=r1.ioJ (bs:=d1::d::ps) ho hs hJ hC kp qi (by simp[immL,hb,him.1,him.2.2]) ⟨v1,_,rfl,j1.keepF ha (λ_ z=>by cases z) (λ_ _ z=>by cases z) kp,v,ys,rfl,(Is.imm hb i1).keepF ha (λ_ z=>by cases z) (λ_ _ z=>by cases z) kp,j3.keepF ha (λ_ z=>by cases z) (λ_ _ z=>by cases z) kp⟩ (λb hb=>zA hb)
   exact h1 σ _ r2 g2.s
  ·rw[if_neg hb]at h1;exact h1.elim
 ·exact h1.elim
end
theorem qfi{H:Hp}{a C dx l:Addr}{v1 v2:V}{ys:List V}:clo H a C dx l v1 v2 ys a=some (.dsk C dx l (v1::v2::ys)):=by unfold clo;rw[qi]
theorem qi3{H:Hp}{a C dx l:Addr}{v1 v2:V}{ys:List V}(n:l≠a):clo H a C dx l v1 v2 ys l=some (.own a):=by unfold clo;rw[qg n,qi]
theorem qas{H:Hp}{a C dx l b:Addr}{v1 v2:V}{ys:List V}(n:b≠a)(m:b≠l):clo H a C dx l v1 v2 ys b=H b:=by unfold clo;rw[qg n,qg m]
theorem qht {H H':Hp} {a C dx l:Addr} {v1 v2 u1 u2:V} {ys zs:List V} (dl:H l=some (.own a)) (n2:l≠a) (k:∀b o,b≠a->b≠l->H b=some o->H' b=some o):∀b o,b≠a->H b=some o->clo H' a C dx l u1 u2 zs b=some o:=λb o hb h=>by
 by_cases hl:b=l
 ·subst hl
  rw[qi3 n2,<-h,dl]
 ·rw[qas hb hl];exact k b o hb hl h
theorem qhu {H H':Hp} {a C dx l:Addr} {u1 u2:V} {zs:List V} (k:∀b,b≠a->b≠l->H' b=none->H b=none):∀b,clo H' a C dx l u1 u2 zs b=none->H b=none:=λb h=>by
 by_cases hb:b=a
 ·subst hb;rw[qfi]at h;cases h
 ·by_cases hl:b=l
  ·subst hl;rw[qi3 hb]at h;cases h
  ·rw[qas hb hl]at h;exact k b hb hl h
section
variable{X:Cx}{c:Fc}{x:Str}{i:Nat}
def qi4 (i:Nat):M D:=λZ=>match getJ i Z with
 |some (d1::d2::ps)=>if qF (ps.length+1)=true then .ok (.non,Z.set i (some (.tup (d1::d2::(ps++[.tup [d1,d2]])))))else .bad
 |_ => .bad
theorem qgI {p1 p2 p3 p4 p5 p6 p7 p8 cp:Pos} {x1} (T:qgG X.K) (ho:i∈c.O:=by exact of_decide_eq_true rfl) (hN:X.N[i]? = some x:=by rfl) (hv:Vis X.env.scope x:=by first|exact yaC rfl|exact yav (yaC rfl)|exact yav (yav rfl)) (hd:(x==("__debug__":Str))=false:=by decide) (hcd:(x==("__classdict__":Str))=false:=by decide)
  (hb1:yaI (.Name x p1) "past" X.env (eval (.Name x p1) X.env)=eval (.Name x p1) X.env:=by rfl) (hb2:yaI (.Name x p4) "store" X.env (eval (.Name x p4) X.env)=eval (.Name x p4) X.env:=by rfl) (hb3:yaI (.Name x p6) "room" X.env (eval (.Name x p6) X.env)=eval (.Name x p6) X.env:=by rfl)
  (hbase:yaI (.Attribute (.Name x p1) "past" p2) "append" X.env (eval (.Attribute (.Name x p1) "past" p2) X.env)=eval (.Attribute (.Name x p1) "past" p2) X.env:=by rfl)
  (hfew:((yaz p8 (yac [.Tuple [.Attribute (.Name x p4) "store" p5,.Attribute (.Name x p6) "room" p7] x1 cp] X.env)).all (λx => !x.1)&&(ybD p8 (ya4 [] X.env)).all (λx=>x.1.isSome)
   && decide ([Expr.Tuple [.Attribute (.Name x p4) "store" p5,.Attribute (.Name x p6) "room" p7] x1 cp].length+([]:List ybm).length+(if([]:List ybm).isEmpty then 0 else 1)<30))=true:=by rfl)
  (hline:(p3.endLine==p8.line)=true:=by rfl) (hs:yac [.Tuple [.Attribute (.Name x p4) "store" p5,.Attribute (.Name x p6) "room" p7] x1 cp] X.env=(false,eval (.Tuple [.Attribute (.Name x p4) "store" p5,.Attribute (.Name x p6) "room" p7] x1 cp) X.env)::yac [] X.env:=by rfl) (hplain:(yaz p8 (yac [] X.env)).any (·.1)=false:=by rfl)
  (hs2:yac [.Attribute (.Name x p4) "store" p5,.Attribute (.Name x p6) "room" p7] X.env=(false,eval (.Attribute (.Name x p4) "store" p5) X.env)::yac [.Attribute (.Name x p6) "room" p7] X.env:=by rfl)
  (hs3:yac [.Attribute (.Name x p6) "room" p7] X.env=(false,eval (.Attribute (.Name x p6) "room" p7) X.env)::yac [] X.env:=by rfl) :
  DE X c (.Call (.Attribute (.Attribute (.Name x p1) "past" p2) "append" p3) [.Tuple [.Attribute (.Name x p4) "store" p5,.Attribute (.Name x p6) "room" p7] x1 cp] [] p8) (qi4 i):=by
 refine⟨_,qc0 (qgd ybn yce ycf uo (wf (zq hN hv hd hcd) hb1) (zJ (qem (zJ (wf (zq hN hv hd hcd) hb2) (zJ (wf (zq hN hv hd hcd) hb3) yi hs3) hs2)) yi hs) hbase hfew hline hs hplain),λZ σ H Q r h=>?_⟩
 unfold qi4 at h
 split at h
 ·rename_i d1 d2 ps e0
  obtain⟨a,C,dx,l,v1,v2,ys,hs,ha,hJ,hC,him,i1,i2,i3⟩:=r.getJ2 ho e0
  by_cases hz:qF (ps.length+1)=true
  case neg=>rw[if_neg hz]at h;exact h.elim
  rw[if_pos hz]at h
  obtain⟨c1,c2,c3,c4⟩:=T C hC
  refine⟨a,C,dx,l,v1,v2,ys,ha,λd dl n1 n2 n3=>⟨.ref a,hs,a,C,dx,_,.ref l,rfl,uN,c1,c4,wQ,.inl ⟨rfl,ys,.inl (.inl (qaa n2))⟩,.ref a,hs,a,C,dx,_,v1,rfl,uN,c1,c2,qaq,.ref a,hs,a,C,dx,_,v2,rfl,uN,c1,c3,qbF,by show 2<=yao;decide,λt ht=>?_⟩⟩
  have nta:t≠a:=λe=>by subst e;rw[uN]at ht;cases ht
  have ntl:t≠l:=λe=>by subst e;rw[qaa n2]at ht;cases ht
  have hHt:H t=none:=by rw[vb nta ntl]at ht;exact ht
  refine⟨l,ys,.ref t,rfl,rfl,by rw[qg (yaG ntl)];exact qaa n2,by rw[i3.length];have:=of_decide_eq_true hz;omega,v1,v2,ys++[.ref t],by rw[qg (yaG n2),qg (yaG nta)];exact uN,qi,?_⟩
  have kp:∀b o,b≠a->H b=some o->clo (upd (upd (opn H a C dx l v1 v2 ys) t (.tup [v1,v2])) l (.lst (ys++[.ref t]))) a C dx l v1 v2 (ys++[.ref t]) b=some o:=qht (v1:=v1) (v2:=v2) (ys:=ys) dl n2 λb o hb hl hq=>by rw[qg hl,qg (qr hq hHt),vb hb hl];exact hq
  have ht2:clo (upd (upd (opn H a C dx l v1 v2 ys) t (.tup [v1,v2])) l (.lst (ys++[.ref t]))) a C dx l v1 v2 (ys++[.ref t]) t=some (.tup [v1,v2]):=by rw[qas nta ntl,qg ntl,qi]
  have j1:=i1.keepF ha (λ_ z=>by cases z) (λ_ _ z=>by cases z) kp
  have j2:=i2.keepF ha (λ_ z=>by cases z) (λ_ _ z=>by cases z) kp
  have j3:=i3.keepF ha (λ_ z=>by cases z) (λ_ _ z=>by cases z) kp
  obtain ⟨r2,g2⟩:=r.ioJ (bs:=d1::d2::(ps++[.tup [d1,d2]])) ho hs hJ hC kp qfi (by simp[immL,him.1,him.2.1,qb9 him.2.2 (show immL [D.tup [d1,d2]]=true by simp[immL,imm,him.1,him.2.1])])
   ⟨v1,_,rfl,j1,v2,_,rfl,j2,IsL.append (es:=[.tup [d1,d2]]) j3 (IsL.one (show Is X.K (λ_=>False) _ (.tup [d1,d2]) (.ref t) from⟨t,[v1,v2],rfl,.inl ht2,v1,_,rfl,j1,v2,[],rfl,j2,rfl⟩))⟩ (qhu λb hb hl hq=>by
    rw[qg hl]at hq
    have:=zA hq
    rw[vb hb hl]at this;exact this)
  exact h .non _ r2 rfl g2
 ·exact h.elim
def qi5 (i:Nat):M Bool:=λZ=>match getJ i Z with
 |some (d1::d2::ps)=>if qbb (.lst ps)=true then .ok (ycn (yX (.lst ps)) (yX (.lst [])),Z)else .bad
 |_ => .bad
theorem qi6 {k:Nat} {p1 p2 p3 p4:Pos} (T:qgG X.K) (hr:jX k X.A) (ho:i∈c.O:=by exact of_decide_eq_true rfl) (hN:X.N[i]? = some x:=by rfl) (hv:Vis X.env.scope x:=by first|exact yaC rfl|exact yav (yaC rfl)|exact yav (yav rfl)) (hd:(x==("__debug__":Str))=false:=by decide) (hcd:(x==("__classdict__":Str))=false:=by decide)
  (hb1:yaI (.Name x p1) "past" X.env (eval (.Name x p1) X.env)=eval (.Name x p1) X.env:=by rfl):DT X c (.Compare (.Attribute (.Name x p1) "past" p2) [.Eq] [.List [] p3] p4) (qi5 i):=by
 refine⟨_,qkU (qeg (qhf hr) (wf (zq hN hv hd hcd) hb1) (qbe yi) (qG _)),λZ σ H Q r h=>?_⟩
 unfold qi5 at h
 split at h
 ·rename_i d1 d2 ps e0
  obtain⟨a,C,dx,l,v1,v2,ys,hs,ha,hJ,hC,him,i1,i2,i3⟩:=r.getJ2 ho e0
  by_cases hz:qbb (.lst ps)=true
  case neg=>rw[if_neg hz]at h;exact h.elim
  rw[if_pos hz]at h
  obtain⟨c1,c2,c3,c4⟩:=T C hC
  refine⟨a,C,dx,l,v1,v2,ys,ha,λd dl n1 n2 n3=>⟨.ref a,hs,a,C,dx,_,.ref l,rfl,uN,c1,c4,wQ,by show 0<=yao;omega,λt ht=>?_⟩⟩
  have nta:t≠a:=λe=>by subst e;rw[uN]at ht;cases ht
  have ntl:t≠l:=λe=>by subst e;rw[qaa n2]at ht;cases ht
  have hHt:H t=none:=by rw[vb nta ntl]at ht;exact ht
  have e2:clo (upd (opn H a C dx l v1 v2 ys) t (.lst [])) a C dx l v1 v2 ys=upd H t (.lst []):=by
   funext b
   by_cases hb:b=a
   ·subst hb;rw[qfi,qg (yaG nta),ha]
   ·by_cases hl:b=l
    ·subst hl;rw[qi3 n2,qg (yaG ntl),dl]
    ·rw[qas hb hl]
     by_cases htt:b=t
     ·subst htt;rw[qi,qi]
     ·rw[qg htt,qg htt,vb hb hl]
  have i4:IsL X.K (λ_=>True) (upd (opn H a C dx l v1 v2 ys) t (.lst [])) ps ys:=by
   have:IsL X.K (λ_=>False) (upd (opn H a C dx l v1 v2 ys) t (.lst [])) ps ys:=IsL.ext (A:=λ_=>False) ⟨λb xs hq=>?_,λb ob u hq=>?_,λ_ _ z=>z.elim⟩ (λ_ z=>z.elim) i3
   ·exact IsL.imm him.2.2 this
   ·rw[qg (qr hq hHt),vb (zP hq ha (λz=>by cases z)) (zP hq dl (λz=>by cases z))];exact hq
   ·rw[qg (qr hq hHt),vb (zP hq ha (λz=>by cases z)) (zP hq dl (λz=>by cases z))];exact hq
  refine⟨.lst ps,.lst [],λ_=>True,⟨l,ys,rfl,trivial,by rw[qg (yaG ntl)];exact qaa n2,i4⟩,⟨t,[],rfl,trivial,qi,rfl⟩,hz,by decide,_,rfl,v1,v2,ys,by rw[qg (yaG nta)];exact uN,by rw[qg (yaG ntl)];exact qaa n2,?_⟩
  rw[e2]
  exact h _ (r.laid hHt _) (.of_same (qA hHt _))
 ·exact h.elim
def qkV (i j:Nat):MS:=λZ=>match getJ i Z with
 |some (d1::d2::ps)=>match ps[ps.length-1]? with
  |some d => .ok (.nx ((Z.set i (some (.tup (d1::d2::ps.dropLast)))).set j (some d)))
  |none => .bad
 |_ => .bad
theorem IsL.dropLast {K:Fr0} {A:Addr->Prop} {H:Hp} {ds:List D} {xs:List V} (h:IsL K A H ds xs):IsL K A H ds.dropLast xs.dropLast:=by
 rw[ycS,ycS,h.length]
 exact h.take _
theorem qfj {ds:List D} (n:Nat) (h:immL ds=true):immL (ds.take n)=true:=by
 induction ds generalizing n with
 |nil=>cases n<;>exact h
 | cons d ds ih=>
  cases n with
  |zero=>rfl
  |succ n=>
   have h':imm d=true/\immL ds=true:=by simpa [immL] using h
   simp[immL,h'.1,ih n h'.2]
theorem qgJ {ds:List D} {j:Nat} {d:D} (h:immL ds=true) (e:ds[j]? = some d):imm d=true:=by
 induction ds generalizing j with
 |nil=>simp at e
 | cons b bs ih=>
  have h':imm b=true/\immL bs=true:=by simpa [immL] using h
  cases j with
  | zero=>
    have:b=d:=by simpa using e
    rw[<-this];exact h'.1
  |succ j=>exact ih h'.2 (by simpa using e)
theorem qi7 {j:Nat} {y:Str} {p1 p2 p3 p4 pos pos':Pos} (T:qgG X.K) (hNd:X.N.Nodup) (ho:i∈c.O:=by exact of_decide_eq_true rfl) (hj:j ∉ c.O:=by exact of_decide_eq_false rfl) (hN:X.N[i]? = some x:=by rfl) (hy:X.N[j]? = some y:=by rfl) (hv:Vis X.env.scope x:=by first|exact yaC rfl|exact yav (yaC rfl)|exact yav (yav rfl)) (hd:(x==("__debug__":Str))=false:=by decide) (hcd:(x==("__classdict__":Str))=false:=by decide)
  (hb1:yaI (.Name x p1) "past" X.env (eval (.Name x p1) X.env)=eval (.Name x p1) X.env:=by rfl) (hb2:yaI (.Attribute (.Name x p1) "past" p2) "pop" X.env (eval (.Attribute (.Name x p1) "past" p2) X.env)=eval (.Attribute (.Name x p1) "past" p2) X.env:=by rfl) (hline:(p3.endLine==p4.line)=true:=by rfl)
  (hx:Loc X.env.scope y:=by first|exact yaC rfl|exact yav rfl) (hs:ybe (.Call (.Attribute (.Attribute (.Name x p1) "past" p2) "pop" p3) [] [] p4) (some (.Name y pos')) pos.line X.env=pure false:=by rfl) (hf:X.fn y=true\/X.env.scope.names.lookup y=some .local:=by first|exact .inl rfl|exact .inr rfl|assumption) :
  DS X c (.Assign [.Name y pos'] (.Call (.Attribute (.Attribute (.Name x p1) "past" p2) "pop" p3) [] [] p4) pos) (qkV i j):=by
 refine⟨_,qcu hNd hy hx (qc0 (qg4 ybn yer yes qg5 (wf (zq hN hv hd hcd) hb1) hb2 hline)) hs hf,λZ σ H D r h=>?_⟩
 unfold qkV at h
 split at h
 ·rename_i d1 d2 ps e0
  obtain⟨a,C,dx,l,v1,v2,ys,hs,ha,hJ,hC,him,i1,i2,i3⟩:=r.getJ2 ho e0
  split at h
  ·rename_i d e1
   obtain⟨c1,c2,c3,c4⟩:=T C hC
   obtain⟨v,hv1,hv2⟩:=i3.get e1
   rw[<-i3.length]at hv1
   refine⟨a,C,dx,l,v1,v2,ys,ha,λd dl n1 n2 n3=>⟨.ref a,hs,a,C,dx,_,.ref l,rfl,uN,c1,c4,wQ,.inl ⟨rfl,ys,.inl (.inl (qaa n2))⟩,l,ys,v,rfl,rfl,qaa n2,hv1,v1,v2,ys.dropLast,by rw[qg (yaG n2)];exact uN,qi,?_⟩⟩
   have kp:∀b o,b≠a->H b=some o->clo (upd (opn H a C dx l v1 v2 ys) l (.lst ys.dropLast)) a C dx l v1 v2 ys.dropLast b=some o:=qht (v1:=v1) (v2:=v2) (ys:=ys) dl n2 λb o hb hl hq=>by rw[qg hl,vb hb hl];exact hq
   have j1:=i1.keepF ha (λ_ z=>by cases z) (λ_ _ z=>by cases z) kp
   have j2:=i2.keepF ha (λ_ z=>by cases z) (λ_ _ z=>by cases z) kp
   have j3:=i3.keepF ha (λ_ z=>by cases z) (λ_ _ z=>by cases z) kp
   have j4:=hv2.keepF ha (λ_ z=>by cases z) (λ_ _ z=>by cases z) kp
   obtain ⟨r2,g2⟩:=r.ioJ (bs:=d1::d2::ps.dropLast) ho hs hJ hC kp qfi (by rw[ycS];simp[immL,him.1,him.2.1,qfj _ him.2.2]) ⟨v1,_,rfl,j1,v2,_,rfl,j2,j3.dropLast⟩ (qhu λb hb hl hq=>by
    rw[qg hl,vb hb hl]at hq;exact hq)
   exact h _ _ (r2.set hj (Is.imm (qgJ him.2.2 e1) j4)) (g2.s.trans (GrS.set hj))
  ·exact h.elim
 ·exact h.elim
end
structure qmi (K:Fr0) (C a:Addr) (H:Hp) (bs':List D) (H':Hp):Prop where
 kp:∀b o,b≠a->H b=some o->H' b=some o
 dm:∀b,H' b=none->H b=none
 im:immL bs'=true
 ex:∃dx l xs,H' a=some (.dsk C dx l xs)/\IsL K (λ_=>False) H' bs' xs
def spJ (K:Fr0) (cl:Str->Option Addr) (F:List D->List D->R (D×List D)):Sp:=λvs H Q E=>∃(bs ds:List D)(A:Addr->Prop)(a C dx l:Addr)(xs vs':List V),vs=.ref a::vs'/\H a=some (.dsk C dx l xs)/\zY K "Desk"=some C/\immL bs=true/\vV K H/\IsL K (λ_=>False) H bs xs/\¬A a/\IsL K A H ds vs'/\match F bs ds with
 |.ok (d,bs')=>∀v H',qmi K C a H bs' H'->Is K (λb=>A b\/H b=none) H' d v->Q v H'
 |.exc x Z=>∃Cx bs',cl x.cls=some Cx/\getJ 0 Z=some bs'/\∀H',qmi K C a H bs' H'->E (.ref Cx) none H'
 |.bad=>False
def qab (n p:Nat) (body:MS) (bs ds:List D):R (D×List D):=if ds.length+1=p then match body (zB n (.tup bs::ds)) with
 |.ok (.rt d Z)=>match getJ 0 Z with
  |some bs' => .ok (d,bs')
  |none => .bad
 |.ok (.nx Z)=>match getJ 0 Z with
  |some bs' => .ok (.non,bs')
  |none => .bad
 |.exc x Z => .exc x Z
 |_ => .bad else .bad
@[reducible] def qgK (O:List Nat) (A:Addr->Prop) (H:Hp) (Io:Addr->Prop) (E:Exn->Hp->Prop) (S:Nat->Option (Option V)):Fc:={cfn O [0] A H Io E S with J:=[0]}
section
variable{P:yag}{w:World}{K:yad}{mg:Str->Option Value}{base:Heap}
theorem qjq {x qual:Str} {st:Stmt} {f:Addr} {fd:yaH} {N ps:List Str} {k:Nat} {O:List Nat} {body:MS} {cl:Str->Option Addr} (F:Fun K x qual st f fd) (S:qv N ps (qc st)) (hO:∀i∈O,i=0\/ps.length<=i) (h0:0∈O)
  (hb:∀(cdv:Value)(A:yal)(outer:List yaL)(s:yaa)(H:Hp)(E:XK)(B Io:Addr->Prop)(S:Nat->Option (Option V)),jX k (A.deeper (yaU qual (qc st) s.heap.objs.size f cdv)) ->
   DSs (qcv (CX1 P w) P w K mg base N qual (qc st) f cdv A outer s H E) (qgK O B H Io (λx H'=>∀C,cl x.cls=some C->E (.ref C) none H') S) (qt st) body) :
  yz P w K mg base (CX1 P w) (k+1) f fd ps (spJ K cl (qab N.length ps.length body)):=by
 obtain⟨oc,od,kV,doc,pm,an,cdv,ct,osl,rfl,lk,hcd⟩:=F.ex
 refine qhW lk hcd S (λvs H Q E h=>?_) λA outer s H vs Q E hr h=>?_
 ·obtain⟨bs,ds,B,a,C,dx,l,xs,vs',rfl,ha,hC,him,tb,ib,nA,il,h⟩:=h
  unfold qab at h
  by_cases e:ds.length+1=ps.length
  ·rw[lC_,il.length];exact e
  ·rw[if_neg e]at h;exact h.elim
 ·obtain ⟨bs,ds,B,a,C,dx,l,xs,vs',rfl,ha,hC,him,tb,ib,nA,il,h⟩:=h
  obtain⟨t,p,wt⟩:=hb cdv A outer s H E B (λb=>b=a) (λj=>(qV N (.ref a::vs'))[j]?) hr
  refine⟨t,p,?_⟩
  unfold qab at h
  by_cases e:ds.length+1=ps.length
  ·rw [if_pos e]at h
   have only:∀j∈O,∀v,(qV N (.ref a::vs'))[j]? = some (some v)->j=0/\v=.ref a:=λj hj v hv=>by
    have h1:=yQ hv
    rcases hO j hj with z|z
    ·subst z;cases h1;exact⟨rfl,rfl⟩
    ·have:=(gI_.mp h1).1
     rw[lC_,il.length]at this
     omega
   have r0:Rep K (qgK O B H (λb=>b=a) (λx H'=>∀C,cl x.cls=some C->E (.ref C) none H') λj=>(qV N (.ref a::vs'))[j]?) (zB N.length (.tup bs::ds)) (qV N (.ref a::vs')) H:=by
    refine⟨by unfold zB qV;simp[il.length],λi d hd=>?_,λj hj v hv=>?_,λi j b hi hj h1 h2=>?_,⟨λb hb => .inr hb,λq P pos eP=>⟨(tb q P pos eP).1,λz=>by have:=(tb q P pos eP).1;rw[z,ha]at this;cases this⟩⟩,λb o hb _=>hb,λb hb=>hb,λj hj=>?_,λ_ _=>rfl⟩
    ·have h1:=ut hd
     cases i with
     |zero=>
      cases h1
      exact⟨.ref a,jr rfl,.inl ⟨h0,bs,a,(.d C dx l,xs),⟨rfl,by simp,hC,him⟩,rfl,ha,IsL.imm him ib⟩⟩
     | succ i=>
      have h1':ds[i]? = some d:=by simpa using h1
      obtain⟨v,h2,h3⟩:=il.get h1'
      have hi:i+1 ∉ O:=λz=>by
       have h4:=(gI_.mp h1').1
       rcases hO _ z with q|q
       ·cases q
       ·omega
      refine⟨v,jr (by simpa using h2),.inr ⟨hi,Is.ext Ext.refl (λb hb _=>⟨.inl hb,λj hj e2=>?_⟩) h3⟩⟩
      obtain⟨_,e3⟩:=only j hj _ e2
      cases e3
      exact nA hb
    ·obtain⟨rfl,rfl⟩:=only j hj v hv
     exact⟨a,(.d C dx l,xs),rfl,ha,.inr ⟨by simp[cfn],rfl⟩⟩
    ·rw[(only i hi _ h1).1,(only j hj _ h2).1]
    ·have:j=0:=by simpa [cfn] using hj
     rw[this];exact h0
   refine wt _ _ H _ r0 ?_
   have fin:∀{Z:Env}{σ:St}{H':Hp}{bs':List D},Rep K (qgK O B H (λb=>b=a) (λx H'=>∀C,cl x.cls=some C->E (.ref C) none H') λj=>(qV N (.ref a::vs'))[j]?) Z σ H'->getJ 0 Z=some bs'->qmi K C a H bs' H':=λ{Z σ H' bs'} r e1=>by
    obtain⟨a',C',dx',l',xs',h1,h2,h3,h4,h5,h6⟩:=r.getJ h0 e1
    have h7:=r.ps 0 (by simp[cfn])
    have h8:(qgK O B H (λb=>b=a) (λx H'=>∀C,cl x.cls=some C->E (.ref C) none H') λj=>(qV N (.ref a::vs'))[j]?).S 0=some (some (.ref a)):=jr rfl
    rw[h1,h8]at h7
    cases h7
    rw[hC]at h4
    cases h4
    exact⟨λb o hb ho=>r.kp b o ho hb,λb hb=>r.dm b hb,h5,dx',l',xs',h2,h6⟩
   cases eb:body (zB N.length (.tup bs::ds)) with
   |bad=>rw[eb]at h;exact h.elim
   | exc z Z=>
    rw[eb]at h
    obtain⟨Cx,bs',h1,h2,h3⟩:=h
    exact λσ' H' r' _ C' hC'=>by
     rw[h1]at hC';cases hC'
     exact h3 H' (fin r' h2)
   | ok fl=>
    rw[eb]at h
    cases fl with
    | nx Z=>
     cases eg:getJ 0 Z with
     |none=>simp only[eg]at h
     |some bs'=>
      simp only[eg]at h
      exact λσ' H' r' _=>h .non H' (fin r' eg) rfl
    | rt d Z=>
     cases eg:getJ 0 Z with
     |none=>simp only[eg]at h
     |some bs'=>
      simp only[eg]at h
      exact λv σ' H' r' i' _=>h v H' (fin r' eg) i'
    |bk Z=>exact h.elim
    |ct Z=>exact h.elim
  ·rw[if_neg e]at h;exact h.elim
structure ux (P:yag) (w:World) (K:yad) (mg:Str->Option Value) (base:Heap) (k:Nat) (m:Str) (ps:List Str) (sp:Sp):Prop where
 ex:∃C f fd,zY K "Desk"=some C/\Cls K C/\qf6 K C m f/\yz P w K mg base (CX1 P w) k f fd ps sp/\yy K fd ps []
end
def qhv(C:Addr)(sp:Sp)(E:XK)(ta:TE)(t:TA):TE:=λσ H Q=>ta σ H λx H1=>∃a dx l v1 v2 ys,x=.ref a/\H1 a=some (.dsk C dx l (v1::v2::ys))/\t σ H1 λvs H2=>sp (x::vs) H2 Q E
def z6 (RN:List Str) (F:List D->List D->R (D×List D)) (i:Nat) (g:M (List D)):M D:=λZ=>match getJ i Z with
 | some (_::_::_)=>(bnd g λds Z=>match getJ i Z with
  |none => .bad
  | some bs=>match F bs ds with
   |.ok (d,bs') => .ok (d,Z.set i (some (.tup bs')))
   |.exc x Z'=>match getJ 0 Z' with
    |some bs'=>if RN.contains x.cls then .exc x (Z.set i (some (.tup bs')))else .bad
    |none => .bad
   |.bad => .bad) Z
 |_ => .bad
def zt (F:List D->List D->R (D×List D)) (i:Nat) (g:M (List D)):M D:=λZ=>match getJ i Z with
 | some (_::_::_)=>(bnd g λds Z=>match getJ i Z with
  |none => .bad
  |some bs=>match F bs ds with
   |.ok (d,bs') => .ok (d,Z.set i (some (.tup bs')))
   |_ => .bad) Z
 |_ => .bad
section
variable{X:Cx}{CX:CXT}{c:Fc}{k:Nat}{f C:Addr}{fd:yaH}{ps:List Str}{sp:Sp}{E:XK}{m y:Str}{apos pos:Pos}{e o:Expr}{es:List Expr}{ta:TE}{t:TA}{i:Nat}{F:List D->List D->R (D×List D)}{g:M (List D)}{cl:Str->Option Addr}
theorem qc1 {pl:Sem Bool} (he:PE X o ta) (c:Cls X.K C) (hm:qf6 X.K C m f) (F:yz X.prog X.w X.K X.mg X.base CX k f fd ps sp) (hr:jX k X.A) (hb:yy X.K fd ps []) (hx:ul CX X E) (ha:PA X (e::es) t) (hl:∀v1 v2 l,(vI v1 v2 l).lookup m=none)
  (hst:yac (e::es) X.env=(false,eval e X.env)::yac es X.env:=by rfl) (hpl:(yaz pos (yac es X.env)).any (·.1)=false:=by rfl)
  (ht:eval (.Call (.Attribute o m apos) (e::es) [] pos) X.env=(do
   let ov <-eval o X.env
   ycM apos.atName
   let (f,first) <-ybP [ov] (ycN ov m pl)
   yeF pos f first (yaz pos (yac (e::es) X.env)) (ybD pos (ya4 [] X.env))):=by rfl) :
  PE X (.Call (.Attribute o m apos) (e::es) [] pos) (qhv C sp E ta t):=by
 intro pins s σ H Q I h
 refine yet (pl:=pl) (thn (he pins s σ H _ I h) λu s1 ⟨x,H1,I1,rx,a,dx,l,v1,v2,ys,ex,ea,q⟩=>?_) ht
 subst ex
 obtain rfl:u=yaf a:=rx
 refine qaf (wP I1 ea) uN c hm (hl v1 v2 l) ?_
 refine ydl (first:=[.ref a]) (h₀:=X.base) I.ok.mod.kin hm.kp (thn (ha pos pins s1 σ H1 _ I1 q) λus s2 ⟨vs,H2,I2,r,q2⟩=>⟨I2.kIn,?_⟩) hst hpl
 exact qen (dvs:=[]) (us:=.ref a::us) (vs:=.ref a::vs) F hr hb .nil hx I2 (.cons rfl r) (by rw[yaS];exact q2)
theorem qfk {pl:Sem Bool} (he:PE X o ta) (c:Cls X.K C) (hm:qf6 X.K C m f) (F:yz X.prog X.w X.K X.mg X.base CX k f fd ps sp) (hr:jX k X.A) (hb:yy X.K fd ps []) (hx:ul CX X E) (hl:∀v1 v2 l,(vI v1 v2 l).lookup m=none)
  (ht:eval (.Call (.Attribute o m apos) [] [] pos) X.env=(do
   let ov <-eval o X.env
   ycM apos.atName
   let (f,first) <-ybP [ov] (ycN ov m pl)
   yeF pos f first (yaz pos (yac [] X.env)) (ybD pos (ya4 [] X.env))):=by rfl) :
  PE X (.Call (.Attribute o m apos) [] [] pos) (qhv C sp E ta qlx):=by
 intro pins s σ H Q I h
 refine yet (pl:=pl) (thn (he pins s σ H _ I h) λu s1 ⟨x,H1,I1,rx,a,dx,l,v1,v2,ys,ex,ea,q⟩=>?_) ht
 subst ex
 obtain rfl:u=yaf a:=rx
 refine qaf (wP I1 ea) uN c hm (hl v1 v2 l) ?_
 exact yeL (first:=[.ref a]) I1.kIn hm.kp (qen (dvs:=[]) (us:=[.ref a]) (vs:=[.ref a]) F hr hb .nil hx I1 (.cons rfl .nil) q)
theorem qhw {RN:List Str} {Z1:Env} {σ:St} {H1:Hp} {Q:VK} {ds:List D} {vs:List V} {a:Addr} (L:XL2 X c cl E) (hcl:∀n,RN.contains n=true->(cl n).isSome=true) (r1:Rep X.K c Z1 σ H1) (ho:i∈c.O) (hs:σ[i]? = some (some (.ref a))) (i1:IsL X.K (Cn c σ) H1 ds vs)
  (h1 : Wp X.K c σ H1 Q (match getJ i Z1 with
   |none => .bad
   | some bs=>match F bs ds with
    |.ok (d,bs') => .ok (d,Z1.set i (some (.tup bs')))
    |.exc x Z'=>match getJ 0 Z' with
     |some bs'=>if RN.contains x.cls then .exc x (Z1.set i (some (.tup bs')))else .bad
     |none => .bad
    |.bad => .bad)):spJ X.K cl F (.ref a::vs) H1 Q E:=by
 cases e1:getJ i Z1 with
 |none=>simp only[e1]at h1;exact h1.elim
 | some bs=>
  simp only[e1]at h1
  obtain⟨a',C,dx,l,xs,q1,q2,q3,q4,q5,q6⟩:=r1.getJ ho e1
  rw[hs]at q1
  cases q1
  refine⟨bs,ds,Cn c σ,a,C,dx,l,xs,vs,rfl,q2,q4,q5,r1.tb,q6,λhc=>hc.2 i ho hs,i1,?_⟩
  cases ef:F bs ds with
  |bad=>simp only[ef]at h1;exact h1.elim
  | exc z Z'=>
   simp only[ef]at h1
   cases eg:getJ 0 Z' with
   |none=>simp only[eg]at h1;exact h1.elim
   |some bs'=>
    simp only[eg]at h1
    by_cases hz:RN.contains z.cls=true
    case neg=>rw[if_neg hz]at h1;exact h1.elim
    rw[if_pos hz]at h1
    obtain⟨Cz,hCz⟩:=Option.isSome_iff_exists.mp (hcl z.cls hz)
    refine⟨Cz,bs',hCz,eg,λH' J=>?_⟩
    obtain⟨dx',l',xs',w1,w2⟩:=J.ex
    obtain⟨r2,g2⟩:=r1.ioJ ho hs q3 q4 J.kp w1 J.im w2 J.dm
    exact L.wish z Cz H' hCz (h1 H' r2 g2)
  |ok q=>
   obtain⟨d,bs'⟩:=q
   simp only[ef]at h1
   intro v H' J i2
   obtain⟨dx',l',xs',w1,w2⟩:=J.ex
   obtain⟨r2,g2⟩:=r1.ioJ ho hs q3 q4 J.kp w1 J.im w2 J.dm
   exact h1 v H' r2 (Is.ext Ext.refl (λa ha _=>ha.elim id r1.new) i2) g2
theorem qfl {Z1:Env} {σ:St} {H1:Hp} {Q:VK} {ds:List D} {vs:List V} {a:Addr} (r1:Rep X.K c Z1 σ H1) (ho:i∈c.O) (hs:σ[i]? = some (some (.ref a))) (i1:IsL X.K (Cn c σ) H1 ds vs)
  (h1:Wp X.K c σ H1 Q (match getJ i Z1 with
   |none => .bad
   |some bs=>match F bs ds with
    |.ok (d,bs') => .ok (d,Z1.set i (some (.tup bs')))
    |_ => .bad)):spJ X.K cl F (.ref a::vs) H1 Q E:=by
 cases e1:getJ i Z1 with
 |none=>simp only[e1]at h1;exact h1.elim
 | some bs=>
  simp only[e1]at h1
  obtain⟨a',C,dx,l,xs,q1,q2,q3,q4,q5,q6⟩:=r1.getJ ho e1
  rw[hs]at q1
  cases q1
  refine⟨bs,ds,Cn c σ,a,C,dx,l,xs,vs,rfl,q2,q4,q5,r1.tb,q6,λhc=>hc.2 i ho hs,i1,?_⟩
  cases ef:F bs ds with
  |bad=>simp only[ef]at h1;exact h1.elim
  |exc z Z'=>simp only[ef]at h1;exact h1.elim
  |ok q=>
   obtain⟨d,bs'⟩:=q
   simp only[ef]at h1
   intro v H' J i2
   obtain⟨dx',l',xs',w1,w2⟩:=J.ex
   obtain⟨r2,g2⟩:=r1.ioJ ho hs q3 q4 J.kp w1 J.im w2 J.dm
   exact h1 v H' r2 (Is.ext Ext.refl (λa ha _=>ha.elim id r1.new) i2) g2
theorem mJ {j:Nat} {RN:List Str} {p:Pos} {pl:Sem Bool} (L:XL2 X c cl E) (hcl:∀n,RN.contains n=true->(cl n).isSome=true) (M:ux X.prog X.w X.K X.mg X.base k m ps (spJ X.K cl F)) (hr:jX j X.A) (ha:DA X c (e::es) g) (hl:∀v1 v2 l,(vI v1 v2 l).lookup m=none:=by intros;rfl) (hk:k<=j:=by decide)
  (ho:i∈c.O:=by exact of_decide_eq_true rfl) (hN:X.N[i]? = some y:=by rfl) (hv:Vis X.env.scope y:=by first|exact yaC rfl|exact yav (yaC rfl)|exact yav (yav rfl)) (hd:(y==("__debug__":Str))=false:=by decide) (hcd:(y==("__classdict__":Str))=false:=by decide)
  (hst:yac (e::es) X.env=(false,eval e X.env)::yac es X.env:=by rfl) (hpl:(yaz pos (yac es X.env)).any (·.1)=false:=by rfl)
  (ht:eval (.Call (.Attribute (.Name y p) m apos) (e::es) [] pos) X.env=(do
   let ov <-eval (.Name y p) X.env
   ycM apos.atName
   let (f,first) <-ybP [ov] (ycN ov m pl)
   yeF pos f first (yaz pos (yac (e::es) X.env)) (ybD pos (ya4 [] X.env))):=by rfl) :
  DE X c (.Call (.Attribute (.Name y p) m apos) (e::es) [] pos) (z6 RN F i g):=by
 obtain⟨C,f,fd,hC,hc,hm,G,hb⟩:=M.ex
 obtain⟨t,pa,w⟩:=ha
 refine⟨_,qc1 (zq hN hv hd hcd) hc hm G (hr.mono hk) hb L.pass pa hl hst hpl ht,λZ σ H Q r h=>?_⟩
 unfold z6 at h
 split at h
 ·rename_i d1 d2 ps0 e0
  obtain⟨a,C',dx,l,v1,v2,ys,hs,ha,hJ,hC',him,i1,i2,i3⟩:=r.getJ2 ho e0
  rw[hC]at hC'
  cases hC'
  exact⟨.ref a,hs,a,dx,l,v1,v2,ys,rfl,ha,w Z σ H _ r (WpL.bnd h λds Z1 vs H1 r1 i1 g1 h1=>qhw L hcl r1 ho hs i1 h1)⟩
 ·exact h.elim
theorem mJ0 {j:Nat} {RN:List Str} {p:Pos} {pl:Sem Bool} (L:XL2 X c cl E) (hcl:∀n,RN.contains n=true->(cl n).isSome=true) (M:ux X.prog X.w X.K X.mg X.base k m ps (spJ X.K cl F)) (hr:jX j X.A) (hl:∀v1 v2 l,(vI v1 v2 l).lookup m=none:=by intros;rfl) (hk:k<=j:=by decide)
  (ho:i∈c.O:=by exact of_decide_eq_true rfl) (hN:X.N[i]? = some y:=by rfl) (hv:Vis X.env.scope y:=by first|exact yaC rfl|exact yav (yaC rfl)|exact yav (yav rfl)) (hd:(y==("__debug__":Str))=false:=by decide) (hcd:(y==("__classdict__":Str))=false:=by decide)
  (ht:eval (.Call (.Attribute (.Name y p) m apos) [] [] pos) X.env=(do
   let ov <-eval (.Name y p) X.env
   ycM apos.atName
   let (f,first) <-ybP [ov] (ycN ov m pl)
   yeF pos f first (yaz pos (yac [] X.env)) (ybD pos (ya4 [] X.env))):=by rfl) :
  DE X c (.Call (.Attribute (.Name y p) m apos) [] [] pos) (z6 RN F i (ret [])):=by
 obtain⟨C,f,fd,hC,hc,hm,G,hb⟩:=M.ex
 refine⟨_,qfk (zq hN hv hd hcd) hc hm G (hr.mono hk) hb L.pass hl ht,λZ σ H Q r h=>?_⟩
 unfold z6 at h
 split at h
 ·rename_i d1 d2 ps0 e0
  obtain⟨a,C',dx,l,v1,v2,ys,hs,ha,hJ,hC',him,i1,i2,i3⟩:=r.getJ2 ho e0
  rw[hC]at hC'
  cases hC'
  exact⟨.ref a,hs,a,dx,l,v1,v2,ys,rfl,ha,qhw (ds:=[]) L hcl r ho hs (show IsL X.K (Cn c σ) H [] []from rfl) h⟩
 ·exact h.elim
theorem mK {j:Nat} {p:Pos} {pl:Sem Bool} (M:ux X.prog X.w X.K X.mg X.base k m ps (spJ X.K cl F)) (hr:jX j X.A) (ha:DA X c (e::es) g) (hl:∀v1 v2 l,(vI v1 v2 l).lookup m=none:=by intros;rfl) (hk:k<=j:=by decide)
  (ho:i∈c.O:=by exact of_decide_eq_true rfl) (hN:X.N[i]? = some y:=by rfl) (hv:Vis X.env.scope y:=by first|exact yaC rfl|exact yav (yaC rfl)|exact yav (yav rfl)) (hd:(y==("__debug__":Str))=false:=by decide) (hcd:(y==("__classdict__":Str))=false:=by decide)
  (hst:yac (e::es) X.env=(false,eval e X.env)::yac es X.env:=by rfl) (hpl:(yaz pos (yac es X.env)).any (·.1)=false:=by rfl)
  (ht:eval (.Call (.Attribute (.Name y p) m apos) (e::es) [] pos) X.env=(do
   let ov <-eval (.Name y p) X.env
   ycM apos.atName
   let (f,first) <-ybP [ov] (ycN ov m pl)
   yeF pos f first (yaz pos (yac (e::es) X.env)) (ybD pos (ya4 [] X.env))):=by rfl) :
  DE X c (.Call (.Attribute (.Name y p) m apos) (e::es) [] pos) (zt F i g):=by
 obtain⟨C,f,fd,hC,hc,hm,G,hb⟩:=M.ex
 obtain⟨t,pa,w⟩:=ha
 refine⟨_,qc1 (E:=λ_ _ _=>False) (zq hN hv hd hcd) hc hm G (hr.mono hk) hb (λ_ _ _ _ _ _ _ ⟨_,_,_,_,_,_,_,_,_,_,_,_,_,_,z⟩=>z.elim) pa hl hst hpl ht,λZ σ H Q r h=>?_⟩
 unfold zt at h
 split at h
 ·rename_i d1 d2 ps0 e0
  obtain⟨a,C',dx,l,v1,v2,ys,hs,ha,hJ,hC',him,i1,i2,i3⟩:=r.getJ2 ho e0
  rw[hC]at hC'
  cases hC'
  exact⟨.ref a,hs,a,dx,l,v1,v2,ys,rfl,ha,w Z σ H _ r (WpL.bnd h λds Z1 vs H1 r1 i1 g1 h1=>qfl r1 ho hs i1 h1)⟩
 ·exact h.elim
theorem dK {j:Nat} {x:Str} {p p1:Pos} (G:yJ X.prog X.w X.K X.mg X.base k x ps (spJ X.K cl F)) (hr:jX j X.A) (ha:DA X c es g) (hk:k<=j:=by decide) (hg:Gl X x:=by rfl)
  (ho:i∈c.O:=by exact of_decide_eq_true rfl) (hN:X.N[i]? = some y:=by rfl) (hv:Vis X.env.scope y:=by first|exact yaC rfl|exact yav (yaC rfl)|exact yav (yav rfl)) (hdy:(y==("__debug__":Str))=false:=by decide) (hcd:(y==("__classdict__":Str))=false:=by decide)
  (hd:(x==("__debug__":Str))=false:=by decide) (he:yac (.Name y p1::es) X.env=(false,eval (.Name y p1) X.env)::yac es X.env:=by rfl) (hpl:(yaz pos (yac es X.env)).any (·.1)=false:=by rfl):DE X c (.Call (.Name x p) (.Name y p1::es) [] pos) (zt F i g):=by
 obtain⟨f,fd,G,hm,hkp,hb⟩:=G.ex
 obtain⟨t,pa,w⟩:=ha
 refine⟨_,vm (E:=λ_ _ _=>False) G (hr.mono hk) hg hm hkp hb .nil (λ_ _ _ _ _ _ _ ⟨_,_,_,_,_,_,_,_,_,_,_,_,_,_,z⟩=>z.elim) (zJ (zq hN hv hdy hcd) pa he) hd he hpl,λZ σ H Q r h=>?_⟩
 unfold zt at h
 split at h
 ·rename_i d1 d2 ps0 e0
  obtain⟨a,C',dx,l,v1,v2,ys,hs,ha,hJ,hC',him,i1,i2,i3⟩:=r.getJ2 ho e0
  refine⟨.ref a,hs,w Z σ H _ r (WpL.bnd h λds Z1 vs H1 r1 i1 g1 h1=>?_)⟩
  show spJ X.K cl F (.ref a::vs++[]) H1 Q _
  rw[yaS]
  exact qfl r1 ho hs i1 h1
 ·exact h.elim
end
def qhx (C:Addr):Sp:=λvs H Q _=>∃(p dx:Addr),vs=[.ref p]/\H p=some (.ins C dx [])/\∀(l t:Addr)(H':Hp),H l=none->H t=none->l≠t->H' p=some (.ins C dx (vI (.ref t) (.int 0) l))->H' l=some (.lst [])->H' t=some (.tup []) ->
 (∀b o,b≠p->H b=some o->H' b=some o)->(∀b,H' b=none->H b=none)->Q .non H'
theorem qi8 {P:yag} {w:World} {K:yad} {mg:Str->Option Value} {base:Heap} {st:Stmt} {f C:Addr} {fd:yaH} {p1 p2 p3 p4 p5 p6 p7 p8 p9 p10 p11 p12:Pos} {x1} {j1:Nat} (F:Fun K "__init__" "Desk.__init__" st f fd) (S:qv ["self"] ["self"] (qc st)) (hC:zY K "Desk"=some C) (T:qgG K)
  (hb:qt st=[.Assign [.Attribute (.Name "self" p1) "store" p2] (.Tuple [] x1 p3) p4,.Assign [.Attribute (.Name "self" p5) "room" p6] (.Constant (.int 0) j1 p7) p8,.Assign [.Attribute (.Name "self" p9) "past" p10] (.List [] p11) p12])
  (hs:∀(X:Cx),X.N=(["self"]:List Str)->X.env.scope=qc st->PE X (.Name "self" p1) (qlw 0)/\PE X (.Name "self" p5) (qlw 0)/\PE X (.Name "self" p9) (qlw 0))
  (hw1:∀env,ybe (.Tuple [] x1 p3) (some (.Attribute (.Name "self" p1) "store" p2)) p4.line env=pure false:=by intro _;rfl) (hw2:∀env,ybe (.Constant (.int 0) j1 p7) (some (.Attribute (.Name "self" p5) "room" p6)) p8.line env=pure false:=by intro _;rfl) (hw3:∀env,ybe (.List [] p11) (some (.Attribute (.Name "self" p9) "past" p10)) p12.line env=pure false:=by intro _;rfl) :
  yz P w K mg base CX0 1 f fd ["self"] (qhx C):=by
 obtain⟨c1,c2,c3,c4⟩:=T C hC
 refine F.ok S (λvs H Q E h=>?_) (λcdv A outer s H vs Q E hr h=>?_)
 ·obtain⟨p,dx,rfl,_⟩:=h
  rfl
 ·obtain⟨p,dx,rfl,hp,k⟩:=h
  obtain⟨v1,v2,v3⟩:=hs ((qcv CX0 P w K mg base ["self"] "Desk.__init__" (qc st) f cdv A outer s H E).nox) rfl rfl
  rw[hb]
  refine⟨_,qaz (qel v1 (qem yi) (hw1 _)) (qaz (qel v2 qgX (hw2 _)) (qaA (qel v3 (qbe yi) (hw3 _)))),?_⟩
  refine⟨by show 0<=yao;omega,λt ht=>?_⟩
  have npt:p≠t:=qr hp ht
  refine⟨_,rfl,p,C,dx,[],rfl,(by rw[qg npt];exact hp),c1,c2,(by show 0<1000;decide),_,rfl,p,C,dx,_,rfl,qi,c1,c3,(by show 1<1000;decide),by show 0<=yao;omega,λl hl=>?_⟩
  have hl1:=zA hl
  have hl2:=zA hl1
  have npl:p≠l:=λe=>by subst e;rw[qi]at hl;cases hl
  have nlt:l≠t:=λe=>by subst e;rw[qi]at hl2;cases hl2
  have hl3:=zA hl2
  refine⟨_,rfl,p,C,dx,_,rfl,(by rw[qg npl,qi]),c1,c4,(by show 2<1000;decide),?_⟩
  refine k l t _ hl3 ht nlt qi (by rw[qg (yaG npl),qi]) (by rw[qg (yaG npt),qg (yaG nlt),qg (yaG npt),qg (yaG npt),qi]) (λb o hb hq=>?_) λb hb=>?_
  ·rw[qg hb,qg (qr hq hl3),qg hb,qg hb,qg (qr hq ht)];exact hq
  ·exact zA (zA (zA (zA (zA hb))))
@[reducible] def qmj (J O:List Nat) (A:Addr->Prop) (H:Hp):Fc:={cfn O [] A H (λ_=>False) (λ_ _=>False) λ_=>none with J:=J}
theorem qdO {K:Fr0} {N:List Str} {J O:List Nat} {A:Addr->Prop} {H:Hp} {ds:List D} {vs:List V} (il:IsL K A H ds vs) (tb:vV K H) (hO:∀i∈O,ds.length<=i) :
  Rep K (qmj J O A H) (zB N.length ds) (qV N vs) H:=by
 have r:=u8 (N:=N) (E:=λ_ _=>False) il tb hO
 refine⟨r.len,λi d h=>?_,r.own,r.inj,r.b0,r.kp,r.dm,r.pO,r.ps⟩
 obtain⟨v,h1,h2⟩:=r.val i d h
 refine⟨v,h1,h2.elim (λz=>?_) .inr⟩
 obtain⟨h3,_⟩:=z
 have:=(gI_.mp (ut h)).1
 have:=hO i h3
 omega
section
variable{P:yag}{w:World}{K:yad}{mg:Str->Option Value}{base:Heap}
theorem qgL (J:List Nat) {x qual:Str} {st:Stmt} {f:Addr} {fd:yaH} {N ps:List Str} {k:Nat} {O:List Nat} {body:MS} (F:Fun K x qual st f fd) (S:qv N ps (qc st)) (hO:∀i∈O,ps.length<=i)
  (hb:∀(cdv:Value)(A:yal)(outer:List yaL)(s:yaa)(H:Hp)(E:XK)(B:Addr->Prop),jX k (A.deeper (yaU qual (qc st) s.heap.objs.size f cdv)) ->
   DSs (qcv CX0 P w K mg base N qual (qc st) f cdv A outer s H E).nox (qmj J O B H) (qt st) body) :
  yz P w K mg base CX0 (k+1) f fd ps (spD K (dfn N.length ps.length body)):=by
 refine F.ok S (λvs H Q E h=>?_) (λcdv A outer s H vs Q E hr h=>?_)
 ·obtain⟨ds,B,il,_,h⟩:=h
  unfold dfn at h
  by_cases e:ds.length=ps.length
  ·rw[il.length];exact e
  ·rw[if_neg e]at h;exact h.elim
 ·obtain ⟨ds,B,il,tb,h⟩:=h
  obtain⟨t,p,wt⟩:=hb cdv A outer s H E B hr
  refine⟨t,p,?_⟩
  unfold dfn at h
  by_cases e:ds.length=ps.length
  ·rw [if_pos e]at h
   refine wt (zB N.length ds) (qV N vs) H _ (qdO il tb (λi hi=>by rw[e];exact hO i hi)) ?_
   have same:∀{Z:Env}{σ:St}{H':Hp},Rep K (qmj J O B H) Z σ H'->jq H H':=λr b o hb=>r.kp b o hb λz=>z
   cases eb:body (zB N.length ds) with
   |bad=>rw[eb]at h;exact h.elim
   |exc z Z=>rw[eb]at h;exact h.elim
   |ok fl=>
    rw[eb]at h
    cases fl with
    |nx Z=>exact λσ' H' r' _=>h .non H' (same r') rfl
    |rt d Z=>exact λv σ' H' r' i' _=>h v H' (same r') i'
    |bk Z=>exact h.elim
    |ct Z=>exact h.elim
  ·rw[if_neg e]at h;exact h.elim
structure qaW (P:yag) (w:World) (K:yad) (mg:Str->Option Value) (base:Heap):Prop where
 ex:∃C f fd,zY K "Desk"=some C/\mg "Desk"=some (.ref C)/\Mk K C f/\yz P w K mg base CX0 1 f fd ["self"] (qhx C)/\yy K fd ["self"] []
end
section
variable{X:Cx}{c:Fc}{i:Nat}{x:Str}{p pos pos' p1:Pos}
theorem qkW {e:Expr} {t:TE} (h:PE X e t):PE X e (λσ H Q=>t σ H λv H'=>∃a C dx l v1 v2 ys,H' a=some (.ins C dx (vI v1 v2 l))/\H' l=some (.lst ys)/\Q v (clo H' a C dx l v1 v2 ys)):=by
 intro pins s σ H Q I hq
 exact thn (h pins s σ H _ I hq) λu s1 ⟨v,H1,I1,rv,a,C,dx,l,v1,v2,ys,h1,h2,q⟩=>⟨v,_,qaV I1 h1 h2,rv,q⟩
def qbG(i:Nat):MS:=λZ => .ok (.nx (Z.set i (some (.tup [.tup [],.int 0]))))
theorem qgM {j:Nat} (M:qaW X.prog X.w X.K X.mg X.base) (hr:jX j X.A) (hNd:X.N.Nodup) (hk:2<=j:=by decide) (hg:Gl X "Desk":=by rfl) (ho:i∈c.O:=by exact of_decide_eq_true rfl) (hP:i ∉ c.P:=by exact of_decide_eq_false rfl) (hJ:i∈c.J:=by exact of_decide_eq_true rfl) (hi:X.N[i]? = some x:=by rfl)
  (hx:Loc X.env.scope x:=by first|exact yaC rfl|exact yav rfl) (hs:ybe (.Call (.Name "Desk" p) [] [] p1) (some (.Name x pos')) pos.line X.env=pure false:=by rfl) (hf:X.fn x=true\/X.env.scope.names.lookup x=some .local:=by first|exact .inl rfl|exact .inr rfl|assumption) :
  DS X c (.Assign [.Name x pos'] (.Call (.Name "Desk" p) [] [] p1) pos) (qbG i):=by
 obtain⟨C,f,fd,hC,hm,mk,G,hb⟩:=M.ex
 refine⟨_,qcu hNd hi hx (qkW (qf9 mk G (hr.mono hk) hg hm hb .nil qev)) hs hf,λZ σ H D r h=>?_⟩
 intro a dx na ndx ne
 refine⟨a,dx,rfl,qi,λl t H' hl ht nlt q1 q2 q3 kp dm=>⟨rfl,a,C,dx,l,.ref t,.int 0,[],q1,q2,?_⟩⟩
 have hl1:=zA hl
 have hl2:=zA hl1
 have ht1:=zA ht
 have ht2:=zA ht1
 have nla:l≠a:=λe=>by subst e;rw[qi]at hl;cases hl
 have nta:t≠a:=λe=>by subst e;rw[qi]at ht;cases ht
 have sm:jq H (clo H' a C dx l (.ref t) (.int 0) []):=λb o hb=>by
  have n1:b≠a:=qr hb na
  have n2:b≠l:=qr hb hl2
  rw[qas n1 n2]
  exact kp b o n1 (by rw[qg n1,qg (qr hb ndx)];exact hb)
 have ht3:clo H' a C dx l (.ref t) (.int 0) [] t=some (.tup []):=by rw[qas nta (yaG nlt)];exact q3
 refine h _ _ ((r.same sm).setOT (xs:=(.d C dx l,[.ref t,.int 0])) (ds:=[.tup [],.int 0]) ho hP (r.apart_same na sm) qfi ⟨rfl,hJ,hC,rfl⟩ ⟨.ref t,_,rfl,⟨t,[],rfl,.inl ht3,rfl⟩,.int 0,[],rfl,rfl,rfl⟩) ⟨Ext.of_same sm,λb hb hs=>hb.setO (λe=>by rw[e,na]at hs;exact absurd hs (by simp)),λb h=>sm.free h⟩
end
structure qlG (P:yag) (w:World) (K:Fr0) (mg:Str->Option Value) (n:Str) (tb:List (Str×List Str)):Prop where
 ex:∃(wa:Addr)(o:Obj)(es:Array ydn)(ep:Nat)(kvs:List (Str×Value)),mg n=some (.ref wa)/\(wa==ybZ)=false/\K.lookup wa=some o/\o.ExactDict/\o.data=.dict es ep/\KeysOf (strKind P w) es/\Pairs (strKind P w) es.toList kvs /\
  (kvs.map (·.1))=tb.map (·.1)/\(kvs.map (·.1)).Nodup/\∀(i:Nat)(k:Str)(u:Value)(ws:List Str),kvs[i]? = some (k,u)->tb[i]? = some (k,ws)->∃a,u=.ref a/\∃(o:Obj)(its:Array Value)(m:Nat),K.lookup a=some o/\o.cls=.type "tuple"/\o.data=.seq its m/\its.size<=yao/\ze (ws.map V.str) its.toList
theorem qc2 {K:Fr0}:∀{kvs:List (Str×Value)}{tb:List (Str×List Str)},kvs.map (·.1)=tb.map (·.1) ->
  (∀(i:Nat)(k:Str)(u:Value)(ws:List Str),kvs[i]? = some (k,u)->tb[i]? = some (k,ws)->∃a,u=.ref a/\∃(o:Obj)(its:Array Value)(m:Nat),K.lookup a=some o/\o.cls=.type "tuple"/\o.data=.seq its m/\its.size<=yao/\ze (ws.map V.str) its.toList) ->
  ∀ x:Str,match tb.lookup x with
   |none=>ydQ kvs x=none
   |some ws=>∃a,ydQ kvs x=some (.ref a)/\∃(o:Obj)(its:Array Value)(m:Nat),K.lookup a=some o/\o.cls=.type "tuple"/\o.data=.seq its m/\its.size<=yao/\ze (ws.map V.str) its.toList
 | [],[],_,_,x=>rfl
 | [],_::_,h,_,_=>by cases h
 |_::_,[],h,_,_=>by cases h
 | (k,u)::kvs,(k',ws)::tb,h,hv,x=>by
  have e1:k=k'/\kvs.map (·.1)=tb.map (·.1):=by simpa using h
  obtain⟨e1,e2⟩:=e1
  subst e1
  have ih:=qc2 (kvs:=kvs) (tb:=tb) e2 (λi k2 u2 ws2 h1 h2=>hv (i+1) k2 u2 ws2 (by simpa using h1) (by simpa using h2)) x
  by_cases hx:x=k
  ·subst hx
   have e3:((x,ws)::tb).lookup x=some ws:=by simp[ybg]
   rw[e3]
   obtain⟨a,ea,r⟩:=hv 0 x u ws rfl rfl
   refine⟨a,?_,r⟩
   unfold ydQ
   simp[ea]
  ·have e3:((k,ws)::tb).lookup x=tb.lookup x:=by
    have:(x==k)=false:=by simpa using hx
    simp[ybg,this]
   have e4:ydQ ((k,u)::kvs) x=ydQ kvs x:=by
    unfold ydQ
    have:¬(k=x):=λz=>hx z.symm
    simp[List.find?_cons,this]
   rw[e3,e4]
   exact ih
def dwb (tb:List (Str×List Str)) (f:M (List D)):M D:=bnd f λds=>match ds with
 | [.str x]=>match tb.lookup x with
  |some ws=>ret (.tup (ws.map .str))
  |none=>ret .non
 |_=>λ_ => .bad
theorem qbH {K:Fr0} {A:Addr->Prop} {H:Hp}:∀ws:List Str,IsL K A H (ws.map D.str) (ws.map V.str)
 | []=>rfl
 |w::ws=>⟨.str w,_,rfl,rfl,qbH ws⟩
section
variable{X:Cx}{c:Fc}{e:Expr}{n:Str}{p apos cpos:Pos}{tb:List (Str×List Str)}
theorem qmk {g:M (List D)} (W:qlG X.prog X.w X.K X.mg n tb) (ha:DA X c [e] g) (hg:Gl X n:=by rfl) (hdb:(n==("__debug__":Str))=false:=by decide)
  (hbase:yaI (.Name n p) "get" X.env (eval (.Name n p) X.env)=eval (.Name n p) X.env:=by rfl)
  (hfew:((yaz cpos (yac [e] X.env)).all (λx => !x.1)&&(ybD cpos (ya4 [] X.env)).all (λx=>x.1.isSome)
   && decide ([e].length+([]:List ybm).length+(if([]:List ybm).isEmpty then 0 else 1)<30))=true:=by rfl)
  (hline:(apos.endLine==cpos.line)=true:=by rfl) (hs:yac [e] X.env=(false,eval e X.env)::yac [] X.env:=by rfl) (hplain:(yaz cpos (yac [] X.env)).any (·.1)=false:=by rfl) :
  DE X c (.Call (.Attribute (.Name n p) "get" apos) [e] [] cpos) (dwb tb g):=by
 obtain⟨wa,o,es,ep,kvs,hm,hsy,hl,hx,hdat,hk,hp,hkt,hnd,hv⟩:=W.ex
 obtain⟨t,pa,wt⟩:=ha
 have key:PE X (.Call (.Attribute (.Name n p) "get" apos) [e] [] cpos) (λσ H Q=>t σ H λvs H2=>∃x,vs=[.str x]/\match tb.lookup x with
   |some ws=>∀a,(∃(o:Obj)(its:Array Value)(m:Nat),X.K.lookup a=some o/\o.cls=.type "tuple"/\o.data=.seq its m/\its.size<=yao/\ze (ws.map V.str) its.toList)->Q (.ref a) H2
   |none=>Q .non H2):=by
  intro pins s σ H Q I h
  have hn:PE X (.Name n p) (λ_ H Q=>Q (.ref wa) H):=qay hg hm rfl hdb
  refine ycx hbase hfew hline rfl (thn (hn pins s σ H (λv H1=>v=.ref wa/\H1=H) I ⟨rfl,rfl⟩) λv s1 ⟨x,H1,I1,r1,e1,e2⟩=>?_)
  subst e1 e2
  obtain rfl:v=yaf wa:=r1
  have ho:∀{s':yaa}{σ':St}{H':Hp}{pins':List (Addr×Obj)},Inv X pins' σ' H' s'->s'.heap.get? wa=some o:=λI'=>I'.kIn _ _ hl
  refine⟨"dict","dict.get",PySem.F.plainAttrs_dict,yeu,PySem.F.type_dict_get,⟨o,ho I1,hx.1⟩,λa ea=>?_,?_⟩
  ·cases ea
   exact⟨o,ho I1,hx.2.1⟩
  ·have h2:=pa cpos pins s1 σ _ _ I1 h
   rw[hs]at h2 |-
   refine ybW (by show(false||(yaz cpos (yac [] X.env)).any (·.1))=false;rw[hplain]<;>rfl) (yb3 (thn h2 λus s2 h3=>?_))
   obtain⟨vs,H2,I2,r2,x,rfl,q⟩:=h3
   obtain⟨u,rfl,ru⟩:=ze.one r2
   obtain⟨tk,rfl⟩:=ru
   have hd:s2.heap.DictOf (strKind X.prog X.w) wa kvs:=⟨o,es,ep,ho I2,hx,hdat,hk,hp,hnd⟩
   have at_:=qc2 (K:=X.K) hkt hv x
   refine call_meetsIn yeu hd.typeIs PySem.F.entry_dict_get (PySem.F.args_dict_get_2 _ _) (meets_dict_get (strKind X.prog X.w) wa (yfx X.prog X.w x tk) hsy) ⟨_,hd.mapOf,?_⟩
   cases el:tb.lookup x with
   |none=>
    rw[el]at at_ q
    rw[show ydQ kvs x=none from at_]
    exact⟨.non,H2,I2.tok _,rfl,q⟩
   |some ws=>
    rw[el]at at_ q
    obtain⟨a,ea,r⟩:=at_
    rw[ea]
    exact⟨.ref a,H2,I2.tok _,rfl,q a r⟩
 refine⟨_,key,λZ σ H Q r h=>wt Z σ H _ r (WpL.bnd h λds Z1 vs H1 r1 i1 g1 h1=>?_)⟩
 split at h1
 ·rename_i x
  obtain⟨v,rfl,iv⟩:=IsL.inv1 i1
  cases (show v=V.str x from iv)
  refine⟨x,rfl,?_⟩
  cases el:tb.lookup x with
  |none=>rw[el]at h1;exact h1 .non H1 r1 rfl .refl
  |some ws=>
   rw[el]at h1
   intro a ⟨o',its,m,q1,q2,q3,q4,q5⟩
   exact h1 (.ref a) H1 r1 ⟨a,ws.map V.str,rfl,.inr ⟨o',its,m,q1,q2,q3,q4,q5⟩,qbH ws⟩ .refl
 ·exact h1.elim
end
def qbI:List Value->Option (List Str)
 | []=>some []
 |.str x _::r=>(qbI r).map (x::·)
 |_=>none
theorem wR:∀{us:List Value}{ws:List Str},qbI us=some ws->ze (ws.map V.str) us
 | [],ws,h=>by cases h;exact .nil
 | u::us,ws,h=>by
  unfold qbI at h
  split at h
  ·rename_i e;cases e
  ·rename_i x t r e
   cases e
   cases e1:qbI us with
   |none=>rw[e1]at h;cases h
   |some zs=>rw[e1]at h;cases h;exact .cons ⟨t,rfl⟩ (wR e1)
  ·cases h
def qkX(K:Fr0)(b:Addr)(ws:List Str):Prop:=∃(d:Option Addr)(its:Array Value)(n:Nat)(sl:Array (Option Value)),K.lookup b=some ⟨.type "tuple",d,.seq its n,sl⟩/\∃us:List Value,its.toList=us/\qbI us=some ws/\us.length<=1000
def vP (K:Fr0):List (Str×Tok×Addr)->List (Str×List Str)->Prop
 | [],[]=>True
 |p::ps,q::qs=>p.1=q.1/\qkX K p.2.2 q.2/\vP K ps qs
 |_,_=>False
theorem vP.keys {K:Fr0}:∀{bs:List (Str×Tok×Addr)}{tb:List (Str×List Str)},vP K bs tb->bs.map (·.1)=tb.map (·.1)
 | [],[],_=>rfl
 | [],_::_,h=>h.elim
 |_::_,[],h=>h.elim
 |p::ps,q::qs,h=>by rw[mC_,mC_,h.1,vP.keys h.2.2]
theorem vP.get {K:Fr0}:∀{bs:List (Str×Tok×Addr)}{tb:List (Str×List Str)}{i:Nat}{p:Str×Tok×Addr}{q:Str×List Str},vP K bs tb->bs[i]? = some p->tb[i]? = some q->qkX K p.2.2 q.2
 | [],_,_,_,_,_,h,_=>by simp at h
 |_::_,[],_,_,_,_,_,h=>by simp at h
 |p::ps,q::qs,0,x,y,h,h1,h2=>by
  have e1:p=x:=by simpa using h1
  have e2:q=y:=by simpa using h2
  subst e1 e2;exact h.2.1
 |p::ps,q::qs,i+1,_,_,h,h1,h2=>vP.get h.2.2 (i:=i) (by simpa using h1) (by simpa using h2)
theorem qc3 {P:yag} {w:World}:∀bs:List (Str×Tok×Addr),Pairs (strKind P w) (bs.map λp=>(⟨ybp w p.1,.str p.1 p.2.1,.ref p.2.2⟩:ydn)) (bs.map λp=>(p.1,yaf p.2.2))
 | [] => .nil
 |p::ps => .cons (yfx P w p.1 p.2.1) rfl (qc3 ps)
theorem qml {P:yag} {w:World} {K:Fr0} {mg:Str->Option Value} {n:Str} {wa:Addr} {es:Array ydn} {ep:Nat} {tb:List (Str×List Str)} {bs:List (Str×Tok×Addr)} (hm:mg n=some (.ref wa)) (hs:(wa==ybZ)=false) (hl:K.lookup wa=some ⟨.type "dict",none,.dict es ep,#[]⟩)
  (he:es.toList=bs.map λp=>⟨ybp w p.1,.str p.1 p.2.1,.ref p.2.2⟩) (hnd:(tb.map (·.1)).Nodup) (ht:vP K bs tb):qlG P w K mg n tb:=by
 have e1:(bs.map λp=>(p.1,yaf p.2.2)).map (·.1)=tb.map (·.1):=by rw[<-ht.keys];simp
 refine⟨wa,_,es,ep,bs.map λp=>(p.1,yaf p.2.2),hm,hs,hl,⟨rfl,rfl,rfl⟩,rfl,λe h=>?_,by rw[he];exact qc3 bs,e1,by rw[e1];exact hnd,λi k u ws h1 h2=>?_⟩
 ·have h':e∈es.toList:=by simpa using h
  rw[he]at h'
  obtain⟨p,_,rfl⟩:=mP_.mp h'
  exact⟨p.1,yfx P w p.1 p.2.1,rfl⟩
 ·rw [gM_]at h1
  cases eb:bs[i]? with
  |none=>rw[eb]at h1;cases h1
  | some p=>
   rw[eb]at h1
   have e2:(p.1,yaf p.2.2)=(k,u):=by simpa using h1
   cases e2
   obtain⟨d,its,m,sl,q1,us,q2,q3,q4⟩:=ht.get eb h2
   have hz:its.size<=yao:=by
    rw[<-yaW,q2]
    exact yaZ q4 (by decide)
   exact⟨p.2.2,rfl,_,its,m,q1,rfl,rfl,hz,by rw[q2];exact wR q3⟩
section
variable{prog:yag}{w:World}{A:yal}{E:Value->yaa->Prop}{s:yaa}
theorem qfm {l1 l2:Addr} {xs ys:Array Value} {Q:Value->yaa->Prop} (t1:s.heap.IsList l1 xs) (t2:s.heap.IsTuple l2 ys)
  (fin:∀h',IsZip h' (s.heap.objs.size+4) (s.heap.objs.size+2) (s.heap.objs.size+3) .none->ybx h' (s.heap.objs.size+2) (.ref s.heap.objs.size) (.ref (s.heap.objs.size+1))->ybx h' (s.heap.objs.size+3) .none .none ->
   h'.IsListIter s.heap.objs.size l1 0->h'.IsTupleIter (s.heap.objs.size+1) l2 0->(∀c o,s.heap.get? c=some o->h'.get? c=some o)->Q (.ref (s.heap.objs.size+4)) {s with heap:=h' }) :
  wpAny (model prog w) A (call (.type "zip") [.ref l1,.ref l2]) Q E s:=by
 have meets:Meets (ydP.«zip.__new__» ⟨[.type "zip",.ref l1,.ref l2],[]⟩) (λ_ R s=>s.heap.IsList l1 xs/\s.heap.IsTuple l2 ys /\
   R (.ok (.ret (.ref (s.heap.objs.size+4)))) {s with heap:=((((s.heap.push {cls:=.type "list_iterator",data:=.fields #[.ref l1,.int 0 0]}).push {cls:=.type "tuple_iterator",data:=.fields #[.ref l2,.int 0 0]}).push {cls:=.type "tuple",data:=.seq #[.ref s.heap.objs.size,.ref (s.heap.objs.size+1)]}).push {cls:=.type "tuple",data:=.seq #[.none,.none]}).push {cls:=.type "zip",data:=.fields #[.none,.bool false,.bool false,.ref (s.heap.objs.size+2),.ref (s.heap.objs.size+3)]} }) :=
  .of_wp λprog w A R s h=>by
   obtain⟨hp,g,d,tk,os⟩:=s
   obtain⟨ha,hb,h⟩:=h
   have hsub:=sub_zip
   have hA:Heap.IsList (Shared.heap ⟨hp,g,d,tk,os⟩) l1 xs:=ha
   have hB:Heap.IsTuple (Shared.heap ⟨hp.push {cls:=.type "list_iterator",data:=.fields #[.ref l1,.int 0 0]},g,d,tk,os⟩) l2 ys:=by
    obtain⟨o,e,r⟩:=hb
    exact⟨o,Heap.get?_push_of_some _ e,r⟩
   wp_walk using ydD hA,ye6 hB
   simp only[ybJ]at *
   exact⟨_,rfl,h⟩
 refine callType_new F.called_zip (by decide) (F.typeCall_zip_2 _ _) (F.newCall_zip_2 _ _) (λobj=>F.args_object_init_3 obj _ _) F.entry_zip_new meets ⟨t1,t2,?_⟩
 generalize e1:s.heap.push {cls:=.type "list_iterator",data:=.fields #[.ref l1,.int 0 0]}=m1
 have s1:m1.objs.size=s.heap.objs.size+1:=by rw[<-e1,ybJ]
 have q1:m1.get? s.heap.objs.size=some {cls:=.type "list_iterator",data:=.fields #[.ref l1,.int 0 0]}:=by rw[<-e1];exact Heap.get?_push_size _ rfl
 have k1:∀c o,s.heap.get? c=some o->m1.get? c=some o:=λc o x=>by rw[<-e1];exact Heap.get?_push_of_some _ x
 generalize e2:m1.push {cls:=.type "tuple_iterator",data:=.fields #[.ref l2,.int 0 0]}=m2
 have s2:m2.objs.size=s.heap.objs.size+2:=by rw[<-e2,ybJ,s1]
 have q2:m2.get? (s.heap.objs.size+1)=some {cls:=.type "tuple_iterator",data:=.fields #[.ref l2,.int 0 0]}:=by rw[<-e2,<-s1];exact Heap.get?_push_size _ rfl
 have k2:∀c o,m1.get? c=some o->m2.get? c=some o:=λc o x=>by rw[<-e2];exact Heap.get?_push_of_some _ x
 generalize e3:m2.push {cls:=.type "tuple",data:=.seq #[.ref s.heap.objs.size,.ref (s.heap.objs.size+1)]}=m3
 have s3:m3.objs.size=s.heap.objs.size+3:=by rw[<-e3,ybJ,s2]
 have q3:m3.get? (s.heap.objs.size+2)=some {cls:=.type "tuple",data:=.seq #[.ref s.heap.objs.size,.ref (s.heap.objs.size+1)]}:=by rw[<-e3,<-s2];exact Heap.get?_push_size _ rfl
 have k3:∀c o,m2.get? c=some o->m3.get? c=some o:=λc o x=>by rw[<-e3];exact Heap.get?_push_of_some _ x
 generalize e4:m3.push {cls:=.type "tuple",data:=.seq #[.none,.none]}=m4
 have s4:m4.objs.size=s.heap.objs.size+4:=by rw[<-e4,ybJ,s3]
 have q4:m4.get? (s.heap.objs.size+3)=some {cls:=.type "tuple",data:=.seq #[.none,.none]}:=by rw[<-e4,<-s3];exact Heap.get?_push_size _ rfl
 have k4:∀c o,m3.get? c=some o->m4.get? c=some o:=λc o x=>by rw[<-e4];exact Heap.get?_push_of_some _ x
 generalize e5:m4.push {cls:=.type "zip",data:=.fields #[.none,.bool false,.bool false,.ref (s.heap.objs.size+2),.ref (s.heap.objs.size+3)]}=m5
 have q5:m5.get? (s.heap.objs.size+4)=some {cls:=.type "zip",data:=.fields #[.none,.bool false,.bool false,.ref (s.heap.objs.size+2),.ref (s.heap.objs.size+3)]}:=by rw[<-e5,<-s4];exact Heap.get?_push_size _ rfl
 have k5:∀c o,m4.get? c=some o->m5.get? c=some o:=λc o x=>by rw[<-e5];exact Heap.get?_push_of_some _ x
 show _/\_
 exact⟨⟨_,q5,rfl⟩,fin m5 q5 (k5 _ _ (k4 _ _ q3)) (k5 _ _ q4) ⟨_,k5 _ _ (k4 _ _ (k3 _ _ (k2 _ _ q1))),rfl,rfl⟩ ⟨_,k5 _ _ (k4 _ _ (k3 _ _ q2)),rfl,rfl⟩ λc o x=>k5 _ _ (k4 _ _ (k3 _ _ (k2 _ _ (k1 _ _ x))))⟩
end
def qmm (K:Fr0) (a1 a2:Addr) (xs ys:List V):It :=
 ⟨λi H=>i<min xs.length ys.length/\SqL K H a1 xs/\SqT K H a2 ys,λi H x H'=>∃p u v,H p=none/\xs[i]? = some u/\ys[i]? = some v/\x=.ref p/\H'=upd H p (.tup [u,v]),λi H=>i=min xs.length ys.length/\SqL K H a1 xs/\SqT K H a2 ys⟩
def qnq(z TI TO i1 i2 a1 a2:Addr)(i:Nat)(h:Heap):Prop:=IsZip h z TI TO .none/\ybx h TI (.ref i1) (.ref i2)/\(∃p q,ybx h TO p q)/\h.IsListIter i1 a1 i/\h.IsTupleIter i2 a2 i
theorem qfn {P:yag} {w:World} {K:Fr0} {es:List Expr} {kk:Nat} {pos:Pos} {z TI TO i1 i2 a1 a2:Addr} {xs ys:List V} (ap:ZAp z TI TO i1 i2 [i1,a1] [i2,a2]) (n1:a1≠i1) (n2:a2≠i2) :
  qhL P w K (.Tuple es kk pos) (qmm K a1 a2 xs ys) [z,TI,TO,i1,i2] z (qnq z TI TO i1 i2 a1 a2) where
 mem:=by simp
 obj:=λi h st b hb=>by
  obtain⟨h1,h2,⟨p,q,h3⟩,⟨o4,h4,c4,d4⟩,⟨o5,h5,c5,d5⟩⟩:=st
  simp only[yaA,nN_,or_false]at hb
  rcases hb with rfl|rfl|rfl|rfl|rfl
  ·exact⟨_,h1,λv e=>by cases (show yb6 _=ycc v from e)⟩
  ·exact⟨_,h2,λv e=>by cases (show yb4 _ _=ycc v from e)⟩
  ·exact⟨_,h3,λv e=>by cases (show yb4 _ _=ycc v from e)⟩
  ·exact⟨_,h4,λv e=>by rw[d4]at e;cases e⟩
  ·exact⟨_,h5,λv e=>by rw[d5]at e;cases e⟩
 keep:=λi h h' st k=>by
  obtain⟨h1,h2,⟨p,q,h3⟩,h4,h5⟩:=st
  exact⟨k z (by simp) _ h1,k TI (by simp) _ h2,⟨p,q,k TO (by simp) _ h3⟩,h4.at λo e=>k i1 (by simp) o e,h5.at λo e=>k i2 (by simp) o e⟩
 item:=by
  intro X hP hw hK hc i pins s σ H E I hf st hg
  subst hP hw hK
  obtain⟨hlt,hx,hy⟩:=hg
  obtain⟨h1,h2,⟨p,q,h3⟩,h4,h5⟩:=st
  obtain⟨it1,r1,p1,z1⟩:=I.list hx
  obtain⟨it2,r2,p2,z2⟩:=I.tuple hy
  have l1:i<it1.toArray.size:=by rw[sT_,<-r1.length];omega
  have l2:i<it2.toArray.size:=by rw[sT_,<-r2.length];omega
  have hT:s.TypeIs (.ref z) "zip":=⟨_,h1,rfl⟩
  have hh:X.A.in1.handled=none:=I.ok.hd hc
  unfold yct
  refine yab (ycF (wpAny_callSpecial?_slot (name:=ybi "__next__") hT ybk (ya2 ybk hT ycI
   (qhg (Draws.list hh i1 a1 n1 it1.toArray) (uF hh i2 a2 n2 it2.toArray) ap h1 h2 h3 ⟨h4,p1.isList⟩ ⟨h5,p2⟩ l1 l2 λx y h' tk px py zz zO u1 u2 new kp=>yam ?_) (ycr _))))
  refine⟨.ref s.heap.objs.size,rfl,ydI zz λh2' zz2 sb=>?_⟩
  obtain⟨xv,hxv⟩:∃v,xs[i]? = some v:=⟨xs[i]'(by omega),gG (by omega)⟩
  obtain⟨yv,hyv⟩:∃v,ys[i]? = some v:=⟨ys[i]'(by omega),gG (by omega)⟩
  obtain⟨x',ex,rx⟩:=r1.get hxv
  obtain⟨y',ey,ry⟩:=r2.get hyv
  have exx:x'=x:=by
   have:it1.toArray[i]? = some x:=px
   rw[List.getElem?_toArray,ex]at this
   exact yax this
  have eyy:y'=y:=by
   have:it2.toArray[i]? = some y:=py
   rw[List.getElem?_toArray,ey]at this
   exact yax this
  subst exx eyy
  have lz:z<s.heap.objs.size:=yae h1
  have keep:∀b u,b ∉ [z,TI,TO,i1,i2]->s.heap.get? b=some u->h2'.get? b=some u:=λb u hb e=>by
   simp only[yaA,nN_,or_false,not_or]at hb
   exact sb.extBut _ _ hb.1 (kp b u hb.1 hb.2.2.1 hb.2.2.2.1 hb.2.2.2.2 e)
  have I2:Inv X pins σ (upd H s.heap.objs.size (.tup [xv,yv])) {s with heap:=h2',toks:=tk} :=
   qeQ I keep hf (yak _) ⟨by show 2<=yao;decide,[x',y'],.cons rx (.cons ry .nil),⟨_,sb.extBut _ _ (ybu lz) new,rfl,_,rfl⟩⟩
  refine⟨.ref s.heap.objs.size,upd H s.heap.objs.size (.tup [xv,yv]),I2,rfl,⟨s.heap.objs.size,xv,yv,I.hok.fresh (yak _),hxv,hyv,rfl,rfl⟩,?_,λb hb=>?_⟩
  ·exact⟨zz2,sb.extBut _ _ ap.zTI.symm (kp _ _ ap.zTI.symm ap.IO ap.Ii1 ap.Ii2 h2),⟨_,_,sb.extBut _ _ ap.zTO.symm zO⟩,u1.1.at λo e=>sb.extBut _ _ ap.zi1.symm e,u2.1.at λo e=>sb.extBut _ _ ap.zi2.symm e⟩
  ·have hb1:b≠s.heap.objs.size:=by
    simp only[yaA,nN_,or_false]at hb
    obtain⟨o4,g4,_⟩:=h4
    obtain⟨o5,g5,_⟩:=h5
    rcases hb with rfl|rfl|rfl|rfl|rfl
    ·exact yas (yae h1)
    ·exact yas (yae h2)
    ·exact yas (yae h3)
    ·exact yas (yae g4)
    ·exact yas (yae g5)
   rw[qg hb1]
   exact(hf b hb).1
 done:=by
  intro X hP hw hK hc i pins s σ H E I hf st hg
  subst hP hw hK
  obtain⟨hlt,hx,hy⟩:=hg
  obtain⟨h1,h2,⟨p,q,h3⟩,h4,h5⟩:=st
  obtain⟨it1,r1,p1,z1⟩:=I.list hx
  obtain⟨it2,r2,p2,z2⟩:=I.tuple hy
  have hT:s.TypeIs (.ref z) "zip":=⟨_,h1,rfl⟩
  have hh:X.A.in1.handled=none:=I.ok.hd hc
  unfold yct
  refine yab (ycF (wpAny_callSpecial?_slot (name:=ybi "__next__") hT ybk (ya2 ybk hT ycI
   (qcH hh (Draws.list hh i1 a1 n1 it1.toArray) (uF hh i2 a2 n2 it2.toArray) ap h1 h2 h3 ⟨h4,p1.isList⟩ ⟨h5,p2⟩ (by rw[sT_,sT_,<-r1.length,<-r2.length];exact hlt) λh' tk e kp he=>?_) (ycr _))))
  obtain⟨o,ho,hcl⟩:=he
  refine yab (ycJ (T:="StopIteration") (b:=true) ⟨o,ho,hcl⟩ yem (yam ⟨rfl,qeR I (λb u hb e=>?_) hf⟩))
  simp only[yaA,nN_,or_false,not_or]at hb
  exact kp b u hb.1 hb.2.2.1 hb.2.2.2.1 hb.2.2.2.2 e
 self:=λA i s Q E st h=>ydX st.1 h
section
variable{X:Cx}{c:Fc}{a b e:Expr}{pos:Pos}{es:List Expr}{kk:Nat}{tp:Pos}
def qmn(K:Fr0)(ta:TA):TI:=λσ H R=>ta σ H λvs H1=>∃a1 a2 xs ys,vs=[.ref a1,.ref a2]/\SqL K H1 a1 xs/\SqT K H1 a2 ys/\R (qmm K a1 a2 xs ys) H1
theorem qi9 {ta:TA} {p:Pos} (hg:Gl X "zip") (hm:X.mg "zip"=none) (ha:PA X [a,b] ta) (hs:yac [a,b] X.env=[(false,eval a X.env),(false,eval b X.env)]:=by rfl) (hs2:yac [b] X.env=[(false,eval b X.env)]:=by rfl) :
  PI X (.Tuple es kk tp) (.Call (.Name "zip" p) [a,b] [] pos) (qmn X.K ta):=by
 intro pins s σ H R I h
 refine Call_ (v7 I hg hm PyProof.Rows.boot_zip (ybc (thn (ha pos pins s σ H _ I h) λus s1 ⟨vs,H1,I1,r1,q1⟩=>?_) (by rw[hs,hs2]) (by rw[hs2];rfl)))
 obtain⟨a1,a2,xs,ys,e1,hx,hy,q⟩:=q1
 subst e1
 obtain⟨u1,u2,rfl,ru1,ru2⟩:=ze.two r1
 cases (show u1=yaf a1 from ru1)
 cases (show u2=yaf a2 from ru2)
 obtain⟨it1,v1,p1,z1⟩:=I1.list hx
 obtain⟨it2,v2,p2,z2⟩:=I1.tuple hy
 refine qfm p1.isList (show s1.heap.IsTuple a2 it2.toArray from p2) λh' zz zI zO g1 g2 kp=>?_
 refine ydX zz ?_
 have la1:a1<s1.heap.objs.size:=by obtain⟨o,e,_⟩:=p1.isList;exact yae e
 have la2:a2<s1.heap.objs.size:=by obtain⟨o,e,_⟩:=p2;exact yae e
 have ap:ZAp (s1.heap.objs.size+4) (s1.heap.objs.size+2) (s1.heap.objs.size+3) s1.heap.objs.size (s1.heap.objs.size+1) [s1.heap.objs.size,a1] [s1.heap.objs.size+1,a2]:=by
  exact qir _ _ _ la1 la2
 refine⟨s1.heap.objs.size+4,[s1.heap.objs.size+4,s1.heap.objs.size+2,s1.heap.objs.size+3,s1.heap.objs.size,s1.heap.objs.size+1],_,_,H1,rfl,I1.kept (t':=s1.toks) kp,qfn (xs:=xs) (ys:=ys) ap (yas la1) (yas (Nat.lt_succ_of_lt la2)),⟨zz,zI,⟨_,_,zO⟩,g1,g2⟩,λb hb=>?_,q⟩
 simp only[yaA,nN_,or_false]at hb
 have hb2:s1.heap.objs.size<=b:=by
  rcases hb with e|e|e|e|e<;>rw[e]
  ·exact ycL _ _
  ·exact ycL _ _
  ·exact ycL _ _
  ·exact yak _
  ·exact ycL _ _
 exact I1.fpOk hb2 (I1.hok.fresh hb2)
theorem qja {K:Fr0} {A:Addr->Prop} {H:Hp} {ds es:List D} {xs ys:List V} {a1 a2:Addr} (t1:∀H',Ext A H H'->SqL K H' a1 xs) (t2:wZ K H a2 ys) (i1:IsL K A H ds xs) (i2:IsL K A H es ys):qgp K A H (qdy ds es) (qmm K a1 a2 xs ys) where
 go:=λH' i d ex hd=>by
  have hl:i<(qdy ds es).length:=(gI_.mp hd).1
  rw[qaK,<-i1.length,<-i2.length]at hl
  exact⟨hl,t1 H' ex,(t2.elim (λh => .inl (ex.tup _ _ h)) .inr:wZ K H' a2 ys).sq⟩
 yl:=λH' i d x H'' ex hd y=>by
  obtain⟨p,u,v,hp,hu,hv,rfl,rfl⟩:=y
  obtain⟨dx,dy,h1,h2,rfl⟩:=qcI hd
  obtain⟨u',g1,g2⟩:=i1.get h1
  obtain⟨v',g3,g4⟩:=i2.get h2
  rw[hu]at g1
  rw[hv]at g3
  cases g1
  cases g3
  have sm:=qA hp (.tup [u,v])
  exact⟨sm,p,[u,v],rfl,.inl qi,u,[v],rfl,Is.ext (Ext.of_same sm) (λ_ h _=>h) (Is.ext ex (λ_ h _=>h) g2),v,[],rfl,Is.ext (Ext.of_same sm) (λ_ h _=>h) (Is.ext ex (λ_ h _=>h) g4),rfl⟩
 stop:=λH' ex=>⟨by rw[qaK,i1.length,i2.length],t1 H' ex,(t2.elim (λh => .inl (ex.tup _ _ h)) .inr:wZ K H' a2 ys).sq⟩
def qkY:List D->Option (List D)
 | [.lst xs,.tup ys]=>some (qdy xs ys)
 |_=>none
def qkZ(f:M (List D)):M (List D):=bnd f λds=>lift (qkY ds)
theorem qjb {f:M (List D)} {p:Pos} (hg:Gl X "zip") (hm:X.mg "zip"=none) (ha:DA X c [a,b] f) (hs:yac [a,b] X.env=[(false,eval a X.env),(false,eval b X.env)]:=by rfl) (hs2:yac [b] X.env=[(false,eval b X.env)]:=by rfl) :
  DI X c (.Tuple es kk tp) (.Call (.Name "zip" p) [a,b] [] pos) (qkZ f):=by
 obtain⟨t,pa,w⟩:=ha
 refine⟨_,qi9 hg hm pa hs hs2,λZ σ H Q r h=>w Z σ H _ r (WpL.bndI h λds Z1 vs H1 r1 i1 g1 h1=>?_)⟩
 obtain⟨es',e,h2⟩:=u6 h1
 unfold qkY at e
 split at e
 ·obtain⟨v,u,rfl,j1,j2⟩:=IsL.inv2 i1
  cases e
  obtain⟨a1,xs,rfl,hA,t1,il1⟩:=Is.tr j1
  obtain⟨a2,ys,rfl,t2,il2⟩:=Is.tr j2
  exact⟨a1,a2,xs,ys,rfl,(.inl (.inl t1)),t2.sq,h2 _ H1 r1 (qja (λH' ex => .inl (.inl (ex.at_ _ _ hA t1))) t2 il1 il2) .refl⟩
 ·cases e
end
end L2.Sk
namespace L2.Sk
open PySem PySem.Spec PyProof.Rows
section
variable{X:Cx}{c:Fc}{a b e:Expr}{pos:Pos}
def uc (i:Nat) (f:M D):M D:=λZ=>match zZ i Z with
 |none => .bad
 |some _=>(bnd f λd Z=>match zZ i Z with
  |some ds=>if qF (ds.length+1)=true then .ok (.non,Z.set i (some (.lst (ds++[d]))))else .bad
  |none => .bad) Z
theorem qdP {i:Nat} {x:Str} {p1 apos:Pos} {f:M D} (he:DE X c e f) (ho:i∈c.O:=by exact of_decide_eq_true rfl) (hN:X.N[i]? = some x:=by rfl) (hv:Vis X.env.scope x:=by first|exact yaC rfl|exact yav (yaC rfl)|exact yav (yav rfl)) (hd:(x==("__debug__":Str))=false:=by decide) (hcd:(x==("__classdict__":Str))=false:=by decide)
  (hbase:yaI (.Name x p1) "append" X.env (eval (.Name x p1) X.env)=eval (.Name x p1) X.env:=by rfl)
  (hfew:((yaz pos (yac [e] X.env)).all (λx => !x.1)&&(ybD pos (ya4 [] X.env)).all (λx=>x.1.isSome)
   && decide ([e].length+([]:List ybm).length+(if([]:List ybm).isEmpty then 0 else 1)<30))=true:=by rfl)
  (hline:(apos.endLine==pos.line)=true:=by rfl) (hs:yac [e] X.env=(false,eval e X.env)::yac [] X.env:=by rfl) (hplain:(yaz pos (yac [] X.env)).any (·.1)=false:=by rfl) :
  DE X c (.Call (.Attribute (.Name x p1) "append" apos) [e] [] pos) (uc i f):=by
 obtain⟨t,p,w⟩:=he
 refine⟨_,qgd ybn yce ycf uo (zq hN hv hd hcd) (zJ p yi hs) hbase hfew hline hs hplain,λZ σ H Q r h=>?_⟩
 unfold uc at h
 cases e0:zZ i Z with
 |none=>rw[e0]at h;exact h.elim
 | some ds0=>
  simp only[e0]at h
  obtain⟨l,xs0,_,hl,hH,_⟩:=r.getLO ho e0
  refine⟨.ref l,hl,.inl ⟨rfl,xs0,.inl (.inl hH)⟩,w Z σ H _ r (Wp.bnd h λd Z1 v H1 r1 i1 g1 h1=>?_)⟩
  cases e1:zZ i Z1 with
  |none=>simp only[e1]at h1;exact h1.elim
  | some ds=>
   simp only[e1]at h1
   by_cases hb:qF (ds.length+1)=true
   ·rw [if_pos hb]at h1
    obtain⟨l',xs,him,hl',hH',il⟩:=r1.getLO ho e1
    rw[hl]at hl'
    cases hl'
    have hsz:ds.length+1<=yao:=of_decide_eq_true hb
    have ext:Ext (Cn c σ) H1 (upd H1 l (.lst (xs++[v]))):=⟨λb us hb=>qP (zP hb hH' (by intro z;cases z)) hb,λb o u hb=>qP (zP hb hH' (by intro z;cases z)) hb,λb o hb hq=>qP (λe=>hb.2 i ho (by rw[hl,e])) hq⟩
    obtain ⟨r2,g2⟩:=r1.io (H':=upd H1 l (.lst (xs++[v]))) (bs:=ds++[d]) ho hl (λb o hb ho=>qP hb ho) qi trivial
     (IsL.append (IsL.ext ext (λ_ h _=>h) il) (IsL.one (Is.ext ext (λ_ h _=>h) i1))) (λb hb=>zA hb)
    exact⟨l,xs,v,rfl,rfl,hH',by rw[il.length];omega,h1 _ _ r2 rfl g2⟩
   ·rw[if_neg hb]at h1;exact h1.elim
def qck (i:Nat):M D:=λZ=>match zZ i Z with
 |some ds=>match ds[ds.length-1]? with
  |some d => .ok (d,Z.set i (some (.lst ds.dropLast)))
  |none => .bad
 |none => .bad
theorem qjc {i:Nat} {x:Str} {p1 apos:Pos} (ho:i∈c.O:=by exact of_decide_eq_true rfl) (hN:X.N[i]? = some x:=by rfl) (hv:Vis X.env.scope x:=by first|exact yaC rfl|exact yav (yaC rfl)|exact yav (yav rfl)) (hd:(x==("__debug__":Str))=false:=by decide) (hcd:(x==("__classdict__":Str))=false:=by decide)
  (hb2:yaI (.Name x p1) "pop" X.env (eval (.Name x p1) X.env)=eval (.Name x p1) X.env:=by rfl) (hline:(apos.endLine==pos.line)=true:=by rfl) :
  DE X c (.Call (.Attribute (.Name x p1) "pop" apos) [] [] pos) (qck i):=by
 refine⟨_,qg4 ybn yer yes qg5 (zq hN hv hd hcd) hb2 hline,λZ σ H Q r h=>?_⟩
 unfold qck at h
 cases e0:zZ i Z with
 |none=>simp only[e0]at h;exact h.elim
 | some ds=>
  simp only[e0]at h
  cases e1:ds[ds.length-1]? with
  |none=>simp only[e1]at h;exact h.elim
  |some d=>
   simp only[e1]at h
   obtain⟨l,xs,_,hl,hH,il⟩:=r.getLO ho e0
   obtain⟨v,hv1,hv2⟩:=il.get e1
   rw[<-il.length]at hv1
   have ext:Ext (Cn c σ) H (upd H l (.lst xs.dropLast)):=⟨λb us hb=>qP (zP hb hH (by intro z;cases z)) hb,λb o u hb=>qP (zP hb hH (by intro z;cases z)) hb,λb o hb hq=>qP (λe=>hb.2 i ho (by rw[hl,e])) hq⟩
   obtain⟨r2,g2⟩:=r.io (H':=upd H l (.lst xs.dropLast)) (bs:=ds.dropLast) ho hl (λb o hb ho=>qP hb ho) qi trivial (IsL.ext ext (λ_ h _=>h) il.dropLast) (λb hb=>zA hb)
   exact⟨.ref l,hl,.inl ⟨rfl,xs,.inl (.inl hH)⟩,l,xs,v,rfl,rfl,hH,hv1,h v _ r2 (Is.ext ext (λ_ h _=>h) hv2) g2⟩
def qmo (f g:M D):M D:=bnd f λd=>match d with
 |.str x=>if qF x.length then(if x.length==0 then g else ret (.str x))else λ_ => .bad
 |_=>λ_ => .bad
def qnr(ta tb:TE):TE:=λσ H Q=>ta σ H λx H1=>∃z,x=.str z/\z.length<=yao/\if(z.length==0)=true then tb σ H1 Q else Q (.str z) H1
theorem qk0 {rest:List Expr} {ta tb:TE} (ha:PE X a ta) (hb:PE X (.BoolOp .Or (b::rest) pos) tb):PE X (.BoolOp .Or (a::b::rest) pos) (qnr ta tb):=by
 intro pins s σ H Q I h
 refine BoolOp_or (thn (ha pins s σ H _ I h) λv s1 ⟨x,H1,I1,r1,q1⟩=>?_)
 obtain⟨z,rfl,hz,q1⟩:=q1
 obtain⟨t,rfl⟩:=r1
 rw[yb7]at hz
 refine PySem.P.truthy_str (by omega) ?_
 by_cases h0:(z.length==0)=true
 ·rw [if_pos h0]at q1
  have e:((z.length:Int) != 0)=false:=by
   have:z.length=0:=by simpa using h0
   rw[this];rfl
  rw[e]
  exact hb pins _ σ H1 Q (I1.tok _) q1
 ·rw [if_neg h0]at q1
  have e:((z.length:Int) != 0)=true:=by
   have:z.length≠0:=by simpa using h0
   simp only[bne_iff_ne,ne_eq];omega
  rw[e]
  exact⟨.str z,H1,I1.tok _,⟨t,rfl⟩,q1⟩
theorem qk1 {rest:List Expr} {f g:M D} (ha:DE X c a f) (hb:DE X c (.BoolOp .Or (b::rest) pos) g):DE X c (.BoolOp .Or (a::b::rest) pos) (qmo f g):=by
 obtain⟨ta,pa,wa⟩:=ha
 obtain⟨tb,pb,wb⟩:=hb
 refine⟨_,qk0 pa pb,λZ σ H Q rp h=>wa Z σ H _ rp (Wp.bnd h λd Z1 v H1 r1 i1 g1 h1=>?_)⟩
 cases d with
 | str z=>
  cases i1
  by_cases hs:qF z.length=true
  ·simp only[hs,if_true]at h1
   refine⟨z,rfl,of_decide_eq_true hs,?_⟩
   by_cases hz:(z.length==0)=true
   ·rw[if_pos hz]
    simp only[hz,if_true]at h1
    exact wb Z1 σ H1 Q r1 h1
   ·rw[if_neg hz]
    simp only[hz]at h1
    exact h1 _ H1 r1 rfl .refl
  ·simp only[hs]at h1;exact h1.elim
 |_=>exact h1.elim
end
def qfo (K:Fr0) (F:List D->List D->R (D×List D×List D)):Sp:=λvs H Q _=>∃(b1 b2:List D)(A:Addr->Prop)(a1 a2:Addr)(x1 x2:List V),vs=[.ref a1,.ref a2]/\a1≠a2/\H a1=some (.lst x1)/\H a2=some (.lst x2)/\vV K H/\IsL K A H b1 x1/\IsL K A H b2 x2/\¬A a1/\¬A a2/\match F b1 b2 with
 |.ok (d,c1,c2)=>∀v H' y1 y2,(∀b o,b≠a1->b≠a2->H b=some o->H' b=some o)->(∀b,H' b=none->H b=none)->H' a1=some (.lst y1)->H' a2=some (.lst y2)->IsL K (λb=>A b\/H b=none) H' c1 y1->IsL K (λb=>A b\/H b=none) H' c2 y2->Is K (λb=>A b\/H b=none) H' d v->Q v H'
 |_=>False
def qbJ (n:Nat) (body:MS) (b1 b2:List D):R (D×List D×List D):=match body (zB n [.lst b1,.lst b2]) with
 |.ok (.rt d Z)=>match zZ 0 Z,zZ 1 Z with
  |some c1,some c2 => .ok (d,c1,c2)
  |_,_ => .bad
 |_ => .bad
section
variable{P:yag}{w:World}{K:yad}{mg:Str->Option Value}{base:Heap}
theorem qk2 {x qual:Str} {st:Stmt} {f:Addr} {fd:yaH} {N ps:List Str} {k:Nat} {O:List Nat} {body:MS} (F:Fun K x qual st f fd) (S:qv N ps (qc st)) (hps:ps.length=2) (hO:∀i∈O,i=0\/i=1\/2<=i) (h0:0∈O) (h1:1∈O)
  (hb:∀(cdv:Value)(A:yal)(outer:List yaL)(s:yaa)(H:Hp)(E:XK)(B Io:Addr->Prop)(S:Nat->Option (Option V)),jX k (A.deeper (yaU qual (qc st) s.heap.objs.size f cdv)) ->
   DSs (qcv CX0 P w K mg base N qual (qc st) f cdv A outer s H E).nox (cfn O [0,1] B H Io (λ_ _=>False) S) (qt st) body) :
  yz P w K mg base CX0 (k+1) f fd ps (qfo K (qbJ N.length body)):=by
 refine F.ok S (λvs H Q E h=>?_) (λcdv A outer s H vs Q E hr h=>?_)
 ·obtain⟨b1,b2,B,a1,a2,x1,x2,rfl,_⟩:=h
  rw[hps];rfl
 ·obtain ⟨b1,b2,B,a1,a2,x1,x2,rfl,ne,ha1,ha2,tb,i1,i2,n1,n2,h⟩:=h
  obtain⟨t,p,wt⟩:=hb cdv A outer s H E B (λb=>b=a1\/b=a2) (λj=>(qV N [.ref a1,.ref a2])[j]?) hr
  refine⟨t,p,?_⟩
  unfold qbJ at h
  have only:∀j∈O,∀v,(qV N [.ref a1,.ref a2])[j]? = some (some v)->(j=0/\v=.ref a1)\/(j=1/\v=.ref a2):=λj hj v hv=>by
   have h1:=yQ hv
   rcases hO j hj with z|z|z
   ·subst z;cases h1;exact .inl ⟨rfl,rfl⟩
   ·subst z;cases h1;exact .inr ⟨rfl,rfl⟩
   ·have:=(gI_.mp h1).1
    simp at this
    omega
  have clean:∀b,B b->Cl O (qV N [.ref a1,.ref a2]) b:=λb hb j hj e=>by
   rcases only j hj _ e with⟨_,z⟩|⟨_,z⟩<;>cases z
   ·exact n1 hb
   ·exact n2 hb
  have r0:Rep K (cfn O [0,1] B H (λb=>b=a1\/b=a2) (λ_ _=>False) λj=>(qV N [.ref a1,.ref a2])[j]?) (zB N.length [.lst b1,.lst b2]) (qV N [.ref a1,.ref a2]) H:=by
   refine⟨by unfold zB qV;simp,λi d hd=>?_,λj hj v hv=>?_,λi j b hi hj e1 e2=>?_,⟨λb hb => .inr hb,λq P pos eP=>⟨(tb q P pos eP).1,λz=>?_⟩⟩,λb o hb _=>hb,λb hb=>hb,λj hj=>?_,λ_ _=>rfl⟩
   ·have h3:=ut hd
    match i,h3 with
    |0,h3=>
     cases h3
     exact⟨.ref a1,jr rfl,.inl ⟨h0,b1,a1,(.l,x1),rfl,rfl,ha1,IsL.ext Ext.refl (λb hb _=>⟨.inl hb,clean b hb⟩) i1⟩⟩
    |1,h3=>
     cases h3
     exact⟨.ref a2,jr rfl,.inl ⟨h1,b2,a2,(.l,x2),rfl,rfl,ha2,IsL.ext Ext.refl (λb hb _=>⟨.inl hb,clean b hb⟩) i2⟩⟩
    |i+2,h3=>simp at h3
   ·rcases only j hj v hv with⟨rfl,rfl⟩|⟨rfl,rfl⟩
    ·exact⟨a1,(.l,x1),rfl,ha1,.inr ⟨by simp[cfn],.inl rfl⟩⟩
    ·exact⟨a2,(.l,x2),rfl,ha2,.inr ⟨by simp[cfn],.inr rfl⟩⟩
   ·rcases only i hi _ e1 with⟨rfl,z1⟩|⟨rfl,z1⟩<;>rcases only j hj _ e2 with⟨rfl,z2⟩|⟨rfl,z2⟩
    ·rfl
    ·cases z1;cases z2;exact absurd rfl ne
    ·cases z1;cases z2;exact absurd rfl ne
    ·rfl
   ·have t1:=(tb q P pos eP).1
    rcases z with z|z
    ·rw[z,ha1]at t1;cases t1
    ·rw[z,ha2]at t1;cases t1
   ·have:j=0\/j=1:=by simpa [cfn] using hj
    rcases this with rfl|rfl
    ·exact h0
    ·exact h1
  refine wt _ _ H _ r0 ?_
  have fin:∀{Z:Env}{σ:St}{H':Hp}{c1 c2:List D},Rep K (cfn O [0,1] B H (λb=>b=a1\/b=a2) (λ_ _=>False) λj=>(qV N [.ref a1,.ref a2])[j]?) Z σ H'->zZ 0 Z=some c1->zZ 1 Z=some c2 ->
    ∃y1 y2,H' a1=some (.lst y1)/\H' a2=some (.lst y2)/\IsL K (λb=>B b\/H b=none) H' c1 y1/\IsL K (λb=>B b\/H b=none) H' c2 y2:=λ{Z σ H' c1 c2} r e1 e2=>by
   obtain⟨l1,y1,_,q1,q2,q3⟩:=r.getLO h0 e1
   obtain⟨l2,y2,_,p1,p2,p3⟩:=r.getLO h1 e2
   have h5:=r.ps 0 (by simp[cfn])
   have h6:(cfn O [0,1] B H (λb=>b=a1\/b=a2) (λ_ _=>False) λj=>(qV N [.ref a1,.ref a2])[j]?).S 0=some (some (.ref a1)):=jr rfl
   rw[q1,h6]at h5
   cases h5
   have h7:=r.ps 1 (by simp[cfn])
   have h8:(cfn O [0,1] B H (λb=>b=a1\/b=a2) (λ_ _=>False) λj=>(qV N [.ref a1,.ref a2])[j]?).S 1=some (some (.ref a2)):=jr rfl
   rw[p1,h8]at h7
   cases h7
   exact⟨y1,y2,q2,p2,IsL.ext Ext.refl (λb hb _=>hb.1) q3,IsL.ext Ext.refl (λb hb _=>hb.1) p3⟩
  cases eb:body (zB N.length [.lst b1,.lst b2]) with
  |bad=>rw[eb]at h;exact h.elim
  |exc z Z=>rw[eb]at h;exact h.elim
  | ok fl=>
   rw[eb]at h
   cases fl with
   |nx Z=>exact h.elim
   | rt d Z=>
    cases eg:zZ 0 Z with
    |none=>simp only[eg]at h
    | some c1=>
     cases eg2:zZ 1 Z with
     |none=>simp only[eg,eg2]at h
     | some c2=>
      simp only[eg,eg2]at h
      exact λv σ' H' r' i' _=>by
       obtain⟨y1,y2,z1,z2,z3,z4⟩:=fin r' eg eg2
       exact h v H' y1 y2 (λb o hb1 hb2 ho=>r'.kp b o ho λz=>z.elim hb1 hb2) (λb hb=>r'.dm b hb) z1 z2 z3 z4 i'
   |bk Z=>exact h.elim
   |ct Z=>exact h.elim
end
section
variable{X:Cx}{c:Fc}{pos:Pos}
def j8 (F:List D->List D->R (D×List D×List D)) (i j:Nat):M D:=λZ=>match zZ i Z,zZ j Z with
 |some b1,some b2=>match F b1 b2 with
  |.ok (d,c1,c2) => .ok (d,(Z.set i (some (.lst c1))).set j (some (.lst c2)))
  |_ => .bad
 |_,_ => .bad
theorem qdQ {k i j l:Nat} {ps:List Str} {F:List D->List D->R (D×List D×List D)} {x y z:Str} {p p1 p2:Pos} (C:jm X.prog X.w X.K X.mg X.base k x ps (qfo X.K F)) (hr:jX l X.A) (hij:i≠j:=by decide) (hk:k<=l:=by decide) (hg:Gl X x:=by rfl)
  (ho:i∈c.O:=by exact of_decide_eq_true rfl) (hoj:j∈c.O:=by exact of_decide_eq_true rfl) (hN:X.N[i]? = some y:=by rfl) (hNj:X.N[j]? = some z:=by rfl) (hv:Vis X.env.scope y:=by first|exact yaC rfl|exact yav (yaC rfl)|exact yav (yav rfl)) (hvj:Vis X.env.scope z:=by first|exact yaC rfl|exact yav (yaC rfl)|exact yav (yav rfl)) (hdy:(y==("__debug__":Str))=false:=by decide) (hcd:(y==("__classdict__":Str))=false:=by decide) (hdz:(z==("__debug__":Str))=false:=by decide) (hcz:(z==("__classdict__":Str))=false:=by decide)
  (hd:(x==("__debug__":Str))=false:=by decide) (he:yac [.Name y p1,.Name z p2] X.env=(false,eval (.Name y p1) X.env)::yac [.Name z p2] X.env:=by rfl) (he2:yac [.Name z p2] X.env=(false,eval (.Name z p2) X.env)::yac [] X.env:=by rfl) (hpl:(yaz pos (yac [.Name z p2] X.env)).any (·.1)=false:=by rfl):DE X c (.Call (.Name x p) [.Name y p1,.Name z p2] [] pos) (j8 F i j):=by
 obtain⟨f,fd,G,hm,hkp,hb⟩:=C.ex
 refine⟨_,vm G (hr.mono hk) hg hm hkp hb .nil qev (zJ (zq hN hv hdy hcd) (zJ (zq hNj hvj hdz hcz) yi he2) he) hd he hpl,λZ σ H Q r h=>?_⟩
 unfold j8 at h
 cases e0:zZ i Z with
 |none=>simp only[e0]at h;exact h.elim
 | some b1=>
  cases e1:zZ j Z with
  |none=>simp only[e0,e1]at h;exact h.elim
  | some b2=>
   simp only[e0,e1]at h
   obtain⟨a1,x1,_,s1,H1,il1⟩:=r.getLO ho e0
   obtain⟨a2,x2,_,s2,H2,il2⟩:=r.getLO hoj e1
   have ne:a1≠a2:=λz=>hij (r.inj i j a1 ho hoj s1 (by rw[z];exact s2))
   refine⟨.ref a1,s1,.ref a2,s2,?_⟩
   show qfo X.K F ([.ref a1,.ref a2]++[]) H Q E0
   rw[yaS]
   refine⟨b1,b2,Cn c σ,a1,a2,x1,x2,rfl,ne,H1,H2,r.tb,il1,il2,λhc=>hc.2 i ho s1,λhc=>hc.2 j hoj s2,?_⟩
   cases ef:F b1 b2 with
   |bad=>simp only[ef]at h;exact h.elim
   |exc z Z'=>simp only[ef]at h;exact h.elim
   | ok q=>
    obtain⟨d,c1,c2⟩:=q
    simp only[ef]at h
    intro v H' y1 y2 kp dm q1 q2 q3 q4 q5
    have up:∀{A:Addr->Prop},True:=λ{_}=>trivial
    have kp1:∀b o,b≠a1->H b=some o->upd H' a2 (.lst x2) b=some o:=λb o hb ho=>by
     by_cases e:b=a2
     ·subst e;rw[qi,<-ho,H2]
     ·rw[qg e];exact kp b o hb e ho
    have dm1:∀b,upd H' a2 (.lst x2) b=none->H b=none:=λb hb=>dm b (zA hb)
    have ext1:Ext (λb=>Cn c σ b\/H b=none) H' (upd H' a2 (.lst x2)):=⟨λb us hb=>qP (zP hb q2 (by intro z;cases z)) hb,λb o u hb=>qP (zP hb q2 (by intro z;cases z)) hb,λb o hb hq=>qP (λe=>by
     subst e
     rcases hb with hb|hb
     ·exact hb.2 j hoj s2
     ·rw[H2]at hb;cases hb) hq⟩
    obtain⟨r1,g1⟩:=r.io (H':=upd H' a2 (.lst x2)) (bs:=c1) ho s1 kp1 (by rw[qg ne];exact q1) trivial (IsL.ext ext1 (λa ha _=>ha.elim id r.new) q3) dm1
    have kp2:∀b o,b≠a2->upd H' a2 (.lst x2) b=some o->H' b=some o:=λb o hb ho=>by rw[qg hb]at ho;exact ho
    have dm2:∀b,H' b=none->upd H' a2 (.lst x2) b=none:=λb hb=>by
     rw[qg (λe=>by subst e;rw[q2]at hb;cases hb)];exact hb
    obtain⟨r2,g2⟩:=r1.io (H':=H') (bs:=c2) hoj s2 kp2 q2 trivial (IsL.ext Ext.refl (λa ha _=>ha.elim id r.new) q4) dm2
    exact h v H' r2 (Is.ext Ext.refl (λa ha _=>ha.elim id r.new) q5) (g1.trans g2)
end
end L2.Sk
namespace L2.Sk
namespace Law
open PySem PySem.Spec PyProof.Rows
set_option maxHeartbeats 4000000
local macro_rules|`(%[$x|0])=>`(qa $x (ret []))|`(%[$x,$xs,*|0])=>`(qa $x %[$xs,*|0])
local macro_rules|`(%[$x|1])=>`(⟨rfl,rfl,rfl,by decide +kernel,rfl,by decide +kernel,by decide +kernel⟩)|`(%[$f,$d,$m,$F,$p|2])=>`(⟨$f,$d,?_,$m,($F).kp,($F).binds fun _ _ _ _ _ _ us hl=>match us,hl with | $p,_=>rfl⟩)|`(%[$s,$f|3])=>do let K:=Lean.mkIdent `K;`(yaj $K yah $s=some (some (.ref $f)))|`(%[$s,$t,$n:num|4])=>do let K:=Lean.mkIdent `K;let f:=Lean.mkIdent (Lean.Name.mkSimple ("f"++toString n.getNat));let oc:=Lean.mkIdent (Lean.Name.mkSimple ("oc"++toString n.getNat));let od:=Lean.mkIdent (Lean.Name.mkSimple ("od"++toString n.getNat));let kV:=Lean.mkIdent (Lean.Name.mkSimple ("kV"++toString n.getNat));let dc:=Lean.mkIdent (Lean.Name.mkSimple ("dc"++toString n.getNat));let pm:=Lean.mkIdent (Lean.Name.mkSimple ("pm"++toString n.getNat));let an:=Lean.mkIdent (Lean.Name.mkSimple ("an"++toString n.getNat));let cd:=Lean.mkIdent (Lean.Name.mkSimple ("cd"++toString n.getNat));let ct:=Lean.mkIdent (Lean.Name.mkSimple ("ct"++toString n.getNat));let sl:=Lean.mkIdent (Lean.Name.mkSimple ("sl"++toString n.getNat));`($(K).lookup $f=some ⟨$oc,$od,.func (yaq $s $s (qB $t) (qt $t) (qc $t) .none $kV $dc $pm $an $cd $ct),$sl⟩)|`(%[$s,$c|5])=>do let K:=Lean.mkIdent `K;`(yap $K $c $s=true)|`(%[$f|6])=>do let K:=Lean.mkIdent `K;`(yai $K (.ref $f)=true)|`(%[$q,$s,$n:num|7])=>do let w:=Lean.mkIdent `w;let b:=Lean.mkIdent `base;let l:=Lean.mkIdent `l;let X:=Lean.mkIdent `X;let G:=Lean.mkIdent `G;let T:=Lean.mkIdent `T;let ln:=Lean.mkIdent (Lean.Name.mkSimple ("l"++toString n.getNat));let cn:=Lean.mkIdent (Lean.Name.mkSimple ("c"++toString n.getNat));let kn:=Lean.mkIdent (Lean.Name.mkSimple ("k"++toString n.getNat));let an:=Lean.mkIdent (Lean.Name.mkSimple ("a"++toString n.getNat));`($q (P:=$(l).prog) (w:=$w) (base:=$b) (zc (st:=$s) $ln $cn $kn) (yat $X $G $an) $T)
theorem qk3(ds:List D)(r:Env):zZ 0 (some (.lst ds)::r)=some ds:=rfl
theorem qk4(i:Nat)(o:OD)(r:Env):zZ (i+1) (o::r)=zZ i r:=rfl
theorem ix0(a b c:D):ixD (.tup [a,b,c]) (.int 0)=some a:=rfl
theorem ix1(a b c:D):ixD (.tup [a,b,c]) (.int 1)=some b:=rfl
theorem ix2(a b c:D):ixD (.tup [a,b,c]) (.int 2)=some c:=rfl
theorem qfp(i j:Int):neB (.int i) (.int j)=some (.bl (!decide (i=j))):=rfl
theorem ud(i j:Int):eqB (.int i) (.int j)=some (.bl (decide (i=j))):=rfl
theorem qaX(ds:List D):qb6 (tyD (.tup ds)) "tuple"=true:=rfl
theorem v6(ds:List D):yZ [.tup ds]=some (.int ds.length):=rfl
theorem qhy(d:D):isN d .non=some (.bl (uQ d)):=rfl
theorem qjd(d:D):qfU d .non=some (.bl (!uQ d)):=rfl
theorem qcl(i j:Int):gtD (.int i) (.int j)=some (.bl (decide (j<i))):=rfl
theorem qaY(i j:Int):ltD (.int i) (.int j)=some (.bl (decide (i<j))):=rfl
local macro_rules | `(tactic| push_cast [$xs,*]) => `(tactic| simp only [zB, qgt, qni, zC, qcK, qcL, qku, qmL, qnj, qcc, qcM, qkv, qiw, wK, qkw, qkx, qky, qkz, ql8, qkA, qix, qgu, wL, qhk, qiy, qcd, qkB, qhl, qeX, qbx, qkC, qiz, qby, qiA, qeZ, qiB, qiC, qbz, qiD, lC_, lN_, mC_, List.map_nil, List.replicate, List.nil_append, List.cons_append, List.append_nil, List.getElem?_cons_zero, List.getElem?_cons_succ, List.set_cons_zero, List.set_cons_succ, Nat.reduceAdd, Nat.reduceSub, Nat.sub_self, Nat.zero_add, reduceIte, Bool.not_true, Bool.not_false, Bool.false_eq_true, if_true, if_false, ite_true, ite_false, cond_true, cond_false, decide_true, decide_false, ix0, ix1, ix2, qaX, v6, qfp, ud, qhy, qjd, qcl, qaY, qk3, qk4, qaQ, qgA, qkJ, $xs,*])
theorem qgN {n p:Nat} {body:MS} {ds:List D} {d:D} (h:ds.length=p) (e:∃Z,body (zB n ds)=.ok (.rt d Z)):dfn n p body ds=.ok d:=by
 obtain⟨Z,e⟩:=e
 exact qiE h e
def qje:D->Bool
 |.int _=>true
 |_=>false
def ue:D->Bool
 |.int i=>decide (0<=i)
 |_=>false
def qfq:D->Bool
 |.int i=>decide (0<i)
 |_=>false
def uk:D->Bool
 |.tup [a,b,c]=>qfq a&&ue b&&(uQ c||ue c)
 |_=>false
theorem qns {ds:List D} (h:ds.length=3):∃a b c,ds=[a,b,c]:=by
 match ds,h with
 | [a,b,c],_=>exact⟨a,b,c,rfl⟩
theorem qdR {ds:List D} (h:ds.length≠3):uk (.tup ds)=false:=by
 match ds,h with
 | [],_=>rfl
 | [_],_=>rfl
 | [_,_],_=>rfl
 | [a,b,c],h=>exact absurd rfl h
 |_::_::_::_::_,_=>rfl
theorem qm{p q:MS}{Z Z':Env}(h:p Z=.ok (.nx Z')):qJ p q Z=q Z':=by rw[qhj,h]
theorem jR{p q:MS}{Z Z':Env}{d:D}(h:p Z=.ok (.rt d Z')):qJ p q Z=.ok (.rt d Z'):=by rw[qhj,h]
theorem qk5 {e:M D} {f:D->D}:∀(ds acc:List D)(o:OD),(∀d∈ds,e [some d]=.ok (f d,[some d]))->acc.length+ds.length<=1000->∃Z',jk (qH 0) (ret true) e ds acc [o]=.ok (acc++ds.map f,Z')
 | [],acc,o,_,_=>⟨[o],by simp[jk]⟩
 |d::ds,acc,o,h,hl=>by
  have hl':acc.length+(ds.length+1)<=1000:=hl
  obtain⟨Z',q⟩:=qk5 ds (acc++[f d]) (some d) (λx hx=>h x (mM _ hx)) (by rw[lA_,yaE];omega)
  refine⟨Z',?_⟩
  unfold jk
  simp only[qH,ych,ret,h d mS_,uY (show acc.length+1<=1000000 by omega),if_true,q]
  simp
theorem qbK (f:D->Bool):∀ds:List D,vN (ds.map λd=>D.bl (f d))=some (ds.map f)
 | []=>rfl
 |d::ds=>by simp[vN,qbK f ds]
theorem all_map {ds:List D} {f:D->Bool}:qhb [.lst (ds.map λd=>D.bl (f d))]=some (.bl (ds.all f)):=by
 simp only[qhb,qbK,Option.map_some]
 congr 2
 rw[List.all_map]
 rfl
theorem qjf {F:List D->R D} {f:D->Bool} {xs:M (List D)} {ds:List D} {Z:Env} (hx:xs Z=.ok (ds,Z)) (hF:∀d∈ds,F [d]=.ok (.bl (f d))) (hl:ds.length<=1000) :
  qp qhb %[y7 1 [] none xs (qH 0) (ret true) (qu F %[dv 0|0])|0] Z=.ok (.bl (ds.all f),Z):=by
 obtain⟨Z',q⟩:=qk5 (e:=qu F %[dv 0|0]) (f:=λd=>D.bl (f d)) ds [] none (λx hm=>by push_cast [];rw[hF x hm]) (by simpa using hl)
 have q':jk (qH 0) (ret true) (qu F %[dv 0|0]) ds [] (ym 1 [] Z)=.ok ([]++ds.map λd=>D.bl (f d),Z'):=q
 simp only[qcc,zC,qeY,hx,q',qgt,ybB,all_map]
 rfl
def uZ:D->Bool
 |.tup ds=>decide (ds.length<=12)&&ds.all uk
 |_=>false
theorem qaZ {l:M (List D)} {Z Z1:Env} {j:Int} (e:l Z=.ok ([.int j],Z1)) (h0:0<=j) (h:j<=1000000):y0 l Z=.ok (qb8 0 j.toNat,Z1):=by
 have h1:(-(2 ^ 62)<=j):=by omega
 have h2:(j<2 ^ 62):=by omega
 have e2:qgq [.int j]=some (qb8 0 j.toNat):=by
  simp only[qgq,h1,h2,decide_true,ybd,if_true]
 have e3:y0 l Z=lift (qgq [.int j]) Z1:=by
  show bnd l (λds=>lift (qgq ds)) Z=_
  rw[ql7,e]
 rw[e3,e2]
 rfl
theorem qfr {n m:Int} (h0:0<m) (h1:m<1606938044258990275541962092341162602522202993782792835301376):wz [.int n,.int m]=some (.tup [.int (n/m),.int (n%m)]):=by
 simp only[wz,qdv,h0,h1,decide_true,ybd,if_true]
theorem at0 (d:D) (r:List D):atI (d::r) 0=some d:=by
 unfold atI ixN
 rw[if_pos (by omega),if_pos (by simp)]
 rfl
theorem qnt:ixN 1 0=some 0:=by decide
theorem vc(i j:Int):qR (.int i) (.int j)=some (.int (i+j)):=rfl
theorem uH {i j:Int} (h:0<j):vZ (.int i) (.int j)=some (.int (i%j)):=by
 simp only[vZ,qh9,h,decide_true,if_true]
theorem qfs {i j:Int} (h:0<j) (h1:j<1606938044258990275541962092341162602522202993782792835301376):qdw (.int i) (.int j)=some (.int (i/j)):=by
 simp only[qdw,qh9,qdv,h,h1,decide_true,ybd,if_true]
theorem qgO {i j:Int} (h:yB i=true):v5 (.int i) (.int j)=some (.int (i*j)):=by
 simp only[v5,qeD,h,Bool.true_or,if_true]
theorem qk6 {i j:Int} (h:yB j=true):v5 (.int i) (.int j)=some (.int (i*j)):=by
 simp only[v5,qeD,h,ye7,if_true]
def dl(d:D):Bool := !(yX d).hasDict||noL d
theorem qc4 {xs ys:List D} (h:xs.length+ys.length<=1000000):qR (.lst xs) (.lst ys)=some (.lst (xs++ys)):=by
 simp only[qR,uY h,if_true]
theorem vz (x:Str):neB (.str x) (.str x)=some (.bl false):=by
 show some (D.bl (!decide (x=x)))=_
 rw[decide_eq_true rfl];rfl
theorem uy {F:List D->OD} {f:M D} {Z:Env} {a d:D} (hf:f Z=.ok (a,Z)) (e:F [a]=some d):qp F %[f|0] Z=.ok (d,Z):=by
 have e0:qa f (ret []) Z=.ok ([a],Z):=by rw[zC,hf];rfl
 rw[qcc,e0]
 dsimp only
 rw[e]
theorem qjg {α:Type} {e:M D} {t:M Bool} {k f:α->D} {p:α->Bool} {r:Env}:∀(as:List α)(acc:List D)(o:OD),(∀a∈as,t (some (k a)::r)=.ok (p a,some (k a)::r))->(∀a∈as,p a=true->e (some (k a)::r)=.ok (f a,some (k a)::r))->acc.length+as.length<=1000000 ->
  ∃o',jk (qH 0) t e (as.map k) acc (o::r)=.ok (acc++(as.filter p).map f,o'::r)
 | [],acc,o,_,_,_=>⟨o,by simp[jk]⟩
 | a::as,acc,o,ht,he,hl=>by
  have hl':acc.length+(as.length+1)<=1000000:=hl
  have h1:=ht a mS_
  rw[mC_]
  unfold jk
  simp only[qH,ych,h1]
  cases hp:p a with
  |false=>
   obtain⟨o',q⟩:=qjg as acc (some (k a)) (λx hx=>ht x (mM _ hx)) (λx hx=>he x (mM _ hx)) (by omega)
   refine⟨o',?_⟩
   simp only[q,List.filter_cons,hp,Bool.false_eq_true,if_false]
  |true=>
   obtain⟨o',q⟩:=qjg as (acc++[f a]) (some (k a)) (λx hx=>ht x (mM _ hx)) (λx hx=>he x (mM _ hx)) (by rw[lA_,yaE];omega)
   refine⟨o',?_⟩
   simp only[he a mS_ hp,uY (show acc.length+1<=1000000 by omega),if_true,q,List.filter_cons,hp,mC_,aA_,List.singleton_append]
theorem qk7 {α:Type} {e:M D} {t:M Bool} {k:α->D} {xs:M (List D)} {Z r:Env} {fr:List Nat} (as:List α) (p:α->Bool) (f:α->D) (hx:xs Z=.ok (as.map k,Z)) (hr:ym 1 fr Z=none::r) (hl:as.length<=1000000)
  (ht:∀a∈as,t (some (k a)::r)=.ok (p a,some (k a)::r)) (he:∀a∈as,p a=true->e (some (k a)::r)=.ok (f a,some (k a)::r)):y7 1 fr none xs (qH 0) t e Z=.ok (.lst ((as.filter p).map f),Z):=by
 obtain⟨o',q⟩:=qjg as [] none ht he (by simpa using hl)
 rw[qeY,hx]
 simp only[hr,q,ybB]
 rfl
theorem qcm{α:Type}(as:List α):as.filter (λ_=>true)=as:=by simp
theorem qk8 {α:Type} {e:M D} {k:α->D} {xs:M (List D)} {Z r:Env} {fr:List Nat} (as:List α) (f:α->D) (hx:xs Z=.ok (as.map k,Z)) (hr:ym 1 fr Z=none::r) (hl:as.length<=1000000)
  (he:∀a∈as,e (some (k a)::r)=.ok (f a,some (k a)::r)):y7 1 fr none xs (qH 0) (ret true) e Z=.ok (.lst (as.map f),Z):=by
 rw[qk7 as (λ_=>true) f hx hr hl (λ_ _=>rfl) λa ha _=>he a ha,qcm]
theorem vd{f:M D}{Z:Env}{a:D}(hf:f Z=.ok (a,Z)):qa f (ret []) Z=.ok ([a],Z):=by rw[zC,hf];rfl
theorem qdS{f g:M D}{Z:Env}{a b:D}(hf:f Z=.ok (a,Z))(hg:g Z=.ok (b,Z)):qa f %[g|0] Z=.ok ([a,b],Z):=by rw[zC,hf];simp only[vd hg]
theorem qk9{f g h:M D}{Z:Env}{a b c:D}(hf:f Z=.ok (a,Z))(hg:g Z=.ok (b,Z))(hh:h Z=.ok (c,Z)):qa f %[g,h|0] Z=.ok ([a,b,c],Z):=by rw[zC,hf];simp only[qdS hg hh]
theorem qmp{f g:M D}{Z:Env}{a b:D}(hf:f Z=.ok (a,Z))(hg:g Z=.ok (b,Z)):j6 %[f,g|0] Z=.ok (.tup [a,b],Z):=by rw[qcK,qdS hf hg];simp only[lC_,lN_,uY (show 0+1+1<=1000000 by omega),if_true]
theorem qjr{f g h:M D}{Z:Env}{a b c:D}(hf:f Z=.ok (a,Z))(hg:g Z=.ok (b,Z))(hh:h Z=.ok (c,Z)):j6 %[f,g,h|0] Z=.ok (.tup [a,b,c],Z):=by rw[qcK,qk9 hf hg hh];simp only[lC_,lN_,uY (show 0+1+1+1<=1000000 by omega),if_true]
theorem ve{F:List D->R D}{f:M D}{Z:Env}{a d:D}(hf:f Z=.ok (a,Z))(e:F [a]=.ok d):qu F %[f|0] Z=.ok (d,Z):=by rw[qcM,vd hf];simp only[e]
theorem zH{F:D->D->OD}{f g:M D}{Z:Env}{a b d:D}(hf:f Z=.ok (a,Z))(hg:g Z=.ok (b,Z))(e:F a b=some d):d2 F f g Z=.ok (d,Z):=by rw[qmL,hf];simp only[hg,e]
theorem yo{f:M D}{Z:Env}{b:Bool}(hf:f Z=.ok (.bl b,Z)):tst f Z=.ok (b,Z):=by rw[qiw,hf];rfl
theorem qbL{t:M Bool}{p q:MS}{Z:Env}(h:t Z=.ok (true,Z)):sif t p q Z=p Z:=by rw[qgu,h];rfl
theorem qmq{t:M Bool}{p q:MS}{Z:Env}(h:t Z=.ok (false,Z)):sif t p q Z=q Z:=by rw[qgu,h];rfl
theorem qft {i:Nat} {f:M D} {Z:Env} {ds:List D} {d:D} (h:zZ i Z=some ds) (hf:f Z=.ok (d,Z)) (hi:imm d=true) (hl:ds.length<1000000):jY (y8 i f) Z=.ok (.nx (Z.set i (some (.lst (ds++[d]))))):=by
 simp only[qcd,qbz,h,hf,hi,uY (show ds.length+1<=1000000 by omega),ybd,if_true]
theorem qbM {G:D->Env->Option Env} {b:MS} {d:D} {ds:List D} {Z Z1 Z2:Env} (h1:G d Z=some Z1) (h2:b Z1=.ok (.nx Z2)):uW G b (d::ds) Z=uW G b ds Z2:=by
 show(match G d Z with|none=>R.bad|some Z1=>_)=_
 rw[h1]
 simp only[h2]
theorem io1 {F:List D->List D->R (D×List D)} {i:Nat} {f:M D} {Z:Env} {ds ds':List D} {a d:D} (h:zZ i Z=some ds) (hf:f Z=.ok (a,Z)) (e:F ds [a]=.ok (d,ds')):qo F i %[f|0] Z=.ok (d,Z.set i (some (.lst ds'))):=by
 simp only[qby,h,vd hf,e]
theorem qnu {i j:Nat} {f g:M D} {Z Z1 Z2:Env} {a b:D} (hf:f Z=.ok (a,Z1)) (hg:g Z1=.ok (b,Z2)):qhh i j %[f,g|0] Z=.ok (.nx ((Z2.set i (some a)).set j (some b))):=by
 rw[qhl,zC,hf]
 simp only[zC,hg,qgt]
def mD:Option Int->D
 |none => .non
 |some j => .int j
abbrev Kd:=Int×Int×Option Int
def kD(x:Kd):D:=.tup [.int x.1,.int x.2.1,mD x.2.2]
theorem qla(m:Option Int):imm (mD m)=true:=by cases m<;>rfl
theorem qlb (x:Kd):imm (kD x)=true:=by
 simp only[kD,imm,immL,qla,ybd]
theorem qc5 {α:Type} {f:α->D}:∀{as:List α},(∀a∈as,imm (f a)=true)->immL (as.map f)=true
 | [],_=>rfl
 |a::as,h=>by simp only[mC_,immL,h a mS_,qc5 λx hx=>h x (mM _ hx),ybd]
def okK(x:Kd):Prop:=0<x.1/\0<=x.2.1/\(∀j,x.2.2=some j->0<=j)
theorem wS {x:Kd} (h:okK x):uk (kD x)=true:=by
 obtain⟨a,b,m⟩:=x
 obtain⟨h1,h2,h3⟩:=h
 have e1:qfq (.int a)=true:=decide_eq_true h1
 have e2:ue (.int b)=true:=decide_eq_true h2
 cases m with
 |none=>simp only[kD,mD,uk,e1,e2,uQ,yb5,Bool.true_or]
 |some j=>
  have e3:ue (.int j)=true:=decide_eq_true (h3 j rfl)
  simp only[kD,mD,uk,e1,e2,e3,yb5,ye7]
theorem qdT {ks:List Kd} (h:∀x∈ks,okK x) (hl:ks.length<=12):uZ (.tup (ks.map kD))=true:=by
 have:(ks.map kD).all uk=true:=by
  rw[List.all_map]
  exact List.all_eq_true.mpr λx hx=>wS (h x hx)
 simp only[uZ,lM_,hl,decide_true,this,yb5]
theorem qlc {α:Type} {ds:List α} {n:Nat} {d:α} (h:ds[n]? = some d):atI ds (n:Int)=some d:=by
 unfold atI ixN
 have hl:=(gI_.mp h).1
 rw[if_pos (by omega),if_pos (by omega)]
 show ds[(n:Int).toNat]? = _
 rw[ycq];exact h
theorem qnv{t u:M Bool}{Z:Env}(h1:t Z=.ok (false,Z))(h2:u Z=.ok (false,Z)):tor t u Z=.ok (false,Z):=by rw[qky,h1];exact h2
theorem qc6 (xs:List D) (j:Nat) (h:j<=xs.length):qcD xs none (some (j:Int))=xs.take j:=by
 unfold qcD
 rw[HT.sIx_none,HT.sIx_nat,yc7 h]
 simp
theorem qc7 (xs:List D) (j:Nat) (h:j<=xs.length):qcD xs (some (j:Int)) none=xs.drop j:=by
 unfold qcD
 rw[HT.sIx_none,HT.sIx_nat,yc7 h]
 exact List.take_of_length_le (by simp)
theorem qat{i:Nat}{f:M D}{Z Z1:Env}{d:D}(h:f Z=.ok (d,Z1)):yc i f Z=.ok (.nx (Z1.set i (some d))):=by rw[qhk,h]
theorem jt{f:M D}{Z Z1:Env}{d:D}(h:f Z=.ok (d,Z1)):zu f Z=.ok (.rt d Z1):=by rw[wL,h]
theorem wT{f:M D}{Z Z1:Env}{d:D}(h:f Z=.ok (d,Z1)):jY f Z=.ok (.nx Z1):=by rw[qcd,h]
theorem qdU (c:Nat) (a b:Str) (r:List Str):(yeG ⟨#[c]⟩ (a::b::r)).cps.toList=a.cps.toList++c::(yeG ⟨#[c]⟩ (b::r)).cps.toList:=by
 show((a.cps ++ #[c])++(yeG ⟨#[c]⟩ (b::r)).cps).toList=_
 rw[yeS,yeS,aA_]
 rfl
theorem qgP(z:Str)(ws:List Str):Txt.join z ws=yeG z ws:=StrLaws.glued_eq_join z ws
def top(i:Nat):Stmt:=PySem.Challenge.pw_sackloads_k81_deeds_at_a_desk.main.body.getD i (.Pass ⟨0,0,0,0⟩)
abbrev jA:Stmt:=top 88
abbrev yS:Stmt:=top 67
abbrev jB:Stmt:=top 70
abbrev ye:Stmt:=top 16
abbrev yf:Stmt:=top 17
abbrev yT:Stmt:=top 18
abbrev jC:Stmt:=top 19
abbrev zS:Stmt:=top 20
abbrev vQ:Stmt:=top 71
abbrev zT:Stmt:=top 79
abbrev zU:Stmt:=top 84
abbrev zn:Stmt:=vn (top 85) 5
abbrev qY:Stmt:=vn (top 85) 2
abbrev qZ:Stmt:=vn (top 85) 4
abbrev jD:Stmt:=top 69
abbrev qT:Stmt:=vn (top 85) 3
abbrev yg:Stmt:=top 22
abbrev yp:Stmt:=top 41
abbrev uf:Stmt:=top 40
abbrev yU:Stmt:=top 78
abbrev zV:Stmt:=top 68
abbrev yV:Stmt:=top 75
abbrev yq:Stmt:=top 76
abbrev jE:Stmt:=top 77
abbrev jG:Stmt:=vn (top 85) 1
abbrev zo:Stmt:=top 89
abbrev zW:Stmt:=top 90
abbrev jh:Stmt:=top 91
abbrev jI:Stmt:=top 92
abbrev jJ:Stmt:=top 93
abbrev yh:Stmt:=top 87
abbrev qa0:Stmt:=top 94
abbrev zE:Stmt:=vn (top 85) 0
structure Txt (K:yad) (mg:Str->Option Value):Prop where
 b_ValueError:mg "ValueError"=none
 b_all:mg "all"=none
 b_bool:mg "bool"=none
 b_divmod:mg "divmod"=none
 b_int:mg "int"=none
 b_isinstance:mg "isinstance"=none
 b_len:mg "len"=none
 b_max:mg "max"=none
 b_min:mg "min"=none
 b_range:mg "range"=none
 b_reversed:mg "reversed"=none
 b_str:mg "str"=none
 b_tuple:mg "tuple"=none
 b_zip:mg "zip"=none
 c_FIGURES:∃t,mg "FIGURES"=some (.str "0123456789" t)
 c_FIGURES_AT_MOST:∃t,mg "FIGURES_AT_MOST"=some (.int 30 t)
 c_KINDS_AT_MOST:∃t,mg "KINDS_AT_MOST"=some (.int 12 t)
 c_MOST:∃t,mg "MOST"=some (.int 2 t)
 c_WEIGHT:∃t,mg "WEIGHT"=some (.int 0 t)
 c_WORTH:∃t,mg "WORTH"=some (.int 1 t)
 dj:qgG K
def wbT:List (Str×List Str):=[("kind",["from one on","number","number or end"]),("drop",["number"]),("room",["number"]),("back",[]),("store",[]),("bears",[]),("best",[]),("load",[]),("many",[]),("shares",[]),("bound",[]),("full",[]),("needs",["number"])]
def RN:List Str:=["NoStore","NoNumber","TooMany","NoKind","NoLine"]
def TN:List Str:=["SackError","NoText","NoLine","NoKind","NotEndless","NotSingle","TooMany","NoLoad","NoNumber","NoStore"]
noncomputable def ug:MS :=
  (qJ (qd1 (qp wz %[wH 0 (ret (.int 0)),dv 1|0]) (qb5 2 (zM (qH 2) (zM (qH 3) qb4))))
  (qJ (qgr 0 (ret (.int 0)) (dv 2))
  (zu (dv 3))))
noncomputable def qe:List D->List D->R (D×List D):=qca 4 2 ug
noncomputable def qbN:MS :=
  (qJ (u7 1 (qkl %[d2 ixB (ret (.str "0123456789")) (d2 vZ (dv 0) (ret (.int 10)))|0]))
  (qJ (yc 2 (d2 qdw (dv 0) (ret (.int 10))))
  (qJ (uv (tst (d2 gtD (dv 2) (ret (.int 0)))) (qJ (jY (y8 1 (d2 ixB (ret (.str "0123456789")) (d2 vZ (dv 2) (ret (.int 10))))))
  (yc 2 (d2 qdw (dv 2) (ret (.int 10))))) 40)
  (zu (qiY "" 1)))))
noncomputable def ju:List D->R D:=dfn 3 1 qbN
noncomputable def wU:MS :=
  (qJ (yc 1 (dif (tst (d2 isN (d2 ixB (dv 0) (ret (.int 2))) (ret .non))) (ret (.str "")) (qu ju %[d2 ixB (dv 0) (ret (.int 2))|0])))
  (zu (d2 qR (d2 qR (d2 qR (d2 qR (qu ju %[d2 ixB (dv 0) (ret (.int 0))|0]) (ret (.str "/"))) (qu ju %[d2 ixB (dv 0) (ret (.int 1))|0])) (ret (.str "*"))) (dv 1))))
noncomputable def yr:List D->R D:=dfn 2 1 wU
noncomputable def vA:MS :=
  (zu (qh6 (qha "int" (dv 0)) (qlC (qha "bool" (dv 0)))))
noncomputable def uI:List D->R D:=dfn 1 1 vA
noncomputable def vB:MS :=
  (zu (qh6 (qu uI %[dv 0|0]) (d2 geD (dv 0) (ret (.int 0)))))
noncomputable def jK:List D->R D:=dfn 1 1 vB
noncomputable def wV:MS :=
  (qJ (sif (tor (qb3 (tst (qha "tuple" (dv 0)))) (tst (d2 neB (qp yZ %[dv 0|0]) (ret (.int 3))))) (zu (ret (.bl false))) z9)
  (qJ (sif (tor (qb3 (tst (qu jK %[d2 ixD (dv 0) (ret (.int 0))|0]))) (tst (d2 eqB (d2 ixD (dv 0) (ret (.int 0))) (ret (.int 0))))) (zu (ret (.bl false))) z9)
  (zu (qh6 (qu jK %[d2 ixD (dv 0) (ret (.int 1))|0]) (dor (d2 isN (d2 ixD (dv 0) (ret (.int 2))) (ret .non)) (qu jK %[d2 ixD (dv 0) (ret (.int 2))|0]))))))
noncomputable def yW:List D->R D:=dfn 1 1 wV
noncomputable def vC:MS :=
  (qJ (sif (tor (qb3 (tst (qha "tuple" (dv 0)))) (tst (d2 gtD (qp yZ %[dv 0|0]) (ret (.int 12))))) (zu (ret (.bl false))) z9)
  (zu (qp qhb %[y7 1 [] none (qfV (dv 0)) (qH 0) (ret true) (qu yW %[dv 0|0])|0])))
noncomputable def uJ:List D->R D:=dfn 1 1 vC
noncomputable def yD:MS :=
  (sif (qb3 (tst (qu uJ %[dv 0|0]))) (uR "NoStore" %[ret (.str "this is no store")|0]) z9)
noncomputable def jn:List D->R D:=wN 1 1 yD
noncomputable def qc8:MS :=
  (qJ (jY (zN RN jn %[dv 0|0]))
  (zu (qbD qbC (ret (.str " ")) %[y7 1 [] none (qfV (dv 0)) (qH 0) (ret true) (qu yr %[dv 0|0])|0])))
noncomputable def qc9:List D->R D:=wN 1 1 qc8
noncomputable def yE:MS :=
  (zu (dif (tst (d2 eqB (dv 0) (j6 (ret [])))) (ret (.str "none")) (zN RN qc9 %[dv 0|0])))
noncomputable def yF:List D->R D:=wN 1 1 yE
noncomputable def jS:MS :=
  (qJ (sif (tst (d2 eqB (d2 ixB (dv 0) (ret (.int 0))) (ret (.str "store")))) (zu (zN RN yF %[dv 1|0])) z9)
  (qJ (sif (tst (d2 eqB (d2 ixB (dv 0) (ret (.int 0))) (ret (.str "bears")))) (zu (qu ju %[dv 2|0])) z9)
  (qJ (sif (tst (d2 eqB (d2 ixB (dv 0) (ret (.int 0))) (ret (.str "shares")))) qjp z9)
  (qJ (sif (tst (d2 eqB (d2 ixB (dv 0) (ret (.int 0))) (ret (.str "bound")))) qjp z9)
  (qJ (sif (tst (d2 eqB (d2 ixB (dv 0) (ret (.int 0))) (ret (.str "full")))) qjp z9)
  (qJ (sif (tst (d2 eqB (d2 ixB (dv 0) (ret (.int 0))) (ret (.str "needs")))) qjp z9)
  qjp))))))
noncomputable def jU:List D->R D:=wN 3 3 jS
noncomputable def jb:MS :=
  (qJ (sif (qi5 0) (uR "NoNumber" %[ret (.str "nothing stands that could be undone")|0]) z9)
  (qJ (qkV 0 1)
  (qJ (qdN 0 0 (d2 ixD (dv 1) (ret (.int 0))))
  (qJ (qdN 0 1 (d2 ixD (dv 1) (ret (.int 1))))
  (zu (ret (.str "ok")))))))
noncomputable def zL:List D->List D->R (D×List D):=qab 2 1 jb
noncomputable def je:MS :=
  (jY (qi4 0))
noncomputable def zK:List D->List D->R (D×List D):=qab 1 1 je
noncomputable def jf:MS :=
  (qJ (jY (z6 RN zK 0 (ret [])))
  (qJ (qdN 0 1 (dv 1))
  (zu (ret (.str "ok")))))
noncomputable def jg:List D->List D->R (D×List D):=qab 2 2 jf
noncomputable def wW:MS :=
  (qJ (yc 1 (ret (.int 0)))
  (qJ (qeJ (qmf (dv 0)) (qH 2) (yc 1 (d2 qR (d2 v5 (dv 1) (ret (.int 10))) (qp qiW %[dv 2|0]))))
  (zu (dv 1))))
noncomputable def qN:List D->R D:=dfn 3 1 wW
noncomputable def z0:MS :=
  (qJ (jY (z6 RN zK 0 (ret [])))
  (qJ (qdN 0 0 (dv 1))
  (zu (qu ju %[qp yZ %[dv 1|0]|0]))))
noncomputable def qU:List D->List D->R (D×List D):=qab 2 2 z0
noncomputable def vD:MS :=
  (zu (qh6 (qu jK %[dv 0|0]) (d2 ltD (dv 0) (qp yZ %[dv 1|0]))))
noncomputable def uK:List D->R D:=dfn 2 2 vD
noncomputable def uz:MS :=
  (qJ (jY (zN RN jn %[dv 0|0]))
  (qJ (sif (qb3 (tst (qu uK %[dv 1,dv 0|0]))) (uR "NoNumber" %[ret (.str "this is no place of the store")|0]) z9)
  (zu (d2 qR (w9 (dv 0) (ret none) (yI (dv 1))) (w9 (dv 0) (yI (d2 qR (dv 1) (ret (.int 1)))) (ret none))))))
noncomputable def jc:List D->R D:=wN 2 2 uz
noncomputable def vf:MS :=
  (qJ (jY (zN RN jn %[dv 0|0]))
  (qJ (sif (qb3 (tst (qu yW %[dv 1|0]))) (uR "NoKind" %[ret (.str "this is no kind")|0]) z9)
  (qJ (sif (tst (d2 eqB (qp yZ %[dv 0|0]) (ret (.int 12)))) (uR "TooMany" %[ret (.str "twelve kinds are there")|0]) z9)
  (zu (d2 qR (dv 0) (j6 %[dv 1|0]))))))
noncomputable def jN:List D->R D:=wN 2 2 vf
noncomputable def qbO:MS :=
  (qJ (yc 1 (dif (tst (d2 eqB (d2 ixB (dv 0) (ret (.int 3))) (ret (.str "end")))) (ret .non) (qu qN %[d2 ixB (dv 0) (ret (.int 3))|0])))
  (zu (j6 %[qu qN %[d2 ixB (dv 0) (ret (.int 1))|0],qu qN %[d2 ixB (dv 0) (ret (.int 2))|0],dv 1|0])))
noncomputable def jv:List D->R D:=dfn 2 1 qbO
noncomputable def vR:MS :=
  (qJ (sif (tor (tst (d2 eqB (dv 0) (ret (.str "")))) (qb3 (tst (qp qhb %[y7 1 [] none (qmf (dv 0)) (qH 0) (ret true) (d2 inS (dv 0) (ret (.str "0123456789")))|0])))) (zu (ret (.bl false))) z9)
  (zu (dor (d2 eqB (dv 0) (ret (.str "0"))) (d2 neB (d2 ixB (dv 0) (ret (.int 0))) (ret (.str "0"))))))
noncomputable def vS:List D->R D:=dfn 1 1 vR
noncomputable def qbP:MS :=
  (qJ (sif (qlB (tst (d2 eqB (dv 1) (ret (.str "number or end")))) (tst (d2 eqB (dv 0) (ret (.str "end"))))) (zu (ret (.bl true))) z9)
  (qJ (sif (tor (qb3 (tst (qu vS %[dv 0|0]))) (tst (d2 gtD (qp yZ %[dv 0|0]) (ret (.int 30))))) (zu (ret (.bl false))) z9)
  (zu (dor (d2 neB (dv 1) (ret (.str "from one on"))) (d2 neB (dv 0) (ret (.str "0")))))))
noncomputable def qbQ:List D->R D:=dfn 2 2 qbP
noncomputable def qbR:MS :=
  (qJ (yc 1 (dwb wbT %[d2 ixB (dv 0) (ret (.int 0))|0]))
  (qJ (sif (tor (tst (d2 isN (dv 1) (ret .non))) (tst (d2 neB (qp yZ %[dv 0|0]) (d2 qR (qp yZ %[dv 1|0]) (ret (.int 1)))))) (zu (ret (.bl false))) z9)
  (zu (qp qhb %[y7 2 [] none (qkZ %[w9 (dv 0) (yI (ret (.int 1))) (ret none),dv 1|0]) (qb5 2 (zM (qH 0) (zM (qH 1) qb4))) (ret true) (qu qbQ %[dv 0,dv 1|0])|0]))))
noncomputable def qbS:List D->R D:=dfn 2 1 qbR
noncomputable def vE:MS :=
  (qJ (sif (qb3 (tst (qha "str" (dv 0)))) (uR "NoLine" %[ret (.str "this is no text")|0]) z9)
  (qJ (yc 1 (qbD qfa (dv 0) %[ret (.str " ")|0]))
  (qJ (sif (qb3 (tst (qu qbS %[dv 1|0]))) (uR "NoLine" %[ret (.str "this is no line that a desk is told")|0]) z9)
  (zu (dv 1)))))
noncomputable def zF:List D->R D:=wN 2 1 vE
noncomputable def zG:MS :=
  (qJ (yc 2 (zN RN zF %[dv 1|0]))
  (qJ (sif (tst (d2 eqB (d2 ixB (dv 2) (ret (.int 0))) (ret (.str "kind")))) (zu (z6 RN qU 0 %[zN RN jN %[qar 0 0,qu jv %[dv 2|0]|0]|0])) z9)
  (qJ (sif (tst (d2 eqB (d2 ixB (dv 2) (ret (.int 0))) (ret (.str "drop")))) (zu (z6 RN qU 0 %[zN RN jc %[qar 0 0,qu qN %[d2 ixB (dv 2) (ret (.int 1))|0]|0]|0])) z9)
  (qJ (sif (tst (d2 eqB (d2 ixB (dv 2) (ret (.int 0))) (ret (.str "room")))) (zu (z6 RN jg 0 %[qu qN %[d2 ixB (dv 2) (ret (.int 1))|0]|0])) z9)
  (qJ (sif (tst (d2 eqB (d2 ixB (dv 2) (ret (.int 0))) (ret (.str "back")))) (zu (z6 RN zL 0 (ret []))) z9)
  (zu (zN RN jU %[dv 2,qar 0 0,qar 0 1|0])))))))
noncomputable def qw:List D->List D->R (D×List D):=qab 3 2 zG
noncomputable def yL:MS :=
  (qJ (yc 1 (yb %[qbW RN "NoStore" (dv 0),qbW RN "NoNumber" (dv 0),qbW RN "NoLoad" (dv 0),qbW RN "TooMany" (dv 0)|0]))
  (qJ (yc 1 (d2 qR (dv 1) (yb %[qbW RN "NotSingle" (dv 0),qbW RN "NotEndless" (dv 0),qbW RN "NoKind" (dv 0)|0])))
  (zu (d2 qR (dv 1) (yb %[qbW RN "NoLine" (dv 0),qbW RN "NoText" (dv 0)|0])))))
noncomputable def uU:List D->R D:=dfn 2 1 yL
noncomputable def u0:MS :=
  (qJ (sif (tor (qb3 (tst (qbW RN "SackError" (dv 0)))) (qb3 (tst (qbW RN "ValueError" (dv 0))))) (zu (ret (.bl false))) z9)
  (zu (d2 eqB (qu uU %[dv 0|0]) (y7 1 [1] none (y0 %[ret (.int 9)|0]) (qH 0) (ret true) (d2 eqB (dv 0) (dv 1))))))
noncomputable def ji:List D->R D:=dfn 2 2 u0
noncomputable def yt:MS :=
  (w8 RN 3 2 (zu (z6 RN qw 0 %[dv 1|0])) (y7 1 [2] none (y0 %[ret (.int 9)|0]) (qH 0) (tst (qu ji %[dv 1,dv 0|0])) (dv 0)))
noncomputable def ql:List D->List D->R (D×List D):=qab 3 2 yt
noncomputable def u3:MS :=
  (qJ (u7 1 (qkl (ret [])))
  (qJ (qeJ (qfV (dv 0)) (qb5 3 (zM (qH 2) (zM (qH 3) (zM (qH 4) qb4)))) (jY (y8 1 (d2 qR (d2 qR (d2 qR (d2 qR (qp ja %[dv 2|0]) (ret (.str "/"))) (qp ja %[dv 3|0])) (ret (.str "*"))) (dif (tst (d2 isN (dv 4) (ret .non))) (ret (.str "")) (qp ja %[dv 4|0]))))))
  (zu (qmo (qe4 (qbD qbC (ret (.str " ")) %[dv 1|0])) (ret (.str "none"))))))
noncomputable def zp:List D->R D:=dfn 5 1 u3
noncomputable def yu:MS :=
  (qJ (qd1 (wH 1 (d1 qal (ret (.int 1)))) (qb5 2 (zM (qH 2) (zM (qH 3) qb4))))
  (qJ (yc 4 (qo qe 0 %[ret (.int 9)|0]))
  (qJ (sif (tst (d2 ltD (dv 4) (ret (.int 5)))) (qJ (qhh 5 6 %[d2 qR (ret (.int 1)) (qo qe 0 %[ret (.int 9)|0]),d2 ixD (yb %[qo qe 0 %[ret (.int 9)|0],d2 qbv (ret (.int 10)) (ret (.int 29))|0]) (d2 vZ (dv 4) (ret (.int 2)))|0])
  (qJ (yc 7 (j6 %[dv 5,dv 6,d2 ixD (yb %[ret .non,qo qe 0 %[ret (.int 4)|0]|0]) (qo qe 0 %[ret (.int 2)|0])|0]))
  (qJ (yc 8 (d2 qR (d2 qR (d2 qR (d2 qR (d2 qR (ret (.str "kind ")) (qp ja %[d2 ixD (dv 7) (ret (.int 0))|0])) (ret (.str " "))) (qp ja %[d2 ixD (dv 7) (ret (.int 1))|0])) (ret (.str " "))) (dif (tst (d2 isN (d2 ixD (dv 7) (ret (.int 2))) (ret .non))) (ret (.str "end")) (qp ja %[d2 ixD (dv 7) (ret (.int 2))|0]))))
  (qJ (sif (tst (d2 eqB (qp yZ %[dv 2|0]) (ret (.int 12)))) (zu (j6 %[dv 8,yb %[ret (.int 3)|0],ret .non|0])) z9)
  (zu (j6 %[dv 8,qp ja %[d2 qR (qp yZ %[dv 2|0]) (ret (.int 1))|0],j6 %[d2 qR (dv 2) (yb %[dv 7|0]),dv 3|0]|0])))))) z9)
  (qJ (sif (tst (d2 eqB (dv 4) (ret (.int 5)))) (qJ (yc 9 (qo qe 0 %[ret (.int 5)|0]))
  (qJ (sif (tst (d2 geD (dv 9) (qp yZ %[dv 2|0]))) (zu (j6 %[d2 qR (ret (.str "drop ")) (qp ja %[dv 9|0]),yb %[ret (.int 1)|0],ret .non|0])) z9)
  (zu (j6 %[d2 qR (ret (.str "drop ")) (qp ja %[dv 9|0]),qp ja %[d2 qcA (qp yZ %[dv 2|0]) (ret (.int 1))|0],j6 %[d2 qR (w9 (dv 2) (ret none) (yI (dv 9))) (w9 (dv 2) (yI (d2 qR (dv 9) (ret (.int 1)))) (ret none)),dv 3|0]|0])))) z9)
  (qJ (sif (tst (d2 ltD (dv 4) (ret (.int 8)))) (qJ (yc 10 (d2 ixD (yb %[qo qe 0 %[ret (.int 300)|0],d2 qcA (d2 qbv (ret (.int 10)) (ret (.int 30))) (ret (.int 1))|0]) (qo qe 0 %[ret (.int 2)|0])))
  (zu (j6 %[d2 qR (ret (.str "room ")) (qp ja %[dv 10|0]),ret (.str "ok"),j6 %[dv 2,dv 10|0]|0]))) z9)
  (zu (j6 %[ret (.str "back"),dif (tst (d2 eqB (w6 1) (ret (.int 1)))) (yb %[ret (.int 1)|0]) (ret (.str "ok")),ret .non|0])))))))
noncomputable def za:List D->List D->R (D×List D×List D):=qbJ 11 yu
noncomputable def uL:MS :=
  (qJ (yc 2 (d2 qR (d2 v5 (ret (.int 7919)) (dv 1)) (ret (.int 13))))
  (qJ (sif (tst (d2 ltD (dv 1) (qp yZ %[dv 0|0]))) (yc 2 (d2 ixD (dv 0) (dv 1))) z9)
  (qJ (sif (tst (d2 eqB (d2 vZ (dv 2) (ret (.int 2))) (ret (.int 0)))) (zu (yb %[d2 qdw (dv 2) (ret (.int 2))|0])) z9)
  (qJ (yc 3 (ret (.int 0)))
  (qJ (qeJ (y0 %[ret (.int 16)|0]) (qH 4) (qJ (yc 5 (d2 vZ (d2 qR (d2 qR (d2 v5 (d2 vZ (dv 2) (ret (.int 2147483647))) (ret (.int 48271))) (d2 v5 (ret (.int 7919)) (dv 4))) (ret (.int 1))) (ret (.int 2147483647))))
  (qJ (yc 5 (d2 vZ (d2 v5 (dv 5) (dv 5)) (ret (.int 2147483629))))
  (yc 3 (d2 qR (d2 v5 (dv 3) (ret (.int 2147483647))) (d2 vZ (d2 v5 (dv 5) (d2 qR (dv 5) (ret (.int 13)))) (ret (.int 2147483647))))))))
  (zu (yb %[dv 3|0])))))))
noncomputable def jo:List D->R D:=dfn 6 2 uL
noncomputable def qgQ:MS :=
  (qJ (qeJ (y0 %[qp qic %[ret (.int 1),qp qid %[qp yZ %[dv 0|0],ret (.int 3)|0]|0]|0]) (qH 1) (qJ (u7 2 (qbw jo %[dv 0,dv 1|0]))
  (qJ (qbG 3)
  (qJ (u7 4 (qe8 %[j6 %[yb (ret []),ret (.int 0)|0]|0]))
  (qeJ (y0 %[qo qe 2 %[ret (.int 23)|0]|0]) (qH 5) (qJ (qd1 (j8 za 2 4) (qb5 3 (zM (qH 6) (zM (qH 7) (zM (qH 8) qb4)))))
  (qJ (sif (tst (d2 neB (zt ql 3 %[dv 6|0]) (dv 7))) (zu (ret (.bl false))) z9)
  (qJ (sif (tst (d2 qfU (dv 8) (ret .non))) (jY (uc 4 (dv 8))) (sif (tst (d2 eqB (dv 7) (ret (.str "ok")))) (jY (qck 4)) z9))
  (sif (tor (tst (d2 neB (zt ql 3 %[ret (.str "store")|0]) (qu zp %[d2 ixD (wH 4 (d1 qal (ret (.int 1)))) (ret (.int 0))|0]))) (tst (d2 neB (zt ql 3 %[ret (.str "bears")|0]) (qp ja %[d2 ixD (wH 4 (d1 qal (ret (.int 1)))) (ret (.int 1))|0])))) (zu (ret (.bl false))) z9)))))))))
  (zu (ret (.bl true))))
noncomputable def qcn:List D->R D:=dfn 9 1 qgQ
theorem qa1 (d:D):uI [d]=.ok (.bl (qje d)):=by
 unfold uI vA
 refine qgN rfl ⟨[some d],?_⟩
 push_cast []
 cases d<;>rfl
theorem j9 (d:D):jK [d]=.ok (.bl (ue d)):=by
 unfold jK vB
 refine qgN rfl ⟨[some d],?_⟩
 push_cast []
 rw[qa1]
 cases d<;>rfl
theorem uA (d:D):yW [d]=.ok (.bl (uk d)):=by
 unfold yW wV
 refine qgN rfl ⟨[some d],?_⟩
 cases d with
 | tup ds=>
  by_cases h:ds.length=3
  ·obtain ⟨a,b,c,rfl⟩:=qns h
   refine(qm (Z':=[some (.tup [a,b,c])]) rfl).trans ?_
   by_cases hp:qfq a=true
   ·refine (qm (Z':=[some (.tup [a,b,c])]) ?_).trans ?_
    ·cases a with
     |int i=>
      have h2:0<i:=of_decide_eq_true hp
      have h0:0<=i:=by omega
      have h1:¬i=0:=by omega
      push_cast [ix0,j9,ue,ud,wK,h0,h1,decide_true,decide_false]
     |_=>exact absurd hp (by simp[qfq])
    ·push_cast [ix1,ix2,j9,qhy,uk,hp,wK,yb5]
     cases hb:ue b<;>cases hc:uQ c<;>rfl
   ·refine (jR (d:=.bl false) (Z':=[some (.tup [a,b,c])]) ?_).trans ?_
    ·cases a with
     | int i=>
      have h2:¬0<i:=λz=>hp (decide_eq_true z)
      push_cast [ix0,j9,ue,ud,wK]
      by_cases h0:0<=i
      ·have h1:i=0:=by omega
       subst h1;rfl
      ·simp only[h0,decide_false]
       rfl
     |_=>rfl
    ·have hp':qfq a=false:=by simpa using hp
     simp only[uk,hp',yej]
  ·refine (jR (d:=.bl false) (Z':=[some (.tup ds)]) ?_).trans ?_
   ·push_cast []
    have h3:¬((ds.length:Int)=3):=by omega
    simp only[qaX,v6,qfp,h3,decide_false,wK]
    rfl
   ·rw[qdR h]
 |_=>rfl
theorem qa2 (d:D):uJ [d]=.ok (.bl (uZ d)):=by
 unfold uJ vC
 refine qgN rfl ⟨[some d],?_⟩
 cases d with
 | tup ds=>
  by_cases h:ds.length<=12
  ·have h2:¬((12:Int)<(ds.length:Int)):=by omega
   refine(qm (Z':=[some (.tup ds)]) ?_).trans ?_
   ·push_cast [qaX,v6,qcl,h2,decide_false,wK]
   ·rw[wL,qjf (F:=yW) (f:=uk) (xs:=qfV (dv 0)) (ds:=ds) (Z:=[some (.tup ds)]) rfl (λd _=>uA d) (by omega)]
    simp only[uZ,h,decide_true,yb5]
  ·have h2:((12:Int)<(ds.length:Int)):=by omega
   refine(jR (d:=.bl false) (Z':=[some (.tup ds)]) ?_).trans ?_
   ·push_cast [qaX,v6,qcl,h2,decide_true,wK]
   ·simp only[uZ,h,decide_false,yej]
 |_=>rfl
theorem sm1:qF 1=true:=uY (by omega)
theorem jw (d:D) (h:uZ d=true):jn [d]=.ok .non:=by
 unfold jn
 refine qkK rfl ⟨[some d],?_⟩
 unfold yD
 push_cast [qa2,h]
theorem qfu {n m:Int} (h0:0<m) (h1:m<1606938044258990275541962092341162602522202993782792835301376):qe [.int n] [.int m]=.ok (.int (n%m),[.int (n/m)]):=by
 unfold qe
 refine qkD (Z:=[some (.lst [.int (n/m)]),some (.int m),some (.int (n/m)),some (.int (n%m))]) rfl ?_ rfl
 unfold ug
 refine(qm (Z':=[some (.lst [.int n]),some (.int m),some (.int (n/m)),some (.int (n%m))]) ?_).trans ?_
 ·push_cast [at0,qfr h0 h1,qb5,zM,qH,qb4,Option.bind_some]
 ·refine(qm (Z':=[some (.lst [.int (n/m)]),some (.int m),some (.int (n/m)),some (.int (n%m))]) ?_).trans rfl
  push_cast [qnt,imm]
theorem qda {i:Int} (h0:0<=i) (h1:i<3000000000):yB i=true:=by
 unfold yB
 rw[yau,decide_eq_true_eq,decide_eq_true_eq]
 constructor<;>omega
theorem qdb (A B:OD) (x:Int):∀(ds:List D)(s:Int)(o o':OD),(∀d∈ds,∃j:Int,d=.int j)->∃s' o1 o2,uW (qH 4) (qJ (yc 5 (d2 vZ (d2 qR (d2 qR (d2 v5 (d2 vZ (dv 2) (ret (.int 2147483647))) (ret (.int 48271))) (d2 v5 (ret (.int 7919)) (dv 4))) (ret (.int 1))) (ret (.int 2147483647)))) (qJ (yc 5 (d2 vZ (d2 v5 (dv 5) (dv 5)) (ret (.int 2147483629)))) (yc 3 (d2 qR (d2 v5 (dv 3) (ret (.int 2147483647))) (d2 vZ (d2 v5 (dv 5) (d2 qR (dv 5) (ret (.int 13)))) (ret (.int 2147483647))))))) ds [A,B,some (.int x),some (.int s),o,o']=.ok (.nx [A,B,some (.int x),some (.int s'),o1,o2])
 | [],s,o,o',_=>⟨s,o,o',rfl⟩
 | d::ds,s,o,o',h=>by
  obtain⟨j,rfl⟩:=h d mS_
  let p:Int:=(x%2147483647*48271+7919*j+1)%2147483647
  let q:Int:=p*p%2147483629
  have f48:yB 48271=true:=by decide
  have f79:yB 7919=true:=by decide
  have f21:yB 2147483647=true:=by decide
  have fp:yB p=true:=qda (yec _ (by omega)) (by have:=ydr (x%2147483647*48271+7919*j+1) (show(0:Int)<2147483647 by omega);simp only[p];omega)
  have fq:yB q=true:=qda (yec _ (by omega)) (by have:=ydr (p*p) (show(0:Int)<2147483629 by omega);simp only[q];omega)
  obtain⟨s',o1,o2,e⟩:=qdb A B x ds (s*2147483647+q*(q+13)%2147483647) (some (.int j)) (some (.int q)) λy hy=>h y (mM _ hy)
  refine⟨s',o1,o2,?_⟩
  have st:(qJ (yc 5 (d2 vZ (d2 qR (d2 qR (d2 v5 (d2 vZ (dv 2) (ret (.int 2147483647))) (ret (.int 48271))) (d2 v5 (ret (.int 7919)) (dv 4))) (ret (.int 1))) (ret (.int 2147483647)))) (qJ (yc 5 (d2 vZ (d2 v5 (dv 5) (dv 5)) (ret (.int 2147483629)))) (yc 3 (d2 qR (d2 v5 (dv 3) (ret (.int 2147483647))) (d2 vZ (d2 v5 (dv 5) (d2 qR (dv 5) (ret (.int 13)))) (ret (.int 2147483647))))))) [A,B,some (.int x),some (.int s),some (.int j),o']=.ok (.nx [A,B,some (.int x),some (.int (s*2147483647+q*(q+13)%2147483647)),some (.int j),some (.int q)]):=by
   refine(qm (Z':=[A,B,some (.int x),some (.int s),some (.int j),some (.int p)]) ?_).trans ?_
   ·push_cast [uH (j:=2147483647) (by decide),qk6 f48,qgO f79,vc,p]
   refine(qm (Z':=[A,B,some (.int x),some (.int s),some (.int j),some (.int q)]) ?_).trans ?_
   ·push_cast [qgO fp,uH (j:=2147483629) (by decide),q]
   ·push_cast [qk6 f21,vc,qgO fq,uH (j:=2147483647) (by decide)]
  unfold uW
  simp only[qH,ych,ye9,st]
  exact e
theorem qld (ns:List Int) (i:Int) (h0:0<=i):∃n,jo [.fz ns,.int i]=.ok (.lst [.int n]):=by
 have f79:yB 7919=true:=by decide
 have s1:∃x,(sif (tst (d2 ltD (dv 1) (qp yZ %[dv 0|0]))) (yc 2 (d2 ixD (dv 0) (dv 1))) z9) [some (.fz ns),some (.int i),some (.int (7919*i+13)),none,none,none]=.ok (.nx [some (.fz ns),some (.int i),some (.int x),none,none,none]):=by
  by_cases h:i<ns.length
  ·obtain ⟨j,rfl⟩:=Int.eq_ofNat_of_zero_le h0
   have hj:j<ns.length:=by omega
   have e:ixD (.fz ns) (.int (j:Int))=some (.int ns[j]):=by
    show(atI ns (j:Int)).map D.int=_
    rw[qlc (gG hj)];rfl
   refine⟨ns[j],?_⟩
   push_cast [e,yZ,h]
  ·refine⟨7919*i+13,?_⟩
   push_cast [yZ,h]
 obtain⟨x,e1⟩:=s1
 have s0:(yc 2 (d2 qR (d2 v5 (ret (.int 7919)) (dv 1)) (ret (.int 13)))) [some (.fz ns),some (.int i),none,none,none,none]=.ok (.nx [some (.fz ns),some (.int i),some (.int (7919*i+13)),none,none,none]):=by
  push_cast [qgO f79,vc]
 by_cases hx:x%2=0
 ·refine⟨x/2,?_⟩
  unfold jo uL
  refine qgN rfl ⟨[some (.fz ns),some (.int i),some (.int x),none,none,none],?_⟩
  refine(qm s0).trans ((qm e1).trans (jR ?_))
  push_cast [uH (j:=2) (by decide),hx,qfs (j:=2) (by decide) (by decide),uY (show 1<=1000000 by omega)]
 ·obtain ⟨s',o1,o2,q⟩:=qdb (some (.fz ns)) (some (.int i)) x (qb8 0 16) 0 none none λd hd=>by
   unfold qb8 at hd
   obtain⟨k,hk,rfl⟩:=mP_.mp hd
   exact⟨_,rfl⟩
  refine⟨s',?_⟩
  unfold jo uL
  refine qgN rfl ⟨[some (.fz ns),some (.int i),some (.int x),some (.int s'),o1,o2],?_⟩
  refine(qm s0).trans ((qm e1).trans ?_)
  refine(qm (Z':=[some (.fz ns),some (.int i),some (.int x),none,none,none]) ?_).trans ?_
  ·push_cast [uH (j:=2) (by decide),hx]
  refine(qm (Z':=[some (.fz ns),some (.int i),some (.int x),some (.int 0),none,none]) ?_).trans ?_
  ·push_cast []
  refine(qm (Z':=[some (.fz ns),some (.int i),some (.int x),some (.int s'),o1,o2]) ?_).trans ?_
  ·rw[qbx,qaZ (j:=16) (Z1:=[some (.fz ns),some (.int i),some (.int x),some (.int 0),none,none]) rfl (by omega) (by omega)]
   exact q
  ·push_cast [uY (show 1<=1000000 by omega)]
theorem z7 {α β:Type} {f g:α->β} {l:List α} (h:l.map f=l.map g):∀x∈l,f x=g x:=λx hx=>by
 obtain⟨i,hi⟩:=List.mem_iff_getElem?.mp hx
 have:=congrArg (λl=>l[i]?) h
 simpa [hi] using this
abbrev Cd:=Nat×Nat×Nat
def dgS(n:Nat):Str:=⟨#[48+n]⟩
def g29:Str:="100000000000000000000000000000"
def gSt(g:Nat):Str:=if g<9 then dgS g else g29
def mS(m:Nat):Str:=if m=0 then "end" else dgS (m-1)
def mT(m:Nat):Str:=if m=0 then "" else dgS (m-1)
def gI9(g:Nat):Int:=if g<9 then(g:Nat)else 100000000000000000000000000000
def mO(m:Nat):Option Int:=if m=0 then none else some ((m-1:Nat):Int)
def kkC(c:Cd):Kd:=(((c.1+1:Nat):Int),gI9 c.2.1,mO c.2.2)
def KI:List Cd:=(yaw 9).flatMap λh=>(yaw 10).flatMap λg=>(yaw 5).map λm=>(h,g,m)
theorem qle {h g m:Nat} (h1:h<9) (h2:g<10) (h3:m<5):(h,g,m)∈KI :=
 List.mem_flatMap.mpr ⟨h,by simpa using h1,List.mem_flatMap.mpr ⟨g,by simpa using h2,mP_.mpr ⟨m,by simpa using h3,rfl⟩⟩⟩
def lnC(c:Cd):Str:="kind "++dgS (c.1+1)++" "++gSt c.2.1++" "++mS c.2.2
def wdC(c:Cd):D:=.lst [.str "kind",.str (dgS (c.1+1)),.str (gSt c.2.1),.str (mS c.2.2)]
def wtC(c:Cd):Str:=dgS (c.1+1)++"/"++gSt c.2.1++"*"++mT c.2.2
def KH (h : Nat) : List Cd := (List.range 10).flatMap fun g => (List.range 5).map fun m => (h, g, m)
theorem map_app {α β : Type} {f g : α → β} {k l : List α} (h : k.map f = k.map g) (h' : l.map f = l.map g) : (k ++ l).map f = (k ++ l).map g := by rw [List.map_append, List.map_append, h, h']
theorem a1h0 : (KH 0).map (fun c => zF [.str (lnC c)]) = (KH 0).map (fun c => .ok (wdC c)) := by kernel_rfl
theorem a1h1 : (KH 1).map (fun c => zF [.str (lnC c)]) = (KH 1).map (fun c => .ok (wdC c)) := by kernel_rfl
theorem a1h2 : (KH 2).map (fun c => zF [.str (lnC c)]) = (KH 2).map (fun c => .ok (wdC c)) := by kernel_rfl
theorem a1h3 : (KH 3).map (fun c => zF [.str (lnC c)]) = (KH 3).map (fun c => .ok (wdC c)) := by kernel_rfl
theorem a1h4 : (KH 4).map (fun c => zF [.str (lnC c)]) = (KH 4).map (fun c => .ok (wdC c)) := by kernel_rfl
theorem a1h5 : (KH 5).map (fun c => zF [.str (lnC c)]) = (KH 5).map (fun c => .ok (wdC c)) := by kernel_rfl
theorem a1h6 : (KH 6).map (fun c => zF [.str (lnC c)]) = (KH 6).map (fun c => .ok (wdC c)) := by kernel_rfl
theorem a1h7 : (KH 7).map (fun c => zF [.str (lnC c)]) = (KH 7).map (fun c => .ok (wdC c)) := by kernel_rfl
theorem a1h8 : (KH 8).map (fun c => zF [.str (lnC c)]) = (KH 8).map (fun c => .ok (wdC c)) := by kernel_rfl
theorem ki_cut : KI = KH 0 ++ (KH 1 ++ (KH 2 ++ (KH 3 ++ (KH 4 ++ (KH 5 ++ (KH 6 ++ (KH 7 ++ (KH 8 ++ [])))))))) := by kernel_rfl
theorem a1 : KI.map (fun c => zF [.str (lnC c)]) = KI.map (fun c => .ok (wdC c)) := by
  rw [ki_cut]
  exact map_app a1h0 (map_app a1h1 (map_app a1h2 (map_app a1h3 (map_app a1h4 (map_app a1h5 (map_app a1h6 (map_app a1h7 (map_app a1h8 rfl))))))))
theorem a2:KI.map (λc=>jv [wdC c])=KI.map (λc => .ok (kD (kkC c))):=by kernel_rfl
theorem a3:KI.map (λc=>yr [kD (kkC c)])=KI.map (λc => .ok (.str (wtC c))):=by kernel_rfl
abbrev qmr:M D:=(d2 qR (d2 qR (d2 qR (d2 qR (d2 qR (ret (.str "kind ")) (qp ja %[d2 ixD (dv 7) (ret (.int 0))|0])) (ret (.str " "))) (qp ja %[d2 ixD (dv 7) (ret (.int 1))|0])) (ret (.str " "))) (dif (tst (d2 isN (d2 ixD (dv 7) (ret (.int 2))) (ret .non))) (ret (.str "end")) (qp ja %[d2 ixD (dv 7) (ret (.int 2))|0])))
theorem a4(x0 x1 x2 x3 x4 x5 x6 x8 x9 x10:OD):KI.map (λc=>qmr [x0,x1,x2,x3,x4,x5,x6,some (kD (kkC c)),x8,x9,x10])=KI.map (λc => .ok (.str (lnC c),[x0,x1,x2,x3,x4,x5,x6,some (kD (kkC c)),x8,x9,x10])):=by kernel_rfl
abbrev qlf:M D:=(d2 qR (d2 qR (d2 qR (d2 qR (qp ja %[dv 2|0]) (ret (.str "/"))) (qp ja %[dv 3|0])) (ret (.str "*"))) (dif (tst (d2 isN (dv 4) (ret .non))) (ret (.str "")) (qp ja %[dv 4|0])))
theorem a5(x0 x1:OD):KI.map (λc=>qlf [x0,x1,some (.int (kkC c).1),some (.int (kkC c).2.1),some (mD (kkC c).2.2)])=KI.map (λc => .ok (.str (wtC c),[x0,x1,some (.int (kkC c).1),some (.int (kkC c).2.1),some (mD (kkC c).2.2)])):=by kernel_rfl
theorem a6:KI.all (λc=>decide ((wtC c).length<=50)&&decide (1<=(wtC c).length))=true:=by kernel_rfl
def rrI(q:Nat):Int:=if q<300 then(q:Nat)else 999999999999999999999999999999
def rsI (q:Nat):Str:=match ja [.int (rrI q)] with
 |some (.str s)=>s
 |_=>""
def rlI(q:Nat):Str:="room "++rsI q
theorem r1:(yaw 301).map (λq=>zF [.str (rlI q)])=(yaw 301).map (λq => .ok (.lst [.str "room",.str (rsI q)])):=by kernel_rfl
theorem r2:(yaw 301).map (λq=>qN [.str (rsI q)])=(yaw 301).map (λq => .ok (.int (rrI q))):=by kernel_rfl
theorem r3:(yaw 301).map (λq=>ju [.int (rrI q)])=(yaw 301).map (λq => .ok (.str (rsI q))):=by kernel_rfl
theorem r4:(yaw 301).map (λq=>ja [.int (rrI q)])=(yaw 301).map (λq=>some (.str (rsI q))):=by kernel_rfl
theorem r5:(yaw 301).map (λq=>qR (.str "room ") (.str (rsI q)))=(yaw 301).map (λq=>some (.str (rlI q))):=by kernel_rfl
def dlI(p:Nat):Str:="drop "++dgS p
theorem d1':(yaw 5).map (λp=>zF [.str (dlI p)])=(yaw 5).map (λp => .ok (.lst [.str "drop",.str (dgS p)])):=by kernel_rfl
theorem d2':(yaw 5).map (λp=>qN [.str (dgS p)])=(yaw 5).map (λp => .ok (.int (p:Nat))):=by kernel_rfl
theorem d3':(yaw 5).map (λp=>ja [.int (p:Nat)])=(yaw 5).map (λp=>some (.str (dgS p))):=by kernel_rfl
theorem d4':(yaw 5).map (λp=>qR (.str "drop ") (.str (dgS p)))=(yaw 5).map (λp=>some (.str (dlI p))):=by kernel_rfl
def fL (i:Nat):Str:=match ja [.int (i:Nat)] with
 |some (.str s)=>s
 |_=>""
theorem f1:(yaw 14).map (λi=>ju [.int (i:Nat)])=(yaw 14).map (λi => .ok (.str (fL i))):=by kernel_rfl
theorem f2:(yaw 14).map (λi=>ja [.int (i:Nat)])=(yaw 14).map (λi=>some (.str (fL i))):=by kernel_rfl
theorem wb1:zF [.str "back"]=.ok (.lst [.str "back"]):=by kernel_rfl
theorem wb2:zF [.str "store"]=.ok (.lst [.str "store"]):=by kernel_rfl
theorem wb3:zF [.str "bears"]=.ok (.lst [.str "bears"]):=by kernel_rfl
theorem qlg:∃Z7,(y7 1 [2] none (y0 %[ret (.int 9)|0]) (qH 0) (tst (qu ji %[dv 1,dv 0|0])) (dv 0)) ((yan 3 none).set 2 (some (.exc "NoNumber")))=.ok (.lst [.int 1],Z7):=by
 have h:(match (y7 1 [2] none (y0 %[ret (.int 9)|0]) (qH 0) (tst (qu ji %[dv 1,dv 0|0])) (dv 0)) ((yan 3 none).set 2 (some (.exc "NoNumber"))) with|.ok (.lst [.int 1],_)=>true|_=>false)=true:=by kernel_rfl
 split at h
 ·rename_i Z7 e;exact⟨Z7,e⟩
 ·cases h
theorem qms:∃Z7,(y7 1 [2] none (y0 %[ret (.int 9)|0]) (qH 0) (tst (qu ji %[dv 1,dv 0|0])) (dv 0)) ((yan 3 none).set 2 (some (.exc "TooMany")))=.ok (.lst [.int 3],Z7):=by
 have h:(match (y7 1 [2] none (y0 %[ret (.int 9)|0]) (qH 0) (tst (qu ji %[dv 1,dv 0|0])) (dv 0)) ((yan 3 none).set 2 (some (.exc "TooMany"))) with|.ok (.lst [.int 3],_)=>true|_=>false)=true:=by kernel_rfl
 split at h
 ·rename_i Z7 e;exact⟨Z7,e⟩
 ·cases h
theorem qac {n p:Nat} {body:MS} {bs ds bs':List D} {d:D} {Z:Env} (h:ds.length+1=p) (e:body (zB n (.tup bs::ds))=.ok (.rt d Z)) (g:getJ 0 Z=some bs'):qab n p body bs ds=.ok (d,bs'):=by
 unfold qab;rw[if_pos h,e];simp only[g]
theorem qlh {n p:Nat} {body:MS} {bs ds bs':List D} {Z:Env} (h:ds.length+1=p) (e:body (zB n (.tup bs::ds))=.ok (.nx Z)) (g:getJ 0 Z=some bs'):qab n p body bs ds=.ok (.non,bs'):=by
 unfold qab;rw[if_pos h,e];simp only[g]
theorem qdc {n p:Nat} {body:MS} {bs ds:List D} {x:Exn} {Z:Env} (h:ds.length+1=p) (e:body (zB n (.tup bs::ds))=.exc x Z):qab n p body bs ds=.exc x Z:=by
 unfold qab;rw[if_pos h,e]
theorem uh {RN:List Str} {F:List D->List D->R (D×List D)} {i:Nat} {g:M (List D)} {Z Z1:Env} {d1 d2 d:D} {ps bs bs' ds:List D} (h:getJ i Z=some (d1::d2::ps)) (hg:g Z=.ok (ds,Z1)) (h1:getJ i Z1=some bs) (hF:F bs ds=.ok (d,bs')):z6 RN F i g Z=.ok (d,Z1.set i (some (.tup bs'))):=by
 unfold z6;rw[h];simp only;rw[jQ hg];simp only[h1,hF]
theorem qdd {RN:List Str} {F:List D->List D->R (D×List D)} {i:Nat} {g:M (List D)} {Z Z1:Env} {d1 d2:D} {x:Exn} {ps:List D} (h:getJ i Z=some (d1::d2::ps)) (hg:g Z=.exc x Z1):z6 RN F i g Z=.exc x Z1:=by
 unfold z6 bnd;rw[h];simp only[hg]
theorem qa3 {F:List D->List D->R (D×List D)} {i:Nat} {g:M (List D)} {Z Z1:Env} {d1 d2 d:D} {ps bs bs' ds:List D} (h:getJ i Z=some (d1::d2::ps)) (hg:g Z=.ok (ds,Z1)) (h1:getJ i Z1=some bs) (hF:F bs ds=.ok (d,bs')):zt F i g Z=.ok (d,Z1.set i (some (.tup bs'))):=by
 unfold zt;rw[h];simp only;rw[jQ hg];simp only[h1,hF]
theorem qfv {RN:List Str} {F:List D->List D->R (D×List D)} {i:Nat} {g:M (List D)} {Z Z1 Z':Env} {d1 d2:D} {x:Exn} {ps bs bs' ds:List D} (h:getJ i Z=some (d1::d2::ps)) (hg:g Z=.ok (ds,Z1)) (h1:getJ i Z1=some bs) (hF:F bs ds=.exc x Z') (h2:getJ 0 Z'=some bs') (hr:RN.contains x.cls=true):z6 RN F i g Z=.exc x (Z1.set i (some (.tup bs'))):=by
 unfold z6;rw[h];simp only;rw[jQ hg];simp only[h1,hF,h2,hr,if_true]
theorem skip{t:M Bool}{p:MS}{Z:Env}(h:t Z=.ok (false,Z)):sif t p z9 Z=.ok (.nx Z):=(qmq h).trans rfl
theorem vg {F:List D->R D} {g:M (List D)} {Z Z1:Env} {ds:List D} {d:D} (hg:g Z=.ok (ds,Z1)) (hF:F ds=.ok d):zN RN F g Z=.ok (d,Z1):=by
 rw[qaQ,hg];simp only[hF]
theorem qfw {F:List D->R D} {g:M (List D)} {Z Z1 Z':Env} {ds:List D} {x:Exn} (hg:g Z=.ok (ds,Z1)) (hF:F ds=.exc x Z') (hr:RN.contains x.cls=true):zN RN F g Z=.exc x Z1:=by
 rw[qaQ,hg];simp only[hF,hr,if_true]
theorem qde:RN.contains "NoNumber"=true:=by decide
theorem qfx:RN.contains "TooMany"=true:=by decide
theorem vF {d1 d2 d t:D} {ps bs':List D} (h:qw (d1::d2::ps) [d]=.ok (t,bs')):ql (d1::d2::ps) [d]=.ok (t,bs'):=by
 unfold ql
 refine qac (Z:=[some (.tup bs'),some d,none]) rfl ?_ rfl
 unfold yt w8
 have e1:=uh (RN:=RN) (i:=0) (g:=qa (dv 1) (ret [])) (Z:=[some (.tup (d1::d2::ps)),some d,none]) (h:=rfl) (hg:=vd rfl) (h1:=rfl) (hF:=h)
 have e2:zu (z6 RN qw 0 %[dv 1|0]) (zB 3 (.tup (d1::d2::ps)::[d]))=.ok (.rt t [some (.tup bs'),some d,none]):=jt e1
 rw[e2]
theorem qfy {d1 d2 d t:D} {ps:List D} {x:Exn} {Z':Env} (h:qw (d1::d2::ps) [d]=.exc x Z') (hj:getJ 0 Z'=some (d1::d2::ps)) (hr:RN.contains x.cls=true) (hh:∃Z7,(y7 1 [2] none (y0 %[ret (.int 9)|0]) (qH 0) (tst (qu ji %[dv 1,dv 0|0])) (dv 0)) ((yan 3 none).set 2 (some (.exc x.cls)))=.ok (t,Z7)):ql (d1::d2::ps) [d]=.ok (t,d1::d2::ps):=by
 unfold ql
 refine qac (Z:=[some (.tup (d1::d2::ps)),some d,none]) rfl ?_ rfl
 unfold yt w8
 have e1:=qfv (RN:=RN) (i:=0) (g:=qa (dv 1) (ret [])) (Z:=[some (.tup (d1::d2::ps)),some d,none]) (h:=rfl) (hg:=vd rfl) (h1:=rfl) (hF:=h) (h2:=hj) (hr:=hr)
 obtain⟨Z7,e7⟩:=hh
 have e2:zu (z6 RN qw 0 %[dv 1|0]) (zB 3 (.tup (d1::d2::ps)::[d]))=.exc x [some (.tup (d1::d2::ps)),some d,none]:=by
  rw[wL]
  show(match z6 RN qw 0 %[dv 1|0] [some (.tup (d1::d2::ps)),some d,none] with|.ok (d,Z1)=>R.ok (Fl.rt d Z1)|.exc x Z' => .exc x Z'|.bad => .bad)=_
  rw[e1]
  rfl
 rw[e2]
 simp only[hr,if_true,e7]
def stK(cs:List Cd):D:=.tup (cs.map λc=>kD (kkC c))
def lK(cs:List Cd):D:=.lst (cs.map λc=>kD (kkC c))
abbrev vh:=List Cd×Nat
def pD(e:vh):D:=.tup [stK e.1,.int (rrI e.2)]
def qD(e:vh):D:=.tup [lK e.1,.int (rrI e.2)]
def okC(cs:List Cd):Prop:=cs.length<=12/\∀c∈cs,c∈KI
theorem qli(g:Nat):0<=gI9 g:=by unfold gI9;split<;>omega
theorem okk (c:Cd):okK (kkC c):=⟨by show(0:Int)<((c.1+1:Nat):Int);omega,qli _,λj e=>by
 have e':mO c.2.2=some j:=e
 unfold mO at e'
 split at e'
 ·cases e'
 ·cases e';omega⟩
theorem uB {cs:List Cd} (hl:cs.length<=12):uZ (stK cs)=true:=by
 have e:stK cs=.tup ((cs.map kkC).map kD):=by unfold stK;rw[mm_];rfl
 rw[e]
 refine qdT (λx hx=>?_) (by rw[lM_];exact hl)
 obtain⟨h,_,rfl⟩:=mP_.mp hx
 exact okk h
theorem qfz (cs:List Cd):imm (stK cs)=true:=by
 show immL (cs.map λh=>kD (kkC h))=true
 exact qc5 λa _=>qlb _
theorem qa4 (cs:List Cd):yZ [stK cs]=some (.int (cs.length:Nat)):=by
 show some (D.int ((cs.map λh=>kD (kkC h)).length:Nat))=_
 rw[lM_]
theorem qlj{i:Nat}(h:i<14):ju [.int (i:Nat)]=.ok (.str (fL i)):=z7 f1 i (by simpa using h)
theorem qlk {cs:List Cd} (hl:cs.length<12) (c:Cd):jN [stK cs,kD (kkC c)]=.ok (stK (cs++[c])):=by
 unfold jN
 refine qdI rfl ⟨[some (stK cs),some (kD (kkC c))],?_⟩
 unfold vf
 have hk:uk (kD (kkC c))=true:=wS (okk c)
 have h12:eqB (.int (cs.length:Nat)) (.int 12)=some (.bl false):=by
  rw[ud,decide_eq_false (by omega)]
 refine(qm (Z':=[some (stK cs),some (kD (kkC c))]) ?_).trans ?_
 ·push_cast [jw _ (uB (show cs.length<=12 by omega))]
 refine(qm (Z':=[some (stK cs),some (kD (kkC c))]) ?_).trans ?_
 ·push_cast [uA,hk]
 refine(qm (Z':=[some (stK cs),some (kD (kkC c))]) ?_).trans ?_
 ·push_cast [qa4,h12]
 refine jt (zH (a:=stK cs) (b:=.tup [kD (kkC c)]) rfl ?_ ?_)
 ·rfl
 ·show(if qF ((cs.map λh=>kD (kkC h)).length+1)then some (D.tup ((cs.map λh=>kD (kkC h))++[kD (kkC c)]))else none)=_
  rw[lM_,uY (show cs.length+1<=1000000 by omega),if_pos rfl]
  unfold stK
  rw[yaY]
  rfl
theorem qmt {cs:List Cd} (hl:cs.length=12) (c:Cd):∃Z,jN [stK cs,kD (kkC c)]=.exc ⟨"TooMany",.non⟩ Z:=by
 refine⟨[some (stK cs),some (kD (kkC c))],?_⟩
 unfold jN
 refine qho rfl ?_
 unfold vf
 have hk:uk (kD (kkC c))=true:=wS (okk c)
 have h12:eqB (.int (cs.length:Nat)) (.int 12)=some (.bl true):=by
  rw[ud,decide_eq_true (by omega)]
 refine(qm (Z':=[some (stK cs),some (kD (kkC c))]) ?_).trans ?_
 ·push_cast [jw _ (uB (show cs.length<=12 by omega))]
 refine(qm (Z':=[some (stK cs),some (kD (kkC c))]) ?_).trans ?_
 ·push_cast [uA,hk]
 refine qan ?_
 push_cast [qa4,h12,sm1]
theorem qfA {d1 d2:D} {ps:List D} (hp:ps.length<=100):zK (d1::d2::ps) []=.ok (.non,d1::d2::(ps++[.tup [d1,d2]])):=by
 unfold zK
 refine qlh (Z:=[some (.tup (d1::d2::(ps++[.tup [d1,d2]])))]) rfl ?_ rfl
 unfold je
 refine wT (d:=.non) ?_
 show(if qF (ps.length+1)=true then R.ok (D.non,([some (.tup (d1::d2::(ps++[.tup [d1,d2]])))]:Env))else .bad)=_
 rw[if_pos (uY (by omega))]
theorem qbT {d1 d2:D} {gs:List Cd} {ps:List D} (hp:ps.length<=100) (hg:gs.length<=12):qU (d1::d2::ps) [stK gs]=.ok (.str (fL gs.length),stK gs::d2::(ps++[.tup [d1,d2]])):=by
 unfold qU
 refine qac (Z:=[some (.tup (stK gs::d2::(ps++[.tup [d1,d2]]))),some (stK gs)]) rfl ?_ rfl
 unfold z0
 refine(qm (Z':=[some (.tup (d1::d2::(ps++[.tup [d1,d2]]))),some (stK gs)]) (wT (d:=.non) (uh (RN:=RN) (i:=0) (g:=ret []) (Z:=[some (.tup (d1::d2::ps)),some (stK gs)]) (Z1:=[some (.tup (d1::d2::ps)),some (stK gs)]) (d1:=d1) (d2:=d2) (ps:=ps) (h:=rfl) (hg:=rfl) (h1:=rfl) (hF:=qfA hp)))).trans ?_
 refine(qm (Z':=[some (.tup (stK gs::d2::(ps++[.tup [d1,d2]]))),some (stK gs)]) ?_).trans ?_
 ·show(if imm (stK gs)=true then R.ok (Fl.nx ([some (.tup (stK gs::d2::(ps++[.tup [d1,d2]]))),some (stK gs)]:Env))else .bad)=_
  rw[if_pos (qfz gs)]
 exact jt (ve (uy rfl (qa4 gs)) (qlj (by omega)))
theorem qfB {d1 d2:D} {n:Int} {ps:List D} (hp:ps.length<=100):jg (d1::d2::ps) [.int n]=.ok (.str "ok",d1 :: .int n::(ps++[.tup [d1,d2]])):=by
 unfold jg
 refine qac (Z:=[some (.tup (d1 :: .int n::(ps++[.tup [d1,d2]]))),some (.int n)]) rfl ?_ rfl
 unfold jf
 refine(qm (Z':=[some (.tup (d1::d2::(ps++[.tup [d1,d2]]))),some (.int n)]) (wT (d:=.non) (uh (RN:=RN) (i:=0) (g:=ret []) (Z:=[some (.tup (d1::d2::ps)),some (.int n)]) (Z1:=[some (.tup (d1::d2::ps)),some (.int n)]) (d1:=d1) (d2:=d2) (ps:=ps) (h:=rfl) (hg:=rfl) (h1:=rfl) (hF:=qfA hp)))).trans ?_
 rfl
theorem tw (k w0:Str):∀(rest:List D)(st:List D)(d:D),rest.length<=3->(tst (d2 eqB (d2 ixB (dv 2) (ret (.int 0))) (ret (.str k))):M Bool) [some (.tup st),some d,some (.lst (.str w0::rest))]=.ok (decide (w0=k),[some (.tup st),some d,some (.lst (.str w0::rest))])
 | [],_,_,_=>rfl
 | [_],_,_,_=>rfl
 | [_,_],_,_,_=>rfl
 | [_,_,_],_,_,_=>rfl
 |_::_::_::_::_,_,_,h=>by simp at h
theorem jV {d1 d2 d w:D} {ps:List D} {q:MS} (hw:zF [d]=.ok w):qJ (yc 2 (zN RN zF %[dv 1|0])) q (zB 3 (.tup (d1::d2::ps)::[d]))=q [some (.tup (d1::d2::ps)),some d,some w]:=by
 refine qm ?_
 exact qat (vg (Z:=[some (.tup (d1::d2::ps)),some d,none]) (vd rfl) hw)
theorem qgR {cs:List Cd} {d2:D} {ps:List D} (hl:cs.length<12) (hp:ps.length<=100) {c:Cd} (hc:c∈KI):qw (stK cs::d2::ps) [.str (lnC c)]=.ok (.str (fL (cs.length+1)),stK (cs++[c])::d2::(ps++[.tup [stK cs,d2]])):=by
 let Z:Env:=[some (.tup (stK cs::d2::ps)),some (.str (lnC c)),some (wdC c)]
 unfold qw
 refine qac (Z:=[some (.tup (stK (cs++[c])::d2::(ps++[.tup [stK cs,d2]]))),some (.str (lnC c)),some (wdC c)]) rfl ?_ rfl
 unfold zG
 refine(jV (z7 a1 c hc)).trans (jR ?_)
 have ek:qu jv %[dv 2|0] Z=.ok (kD (kkC c),Z):=ve rfl (z7 a2 c hc)
 have ep:zN RN jN %[qar 0 0,qu jv %[dv 2|0]|0] Z=.ok (stK (cs++[c]),Z):=vg (qdS (show qar 0 0 Z=.ok (stK cs,Z)from rfl) ek) (qlk hl c)
 have et:=qbT (d1:=stK cs) (d2:=d2) (gs:=cs++[c]) hp (by rw[lA_,yaE];omega)
 rw[lA_,yaE]at et
 exact(qbL (tw "kind" "kind" _ _ _ (by simp))).trans (jt (uh (h:=rfl) (hg:=vd ep) (h1:=rfl) (hF:=et)))
theorem qfC {cs:List Cd} {d2:D} {ps:List D} (hl:cs.length=12) {c:Cd} (hc:c∈KI):qw (stK cs::d2::ps) [.str (lnC c)]=.exc ⟨"TooMany",.non⟩ [some (.tup (stK cs::d2::ps)),some (.str (lnC c)),some (wdC c)]:=by
 let Z:Env:=[some (.tup (stK cs::d2::ps)),some (.str (lnC c)),some (wdC c)]
 unfold qw
 refine qdc rfl ?_
 unfold zG
 refine(jV (z7 a1 c hc)).trans (qan ?_)
 have ek:qu jv %[dv 2|0] Z=.ok (kD (kkC c),Z):=ve rfl (z7 a2 c hc)
 obtain⟨Zx,ex⟩:=qmt hl c
 have ep:zN RN jN %[qar 0 0,qu jv %[dv 2|0]|0] Z=.exc ⟨"TooMany",.non⟩ Z:=qfw (qdS (show qar 0 0 Z=.ok (stK cs,Z)from rfl) ek) ex qfx
 have eg:qa (zN RN jN %[qar 0 0,qu jv %[dv 2|0]|0]) (ret []) Z=.exc ⟨"TooMany",.non⟩ Z:=by rw[zC,ep]
 have es:zu (z6 RN qU 0 %[zN RN jN %[qar 0 0,qu jv %[dv 2|0]|0]|0]) Z=.exc ⟨"TooMany",.non⟩ Z:=by
  rw[wL,qdd (d1:=stK cs) (d2:=d2) (ps:=ps) (h:=rfl) (hg:=eg)]
 exact(qbL (tw "kind" "kind" _ _ _ (by simp))).trans es
theorem slE {f:M D} {p q:M (Option Int)} {Z:Env} {X Y:D} {l u:Option Int} (ef:f Z=.ok (X,Z)) (ep:p Z=.ok (l,Z)) (eq:q Z=.ok (u,Z)) (es:slB X l u=some Y):w9 f p q Z=.ok (Y,Z):=by
 rw[qkN,ef];simp only[ep,eq,es]
def qd2(cs:List Cd)(p:Nat):List Cd:=cs.take p++cs.drop (p+1)
theorem qa5 {cs:List Cd} {p:Nat} (h:p<cs.length):(qd2 cs p).length=cs.length-1:=by
 unfold qd2
 rw[lA_,ybq,yb2,yc7 (by omega)]
 omega
theorem qdf {cs:List Cd} (p:Nat):uK [.int (p:Nat),stK cs]=.ok (.bl (decide (p<cs.length))):=by
 unfold uK
 refine qgN rfl ⟨[some (.int (p:Nat)),some (stK cs)],?_⟩
 unfold vD
 have hc:ue (.int (p:Nat))=true:=by show decide ((0:Int)<=((p:Nat):Int))=true;exact decide_eq_true (by omega)
 have hlt:ltD (.int (p:Nat)) (.int (cs.length:Nat))=some (.bl (decide (p<cs.length))):=by
  show some (D.bl (decide (((p:Nat):Int)<((cs.length:Nat):Int))))=_
  congr 2
  by_cases h:p<cs.length
  ·rw[decide_eq_true h,decide_eq_true (by omega)]
  ·rw[decide_eq_false h,decide_eq_false (by omega)]
 push_cast [j9,hc,qa4,hlt]
theorem qdV {cs:List Cd} {p:Nat} (hl:cs.length<=12) (h:p<cs.length):jc [stK cs,.int (p:Nat)]=.ok (stK (qd2 cs p)):=by
 let Z:Env:=[some (stK cs),some (.int (p:Nat))]
 unfold jc
 refine qdI rfl ⟨Z,?_⟩
 unfold uz
 refine(qm (Z':=Z) ?_).trans ?_
 ·push_cast [Z,jw _ (uB hl)]
 refine(qm (Z':=Z) ?_).trans ?_
 ·push_cast [Z,qdf,decide_eq_true h]
 have e1:w9 (dv 0) (ret none) (yI (dv 1)) Z=.ok (stK (cs.take p),Z):=slE (X:=stK cs) (l:=none) (u:=some (p:Int)) rfl rfl rfl (by
  show some (D.tup (qcD (cs.map λc=>kD (kkC c)) none (some (p:Int))))=_
  rw[qc6 _ p (by rw[lM_];omega),<-List.map_take]
  rfl)
 have e2:w9 (dv 0) (yI (d2 qR (dv 1) (ret (.int 1)))) (ret none) Z=.ok (stK (cs.drop (p+1)),Z):=slE (X:=stK cs) (l:=some ((p+1:Nat):Int)) (u:=none) rfl rfl rfl (by
  show some (D.tup (qcD (cs.map λc=>kD (kkC c)) (some ((p+1:Nat):Int)) none))=_
  rw[qc7 _ (p+1) (by rw[lM_];omega),<-List.map_drop]
  rfl)
 refine jt (zH e1 e2 ?_)
 show(if qF (((cs.take p).map λh=>kD (kkC h)).length+((cs.drop (p+1)).map λh=>kD (kkC h)).length)then some (D.tup (((cs.take p).map λh=>kD (kkC h))++((cs.drop (p+1)).map λh=>kD (kkC h))))else none)=_
 have hz:((cs.take p).map λh=>kD (kkC h)).length+((cs.drop (p+1)).map λh=>kD (kkC h)).length<=1000000:=by
  rw[lM_,lM_,ybq,yb2]
  omega
 rw[uY hz,if_pos rfl,<-yaY]
 rfl
theorem qfD {cs:List Cd} {p:Nat} (hl:cs.length<=12) (h:¬p<cs.length):jc [stK cs,.int (p:Nat)]=.exc ⟨"NoNumber",.non⟩ [some (stK cs),some (.int (p:Nat))]:=by
 let Z:Env:=[some (stK cs),some (.int (p:Nat))]
 unfold jc
 refine qho rfl ?_
 unfold uz
 refine(qm (Z':=Z) ?_).trans (qan ?_)
 ·push_cast [Z,jw _ (uB hl)]
 ·push_cast [Z,qdf,decide_eq_false h,sm1]
section
variable{cs:List Cd}{d2:D}{ps:List D}
theorem qgS (hl:cs.length<=12) (hp:ps.length<=100) {p:Nat} (h5:p<5) (h:p<cs.length):qw (stK cs::d2::ps) [.str (dlI p)]=.ok (.str (fL (cs.length-1)),stK (qd2 cs p)::d2::(ps++[.tup [stK cs,d2]])):=by
 have hm:p∈yaw 5:=by simpa using h5
 let w:D:=.lst [.str "drop",.str (dgS p)]
 let Z:Env:=[some (.tup (stK cs::d2::ps)),some (.str (dlI p)),some w]
 unfold qw
 refine qac (Z:=[some (.tup (stK (qd2 cs p)::d2::(ps++[.tup [stK cs,d2]]))),some (.str (dlI p)),some w]) rfl ?_ rfl
 unfold zG
 refine(jV (z7 d1' p hm)).trans ((qm (skip (tw "kind" "drop" _ _ _ (by simp)))).trans (jR ?_))
 have en:qu qN %[Sk.d2 ixB (dv 2) (ret (.int 1))|0] Z=.ok (.int (p:Nat),Z):=ve (a:=.str (dgS p)) rfl (z7 d2' p hm)
 have ep:zN RN jc %[qar 0 0,qu qN %[Sk.d2 ixB (dv 2) (ret (.int 1))|0]|0] Z=.ok (stK (qd2 cs p),Z):=vg (qdS (show qar 0 0 Z=.ok (stK cs,Z)from rfl) en) (qdV hl h)
 have et:=qbT (d1:=stK cs) (d2:=d2) (gs:=qd2 cs p) hp (by rw[qa5 h];omega)
 rw[qa5 h]at et
 exact(qbL (tw "drop" "drop" _ _ _ (by simp))).trans (jt (uh (h:=rfl) (hg:=vd ep) (h1:=rfl) (hF:=et)))
theorem qfE (hl:cs.length<=12) {p:Nat} (h5:p<5) (h:¬p<cs.length):qw (stK cs::d2::ps) [.str (dlI p)]=.exc ⟨"NoNumber",.non⟩ [some (.tup (stK cs::d2::ps)),some (.str (dlI p)),some (.lst [.str "drop",.str (dgS p)])]:=by
 have hm:p∈yaw 5:=by simpa using h5
 let Z:Env:=[some (.tup (stK cs::d2::ps)),some (.str (dlI p)),some (.lst [.str "drop",.str (dgS p)])]
 unfold qw
 refine qdc rfl ?_
 unfold zG
 refine(jV (z7 d1' p hm)).trans ((qm (skip (tw "kind" "drop" _ _ _ (by simp)))).trans (qan ?_))
 have en:qu qN %[Sk.d2 ixB (dv 2) (ret (.int 1))|0] Z=.ok (.int (p:Nat),Z):=ve (a:=.str (dgS p)) rfl (z7 d2' p hm)
 have ep:zN RN jc %[qar 0 0,qu qN %[Sk.d2 ixB (dv 2) (ret (.int 1))|0]|0] Z=.exc ⟨"NoNumber",.non⟩ Z:=qfw (qdS (show qar 0 0 Z=.ok (stK cs,Z)from rfl) en) (qfD hl h) qde
 have eg:qa (zN RN jc %[qar 0 0,qu qN %[Sk.d2 ixB (dv 2) (ret (.int 1))|0]|0]) (ret []) Z=.exc ⟨"NoNumber",.non⟩ Z:=by rw[zC,ep]
 have es:zu (z6 RN qU 0 %[zN RN jc %[qar 0 0,qu qN %[Sk.d2 ixB (dv 2) (ret (.int 1))|0]|0]|0]) Z=.exc ⟨"NoNumber",.non⟩ Z:=by
  rw[wL,qdd (d1:=stK cs) (d2:=d2) (ps:=ps) (h:=rfl) (hg:=eg)]
 exact(qbL (tw "drop" "drop" _ _ _ (by simp))).trans es
theorem qgT {d1:D} (hp:ps.length<=100) {q:Nat} (hq:q<301):qw (d1::d2::ps) [.str (rlI q)]=.ok (.str "ok",d1 :: .int (rrI q)::(ps++[.tup [d1,d2]])):=by
 have hm:q∈yaw 301:=by simpa using hq
 let w:D:=.lst [.str "room",.str (rsI q)]
 let Z:Env:=[some (.tup (d1::d2::ps)),some (.str (rlI q)),some w]
 unfold qw
 refine qac (Z:=[some (.tup (d1 :: .int (rrI q)::(ps++[.tup [d1,d2]]))),some (.str (rlI q)),some w]) rfl ?_ rfl
 unfold zG
 refine(jV (z7 r1 q hm)).trans ((qm (skip (tw "kind" "room" _ _ _ (by simp)))).trans ((qm (skip (tw "drop" "room" _ _ _ (by simp)))).trans (jR ?_)))
 have en:qu qN %[Sk.d2 ixB (dv 2) (ret (.int 1))|0] Z=.ok (.int (rrI q),Z):=ve (a:=.str (rsI q)) rfl (z7 r2 q hm)
 exact(qbL (tw "room" "room" _ _ _ (by simp))).trans (jt (uh (h:=rfl) (hg:=vd en) (h1:=rfl) (hF:=qfB hp)))
theorem qfF {d1:D} {Z:Env} (h:getJ 0 Z=some (d1::d2::ps)) (ho:qbb (.lst ps)=true) (he:ycn (yX (.lst ps)) (yX (.lst []))=ps.isEmpty):qi5 0 Z=.ok (ps.isEmpty,Z):=by
 unfold qi5;rw[h];simp only[ho,if_true,he]
end
theorem qll (x:Kd):ya6 (yX (kD x))=true/\ybN (yX (kD x))=1:=by
 obtain⟨a,b,m⟩:=x
 cases m<;>exact⟨rfl,rfl⟩
theorem qhz:∀l:List Kd,yba (toPDs (l.map kD))=true/\ycb (toPDs (l.map kD))<=1
 | []=>⟨rfl,ybs _⟩
 |x::l=>by
  obtain⟨h1,h2⟩:=qll x
  obtain⟨h3,h4⟩:=qhz l
  refine⟨by simp only[mC_,toPDs,yba,h1,h3,ybd],?_⟩
  simp only[mC_,toPDs,ycb,h2]
  exact Nat.max_le.mpr ⟨yak _,h4⟩
theorem qhA (cs:List Cd):ya6 (yX (stK cs))=true/\ybN (yX (stK cs))<=2:=by
 have e:stK cs=.tup ((cs.map kkC).map kD):=by unfold stK;rw[mm_];rfl
 obtain⟨h1,h2⟩:=qhz (cs.map kkC)
 rw[e]
 refine⟨by simp only[yX,ya6,h1],?_⟩
 simp only[yX,ybN]
 omega
theorem qmu (e:vh):ya6 (yX (pD e))=true/\ybN (yX (pD e))<=3:=by
 obtain⟨h1,h2⟩:=qhA e.1
 refine⟨by simp only[pD,yX,toPDs,ya6,yba,h1,ybd,yb5],?_⟩
 simp only[pD,yX,toPDs,ybN,ycb]
 have:max (ybN (yX (stK e.1))) (max 0 0)<=2:=Nat.max_le.mpr ⟨h2,by decide⟩
 omega
theorem qhB:∀l:List vh,yba (toPDs (l.map pD))=true/\ycb (toPDs (l.map pD))<=3
 | []=>⟨rfl,ybs _⟩
 |x::l=>by
  obtain⟨h1,h2⟩:=qmu x
  obtain⟨h3,h4⟩:=qhB l
  refine⟨by simp only[mC_,toPDs,yba,h1,h3,ybd],?_⟩
  simp only[mC_,toPDs,ycb]
  exact Nat.max_le.mpr ⟨h2,h4⟩
theorem qfG (l:List vh):qbb (.lst (l.map pD))=true:=by
 obtain⟨h1,h2⟩:=qhB l
 have h3:ybN (yX (.lst (l.map pD)))<=50:=by
  simp only[yX,ybN]
  omega
 unfold qbb
 rw[show ya6 (yX (.lst (l.map pD)))=true by simp only[yX,ya6,h1],decide_eq_true h3]
 rfl
theorem qfH (l:List vh):ycn (yX (.lst (l.map pD))) (yX (.lst []))=(l.map pD).isEmpty:=by
 cases l<;>rfl
theorem qlm {d1 d2:D}:zL [d1,d2] []=.exc ⟨"NoNumber",.non⟩ [some (.tup [d1,d2]),none]:=by
 unfold zL
 refine qdc rfl ?_
 unfold jb
 refine qan ?_
 have ej:qi5 0 [some (.tup [d1,d2]),none]=.ok (true,[some (.tup [d1,d2]),none]):=qfF (ps:=[]) rfl (qfG []) (qfH [])
 refine(qbL ej).trans ?_
 rfl
theorem qjh {d1 d2:D} (l:List vh) (e:vh):zL (d1::d2::(l++[e]).map pD) []=.ok (.str "ok",stK e.1 :: .int (rrI e.2)::l.map pD):=by
 have hm:(l++[e]).map pD=l.map pD++[pD e]:=by rw[yaY];rfl
 have ej:qi5 0 [some (.tup (d1::d2::(l++[e]).map pD)),none]=.ok (((l++[e]).map pD).isEmpty,[some (.tup (d1::d2::(l++[e]).map pD)),none]):=qfF (ps:=(l++[e]).map pD) rfl (qfG _) (qfH _)
 have hne:((l++[e]).map pD).isEmpty=false:=by rw[hm];cases l.map pD<;>rfl
 rw[hne]at ej
 unfold zL
 refine qac (Z:=[some (.tup (stK e.1 :: .int (rrI e.2)::l.map pD)),some (pD e)]) rfl ?_ rfl
 unfold jb
 refine(qm (skip ej)).trans ?_
 refine(qm (Z':=[some (.tup (d1::d2::l.map pD)),some (pD e)]) ?_).trans ?_
 ·show qkV 0 1 [some (.tup (d1::d2::(l++[e]).map pD)),none]=_
  unfold qkV
  have hg:getJ 0 [some (.tup (d1::d2::(l++[e]).map pD)),none]=some (d1::d2::(l++[e]).map pD):=rfl
  rw[hg]
  have h1:((l++[e]).map pD)[((l++[e]).map pD).length-1]? = some (pD e):=by
   rw[hm,lA_,yaE,yfa,List.getElem?_append_right (yak _),Nat.sub_self]
   rfl
  have h2:((l++[e]).map pD).dropLast=l.map pD:=by rw[hm];simp
  simp only[h1,h2]
  rfl
 refine(qm (Z':=[some (.tup (stK e.1::d2::l.map pD)),some (pD e)]) ?_).trans ?_
 ·show(if imm (stK e.1)=true then R.ok (Fl.nx ([some (.tup (stK e.1::d2::l.map pD)),some (pD e)]:Env))else .bad)=_
  rw[if_pos (qfz _)]
 rfl
theorem qfI {d1 d2:D}:qw [d1,d2] [.str "back"]=.exc ⟨"NoNumber",.non⟩ [some (.tup [d1,d2]),some (.str "back"),some (.lst [.str "back"])]:=by
 unfold qw
 refine qdc rfl ?_
 unfold zG
 refine(jV wb1).trans ((qm (skip (tw "kind" "back" _ _ _ (by simp)))).trans ((qm (skip (tw "drop" "back" _ _ _ (by simp)))).trans ((qm (skip (tw "room" "back" _ _ _ (by simp)))).trans (qan ?_))))
 refine(qbL (tw "back" "back" _ _ _ (by simp))).trans ?_
 rw[wL,qfv (d1:=d1) (d2:=d2) (ps:=[]) (bs':=[d1,d2]) (h:=rfl) (hg:=rfl) (h1:=rfl) (hF:=qlm) (h2:=rfl) (hr:=qde)]
 rfl
theorem qgU {d1 d2:D} (l:List vh) (e:vh):qw (d1::d2::(l++[e]).map pD) [.str "back"]=.ok (.str "ok",stK e.1 :: .int (rrI e.2)::l.map pD):=by
 unfold qw
 refine qac (Z:=[some (.tup (stK e.1 :: .int (rrI e.2)::l.map pD)),some (.str "back"),some (.lst [.str "back"])]) rfl ?_ rfl
 unfold zG
 refine(jV wb1).trans ((qm (skip (tw "kind" "back" _ _ _ (by simp)))).trans ((qm (skip (tw "drop" "back" _ _ _ (by simp)))).trans ((qm (skip (tw "room" "back" _ _ _ (by simp)))).trans (jR ?_))))
 exact(qbL (tw "back" "back" _ _ _ (by simp))).trans (jt (uh (RN:=RN) (i:=0) (g:=ret []) (Z:=[some (.tup (d1::d2::(l++[e]).map pD)),some (.str "back"),some (.lst [.str "back"])]) (Z1:=[some (.tup (d1::d2::(l++[e]).map pD)),some (.str "back"),some (.lst [.str "back"])]) (d1:=d1) (d2:=d2) (ps:=(l++[e]).map pD) (h:=rfl) (hg:=rfl) (h1:=rfl) (hF:=qjh l e)))
theorem qhC {d1 d2 t:D} {ps:List D} {w:Str} (hw:zF [.str w]=.ok (.lst [.str w])) (n1:decide (w="kind")=false) (n2:decide (w="drop")=false) (n3:decide (w="room")=false) (n4:decide (w="back")=false)
  (ha:jU [.lst [.str w],d1,d2]=.ok t):qw (d1::d2::ps) [.str w]=.ok (t,d1::d2::ps):=by
 unfold qw
 refine qac (Z:=[some (.tup (d1::d2::ps)),some (.str w),some (.lst [.str w])]) rfl ?_ rfl
 unfold zG
 have t1:=tw "kind" w [] (d1::d2::ps) (.str w) (by simp)
 have t2:=tw "drop" w [] (d1::d2::ps) (.str w) (by simp)
 have t3:=tw "room" w [] (d1::d2::ps) (.str w) (by simp)
 have t4:=tw "back" w [] (d1::d2::ps) (.str w) (by simp)
 rw[n1]at t1
 rw[n2]at t2
 rw[n3]at t3
 rw[n4]at t4
 refine(jV hw).trans ((qm (skip t1)).trans ((qm (skip t2)).trans ((qm (skip t3)).trans ((qm (skip t4)).trans ?_))))
 exact jt (Z1:=[some (.tup (d1::d2::ps)),some (.str w),some (.lst [.str w])]) (vg (qk9 rfl rfl rfl) ha)
theorem qdg {z:Str} {n:Nat}:∀(ws:List Str)(a:Nat),(∀w∈ws,w.length+z.length<=n)->ws.foldl (λs w=>s+w.length+z.length) a<=a+ws.length*n
 | [],a,_=>by simp
 |w::ws,a,h=>by
  have h1:=h w mS_
  have h2:=qdg ws (a+w.length+z.length) λx hx=>h x (mM _ hx)
  rw[List.foldl_cons,lC_,ye4]
  omega
theorem qfJ {c:Cd} (h:c∈KI):(wtC c).length<=50/\1<=(wtC c).length:=by
 have:=List.all_eq_true.mp a6 c h
 rw[yau,decide_eq_true_eq,decide_eq_true_eq]at this
 exact this
theorem qgV {cs:List Cd} (h:okC cs):ycz (" ":Str) (cs.map wtC)=true:=by
 unfold ycz
 have e:(" ":Str).length=1:=by kernel_rfl
 have h2:=qdg (z:=(" ":Str)) (n:=51) (cs.map wtC) 0 (λw hw=>by
  obtain⟨x,hm,rfl⟩:=mP_.mp hw
  have:=(qfJ (h.2 x hm)).1
  omega)
 rw[lM_]at h2
 have:=h.1
 rw[<-Array.foldl_toList]
 show(!yeR ((cs.map wtC).foldl (λs w=>s+w.length+(" ":Str).length) 0))=true
 rw[ycs]
 show decide (_>yao)=false
 rw[decide_eq_false_iff_not,yb7]
 omega
theorem qau:∀ws:List Str,vx (ws.map D.str)=some ws
 | []=>rfl
 |w::ws=>by
  show(vx (ws.map D.str)).map (w::·)=_
  rw[qau ws];rfl
def txC(cs:List Cd):Str:=Txt.join (" ":Str) (cs.map wtC)
theorem qhD {cs:List Cd} (h:okC cs):qbC (.str (" ":Str)) [.lst (cs.map λc=>D.str (wtC c))]=some (.str (txC cs)):=by
 have e:(cs.map λc=>D.str (wtC c))=(cs.map wtC).map D.str:=by rw[mm_];rfl
 rw[e]
 show(match vx ((cs.map wtC).map D.str) with|some ws=>(if ycz (" ":Str) ws then some (D.str (Txt.join (" ":Str) ws))else none)|none=>none)=_
 rw[qau]
 show(if ycz (" ":Str) (cs.map wtC)then some (D.str (Txt.join (" ":Str) (cs.map wtC)))else none)=_
 rw[if_pos (qgV h)]
 rfl
theorem qln {cs:List Cd} (h:okC cs):qc9 [stK cs]=.ok (.str (txC cs)):=by
 let Z:Env:=[some (stK cs)]
 unfold qc9
 refine qdI rfl ⟨Z,?_⟩
 unfold qc8
 have hl:=h.1
 have q:=qk8 (e:=qu yr %[dv 0|0]) (xs:=qfV (dv 0)) (fr:=[]) (Z:=Z) (r:=[]) (k:=λc:Cd=>kD (kkC c)) cs (λc=>D.str (wtC c)) rfl rfl (by omega) (λc hm=>ve rfl (z7 a3 c (h.2 c hm)))
 refine(qm (Z':=Z) ?_).trans ?_
 ·push_cast [Z,jw _ (uB hl)]
 refine jt (Z1:=Z) ?_
 show bnd %[y7 1 [] none (qfV (dv 0)) (qH 0) (ret true) (qu yr %[dv 0|0])|0] (λys=>lift (qbC (.str (" ":Str)) ys)) Z=_
 rw[jQ (vd q),qhD h]
 rfl
def ttC(cs:List Cd):Str:=if cs.isEmpty then "none" else txC cs
theorem qmv (cs:List Cd):eqB (stK cs) (.tup [])=some (.bl cs.isEmpty):=by
 obtain⟨h1,h2⟩:=qhA cs
 have e1:qbb (stK cs)=true:=by
  unfold qbb
  rw[h1,decide_eq_true (by omega)]
  rfl
 have e2:eqB (stK cs) (.tup [])=eqA (stK cs) (.tup []):=rfl
 rw[e2]
 unfold eqA
 rw[e1,show qbb (.tup [])=true from rfl]
 cases cs<;>rfl
theorem qji {cs:List Cd} (h:okC cs):yF [stK cs]=.ok (.str (ttC cs)):=by
 unfold yF yE
 refine qdI rfl ⟨[some (stK cs)],?_⟩
 cases cs with
 |nil=>rfl
 |cons c cs=>
  push_cast [qmv,qln h,List.isEmpty_cons,uY (show 0<=1000000 by omega),ttC]
theorem qfK {cs:List Cd} {d2:D} {ps:List D} (h:okC cs):qw (stK cs::d2::ps) [.str "store"]=.ok (.str (ttC cs),stK cs::d2::ps):=by
 refine qhC wb2 (by kernel_rfl) (by kernel_rfl) (by kernel_rfl) (by kernel_rfl) ?_
 unfold jU
 refine qdI rfl ⟨[some (.lst [.str "store"]),some (stK cs),some d2],?_⟩
 unfold jS
 refine jR ?_
 have et:(tst (Sk.d2 eqB (Sk.d2 ixB (dv 0) (ret (.int 0))) (ret (.str "store"))):M Bool) [some (.lst [.str "store"]),some (stK cs),some d2]=.ok (true,[some (.lst [.str "store"]),some (stK cs),some d2]):=rfl
 exact(qbL et).trans (jt (vg (vd rfl) (qji h)))
theorem qfL {d1:D} {q:Nat} {ps:List D} (hq:q<301):qw (d1 :: .int (rrI q)::ps) [.str "bears"]=.ok (.str (rsI q),d1 :: .int (rrI q)::ps):=by
 refine qhC wb3 (by kernel_rfl) (by kernel_rfl) (by kernel_rfl) (by kernel_rfl) ?_
 let Z:Env:=[some (.lst [.str "bears"]),some d1,some (.int (rrI q))]
 unfold jU
 refine qdI rfl ⟨Z,?_⟩
 unfold jS
 have e1:(tst (d2 eqB (d2 ixB (dv 0) (ret (.int 0))) (ret (.str "store"))):M Bool) Z=.ok (false,Z):=rfl
 have e2:(tst (d2 eqB (d2 ixB (dv 0) (ret (.int 0))) (ret (.str "bears"))):M Bool) Z=.ok (true,Z):=rfl
 refine(qm (skip e1)).trans (jR ((qbL e2).trans ?_))
 exact jt (ve rfl (z7 r3 q (by simpa using hq)))
theorem qlo:(" ":Str)=⟨#[32]⟩:=by kernel_rfl
theorem qlp {cs:List Cd} (h:okC cs):(txC cs).length<=1000/\(cs≠[]->(txC cs).length≠0):=by
 unfold txC
 rw[qgP]
 constructor
 ·have h2:=StrLaws.join_length_le (" ":Str) (cs.map wtC)
  have e:(" ":Str).length=1:=by kernel_rfl
  have hs2:∀ys:List Cd,(∀x∈ys,x∈KI)->((ys.map wtC).map (·.length)).sum<=ys.length*50:=λys=>by
   induction ys with
   |nil=>intro _;simp
   |cons y ys ih=>
    intro hy
    have a:=(qfJ (hy y mS_)).1
    have b:=ih λx hm=>hy x (mM _ hm)
    rw[mC_,mC_,List.sum_cons,lC_,ye4]
    omega
  have:=hs2 cs h.2
  have:=h.1
  rw[lM_,e]at h2
  omega
 ·intro hne
  cases cs with
  |nil=>exact absurd rfl hne
  | cons c r=>
   have w0:=(qfJ (h.2 c mS_)).2
   cases r with
   |nil=>show(wtC c).length≠0;omega
   | cons c2 r=>
    intro hz
    have:(yeG (" ":Str) (wtC c::wtC c2::r.map wtC)).cps.toList=[]:=by
     apply List.eq_nil_of_length_eq_zero
     rw[yaW]
     exact hz
    rw[qlo,qdU]at this
    have h3:(wtC c).cps.toList=[]:=(List.append_eq_nil_iff.mp this).1
    have h4:(wtC c).length=0:=by
     have:=congrArg yfn h3
     rw[yaW]at this
     exact this
    omega
theorem qbU {X:OD}:∀(cs:List Cd)(ws:List Str)(o2 o3 o4:OD),(∀c∈cs,c∈KI)->ws.length+cs.length<=100->∃p2 p3 p4,uW (qb5 3 (zM (qH 2) (zM (qH 3) (zM (qH 4) qb4)))) (jY (y8 1 (d2 qR (d2 qR (d2 qR (d2 qR (qp ja %[dv 2|0]) (ret (.str "/"))) (qp ja %[dv 3|0])) (ret (.str "*"))) (dif (tst (d2 isN (dv 4) (ret .non))) (ret (.str "")) (qp ja %[dv 4|0]))))) (cs.map λc=>kD (kkC c)) [X,some (.lst (ws.map D.str)),o2,o3,o4]=.ok (.nx [X,some (.lst ((ws++cs.map wtC).map D.str)),p2,p3,p4])
 | [],ws,o2,o3,o4,_,_=>⟨o2,o3,o4,by rw[yc3,yc3,yaS];rfl⟩
 | c::cs,ws,o2,o3,o4,h,hl=>by
  rw[lC_]at hl
  obtain⟨p2,p3,p4,q⟩:=qbU (X:=X) cs (ws++[wtC c]) (some (.int (kkC c).1)) (some (.int (kkC c).2.1)) (some (mD (kkC c).2.2)) (λx hx=>h x (mM _ hx)) (by rw[lA_,yaE];omega)
  refine⟨p2,p3,p4,?_⟩
  have ep:=z7 (a5 X (some (.lst (ws.map D.str)))) c (h c mS_)
  have ea:=qft (i:=1) (Z:=[X,some (.lst (ws.map D.str)),some (.int (kkC c).1),some (.int (kkC c).2.1),some (mD (kkC c).2.2)]) (ds:=ws.map D.str) rfl ep rfl (by rw[lM_];omega)
  have eb:(jY (y8 1 (d2 qR (d2 qR (d2 qR (d2 qR (qp ja %[dv 2|0]) (ret (.str "/"))) (qp ja %[dv 3|0])) (ret (.str "*"))) (dif (tst (d2 isN (dv 4) (ret .non))) (ret (.str "")) (qp ja %[dv 4|0]))))) [X,some (.lst (ws.map D.str)),some (.int (kkC c).1),some (.int (kkC c).2.1),some (mD (kkC c).2.2)]=.ok (.nx [X,some (.lst ((ws++[wtC c]).map D.str)),some (.int (kkC c).1),some (.int (kkC c).2.1),some (mD (kkC c).2.2)]):=by
   rw[yaY]
   exact ea
  rw[mC_,mC_,show ws++wtC c::cs.map wtC=(ws++[wtC c])++cs.map wtC by rw[aA_];rfl]
  exact(qbM (show qb5 3 (zM (qH 2) (zM (qH 3) (zM (qH 4) qb4))) (kD (kkC c)) [X,some (.lst (ws.map D.str)),o2,o3,o4]=some [X,some (.lst (ws.map D.str)),some (.int (kkC c).1),some (.int (kkC c).2.1),some (mD (kkC c).2.2)]from rfl) eb).trans q
theorem qlq {cs:List Cd} (h:okC cs):zp [lK cs]=.ok (.str (ttC cs)):=by
 have h12:=h.1
 obtain⟨p2,p3,p4,q⟩:=qbU (X:=some (lK cs)) cs [] none none none h.2 (by simp;omega)
 rw[ybB]at q
 unfold zp
 let Z:Env:=[some (lK cs),some (.lst ((cs.map wtC).map D.str)),p2,p3,p4]
 refine qgN rfl ⟨Z,?_⟩
 unfold u3
 refine(qm (Z':=[some (lK cs),some (.lst []),none,none,none]) rfl).trans ?_
 refine(qm (Z':=Z) ?_).trans ?_
 ·rw[qbx,show qfV (dv 0) [some (lK cs),some (.lst []),none,none,none]=.ok (cs.map (λc=>kD (kkC c)),[some (lK cs),some (.lst []),none,none,none])from rfl]
  exact q
 have ej:qbD qbC (ret (.str " ")) %[dv 1|0] Z=.ok (.str (txC cs),Z):=by
  show lift (qbC (.str (" ":Str)) [.lst ((cs.map wtC).map D.str)]) Z=_
  have:=qhD h
  rw[show(cs.map λc=>D.str (wtC c))=(cs.map wtC).map D.str by rw[mm_];rfl]at this
  rw[this]
  rfl
 have er:=qmb ej rfl
 obtain⟨l1,l2⟩:=qlp h
 refine jt (Z1:=Z) ?_
 unfold qmo
 rw[jQ er]
 simp only[uY (show(txC cs).length<=1000000 by omega),if_true]
 cases cs with
 |nil=>
  have e0:((txC []).length==0)=true:=by kernel_rfl
  rw[if_pos e0]
  rfl
 | cons c r=>
  have e0:¬(((txC (c::r)).length==0)=true):=by
   have:=l2 (by simp)
   simpa using this
  rw[if_neg e0]
  rfl
def okE(e:vh):Prop:=okC e.1/\e.2<301
theorem qhE (n:Int) {m:Nat} (h:0<m):∃i:Nat,n%(m:Int)=(i:Nat)/\i<m:=by
 have h1:=yec n (show(m:Int)≠0 by omega)
 have h2:=ydr n (show(0:Int)<m by omega)
 exact⟨(n%m).toNat,by omega,by omega⟩
theorem uC {i:Nat} {Z:Env} {n:Int} {m:Int} {j:Nat} (h:zZ i Z=some [.int n]) (h0:0<m) (h1:m<1606938044258990275541962092341162602522202993782792835301376) (e:n%m=(j:Nat)):qo qe i %[ret (.int m)|0] Z=.ok (.int (j:Nat),Z.set i (some (.lst [.int (n/m)]))):=by
 have:=io1 (i:=i) (f:=ret (.int m)) (Z:=Z) (a:=.int m) (ds:=[.int n]) h rfl (qfu (n:=n) (m:=m) h0 h1)
 rw[e]at this
 exact this
theorem qlr (cs:List Cd):yZ [lK cs]=some (.int (cs.length:Nat)):=by
 show some (D.int ((cs.map λh=>kD (kkC h)).length:Nat))=_
 rw[lM_]
abbrev yx(n:Int)(P s r k h g o l p u:OD):Env:=[some (.lst [.int n]),P,s,r,k,h,g,o,l,p,u]
theorem qfM {n:Int} {P:OD} {cs:List Cd} {q k:Nat} (hk:k<5) (hcs:okC cs):∃c n',c∈KI/\(sif (tst (d2 ltD (dv 4) (ret (.int 5)))) (qJ (qhh 5 6 %[d2 qR (ret (.int 1)) (qo qe 0 %[ret (.int 9)|0]),d2 ixD (yb %[qo qe 0 %[ret (.int 9)|0],d2 qbv (ret (.int 10)) (ret (.int 29))|0]) (d2 vZ (dv 4) (ret (.int 2)))|0]) (qJ (yc 7 (j6 %[dv 5,dv 6,d2 ixD (yb %[ret .non,qo qe 0 %[ret (.int 4)|0]|0]) (qo qe 0 %[ret (.int 2)|0])|0])) (qJ (yc 8 (d2 qR (d2 qR (d2 qR (d2 qR (d2 qR (ret (.str "kind ")) (qp ja %[d2 ixD (dv 7) (ret (.int 0))|0])) (ret (.str " "))) (qp ja %[d2 ixD (dv 7) (ret (.int 1))|0])) (ret (.str " "))) (dif (tst (d2 isN (d2 ixD (dv 7) (ret (.int 2))) (ret .non))) (ret (.str "end")) (qp ja %[d2 ixD (dv 7) (ret (.int 2))|0])))) (qJ (sif (tst (d2 eqB (qp yZ %[dv 2|0]) (ret (.int 12)))) (zu (j6 %[dv 8,yb %[ret (.int 3)|0],ret .non|0])) z9) (zu (j6 %[dv 8,qp ja %[d2 qR (qp yZ %[dv 2|0]) (ret (.int 1))|0],j6 %[d2 qR (dv 2) (yb %[dv 7|0]),dv 3|0]|0])))))) z9) (yx n P (some (lK cs)) (some (.int (rrI q))) (some (.int (k:Nat))) none none none none none none) =
  .ok (.rt (if cs.length=12 then .tup [.str (lnC c),.lst [.int 3],.non]else .tup [.str (lnC c),.str (fL (cs.length+1)),.tup [lK (cs++[c]),.int (rrI q)]]) (yx n' P (some (lK cs)) (some (.int (rrI q))) (some (.int (k:Nat))) (some (.int (kkC c).1)) (some (.int (kkC c).2.1)) (some (kD (kkC c))) (some (.str (lnC c))) none none)):=by
 obtain⟨h,eh,hh⟩:=qhE n (m:=9) (by decide)
 obtain⟨g,eg,hg⟩:=qhE (n/9) (m:=9) (by decide)
 obtain⟨m,em,hm⟩:=qhE (n/9/9) (m:=4) (by decide)
 obtain⟨b,eb,hb⟩:=qhE (n/9/9/4) (m:=2) (by decide)
 let S:OD:=some (lK cs)
 let Rm:OD:=some (.int (rrI q))
 let K:OD:=some (.int (k:Nat))
 let g':Nat:=if k%2=0 then g else 9
 let m':Nat:=if b=0 then 0 else m+1
 let c:Cd:=(h,g',m')
 have hc:c∈KI:=qle hh (by simp only[g'];split<;>omega) (by simp only[m'];split<;>omega)
 have k1:(kkC c).1=1+(h:Nat):=by show((h+1:Nat):Int)=_;omega
 have k2:(kkC c).2.1=if k%2=0 then((g:Nat):Int)else 100000000000000000000000000000:=by
  show gI9 g'=_
  unfold gI9
  simp only[g']
  by_cases hk2:k%2=0
  ·simp[hk2,hg]
  ·simp[hk2]
 have k3:(kkC c).2.2=if b=0 then none else some ((m:Nat):Int):=by
  show mO m'=_
  unfold mO
  simp only[m']
  by_cases hb0:b=0
  ·rw[if_pos hb0,if_pos rfl,if_pos hb0]
  ·rw[if_neg hb0,if_neg (by omega),if_neg hb0]
   rfl
 refine⟨c,n/9/9/4/2,hc,?_⟩
 have et:(tst (d2 ltD (dv 4) (ret (.int 5))):M Bool) (yx n P S Rm K none none none none none none)=.ok (true,yx n P S Rm K none none none none none none):=by
  refine yo (zH rfl rfl ?_)
  rw[qaY,decide_eq_true (by omega)]
 refine(qbL et).trans ?_
 refine(qm (Z':=yx (n/9/9) P S Rm K (some (.int (kkC c).1)) (some (.int (kkC c).2.1)) none none none none) ?_).trans ?_
 ·have e1:d2 qR (ret (.int 1)) (qo qe 0 %[ret (.int 9)|0]) (yx n P S Rm K none none none none none none)=.ok (.int (kkC c).1,yx (n/9) P S Rm K none none none none none none):=by
   show bnd _ (λx=>bnd _ λy=>lift (qR x y)) _=_
   rw[jQ (show ret (D.int 1) (yx n P S Rm K none none none none none none)=.ok (.int 1,_)from rfl),jQ (uC (m:=9) rfl (by decide) (by decide) eh),vc,k1]
   rfl
  have e2:d2 ixD (yb %[qo qe 0 %[ret (.int 9)|0],d2 qbv (ret (.int 10)) (ret (.int 29))|0]) (d2 vZ (dv 4) (ret (.int 2))) (yx (n/9) P S Rm K none none none none none none)=.ok (.int (kkC c).2.1,yx (n/9/9) P S Rm K none none none none none none):=by
   have e2a:yb %[qo qe 0 %[ret (.int 9)|0],d2 qbv (ret (.int 10)) (ret (.int 29))|0] (yx (n/9) P S Rm K none none none none none none)=.ok (.lst [.int (g:Nat),.int 100000000000000000000000000000],yx (n/9/9) P S Rm K none none none none none none):=by
    have ep:d2 qbv (ret (.int 10)) (ret (.int 29)) (yx (n/9/9) P S Rm K none none none none none none)=.ok (.int 100000000000000000000000000000,yx (n/9/9) P S Rm K none none none none none none):=by kernel_rfl
    rw[qcL,zC,uC (m:=9) rfl (by decide) (by decide) eg]
    show(match (match qa (d2 qbv (ret (.int 10)) (ret (.int 29))) (ret []) (yx (n/9/9) P S Rm K none none none none none none) with|.ok (ds,Z2)=>R.ok (D.int (g:Nat)::ds,Z2)|.exc x Z' => .exc x Z'|.bad => .bad) with|.ok (ds,Z1)=>(if qF ds.length then R.ok (D.lst ds,Z1)else .bad)|.exc x Z' => .exc x Z'|.bad => .bad)=_
    rw[zC,ep]
    rfl
   have e2b:d2 vZ (dv 4) (ret (.int 2)) (yx (n/9/9) P S Rm K none none none none none none)=.ok (.int ((k%2:Nat):Int),yx (n/9/9) P S Rm K none none none none none none):=zH rfl rfl (by rw[uH (j:=2) (by decide)];congr 2)
   show bnd _ (λx=>bnd _ λy=>lift (ixD x y)) _=_
   rw[jQ e2a,jQ e2b,k2]
   rcases Nat.mod_two_eq_zero_or_one k with hk2|hk2
   ·rw[hk2,if_pos rfl];rfl
   ·rw[hk2,if_neg (by decide)];rfl
  exact qnu e1 e2
 refine(qm (Z':=yx (n/9/9/4/2) P S Rm K (some (.int (kkC c).1)) (some (.int (kkC c).2.1)) (some (kD (kkC c))) none none none) ?_).trans ?_
 ·let A:Env:=yx (n/9/9) P S Rm K (some (.int (kkC c).1)) (some (.int (kkC c).2.1)) none none none none
  let B:Env:=yx (n/9/9/4) P S Rm K (some (.int (kkC c).1)) (some (.int (kkC c).2.1)) none none none none
  let C:Env:=yx (n/9/9/4/2) P S Rm K (some (.int (kkC c).1)) (some (.int (kkC c).2.1)) none none none none
  have e3a:yb %[ret .non,qo qe 0 %[ret (.int 4)|0]|0] A=.ok (.lst [.non,.int (m:Nat)],B):=by
   have:qa (qo qe 0 %[ret (.int 4)|0]) (ret []) A=.ok ([.int (m:Nat)],B):=by
    rw[zC,uC (m:=4) rfl (by decide) (by decide) em]
    rfl
   rw[qcL,zC,show ret D.non A=.ok (.non,A)from rfl]
   simp only[this]
   rfl
  have e3b:qo qe 0 %[ret (.int 2)|0] B=.ok (.int (b:Nat),C):=uC (m:=2) rfl (by decide) (by decide) eb
  have e3c:d2 ixD (yb %[ret .non,qo qe 0 %[ret (.int 4)|0]|0]) (qo qe 0 %[ret (.int 2)|0]) A=.ok (mD (kkC c).2.2,C):=by
   show bnd _ (λx=>bnd _ λy=>lift (ixD x y)) _=_
   rw[jQ e3a,jQ e3b,k3]
   match b,hb with
   |0,_=>rfl
   |1,_=>rfl
  refine qat (i:=7) (Z1:=C) ?_
  have e3d:qa (d2 ixD (yb %[ret .non,qo qe 0 %[ret (.int 4)|0]|0]) (qo qe 0 %[ret (.int 2)|0])) (ret []) A=.ok ([mD (kkC c).2.2],C):=by
   rw[zC,e3c]
   rfl
  rw[qcK,zC,show dv 5 A=.ok (.int (kkC c).1,A)from rfl]
  simp only[zC,show dv 6 A=.ok (.int (kkC c).2.1,A)from rfl,e3c,qgt]
  rfl
 let E:Env:=yx (n/9/9/4/2) P S Rm K (some (.int (kkC c).1)) (some (.int (kkC c).2.1)) (some (kD (kkC c))) (some (.str (lnC c))) none none
 refine(qm (Z':=E) (qat (z7 (a4 _ _ _ _ _ _ _ _ _ _) c hc))).trans ?_
 by_cases h12:cs.length=12
 ·rw[if_pos h12]
  have et2:(tst (d2 eqB (qp yZ %[dv 2|0]) (ret (.int 12))):M Bool) E=.ok (true,E):=yo (zH (uy rfl (qlr cs)) rfl (by rw[ud,decide_eq_true (by omega)]))
  exact jR ((qbL et2).trans rfl)
 ·rw [if_neg h12]
  have et2:(tst (d2 eqB (qp yZ %[dv 2|0]) (ret (.int 12))):M Bool) E=.ok (false,E):=yo (zH (uy rfl (qlr cs)) rfl (by rw[ud,decide_eq_false (by omega)]))
  refine(qm (skip et2)).trans ?_
  have hl12:=hcs.1
  have es:qp ja %[d2 qR (qp yZ %[dv 2|0]) (ret (.int 1))|0] E=.ok (.str (fL (cs.length+1)),E):=uy (zH (uy rfl (qlr cs)) rfl (vc _ _)) (z7 f2 (cs.length+1) (by simp;omega))
  have el:d2 qR (dv 2) (yb %[dv 7|0]) E=.ok (lK (cs++[c]),E):=zH (a:=lK cs) (b:=.lst [kD (kkC c)]) rfl rfl (by
   rw[show lK cs=.lst (cs.map λx=>kD (kkC x))from rfl,qc4 (by rw[lM_];simp;omega)]
   unfold lK
   rw[yaY]
   rfl)
  exact jt (qjr rfl es (qmp el rfl))
theorem qfN {n:Int} {P s r h g o l p u:OD} {k:Nat} (m:Int) (hk:¬((k:Nat):Int)<m):(tst (d2 ltD (dv 4) (ret (.int m))):M Bool) (yx n P s r (some (.int (k:Nat))) h g o l p u)=.ok (false,yx n P s r (some (.int (k:Nat))) h g o l p u):=by
 refine yo (zH rfl rfl ?_)
 rw[qaY,decide_eq_false hk]
theorem qmS{n:Int}{P s r h g o l p u:OD}{k:Nat}(m:Int):(tst (d2 eqB (dv 4) (ret (.int m))):M Bool) (yx n P s r (some (.int (k:Nat))) h g o l p u)=.ok (decide (((k:Nat):Int)=m),yx n P s r (some (.int (k:Nat))) h g o l p u):=yo (zH rfl rfl (ud _ _))
theorem qfO {n:Int} {P:OD} {cs:List Cd} {q:Nat} (hcs:okC cs):∃p n',p<5/\(sif (tst (d2 eqB (dv 4) (ret (.int 5)))) (qJ (yc 9 (qo qe 0 %[ret (.int 5)|0])) (qJ (sif (tst (d2 geD (dv 9) (qp yZ %[dv 2|0]))) (zu (j6 %[d2 qR (ret (.str "drop ")) (qp ja %[dv 9|0]),yb %[ret (.int 1)|0],ret .non|0])) z9) (zu (j6 %[d2 qR (ret (.str "drop ")) (qp ja %[dv 9|0]),qp ja %[d2 qcA (qp yZ %[dv 2|0]) (ret (.int 1))|0],j6 %[d2 qR (w9 (dv 2) (ret none) (yI (dv 9))) (w9 (dv 2) (yI (d2 qR (dv 9) (ret (.int 1)))) (ret none)),dv 3|0]|0])))) z9) (yx n P (some (lK cs)) (some (.int (rrI q))) (some (.int (5:Nat))) none none none none none none) =
  .ok (.rt (if p<cs.length then .tup [.str (dlI p),.str (fL (cs.length-1)),.tup [lK (qd2 cs p),.int (rrI q)]]else .tup [.str (dlI p),.lst [.int 1],.non]) (yx n' P (some (lK cs)) (some (.int (rrI q))) (some (.int (5:Nat))) none none none none (some (.int (p:Nat))) none)):=by
 obtain⟨p,ep,hp⟩:=qhE n (m:=5) (by decide)
 have hm:p∈yaw 5:=by simpa using hp
 let S:OD:=some (lK cs)
 let Rm:OD:=some (.int (rrI q))
 let K:OD:=some (.int (5:Nat))
 let E:Env:=yx (n/5) P S Rm K none none none none (some (.int (p:Nat))) none
 refine⟨p,n/5,hp,?_⟩
 refine(qbL (qmS (k:=5) 5)).trans ?_
 refine(qm (Z':=E) (qat (i:=9) (uC (m:=5) rfl (by decide) (by decide) ep))).trans ?_
 have el:d2 qR (ret (.str "drop ")) (qp ja %[dv 9|0]) E=.ok (.str (dlI p),E):=zH rfl (uy rfl (z7 d3' p hm)) (z7 d4' p hm)
 have hl12:=hcs.1
 have eg:(tst (d2 geD (dv 9) (qp yZ %[dv 2|0])):M Bool) E=.ok (decide (((cs.length:Nat):Int)<=((p:Nat):Int)),E):=yo (zH rfl (uy rfl (qlr cs)) rfl)
 by_cases h:p<cs.length
 ·rw [if_pos h]
  rw[decide_eq_false (by omega)]at eg
  refine(qm (skip eg)).trans ?_
  have es:qp ja %[d2 qcA (qp yZ %[dv 2|0]) (ret (.int 1))|0] E=.ok (.str (fL (cs.length-1)),E):=uy (a:=.int ((cs.length-1:Nat):Int)) (zH (uy rfl (qlr cs)) rfl (by
   show some (D.int (((cs.length:Nat):Int)-1))=_
   congr 2
   omega)) (z7 f2 (cs.length-1) (by simp;omega))
  have e1:w9 (dv 2) (ret none) (yI (dv 9)) E=.ok (lK (cs.take p),E):=slE (X:=lK cs) (l:=none) (u:=some (p:Int)) rfl rfl rfl (by
   show some (D.lst (qcD (cs.map λc=>kD (kkC c)) none (some (p:Int))))=_
   rw[qc6 _ p (by rw[lM_];omega),<-List.map_take]
   rfl)
  have e2:w9 (dv 2) (yI (d2 qR (dv 9) (ret (.int 1)))) (ret none) E=.ok (lK (cs.drop (p+1)),E):=slE (X:=lK cs) (l:=some ((p+1:Nat):Int)) (u:=none) rfl rfl rfl (by
   show some (D.lst (qcD (cs.map λc=>kD (kkC c)) (some ((p+1:Nat):Int)) none))=_
   rw[qc7 _ (p+1) (by rw[lM_];omega),<-List.map_drop]
   rfl)
  have ec:d2 qR (w9 (dv 2) (ret none) (yI (dv 9))) (w9 (dv 2) (yI (d2 qR (dv 9) (ret (.int 1)))) (ret none)) E=.ok (lK (qd2 cs p),E):=zH e1 e2 (by
   unfold lK qd2
   rw[qc4 (by rw[lM_,lM_,ybq,yb2];omega),yaY])
  exact jt (qjr el es (qmp ec rfl))
 ·rw[if_neg h]
  rw[decide_eq_true (by omega)]at eg
  exact jR ((qbL eg).trans (jt (qjr el rfl rfl)))
theorem qfP {n:Int} {P:OD} {cs:List Cd} {q k:Nat} (hk:k<8):∃q' n',q'<301/\(sif (tst (d2 ltD (dv 4) (ret (.int 8)))) (qJ (yc 10 (d2 ixD (yb %[qo qe 0 %[ret (.int 300)|0],d2 qcA (d2 qbv (ret (.int 10)) (ret (.int 30))) (ret (.int 1))|0]) (qo qe 0 %[ret (.int 2)|0]))) (zu (j6 %[d2 qR (ret (.str "room ")) (qp ja %[dv 10|0]),ret (.str "ok"),j6 %[dv 2,dv 10|0]|0]))) z9) (yx n P (some (lK cs)) (some (.int (rrI q))) (some (.int (k:Nat))) none none none none none none) =
  .ok (.rt (.tup [.str (rlI q'),.str "ok",.tup [lK cs,.int (rrI q')]]) (yx n' P (some (lK cs)) (some (.int (rrI q))) (some (.int (k:Nat))) none none none none none (some (.int (rrI q'))))):=by
 obtain⟨v,ev,hv⟩:=qhE n (m:=300) (by decide)
 obtain⟨b,eb,hb⟩:=qhE (n/300) (m:=2) (by decide)
 let S:OD:=some (lK cs)
 let Rm:OD:=some (.int (rrI q))
 let K:OD:=some (.int (k:Nat))
 let q':Nat:=if b=0 then v else 300
 have hq:q'<301:=by simp only[q'];split<;>omega
 have hm:q'∈yaw 301:=by simpa using hq
 let A:Env:=yx n P S Rm K none none none none none none
 let B:Env:=yx (n/300) P S Rm K none none none none none none
 let C:Env:=yx (n/300/2) P S Rm K none none none none none none
 let E:Env:=yx (n/300/2) P S Rm K none none none none none (some (.int (rrI q')))
 refine⟨q',n/300/2,hq,?_⟩
 have et:(tst (d2 ltD (dv 4) (ret (.int 8))):M Bool) A=.ok (true,A):=by
  refine yo (zH rfl rfl ?_)
  rw[qaY,decide_eq_true (by omega)]
 refine(qbL et).trans ?_
 have e1:yb %[qo qe 0 %[ret (.int 300)|0],d2 qcA (d2 qbv (ret (.int 10)) (ret (.int 30))) (ret (.int 1))|0] A=.ok (.lst [.int (v:Nat),.int 999999999999999999999999999999],B):=by
  have ep:d2 qcA (d2 qbv (ret (.int 10)) (ret (.int 30))) (ret (.int 1)) B=.ok (.int 999999999999999999999999999999,B):=by kernel_rfl
  rw[qcL,zC,uC (m:=300) rfl (by decide) (by decide) ev]
  show(match (match qa (d2 qcA (d2 qbv (ret (.int 10)) (ret (.int 30))) (ret (.int 1))) (ret []) B with|.ok (ds,Z2)=>R.ok (D.int (v:Nat)::ds,Z2)|.exc x Z' => .exc x Z'|.bad => .bad) with|.ok (ds,Z1)=>(if qF ds.length then R.ok (D.lst ds,Z1)else .bad)|.exc x Z' => .exc x Z'|.bad => .bad)=_
  rw[zC,ep]
  rfl
 have e2:qo qe 0 %[ret (.int 2)|0] B=.ok (.int (b:Nat),C):=uC (m:=2) rfl (by decide) (by decide) eb
 have e3:d2 ixD (yb %[qo qe 0 %[ret (.int 300)|0],d2 qcA (d2 qbv (ret (.int 10)) (ret (.int 30))) (ret (.int 1))|0]) (qo qe 0 %[ret (.int 2)|0]) A=.ok (.int (rrI q'),C):=by
  show bnd _ (λx=>bnd _ λy=>lift (ixD x y)) _=_
  rw[jQ e1,jQ e2]
  have hr:rrI q'=if b=0 then((v:Nat):Int)else 999999999999999999999999999999:=by
   unfold rrI
   simp only[q']
   by_cases hb0:b=0
   ·simp[hb0,hv]
   ·simp[hb0]
  rw[hr]
  match b,hb with
  |0,_=>rfl
  |1,_=>rfl
 refine(qm (Z':=E) (qat (i:=10) e3)).trans ?_
 have el:d2 qR (ret (.str "room ")) (qp ja %[dv 10|0]) E=.ok (.str (rlI q'),E):=zH rfl (uy rfl (z7 r4 q' hm)) (z7 r5 q' hm)
 exact jt (qjr el rfl (qmp rfl rfl))
abbrev stL(l:List vh)(e:vh):List D:=stK e.1 :: .int (rrI e.2)::l.map pD
theorem qfQ(l:List vh)(e:vh):(l.map pD++[.tup [stK e.1,.int (rrI e.2)]])=(l++[e]).map pD:=by rw[yaY];rfl
def qnw (l:List vh) (e:vh) (line due later:D):Prop :=
 (∃e',okE e'/\later=qD e'/\ql (stL l e) [line]=.ok (due,stL (l++[e]) e')) \/
 (later=.non/\eqB due (.str "ok")=some (.bl false)/\ql (stL l e) [line]=.ok (due,stL l e)) \/
 (later=.non/\due=.str "ok"/\∃l' e',l=l'++[e']/\ql (stL l e) [line]=.ok (due,stL l' e'))
theorem qmw:neB (.lst [.int 3]) (.lst [.int 3])=some (.bl false):=by kernel_rfl
theorem qls:neB (.lst [.int 1]) (.lst [.int 1])=some (.bl false):=by kernel_rfl
theorem qmx:eqB (.lst [.int 3]) (.str "ok")=some (.bl false):=by kernel_rfl
theorem qlt:eqB (.lst [.int 1]) (.str "ok")=some (.bl false):=by kernel_rfl
theorem qjj (n:Int) (l:List vh) (e:vh) (he:okE e) (hl:l.length<=50):∃line due later n',za [.int n] ((l++[e]).map qD)=.ok (.tup [line,due,later],[.int n'],(l++[e]).map qD)/\neB due due=some (.bl false)/\qnw l e line due later:=by
 obtain⟨cs,q⟩:=e
 obtain⟨hcs,hq⟩:=he
 have hcs:okC cs:=hcs
 have hq:q<301:=hq
 have hpl:(l.map pD).length<=100:=by rw[lM_];omega
 obtain⟨k,ek,hk⟩:=qhE n (m:=9) (by decide)
 let P:OD:=some (.lst ((l++[(cs,q)]).map qD))
 let S:OD:=some (lK cs)
 let Rm:OD:=some (.int (rrI q))
 have hm:(l++[(cs,q)]).map qD=l.map qD++[qD (cs,q)]:=by rw[yaY];rfl
 have s0:(qd1 (wH 1 (d1 qal (ret (.int 1)))) (qb5 2 (zM (qH 2) (zM (qH 3) qb4)))) (yx n P none none none none none none none none none)=.ok (.nx (yx n P S Rm none none none none none none none)):=by
  have ei:wH 1 (d1 qal (ret (.int 1))) (yx n P none none none none none none none none none)=.ok (qD (cs,q),yx n P none none none none none none none none none):=by
   rw[qeZ]
   show(match atI ((l++[(cs,q)]).map qD) (-1) with|some d=>R.ok (d,yx n P none none none none none none none none none)|none => .bad)=_
   rw[hm,qcw]
  rw[qeX,ei]
  rfl
 have s1:(yc 4 (qo qe 0 %[ret (.int 9)|0])) (yx n P S Rm none none none none none none none)=.ok (.nx (yx (n/9) P S Rm (some (.int (k:Nat))) none none none none none none)):=qat (i:=4) (uC (m:=9) rfl (by decide) (by decide) ek)
 have fin:∀{line due later:D}{n':Int}{s r kk h g o ln p u:OD},(qJ (sif (tst (d2 ltD (dv 4) (ret (.int 5)))) (qJ (qhh 5 6 %[d2 qR (ret (.int 1)) (qo qe 0 %[ret (.int 9)|0]),d2 ixD (yb %[qo qe 0 %[ret (.int 9)|0],d2 qbv (ret (.int 10)) (ret (.int 29))|0]) (d2 vZ (dv 4) (ret (.int 2)))|0]) (qJ (yc 7 (j6 %[dv 5,dv 6,d2 ixD (yb %[ret .non,qo qe 0 %[ret (.int 4)|0]|0]) (qo qe 0 %[ret (.int 2)|0])|0])) (qJ (yc 8 (d2 qR (d2 qR (d2 qR (d2 qR (d2 qR (ret (.str "kind ")) (qp ja %[d2 ixD (dv 7) (ret (.int 0))|0])) (ret (.str " "))) (qp ja %[d2 ixD (dv 7) (ret (.int 1))|0])) (ret (.str " "))) (dif (tst (d2 isN (d2 ixD (dv 7) (ret (.int 2))) (ret .non))) (ret (.str "end")) (qp ja %[d2 ixD (dv 7) (ret (.int 2))|0])))) (qJ (sif (tst (d2 eqB (qp yZ %[dv 2|0]) (ret (.int 12)))) (zu (j6 %[dv 8,yb %[ret (.int 3)|0],ret .non|0])) z9) (zu (j6 %[dv 8,qp ja %[d2 qR (qp yZ %[dv 2|0]) (ret (.int 1))|0],j6 %[d2 qR (dv 2) (yb %[dv 7|0]),dv 3|0]|0])))))) z9) (qJ (sif (tst (d2 eqB (dv 4) (ret (.int 5)))) (qJ (yc 9 (qo qe 0 %[ret (.int 5)|0])) (qJ (sif (tst (d2 geD (dv 9) (qp yZ %[dv 2|0]))) (zu (j6 %[d2 qR (ret (.str "drop ")) (qp ja %[dv 9|0]),yb %[ret (.int 1)|0],ret .non|0])) z9) (zu (j6 %[d2 qR (ret (.str "drop ")) (qp ja %[dv 9|0]),qp ja %[d2 qcA (qp yZ %[dv 2|0]) (ret (.int 1))|0],j6 %[d2 qR (w9 (dv 2) (ret none) (yI (dv 9))) (w9 (dv 2) (yI (d2 qR (dv 9) (ret (.int 1)))) (ret none)),dv 3|0]|0])))) z9) (qJ (sif (tst (d2 ltD (dv 4) (ret (.int 8)))) (qJ (yc 10 (d2 ixD (yb %[qo qe 0 %[ret (.int 300)|0],d2 qcA (d2 qbv (ret (.int 10)) (ret (.int 30))) (ret (.int 1))|0]) (qo qe 0 %[ret (.int 2)|0]))) (zu (j6 %[d2 qR (ret (.str "room ")) (qp ja %[dv 10|0]),ret (.str "ok"),j6 %[dv 2,dv 10|0]|0]))) z9) (zu (j6 %[ret (.str "back"),dif (tst (d2 eqB (w6 1) (ret (.int 1)))) (yb %[ret (.int 1)|0]) (ret (.str "ok")),ret .non|0]))))) (yx (n/9) P S Rm (some (.int (k:Nat))) none none none none none none)=.ok (.rt (.tup [line,due,later]) (yx n' P s r kk h g o ln p u))->za [.int n] ((l++[(cs,q)]).map qD)=.ok (.tup [line,due,later],[.int n'],(l++[(cs,q)]).map qD):=λ{line due later n' s r kk h g o ln p u} e=>by
  unfold za qbJ
  have eb:yu (zB 11 [.lst [.int n],.lst ((l++[(cs,q)]).map qD)])=.ok (.rt (.tup [line,due,later]) (yx n' P s r kk h g o ln p u)):=by
   unfold yu
   exact(qm s0).trans ((qm s1).trans e)
  rw[eb]
  rfl
 by_cases h5:k<5
 ·obtain ⟨c,n',hc,e⟩:=qfM (n:=n/9) (P:=P) (q:=q) h5 hcs
  by_cases h12:cs.length=12
  ·rw[if_pos h12]at e
   refine⟨_,_,_,n',fin (jR e),qmw,.inr (.inl ⟨rfl,qmx,?_⟩)⟩
   exact qfy (qfC h12 hc) rfl qfx qms
  ·rw [if_neg h12]at e
   have hl2:=hcs.1
   refine⟨_,_,_,n',fin (jR e),vz _,.inl ⟨(cs++[c],q),⟨⟨by rw[lA_,yaE];omega,λx hx=>?_⟩,hq⟩,rfl,?_⟩⟩
   ·rcases mA_.mp hx with hx|hx
    ·exact hcs.2 x hx
    ·rw[ms_.mp hx];exact hc
   ·have:=vF (qgR (cs:=cs) (d2:=.int (rrI q)) (ps:=l.map pD) (by omega) hpl hc)
    rw[qfQ l (cs,q)]at this
    exact this
 have sk2:=skip (p:=(qJ (qhh 5 6 %[d2 qR (ret (.int 1)) (qo qe 0 %[ret (.int 9)|0]),d2 ixD (yb %[qo qe 0 %[ret (.int 9)|0],d2 qbv (ret (.int 10)) (ret (.int 29))|0]) (d2 vZ (dv 4) (ret (.int 2)))|0]) (qJ (yc 7 (j6 %[dv 5,dv 6,d2 ixD (yb %[ret .non,qo qe 0 %[ret (.int 4)|0]|0]) (qo qe 0 %[ret (.int 2)|0])|0])) (qJ (yc 8 (d2 qR (d2 qR (d2 qR (d2 qR (d2 qR (ret (.str "kind ")) (qp ja %[d2 ixD (dv 7) (ret (.int 0))|0])) (ret (.str " "))) (qp ja %[d2 ixD (dv 7) (ret (.int 1))|0])) (ret (.str " "))) (dif (tst (d2 isN (d2 ixD (dv 7) (ret (.int 2))) (ret .non))) (ret (.str "end")) (qp ja %[d2 ixD (dv 7) (ret (.int 2))|0])))) (qJ (sif (tst (d2 eqB (qp yZ %[dv 2|0]) (ret (.int 12)))) (zu (j6 %[dv 8,yb %[ret (.int 3)|0],ret .non|0])) z9) (zu (j6 %[dv 8,qp ja %[d2 qR (qp yZ %[dv 2|0]) (ret (.int 1))|0],j6 %[d2 qR (dv 2) (yb %[dv 7|0]),dv 3|0]|0]))))))) (qfN (n:=n/9) (P:=P) (s:=S) (r:=Rm) (h:=none) (g:=none) (o:=none) (l:=none) (p:=none) (u:=none) (k:=k) 5 (by omega))
 by_cases h55:k=5
 ·subst h55
  obtain⟨p,n',hp,e⟩:=qfO (n:=n/9) (P:=P) (q:=q) hcs
  by_cases h:p<cs.length
  ·rw [if_pos h]at e
   refine⟨_,_,_,n',fin ((qm sk2).trans (jR e)),vz _,.inl ⟨(qd2 cs p,q),⟨⟨by rw[qa5 h];have:=hcs.1;omega,λx hx=>?_⟩,hq⟩,rfl,?_⟩⟩
   ·unfold qd2 at hx
    rcases mA_.mp hx with hx|hx
    ·exact hcs.2 x (List.mem_of_mem_take hx)
    ·exact hcs.2 x (List.mem_of_mem_drop hx)
   ·have:=vF (qgS (cs:=cs) (d2:=.int (rrI q)) (ps:=l.map pD) hcs.1 hpl hp h)
    rw[qfQ l (cs,q)]at this
    exact this
  ·rw[if_neg h]at e
   refine⟨_,_,_,n',fin ((qm sk2).trans (jR e)),qls,.inr (.inl ⟨rfl,qlt,?_⟩)⟩
   exact qfy (qfE hcs.1 hp h) rfl qde qlg
 have e5:=qmS (n:=n/9) (P:=P) (s:=S) (r:=Rm) (h:=none) (g:=none) (o:=none) (l:=none) (p:=none) (u:=none) (k:=k) 5
 rw[decide_eq_false (by omega)]at e5
 have sk3:=skip (p:=(qJ (yc 9 (qo qe 0 %[ret (.int 5)|0])) (qJ (sif (tst (d2 geD (dv 9) (qp yZ %[dv 2|0]))) (zu (j6 %[d2 qR (ret (.str "drop ")) (qp ja %[dv 9|0]),yb %[ret (.int 1)|0],ret .non|0])) z9) (zu (j6 %[d2 qR (ret (.str "drop ")) (qp ja %[dv 9|0]),qp ja %[d2 qcA (qp yZ %[dv 2|0]) (ret (.int 1))|0],j6 %[d2 qR (w9 (dv 2) (ret none) (yI (dv 9))) (w9 (dv 2) (yI (d2 qR (dv 9) (ret (.int 1)))) (ret none)),dv 3|0]|0]))))) e5
 by_cases h8:k<8
 ·obtain⟨q',n',hq',e⟩:=qfP (n:=n/9) (P:=P) (cs:=cs) (q:=q) h8
  refine⟨_,_,_,n',fin ((qm sk2).trans ((qm sk3).trans (jR e))),vz _,.inl ⟨(cs,q'),⟨hcs,hq'⟩,rfl,?_⟩⟩
  have:=vF (qgT (d1:=stK cs) (d2:=.int (rrI q)) (ps:=l.map pD) hpl hq')
  rw[qfQ l (cs,q)]at this
  exact this
 have sk4:=skip (p:=(qJ (yc 10 (d2 ixD (yb %[qo qe 0 %[ret (.int 300)|0],d2 qcA (d2 qbv (ret (.int 10)) (ret (.int 30))) (ret (.int 1))|0]) (qo qe 0 %[ret (.int 2)|0]))) (zu (j6 %[d2 qR (ret (.str "room ")) (qp ja %[dv 10|0]),ret (.str "ok"),j6 %[dv 2,dv 10|0]|0])))) (qfN (n:=n/9) (P:=P) (s:=S) (r:=Rm) (h:=none) (g:=none) (o:=none) (l:=none) (p:=none) (u:=none) (k:=k) 8 (by omega))
 let E:Env:=yx (n/9) P S Rm (some (.int (k:Nat))) none none none none none none
 have elen:w6 1 E=.ok (.int ((l.length+1:Nat):Int),E):=by
  show R.ok (D.int (((l++[(cs,q)]).map qD).length:Nat),E)=_
  rw[lM_,lA_,yaE]
 have et:(tst (d2 eqB (w6 1) (ret (.int 1))):M Bool) E=.ok (decide (((l.length+1:Nat):Int)=1),E):=yo (zH elen rfl (ud _ _))
 rcases List.eq_nil_or_concat l with hnil|⟨l',e',hcat⟩
 ·subst hnil
  have ed:dif (tst (d2 eqB (w6 1) (ret (.int 1)))) (yb %[ret (.int 1)|0]) (ret (.str "ok")) E=.ok (.lst [.int 1],E):=by
   rw[decide_eq_true (by rfl)]at et
   rw[qix,et]
   rfl
  refine⟨.str "back",.lst [.int 1],.non,n/9,fin ((qm sk2).trans ((qm sk3).trans ((qm sk4).trans (jt (qjr rfl ed rfl))))),qls,.inr (.inl ⟨rfl,qlt,?_⟩)⟩
  exact qfy qfI rfl qde qlg
 ·rw [List.concat_eq_append]at hcat
  have ed:dif (tst (d2 eqB (w6 1) (ret (.int 1)))) (yb %[ret (.int 1)|0]) (ret (.str "ok")) E=.ok (.str "ok",E):=by
   have:¬(((l.length+1:Nat):Int)=1):=by rw[hcat,lA_,yaE];omega
   rw[decide_eq_false this]at et
   rw[qix,et]
   rfl
  refine⟨.str "back",.str "ok",.non,n/9,fin ((qm sk2).trans ((qm sk3).trans ((qm sk4).trans (jt (qjr rfl ed rfl))))),vz _,.inr (.inr ⟨rfl,rfl,l',e',hcat,?_⟩)⟩
  have:=vF (qgU (d1:=stK cs) (d2:=.int (rrI q)) l' e')
  rw[<-hcat]at this
  exact this
noncomputable abbrev qmT:MS:=(qJ (qd1 (j8 za 2 4) (qb5 3 (zM (qH 6) (zM (qH 7) (zM (qH 8) qb4))))) (qJ (sif (tst (d2 neB (zt ql 3 %[dv 6|0]) (dv 7))) (zu (ret (.bl false))) z9) (qJ (sif (tst (d2 qfU (dv 8) (ret .non))) (jY (uc 4 (dv 8))) (sif (tst (d2 eqB (dv 7) (ret (.str "ok")))) (jY (qck 4)) z9)) (sif (tor (tst (d2 neB (zt ql 3 %[ret (.str "store")|0]) (qu zp %[d2 ixD (wH 4 (d1 qal (ret (.int 1)))) (ret (.int 0))|0]))) (tst (d2 neB (zt ql 3 %[ret (.str "bears")|0]) (qp ja %[d2 ixD (wH 4 (d1 qal (ret (.int 1)))) (ret (.int 1))|0])))) (zu (ret (.bl false))) z9))))
abbrev vW(S I:OD)(n:Int)(l:List vh)(e:vh)(lap a b c:OD):Env:=[S,I,some (.lst [.int n]),some (.tup (stL l e)),some (.lst ((l++[e]).map qD)),lap,a,b,c]
theorem qco {S I:OD} {n:Int} {l:List vh} {e:vh} {lap a b c:OD} (he:okE e):(sif (tor (tst (d2 neB (zt ql 3 %[ret (.str "store")|0]) (qu zp %[d2 ixD (wH 4 (d1 qal (ret (.int 1)))) (ret (.int 0))|0]))) (tst (d2 neB (zt ql 3 %[ret (.str "bears")|0]) (qp ja %[d2 ixD (wH 4 (d1 qal (ret (.int 1)))) (ret (.int 1))|0])))) (zu (ret (.bl false))) z9) (vW S I n l e lap a b c)=.ok (.nx (vW S I n l e lap a b c)):=by
 obtain⟨cs,q⟩:=e
 have hcs:okC cs:=he.1
 have hq:q<301:=he.2
 let Z:Env:=vW S I n l (cs,q) lap a b c
 have hm:(l++[(cs,q)]).map qD=l.map qD++[qD (cs,q)]:=by rw[yaY];rfl
 have ei:wH 4 (d1 qal (ret (.int 1))) Z=.ok (qD (cs,q),Z):=by
  rw[qeZ]
  show(match atI ((l++[(cs,q)]).map qD) (-1) with|some d=>R.ok (d,Z)|none => .bad)=_
  rw[hm,qcw]
 have s1:zt ql 3 %[ret (.str "store")|0] Z=.ok (.str (ttC cs),Z):=qa3 (d1:=stK cs) (d2:=.int (rrI q)) (ps:=l.map pD) (h:=rfl) (hg:=vd rfl) (h1:=rfl) (hF:=vF (qfK hcs))
 have s2:zt ql 3 %[ret (.str "bears")|0] Z=.ok (.str (rsI q),Z):=qa3 (d1:=stK cs) (d2:=.int (rrI q)) (ps:=l.map pD) (h:=rfl) (hg:=vd rfl) (h1:=rfl) (hF:=vF (qfL hq))
 have x1:qu zp %[d2 ixD (wH 4 (d1 qal (ret (.int 1)))) (ret (.int 0))|0] Z=.ok (.str (ttC cs),Z):=ve (a:=lK cs) (zH ei rfl rfl) (qlq hcs)
 have x2:qp ja %[d2 ixD (wH 4 (d1 qal (ret (.int 1)))) (ret (.int 1))|0] Z=.ok (.str (rsI q),Z):=uy (a:=.int (rrI q)) (zH ei rfl rfl) (z7 r4 q (by simpa using hq))
 exact skip (qnv (yo (zH s1 x1 (vz _))) (yo (zH s2 x2 (vz _))))
theorem qlu {S I lap o6 o7 o8:OD} (n:Int) (l:List vh) (e:vh) (ho:∀x∈l++[e],okE x) (hl:l.length<=50):∃n' l2 e2 p6 p7 p8,(∀x∈l2++[e2],okE x)/\l2.length<=l.length+1/\qmT (vW S I n l e lap o6 o7 o8)=.ok (.nx (vW S I n' l2 e2 lap p6 p7 p8)):=by
 have he:okE e:=ho e (by simp)
 obtain⟨line,due,later,n',e1,hne,hd⟩:=qjj n l e he hl
 have b0:(qd1 (j8 za 2 4) (qb5 3 (zM (qH 6) (zM (qH 7) (zM (qH 8) qb4))))) (vW S I n l e lap o6 o7 o8)=.ok (.nx (vW S I n' l e lap (some line) (some due) (some later))):=by
  have ec:j8 za 2 4 (vW S I n l e lap o6 o7 o8)=.ok (.tup [line,due,later],vW S I n' l e lap o6 o7 o8):=by
   show(match za [.int n] ((l++[e]).map qD) with|.ok (d,c1,c2)=>R.ok (d,((vW S I n l e lap o6 o7 o8).set 2 (some (.lst c1))).set 4 (some (.lst c2)))|_ => .bad)=_
   rw[e1]
   rfl
  rw[qeX,ec]
  rfl
 have b1:∀{l2:List vh}{e2:vh},ql (stL l e) [line]=.ok (due,stL l2 e2)->(sif (tst (d2 neB (zt ql 3 %[dv 6|0]) (dv 7))) (zu (ret (.bl false))) z9) (vW S I n' l e lap (some line) (some due) (some later))=.ok (.nx [S,I,some (.lst [.int n']),some (.tup (stL l2 e2)),some (.lst ((l++[e]).map qD)),lap,some line,some due,some later]):=λ{l2 e2} h=>by
  have es:zt ql 3 %[dv 6|0] (vW S I n' l e lap (some line) (some due) (some later))=.ok (due,[S,I,some (.lst [.int n']),some (.tup (stL l2 e2)),some (.lst ((l++[e]).map qD)),lap,some line,some due,some later]):=qa3 (d1:=stK e.1) (d2:=.int (rrI e.2)) (ps:=l.map pD) (h:=rfl) (hg:=vd rfl) (h1:=rfl) (hF:=h)
  have et:(tst (d2 neB (zt ql 3 %[dv 6|0]) (dv 7)):M Bool) (vW S I n' l e lap (some line) (some due) (some later))=.ok (false,[S,I,some (.lst [.int n']),some (.tup (stL l2 e2)),some (.lst ((l++[e]).map qD)),lap,some line,some due,some later]):=by
   rw[qiw]
   show(match bnd _ (λx=>bnd _ λy=>lift (neB x y)) _ with|.ok (d,Z1)=>(match asB d with|some b=>R.ok (b,Z1)|none => .bad)|.exc x Z' => .exc x Z'|.bad => .bad)=_
   rw[jQ es,jQ (show dv 7 [S,I,some (.lst [.int n']),some (.tup (stL l2 e2)),some (.lst ((l++[e]).map qD)),lap,some line,some due,some later]=.ok (due,_)from rfl),hne]
   rfl
  rw[qgu,et]
  rfl
 rcases hd with⟨e',he',hlat,hs⟩|⟨hlat,hok,hs⟩|⟨hlat,hok,l',e',hcat,hs⟩
 ·refine ⟨n',l++[e],e',some line,some due,some later,λx hx=>?_,by rw[lA_,yaE];exact yak _,?_⟩
  ·rcases mA_.mp hx with hx|hx
   ·exact ho x hx
   ·rw[ms_.mp hx];exact he'
  refine(qm b0).trans ((qm (b1 hs)).trans ((qm (Z':=vW S I n' (l++[e]) e' lap (some line) (some due) (some later)) ?_).trans (qco he')))
  let Z:Env:=[S,I,some (.lst [.int n']),some (.tup (stL (l++[e]) e')),some (.lst ((l++[e]).map qD)),lap,some line,some due,some later]
  have et:(tst (d2 qfU (dv 8) (ret .non)):M Bool) Z=.ok (true,Z):=by
   refine yo (zH (a:=later) rfl rfl ?_)
   rw[hlat]
   rfl
  refine(qbL et).trans ?_
  refine wT (d:=.non) ?_
  show(if qF (((l++[e]).map qD).length+1)=true then R.ok (D.non,Z.set 4 (some (.lst ((l++[e]).map qD++[later]))))else .bad)=_
  have hz:(l++[e]).map qD++[later]=((l++[e])++[e']).map qD:=by
   rw[hlat,yaY (l₁:=l++[e])]
   rfl
  rw[if_pos (uY (by rw[lM_,lA_,yaE];omega)),hz]
  rfl
 ·refine ⟨n',l,e,some line,some due,some later,ho,by omega,?_⟩
  refine(qm b0).trans ((qm (b1 hs)).trans ((qm (Z':=vW S I n' l e lap (some line) (some due) (some later)) ?_).trans (qco he)))
  have et:(tst (d2 qfU (dv 8) (ret .non)):M Bool) (vW S I n' l e lap (some line) (some due) (some later))=.ok (false,vW S I n' l e lap (some line) (some due) (some later)):=by
   refine yo (zH (a:=later) rfl rfl ?_)
   rw[hlat]
   rfl
  refine(qmq et).trans ?_
  exact skip (yo (zH (a:=due) rfl rfl hok))
 ·subst hcat
  have ho':∀x∈l'++[e'],okE x:=λx hx=>ho x (yb0 _ hx)
  refine⟨n',l',e',some line,some due,some later,ho',by rw[lA_,yaE];omega,?_⟩
  refine(qm b0).trans ((qm (b1 hs)).trans ((qm (Z':=vW S I n' l' e' lap (some line) (some due) (some later)) ?_).trans (qco (ho' e' (by simp)))))
  let Z:Env:=[S,I,some (.lst [.int n']),some (.tup (stL l' e')),some (.lst (((l'++[e'])++[e]).map qD)),lap,some line,some due,some later]
  have et:(tst (d2 qfU (dv 8) (ret .non)):M Bool) Z=.ok (false,Z):=by
   refine yo (zH (a:=later) rfl rfl ?_)
   rw[hlat]
   rfl
  refine(qmq et).trans ?_
  have et2:(tst (d2 eqB (dv 7) (ret (.str "ok"))):M Bool) Z=.ok (true,Z):=by
   refine yo (zH (a:=due) rfl rfl ?_)
   rw[hok]
   rfl
  refine(qbL et2).trans ?_
  refine wT (d:=qD e) ?_
  have hm:((l'++[e'])++[e]).map qD=(l'++[e']).map qD++[qD e]:=by rw[yaY];rfl
  have h1:(((l'++[e'])++[e]).map qD)[(((l'++[e'])++[e]).map qD).length-1]? = some (qD e):=by
   rw[hm,lA_,yaE,yfa,List.getElem?_append_right (yak _),Nat.sub_self]
   rfl
  have h2:(((l'++[e'])++[e]).map qD).dropLast=(l'++[e']).map qD:=by rw[hm];simp
  show(match (((l'++[e'])++[e]).map qD)[(((l'++[e'])++[e]).map qD).length-1]? with|some d=>R.ok (d,Z.set 4 (some (.lst (((l'++[e'])++[e]).map qD).dropLast)))|none => .bad)=_
  rw[h1,h2]
  rfl
theorem qfR {S I:OD}:∀(ds:List D)(lap o6 o7 o8:OD)(n:Int)(l:List vh)(e:vh),(∀x∈l++[e],okE x)->l.length+ds.length<=50->∃Z:Env,Z.length=7/\uW (qH 5) qmT ds (vW S I n l e lap o6 o7 o8)=.ok (.nx (S::I::Z))
 | [],lap,o6,o7,o8,n,l,e,_,_=>⟨[some (.lst [.int n]),some (.tup (stL l e)),some (.lst ((l++[e]).map qD)),lap,o6,o7,o8],rfl,rfl⟩
 |d::ds,lap,o6,o7,o8,n,l,e,ho,hl=>by
  rw[lC_]at hl
  obtain⟨n',l2,e2,p6,p7,p8,ho2,hl2,q⟩:=qlu (S:=S) (I:=I) (lap:=some d) (o6:=o6) (o7:=o7) (o8:=o8) n l e ho (by omega)
  obtain⟨Z,hρ,q2⟩:=qfR (S:=S) (I:=I) ds (some d) p6 p7 p8 n' l2 e2 ho2 (by omega)
  exact⟨Z,hρ,(qbM (show qH 5 d (vW S I n l e lap o6 o7 o8)=some (vW S I n l e (some d) o6 o7 o8)from rfl) q).trans q2⟩
theorem qgW (ns:List Int) (i:Int) (h0:0<=i) (r:Env) (hr:r.length=7):∃r',r'.length=7/\(qJ (u7 2 (qbw jo %[dv 0,dv 1|0])) (qJ (qbG 3) (qJ (u7 4 (qe8 %[j6 %[yb (ret []),ret (.int 0)|0]|0])) (qeJ (y0 %[qo qe 2 %[ret (.int 23)|0]|0]) (qH 5) (qJ (qd1 (j8 za 2 4) (qb5 3 (zM (qH 6) (zM (qH 7) (zM (qH 8) qb4))))) (qJ (sif (tst (d2 neB (zt ql 3 %[dv 6|0]) (dv 7))) (zu (ret (.bl false))) z9) (qJ (sif (tst (d2 qfU (dv 8) (ret .non))) (jY (uc 4 (dv 8))) (sif (tst (d2 eqB (dv 7) (ret (.str "ok")))) (jY (qck 4)) z9)) (sif (tor (tst (d2 neB (zt ql 3 %[ret (.str "store")|0]) (qu zp %[d2 ixD (wH 4 (d1 qal (ret (.int 1)))) (ret (.int 0))|0]))) (tst (d2 neB (zt ql 3 %[ret (.str "bears")|0]) (qp ja %[d2 ixD (wH 4 (d1 qal (ret (.int 1)))) (ret (.int 1))|0])))) (zu (ret (.bl false))) z9)))))))) ([some (.fz ns),some (.int i)]++r)=.ok (.nx ([some (.fz ns),some (.int i)]++r')):=by
 match r,hr with
 | [o2,o3,o4,o5,o6,o7,o8],_=>
  obtain⟨n,eb⟩:=qld ns i h0
  let S:OD:=some (.fz ns)
  let I:OD:=some (.int i)
  have hm:0<=n%23/\n%23<23:=by omega
  have h00:okE ([],0):=⟨⟨by simp,λc hc=>by cases hc⟩,by decide⟩
  obtain ⟨Z,hρ,q⟩:=qfR (S:=S) (I:=I) (qb8 0 (n%23).toNat) o5 o6 o7 o8 (n/23) [] ([],0) (λx hx=>by
   rw[ybB,ms_]at hx
   rw[hx];exact h00) (by simp[qb8];omega)
  refine⟨Z,hρ,?_⟩
  show(qJ (u7 2 (qbw jo %[dv 0,dv 1|0])) (qJ (qbG 3) (qJ (u7 4 (qe8 %[j6 %[yb (ret []),ret (.int 0)|0]|0])) (qeJ (y0 %[qo qe 2 %[ret (.int 23)|0]|0]) (qH 5) (qJ (qd1 (j8 za 2 4) (qb5 3 (zM (qH 6) (zM (qH 7) (zM (qH 8) qb4))))) (qJ (sif (tst (d2 neB (zt ql 3 %[dv 6|0]) (dv 7))) (zu (ret (.bl false))) z9) (qJ (sif (tst (d2 qfU (dv 8) (ret .non))) (jY (uc 4 (dv 8))) (sif (tst (d2 eqB (dv 7) (ret (.str "ok")))) (jY (qck 4)) z9)) (sif (tor (tst (d2 neB (zt ql 3 %[ret (.str "store")|0]) (qu zp %[d2 ixD (wH 4 (d1 qal (ret (.int 1)))) (ret (.int 0))|0]))) (tst (d2 neB (zt ql 3 %[ret (.str "bears")|0]) (qp ja %[d2 ixD (wH 4 (d1 qal (ret (.int 1)))) (ret (.int 1))|0])))) (zu (ret (.bl false))) z9)))))))) [S,I,o2,o3,o4,o5,o6,o7,o8]=_
  refine(qm (Z':=[S,I,some (.lst [.int n]),o3,o4,o5,o6,o7,o8]) ?_).trans ?_
  ·push_cast [S,I,eb,immFs,immF,immL,imm,ybd]
  refine(qm (Z':=[S,I,some (.lst [.int n]),some (.tup (stL [] ([],0))),o4,o5,o6,o7,o8]) rfl).trans ?_
  refine(qm (Z':=vW S I n [] ([],0) o5 o6 o7 o8) rfl).trans ?_
  have e0:=io1 (i:=2) (f:=ret (.int 23)) (Z:=vW S I n [] ([],0) o5 o6 o7 o8) (a:=.int 23) (ds:=[.int n]) rfl rfl (qfu (n:=n) (m:=23) (by decide) (by decide))
  have e1:qa (qo qe 2 %[ret (.int 23)|0]) (ret []) (vW S I n [] ([],0) o5 o6 o7 o8)=.ok ([.int (n%23)],vW S I (n/23) [] ([],0) o5 o6 o7 o8):=by
   rw[zC,e0]
   rfl
  rw[qbx,qaZ e1 hm.1 (by omega)]
  exact q
theorem qdh (ns:List Int):∀(ds:List D)(o1:OD)(r:Env),r.length=7->(∀d∈ds,∃i:Int,d=.int i/\0<=i)->∃Z,uW (qH 1) (qJ (u7 2 (qbw jo %[dv 0,dv 1|0])) (qJ (qbG 3) (qJ (u7 4 (qe8 %[j6 %[yb (ret []),ret (.int 0)|0]|0])) (qeJ (y0 %[qo qe 2 %[ret (.int 23)|0]|0]) (qH 5) (qJ (qd1 (j8 za 2 4) (qb5 3 (zM (qH 6) (zM (qH 7) (zM (qH 8) qb4))))) (qJ (sif (tst (d2 neB (zt ql 3 %[dv 6|0]) (dv 7))) (zu (ret (.bl false))) z9) (qJ (sif (tst (d2 qfU (dv 8) (ret .non))) (jY (uc 4 (dv 8))) (sif (tst (d2 eqB (dv 7) (ret (.str "ok")))) (jY (qck 4)) z9)) (sif (tor (tst (d2 neB (zt ql 3 %[ret (.str "store")|0]) (qu zp %[d2 ixD (wH 4 (d1 qal (ret (.int 1)))) (ret (.int 0))|0]))) (tst (d2 neB (zt ql 3 %[ret (.str "bears")|0]) (qp ja %[d2 ixD (wH 4 (d1 qal (ret (.int 1)))) (ret (.int 1))|0])))) (zu (ret (.bl false))) z9)))))))) ds ([some (.fz ns),o1]++r)=.ok (.nx Z)
 | [],o1,r,_,_=>⟨_,rfl⟩
 |d::ds,o1,r,hr,h=>by
  obtain⟨i,rfl,h0⟩:=h d mS_
  obtain⟨r',hr',e⟩:=qgW ns i h0 r hr
  obtain⟨Z,q⟩:=qdh ns ds (some (.int i)) r' hr' λy hy=>h y (mM _ hy)
  refine⟨Z,?_⟩
  unfold uW
  simp only[qH,List.cons_append,ybB,ych,ye9]at e |-
  simp only[e]
  exact q
theorem law_true (ns:List Int) (hn:ns.length<=63):qcn [.fz ns]=.ok (.bl true):=by
 let j:Int:=if(if(3:Int)<(ns.length:Int) then(3:Int) else(ns.length:Int))>1 then(if(3:Int)<(ns.length:Int) then(3:Int) else(ns.length:Int))else 1
 have hj0:0<=j:=by simp only[j];split<;>split<;>omega
 have hj1:j<=6:=by simp only[j];split<;>split<;>omega
 obtain ⟨Z,q⟩:=qdh ns (qb8 0 j.toNat) none [none,none,none,none,none,none,none] rfl λd hd=>by
  unfold qb8 at hd
  obtain⟨k,hk,rfl⟩:=mP_.mp hd
  exact⟨_,rfl,by omega⟩
 unfold qcn
 refine qgN rfl ⟨Z,?_⟩
 unfold qgQ
 refine(qm (Z':=Z) ?_).trans rfl
 rw[qbx,qaZ (j:=j) (Z1:=[some (.fz ns),none,none,none,none,none,none,none,none]) ?_ hj0 (by omega)]
 ·exact q
 ·rfl
section
variable{P:yag}{w:World}{K:yad}{mg:Str->Option Value}{base:Heap}
variable{f:Addr}{fd:yaH}
set_option maxHeartbeats 4000000
theorem uD:qv ["box","many","left","digit"] ["box","many"] (qc jA):=%[0|1]
section
variable(P:yag)(w:World)(K:Fr0)(mg:Str->Option Value)(base:Heap)
abbrev Q0:Prop:=jm P w K mg base 1 "_law_take" ["box","many"] (qjo K qe)
abbrev Q1:Prop:=jm P w K mg base 1 "figures" ["number"] (spD K ju)
abbrev Q2:Prop:=jm P w K mg base 2 "show_kind" ["kind"] (spD K yr)
abbrev Q3:Prop:=jm P w K mg base 1 "is_whole" ["thing"] (spD K uI)
abbrev Q4:Prop:=jm P w K mg base 2 "is_count" ["thing"] (spD K jK)
abbrev Q5:Prop:=jm P w K mg base 3 "is_kind" ["thing"] (spD K yW)
abbrev Q6:Prop:=jm P w K mg base 4 "is_store" ["thing"] (spD K uJ)
abbrev Q7:Prop:=yJ P w K mg base 5 "need_store" ["thing"] (spX K (clR K RN) jn)
abbrev Q8:Prop:=yJ P w K mg base 6 "show" ["store"] (spX K (clR K RN) qc9)
abbrev Q9:Prop:=yJ P w K mg base 7 "store_text" ["store"] (spX K (clR K RN) yF)
abbrev Q10:Prop:=yJ P w K mg base 8 "asked_text" ["words","store","room"] (spX K (clR K RN) jU)
abbrev Q11:Prop:=ux P w K mg base 1 "go_back" ["self"] (spJ K (clR K RN) zL)
abbrev Q12:Prop:=ux P w K mg base 1 "keep_past" ["self"] (spJ K (clR K RN) zK)
abbrev Q13:Prop:=ux P w K mg base 2 "take_room" ["self","room"] (spJ K (clR K RN) jg)
abbrev Q14:Prop:=jm P w K mg base 1 "number_of" ["word"] (spD K qN)
abbrev Q15:Prop:=ux P w K mg base 2 "take_store" ["self","store"] (spJ K (clR K RN) qU)
abbrev Q16:Prop:=jm P w K mg base 3 "is_place" ["thing","store"] (spD K uK)
abbrev Q17:Prop:=yJ P w K mg base 6 "without" ["store","place"] (spX K (clR K RN) jc)
abbrev Q18:Prop:=yJ P w K mg base 6 "put_to" ["store","kind"] (spX K (clR K RN) jN)
abbrev Q19:Prop:=jm P w K mg base 2 "kind_of" ["words"] (spD K jv)
abbrev Q20:Prop:=jm P w K mg base 1 "is_figures" ["word"] (spD K vS)
abbrev Q21:Prop:=jm P w K mg base 2 "is_word" ["word","wanted"] (spD K qbQ)
abbrev Q22:Prop:=jm P w K mg base 3 "is_line" ["words"] (spD K qbS)
abbrev Q23:Prop:=yJ P w K mg base 4 "words_of" ["line"] (spX K (clR K RN) zF)
abbrev Q24:Prop:=ux P w K mg base 9 "say" ["self","line"] (spJ K (clR K RN) qw)
abbrev Q25:Prop:=qcf P w K mg base 1 "_law_classes" ["e"] (spD K uU)
abbrev Q26:Prop:=qcf P w K mg base 2 "_law_only" ["e","place"] (spD K ji)
abbrev Q27:Prop:=yJ P w K mg base 10 "_law_said" ["desk","line"] (spJ K (clR K RN) ql)
abbrev Q28:Prop:=jm P w K mg base 1 "_law_text" ["store"] (spD K zp)
abbrev Q29:Prop:=jm P w K mg base 2 "_law_step" ["box","past"] (qfo K za)
abbrev Q30:Prop:=jm P w K mg base 1 "_law_box" ["script","k"] (spD K jo)
end
theorem q0 (F:Fun K "_law_take" "_law_take" jA f fd) (m:mg "_law_take"=some (.ref f)) (T:Txt K mg) (XTt:XT K mg RN TN) (hB:K.In base):Q0 P w K mg base:=by
 refine⟨f,fd,?_,m,F.kp,F.binds λ_ _ _ _ _ _ us hl=>match us,hl with | [_,_],_=>rfl⟩
 show yz P w K mg base CX0 1 f fd ["box","many"] (qjo K (qca (["box","many","left","digit"]:List Str).length (["box","many"]:List Str).length ug))
 refine ql6 (N:=["box","many","left","digit"]) (ps:=["box","many"]) (k:=0) (O:=[0]) (body:=ug) F uD ?a ?a0 ?b
 case a=>decide
 case a0=>decide
 intro cdv A outer s H E B Io S hr
 exact (qh (qeA (qW qbY qbo rfl T.b_divmod qeV (qb (qcG (i:=0) qk) (qb (qd 1) qf))) (qbm (n:=2) rfl (jd (zm (i:=2) uD.nd) (jd (zm (i:=3) uD.nd) wx))))
   (qh (qik (i:=0) (qd 2) qk)
   (qj (qE (qd 3)))))
theorem uM:qv ["number","signs","rest"] ["number"] (qc yS):=%[0|1]
theorem q1 (F:Fun K "figures" "figures" yS f fd) (m:mg "figures"=some (.ref f)) (T:Txt K mg) (XTt:XT K mg RN TN) (hB:K.In base):Q1 P w K mg base:=by
 refine %[f,fd,m,F,[_]|2]
 exact js (N:=["number","signs","rest"]) (O:=[1]) (body:=qbN) F uM (by decide) λcdv A outer s H E B hr=>(qh (qaJ (i:=1) uM.nd (qhe (qb (zx j7 zf (gS T.c_FIGURES) (qz vJ ur (qd 0) qk)) qf)))
   (qh (z5 (i:=2) uM.nd (qz qbX qaG (qd 0) qk))
   (qh (qe7 40 ybV (qO qhM qeE (qd 2) qk (qG _)) (qh (yH (qbt (i:=1) (zx j7 zf (gS T.c_FIGURES) (qz vJ ur (qd 2) qk))))
   (qj (z5 (i:=2) uM.nd (qz qbX qaG (qd 2) qk)))))
   (qj (qE (qiZ (i:=1) rfl rfl T.b_reversed))))))
theorem vT:qv ["kind","most"] ["kind"] (qc jB):=%[0|1]
theorem q2 (F:Fun K "show_kind" "show_kind" jB f fd) (m:mg "show_kind"=some (.ref f)) (T:Txt K mg) (XTt:XT K mg RN TN) (hB:K.In base) (Cc:Q1 P w K mg base):Q2 P w K mg base:=by
 refine %[f,fd,m,F,[_]|2]
 exact js (N:=["kind","most"]) (O:=[]) (body:=wU) F vT (by decide) λcdv A outer s H E B hr=>(qh (z5 (i:=1) vT.nd (qdt (qO qbd wy (zx j7 zf (qd 0) (gI T.c_MOST)) uq (qG _)) qC (dC Cc hr (qb (zx j7 zf (qd 0) (gI T.c_MOST)) qf))))
   (qj (qE (qz qK qL (qz qK qL (qz qK qL (qz qK qL (dC Cc hr (qb (zx j7 zf (qd 0) (gI T.c_WEIGHT)) qf)) qC) (dC Cc hr (qb (zx j7 zf (qd 0) (gI T.c_WORTH)) qf))) qC) (qd 1)))))
theorem qcp:qv ["thing"] ["thing"] (qc ye):=%[0|1]
theorem q3 (F:Fun K "is_whole" "is_whole" ye f fd) (m:mg "is_whole"=some (.ref f)) (T:Txt K mg) (XTt:XT K mg RN TN) (hB:K.In base):Q3 P w K mg base:=by
 refine %[f,fd,m,F,[_]|2]
 exact js (N:=["thing"]) (O:=[]) (body:=vA) F qcp (by decide) λcdv A outer s H E B hr=>(qj (qE (qcz (qbq qih rfl T.b_isinstance rfl T.b_int qhi (qd 0) qy) (vM (qj7 (qbq qgk rfl T.b_isinstance rfl T.b_bool qiv (qd 0) qy))))))
theorem qcq:qv ["thing"] ["thing"] (qc yf):=%[0|1]
theorem q4 (F:Fun K "is_count" "is_count" yf f fd) (m:mg "is_count"=some (.ref f)) (T:Txt K mg) (XTt:XT K mg RN TN) (hB:K.In base) (CJ:Q3 P w K mg base):Q4 P w K mg base:=by
 refine %[f,fd,m,F,[_]|2]
 exact js (N:=["thing"]) (O:=[]) (body:=vB) F qcq (by decide) λcdv A outer s H E B hr=>(qj (qE (qcz (dC CJ hr (qb (qd 0) qf)) (vM (uP qjS qg7 (qd 0) qk (qG _))))))
theorem qdW:qv ["thing"] ["thing"] (qc yT):=%[0|1]
theorem q5 (F:Fun K "is_kind" "is_kind" yT f fd) (m:mg "is_kind"=some (.ref f)) (T:Txt K mg) (XTt:XT K mg RN TN) (hB:K.In base) (Cg:Q4 P w K mg base):Q5 P w K mg base:=by
 refine %[f,fd,m,F,[_]|2]
 exact js (N:=["thing"]) (O:=[]) (body:=wV) F qdW (by decide) λcdv A outer s H E B hr=>(qh (zQ (DW.dt (qbl (ui (yP (qbq qbp rfl T.b_isinstance rfl T.b_tuple qcJ (qd 0) qy))) (vL (qO (vO hr) uu (qW zg zj rfl T.b_len yC (qb (qd 0) qf)) qk (qG _))))) (qj (qE ww)) qx)
   (qh (zQ (DW.dt (qbl (ui (yP (dC Cg hr (qb (zx jy jx (qd 0) (gI T.c_WEIGHT)) qf)))) (vL (qO (zR hr) qX (zx jy jx (qd 0) (gI T.c_WEIGHT)) qk (qG _))))) (qj (qE ww)) qx)
   (qj (qE (qcz (dC Cg hr (qb (zx jy jx (qd 0) (gI T.c_WORTH)) qf)) (vM (qh7 (uP qbd wy (zx jy jx (qd 0) (gI T.c_MOST)) uq (qG _)) (vM (dC Cg hr (qb (zx jy jx (qd 0) (gI T.c_MOST)) qf))))))))))
theorem qcr:qv ["thing"] ["thing"] (qc jC):=%[0|1]
theorem q6 (F:Fun K "is_store" "is_store" jC f fd) (m:mg "is_store"=some (.ref f)) (T:Txt K mg) (XTt:XT K mg RN TN) (hB:K.In base) (Cj:Q5 P w K mg base):Q6 P w K mg base:=by
 refine %[f,fd,m,F,[_]|2]
 exact js (N:=["thing"]) (O:=[]) (body:=vC) F qcr (by decide) λcdv A outer s H E B hr=>(qh (zQ (DW.dt (qbl (ui (yP (qbq qbp rfl T.b_isinstance rfl T.b_tuple qcJ (qd 0) qy))) (vL (qO qhM qeE (qW zg zj rfl T.b_len yC (qb (qd 0) qf)) (gI T.c_KINDS_AT_MOST) (qG _))))) (qj (qE ww)) qx)
   (qj (qE (qW (qaH rfl) wB rfl T.b_all qeU (qb (qaI (fo:=none) rfl (qeI (qd 0)) (cs ["thing"] ["part"] 1 [] (qc jC)) (f0 [] []) (λ_ _ _ _ _ _ _ _ _ _ _=>⟨(zm (i:=0) (nd ["part"])),qbs,(dC Cj hr (qb (qd 0) qf))⟩)) qf)))))
theorem qa6:qv ["thing"] ["thing"] (qc zS):=%[0|1]
theorem q7 (F:Fun K "need_store" "need_store" zS f fd) (m:mg "need_store"=some (.ref f)) (T:Txt K mg) (XTt:XT K mg RN TN) (hB:K.In base) (Cw:Q6 P w K mg base):Q7 P w K mg base:=by
 obtain⟨S,mS,xS⟩:=XTt.xcls hB
 obtain⟨CP,hc_NoStore⟩:=XTt.has (n:="NoStore") (by decide)
 have mc_NoStore:=XTt.mgc _ _ (XTt.cls hc_NoStore).1
 obtain⟨bm_NoStore,xc_NoStore,_⟩:=xS.own _ _ hc_NoStore
 refine⟨f,fd,?_,m,F.kp,F.binds λ_ _ _ _ _ _ us hl=>match us,hl with | [_],_=>rfl⟩
 show yz P w K mg base (CX1 P w) 5 f fd ["thing"] (spX K (clR K RN) (wN (["thing"]:List Str).length (["thing"]:List Str).length yD))
 refine wO (N:=["thing"]) (ps:=["thing"]) (k:=4) (O:=[]) (body:=yD) (cl:=clR K RN) F qa6 ?a ?b
 case a=>decide
 intro cdv A outer s H E B hr
 have L:=uj (P:=P) (w:=w) (K:=K) (mg:=mg) (base:=base) (N:=["thing"]) (qual:="need_store") (scope:=qc zS) (f:=f) (cdv:=cdv) (A:=A) (outer:=outer) (s:=s) (H:=H) (E:=E) (c:=cfn [] [] B H (λ_=>False) (λx H'=>∀C,clR K RN x.cls=some C->E (.ref C) none H') λ_=>none) (cl:=clR K RN) rfl (λx C H' h1 h2=>h2 C h1)
 exact(qj (zQ (ui (yP (dC Cw hr (qb (qd 0) qf)))) (qj (ub rfl L hc_NoStore rfl mc_NoStore xc_NoStore (qb qC qf))) qx))
theorem qjk:qv ["store"] ["store"] (qc vQ):=%[0|1]
theorem q8 (F:Fun K "show" "show" vQ f fd) (m:mg "show"=some (.ref f)) (T:Txt K mg) (XTt:XT K mg RN TN) (hB:K.In base) (CG:Q2 P w K mg base) (Ce:Q7 P w K mg base):Q8 P w K mg base:=by
 have hcl:∀n,RN.contains n=true->(clR K RN n).isSome=true:=λn hn=>Option.isSome_iff_exists.mpr (XTt.has hn)
 refine⟨f,fd,?_,m,F.kp,F.binds λ_ _ _ _ _ _ us hl=>match us,hl with | [_],_=>rfl⟩
 show yz P w K mg base (CX1 P w) 6 f fd ["store"] (spX K (clR K RN) (wN (["store"]:List Str).length (["store"]:List Str).length qc8))
 refine wO (N:=["store"]) (ps:=["store"]) (k:=5) (O:=[]) (body:=qc8) (cl:=clR K RN) F qjk ?a ?b
 case a=>decide
 intro cdv A outer s H E B hr
 have L:=uj (P:=P) (w:=w) (K:=K) (mg:=mg) (base:=base) (N:=["store"]) (qual:="show") (scope:=qc vQ) (f:=f) (cdv:=cdv) (A:=A) (outer:=outer) (s:=s) (H:=H) (E:=E) (c:=cfn [] [] B H (λ_=>False) (λx H'=>∀C,clR K RN x.cls=some C->E (.ref C) none H') λ_=>none) (cl:=clR K RN) rfl (λx C H' h1 h2=>h2 C h1)
 exact (qh (yH (xC L.two hcl Ce hr (qb (qd 0) qf)))
   (qj (qE (qaU yev yew qe9 qap qC (qb (qaI (fo:=none) rfl (qeI (qd 0)) (cs ["store"] ["kind"] 1 [] (qc vQ)) (f0 [] []) (λ_ _ _ _ _ _ _ _ _ _ _=>⟨(zm (i:=0) (nd ["kind"])),qbs,(dC CG hr (qb (qd 0) qf))⟩)) qf)))))
theorem qa7:qv ["store"] ["store"] (qc zT):=%[0|1]
theorem q9 (F:Fun K "store_text" "store_text" zT f fd) (m:mg "store_text"=some (.ref f)) (T:Txt K mg) (XTt:XT K mg RN TN) (hB:K.In base) (Ch:Q8 P w K mg base):Q9 P w K mg base:=by
 have hcl:∀n,RN.contains n=true->(clR K RN n).isSome=true:=λn hn=>Option.isSome_iff_exists.mpr (XTt.has hn)
 refine⟨f,fd,?_,m,F.kp,F.binds λ_ _ _ _ _ _ us hl=>match us,hl with | [_],_=>rfl⟩
 show yz P w K mg base (CX1 P w) 7 f fd ["store"] (spX K (clR K RN) (wN (["store"]:List Str).length (["store"]:List Str).length yE))
 refine wO (N:=["store"]) (ps:=["store"]) (k:=6) (O:=[]) (body:=yE) (cl:=clR K RN) F qa7 ?a ?b
 case a=>decide
 intro cdv A outer s H E B hr
 have L:=uj (P:=P) (w:=w) (K:=K) (mg:=mg) (base:=base) (N:=["store"]) (qual:="store_text") (scope:=qc zT) (f:=f) (cdv:=cdv) (A:=A) (outer:=outer) (s:=s) (H:=H) (E:=E) (c:=cfn [] [] B H (λ_=>False) (λx H'=>∀C,clR K RN x.cls=some C->E (.ref C) none H') λ_=>none) (cl:=clR K RN) rfl (λx C H' h1 h2=>h2 C h1)
 exact(qj (qE (qdt (qO (zR hr) qX (qd 0) (yA qf) (qG _)) qC (xC L.two hcl Ch hr (qb (qd 0) qf)))))
theorem qa8:qv ["words","store","room"] ["words","store","room"] (qc zU):=%[0|1]
theorem q10 (F:Fun K "asked_text" "asked_text" zU f fd) (m:mg "asked_text"=some (.ref f)) (T:Txt K mg) (XTt:XT K mg RN TN) (hB:K.In base) (Cc:Q1 P w K mg base) (Cr:Q9 P w K mg base):Q10 P w K mg base:=by
 have hcl:∀n,RN.contains n=true->(clR K RN n).isSome=true:=λn hn=>Option.isSome_iff_exists.mpr (XTt.has hn)
 refine⟨f,fd,?_,m,F.kp,F.binds λ_ _ _ _ _ _ us hl=>match us,hl with | [_,_,_],_=>rfl⟩
 show yz P w K mg base (CX1 P w) 8 f fd ["words","store","room"] (spX K (clR K RN) (wN (["words","store","room"]:List Str).length (["words","store","room"]:List Str).length jS))
 refine wO (N:=["words","store","room"]) (ps:=["words","store","room"]) (k:=7) (O:=[]) (body:=jS) (cl:=clR K RN) F qa8 ?a ?b
 case a=>decide
 intro cdv A outer s H E B hr
 have L:=uj (P:=P) (w:=w) (K:=K) (mg:=mg) (base:=base) (N:=["words","store","room"]) (qual:="asked_text") (scope:=qc zU) (f:=f) (cdv:=cdv) (A:=A) (outer:=outer) (s:=s) (H:=H) (E:=E) (c:=cfn [] [] B H (λ_=>False) (λx H'=>∀C,clR K RN x.cls=some C->E (.ref C) none H') λ_=>none) (cl:=clR K RN) rfl (λx C H' h1 h2=>h2 C h1)
 exact (qh (zQ (qO (zR hr) qX (zx j7 zf (qd 0) qk) qC (qG _)) (qj (qE (xC L.two hcl Cr hr (qb (qd 1) qf)))) qx)
   (qh (zQ (qO (zR hr) qX (zx j7 zf (qd 0) qk) qC (qG _)) (qj (qE (dC Cc hr (qb (qd 2) qf)))) qx)
   (qh (zQ (qO (zR hr) qX (zx j7 zf (qd 0) qk) qC (qG _)) (qj qbE) qx)
   (qh (zQ (qO (zR hr) qX (zx j7 zf (qd 0) qk) qC (qG _)) (qj qbE) qx)
   (qh (zQ (qO (zR hr) qX (zx j7 zf (qd 0) qk) qC (qG _)) (qj qbE) qx)
   (qh (zQ (qO (zR hr) qX (zx j7 zf (qd 0) qk) qC (qG _)) (qj qbE) qx)
   (qj qbE)))))))
theorem uE:qv ["self","before"] ["self"] (qc zn):=%[0|1]
theorem q11 (F:Fun K "go_back" "Desk.go_back" zn f fd) {C:Addr} (m:zY K "Desk"=some C) (hM:qf6 K C "go_back" f) (T:Txt K mg) (XTt:XT K mg RN TN) (hB:K.In base):Q11 P w K mg base:=by
 obtain⟨S,mS,xS⟩:=XTt.xcls hB
 obtain⟨CO,hc_NoNumber⟩:=XTt.has (n:="NoNumber") (by decide)
 have mc_NoNumber:=XTt.mgc _ _ (XTt.cls hc_NoNumber).1
 obtain⟨bm_NoNumber,xc_NoNumber,_⟩:=xS.own _ _ hc_NoNumber
 refine⟨C,f,fd,m,(T.dj C m).1,hM,?_,F.binds λ_ _ _ _ _ _ us hl=>match us,hl with | [_],_=>rfl⟩
 show yz P w K mg base (CX1 P w) 1 f fd ["self"] (spJ K (clR K RN) (qab (["self","before"]:List Str).length (["self"]:List Str).length jb))
 refine qjq (N:=["self","before"]) (ps:=["self"]) (k:=0) (O:=[0]) (body:=jb) (cl:=clR K RN) F uE ?a ?a0 ?b
 case a=>decide
 case a0=>decide
 intro cdv A outer s H E B Io S hr
 have L:=uj (P:=P) (w:=w) (K:=K) (mg:=mg) (base:=base) (N:=["self","before"]) (qual:="Desk.go_back") (scope:=qc zn) (f:=f) (cdv:=cdv) (A:=A) (outer:=outer) (s:=s) (H:=H) (E:=E) (c:=qgK [0] B H Io (λx H'=>∀C,clR K RN x.cls=some C->E (.ref C) none H') S) (cl:=clR K RN) rfl (λx C H' h1 h2=>h2 C h1)
 exact (qh (zQ (qi6 (i:=0) T.dj hr) (qj (ub rfl L hc_NoNumber rfl mc_NoNumber xc_NoNumber (qb qC qf))) qx)
   (qh (qi7 (i:=0) (j:=1) T.dj uE.nd)
   (qh (qfg (i:=0) T.dj (zx jy jx (qd 1) qk))
   (qh (qfh (i:=0) T.dj (zx jy jx (qd 1) qk))
   (qj (qE qC))))))
theorem vG:qv ["self"] ["self"] (qc qY):=%[0|1]
theorem q12 (F:Fun K "keep_past" "Desk.keep_past" qY f fd) {C:Addr} (m:zY K "Desk"=some C) (hM:qf6 K C "keep_past" f) (T:Txt K mg) (XTt:XT K mg RN TN) (hB:K.In base):Q12 P w K mg base:=by
 obtain⟨S,mS,xS⟩:=XTt.xcls hB
 refine⟨C,f,fd,m,(T.dj C m).1,hM,?_,F.binds λ_ _ _ _ _ _ us hl=>match us,hl with | [_],_=>rfl⟩
 show yz P w K mg base (CX1 P w) 1 f fd ["self"] (spJ K (clR K RN) (qab (["self"]:List Str).length (["self"]:List Str).length je))
 refine qjq (N:=["self"]) (ps:=["self"]) (k:=0) (O:=[0]) (body:=je) (cl:=clR K RN) F vG ?a ?a0 ?b
 case a=>decide
 case a0=>decide
 intro cdv A outer s H E B Io S hr
 have L:=uj (P:=P) (w:=w) (K:=K) (mg:=mg) (base:=base) (N:=["self"]) (qual:="Desk.keep_past") (scope:=qc qY) (f:=f) (cdv:=cdv) (A:=A) (outer:=outer) (s:=s) (H:=H) (E:=E) (c:=qgK [0] B H Io (λx H'=>∀C,clR K RN x.cls=some C->E (.ref C) none H') S) (cl:=clR K RN) rfl (λx C H' h1 h2=>h2 C h1)
 exact(qj (yH (qgI (i:=0) T.dj)))
theorem vH:qv ["self","room"] ["self","room"] (qc qZ):=%[0|1]
theorem q13 (F:Fun K "take_room" "Desk.take_room" qZ f fd) {C:Addr} (m:zY K "Desk"=some C) (hM:qf6 K C "take_room" f) (T:Txt K mg) (XTt:XT K mg RN TN) (hB:K.In base) (Ci:Q12 P w K mg base):Q13 P w K mg base:=by
 have hcl:∀n,RN.contains n=true->(clR K RN n).isSome=true:=λn hn=>Option.isSome_iff_exists.mpr (XTt.has hn)
 obtain⟨S,mS,xS⟩:=XTt.xcls hB
 refine⟨C,f,fd,m,(T.dj C m).1,hM,?_,F.binds λ_ _ _ _ _ _ us hl=>match us,hl with | [_,_],_=>rfl⟩
 show yz P w K mg base (CX1 P w) 2 f fd ["self","room"] (spJ K (clR K RN) (qab (["self","room"]:List Str).length (["self","room"]:List Str).length jf))
 refine qjq (N:=["self","room"]) (ps:=["self","room"]) (k:=1) (O:=[0]) (body:=jf) (cl:=clR K RN) F vH ?a ?a0 ?b
 case a=>decide
 case a0=>decide
 intro cdv A outer s H E B Io S hr
 have L:=uj (P:=P) (w:=w) (K:=K) (mg:=mg) (base:=base) (N:=["self","room"]) (qual:="Desk.take_room") (scope:=qc qZ) (f:=f) (cdv:=cdv) (A:=A) (outer:=outer) (s:=s) (H:=H) (E:=E) (c:=qgK [0] B H Io (λx H'=>∀C,clR K RN x.cls=some C->E (.ref C) none H') S) (cl:=clR K RN) rfl (λx C H' h1 h2=>h2 C h1)
 exact (qh (yH (mJ0 (i:=0) L.two hcl Ci hr))
   (qh (qfh (i:=0) T.dj (qd 1))
   (qj (qE qC))))
theorem yG:qv ["word","number","sign"] ["word"] (qc jD):=%[0|1]
theorem q14 (F:Fun K "number_of" "number_of" jD f fd) (m:mg "number_of"=some (.ref f)) (T:Txt K mg) (XTt:XT K mg RN TN) (hB:K.In base):Q14 P w K mg base:=by
 refine %[f,fd,m,F,[_]|2]
 exact js (N:=["word","number","sign"]) (O:=[]) (body:=wW) F yG (by decide) λcdv A outer s H E B hr=>(qh (z5 (i:=1) yG.nd qk)
   (qh (qbr ybV rfl (qhr (qd 0)) (zm (i:=2) yG.nd) (qj (z5 (i:=1) yG.nd (qz qK qL (qz uX ua (qd 1) qk) (zv qfb qdM rfl T.b_int qhi (qb (qd 2) qf))))))
   (qj (qE (qd 1)))))
theorem vi:qv ["self","store"] ["self","store"] (qc qT):=%[0|1]
theorem q15 (F:Fun K "take_store" "Desk.take_store" qT f fd) {C:Addr} (m:zY K "Desk"=some C) (hM:qf6 K C "take_store" f) (T:Txt K mg) (XTt:XT K mg RN TN) (hB:K.In base) (Cc:Q1 P w K mg base) (Ci:Q12 P w K mg base):Q15 P w K mg base:=by
 have hcl:∀n,RN.contains n=true->(clR K RN n).isSome=true:=λn hn=>Option.isSome_iff_exists.mpr (XTt.has hn)
 obtain⟨S,mS,xS⟩:=XTt.xcls hB
 refine⟨C,f,fd,m,(T.dj C m).1,hM,?_,F.binds λ_ _ _ _ _ _ us hl=>match us,hl with | [_,_],_=>rfl⟩
 show yz P w K mg base (CX1 P w) 2 f fd ["self","store"] (spJ K (clR K RN) (qab (["self","store"]:List Str).length (["self","store"]:List Str).length z0))
 refine qjq (N:=["self","store"]) (ps:=["self","store"]) (k:=1) (O:=[0]) (body:=z0) (cl:=clR K RN) F vi ?a ?a0 ?b
 case a=>decide
 case a0=>decide
 intro cdv A outer s H E B Io S hr
 have L:=uj (P:=P) (w:=w) (K:=K) (mg:=mg) (base:=base) (N:=["self","store"]) (qual:="Desk.take_store") (scope:=qc qT) (f:=f) (cdv:=cdv) (A:=A) (outer:=outer) (s:=s) (H:=H) (E:=E) (c:=qgK [0] B H Io (λx H'=>∀C,clR K RN x.cls=some C->E (.ref C) none H') S) (cl:=clR K RN) rfl (λx C H' h1 h2=>h2 C h1)
 exact (qh (yH (mJ0 (i:=0) L.two hcl Ci hr))
   (qh (qfg (i:=0) T.dj (qd 1))
   (qj (qE (dC Cc hr (qb (qW zg zj rfl T.b_len yC (qb (qd 1) qf)) qf))))))
theorem qcs:qv ["thing","store"] ["thing","store"] (qc yg):=%[0|1]
theorem q16 (F:Fun K "is_place" "is_place" yg f fd) (m:mg "is_place"=some (.ref f)) (T:Txt K mg) (XTt:XT K mg RN TN) (hB:K.In base) (Cg:Q4 P w K mg base):Q16 P w K mg base:=by
 refine %[f,fd,m,F,[_,_]|2]
 exact js (N:=["thing","store"]) (O:=[]) (body:=vD) F qcs (by decide) λcdv A outer s H E B hr=>(qj (qE (qcz (dC Cg hr (qb (qd 0) qf)) (vM (uP qf3 qcC (qd 0) (qW zg zj rfl T.b_len yC (qb (qd 1) qf)) (qG _))))))
theorem qdX:qv ["store","place"] ["store","place"] (qc yp):=%[0|1]
theorem q17 (F:Fun K "without" "without" yp f fd) (m:mg "without"=some (.ref f)) (T:Txt K mg) (XTt:XT K mg RN TN) (hB:K.In base) (CK:Q16 P w K mg base) (Ce:Q7 P w K mg base):Q17 P w K mg base:=by
 have hcl:∀n,RN.contains n=true->(clR K RN n).isSome=true:=λn hn=>Option.isSome_iff_exists.mpr (XTt.has hn)
 obtain⟨S,mS,xS⟩:=XTt.xcls hB
 obtain⟨CO,hc_NoNumber⟩:=XTt.has (n:="NoNumber") (by decide)
 have mc_NoNumber:=XTt.mgc _ _ (XTt.cls hc_NoNumber).1
 obtain⟨bm_NoNumber,xc_NoNumber,_⟩:=xS.own _ _ hc_NoNumber
 refine⟨f,fd,?_,m,F.kp,F.binds λ_ _ _ _ _ _ us hl=>match us,hl with | [_,_],_=>rfl⟩
 show yz P w K mg base (CX1 P w) 6 f fd ["store","place"] (spX K (clR K RN) (wN (["store","place"]:List Str).length (["store","place"]:List Str).length uz))
 refine wO (N:=["store","place"]) (ps:=["store","place"]) (k:=5) (O:=[]) (body:=uz) (cl:=clR K RN) F qdX ?a ?b
 case a=>decide
 intro cdv A outer s H E B hr
 have L:=uj (P:=P) (w:=w) (K:=K) (mg:=mg) (base:=base) (N:=["store","place"]) (qual:="without") (scope:=qc yp) (f:=f) (cdv:=cdv) (A:=A) (outer:=outer) (s:=s) (H:=H) (E:=E) (c:=cfn [] [] B H (λ_=>False) (λx H'=>∀C,clR K RN x.cls=some C->E (.ref C) none H') λ_=>none) (cl:=clR K RN) rfl (λx C H' h1 h2=>h2 C h1)
 exact (qh (yH (xC L.two hcl Ce hr (qb (qd 0) qf)))
   (qh (zQ (ui (yP (dC CK hr (qb (qd 1) (qb (qd 0) qf))))) (qj (ub rfl L hc_NoNumber rfl mc_NoNumber xc_NoNumber (qb qC qf))) qx)
   (qj (qE (qz qK qL (uw (qd 0) wC (wD (qd 1))) (uw (qd 0) (wD (qz qK qL (qd 1) qk)) wC))))))
theorem qfS:qv ["store","kind"] ["store","kind"] (qc uf):=%[0|1]
theorem q18 (F:Fun K "put_to" "put_to" uf f fd) (m:mg "put_to"=some (.ref f)) (T:Txt K mg) (XTt:XT K mg RN TN) (hB:K.In base) (Cj:Q5 P w K mg base) (Ce:Q7 P w K mg base):Q18 P w K mg base:=by
 have hcl:∀n,RN.contains n=true->(clR K RN n).isSome=true:=λn hn=>Option.isSome_iff_exists.mpr (XTt.has hn)
 obtain⟨S,mS,xS⟩:=XTt.xcls hB
 obtain⟨CQ,hc_TooMany⟩:=XTt.has (n:="TooMany") (by decide)
 have mc_TooMany:=XTt.mgc _ _ (XTt.cls hc_TooMany).1
 obtain⟨bm_TooMany,xc_TooMany,_⟩:=xS.own _ _ hc_TooMany
 obtain⟨CT,hc_NoKind⟩:=XTt.has (n:="NoKind") (by decide)
 have mc_NoKind:=XTt.mgc _ _ (XTt.cls hc_NoKind).1
 obtain⟨bm_NoKind,xc_NoKind,_⟩:=xS.own _ _ hc_NoKind
 refine⟨f,fd,?_,m,F.kp,F.binds λ_ _ _ _ _ _ us hl=>match us,hl with | [_,_],_=>rfl⟩
 show yz P w K mg base (CX1 P w) 6 f fd ["store","kind"] (spX K (clR K RN) (wN (["store","kind"]:List Str).length (["store","kind"]:List Str).length vf))
 refine wO (N:=["store","kind"]) (ps:=["store","kind"]) (k:=5) (O:=[]) (body:=vf) (cl:=clR K RN) F qfS ?a ?b
 case a=>decide
 intro cdv A outer s H E B hr
 have L:=uj (P:=P) (w:=w) (K:=K) (mg:=mg) (base:=base) (N:=["store","kind"]) (qual:="put_to") (scope:=qc uf) (f:=f) (cdv:=cdv) (A:=A) (outer:=outer) (s:=s) (H:=H) (E:=E) (c:=cfn [] [] B H (λ_=>False) (λx H'=>∀C,clR K RN x.cls=some C->E (.ref C) none H') λ_=>none) (cl:=clR K RN) rfl (λx C H' h1 h2=>h2 C h1)
 exact (qh (yH (xC L.two hcl Ce hr (qb (qd 0) qf)))
   (qh (zQ (ui (yP (dC Cj hr (qb (qd 1) qf)))) (qj (ub rfl L hc_NoKind rfl mc_NoKind xc_NoKind (qb qC qf))) qx)
   (qh (zQ (qO (zR hr) qX (qW zg zj rfl T.b_len yC (qb (qd 0) qf)) (gI T.c_KINDS_AT_MOST) (qG _)) (qj (ub rfl L hc_TooMany rfl mc_TooMany xc_TooMany (qb qC qf))) qx)
   (qj (qE (qz qK qL (qd 0) (yA (qb (qd 1) qf))))))))
theorem qav:qv ["words","most"] ["words"] (qc yU):=%[0|1]
theorem q19 (F:Fun K "kind_of" "kind_of" yU f fd) (m:mg "kind_of"=some (.ref f)) (T:Txt K mg) (XTt:XT K mg RN TN) (hB:K.In base) (Cf:Q14 P w K mg base):Q19 P w K mg base:=by
 refine %[f,fd,m,F,[_]|2]
 exact js (N:=["words","most"]) (O:=[]) (body:=qbO) F qav (by decide) λcdv A outer s H E B hr=>(qh (z5 (i:=1) qav.nd (qdt (qO (zR hr) qX (zx j7 zf (qd 0) qk) qC (qG _)) uq (dC Cf hr (qb (zx j7 zf (qd 0) qk) qf))))
   (qj (qE (yA (qb (dC Cf hr (qb (zx j7 zf (qd 0) qk) qf)) (qb (dC Cf hr (qb (zx j7 zf (qd 0) qk) qf)) (qb (qd 1) qf)))))))
theorem qa9:qv ["word"] ["word"] (qc zV):=%[0|1]
theorem q20 (F:Fun K "is_figures" "is_figures" zV f fd) (m:mg "is_figures"=some (.ref f)) (T:Txt K mg) (XTt:XT K mg RN TN) (hB:K.In base):Q20 P w K mg base:=by
 refine %[f,fd,m,F,[_]|2]
 exact js (N:=["word"]) (O:=[]) (body:=vR) F qa9 (by decide) λcdv A outer s H E B hr=>(qh (zQ (DW.dt (qbl (qO (zR hr) qX (qd 0) qC (qG _)) (vL (ui (yP (qW (qaH rfl) wB rfl T.b_all qeU (qb (qaI (fo:=none) rfl (qhr (qd 0)) (cs ["word"] ["sign"] 1 [] (qc zV)) (f0 [] []) (λ_ _ _ _ _ _ _ _ _ _ _=>⟨(zm (i:=0) (nd ["sign"])),qbs,(uP qef qiU (qd 0) (gS T.c_FIGURES) rfl)⟩)) qf))))))) (qj (qE ww)) qx)
   (qj (qE (qh7 (uP (zR hr) qX (qd 0) qC (qG _)) (vM (uP (vO hr) uu (zx j7 zf (qd 0) qk) qC (qG _)))))))
theorem qdY:qv ["word","wanted"] ["word","wanted"] (qc yV):=%[0|1]
theorem q21 (F:Fun K "is_word" "is_word" yV f fd) (m:mg "is_word"=some (.ref f)) (T:Txt K mg) (XTt:XT K mg RN TN) (hB:K.In base) (Cs:Q20 P w K mg base):Q21 P w K mg base:=by
 refine %[f,fd,m,F,[_,_]|2]
 exact js (N:=["word","wanted"]) (O:=[]) (body:=qbP) F qdY (by decide) λcdv A outer s H E B hr=>(qh (zQ (DW.dt (qj6 (qO (zR hr) qX (qd 1) qC (qG _)) (qh5 (qO (zR hr) qX (qd 0) qC (qG _))))) (qj (qE ww)) qx)
   (qh (zQ (DW.dt (qbl (ui (yP (dC Cs hr (qb (qd 0) qf)))) (vL (qO qhM qeE (qW zg zj rfl T.b_len yC (qb (qd 0) qf)) (gI T.c_FIGURES_AT_MOST) (qG _))))) (qj (qE ww)) qx)
   (qj (qE (qh7 (uP (vO hr) uu (qd 1) qC (qG _)) (vM (uP (vO hr) uu (qd 0) qC (qG _))))))))
theorem qaw:qv ["words","wanted"] ["words"] (qc yq):=%[0|1]
theorem q22 (F:Fun K "is_line" "is_line" yq f fd) (m:mg "is_line"=some (.ref f)) (T:Txt K mg) (XTt:XT K mg RN TN) (hB:K.In base) (Cp:Q21 P w K mg base) (hwb:qlG P w K mg "WORDS_BEHIND" wbT):Q22 P w K mg base:=by
 refine %[f,fd,m,F,[_]|2]
 exact js (N:=["words","wanted"]) (O:=[]) (body:=qbR) F qaw (by decide) λcdv A outer s H E B hr=>(qh (z5 (i:=1) qaw.nd (qmk hwb (qb (zx j7 zf (qd 0) qk) qf)))
   (qh (zQ (DW.dt (qbl (qO qbd wy (qd 1) uq (qG _)) (vL (qO (vO hr) uu (qW zg zj rfl T.b_len yC (qb (qd 0) qf)) (qz qK qL (qW zg zj rfl T.b_len yC (qb (qd 1) qf)) qk) (qG _))))) (qj (qE ww)) qx)
   (qj (qE (qW (qaH rfl) wB rfl T.b_all qeU (qb (qaI (fo:=none) rfl (qjb rfl T.b_zip (qb (uw (qd 0) (wD qk) wC) (qb (qd 1) qf))) (cs ["words","wanted"] ["word","part"] 2 [] (qc yq)) (f0 [] []) (λ_ _ _ _ _ _ _ _ _ _ _=>⟨(qbm (n:=2) rfl (jd (zm (i:=0) (nd ["word","part"])) (jd (zm (i:=1) (nd ["word","part"])) wx))),qbs,(dC Cp hr (qb (qd 0) (qb (qd 1) qf)))⟩)) qf))))))
theorem wX:qv ["line","words"] ["line"] (qc jE):=%[0|1]
theorem q23 (F:Fun K "words_of" "words_of" jE f fd) (m:mg "words_of"=some (.ref f)) (T:Txt K mg) (XTt:XT K mg RN TN) (hB:K.In base) (CI:Q22 P w K mg base):Q23 P w K mg base:=by
 obtain⟨S,mS,xS⟩:=XTt.xcls hB
 obtain⟨CS,hc_NoLine⟩:=XTt.has (n:="NoLine") (by decide)
 have mc_NoLine:=XTt.mgc _ _ (XTt.cls hc_NoLine).1
 obtain⟨bm_NoLine,xc_NoLine,_⟩:=xS.own _ _ hc_NoLine
 refine⟨f,fd,?_,m,F.kp,F.binds λ_ _ _ _ _ _ us hl=>match us,hl with | [_],_=>rfl⟩
 show yz P w K mg base (CX1 P w) 4 f fd ["line"] (spX K (clR K RN) (wN (["line","words"]:List Str).length (["line"]:List Str).length vE))
 refine wO (N:=["line","words"]) (ps:=["line"]) (k:=3) (O:=[]) (body:=vE) (cl:=clR K RN) F wX ?a ?b
 case a=>decide
 intro cdv A outer s H E B hr
 have L:=uj (P:=P) (w:=w) (K:=K) (mg:=mg) (base:=base) (N:=["line","words"]) (qual:="words_of") (scope:=qc jE) (f:=f) (cdv:=cdv) (A:=A) (outer:=outer) (s:=s) (H:=H) (E:=E) (c:=cfn [] [] B H (λ_=>False) (λx H'=>∀C,clR K RN x.cls=some C->E (.ref C) none H') λ_=>none) (cl:=clR K RN) rfl (λx C H' h1 h2=>h2 C h1)
 exact (qh (zQ (ui (yP (qbq qii rfl T.b_isinstance rfl T.b_str yR (qd 0) qy))) (qj (ub rfl L hc_NoLine rfl mc_NoLine xc_NoLine (qb qC qf))) qx)
   (qh (z5 (i:=1) wX.nd (qaU PySem.F.slot_str_split PySem.F.type_str_split qgD qci (qd 0) (qb qC qf)))
   (qh (zQ (ui (yP (dC CI hr (qb (qd 1) qf)))) (qj (ub rfl L hc_NoLine rfl mc_NoLine xc_NoLine (qb qC qf))) qx)
   (qj (qE (qd 1))))))
theorem wY:qv ["self","line","words"] ["self","line"] (qc jG):=%[0|1]
theorem q24 (F:Fun K "say" "Desk.say" jG f fd) {C:Addr} (m:zY K "Desk"=some C) (hM:qf6 K C "say" f) (T:Txt K mg) (XTt:XT K mg RN TN) (hB:K.In base) (CM:Q10 P w K mg base) (Ct:Q11 P w K mg base) (Cy:Q13 P w K mg base) (Cf:Q14 P w K mg base) (Co:Q15 P w K mg base) (Cu:Q17 P w K mg base) (CA:Q18 P w K mg base) (CN:Q19 P w K mg base) (CD:Q23 P w K mg base):Q24 P w K mg base:=by
 have hcl:∀n,RN.contains n=true->(clR K RN n).isSome=true:=λn hn=>Option.isSome_iff_exists.mpr (XTt.has hn)
 obtain⟨S,mS,xS⟩:=XTt.xcls hB
 refine⟨C,f,fd,m,(T.dj C m).1,hM,?_,F.binds λ_ _ _ _ _ _ us hl=>match us,hl with | [_,_],_=>rfl⟩
 show yz P w K mg base (CX1 P w) 9 f fd ["self","line"] (spJ K (clR K RN) (qab (["self","line","words"]:List Str).length (["self","line"]:List Str).length zG))
 refine qjq (N:=["self","line","words"]) (ps:=["self","line"]) (k:=8) (O:=[0]) (body:=zG) (cl:=clR K RN) F wY ?a ?a0 ?b
 case a=>decide
 case a0=>decide
 intro cdv A outer s H E B Io S hr
 have L:=uj (P:=P) (w:=w) (K:=K) (mg:=mg) (base:=base) (N:=["self","line","words"]) (qual:="Desk.say") (scope:=qc jG) (f:=f) (cdv:=cdv) (A:=A) (outer:=outer) (s:=s) (H:=H) (E:=E) (c:=qgK [0] B H Io (λx H'=>∀C,clR K RN x.cls=some C->E (.ref C) none H') S) (cl:=clR K RN) rfl (λx C H' h1 h2=>h2 C h1)
 exact (qh (z5 (i:=2) wY.nd (xC L.two hcl CD hr (qb (qd 1) qf)))
   (qh (zQ (qO (zR hr) qX (zx j7 zf (qd 2) qk) qC (qG _)) (qj (qE (mJ (i:=0) L.two hcl Co hr (qb (xC L.two hcl CA hr (qb (qcj (i:=0) T.dj) (qb (dC CN hr (qb (qd 2) qf)) qf))) qf)))) qx)
   (qh (zQ (qO (zR hr) qX (zx j7 zf (qd 2) qk) qC (qG _)) (qj (qE (mJ (i:=0) L.two hcl Co hr (qb (xC L.two hcl Cu hr (qb (qcj (i:=0) T.dj) (qb (dC Cf hr (qb (zx j7 zf (qd 2) qk) qf)) qf))) qf)))) qx)
   (qh (zQ (qO (zR hr) qX (zx j7 zf (qd 2) qk) qC (qG _)) (qj (qE (mJ (i:=0) L.two hcl Cy hr (qb (dC Cf hr (qb (zx j7 zf (qd 2) qk) qf)) qf)))) qx)
   (qh (zQ (qO (zR hr) qX (zx j7 zf (qd 2) qk) qC (qG _)) (qj (qE (mJ0 (i:=0) L.two hcl Ct hr))) qx)
   (qj (qE (xC L.two hcl CM hr (qb (qd 2) (qb (qcj (i:=0) T.dj) (qb (qi2 (i:=0) T.dj) qf)))))))))))
theorem yw:qv ["e","found"] ["e"] (qc zo):=%[0|1]
theorem q25 (F:Fun K "_law_classes" "_law_classes" zo f fd) (m:mg "_law_classes"=some (.ref f)) (T:Txt K mg) (XTt:XT K mg RN TN) (hB:K.In base):Q25 P w K mg base:=by
 have rn0:RN.contains "NoStore"=true:=by decide
 refine⟨f,fd,?_,m,F.kp,F.binds λ_ _ _ _ _ _ us hl=>match us,hl with | [_],_=>rfl⟩
 show qaN P w K mg base CX0 1 f fd ["e"] (spD K (dfn (["e","found"]:List Str).length (["e"]:List Str).length yL))
 refine qcX (N:=["e","found"]) (ps:=["e"]) (k:=0) (O:=[]) (body:=yL) F yw ?a ?b
 case a=>decide
 intro cdv A outer s H E B hr al
 have hal:∀Z σ H',Rep K (cfn [] [] B H (λ_=>False) (λ_ _=>False) λ_=>none) Z σ H'->AloneA (A.deeper (yaU "_law_classes" (qc zo) s.heap.objs.size f cdv)) H':=Sk.AloneA.rep al (λ_ z=>z)
 exact (qh (z5 (i:=1) yw.nd (yO (qb (uT (RN:=RN) (m:="NoStore") (mgl:=mg) XTt (by decide) (by decide) rfl T.b_isinstance rfl (qd 0) (XTt.ask rn0 (by decide)) qy) (qb (uT (RN:=RN) (m:="NoNumber") (mgl:=mg) XTt (by decide) (by decide) rfl T.b_isinstance rfl (qd 0) (XTt.ask rn0 (by decide)) qy) (qb (uT (RN:=RN) (m:="NoLoad") (mgl:=mg) XTt (by decide) (by decide) rfl T.b_isinstance rfl (qd 0) (XTt.ask rn0 (by decide)) qy) (qb (uT (RN:=RN) (m:="TooMany") (mgl:=mg) XTt (by decide) (by decide) rfl T.b_isinstance rfl (qd 0) (XTt.ask rn0 (by decide)) qy) qf))))))
   (qh (z5 (i:=1) yw.nd (qz qK qL (qd 1) (yO (qb (uT (RN:=RN) (m:="NotSingle") (mgl:=mg) XTt (by decide) (by decide) rfl T.b_isinstance rfl (qd 0) (XTt.ask rn0 (by decide)) qy) (qb (uT (RN:=RN) (m:="NotEndless") (mgl:=mg) XTt (by decide) (by decide) rfl T.b_isinstance rfl (qd 0) (XTt.ask rn0 (by decide)) qy) (qb (uT (RN:=RN) (m:="NoKind") (mgl:=mg) XTt (by decide) (by decide) rfl T.b_isinstance rfl (qd 0) (XTt.ask rn0 (by decide)) qy) qf))))))
   (qj (qE (qz qK qL (qd 1) (yO (qb (uT (RN:=RN) (m:="NoLine") (mgl:=mg) XTt (by decide) (by decide) rfl T.b_isinstance rfl (qd 0) (XTt.ask rn0 (by decide)) qy) (qb (uT (RN:=RN) (m:="NoText") (mgl:=mg) XTt (by decide) (by decide) rfl T.b_isinstance rfl (qd 0) (XTt.ask rn0 (by decide)) qy) qf))))))))
theorem qbV:qv ["e","place"] ["e","place"] (qc zW):=%[0|1]
theorem q26 (F:Fun K "_law_only" "_law_only" zW f fd) (m:mg "_law_only"=some (.ref f)) (T:Txt K mg) (XTt:XT K mg RN TN) (hB:K.In base) (Cv:Q25 P w K mg base):Q26 P w K mg base:=by
 have rn0:RN.contains "NoStore"=true:=by decide
 refine⟨f,fd,?_,m,F.kp,F.binds λ_ _ _ _ _ _ us hl=>match us,hl with | [_,_],_=>rfl⟩
 show qaN P w K mg base CX0 2 f fd ["e","place"] (spD K (dfn (["e","place"]:List Str).length (["e","place"]:List Str).length u0))
 refine qcX (N:=["e","place"]) (ps:=["e","place"]) (k:=1) (O:=[]) (body:=u0) F qbV ?a ?b
 case a=>decide
 intro cdv A outer s H E B hr al
 have hal:∀Z σ H',Rep K (cfn [] [] B H (λ_=>False) (λ_ _=>False) λ_=>none) Z σ H'->AloneA (A.deeper (yaU "_law_only" (qc zW) s.heap.objs.size f cdv)) H':=Sk.AloneA.rep al (λ_ z=>z)
 exact (qh (zQ (DW.dt (qbl (ui (yP (uT (RN:=RN) (m:="SackError") (mgl:=mg) XTt (by decide) (by decide) rfl T.b_isinstance rfl (qd 0) (XTt.ask rn0 (by decide)) qy))) (vL (ui (yP (qiM XTt rfl T.b_isinstance rfl T.b_ValueError (qd 0) qy)))))) (qj (qE ww)) qx)
   (qj (qE (uP (qe6 hr) qX (lC hal Cv hr (qb (qd 0) qf)) (qcY (fo:=none) hal (qao rfl T.b_range (qb qk qf)) (cs ["e","place"] ["k","place"] 1 [1] (qc zW)) (f0 [1] []) rfl (λ_ _ _ _ _ _ _ _ _ _ _ hal=>⟨(zm (i:=0) (nd ["k","place"])),qbs,(uP (qe6 hr) qX (qd 0) (qd 1) (qG _))⟩)) (qG _)))))
theorem vU:qv ["desk","line","e"] ["desk","line"] (qc jh):=%[0|1]
theorem q27 (F:Fun K "_law_said" "_law_said" jh f fd) (m:mg "_law_said"=some (.ref f)) (T:Txt K mg) (XTt:XT K mg RN TN) (hB:K.In base) (Cq:Q24 P w K mg base) (CF:Q26 P w K mg base):Q27 P w K mg base:=by
 have hcl:∀n,RN.contains n=true->(clR K RN n).isSome=true:=λn hn=>Option.isSome_iff_exists.mpr (XTt.has hn)
 obtain⟨S,mS,xS⟩:=XTt.xcls hB
 refine⟨f,fd,?_,m,F.kp,F.binds λ_ _ _ _ _ _ us hl=>match us,hl with | [_,_],_=>rfl⟩
 show yz P w K mg base (CX1 P w) 10 f fd ["desk","line"] (spJ K (clR K RN) (qab (["desk","line","e"]:List Str).length (["desk","line"]:List Str).length yt))
 refine qjq (N:=["desk","line","e"]) (ps:=["desk","line"]) (k:=9) (O:=[0]) (body:=yt) (cl:=clR K RN) F vU ?a ?a0 ?b
 case a=>decide
 case a0=>decide
 intro cdv A outer s H E B Io S hr
 exact(qj (qiK (i:=2) vU.nd rfl rfl xS rfl mS (λee H6 al=>have hal:=qmc (K:=K) al;have hr:=qiQ (e:=ee) hr;(qcY (fo:=none) hal (qao rfl T.b_range (qb qk qf)) (cs ["desk","line","e"] ["place","e"] 1 [2] (qc jh)) (f0 [2] []) rfl (λ_ _ _ _ _ _ _ _ _ _ _ hal=>⟨(zm (i:=0) (nd ["place","e"])),(qki (yP (lC hal CF hr (qb (qd 1) (qb (qd 0) qf))))),(qd 0)⟩))) (λxe pn E2 cE L=>(qj (qE (mJ (i:=0) L hcl Cq hr (qb (qd 1) qf)))))))
theorem jW:qv ["store","found","heft","gain","most"] ["store"] (qc jI):=%[0|1]
theorem q28 (F:Fun K "_law_text" "_law_text" jI f fd) (m:mg "_law_text"=some (.ref f)) (T:Txt K mg) (XTt:XT K mg RN TN) (hB:K.In base):Q28 P w K mg base:=by
 refine %[f,fd,m,F,[_]|2]
 exact js (N:=["store","found","heft","gain","most"]) (O:=[1]) (body:=u3) F jW (by decide) λcdv A outer s H E B hr=>(qh (qaJ (i:=1) jW.nd (qhe qf))
   (qh (qbr ybV rfl (qeI (qd 0)) (qbm (n:=3) rfl (jd (zm (i:=2) jW.nd) (jd (zm (i:=3) jW.nd) (jd (zm (i:=4) jW.nd) wx)))) (qj (yH (qbt (i:=1) (qz qK qL (qz qK qL (qz qK qL (qz qK qL (zv qQ zh rfl T.b_str yR (qb (qd 2) qf)) qC) (zv qQ zh rfl T.b_str yR (qb (qd 3) qf))) qC) (qdt (qO qbd wy (qd 4) uq (qG _)) qC (zv qQ zh rfl T.b_str yR (qb (qd 4) qf))))))))
   (qj (qE (qk1 (qiN (i:=1) (qaU yev yew qe9 qap qC (qb (qd 1) qf))) (vM qC))))))
theorem zk:qv ["box","past","store","room","kind","heft","gain","one","line","place","number"] ["box","past"] (qc jJ):=%[0|1]
theorem q29 (F:Fun K "_law_step" "_law_step" jJ f fd) (m:mg "_law_step"=some (.ref f)) (T:Txt K mg) (XTt:XT K mg RN TN) (hB:K.In base) (Cb:Q0 P w K mg base):Q29 P w K mg base:=by
 refine⟨f,fd,?_,m,F.kp,F.binds λ_ _ _ _ _ _ us hl=>match us,hl with | [_,_],_=>rfl⟩
 show yz P w K mg base CX0 2 f fd ["box","past"] (qfo K (qbJ (["box","past","store","room","kind","heft","gain","one","line","place","number"]:List Str).length yu))
 refine qk2 (N:=["box","past","store","room","kind","heft","gain","one","line","place","number"]) (ps:=["box","past"]) (k:=1) (O:=[0,1]) (body:=yu) F zk rfl ?a ?a0 ?a1 ?b
 case a=>decide
 case a0=>decide
 case a1=>decide
 intro cdv A outer s H E B Io S hr
 exact (qh (qeA (qcG (i:=1) (qeT qk)) (qbm (n:=2) rfl (jd (zm (i:=2) zk.nd) (jd (zm (i:=3) zk.nd) wx))))
   (qh (z5 (i:=4) zk.nd (iC (i:=0) Cb hr (qb qk qf)))
   (qh (zQ (qO qf3 qcC (qd 4) qk (qG _)) (qh (qkr (i:=5) (j:=6) zk.nd (qb (qz qK qL qk (iC (i:=0) Cb hr (qb qk qf))) (qb (zx jy jx (yO (qb (iC (i:=0) Cb hr (qb qk qf)) (qb (qz qg1 qeS qk qk) qf))) (qz vJ ur (qd 4) qk)) qf)) rfl)
   (qh (z5 (i:=7) zk.nd (yA (qb (qd 5) (qb (qd 6) (qb (zx jy jx (yO (qb uq (qb (iC (i:=0) Cb hr (qb qk qf)) qf))) (iC (i:=0) Cb hr (qb qk qf))) qf)))))
   (qh (z5 (i:=8) zk.nd (qz qK qL (qz qK qL (qz qK qL (qz qK qL (qz qK qL qC (zv qQ zh rfl T.b_str yR (qb (zx jy jx (qd 7) qk) qf))) qC) (zv qQ zh rfl T.b_str yR (qb (zx jy jx (qd 7) qk) qf))) qC) (qdt (qO qbd wy (zx jy jx (qd 7) qk) uq (qG _)) qC (zv qQ zh rfl T.b_str yR (qb (zx jy jx (qd 7) qk) qf)))))
   (qh (zQ (qO (zR hr) qX (qW zg zj rfl T.b_len yC (qb (qd 2) qf)) qk (qG _)) (qj (qE (yA (qb (qd 8) (qb (yO (qb qk qf)) (qb uq qf)))))) qx)
   (qj (qE (yA (qb (qd 8) (qb (zv qQ zh rfl T.b_str yR (qb (qz qK qL (qW zg zj rfl T.b_len yC (qb (qd 2) qf)) qk) qf)) (qb (yA (qb (qz qK qL (qd 2) (yO (qb (qd 7) qf))) (qb (qd 3) qf))) qf)))))))))) qx)
   (qh (zQ (qO (zR hr) qX (qd 4) qk (qG _)) (qh (z5 (i:=9) zk.nd (iC (i:=0) Cb hr (qb qk qf)))
   (qh (zQ (qO qjS qg7 (qd 9) (qW zg zj rfl T.b_len yC (qb (qd 2) qf)) (qG _)) (qj (qE (yA (qb (qz qK qL qC (zv qQ zh rfl T.b_str yR (qb (qd 9) qf))) (qb (yO (qb qk qf)) (qb uq qf)))))) qx)
   (qj (qE (yA (qb (qz qK qL qC (zv qQ zh rfl T.b_str yR (qb (qd 9) qf))) (qb (zv qQ zh rfl T.b_str yR (qb (qz qg0 qeC (qW zg zj rfl T.b_len yC (qb (qd 2) qf)) qk) qf)) (qb (yA (qb (qz qK qL (uw (qd 2) wC (wD (qd 9))) (uw (qd 2) (wD (qz qK qL (qd 9) qk)) wC)) (qb (qd 3) qf))) qf)))))))) qx)
   (qh (zQ (qO qf3 qcC (qd 4) qk (qG _)) (qh (z5 (i:=10) zk.nd (zx jy jx (yO (qb (iC (i:=0) Cb hr (qb qk qf)) (qb (qz qg0 qeC (qz qg1 qeS qk qk) qk) qf))) (iC (i:=0) Cb hr (qb qk qf))))
   (qj (qE (yA (qb (qz qK qL qC (zv qQ zh rfl T.b_str yR (qb (qd 10) qf))) (qb qC (qb (yA (qb (qd 2) (qb (qd 10) qf))) qf))))))) qx)
   (qj (qE (yA (qb qC (qb (qdt (qO (zR hr) qX (qil (i:=1) rfl T.b_len) qk (qG _)) (yO (qb qk qf)) qC) (qb uq qf)))))))))))
theorem zX:qv ["script","k","here","number","j","part"] ["script","k"] (qc yh):=%[0|1]
theorem q30 (F:Fun K "_law_box" "_law_box" yh f fd) (m:mg "_law_box"=some (.ref f)) (T:Txt K mg) (XTt:XT K mg RN TN) (hB:K.In base):Q30 P w K mg base:=by
 refine %[f,fd,m,F,[_,_]|2]
 exact js (N:=["script","k","here","number","j","part"]) (O:=[]) (body:=uL) F zX (by decide) λcdv A outer s H E B hr=>(qh (z5 (i:=2) zX.nd (qz qK qL (qz uX ua qk (qd 1)) qk))
   (qh (zQ (qO qf3 qcC (qd 1) (qW zg zj rfl T.b_len yC (qb (qd 0) qf)) (qG _)) (qj (z5 (i:=2) zX.nd (zx jy jx (qd 0) (qd 1)))) qx)
   (qh (zQ (qO (zR hr) qX (qz vJ ur (qd 2) qk) qk (qG _)) (qj (qE (yO (qb (qz qbX qaG (qd 2) qk) qf)))) qx)
   (qh (z5 (i:=3) zX.nd qk)
   (qh (qbr ybV rfl (wF rfl T.b_range (qb qk qf)) (zm (i:=4) zX.nd) (qh (z5 (i:=5) zX.nd (qz vJ ur (qz qK qL (qz qK qL (qz uX ua (qz vJ ur (qd 2) qk) qk) (qz uX ua qk (qd 4))) qk) qk))
   (qh (z5 (i:=5) zX.nd (qz vJ ur (qz uX ua (qd 5) (qd 5)) qk))
   (qj (z5 (i:=3) zX.nd (qz qK qL (qz uX ua (qd 3) qk) (qz vJ ur (qz uX ua (qd 5) (qz qK qL (qd 5) qk)) qk)))))))
   (qj (qE (yO (qb (qd 3) qf)))))))))
theorem vj:qv ["script","k","box","desk","past","lap","line","due","later"] ["script"] (qc qa0):=%[0|1]
theorem qlv (F:Fun K "law" "law" qa0 f fd) (T:Txt K mg) (XTt:XT K mg RN TN) (hB:K.In base) (Cb:Q0 P w K mg base) (Ck:Q27 P w K mg base) (CC:Q28 P w K mg base) (CH:Q29 P w K mg base) (CL:Q30 P w K mg base) (Ca:qaW P w K mg base):yz P w K mg base CX0 11 f fd ["script"] (spD K qcn):=by
 show yz P w K mg base CX0 11 f fd ["script"] (spD K (dfn (["script","k","box","desk","past","lap","line","due","later"]:List Str).length (["script"]:List Str).length qgQ))
 refine qgL [3] (N:=["script","k","box","desk","past","lap","line","due","later"]) (ps:=["script"]) (k:=10) (O:=[2,3,4]) (body:=qgQ) F vj ?a ?b
 case a=>decide
 intro cdv A outer s H E B hr
 exact (qh (qbr ybV rfl (wF rfl T.b_range (qb (qW (qeh rfl) qeF rfl T.b_max qks (qb qk (qb (qW (qei rfl) qeG rfl T.b_min qkt (qb (qW zg zj rfl T.b_len yC (qb (qd 0) qf)) (qb qk qf))) qf))) qf)) (zm (i:=1) vj.nd) (qh (qaJ (i:=2) vj.nd (nC CL hr (qb (qd 0) (qb (qd 1) qf))))
   (qh (qgM (i:=3) Ca hr vj.nd)
   (qh (qaJ (i:=4) vj.nd (qiR (qb (yA (qb (yO qf) (qb qk qf))) qf)))
   (qj (qbr ybV rfl (wF rfl T.b_range (qb (iC (i:=2) Cb hr (qb qk qf)) qf)) (zm (i:=5) vj.nd) (qh (qeA (qdQ (i:=2) (j:=4) CH hr) (qbm (n:=3) rfl (jd (zm (i:=6) vj.nd) (jd (zm (i:=7) vj.nd) (jd (zm (i:=8) vj.nd) wx)))))
   (qh (zQ (qO (vO hr) uu (dK (i:=3) Ck hr (qb (qd 6) qf)) (qd 7) (qG _)) (qj (qE ww)) qx)
   (qh (zQ (qO qhN qgg (qd 8) uq (qG _)) (qj (yH (qdP (i:=4) (qd 8)))) (qj (zQ (qO (zR hr) qX (qd 7) qC (qG _)) (qj (yH (qjc (i:=4)))) qx)))
   (qj (zQ (DW.dt (qbl (qO (vO hr) uu (dK (i:=3) Ck hr (qb qC qf)) (dC CC hr (qb (zx jy jx (qcG (i:=4) (qeT qk)) qk) qf)) (qG _)) (vL (qO (vO hr) uu (dK (i:=3) Ck hr (qb qC qf)) (zv qQ zh rfl T.b_str yR (qb (zx jy jx (qcG (i:=4) (qeT qk)) qk) qf)) (qG _))))) (qj (qE ww)) qx)))))))))))
   (qj (qE ww)))
theorem vX:qv ["self"] ["self"] (qc zE):=%[0|1]
theorem qI {f C:Addr} {fd:yaH} (F:Fun K "__init__" "Desk.__init__" zE f fd) (hC:zY K "Desk"=some C) (mC:mg "Desk"=some (.ref C)) (M:Mk K C f) (T:Txt K mg):qaW P w K mg base:=by
 refine⟨C,f,fd,hC,mC,M,qi8 F vX hC T.dj rfl (λX h1 h2=>?_),F.binds λ_ _ _ _ _ _ us hl=>match us,hl with | [_],_=>rfl⟩
 exact⟨zq (by rw[h1];rfl) (by rw[h2];exact yaC rfl),zq (by rw[h1];rfl) (by rw[h2];exact yaC rfl),zq (by rw[h1];rfl) (by rw[h2];exact yaC rfl)⟩
end
theorem all_mk {l:yeb} {w:World} {K:yad} {h:Heap} {mg:Str->Option Value} {fa f0 f1 f2 f3 f4 f5 f6 f7 f8 f9 f10 f11 f12 f13 f14 f15 f16 f17 f18 f19 f20 f21 f22 f23 f24 f25 f26 f27 f28 f29 f30 f31:Addr} (X:K.In h) (G:h.Ns yah mg) (hfa:mg "law"=some (.ref fa))
  {od0 an0 od1 an1 od2 an2 od3 an3 od4 an4 od5 an5 od6 an6 od7 an7 od8 an8 od9 an9 od10 an10 od11 an11 od12 an12 od13 an13 od14 an14 od15 an15 od16 an16 od17 an17 od18 an18 od19 an19 od20 an20 od21 an21 od22 an22 od23 an23 od24 an24 od25 an25 od26 an26 od27 an27 od28 an28 od29 an29 od30 an30 od31 an31:Option Addr} {sl0 sl1 sl2 sl3 sl4 sl5 sl6 sl7 sl8 sl9 sl10 sl11 sl12 sl13 sl14 sl15 sl16 sl17 sl18 sl19 sl20 sl21 sl22 sl23 sl24 sl25 sl26 sl27 sl28 sl29 sl30 sl31:Array (Option Value)} {oc0 kV0 dc0 pm0 cd0 ct0 oc1 kV1 dc1 pm1 cd1 ct1 oc2 kV2 dc2 pm2 cd2 ct2 oc3 kV3 dc3 pm3 cd3 ct3 oc4 kV4 dc4 pm4 cd4 ct4 oc5 kV5 dc5 pm5 cd5 ct5 oc6 kV6 dc6 pm6 cd6 ct6 oc7 kV7 dc7 pm7 cd7 ct7 oc8 kV8 dc8 pm8 cd8 ct8 oc9 kV9 dc9 pm9 cd9 ct9 oc10 kV10 dc10 pm10 cd10 ct10 oc11 kV11 dc11 pm11 cd11 ct11 oc12 kV12 dc12 pm12 cd12 ct12 oc13 kV13 dc13 pm13 cd13 ct13 oc14 kV14 dc14 pm14 cd14 ct14 oc15 kV15 dc15 pm15 cd15 ct15 oc16 kV16 dc16 pm16 cd16 ct16 oc17 kV17 dc17 pm17 cd17 ct17 oc18 kV18 dc18 pm18 cd18 ct18 oc19 kV19 dc19 pm19 cd19 ct19 oc20 kV20 dc20 pm20 cd20 ct20 oc21 kV21 dc21 pm21 cd21 ct21 oc22 kV22 dc22 pm22 cd22 ct22 oc23 kV23 dc23 pm23 cd23 ct23 oc24 kV24 dc24 pm24 cd24 ct24 oc25 kV25 dc25 pm25 cd25 ct25 oc26 kV26 dc26 pm26 cd26 ct26 oc27 kV27 dc27 pm27 cd27 ct27 oc28 kV28 dc28 pm28 cd28 ct28 oc29 kV29 dc29 pm29 cd29 ct29 oc30 kV30 dc30 pm30 cd30 ct30 oc31 kV31 dc31 pm31 cd31 ct31:Value} {tk_FIGURES:Tok} {tk_FIGURES_AT_MOST:Tok} {tk_KINDS_AT_MOST:Tok} {tk_MOST:Tok} {tk_WEIGHT:Tok} {tk_WORTH:Tok} {dC:Addr} {wa wb0 wb1 wb2 wb3 wb4 wb5 wb6 wb7 wb8 wb9 wb10 wb11 wb12:Addr} {wes:Array ydn} {wep:Nat} {wt0 wt1 wt2 wt3 wt4 wt5 wt6 wt7 wt8 wt9 wt10 wt11 wt12 wk0_0 wk0_1 wk0_2 wk1_0 wk2_0 wk12_0:Tok} {wd0 wd1 wd2 wd3 wd4 wd5 wd6 wd7 wd8 wd9 wd10 wd11 wd12:Option Addr} {wi0 wi1 wi2 wi3 wi4 wi5 wi6 wi7 wi8 wi9 wi10 wi11 wi12:Array Value} {wn0 wn1 wn2 wn3 wn4 wn5 wn6 wn7 wn8 wn9 wn10 wn11 wn12:Nat} {wsl0 wsl1 wsl2 wsl3 wsl4 wsl5 wsl6 wsl7 wsl8 wsl9 wsl10 wsl11 wsl12:Array (Option Value)} {fI:Addr} {odI anI:Option Addr} {slI:Array (Option Value)} {ocI kVI dcI pmI cdI ctI:Value}
  (zd:yaj K yah "Desk"=some (some (.ref dC))) (zd1:yb1 K dC yeW=true) (zd2:ycp K dC=true) (zd3:ydB K dC=true) (zd4:yaD K (.ref dC) "__setattr__"=some (some (.builtin "object.__setattr__")))
  (zd5:yaD K (.ref dC) "store"=some none) (zd6:yaD K (.ref dC) "room"=some none) (zd7:yaD K (.ref dC) "past"=some none)
  (zi:yaD K (.ref dC) "__init__"=some (some (.ref fI))) (zi1:ybv K (.ref fI)=true) (zi2:K.lookup fI=some ⟨ocI,odI,.func (yaq "__init__" "Desk.__init__" (qB zE) (qt zE) (qc zE) .none kVI dcI pmI anI cdI ctI),slI⟩) (zi3:yap K cdI "Desk.__init__"=true) (zi4:yai K (.ref fI)=true) (zi5:yd6 K dC=true) (zi6:yai K (.ref dC)=true)
  (a0:%["_law_take",f0|3]) (l0:%["_law_take",jA,0|4]) (c0:%["_law_take",cd0|5]) (k0:%[f0|6])
  (a1:%["figures",f1|3]) (l1:%["figures",yS,1|4]) (c1:%["figures",cd1|5]) (k1:%[f1|6])
  (a2:%["show_kind",f2|3]) (l2:%["show_kind",jB,2|4]) (c2:%["show_kind",cd2|5]) (k2:%[f2|6])
  (a3:%["is_whole",f3|3]) (l3:%["is_whole",ye,3|4]) (c3:%["is_whole",cd3|5]) (k3:%[f3|6])
  (a4:%["is_count",f4|3]) (l4:%["is_count",yf,4|4]) (c4:%["is_count",cd4|5]) (k4:%[f4|6])
  (a5:%["is_kind",f5|3]) (l5:%["is_kind",yT,5|4]) (c5:%["is_kind",cd5|5]) (k5:%[f5|6])
  (a6:%["is_store",f6|3]) (l6:%["is_store",jC,6|4]) (c6:%["is_store",cd6|5]) (k6:%[f6|6])
  (a7:%["need_store",f7|3]) (l7:%["need_store",zS,7|4]) (c7:%["need_store",cd7|5]) (k7:%[f7|6])
  (a8:%["show",f8|3]) (l8:%["show",vQ,8|4]) (c8:%["show",cd8|5]) (k8:%[f8|6])
  (a9:%["store_text",f9|3]) (l9:%["store_text",zT,9|4]) (c9:%["store_text",cd9|5]) (k9:%[f9|6])
  (a10:%["asked_text",f10|3]) (l10:%["asked_text",zU,10|4]) (c10:%["asked_text",cd10|5]) (k10:%[f10|6])
  (a11:yaD K (.ref dC) "go_back"=some (some (.ref f11))) (i11:ybv K (.ref f11)=true) (l11:K.lookup f11=some ⟨oc11,od11,.func (yaq "go_back" "Desk.go_back" (qB zn) (qt zn) (qc zn) .none kV11 dc11 pm11 an11 cd11 ct11),sl11⟩) (c11:yap K cd11 "Desk.go_back"=true) (k11:yai K (.ref f11)=true)
  (a12:yaD K (.ref dC) "keep_past"=some (some (.ref f12))) (i12:ybv K (.ref f12)=true) (l12:K.lookup f12=some ⟨oc12,od12,.func (yaq "keep_past" "Desk.keep_past" (qB qY) (qt qY) (qc qY) .none kV12 dc12 pm12 an12 cd12 ct12),sl12⟩) (c12:yap K cd12 "Desk.keep_past"=true) (k12:yai K (.ref f12)=true)
  (a13:yaD K (.ref dC) "take_room"=some (some (.ref f13))) (i13:ybv K (.ref f13)=true) (l13:K.lookup f13=some ⟨oc13,od13,.func (yaq "take_room" "Desk.take_room" (qB qZ) (qt qZ) (qc qZ) .none kV13 dc13 pm13 an13 cd13 ct13),sl13⟩) (c13:yap K cd13 "Desk.take_room"=true) (k13:yai K (.ref f13)=true)
  (a14:%["number_of",f14|3]) (l14:%["number_of",jD,14|4]) (c14:%["number_of",cd14|5]) (k14:%[f14|6])
  (a15:yaD K (.ref dC) "take_store"=some (some (.ref f15))) (i15:ybv K (.ref f15)=true) (l15:K.lookup f15=some ⟨oc15,od15,.func (yaq "take_store" "Desk.take_store" (qB qT) (qt qT) (qc qT) .none kV15 dc15 pm15 an15 cd15 ct15),sl15⟩) (c15:yap K cd15 "Desk.take_store"=true) (k15:yai K (.ref f15)=true)
  (a16:%["is_place",f16|3]) (l16:%["is_place",yg,16|4]) (c16:%["is_place",cd16|5]) (k16:%[f16|6])
  (a17:%["without",f17|3]) (l17:%["without",yp,17|4]) (c17:%["without",cd17|5]) (k17:%[f17|6])
  (a18:%["put_to",f18|3]) (l18:%["put_to",uf,18|4]) (c18:%["put_to",cd18|5]) (k18:%[f18|6])
  (a19:%["kind_of",f19|3]) (l19:%["kind_of",yU,19|4]) (c19:%["kind_of",cd19|5]) (k19:%[f19|6])
  (a20:%["is_figures",f20|3]) (l20:%["is_figures",zV,20|4]) (c20:%["is_figures",cd20|5]) (k20:%[f20|6])
  (a21:%["is_word",f21|3]) (l21:%["is_word",yV,21|4]) (c21:%["is_word",cd21|5]) (k21:%[f21|6])
  (a22:%["is_line",f22|3]) (l22:%["is_line",yq,22|4]) (c22:%["is_line",cd22|5]) (k22:%[f22|6])
  (a23:%["words_of",f23|3]) (l23:%["words_of",jE,23|4]) (c23:%["words_of",cd23|5]) (k23:%[f23|6])
  (a24:yaD K (.ref dC) "say"=some (some (.ref f24))) (i24:ybv K (.ref f24)=true) (l24:K.lookup f24=some ⟨oc24,od24,.func (yaq "say" "Desk.say" (qB jG) (qt jG) (qc jG) .none kV24 dc24 pm24 an24 cd24 ct24),sl24⟩) (c24:yap K cd24 "Desk.say"=true) (k24:yai K (.ref f24)=true)
  (a25:%["_law_classes",f25|3]) (l25:%["_law_classes",zo,25|4]) (c25:%["_law_classes",cd25|5]) (k25:%[f25|6])
  (a26:%["_law_only",f26|3]) (l26:%["_law_only",zW,26|4]) (c26:%["_law_only",cd26|5]) (k26:%[f26|6])
  (a27:%["_law_said",f27|3]) (l27:%["_law_said",jh,27|4]) (c27:%["_law_said",cd27|5]) (k27:%[f27|6])
  (a28:%["_law_text",f28|3]) (l28:%["_law_text",jI,28|4]) (c28:%["_law_text",cd28|5]) (k28:%[f28|6])
  (a29:%["_law_step",f29|3]) (l29:%["_law_step",jJ,29|4]) (c29:%["_law_step",cd29|5]) (k29:%[f29|6])
  (a30:%["_law_box",f30|3]) (l30:%["_law_box",yh,30|4]) (c30:%["_law_box",cd30|5]) (k30:%[f30|6])
  (a31:%["law",f31|3]) (l31:%["law",qa0,31|4]) (c31:%["law",cd31|5]) (k31:%[f31|6])
  (zb_ValueError:yaj K yah "ValueError"=some none)
  (zb_all:yaj K yah "all"=some none)
  (zb_bool:yaj K yah "bool"=some none)
  (zb_divmod:yaj K yah "divmod"=some none)
  (zb_int:yaj K yah "int"=some none)
  (zb_isinstance:yaj K yah "isinstance"=some none)
  (zb_len:yaj K yah "len"=some none)
  (zb_max:yaj K yah "max"=some none)
  (zb_min:yaj K yah "min"=some none)
  (zb_range:yaj K yah "range"=some none)
  (zb_reversed:yaj K yah "reversed"=some none)
  (zb_str:yaj K yah "str"=some none)
  (zb_tuple:yaj K yah "tuple"=some none)
  (zb_zip:yaj K yah "zip"=some none)
  (xz:qma K RN TN=true)
  (zg_FIGURES:yaj K yah "FIGURES"=some (some (.str "0123456789" tk_FIGURES)))
  (zg_FIGURES_AT_MOST:yaj K yah "FIGURES_AT_MOST"=some (some (.int 30 tk_FIGURES_AT_MOST)))
  (zg_KINDS_AT_MOST:yaj K yah "KINDS_AT_MOST"=some (some (.int 12 tk_KINDS_AT_MOST)))
  (zg_MOST:yaj K yah "MOST"=some (some (.int 2 tk_MOST)))
  (zg_WEIGHT:yaj K yah "WEIGHT"=some (some (.int 0 tk_WEIGHT)))
  (zg_WORTH:yaj K yah "WORTH"=some (some (.int 1 tk_WORTH)))
  (zw:yaj K yah "WORDS_BEHIND"=some (some (.ref wa))) (zws:(wa==ybZ)=false) (zw1:K.lookup wa=some ⟨.type "dict",none,.dict wes wep,#[]⟩) (zw2:wes.toList=[⟨ybp w "kind",.str "kind" wt0,.ref wb0⟩,⟨ybp w "drop",.str "drop" wt1,.ref wb1⟩,⟨ybp w "room",.str "room" wt2,.ref wb2⟩,⟨ybp w "back",.str "back" wt3,.ref wb3⟩,⟨ybp w "store",.str "store" wt4,.ref wb4⟩,⟨ybp w "bears",.str "bears" wt5,.ref wb5⟩,⟨ybp w "best",.str "best" wt6,.ref wb6⟩,⟨ybp w "load",.str "load" wt7,.ref wb7⟩,⟨ybp w "many",.str "many" wt8,.ref wb8⟩,⟨ybp w "shares",.str "shares" wt9,.ref wb9⟩,⟨ybp w "bound",.str "bound" wt10,.ref wb10⟩,⟨ybp w "full",.str "full" wt11,.ref wb11⟩,⟨ybp w "needs",.str "needs" wt12,.ref wb12⟩])
  (zx0:K.lookup wb0=some ⟨.type "tuple",wd0,.seq wi0 wn0,wsl0⟩) (zy0:wi0.toList=[.str "from one on" wk0_0,.str "number" wk0_1,.str "number or end" wk0_2])
  (zx1:K.lookup wb1=some ⟨.type "tuple",wd1,.seq wi1 wn1,wsl1⟩) (zy1:wi1.toList=[.str "number" wk1_0])
  (zx2:K.lookup wb2=some ⟨.type "tuple",wd2,.seq wi2 wn2,wsl2⟩) (zy2:wi2.toList=[.str "number" wk2_0])
  (zx3:K.lookup wb3=some ⟨.type "tuple",wd3,.seq wi3 wn3,wsl3⟩) (zy3:wi3.toList=[])
  (zx4:K.lookup wb4=some ⟨.type "tuple",wd4,.seq wi4 wn4,wsl4⟩) (zy4:wi4.toList=[])
  (zx5:K.lookup wb5=some ⟨.type "tuple",wd5,.seq wi5 wn5,wsl5⟩) (zy5:wi5.toList=[])
  (zx6:K.lookup wb6=some ⟨.type "tuple",wd6,.seq wi6 wn6,wsl6⟩) (zy6:wi6.toList=[])
  (zx7:K.lookup wb7=some ⟨.type "tuple",wd7,.seq wi7 wn7,wsl7⟩) (zy7:wi7.toList=[])
  (zx8:K.lookup wb8=some ⟨.type "tuple",wd8,.seq wi8 wn8,wsl8⟩) (zy8:wi8.toList=[])
  (zx9:K.lookup wb9=some ⟨.type "tuple",wd9,.seq wi9 wn9,wsl9⟩) (zy9:wi9.toList=[])
  (zx10:K.lookup wb10=some ⟨.type "tuple",wd10,.seq wi10 wn10,wsl10⟩) (zy10:wi10.toList=[])
  (zx11:K.lookup wb11=some ⟨.type "tuple",wd11,.seq wi11 wn11,wsl11⟩) (zy11:wi11.toList=[])
  (zx12:K.lookup wb12=some ⟨.type "tuple",wd12,.seq wi12 wn12,wsl12⟩) (zy12:wi12.toList=[.str "number" wk12_0]) :
  ∃fd:yaH,(∀(s:yaa)(v:Value),ydM s fd ⟨[v],[]⟩ [("script",v)])/\∀base:Heap,K.In base->base.Ns yah mg->yz l.prog w K mg base CX0 11 fa fd ["script"] (spD K qcn):=by
 have e:=hfa.symm.trans (yat X G a31)
 cases e
 have hdC:zY K "Desk"=some dC:=by unfold zY;rw[zd]
 have T:Txt K mg:=⟨yaK X G zb_ValueError,yaK X G zb_all,yaK X G zb_bool,yaK X G zb_divmod,yaK X G zb_int,yaK X G zb_isinstance,yaK X G zb_len,yaK X G zb_max,yaK X G zb_min,yaK X G zb_range,yaK X G zb_reversed,yaK X G zb_str,yaK X G zb_tuple,yaK X G zb_zip,⟨_,yat X G zg_FIGURES⟩,⟨_,yat X G zg_FIGURES_AT_MOST⟩,⟨_,yat X G zg_KINDS_AT_MOST⟩,⟨_,yat X G zg_MOST⟩,⟨_,yat X G zg_WEIGHT⟩,⟨_,yat X G zg_WORTH⟩,(λC hC=>by rw[hdC]at hC;cases hC;exact⟨⟨zd1,zd2,zd3,zd4⟩,zd5,zd6,zd7⟩)⟩
 refine⟨yaq "law" "law" (qB qa0) (qt qa0) (qc qa0) .none kV31 dc31 pm31 an31 cd31 ct31,λs v => .of_eq rfl,λbase hB _=>?_⟩
 have XTt:XT K mg RN TN:=⟨xz,qgz X G⟩
 have hwb:qlG l.prog w K mg "WORDS_BEHIND" wbT:=qml (bs:=[("kind",wt0,wb0),("drop",wt1,wb1),("room",wt2,wb2),("back",wt3,wb3),("store",wt4,wb4),("bears",wt5,wb5),("best",wt6,wb6),("load",wt7,wb7),("many",wt8,wb8),("shares",wt9,wb9),("bound",wt10,wb10),("full",wt11,wb11),("needs",wt12,wb12)]) (yat X G zw) zws zw1 zw2 (by decide +kernel) ⟨rfl,⟨_,_,_,_,zx0,_,zy0,rfl,by simp⟩,⟨rfl,⟨_,_,_,_,zx1,_,zy1,rfl,by simp⟩,⟨rfl,⟨_,_,_,_,zx2,_,zy2,rfl,by simp⟩,⟨rfl,⟨_,_,_,_,zx3,_,zy3,rfl,by simp⟩,⟨rfl,⟨_,_,_,_,zx4,_,zy4,rfl,by simp⟩,⟨rfl,⟨_,_,_,_,zx5,_,zy5,rfl,by simp⟩,⟨rfl,⟨_,_,_,_,zx6,_,zy6,rfl,by simp⟩,⟨rfl,⟨_,_,_,_,zx7,_,zy7,rfl,by simp⟩,⟨rfl,⟨_,_,_,_,zx8,_,zy8,rfl,by simp⟩,⟨rfl,⟨_,_,_,_,zx9,_,zy9,rfl,by simp⟩,⟨rfl,⟨_,_,_,_,zx10,_,zy10,rfl,by simp⟩,⟨rfl,⟨_,_,_,_,zx11,_,zy11,rfl,by simp⟩,⟨rfl,⟨_,_,_,_,zx12,_,zy12,rfl,by simp⟩,trivial⟩⟩⟩⟩⟩⟩⟩⟩⟩⟩⟩⟩⟩
 have Ca:qaW l.prog w K mg base:=qI (zc (st:=zE) zi2 zi3 zi4) hdC (yat X G zd) ⟨zi5,zi,zi1,zi6⟩ T
 have Cb:=%[q0,jA,0|7] XTt hB
 have Cc:=%[q1,yS,1|7] XTt hB
 have CG:=%[q2,jB,2|7] XTt hB Cc
 have CJ:=%[q3,ye,3|7] XTt hB
 have Cg:=%[q4,yf,4|7] XTt hB CJ
 have Cj:=%[q5,yT,5|7] XTt hB Cg
 have Cw:=%[q6,jC,6|7] XTt hB Cj
 have Ce:=%[q7,zS,7|7] XTt hB Cw
 have Ch:=%[q8,vQ,8|7] XTt hB CG Ce
 have Cr:=%[q9,zT,9|7] XTt hB Ch
 have CM:=%[q10,zU,10|7] XTt hB Cc Cr
 have Ct:=q11 (P:=l.prog) (w:=w) (base:=base) (zc (st:=zn) l11 c11 k11) hdC ⟨a11,i11,k11⟩ T XTt hB
 have Ci:=q12 (P:=l.prog) (w:=w) (base:=base) (zc (st:=qY) l12 c12 k12) hdC ⟨a12,i12,k12⟩ T XTt hB
 have Cy:=q13 (P:=l.prog) (w:=w) (base:=base) (zc (st:=qZ) l13 c13 k13) hdC ⟨a13,i13,k13⟩ T XTt hB Ci
 have Cf:=%[q14,jD,14|7] XTt hB
 have Co:=q15 (P:=l.prog) (w:=w) (base:=base) (zc (st:=qT) l15 c15 k15) hdC ⟨a15,i15,k15⟩ T XTt hB Cc Ci
 have CK:=%[q16,yg,16|7] XTt hB Cg
 have Cu:=%[q17,yp,17|7] XTt hB CK Ce
 have CA:=%[q18,uf,18|7] XTt hB Cj Ce
 have CN:=%[q19,yU,19|7] XTt hB Cf
 have Cs:=%[q20,zV,20|7] XTt hB
 have Cp:=%[q21,yV,21|7] XTt hB Cs
 have CI:=%[q22,yq,22|7] XTt hB Cp hwb
 have CD:=%[q23,jE,23|7] XTt hB CI
 have Cq:=q24 (P:=l.prog) (w:=w) (base:=base) (zc (st:=jG) l24 c24 k24) hdC ⟨a24,i24,k24⟩ T XTt hB CM Ct Cy Cf Co Cu CA CN CD
 have Cv:=%[q25,zo,25|7] XTt hB
 have CF:=%[q26,zW,26|7] XTt hB Cv
 have Ck:=%[q27,jh,27|7] XTt hB Cq CF
 have CC:=%[q28,jI,28|7] XTt hB
 have CH:=%[q29,jJ,29|7] XTt hB Cb
 have CL:=%[q30,yh,30|7] XTt hB
 exact qlv (P:=l.prog) (w:=w) (base:=base) (zc (st:=qa0) l31 c31 k31) T XTt hB Cb Ck CC CH CL Ca
theorem qmy {K:Fr0} {H:Hp} {a:Addr} {ns:List Int} (hO:qlz H) (hS:SqL K H a (ns.map V.int)):qj4 K H a (ns.map V.int):=by
 rcases hS with(h|h)|h
 ·rcases hO a with z|z
  ·rw[h]at z;cases z
  ·rcases z with⟨_,_,z⟩|⟨_,_,z⟩<;>(rw[h]at z;cases z)
 ·exact .inl h
 ·exact .inr h
theorem walk {l:yeb} {q:yag} {loose:List Str} {XP:(Str->Option Value)->Heap->Prop} {YP:World->Heap->Prop} {d:DefRec} {K:Params->yad} (hn:l.most=some 63) (hdf:d.params.defaults=[])
  (hY:∀(w:World)(h:Heap),YP w h->(K w.params).In h) (hlm:∀(w:World)(mean:ExcName->Option Value)(mg mb:Str->Option Value)(h:Heap)(c Pt:Addr)(pos:Pos),Top q (PySem.W.looseW q loose) mean mg mb h->(K w.params).In h->qb2 (K w.params)=some (c,Pt,pos)->ydf h c Pt/\h.get? Pt=some (ycm #[])/\(K w.params).lookup Pt=none) (hlaw:∀ns:List Int,ns.length<=63->qcn [.fz ns]=.ok (.bl true))
  (F:∀(w:World)(mg:Str->Option Value)(fa:Addr)(h:Heap),(K w.params).In h->h.Ns yah mg->mg d.name=some (.ref fa) ->
   ∃fd:yaH,(∀(s:yaa)(u:Value),ydM s fd ⟨[u],[]⟩ [("script",u)])/\∀base:Heap,(K w.params).In base->base.Ns yah mg->yz l.prog w (K w.params) mg base CX0 11 fa fd ["script"] (spD (K w.params) qcn)) :
  PySem.W.WalkO q loose XP YP l.row.toRowW d [] (λf vs=>yfw f vs) :=
 L2.walk_lam (n:=63) (k:=11) (x:="script") (CX:=λ_=>CX0) (sp:=λw=>spD (K w.params) qcn) (lm:=λw=>(qb2 (K w.params)).map λz=>(z.1,z.2.1,z.2.2,ql2)) hn (by decide) hdf ⟨rfl,by decide,by decide,rfl⟩ hY (λw mean mg mb h c Pt pos z T X e=>by
  cases el:qb2 (K w.params) with
  |none=>rw[el]at e;cases e
  |some p=>obtain⟨c',P',pos'⟩:=p;rw[el]at e;cases e;exact hlm w mean mg mb h _ _ _ T X el) F (λw H a ns hl hO hT hS=>by
  refine⟨[.fz ns],λ_=>False,⟨.ref a,[],rfl,⟨a,rfl,qmy hO hS⟩,rfl⟩,λc P pos e=>⟨hT c P pos ql2 (by rw[e];rfl),λz=>z⟩,?_⟩
  rw[hlaw ns hl]
  exact λv H' _ h=>h) λ_ _ _ _ _ z=>z
end Law
end L2.Sk
open PySem PySem.W PyProof.Rows
set_option maxRecDepth 100000 in
set_option maxHeartbeats 0 in
theorem PySem.Challenge.cw_sackloads_k81_deeds_at_a_desk_holds : PySem.Challenge.rw_sackloads_k81_deeds_at_a_desk.Holds := by
 w_on;o_law;k_head;(case hw=>w_witness2)
 k_fill
 refine L2.Sk.Law.walk (l:=PySem.Challenge.rw_sackloads_k81_deeds_at_a_desk) rfl rfl (λw h Y=>by first|exact PySem.W.kIn_of Y|exact PySem.W.km_in_of Y) ?hlm0 L2.Sk.Law.law_true ?F
 case hlm0=>
  intro w mean mg mb h c Pt pos T X e
  refine L2.Sk.lam_table T X e (d := ?d) ?e1 ?e2
  (case e1=>rfl)
  (case e2=>kernel_rfl)
 case F=>
  intro w mg fa h KX G hmg
  refine' L2.Sk.Law.all_mk KX G hmg ?zd ?zd1 ?zd2 ?zd3 ?zd4 ?zd5 ?zd6 ?zd7 ?zi ?zi1 ?zi2 ?zi3 ?zi4 ?zi5 ?zi6 ?a0 ?l0 ?c0 ?k0 ?a1 ?l1 ?c1 ?k1 ?a2 ?l2 ?c2 ?k2 ?a3 ?l3 ?c3 ?k3 ?a4 ?l4 ?c4 ?k4 ?a5 ?l5 ?c5 ?k5 ?a6 ?l6 ?c6 ?k6 ?a7 ?l7 ?c7 ?k7 ?a8 ?l8 ?c8 ?k8 ?a9 ?l9 ?c9 ?k9 ?a10 ?l10 ?c10 ?k10 ?a11 ?i11 ?l11 ?c11 ?k11 ?a12 ?i12 ?l12 ?c12 ?k12 ?a13 ?i13 ?l13 ?c13 ?k13 ?a14 ?l14 ?c14 ?k14 ?a15 ?i15 ?l15 ?c15 ?k15 ?a16 ?l16 ?c16 ?k16 ?a17 ?l17 ?c17 ?k17 ?a18 ?l18 ?c18 ?k18 ?a19 ?l19 ?c19 ?k19 ?a20 ?l20 ?c20 ?k20 ?a21 ?l21 ?c21 ?k21 ?a22 ?l22 ?c22 ?k22 ?a23 ?l23 ?c23 ?k23 ?a24 ?i24 ?l24 ?c24 ?k24 ?a25 ?l25 ?c25 ?k25 ?a26 ?l26 ?c26 ?k26 ?a27 ?l27 ?c27 ?k27 ?a28 ?l28 ?c28 ?k28 ?a29 ?l29 ?c29 ?k29 ?a30 ?l30 ?c30 ?k30 ?a31 ?l31 ?c31 ?k31 ?zb_ValueError ?zb_all ?zb_bool ?zb_divmod ?zb_int ?zb_isinstance ?zb_len ?zb_max ?zb_min ?zb_range ?zb_reversed ?zb_str ?zb_tuple ?zb_zip ?xz ?zg_FIGURES ?zg_FIGURES_AT_MOST ?zg_KINDS_AT_MOST ?zg_MOST ?zg_WEIGHT ?zg_WORTH ?zw ?zws ?zw1 ?zw2 ?zx0 ?zy0 ?zx1 ?zy1 ?zx2 ?zy2 ?zx3 ?zy3 ?zx4 ?zy4 ?zx5 ?zy5 ?zx6 ?zy6 ?zx7 ?zy7 ?zx8 ?zy8 ?zx9 ?zy9 ?zx10 ?zy10 ?zx11 ?zy11 ?zx12 ?zy12
  (case zd|zd1|zd2|zd3|zd4|zd5|zd6|zd7|zi|zi1|zi2|zi3|zi4|zi5|zi6|a0|l0|c0|k0|a1|l1|c1|k1|a2|l2|c2|k2|a3|l3|c3|k3|a4|l4|c4|k4|a5|l5|c5|k5|a6|l6|c6|k6|a7|l7|c7|k7|a8|l8|c8|k8|a9|l9|c9|k9|a10|l10|c10|k10|a11|i11|l11|c11|k11|a12|i12|l12|c12|k12|a13|i13|l13|c13|k13|a14|l14|c14|k14|a15|i15|l15|c15|k15|a16|l16|c16|k16|a17|l17|c17|k17|a18|l18|c18|k18|a19|l19|c19|k19|a20|l20|c20|k20|a21|l21|c21|k21|a22|l22|c22|k22|a23|l23|c23|k23|a24|i24|l24|c24|k24|a25|l25|c25|k25|a26|l26|c26|k26|a27|l27|c27|k27|a28|l28|c28|k28|a29|l29|c29|k29|a30|l30|c30|k30|a31|l31|c31|k31|zb_ValueError|zb_all|zb_bool|zb_divmod|zb_int|zb_isinstance|zb_len|zb_max|zb_min|zb_range|zb_reversed|zb_str|zb_tuple|zb_zip=>k_is)
  (case xz=>kernel_rfl)
  (case zg_FIGURES|zg_FIGURES_AT_MOST|zg_KINDS_AT_MOST|zg_MOST|zg_WEIGHT|zg_WORTH|zw=>k_is)
  (case zws=>rfl)
  (case zw1=>k_is)
  (case zw2=>rfl)
  (case zx0=>k_is)
  (case zy0=>rfl)
  (case zx1=>k_is)
  (case zy1=>rfl)
  (case zx2=>k_is)
  (case zy2=>rfl)
  (case zx3=>k_is)
  (case zy3=>rfl)
  (case zx4=>k_is)
  (case zy4=>rfl)
  (case zx5=>k_is)
  (case zy5=>rfl)
  (case zx6=>k_is)
  (case zy6=>rfl)
  (case zx7=>k_is)
  (case zy7=>rfl)
  (case zx8=>k_is)
  (case zy8=>rfl)
  (case zx9=>k_is)
  (case zy9=>rfl)
  (case zx10=>k_is)
  (case zy10=>rfl)
  (case zx11=>k_is)
  (case zy11=>rfl)
  (case zx12=>k_is)
  (case zy12=>rfl)
