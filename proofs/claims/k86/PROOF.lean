import PyProof.Rows.All
import Wide.All
import OpenK.AllK
import Wide.FinOn
import Lean
import PyProof.EqAt
import PyProof.EqKinds
import PyProof.TupleCall
import PyProof.ConsumeWalk
import PyProof.StrWalks
import PyProof.IsiPairs
import PyProof.IsiHeapPairs
import KE.KEqDict
import PyProof.NeKinds
import PyProof.FactsAll.dict
import KE.KIsAll
import KE.KTryMore
import PyProof.FString
import PyProof.ExcBaseAll.ValueError
import PyProof.NsDelKeeps
import PyProof.ListStr
import PyProof.Rows.StrJoin2
import KE.RegKIsAll
import KE.RegKTryMore
import PyProof.StrOps2
import PyProof.ZipIter
import PyProof.Rows.FactsT2
import PyProof.WalksEnum
import PyProof.EnumMake
import PyProof.Draws
import KE.KUnpack
import PyProof.CallType
import PyProof.CollectIter
import PyProof.JoinWalk
import PyProof.Rows.StrJoinStr
import PyProof.DictRoads
import PyProof.DictKinds
import PyProof.DictStraight
import PyProof.DictDisplay
import PyProof.ReprRoads
import PyProof.ReprLen
import PyProof.SetRoads
import PyProof.Rows.SetFrom
import PyProof.MinMaxWalk
import PyProof.Rows.CallKwBuiltin
import KE.KMinKey
import PyProof.StrLawsChain
import PyProof.StrLawsTight
import PyProof.Rows.StrNews
import PyProof.Rows.StrSplitCount
import PyProof.DictCalls
import PyProof.SliceSyntax
import PyProof.SumWalk
import PyProof.ReprStr
import PyProof.StrLawsRepr
import KE.KLam
import PyProof.SetKind
import PyProof.CollectWalk
import PyProof.Rows.SortStr
import PyProof.StrLawsReplace
import PyProof.DictWalks
import PyProof.DictItems
import PyProof.DictItemsLoops
import KE.KPairComp
import PyProof.IsiH_list
import KE.KDictOf
import KE.KItemsList
import PyProof.ListNew
import PyProof.SetScanFacts
import PyProof.MeetsSeq2
import PyProof.FactsAll.subtypes_5
import PyProof.ReprHeadsTuple
import PyProof.FString4
import PySem.Challenge.RW_tickrows_k86_whole_boards
open PySem.W renaming Frag→ah,nsIn→cQ,mg_of→eR,fnOf→fI,mg_none_of→ju,emptyDict→mF,keepIn→lj,findIn→mC,instObj→nS,codeIn→nQ,cellsFrom_some→vn,callWith_K→yA,plainGet→yv,plainGet_of→Ca,lookIn→yp,methodObj→B6,hasDictIn→B5
open PySem.Heap renaming get?_push_of_some→aW,lt_size→aV,get?_push_size→cN,size_push→kc,SameBut→j9,FlyingW→pI,get?_update_self→yJ,get?_update_other→Cj
open List renaming replicate→a7,mem_cons_self→bH,mem_cons→ba,mem_cons_of_mem→cy,map_cons→bG,getElem?_eq_some_iff→ej,mem_append_right→eh,mem_append_left→eT,all_eq_true→dO,length_cons→eg,length_map→ef,mem_map→df,filterMap_cons→fX,mem_append→eC,not_mem_nil→fJ,size_toArray→gx,getElem?_set_ne→jy,mem_of_getElem?→kg,length_append→jw,getElem?_eq_getElem→mI,mem_singleton→jv,find?_cons→il,getElem?_map→jt,lookup_cons→js,replicate_succ→ly,Nodup→fj,mem_filter→jr,length_pos_iff→mH,range→fV,length_filter_le→nZ,getElem?_append_right→rR,getElem?_set_self→pF,append_assoc→mG,nil_append→lq,getElem?_append_left→rQ,map_nil→jq,forall_mem_cons→pE,flatten_cons→nX,length_nil→mD,drop_eq_getElem_cons→vq,append_nil→nV,nodup_cons→nU,all_cons→mz,map_map→my,foldl_cons→pD,length_replicate→vm,getD_eq_getElem?_getD→yi,any_cons→nO,length_eq_zero_iff→yN,filter_eq_nil_iff→yM,filter_cons→vz,drop_length→vy,lookup→pH,getLastD_eq_getLast?→Co,map_append→vx,of_mem_zip→vw,mem_filterMap→yB,getElem?_replicate→Cm,cons_append→yx,getElem_mem→yw,forIn_cons→yr,getElem_toArray→Cf,replicate_zero→Ce,getElem?_range→Cd,eraseDups_cons→Cb,ext_getElem?→B7
open Nat renaming le_refl→bc,lt_of_lt_of_le→cB,ne_of_lt→bJ,le_trans→c9,lt_irrefl→fm,zero_le→gw,le_add_right→kf,add_sub_cancel_left→vp,not_lt→mJ,le_of_lt→rX,lt_trans→rW,lt_succ_of_lt→yy,le_succ→rV,lt_succ_self→yu,ne_of_gt→vt,lt_of_le_of_lt→B8
open Bool renaming false_eq_true→cT,false_ne_true→fo,eq_iff_iff→ke,and_eq_true→nW,and_eq_true_iff→yH,not_true→rZ,not_false→vv,true_and→yo
open PySem.Value renaming ref→bI,isStrOf→eS,none→gu,type→n5,builtin→rY,str→pG
open Option renaming isSome_iff_exists→i0,map_eq_some_iff→iZ,getD_some→r9,isSome_some→vC,isSome_map→vB,isSome_none→yC
open Or renaming inl→bw,inr→dj
open Ne renaming symm→bY
open False renaming elim→dq
open PySem renaming boot_len→fW,mem_of_lookup→jx
open Option.some renaming inj→gZ,injEq→vA
open PySem.Builtin.Dict renaming dictSlotArgs→n4
open PySem.Builtin.SmallTypes renaming nextOf→n3,ownedTupleIsFree→yj,ownedTupleHandOut→J9
open PySem.Calls renaming spliced_cons→lr,spliced_nil→mE,callWith_builtin→yL,evalArgs_plain→yI,Name_function_global→Cr
open PyProof.Rows renaming callWith_type1→rS,callWith_builtin1→Cs
open Array renaming toList→iY,getElem?_eq_some_iff→Cp
open PySem.F renaming called_set→nY,plainAttrs_list→vo,slot_tuple_iterator_next→yP,slot_list_getattribute→yO,slot_dict_get→yK,slot_dict_eq→yF,slot_dict_ne→yE,plainAttrs_dict→Ck,slot_list_append→Ci,slot_zip_next→yq
open PySem.PyData renaming keyHash→lh
open ForInStep renaming yield→nR
open PyProof.Rows.F renaming plain_set_update_loop→B4,entry_set_update_loop→J8
open PySem.NameKind renaming cell→n6,free→pJ
open True renaming intro→lA
open PySem.SeqAt renaming EqAt→mK,RcNeAt→yk
open PySem.Around renaming under_plainId→yG,frames_deeper→Cg,under→ym
open Int renaming emod_lt_of_pos→yD,emod_nonneg→yt
open PySem.Builtin.List renaming listTooLong→Cn
open PySem.Obj renaming data_mapFields→yz
open List.Nodup renaming length_le_of_subset→J7
open PySem.Str renaming length→rT
open PySem.Heap.SameBut renaming update→B9
open PySem.Paired renaming length→yn
open PySem.Builtin.ObjectAttr renaming bindTo→J6,find→J5
noncomputable section
set_option Elab.async false
set_option compiler.extract_closed false
set_option linter.all false
set_option maxRecDepth 100000
namespace L2
inductive Dt where
 |aI | bl (b:Bool) | int (i:Int) | str (l:List Nat) | tup (ds:List Dt) | lst (ds:List Dt)
 |aj (kvs:List (List Nat×List Nat))
noncomputable def ay {α β:Type}[BEq α](kvs:List (α×β))(k:α):Option β:=(kvs.find? fun p=>p.1==k).map (·.2)
noncomputable def nC (ka kb:List (List Nat×List Nat)):Bool:=ka.length==kb.length&&ka.all fun p=>ay kb p.1==some p.2
noncomputable def o9 (ka kb:List (List Nat×List Nat)):Bool:=ka==kb || nC ka kb
mutual
noncomputable def bV:Dt->Dt->Bool
 |.aI,.aI=>true
 |.bl a,.bl b=>a==b
 |.int a,.int b=>a==b
 |.bl a,.int b=>(if a then 1 else 0)==b
 |.int a,.bl b=>a==(if b then 1 else 0)
 |.str a,.str b=>a==b
 |.tup a,.tup b=>ig a b
 |.lst a,.lst b=>ig a b
 |.aj a,.aj b=>o9 a b
 |_,_=>false
noncomputable def ig:List Dt->List Dt->Bool
 | [],[]=>true
 |a::r,b::t=>bV a b&&ig r t
 |_,_=>false
end
mutual
noncomputable def dep:Dt->Nat
 |.tup ds=>e8 ds+1
 |.lst ds=>e8 ds+1
 |.aj _=>1
 |_=>0
noncomputable def e8:List Dt->Nat
 | []=>0
 |d::ds=>max (dep d) (e8 ds)
end
mutual
noncomputable def sm:Dt->Prop
 |.str l=>l.length<=10000
 |.tup ds=>ds.length<=10000/\bC ds
 |.lst ds=>ds.length<=10000/\bC ds
 |.aj kvs=>kvs.length<=10000/\∀p∈kvs,p.1.length<=10000/\p.2.length<=10000
 |_=>True
noncomputable def bC:List Dt->Prop
 | []=>True
 |d::ds=>sm d/\bC ds
end
theorem ix {d:Dt}:∀{ds:List Dt},bC ds->d∈ds->sm d
 |e::ds,h,hd=>by
  simp only [bC] at h;rcases ba.mp hd with z | z
  ·subst z; exact h.1
  ·exact ix h.2 z
theorem mS:∀{ds:List Dt},(∀d∈ds,sm d)->bC ds
 | [],_=>by simp only [bC]
 |d::ds,h=>by
  simp only [bC];exact⟨h d bH,mS fun e he=>h e (cy _ he)⟩
theorem tG {a b:List Dt}(ha:bC a)(hb:bC b):bC (a++b):=mS fun d hd=>by
 rcases eC.mp hd with h | h
 ·exact ix ha h
 ·exact ix hb h
inductive M (α:Type) where
 |ok (a:α) | ex (c:Nat) | bad
noncomputable def M.bd {α β:Type}:M α->(α->M β)->M β
 |.ok a,k=>k a
 |.ex c,_=>.ex c
 |.bad,_=>.bad
noncomputable def M.calm {α:Type}:M α->M α
 |.ex _=>.bad
 |m=>m
@[simp] theorem bz {α β:Type}(a:α)(k:α->M β):(M.ok a).bd k=k a:=.trans rfl rfl
@[simp] theorem afn {α β:Type}(c:Nat)(k:α->M β):(M.ex c).bd k=.ex c:=.trans rfl rfl
@[simp] theorem afo {α β:Type}(k:α->M β):(M.bad).bd k=.bad:=.trans rfl rfl
@[simp] theorem iL {α:Type}(a:α):(M.ok a).calm=.ok a:=.trans rfl rfl
@[simp] theorem aeU {α:Type}:(M.bad:M α).calm=.bad:=.trans rfl rfl
theorem ajn {α β:Type}(c:Prop)[Decidable c](a b:M α)(k:α->M β):(if c then a else b).bd k=if c then a.bd k else b.bd k:=by split <;> rfl
theorem afp {α β γ:Type}(m:M α)(f:α->M β)(g:β->M γ):(m.bd f).bd g=m.bd fun a=>(f a).bd g:=by cases m <;> rfl
inductive Bd where
 |no | val (d:Dt) | own (ds:List Dt) | bT (kvs:List (List Nat×List Nat))
 |aQ (dn un:List Dt)
 |bor (p:Option Nat) (dn un:List Dt)
noncomputable abbrev aa:=List Bd
noncomputable def gv:Option Bd->M Dt
 |some (.val d)=>.ok d
 |_=>.bad
noncomputable def ae (i:Nat)(ρ:aa):M Dt:=gv ρ[i]?
noncomputable def mW (i:Nat)(d:Dt)(ρ:aa):aa:=ρ.set i (.val d)
noncomputable def CU:Option Bd->Bd
 |some (.val d)=>.val d
 |_=>.no
noncomputable def bQ (k:Nat)(fr:List Nat)(ρ:aa):aa:=a7 k .no++fr.map fun j=>CU ρ[j]?
noncomputable def pC (d:Dt):aa->M Dt:=fun _=>.ok d
noncomputable def p2 (op:Dt->Dt->M Dt)(f g:aa->M Dt):aa->M Dt:=fun ρ=>(f ρ).bd fun x=>(g ρ).bd fun y=>op x y
noncomputable def p1 (op:Dt->M Dt)(f:aa->M Dt):aa->M Dt:=fun ρ=>(f ρ).bd op
noncomputable def lG (l:List Nat):M Dt:=if l.length<=10000 then .ok (.str l) else .bad
noncomputable def gE (l:List Dt):M Dt:=if l.length<=10000 then .ok (.lst l) else .bad
noncomputable def cG:Dt->Dt->M Dt
 |.int a,.int b=>.ok (.int (a+b))
 |.str a,.str b=>lG (a++b)
 |.lst a,.lst b=>gE (a++b)
 |_,_=>.bad
noncomputable def Zb:Dt->Dt->M Dt
 |.int a,.int b=>.ok (.int (a - b))
 |_,_=>.bad
noncomputable def ze (a:Int):Prop:=-(2 ^ 64)<a/\a<2 ^ 64
noncomputable instance (a:Int):Decidable (ze a):=by unfold ze; infer_instance
noncomputable def jN:Dt->Dt->M Dt
 |.int a,.int b=>if ze a∨ze b then .ok (.int (a * b)) else .bad
 |.str a,.int n=>if -1000<=n/\n<=1000/\a.length<=1000 then lG (a7 n.toNat a).flatten else .bad
 |_,_=>.bad
noncomputable def oMod:Dt->Dt->M Dt
 |.int a,.int b=>if 0<b then .ok (.int (a % b)) else .bad
 |_,_=>.bad
noncomputable def oDiv:Dt->Dt->M Dt
 |.int a,.int b=>if 0<b/\b<1073741824 then .ok (.int (a / b)) else .bad
 |_,_=>.bad
noncomputable def Ze:Dt->Dt->M Dt
 |.int a,.int b=>if 0<=b/\b<=1000/\a.natAbs<2 ^ 64 then .ok (.int (a ^ b.toNat)) else .bad
 |_,_=>.bad
noncomputable def Zc:Dt->Dt->M Dt
 |.int a,.int b=>if 0<=b then .ok (.int (a / 2 ^ b.toNat)) else .bad
 |_,_=>.bad
noncomputable def Zi:Dt->M Dt
 |.int a=>if 0<=a then .ok (.int (a % 2)) else .bad
 |_=>.bad
noncomputable def wy:Dt->M Dt
 |.int a=>.ok (.int (-a))
 |_=>.bad
noncomputable def oLt:Dt->Dt->M Dt
 |.int a,.int b=>.ok (.bl (decide (a<b)))
 |_,_=>.bad
noncomputable def oLe:Dt->Dt->M Dt
 |.int a,.int b=>.ok (.bl (decide (a<=b)))
 |_,_=>.bad
noncomputable def oG:Dt->Dt->M Dt
 |.int a,.int b=>.ok (.bl (decide (b<a)))
 |_,_=>.bad
noncomputable def Zg:Dt->Dt->M Dt
 |.int a,.int b=>.ok (.bl (decide (b<=a)))
 |_,_=>.bad
noncomputable def oEq (a b:Dt):M Dt:=if dep a<=50 then .ok (.bl (bV a b)) else .bad
noncomputable def eW (a b:Dt):M Dt:=if dep a<=50 then .ok (.bl (!bV a b)) else .bad
noncomputable def l9:Dt->Bool
 |.aI=>true
 |.bl _=>true
 |.int _=>true
 |.str _=>true
 |_=>false
noncomputable def fN:Dt->Dt->M Dt
 |.str [c],.str l=>.ok (.bl (decide (c∈l)))
 |a,.lst ds=>if l9 a=true/\ds.all l9=true then .ok (.bl (ds.any fun d=>bV d a)) else .bad
 |a,.tup ds=>if l9 a=true/\ds.all l9=true then .ok (.bl (ds.any fun d=>bV d a)) else .bad
 |_,_=>.bad
noncomputable def wx:Dt->M Dt
 |.bl b=>.ok (.bl (!b))
 |_=>.bad
noncomputable def zQ (a b:Dt):M Dt:=(fN a b).bd wx
noncomputable def Oc:Dt->Bool
 |.aI=>true
 |_=>false
noncomputable def zR (a b:Dt):M Dt:=match b with
 |.aI=>.ok (.bl (Oc a))
 |.bl y=>(match a with | .bl x=>.ok (.bl (x==y)) | _=>.bad)
 |_=>.bad
noncomputable def Zf (a b:Dt):M Dt:=(zR a b).bd wx
noncomputable def t4 (n:Nat)(i:Int):Option Nat:=if 0<=i then (if i<n then some i.toNat else none) else if -(n:Int)<=i then some (i+n).toNat else none
noncomputable def cA {α:Type}(xs:List α)(i:Int):Option α:=(t4 xs.length i).bind fun j=>xs[j]?
noncomputable def Ah:Option Nat->M Dt
 |some c=>.ok (.str [c])
 |none=>.bad
noncomputable def qC:Option Dt->M Dt
 |some d=>.ok d
 |none=>.bad
noncomputable def aO:Dt->Dt->M Dt
 |.str l,.int i=>Ah (cA l i)
 |.lst l,.int i=>qC (cA l i)
 |.tup l,.int i=>qC (cA l i)
 |_,_=>.bad
noncomputable def DZ (n d:Nat):Option Int->Nat
 |none=>d
 |some i=>if i<0 then (i+n).toNat else min i.toNat n
noncomputable def A9 {α:Type}(l:List α)(lo hi:Option Int):List α:=(l.drop (DZ l.length 0 lo)).take (DZ l.length l.length hi - DZ l.length 0 lo)
noncomputable def ME (lo hi:Option Int):Dt->M Dt
 |.str l=>.ok (.str (A9 l lo hi))
 |.lst l=>.ok (.lst (A9 l lo hi))
 |_=>.bad
noncomputable def Og:Dt->M Int
 |.int i=>.ok i
 |_=>.bad
noncomputable def wq:Option (aa->M Dt)->aa->M (Option Int)
 |none,_=>.ok none
 |some f,ρ=>(f ρ).bd fun d=>(Og d).bd fun i=>.ok (some i)
noncomputable def XO (f:aa->M Dt)(lo hi:aa->M (Option Int)):aa->M Dt:=fun ρ=>(f ρ).bd fun d=>(lo ρ).bd fun a=>(hi ρ).bd fun b=>ME a b d
noncomputable def i7:Dt->M Bool
 |.bl b=>.ok b
 |_=>.bad
noncomputable def a6 (f:aa->M Dt):aa->M Bool:=fun ρ=>(f ρ).bd i7
noncomputable def tu (f:aa->M Bool):aa->M Bool:=fun ρ=>(f ρ).bd fun b=>.ok (!b)
noncomputable def U2 (f g:aa->M Bool):aa->M Bool:=fun ρ=>(f ρ).bd fun b=>if b=true then g ρ else .ok false
noncomputable def lE (f g:aa->M Bool):aa->M Bool:=fun ρ=>(f ρ).bd fun b=>if b=true then .ok true else g ρ
noncomputable def XT (f g:aa->M Dt):aa->M Dt:=fun ρ=>(f ρ).bd fun d=>(i7 d).bd fun b=>if b=true then g ρ else .ok (.bl false)
noncomputable def XR (f g:aa->M Dt):aa->M Dt:=fun ρ=>(f ρ).bd fun d=>(i7 d).bd fun b=>if b=true then .ok (.bl true) else g ρ
noncomputable def jM (c:aa->M Bool)(f g:aa->M Dt):aa->M Dt:=fun ρ=>(c ρ).bd fun b=>if b=true then f ρ else g ρ
noncomputable def zK (op cM:Dt->Dt->M Dt)(f g h:aa->M Dt):aa->M Dt:=fun ρ=>(f ρ).bd fun x=>(g ρ).bd fun y=>(op x y).bd fun d=>(i7 d).bd fun b=>if b=true then (h ρ).bd fun z=>cM y z else .ok (.bl false)
noncomputable def au:aa->M (List Dt):=fun _=>.ok []
noncomputable def ag (f:aa->M Dt)(g:aa->M (List Dt)):aa->M (List Dt):=fun ρ=>(f ρ).bd fun d=>(g ρ).bd fun ds=>.ok (d::ds)
noncomputable def gR (f:aa->M (List Dt)):aa->M Dt:=fun ρ=>(f ρ).bd fun ds=>gE ds
noncomputable def fw (f:aa->M (List Dt)):aa->M Dt:=fun ρ=>(f ρ).bd fun ds=>if ds.length<=10000 then .ok (.tup ds) else .bad
noncomputable def qh (ds:List Dt):Dt->M Dt
 |.int n=>if -1000<=n/\n<=1000/\ds.length * n.toNat<=10000 then .ok (.lst (a7 n.toNat ds).flatten) else .bad
 |_=>.bad
noncomputable def EC (f:aa->M (List Dt))(g:aa->M Dt):aa->M Dt:=fun ρ=>(f ρ).bd fun ds=>if ds.length<=10000 then (g ρ).bd (qh ds) else .bad
noncomputable def aN (F:List Dt->M Dt)(f:aa->M (List Dt)):aa->M Dt:=fun ρ=>(f ρ).bd F
noncomputable def eu:List Dt->M Dt
 | [.str l]=>.ok (.int l.length)
 | [.lst l]=>.ok (.int l.length)
 | [.tup l]=>.ok (.int l.length)
 |_=>.bad
noncomputable def Bm:List Dt->M Dt
 | [.int i,.int j]=>.ok (.int (if j<i then j else i))
 |_=>.bad
noncomputable def afu:List Dt->M Dt
 | [.int i,.int j]=>.ok (.int (if j > i then j else i))
 |_=>.bad
noncomputable def bools:List Dt->Option (List Bool)
 | []=>some []
 |.bl b::r=>(bools r).map (b :: ·)
 |_=>none
noncomputable def va (k:List Bool->Bool):Option (List Bool)->M Dt
 |some bs=>.ok (.bl (k bs))
 |none=>.bad
noncomputable def xQ:List Dt->M Dt
 | [.lst l]=>va (fun bs=>bs.all id) (bools l)
 |_=>.bad
noncomputable def afv:List Dt->M Dt
 | [.lst l]=>va (fun bs=>bs.any id) (bools l)
 |_=>.bad
noncomputable def eF (l:List Nat):List Dt:=l.map fun c=>.str [c]
noncomputable def Ri:List Dt->M Dt
 | [.lst l]=>.ok (.lst l)
 | [.tup l]=>.ok (.lst l)
 | [.str l]=>.ok (.lst (eF l))
 |_=>.bad
noncomputable def Rj:List Dt->M Dt
 | [.int i]=>.ok (.int i)
 | [.bl b]=>.ok (.int (if b then 1 else 0))
 | [.str [c]]=>if 48<=c/\c<=57 then .ok (.int ((c:Int) - 48)) else .bad
 |_=>.bad
noncomputable def aft:List Dt->M Dt
 | [.int i]=>if 0<=i/\i<=9 then .ok (.str [48+i.toNat]) else .bad
 |_=>.bad
noncomputable def kn:List Dt->Option (List (List Nat))
 | []=>some []
 |.str l::r=>(kn r).map (l :: ·)
 |_=>none
noncomputable abbrev Sel:=Dt->Option (List Dt->M Dt)
noncomputable def Ag:Option (List (List Nat))->M Dt
 |some ls=>lG ls.flatten
 |none=>.bad
noncomputable def joinM:List Dt->M Dt
 | [.lst ds]=>Ag (kn ds)
 |_=>.bad
noncomputable def m9:Sel
 |.str []=>some joinM
 |_=>none
noncomputable def HU (l:List Nat):List Dt->M Dt
 | [.str [c]]=>.ok (.int (l.count c))
 |_=>.bad
noncomputable def ZX:Sel
 |.str l=>some (HU l)
 |_=>none
noncomputable def qw:Option (List Dt->M Dt)->M (List Dt)->M Dt
 |some k,m=>m.bd k
 |none,_=>.bad
noncomputable def oE (m:Sel)(f:aa->M Dt)(g:aa->M (List Dt)):aa->M Dt:=fun ρ=>(f ρ).bd fun d=>qw (m d) (g ρ)
noncomputable abbrev IM:=aa->M (List Dt)
noncomputable def dS:Dt->M (List Dt)
 |.lst l=>.ok l
 |.tup l=>.ok l
 |.str l=>.ok (eF l)
 |_=>.bad
noncomputable def fP (f:aa->M Dt):IM:=fun ρ=>(f ρ).bd dS
noncomputable def eI (lo hi:Int):List Dt:=(fV (hi - lo).toNat).map fun(k:Nat)=>.int (lo+(k:Nat))
noncomputable def tJ:List Dt->M (List Dt)
 | [.int n]=>if -1000000<=n/\n<=10000 then .ok (eI 0 n) else .bad
 |_=>.bad
noncomputable def zm:List Dt->M (List Dt)
 | [.int a,.int b]=>if -1000000<=a/\a<=1000000/\-1000000<=b/\b<=1000000/\b - a<=10000 then .ok (eI a b) else .bad
 |_=>.bad
noncomputable def i4 (a b:List Dt):List Dt:=(a.zip b).map fun p=>.tup [p.1,p.2]
noncomputable def Sw:List Dt->M (List Dt)
 | [x,y]=>(dS x).bd fun a=>(dS y).bd fun b=>.ok (i4 a b)
 |_=>.bad
noncomputable def Cv (a b c:List Dt):List Dt:=(a.zip (b.zip c)).map fun p=>.tup [p.1,p.2.1,p.2.2]
noncomputable def Su:List Dt->M (List Dt)
 | [x,y,z]=>(dS x).bd fun a=>(dS y).bd fun b=>(dS z).bd fun c=>.ok (Cv a b c)
 |_=>.bad
noncomputable def HE (a:List Dt):List Dt:=(fV a.length).zipWith (fun(i:Nat) d=>.tup [.int (i:Nat),d]) a
noncomputable def adK:List Dt->M (List Dt)
 | [x]=>(dS x).bd fun a=>.ok (HE a)
 |_=>.bad
noncomputable def WI:List Dt->M (List Dt)
 | [x]=>(dS x).bd fun a=>.ok a.reverse
 |_=>.bad
noncomputable def kJ (k:List Dt->M (List Dt))(f:aa->M (List Dt)):IM:=fun ρ=>(f ρ).bd k
noncomputable abbrev GM:=Dt->aa->M aa
noncomputable def aL (i:Nat):GM:=fun d ρ=>.ok (mW i d ρ)
noncomputable def kS:List Dt->aa->M aa
 | [],ρ=>.ok ρ
 |_,_=>.bad
noncomputable def dZ (g:GM)(gs:List Dt->aa->M aa):List Dt->aa->M aa
 |d::ds,ρ=>(g d ρ).bd fun aX=>gs ds aX
 |_,_=>.bad
noncomputable def iI (n:Nat)(gs:List Dt->aa->M aa):GM
 |.tup ds,ρ=>if ds.length=n then gs ds ρ else .bad
 |.lst ds,ρ=>if ds.length=n then gs ds ρ else .bad
 |_,_=>.bad
noncomputable def ff (g:GM)(tc:aa->M Bool)(te:aa->M Dt)(ρ0:aa):List Dt->M (List Dt)
 | []=>.ok []
 |d::ds=>(g d ρ0).bd fun aX=>(tc aX).bd fun b=>if b=true then (te aX).bd fun x=>(ff g tc te ρ0 ds).bd fun xs=>.ok (x::xs) else ff g tc te ρ0 ds
noncomputable def cO:aa->M Bool:=fun _=>.ok true
noncomputable def dy (k:Nat)(fr:List Nat)(it:IM)(g:GM)(tc:aa->M Bool)(te:aa->M Dt):aa->M Dt:=fun ρ=>(it ρ).bd fun ds=>(ff g tc te (bQ k fr ρ) ds).calm.bd gE
inductive Fl where
 |nx (ρ:aa) | rt (d:Dt) | bk (ρ:aa) | ct (ρ:aa)
noncomputable abbrev SM:=aa->M Fl
noncomputable def dw:SM:=fun ρ=>.ok (.nx ρ)
noncomputable def tF (t:SM):Fl->M Fl
 |.nx ρ=>t ρ
 |f=>.ok f
noncomputable def aZ (s t:SM):SM:=fun ρ=>(s ρ).bd (tF t)
noncomputable def bR (f:aa->M Dt):SM:=fun ρ=>(f ρ).bd fun d=>.ok (.rt d)
noncomputable def iy (f:aa->M Dt):SM:=fun ρ=>(f ρ).bd fun _=>.ok (.nx ρ)
noncomputable def cP (f:aa->M Dt)(g:GM):SM:=fun ρ=>(f ρ).bd fun d=>(g d ρ).calm.bd fun ρ'=>.ok (.nx ρ')
noncomputable def Iq (i:Nat)(ρ:aa)(n:Int):Dt->M Fl
 |.int k=>.ok (.nx (mW i (.int (n+k)) ρ))
 |_=>.bad
noncomputable def Ip (i:Nat)(f:aa->M Dt)(ρ:aa):Option Bd->M Fl
 |some (.val (.int n))=>(f ρ).bd (Iq i ρ n)
 |_=>.bad
noncomputable def Wr (i:Nat)(f:aa->M Dt):SM:=fun ρ=>Ip i f ρ ρ[i]?
noncomputable def dI (c:aa->M Bool)(s t:SM):SM:=fun ρ=>(c ρ).bd fun b=>if b=true then s ρ else t ρ
noncomputable def fork (k:SM):Fl->M Fl
 |.nx ρ=>k ρ
 |.ct ρ=>k ρ
 |.bk ρ=>.ok (.nx ρ)
 |.rt d=>.ok (.rt d)
noncomputable def iJ (g:GM)(b:SM):List Dt->SM
 | [],ρ=>.ok (.nx ρ)
 |d::ds,ρ=>(g d ρ).calm.bd fun aX=>(b aX).calm.bd (fork (iJ g b ds))
noncomputable def D0 (it:IM)(g:GM)(b:SM):SM:=fun ρ=>(it ρ).bd fun ds=>iJ g b ds ρ
noncomputable def Wm (i:Nat)(f:aa->M (List Dt)):SM:=fun ρ=>(f ρ).bd fun ds=>if ds.length<=10000 then .ok (.nx (ρ.set i (.own ds))) else .bad
noncomputable def oo (i:Nat)(ρ:aa):Option Bd->aa
 |some (.own ds)=>ρ.set i (.val (.lst ds))
 |some (.bT kvs)=>ρ.set i (.val (.aj kvs))
 |_=>ρ
noncomputable def rel (i:Nat)(ρ:aa):aa:=oo i ρ ρ[i]?
noncomputable def lI (i:Nat)(s:SM):SM:=fun ρ=>s (rel i ρ)
noncomputable def Br (i:Nat)(f:aa->M Dt)(ρ:aa):Option Bd->M Fl
 |some (.own ds)=>(f ρ).bd fun d=>if ds.length<10000 then .ok (.nx (ρ.set i (.own (ds++[d])))) else .bad
 |_=>.bad
noncomputable def zj (i:Nat)(f:aa->M Dt):SM:=fun ρ=>Br i f ρ ρ[i]?
noncomputable def oi (it:IM)(g:GM)(b:SM):SM:=fun ρ=>(D0 it g b ρ).calm
noncomputable def zI (i j:Nat)(ρ:aa):List Dt->M Fl
 | [d,e]=>.ok (.nx (mW j e (mW i d ρ)))
 |_=>.bad
noncomputable def zg (i j:Nat)(f:aa->M (List Dt)):SM:=fun ρ=>(f ρ).bd (zI i j ρ)
noncomputable def CZ (f:aa->M Dt):aa->M Unit:=fun ρ=>(f ρ).bd fun _=>.ok ()
noncomputable def C0:Dt->M Unit
 |.int i=>if -2<=i/\i<=20 then .ok () else .bad
 |_=>.bad
noncomputable def T4 (f:aa->M Dt):aa->M Unit:=fun ρ=>(f ρ).bd C0
noncomputable def qc (c:Nat)(f:aa->M Unit):SM:=fun ρ=>(f ρ).bd fun _=>.ex c
noncomputable def Kb (j:Nat):List Nat:=[[99,108,97,115,104],[110,111,32,110,97,109,101],[110,111,32,116,101,120,116],[110,111,32,116,105,99,107],[110,111,32,119,97,118,101],[116,111,111,32,108,111,110,103],[117,110,108,105,107,101]].getD j []
noncomputable def yY (cs:List Nat)(i:Nat):M Fl->M Fl
 |.ok (.nx ρ)=>(ae i ρ).bd fun d=>.ok (.rt d)
 |.ex c=>if c∈cs then .ok (.rt (.str (Kb c))) else .bad
 |_=>.bad
noncomputable def Wk (cs:List Nat)(i:Nat)(b:SM):SM:=fun ρ=>yY cs i (b ρ)
noncomputable def me:List (List Nat×Dt)->Dt->M Dt
 | [],_=>.bad
 | (k,v)::r,d=>match d with | .str l=>if l=k then .ok v else me r d | _=>.bad
noncomputable def XS (ks:List (List Nat))(f:aa->M (List Dt))(g:aa->M Dt):aa->M Dt:=fun ρ=>(f ρ).bd fun vs=>(g ρ).bd fun d=>me (ks.zip vs) d
noncomputable def Zd:Dt->M Dt
 |.str l=>.ok (.str l.reverse)
 |_=>.bad
noncomputable def EN:Dt->M Dt
 |.str _=>.ok (.bl true)
 |.aj _=>.bad
 |_=>.ok (.bl false)
noncomputable def Ew (Fs:List (List Dt->M Dt)):Dt->Option (List Dt->M Dt)
 |.int k=>if 0<=k then Fs[k.toNat]? else none
 |_=>none
noncomputable def XQ (Fs:List (List Dt->M Dt))(i:aa->M Dt)(f:aa->M (List Dt)):aa->M Dt:=fun ρ=>(i ρ).bd fun d=>qw (Ew Fs d) (f ρ)
noncomputable def AX:Fl->M Dt
 |.nx _=>.ok .aI
 |.rt d=>.ok d
 |_=>.bad
noncomputable def cI (np n:Nat)(b:SM):List Dt->M Dt:=fun ds=>if ds.length=np then (b (ds.map Bd.val++a7 n .no)).bd AX else .bad
noncomputable def jQ:Dt->M (List Dt)
 |.lst l=>.ok l
 |_=>.bad
noncomputable def Ss:List Dt->M (List Dt)
 | [x,y]=>(jQ x).bd fun a=>(jQ y).bd fun b=>.ok (i4 a b)
 |_=>.bad
noncomputable def ko:Dt->M (List Dt)
 |.lst l=>.ok l
 |.str l=>.ok (eF l)
 |_=>.bad
noncomputable def se:List Dt->M (List Dt)
 | [x,y]=>(ko x).bd fun a=>(ko y).bd fun b=>.ok (i4 a b)
 |_=>.bad
noncomputable def j5:List Dt->M Dt
 | [.int i]=>.ok (.int i)
 | [.bl b]=>.ok (.int (if b then 1 else 0))
 | [.str [48]]=>.ok (.int 0)
 | [.str [49]]=>.ok (.int 1)
 |_=>.bad
end L2
namespace Pg
open L2
noncomputable def J3:SM:=(aZ (dI (a6 (p2 oLt (ae 1) (aN eu (ag (ae 0) au)))) (bR (p2 aO (ae 0) (ae 1))) dw)
 (aZ (dI (a6 (p2 oEq (ae 0) (gR au))) (bR (pC (.int 0))) dw)
 (bR (p2 cG (p2 jN (p2 aO (ae 0) (p2 oMod (ae 1) (aN eu (ag (ae 0) au)))) (pC (.int 31))) (ae 1)))))
noncomputable def BW:List Dt->M Dt:=cI 2 0 J3
noncomputable def J0:SM:=(aZ (cP (p2 oMod (p2 jN (p2 cG (aN BW (ag (ae 0) (ag (ae 1) au))) (p2 jN (pC (.int 6151)) (p2 cG (ae 1) (pC (.int 1))))) (pC (.int 40692))) (pC (.int 2147483399))) (aL 3))
 (bR (p2 oMod (p2 oMod (p2 cG (p2 jN (ae 3) (ae 3)) (p2 oDiv (ae 3) (pC (.int 31)))) (pC (.int 2147483629))) (ae 2))))
noncomputable def ik:List Dt->M Dt:=cI 3 1 J0
noncomputable def R1:SM:=(dI (a6 (p2 oEq (aN ik (ag (ae 0) (ag (p2 cG (ae 1) (p2 jN (pC (.int 2)) (ae 5))) (ag (pC (.int 2)) au)))) (pC (.int 0)))) (cP (p2 cG (ae 4) (p2 aO (ae 4) (p1 wy (pC (.int 1))))) (aL 4)) (cP (p2 cG (ae 4) (p2 aO (ae 3) (aN ik (ag (ae 0) (ag (p2 cG (p2 cG (ae 1) (p2 jN (pC (.int 2)) (ae 5))) (pC (.int 1))) (ag (aN eu (ag (ae 3) au)) au)))))) (aL 4)))
noncomputable def JZ:SM:=(aZ (cP (p2 aO (ae 3) (aN ik (ag (ae 0) (ag (ae 1) (ag (aN eu (ag (ae 3) au)) au))))) (aL 4))
 (aZ (oi (kJ zm (ag (pC (.int 1)) (ag (ae 2) au))) (aL 5) R1)
 (bR (ae 4))))
noncomputable def yg:List Dt->M Dt:=cI 4 2 JZ
noncomputable def JR:SM:=(bR (aN xQ (ag (dy 1 [0] (fP (ae 0)) (aL 0) cO (p2 oEq (aN eu (ag (ae 0) au)) (aN eu (ag (p2 aO (ae 1) (pC (.int 0))) au)))) au)))
noncomputable def BL:List Dt->M Dt:=cI 1 0 JR
noncomputable def B2:SM:=(dI (tu (a6 (aN BL (ag (ae 0) au)))) (qc 6 (CZ (pC (.str [116,104,101,32,119,97,118,101,115,32,104,97,118,101,32,117,110,108,105,107,101,32,108,101,110,103,116,104,115])))) dw)
noncomputable def mq:List Dt->M Dt:=cI 1 0 B2
noncomputable def JX:SM:=(aZ (dI (lE (a6 (p2 oEq (ae 0) (pC (.str [48])))) (a6 (p2 oEq (ae 1) (pC (.str [48]))))) (bR (pC (.str [48]))) dw)
 (aZ (dI (lE (a6 (p2 oEq (ae 0) (pC (.str [120])))) (a6 (p2 oEq (ae 1) (pC (.str [120]))))) (bR (pC (.str [120]))) dw)
 (bR (pC (.str [49])))))
noncomputable def BR:List Dt->M Dt:=cI 2 0 JX
noncomputable def JY:SM:=(aZ (iy (aN mq (ag (gR (ag (ae 0) (ag (ae 1) au))) au)))
 (bR (oE m9 (pC (.str [])) (ag (dy 2 [] (kJ se (ag (ae 0) (ag (ae 1) au))) (iI 2 (dZ (aL 0) (dZ (aL 1) kS))) cO (aN BR (ag (ae 0) (ag (ae 1) au)))) au))))
noncomputable def BS:List Dt->M Dt:=cI 2 0 JY
noncomputable def JV:SM:=(aZ (dI (lE (a6 (p2 oEq (ae 0) (pC (.str [49])))) (a6 (p2 oEq (ae 1) (pC (.str [49]))))) (bR (pC (.str [49]))) dw)
 (aZ (dI (lE (a6 (p2 oEq (ae 0) (pC (.str [120])))) (a6 (p2 oEq (ae 1) (pC (.str [120]))))) (bR (pC (.str [120]))) dw)
 (bR (pC (.str [48])))))
noncomputable def BP:List Dt->M Dt:=cI 2 0 JV
noncomputable def JW:SM:=(aZ (iy (aN mq (ag (gR (ag (ae 0) (ag (ae 1) au))) au)))
 (bR (oE m9 (pC (.str [])) (ag (dy 2 [] (kJ se (ag (ae 0) (ag (ae 1) au))) (iI 2 (dZ (aL 0) (dZ (aL 1) kS))) cO (aN BP (ag (ae 0) (ag (ae 1) au)))) au))))
noncomputable def BQ:List Dt->M Dt:=cI 2 0 JW
noncomputable def JO:SM:=(aZ (dI (lE (a6 (p2 oEq (ae 0) (pC (.str [120])))) (a6 (p2 oEq (ae 1) (pC (.str [120]))))) (bR (pC (.str [120]))) dw)
 (bR (jM (a6 (p2 oEq (ae 0) (ae 1))) (pC (.str [48])) (pC (.str [49])))))
noncomputable def BJ:List Dt->M Dt:=cI 2 0 JO
noncomputable def JP:SM:=(aZ (iy (aN mq (ag (gR (ag (ae 0) (ag (ae 1) au))) au)))
 (bR (oE m9 (pC (.str [])) (ag (dy 2 [] (kJ se (ag (ae 0) (ag (ae 1) au))) (iI 2 (dZ (aL 0) (dZ (aL 1) kS))) cO (aN BJ (ag (ae 0) (ag (ae 1) au)))) au))))
noncomputable def BK:List Dt->M Dt:=cI 2 0 JP
end Pg
namespace L2
noncomputable def br {α:Type}(b:Bool)(x y:M α):M α:=if b=true then x else y
theorem ae8 {α:Type}{x y:M α}:br true x y=x:=.trans rfl rfl
theorem ae9 {α:Type}{x y:M α}:br false x y=y:=.trans rfl rfl
noncomputable def ck {α:Type}(p:Prop)[Decidable p](x:M α):M α:=if p then x else .bad
theorem aeP {α:Type}{x:M α}{i:Decidable True}:@ck α True i x=x:=if_pos trivial
theorem cz {α:Type}{p:Prop}[Decidable p]{x:M α}(h:p):ck p x=x:=if_pos h
noncomputable def k2 (op:Dt->Dt->M Dt)(g:aa->M Dt)(ρ:aa)(x:Dt):M Dt:=(g ρ).bd (op x)
noncomputable def Ab (d:Dt)(a b:Option Int):M Dt:=ME a b d
noncomputable def Fv (hi:aa->M (Option Int))(ρ:aa)(d:Dt)(a:Option Int):M Dt:=(hi ρ).bd (Ab d a)
noncomputable def ND (lo hi:aa->M (Option Int))(ρ:aa)(d:Dt):M Dt:=(lo ρ).bd (Fv hi ρ d)
noncomputable def NM (b:Bool):M Bool:=.ok (!b)
noncomputable def FF (g:aa->M Bool)(ρ:aa)(b:Bool):M Bool:=if b=true then g ρ else .ok false
noncomputable def wR (g:aa->M Bool)(ρ:aa)(b:Bool):M Bool:=if b=true then .ok true else g ρ
noncomputable def Ad (g:aa->M Dt)(ρ:aa)(b:Bool):M Dt:=if b=true then g ρ else .ok (.bl false)
noncomputable def NJ (g:aa->M Dt)(ρ:aa)(d:Dt):M Dt:=(i7 d).bd (Ad g ρ)
noncomputable def Ac (g:aa->M Dt)(ρ:aa)(b:Bool):M Dt:=if b=true then .ok (.bl true) else g ρ
noncomputable def NI (g:aa->M Dt)(ρ:aa)(d:Dt):M Dt:=(i7 d).bd (Ac g ρ)
noncomputable def Ae (f g:aa->M Dt)(ρ:aa)(b:Bool):M Dt:=if b=true then f ρ else g ρ
noncomputable def Af (cM:Dt->Dt->M Dt)(h:aa->M Dt)(ρ:aa)(y:Dt)(b:Bool):M Dt:=if b=true then (h ρ).bd (cM y) else .ok (.bl false)
noncomputable def FC (cM:Dt->Dt->M Dt)(h:aa->M Dt)(ρ:aa)(y d:Dt):M Dt:=(i7 d).bd (Af cM h ρ y)
noncomputable def FE (op cM:Dt->Dt->M Dt)(h:aa->M Dt)(ρ:aa)(x y:Dt):M Dt:=(op x y).bd (FC cM h ρ y)
noncomputable def N0 (op cM:Dt->Dt->M Dt)(g h:aa->M Dt)(ρ:aa)(x:Dt):M Dt:=(g ρ).bd (FE op cM h ρ x)
noncomputable def FG (d:Dt)(ds:List Dt):M (List Dt):=.ok (d::ds)
noncomputable def N3 (fs:aa->M (List Dt))(ρ:aa)(d:Dt):M (List Dt):=(fs ρ).bd (FG d)
noncomputable def kT (ds:List Dt):M Dt:=ck (ds.length<=10000) (.ok (.tup ds))
noncomputable def kR (g:aa->M Dt)(ρ:aa)(ds:List Dt):M Dt:=ck (ds.length<=10000) ((g ρ).bd (qh ds))
noncomputable def kM (m:Sel)(fs:aa->M (List Dt))(ρ:aa)(d:Dt):M Dt:=qw (m d) (fs ρ)
noncomputable def kP (Fs:List (List Dt->M Dt))(fs:aa->M (List Dt))(ρ:aa)(d:Dt):M Dt:=qw (Ew Fs d) (fs ρ)
noncomputable def gh (k:Nat)(fr:List Nat)(g:GM)(tc:aa->M Bool)(te:aa->M Dt)(ρ:aa)(ds:List Dt):M Dt:=(ff g tc te (bQ k fr ρ) ds).calm.bd gE
noncomputable def Fw (d:Dt):M Fl:=.ok (.rt d)
noncomputable def NX (ρ:aa)(_:Dt):M Fl:=.ok (.nx ρ)
noncomputable def Fx (ρ:aa):M Fl:=.ok (.nx ρ)
noncomputable def N1 (g:GM)(ρ:aa)(d:Dt):M Fl:=(g d ρ).calm.bd Fx
noncomputable def Fu (s t:SM)(ρ:aa)(b:Bool):M Fl:=if b=true then s ρ else t ρ
noncomputable def NU (g:GM)(s:SM)(ρ:aa)(ds:List Dt):M Fl:=iJ g s ds ρ
noncomputable def NK (i:Nat)(ρ:aa)(ds:List Dt):M Fl:=ck (ds.length<=10000) (.ok (.nx (ρ.set i (.own ds))))
noncomputable def N2 (i:Nat)(ρ:aa)(ds:List Dt)(d:Dt):M Fl:=ck (ds.length<10000) (.ok (.nx (ρ.set i (.own (ds++[d])))))
noncomputable def kU (_:Dt):M Unit:=.ok ()
noncomputable def NF (c:Nat)(_:Unit):M Fl:=.ex c
noncomputable def NV (s k:SM)(ρ:aa):M Fl:=(s ρ).calm.bd (fork k)
noncomputable def eL (i:Int):M (Option Int):=.ok (some i)
noncomputable def NH (d:Dt):M (Option Int):=(Og d).bd eL
noncomputable def qB (a b:List Dt):M (List Dt):=.ok (i4 a b)
noncomputable def Nz (y:Dt)(a:List Dt):M (List Dt):=(dS y).bd (qB a)
noncomputable def Fn (a b c:List Dt):M (List Dt):=.ok (Cv a b c)
noncomputable def Fo (z:Dt)(a b:List Dt):M (List Dt):=(dS z).bd (Fn a b)
noncomputable def NA (y z:Dt)(a:List Dt):M (List Dt):=(dS y).bd (Fo z a)
noncomputable def NO (y:Dt)(a:List Dt):M (List Dt):=(jQ y).bd (qB a)
noncomputable def NW (a:List Dt):M (List Dt):=.ok (HE a)
noncomputable def NG (a:List Dt):M (List Dt):=.ok a.reverse
noncomputable def FA (ks:List (List Nat))(vs:List Dt)(d:Dt):M Dt:=me (ks.zip vs) d
noncomputable def NZ (ks:List (List Nat))(g:aa->M Dt)(ρ:aa)(vs:List Dt):M Dt:=(g ρ).bd (FA ks vs)
section
variable {ρ:aa}{f g h:aa->M Dt}{tf tg:aa->M Bool}{fs:aa->M (List Dt)}{s t:SM}{d e x y z:Dt}{ds es Pj:List Dt}{i j n k np c:Nat}{a b:Int}{l m:List Nat}{p q:Bool}{op cM:Dt->Dt->M Dt}{lo hi:aa->M (Option Int)}{gm:GM}{gs:List Dt->aa->M aa}{o o':Option Int}{F:List Dt->M Dt}{it:IM}{kk:List Dt->M (List Dt)}{sl:Sel}
theorem ah7:ae i ρ=gv ρ[i]?:=.trans rfl rfl
theorem ah5:gv (some (.val d))=.ok d:=.trans rfl rfl
theorem agG:pC d ρ=.ok d:=.trans rfl rfl
theorem Bs:p2 op f g ρ=(f ρ).bd (k2 op g ρ):=.trans rfl rfl
theorem IG:k2 op g ρ x=(g ρ).bd (op x):=.trans rfl rfl
theorem Rv {op:Dt->M Dt}:p1 op f ρ=(f ρ).bd op:=.trans rfl rfl
theorem agv:XO f lo hi ρ=(f ρ).bd (ND lo hi ρ):=.trans rfl rfl
theorem ahf:ND lo hi ρ d=(lo ρ).bd (Fv hi ρ d):=.trans rfl rfl
theorem ahe:Fv hi ρ d o=(hi ρ).bd (Ab d o):=.trans rfl rfl
theorem ahd:Ab (.str l) o o'=.ok (.str (A9 l o o')):=.trans rfl rfl
theorem ahc:Ab (.lst ds) o o'=.ok (.lst (A9 ds o o')):=.trans rfl rfl
theorem ags:wq none ρ=.ok none:=.trans rfl rfl
theorem agr:wq (some f) ρ=(f ρ).bd NH:=.trans rfl rfl
theorem ahk:NH (.int a)=.ok (some a):=.trans rfl rfl
theorem Rr:a6 f ρ=(f ρ).bd i7:=.trans rfl rfl
theorem afT:i7 (.bl p)=.ok p:=.trans rfl rfl
theorem afW:tu tf ρ=(tf ρ).bd NM:=.trans rfl rfl
theorem ahw:NM p=.ok (!p):=.trans rfl rfl
theorem afX:U2 tf tg ρ=(tf ρ).bd (FF tg ρ):=.trans rfl rfl
theorem ahN:FF tg ρ true=tg ρ:=.trans rfl rfl
theorem ahO:FF tg ρ false=.ok false:=.trans rfl rfl
theorem afV:lE tf tg ρ=(tf ρ).bd (wR tg ρ):=.trans rfl rfl
theorem aht:wR tg ρ true=.ok true:=.trans rfl rfl
theorem ahu:wR tg ρ false=tg ρ:=.trans rfl rfl
theorem agH:XT f g ρ=(f ρ).bd (NJ g ρ):=.trans rfl rfl
theorem ahq:NJ g ρ (.bl p)=Ad g ρ p:=.trans rfl rfl
theorem aho:Ad g ρ true=g ρ:=.trans rfl rfl
theorem ahp:Ad g ρ false=.ok (.bl false):=.trans rfl rfl
theorem agy:XR f g ρ=(f ρ).bd (NI g ρ):=.trans rfl rfl
theorem ahn:NI g ρ (.bl p)=Ac g ρ p:=.trans rfl rfl
theorem ahl:Ac g ρ true=.ok (.bl true):=.trans rfl rfl
theorem ahm:Ac g ρ false=g ρ:=.trans rfl rfl
theorem agB:jM tf f g ρ=(tf ρ).bd (Ae f g ρ):=.trans rfl rfl
theorem ahz:Ae f g ρ true=f ρ:=.trans rfl rfl
theorem ahA:Ae f g ρ false=g ρ:=.trans rfl rfl
theorem agE:zK op cM f g h ρ=(f ρ).bd (N0 op cM g h ρ):=.trans rfl rfl
theorem ahK:N0 op cM g h ρ x=(g ρ).bd (FE op cM h ρ x):=.trans rfl rfl
theorem ahJ:FE op cM h ρ x y=(op x y).bd (FC cM h ρ y):=.trans rfl rfl
theorem ahI:FC cM h ρ y (.bl p)=Af cM h ρ y p:=.trans rfl rfl
theorem ahG:Af cM h ρ y true=(h ρ).bd (cM y):=.trans rfl rfl
theorem ahH:Af cM h ρ y false=.ok (.bl false):=.trans rfl rfl
theorem aiA:au ρ=.ok []:=.trans rfl rfl
theorem aiB:ag f fs ρ=(f ρ).bd (N3 fs ρ):=.trans rfl rfl
theorem ahQ:N3 fs ρ d=(fs ρ).bd (FG d):=.trans rfl rfl
theorem ahP:FG d ds=.ok (d::ds):=.trans rfl rfl
theorem agA:gR fs ρ=(fs ρ).bd gE:=.trans rfl rfl
theorem agu:fw fs ρ=(fs ρ).bd kT:=.trans rfl rfl
theorem ag9:kT ds=ck (ds.length<=10000) (.ok (.tup ds)):=.trans rfl rfl
theorem agw:EC fs g ρ=(fs ρ).bd (kR g ρ):=.trans rfl rfl
theorem ahj:kR g ρ ds=ck (ds.length<=10000) ((g ρ).bd (qh ds)):=.trans rfl rfl
theorem agm:qh ds (.int a)=ck (-1000<=a/\a<=1000/\ds.length * a.toNat<=10000) (.ok (.lst (a7 a.toNat ds).flatten)):=.trans rfl rfl
theorem agF:aN F fs ρ=(fs ρ).bd F:=.trans rfl rfl
theorem agz:oE sl f fs ρ=(f ρ).bd (kM sl fs ρ):=.trans rfl rfl
theorem ahx:kM sl fs ρ d=qw (sl d) (fs ρ):=.trans rfl rfl
theorem agx {Fs:List (List Dt->M Dt)}:XQ Fs f fs ρ=(f ρ).bd (kP Fs fs ρ):=.trans rfl rfl
theorem ahr {Fs:List (List Dt->M Dt)}:kP Fs fs ρ d=qw (Ew Fs d) (fs ρ):=.trans rfl rfl
theorem agP {k:List Dt->M Dt}{m:M (List Dt)}:qw (some k) m=m.bd k:=.trans rfl rfl
theorem ah3:fP f ρ=(f ρ).bd dS:=.trans rfl rfl
theorem ah4:kJ kk fs ρ=(fs ρ).bd kk:=.trans rfl rfl
theorem IH:aL i d ρ=.ok (ρ.set i (.val d)):=.trans rfl rfl
theorem ah9:kS [] ρ=.ok ρ:=.trans rfl rfl
theorem aia:dZ gm gs (d::ds) ρ=(gm d ρ).bd (gs ds):=.trans rfl rfl
theorem aic:iI n gs (.tup ds) ρ=ck (ds.length=n) (gs ds ρ):=.trans rfl rfl
theorem aib:iI n gs (.lst ds) ρ=ck (ds.length=n) (gs ds ρ):=.trans rfl rfl
theorem agD {fr:List Nat}{tc:aa->M Bool}{te:aa->M Dt}:dy k fr it gm tc te ρ=(it ρ).bd (gh k fr gm tc te ρ):=.trans rfl rfl
theorem afU:cO ρ=.ok true:=.trans rfl rfl
theorem af8:dw ρ=.ok (.nx ρ):=.trans rfl rfl
theorem ID:aZ s t ρ=(s ρ).bd (tF t):=.trans rfl rfl
theorem IA:tF s (.nx ρ)=s ρ:=.trans rfl rfl
theorem af2:tF s (.rt d)=.ok (.rt d):=.trans rfl rfl
theorem af1:tF s (.bk ρ)=.ok (.bk ρ):=.trans rfl rfl
theorem af0:tF s (.ct ρ)=.ok (.ct ρ):=.trans rfl rfl
theorem aga:bR f ρ=(f ρ).bd Fw:=.trans rfl rfl
theorem ahi:Fw d=.ok (.rt d):=.trans rfl rfl
theorem agf:iy f ρ=(f ρ).bd (NX ρ):=.trans rfl rfl
theorem ahD:NX ρ d=.ok (.nx ρ):=.trans rfl rfl
theorem Ru:cP f gm ρ=(f ρ).bd (N1 gm ρ):=.trans rfl rfl
theorem ahL:N1 gm ρ d=(gm d ρ).calm.bd Fx:=.trans rfl rfl
theorem ahv:Fx ρ=.ok (.nx ρ):=.trans rfl rfl
theorem agg:Wr i f ρ=Ip i f ρ ρ[i]?:=.trans rfl rfl
theorem air:Ip i f ρ (some (.val (.int a)))=(f ρ).bd (Iq i ρ a):=.trans rfl rfl
theorem ais:Iq i ρ a (.int b)=.ok (.nx (ρ.set i (.val (.int (a+b))))):=.trans rfl rfl
theorem agd:dI tf s t ρ=(tf ρ).bd (Fu s t ρ):=.trans rfl rfl
theorem aha:Fu s t ρ true=s ρ:=.trans rfl rfl
theorem ahb:Fu s t ρ false=t ρ:=.trans rfl rfl
theorem age:oi it gm s ρ=((it ρ).bd (NU gm s ρ)).calm:=.trans rfl rfl
theorem ahB:NU gm s ρ ds=iJ gm s ds ρ:=.trans rfl rfl
theorem aii:iJ gm s [] ρ=.ok (.nx ρ):=.trans rfl rfl
theorem II:iJ gm s (d::ds) ρ=(gm d ρ).calm.bd (NV s (iJ gm s ds)):=.trans rfl rfl
theorem IF {k:SM}:NV s k ρ=(s ρ).calm.bd (fork k):=.trans rfl rfl
theorem aih:fork s (.nx ρ)=s ρ:=.trans rfl rfl
theorem aif:fork s (.ct ρ)=s ρ:=.trans rfl rfl
theorem aie:fork s (.bk ρ)=.ok (.nx ρ):=.trans rfl rfl
theorem aid:fork s (.rt d)=.ok (.rt d):=.trans rfl rfl
theorem agc:Wm i fs ρ=(fs ρ).bd (NK i ρ):=.trans rfl rfl
theorem ahs:NK i ρ ds=ck (ds.length<=10000) (.ok (.nx (ρ.set i (.own ds)))):=.trans rfl rfl
theorem Rt:lI i s ρ=s (oo i ρ ρ[i]?):=.trans rfl rfl
theorem ago:oo i ρ (some (.own ds))=ρ.set i (.val (.lst ds)):=.trans rfl rfl
theorem agn:oo i ρ (some (.val d))=ρ:=.trans rfl rfl
theorem agh:zj i f ρ=Br i f ρ ρ[i]?:=.trans rfl rfl
theorem ait:Br i f ρ (some (.own ds))=(f ρ).bd (N2 i ρ ds):=.trans rfl rfl
theorem ahM:N2 i ρ ds d=ck (ds.length<10000) (.ok (.nx (ρ.set i (.own (ds++[d]))))):=.trans rfl rfl
theorem agb:zg i j fs ρ=(fs ρ).bd (zI i j ρ):=.trans rfl rfl
theorem agt:zI i j ρ [d,e]=.ok (.nx ((ρ.set i (.val d)).set j (.val e))):=.trans rfl rfl
theorem afO:CZ f ρ=(f ρ).bd kU:=.trans rfl rfl
theorem ag8:kU d=.ok ():=.trans rfl rfl
theorem afP:T4 f ρ=(f ρ).bd C0:=.trans rfl rfl
theorem afQ:C0 (.int a)=ck (-2<=a/\a<=20) (.ok ()):=.trans rfl rfl
theorem af9 {fu:aa->M Unit}:qc k fu ρ=(fu ρ).bd (NF k):=.trans rfl rfl
theorem ahg {u:Unit}:NF c u=.ex c:=.trans rfl rfl
theorem af7 {cs:List Nat}:Wk cs i s ρ=yY cs i (s ρ):=.trans rfl rfl
theorem afS {cs:List Nat}:yY cs i (.ok (.nx ρ))=(ae i ρ).bd Fw:=.trans rfl rfl
theorem afR {cs:List Nat}:yY cs i (.ex k)=ck (k∈cs) (.ok (.rt (.str (Kb k)))):=.trans rfl rfl
theorem aij:cI np n s ds=ck (ds.length=np) ((s (ds.map Bd.val++a7 n .no)).bd AX):=.trans rfl rfl
theorem ail:AX (.nx ρ)=.ok .aI:=.trans rfl rfl
theorem aik:AX (.rt d)=.ok d:=.trans rfl rfl
theorem agC {ks:List (List Nat)}:XS ks fs g ρ=(fs ρ).bd (NZ ks g ρ):=.trans rfl rfl
theorem ahF {ks:List (List Nat)}:NZ ks g ρ ds=(g ρ).bd (FA ks ds):=.trans rfl rfl
theorem ahE {ks:List (List Nat)}:FA ks ds d=me (ks.zip ds) d:=.trans rfl rfl
theorem aiz:cG (.int a) (.int b)=.ok (.int (a+b)):=.trans rfl rfl
theorem aix:cG (.str l) (.str m)=lG (l++m):=.trans rfl rfl
theorem aiy:cG (.lst ds) (.lst es)=gE (ds++es):=.trans rfl rfl
theorem afY:Zb (.int a) (.int b)=.ok (.int (a - b)):=.trans rfl rfl
theorem agO:jN (.int a) (.int b)=ck ((-(2 ^ 64)<a/\a<2 ^ 64)∨(-(2 ^ 64)<b/\b<2 ^ 64)) (.ok (.int (a * b))):=.trans rfl rfl
theorem agN:jN (.str l) (.int b)=ck (-1000<=b/\b<=1000/\l.length<=1000) (lG (a7 b.toNat l).flatten):=.trans rfl rfl
theorem agQ:oMod (.int a) (.int b)=ck (0<b) (.ok (.int (a % b))):=.trans rfl rfl
theorem aio:oDiv (.int a) (.int b)=ck (0<b/\b<1073741824) (.ok (.int (a / b))):=.trans rfl rfl
theorem af3:Zc (.int a) (.int b)=ck (0<=b) (.ok (.int (a / 2 ^ b.toNat))):=.trans rfl rfl
theorem agq:Ze (.int a) (.int b)=ck (0<=b/\b<=1000/\a.natAbs<2 ^ 64) (.ok (.int (a ^ b.toNat))):=.trans rfl rfl
theorem aiv:Zi (.int a)=ck (0<=a) (.ok (.int (a % 2))):=.trans rfl rfl
theorem agK:wy (.int a)=.ok (.int (-a)):=.trans rfl rfl
theorem agV:oLt (.int a) (.int b)=.ok (.bl (decide (a<b))):=.trans rfl rfl
theorem ag2:oLe (.int a) (.int b)=.ok (.bl (decide (a<=b))):=.trans rfl rfl
theorem ah6:oG (.int a) (.int b)=.ok (.bl (decide (b<a))):=.trans rfl rfl
theorem ah8:Zg (.int a) (.int b)=.ok (.bl (decide (b<=a))):=.trans rfl rfl
theorem IK:oEq d e=ck (dep d<=50) (.ok (.bl (bV d e))):=.trans rfl rfl
theorem Bt:eW d e=ck (dep d<=50) (.ok (.bl (!bV d e))):=.trans rfl rfl
theorem aim:oEq (.int a) (.int b)=.ok (.bl (decide (a=b))):=.trans rfl rfl
theorem agM:eW (.int a) (.int b)=.ok (.bl (!decide (a=b))):=.trans rfl rfl
theorem agJ:wx (.bl p)=.ok (.bl (!p)):=.trans rfl rfl
theorem agI:zQ d e=(fN d e).bd wx:=.trans rfl rfl
theorem ahZ:zR (.bl p) (.bl q)=.ok (.bl (p==q)):=.trans rfl rfl
theorem ahY:zR d .aI=.ok (.bl (Oc d)):=.trans rfl rfl
theorem ahX:Zf d e=(zR d e).bd wx:=.trans rfl rfl
theorem ahT:aO (.str l) (.int a)=Ah (cA l a):=.trans rfl rfl
theorem ahU:aO (.lst ds) (.int a)=qC (cA ds a):=.trans rfl rfl
theorem Bu:aO (.tup ds) (.int a)=qC (cA ds a):=.trans rfl rfl
theorem ahW:Ah (some c)=.ok (.str [c]):=.trans rfl rfl
theorem ahV:qC (some d)=.ok d:=.trans rfl rfl
theorem ag0:eu [.str l]=.ok (.int l.length):=.trans rfl rfl
theorem ag1:eu [.lst ds]=.ok (.int ds.length):=.trans rfl rfl
theorem agZ:eu [.tup ds]=.ok (.int ds.length):=.trans rfl rfl
theorem agR:Bm [.int a,.int b]=.ok (.int (if b<a then b else a)):=.trans rfl rfl
theorem agS:afu [.int a,.int b]=.ok (.int (if b > a then b else a)):=.trans rfl rfl
theorem aiw:xQ [.lst ds]=va (fun bs=>bs.all id) (bools ds):=.trans rfl rfl
theorem aiu:afv [.lst ds]=va (fun bs=>bs.any id) (bools ds):=.trans rfl rfl
theorem agY:Ri [.lst ds]=.ok (.lst ds):=.trans rfl rfl
theorem agX:Ri [.str l]=.ok (.lst (eF l)):=.trans rfl rfl
theorem ah1:Rj [.int a]=.ok (.int a):=.trans rfl rfl
theorem ah0:Rj [.bl p]=.ok (.int (if p then 1 else 0)):=.trans rfl rfl
theorem af6:dS (.lst ds)=.ok ds:=.trans rfl rfl
theorem af4:dS (.tup ds)=.ok ds:=.trans rfl rfl
theorem af5:dS (.str l)=.ok (eF l):=.trans rfl rfl
theorem agT:m9 (.str [])=some joinM:=.trans rfl rfl
theorem ahR:joinM [.lst ds]=Ag (kn ds):=.trans rfl rfl
theorem agU:ZX (.str l)=some (HU l):=.trans rfl rfl
theorem aip:HU l [.str [c]]=.ok (.int (l.count c)):=.trans rfl rfl
theorem agp:mW i d ρ=ρ.set i (.val d):=.trans rfl rfl
theorem afN:CU (some (.val d))=.val d:=.trans rfl rfl
theorem agk:Zd (.str l)=.ok (.str l.reverse):=.trans rfl rfl
theorem afM:Sw [x,y]=(dS x).bd (Nz y):=.trans rfl rfl
theorem ag4:Nz y ds=(dS y).bd (qB ds):=.trans rfl rfl
theorem ag3:qB ds es=.ok (i4 ds es):=.trans rfl rfl
theorem afL:Su [x,y,z]=(dS x).bd (NA y z):=.trans rfl rfl
theorem ag7:NA y z ds=(dS y).bd (Fo z ds):=.trans rfl rfl
theorem ag6:Fo z ds es=(dS z).bd (Fn ds es):=.trans rfl rfl
theorem ag5:Fn ds es Pj=.ok (Cv ds es Pj):=.trans rfl rfl
theorem afK:Ss [x,y]=(jQ x).bd (NO y):=.trans rfl rfl
theorem ahy:NO y ds=(jQ y).bd (qB ds):=.trans rfl rfl
theorem agW:jQ (.lst ds)=.ok ds:=.trans rfl rfl
theorem ain:adK [x]=(dS x).bd NW:=.trans rfl rfl
theorem ahC:NW ds=.ok (HE ds):=.trans rfl rfl
theorem agl:WI [x]=(dS x).bd NG:=.trans rfl rfl
theorem ahh:NG ds=.ok ds.reverse:=.trans rfl rfl
theorem agj:tJ [.int a]=ck (-1000000<=a/\a<=10000) (.ok (eI 0 a)):=.trans rfl rfl
theorem agi:zm [.int a,.int b]=ck (-1000000<=a/\a<=1000000/\-1000000<=b/\b<=1000000/\b - a<=10000) (.ok (eI a b)):=.trans rfl rfl
theorem afZ:aft [.int a]=ck (0<=a/\a<=9) (.ok (.str [48+a.toNat])):=.trans rfl rfl
theorem aiq {k:List Bool->Bool}{bs:List Bool}:va k (some bs)=.ok (.bl (k bs)):=.trans rfl rfl
theorem ahS {ls:List (List Nat)}:Ag (some ls)=lG ls.flatten:=.trans rfl rfl
theorem IJ:oEq (.str l) (.str m)=.ok (.bl (decide (l=m))):=by
 show M.ok (Dt.bl (l==m))=_
 congr 2
 by_cases h:l=m <;> simp [h]
theorem agL:eW (.str l) (.str m)=.ok (.bl (!decide (l=m))):=by
 show M.ok (Dt.bl (!(l==m)))=_
 congr 2
 by_cases h:l=m <;> simp [h]
theorem ah2:fN (.str [c]) (.str l)=.ok (.bl (decide (c∈l))):=by simp only [fN]
theorem tE (h:l.length<=10000):lG l=.ok (.str l):=by unfold lG; rw [if_pos h]
theorem cY (h:ds.length<=10000):gE ds=.ok (.lst ds):=by unfold gE; rw [if_pos h]
end
end L2
section aiM
open L2
local macro_rules
 | `(tactic| exists aS, $xs:term,*) => `(tactic| simp only [ah7, ah5, agG, Bs, IG, Rv, agv, ahf, ahe, ahd, ahc, ags, agr, ahk, Rr, afT, afW, ahw, afX, ahN, ahO, afV, aht, ahu, agH, ahq, aho, ahp, agy, ahn, ahl, ahm, agB, ahz, ahA, agE, ahK, ahJ, ahI, ahG, ahH, aiA, aiB, ahQ, ahP, agA, agu, ag9, agw, ahj, agm, agF, agz, ahx, agx, ahr, agP, ah3, ah4, IH, ah9, aia, aic, aib, agD, afU, af8, ID, IA, af2, af1, af0, aga, ahi, agf, ahD, Ru, ahL, ahv, agg, air, ais, agd, aha, ahb, age, ahB, aii, II, IF, aih, aif, aie, aid, agc, ahs, Rt, ago, agn, agh, ait, ahM, agb, agt, afO, ag8, afP, afQ, af9, ahg, af7, afS, afR, aij, ail, aik, agC, ahF, ahE, aiz, aix, aiy, afY, agO, agN, agQ, aio, af3, agq, aiv, agK, agV, ag2, ah6, ah8, aim, agM, agJ, agI, ahZ, ahY, ahX, ahT, ahU, Bu, ahW, ahV, ag0, ag1, agZ, agR, agS, aiw, aiu, agY, agX, ah1, ah0, af6, af4, af5, agT, ahR, agU, aip, agp, afN, agk, afM, ag4, ag3, afL, ag7, ag6, ag5, afK, ahy, agW, ain, ahC, agl, ahh, agj, agi, afZ, aiq, ahS, IJ, agL, ah2, ae8, ae9, bz, afn, afo, iL, aeU, eg, mD, bG, jq, ly, Ce, yx, lq, nV, List.getElem?_cons_zero, List.getElem?_cons_succ, List.set_cons_succ, List.set_cons_zero, ef, Nat.reduceAdd, Nat.zero_add, rZ, vv, decide_true, decide_false, aeP, eq_self, $[$xs:term],*])
local macro_rules
 | `(tactic| exists ev) => `(tactic| try exists aS, eq_self)
 | `(tactic| exists go) => `(tactic| repeat (first | rw [cz (by omega)] | rw [tE (by (try simp only [jw, eg, mD]); omega)] | rw [cY (by (try simp only [jw, eg, mD]); omega)] | exists aS, eq_self))
namespace Pg
open L2
noncomputable def uY (ns:List Int)(k:Int):Int:=
 if k<ns.length then ns.getD k.toNat 0 else if ns=[] then 0 else ns.getD (k % (ns.length:Int)).toNat 0 * 31+k
noncomputable def md (ns:List Int)(k:Int):Int:=(uY ns k+6151 * (k+1)) * 40692 % 2147483399
noncomputable def bL (ns:List Int)(k many:Int):Int:=(md ns k * md ns k+md ns k / 31) % 2147483629 % many
theorem adY (ns:List Int)(k:Int):0<=md ns k:=yt _ (by decide)
theorem adZ (ns:List Int)(k:Int):md ns k<2147483399:=yD _ (by decide)
theorem mY (ns:List Int)(k:Int){many:Int}(h:0<many):0<=bL ns k many:=yt _ (by omega)
theorem mZ (ns:List Int)(k:Int){many:Int}(h:0<many):bL ns k many<many:=yD _ h
noncomputable abbrev dU (ns:List Int):Dt:=.lst (ns.map Dt.int)
theorem pk {α:Type}{l:List α}{n:Nat}{x:α}(h:l[n]?=some x):cA l (n:Int)=some x:=by
 have aR:n<l.length:=(ej.mp h).1;unfold cA t4;rw [if_pos (by omega),if_pos (by omega)];simpa using h
theorem Ro {α:Type}{l:List α}{i:Int}(h0:0<=i)(h1:i<l.length):cA l i=some (l[i.toNat]'(by omega)):=by
 obtain⟨n,rfl⟩:∃n:Nat,i=n:=⟨i.toNat,by omega⟩
 refine pk ?_;simp
theorem Rn {ns:List Int}{k:Int}(h0:0<=k)(h1:k<ns.length):cA (ns.map Dt.int) k=some (.int (ns.getD k.toNat 0)):=by
 rw [Ro h0 (by simpa using h1)];have aR:k.toNat<ns.length:=by omega
 simp [aR]
theorem QL:∀ns:List Int,e8 (ns.map Dt.int)=0
 | []=>rfl
 |n::ns=>by simp only [bG,e8,dep,QL ns]; omega
theorem Qj (ns:List Int):bV (dU ns) (.lst [])=decide (ns=[]):=by
 cases ns <;> rfl
theorem cell_eq {ns:List Int}{k:Int}(hk:0<=k):BW [dU ns,.int k]=.ok (.int (uY ns k)):=by
 unfold BW J3 uY
 exists go
 by_cases h1:k<ns.length
 ·simp only [h1,decide_true,if_true]
  exists go
  rw [Rn hk h1]
  exists go
 ·simp only [h1,decide_false,if_false]
  exists go
  rw [IK,cz (by simp only [dep,QL]; omega),Qj]
  by_cases h2:ns=[]
  ·simp only [h2,decide_true,if_true]
   exists go
  ·have hp:0<(ns.length:Int):=by have:=mH.mpr h2; omega
   have m0:0<=k % (ns.length:Int):=yt _ (by omega);have m1:k % (ns.length:Int)<ns.length:=yD _ hp;simp only [h2,decide_false,if_false]
   exists go
   rw [Rn m0 m1]
   exists go
theorem mX {ns:List Int}{k many:Int}(hk:0<=k)(hm:0<many):ik [dU ns,.int k,.int many]=.ok (.int (bL ns k many)):=by
 have d0:=adY ns k;have d1:=adZ ns k;unfold ik J0
 exists go
 rw [cell_eq hk]
 exists go
 rw [show (uY ns k+6151 * (k+1)) * 40692 % 2147483399=md ns k from rfl]
 exists go
 rfl
mutual
theorem rA:∀d:Dt,bV d d=true
 |.aI=>rfl
 |.bl b=>beq_self_eq_true b
 |.int b=>beq_self_eq_true b
 |.str b=>beq_self_eq_true b
 |.tup b=>rq b
 |.lst b=>rq b
 |.aj b=>(show (b==b || nC b b)=true by rw [beq_self_eq_true b]; rfl)
theorem rq:∀d:List Dt,ig d d=true
 | []=>rfl
 |a::r=>(show (bV a a&&ig r r)=true by rw [rA a,rq r]; rfl)
end
theorem Hk {g:GM}{b:SM}:∀(ds:List Dt) (st:Nat->aa),(∀i d,ds[i]?=some d->((g d (st i)).calm.bd fun aX=>(b aX).calm)=.ok (.nx (st (i+1))))->iJ g b ds (st 0)=.ok (.nx (st ds.length))
 | [],st,_=>rfl
 |d::ds,st,h=>by
  have h0:=h 0 d rfl;have ih:=Hk ds (fun i=>st (i+1)) fun i e he=>h (i+1) e (by simpa using he);rw [II]
  cases hg:g d (st 0) with
  |ok aX=>
   rw [hg] at h0;simp only [iL,bz] at h0 ⊢;rw [IF,h0];exact ih
  |ex c=>rw [hg] at h0; cases h0
  |bad=>rw [hg] at h0; cases h0
theorem ada {g:GM}{b:SM}(lo hi:Int)(st:Nat->aa)(h:∀i:Nat,i<(hi - lo).toNat->((g (.int (lo+i)) (st i)).calm.bd fun aX=>(b aX).calm)=.ok (.nx (st (i+1)))):iJ g b (eI lo hi) (st 0)=.ok (.nx (st (hi - lo).toNat)):=by
 have e:(eI lo hi).length=(hi - lo).toNat:=by simp [eI]
 rw [← e];refine Hk _ st fun i d hd=>?_;unfold eI at hd;simp only [jt,iZ] at hd;obtain⟨j,hj,rfl⟩:=hd;have lT:i<(hi - lo).toNat:=by
  have:=(ej.mp hj).1;simpa using this
 rw [Cd lT] at hj;cases hj;exact h i lT
theorem ac9 {g:GM}{b:SM}{lo hi:Int}{ρ0:aa}(st:Nat->aa)(h0:ρ0=st 0)(h:∀i:Nat,i<(hi - lo).toNat->((g (.int (lo+i)) (st i)).calm.bd fun aX=>(b aX).calm)=.ok (.nx (st (i+1)))):iJ g b (eI lo hi) ρ0=.ok (.nx (st (hi - lo).toNat)):=by
 subst h0;exact ada lo hi st h
noncomputable def i8 (ns:List Int)(k:Int)(sg:List Nat):Nat:=sg.getD (bL ns k sg.length).toNat 0
theorem v5 (ns:List Int)(k:Int){sg:List Nat}(h:sg≠[]):i8 ns k sg∈sg:=by
 have hp:0<(sg.length:Int):=by
  have:=mH.mpr h;omega
 have h1:=mY ns k hp;have h2:=mZ ns k hp;unfold i8;have aR:(bL ns k sg.length).toNat<sg.length:=by omega
 rw [yi,mI aR,r9];exact yw aR
theorem DA (ns:List Int)(k:Int){sg:List Nat}(h:sg≠[]):cA sg (bL ns k sg.length)=some (i8 ns k sg):=by
 have hp:0<(sg.length:Int):=by
  have:=mH.mpr h;omega
 have h1:=mY ns k hp;have h2:=mZ ns k hp;rw [Ro h1 h2];have aR:(bL ns k sg.length).toNat<sg.length:=by omega
 unfold i8;rw [yi,mI aR,r9]
noncomputable def dF (ns:List Int)(a:Int)(sg:List Nat):Nat->List Nat
 |0=>[i8 ns a sg]
 |k+1=>if bL ns (a+2 * ((k:Int)+1)) 2=0 then dF ns a sg k++[(dF ns a sg k).getLastD 0] else dF ns a sg k++[i8 ns (a+2 * ((k:Int)+1)+1) sg]
noncomputable def pO (ns:List Int)(a many:Int)(sg:List Nat):List Nat:=dF ns a sg (many - 1).toNat
theorem pN (ns:List Int)(a:Int)(sg:List Nat):∀k,(dF ns a sg k).length=k+1
 |0=>rfl
 |k+1=>by
  unfold dF
  split <;> simp [pN ns a sg k]
theorem vI (ns:List Int)(a:Int){sg:List Nat}(h:sg≠[]):∀k,∀c∈dF ns a sg k,c∈sg
 |0=>by
  intro c hc;simp [dF] at hc;rw [hc];exact v5 ns a h
 |k+1=>by
  intro c hc;have ih:=vI ns a h k;unfold dF at hc
  split at hc
  ·rcases eC.mp hc with hc | hc
   ·exact ih c hc
   ·simp only [jv] at hc
    have bN:dF ns a sg k≠[]:=by
     intro z;have:=pN ns a sg k;rw [z] at this;simp at this
    rw [hc,Co,List.getLast?_eq_some_getLast bN,r9];exact ih _ (List.getLast_mem bN)
  ·rcases eC.mp hc with hc | hc
   ·exact ih c hc
   ·simp only [jv] at hc
    rw [hc];exact v5 ns _ h
theorem Tz (ns:List Int)(a:Int){many:Int}(sg:List Nat)(h:1<=many):((pO ns a many sg).length:Int)=many:=by
 unfold pO;rw [pN];omega
theorem Kf (ns:List Int)(a many:Int){sg:List Nat}(h:sg≠[]):∀c∈pO ns a many sg,c∈sg:=vI ns a h _
theorem afB {l:List Nat}(h:l≠[]):cA l (-1)=some (l.getLastD 0):=by
 have hp:=mH.mpr h;unfold cA t4;rw [if_neg (by omega),if_pos (by omega)];have e:((-1:Int)+(l.length:Nat)).toNat=l.length - 1:=by omega
 simp only [Option.bind_some,e];rw [Co,List.getLast?_eq_getElem?,mI (by omega)];rfl
theorem Tw {ns:List Int}{a many:Int}{sg:List Nat}(ha:0<=a)(h1:1<=many)(h2:many<=1000)(hs:sg≠[])(hz:sg.length<=1000):yg [dU ns,.int a,.int many,.str sg]=.ok (.str (pO ns a many sg)):=by
 have hp:0<(sg.length:Int):=by
  have:=mH.mpr hs;omega
 unfold yg JZ R1
 exists go
 rw [mX ha hp]
 exists go
 rw [DA ns a hs]
 exists go
 rw [ac9 (st:=fun i=>[.val (dU ns),.val (.int a),.val (.int many),.val (.str sg),.val (.str (dF ns a sg i)),match i with | 0=>.no | j+1=>.val (.int (1+(j:Nat)))])]
 ·exists go
  rfl
 ·rfl
 ·intro i hi
  have wl:=pN ns a sg i;have Tn:dF ns a sg i≠[]:=by
   intro z;rw [z] at wl;simp at wl
  exists go
  rw [mX (by omega) (by decide)]
  exists go
  have e0:a+2 * (1+(i:Int))=a+2 * ((i:Int)+1):=by omega
  by_cases hq:bL ns (a+2 * ((i:Int)+1)) 2=0
  ·rw [e0]
   simp only [hq,decide_true]
   exists go
   rw [afB Tn]
   exists go
   simp only [dF,hq,if_true]
  ·rw [e0]
   simp only [hq,decide_false]
   exists go
   rw [mX (by omega) hp]
   exists go
   rw [DA ns _ hs]
   exists go
   simp only [dF,hq,if_false];rw [e0]
noncomputable def Fq (x:Dt):M (Option Dt):=.ok (some x)
noncomputable def Aa (te:aa->M Dt)(ρ:aa)(b:Bool):M (Option Dt):=if b=true then (te ρ).bd Fq else .ok none
noncomputable def Fp (tc:aa->M Bool)(te:aa->M Dt)(ρ:aa):M (Option Dt):=(tc ρ).bd (Aa te ρ)
noncomputable def stC (g:GM)(tc:aa->M Bool)(te:aa->M Dt)(ρ0:aa)(d:Dt):M (Option Dt):=(g d ρ0).bd (Fp tc te)
theorem j4 {x:Dt}:Fq x=.ok (some x):=.trans rfl rfl
theorem j0 {te:aa->M Dt}{ρ:aa}:Aa te ρ true=(te ρ).bd Fq:=.trans rfl rfl
theorem Bg {te:aa->M Dt}{ρ:aa}:Aa te ρ false=.ok none:=.trans rfl rfl
theorem iO {tc:aa->M Bool}{te:aa->M Dt}{ρ:aa}:Fp tc te ρ=(tc ρ).bd (Aa te ρ):=.trans rfl rfl
theorem iP {g:GM}{tc:aa->M Bool}{te:aa->M Dt}{ρ:aa}{d:Dt}:stC g tc te ρ d=(g d ρ).bd (Fp tc te):=.trans rfl rfl
theorem Q0 {g:GM}{tc:aa->M Bool}{te:aa->M Dt}{ρ0:aa}(f:Dt->Option Dt):∀(ds:List Dt),(∀d∈ds,stC g tc te ρ0 d=.ok (f d))->ff g tc te ρ0 ds=.ok (ds.filterMap f)
 | [],_=>rfl
 |d::ds,h=>by
  have h0:=h d bH;have ih:=Q0 f ds fun e he=>h e (cy _ he);simp only [ff];rw [iP] at h0
  cases hg:g d ρ0 with
  |ok aX=>
   rw [hg] at h0;simp only [bz,iO] at h0 ⊢
   cases ht:tc aX with
   |ok b=>
    rw [ht] at h0;simp only [bz] at h0 ⊢
    cases b with
    |false=>
     rw [Bg] at h0
     cases hf:f d with
     |none=>simp only [cT,if_false,ih,fX,hf]
     |some x=>rw [hf] at h0; cases h0
    |true=>
     rw [j0] at h0;simp only [if_true]
     cases hx:te aX with
     |ok x=>
      rw [hx] at h0;simp only [bz,j4] at h0 ⊢;injection h0 with h0;simp only [ih,bz,fX,← h0]
     |ex c=>rw [hx] at h0; cases h0
     |bad=>rw [hx] at h0; cases h0
   |ex c=>rw [ht] at h0; cases h0
   |bad=>rw [ht] at h0; cases h0
  |ex c=>rw [hg] at h0; cases h0
  |bad=>rw [hg] at h0; cases h0
theorem kY {α:Type}{g:GM}{tc:aa->M Bool}{te:aa->M Dt}{ρ0:aa}(e:α->Dt)(f:α->Option Dt):∀(xs:List α),(∀x∈xs,stC g tc te ρ0 (e x)=.ok (f x))->ff g tc te ρ0 (xs.map e)=.ok (xs.filterMap f)
 | [],_=>rfl
 |x::xs,h=>by
  have h1:=Q0 (g:=g) (tc:=tc) (te:=te) (ρ0:=ρ0) (fun _=>f x) [e x] (fun d hd=>by
   have:d=e x:=by simpa using hd
   rw [this];exact h x bH)
  have ih:=kY e f xs fun y hy=>h y (cy _ hy);rw [bG];simp only [ff] at h1 ⊢
  cases hg:g (e x) ρ0 with
  |ok aX=>
   rw [hg] at h1;simp only [bz] at h1 ⊢
   cases ht:tc aX with
   |ok b=>
    rw [ht] at h1;simp only [bz] at h1 ⊢
    cases b with
    |false=>
     simp only [cT,if_false] at h1 ⊢;rw [ih]
     cases hf:f x with
     |none=>simp only [fX,hf]
     |some y=>rw [fX,hf] at h1; cases h1
    |true=>
     simp only [if_true] at h1 ⊢
     cases hx:te aX with
     |ok y=>
      rw [hx] at h1;simp only [bz] at h1 ⊢;rw [ih]
      cases hf:f x with
      |none=>rw [fX,hf] at h1; cases h1
      |some z=>
       rw [fX,hf] at h1;simp only [bz,fX,hf];cases h1;rfl
     |ex c=>rw [hx] at h1; cases h1
     |bad=>rw [hx] at h1; cases h1
   |ex c=>rw [ht] at h1; cases h1
   |bad=>rw [ht] at h1; cases h1
  |ex c=>rw [hg] at h1; cases h1
  |bad=>rw [hg] at h1; cases h1
theorem aeG {g:GM}{tc:aa->M Bool}{te:aa->M Dt}{ρ0:aa}{lo hi:Int}(f:Nat->Option Dt)(h:∀i,i<(hi - lo).toNat->stC g tc te ρ0 (.int (lo+(i:Nat)))=.ok (f i)):ff g tc te ρ0 (eI lo hi)=.ok ((fV (hi - lo).toNat).filterMap f):=
 kY (fun(i:Nat)=>.int (lo+(i:Nat))) f _ fun i lT=>h i (by simpa using lT)
theorem QZ {g:GM}{tc:aa->M Bool}{te:aa->M Dt}{ρ0:aa}{l:List Nat}(f:Nat->Option Dt)(h:∀c∈l,stC g tc te ρ0 (.str [c])=.ok (f c)):ff g tc te ρ0 (eF l)=.ok (l.filterMap f):=kY (fun c=>.str [c]) f l h
theorem AV {α β:Type}(p:α->Bool)(e:α->β):∀l:List α,(l.filterMap fun a=>if p a=true then some (e a) else none)=(l.filter p).map e
 | []=>rfl
 |a::l=>by
  rw [fX,vz]
  cases h:p a <;> simp [h,AV p e l]
theorem nA {α β:Type}(e:α->β):∀l:List α,(l.filterMap fun a=>some (e a))=l.map e
 | []=>rfl
 |a::l=>by rw [fX,bG,nA e l]
noncomputable def lv (l:List Nat)(i:Nat):Nat:=l.getD i 0
theorem afA {l:List Nat}{i:Nat}(h:i<l.length):cA l (i:Int)=some (lv l i):=by
 refine pk ?_;simp [lv,h]
noncomputable def up (l:List Nat)(i:Nat):Bool:=decide (lv l i=48)&&decide (lv l (i+1)=49)
theorem HZ {α:Type}(f:α->Bool):∀l:List α,bools (l.map fun a=>Dt.bl (f a))=some (l.map f)
 | []=>rfl
 |a::l=>by simp [bools,HZ f l]
theorem Mq {ls:List (List Nat)}(hl:ls.length<=1000):BL [.lst (ls.map Dt.str)]=.ok (.bl (ls.all fun l=>decide (l.length=(ls.headD []).length))):=by
 unfold BL JR
 exists ev
 simp only [gh];rw [kY Dt.str (fun l=>some (.bl (decide (l.length=(ls.headD []).length))))]
 ·rw [nA,iL,bz,cY (by simp; omega)]
  exists ev
  rw [HZ]
  exists ev
  rw [List.all_map];rfl
 ·intro l hm
  have a0:cA (ls.map Dt.str) 0=some (.str (ls.headD [])):=by
   cases ls with
   |nil=>cases hm
   |cons x xs=>exact pk (n:=0) rfl
  exists aS,iP,iO,bQ,a0,j0,j4
  have e:decide (((l.length:Nat):Int)=(((ls.headD []).length:Nat):Int))=decide (l.length=(ls.headD []).length):=by
   exact decide_eq_decide.mpr ⟨fun z=>by omega,fun z=>by omega⟩
  rw [e]
theorem Kr {ls:List (List Nat)}(hl:ls.length<=1000)(h:∀l∈ls,l.length=(ls.headD []).length):mq [.lst (ls.map Dt.str)]=.ok .aI:=by
 unfold mq B2
 exists ev
 rw [Mq hl];have:(ls.all fun l=>decide (l.length=(ls.headD []).length))=true:=by
  rw [dO];intro l hm;simpa using h l hm
 rw [this]
 exists ev
theorem TY {ls:List (List Nat)}(hl:ls.length<=1000)(h:¬ ∀l∈ls,l.length=(ls.headD []).length):mq [.lst (ls.map Dt.str)]=.ex 6:=by
 unfold mq B2
 exists ev
 rw [Mq hl];have:(ls.all fun l=>decide (l.length=(ls.headD []).length))=false:=by
  rw [Bool.eq_false_iff];intro z;rw [dO] at z;exact h fun l hm=>by simpa using z l hm
 rw [this]
 exists ev
theorem CY {a b:List Nat}(h:a.length=b.length):mq [.lst [.str a,.str b]]=.ok .aI:=Kr (ls:=[a,b]) (by simp) (by simp [h])
theorem vU {α:Type}(f:α->Nat):∀l:List α,kn (l.map fun i=>Dt.str [f i])=some (l.map fun i=>[f i])
 | []=>rfl
 |a::l=>by simp [kn,vU f l]
theorem rm {α:Type}(f:α->Nat):∀l:List α,(l.map fun i=>[f i]).flatten=l.map f
 | []=>rfl
 |a::l=>by simp [rm f l]
noncomputable def hN (w b:List Nat)(c:Nat):Nat->Nat
 |0=>c
 |t+1=>if up b t=true then lv w t else hN w b c t
noncomputable def hL (w b:List Nat)(c:Nat):List Nat:=(fV b.length).map (hN w b c)
theorem QJ {α:Type}(f:α->List Nat):∀l:List α,e8 (l.map fun a=>Dt.str (f a))=0
 | []=>rfl
 |a::l=>by simp only [bG,e8,dep,QJ f l]; rfl
end Pg
namespace L2
noncomputable def A7 (kvs:List (List Nat×List Nat)):Dt->M Dt:=me (kvs.map fun q=>(q.1,Dt.str q.2))
noncomputable def aag:Option (List (List Nat))->M Dt
 |some ls=>.ok (.int (ls.eraseDups.length:Nat))
 |none=>.bad
noncomputable def tO:Dt->M Dt
 |.lst ds=>if ds.length<=1000 then aag (kn ds) else .bad
 |_=>.bad
noncomputable def xP:List Dt->M Dt
 | [.lst ds]=>.ok (.tup ds)
 | [.tup ds]=>.ok (.tup ds)
 |_=>.bad
noncomputable def lM:List Dt->Option (List Int)
 | []=>some []
 |.int i::r=>(lM r).map (i :: ·)
 |_=>none
noncomputable def vK:Dt->M Unit
 |.str l=>if l.length<=50/\(l.all fun c=>decide (c<1000))=true then .ok () else .bad
 |_=>.bad
noncomputable def ti (f:aa->M Dt):aa->M Unit:=fun ρ=>(f ρ).bd vK
noncomputable def Xn (i j:Nat)(ρ:aa)(d:Dt):M Fl:=.ok (.nx ((mW i d ρ).set j (.own [])))
noncomputable def zf (i j:Nat)(f:aa->M Dt):SM:=fun ρ=>(f ρ).bd (Xn i j ρ)
noncomputable def Hw (i:Nat)(ρ:aa)(ds:List Dt):Dt->M Fl
 |.lst es=>if ds.length+es.length<=10000 then .ok (.nx (ρ.set i (.own (ds++es)))) else .bad
 |_=>.bad
noncomputable def Hv (i:Nat)(f:aa->M Dt)(ρ:aa):Option Bd->M Fl
 |some (.own ds)=>(f ρ).bd (Hw i ρ ds)
 |_=>.bad
noncomputable def Wo (i:Nat)(f:aa->M Dt):SM:=fun ρ=>Hv i f ρ ρ[i]?
noncomputable def gy (j:Nat):List Nat:=[[99,108,97,115,104],[110,111,32,110,97,109,101],[110,111,32,116,101,120,116],[110,111,32,116,105,99,107],[110,111,32,119,97,118,101],[116,111,111,32,108,111,110,103],[117,110,108,105,107,101],[110,111,32,98,97,99,107]].getD j []
noncomputable def AU (g:GM)(b:SM):List Dt->SM
 | [],ρ=>.ok (.nx ρ)
 |d::ds,ρ=>(g d ρ).calm.bd fun aX=>(b aX).bd (fork (AU g b ds))
noncomputable def Wn (it:IM)(g:GM)(b:SM):SM:=fun ρ=>(it ρ).bd fun ds=>AU g b ds ρ
noncomputable abbrev aq:=List (List Nat×List Nat)
noncomputable def uS:Dt->M aq
 |.aj kvs=>.ok kvs
 |_=>.bad
noncomputable def Le:Dt->M (List Nat)
 |.str l=>.ok l
 |_=>.bad
noncomputable def nE (kvs:aq)(l:List Nat):M Dt:=match ay kvs l with | some v=>.ok (.str v) | none=>.bad
noncomputable def fO:Dt->Dt->M Dt
 |.aj kvs,.str l=>nE kvs l
 |_,_=>.bad
noncomputable def wz:Dt->Dt->M Dt
 |.str l,.aj kvs=>.ok (.bl (ay kvs l).isSome)
 |_,_=>.bad
noncomputable def wu:Dt->Dt->M Dt
 |.str l,.aj kvs=>.ok (.bl (!(ay kvs l).isSome))
 |_,_=>.bad
noncomputable def qY (kvs:aq)(e:Dt):Dt->M Dt
 |.str l=>.ok (match ay kvs l with | some v=>.str v | none=>e)
 |_=>.bad
noncomputable def Ml (f g:aa->M Dt):aa->M Dt:=fun ρ=>(f ρ).bd fun d=>(uS d).bd fun kvs=>(g ρ).bd fun k=>qY kvs .aI k
noncomputable def Mj (f g h:aa->M Dt):aa->M Dt:=fun ρ=>(f ρ).bd fun d=>(uS d).bd fun kvs=>(g ρ).bd fun k=>(h ρ).bd fun e=>qY kvs e k
noncomputable def dh (kvs:aq)(k v:List Nat):aq:=if (kvs.any fun p=>p.1==k)=true then kvs.map (fun p=>if p.1==k then (p.1,v) else p) else kvs++[(k,v)]
noncomputable def cw (kvs:aq)(k:List Nat):aq:=kvs.filter fun p=>!(p.1==k)
noncomputable def oF:aa->M Dt:=fun _=>.ok (.aj [])
noncomputable def wa (i:Nat)(f:aa->M Dt):SM:=fun ρ=>(f ρ).bd fun d=>(uS d).bd fun kvs=>.ok (.nx (ρ.set i (.bT kvs)))
noncomputable def Wl (i:Nat):SM:=fun ρ=>.ok (.nx (ρ.set i (.bT [])))
noncomputable def uR (i:Nat)(ρ:aa)(kvs:aq)(v:List Nat):Dt->M Fl
 |.str k=>if kvs.length<10000 then .ok (.nx (ρ.set i (.bT (dh kvs k v)))) else .bad
 |_=>.bad
noncomputable def A6 (i:Nat)(fk fv:aa->M Dt)(ρ:aa):Option Bd->M Fl
 |some (.bT kvs)=>(fv ρ).bd fun d=>(Le d).bd fun v=>(fk ρ).bd (uR i ρ kvs v)
 |_=>.bad
noncomputable def tI (i:Nat)(fk fv:aa->M Dt):SM:=fun ρ=>A6 i fk fv ρ ρ[i]?
noncomputable def zC (i:Nat)(ρ:aa)(kvs:aq):Dt->M Fl
 |.str k=>if (ay kvs k).isSome=true then .ok (.nx (ρ.set i (.bT (cw kvs k)))) else .bad
 |_=>.bad
noncomputable def zy (i:Nat)(fk:aa->M Dt)(ρ:aa):Option Bd->M Fl
 |some (.bT kvs)=>(fk ρ).bd (zC i ρ kvs)
 |_=>.bad
noncomputable def zi (i:Nat)(fk:aa->M Dt):SM:=fun ρ=>zy i fk ρ ρ[i]?
noncomputable def lL (kvs:aq):List Dt:=kvs.map fun p=>.str p.1
noncomputable def CQ (kvs:aq):List Dt:=kvs.map fun p=>.str p.2
noncomputable def FN (kvs:aq):List Dt:=kvs.map fun p=>.tup [.str p.1,.str p.2]
noncomputable def kI (f:aa->M Dt):IM:=fun ρ=>(f ρ).bd fun d=>(uS d).bd fun kvs=>.ok (lL kvs)
noncomputable def Oi (f:aa->M Dt):IM:=fun ρ=>(f ρ).bd fun d=>(uS d).bd fun kvs=>.ok (CQ kvs)
noncomputable def Ol (f:aa->M Dt):IM:=fun ρ=>(f ρ).bd fun d=>(uS d).bd fun kvs=>.ok (FN kvs)
noncomputable def g9:List Dt->Option aq
 | []=>some []
 |.tup [.str k,.str v]::r=>(g9 r).map ((k,v) :: ·)
 |_=>none
noncomputable def jc (kvs more:aq):aq:=more.foldl (fun a p=>dh a p.1 p.2) kvs
noncomputable def Es:Option aq->M Dt
 |some ps=>.ok (.aj (jc [] ps))
 |none=>.bad
noncomputable def Rk:List Dt->M Dt
 | [.aj kvs]=>.ok (.aj kvs)
 | [.lst ds]=>Es (g9 ds)
 |_=>.bad
noncomputable def pP:Option Bd->Bd
 |some (.val d)=>.val d
 |some (.aQ x y)=>.bor none x y
 |some (.bor p x y)=>.bor p x y
 |_=>.no
noncomputable def jF (fr:List Nat)(ρ:aa):aa:=fr.map fun j=>pP ρ[j]?
mutual
noncomputable def qu:Dt->Bool
 |.lst _=>false
 |.tup ds=>jP ds
 |_=>true
noncomputable def jP:List Dt->Bool
 | []=>true
 |d::r=>qu d&&jP r
end
noncomputable def nG:Option Bd->Option (List Dt×List Dt)
 |some (.aQ x y)=>some (x,y)
 |some (.bor _ x y)=>some (x,y)
 |_=>none
noncomputable def rg:List Dt->Option (List Dt)
 | []=>some []
 |.tup [s,_]::r=>(rg r).map (s :: ·)
 |_=>none
noncomputable def rH (x _:List Dt):M Dt:=match rg x with
 |some ds=>if jP ds=true/\ds.length<=10000 then .ok (.lst ds) else .bad
 |none=>.bad
noncomputable def ft:Option Dt->M Dt
 |none=>.ok (.aj [])
 |some (.tup [_,.aj ks])=>.ok (.aj ks)
 |_=>.bad
noncomputable def pj (x _:List Dt):M Dt:=ft x.getLast?
noncomputable def Bl (x y:List Dt):M Dt:=.ok (.tup [.int x.length,.int y.length])
noncomputable def Ef (F:List Dt->List Dt->M Dt):Option (List Dt×List Dt)->M Dt
 |some p=>F p.1 p.2
 |none=>.bad
noncomputable def gQ (i:Nat)(F:List Dt->List Dt->M Dt):aa->M Dt:=fun ρ=>Ef F (nG ρ[i]?)
noncomputable def gF (x:List Dt)(s b:Dt):M (List Dt):=if x.length<10000 then .ok (x++[.tup [s,b]]) else .bad
noncomputable abbrev BM:=List Dt->List Dt->List Dt->M (Dt×List Dt×List Dt)
noncomputable def k9:BM:=fun x _ ds=>match ds with
 | [s,b]=>(gF x s b).bd fun x'=>.ok (.aI,x',[])
 |_=>.bad
noncomputable abbrev TB:=aa->M (Bool×aa)
noncomputable def vM (f:aa->M Bool):TB:=fun ρ=>(f ρ).bd fun b=>.ok (b,ρ)
noncomputable def Bi (ρ:aa):Dt->M (Bool×aa)
 |.bl b=>.ok (b,ρ)
 |_=>.bad
noncomputable def tj (F G:TB):TB:=fun ρ=>(F ρ).bd fun r=>if r.1=true then .ok (true,r.2) else G r.2
noncomputable def wb (F:TB)(s t:SM):SM:=fun ρ=>(F ρ).bd fun r=>if r.1=true then s r.2 else t r.2
noncomputable def eG:List SM->SM
 | []=>dw
 |a::r=>aZ a (eG r)
noncomputable def uW (fs:aa->M (List Dt))(e:aa->M Dt)(ρ:aa):Option Bd->M (Dt×List Dt×List Dt)
 |some (.bor _ x y)=>(fs ρ).bd fun ds=>(k9 x y ds).bd fun r=>(e (ρ.set 0 .no)).calm.bd fun d=>.ok (d,r.2.1,r.2.2)
 |_=>.bad
noncomputable def pf (fs:aa->M (List Dt))(e:aa->M Dt):M Fl->M (Dt×List Dt×List Dt)
 |.ok (.nx ρ)=>uW fs e ρ ρ[0]?
 |.ex c=>.ex c
 |_=>.bad
theorem uT {fs:aa->M (List Dt)}{e:aa->M Dt}{ρ:aa}:pf fs e (eG [] ρ)=uW fs e ρ ρ[0]?:=rfl
theorem uU {fs:aa->M (List Dt)}{e f:aa->M Dt}{r:List SM}{ρ:aa}:pf fs e (eG (iy f::r) ρ)=(f ρ).bd fun _=>pf fs e (eG r ρ):=by
 show pf fs e (aZ (iy f) (eG r) ρ)=_;unfold aZ iy
 cases f ρ <;> rfl
theorem uV {fs:aa->M (List Dt)}{e f:aa->M Dt}{i:Nat}{r:List SM}{ρ:aa}:pf fs e (eG (cP f (aL i)::r) ρ)=(f ρ).bd fun d=>pf fs e (eG r (ρ.set i (.val d))):=by
 show pf fs e (aZ (cP f (aL i)) (eG r) ρ)=_;unfold aZ cP
 cases f ρ <;> rfl
noncomputable def gU (np n:Nat)(pre:SM)(fs:aa->M (List Dt))(e:aa->M Dt)(p:Nat):BM:=fun x y ds=>if ds.length=np then pf fs e (pre (.bor (some p) x y::(ds.map Bd.val++a7 n .no))) else .bad
noncomputable def gW (g:GM)(tc:aa->M Bool)(te:aa->M Dt)(ρ0:aa):List Dt->M (List Dt)
 | []=>.ok []
 |d::ds=>(g d ρ0).calm.bd fun aX=>(tc aX).bd fun b=>if b=true then (te aX).bd fun x=>(gW g tc te ρ0 ds).bd fun xs=>.ok (x::xs) else gW g tc te ρ0 ds
noncomputable def wt (k:Nat)(fr:List Nat)(it:IM)(g:GM)(tc:aa->M Bool)(te:aa->M Dt):aa->M Dt:=fun ρ=>(it ρ).bd fun ds=>(gW g tc te (bQ k fr ρ) ds).bd gE
noncomputable def qt:Dt->Dt->M Dt
 |.tup (a::r),.tup b=>if (a::r).length+b.length<=10000 then .ok (.tup ((a::r)++b)) else .bad
 |_,_=>.bad
noncomputable def oO:List (List Nat×Int)->List Nat->Option Int
 | [],_=>none
 | (k,v)::r,l=>if l=k then some v else oO r l
noncomputable def Oe:Option Int->Dt
 |some i=>.int i
 |none=>.aI
noncomputable def rE (kvs:List (List Nat×Int)):Dt->M Dt
 |.str l=>.ok (Oe (oO kvs l))
 |_=>.bad
noncomputable abbrev GB:=aa->M (Dt×List Dt×List Dt)
noncomputable def AN (F:BM)(m:M (List Dt)):Option (List Dt×List Dt)->M (Dt×List Dt×List Dt)
 |some p=>m.bd fun ds=>F p.1 p.2 ds
 |none=>.bad
noncomputable def iH (i:Nat)(F:BM)(fs:aa->M (List Dt)):GB:=fun ρ=>AN F (fs ρ) (nG ρ[i]?)
noncomputable def qZ (t:aa->M Bool)(g h:GB):GB:=fun ρ=>(t ρ).bd fun b=>if b=true then g ρ else h ρ
noncomputable def kj (cs:List Nat)(o:Option (List Dt×List Dt)):M (Dt×List Dt×List Dt)->M (Dt×List Dt×List Dt)
 |.ok r=>.ok r
 |.ex c=>match o with
  |some p=>if c∈cs then .ok (.str (gy c),p.1,p.2) else .bad
  |none=>.bad
 |.bad=>.bad
noncomputable def ug (i:Nat)(cs fr:List Nat)(g:GB):GB:=fun ρ=>kj cs (nG ρ[i]?) (g (jF fr ρ))
noncomputable def o6 (np n:Nat)(G:GB):BM:=fun x y ds=>if ds.length=np then G (.bor none x y::(ds.map Bd.val++a7 n .no)) else .bad
noncomputable def wI (i:Nat)(ρ:aa)(m:M (Dt×List Dt×List Dt)):Option Bd->M (Dt×aa)
 |some (.aQ x y)=>m.bd fun r=>.ok (r.1,ρ.set i (.aQ r.2.1 r.2.2))
 |_=>.bad
noncomputable def vN (i:Nat)(G:GB)(op:Dt->Dt->M Dt)(g:aa->M Dt):TB:=fun ρ=>(wI i ρ (G ρ) ρ[i]?).bd fun r=>(g r.2).bd fun d=>(op r.1 d).bd (Bi r.2)
noncomputable def lend (i:Nat)(ρ:aa):aa:=match ρ[i]? with
 |some (.bT ks)=>ρ.set i (.val (.aj ks))
 |_=>ρ
noncomputable def tH (i:Nat)(t:aa->M Bool)(s u:SM):SM:=fun ρ=>(t (lend i ρ)).bd fun b=>if b=true then s ρ else u ρ
noncomputable def Mm (i:Nat)(ρ:aa):Dt->M Fl
 |.lst ds=>match g9 ds with
  |some ps=>.ok (.nx (ρ.set i (.bT (jc [] ps))))
  |none=>.bad
 |_=>.bad
noncomputable def zh (i:Nat)(f:aa->M Dt):SM:=fun ρ=>(f ρ).bd (Mm i ρ)
noncomputable def oH (a:Nat):Dt->M Dt
 |.tup ds=>if a<=ds.length then .ok (.tup (ds.drop a)) else .bad
 |_=>.bad
noncomputable def QG (k1 k2 k3:List Nat)(b1 b2 b3:Bool)(e:Dt):Dt->M Dt
 |.str l=>.ok (if l=k1 then .bl b1 else if l=k2 then .bl b2 else if l=k3 then .bl b3 else e)
 |_=>.bad
noncomputable def zJ (k1 k2 k3:List Nat)(f1 f2 f3 g h:aa->M Dt):aa->M Dt:=fun ρ=>(f1 ρ).bd fun d1=>(f2 ρ).bd fun d2=>(f3 ρ).bd fun d3=>(g ρ).bd fun k=>(h ρ).bd fun e=>(i7 d1).bd fun b1=>(i7 d2).bd fun b2=>(i7 d3).bd fun b3=>QG k1 k2 k3 b1 b2 b3 e k
noncomputable def qd (i:Nat)(g:List Dt->aa->M aa)(fs:aa->M (List Dt)):SM:=fun ρ=>(fs ρ).bd fun ds=>(g ds (ρ.set i (.aQ [] []))).calm.bd fun ρ'=>.ok (.nx ρ')
noncomputable def Nq:Option (List Int)->M Dt
 |some ls=>.ok (.int (ls.eraseDups.length:Nat))
 |none=>.bad
noncomputable def qr:Dt->M Dt
 |.lst ds=>if ds.length<=1000 then Nq (lM ds) else .bad
 |_=>.bad
end L2
namespace Pg
open L2
section
variable {x y z:Dt}{ds:List Dt}{l:List Nat}{ρ:aa}{s:SM}{cs:List Nat}{i k:Nat}
noncomputable def NN (y:Dt)(a:List Dt):M (List Dt):=(ko y).bd (qB a)
theorem Iz:se [x,y]=(ko x).bd (NN y):=.trans rfl rfl
theorem IE:NN y ds=(ko y).bd (qB ds):=.trans rfl rfl
theorem IB:ko (.str l)=.ok (eF l):=.trans rfl rfl
end
theorem e1 (a b:Nat):([a]=[b])=(a=b):=by simp
theorem ZY (l:List Nat):(fV l.length).map (lv l)=l:=by
 apply B7
 intro i;unfold lv
 by_cases h:i<l.length
 ·simp [h]
 ·simp [h]
theorem Hl {g:GM}{b:SM}:∀(ds:List Dt) (P:Nat->aa->Prop) (ρ:aa),P 0 ρ->(∀j d ρ,ds[j]?=some d->P j ρ->∃ρ',((g d ρ).calm.bd fun aX=>(b aX).calm)=.ok (.nx ρ')/\P (j+1) ρ')->∃ρ',iJ g b ds ρ=.ok (.nx ρ')/\P ds.length ρ'
 | [],P,ρ,h0,_=>⟨ρ,rfl,h0⟩
 |d::ds,P,ρ,h0,h=>by
  obtain⟨aX,e1,p1⟩:=h 0 d ρ rfl h0;obtain⟨mx,e2,p2⟩:=Hl ds (fun i=>P (i+1)) aX p1 fun j e ρ he hp=>h (j+1) e ρ (by simpa using he) hp;refine⟨mx,?_,p2⟩;rw [II]
  cases hg:g d ρ with
  |ok ρ'=>
   rw [hg] at e1;simp only [iL,bz] at e1 ⊢;rw [IF,e1];exact e2
  |ex c=>rw [hg] at e1; cases e1
  |bad=>rw [hg] at e1; cases e1
noncomputable def opts (c:Nat):List Nat:=if c=120 then [48,49] else [c]
theorem X3 (c:Nat):(opts c).length<=2:=by unfold opts; split <;> simp
theorem Sr {w o:List Nat}(h:w.length=o.length):i4 (eF w) (eF o)=(fV w.length).map fun i=>Dt.tup [.str [lv w i],.str [lv o i]]:=by
 apply B7
 intro i
 by_cases hi:i<w.length
 ·have ho:i<o.length:=by omega
  simp [i4,eF,lv,hi,ho,List.getElem?_zip_eq_some]
 ·rw [List.getElem?_eq_none (by simp [i4,eF]; omega),List.getElem?_eq_none (by simp; omega)]
noncomputable def fT (l:List Nat):Prop:=∀c∈l,c=48∨c=49∨c=120
noncomputable def Bh (c d:Nat):Nat:=if c=48∨d=48 then 48 else if c=120∨d=120 then 120 else 49
noncomputable def A3 (c d:Nat):Nat:=if c=49∨d=49 then 49 else if c=120∨d=120 then 120 else 48
noncomputable def yV (c d:Nat):Nat:=if c=120∨d=120 then 120 else if c=d then 48 else 49
theorem zY:((120:Nat)=48)=False:=by simp
theorem zX:((120:Nat)=49)=False:=by simp
theorem afb (c d:Nat):BR [.str [c],.str [d]]=.ok (.str [Bh c d]):=by
 unfold BR JX Bh
 by_cases h1:c=48 <;> by_cases h2:d=48 <;> by_cases h3:c=120 <;> by_cases h4:d=120 <;> first | omega | (simp only [h1,h2,h3,h4,zY,zX,true_or,or_true,or_self,or_false,false_or,if_true,if_false]; exists aS,e1,h1,h2,h3,h4,zY,zX)
theorem adN (c d:Nat):BP [.str [c],.str [d]]=.ok (.str [A3 c d]):=by
 unfold BP JV A3
 by_cases h1:c=49 <;> by_cases h2:d=49 <;> by_cases h3:c=120 <;> by_cases h4:d=120 <;> first | omega | (simp only [h1,h2,h3,h4,zY,zX,true_or,or_true,or_self,or_false,false_or,if_true,if_false]; exists aS,e1,h1,h2,h3,h4,zY,zX)
theorem T1 (c d:Nat):BJ [.str [c],.str [d]]=.ok (.str [yV c d]):=by
 unfold BJ JO yV
 by_cases h3:c=120 <;> by_cases h4:d=120 <;> by_cases h5:c=d <;> first | omega | (simp only [h3,h4,h5,true_or,or_true,or_self,if_true,if_false]; exists aS,e1,h3,h4,h5)
noncomputable def gm (g:Nat->Nat->Nat)(a b:List Nat):List Nat:=(fV a.length).map fun i=>g (lv a i) (lv b i)
theorem acS (g:Nat->Nat->Nat)(a b:List Nat):(gm g a b).length=a.length:=by simp [gm]
theorem G2 {F:List Dt->M Dt}{g:Nat->Nat->Nat}(hF:∀c d,F [.str [c],.str [d]]=.ok (.str [g c d])){a b:List Nat}{ρ:aa}(h:a.length=b.length)(ha:a.length<=1000):gh 2 [] (iI 2 (dZ (aL 0) (dZ (aL 1) kS))) cO (aN F (ag (ae 0) (ag (ae 1) au))) ρ (i4 (eF a) (eF b))=.ok (.lst ((fV a.length).map fun i=>.str [g (lv a i) (lv b i)])):=by
 rw [Sr h];simp only [gh];rw [kY (fun(i:Nat)=>Dt.tup [.str [lv a i],.str [lv b i]]) (fun i=>some (.str [g (lv a i) (lv b i)]))]
 ·rw [nA,iL,bz,cY (by simp; omega)]
 ·intro i hi
  exists aS,iP,iO,bQ,j0,hF,j4
theorem afa {a b:List Nat}(h:a.length=b.length)(ha:a.length<=1000):BS [.str a,.str b]=.ok (.str (gm Bh a b)):=by
 unfold BS JY
 exists ev
 rw [cY (by simp)]
 exists aS,CY h,Iz,IE,IB
 rw [G2 afb h ha]
 exists aS,vU,rm
 rw [tE (by simp; omega)]
 exists ev
 rfl
theorem adM {a b:List Nat}(h:a.length=b.length)(ha:a.length<=1000):BQ [.str a,.str b]=.ok (.str (gm A3 a b)):=by
 unfold BQ JW
 exists ev
 rw [cY (by simp)]
 exists aS,CY h,Iz,IE,IB
 rw [G2 adN h ha]
 exists aS,vU,rm
 rw [tE (by simp; omega)]
 exists ev
 rfl
theorem TZ {a b:List Nat}(h:a.length=b.length)(ha:a.length<=1000):BK [.str a,.str b]=.ok (.str (gm yV a b)):=by
 unfold BK JP
 exists ev
 rw [cY (by simp)]
 exists aS,CY h,Iz,IE,IB
 rw [G2 T1 h ha]
 exists aS,vU,rm
 rw [tE (by simp; omega)]
 exists ev
 rfl
theorem tU {l:List Nat}(h:fT l){i:Nat}(hi:i<l.length):lv l i=48∨lv l i=49∨lv l i=120:=h _ (by simp [lv,hi])
theorem Z0 {g:Nat->Nat->Nat}{a b:List Nat}(hg:∀{c d:Nat},(c=48∨c=49∨c=120)->(d=48∨d=49∨d=120)->g c d=48∨g c d=49∨g c d=120)(ha:fT a)(hb:fT b)(h:a.length=b.length):fT (gm g a b):=by
 intro c hc;simp only [gm,df,List.mem_range] at hc;obtain⟨i,hi,rfl⟩:=hc;exact hg (tU ha hi) (tU hb (by omega))
noncomputable def JN:SM:=(aZ (wa 3 (ae 0))
 (aZ (tI 3 (ae 1) (ae 2))
 (lI 3 (bR (ae 3)))))
noncomputable def BI:List Dt->M Dt:=cI 3 1 JN
noncomputable def B0:SM:=(aZ (iy (aN mq (ag (p2 cG (gR (ag (ae 2) au)) (dy 1 [0,1] (kI (ae 0)) (aL 0) (a6 (p2 eW (ae 0) (ae 2))) (p2 fO (ae 1) (ae 0)))) au)))
 (bR (aN BI (ag (ae 0) (ag (ae 1) (ag (ae 2) au))))))
noncomputable def iU:List Dt->M Dt:=cI 3 0 B0
noncomputable def B1:SM:=(aZ (dI (a6 (p2 wu (ae 1) (ae 0))) (qc 1 (ti (ae 1))) dw)
 (bR (p2 fO (ae 0) (ae 1))))
noncomputable def iV:List Dt->M Dt:=cI 2 0 B1
noncomputable def BZ:SM:=(aZ (iy (aN iV (ag (ae 0) (ag (ae 1) au))))
 (aZ (wa 2 (ae 0))
 (aZ (zi 2 (ae 1))
 (lI 2 (bR (ae 2))))))
noncomputable def nK:List Dt->M Dt:=cI 2 1 BZ
noncomputable def JU:SM:=(aZ (dI (lE (tu (a6 (p1 EN (ae 0)))) (tu (a6 (zK oLe oLe (pC (.int 1)) (aN eu (ag (ae 0) au)) (pC (.int 4)))))) (bR (pC (.bl false))) dw)
 (bR (aN xQ (ag (dy 1 [] (fP (ae 0)) (aL 0) cO (p2 fN (ae 0) (pC (.str [97,98,99,100,101,102,103,104,105,106,107,108,109,110,111,112,113,114,115,116,117,118,119,120,121,122])))) au))))
noncomputable def BO:List Dt->M Dt:=cI 1 0 JU
noncomputable def JQ:SM:=(dI (tu (a6 (aN BO (ag (ae 0) au)))) (qc 1 (ti (ae 0))) dw)
noncomputable def nM:List Dt->M Dt:=cI 1 0 JQ
noncomputable def JS:SM:=(bR (oE m9 (pC (.str [])) (ag (dy 1 [] (fP (ae 0)) (aL 0) cO (p1 (A7 [([48],[49]),([49],[48]),([120],[120])]) (ae 0))) au)))
noncomputable def BN:List Dt->M Dt:=cI 1 0 JS
noncomputable def B3:SM:=(aZ (dI (a6 (p2 eW (aN eu (ag (ae 1) au)) (p1 (rE [([110,111],1),([98,111,116,104],2),([101,105,116,104,101,114],2),([117,110,108,105,107,101],2)]) (ae 0)))) (qc 1 (ti (ae 0))) dw)
 (aZ (dI (a6 (p2 oEq (ae 0) (pC (.str [110,111])))) (bR (aN BN (ag (p2 aO (ae 1) (pC (.int 0))) au))) dw)
 (aZ (dI (a6 (p2 oEq (ae 0) (pC (.str [98,111,116,104])))) (bR (aN BS (ag (p2 aO (ae 1) (pC (.int 0))) (ag (p2 aO (ae 1) (pC (.int 1))) au)))) dw)
 (aZ (dI (a6 (p2 oEq (ae 0) (pC (.str [101,105,116,104,101,114])))) (bR (aN BQ (ag (p2 aO (ae 1) (pC (.int 0))) (ag (p2 aO (ae 1) (pC (.int 1))) au)))) dw)
 (bR (aN BK (ag (p2 aO (ae 1) (pC (.int 0))) (ag (p2 aO (ae 1) (pC (.int 1))) au))))))))
noncomputable def jn:List Dt->M Dt:=cI 2 0 B3
noncomputable def J2:SM:=(aZ (cP (gR (ag (pC (.str [97])) (ag (pC (.str [98])) (ag (pC (.str [99,100])) (ag (pC (.str [119,120,121,122])) au))))) (aL 4))
 (aZ (zg 5 6 (ag (p2 aO (ae 4) (aN ik (ag (ae 0) (ag (ae 1) (ag (pC (.int 4)) au))))) (ag (aN ik (ag (ae 0) (ag (p2 cG (ae 1) (pC (.int 1))) (ag (pC (.int 7)) au)))) au)))
 (aZ (dI (lE (a6 (p2 oLt (ae 6) (pC (.int 3)))) (a6 (p2 oEq (ae 2) oF))) (aZ (cP (p2 cG (ae 3) (aN j5 (ag (p2 oEq (aN ik (ag (ae 0) (ag (p2 cG (ae 1) (pC (.int 2))) (ag (pC (.int 8)) au)))) (pC (.int 0))) au))) (aL 7))
 (bR (fw (ag (pC (.str [112,117,116])) (ag (ae 5) (ag (aN yg (ag (ae 0) (ag (p2 cG (ae 1) (pC (.int 10))) (ag (aN Bm (ag (pC (.int 12)) (ag (ae 7) au))) (ag (pC (.str [48,49,120])) au))))) au)))))) dw)
 (aZ (dI (a6 (p2 oEq (ae 6) (pC (.int 3)))) (bR (fw (ag (pC (.str [116,97,107,101])) (ag (ae 5) au)))) dw)
 (aZ (cP (p2 aO (gR (ag (pC (.str [110,111])) (ag (pC (.str [98,111,116,104])) (ag (pC (.str [101,105,116,104,101,114])) (ag (pC (.str [117,110,108,105,107,101])) au))))) (aN ik (ag (ae 0) (ag (p2 cG (ae 1) (pC (.int 3))) (ag (pC (.int 4)) au))))) (aL 8))
 (aZ (cP (dy 1 [0,1,4] (kJ tJ (ag (jM (a6 (p2 oEq (ae 8) (pC (.str [110,111])))) (pC (.int 1)) (pC (.int 2))) au)) (aL 0) cO (p2 aO (ae 3) (aN ik (ag (ae 1) (ag (p2 cG (p2 cG (ae 2) (pC (.int 4))) (ae 0)) (ag (pC (.int 4)) au)))))) (aL 9))
 (bR (p2 qt (fw (ag (pC (.str [103,97,116,101])) (ag (ae 5) (ag (ae 8) au)))) (aN xP (ag (ae 9) au))))))))))
noncomputable def BV:List Dt->M Dt:=cI 4 6 J2
noncomputable def Jy:SM:=(aZ (cP (p2 cG (aN j5 (ag (p2 oEq (ae 6) (pC (.str [49]))) au)) (aN j5 (ag (p2 oEq (ae 7) (pC (.str [49]))) au))) (aL 8))
 (aZ (cP (zJ [98,111,116,104] [101,105,116,104,101,114] [117,110,108,105,107,101] (p2 oEq (ae 8) (pC (.int 2))) (p2 oG (ae 8) (pC (.int 0))) (p2 oEq (ae 8) (pC (.int 1))) (ae 0) (p2 oEq (ae 6) (pC (.str [48])))) (aL 9))
 (zj 5 (jM (a6 (ae 9)) (pC (.str [49])) (pC (.str [48]))))))
noncomputable def BF:SM:=(oi (fP (jM (a6 (p2 oEq (p2 aO (ae 4) (p1 wy (pC (.int 1)))) (pC (.str [120])))) (pC (.str [48,49])) (p2 aO (ae 4) (p1 wy (pC (.int 1)))))) (aL 7) Jy)
noncomputable def BE:SM:=(aZ (zf 4 5 (dy 1 [3] (fP (ae 1)) (aL 0) cO (p2 aO (ae 0) (ae 1))))
 (aZ (oi (fP (jM (a6 (p2 oEq (p2 aO (ae 4) (pC (.int 0))) (pC (.str [120])))) (pC (.str [48,49])) (p2 aO (ae 4) (pC (.int 0))))) (aL 6) BF)
 (lI 5 (cP (p2 cG (ae 2) (jM (a6 (p2 oEq (p1 tO (ae 5)) (pC (.int 1)))) (p2 aO (ae 5) (pC (.int 0))) (pC (.str [120])))) (aL 2)))))
noncomputable def J1:SM:=(aZ (cP (pC (.str [])) (aL 2))
 (lI 5 (aZ (oi (kJ tJ (ag (aN eu (ag (p2 aO (ae 1) (pC (.int 0))) au)) au)) (aL 3) BE)
 (bR (ae 2)))))
noncomputable def vi:List Dt->M Dt:=cI 2 8 J1
noncomputable def yh:SM:=(aZ (zh 2 (dy 1 [0,1] (kI (ae 0)) (aL 0) (a6 (p2 eW (ae 0) (p2 aO (ae 2) (pC (.int 1))))) (fw (ag (ae 0) (ag (p2 fO (ae 1) (ae 0)) au)))))
 (aZ (dI (a6 (p2 oEq (p2 aO (ae 1) (pC (.int 0))) (pC (.str [116,97,107,101])))) (lI 2 (bR (jM (a6 (p2 wz (p2 aO (ae 1) (pC (.int 1))) (ae 0))) (fw (ag (ae 2) (ag (p2 fO (ae 0) (p2 aO (ae 1) (pC (.int 1)))) au))) (fw (ag (ae 0) (ag (pC (.str [110,111,32,110,97,109,101])) au)))))) dw)
 (aZ (dI (a6 (p2 oEq (p2 aO (ae 1) (pC (.int 0))) (pC (.str [112,117,116])))) (aZ (tH 2 (a6 (p2 oG (p1 qr (p2 cG (dy 1 [2] (kI (ae 2)) (aL 0) cO (aN eu (ag (p2 fO (ae 1) (ae 0)) au))) (gR (ag (aN eu (ag (p2 aO (ae 1) (pC (.int 2))) au)) au)))) (pC (.int 1)))) (bR (fw (ag (ae 0) (ag (pC (.str [117,110,108,105,107,101])) au)))) dw)
 (aZ (tI 2 (p2 aO (ae 1) (pC (.int 1))) (p2 aO (ae 1) (pC (.int 2))))
 (lI 2 (bR (fw (ag (ae 2) (ag (p2 wz (p2 aO (ae 1) (pC (.int 1))) (ae 0)) au))))))) dw)
 (aZ (dI (a6 (p2 eW (dy 1 [0] (fP (p1 (oH 3) (ae 1))) (aL 0) (a6 (p2 wu (ae 0) (ae 1))) (ae 0)) (gR au))) (bR (fw (ag (ae 0) (ag (pC (.str [110,111,32,110,97,109,101])) au)))) dw)
 (aZ (tI 2 (p2 aO (ae 1) (pC (.int 1))) (aN vi (ag (p2 aO (ae 1) (pC (.int 2))) (ag (dy 1 [0] (fP (p1 (oH 3) (ae 1))) (aL 0) cO (p2 fO (ae 1) (ae 0))) au))))
 (lI 2 (bR (fw (ag (ae 2) (ag (p2 fO (ae 2) (p2 aO (ae 1) (pC (.int 1)))) au))))))))))
noncomputable def nN:List Dt->M Dt:=cI 2 1 yh
noncomputable def wg:List SM:=[(iy (aN nM (ag (ae 1) au))),(cP (gQ 0 pj) (aL 3))]
noncomputable def Bp:aa->M (List Dt):=(ag (fw (ag (pC (.str [112,117,116])) (ag (ae 1) (ag (ae 2) au)))) (ag (aN iU (ag (ae 3) (ag (ae 1) (ag (ae 2) au)))) au))
noncomputable def zr:aa->M Dt:=(p2 wz (ae 1) (ae 3))
noncomputable def k8:BM:=gU 2 1 (eG wg) Bp zr 0
noncomputable def wj:List SM:=[(iy (aN nM (ag (ae 1) au))),(cP (gQ 0 pj) (aL 4)),(cP (aN jn (ag (ae 2) (ag (wt 1 [4] (fP (ae 3)) (aL 0) cO (aN iV (ag (ae 1) (ag (ae 0) au)))) au))) (aL 5))]
noncomputable def Bq:aa->M (List Dt):=(ag (p2 qt (fw (ag (pC (.str [103,97,116,101])) (ag (ae 1) (ag (ae 2) au)))) (aN xP (ag (ae 3) au))) (ag (aN iU (ag (ae 4) (ag (ae 1) (ag (ae 5) au)))) au))
noncomputable def zt:aa->M Dt:=(ae 5)
noncomputable def jk:BM:=gU 3 2 (eG wj) Bq zt 0
noncomputable def we:List SM:=[(cP (gQ 0 pj) (aL 2))]
noncomputable def Bo:aa->M (List Dt):=(ag (fw (ag (pC (.str [116,97,107,101])) (ag (ae 1) au))) (ag (aN nK (ag (ae 2) (ag (ae 1) au))) au))
noncomputable def zq:aa->M Dt:=(p2 fO (ae 2) (ae 1))
noncomputable def k7:BM:=gU 1 1 (eG we) Bo zq 0
end Pg
namespace L2
section
variable {f g h fk fv:aa->M Dt}{ρ:aa}{kvs:aq}{l v:List Nat}{d e k:Dt}{i:Nat}{it:IM}{gm:GM}{s:SM}{ds:List Dt}
noncomputable def NP:Dt->M (List Dt)
 |.aj kvs=>.ok (lL kvs)
 |_=>.bad
noncomputable def NB:Dt->M (List Dt)
 |.aj kvs=>.ok (CQ kvs)
 |_=>.bad
noncomputable def NQ:Dt->M (List Dt)
 |.aj kvs=>.ok (FN kvs)
 |_=>.bad
theorem S4:kI f ρ=(f ρ).bd NP:=by
 unfold kI
 congr 1
 funext d
 cases d <;> rfl
theorem S0:Oi f ρ=(f ρ).bd NB:=by
 unfold Oi
 congr 1
 funext d
 cases d <;> rfl
theorem S5:Ol f ρ=(f ρ).bd NQ:=by
 unfold Ol
 congr 1
 funext d
 cases d <;> rfl
theorem SO:NP (.aj kvs)=.ok (lL kvs):=.trans rfl rfl
theorem SK:NB (.aj kvs)=.ok (CQ kvs):=.trans rfl rfl
theorem SQ:NQ (.aj kvs)=.ok (FN kvs):=.trans rfl rfl
theorem Tg:fO (.aj kvs) (.str l)=nE kvs l:=.trans rfl rfl
theorem pe (h:ay kvs l=some v):nE kvs l=.ok (.str v):=by unfold nE; rw [h]
theorem SY:wz (.str l) (.aj kvs)=.ok (.bl (ay kvs l).isSome):=.trans rfl rfl
theorem SJ:wu (.str l) (.aj kvs)=.ok (.bl (!(ay kvs l).isSome)):=.trans rfl rfl
noncomputable def gtD (e:Dt):Option (List Nat)->Dt
 |some v=>.str v
 |none=>e
theorem S6:qY kvs e (.str l)=.ok (gtD e (ay kvs l)):=by
 show M.ok (match ay kvs l with | some v=>Dt.str v | none=>e)=_
 cases ay kvs l <;> rfl
noncomputable def NS (g:aa->M Dt)(ρ:aa):Dt->M Dt
 |.aj kvs=>(g ρ).bd (qY kvs .aI)
 |_=>.bad
theorem S8:Ml f g ρ=(f ρ).bd (NS g ρ):=by
 unfold Ml
 congr 1
 funext d
 cases d <;> rfl
theorem SV:NS g ρ (.aj kvs)=(g ρ).bd (qY kvs .aI):=.trans rfl rfl
noncomputable def Fy (kvs:aq)(k e:Dt):M Dt:=qY kvs e k
noncomputable def Fz (h:aa->M Dt)(ρ:aa)(kvs:aq)(k:Dt):M Dt:=(h ρ).bd (Fy kvs k)
noncomputable def NR (g h:aa->M Dt)(ρ:aa):Dt->M Dt
 |.aj kvs=>(g ρ).bd (Fz h ρ kvs)
 |_=>.bad
theorem S7:Mj f g h ρ=(f ρ).bd (NR g h ρ):=by
 unfold Mj
 congr 1
 funext d
 cases d <;> rfl
theorem SU:NR g h ρ (.aj kvs)=(g ρ).bd (Fz h ρ kvs):=.trans rfl rfl
theorem SS:Fz h ρ kvs k=(h ρ).bd (Fy kvs k):=.trans rfl rfl
theorem SR:Fy kvs k e=qY kvs e k:=.trans rfl rfl
noncomputable def NL (i:Nat)(ρ:aa):Dt->M Fl
 |.aj kvs=>.ok (.nx (ρ.set i (.bT kvs)))
 |_=>.bad
theorem SH:wa i f ρ=(f ρ).bd (NL i ρ):=by
 unfold wa
 congr 1
 funext d
 cases d <;> rfl
theorem SN:NL i ρ (.aj kvs)=.ok (.nx (ρ.set i (.bT kvs))):=.trans rfl rfl
theorem SI:Wl i ρ=.ok (.nx (ρ.set i (.bT []))):=.trans rfl rfl
theorem SA:tI i fk fv ρ=A6 i fk fv ρ ρ[i]?:=.trans rfl rfl
noncomputable def NY (i:Nat)(fk:aa->M Dt)(ρ:aa)(kvs:aq):Dt->M Fl
 |.str v=>(fk ρ).bd (uR i ρ kvs v)
 |_=>.bad
theorem Te:A6 i fk fv ρ (some (.bT kvs))=(fv ρ).bd (NY i fk ρ kvs):=by
 show ((fv ρ).bd fun d=>(Le d).bd fun v=>(fk ρ).bd (uR i ρ kvs v))=_
 congr 1
 funext d
 cases d <;> rfl
theorem SX:NY i fk ρ kvs (.str v)=(fk ρ).bd (uR i ρ kvs v):=.trans rfl rfl
theorem Tf:uR i ρ kvs v (.str l)=ck (kvs.length<10000) (.ok (.nx (ρ.set i (.bT (dh kvs l v))))):=.trans rfl rfl
theorem SE:zi i fk ρ=zy i fk ρ ρ[i]?:=.trans rfl rfl
theorem SF:zy i fk ρ (some (.bT kvs))=(fk ρ).bd (zC i ρ kvs):=.trans rfl rfl
theorem SG:zC i ρ kvs (.str l)=ck ((ay kvs l).isSome=true) (.ok (.nx (ρ.set i (.bT (cw kvs l))))):=.trans rfl rfl
theorem Sz:oo i ρ (some (.bT kvs))=ρ.set i (.val (.aj kvs)):=.trans rfl rfl
theorem Ti:Rk [.aj kvs]=.ok (.aj kvs):=.trans rfl rfl
theorem Th:Rk [.lst ds]=Es (g9 ds):=.trans rfl rfl
theorem SD:Es (some kvs)=.ok (.aj (jc [] kvs)):=.trans rfl rfl
theorem CL:oF ρ=.ok (.aj []):=.trans rfl rfl
theorem Sy:ti f ρ=(f ρ).bd vK:=.trans rfl rfl
theorem Sx:vK (.str l)=ck (l.length<=50/\(l.all fun c=>decide (c<1000))=true) (.ok ()):=.trans rfl rfl
noncomputable def NT (gm:GM)(s:SM)(ρ:aa)(ds:List Dt):M Fl:=AU gm s ds ρ
theorem S9:Wn it gm s ρ=(it ρ).bd (NT gm s ρ):=.trans rfl rfl
theorem SW:NT gm s ρ ds=AU gm s ds ρ:=.trans rfl rfl
theorem ints_map {α:Type}(f:α->Int):∀l:List α,lM (l.map fun a=>Dt.int (f a))=some (l.map f)
 | []=>rfl
 |a::l=>by
  show (lM (l.map fun a=>Dt.int (f a))).map (f a :: ·)=_;rw [ints_map f l];rfl
theorem Ta:Wo i f ρ=Hv i f ρ ρ[i]?:=.trans rfl rfl
theorem Tc:Hv i f ρ (some (.own ds))=(f ρ).bd (Hw i ρ ds):=.trans rfl rfl
theorem Td {es:List Dt}:Hw i ρ ds (.lst es)=ck (ds.length+es.length<=10000) (.ok (.nx (ρ.set i (.own (ds++es))))):=.trans rfl rfl
end
end L2
local macro_rules
 | `(tactic| exists dC, $xs:term,*) => `(tactic| exists aS, S4, S0, S5, SO, SK, SQ, Tg, SY, SJ, S6, S8, SV, S7, SU, SS, SR, SH, SN, SI, SA, Te, SX, Tf, SE, SF, SG, Sz, Ti, Th, SD, CL, Sy, Sx, S9, SW, Ta, Tc, Td, $xs,*)
 | `(tactic| exists dv) => `(tactic| try exists dC, eq_self)
namespace Pg
open L2
theorem wK (k:List Nat):ay ([]:aq) k=none:=rfl
theorem fz (p:List Nat×List Nat)(r:aq)(k:List Nat):ay (p::r) k=if p.1=k then some p.2 else ay r k:=by
 unfold ay;rw [il]
 by_cases h:p.1=k
 ·have:(p.1==k)=true:=by simpa using h
  rw [this,if_pos h]; rfl
 ·have:(p.1==k)=false:=by simpa using h
  rw [this,if_neg h]
noncomputable abbrev PW:=List Nat×List Nat
noncomputable abbrev Nd (kvs:aq):Prop:=(kvs.map (·.1)).Nodup
theorem qy:∀{kvs:aq}{p:List Nat×List Nat},Nd kvs->p∈kvs->ay kvs p.1=some p.2
 |q::r,p,hn,hp=>by
  obtain⟨h1,h2⟩:=nU.mp (show (q.1::r.map (·.1)).Nodup from hn);rw [fz];rcases ba.mp hp with e | e
  ·rw [← e,if_pos rfl]
  ·rw [if_neg fun z=>h1 (df.mpr ⟨p,e,z.symm⟩)]
   exact qy h2 e
noncomputable abbrev qa (l:List Nat):Prop:=l.length<=50/\(l.all fun c=>decide (c<1000))=true
theorem Tr {kvs:aq}{n w:List Nat}(h:kvs.length<10000):BI [.aj kvs,.str n,.str w]=.ok (.aj (dh kvs n w)):=by
 unfold BI JN
 exists dv
 rw [cz h]
 exists dv
theorem CN {kvs:aq}{n v:List Nat}(h:ay kvs n=some v):iV [.aj kvs,.str n]=.ok (.str v):=by
 have e:(ay kvs n).isSome=true:=by rw [h]; rfl
 unfold iV B1
 exists dC,e,pe h
theorem Ke {kvs:aq}{n:List Nat}(h:ay kvs n=none)(hn:qa n):iV [.aj kvs,.str n]=.ex 1:=by
 have e:(ay kvs n).isSome=false:=by rw [h]; rfl
 unfold iV B1
 exists dC,e
 rw [cz hn]
 exists ev
theorem Tp {kvs:aq}{n v:List Nat}(h:ay kvs n=some v):nK [.aj kvs,.str n]=.ok (.aj (cw kvs n)):=by
 have e:(ay kvs n).isSome=true:=by rw [h]; rfl
 unfold nK BZ
 exists dC,CN h,e
theorem To {kvs:aq}{n:List Nat}(h:ay kvs n=none)(hn:qa n):nK [.aj kvs,.str n]=.ex 1:=by
 unfold nK BZ
 exists dC,Ke h hn
theorem Kd {kvs:aq}{n w:List Nat}(hd:Nd kvs)(hl:kvs.length<=1000):gh 1 [0,1] (aL 0) (a6 (p2 eW (ae 0) (ae 2))) (p2 fO (ae 1) (ae 0)) [.val (.aj kvs),.val (.str n),.val (.str w)] (lL kvs)=.ok (.lst (((kvs.filter fun p=>!decide (p.1=n)).map (·.2)).map Dt.str)):=by
 simp only [gh];rw [show lL kvs=kvs.map (fun p=>Dt.str p.1) from rfl,kY (fun p:PW=>Dt.str p.1) (fun p=>if (!decide (p.1=n))=true then some (.str p.2) else none)]
 ·rw [AV (fun p:List Nat×List Nat=>!decide (p.1=n)) (fun p=>Dt.str p.2),iL,bz,cY,my]
  ·rfl
  ·rw [ef]
   exact c9 (nZ _ _) (by omega)
 ·intro p hp
  have e:=qy hd hp
  by_cases OA:p.1=n
  ·have e2:decide (p.1=n)=true:=decide_eq_true OA
   exists aS,iP,iO,bQ,e2,Bg
   rfl
  ·have e2:decide (p.1=n)=false:=decide_eq_false OA
   exists dC,iP,iO,bQ,e2,j0,pe e,j4
   rfl
theorem Kc {kvs:aq}{n w:List Nat}(hd:Nd kvs)(hl:kvs.length<=900)(h:∀p∈kvs,p.1≠n->p.2.length=w.length):iU [.aj kvs,.str n,.str w]=.ok (.aj (dh kvs n w)):=by
 have hf:(kvs.filter fun p=>!decide (p.1=n)).length<=kvs.length:=nZ _ _;have u:=Kr (ls:=w::(kvs.filter fun p=>!decide (p.1=n)).map (·.2)) (by simp; omega) (by
  intro l hm;rcases ba.mp hm with rfl | hm
  ·rfl
  ·obtain⟨p,hp,rfl⟩:=df.mp hm
   obtain⟨h1,h2⟩:=jr.mp hp;exact h p h1 (by simpa using h2))
 rw [bG] at u;unfold iU B0
 exists dv
 rw [cY (by simp)]
 exists dC,Kd hd (by omega)
 rw [cY (by simp; omega)]
 exists aS,u,Tr (kvs:=kvs) (n:=n) (w:=w) (by omega)
theorem Tq {kvs:aq}{n w:List Nat}(hd:Nd kvs)(hl:kvs.length<=900)(h:¬ ∀p∈kvs,p.1≠n->p.2.length=w.length):iU [.aj kvs,.str n,.str w]=.ex 6:=by
 have hf:(kvs.filter fun p=>!decide (p.1=n)).length<=kvs.length:=nZ _ _;have u:=TY (ls:=w::(kvs.filter fun p=>!decide (p.1=n)).map (·.2)) (by simp; omega) (by
  intro z;refine h fun p hp hn=>z p.2 (cy _ (df.mpr ⟨p,jr.mpr ⟨hp,by simpa using hn⟩,rfl⟩)))
 rw [bG] at u;unfold iU B0
 exists dv
 rw [cY (by simp)]
 exists dC,Kd hd (by omega)
 rw [cY (by simp; omega)]
 exists aS,u
theorem Ep {kvs:aq}{k v:List Nat}(h:∀p∈kvs,p.1≠k):dh kvs k v=kvs++[(k,v)]:=by
 unfold dh;rw [if_neg];intro z;obtain⟨p,hp,e⟩:=List.any_eq_true.mp z;exact h p hp (by simpa using e)
theorem Pw (f:PW->List Nat):∀(r acc:aq),(∀p∈r,∀q∈acc,q.1≠p.1)->Nd r->r.foldl (fun a p=>dh a p.1 (f p)) acc=acc++r.map fun p=>(p.1,f p)
 | [],acc,_,_=>by simp
 |p::r,acc,h,hn=>by
  obtain⟨h1,h2⟩:=nU.mp (show (p.1::r.map (·.1)).Nodup from hn);rw [pD,Ep (h p bH),Pw f r _ _ h2,bG,mG]
  ·rfl
  ·intro q hq a ha z
   rcases eC.mp ha with ha | ha
   ·exact h q (cy _ hq) a ha z
   ·have:a=(p.1,f p):=by simpa using ha
    subst this;exact h1 (df.mpr ⟨q,hq,z.symm⟩)
noncomputable def Ls (a:List Nat)(t:Nat):List Nat:=(a.drop t).take 1
noncomputable def dT (a b:List Nat):List Nat:=(fV (max a.length b.length)).filter fun t=>!decide (Ls a t=Ls b t)
noncomputable def gd (a:aq)(n:List Nat):List Nat:=(ay a n).getD []
theorem L4 {α:Type}(f g:α->List Nat):∀l:List α,g9 (l.map fun a=>Dt.tup [.str (f a),.str (g a)])=some (l.map fun a=>(f a,g a))
 | []=>rfl
 |a::l=>by
  show (g9 (l.map fun a=>Dt.tup [.str (f a),.str (g a)])).map ((f a,g a) :: ·)=_;rw [L4 f g l];rfl
theorem ZL {kvs:aq}(h:Nd kvs):jc [] kvs=kvs:=by
 unfold jc;rw [Pw (fun p=>p.2) kvs [] (by simp) h];simp
theorem mem_keys {kvs:aq}{n:List Nat}:n∈kvs.map (·.1)↔(ay kvs n).isSome=true:=by
 induction kvs with
 |nil=>simp [wK]
 |cons p r ih=>
  rw [fz,bG,ba,ih]
  by_cases h:p.1=n
  ·simp [h]
  ·simp [h,bY h]
theorem aej (l:List (List Nat)):dep (.lst (l.map Dt.str))<=50:=by
 have:e8 (l.map Dt.str)=0:=QJ (fun a=>a) l;simp [dep,this]
theorem Fe (a b:aq)(m:List Nat):ay (a++b) m=match ay a m with | some v=>some v | none=>ay b m:=by
 induction a with
 |nil=>rfl
 |cons p r ih=>
  show ay (p::(r++b)) m=_;rw [fz,fz]
  by_cases h:p.1=m
  ·rw [if_pos h,if_pos h]
  ·rw [if_neg h,if_neg h]; exact ih
theorem Nn {kvs:aq}{n:List Nat}:ay kvs n=none↔∀p∈kvs,p.1≠n:=by
 constructor
 ·intro h p hp e
  have h1:n∈kvs.map (·.1):=df.mpr ⟨p,hp,e⟩;rw [mem_keys,h] at h1;cases h1
 ·intro h
  cases e:ay kvs n with
  |none=>rfl
  |some v=>
   have h1:(ay kvs n).isSome=true:=by rw [e]; rfl
   rw [← mem_keys] at h1;obtain⟨p,hp,e1⟩:=df.mp h1;exact absurd e1 (h p hp)
theorem wL:∀{kvs:aq}{n v:List Nat},ay kvs n=some v->(n,v)∈kvs
 | [],_,_,h=>nomatch h
 |p::r,n,v,h=>by
  rw [fz] at h
  by_cases e:p.1=n
  ·rw [if_pos e] at h
   cases h;subst e;exact bH
  ·rw [if_neg e] at h
   exact cy _ (wL h)
theorem Rp (kvs:aq)(n:List Nat):(kvs.any fun p=>p.1==n)=(ay kvs n).isSome:=by
 induction kvs with
 |nil=>rfl
 |cons p r ih=>
  rw [nO,fz,ih]
  by_cases h:p.1=n
  ·rw [if_pos h,h,beq_self_eq_true]; rfl
  ·rw [if_neg h,beq_eq_false_iff_ne.mpr h]; rfl
theorem Z5 (kvs:aq)(n w m:List Nat):ay (kvs.map fun p=>if (p.1==n)=true then (p.1,w) else p) m=if m=n then (ay kvs n).map fun _=>w else ay kvs m:=by
 induction kvs with
 |nil=>by_cases h:m=n <;> simp [wK,h]
 |cons p r ih=>
  rw [bG,fz,ih]
  by_cases h:p.1=n
  ·simp only [h,beq_self_eq_true,if_true]
   by_cases h2:m=n
   ·subst h2; simp [fz,h]
   ·rw [if_neg (fun z=>h2 z.symm),if_neg h2,if_neg h2,fz,if_neg (fun z=>h2 (by rw [← z,h]))]
  ·simp only [beq_eq_false_iff_ne.mpr h,if_false,cT]
   by_cases h2:m=n
   ·subst h2
    rw [if_neg h,if_pos rfl,if_pos rfl,fz,if_neg h]
   ·rw [if_neg h2,if_neg h2,fz]
theorem Fd (kvs:aq)(n w m:List Nat):ay (dh kvs n w) m=if m=n then some w else ay kvs m:=by
 unfold dh;rw [Rp]
 cases e:ay kvs n with
 |some v=>
  simp only [vC,if_true];rw [Z5,e];rfl
 |none=>
  simp only [yC,cT,if_false];rw [Fe]
  by_cases h:m=n
  ·subst h; rw [e,if_pos rfl]; simp [fz]
  ·rw [if_neg h]
   cases ay kvs m with
   |some v=>rfl
   |none=>simp [fz,wK]; exact fun z=>h z.symm
theorem qz (kvs:aq)(n m:List Nat):ay (cw kvs n) m=if m=n then none else ay kvs m:=by
 unfold cw
 induction kvs with
 |nil=>simp [wK]
 |cons p r ih=>
  rw [vz]
  by_cases h:p.1=n
  ·rw [h,beq_self_eq_true]
   simp only [rZ,cT,if_false];rw [ih,fz]
   by_cases h2:m=n
   ·rw [if_pos h2,if_pos h2]
   ·rw [if_neg h2,if_neg h2,if_neg (fun z=>h2 (by rw [← z,h]))]
  ·rw [beq_eq_false_iff_ne.mpr h]
   simp only [vv,if_true];rw [fz,ih,fz]
   by_cases h3:p.1=m
   ·rw [if_pos h3,if_pos h3,if_neg (fun z=>h (by rw [h3,z]))]
   ·rw [if_neg h3,if_neg h3]
theorem wF {kvs:aq}(n:List Nat)(h:Nd kvs):Nd (cw kvs n):=List.Nodup.sublist (List.Sublist.map _ (List.filter_sublist)) h
theorem M5 {kvs:aq}{n w:List Nat}(h:Nd kvs)(h1:ay kvs n=none):Nd (kvs++[(n,w)]):=by
 show ((kvs++[(n,w)]).map (·.1)).Nodup;rw [vx,List.nodup_append];refine⟨h,by simp,fun a ha b hb e=>?_⟩;obtain⟨p,hp,rfl⟩:=df.mp ha;simp only [bG,jq,jv] at hb;exact Nn.mp h1 p hp (e.trans hb)
theorem M4 {kvs:aq}(n w:List Nat)(h:Nd kvs):Nd (dh kvs n w):=by
 unfold dh;rw [Rp]
 cases e:ay kvs n with
 |some v=>
  simp only [vC,if_true];show (List.map (fun x:PW=>x.1) (kvs.map _)).Nodup;rw [my];have:((fun x:PW=>x.1) ∘ fun p:PW=>if (p.1==n)=true then (p.1,w) else p)=fun p=>p.1:=by
   funext p
   show (if (p.1==n)=true then (p.1,w) else p).1=p.1
   split <;> rfl
  rw [this];exact h
 |none=>
  simp only [yC,cT,if_false];exact M5 h e
noncomputable def Sm (s k:aq):Prop:=∀n,ay s n=ay k n
theorem Vr {s k:aq}(hs:Nd s)(hk:Nd k)(h:Sm s k):s.length=k.length:=by
 have f:∀{a b:aq},Nd a->Sm a b->a.length<=b.length:=fun {a b} ha ia=>by
  have:=J7 ha (l₂:=b.map (·.1)) fun n hn=>by
   rw [mem_keys] at hn ⊢;rw [← ia n];exact hn
  simpa using this
 exact Nat.le_antisymm (f hs h) (f hk fun n=>(h n).symm)
theorem Vt {s k:aq}(hs:Nd s)(hk:Nd k)(h:Sm s k):bV (.aj s) (.aj k)=true:=by
 show (s==k || nC s k)=true;rw [Bool.or_eq_true];refine .inr ?_;unfold nC;rw [nW];refine⟨by rw [Vr hs hk h]; exact beq_self_eq_true _,dO.mpr fun p hp=>?_⟩;rw [← h,qy hs hp];exact beq_self_eq_true _
theorem vZ {s k:aq}{n w:List Nat}(h:Sm s k):Sm (dh s n w) (cw k n++[(n,w)]):=fun m=>by
 rw [Fd,Fe,qz]
 by_cases e:m=n
 ·subst e; simp [fz]
 ·rw [if_neg e,if_neg e,h m]
  cases ay k m with
  |some v=>rfl
  |none=>simp [fz,wK]; exact fun z=>e z.symm
theorem Dy {s k:aq}{n:List Nat}(h:Sm s k):Sm (cw s n) (cw k n):=fun m=>by
 rw [qz,qz,h m]
theorem M6 {k:aq}{n w:List Nat}(h:Nd k):Nd (cw k n++[(n,w)]):=M5 (wF n h) (by rw [qz,if_pos rfl])
noncomputable def Fg:List Nat:=[97,98,99,100,101,102,103,104,105,106,107,108,109,110,111,112,113,114,115,116,117,118,119,120,121,122]
noncomputable def oN (l:List Nat):Bool:=(decide (1<=l.length)&&decide (l.length<=4))&&l.all fun c=>decide (c∈Fg)
theorem aaQ (l:List Nat):BO [.str l]=.ok (.bl (oN l)):=by
 have e0:EN (.str l)=.ok (.bl true):=rfl;unfold BO JU oN
 by_cases h1:1<=l.length
 ·by_cases h2:l.length<=4
  ·have e1:((1:Int)<=(l.length:Nat)):=by omega
   have e2:((l.length:Nat):Int)<=4:=by omega
   exists aS,e0,e1,e2,h1,h2
   simp only [gh];rw [QZ (fun c=>some (.bl (decide (c∈Fg))))]
   ·rw [nA]
    exists ev
    rw [cY (by simp; omega)]
    exists ev
    rw [HZ]
    exists ev
    simp [List.all_map]
   ·intro c hc
    exists aS,iP,iO,bQ,j0,j4,Fg
    rfl
  ·have e1:((1:Int)<=(l.length:Nat)):=by omega
   have e2:¬ ((l.length:Nat):Int)<=4:=by omega
   exists aS,e0,e1,e2,h1,h2
   rfl
 ·have e1:¬ ((1:Int)<=(l.length:Nat)):=by omega
  exists aS,e0,e1,h1
  rfl
theorem zV {l:List Nat}(h:oN l=true):nM [.str l]=.ok .aI:=by
 unfold nM JQ
 exists aS,aaQ,h
noncomputable def jO (c:Nat):Nat:=if c=48 then 49 else if c=49 then 48 else 120
theorem aei {c:Nat}(h:c=48∨c=49∨c=120):A7 [([48],[49]),([49],[48]),([120],[120])] (.str [c])=.ok (.str [jO c]):=by
 rcases h with rfl | rfl | rfl <;> rfl
theorem Zo {a:List Nat}(h:fT a)(ha:a.length<=1000):BN [.str a]=.ok (.str (a.map jO)):=by
 unfold BN JS
 exists ev
 simp only [gh];rw [QZ (fun c=>some (.str [jO c]))]
 ·rw [nA]
  exists ev
  rw [cY (by simp; omega)]
  exists ev
  rw [show (a.map fun c=>Dt.str [jO c])=a.map fun c=>Dt.str [(jO c)] from rfl,vU]
  exists ev
  rw [rm,tE (by simp; omega)]
  exists ev
 ·intro c hc
  exists aS,iP,iO,bQ,j0,j4,aei (h c hc)
noncomputable abbrev ir:List Nat:=[110,111]
noncomputable abbrev jB:List Nat:=[98,111,116,104]
noncomputable abbrev i6:List Nat:=[101,105,116,104,101,114]
noncomputable abbrev i5:List Nat:=[117,110,108,105,107,101]
noncomputable def kQ (g:List Nat):Nat->Nat->Nat:=if g=jB then Bh else if g=i6 then A3 else yV
noncomputable def eN (g:List Nat):List (List Nat)->List Nat
 | [a]=>a.map jO
 | [a,b]=>gm (kQ g) a b
 |_=>[]
noncomputable def l5 (g:List Nat)(n:Nat):Prop:=(g=ir/\n=1)∨((g=jB∨g=i6∨g=i5)/\n=2)
noncomputable instance (g:List Nat) (n:Nat):Decidable (l5 g n):=by unfold l5; infer_instance
noncomputable abbrev BG:List (List Nat×Int):=[([110,111],1),([98,111,116,104],2),([101,105,116,104,101,114],2),([117,110,108,105,107,101],2)]
theorem acY {a:List Nat}(h:fT a)(ha:a.length<=1000):jn [.str ir,.lst [.str a]]=.ok (.str (eN ir [a])):=by
 have e:rE BG (.str ir)=.ok (.int 1):=rfl;have e1:cA [Dt.str a] 0=some (.str a):=rfl;unfold jn B3
 exists dC,e
 exists dC,Zo h ha,e1,show ((1:Nat):Int)=1 from rfl
 rfl
theorem acX {g a b:List Nat}(hg:g=jB∨g=i6∨g=i5)(h:a.length=b.length)(ha:a.length<=1000):jn [.str g,.lst [.str a,.str b]]=.ok (.str (eN g [a,b])):=by
 have e1:cA [Dt.str a,.str b] 0=some (.str a):=rfl;have e2:cA [Dt.str a,.str b] 1=some (.str b):=rfl;have e3:((2:Nat):Int)=2:=rfl;unfold jn B3;rcases hg with rfl | rfl | rfl
 ·exists dC,show rE BG (.str jB)=.ok (.int 2) from rfl,e1,e2,e3,afa h ha,show decide (jB=[110,111])=false from rfl
  rfl
 ·exists dC,show rE BG (.str i6)=.ok (.int 2) from rfl,e1,e2,e3,adM h ha,show decide (i6=[110,111])=false from rfl,show decide (i6=[98,111,116,104])=false from rfl
  rfl
 ·exists dC,show rE BG (.str i5)=.ok (.int 2) from rfl,e1,e2,e3,TZ h ha,show decide (i5=[110,111])=false from rfl,show decide (i5=[98,111,116,104])=false from rfl,show decide (i5=[101,105,116,104,101,114])=false from rfl
  rfl
noncomputable abbrev jA:List Nat:=[112,117,116]
noncomputable abbrev kh:List Nat:=[116,97,107,101]
noncomputable abbrev eU:List Nat:=[103,97,116,101]
theorem LS {x y:List Dt}{n w:List Nat}{s:aq}(hs:ft x.getLast?=.ok (.aj s)):k8 x y [.str n,.str w]=(nM [.str n]).bd fun _=>(iU [.aj s,.str n,.str w]).bd fun b=>(gF x (.tup [.str jA,.str n,.str w]) b).bd fun x'=>.ok (.bl (ay s n).isSome,x',[]):=by
 unfold k8 gU wg;rw [if_pos (by simp only [eg,mD])];simp only [uU,uV,uT];show ((nM [.str n]).bd fun _=>(ft x.getLast?).bd fun d=>uW Bp zr [.bor (some 0) x y,.val (.str n),.val (.str w),.val d] (some (.bor (some 0) x y)))=_;rw [hs]
 congr 1
 funext _
 show ((((iU [.aj s,.str n,.str w]).bd fun d=>M.ok [d]).bd fun ds=>M.ok (Dt.tup [.str jA,.str n,.str w]::ds)).bd fun ds=>(k9 x y ds).bd fun r=>M.ok (Dt.bl (ay s n).isSome,r.2.1,r.2.2))=_
 cases iU [.aj s,.str n,.str w] with
 |ok b=>
  show (((gF x (.tup [.str jA,.str n,.str w]) b).bd fun x'=>M.ok (Dt.aI,x',([]:List Dt))).bd fun r=>M.ok (Dt.bl (ay s n).isSome,r.2.1,r.2.2))=(gF x (.tup [.str jA,.str n,.str w]) b).bd fun x'=>.ok (.bl (ay s n).isSome,x',[])
  cases gF x (.tup [.str jA,.str n,.str w]) b <;> rfl
 |ex c=>rfl
 |bad=>rfl
theorem KL {x y:List Dt}{n:List Nat}{s:aq}(hs:ft x.getLast?=.ok (.aj s)):k7 x y [.str n]=(nK [.aj s,.str n]).bd fun b=>(gF x (.tup [.str kh,.str n]) b).bd fun x'=>(nE s n).calm.bd fun d=>.ok (d,x',[]):=by
 unfold k7 gU we;rw [if_pos (by simp only [eg,mD])];simp only [uU,uV,uT];show ((ft x.getLast?).bd fun d=>uW Bo zq [.bor (some 0) x y,.val (.str n),.val d] (some (.bor (some 0) x y)))=_;rw [hs];show ((((nK [.aj s,.str n]).bd fun d=>M.ok [d]).bd fun ds=>M.ok (Dt.tup [.str kh,.str n]::ds)).bd fun ds=>(k9 x y ds).bd fun r=>(nE s n).calm.bd fun d=>M.ok (d,r.2.1,r.2.2))=_
 cases nK [.aj s,.str n] with
 |ok b=>
  show (((gF x (.tup [.str kh,.str n]) b).bd fun x'=>M.ok (Dt.aI,x',([]:List Dt))).bd fun r=>(nE s n).calm.bd fun d=>M.ok (d,r.2.1,r.2.2))=(gF x (.tup [.str kh,.str n]) b).bd fun x'=>(nE s n).calm.bd fun d=>.ok (d,x',[])
  cases gF x (.tup [.str kh,.str n]) b <;> rfl
 |ex c=>rfl
 |bad=>rfl
noncomputable def rf (s:aq)(ns:List (List Nat)):M Dt:=(gW (aL 0) cO (aN iV (ag (ae 1) (ag (ae 0) au))) [.no,.val (.aj s)] (ns.map Dt.str)).bd gE
theorem Po {x y:List Dt}{n g:List Nat}{ns:List (List Nat)}{s:aq}(hs:ft x.getLast?=.ok (.aj s))(hl:ns.length<=1000):jk x y [.str n,.str g,.tup (ns.map Dt.str)]=(nM [.str n]).bd fun _=>(rf s ns).bd fun ws=>(jn [.str g,ws]).bd fun w=>(iU [.aj s,.str n,w]).bd fun b=>(gF x (.tup (.str eU :: .str n :: .str g::ns.map Dt.str)) b).bd fun x'=>.ok (w,x',[]):=by
 unfold jk gU wj;rw [if_pos (by simp only [eg,mD])];simp only [uU,uV,uT];show ((nM [.str n]).bd fun _=>(ft x.getLast?).bd fun d=>((aN jn (ag (ae 2) (ag (wt 1 [4] (fP (ae 3)) (aL 0) cO (aN iV (ag (ae 1) (ag (ae 0) au)))) au)) [.bor (some 0) x y,.val (.str n),.val (.str g),.val (.tup (ns.map Dt.str)),.val d,.no]).bd fun e=>uW Bq zt [.bor (some 0) x y,.val (.str n),.val (.str g),.val (.tup (ns.map Dt.str)),.val d,.val e] (some (.bor (some 0) x y))))=_;rw [hs]
 congr 1
 funext _
 show ((((rf s ns).bd fun ws=>M.ok [ws]).bd fun r=>M.ok (Dt.str g::r)).bd jn).bd _=_
 cases hw:rf s ns with
 |ok ws=>
  show (jn [.str g,ws]).bd _=(jn [.str g,ws]).bd _
  cases jn [.str g,ws] with
  |ok w=>
   have ht:qt (.tup [.str eU,.str n,.str g]) (.tup (ns.map Dt.str))=.ok (.tup (.str eU :: .str n :: .str g::ns.map Dt.str)):=by
    show (if _ then _ else _)=_;rw [if_pos (by simp; omega)];rfl
   show (((qt (.tup [.str eU,.str n,.str g]) (.tup (ns.map Dt.str))).bd fun t=>((iU [.aj s,.str n,w]).bd fun d=>M.ok [d]).bd fun ds=>M.ok (t::ds)).bd fun ds=>(k9 x y ds).bd fun r=>M.ok (w,r.2.1,r.2.2))=(iU [.aj s,.str n,w]).bd fun b=>(gF x (.tup (.str eU :: .str n :: .str g::ns.map Dt.str)) b).bd fun x'=>.ok (w,x',[]);rw [ht]
   cases iU [.aj s,.str n,w] with
   |ok b=>
    show (((gF x (.tup (.str eU :: .str n :: .str g::ns.map Dt.str)) b).bd fun x'=>M.ok (Dt.aI,x',([]:List Dt))).bd fun r=>M.ok (w,r.2.1,r.2.2))=_;show _=(gF x (.tup (.str eU :: .str n :: .str g::ns.map Dt.str)) b).bd fun x'=>.ok (w,x',[])
    cases gF x (.tup (.str eU :: .str n :: .str g::ns.map Dt.str)) b <;> rfl
   |ex c=>rfl
   |bad=>rfl
  |ex c=>rfl
  |bad=>rfl
 |ex c=>rfl
 |bad=>rfl
theorem Ds {x:List Dt}{s b:Dt}(h:x.length<10000):gF x s b=.ok (x++[.tup [s,b]]):=if_pos h
theorem W7 {x y:List Dt}{n w:List Nat}{s:aq}(hs:ft x.getLast?=.ok (.aj s))(hx:x.length<10000)(hn:oN n=true)(hd:Nd s)(hl:s.length<=900)(h:∀p∈s,p.1≠n->p.2.length=w.length):k8 x y [.str n,.str w]=.ok (.bl (ay s n).isSome,x++[.tup [.tup [.str jA,.str n,.str w],.aj (dh s n w)]],[]):=by
 rw [LS hs,zV hn,bz,Kc hd hl h,bz,Ds hx];rfl
theorem W8 {x y:List Dt}{n w:List Nat}{s:aq}(hs:ft x.getLast?=.ok (.aj s))(hn:oN n=true)(hd:Nd s)(hl:s.length<=900)(h:¬ ∀p∈s,p.1≠n->p.2.length=w.length):k8 x y [.str n,.str w]=.ex 6:=by
 rw [LS hs,zV hn,bz,Tq hd hl h];rfl
theorem Us {x y:List Dt}{n v:List Nat}{s:aq}(hs:ft x.getLast?=.ok (.aj s))(hx:x.length<10000)(h:ay s n=some v):k7 x y [.str n]=.ok (.str v,x++[.tup [.tup [.str kh,.str n],.aj (cw s n)]],[]):=by
 rw [KL hs,Tp h,bz,Ds hx,pe h];rfl
theorem Ut {x y:List Dt}{n:List Nat}{s:aq}(hs:ft x.getLast?=.ok (.aj s))(h:ay s n=none)(hh:qa n):k7 x y [.str n]=.ex 1:=by
 rw [KL hs,To h hh];rfl
theorem Pd {s:aq}{m:List Nat}{ds:List Dt}:gW (aL 0) cO (aN iV (ag (ae 1) (ag (ae 0) au))) [.no,.val (.aj s)] (.str m::ds)=(iV [.aj s,.str m]).bd fun x=>(gW (aL 0) cO (aN iV (ag (ae 1) (ag (ae 0) au))) [.no,.val (.aj s)] ds).bd fun xs=>.ok (x::xs):=rfl
theorem Pe {s:aq}:∀{ns:List (List Nat)},(∀m∈ns,(ay s m).isSome=true)->gW (aL 0) cO (aN iV (ag (ae 1) (ag (ae 0) au))) [.no,.val (.aj s)] (ns.map Dt.str)=.ok ((ns.map (gd s)).map Dt.str)
 | [],_=>rfl
 |m::ns,h=>by
  obtain⟨v,hv⟩:=i0.mp (h m bH);rw [bG,Pd,CN hv,bz,Pe fun k hk=>h k (cy _ hk)];show M.ok (Dt.str v::_)=M.ok (Dt.str (gd s m)::_);rw [show gd s m=v from by unfold gd; rw [hv]; rfl]
theorem Pc {s:aq}:∀{ns:List (List Nat)},(∀m∈ns,qa m)->(¬ ∀m∈ns,(ay s m).isSome=true)->gW (aL 0) cO (aN iV (ag (ae 1) (ag (ae 0) au))) [.no,.val (.aj s)] (ns.map Dt.str)=.ex 1
 | [],_,h=>absurd (fun m hm=>nomatch hm) h
 |m::ns,hh,h=>by
  rw [bG,Pd]
  cases hv:ay s m with
  |none=>rw [Ke hv (hh m bH)]; rfl
  |some v=>
   rw [CN hv,bz,Pc (fun k hk=>hh k (cy _ hk)) fun z=>h fun k hk=>?_]
   ·rfl
   ·rcases ba.mp hk with e | e
    ·rw [e,hv]; rfl
    ·exact z k e
theorem acL {s:aq}{ns:List (List Nat)}(hl:ns.length<=1000)(h:∀m∈ns,(ay s m).isSome=true):rf s ns=.ok (.lst ((ns.map (gd s)).map Dt.str)):=by
 unfold rf;rw [Pe h,bz,cY (by simp; omega)]
theorem acM {s:aq}{ns:List (List Nat)}(hh:∀m∈ns,qa m)(h:¬ ∀m∈ns,(ay s m).isSome=true):rf s ns=.ex 1:=by
 unfold rf;rw [Pc hh h];rfl
theorem ac0 {x y:List Dt}{n g:List Nat}{ns:List (List Nat)}{s:aq}(hs:ft x.getLast?=.ok (.aj s))(hl:ns.length<=1000)(hn:oN n=true)(hh:∀m∈ns,qa m)(h:¬ ∀m∈ns,(ay s m).isSome=true):jk x y [.str n,.str g,.tup (ns.map Dt.str)]=.ex 1:=by
 rw [Po hs hl,zV hn,bz,acM hh h];rfl
theorem acW {g:List Nat}{ws:List (List Nat)}{L:Nat}(hg:l5 g ws.length)(hL:L<=1000)(h:∀w∈ws,w.length=L/\fT w):jn [.str g,.lst (ws.map Dt.str)]=.ok (.str (eN g ws)):=by
 rcases hg with ⟨rfl,h1⟩ | ⟨hg,h2⟩
 ·match ws,h1 with
  | [a],_=>
   obtain⟨h3,h4⟩:=h a bH;exact acY h4 (by omega)
 ·match ws,h2 with
  | [a,b],_=>
   obtain⟨h3,h4⟩:=h a bH;obtain⟨h5,h6⟩:=h b (cy _ bH);exact acX hg (by omega) (by omega)
theorem acN {g:List Nat}{c d:Nat}(hc:c=48∨c=49∨c=120)(hd:d=48∨d=49∨d=120):kQ g c d=48∨kQ g c d=49∨kQ g c d=120:=by
 unfold kQ
 split
 ·rcases hc with rfl | rfl | rfl <;> rcases hd with rfl | rfl | rfl <;> decide
 ·split <;> rcases hc with rfl | rfl | rfl <;> rcases hd with rfl | rfl | rfl <;> decide
theorem G1 {g:List Nat}{ws:List (List Nat)}{L:Nat}(hg:l5 g ws.length)(h:∀w∈ws,w.length=L/\fT w):(eN g ws).length=L/\fT (eN g ws):=by
 rcases hg with ⟨rfl,h1⟩ | ⟨hg,h2⟩
 ·match ws,h1 with
  | [a],_=>
   obtain⟨h3,h4⟩:=h a bH;refine⟨by simp [eN,h3],fun c hc=>?_⟩;obtain⟨d,hd,rfl⟩:=df.mp hc;rcases h4 d hd with rfl | rfl | rfl <;> decide
 ·match ws,h2 with
  | [a,b],_=>
   obtain⟨h3,h4⟩:=h a bH;obtain⟨h5,h6⟩:=h b (cy _ bH);exact⟨by simp [eN,acS,h3],Z0 acN h4 h6 (by omega)⟩
theorem acZ {x y:List Dt}{n g:List Nat}{ns:List (List Nat)}{s:aq}{L:Nat}(hs:ft x.getLast?=.ok (.aj s))(hx:x.length<10000)(hl:ns.length<=1000)(hn:oN n=true)(h:∀m∈ns,(ay s m).isSome=true)(hg:l5 g ns.length)(hL:L<=1000)(hw:∀p∈s,p.2.length=L/\fT p.2)(hd:Nd s)(F9:s.length<=900):jk x y [.str n,.str g,.tup (ns.map Dt.str)]=.ok (.str (eN g (ns.map (gd s))),x++[.tup [.tup (.str eU :: .str n :: .str g::ns.map Dt.str),.aj (dh s n (eN g (ns.map (gd s))))]],[]):=by
 have Oq:∀w∈ns.map (gd s),w.length=L/\fT w:=fun w qF=>by
  obtain⟨m,hm,rfl⟩:=df.mp qF;obtain⟨v,hv⟩:=i0.mp (h m hm);rw [show gd s m=v from by unfold gd; rw [hv]; rfl];exact hw _ (wL hv)
 have qN:l5 g (ns.map (gd s)).length:=by rw [ef]; exact hg
 rw [Po hs hl,zV hn,bz,acL hl h,bz,acW qN hL Oq,bz,Kc hd F9 fun p hp _=>?_,bz,Ds hx]
 ·rfl
 ·rw [(hw p hp).1,(G1 qN Oq).1]
inductive Dd where
 |put (n w:List Nat) | take (n:List Nat) | gate (n g:List Nat) (ns:List (List Nat))
noncomputable def Dd.dt:Dd->Dt
 |.put n w=>.tup [.str jA,.str n,.str w]
 |.take n=>.tup [.str kh,.str n]
 |.gate n g ns=>.tup (.str eU :: .str n :: .str g::ns.map Dt.str)
noncomputable abbrev N4:List (List Nat):=[[97],[98],[99,100],[119,120,121,122]]
noncomputable def CM (w:List Nat):Prop:=1<=w.length/\w.length<=12/\fT w
noncomputable def GD:Dd->Prop
 |.put n w=>n∈N4/\CM w
 |.take n=>n∈N4
 |.gate n g ns=>n∈N4/\(∀m∈ns,m∈N4)/\l5 g ns.length
theorem Rl {l:List (List Nat)}{k:Int}(h0:0<=k)(h1:k<l.length):∃d∈l,cA (l.map Dt.str) k=some (.str d):=by
 obtain⟨n,rfl⟩:∃n:Nat,k=n:=⟨k.toNat,by omega⟩
 have hn:n<l.length:=by omega
 exact⟨l[n],yw hn,pk (by simp [hn])⟩
theorem ZZ {ns:List Int}{a many:Int}(h:1<=many)(h':many<=12):CM (pO ns a many [48,49,120]):=by
 have hl:=Tz ns a [48,49,120] h;refine⟨by omega,by omega,fun c hc=>?_⟩;have:=Kf ns a many (by simp) c hc;simpa using this
theorem RO {k:Int}(h0:0<=k)(h1:k<4):∃d∈N4,cA [Dt.str [97],.str [98],.str [99,100],.str [119,120,121,122]] k=some (.str d):=Rl (l:=N4) h0 h1
theorem aiC {k:Int}(h0:0<=k)(h1:k<4):∃d∈[ir,jB,i6,i5],cA [Dt.str [110,111],.str [98,111,116,104],.str [101,105,116,104,101,114],.str [117,110,108,105,107,101]] k=some (.str d):=Rl (l:=[ir,jB,i6,i5]) h0 h1
theorem Qi (k:aq):oEq (.aj k) (.aj [])=.ok (.bl (decide (k=[]))):=by
 rw [IK,cz (by simp only [dep]; omega)]
 cases k with
 |nil=>rfl
 |cons p r=>rfl
noncomputable def m7:Dt:=.lst [Dt.str [97],.str [98],.str [99,100],.str [119,120,121,122]]
theorem ael {ns:List Int}{a:Int}{ρ:aa}{m:Nat}(ha:0<=a)(hm:m<=100)(h0:ρ[0]?=some (.val (dU ns)))(h1:ρ[1]?=some (.val (.int a)))(h4:ρ[4]?=some (.val m7)):∃l:List (List Nat),l.length=m/\(∀n∈l,n∈N4)/\gh 1 [0,1,4] (aL 0) cO (p2 aO (ae 3) (aN ik (ag (ae 1) (ag (p2 cG (p2 cG (ae 2) (pC (.int 4))) (ae 0)) (ag (pC (.int 4)) au))))) ρ (eI 0 (m:Nat))=.ok (.lst (l.map Dt.str)):=by
 have hx:∀i:Nat,∃d∈N4,cA [Dt.str [97],.str [98],.str [99,100],.str [119,120,121,122]] (bL ns (a+4+(0+(i:Int))) 4)=some (.str d):=fun i=>RO (mY _ _ (by decide)) (mZ _ _ (by decide));obtain⟨f,hf⟩:∃f:Nat->List Nat,∀i,f i∈N4/\cA [Dt.str [97],.str [98],.str [99,100],.str [119,120,121,122]] (bL ns (a+4+(0+(i:Int))) 4)=some (.str (f i)):=⟨fun i=>(hx i).choose,fun i=>(hx i).choose_spec⟩
 refine⟨(fV m).map f,by simp,fun n hn=>?_,?_⟩
 ·obtain⟨i,_,rfl⟩:=df.mp hn
  exact(hf i).1
 ·simp only [gh]
  rw [aeG (fun i=>some (.str (f i)))]
  ·rw [nA]
   exists ev
   rw [show ((m:Nat):Int) - 0=m by omega,Int.toNat_natCast,cY (by simp; omega)];rw [my];rfl
  ·intro i hi
   exists aS,iP,iO,bQ,h0,h1,h4,m7,j0
   rw [mX (by omega) (by decide)]
   exists aS,(hf i).2,j4
theorem aem {ns:List Int}{a many:Int}{k:aq}(ha:0<=a)(h1:1<=many)(h2:many<=12):∃D,GD D/\BV [dU ns,.int a,.aj k,.int many]=.ok D.dt:=by
 obtain⟨n,hn,nq⟩:=RO (k:=bL ns a 4) (mY _ _ (by decide)) (mZ _ _ (by decide));obtain⟨g,hg,qN⟩:=aiC (k:=bL ns (a+3) 4) (mY _ _ (by decide)) (mZ _ _ (by decide));have q1:=mX (ns:=ns) (k:=a) (many:=4) ha (by decide);have q2:=mX (ns:=ns) (k:=a+1) (many:=7) (by omega) (by decide);have q3:=mX (ns:=ns) (k:=a+2) (many:=8) (by omega) (by decide);have q4:=mX (ns:=ns) (k:=a+3) (many:=4) (by omega) (by decide);unfold BV J2
 exists ev
 rw [cY (by decide)]
 exists aS,q1,nq,q2
 by_cases hc:bL ns (a+1) 7<3∨k=[]
 ·have abr:∃w,CM w/\yg [dU ns,.int (a+10),.int (if many+(if decide (bL ns (a+2) 8=0)=true then 1 else 0)<12 then many+(if decide (bL ns (a+2) 8=0)=true then 1 else 0) else 12),.str [48,49,120]]=.ok (.str w):=by
   have hb:1<=(if many+(if decide (bL ns (a+2) 8=0)=true then 1 else 0)<12 then many+(if decide (bL ns (a+2) 8=0)=true then 1 else 0) else 12)/\(if many+(if decide (bL ns (a+2) 8=0)=true then 1 else 0)<12 then many+(if decide (bL ns (a+2) 8=0)=true then (1:Int) else 0) else 12)<=12:=by
    split <;> split <;> omega
   exact⟨_,ZZ hb.1 hb.2,Tw (by omega) hb.1 (by omega) (by simp) (by simp)⟩
  obtain⟨w,hw,qF⟩:=abr;refine⟨.put n w,⟨hn,hw⟩,?_⟩;have e:wR (a6 (p2 oEq (ae 2) oF)) [.val (dU ns),.val (.int a),.val (.aj k),.val (.int many),.val m7,.val (.str n),.val (.int (bL ns (a+1) 7)),.no,.no,.no] (decide (bL ns (a+1) 7<3))=.ok true:=by
   by_cases h3:bL ns (a+1) 7<3
   ·exists aS,h3
   ·exists aS,h3,CL,Qi,hc.resolve_left h3
  unfold m7 at e
  exists aS,e,q3,show ∀b,j5 [.bl b]=.ok (.int (if b then 1 else 0)) from fun _=>rfl
  rw [qF]
  exists ev
  rw [cz (by decide)]
  exists ev
  rfl
 ·have e:wR (a6 (p2 oEq (ae 2) oF)) [.val (dU ns),.val (.int a),.val (.aj k),.val (.int many),.val m7,.val (.str n),.val (.int (bL ns (a+1) 7)),.no,.no,.no] (decide (bL ns (a+1) 7<3))=.ok false:=by
   have h3:¬ bL ns (a+1) 7<3:=fun z=>hc (.inl z);have h4:¬ k=[]:=fun z=>hc (.inr z)
   exists aS,h3,CL,Qi,h4
  unfold m7 at e
  exists aS,e
  by_cases h3:bL ns (a+1) 7=3
  ·refine⟨.take n,hn,?_⟩
   exists aS,h3
   rw [cz (by decide)]
   exists ev
   rfl
  ·exists aS,h3
   rw [cY (by decide)]
   exists aS,q4,qN
   have hm:∃m:Nat,l5 g m/\m<=2/\Ae (pC (.int 1)) (pC (.int 2)) [.val (dU ns),.val (.int a),.val (.aj k),.val (.int many),.val m7,.val (.str n),.val (.int (bL ns (a+1) 7)),.no,.val (.str g),.no] (decide (g=[110,111]))=.ok (.int (m:Nat)):=by
    simp only [ba,fJ,or_false] at hg;rcases hg with rfl | rfl | rfl | rfl
    ·exact⟨1,.inl ⟨rfl,rfl⟩,by decide,rfl⟩
    ·exact⟨2,.inr ⟨.inl rfl,rfl⟩,by decide,rfl⟩
    ·exact⟨2,.inr ⟨.inr (.inl rfl),rfl⟩,by decide,rfl⟩
    ·exact⟨2,.inr ⟨.inr (.inr rfl),rfl⟩,by decide,rfl⟩
   obtain⟨m,hZ,gS,OE⟩:=hm;obtain⟨l,oU,nr,OJ⟩:=ael (ns:=ns) (a:=a) (m:=m) (ρ:=[.val (dU ns),.val (.int a),.val (.aj k),.val (.int many),.val m7,.val (.str n),.val (.int (bL ns (a+1) 7)),.no,.val (.str g),.no]) ha (by omega) rfl rfl rfl;refine⟨.gate n g l,⟨hn,nr,by rw [oU]; exact hZ⟩,?_⟩;unfold m7 at OE OJ;rw [OE]
   exists ev
   rw [cz (by omega)]
   exists aS,OJ
   rw [cz (by decide)]
   exists aS,show xP [.lst (l.map Dt.str)]=.ok (.tup (l.map Dt.str)) from rfl
   rw [show qt (.tup [.str [103,97,116,101],.str n,.str g]) (.tup (l.map Dt.str))=.ok (Dd.gate n g l).dt from by
    show (if _ then _ else _)=_;rw [if_pos (by simp; omega)]
    rfl]
   exists ev
noncomputable def L3 (c:Nat):Prop:=c=48∨c=49∨c=120
noncomputable def kX (o p:Nat):Int:=(if o=49 then 1 else 0)+(if p=49 then 1 else 0)
noncomputable def oK (g:List Nat)(o p:Nat):Bool:=if g=jB then decide (kX o p=2) else if g=i6 then decide (0<kX o p) else if g=i5 then decide (kX o p=1) else decide (o=48)
noncomputable def Lu (b:Bool):Dt:=if b=true then .str [49] else .str [48]
theorem EZ {g:List Nat}{o p:Nat}(a1 a2 a3 a4 b8 b9:Bd){os:List Dt}(ho:os.length<=100):Jy [.val (.str g),a1,a2,a3,a4,.own os,.val (.str [o]),.val (.str [p]),b8,b9]=.ok (.nx [.val (.str g),a1,a2,a3,a4,.own (os++[Lu (oK g o p)]),.val (.str [o]),.val (.str [p]),.val (.int (kX o p)),.val (.bl (oK g o p))]):=by
 have e:∀q:Nat,aN j5 (ag (p2 oEq (pC (.str [q])) (pC (.str [49]))) au) []=.ok (.int (if q=49 then 1 else 0)):=fun q=>by
  exists aS,show ∀b,j5 [.bl b]=.ok (.int (if b then 1 else 0)) from fun _=>rfl
  simp [e1]
 have e2:∀q:Nat,oEq (.str [q]) (.str [49])=.ok (.bl (decide (q=49))):=fun q=>by rw [IJ]; simp
 have e3:∀q:Nat,oEq (.str [q]) (.str [48])=.ok (.bl (decide (q=48))):=fun q=>by rw [IJ]; simp
 unfold Jy
 exists aS,show ∀b,j5 [.bl b]=.ok (.int (if b then 1 else 0)) from fun _=>rfl,e2
 have hd:zJ [98,111,116,104] [101,105,116,104,101,114] [117,110,108,105,107,101] (p2 oEq (ae 8) (pC (.int 2))) (p2 oG (ae 8) (pC (.int 0))) (p2 oEq (ae 8) (pC (.int 1))) (ae 0) (p2 oEq (ae 6) (pC (.str [48]))) [.val (.str g),a1,a2,a3,a4,.own os,.val (.str [o]),.val (.str [p]),.val (.int (kX o p)),b9]=.ok (.bl (oK g o p)):=by
  unfold zJ
  exists aS,e3
  show M.ok (if g=jB then Dt.bl (decide (kX o p=2)) else if g=i6 then Dt.bl (decide (0<kX o p)) else if g=i5 then Dt.bl (decide (kX o p=1)) else Dt.bl (decide (o=48)))=_;unfold oK
  split
  ·rfl
  ·split
   ·rfl
   ·split <;> rfl
 unfold kX at hd;simp only [decide_eq_true_eq];rw [hd]
 exists ev
 cases hl:oK g o p
 ·exists ev
  rw [cz (by omega)];rfl
 ·exists ev
  rw [cz (by omega)];rfl
noncomputable def kA (g:List Nat)(o d:Nat):List Dt:=(opts d).map fun p=>Lu (oK g o p)
theorem X1 (g:List Nat)(o d:Nat):(kA g o d).length<=2:=by unfold kA; rw [ef]; exact X3 d
theorem EY {g:List Nat}{o d:Nat}{L:List Dt}(h4:cA L (-1)=some (.str [d]))(a1 a2 a3 b7 b8 b9:Bd){os:List Dt}(ho:os.length<=50):∃xT xS xR,BF [.val (.str g),a1,a2,a3,.val (.lst L),.own os,.val (.str [o]),b7,b8,b9]=.ok (.nx [.val (.str g),a1,a2,a3,.val (.lst L),.own (os++kA g o d),.val (.str [o]),xT,xS,xR]):=by
 unfold BF kA opts
 by_cases hd:d=120
 ·subst hd
  refine⟨.val (.str [49]),.val (.int (kX o 49)),.val (.bl (oK g o 49)),?_⟩
  exists aS,h4
  rw [show eF [48,49]=[.str [48],.str [49]] from rfl]
  exists ev
  rw [EZ a1 a2 a3 _ _ _ (by omega)]
  exists ev
  rw [EZ a1 a2 a3 _ _ _ (by simp; omega)]
  exists ev
  simp only [mG,if_true,bG,jq,yx,lq]
 ·refine⟨.val (.str [d]),.val (.int (kX o d)),.val (.bl (oK g o d)),?_⟩
  have:¬ [d]=[120]:=by simp [hd]
  exists aS,h4,this
  rw [show eF [d]=[.str [d]] from rfl]
  exists ev
  rw [EZ a1 a2 a3 _ _ _ (by omega)]
  exists aS,hd,if_false
theorem ZU {g:List Nat}{c d:Nat}{L:List Dt}(h0:cA L 0=some (.str [c]))(h4:cA L (-1)=some (.str [d]))(a1 a2 a3 b6 b7 b8 b9:Bd):∃Io xT xS xR,
  oi (fP (jM (a6 (p2 oEq (p2 aO (ae 4) (pC (.int 0))) (pC (.str [120])))) (pC (.str [48,49])) (p2 aO (ae 4) (pC (.int 0))))) (aL 6) BF [.val (.str g),a1,a2,a3,.val (.lst L),.own [],b6,b7,b8,b9]=.ok (.nx [.val (.str g),a1,a2,a3,.val (.lst L),.own ((opts c).flatMap fun o=>kA g o d),Io,xT,xS,xR]):=by
 unfold opts
 by_cases hc:c=120
 ·subst hc
  obtain⟨u7,u8,u9,hu⟩:=EY (g:=g) (o:=48) h4 a1 a2 a3 b7 b8 b9 (os:=[]) (by simp);obtain⟨v7,v8,v9,hv⟩:=EY (g:=g) (o:=49) h4 a1 a2 a3 u7 u8 u9 (os:=kA g 48 d) (by have:=X1 g 48 d; omega);refine⟨.val (.str [49]),v7,v8,v9,?_⟩
  exists aS,h0
  rw [show eF [48,49]=[.str [48],.str [49]] from rfl];rw [lq] at hu
  exists aS,hu,hv
  simp
 ·obtain⟨u7,u8,u9,hu⟩:=EY (g:=g) (o:=c) h4 a1 a2 a3 b7 b8 b9 (os:=[]) (by simp)
  refine⟨.val (.str [c]),u7,u8,u9,?_⟩;have:¬ [c]=[120]:=by simp [hc]
  exists aS,h0,this
  rw [show eF [c]=[.str [c]] from rfl];rw [lq] at hu
  exists aS,hu
  simp [hc]
noncomputable def Mo (g:List Nat)(c d:Nat):List Dt:=(opts c).flatMap fun o=>kA g o d
noncomputable def QV (os:List Dt):M Dt:=(tO (.lst os)).bd fun n=>(oEq n (.int 1)).bd fun t=>(i7 t).bd fun b=>if b=true then aO (.lst os) (.int 0) else .ok (.str [120])
theorem ZV {g:List Nat}{c d:Nat}(hg:(g=ir/\d=c)∨(g=jB∨g=i6∨g=i5))(hc:L3 c)(hd:L3 d):QV (Mo g c d)=.ok (.str [if g=ir then jO c else kQ g c d]):=by
 rcases hg with ⟨rfl,rfl⟩ | hg
 ·rcases hc with rfl | rfl | rfl <;> rfl
 ·rcases hg with rfl | rfl | rfl <;> rcases hc with rfl | rfl | rfl <;> rcases hd with rfl | rfl | rfl <;> rfl
theorem ZW {g:List Nat}{ws:List (List Nat)}{k c d:Nat}{m:List Nat}(hk:∀w∈ws,k<w.length)(hl:ws.length<=10)(h0:cA (ws.map fun w=>Dt.str [lv w k]) 0=some (.str [c]))(h1:cA (ws.map fun w=>Dt.str [lv w k]) (-1)=some (.str [d]))(hg:(g=ir/\d=c)∨(g=jB∨g=i6∨g=i5))(hc:L3 c)(hd:L3 d)(hm:m.length<=1000)(b4 b5 b6 b7 b8 b9:Bd):∃b4' b5' Io xT xS xR,
  BE [.val (.str g),.val (.lst (ws.map Dt.str)),.val (.str m),.val (.int (k:Nat)),b4,b5,b6,b7,b8,b9]=.ok (.nx [.val (.str g),.val (.lst (ws.map Dt.str)),.val (.str (m++[if g=ir then jO c else kQ g c d])),.val (.int (k:Nat)),b4',b5',Io,xT,xS,xR]):=by
 have hC:dy 1 [3] (fP (ae 1)) (aL 0) cO (p2 aO (ae 0) (ae 1)) [.val (.str g),.val (.lst (ws.map Dt.str)),.val (.str m),.val (.int (k:Nat)),b4,b5,b6,b7,b8,b9]=.ok (.lst (ws.map fun w=>Dt.str [lv w k])):=by
  exists ev
  simp only [gh];rw [kY Dt.str (fun w=>some (.str [lv w k]))]
  ·rw [nA]
   exists ev
   rw [cY (by simp; omega)]
  ·intro w hw
   exists aS,iP,iO,bQ,j0,j4,afA (hk w hw)
 obtain⟨u6,u7,u8,u9,hu⟩:=ZU (g:=g) h0 h1 (.val (.lst (ws.map Dt.str))) (.val (.str m)) (.val (.int (k:Nat))) b6 b7 b8 b9;have ht:=ZV hg hc hd;unfold QV Mo at ht;have hp:jM (a6 (p2 oEq (p1 tO (ae 5)) (pC (.int 1)))) (p2 aO (ae 5) (pC (.int 0))) (pC (.str [120])) [.val (.str g),.val (.lst (ws.map Dt.str)),.val (.str m),.val (.int (k:Nat)),.val (.lst (ws.map fun w=>Dt.str [lv w k])),.val (.lst ((opts c).flatMap fun o=>kA g o d)),u6,u7,u8,u9]=.ok (.str [if g=ir then jO c else kQ g c d]):=by
  rw [← ht];unfold jM a6 p2 p1;simp only [afp];rfl
 refine⟨.val (.lst (ws.map fun w=>Dt.str [lv w k])),.val (.lst ((opts c).flatMap fun o=>kA g o d)),u6,u7,u8,u9,?_⟩;unfold BE;rw [ID];rw [show zf 4 5 (dy 1 [3] (fP (ae 1)) (aL 0) cO (p2 aO (ae 0) (ae 1))) [.val (.str g),.val (.lst (ws.map Dt.str)),.val (.str m),.val (.int (k:Nat)),b4,b5,b6,b7,b8,b9]=.ok (.nx [.val (.str g),.val (.lst (ws.map Dt.str)),.val (.str m),.val (.int (k:Nat)),.val (.lst (ws.map fun w=>Dt.str [lv w k])),.own [],b6,b7,b8,b9]) from by
  unfold zf;rw [hC]
  rfl]
 rw [bz,IA,ID,hu,bz,IA,Rt];show cP _ _ [.val (.str g),.val (.lst (ws.map Dt.str)),.val (.str m),.val (.int (k:Nat)),.val (.lst (ws.map fun w=>Dt.str [lv w k])),.val (.lst ((opts c).flatMap fun o=>kA g o d)),u6,u7,u8,u9]=_;rw [Ru,Bs,show ae 2 [.val (.str g),.val (.lst (ws.map Dt.str)),.val (.str m),.val (.int (k:Nat)),.val (.lst (ws.map fun w=>Dt.str [lv w k])),.val (.lst ((opts c).flatMap fun o=>kA g o d)),u6,u7,u8,u9]=.ok (.str m) from rfl,bz,IG,hp]
 exists ev
 rw [tE (by simp; omega)]
 exists ev
theorem Ng {g:List Nat}{ws:List (List Nat)}{L:Nat}{f:Nat->Nat}(hL:L<=1000)(bN:ws≠[])(hl:ws.length<=10)(hw:∀w∈ws,w.length=L)(hs:∀k,k<L->∃c d,cA (ws.map fun w=>Dt.str [lv w k]) 0=some (.str [c])/\cA (ws.map fun w=>Dt.str [lv w k]) (-1)=some (.str [d])/\((g=ir/\d=c)∨(g=jB∨g=i6∨g=i5))/\L3 c/\L3 d/\(if g=ir then jO c else kQ g c d)=f k):vi [.str g,.lst (ws.map Dt.str)]=.ok (.str ((fV L).map f)):=by
 match ws,bN with
 |w0::r,_=>
  have h0:w0.length=L:=hw w0 bH;obtain⟨ρ',h1,h2⟩:=Hl (g:=aL 3) (b:=BE) (eI 0 (L:Nat)) (fun j ρ=>∃b3 b4 b5 b6 b7 b8 b9,ρ=[.val (.str g),.val (.lst ((w0::r).map Dt.str)),.val (.str ((fV j).map f)),b3,b4,b5,b6,b7,b8,b9]) [.val (.str g),.val (.lst ((w0::r).map Dt.str)),.val (.str []),.no,.no,.no,.no,.no,.no,.no] ⟨_,_,_,_,_,_,_,rfl⟩ (fun j d ρ hd eX=>by
   obtain⟨b3,b4,b5,b6,b7,b8,b9,rfl⟩:=eX;unfold eI at hd;simp only [jt,iZ] at hd;obtain⟨i,hi,rfl⟩:=hd;have hj:j<L:=by
    have:=(ej.mp hi).1;simpa using this
   rw [Cd (by omega)] at hi;cases hi;obtain⟨c,d,e1,e2,e3,e4,e5,e6⟩:=hs j hj;obtain⟨u4,u5,u6,u7,u8,u9,hu⟩:=ZW (g:=g) (ws:=w0::r) (k:=j) (m:=(fV j).map f) (fun w qF=>by rw [hw w qF]; exact hj) hl e1 e2 e3 e4 e5 (by simp; omega) b4 b5 b6 b7 b8 b9;refine⟨_,?_,.val (.int (j:Nat)),u4,u5,u6,u7,u8,u9,rfl⟩;rw [show (0:Int)+((j:Nat):Int)=(j:Nat) by omega,IH,iL,bz];simp only [List.set];rw [hu,iL,e6,List.range_succ,vx]
   rfl)
  obtain⟨b3,b4,b5,b6,b7,b8,b9,rfl⟩:=h2;unfold vi J1
  exists ev
  rw [show oo 5 [Bd.val (.str g),.val (.lst (.str w0::r.map Dt.str)),.val (.str []),.no,.no,.no,.no,.no,.no,.no] (some .no)=[Bd.val (.str g),.val (.lst (.str w0::r.map Dt.str)),.val (.str []),.no,.no,.no,.no,.no,.no,.no] from rfl]
  exists aS,show cA (Dt.str w0::r.map Dt.str) 0=some (.str w0) from pk (n:=0) rfl,h0
  rw [cz (by omega)];rw [bG] at h1
  exists aS,h1
  rw [show (eI 0 (L:Nat)).length=L by simp [eI]]
theorem ZT {g:List Nat}{ws:List (List Nat)}{L:Nat}(hL:L<=1000)(hg:l5 g ws.length)(h:∀w∈ws,w.length=L/\fT w):vi [.str g,.lst (ws.map Dt.str)]=.ok (.str (eN g ws)):=by
 rcases hg with ⟨rfl,h1⟩ | ⟨hg,h2⟩
 ·match ws,h1 with
  | [a],_=>
   obtain⟨h3,h4⟩:=h a bH;rw [Ng (L:=L) (f:=fun k=>jO (lv a k)) hL (by simp) (by simp) (fun w hw=>(h w hw).1) fun k hk=>?_]
   ·rw [show eN ir [a]=a.map jO from rfl]
    conv=>rhs; rw [← ZY a,my,h3]
    rfl
   ·exact⟨lv a k,lv a k,rfl,rfl,.inl ⟨rfl,rfl⟩,tU h4 (by omega),tU h4 (by omega),rfl⟩
 ·match ws,h2 with
  | [a,b],_=>
   obtain⟨h3,h4⟩:=h a bH;obtain⟨h5,h6⟩:=h b (cy _ bH);rw [Ng (L:=L) (f:=fun k=>kQ g (lv a k) (lv b k)) hL (by simp) (by simp) (fun w hw=>(h w hw).1) fun k hk=>?_]
   ·rw [show eN g [a,b]=gm (kQ g) a b from rfl,gm,h3]
   ·refine⟨lv a k,lv b k,rfl,rfl,.inr hg,tU h4 (by omega),tU h6 (by omega),?_⟩
    rw [if_neg];rcases hg with rfl | rfl | rfl <;> decide
inductive Out where
 |no (c:Nat) | ok (t:Dt)
noncomputable def iC (s:aq)(n w:List Nat):Out:=if (s.all fun p=>decide (p.1=n) || decide (p.2.length=w.length))=true then .ok (.bl (ay s n).isSome) else .no 6
noncomputable def ql:Option (List Nat)->Out
 |some v=>.ok (.str v)
 |none=>.no 1
noncomputable def iD (s:aq)(g:List Nat)(ns:List (List Nat)):Out:=if (ns.all fun m=>(ay s m).isSome)=true then .ok (.str (eN g (ns.map (gd s)))) else .no 1
noncomputable def outD (s:aq):Dd->Out
 |.put n w=>iC s n w
 |.take n=>ql (ay s n)
 |.gate _ g ns=>iD s g ns
noncomputable def fM (s:aq):Dd->aq
 |.put n w=>dh s n w
 |.take n=>cw s n
 |.gate n g ns=>dh s n (eN g (ns.map (gd s)))
noncomputable def nI (k:aq):Dd->aq
 |.put n w=>cw k n++[(n,w)]
 |.take n=>cw k n
 |.gate n g ns=>cw k n++[(n,eN g (ns.map (gd k)))]
noncomputable def Gs (s:aq):Prop:=Nd s/\∃L,1<=L/\L<=12/\∀n v,ay s n=some v->n∈N4/\v.length=L/\fT v
theorem Pm {s k:aq}(h:Sm s k):gd s=gd k:=by
 funext n
 unfold gd;rw [h n]
theorem xV {s:aq}{n w:List Nat}:(s.all fun p=>decide (p.1=n) || decide (p.2.length=w.length))=true↔∀p∈s,p.1≠n->p.2.length=w.length:=by
 rw [dO];refine forall_congr' fun p=>forall_congr' fun hp=>?_
 by_cases h:p.1=n <;> simp [h]
theorem Iu {s:aq}(hd:Nd s){n w:List Nat}:(∀p∈s,p.1≠n->p.2.length=w.length)↔∀m v,ay s m=some v->m≠n->v.length=w.length:=
 ⟨fun h m v hv hm=>h _ (wL hv) hm,fun h p hp hn=>h _ _ (qy hd hp) hn⟩
theorem XX {s k:aq}(hs:Nd s)(hk:Nd k)(h:Sm s k)(D:Dd):outD s D=outD k D:=by
 cases D with
 |put n w=>
  show iC s n w=iC k n w;unfold iC;have e:(s.all fun p=>decide (p.1=n) || decide (p.2.length=w.length))=(k.all fun p=>decide (p.1=n) || decide (p.2.length=w.length)):=by
   rw [ke,xV,xV,Iu hs,Iu hk];simp only [h _]
  simp only [e,h n]
 |take n=>
  show ql (ay s n)=ql (ay k n);rw [h n]
 |gate n g ns=>
  show iD s g ns=iD k g ns;unfold iD;rw [Pm h];simp only [h _]
theorem Lg {s k:aq}(h:Sm s k)(D:Dd):Sm (fM s D) (nI k D):=by
 cases D with
 |put n w=>exact vZ h
 |take n=>exact Dy h
 |gate n g ns=>
  unfold fM nI;rw [Pm h];exact vZ h
theorem Xi {s:aq}(h:Nd s)(D:Dd):Nd (fM s D):=by
 cases D with
 |put n w=>exact M4 n w h
 |take n=>exact wF n h
 |gate n g ns=>exact M4 n _ h
theorem afh {s:aq}(h:Nd s)(D:Dd):Nd (nI s D):=by
 cases D with
 |put n w=>exact M6 h
 |take n=>exact wF n h
 |gate n g ns=>exact M6 h
theorem acP {s k:aq}(hk:Nd k)(h:Sm s k)(g:Gs s):Gs k:=by
 obtain⟨_,L,h1,h2,h3⟩:=g;exact⟨hk,L,h1,h2,fun n v hv=>h3 n v (by rw [h n]; exact hv)⟩
theorem GZ {s:aq}{L:Nat}(h3:∀n v,ay s n=some v->n∈N4/\v.length=L/\fT v){ns:List (List Nat)}(h:∀m∈ns,(ay s m).isSome=true):∀w∈ns.map (gd s),w.length=L/\fT w:=fun w hw=>by
 obtain⟨m,hm,rfl⟩:=df.mp hw;obtain⟨v,hv⟩:=i0.mp (h m hm);rw [show gd s m=v from by unfold gd; rw [hv]; rfl];exact(h3 m v hv).2
theorem Pf {s:aq}{D:Dd}{t:Dt}(g:Gs s)(hD:GD D)(ho:outD s D=.ok t):Gs (fM s D):=by
 obtain⟨hd,L,h1,h2,h3⟩:=g;refine⟨Xi hd D,?_⟩
 cases D with
 |put n w=>
  obtain⟨hn,hw1,hw2,hw3⟩:=hD;change iC s n w=_ at ho;unfold iC at ho
  split at ho
  ·rename_i hc
   rw [xV,Iu hd] at hc;refine⟨w.length,hw1,hw2,fun m v hv=>?_⟩;rw [show fM s (.put n w)=dh s n w from rfl,Fd] at hv
   by_cases e:m=n
   ·rw [if_pos e] at hv
    cases hv;exact⟨by rw [e]; exact hn,rfl,hw3⟩
   ·rw [if_neg e] at hv
    exact⟨(h3 m v hv).1,hc m v hv e,(h3 m v hv).2.2⟩
  ·cases ho
 |take n=>
  refine⟨L,h1,h2,fun m v hv=>?_⟩;rw [show fM s (.take n)=cw s n from rfl,qz] at hv
  by_cases e:m=n
  ·rw [if_pos e] at hv; cases hv
  ·rw [if_neg e] at hv; exact h3 m v hv
 |gate n g ns=>
  obtain⟨hn,ni,hg⟩:=hD;change iD s g ns=_ at ho;unfold iD at ho
  split at ho
  ·rename_i hc
   rw [dO] at hc;have hw:=G1 (g:=g) (by rw [ef]; exact hg) (GZ h3 hc);refine⟨L,h1,h2,fun m v hv=>?_⟩;rw [show fM s (.gate n g ns)=dh s n (eN g (ns.map (gd s))) from rfl,Fd] at hv
   by_cases e:m=n
   ·rw [if_pos e] at hv
    cases hv;exact⟨by rw [e]; exact hn,hw.1,hw.2⟩
   ·rw [if_neg e] at hv
    exact h3 m v hv
  ·cases ho
theorem acQ {k:aq}{D:Dd}{t:Dt}(g:Gs k)(hD:GD D)(ho:outD k D=.ok t):Gs (nI k D):=acP (afh g.1 D) (Lg (fun _=>rfl) D) (Pf g hD ho)
theorem G0 {s:aq}(g:Gs s):s.length<=4:=by
 obtain⟨hd,L,h1,h2,h3⟩:=g;have:=J7 hd (l₂:=N4) fun n hn=>by
  rw [mem_keys] at hn;obtain⟨v,hv⟩:=i0.mp hn;exact(h3 n v hv).1
 simpa using this
theorem zW {n:List Nat}(h:n∈N4):oN n=true:=by
 simp only [ba,fJ,or_false] at h;rcases h with rfl | rfl | rfl | rfl <;> decide
theorem Nc {n:List Nat}(h:n∈N4):qa n:=by
 simp only [ba,fJ,or_false] at h;rcases h with rfl | rfl | rfl | rfl <;> decide
noncomputable def Bj (x:List Dt)(s:aq)(D:Dd):Out->M (Dt×List Dt×List Dt)
 |.ok t=>.ok (t,x++[.tup [D.dt,.aj (fM s D)]],[])
 |.no c=>.ex c
theorem afr {x y:List Dt}{s:aq}{n w:List Nat}(g:Gs s)(hs:ft x.getLast?=.ok (.aj s))(hx:x.length<10000)(hD:GD (.put n w)):k8 x y [.str n,.str w]=Bj x s (.put n w) (iC s n w):=by
 have hl:=G0 g;unfold iC
 by_cases hc:(s.all fun p=>decide (p.1=n) || decide (p.2.length=w.length))=true
 ·simp only [hc,if_true]
  exact W7 hs hx (zW hD.1) g.1 (by omega) (xV.mp hc)
 ·simp only [hc,if_false]
  exact W8 hs (zW hD.1) g.1 (by omega) (fun z=>hc (xV.mpr z))
theorem afq {x y:List Dt}{s:aq}{n:List Nat}(g:Gs s)(hs:ft x.getLast?=.ok (.aj s))(hx:x.length<10000)(hD:GD (.take n)):k7 x y [.str n]=Bj x s (.take n) (ql (ay s n)):=by
 cases hv:ay s n with
 |some v=>exact Us hs hx hv
 |none=>exact Ut hs hv (Nc hD)
theorem afs {x y:List Dt}{s:aq}{n g:List Nat}{ns:List (List Nat)}(G:Gs s)(hs:ft x.getLast?=.ok (.aj s))(hx:x.length<10000)(hD:GD (.gate n g ns)):jk x y [.str n,.str g,.tup (ns.map Dt.str)]=Bj x s (.gate n g ns) (iD s g ns):=by
 have hl:=G0 G;have xf:ns.length<=1000:=by
  rcases hD.2.2 with ⟨_,h⟩ | ⟨_,h⟩ <;> omega
 unfold iD
 by_cases hc:(ns.all fun m=>(ay s m).isSome)=true
 ·simp only [hc,if_true]
  obtain⟨hd,L,h1,h2,h3⟩:=G;exact acZ (L:=L) hs hx xf (zW hD.1) (dO.mp hc) hD.2.2 (by omega) (fun p hp=>(h3 p.1 p.2 (qy hd hp)).2) hd (by omega)
 ·simp only [hc,if_false]
  exact ac0 hs xf (zW hD.1) (fun m hm=>Nc (hD.2.1 m hm)) (fun z=>hc (dO.mpr z))
noncomputable def yf (bp bg bt:BM)(cs:List Nat):GB:=qZ (a6 (p2 oEq (p2 aO (ae 1) (pC (.int 0))) (pC (.str [103,97,116,101])))) (ug 0 cs [0,1] (iH 0 bg (ag (p2 aO (ae 1) (pC (.int 1))) (ag (p2 aO (ae 1) (pC (.int 2))) (ag (p1 (oH 3) (ae 1)) au))))) (ug 0 cs [0,1] (qZ (a6 (p2 oEq (p2 aO (ae 1) (pC (.int 0))) (pC (.str [112,117,116])))) (iH 0 bp (ag (p2 aO (ae 1) (pC (.int 1))) (ag (p2 aO (ae 1) (pC (.int 2))) au))) (iH 0 bt (ag (p2 aO (ae 1) (pC (.int 1))) au))))
noncomputable def lg (cs:List Nat):GB:=yf k8 jk k7 cs
noncomputable def KD (x y:List Dt)(s:aq)(D:Dd):Out->M (Dt×List Dt×List Dt)
 |.ok t=>.ok (t,x++[.tup [D.dt,.aj (fM s D)]],[])
 |.no c=>.ok (.str (gy c),x,y)
theorem C4 {cs:List Nat}{x y:List Dt}{s:aq}{D:Dd}(h1:1∈cs)(h6:6∈cs)(o:Out)(ho:∀c,o=.no c->c=1∨c=6):kj cs (some (x,y)) (Bj x s D o)=KD x y s D o:=by
 cases o with
 |ok t=>rfl
 |no c=>
  show (if c∈cs then _ else _)=_;rw [if_pos]
  ·rfl
  ·rcases ho c rfl with rfl | rfl
   ·exact h1
   ·exact h6
theorem zM {s:aq}{D:Dd}{c:Nat}(h:outD s D=.no c):c=1∨c=6:=by
 cases D with
 |put n w=>
  change iC s n w=_ at h;unfold iC at h
  split at h
  ·cases h
  ·cases h; exact .inr rfl
 |take n=>
  change ql (ay s n)=_ at h
  cases hv:ay s n with
  |some v=>rw [hv] at h; cases h
  |none=>rw [hv] at h; cases h; exact .inl rfl
 |gate n g ns=>
  change iD s g ns=_ at h;unfold iD at h
  split at h
  ·cases h
  ·cases h; exact .inl rfl
theorem aea {bp bg bt:BM}{cs:List Nat}{x y:List Dt}{n w:List Nat}:yf bp bg bt cs [.bor none x y,.val (.tup [.str jA,.str n,.str w])]=kj cs (some (x,y)) (bp x y [.str n,.str w]):=rfl
theorem ad9 {bp bg bt:BM}{cs:List Nat}{x y:List Dt}{n:List Nat}:yf bp bg bt cs [.bor none x y,.val (.tup [.str kh,.str n])]=kj cs (some (x,y)) (bt x y [.str n]):=rfl
theorem aec {bp bg bt:BM}{cs:List Nat}{x y:List Dt}{n g a:List Nat}:yf bp bg bt cs [.bor none x y,.val (.tup [.str eU,.str n,.str g,.str a])]=kj cs (some (x,y)) (bg x y [.str n,.str g,.tup [.str a]]):=rfl
theorem aeb {bp bg bt:BM}{cs:List Nat}{x y:List Dt}{n g a b:List Nat}:yf bp bg bt cs [.bor none x y,.val (.tup [.str eU,.str n,.str g,.str a,.str b])]=kj cs (some (x,y)) (bg x y [.str n,.str g,.tup [.str a,.str b]]):=rfl
theorem ad4 {cs:List Nat}{x y:List Dt}{n w:List Nat}:lg cs [.bor none x y,.val (.tup [.str jA,.str n,.str w])]=kj cs (some (x,y)) (k8 x y [.str n,.str w]):=aea
theorem ad2 {cs:List Nat}{x y:List Dt}{n:List Nat}:lg cs [.bor none x y,.val (.tup [.str kh,.str n])]=kj cs (some (x,y)) (k7 x y [.str n]):=ad9
theorem ad8 {cs:List Nat}{x y:List Dt}{n g a:List Nat}:lg cs [.bor none x y,.val (.tup [.str eU,.str n,.str g,.str a])]=kj cs (some (x,y)) (jk x y [.str n,.str g,.tup [.str a]]):=aec
theorem ad7 {cs:List Nat}{x y:List Dt}{n g a b:List Nat}:lg cs [.bor none x y,.val (.tup [.str eU,.str n,.str g,.str a,.str b])]=kj cs (some (x,y)) (jk x y [.str n,.str g,.tup [.str a,.str b]]):=aeb
theorem ad6 {cs:List Nat}{x y:List Dt}{s:aq}{D:Dd}(h1:1∈cs)(h6:6∈cs)(g:Gs s)(hs:ft x.getLast?=.ok (.aj s))(hx:x.length<10000)(hD:GD D):o6 1 0 (lg cs) x y [D.dt]=KD x y s D (outD s D):=by
 show lg cs [.bor none x y,.val D.dt]=_
 cases D with
 |put n w=>
  show lg cs [.bor none x y,.val (.tup [.str jA,.str n,.str w])]=_;rw [ad4,afr g hs hx hD];exact C4 h1 h6 _ fun c h=>zM (D:=.put n w) h
 |take n=>
  show lg cs [.bor none x y,.val (.tup [.str kh,.str n])]=_;rw [ad2,afq g hs hx hD];exact C4 h1 h6 _ fun c h=>zM (D:=.take n) h
 |gate n g' ns=>
  have e:lg cs [.bor none x y,.val (Dd.gate n g' ns).dt]=kj cs (some (x,y)) (jk x y [.str n,.str g',.tup (ns.map Dt.str)]):=by
   rcases hD.2.2 with ⟨_,h⟩ | ⟨_,h⟩
   ·match ns,h with
    | [a],_=>exact ad8
   ·match ns,h with
    | [a,b],_=>exact ad7
  rw [e,afs g hs hx hD];exact C4 h1 h6 _ fun c h=>zM (D:=.gate n g' ns) h
theorem adR {α:Type}[BEq α][LawfulBEq α]{l:List α}(h:l≠[]):0<l.eraseDups.length:=by
 match l,h with
 |a::r,_=>rw [Cb]; simp
theorem adS (ls:List Int)(a:Int):(1<(ls++[a]).eraseDups.length)↔¬ ∀l∈ls,l=a:=by
 cases ls with
 |nil=>simp [Cb]
 |cons b r=>
  rw [yx,Cb,eg];constructor
  ·intro h z
   have e:(r++[a]).filter (fun c=>!(c==b))=[]:=by
    rw [yM];intro c hc;have hb:=z b bH;rcases eC.mp hc with h1 | h1
    ·rw [z c (cy _ h1),hb]; simp
    ·rw [jv.mp h1,hb]; simp
   rw [e] at h;simp at h
  ·intro h
   have:(r++[a]).filter (fun c=>!(c==b))≠[]:=fun e=>h fun l hl=>by
    rw [yM] at e;have e1:=e a (by simp);have ea:a=b:=by simpa using e1
    rcases ba.mp hl with h1 | h1
    ·rw [h1,ea]
    ·have:=e l (by simp [h1])
     rw [ea]; simpa using this
   have:=adR this;omega
theorem D9 {k:aq}{d:Dt}{n:List Nat}(h1:aO d (.int 1)=.ok (.str n))(hd:Nd k)(hl:k.length<=1000):zh 2 (dy 1 [0,1] (kI (ae 0)) (aL 0) (a6 (p2 eW (ae 0) (p2 aO (ae 2) (pC (.int 1))))) (fw (ag (ae 0) (ag (p2 fO (ae 1) (ae 0)) au)))) [.val (.aj k),.val d,.no]=.ok (.nx [.val (.aj k),.val d,.bT (cw k n)]):=by
 have e:dy 1 [0,1] (kI (ae 0)) (aL 0) (a6 (p2 eW (ae 0) (p2 aO (ae 2) (pC (.int 1))))) (fw (ag (ae 0) (ag (p2 fO (ae 1) (ae 0)) au))) [.val (.aj k),.val d,.no]=.ok (.lst ((cw k n).map fun p=>Dt.tup [.str p.1,.str p.2])):=by
  exists dv
  simp only [gh];unfold lL;rw [kY (fun p:PW=>Dt.str p.1) (fun p=>if (!(p.1==n))=true then some (.tup [.str p.1,.str p.2]) else none)]
  ·rw [AV]
   exists ev
   rw [cY (by simp only [ef]; exact c9 (nZ _ _) (by omega))];rfl
  ·intro p hp
   have hv:=pe (qy hd hp)
   by_cases hn:p.1=n
   ·exists dC,iP,iO,bQ,h1,hn,Bg
    simp
   ·exists dC,iP,iO,bQ,h1,hn,j0,hv
    rw [cz (by decide)]
    exists aS,j4
    simp [hn]
 unfold zh;rw [e];show (match g9 ((cw k n).map fun p=>Dt.tup [.str p.1,.str p.2]) with | some ps=>M.ok (Fl.nx ([Bd.val (.aj k),.val d,.no].set 2 (.bT (jc [] ps)))) | none=>.bad)=_;rw [L4 (fun p:PW=>p.1) (fun p=>p.2)];show M.ok (Fl.nx [Bd.val (.aj k),.val d,.bT (jc [] ((cw k n).map fun p=>(p.1,p.2)))])=_;rw [show ((cw k n).map fun p=>(p.1,p.2))=cw k n from List.map_id' _,ZL (wF n hd)]
noncomputable abbrev Kg:List Nat:=[110,111,32,110,97,109,101]
theorem afk {k:aq}{d:Dt}{n:List Nat}(h0:aO d (.int 0)=.ok (.str kh))(h1:aO d (.int 1)=.ok (.str n))(hd:Nd k)(hl:k.length<=1000):nN [.aj k,d]=match ay k n with
  |some v=>.ok (.tup [.aj (cw k n),.str v])
  |none=>.ok (.tup [.aj k,.str Kg]):=by
 unfold nN yh
 exists aS,D9 h1 hd hl
 exists dC,h0,h1
 cases hv:ay k n with
 |some v=>
  exists dC,h1,pe hv,vC
  rw [cz (by decide)]
  exists ev
 |none=>
  exists dC,yC
  rw [cz (by decide)]
  exists ev
noncomputable abbrev TF:List Nat:=[117,110,108,105,107,101]
theorem aac {k:aq}{d:Dt}{w:List Nat}{s:aq}(h2:aO d (.int 2)=.ok (.str w))(hd:Nd s)(hl:s.length<=900):a6 (p2 oG (p1 qr (p2 cG (dy 1 [2] (kI (ae 2)) (aL 0) cO (aN eu (ag (p2 fO (ae 1) (ae 0)) au))) (gR (ag (aN eu (ag (p2 aO (ae 1) (pC (.int 2))) au)) au)))) (pC (.int 1))) [.val (.aj k),.val d,.val (.aj s)]=.ok (!(s.all fun p=>decide (p.2.length=w.length))):=by
 have e:dy 1 [2] (kI (ae 2)) (aL 0) cO (aN eu (ag (p2 fO (ae 1) (ae 0)) au)) [.val (.aj k),.val d,.val (.aj s)]=.ok (.lst (s.map fun p=>Dt.int (p.2.length:Nat))):=by
  exists dv
  simp only [gh];unfold lL;rw [kY (fun p:PW=>Dt.str p.1) (fun p=>some (.int (p.2.length:Nat)))]
  ·rw [nA]
   exists ev
   rw [cY (by simp only [ef]; omega)]
  ·intro p hp
   exists dC,iP,iO,bQ,j0,pe (qy hd hp),j4
 have e2:(s.map fun p=>Dt.int (p.2.length:Nat))++[Dt.int (w.length:Nat)]=((s.map fun p=>((p.2.length:Nat):Int))++[((w.length:Nat):Int)]).map fun i=>Dt.int i:=by simp
 rw [Rr,Bs,Rv,Bs,e,bz,IG]
 exists aS,h2
 rw [cY (by simp)]
 exists ev
 rw [cY (by simp; omega)];rw [e2,bz];rw [show qr (.lst (((s.map fun p=>((p.2.length:Nat):Int))++[((w.length:Nat):Int)]).map fun i=>Dt.int i))=.ok (.int ((((s.map fun p=>((p.2.length:Nat):Int))++[((w.length:Nat):Int)]).eraseDups.length:Nat):Int)) from by
  show (if _ then Nq (lM _) else _)=_;rw [if_pos (by simp; omega),ints_map (fun i:Int=>i),List.map_id']
  rfl]
 exists ev
 congr 1
 rw [ke];simp only [decide_eq_true_eq,Bool.not_eq_true',← Bool.not_eq_true,dO];rw [show ((1:Int)<(((s.map fun p=>((p.2.length:Nat):Int))++[((w.length:Nat):Int)]).eraseDups.length:Nat))↔1<((s.map fun p=>((p.2.length:Nat):Int))++[((w.length:Nat):Int)]).eraseDups.length from by omega,adS];constructor
 ·intro h z
  refine h fun l hl=>?_;obtain⟨p,hp,rfl⟩:=df.mp hl;have:=z p hp;omega
 ·intro h z
  refine h fun p hp=>?_;have:=z _ (df.mpr ⟨p,hp,rfl⟩);omega
theorem aad {k:aq}{d:Dt}{s:aq}:lend 2 [.val (.aj k),.val d,.bT s]=[.val (.aj k),.val d,.val (.aj s)]:=rfl
theorem drop_new {k:aq}{n:List Nat}:∀p∈cw k n,p.1≠n:=Nn.mp (by rw [qz,if_pos rfl])
theorem Qu (k:aq)(n:List Nat):(cw k n).length<=k.length:=nZ _ _
theorem adU {k:aq}{n w:List Nat}:((cw k n).all fun p=>decide (p.2.length=w.length))=(k.all fun p=>decide (p.1=n) || decide (p.2.length=w.length)):=by
 unfold cw
 induction k with
 |nil=>rfl
 |cons p r ih=>
  rw [vz,mz]
  by_cases h:p.1=n
  ·simp only [h,beq_self_eq_true,rZ,cT,if_false,decide_true,Bool.true_or,yo]
   exact ih
  ·simp only [beq_eq_false_iff_ne.mpr h,vv,if_true,h,decide_false,Bool.false_or,mz]
   rw [ih]
theorem afl {k:aq}{d:Dt}{n w:List Nat}(h0:aO d (.int 0)=.ok (.str jA))(h1:aO d (.int 1)=.ok (.str n))(h2:aO d (.int 2)=.ok (.str w))(hd:Nd k)(hl:k.length<=900):nN [.aj k,d]=if (k.all fun p=>decide (p.1=n) || decide (p.2.length=w.length))=true then .ok (.tup [.aj (cw k n++[(n,w)]),.bl (ay k n).isSome]) else .ok (.tup [.aj k,.str TF]):=by
 have qM:=Qu k n;unfold nN yh
 exists aS,D9 h1 hd (by omega)
 exists aS,h0,show decide (jA=[116,97,107,101])=false from rfl
 have e:∀s u,tH 2 (a6 (p2 oG (p1 qr (p2 cG (dy 1 [2] (kI (ae 2)) (aL 0) cO (aN eu (ag (p2 fO (ae 1) (ae 0)) au))) (gR (ag (aN eu (ag (p2 aO (ae 1) (pC (.int 2))) au)) au)))) (pC (.int 1)))) s u [.val (.aj k),.val d,.bT (cw k n)]=if (k.all fun p=>decide (p.1=n) || decide (p.2.length=w.length))=true then u [.val (.aj k),.val d,.bT (cw k n)] else s [.val (.aj k),.val d,.bT (cw k n)]:=fun s u=>by
  unfold tH;rw [aad,aac h2 (wF n hd) (by omega),adU]
  cases (k.all fun p=>decide (p.1=n) || decide (p.2.length=w.length)) <;> rfl
 rw [e]
 by_cases hc:(k.all fun p=>decide (p.1=n) || decide (p.2.length=w.length))=true
 ·rw [if_pos hc,if_pos hc]
  exists dC,h1,h2
  rw [cz (by omega)]
  exists dC,h1
  rw [cz (by decide),Ep drop_new]
  exists ev
 ·rw [if_neg hc,if_neg hc]
  exists ev
  rw [cz (by decide)]
  exists ev
theorem aeg {k:aq}(ns:List (List Nat))(hl:ns.length<=1000)(d:Dt)(b:Bd):gh 1 [0] (aL 0) (a6 (p2 wu (ae 0) (ae 1))) (ae 0) [.val (.aj k),.val d,b] (ns.map Dt.str)=.ok (.lst ((ns.filter fun m=>!(ay k m).isSome).map Dt.str)):=by
 simp only [gh];rw [kY Dt.str (fun m=>if (!(ay k m).isSome)=true then some (.str m) else none)]
 ·rw [AV]
  exists ev
  rw [cY (by simp only [ef]; exact c9 (nZ _ _) (by omega))]
 ·intro m hm
  exists dC,iP,iO,bQ
  cases hv:(ay k m).isSome
  ·exists aS,j0,j4
   simp
  ·exists aS,Bg
   simp
theorem aef {k:aq}(ns:List (List Nat))(hl:ns.length<=1000)(d:Dt)(b:Bd)(h:∀m∈ns,(ay k m).isSome=true):gh 1 [0] (aL 0) cO (p2 fO (ae 1) (ae 0)) [.val (.aj k),.val d,b] (ns.map Dt.str)=.ok (.lst ((ns.map (gd k)).map Dt.str)):=by
 simp only [gh];rw [kY Dt.str (fun m=>some (.str (gd k m)))]
 ·rw [nA]
  exists ev
  rw [cY (by simp only [ef]; omega),my];rfl
 ·intro m hm
  obtain⟨v,hv⟩:=i0.mp (h m hm)
  exists dC,iP,iO,bQ,j0,pe hv,j4
  rw [show gd k m=v from by unfold gd; rw [hv]; rfl]
theorem ne_nil (l:List (List Nat)):eW (.lst (l.map Dt.str)) (.lst [])=.ok (.bl (!decide (l=[]))):=by
 rw [Bt,cz (aej l)]
 cases l <;> rfl
theorem afm {k:aq}{d:Dt}{n g:List Nat}{ns:List (List Nat)}{L:Nat}(h0:aO d (.int 0)=.ok (.str eU))(h1:aO d (.int 1)=.ok (.str n))(h2:aO d (.int 2)=.ok (.str g))(h3:oH 3 d=.ok (.tup (ns.map Dt.str)))(hd:Nd k)(hl:k.length<=900)(hg:l5 g ns.length)(hL:L<=1000)(hw:∀m v,ay k m=some v->m∈N4/\v.length=L/\fT v):nN [.aj k,d]=if (ns.all fun m=>(ay k m).isSome)=true then .ok (.tup [.aj (cw k n++[(n,eN g (ns.map (gd k)))]),.str (eN g (ns.map (gd k)))]) else .ok (.tup [.aj k,.str Kg]):=by
 have qM:=Qu k n;have xf:ns.length<=1000:=by
  rcases hg with ⟨_,h⟩ | ⟨_,h⟩ <;> omega
 unfold nN yh
 exists aS,D9 h1 hd (by omega)
 exists aS,h0,show decide (eU=[116,97,107,101])=false from rfl,show decide (eU=[112,117,116])=false from rfl
 exists aS,h3,aeg ns xf d _
 rw [cY (by decide),bz,ne_nil]
 by_cases hc:(ns.all fun m=>(ay k m).isSome)=true
 ·have fA:=dO.mp hc
  have e:(ns.filter fun m=>!(ay k m).isSome)=[]:=by
   rw [yM];intro m hm;rw [fA m hm];simp
  rw [if_pos hc]
  exists aS,e
  have em:vi [.str g,.lst ((ns.map (gd k)).map Dt.str)]=.ok (.str (eN g (ns.map (gd k)))):=ZT hL (by rw [ef]; exact hg) (GZ hw fA)
  exists dC,h1,h2,h3,aef ns xf d _ fA,em
  rw [cz (by omega),Ep drop_new];have ev2:ay (cw k n++[(n,eN g (ns.map (gd k)))]) n=some (eN g (ns.map (gd k))):=by
   rw [Fe,qz,if_pos rfl];simp [fz]
  exists dC,h1,pe ev2
  rw [cz (by decide)]
  exists ev
 ·have e:¬ (ns.filter fun m=>!(ay k m).isSome)=[]:=by
   rw [yM];intro z;refine hc (dO.mpr fun m hm=>?_);have:=z m hm
   cases hv:(ay k m).isSome
   ·rw [hv] at this; simp at this
   ·rfl
  rw [if_neg hc]
  exists aS,e
  rw [cz (by decide)]
  exists ev
theorem Zh {a:Nat}{ds:List Dt}(h:a<=ds.length):oH a (.tup ds)=.ok (.tup (ds.drop a)):=if_pos h
noncomputable def vb (k:aq)(D:Dd):Out->M Dt
 |.ok t=>.ok (.tup [.aj (nI k D),t])
 |.no c=>.ok (.tup [.aj k,.str (gy c)])
theorem afj {k:aq}{D:Dd}(g:Gs k)(hD:GD D):nN [.aj k,D.dt]=vb k D (outD k D):=by
 have hl:=G0 g
 cases D with
 |put n w=>
  rw [afl (n:=n) (w:=w) rfl rfl rfl g.1 (by omega)];show _=vb k _ (iC k n w);unfold iC
  split <;> rfl
 |take n=>
  rw [afk (n:=n) rfl rfl g.1 (by omega)];show _=vb k _ (ql (ay k n))
  cases ay k n <;> rfl
 |gate n g' ns=>
  obtain⟨hd,L,h1,h2,h3⟩:=g;rw [afm (n:=n) (g:=g') (ns:=ns) (L:=L) (by rw [show (Dd.gate n g' ns).dt=.tup (.str eU :: .str n :: .str g'::ns.map Dt.str) from rfl,Bu,show (0:Int)=((0:Nat):Int) from rfl,pk (n:=0) rfl]; rfl) (by rw [show (Dd.gate n g' ns).dt=.tup (.str eU :: .str n :: .str g'::ns.map Dt.str) from rfl,Bu,show (1:Int)=((1:Nat):Int) from rfl,pk (n:=1) rfl]; rfl) (by rw [show (Dd.gate n g' ns).dt=.tup (.str eU :: .str n :: .str g'::ns.map Dt.str) from rfl,Bu,show (2:Int)=((2:Nat):Int) from rfl,pk (n:=2) rfl]; rfl) (by
   exact Zh (by simp only [eg]; omega)) hd (by omega) hD.2.2 (by omega) h3]
  show _=vb k _ (iD k g' ns);unfold iD
  split <;> rfl
noncomputable abbrev Rw:=Dd×aq
noncomputable def gf (r:Rw):Dt:=.tup [r.1.dt,.aj r.2]
noncomputable abbrev g6 (rows:List Rw):List Dt:=rows.map fun r=>r.1.dt
noncomputable def dR (rows:List Rw):aq:=match rows.getLast? with
 |some r=>r.2
 |none=>[]
theorem Lr (rows:List Rw):ft (rows.map gf).getLast?=.ok (.aj (dR rows)):=by
 rw [List.getLast?_map];unfold dR
 cases rows.getLast? <;> rfl
theorem Vz (rows:List Rw)(r:Rw):dR (rows++[r])=r.2:=by
 unfold dR;rw [List.getLast?_append];rfl
theorem Pq:∀rows:List Rw,rg (rows.map gf)=some (g6 rows)
 | []=>rfl
 |r::rows=>by
  show (rg (rows.map gf)).map (r.1.dt :: ·)=_;rw [Pq rows];rfl
theorem MO:∀l:List (List Nat),jP (l.map Dt.str)=true
 | []=>by simp only [jq,jP]
 |a::l=>by simp only [bG,jP,qu,MO l,Bool.and_self]
theorem Zq (D:Dd):qu D.dt=true:=by
 cases D with
 |put n w=>rfl
 |take n=>rfl
 |gate n g ns=>simp only [Dd.dt,qu,jP,MO,Bool.and_self]
theorem MP:∀rows:List Rw,jP (g6 rows)=true
 | []=>by simp only [jq,jP]
 |r::rows=>by
  have:=MP rows;simp only [bG,jP,Zq,yo];exact this
theorem Vl {rows:List Rw}{y:List Dt}(h:rows.length<=1000):rH (rows.map gf) y=.ok (.lst (g6 rows)):=by
 unfold rH;rw [Pq];exact if_pos ⟨MP rows,by simp; omega⟩
theorem QH:∀l:List (List Nat),e8 (l.map Dt.str)=0
 | []=>by simp only [jq,e8]
 |a::l=>by simp only [bG,e8,dep,QH l]; rfl
theorem aek (D:Dd):dep D.dt<=1:=by
 cases D with
 |put n w=>simp only [Dd.dt,dep,e8]; decide
 |take n=>simp only [Dd.dt,dep,e8]; decide
 |gate n g ns=>simp only [Dd.dt,dep,e8,QH]; decide
theorem QI:∀rows:List Rw,e8 (g6 rows)<=1
 | []=>by simp only [jq,e8]; omega
 |r::rows=>by
  have h1:=QI rows;have h2:=aek r.1;simp only [bG,e8];exact Nat.max_le.mpr ⟨h2,h1⟩
theorem MY (rows:List Rw):eW (.lst (g6 rows)) (.lst (g6 rows))=.ok (.bl false):=by
 rw [Bt,cz,rA]
 ·rfl
 ·have:=QI rows
  simp only [dep];omega
theorem MZ {s k:aq}(hs:Nd s)(hk:Nd k)(h:Sm s k):eW (.aj s) (.aj k)=.ok (.bl false):=by
 rw [Bt,cz (by simp only [dep]; omega),Vt hs hk h];rfl
theorem Mn {s:aq}{D:Dd}{t:Dt}(g:Gs s)(hD:GD D)(h:outD s D=.ok t):(∃b,t=.bl b)∨∃v,t=.str v/\fT v:=by
 obtain⟨hd,L,h1,h2,h3⟩:=g
 cases D with
 |put n w=>
  change iC s n w=_ at h;unfold iC at h
  split at h
  ·cases h; exact .inl ⟨_,rfl⟩
  ·cases h
 |take n=>
  change ql (ay s n)=_ at h
  cases hv:ay s n with
  |some v=>rw [hv] at h; cases h; exact .inr ⟨v,rfl,(h3 n v hv).2.2⟩
  |none=>rw [hv] at h; cases h
 |gate n g ns=>
  change iD s g ns=_ at h;unfold iD at h
  split at h
  ·rename_i hc
   cases h;exact .inr ⟨_,rfl,(G1 (g:=g) (by rw [ef]; exact hD.2.2) (GZ h3 (dO.mp hc))).2⟩
  ·cases h
theorem XY {s:aq}{D:Dd}{t:Dt}(g:Gs s)(hD:GD D)(h:outD s D=.ok t):eW t t=.ok (.bl false):=by
 rw [Bt,cz,rA]
 ·rfl
 ·rcases Mn g hD h with ⟨b,rfl⟩ | ⟨v,rfl,_⟩ <;> simp only [dep] <;> omega
noncomputable abbrev ER:Dt:=.tup [.str [110,111,32,110,97,109,101],.str [117,110,108,105,107,101]]
theorem XZ {s:aq}{D:Dd}{t:Dt}(g:Gs s)(hD:GD D)(h:outD s D=.ok t):fN t ER=.ok (.bl false):=by
 rcases Mn g hD h with ⟨b,rfl⟩ | ⟨v,rfl,hv⟩
 ·rfl
 ·have e:fN (.str v) ER=.ok (.bl ([Dt.str [110,111,32,110,97,109,101],.str [117,110,108,105,107,101]].any fun d=>bV d (.str v))):=by
   rcases v with _ | ⟨c,_ | ⟨d,r⟩⟩ <;> rfl
  rw [e];have h1:¬ [110,111,32,110,97,109,101]=v:=by
   rintro rfl;have:=hv 110 (by simp);omega
  have h2:¬ [117,110,108,105,107,101]=v:=by
   rintro rfl;have:=hv 110 (by simp);omega
  simp [bV,h1,h2]
theorem Zp {s:aq}{D:Dd}{c:Nat}(h:outD s D=.no c):fN (.str (gy c)) ER=.ok (.bl true)/\eW (.str (gy c)) (.str (gy c))=.ok (.bl false):=by
 rcases zM h with rfl | rfl <;> exact⟨rfl,rfl⟩
theorem KJ {i:Nat}{G:GB}{op:Dt->Dt->M Dt}{g:aa->M Dt}{ρ:aa}{x y x' y':List Dt}{t d:Dt}{b:Bool}(h1:ρ[i]?=some (.aQ x y))(h2:G ρ=.ok (t,x',y'))(h3:g (ρ.set i (.aQ x' y'))=.ok d)(h4:op t d=.ok (.bl b)):vN i G op g ρ=.ok (b,ρ.set i (.aQ x' y')):=by
 unfold vN wI;rw [h1,h2];show ((g (ρ.set i (.aQ x' y'))).bd fun d=>(op t d).bd (Bi (ρ.set i (.aQ x' y'))))=_;rw [h3,bz,h4];rfl
theorem Pn {i:Nat}{F:BM}{fs:aa->M (List Dt)}{ρ:aa}{x y ds:List Dt}(h:ρ[i]?=some (.aQ x y))(h1:fs ρ=.ok ds):iH i F fs ρ=F x y ds:=by
 unfold iH AN;rw [h,h1];rfl
theorem Oh {F:TB}{s t:SM}{ρ ρ':aa}(h:F ρ=.ok (false,ρ')):wb F s t ρ=t ρ':=by
 unfold wb;rw [h];rfl
theorem KI {F G:TB}{ρ ρ' J4:aa}(h:F ρ=.ok (false,ρ'))(h':G ρ'=.ok (false,J4)):tj F G ρ=.ok (false,J4):=by
 unfold tj;rw [h];exact h'
theorem KH {f:aa->M Bool}{ρ:aa}(h:f ρ=.ok false):vM f ρ=.ok (false,ρ):=by
 unfold vM;rw [h];rfl
theorem Ee {i:Nat}{F:List Dt->List Dt->M Dt}{ρ:aa}{x y:List Dt}(h:ρ[i]?=some (.aQ x y)):gQ i F ρ=F x y:=by
 unfold gQ Ef;rw [h];rfl
theorem LK {i:Nat}{ρ:aa}{rows:List Rw}{y:List Dt}(h:ρ[i]?=some (.aQ (rows.map gf) y)):gQ i pj ρ=.ok (.aj (dR rows)):=by
 rw [Ee h];exact Lr rows
theorem LJ {i:Nat}{ρ:aa}{rows:List Rw}{y:List Dt}(h:ρ[i]?=some (.aQ (rows.map gf) y))(hl:rows.length<=1000):gQ i rH ρ=.ok (.lst (g6 rows)):=by
 rw [Ee h];exact Vl hl
theorem ad3 {cs:List Nat}{rows:List Rw}{y:List Dt}{D:Dd}(h1:1∈cs)(h6:6∈cs)(g:Gs (dR rows))(hx:rows.length<1000)(hD:GD D):o6 1 0 (lg cs) (rows.map gf) y [D.dt]=match outD (dR rows) D with
  |.ok t=>.ok (t,(rows++[(D,fM (dR rows) D)]).map gf,[])
  |.no c=>.ok (.str (gy c),rows.map gf,y):=by
 rw [ad6 h1 h6 g (Lr rows) (by simp; omega) hD]
 cases outD (dR rows) D with
 |ok t=>
  rw [vx];rfl
 |no c=>rfl
theorem Ph:Gs []:=⟨List.nodup_nil,1,by omega,by omega,fun n v h=>nomatch h⟩
end Pg
namespace vg
open L2 Pg
noncomputable def R7:GB:=qZ (a6 (p2 oEq (p2 aO (ae 1) (pC (.int 0))) (pC (.str [103,97,116,101])))) (ug 0 [1,6,7] [0,1] (iH 0 jk (ag (p2 aO (ae 1) (pC (.int 1))) (ag (p2 aO (ae 1) (pC (.int 2))) (ag (p1 (oH 3) (ae 1)) au))))) (ug 0 [1,6,7] [0,1] (qZ (a6 (p2 oEq (p2 aO (ae 1) (pC (.int 0))) (pC (.str [112,117,116])))) (iH 0 k8 (ag (p2 aO (ae 1) (pC (.int 1))) (ag (p2 aO (ae 1) (pC (.int 2))) au))) (iH 0 k7 (ag (p2 aO (ae 1) (pC (.int 1))) au))))
noncomputable def BU:BM:=o6 1 0 R7
noncomputable def BD:SM:=(aZ (cP (aN BV (ag (ae 0) (ag (p2 cG (pC (.int 100)) (p2 jN (pC (.int 60)) (ae 5))) (ag (ae 2) (ag (ae 4) au))))) (aL 6))
 (aZ (cP (aN nN (ag (ae 2) (ag (ae 6) au))) (iI 2 (dZ (aL 2) (dZ (aL 7) kS))))
 (aZ (wb (tj (vN 1 (iH 1 BU (ag (ae 6) au)) eW (ae 7)) (vM (a6 (p2 eW (gQ 1 pj) (ae 2))))) (bR (pC (.bl false))) dw)
 (aZ (cP (p2 cG (ae 3) (EC (ag (ae 6) au) (aN j5 (ag (p2 zQ (ae 7) (fw (ag (pC (.str [110,111,32,110,97,109,101])) (ag (pC (.str [117,110,108,105,107,101])) au)))) au)))) (aL 3))
 (dI (a6 (p2 eW (gQ 1 rH) (ae 3))) (bR (pC (.bl false))) dw)))))
noncomputable def RE:SM:=(bR (p2 oEq (gQ 1 Bl) (fw (ag (aN eu (ag (ae 3) au)) (ag (pC (.int 0)) au)))))
noncomputable def RF:SM:=(aZ (oi (kJ tJ (ag (pC (.int 16)) au)) (aL 5) BD) RE)
noncomputable def JT:SM:=(aZ (qd 1 (dZ (aL 2) (dZ (aL 3) (dZ (aL 4) kS))) (ag oF (ag (gR au) (ag (p2 cG (pC (.int 1)) (aN ik (ag (ae 0) (ag (pC (.int 0)) (ag (pC (.int 12)) au))))) au)))) RF)
noncomputable def vh:List Dt->M Dt:=cI 1 7 JT
theorem Qy:BU=o6 1 0 (lg [1,6,7]):=rfl
noncomputable def Inv (ns:List Int)(many:Int)(j:Nat)(ρ:aa):Prop:=∃rows k b5 b6 b7,ρ=[.val (dU ns),.aQ (rows.map gf) [],.val (.aj k),.val (.lst (g6 rows)),.val (.int many),b5,b6,b7]/\rows.length<=j/\Gs (dR rows)/\Gs k/\Sm (dR rows) k
theorem turn {ns:List Int}{many:Int}{j:Nat}{rows:List Rw}{k:aq}(h1:1<=many)(h2:many<=12)(hj:j<16)(hr:rows.length<=j)(g:Gs (dR rows))(g':Gs k)(hs:Sm (dR rows) k)(b6 b7:Bd):∃ρ',BD [.val (dU ns),.aQ (rows.map gf) [],.val (.aj k),.val (.lst (g6 rows)),.val (.int many),.val (.int (j:Nat)),b6,b7]=.ok (.nx ρ')/\Inv ns many (j+1) ρ':=by
 obtain⟨D,hD,hd⟩:=aem (ns:=ns) (a:=100+60 * (j:Nat)) (many:=many) (k:=k) (by omega) h1 h2;have hb:=afj g' hD;have uc:=ad3 (cs:=[1,6,7]) (y:=[]) (D:=D) (by decide) (by decide) g (by omega) hD;have ho:=XX g.1 g'.1 hs D;unfold BD
 exists ev
 rw [cz (by omega)]
 exists aS,hd,hb
 rw [← ho]
 cases e:outD (dR rows) D with
 |ok t=>
  rw [e] at uc
  simp only at uc
  have e':outD k D=.ok t:=by rw [← ho]; exact e
  have hl:(rows++[(D,fM (dR rows) D)]).length<=j+1:=by simp; omega
  have Ap:=Lg hs D;have g1:=Pf g hD e;have Pp:=acQ g' hD e';have wZ:dR (rows++[(D,fM (dR rows) D)])=fM (dR rows) D:=Vz _ _;have Oy:g6 rows++[D.dt]=g6 (rows++[(D,fM (dR rows) D)]):=by simp
  refine⟨[.val (dU ns),.aQ ((rows++[(D,fM (dR rows) D)]).map gf) [],.val (.aj (nI k D)),.val (.lst (g6 (rows++[(D,fM (dR rows) D)]))),.val (.int many),.val (.int (j:Nat)),.val D.dt,.val t],?_,rows++[(D,fM (dR rows) D)],nI k D,_,_,_,rfl,hl,by rw [wZ]; exact g1,Pp,by rw [wZ]; exact Ap⟩;rw [show vb k D (.ok t)=.ok (.tup [.aj (nI k D),t]) from rfl]
  exists ev
  rw [Oh (ρ':=[.val (dU ns),.aQ ((rows++[(D,fM (dR rows) D)]).map gf) [],.val (.aj (nI k D)),.val (.lst (g6 rows)),.val (.int many),.val (.int (j:Nat)),.val D.dt,.val t])]
  ·exists ev
   rw [cz (by decide)]
   exists ev
   rw [cz (by decide)]
   exists aS,XZ g hD e,show ∀b,j5 [.bl b]=.ok (.int (if b then 1 else 0)) from fun _=>rfl,if_true
   rw [cz (by decide),show (a7 (Int.toNat 1) [D.dt]).flatten=[D.dt] from rfl]
   exists ev
   rw [cY (by simp; omega),Oy]
   exists ev
   rw [LJ rfl (by omega)]
   exists aS,MY
  ·refine KI (KJ rfl (by rw [Qy,Pn rfl rfl]; exact uc) rfl (XY g hD e)) (KH ?_)
   exists ev
   rw [LK rfl,wZ]
   exists aS,MZ g1.1 Pp.1 Ap
 |no c=>
  rw [e] at uc
  simp only at uc
  have hq:=Zp e;refine⟨[.val (dU ns),.aQ (rows.map gf) [],.val (.aj k),.val (.lst (g6 rows)),.val (.int many),.val (.int (j:Nat)),.val D.dt,.val (.str (gy c))],?_,rows,k,_,_,_,rfl,by omega,g,g',hs⟩;rw [show vb k D (.no c)=.ok (.tup [.aj k,.str (gy c)]) from rfl]
  exists ev
  rw [Oh (ρ':=[.val (dU ns),.aQ (rows.map gf) [],.val (.aj k),.val (.lst (g6 rows)),.val (.int many),.val (.int (j:Nat)),.val D.dt,.val (.str (gy c))])]
  ·exists ev
   rw [cz (by decide)]
   exists ev
   rw [cz (by decide)]
   exists aS,hq.1,show ∀b,j5 [.bl b]=.ok (.int (if b then 1 else 0)) from fun _=>rfl,if_false,cT
   rw [cz (by decide),show (a7 (Int.toNat 0) [D.dt]).flatten=[] from rfl]
   exists ev
   rw [cY (by simp; omega)]
   exists ev
   rw [LJ rfl (by omega)]
   exists aS,MY
  ·refine KI (KJ rfl (by rw [Qy,Pn rfl rfl]; exact uc) rfl hq.2) (KH ?_)
   exists ev
   rw [LK rfl]
   exists aS,MZ g.1 g'.1 hs
theorem aaj (ns:List Int)(_:ns.length<=63):vh [.lst (ns.map Dt.int)]=.ok (.bl true):=by
 have p0:=mX (ns:=ns) (k:=0) (many:=12) (by decide) (by decide);have q0:=mY ns 0 (show (0:Int)<12 by decide);have q1:=mZ ns 0 (show (0:Int)<12 by decide);show vh [dU ns]=_;obtain⟨ρ',h1,rows,k,b5,b6,b7,rfl,h2,h3,h4,h5⟩:=Hl (g:=aL 5) (b:=BD) (eI 0 16) (Inv ns (1+bL ns 0 12)) [.val (dU ns),.aQ [] [],.val (.aj []),.val (.lst []),.val (.int (1+bL ns 0 12)),.no,.no,.no] ⟨[],[],_,_,_,rfl,bc 0,Ph,Ph,fun _=>rfl⟩ (fun j d ρ hd eX=>by
  obtain⟨rows,k,b5,b6,b7,rfl,h2,h3,h4,h5⟩:=eX;unfold eI at hd;simp only [jt,iZ] at hd;obtain⟨i,hi,rfl⟩:=hd;have hj:j<16:=by
   have:=(ej.mp hi).1;simpa using this
  rw [Cd (by omega)] at hi;cases hi;obtain⟨ρ',h6,h7⟩:=turn (ns:=ns) (many:=1+bL ns 0 12) (by omega) (by omega) hj h2 h3 h4 h5 b6 b7;refine⟨ρ',?_,h7⟩;rw [show (0:Int)+((j:Nat):Int)=(j:Nat) by omega,IH,iL,bz];simp only [List.set];rw [h6,iL])
 have e0:qd 1 (dZ (aL 2) (dZ (aL 3) (dZ (aL 4) kS))) (ag oF (ag (gR au) (ag (p2 cG (pC (.int 1)) (aN ik (ag (ae 0) (ag (pC (.int 0)) (ag (pC (.int 12)) au))))) au))) [.val (dU ns),.no,.no,.no,.no,.no,.no,.no]=.ok (.nx [.val (dU ns),.aQ [] [],.val (.aj []),.val (.lst []),.val (.int (1+bL ns 0 12)),.no,.no,.no]):=by
  unfold qd;have:(ag oF (ag (gR au) (ag (p2 cG (pC (.int 1)) (aN ik (ag (ae 0) (ag (pC (.int 0)) (ag (pC (.int 12)) au))))) au))) [.val (dU ns),.no,.no,.no,.no,.no,.no,.no]=.ok [.aj [],.lst [],.int (1+bL ns 0 12)]:=by
   exists dC,p0
   rw [cY (by decide)]
   exists aS,p0
  rw [this];rfl
 unfold vh JT
 exists aS,e0
 unfold RF
 exists ev
 rw [cz (by decide)]
 exists aS,h1
 unfold RE
 exists ev
 rw [Ee rfl,show Bl (rows.map gf) []=.ok (.tup [.int (rows.map gf).length,.int 0]) from rfl]
 exists ev
 rw [cz (by decide)]
 exists ev
 rw [IK,cz (by simp only [dep,e8]; decide),rA]
 exists ev
end vg
end aiM
namespace L2
open PySem PySem.Spec PyProof.Rows
noncomputable abbrev Key:=Sum Int Str
noncomputable def tY:Key->Value->Bool
 |.inl k,v=>Value.isInt k v
 |.inr x,v=>eS x v
noncomputable def aaB (w:World):Key->Int
 |.inl k=>hashInt k
 |.inr x=>hashStr w x
theorem kF:∀{k:Key}{v:Value},tY k v=true->(∃i t,k=Sum.inl i/\v=Value.int i t)∨(∃x t,k=Sum.inr x/\v=pG x t)
 |.inl i,v,h=>by
  obtain⟨t,e⟩:=Value.isInt_shape (k:=i) (v:=v) h;exact .inl ⟨i,t,rfl,e⟩
 |.inr x,v,h=>by
  obtain⟨t,e⟩:=Value.isStrOf_shape (x:=x) (v:=v) h;exact .inr ⟨x,t,rfl,e⟩
theorem aaA (i:Int)(t:Tok):tY (.inl i) (.int i t)=true:=by simp [tY,Value.isInt]
theorem aaz (x:Str)(t:Tok):tY (.inr x) (.str x t)=true:=by simp [tY,eS]
theorem aay (a b:Int):decide ((Sum.inl a:Key)=Sum.inl b)=(a==b):=by
 by_cases e:a=b
 ·subst e; simp
 ·have h:¬ (Sum.inl a:Key)=Sum.inl b:=fun q=>e (Sum.inl.inj q)
  rw [decide_eq_false h];exact(beq_eq_false_iff_ne.mpr e).symm
theorem aav (a b:Str):decide ((Sum.inr a:Key)=Sum.inr b)=decide (a=b):=by
 by_cases e:a=b
 ·subst e; simp
 ·have h:¬ (Sum.inr a:Key)=Sum.inr b:=fun q=>e (Sum.inr.inj q)
  rw [decide_eq_false h,decide_eq_false e]
theorem aax (a:Int)(b:Str):decide ((Sum.inl a:Key)=Sum.inr b)=false:=decide_eq_false (fun q=>nomatch q)
theorem aaw (a:Str)(b:Int):decide ((Sum.inr a:Key)=Sum.inl b)=false:=decide_eq_false (fun q=>nomatch q)
noncomputable def cZ (prog:Program)(w:World):PySem.KeyKind prog w Key where
 is:=tY
 hash:=aaB w
 inj:=fun v a b ha hb=>by
  rcases kF ha with ⟨i,t,rfl,rfl⟩ | ⟨x,t,rfl,rfl⟩
  ·rcases kF hb with ⟨j,u,rfl,e⟩ | ⟨y,u,rfl,e⟩
   ·injection e with e1 _; rw [e1]
   ·exact nomatch e
  ·rcases kF hb with ⟨j,u,rfl,e⟩ | ⟨y,u,rfl,e⟩
   ·exact nomatch e
   ·injection e with e1 _; rw [e1]
 byValue:=fun k v h=>by
  rcases kF h with ⟨i,t,rfl,rfl⟩ | ⟨x,t,rfl,rfl⟩ <;> rfl
 pyHash:=fun hv h=>by
  rcases kF hv with ⟨i,t,rfl,rfl⟩ | ⟨x,t,rfl,rfl⟩
  ·exact wpAny_pyHash_int h
  ·exact wpAny_pyHash_str h
 eqBool:=fun hu hv h=>by
  rcases kF hu with ⟨i,t,rfl,rfl⟩ | ⟨x,t,rfl,rfl⟩
  ·rcases kF hv with ⟨j,u,rfl,rfl⟩ | ⟨y,u,rfl,rfl⟩
   ·rw [aay] at h; exact wpAny_eqBool_int h
   ·rw [aax] at h; exact SeqAt.EqAt.int_str i t y u _ _ _ _ h
  ·rcases kF hv with ⟨j,u,rfl,rfl⟩ | ⟨y,u,rfl,rfl⟩
   ·rw [aaw] at h; exact SeqAt.EqAt.str_int x t j u _ _ _ _ h
   ·rw [aav] at h; exact wpAny_eqBool_str h
 «strs» := fun k x t v h=>by
  rcases kF h with ⟨i,u,rfl,e⟩ | ⟨y,u,rfl,e⟩
  ·exact nomatch e
  ·injection e with e1 _
   subst e1
   cases v <;> rfl
theorem ZK (prog:Program)(w:World)(i:Int)(t:Tok):(cZ prog w).is (.inl i) (.int i t)=true:=aaA i t
theorem Nf (prog:Program)(w:World)(x:Str)(t:Tok):(cZ prog w).is (.inr x) (.str x t)=true:=aaz x t
inductive V where
 |aI | bl (b:Bool) | int (i:Int) | str (x:Str) | mf (b:Array UInt8) | AW (b:UInt64) | ref (a:Addr) | ty (n:String)
 deriving DecidableEq
noncomputable def RelV:V->Value->Prop
 |.aI,u=>u=gu
 |.bl b,u=>u=Value.bool b
 |.int i,u=>∃t,u=Value.int i t
 |.str x,u=>∃t,u=pG x t
 |.mf b,u=>∃t,u=Value.bytes b t
 |.AW b,u=>∃t,u=Value.float b t
 |.ref a,u=>u=bI a
 |.ty n,u=>u=n5 n
noncomputable abbrev Vals:List V->List Value->Prop:=Paired RelV
theorem Vals.length {xs:List V}{us:List Value}(r:Vals xs us):xs.length=us.length:=yn r
theorem Vals.get:∀{xs:List V}{us:List Value}{i:Nat}{x:V},Vals xs us->xs[i]?=some x->∃u,us[i]?=some u/\RelV x u
 |_,_,_,_,.nil,e=>by simp at e
 |_,_,0,_,.cons r _,e=>by simp at e; subst e; exact⟨_,rfl,r⟩
 |_,_,i+1,x,.cons _ t,e=>by
  obtain⟨u,h1,h2⟩:=Vals.get (i:=i) (x:=x) t (by simpa using e);exact⟨u,by simpa using h1,h2⟩
theorem Vals.append:∀{xs ys:List V}{us ws:List Value},Vals xs us->Vals ys ws->Vals (xs++ys) (us++ws)
 |_,_,_,_,.nil,s=>s
 |_,_,_,_,.cons r t,s=>.cons r (Vals.append t s)
theorem Vals.drop:∀{xs:List V}{us:List Value} (n:Nat),Vals xs us->Vals (xs.drop n) (us.drop n)
 |_,_,0,r=>r
 |_,_,_+1,.nil=>.nil
 |_,_,n+1,.cons _ t=>Vals.drop n t
noncomputable def fE:Option V->Option Value->Prop
 |some v,some u=>RelV v u
 |none,none=>True
 |_,_=>False
noncomputable def KV {κ:Type}:List (κ×V)->List (κ×Value)->Prop:=Paired fun(p:κ×V) (q:κ×Value)=>p.1=q.1/\RelV p.2 q.2
noncomputable def kV:Key->V
 |.inl i=>.int i
 |.inr x=>.str x
inductive HO where
 |lst (xs:List V)
 |tup (xs:List V)
 |dK (kvs:List (Key×V)) | dT (kvs:List (List Key×V))
 |set (S:Int->Bool) (n:Nat)
 |ins (C dx:Addr) (fs:List (Str×V))
 |own (x:Addr)
 |xd (fs:List (Str×V))
 |met (f x:Addr)
 |zo (lo hi:Int)
 |bq (o:Obj) (u:HO)
 |du (q:Str)
 |ext (φ:Heap->Prop)
noncomputable abbrev Hp:=Addr->Option HO
noncomputable def upd (H:Hp)(a:Addr)(o:HO):Hp:=fun b=>if b=a then some o else H b
theorem aU {H:Hp}{a:Addr}{o:HO}:upd H a o a=some o:=by unfold upd; rw [if_pos rfl]
theorem aF {H:Hp}{a b:Addr}{o:HO}(h:b≠a):upd H a o b=H b:=by unfold upd; rw [if_neg h]
theorem TM {H:Hp}{a:Addr}{o u:HO}:upd (upd H a o) a u=upd H a u:=by
 funext b; unfold upd; split <;> rfl
theorem wD {H:Hp}{a b:Addr}{o u:HO}(h:H a=some o)(h':H b=some u)(d:o≠u):a≠b:=by
 intro e; subst e; rw [h] at h'; exact d (gZ h')
theorem cH {H:Hp}{a b:Addr}{o:HO}(h:H a=some o)(h':H b=none):a≠b:=by
 intro e; subst e; rw [h] at h'; cases h'
section
variable (P:Program)(w:World)
noncomputable def c8 (H:Hp)(h:Heap)(a:Addr):HO->Prop
 |.lst xs=>xs.length<=sizeLine/\∃(ak:List Value) (n:Nat),Vals xs ak/\h.get? a=some {cls:=.type "list",data:=.seq ak.toArray n}
 |.tup xs=>xs.length<=sizeLine/\∃ak:List Value,Vals xs ak/\IsTup h a ak.toArray
 |.dK kvs=>kvs.length<=sizeLine/\(a==sysModules)=false/\∃vs,KV kvs vs/\h.DictOf (cZ P w) a vs
 |.dT kvs=>kvs.length<=sizeLine/\(a==sysModules)=false/\∃xs:List (List Key×Addr×Value),
   Paired (fun(p:List Key×V) (q:List Key×Addr×Value)=>p.1=q.1/\H q.2.1=some (.tup (p.1.map kV))/\RelV p.2 q.2.2) kvs xs/\
   ∃o es ep,h.get? a=some o/\o.ExactDict/\o.data=.dict es ep/\es.toList=xs.map (entryOfKey (tupleKind (cZ P w)))/\(xs.map (·.1)).Nodup
 |.set S n=>h.SetOf (intKind P w) a S n
 |.ins C dx fs=>H dx=some (.own a)/\fs.length<=1000/\dx≠a/\h.get? a=some (nS C dx)/\
   ∃mA,h.Ns1 dx mA/\(∀f,fE (fs.lookup f) (mA f))/\PySem.Within mA (fs.map (·.1))
 |.own _=>∃o,h.get? a=some o
 |.xd fs=>∃mA,h.Ns1 a mA/\∀f,fE (fs.lookup f) (mA f)
 |.zo lo hi=>∃t u v,h.get? a=some {cls:=.type "range",data:=.fields #[.int lo t,.int hi u,.int 1 v]}
 |.bq o u=>h.get? a=some o/\c8 H h a u
 |.du q=>∃ps:Array Value,h.get? a=some {cls:=.none,data:=.fields ps}/\TriplesOk ps.toList/\∀pos cv,codeAmong pos ps.toList=some cv->∃c oc u,cv=.ref c/\H c=some (.bq oc u)/\∃vs t,oc.data=.fields vs/\vs[1]?=some (.str q t)
 |.met f x=>h.get? a=some (B6 (.ref f) (.ref x))
 |.ext φ=>φ h/\(∃o,h.get? a=some o)/\∀h1 h2:Heap,φ h1->(∀o,h1.get? a=some o->h2.get? a=some o)->φ h2
noncomputable def cq (H:Hp)(h:Heap):Prop:=∀a o,H a=some o->c8 P w H h a o
end
section
variable {P:Program}{w:World}{H H':Hp}{h h':Heap}{a:Addr}{o:HO}
theorem c8.lt (x:c8 P w H h a o):a<h.objs.size:=by
 cases o with
 |lst xs=>obtain⟨_,_,_,_,e⟩:=x; exact aV e
 |tup xs=>obtain⟨_,_,_,p⟩:=x; exact p.lt
 |dK kvs=>obtain⟨_,_,_,_,o,_,_,e,_⟩:=x; exact aV e
 |dT kvs=>obtain⟨_,_,_,_,o,_,_,e,_⟩:=x; exact aV e
 |set S n=>obtain⟨o,_,_,_,e,_⟩:=x; exact aV e
 |ins C dx fs=>obtain⟨_,_,_,e,_⟩:=x; exact aV e
 |own y=>obtain⟨_,e⟩:=x; exact aV e
 |xd fs=>obtain⟨_,⟨_,_,_,e,_⟩,_⟩:=x; exact aV e
 |zo lo hi=>obtain⟨_,_,_,e⟩:=x; exact aV e
 |bq ob u=>obtain⟨e,_⟩:=x; exact aV e
 |du q=>obtain⟨ps,e,_⟩:=x; exact aV e
 |met f y=>exact aV (show h.get? a=some _ from x)
 |ext φ=>obtain⟨_,⟨_,e⟩,_⟩:=x; exact aV e
theorem Paired.z7 {α β:Type}{F G:α->β->Prop}:∀{wJ:List α}{l₂:List β},Paired F wJ l₂->(∀a b,F a b->G a b)->Paired G wJ l₂
 |_,_,.nil,_=>.nil
 |_,_,.cons r t,f=>.cons (f _ _ r) (Paired.z7 t f)
theorem c8.iu (x:c8 P w H h a o)(k:∀b u,(b=a∨H b=some (.own a))->h.get? b=some u->h'.get? b=some u)
  (ho:∀b,H b=some (.own a)->H' b=some (.own a)) (ht:∀b xs,H b=some (.tup xs)->H' b=some (.tup xs)) (hf:∀b ob u,H b=some (.bq ob u)->H' b=some (.bq ob u):=by exact fun _ _ _ q=>q):c8 P w H' h' a o:=by
 induction o with
 |lst xs=>obtain⟨z,ak,n,r,e⟩:=x; exact⟨z,ak,n,r,k _ _ (.inl rfl) e⟩
 |tup xs=>obtain⟨z,ak,r,ob,e,c⟩:=x; exact⟨z,ak,r,ob,k _ _ (.inl rfl) e,c⟩
 |dK kvs=>obtain⟨z,y,vs,r,ob,es,ep,e,c⟩:=x; exact⟨z,y,vs,r,ob,es,ep,k _ _ (.inl rfl) e,c⟩
 |dT kvs=>
  obtain⟨z,y,xs,r,ob,es,ep,e,c⟩:=x;exact⟨z,y,xs,Paired.z7 r fun p q z=>⟨z.1,ht _ _ z.2.1,z.2.2⟩,ob,es,ep,k _ _ (.inl rfl) e,c⟩
 |set S n=>obtain⟨ob,es,ep,t,e,c⟩:=x; exact⟨ob,es,ep,t,k _ _ (.inl rfl) e,c⟩
 |ins C dx fs=>
  obtain⟨d,z,ne,e,mA,⟨od,es,ep,e2,c⟩,r⟩:=x;exact⟨ho _ d,z,ne,k _ _ (.inl rfl) e,mA,⟨od,es,ep,k _ _ (.inr d) e2,c⟩,r⟩
 |own y=>obtain⟨ob,e⟩:=x; exact⟨ob,k _ _ (.inl rfl) e⟩
 |xd fs=>obtain⟨mA,⟨od,es,ep,e,c⟩,r⟩:=x; exact⟨mA,⟨od,es,ep,k _ _ (.inl rfl) e,c⟩,r⟩
 |zo lo hi=>obtain⟨t,u,v,e⟩:=x; exact⟨t,u,v,k _ _ (.inl rfl) e⟩
 |bq ob u ih=>obtain⟨e,q⟩:=x; exact⟨k _ _ (.inl rfl) e,ih q⟩
 |du q=>
  obtain⟨ps,e,t,g⟩:=x;exact⟨ps,k a _ (.inl rfl) e,t,fun pos cv z=>by
   obtain⟨c,oc,u,z1,z2,z3⟩:=g pos cv z;exact⟨c,oc,u,z1,hf _ _ _ z2,z3⟩⟩
 |met f y=>
  have e:h.get? a=some (B6 (.ref f) (.ref y)):=x;show h'.get? a=some (B6 (.ref f) (.ref y));exact k a _ (.inl rfl) e
 |ext φ=>obtain⟨p,⟨o,e⟩,st⟩:=x; exact⟨st _ _ p fun o q=>k _ _ (.inl rfl) q,⟨o,k _ _ (.inl rfl) e⟩,st⟩
theorem cq.lt (x:cq P w H h)(e:H a=some o):a<h.objs.size:=(x a o e).lt
theorem cq.fresh (x:cq P w H h)(e:h.objs.size<=a):H a=none:=by
 cases q:H a with
 |none=>rfl
 |some u=>exact absurd (cB (x.lt q) e) (fm _)
theorem cq.kept (x:cq P w H h)(k:∀b u,h.get? b=some u->h'.get? b=some u):cq P w H h':=fun a o e=>
 (x a o e).iu (fun b u _ q=>k b u q) (fun _ q=>q) fun _ _ q=>q
theorem cq.laid (x:cq P w H h)(k:∀b u,h.get? b=some u->h'.get? b=some u)(hp:h.objs.size<=a)(new:c8 P w (upd H a o) h' a o):cq P w (upd H a o) h':=fun b u e=>by
 have hn:=x.fresh hp
 by_cases hb:b=a
 ·subst hb; rw [aU] at e; cases e; exact new
 ·rw [aF hb] at e
  exact(x b u e).iu (fun c v _ q=>k c v q) (fun c q=>by rw [aF (cH q hn)]; exact q) (fun c xs q=>by rw [aF (cH q hn)]; exact q) fun c _ _ q=>by rw [aF (cH q hn)]; exact q
end
noncomputable def Rd (H:Hp)(a:Addr)(u:HO):Prop:=H a=some u∨∃o,H a=some (.bq o u)
theorem Rd.ok {P:Program}{w:World}{H:Hp}{h:Heap}{a:Addr}{u:HO}(r:Rd H a u)(x:cq P w H h):c8 P w H h a u:=by
 rcases r with r | ⟨o,r⟩
 ·exact x a u r
 ·obtain⟨_,q⟩:=x a _ r
  exact q
noncomputable def ya:Option HO->Prop
 |some (.lst _)=>True
 |some (.dK _)=>True
 |some (.dT _)=>True
 |some (.set _ _)=>True
 |some (.ins _ _ _)=>True
 |some (.ext _)=>True
 |_=>False
section
variable {P:Program}{w:World}{H:Hp}{h h':Heap}{x e:Addr}{o':HO}
theorem cq.write (ok:cq P w H h)(mu:ya (H x))(he:e=x∨H e=some (.own x))(k:∀b u,b≠e->h.get? b=some u->h'.get? b=some u)(ub:∃u,h'.get? e=some u)
  (new:c8 P w (upd H x o') h' x o'):cq P w (upd H x o') h':=fun b u q=>by
 have MG:∀c y,H c=some (.own y)->c≠x:=fun c y r z=>by subst z; rw [r] at mu; exact mu
 have Zj:∀c xs,H c=some (.tup xs)->c≠x:=fun c xs r z=>by subst z; rw [r] at mu; exact mu
 have Zs:∀c ob v,H c=some (.bq ob v)->c≠x:=fun c ob v r z=>by subst z; rw [r] at mu; exact mu
 by_cases hb:b=x
 ·subst hb; rw [aU] at q; cases q; exact new
 ·rw [aF hb] at q
  by_cases qU:b=e
  ·have q':H b=some (.own x):=by
    rcases he with z | z
    ·exact absurd (qU.trans z) hb
    ·rw [qU]; exact z
   rw [q] at q'; cases q';obtain⟨v,hv⟩:=ub;exact⟨v,by rw [qU]; exact hv⟩
  ·refine(ok b u q).iu (fun c v hc r=>k c v ?_ r) (fun c r=>by rw [aF (MG c b r)]; exact r) (fun c xs r=>by rw [aF (Zj c xs r)]; exact r) fun c ob v r=>by rw [aF (Zs c ob v r)]; exact r
   rcases hc with rfl | hc
   ·exact qU
   ·rintro rfl
    rcases he with z | z
    ·exact MG c b hc z
    ·rw [hc] at z; cases z; exact hb rfl
end
structure Un (fs ex:List Addr) (H H':Hp) (h h':Heap):Prop where
 keep:∀b o,h.get? b=some o->H b=none->b∉fs->b∉ex->h'.get? b=some o
 slot:∀b o,h.get? b=some o->H b=none->b∈fs->b∉ex->∃sl,h'.get? b=some {o with slots:=sl}
 free:∀b o,h.get? b=some o->H b=none->b∉ex->H' b=none
 there:∀b o,h.get? b=some o->b∉ex->∃o',h'.get? b=some o'
 eD:∀b xs,H b=some (.tup xs)->H' b=some (.tup xs)
 d6:∀b o u,H b=some (.bq o u)->H' b=some (.bq o u)
 dH:∀b q,H b=some (.du q)->H' b=some (.du q)
section
variable {fs rh ex ex':List Addr}{H H1 H2:Hp}{h h1 h2 h':Heap}{a x e:Addr}{o:HO}
theorem Un.any (u:Un fs ex H H1 h h1){b:Addr}{ob:Obj}(q:h.get? b=some ob)(n:H b=none)(hx:b∉ex):∃sl,h1.get? b=some {ob with slots:=sl}:=by
 by_cases hb:b∈fs
 ·exact u.slot b ob q n hb hx
 ·exact⟨ob.slots,u.keep b ob q n hb hx⟩
theorem Un.kept (k:∀b u,h.get? b=some u->h'.get? b=some u):Un fs ex H H h h':=
 ⟨fun b ob q _ _ _=>k b ob q,fun b ob q _ _ _=>⟨ob.slots,k b ob q⟩,fun _ _ _ n _=>n,fun b ob q _=>⟨ob,k b ob q⟩,fun _ _ q=>q,fun _ _ _ q=>q,fun _ _ q=>q⟩
theorem Un.refl:Un fs ex H H h h:=Un.kept fun _ _ q=>q
theorem Un.laid (k:∀b u,h.get? b=some u->h'.get? b=some u)(hp:h.objs.size<=a)(hn:H a=none):Un fs ex H (upd H a o) h h' where
 keep:=fun b u q _ _ _=>k b u q
 slot:=fun b u q _ _ _=>⟨u.slots,k b u q⟩
 free:=fun b u q n _=>by rw [aF (bJ (cB (aV q) hp))]; exact n
 there:=fun b u q _=>⟨u,k b u q⟩
 eD:=fun b xs q=>by rw [aF (cH q hn)]; exact q
 d6:=fun b u xs q=>by rw [aF (cH q hn)]; exact q
 dH:=fun b n q=>by rw [aF (cH q hn)]; exact q
theorem Un.write (mu:ya (H x))(he:e=x∨H e=some (.own x))(k:∀b u,b≠e->h.get? b=some u->h'.get? b=some u)(ub:∃u,h'.get? e=some u):Un fs ex H (upd H x o) h h':=by
 have hx:∀b,H b=none->b≠x:=fun b n z=>by subst z; rw [n] at mu; exact mu
 have hb:∀b,H b=none->b≠e:=fun b n z=>by
  subst z;rcases he with r | r
  ·exact hx b n r
  ·rw [n] at r; cases r
 have hm:∀b u,H b=some u->¬ ya (some u)->b≠x:=fun b u q nm z=>by subst z; rw [q] at mu; exact nm mu
 refine⟨fun b u q n _ _=>k b u (hb b n) q,fun b u q n _ _=>⟨u.slots,k b u (hb b n) q⟩,fun b u q n _=>by rw [aF (hx b n)]; exact n,fun b u q _=>?_,
  fun b xs q=>by rw [aF (hm b _ q fun z=>z)]; exact q,fun b u xs q=>by rw [aF (hm b _ q fun z=>z)]; exact q,fun b n q=>by rw [aF (hm b _ q fun z=>z)]; exact q⟩
 by_cases qU:b=e
 ·subst qU; exact ub
 ·exact⟨u,k b u qU q⟩
end
noncomputable def yZ (h:Heap)(H:Hp):List Addr:=(fV h.objs.size).filter fun a=>(H a).isSome
noncomputable def lS (h:Heap)(H:Hp):Heap:=PySem.W.hideAll h (yZ h H)
theorem abU (h:Heap)(H:Hp):(lS h H).objs.size=h.objs.size:=PySem.W.hideAll_size _ _
theorem abV {h:Heap}{H:Hp}{b:Addr}{o:Obj}(e:h.get? b=some o)(n:H b=none):(lS h H).get? b=some o:=
 PySem.W.hideAll_get _ e fun hm=>by
  have q:(H b).isSome=true:=(jr.mp hm).2;rw [n] at q; simp at q
theorem Y1 {h:Heap}{H:Hp}{b:Addr}{o:Obj}(e:(lS h H).get? b=some o):h.get? b=some o/\H b=none:=by
 have e':h.get? b=some o:=PySem.W.of_hideAll (yZ h H) e;refine⟨e',?_⟩
 cases q:H b with
 |none=>rfl
 |some x=>
  have hm:b∈yZ h H:=jr.mpr ⟨List.mem_range.mpr (aV e'),by simp [q]⟩;have z:(lS h H).get? b=none:=PySem.W.hideAll_none (yZ h H) hm;rw [z] at e; cases e
structure Mod (K:ah) (mg:Str->Option Value) (base:Heap):Prop where
 kE:K.In base
 glob:base.Ns mainGlobals mg
 blt:∃mb,base.Ns builtinsNs mb/\∀x:Str,x≠"__name__" ->mb x=bootBuiltins x
 nolimit:base.NoLimit
structure Cx where
 prog:Program
 w:World
 K:ah
 mg:Str->Option Value
 base:Heap
 A:Around
 N:List Str
 aH:Shared
 aY:Hp
 env:Env
 outer:List Env
 stack:List Env
 ex:List Addr
 fn:Str->Bool
 calm:Bool
 pn:List (Addr×Obj)
 xe:Value->Shared->Prop
noncomputable def aE (l:List Env):List Addr:=l.filterMap (·.frame)
noncomputable abbrev Cx.fs (X:Cx):List Addr:=aE X.outer
noncomputable def vc (sc:Scope)(x:Str):Prop:=sc.names.lookup x=some .local∨sc.names.lookup x=some .cell∨sc.names.lookup x=some .free
noncomputable def Loc (sc:Scope)(x:Str):Prop:=sc.names.lookup x=some .local∨sc.names.lookup x=some .cell
noncomputable def Look (env:Env)(h:Heap)(m:Str->Option Value)(x:Str)(u:Value):Prop:=
 (env.kindOf x=some .local/\m x=some u)∨((env.kindOf x=some .cell∨env.kindOf x=some .free)/\∃c,env.cells.lookup x=some c/\h.IsCell c (some u))
structure Cx.Ok (X:Cx):Prop where
 mod:Mod X.K X.mg X.base
 kind:X.env.scope.kind=.function
 glob:X.env.globals=mainGlobals
 blt:X.env.builtins=builtinsNs
 above:X.aH.heap.objs.size<=X.env.locals
 inj:∀x y c,X.env.cells.lookup x=some c->X.env.cells.lookup y=some c->x=y
 has:∀x,(X.env.kindOf x=some .cell∨X.env.kindOf x=some .free)->∃c,X.env.cells.lookup x=some c
 ph:∀x c,X.fn x=true->X.env.cells.lookup x=some c->X.aH.heap.objs.size<=c
 hd:X.calm=true->X.A.handled=none
 frames:X.A.frames=some X.stack
 pW:X.stack=X.outer∨(X.stack=X.env::X.outer/\X.env.frame=some X.env.locals)
 xx:∀b∈X.ex,b≠X.env.locals/\∀x c,X.env.cells.lookup x=some c->c≠b
 bs:∀b o,X.base.get? b=some o->X.aH.heap.get? b=some o/\X.aY b=none
 iQ:X.base.objs.size<=X.aH.heap.objs.size
 bM:∀b o,X.base.get? b=some o->b∉X.ex
 rn:∀b∈X.ex,b∉X.fs
 en:X.aH.heap.FunFrames X.base X.outer
 gq:∀b∈X.fs,X.aY b=none
structure Inv (X:Cx) (pins:List (Addr×Obj)) (σ:List (Option V)) (H:Hp) (s:Shared):Prop where
 ok:X.Ok
 os:s.os=X.aH.os
 bare:AllBare s.gens
 base:Un X.fs X.ex X.aY H X.aH.heap s.heap
 loc:∃m,s.heap.Ns X.env.locals m/\∀(i:Nat) (x:Str) (v:V),X.N[i]?=some x->σ[i]?=some (some v)->vc X.env.scope x->∃u,RelV v u/\Look X.env s.heap m x u
 cell:∀x c,X.env.cells.lookup x=some c->∃v,s.heap.IsCell c v
 free:H X.env.locals=none
 eO:∀x c,X.env.cells.lookup x=some c->H c=none
 pin:∀p∈X.pn++pins,s.heap.get? p.1=some p.2/\H p.1=none/\p.1≠X.env.locals/\p.1∉X.fs/\∀v,p.2.data≠.cell v
 ar:cq X.prog X.w H s.heap
 len:σ.length=X.N.length
 tk:0<s.toks
section
variable {X:Cx}{pins:List (Addr×Obj)}{σ:List (Option V)}{H H':Hp}{s:Shared}{h':Heap}
theorem Cx.Ok.Zn (ok:X.Ok){b:Addr}{o:Obj}(e:X.base.get? b=some o):b∉X.fs:=fun hb=>by
 have:=(ok.en.mem hb).1;rw [e] at this; cases this
theorem Inv.bs (I:Inv X pins σ H s):∀b o,X.base.get? b=some o->s.heap.get? b=some o/\H b=none:=fun b o e=>
 ⟨I.base.keep b o (I.ok.bs b o e).1 (I.ok.bs b o e).2 (I.ok.Zn e) (I.ok.bM b o e),I.base.free b o (I.ok.bs b o e).1 (I.ok.bs b o e).2 (I.ok.bM b o e)⟩
theorem Inv.bk (I:Inv X pins σ H s):∀b o,X.base.get? b=some o->s.heap.get? b=some o:=fun b o e=>(I.bs b o e).1
theorem Inv.mod (I:Inv X pins σ H s):Mod X.K X.mg X.base:=I.ok.mod
theorem Inv.eL (I:Inv X pins σ H s):X.K.In s.heap:=I.ok.mod.kE.keeps I.bk
theorem Inv.lt (I:Inv X pins σ H s):X.env.locals<s.heap.objs.size:=let ⟨_,hn,_⟩:=I.loc; hn.lt
theorem Inv.sz (I:Inv X pins σ H s):X.aH.heap.objs.size<=s.heap.objs.size:=c9 I.ok.above (rX I.lt)
theorem Inv.MJ (I:Inv X pins σ H s){a:Addr}(h:s.heap.objs.size<=a):a∉X.fs:=fun hb=>by
 obtain⟨_,o,ho,_⟩:=I.ok.en.mem hb;exact absurd (cB (aV ho) (c9 I.sz h)) (fm _)
theorem Inv.kZ (I:Inv X pins σ H s):∀x c,X.env.cells.lookup x=some c->c≠X.env.locals:=fun x c e z=>by
 obtain⟨v,o,ho,hd⟩:=I.cell x c e;obtain⟨m,⟨o',es,ep,hW,oZ,_⟩,_⟩:=I.loc;rw [z,hW] at ho; cases ho; rw [oZ] at hd; cases hd
theorem Inv.en (I:Inv X pins σ H s):s.heap.FunFrames X.base X.outer:=by
 have all:∀(l:List Env),(∀b∈aE l,b∈X.fs)->X.aH.heap.FunFrames X.base l->s.heap.FunFrames X.base l:=by
  intro l
  induction l with
  |nil=>intro _ _; trivial
  |cons env r ih=>
   intro hs hl;obtain⟨hk,⟨L,o,hf,hn,ho,hd⟩,hr⟩:=hl;have hL:L∈X.fs:=hs L (by unfold aE; rw [fX,hf]; exact bH);obtain⟨sl,e⟩:=I.base.slot L o ho (I.ok.gq L hL) hL fun z=>I.ok.rn L z hL;exact⟨hk,⟨L,_,hf,hn,e,hd⟩,ih (fun b hb=>hs b (by unfold aE; rw [fX,hf]; exact cy _ hb)) hr⟩
 exact all X.outer (fun _ hb=>hb) I.ok.en
theorem Inv.stack (I:Inv X pins σ H s):s.heap.FunFrames X.base X.stack:=by
 rcases I.ok.pW with e | ⟨e,hf⟩
 ·rw [e]; exact I.en
 ·rw [e]
  obtain⟨m,hn,_⟩:=I.loc;refine .cons (by rw [I.ok.kind]; decide) hf hn ?_ I.en;exact Heap.get?_none_of_le (c9 I.ok.iQ I.ok.above)
theorem Inv.jE (I:Inv X pins σ H s):∀b∈aE X.stack,b∈X.env.locals::X.fs:=fun b hb=>by
 rcases I.ok.pW with e | ⟨e,hf⟩
 ·rw [e] at hb; exact cy _ hb
 ·rw [e] at hb
  unfold aE at hb;rw [fX,hf] at hb;exact hb
theorem Inv.vW (I:Inv X pins σ H s):∀b∈aE X.stack,H b=none:=fun b hb=>by
 rcases ba.mp (I.jE b hb) with e | hb
 ·rw [e]; exact I.free
 ·obtain⟨_,o,ho,_⟩:=I.ok.en.mem hb
  exact I.base.free b o ho (I.ok.gq b hb) fun z=>I.ok.rn b z hb
theorem Inv.step {g':Array GenState}{t':Nat}{d':Drawn}{ch:List Addr}(I:Inv X pins σ H s)
  (lX:∀b∈ch,(b∈X.ex∨X.aH.heap.objs.size<=b)/\b≠X.env.locals/\(∀x c,X.env.cells.lookup x=some c->c≠b)/\∀p∈X.pn++pins,p.1≠b)
  (keep:∀b o,b≠X.env.locals->b∉X.fs->b∉ch->s.heap.get? b=some o->H b=none->h'.get? b=some o)
  (slot:∀b o,b≠X.env.locals->b∈X.fs->b∉ch->s.heap.get? b=some o->H b=none->∃sl,h'.get? b=some {o with slots:=sl}) (free:∀b o,b∉ch->s.heap.get? b=some o->H b=none->H' b=none)
  (there:∀b o,b∉ch->s.heap.get? b=some o->∃o',h'.get? b=some o')
  (eD:∀b xs,H b=some (.tup xs)->H' b=some (.tup xs)) (d6:∀b o u,H b=some (.bq o u)->H' b=some (.bq o u)) (dH:∀b q,H b=some (.du q)->H' b=some (.du q))
  (ns:∀m,s.heap.Ns X.env.locals m->h'.Ns X.env.locals m) (ar:cq X.prog X.w H' h') (hg:AllBare g') (ht:0<t':=by first | assumption | exact Inv.tk (by assumption)) :
  Inv X pins σ H' {s with heap:=h',gens:=g',drawn:=d',toks:=t'}:=by
 have M3:∀b o,X.aH.heap.get? b=some o->b≠X.env.locals:=fun b o e=>bJ (cB (aV e) I.ok.above);have qv:∀b o,X.aH.heap.get? b=some o->b∉X.ex->b∉ch:=fun b o e hx hb=>by
  rcases(lX b hb).1 with z | z
  ·exact hx z
  ·exact absurd (cB (aV e) z) (fm _)
 have cellK:∀x c,X.env.cells.lookup x=some c->∀v,s.heap.IsCell c v->h'.IsCell c v:=fun x c e v h_=>by
  obtain⟨o,ho,hd⟩:=h_;have wH:c∉ch:=fun z=>(lX c z).2.2.1 x c e rfl
  by_cases hc:c∈X.fs
  ·obtain⟨sl,q⟩:=slot c o (I.kZ x c e) hc wH ho (I.eO x c e)
   exact⟨_,q,hd⟩
  ·exact⟨o,keep c o (I.kZ x c e) hc wH ho (I.eO x c e),hd⟩
 refine⟨I.ok,I.os,hg,⟨fun b o e n hb hx=>?_,fun b o e n hb hx=>?_,fun b o e n hx=>?_,fun b o e hx=>?_,fun b xs e=>eD b xs (I.base.eD b xs e),fun b o xs e=>d6 b o xs (I.base.d6 b o xs e),fun b ps e=>?_⟩,?_,fun x c e=>?_,?_,fun x c e=>?_,fun p hp=>?_,ar,I.len,ht⟩
 ·exact keep b o (M3 b o e) hb (qv b o e hx) (I.base.keep b o e n hb hx) (I.base.free b o e n hx)
 ·obtain⟨sl,e1⟩:=I.base.slot b o e n hb hx
  obtain⟨dQ,e2⟩:=slot b _ (M3 b o e) hb (qv b o e hx) e1 (I.base.free b o e n hx);exact⟨dQ,e2⟩
 ·obtain⟨o',e1⟩:=I.base.there b o e hx
  exact free b o' (qv b o e hx) e1 (I.base.free b o e n hx)
 ·obtain⟨o',e1⟩:=I.base.there b o e hx
  exact there b o' (qv b o e hx) e1
 ·exact dH b ps (I.base.dH b ps e)
 ·obtain⟨m,hn,hl⟩:=I.loc
  refine⟨m,ns m hn,fun i x v e1 e2 e3=>?_⟩;obtain⟨u,r,l⟩:=hl i x v e1 e2 e3;refine⟨u,r,?_⟩;rcases l with l | ⟨k,c,e,z⟩
  ·exact .inl l
  ·exact .inr ⟨k,c,e,cellK x c e _ z⟩
 ·obtain⟨v,z⟩:=I.cell x c e
  exact⟨v,cellK x c e v z⟩
 ·obtain⟨m,⟨o,_,_,ho,_⟩,_⟩:=I.loc
  exact free _ o (fun z=>(lX _ z).2.1 rfl) ho I.free
 ·obtain⟨v,o,ho,hd⟩:=I.cell x c e
  exact free c o (fun z=>(lX c z).2.2.1 x c e rfl) ho (I.eO x c e)
 ·obtain⟨e,n,ne,nf,d⟩:=I.pin p hp
  have wH:p.1∉ch:=fun z=>(lX p.1 z).2.2.2 p hp rfl;exact⟨keep p.1 p.2 ne nf wH e n,free p.1 p.2 wH e n,ne,nf,d⟩
theorem Inv.un {t':Nat}(I:Inv X pins σ H s)(u:Un X.fs [] H H' s.heap h')(ar:cq X.prog X.w H' h')(ht:0<t':=by first | assumption | exact Inv.tk (by assumption)):Inv X pins σ H' {s with heap:=h',toks:=t'}:=by
 obtain⟨m,⟨o,es,ep,ho,r⟩,_⟩:=id I.loc;obtain⟨sl,hL⟩:=u.any ho I.free (by simp);exact I.step (g':=s.gens) (d':=s.drawn) (ch:=[]) (fun _ z=>nomatch z) (fun b o _ hb _ e n=>u.keep b o e n hb (by simp)) (fun b o _ hb _ e n=>u.slot b o e n hb (by simp)) (fun b o _ e n=>u.free b o e n (by simp)) (fun b o _ e=>u.there b o e (by simp)) u.eD u.d6 u.dH (fun m' hm=>by
  obtain⟨o',HB,A2,hW,r'⟩:=hm;rw [ho] at hW; cases hW;exact⟨_,HB,A2,hL,r'⟩) ar I.bare
theorem Inv.call {g':Array GenState}{t':Nat}{d':Drawn}{ch:List Addr}(I:Inv X pins σ H s)(u:Un (aE X.stack) ch H H' s.heap h')(ar:cq X.prog X.w H' h')(hg:AllBare g')
  (lX:∀b∈ch,(b∈X.ex∨X.aH.heap.objs.size<=b)/\b≠X.env.locals/\(∀x c,X.env.cells.lookup x=some c->c≠b)/\∀p∈X.pn++pins,p.1≠b) (ht:0<t':=by first | assumption | exact Inv.tk (by assumption)) :
  Inv X pins σ H' {s with heap:=h',gens:=g',drawn:=d',toks:=t'}:=by
 obtain⟨m,⟨o,es,ep,ho,r⟩,_⟩:=id I.loc;obtain⟨sl,hL⟩:=u.any ho I.free fun z=>(lX _ z).2.1 rfl;exact I.step (ch:=ch) lX (fun b o hL hb hc e n=>u.keep b o e n (fun z=>(ba.mp (I.jE b z)).elim hL hb) hc) (fun b o _ _ hc e n=>u.any e n hc) (fun b o hc e n=>u.free b o e n hc) (fun b o hc e=>u.there b o e hc) u.eD u.d6 u.dH (fun m' hm=>by
  obtain⟨o',HB,A2,hW,r'⟩:=hm;rw [ho] at hW; cases hW;exact⟨_,HB,A2,hL,r'⟩) ar hg
theorem Inv.turned {t':Nat}{it:Addr}(I:Inv X pins σ H s)(k:∀b o,b≠it->s.heap.get? b=some o->h'.get? b=some o)(hn:H it=none)(hL:it≠X.env.locals)
  (h1:it∈X.ex∨X.aH.heap.objs.size<=it) (h2:∀x c,X.env.cells.lookup x=some c->c≠it) (h3:∀p∈X.pn++pins,p.1≠it) (ht:0<t':=by first | assumption | exact Inv.tk (by assumption)):Inv X pins σ H {s with heap:=h',toks:=t'}:=by
 have oJ:∀b u,H b=some u->b≠it:=fun b u e z=>by rw [z,hn] at e; cases e
 refine I.step (g':=s.gens) (d':=s.drawn) (ch:=[it]) (fun b hb=>?_) (fun b o _ _ hc e _=>k b o (fun z=>hc (by simp [z])) e) (fun b o _ _ hc e _=>⟨o.slots,k b o (fun z=>hc (by simp [z])) e⟩) (fun _ _ _ _ n=>n)
  (fun b o hc e=>⟨o,k b o (fun z=>hc (by simp [z])) e⟩) (fun _ _ e=>e) (fun _ _ _ e=>e) (fun b q e=>e) (fun m hm=>?_) (fun b u e=>?_) I.bare
 ·have e:b=it:=by simpa using hb
  subst e;exact⟨h1,hL,h2,h3⟩
 ·obtain⟨o,es,ep,ho,r⟩:=hm
  exact⟨o,es,ep,k _ o (bY hL) ho,r⟩
 ·refine(I.ar b u e).iu (fun c v hc q=>k c v ?_ q) (fun _ q=>q) fun _ _ q=>q
  rcases hc with z | z
  ·rw [z]; exact oJ b u e
  ·exact oJ c _ z
theorem Inv.tok (I:Inv X pins σ H s)(t:Nat)(ht:0<t:=by first | assumption | omega):Inv X pins σ H {s with toks:=t}:=I.un (h':=s.heap) (t':=t) Un.refl I.ar
theorem Inv.kept {t':Nat}(I:Inv X pins σ H s)(k:∀b u,s.heap.get? b=some u->h'.get? b=some u)(ht:0<t':=by first | assumption | exact Inv.tk (by assumption)):Inv X pins σ H {s with heap:=h',toks:=t'}:=I.un (Un.kept k) (I.ar.kept k)
theorem Inv.laid {a:Addr}{o:HO}{t':Nat}(I:Inv X pins σ H s)(k:∀b u,s.heap.get? b=some u->h'.get? b=some u)(hp:s.heap.objs.size<=a)(new:c8 X.prog X.w (upd H a o) h' a o)(ht:0<t':=by first | assumption | exact Inv.tk (by assumption)) :
  Inv X pins σ (upd H a o) {s with heap:=h',toks:=t'}:=I.un (Un.laid k hp (I.ar.fresh hp)) (I.ar.laid k hp new)
theorem Inv.write {x e:Addr}{o:HO}{t':Nat}(I:Inv X pins σ H s)(mu:ya (H x))(he:e=x∨H e=some (.own x))(k:∀b u,b≠e->s.heap.get? b=some u->h'.get? b=some u)(ub:∃u,h'.get? e=some u)
  (new:c8 X.prog X.w (upd H x o) h' x o) (ht:0<t':=by first | assumption | exact Inv.tk (by assumption)):Inv X pins σ (upd H x o) {s with heap:=h',toks:=t'}:=I.un (Un.write mu he k ub) (I.ar.write mu he k ub new)
theorem Inv.L7 {gg:List (Addr×Obj)}(I:Inv X pins σ H s)(h:∀p∈gg,s.heap.get? p.1=some p.2/\H p.1=none/\p.1≠X.env.locals/\p.1∉X.fs/\∀v,p.2.data≠.cell v):Inv X gg σ H s:=
 ⟨I.ok,I.os,I.bare,I.base,I.loc,I.cell,I.free,I.eO,fun p hp=>(eC.mp hp).elim (fun z=>I.pin p (eT _ z)) (h p),I.ar,I.len,I.tk⟩
theorem EO {N:List Str}(hN:N.Nodup){i j:Nat}{x:Str}(a:N[i]?=some x)(b:N[j]?=some x):i=j:=by
 obtain⟨h1,e1⟩:=ej.mp a;obtain⟨h2,e2⟩:=ej.mp b;exact(List.getElem_inj hN).mp (e1.trans e2.symm)
theorem Lf {M:Model}{A:Around}{E:Value->Shared->Prop}{i:Nat}{x:Str}{v:V}{u:Value}{Q:Unit->Shared->Prop}(I:Inv X pins σ H s)(hN:X.N.Nodup)(hi:X.N[i]?=some x)(hx:Loc X.env.scope x)(r:RelV v u)
  (h:∀s',Inv X pins (σ.set i (some v)) H s'->(∃a,j9 a s.heap s'.heap/\(a=X.env.locals∨X.env.cells.lookup x=some a))->Q () s') (hf:X.fn x=true∨X.env.scope.names.lookup x=some .local:=by first | exact .inl rfl | exact .inr rfl | assumption):wpAny M A (storeName X.env x u) Q E s:=by
 obtain⟨m,hn,hl⟩:=id I.loc;have lW:(X.env.scope.kind == .class || (X.env.scope.kind == .module&&X.env.locals != X.env.globals))=false:=by rw [I.ok.kind]; rfl
 have AA:i<σ.length:=by rw [I.len]; exact(ej.mp hi).1
 have kZ:=I.kZ;have tracked:∀{a:Addr} {h':Heap},(∃o,s.heap.get? a=some o/\H a=none)->j9 a s.heap h'->cq X.prog X.w H h':=fun {a h'} ha hs b ob e=>by
  obtain⟨_,_,qO⟩:=ha;refine(I.ar b ob e).iu (fun c w' hc q=>(hs.2 c ?_).trans q) (fun _ q=>q) fun _ _ q=>q;rintro rfl;rcases hc with rfl | hc
  ·rw [qO] at e; cases e
  ·rw [qO] at hc; cases hc
 rcases hx with hk | hk
 ·refine wpAny_storeName_local hk hn (fun h' nq hs=>?_) lW
  obtain⟨oL,_,_,Aw,_⟩:=id hn;refine h {s with heap:=h',toks:=s.toks+1} ⟨I.ok,I.os,I.bare,⟨fun b o e n hb hx=>?_,fun b o e n hb hx=>?_,I.base.free,fun b o e hx=>?_,I.base.eD,I.base.d6,I.base.dH⟩,⟨_,nq,fun j y v' e1 e2 e3=>?_⟩,fun y c e=>?_,I.free,I.eO,fun p hp=>?_,tracked ⟨oL,Aw,I.free⟩ hs,by simpa using I.len,Nat.succ_pos _⟩ ⟨_,hs,.inl rfl⟩
  ·exact(hs.2 b (bJ (cB (aV e) I.ok.above))).trans (I.base.keep b o e n hb hx)
  ·obtain⟨sl,e1⟩:=I.base.slot b o e n hb hx
   exact⟨sl,(hs.2 b (bJ (cB (aV e) I.ok.above))).trans e1⟩
  ·obtain⟨o',e1⟩:=I.base.there b o e hx
   exact⟨o',(hs.2 b (bJ (cB (aV e) I.ok.above))).trans e1⟩
  ·by_cases hj:j=i
   ·subst hj
    rw [hi] at e1; cases e1;rw [pF AA] at e2;cases e2;exact⟨u,r,.inl ⟨hk,by simp⟩⟩
   ·rw [jy (bY hj)] at e2
    obtain⟨u',r',q⟩:=hl j y v' e1 e2 e3;refine⟨u',r',?_⟩;rcases q with ⟨k,e⟩ | ⟨k,c,e,z⟩
    ·refine .inl ⟨k,?_⟩
     have:y≠x:=fun e=>hj (EO hN e1 (e ▸ hi));simp [this,e]
    ·exact .inr ⟨k,c,e,z.sameBut hs (kZ y c e)⟩
  ·obtain⟨w',z⟩:=I.cell y c e
   exact⟨w',z.sameBut hs (kZ y c e)⟩
  ·obtain⟨e,n,ne,nf,d⟩:=I.pin p hp
   exact⟨(hs.2 p.1 ne).trans e,n,ne,nf,d⟩
 ·have Gy:X.fn x=true:=by
   rcases hf with z | z
   ·exact z
   ·rw [z] at hk; cases hk
  obtain⟨c,hc⟩:=I.ok.has x (.inl hk);obtain⟨w',z⟩:=I.cell x c hc;refine wpAny_storeName_cell I.ok.kind hk hc z (fun h' fA hs=>?_);obtain⟨oc,xc,aby⟩:=id z;refine h {s with heap:=h'} ⟨I.ok,I.os,I.bare,⟨fun b o e n hb hx=>?_,fun b o e n hb hx=>?_,I.base.free,fun b o e hx=>?_,I.base.eD,I.base.d6,I.base.dH⟩,⟨m,hn.sameBut hs (bY (kZ x c hc)),fun j y v' e1 e2 e3=>?_⟩,fun y c' e=>?_,I.free,I.eO,fun p hp=>?_,tracked ⟨oc,xc,I.eO x c hc⟩ hs,by simpa using I.len,I.tk⟩ ⟨c,hs,.inr hc⟩
  ·exact(hs.2 b (bJ (cB (aV e) (I.ok.ph x c Gy hc)))).trans (I.base.keep b o e n hb hx)
  ·obtain⟨sl,e1⟩:=I.base.slot b o e n hb hx
   exact⟨sl,(hs.2 b (bJ (cB (aV e) (I.ok.ph x c Gy hc)))).trans e1⟩
  ·obtain⟨o',e1⟩:=I.base.there b o e hx
   exact⟨o',(hs.2 b (bJ (cB (aV e) (I.ok.ph x c Gy hc)))).trans e1⟩
  ·by_cases hj:j=i
   ·subst hj
    rw [hi] at e1; cases e1;rw [pF AA] at e2;cases e2;exact⟨u,r,.inr ⟨.inl hk,c,hc,fA⟩⟩
   ·rw [jy (bY hj)] at e2
    obtain⟨u',r',q⟩:=hl j y v' e1 e2 e3;refine⟨u',r',?_⟩;rcases q with q | ⟨k,c',e,z'⟩
    ·exact .inl q
    ·refine .inr ⟨k,c',e,z'.sameBut hs ?_⟩
     rintro rfl;exact hj (EO hN e1 (I.ok.inj _ _ _ e hc ▸ hi))
  ·by_cases lY:c'=c
   ·subst lY; exact⟨_,fA⟩
   ·obtain⟨w2,z2⟩:=I.cell y c' e
    exact⟨w2,z2.sameBut hs lY⟩
  ·obtain⟨e,n,ne,nf,d⟩:=I.pin p hp
   refine⟨(hs.2 p.1 ?_).trans e,n,ne,nf,d⟩;intro q;rw [q,xc] at e;have q':oc=p.2:=gZ e;exact d w' (by rw [← q']; exact aby)
theorem vV {M:Model}{A:Around}{E:Value->Shared->Prop}{i:Nat}{x:Str}{v:V}{u:Value}{Q:Unit->Shared->Prop}(I:Inv X pins σ H s)(hN:X.N.Nodup)(hi:X.N[i]?=some x)(hx:Loc X.env.scope x)(r:RelV v u)
  (h:∀s',Inv X pins (σ.set i (some v)) H s'->Q () s') (hf:X.fn x=true∨X.env.scope.names.lookup x=some .local:=by first | exact .inl rfl | exact .inr rfl | assumption):wpAny M A (storeName X.env x u) Q E s:=
 Lf I hN hi hx r (fun s' I' _=>h s' I') hf
theorem Inv.ae5 {s':Shared}{ch:List Addr}(I:Inv X pins σ H s)(ho:s'.os=s.os)(u:Un (aE X.stack) ch H H' s.heap s'.heap)(ar:cq X.prog X.w H' s'.heap)(hg:AllBare s'.gens)
  (lX:∀b∈ch,(b∈X.ex∨X.aH.heap.objs.size<=b)/\b≠X.env.locals/\(∀x c,X.env.cells.lookup x=some c->c≠b)/\∀p∈X.pn++pins,p.1≠b) (ht:0<s'.toks:=by first | assumption | exact Inv.tk (by assumption)):Inv X pins σ H' s':=by
 obtain⟨h',g',d',t',o'⟩:=s';have e:o'=s.os:=ho;subst e;exact I.call (g':=g') (t':=t') (d':=d') u ar hg lX
end
noncomputable abbrev XK:=Value->Option Addr->Hp->Prop
noncomputable abbrev St:=List (Option V)
noncomputable abbrev VK:=V->Hp->Prop
noncomputable abbrev TE:=St->Hp->VK->Prop
noncomputable abbrev TT:=St->Hp->(Bool->Hp->Prop)->Prop
noncomputable abbrev TA:=St->Hp->(List V->Hp->Prop)->Prop
structure Ends where
 nx:St->Hp->Prop
 rt:VK
 bk:St->Hp->Prop:=fun _ _=>False
 ct:St->Hp->Prop:=fun _ _=>False
noncomputable abbrev TS:=Ends->St->Hp->Prop
noncomputable def Lz {α:Type}(P:α->Shared->Prop)(a:α)(s':Shared):Prop:=0<s'.toks->P a s'
inductive Sa (X:Cx) (pins:List (Addr×Obj)) (σ:St) (Q:VK) (u:Value) (s':Shared):Prop
 |mk (v:V) (H':Hp) (I:Inv X pins σ H' s') (r:RelV v u) (q:Q v H'):Sa X pins σ Q u s'
noncomputable abbrev EP (X:Cx)(pins:List (Addr×Obj))(σ:St)(Q:VK):Value->Shared->Prop:=Lz (Sa X pins σ Q)
inductive RA (X:Cx) (pins:List (Addr×Obj)) (σ:St) (Q:Bool->Hp->Prop) (b:Bool) (s':Shared):Prop
 |mk (H':Hp) (I:Inv X pins σ H' s') (q:Q b H'):RA X pins σ Q b s'
noncomputable abbrev TP (X:Cx)(pins:List (Addr×Obj))(σ:St)(Q:Bool->Hp->Prop):Bool->Shared->Prop:=Lz (RA X pins σ Q)
inductive Sk (X:Cx) (pins:List (Addr×Obj)) (σ:St) (Q:List V->Hp->Prop) (us:List Value) (s':Shared):Prop
 |mk (vs:List V) (H':Hp) (I:Inv X pins σ H' s') (r:Vals vs us) (q:Q vs H'):Sk X pins σ Q us s'
noncomputable abbrev AP (X:Cx)(pins:List (Addr×Obj))(σ:St)(Q:List V->Hp->Prop):List Value->Shared->Prop:=Lz (Sk X pins σ Q)
noncomputable def SPI (X:Cx)(pins:List (Addr×Obj))(D:Ends)(f:Flow)(s':Shared):Prop:=
 match f with
 |.next=>∃aJ H',Inv X pins aJ H' s'/\D.nx aJ H'
 |.brk=>∃aJ H',Inv X pins aJ H' s'/\D.bk aJ H'
 |.cont=>∃aJ H',Inv X pins aJ H' s'/\D.ct aJ H'
 |.ret u=>∃v aJ H',Inv X pins aJ H' s'/\RelV v u/\D.rt v H'
noncomputable abbrev SP (X:Cx)(pins:List (Addr×Obj))(D:Ends):Flow->Shared->Prop:=Lz (SPI X pins D)
noncomputable def PE (X:Cx)(e:Expr)(t:TE):Prop:=
 ∀(pins:List (Addr×Obj)) (s:Shared) (σ:St) (H:Hp) (Q:VK),Inv X pins σ H s->t σ H Q->wpAny (model X.prog X.w) X.A (eval e X.env) (EP X pins σ Q) X.xe s
noncomputable def PT (X:Cx)(e:Expr)(t:TT):Prop:=
 ∀(pins:List (Addr×Obj)) (s:Shared) (σ:St) (H:Hp) (Q:Bool->Hp->Prop),Inv X pins σ H s->t σ H Q->wpAny (model X.prog X.w) X.A (isTrue e X.env (eval e X.env)) (TP X pins σ Q) X.xe s
noncomputable def PW (X:Cx)(e:Expr)(t:TT):Prop:=
 ∀(whole:Sem Value) (pins:List (Addr×Obj)) (s:Shared) (σ:St) (H:Hp) (Q:Bool->Hp->Prop),Inv X pins σ H s->t σ H Q->wpAny (model X.prog X.w) X.A (isTrue e X.env whole) (TP X pins σ Q) X.xe s
theorem PW.pt {X:Cx}{e:Expr}{t:TT}(h:PW X e t):PT X e t:=h _
noncomputable def PA (X:Cx)(es:List Expr)(t:TA):Prop:=
 ∀(pos:Pos) (pins:List (Addr×Obj)) (s:Shared) (σ:St) (H:Hp) (Q:List V->Hp->Prop),Inv X pins σ H s->t σ H Q->wpAny (model X.prog X.w) X.A (spliced (backTo pos (starEach es X.env))) (AP X pins σ Q) X.xe s
noncomputable def PS (X:Cx)(st:Stmt)(t:TS):Prop:=
 ∀(pins:List (Addr×Obj)) (s:Shared) (σ:St) (H:Hp) (D:Ends),Inv X pins σ H s->t D σ H->wpAny (model X.prog X.w) X.A (exec st X.env) (SP X pins D) X.xe s
noncomputable def eP (X:Cx)(st:List Stmt)(t:TS):Prop:=
 ∀(pins:List (Addr×Obj)) (s:Shared) (σ:St) (H:Hp) (D:Ends),Inv X pins σ H s->t D σ H->wpAny (model X.prog X.w) X.A (execs st X.env) (SP X pins D) X.xe s
theorem pT {α:Type}{t:Sem α}{P Q':α->Shared->Prop}{prog:Program}{w:World}{A:Around}{E:Value->Shared->Prop}{s:Shared}(h:wpAny (model prog w) A t (Lz P) E s)(hQ:∀a s,0<s.toks->P a s->Q' a s)(ht:0<s.toks:=by first | assumption | exact Inv.tk (by assumption)):wpAny (model prog w) A t Q' E s:=
 wpAny_with_toks (n:=1) ht (wpAny_mono h (fun a s1 hp h1=>hQ a s1 h1 (hp h1)) fun _ _ x _=>x)
theorem Ul {α:Type}{t:Sem α}{P Q':α->Shared->Prop}{prog:Program}{w:World}{A:Around}{E:Value->Shared->Prop}{s:Shared}(h:wpAny (model prog w) A t (Lz P) (fun e s=>0<s.toks->E e s) s)(hQ:∀a s,P a s->Q' a s)(ht:0<s.toks:=by first | assumption | exact Inv.tk (by assumption)):wpAny (model prog w) A t Q' E s:=
 wpAny_with_toks (n:=1) ht (wpAny_mono h (fun a s1 hp h1=>hQ a s1 (hp h1)) fun _ _ x=>x)
theorem Um {α:Type}{t:Sem α}{P Q':α->Shared->Prop}{prog:Program}{w:World}{A:Around}{E:Value->Shared->Prop}{s:Shared}(h:wpAny (model prog w) A t (Lz P) (fun _ _=>False) s)(hQ:∀a s,P a s->Q' a s)(ht:0<s.toks:=by first | assumption | exact Inv.tk (by assumption)):wpAny (model prog w) A t Q' E s:=
 wpAny_with_toks (n:=1) ht (wpAny_mono h (fun a s1 hp h1=>hQ a s1 (hp h1)) fun _ _ x=>x.elim)
theorem aC {α:Type}{t:Sem α}{P Q':α->Shared->Prop}{prog:Program}{w:World}{A:Around}{E:Value->Shared->Prop}{s:Shared}(h:wpAny (model prog w) A t (Lz P) E s)(hQ:∀a s,P a s->Q' a s)(ht:0<s.toks:=by first | assumption | exact Inv.tk (by assumption)):wpAny (model prog w) A t Q' E s:=
 wpAny_with_toks (n:=1) ht (wpAny_mono h (fun a s1 hp h1=>hQ a s1 (hp h1)) fun _ _ x _=>x)
section
variable {X:Cx}
inductive eE (i:Nat) (σ:St) (H:Hp) (Q:VK):Prop
 |mk (v:V) (e:σ[i]?=some (some v)) (q:Q v H):eE i σ H Q
noncomputable def tC (v:V):TE:=fun _ H Q=>Q v H
theorem Ex {i:Nat}{x:Str}{pos:Pos}(hN:X.N[i]?=some x)(hv:vc X.env.scope x)(hd:(x==("__debug__" : Str))=false:=by decide)(eM:(x==("__classdict__" : Str))=false:=by decide):PE X (.Name x pos) (eE i):=by
 intro pins s σ H Q I h;obtain⟨v,e,h⟩:=h;obtain⟨m,hn,hl⟩:=I.loc;obtain⟨u,r,l⟩:=hl i x v hN e hv;have fin:EP X pins σ Q u s:=(fun ht=>⟨v,H,I,r,h⟩)
 rcases l with ⟨hk,hm⟩ | ⟨hk,c,hc,OS⟩
 ·exact wpAny_Name (wpAny_loadName_local I.ok.kind hk hn hm fin) hd
 ·rcases hk with hk | hk
  ·exact wpAny_Name (wpAny_loadName_cell I.ok.kind hk hc OS fin) hd
  ·exact wpAny_Name (wpAny_loadName_free I.ok.kind hk hc OS fin eM) hd
theorem wm {i j pos}:PE X (.Constant (.int i) j pos) (tC (.int i)):=fun _ _ _ H _ I h=>wpAny_Constant_int (fun ht=>⟨.int i,H,I.tok _,⟨_,rfl⟩,h⟩)
theorem EB {b j pos}:PE X (.Constant (.bool b) j pos) (tC (.bl b)):=fun _ _ _ H _ I h=>Constant_bool (fun ht=>⟨.bl b,H,I,rfl,h⟩)
theorem Ey {x j pos}:PE X (.Constant (.str x) j pos) (tC (.str x)):=fun _ _ _ H _ I h=>Calls.Constant_str (fun ht=>⟨.str x,H,I.tok _,⟨_,rfl⟩,h⟩)
noncomputable def Gl (X:Cx)(x:Str):Prop:=X.env.kindOf x=some .globalImplicit
theorem tV {E:Value->Shared->Prop}{pins:List (Addr×Obj)}{s:Shared}{σ:St}{H:Hp}{x:Str}{u:Value}{pos:Pos}{Q:Value->Shared->Prop}(I:Inv X pins σ H s)(hg:Gl X x)(hm:X.mg x=some u)(h:Q u s)
  (hd:(x==("__debug__" : Str))=false:=by decide):wpAny (model X.prog X.w) X.A (eval (.Name x pos) X.env) Q E s:=
 Cr I.ok.kind hg (Calls.loadGlobal_global (by rw [I.ok.glob]; exact I.mod.glob.keeps I.bk) hm h) hd
theorem lJ {E:Value->Shared->Prop}{pins:List (Addr×Obj)}{s:Shared}{σ:St}{H:Hp}{x:Str}{u:Value}{pos:Pos}{Q:Value->Shared->Prop}(I:Inv X pins σ H s)(hg:Gl X x)(hm:X.mg x=none)(hv:bootBuiltins x=some u)(h:Q u s)
  (hn:x≠"__name__" := by decide) (hd:(x==("__debug__" : Str))=false:=by decide):wpAny (model X.prog X.w) X.A (eval (.Name x pos) X.env) Q E s:=by
 obtain⟨mb,h1,h2⟩:=I.mod.blt;exact Cr I.ok.kind hg (Calls.loadGlobal_builtin (by rw [I.ok.glob]; exact I.mod.glob.keeps I.bk) hm (by rw [I.ok.blt]; exact h1.keeps I.bk) ((h2 x hn).trans hv) h) hd
theorem jL {x:Str}{v:V}{u:Value}{pos:Pos}(hg:Gl X x)(hm:X.mg x=some u)(r:RelV v u)(hd:(x==("__debug__" : Str))=false:=by decide):PE X (.Name x pos) (tC v):=
 fun _ _ _ H _ I h=>tV I hg hm (fun ht=>⟨v,H,I,r,h⟩) hd
theorem Mh {x:Str}{v:V}{u:Value}{pos:Pos}(hg:Gl X x)(hm:X.mg x=none)(hv:bootBuiltins x=some u)(r:RelV v u)(hn:x≠"__name__" := by decide)(hd:(x==("__debug__" : Str))=false:=by decide):PE X (.Name x pos) (tC v):=
 fun _ _ _ H _ I h=>lJ I hg hm hv (fun ht=>⟨v,H,I,r,h⟩) hn hd
variable {a b:Expr}{ta tb:TE}{pos:Pos}
noncomputable def PC (X:Cx)(op:CmpOp)(a b:Expr)(t:TE):Prop:=
 ∀(pins:List (Addr×Obj)) (s:Shared) (σ:St) (H:Hp) (Q:VK),Inv X pins σ H s->t σ H Q->
  wpAny (model X.prog X.w) X.A (eval a X.env) (Lz fun v aT=>wpAny (model X.prog X.w) X.A (eval b X.env) (Lz fun u gD=>wpAny (model X.prog X.w) X.A (compareOp op v u) (EP X pins σ Q) X.xe gD) X.xe aT) X.xe s
noncomputable def tB (t:TE):TT:=fun σ H Q=>t σ H fun x H1=>∃c,x=.bl c/\Q c H1
theorem LU {e:Expr}{t:TE}(h:PE X e t)(he:∀whole,isTrue e X.env whole=(do let v ← whole; standAt e.pos; holding [v] (truthy v)):=by intro _; rfl):PT X e (tB t):=by
 intro pins s σ H Q I hw;refine isTrue_plain (aC (h pins s σ H _ I hw) fun v s1 ⟨x,H1,I1,r1,q1⟩=>?_) (he _);obtain⟨d,rfl,q⟩:=q1;cases r1;exact wpAny_truthy_bool (fun ht=>⟨H1,I1,q⟩)
variable {tA La:TT}{rest:List Expr}
noncomputable def De (t u:TT):TT:=fun σ H Q=>t σ H fun c H1=>if c=true then Q true H1 else u σ H1 Q
noncomputable def UO (t:TT):TT:=fun σ H Q=>t σ H fun c H1=>Q (!c) H1
theorem pw_or1 (ha:PT X a tA):PW X (.BoolOp .Or [a] pos) tA:=by
 intro wh pins s σ H Q I h;refine isTrue_or (aC (ha pins s σ H Q I h) fun c s1 e=>?_)
 cases c with
 |false=>exact isTrue_or_nil (fun _=>e)
 |true=>exact fun _=>e
theorem pw_or (ha:PT X a tA)(hb:PW X (.BoolOp .Or (b::rest) pos) La):PW X (.BoolOp .Or (a::b::rest) pos) (De tA La):=by
 intro wh pins s σ H Q I h;refine isTrue_or (aC (ha pins s σ H _ I h) fun c s1 ⟨H1,I1,q1⟩=>?_)
 cases c with
 |true=>exact(fun ht=>⟨H1,I1,q1⟩)
 |false=>exact hb wh pins s1 σ H1 Q I1 q1
theorem LV (ha:PT X a tA):PT X (.UnaryOp .Not a pos) (UO tA):=by
 intro pins s σ H Q I h;exact isTrue_not (wpAny_mono (ha pins s σ H (fun c H1=>Q (!c) H1) I h) (fun c s' h ht=>by obtain⟨H',I',q⟩:=h ht; exact⟨H',I',q⟩) fun _ _ x=>x)
noncomputable def K1 (t:TT)(ta tb:TE):TE:=fun σ H Q=>t σ H fun c H1=>if c=true then ta σ H1 Q else tb σ H1 Q
theorem EA {c:Expr}(hc:PT X c tA)(ha:PE X a ta)(hb:PE X b tb):PE X (.IfExp c a b pos) (K1 tA ta tb):=by
 intro pins s σ H Q I h;refine wpAny_IfExp (aC (hc pins s σ H _ I h) fun d s1 ⟨H1,I1,q1⟩=>?_)
 cases d with
 |true=>exact ha pins s1 σ H1 Q I1 q1
 |false=>exact hb pins s1 σ H1 Q I1 q1
end
noncomputable def bP (K:ah)(H:Hp)(a:Addr)(xs:List V):Prop:=
 Rd H a (.lst xs)∨
  ∃(o:Obj) (ak:Array Value) (n:Nat),K.lookup a=some o/\o.cls=.type "list" /\o.dict=none/\o.data=.seq ak n/\ak.size<=sizeLine/\Vals xs ak.toList
noncomputable def cX (K:ah)(H:Hp)(a:Addr)(xs:List V):Prop:=
 Rd H a (.tup xs)∨
  ∃(o:Obj) (ak:Array Value) (n:Nat),K.lookup a=some o/\o.cls=.type "tuple" /\o.data=.seq ak n/\ak.size<=sizeLine/\Vals xs ak.toList
noncomputable def afH:Value->Option V
 |.none=>some .aI
 |.bool b=>some (.bl b)
 |.int i _=>some (.int i)
 |.str x _=>some (.str x)
 |.bytes b _=>some (.mf b)
 |.float b _=>some (.AW b)
 |.ref a=>some (.ref a)
 |.type n=>some (.ty n)
 |_=>none
theorem RelV.abs {x:V}{u:Value}(r:RelV x u):afH u=some x:=by
 cases x with
 |aI=>cases r; rfl
 |bl _=>cases r; rfl
 |int _=>obtain⟨t,rfl⟩:=r; rfl
 |str _=>obtain⟨t,rfl⟩:=r; rfl
 |mf _=>obtain⟨t,rfl⟩:=r; rfl
 |AW _=>obtain⟨t,rfl⟩:=r; rfl
 |ref _=>cases r; rfl
 |ty _=>cases r; rfl
theorem RelV.inj {x y:V}{u:Value}(r:RelV x u)(q:RelV y u):x=y:=gZ (r.abs.symm.trans q.abs)
theorem Vals.inj:∀{xs ys:List V}{us:List Value},Vals xs us->Vals ys us->xs=ys
 |_,_,_,.nil,.nil=>rfl
 |_,_,_,.cons r t,.cons r' t'=>by rw [r.inj r',Vals.inj t t']
section
variable {X:Cx}{pins:List (Addr×Obj)}{σ:St}{H:Hp}{s:Shared}{a:Addr}{xs ys:List V}
theorem bP.of {K:ah}(h:H a=some (.lst xs)):bP K H a xs:=.inl (.inl h)
theorem cX.of {K:ah}(h:H a=some (.tup xs)):cX K H a xs:=.inl (.inl h)
theorem Inv.list (I:Inv X pins σ H s)(h:bP X.K H a xs):∃ak:List Value,Vals xs ak/\PlainL s.heap a ak.toArray/\xs.length<=sizeLine:=by
 rcases h with h | ⟨o,ak,n,hk,hc,hd,hs,hz,r⟩
 ·obtain⟨z,ak,n,r,e⟩:=h.ok I.ar
  exact⟨ak,r,⟨_,n,e,rfl,rfl,rfl⟩,z⟩
 ·refine⟨ak.toList,r,⟨o,n,I.eL a o hk,hc,hd,by simpa using hs⟩,?_⟩
  have e:=r.length;simp only [Array.length_toList] at e;omega
theorem Inv.tuple (I:Inv X pins σ H s)(h:cX X.K H a xs):∃ak:List Value,Vals xs ak/\IsTup s.heap a ak.toArray/\xs.length<=sizeLine:=by
 rcases h with h | ⟨o,ak,n,hk,hc,hs,hz,r⟩
 ·obtain⟨z,ak,r,p⟩:=h.ok I.ar
  exact⟨ak,r,p,z⟩
 ·refine⟨ak.toList,r,⟨o,I.eL a o hk,hc,n,by simpa using hs⟩,?_⟩
  have e:=r.length;simp only [Array.length_toList] at e;omega
theorem Inv.Ff (I:Inv X pins σ H s)(h:bP X.K H a xs)(h':bP X.K H a ys):xs=ys:=by
 obtain⟨ak,r,⟨o,n,e,_,_,d⟩,_⟩:=I.list h;obtain⟨its',r',⟨o',n',e',_,_,d'⟩,_⟩:=I.list h';rw [e] at e'; cases e';rw [d] at d';injection d' with d1 _;have:ak=its':=by simpa using congrArg iY d1
 subst this;exact r.inj r'
theorem Inv.C3 (I:Inv X pins σ H s)(h:cX X.K H a xs)(h':cX X.K H a ys):xs=ys:=by
 obtain⟨ak,r,⟨o,e,_,n,d⟩,_⟩:=I.tuple h;obtain⟨its',r',⟨o',e',_,n',d'⟩,_⟩:=I.tuple h';rw [e] at e'; cases e';rw [d] at d';injection d' with d1 _;have:ak=its':=by simpa using congrArg iY d1
 subst this;exact r.inj r'
end
noncomputable abbrev Cx.jz (X:Cx)(E:Value->Shared->Prop):Cx:={X with xe:=E}
noncomputable abbrev Cx.oI (X:Cx):Cx:=X.jz fun _ _=>False
theorem Cx.Ok.jz {X:Cx}(ok:X.Ok)(E:Value->Shared->Prop):(X.jz E).Ok:=
 ⟨ok.mod,ok.kind,ok.glob,ok.blt,ok.above,ok.inj,ok.has,ok.ph,ok.hd,ok.frames,ok.pW,ok.xx,ok.bs,ok.iQ,ok.bM,ok.rn,ok.en,ok.gq⟩
theorem Cx.Ok.ki {X:Cx}{E:Value->Shared->Prop}(ok:(X.jz E).Ok):X.Ok:=
 ⟨ok.mod,ok.kind,ok.glob,ok.blt,ok.above,ok.inj,ok.has,ok.ph,ok.hd,ok.frames,ok.pW,ok.xx,ok.bs,ok.iQ,ok.bM,ok.rn,ok.en,ok.gq⟩
section
variable {X:Cx}{pins:List (Addr×Obj)}{σ:St}{H:Hp}{s:Shared}{E:Value->Shared->Prop}
theorem Inv.jz (I:Inv X pins σ H s)(E:Value->Shared->Prop):Inv (X.jz E) pins σ H s:=⟨I.ok.jz E,I.os,I.bare,I.base,I.loc,I.cell,I.free,I.eO,I.pin,I.ar,I.len,I.tk⟩
theorem Inv.ki (I:Inv (X.jz E) pins σ H s):Inv X pins σ H s:=⟨I.ok.ki,I.os,I.bare,I.base,I.loc,I.cell,I.free,I.eO,I.pin,I.ar,I.len,I.tk⟩
theorem SP.ki {D:Ends}{f:Flow}{s':Shared}(h:SP (X.jz E) pins D f s'):SP X pins D f s':=fun ht=>by
 have h:=h ht
 cases f with
 |next=>obtain⟨aJ,H',I,q⟩:=h; exact⟨aJ,H',I.ki,q⟩
 |brk=>obtain⟨aJ,H',I,q⟩:=h; exact⟨aJ,H',I.ki,q⟩
 |cont=>obtain⟨aJ,H',I,q⟩:=h; exact⟨aJ,H',I.ki,q⟩
 |ret u=>obtain⟨v,aJ,H',I,r,q⟩:=h; exact⟨v,aJ,H',I.ki,r,q⟩
end
section
variable {X:Cx}{st:Stmt}{rest:List Stmt}{t u:TS}{e:Expr}{te:TE}{pos:Pos}
noncomputable def UQ:TS:=fun D σ H=>D.nx σ H
noncomputable def tm (t u:TS):TS:=fun D σ H=>t {D with nx:=u D} σ H
theorem Er:eP X [] UQ:=fun _ _ σ H _ I h=>wpAny_execs_nil (fun ht=>⟨σ,H,I,h⟩)
theorem fL (h1:PS X st t)(h2:eP X rest u):eP X (st::rest) (tm t u):=by
 intro pins s σ H D I h;refine wpAny_execs_cons (aC (h1 pins s σ H {D with nx:=u D} I h) fun f s1 q=>?_)
 cases f with
 |next=>
  obtain⟨aJ,H',I',q⟩:=q;exact h2 pins s1 aJ H' D I' q
 |ret v=>exact fun _=>q
 |brk=>exact fun _=>q
 |cont=>exact fun _=>q
theorem gP (h1:PS X st t):eP X [st] t:=by
 intro pins s σ H D I h;refine wpAny_execs_cons (aC (h1 pins s σ H D I h) fun f s1 q=>?_)
 cases f with
 |next=>exact wpAny_execs_nil fun _=>q
 |ret v=>exact fun _=>q
 |brk=>exact fun _=>q
 |cont=>exact fun _=>q
theorem Inv.quiet {pins:List (Addr×Obj)}{σ:St}{H:Hp}{s:Shared}(I:Inv X pins σ H s):interactive X.env=false:=by simp [interactive,I.ok.kind]
noncomputable def za (te:TE):TS:=fun D σ H=>te σ H fun _ H1=>D.nx σ H1
theorem oz (he:PE X e te)(hs:swapsWith e none pos.line X.env=pure false:=by rfl):PS X (.Expr e pos) (za te):=by
 intro pins s σ H D I h;exact wpAny_Expr_any (aC (he pins s σ H _ I h) fun v s1 ⟨x,H1,I1,r1,q1⟩=>(fun ht=>⟨σ,H1,I1,q1⟩)) I.quiet hs
noncomputable def n9 (te:TE):TS:=fun D σ H=>te σ H D.rt
theorem i9 (he:PE X e te):PS X (.Return (some e) pos) (n9 te):=by
 intro pins s σ H D I h;exact wpAny_Return_some (aC (he pins s σ H _ I h) fun v s1 ⟨x,H1,I1,r1,q1⟩=>(fun ht=>⟨x,σ,H1,I1,r1,q1⟩))
noncomputable def UU (c:TT)(t u:TS):TS:=fun D σ H=>c σ H fun b H1=>if b=true then t D σ H1 else u D σ H1
theorem zx {c:Expr}{a b:List Stmt}{tc:TT}(hc:PT X c tc)(ha:eP X a t)(hb:eP X b u):PS X (.If c a b pos) (UU tc t u):=by
 intro pins s σ H D I h;refine wpAny_If (aC (hc pins s σ H _ I h) fun d s1 ⟨H1,I1,q1⟩=>?_)
 cases d with
 |true=>exact ha pins s1 σ H1 D I1 q1
 |false=>exact hb pins s1 σ H1 D I1 q1
end
noncomputable abbrev TG:=V->St->Hp->(St->Hp->Prop)->Prop
noncomputable abbrev mj:=List V->St->Hp->(St->Hp->Prop)->Prop
noncomputable def PG (X:Cx)(target:Expr)(t:TG):Prop:=
 ∀(pins:List (Addr×Obj)) (s:Shared) (σ:St) (H:Hp) (v:V) (u:Value) (Q:St->Hp->Prop),Inv X pins σ H s->RelV v u->t v σ H Q->
  wpAny (model X.prog X.w) X.A (assign target X.env u) (Lz fun _ s'=>∃aJ H',Inv X pins aJ H' s'/\Q aJ H') X.xe s
noncomputable def jm (X:Cx)(ts:List Expr)(t:mj):Prop:=
 ∀(pins:List (Addr×Obj)) (s:Shared) (σ:St) (H:Hp) (vs:List V) (us:List Value) (Q:St->Hp->Prop),Inv X pins σ H s->Vals vs us->t vs σ H Q->
  wpAny (model X.prog X.w) X.A (assignInOrder ((assignEach ts X.env).map (·.2)) us) (Lz fun _ s'=>∃aJ H',Inv X pins aJ H' s'/\Q aJ H') X.xe s
section
variable {X:Cx}{pos:Pos}
noncomputable def uh (i:Nat):TG:=fun v σ H Q=>Q (σ.set i (some v)) H
theorem cR {i:Nat}{x:Str}(hN:X.N.Nodup)(hi:X.N[i]?=some x)(hx:Loc X.env.scope x)(hf:X.fn x=true∨X.env.scope.names.lookup x=some .local:=by first | exact .inl rfl | exact .inr rfl | assumption):PG X (.Name x pos) (uh i):=by
 intro pins s σ H v u Q I r h;exact wpAny_assign_Name (vV I hN hi hx r (fun s' I'=>(fun ht=>⟨_,H,I',h⟩)) hf)
noncomputable def ac3:mj:=fun vs σ H Q=>vs=[]/\Q σ H
noncomputable def ac4 (t:TG)(u:mj):mj:=fun vs σ H Q=>∃v r,vs=v::r/\t v σ H fun aJ H'=>u r aJ H' Q
theorem Xv:jm X [] ac3:=by
 intro pins s σ H vs us Q I r h;obtain⟨e,h⟩:=h;subst e;cases r;exact assignInOrder_nil (fun ht=>⟨σ,H,I,h⟩)
theorem L9 {e:Expr}{es:List Expr}{t:TG}{u:mj}(h1:PG X e t)(h2:jm X es u)
  (hs:(assignEach (e::es) X.env).map (·.2)=assign e X.env::(assignEach es X.env).map (·.2):=by rfl):jm X (e::es) (ac4 t u):=by
 intro pins s σ H vs us Q I r h;obtain⟨v,vr,e1,h⟩:=h;subst e1
 cases r with
 |cons r rr=>
  rw [hs];refine assignInOrder_cons (aC (h1 pins s σ H _ _ _ I r h) fun _ s1 ⟨j8,H1,I1,q1⟩=>?_);exact h2 pins s1 j8 H1 _ _ Q I1 rr q1
noncomputable def ac2 (K:ah)(n:Nat)(t:mj):TG:=fun v σ H Q=>∃a xs,v=.ref a/\cX K H a xs/\xs.length=n/\t xs σ H Q
theorem Ma {es:List Expr}{k:Nat}{t:mj}{n:Nat}(hc:X.calm=true)(h:jm X es t)
  (hn:(assignEach es X.env).length=n:=by rfl) (bj:(assignEach es X.env).findIdx? (·.1)=none:=by rfl):PG X (.Tuple es k pos) (ac2 X.K n t):=by
 intro pins s σ H v u Q I r hw;obtain⟨a,xs,e1,hq,hl,hw⟩:=hw;subst e1;cases r;obtain⟨ak,rv,ht,hz⟩:=I.tuple hq;refine assign_Tuple_tuple (I.ok.hd hc) ht (by simp [hn,← hl,rv.length]) bj fun h' hx=>?_;have I1:Inv X pins σ H {s with heap:=h'}:=I.kept (t':=s.toks) fun b o e=>hx b o (bJ (aV e)) e;exact h pins _ σ H xs _ Q I1 (by simpa using rv) hw
noncomputable def vQ (te:TE)(g:TG):TS:=fun D σ H=>te σ H fun x H1=>g x σ H1 D.nx
theorem LY {tg e:Expr}{te:TE}{g:TG}(he:PE X e te)(hg:PG X tg g)(hs:swapsWithSole [tg] e pos.line X.env=pure false:=by rfl)(hw:swappedStores [tg] e X.env=pure none:=by rfl)
  (h1:(assignEach [tg] X.env).map (·.2)=[assign tg X.env]:=by rfl):PS X (.Assign [tg] e pos) (vQ te g):=by
 intro pins s σ H D I h;refine wpAny_Assign_stores (aC (he pins s σ H _ I h) fun v s1 ⟨x,H1,I1,r1,q1⟩=>?_) hs hw;rw [h1];exact aC (hg pins s1 σ H1 x v _ I1 r1 q1) fun _ s2 q _=>q
theorem qj {i:Nat}{x:Str}{e:Expr}{te:TE}{pos':Pos}(hN:X.N.Nodup)(hi:X.N[i]?=some x)(hx:Loc X.env.scope x)(he:PE X e te)(hs:swapsWith e (some (.Name x pos')) pos.line X.env=pure false:=by rfl)(hf:X.fn x=true∨X.env.scope.names.lookup x=some .local:=by first | exact .inl rfl | exact .inr rfl | assumption) :
  PS X (.Assign [.Name x pos'] e pos) (vQ te (uh i)):=by
 intro pins s σ H D I h;refine wpAny_Assign_Name (aC (he pins s σ H _ I h) fun v s1 ⟨y,H1,I1,r1,q1⟩=>?_) hs;exact vV I1 hN hi hx r1 (fun s2 I2=>(fun ht=>⟨_,H1,I2,q1⟩)) hf
noncomputable def UN (i j:Nat)(ta:TA):TS:=fun D σ H=>ta σ H fun vs H1=>∃v w,vs=[v,w]/\D.nx ((σ.set i (some v)).set j (some w)) H1
theorem LW {i j:Nat}{x y:Str}{a b:Expr}{ta:TA}{px py pt:Pos}{kt k2 g8}(hc:X.calm=true)(hN:X.N.Nodup)(hi:X.N[i]?=some x)(hj:X.N[j]?=some y)(lR:i≠j)
  (hx:X.env.scope.names.lookup x=some .local) (hy:X.env.scope.names.lookup y=some .local) (ha:PA X [a,b] ta)
  (hw:swappedStores [.Tuple [.Name x px,.Name y py] kt pt] (.Tuple [a,b] k2 g8) X.env=pure (some [x,y]))
  (hs:swapsWithSole [.Tuple [.Name x px,.Name y py] kt pt] (.Tuple [a,b] k2 g8) pos.line X.env=pure false:=by rfl) :
  PS X (.Assign [.Tuple [.Name x px,.Name y py] kt pt] (.Tuple [a,b] k2 g8) pos) (UN i j ta):=by
 intro pins s σ H D I h;rw [exec_Assign_arm];refine wpAny_bind (wpAny_standAt ?_);rw [hs];refine wpAny_bind (wpAny_pure ?_);rw [if_neg (by decide)];refine wpAny_bind (Tuple_ (aC (ha _ pins s σ H _ I h) fun us s1 ⟨vs,H1,I1,r1,q1⟩=>?_));obtain⟨v,w,e1,q1⟩:=q1;subst e1;obtain⟨u1,u2,rfl,rv,dW⟩:∃u1 u2,us=[u1,u2]/\RelV v u1/\RelV w u2:=by
  cases r1 with
  |cons p q=>
   cases q with
   |cons p' q'=>
    cases q';exact⟨_,_,rfl,p,p'⟩
 refine wpAny_newObj_type ?_ (by show 2<=sizeLine; decide);have I2:Inv X pins σ H1 {s1 with heap:=s1.heap.push {cls:=.type "tuple",data:=.seq [u1,u2].toArray}}:=I1.kept (t':=s1.toks) fun b o e=>aW _ e
 rw [hw];refine wpAny_bind (wpAny_pure ?_);show wpAny (model X.prog X.w) X.A (do rule "assign.swapped-stores"; let items ← unpackItems (.ref s1.heap.objs.size) 2 none; assignInOrder [fun v=>bindName X.env y v,fun v=>bindName X.env x v] items.reverse; pure Flow.next) _ _ _
 refine wpAny_bind (wpAny_rule (wpAny_bind (unpackItems_tuple (items:=#[u1,u2]) (I.ok.hd hc) (IsTup.new s1.heap _) fun h' oQ=>?_)));have I3:=I2.kept (h':=h') (t':=s1.toks) fun b o e=>oQ b o (bJ (aV e)) e;show wpAny _ _ (assignInOrder [fun v=>bindName X.env y v,fun v=>bindName X.env x v] [u2,u1] >>= fun _=>pure Flow.next) _ _ _;refine wpAny_bind (assignInOrder_cons (wpAny_bindName (vV I3 hN hj (.inl hy) dW (fun s2 I4=>?_) (.inr hy))));refine assignInOrder_cons (wpAny_bindName (vV I4 hN hi (.inl hx) rv (fun s3 I5=>assignInOrder_nil (wpAny_pure ?_)) (.inr hx)));rw [List.set_comm _ _ (bY lR)] at I5;exact(fun ht=>⟨_,H1,I5,q1⟩)
end
structure It where
 go:Nat->Hp->Prop
 vF:Nat->Hp->V->Hp->Prop
 stop:Nat->Hp->Prop
noncomputable def fH (X:Cx)(pins:List (Addr×Obj))(H:Hp)(b:Addr):Prop:=
 H b=none/\b≠X.env.locals/\b∉X.fs/\(b∈X.ex∨X.aH.heap.objs.size<=b)/\(∀x c,X.env.cells.lookup x=some c->c≠b)/\∀p∈X.pn++pins,p.1≠b
theorem Inv.o5 {X:Cx}{pins:List (Addr×Obj)}{σ:St}{H H':Hp}{s:Shared}{b:Addr}(I:Inv X pins σ H s)(hb:s.heap.objs.size<=b)(hn:H' b=none):fH X pins H' b:=by
 refine⟨hn,vt (cB I.lt hb),I.MJ hb,.inr (c9 I.sz hb),fun x c e z=>?_,fun p hp z=>?_⟩
 ·obtain⟨v,q⟩:=I.cell x c e
  exact absurd (cB q.lt (by rw [z]; exact hb)) (fm _)
 ·exact absurd (cB (aV (I.pin p hp).1) (by rw [z]; exact hb)) (fm _)
structure Turn (P:Program) (w:World) (K:ah) (tg:Expr) (J:It) (fp:List Addr) (it:Addr) (tn:Nat->Heap->Prop):Prop where
 mem:it∈fp
 obj:∀i h,tn i h->∀b∈fp,∃o,h.get? b=some o/\∀v,o.data≠.cell v
 keep:∀i h h',tn i h->(∀b∈fp,∀o,h.get? b=some o->h'.get? b=some o)->tn i h'
 item:∀(X:Cx),X.prog=P->X.w=w->X.K=K->X.calm=true->∀(i:Nat) (pins:List (Addr×Obj)) (s:Shared) (σ:St) (H:Hp) (E:Value->Shared->Prop),Inv X pins σ H s->(∀b∈fp,fH X pins H b)->tn i s.heap->J.go i H->
  wpAny (model P w) X.A (pyNext (.ref it)) (Lz fun r s1=>∃u,r=some u/\
   wpAny (model P w) X.A (letOwnedTupleGo tg (.ref it) u) (Lz fun _ s2=>∃x H',Inv X pins σ H' s2/\RelV x u/\J.vF i H x H'/\tn (i+1) s2.heap/\∀b∈fp,H' b=none) E s1) E s
 done:∀(X:Cx),X.prog=P->X.w=w->X.K=K->X.calm=true->∀(i:Nat) (pins:List (Addr×Obj)) (s:Shared) (σ:St) (H:Hp) (E:Value->Shared->Prop),Inv X pins σ H s->(∀b∈fp,fH X pins H b)->tn i s.heap->J.stop i H->
  wpAny (model P w) X.A (pyNext (.ref it)) (Lz fun r s1=>r=none/\Inv X pins σ H s1) E s
 self:∀(A:Around) (i:Nat) (s:Shared) (Q:Value->Shared->Prop) (E:Value->Shared->Prop),tn i s.heap->Q (.ref it) s->wpAny (model P w) A (pyIter (.ref it)) Q E s
noncomputable abbrev TI:=St->Hp->(It->Hp->Prop)->Prop
noncomputable def RH (X:Cx)(pins:List (Addr×Obj))(σ:St)(tg:Expr)(R:It->Hp->Prop)(wV:Value)(s2:Shared):Prop:=
 ∃(it:Addr) (fp:List Addr) (tn:Nat->Heap->Prop) (J:It) (H':Hp),wV=.ref it/\Inv X pins σ H' s2/\Turn X.prog X.w X.K tg J fp it tn/\tn 0 s2.heap/\(∀b∈fp,fH X pins H' b)/\R J H'
noncomputable def PI (X:Cx)(tg iter:Expr)(wi:TI):Prop:=
 ∀(pins:List (Addr×Obj)) (s:Shared) (σ:St) (H:Hp) (R:It->Hp->Prop),Inv X pins σ H s->wi σ H R->
  wpAny (model X.prog X.w) X.A (eval iter X.env) (Lz fun v s1=>wpAny (model X.prog X.w) X.A (pyIter v) (Lz (RH X pins σ tg R)) X.xe s1) X.xe s
theorem xw {M:Model}{A:Around}{E:Value->Shared->Prop}{s:Shared}{tg:Expr}{it:Addr}{u:Value}{o:Obj}{n:String}{vs:Array Value}{Q:Unit->Shared->Prop}(ho:s.heap.get? it=some o)(hc:o.cls=.type n)(hd:o.data=.fields vs)
  (hn:["enumerate","zip","dict_itemiterator","dict_reverseitemiterator","odict_iterator","itertools.zip_longest","itertools.pairwise"].contains n=false) (hQ:Q () s):wpAny M A (letOwnedTupleGo tg (.ref it) u) Q E s:=by
 unfold letOwnedTupleGo
 cases tg <;> first
  |exact wpAny_pure hQ
  | (cases u <;> first
    |exact wpAny_pure hQ
    | (refine wpAny_bind (wpAny_load ho ?_)
       rw [hc,hd];show wpAny M A (if (["enumerate","zip","dict_itemiterator","dict_reverseitemiterator","odict_iterator","itertools.zip_longest","itertools.pairwise"].contains n&&vs[0]?==some (rawInt _))=true then _ else _) Q E s
       rw [if_neg (by intro h; rw [hn,Bool.false_and] at h; cases h)];exact wpAny_pure hQ))
noncomputable def rL (K:ah)(a:Addr):It:=
 ⟨fun i H=>∃xs x,bP K H a xs/\xs[i]?=some x,fun i H x H'=>H'=H/\∀xs,bP K H a xs->xs[i]?=some x,fun i H=>∃xs,bP K H a xs/\xs.length<=i⟩
noncomputable def JB (K:ah)(a:Addr):It:=
 ⟨fun i H=>∃xs x,cX K H a xs/\xs[i]?=some x,fun i H x H'=>H'=H/\∀xs,cX K H a xs->xs[i]?=some x,fun i H=>∃xs,cX K H a xs/\xs.length<=i⟩
noncomputable def yc (lo:Int)(n:Nat):It:=⟨fun i _=>i<n,fun i H x H'=>H'=H/\x=.int (lo+i),fun i _=>n<=i⟩
theorem Ud {P:Program}{w:World}{K:ah}{tg:Expr}(a it:Addr):Turn P w K tg (rL K a) [it] it (fun i h=>h.IsListIter it a i) where
 mem:=by simp
 obj:=fun i h st b hb=>by
  have e:b=it:=by simpa using hb
  subst e;obtain⟨o,e,c,d⟩:=st;exact⟨o,e,fun v z=>by rw [d] at z; cases z⟩
 keep:=fun i h h' st k=>st.at fun o e=>k it (by simp) o e
 item:=by
  intro X hP hw hK hc i pins s σ H E I hf st hg;subst hP hw hK;obtain⟨xs,x,hq,hx⟩:=hg;obtain⟨ak,rv,p,hz⟩:=I.list hq;obtain⟨u,hu,ru⟩:=rv.get hx;obtain⟨f0,f1,f2,f3,f4,f5⟩:=hf it (by simp);refine wpAny_pyNext_list_item st p.isList (x:=u) (by simpa using hu) fun h' gH sb=>?_;have I1:Inv X pins σ H {s with heap:=h'}:=I.turned (t':=s.toks) (fun b o hb e=>(sb.2 b hb).trans e) f0 f1 f3 f4 f5;obtain⟨o,e,c,d⟩:=id gH;exact(fun ht=>⟨u,rfl,xw (s:={s with heap:=h'}) e c d (by decide) (fun ht=>⟨x,H,I1,ru,⟨rfl,fun ys hy=>by rw [I.Ff hy hq]; exact hx⟩,gH,fun b hb=>(hf b hb).1⟩)⟩)
 done:=by
  intro X hP hw hK hc i pins s σ H E I hf st hg;subst hP hw hK;obtain⟨xs,hq,hx⟩:=hg;obtain⟨ak,rv,p,hz⟩:=I.list hq;obtain⟨f0,f1,f2,f3,f4,f5⟩:=hf it (by simp);have hl:=rv.length;exact wpAny_pyNext_list_end (I.ok.hd hc) st p.isList (by simp; omega) fun h' eb=>(fun ht=>⟨rfl,I.turned (t':=s.toks) (fun b o hb e=>eb b o hb e) f0 f1 f3 f4 f5⟩)
 self:=fun _ _ _ _ _ st h=>wpAny_pyIter_listiter st h
theorem Ua {P:Program}{w:World}{K:ah}{tg:Expr}(a it:Addr):Turn P w K tg (JB K a) [it] it (fun i h=>h.IsTupleIter it a i) where
 mem:=by simp
 obj:=fun i h st b hb=>by
  have e:b=it:=by simpa using hb
  subst e;obtain⟨o,e,c,d⟩:=st;exact⟨o,e,fun v z=>by rw [d] at z; cases z⟩
 keep:=fun i h h' st k=>st.at fun o e=>k it (by simp) o e
 item:=by
  intro X hP hw hK hc i pins s σ H E I hf st hg;subst hP hw hK;obtain⟨xs,x,hq,hx⟩:=hg;obtain⟨ak,rv,p,hz⟩:=I.tuple hq;obtain⟨u,hu,ru⟩:=rv.get hx;obtain⟨f0,f1,f2,f3,f4,f5⟩:=hf it (by simp);refine wpAny_pyNext_tuple_item st (show s.heap.IsTuple a ak.toArray from p) (x:=u) (by simpa using hu) fun h' gH sb=>?_;have I1:Inv X pins σ H {s with heap:=h'}:=I.turned (t':=s.toks) (fun b o hb e=>(sb.2 b hb).trans e) f0 f1 f3 f4 f5;obtain⟨o,e,c,d⟩:=id gH;exact(fun ht=>⟨u,rfl,xw (s:={s with heap:=h'}) e c d (by decide) (fun ht=>⟨x,H,I1,ru,⟨rfl,fun ys hy=>by rw [I.C3 hy hq]; exact hx⟩,gH,fun b hb=>(hf b hb).1⟩)⟩)
 done:=by
  intro X hP hw hK hc i pins s σ H E I hf st hg;subst hP hw hK;obtain⟨xs,hq,hx⟩:=hg;obtain⟨ak,rv,p,hz⟩:=I.tuple hq;obtain⟨f0,f1,f2,f3,f4,f5⟩:=hf it (by simp);have hl:=rv.length;exact wpAny_pyNext_tuple_end (I.ok.hd hc) st (show s.heap.IsTuple a ak.toArray from p) (by simp; omega) fun h' eb=>(fun ht=>⟨rfl,I.turned (t':=s.toks) (fun b o hb e=>eb b o hb e) f0 f1 f3 f4 f5⟩)
 self:=fun _ _ _ _ _ st h=>wpAny_pyIter_tupleiter st h
theorem Uc {P:Program}{w:World}{K:ah}{tg:Expr}(it:Addr)(lo:Int)(n:Nat):Turn P w K tg (yc lo n) [it] it (fun i h=>IsRangeIter h it (lo+(i:Nat) * 1) ((n:Int) - (i:Nat)) 1) where
 mem:=by simp
 obj:=fun i h st b hb=>by
  have e:b=it:=by simpa using hb
  subst e;exact⟨_,st,fun v z=>by
   have z':Data.fields _=Data.cell v:=z
   cases z'⟩
 keep:=fun i h h' st k=>k it (by simp) _ st
 item:=by
  intro X hP hw hK hc i pins s σ H E I hf st hg;subst hP hw hK;obtain⟨f0,f1,f2,f3,f4,f5⟩:=hf it (by simp);have W:=Walks.range (prog:=X.prog) (w:=X.w) (I.ok.hd hc) it lo 1 n;refine W.item i s _ _ hg st fun v h' tk hv gH kk ht=>?_;obtain⟨t,rfl⟩:=hv;have I1:Inv X pins σ H {s with heap:=h',toks:=tk}:=I.turned (fun b o hb e=>kk b o (by simpa using hb) e) f0 f1 f3 f4 f5;refine⟨_,rfl,xw (s:={s with heap:=h',toks:=tk}) (n:="range_iterator") gH rfl rfl (by decide) (fun ht=>⟨.int (lo+i),H,I1,⟨t,by rw [Int.mul_one]⟩,⟨rfl,rfl⟩,gH,fun b hb=>(hf b hb).1⟩)⟩
 done:=by
  intro X hP hw hK hc i pins s σ H E I hf st hg;subst hP hw hK;obtain⟨f0,f1,f2,f3,f4,f5⟩:=hf it (by simp);exact wpAny_pyNext_range_end (I.ok.hd hc) st (by have:n<=i:=hg; omega) fun h' eb=>(fun ht=>⟨rfl,I.turned (t':=s.toks) (fun b o hb e=>eb b o hb e) f0 f1 f3 f4 f5⟩)
 self:=fun _ _ _ _ _ st h=>wpAny_pyIter_rangeiter st h
section
variable {X:Cx}{tg:Expr}
noncomputable def Oj (K:ah)(tl:TE):TI:=fun σ H R=>tl σ H fun x H1=>∃a,x=.ref a/\(∃xs,bP K H1 a xs)/\R (rL K a) H1
noncomputable def aa0 (K:ah)(tl:TE):TI:=fun σ H R=>tl σ H fun x H1=>∃a,x=.ref a/\(∃xs,cX K H1 a xs)/\R (JB K a) H1
theorem L8 {l:Expr}{tl:TE}(hl:PE X l tl):PI X tg l (Oj X.K tl):=by
 intro pins s σ H R I h;refine aC (hl pins s σ H _ I h) fun v s1 h_=>?_;obtain⟨x,H1,I1,r1,q1⟩:=h_;obtain⟨a,e,⟨xs,hq⟩,q⟩:=q1;subst e;cases r1;obtain⟨ak,rv,p,hz⟩:=I1.list hq;refine fun _=>wpAny_pyIter_list p.isList fun _=>?_;refine⟨s1.heap.objs.size,[s1.heap.objs.size],_,_,H1,rfl,I1.kept (t':=s1.toks) fun b o e=>aW _ e,Ud a _,⟨_,cN _ rfl,rfl,rfl⟩,fun b hb=>?_,q⟩;have e:b=s1.heap.objs.size:=by simpa using hb
 subst e;exact I1.o5 (bc _) (I1.ar.fresh (bc _))
theorem Xr {l:Expr}{tl:TE}(hl:PE X l tl):PI X tg l (aa0 X.K tl):=by
 intro pins s σ H R I h;refine aC (hl pins s σ H _ I h) fun v s1 h_=>?_;obtain⟨x,H1,I1,r1,q1⟩:=h_;obtain⟨a,e,⟨xs,hq⟩,q⟩:=q1;subst e;cases r1;obtain⟨ak,rv,p,hz⟩:=I1.tuple hq;refine fun _=>wpAny_pyIter_tuple (show s1.heap.IsTuple a ak.toArray from p) fun _=>?_;refine⟨s1.heap.objs.size,[s1.heap.objs.size],_,_,H1,rfl,I1.kept (t':=s1.toks) fun b o e=>aW _ e,Ua a _,⟨_,cN _ rfl,rfl,rfl⟩,fun b hb=>?_,q⟩;have e:b=s1.heap.objs.size:=by simpa using hb
 subst e;exact I1.o5 (bc _) (I1.ar.fresh (bc _))
theorem LO {pins:List (Addr×Obj)}{σ:St}{H:Hp}{s:Shared}{R:It->Hp->Prop}{E:Value->Shared->Prop}{lo hi:Int}{t u v:Tok}{tk:Nat}(I:Inv X pins σ H s)(h1 : -(2 ^ 62)<=lo)(h2:lo<2 ^ 62)(h3 : -(2 ^ 62)<=hi)(h4:hi<2 ^ 62)
  (q:R (yc lo (hi - lo).toNat) H):wpAny (model X.prog X.w) X.A (pyIter (.ref s.heap.objs.size)) (Lz (RH X pins σ tg R)) E {s with heap:=s.heap.push {cls:=.type "range",data:=.fields #[.int lo t,.int hi u,.int 1 v]},toks:=tk}:=by
 refine wpAny_pyIter_range (IsRange.new ..) (small_one h1 h2 h3 h4) fun ht=>?_;have I1:Inv X pins σ H {s with heap:=s.heap.push {cls:=.type "range",data:=.fields #[.int lo t,.int hi u,.int 1 v]},toks:=tk}:=I.kept fun b o e=>aW _ e
 refine⟨(s.heap.push {cls:=.type "range",data:=.fields #[.int lo t,.int hi u,.int 1 v]}).objs.size,[(s.heap.push {cls:=.type "range",data:=.fields #[.int lo t,.int hi u,.int 1 v]}).objs.size],_,_,H,rfl,
  I1.kept (t':=tk) fun b o e=>aW _ e,Uc _ lo (hi - lo).toNat,?_,fun b hb=>?_,q⟩
 ·have e1:lo+((0:Nat):Int) * 1=lo:=by simp
  have e2:(((hi - lo).toNat:Nat):Int) - ((0:Nat):Int)=Builtin.Range.rangeSize lo hi 1:=by rw [rangeSize_one]; split <;> omega
  show IsRangeIter _ _ (lo+((0:Nat):Int) * 1) ((((hi - lo).toNat:Nat):Int) - ((0:Nat):Int)) 1;rw [e1,e2];exact cN _ rfl
 ·have e:b=(s.heap.push {cls:=.type "range",data:=.fields #[.int lo t,.int hi u,.int 1 v]}).objs.size:=by simpa using hb
  subst e;exact I1.o5 (bc _) (I1.ar.fresh (bc _))
noncomputable def aa5 (ta:TA):TI:=fun σ H R=>ta σ H fun vs H1=>∃j:Int,vs=[.int j]/\-(2 ^ 62)<=j/\j<2 ^ 62/\R (yc 0 j.toNat) H1
noncomputable def aa4 (ta:TA):TI:=fun σ H R=>ta σ H fun vs H1=>∃i j:Int,vs=[.int i,.int j]/\(-(2 ^ 62)<=i/\i<2 ^ 62/\-(2 ^ 62)<=j/\j<2 ^ 62)/\R (yc i (j - i).toNat) H1
theorem Xu {a:Expr}{ta:TA}{p pos:Pos}(hg:Gl X "range")(hm:X.mg "range" = none)(ha:PA X [a] ta)(hs:starEach [a] X.env=[(false,eval a X.env)]:=by rfl):PI X tg (.Call (.Name "range" p) [a] [] pos) (aa5 ta):=by
 intro pins s σ H R I h;refine Call_ (lJ I hg hm boot_range (rS (aC (ha pos pins s σ H _ I h) fun us s1 ⟨vs,H1,I1,r1,q1⟩=>?_) hs rfl));obtain⟨j,e,q1,q2,q⟩:=q1;subst e
 cases r1 with
 |cons r rr=>
  cases rr;obtain⟨t,rfl⟩:=r;exact call_range_1 (fun _=>LO I1 (by omega) (by omega) q1 q2 (by simpa using q))
theorem Xt {a b:Expr}{ta:TA}{p pos:Pos}(hg:Gl X "range")(hm:X.mg "range" = none)(ha:PA X [a,b] ta)(hs:starEach [a,b] X.env=[(false,eval a X.env),(false,eval b X.env)]:=by rfl)(eY:starEach [b] X.env=[(false,eval b X.env)]:=by rfl) :
  PI X tg (.Call (.Name "range" p) [a,b] [] pos) (aa4 ta):=by
 intro pins s σ H R I h;refine Call_ (lJ I hg hm boot_range (rS (aC (ha pos pins s σ H _ I h) fun us s1 ⟨vs,H1,I1,r1,q1⟩=>?_) (by rw [hs,eY]) (by rw [eY]; rfl)));obtain⟨i,j,e,⟨q1,q2,q3,q4⟩,q⟩:=q1;subst e
 cases r1 with
 |cons r rr=>
  cases rr with
  |cons r' rr=>
   cases rr;obtain⟨t,rfl⟩:=r;obtain⟨t',rfl⟩:=r';exact call_range_2 (fun _=>LO I1 q1 q2 q3 q4 q)
noncomputable def K2 (wi:TI)(g:TG)(tb:TS):TS:=fun D σ H=>wi σ H fun J H1=>∃W:Nat->Nat->St->Hp->Prop,(∃m,W 0 m σ H1)/\∀i m σ H,W i m σ H->
 (J.stop i H/\D.nx σ H)∨(J.go i H/\∃N:St->Hp->Prop,(∀aJ H',N aJ H'->∃m',m'<m/\W (i+1) m' aJ H')/\∀x H',J.vF i H x H'->g x σ H' fun ed H2=>tb {D with nx:=N,ct:=N,bk:=D.nx} ed H2)
noncomputable def tN (fp:List Addr)(h:Heap):List (Addr×Obj):=fp.filterMap fun b=>(h.get? b).map fun o=>(b,o)
theorem tQ {fp:List Addr}{h:Heap}{b:Addr}{o:Obj}(hb:b∈fp)(e:h.get? b=some o):(b,o)∈tN fp h:=yB.mpr ⟨b,hb,by rw [e]; rfl⟩
theorem Y0 {fp:List Addr}{h:Heap}{p:Addr×Obj}(hp:p∈tN fp h):p.1∈fp/\h.get? p.1=some p.2:=by
 obtain⟨b,hb,e⟩:=yB.mp hp
 cases q:h.get? b with
 |none=>rw [q] at e; cases e
 |some o=>
  rw [q] at e;have e':(b,o)=p:=gZ e;subst e';exact⟨hb,q⟩
theorem Inv.pinned {pins:List (Addr×Obj)}{σ:St}{H:Hp}{s:Shared}{fp:List Addr}(I:Inv X pins σ H s)(hf:∀b∈fp,fH X pins H b)(ho:∀b∈fp,∃o,s.heap.get? b=some o/\∀v,o.data≠.cell v):Inv X (pins++tN fp s.heap) σ H s:=
 I.L7 fun p hp=>(eC.mp hp).elim (fun z=>I.pin p (eh _ z)) fun z=>by
  obtain⟨hb,e⟩:=Y0 z;obtain⟨f0,f1,f2,_⟩:=hf p.1 hb;obtain⟨o,e',d⟩:=ho p.1 hb;rw [e] at e'; cases e';exact⟨e,f0,f1,f2,d⟩
theorem Inv.pQ {pins pl:List (Addr×Obj)}{σ:St}{H:Hp}{s:Shared}(I:Inv X (pins++pl) σ H s):Inv X pins σ H s:=I.L7 fun p hp=>I.pin p (eh _ (eT _ hp))
theorem Xg {iter:Expr}{body:List Stmt}{wi:TI}{g:TG}{tb:TS}{pos:Pos}(hp:PassesOwn (model X.prog X.w) X.A X.env X.xe)(hc:X.calm=true)(hi:PI X tg iter wi)(hg:PG X tg g)(hb:eP X body tb)
  (hs:∀x,foldedSetIterable iter X.env x=pure x:=by intro _; rfl):PS X (.For tg iter body [] pos) (K2 wi g tb):=by
 intro pins s σ H D I h;refine wpAny_For (pT (hi pins s σ H _ I h) fun v s1 t1 h1=>aC h1 fun wV s2 h2=>?_) hs;obtain⟨it,fp,tn,J,H2,e,I2,T,gG,f2,W,⟨m0,w0⟩,turn⟩:=h2;subst e;have Du:∀{H':Hp},(∀b∈fp,H' b=none)->∀b∈fp,fH X pins H' b:=fun hn b hb=>⟨hn b hb,(f2 b hb).2⟩
 refine codeAny_forLoop_any (fun n s'=>∃i aJ H',Inv X pins aJ H' s'/\tn i s'.heap/\(∀b∈fp,H' b=none)/\W i n aJ H') ?_ m0 ⟨0,σ,H2,I2,gG,fun b hb=>(f2 b hb).1,w0⟩;rintro n s3 ⟨i,gY,H3,I3,Lh,Pt,w3⟩;rcases turn i n gY H3 w3 with ⟨stop,qn⟩ | ⟨go,N,hN,step⟩
 ·refine wpAny_passesOwn hp (aC (T.done X rfl rfl rfl hc i pins s3 gY H3 X.xe I3 (Du Pt) Lh stop) fun r s4 ⟨hr,I4⟩=>?_)
  subst hr;exact wpAny_execs_nil (fun ht=>⟨gY,H3,I4,qn⟩)
 ·refine wpAny_passesOwn hp (pT (T.item X rfl rfl rfl hc i pins s3 gY H3 X.xe I3 (Du Pt) Lh go) fun r s4 ht4 ⟨u,hr,h4⟩=>?_)
  subst hr;refine wpAny_passesOwn hp (aC h4 fun _ s5 ⟨x,H5,I5,r5,y5,mR,ri⟩=>?_);have I5':=I5.pinned (Du ri) (T.obj _ _ mR);refine wpAny_passesOwn hp (aC (hg _ s5 gY H5 x u _ I5' r5 (step x H5 y5)) fun _ s6 ⟨Sl,H6,I6,q6⟩=>?_);refine wpAny_passesOwn hp (aC (hb _ s6 Sl H6 _ I6 q6) fun f s7 q7=>?_);have again:∀{j7:St} {H7:Hp},Inv X (pins++tN fp s5.heap) j7 H7 s7->N j7 H7->∃m,m<n/\∃i aJ H',Inv X pins aJ H' s7/\tn i s7.heap/\(∀b∈fp,H' b=none)/\W i m aJ H':=fun {j7 H7} I7 n7=>by
   obtain⟨m',hm,w7⟩:=hN j7 H7 n7;refine⟨m',hm,i+1,j7,H7,I7.pQ,T.keep _ _ _ mR fun b hb o e=>(I7.pin (b,o) (eh _ (eh _ (tQ hb e)))).1,fun b hb=>?_,w7⟩;obtain⟨o,e,d⟩:=T.obj _ _ mR b hb;exact(I7.pin (b,o) (eh _ (eh _ (tQ hb e)))).2.1
  cases f with
  |next=>obtain⟨j7,H7,I7,n7⟩:=q7; exact again I7 n7
  |cont=>obtain⟨j7,H7,I7,n7⟩:=q7; exact again I7 n7
  |brk=>obtain⟨j7,H7,I7,q7⟩:=q7; exact fun _=>⟨j7,H7,I7.pQ,q7⟩
  |ret v=>obtain⟨x7,j7,H7,I7,r7,q7⟩:=q7; exact fun _=>⟨x7,j7,H7,I7.pQ,r7,q7⟩
end
theorem Hk {K:ah}{a:Addr}{xs:List V}{g:TG}{tb:TS}{D:Ends}{σ:St}{H:Hp}(Pv:Nat->St->Hp->Prop)(h0:Pv 0 σ H)(hl:∀i σ H,i<=xs.length->Pv i σ H->bP K H a xs)
  (hs:∀i x σ H,xs[i]?=some x->Pv i σ H->g x σ H fun ed H2=>tb {D with nx:=Pv (i+1),ct:=Pv (i+1),bk:=D.nx} ed H2) (hd:∀σ H,Pv xs.length σ H->D.nx σ H) :
  ∃W:Nat->Nat->St->Hp->Prop,(∃m,W 0 m σ H)/\∀i m σ H,W i m σ H->
   ((rL K a).stop i H/\D.nx σ H)∨((rL K a).go i H/\∃N:St->Hp->Prop,(∀aJ H',N aJ H'->∃m',m'<m/\W (i+1) m' aJ H')/\∀x H',(rL K a).vF i H x H'->g x σ H' fun ed H2=>tb {D with nx:=N,ct:=N,bk:=D.nx} ed H2):=by
 refine⟨fun i m σ H=>m=xs.length - i/\i<=xs.length/\Pv i σ H,⟨xs.length,by simp,gw _,h0⟩,?_⟩;rintro i m σ H ⟨rfl,hi,p⟩;have q:=hl i σ H hi p
 by_cases aR:i<xs.length
 ·refine .inr ⟨⟨xs,xs[i],q,by simp [aR]⟩,Pv (i+1),fun aJ H' p'=>⟨xs.length - (i+1),by omega,rfl,aR,p'⟩,fun x H' y=>?_⟩
  obtain⟨e,y⟩:=y;subst e;exact hs i x σ _ (y xs q) p
 ·have e:i=xs.length:=by omega
  subst e;exact .inl ⟨⟨xs,q,bc _⟩,hd σ H p⟩
noncomputable abbrev R2:=V->V->Hp->VK->Prop
noncomputable def cb (X:Cx)(f:Value->Value->Sem Value)(r:R2):Prop:=
 ∀(pins:List (Addr×Obj)) (s:Shared) (σ:St) (H:Hp) (x y:V) (v u:Value) (Q:VK),Inv X pins σ H s->RelV x v->RelV y u->r x y H Q->
  wpAny (model X.prog X.w) X.A (f v u) (EP X pins σ Q) X.xe s
noncomputable def Js (X:Cx)(f:Value->Sem Value)(r:V->Hp->VK->Prop):Prop:=
 ∀(pins:List (Addr×Obj)) (s:Shared) (σ:St) (H:Hp) (x:V) (v:Value) (Q:VK),Inv X pins σ H s->RelV x v->r x H Q->
  wpAny (model X.prog X.w) X.A (f v) (EP X pins σ Q) X.xe s
noncomputable def fi (X:Cx)(f:Value)(r:List V->Hp->VK->Prop):Prop:=
 ∀(pins:List (Addr×Obj)) (s:Shared) (σ:St) (H:Hp) (xs:List V) (us:List Value) (Q:VK),Inv X pins σ H s->Vals xs us->r xs H Q->
  wpAny (model X.prog X.w) X.A (call f us) (EP X pins σ Q) X.xe s
noncomputable def og (r:R2)(ta tb:TE):TE:=fun σ H Q=>ta σ H fun x H1=>tb σ H1 fun y H2=>r x y H2 Q
noncomputable def KW (r:V->Hp->VK->Prop)(ta:TE):TE:=fun σ H Q=>ta σ H fun x H1=>r x H1 Q
noncomputable def rI (C:Int->Int->Prop)(g:Int->Int->V):R2:=fun x y H Q=>∃i j,x=.int i/\y=.int j/\C i j/\Q (g i j) H
noncomputable def ou (g:Int->Int->V):R2:=fun x y H Q=>∃i j,x=.int i/\y=.int j/\Q (g i j) H
noncomputable def rU (g:Int->V):V->Hp->VK->Prop:=fun x H Q=>∃i,x=.int i/\Q (g i) H
section
variable {X:Cx}{a b c:Expr}{ta tb tc:TE}{pos:Pos}
theorem Ib (ha:PE X a ta)(hb:PE X b tb){pins:List (Addr×Obj)}{s:Shared}{σ:St}{H:Hp}{R:V->V->Hp->Prop}(I:Inv X pins σ H s)
  (h:ta σ H fun x H1=>tb σ H1 fun y H2=>R x y H2) {Q:Value->Shared->Prop} {f:Value->Value->Sem Value}
  (hf:∀v u s2 x y H2,Inv X pins σ H2 s2->RelV x v->RelV y u->R x y H2->wpAny (model X.prog X.w) X.A (f v u) Q X.xe s2) :
  wpAny (model X.prog X.w) X.A (eval a X.env) (fun v aT=>wpAny (model X.prog X.w) X.A (eval b X.env) (fun u gD=>wpAny (model X.prog X.w) X.A (f v u) Q X.xe gD) X.xe aT) X.xe s:=by
 refine aC (ha pins s σ H _ I h) fun v s1 h_=>?_;obtain⟨x,H1,I1,r1,q1⟩:=h_;refine aC (hb pins s1 σ H1 _ I1 q1) fun u s2 h_=>?_;obtain⟨y,H2,I2,r2,q2⟩:=h_;exact hf v u s2 x y H2 I2 r1 r2 q2
theorem zE {op:Operator}{r:R2}(ho:cb X (binaryOp op) r)(ha:PE X a ta)(hb:PE X b tb):PE X (.BinOp a op b pos) (og r ta tb):=by
 intro pins s σ H Q I h;exact wpAny_BinOp (Ib ha hb I h fun v u s2 x y H2 I2 rx ry q=>ho pins s2 σ H2 x y v u Q I2 rx ry q)
theorem Mb {op:UnaryOp}{r:V->Hp->VK->Prop}(ho:Js X (unaryOp op) r)(ha:PE X a ta):PE X (.UnaryOp op a pos) (KW r ta):=by
 intro pins s σ H Q I h;exact UnaryOp_ (aC (ha pins s σ H _ I h) fun v s1 ⟨x,H1,I1,r1,q1⟩=>ho pins s1 σ H1 x v Q I1 r1 q1)
theorem EI {f:Value->Value->Sem Value}{C:Int->Int->Prop}{g:Int->Int->Int}
  (rule:∀(i j:Int) (t u:Tok) (s:Shared) (Q:Value->Shared->Prop) (E:Value->Shared->Prop),C i j->Q (.int (g i j) s.toks) {s with toks:=s.toks+1}->wpAny (model X.prog X.w) X.A (f (.int i t) (.int j u)) Q E s) :
  cb X f (rI C fun i j=>.int (g i j)):=by
 intro pins s σ H x y v u Q I rx ry h;obtain⟨i,j,rfl,rfl,hc,q⟩:=h;obtain⟨t,rfl⟩:=rx;obtain⟨t',rfl⟩:=ry;exact rule i j t t' s _ _ hc (fun ht=>⟨.int (g i j),H,I.tok _,⟨_,rfl⟩,q⟩)
theorem Yq {f:Value->Value->Sem Value}{g:Int->Int->Int}
  (rule:∀(i j:Int) (t u:Tok) (s:Shared) (Q:Value->Shared->Prop) (E:Value->Shared->Prop),Q (.int (g i j) s.toks) {s with toks:=s.toks+1}->wpAny (model X.prog X.w) X.A (f (.int i t) (.int j u)) Q E s) :
  cb X f (ou fun i j=>.int (g i j)):=by
 intro pins s σ H x y v u Q I rx ry h;obtain⟨i,j,rfl,rfl,q⟩:=h;obtain⟨t,rfl⟩:=rx;obtain⟨t',rfl⟩:=ry;exact rule i j t t' s _ _ (fun ht=>⟨.int (g i j),H,I.tok _,⟨_,rfl⟩,q⟩)
theorem EJ {f:Value->Value->Sem Value}{g:Int->Int->Bool}
  (rule:∀(i j:Int) (t u:Tok) (s:Shared) (Q:Value->Shared->Prop) (E:Value->Shared->Prop),Q (.bool (g i j)) s->wpAny (model X.prog X.w) X.A (f (.int i t) (.int j u)) Q E s) :
  cb X f (ou fun i j=>.bl (g i j)):=by
 intro pins s σ H x y v u Q I rx ry h;obtain⟨i,j,rfl,rfl,q⟩:=h;obtain⟨t,rfl⟩:=rx;obtain⟨t',rfl⟩:=ry;exact rule i j t t' s _ _ (fun ht=>⟨.bl (g i j),H,I,rfl,q⟩)
noncomputable def JM (i j:Int):Prop:=0<j/\j<1073741824
noncomputable def JL (i j:Int):Prop:=(-(2 ^ 64)<i/\i<2 ^ 64)∨(-(2 ^ 64)<j/\j<2 ^ 64)
theorem JL.ok {i j:Int}(h:JL i j):IntMulOk i j:=by
 rcases h with ⟨h1,h2⟩ | ⟨h1,h2⟩
 ·exact .of_left (intBits_le_64 h1 h2)
 ·exact .of_right (intBits_le_64 h1 h2)
theorem Yp:cb X (binaryOp .Add) (ou fun i j=>.int (i+j)):=Yq fun _ _ _ _ _ _ _ q=>add_int q
theorem Yc:cb X (binaryOp .Mult) (rI JL fun i j=>.int (i * j)):=EI fun _ _ _ _ _ _ _ hc q=>mul_int q hc.ok
theorem Yk:cb X (binaryOp .FloorDiv) (rI JM fun i j=>.int (i / j)):=EI fun i j _ _ _ _ _ hc q=>by
 have h1:(0:Int)<j:=hc.1;have h2:j<1073741824:=hc.2;exact floordiv_int (by omega) (by rw [Int.fdiv_eq_ediv_of_nonneg i (by omega)]; exact q) (.inl (PyProof.noPylong_small (by omega)))
theorem Yd:cb X (binaryOp .Mod) (rI (fun _ j=>0<j) fun i j=>.int (i % j)):=EI fun i j _ _ _ _ _ hc q=>by
 have h1:(0:Int)<j:=hc;exact mod_int' (by omega) (by rw [Int.fmod_eq_emod_of_nonneg i (by omega)]; exact q)
theorem T2 {f:Value->Sem Value}{g:Int->Int}
  (rule:∀(i:Int) (t:Tok) (s:Shared) (Q:Value->Shared->Prop) (E:Value->Shared->Prop),Q (.int (g i) s.toks) {s with toks:=s.toks+1}->wpAny (model X.prog X.w) X.A (f (.int i t)) Q E s) :
  Js X f (rU fun i=>.int (g i)):=by
 intro pins s σ H x v Q I rx h;obtain⟨i,rfl,q⟩:=h;obtain⟨t,rfl⟩:=rx;exact rule i t s _ _ (fun ht=>⟨.int (g i),H,I.tok _,⟨_,rfl⟩,q⟩)
theorem Ks:Js X (unaryOp .USub) (rU fun i=>.int (-i)):=T2 fun _ _ _ _ _ q=>neg_int q
end
noncomputable def VH:V->V->Bool
 |.aI,.aI=>true | .aI,.int _=>true | .int _,.aI=>true | .aI,.bl _=>true | .bl _,.aI=>true | .aI,.str _=>true | .str _,.aI=>true
 |.int _,.int _=>true | .bl _,.bl _=>true | .str _,.str _=>true | .mf _,.mf _=>true
 |.int _,.str _=>true | .str _,.int _=>true | .bl _,.str _=>true | .str _,.bl _=>true
 |_,_=>false
noncomputable def WX:R2:=fun x y H Q=>VH x y=true/\Q (.bl (!decide (x=y))) H
theorem aeo {i j:Int}:decide (V.int i=V.int j)=(i==j):=by
 rw [ke];simp
theorem aeq {i j:Bool}:decide (V.bl i=V.bl j)=(i==j):=by
 rw [ke];simp
theorem aen {i j:Str}:decide (V.str i=V.str j)=(i==j):=by
 rw [ke];simp
theorem aep {i j:Array UInt8}:decide (V.mf i=V.mf j)=(i.toList==j.toList):=by
 rw [ke];cases i;cases j;simp
section
variable {X:Cx}{a b c:Expr}{ta tb tc:TE}{pos:Pos}
theorem gr {pins:List (Addr×Obj)}{σ:St}{H:Hp}{s:Shared}{Q:VK}{k k':Bool}(I:Inv X pins σ H s)(q:Q (.bl k) H)(e:k=k'):EP X pins σ Q (.bool k') s:=by
 subst e;exact(fun ht=>⟨.bl k,H,I,rfl,q⟩)
theorem Yb:cb X (compareOp .NotEq) WX:=by
 intro pins s σ H x y v u Q I rx ry h;obtain⟨hs,q⟩:=h
 cases x with
 |aI=>
  cases rx
  cases y with
  |aI=>cases ry; exact PySem.EqNone.ne_none_none (gr I q (by simp))
  |bl j=>cases ry; exact PySem.EqNone.ne_none_bool (gr I q (by simp))
  |int j=>obtain⟨t',rfl⟩:=ry; exact PySem.EqNone.ne_none_int (gr I q (by simp))
  |str j=>obtain⟨t',rfl⟩:=ry; exact PySem.EqNone.ne_none_str (gr I q (by simp))
  |_=>exact absurd (show false=true from hs) fo
 |bl i=>
  cases rx
  cases y with
  |aI=>cases ry; exact PySem.EqNone.ne_bool_none (gr I q (by simp))
  |bl j=>cases ry; exact ne_bool (gr I q (congrArg not aeq))
  |str j=>obtain⟨t',rfl⟩:=ry; exact PySem.EqMixed.ne_bool_str (gr I q (by simp))
  |_=>exact absurd (show false=true from hs) fo
 |int i=>
  obtain⟨t,rfl⟩:=rx
  cases y with
  |aI=>cases ry; exact PySem.EqNone.ne_int_none (gr I q (by simp))
  |int j=>obtain⟨t',rfl⟩:=ry; exact ne_int (gr I q (congrArg not aeo))
  |str j=>obtain⟨t',rfl⟩:=ry; exact PySem.EqMixed.ne_int_str (gr I q (by simp))
  |_=>exact absurd (show false=true from hs) fo
 |str i=>
  obtain⟨t,rfl⟩:=rx
  cases y with
  |aI=>cases ry; exact PySem.EqNone.ne_str_none (gr I q (by simp))
  |bl j=>cases ry; exact PySem.EqMixed.ne_str_bool (gr I q (by simp))
  |int j=>obtain⟨t',rfl⟩:=ry; exact PySem.EqMixed.ne_str_int (gr I q (by simp))
  |str j=>obtain⟨t',rfl⟩:=ry; exact ne_str (gr I q (congrArg not aen))
  |_=>exact absurd (show false=true from hs) fo
 |mf i=>
  obtain⟨t,rfl⟩:=rx
  cases y with
  |mf j=>obtain⟨t',rfl⟩:=ry; exact PySem.W.ne_bytes (gr I q (congrArg not aep))
  |_=>exact absurd (show false=true from hs) fo
 |_=>cases y <;> exact absurd (show false=true from hs) fo
theorem Ye:cb X (compareOp .Lt) (ou fun i j=>.bl (decide (i<j))):=EJ fun _ _ _ _ _ _ _ q=>lt_int q
theorem Yf:cb X (compareOp .LtE) (ou fun i j=>.bl (decide (i<=j))):=EJ fun _ _ _ _ _ _ _ q=>le_int q
theorem Mp:cb X (compareOp .Gt) (ou fun i j=>.bl (decide (j<i))):=EJ fun _ _ _ _ _ _ _ q=>gt_int q
theorem Yg:cb X (compareOp .In) (fun x y H Q=>∃i j,x=.str i/\y=.str j/\Q (.bl (!(Builtin.Str.occurrences j i 0 j.length 1).isEmpty)) H):=by
 intro pins s σ H x y v u Q I rx ry h;obtain⟨i,j,rfl,rfl,q⟩:=h;obtain⟨t,rfl⟩:=rx;obtain⟨t',rfl⟩:=ry;exact in_str (gr I q rfl)
theorem X6:cb X (compareOp .NotIn) (fun x y H Q=>∃i j,x=.str i/\y=.str j/\Q (.bl (!(!(Builtin.Str.occurrences j i 0 j.length 1).isEmpty))) H):=by
 intro pins s σ H x y v u Q I rx ry h;obtain⟨i,j,rfl,rfl,q⟩:=h;obtain⟨t,rfl⟩:=rx;obtain⟨t',rfl⟩:=ry;exact notIn_str (gr I q rfl)
theorem cb.or {f:Value->Value->Sem Value}{r r':R2}(h:cb X f r)(h':cb X f r'):cb X f (fun x y H Q=>r x y H Q∨r' x y H Q):=by
 intro pins s σ H x y v u Q I rx ry q;rcases q with q | q
 ·exact h pins s σ H x y v u Q I rx ry q
 ·exact h' pins s σ H x y v u Q I rx ry q
theorem bE (b:Expr){op:CmpOp}(h:op≠.In:=by decide)(h2:op≠.NotIn:=by decide):behindInMarks op b=false:=by
 have e1:(op==CmpOp.In)=false:=by cases op <;> first | rfl | exact absurd rfl h
 have e2:(op==CmpOp.NotIn)=false:=by cases op <;> first | rfl | exact absurd rfl h2
 cases b <;> simp [behindInMarks,e1,e2]
theorem XH {op:CmpOp}{r:R2}(ho:cb X (compareOp op) r)(ha:PE X a ta)(hb:PE X b tb)(hm:behindInMarks op b=false):PE X (.Compare a [op] [b] pos) (og r ta tb):=by
 intro pins s σ H Q I h;exact wpAny_Compare1 (Ib ha hb I h fun v u s2 x y H2 I2 rx ry q=>ho pins s2 σ H2 x y v u Q I2 rx ry q) hm
noncomputable def y6 (t:TE):TT:=fun σ H Q=>t σ H fun x H'=>∃k,x=.bl k/\Q k H'
theorem zw {op:CmpOp}{r:R2}(ho:cb X (compareOp op) r)(ha:PE X a ta)(hb:PE X b tb)(hm:behindInMarks op b=false):PT X (.Compare a [op] [b] pos) (y6 (og r ta tb)):=by
 intro pins s σ H Q I h;refine wpAny_isTrue_Compare1 (aC (ha pins s σ H _ I h) fun v s1 ⟨x,H1,I1,r1,q1⟩=>aC (hb pins s1 σ H1 _ I1 q1) fun u s2 ⟨y,H2,I2,r2,q2⟩=>
  aC (ho pins s2 σ H2 x y v u _ I2 r1 r2 q2) fun c s3 ⟨z,H3,I3,r3,k,e,q3⟩=>?_) hm
 subst e;cases r3;exact wpAny_truthy_bool (fun ht=>⟨H3,I3,q3⟩)
noncomputable def K6 (r r':R2)(ta tb tc:TE):TE:=fun σ H Q=>ta σ H fun x H1=>tb σ H1 fun y H2=>r x y H2 fun z H3=>∃k,z=.bl k/\
 (if k=true then tc σ H3 fun w' H4=>r' y w' H4 Q else Q (.bl false) H3)
theorem Xc {op cM:CmpOp}{r r':R2}(ho:cb X (compareOp op) r)(hW:cb X (compareOp cM) r')(ha:PE X a ta)(hb:PE X b tb)(hc:PE X c tc)
  (hm:lastMarks [op,cM] [b,c]=false:=by with_unfolding_all rfl):PT X (.Compare a [op,cM] [b,c] pos) (y6 (K6 r r' ta tb tc)):=by
 intro pins s σ H Q I h;refine isTrue_chain (aC (ha pins s σ H _ I h) fun v s1 ⟨x,H1,I1,r1,q1⟩=>test_link (aC (hb pins s1 σ H1 _ I1 q1) fun u s2 ⟨y,H2,I2,r2,q2⟩=>
  aC (ho pins s2 σ H2 x y v u _ I2 r1 r2 q2) fun d s3 ⟨z,H3,I3,r3,k,e,q3⟩=>?_)) hm
 subst e;cases r3;refine wpAny_truthy_bool ?_
 cases k with
 |false=>
  obtain⟨k',e',q'⟩:=q3;cases e';exact ite_ff (fun ht=>⟨H3,I3,q'⟩)
 |true=>
  refine ite_tt (test_last (aC (hc pins s3 σ H3 _ I3 q3) fun w' s4 ⟨z',H4,I4,r4,q4⟩=>aC (hW pins s4 σ H4 y z' u w' _ I4 r2 r4 q4) fun d' s5 ⟨z2,H5,I5,r5,k2,e2,q5⟩=>?_));subst e2;cases r5;exact wpAny_truthy_bool (fun ht=>⟨H5,I5,q5⟩)
theorem wM:(sizeLine:Nat)<2 ^ 63:=by rw [sizeLine_eq]; decide
theorem Yn:cb X (binaryOp .Add) (fun x y H Q=>∃i j,x=.str i/\y=.str j/\i.length+j.length<=sizeLine/\Q (.str (i++j)) H):=by
 intro pins s σ H x y v u Q I rx ry h;obtain⟨i,j,rfl,rfl,hz,q⟩:=h;obtain⟨t,rfl⟩:=rx;obtain⟨t',rfl⟩:=ry;exact add_str (fun t' tk=>(fun ht=>⟨.str (i++j),H,I.tok _,⟨_,rfl⟩,q⟩)) hz
theorem vals1 {x:V}{us:List Value}(r:Vals [x] us):∃u,us=[u]/\RelV x u:=by
 cases r with
 |cons r1 r2=>cases r2; exact⟨_,rfl,r1⟩
theorem vals2 {x y:V}{us:List Value}(r:Vals [x,y] us):∃u w',us=[u,w']/\RelV x u/\RelV y w':=by
 cases r with
 |cons r1 r2=>
  cases r2 with
  |cons r3 r4=>cases r4; exact⟨_,_,rfl,r1,r3⟩
theorem aeW (hc:X.calm=true):fi X (.builtin "min") (fun xs H Q=>∃i j,xs=[.int i,.int j]/\Q (.int (if j<i then j else i)) H):=by
 intro pins s σ H xs us Q I r h;obtain⟨i,j,rfl,q⟩:=h;obtain⟨u,w',rfl,⟨t,rfl⟩,⟨t',rfl⟩⟩:=vals2 r;refine min_two_ints (I.ok.hd hc) fun h' tk k=>(fun ht=>⟨_,H,I.kept k,?_,q⟩)
 by_cases hj:j<i
 ·rw [if_pos hj,if_pos hj]; exact⟨_,rfl⟩
 ·rw [if_neg hj,if_neg hj]; exact⟨_,rfl⟩
theorem ae1:fi X (.type "int") (fun xs H Q=>(∃i,xs=[.int i]/\Q (.int i) H)∨∃k,xs=[.bl k]/\Q (.int (if k then 1 else 0)) H):=by
 intro pins s σ H xs us Q I r h;rcases h with ⟨i,rfl,q⟩ | ⟨k,rfl,q⟩
 ·obtain⟨u,rfl,t,rfl⟩:=vals1 r
  exact call_int_int (fun ht=>⟨.int i,H,I,⟨_,rfl⟩,q⟩)
 ·obtain⟨u,rfl,r1⟩:=vals1 r
  cases r1;exact call_int_bool (fun ht=>⟨.int (if k then 1 else 0),H,I.tok _,⟨_,rfl⟩,q⟩)
end
structure rK (h:Heap) (x dx C:Addr) (mA:Str->Option Value):Prop where
 obj:h.get? x=some (nS C dx)
 ns:h.Ns1 dx mA
 ne:dx≠x
theorem Z2 {h:Heap}{dx:Addr}{mA:Str->Option Value}(n:h.Ns1 dx mA):∃od,h.get? dx=some od/\∀name,yp name od=some (mA name):=by
 obtain⟨o,es,ep,ho,hd,hk,_,hm⟩:=n;refine⟨o,ho,fun name=>?_⟩;have e:=hm name;unfold nsFind findBy at e;rw [← Array.find?_toList] at e;unfold yp;rw [hd]
 dsimp only
 split
 ·rename_i y q
  rw [q] at e;exact congrArg some e
 ·rename_i q
  rw [q] at e;have a:es.toList.any (·.refKey)=false:=by
   rw [List.any_eq_false];intro y hy;obtain⟨z,t,Gr⟩:=hk y (Array.mem_toList_iff.mp hy);simp [DictEntry.refKey,Gr]
  have a':¬ es.toList.any (·.refKey)=true:=by rw [a]; exact fo
  rw [if_neg a'];exact congrArg some e
theorem rK.look {h:Heap}{x dx C:Addr}{mA:Str->Option Value}(I:rK h x dx C mA):∃od,PySem.W.InstAt h x (nS C dx) C (some od)/\∀name,yp name od=some (mA name):=
 let ⟨od,ho,hl⟩:=Z2 I.ns
 ⟨od,⟨I.obj,rfl,rfl,ho⟩,hl⟩
section
variable {prog:Program}{w:World}{A:Around}{E:Value->Shared->Prop}{s:Shared}{K:ah}{x dx C f:Addr}{mA:Str->Option Value}{name:Str}{v:Value}
theorem get_map {expr:Bool}{Q:Value->Shared->Prop}(X:K.In s.heap)(I:rK s.heap x dx C mA)(hg:yv K C name=true)(hh:B5 K C=true)
  (ha:mC K (.ref C) name=some none) (hv:mA name=some v) (qG:PySem.W.handedIn v=true) (h:Q v {s with toks:=s.toks+1}) :
  wpAny (model prog w) A (getAttr (.ref x) name expr) Q E s:=by
 obtain⟨od,J,hl⟩:=I.look;exact PySem.W.get_value X J (Ca hg).1 (PySem.W.findObj_own hh ha rfl (by rw [hl,hv])) qG h
theorem acV {pl:Sem Bool}{Q:Value×List Value->Shared->Prop}(X:K.In s.heap)(I:rK s.heap x dx C mA)(hg:yv K C name=true)
  (hf:mC K (.ref C) name=some (some (.ref f))) (ht:PySem.W.isFn K (.ref f)=true) (hv:mA name=none) (h:Q (.ref f,[.ref x]) s) :
  wpAny (model prog w) A (getMethod (.ref x) name pl) Q E s:=by
 obtain⟨od,J,hl⟩:=I.look;exact PySem.W.method_fn X J (Ca hg).1 (Ca hg).2 hf (beq_iff_eq.mp ht) (by show (yp name od).map (·.isSome)=some false; rw [hl,hv]; rfl) h
theorem VC {ns:List Str}{Q:Unit->Shared->Prop}(X:K.In s.heap)(I:rK s.heap x dx C mA)
  (hs:mC K (.ref C) "__setattr__" = some (some (.builtin "object.__setattr__"))) (hp:PySem.W.plainOver K C=true) (ht:PySem.W.takerIn K C name=some none) (hh:B5 K C=true)
  (hw:PySem.Within mA ns) (hsz:ns.length<=sizeLine)
  (h:∀h',rK h' x dx C (fun y=>if y=name then some v else mA y)->j9 dx s.heap h'->Q () {s with heap:=h',toks:=s.toks+2}) :
  wpAny (model prog w) A (setAttr (.ref x) name v) Q E s:=by
 obtain⟨od,J,hl⟩:=I.look;refine PySem.W.set_plain X J hs (PySem.W.osa_open (s:={s with toks:=s.toks+1}) (r:=none) X J hp ht fun b=>?_);obtain⟨cd,hc,oZ⟩:=PySem.W.any_some hh;have hx:s.heap.get? x=some ⟨.ref C,some dx,.plain,#[]⟩:=I.obj;refine wpAny_bind (wpAny_pure (wpAny_bind (wpAny_bind (wpAny_loadPart hx (wpAny_bind (PySem.W.Looks.here (s:={s with toks:=s.toks+1}) (PySem.W.looks_clsIn X hc) ?_))))));rw [oZ];refine wpAny_pure (a:=some dx) (wpAny_bind (wpAny_pure (wpAny_bind ?_)));refine wpAny_nsSet1 (s:={s with toks:=s.toks+1}) I.ns fun h' xi eY=>?_;obtain⟨oD,esD,epD,hoD,hdD,hcD⟩:=xi.count (PySem.Within.cons name v hw);refine wpAny_bind (wpAny_lookBehind hoD (by rw [hdD]; exact pastItsLine_dict (c9 hcD (by rw [eg]; omega))) ?_);exact wpAny_pure (h _ ⟨(eY.2 _ (bY I.ne)).trans I.obj,xi,I.ne⟩ eY)
theorem ZR {R:Result->Shared->Prop}{vs:List Value}{kw:List (Str×Value)}(X:K.In s.heap)(hm:PySem.W.makesIn K C=true)
  (hi:mC K (.ref C) "__init__" = some (some (.ref f))) (hf:PySem.W.typeIn K (.ref f)=some (.type "function"))
  (h:codeAny (model prog w) (A.under (.builtin "type.__call__" ⟨.ref C::vs,kw⟩)) (.call (.ref f) ⟨.ref (s.heap.objs.size+1)::vs,kw⟩) (PySem.W.InitBack (s.heap.objs.size+1) R)
   {s with heap:=(s.heap.push mF).push (nS C s.heap.objs.size)}) :
  codeAny (model prog w) A (.call (.ref C) ⟨vs,kw⟩) R s:=by
 obtain⟨hh,g,d,t,os⟩:=s;exact PySem.W.make_core (PySem.W.makes_of X hm) (PySem.W.looks_findIn X hi) (fun self=>PySem.W.bind_fn X self hf) (.inl rfl) h
end
noncomputable def gN (f:Str)(v:V):List (Str×V)->List (Str×V)
 | []=>[(f,v)]
 | (g,x)::r=>if g=f then (g,v)::r else (g,x)::gN f v r
theorem Nk (f g:Str)(v:V):∀fs:List (Str×V),(gN f v fs).lookup g=if g=f then some v else fs.lookup g
 | []=>by
  show pH g [(f,v)]=_
  by_cases h:g=f
  ·have hb:(g==f)=true:=beq_iff_eq.mpr h
   simp only [pH,hb,if_pos h]
  ·have hb:(g==f)=false:=beq_eq_false_iff_ne.mpr h
   simp only [pH,hb,if_neg h]
 | (k,x)::r=>by
  have ih:=Nk f g v r;rw [show gN f v ((k,x)::r)=(if k=f then (k,v)::r else (k,x)::gN f v r) from rfl]
  by_cases hk:k=f
  ·rw [if_pos hk]
   by_cases h:g=k
   ·have hb:(g==k)=true:=beq_iff_eq.mpr h
    simp only [pH,hb,if_pos (h.trans hk)]
   ·have hb:(g==k)=false:=beq_eq_false_iff_ne.mpr h
    simp only [pH,hb,if_neg (fun e:g=f=>h (e.trans hk.symm))]
  ·rw [if_neg hk]
   by_cases h:g=k
   ·have hb:(g==k)=true:=beq_iff_eq.mpr h
    simp only [pH,hb,if_neg (fun e:g=f=>hk (h.symm.trans e))]
   ·have hb:(g==k)=false:=beq_eq_false_iff_ne.mpr h
    simp only [pH,hb];exact ih
theorem Fm (f:Str)(v:V):∀fs:List (Str×V),f∈(gN f v fs).map (·.1)/\∀g,g∈fs.map (·.1)->g∈(gN f v fs).map (·.1)
 | []=>⟨by simp [gN],fun g h=>by simp at h⟩
 | (k,x)::r=>by
  obtain⟨i1,i2⟩:=Fm f v r;rw [show gN f v ((k,x)::r)=(if k=f then (k,v)::r else (k,x)::gN f v r) from rfl]
  by_cases hk:k=f
  ·rw [if_pos hk]
   subst hk;exact⟨by simp,fun g h=>by simpa using h⟩
  ·rw [if_neg hk]
   refine⟨?_,fun g h=>?_⟩
   ·rw [bG]
    exact cy _ i1
   ·rw [bG] at h ⊢
    rcases ba.mp h with e | e
    ·exact ba.mpr (.inl e)
    ·exact cy _ (i2 g e)
theorem Np (f:Str)(v:V):∀fs:List (Str×V),(gN f v fs).length<=fs.length+1
 | []=>by simp [gN]
 | (k,x)::r=>by
  have ih:=Np f v r;rw [show gN f v ((k,x)::r)=(if k=f then (k,v)::r else (k,x)::gN f v r) from rfl]
  by_cases hk:k=f
  ·rw [if_pos hk,eg,eg]; omega
  ·rw [if_neg hk,eg,eg]; omega
theorem fE.some_of {v:V}{o:Option Value}(r:fE (some v) o):∃u,o=some u/\RelV v u:=by
 cases o with
 |none=>exact(show False from r).elim
 |some u=>exact⟨u,rfl,r⟩
theorem fE.none_of {o:Option Value}(r:fE none o):o=none:=by
 cases o with
 |none=>rfl
 |some u=>exact(show False from r).elim
theorem acn {v:V}{u:Value}(r:RelV v u):PySem.W.handedIn u=true:=by
 cases v with
 |aI=>cases (show u=gu from r); rfl
 |bl b=>cases (show u=Value.bool b from r); rfl
 |int i=>obtain⟨t,e⟩:=(show ∃t,u=Value.int i t from r); cases e; rfl
 |str x=>obtain⟨t,e⟩:=(show ∃t,u=pG x t from r); cases e; rfl
 |mf b=>obtain⟨t,e⟩:=(show ∃t,u=Value.bytes b t from r); cases e; rfl
 |AW b=>obtain⟨t,e⟩:=(show ∃t,u=Value.float b t from r); cases e; rfl
 |ref a=>cases (show u=bI a from r); rfl
 |ty n=>cases (show u=n5 n from r); rfl
section
variable {P:Program}{w:World}{H H':Hp}{h h':Heap}{a C dx:Addr}{fs rh:List (Str×V)}
theorem FO (ar:cq P w H h)(e:H a=some (.ins C dx fs)):∃mA,rK h a dx C mA/\(∀f,fE (fs.lookup f) (mA f))/\PySem.Within mA (fs.map (·.1))/\fs.length<=1000/\H dx=some (.own a):=by
 obtain⟨d,z,ne,ob,mA,n,r,q⟩:=(show c8 P w H h a (.ins C dx fs) from ar a _ e)
 exact⟨mA,⟨ob,n,ne⟩,r,q,z,d⟩
end
structure mv (K:ah) (C:Addr):Prop where
 pg:yv K C Str.empty=true
 hd:B5 K C=true
 po:PySem.W.plainOver K C=true
 sa:mC K (.ref C) "__setattr__" = some (some (.builtin "object.__setattr__"))
theorem mv.get {K:ah}{C:Addr}(c:mv K C)(f:Str):yv K C f=true:=c.pg
noncomputable def pw (K:ah)(C:Addr)(f:Str):Prop:=mC K (.ref C) f=some none
theorem pw.Ur {K:ah}{C:Addr}{f:Str}(n:pw K C f):PySem.W.takerIn K C f=some none:=by
 unfold PySem.W.takerIn;rw [show mC K (.ref C) f=some none from n];rfl
structure Meth (K:ah) (C:Addr) (m:Str) (f:Addr):Prop where
 at_:mC K (.ref C) m=some (some (.ref f))
 fn:PySem.W.isFn K (.ref f)=true
 kp:lj K (.ref f)=true
section
variable {X:Cx}{pins:List (Addr×Obj)}{σ:St}{H:Hp}{s:Shared}{a C dx:Addr}{fs:List (Str×V)}{f:Str}{v:V}{A:Around}{E:Value->Shared->Prop}
theorem acU {b:Bool}{Q:Value->Shared->Prop}(I:Inv X pins σ H s)(e:H a=some (.ins C dx fs))(c:mv X.K C)(n:pw X.K C f)(l:fs.lookup f=some v)
  (h:∀u s',Inv X pins σ H s'->RelV v u->Q u s'):wpAny (model X.prog X.w) A (getAttr (.ref a) f b) Q E s:=by
 obtain⟨mA,O,r,_,_,_⟩:=FO I.ar e;obtain⟨u,hu,ru⟩:=fE.some_of (v:=v) (o:=mA f) (by rw [← l]; exact r f);exact get_map I.eL O (c.get f) c.hd n hu (acn ru) (h u _ (I.tok _) ru)
theorem Pl {m:Str}{g:Addr}{pl:Sem Bool}{Q:Value×List Value->Shared->Prop}(I:Inv X pins σ H s)(e:H a=some (.ins C dx fs))(c:mv X.K C)(k:Meth X.K C m g)(l:fs.lookup m=none)
  (h:Q (.ref g,[.ref a]) s):wpAny (model X.prog X.w) A (getMethod (.ref a) m pl) Q E s:=by
 obtain⟨mA,O,r,_,_,_⟩:=FO I.ar e;have hn:mA m=none:=fE.none_of (by rw [← l]; exact r m);exact acV I.eL O (c.get m) k.at_ k.fn hn h
theorem VB {y:V}{u:Value}{Q:Unit->Shared->Prop}(I:Inv X pins σ H s)(e:H a=some (.ins C dx fs))(c:mv X.K C)(n:pw X.K C f)(hl:fs.length<1000)(ry:RelV y u)
  (h:∀s',Inv X pins σ (upd H a (.ins C dx (gN f y fs))) s'->Q () s'):wpAny (model X.prog X.w) A (setAttr (.ref a) f u) Q E s:=by
 obtain⟨mA,O,r,wi,_,ho⟩:=FO I.ar e;have hz:(fs.map (·.1)).length<=sizeLine:=by rw [ef,sizeLine_eq]; omega
 refine VC I.eL O c.sa c.po n.Ur c.hd wi hz fun h' O' sb=>h _ ?_;have hd:∃o,h'.get? dx=some o:=let ⟨o,_,_,e',_⟩:=O'.ns; ⟨o,e'⟩
 refine I.write (x:=a) (e:=dx) (by rw [e]; exact lA) (.inr ho) (fun b q hb z=>(sb.2 b hb).trans z) hd ?_ (by first | exact I.tk | exact Nat.succ_pos _);refine⟨by rw [aF O.ne]; exact ho,?_,O.ne,O'.obj,_,O'.ns,fun g=>?_,fun g hg=>?_⟩
 ·have:=Np f y fs; omega
 ·show fE ((gN f y fs).lookup g) (if g=f then some u else mA g)
  rw [Nk]
  by_cases q:g=f
  ·rw [if_pos q,if_pos q]; exact ry
  ·rw [if_neg q,if_neg q]; exact r g
 ·by_cases q:g=f
  ·rw [q]; exact(Fm f y fs).1
  ·refine(Fm f y fs).2 g (wi g fun z=>hg ?_)
   show (if g=f then some u else mA g)=none;rw [if_neg q]; exact z
theorem Inv.made (I:Inv X pins σ H s):Inv X pins σ (upd (upd H s.heap.objs.size (.own (s.heap.objs.size+1))) (s.heap.objs.size+1) (.ins C s.heap.objs.size []))
  {s with heap:=(s.heap.push mF).push (nS C s.heap.objs.size)}:=by
 have e1:(s.heap.push mF).get? s.heap.objs.size=some mF:=cN s.heap rfl;have e2:((s.heap.push mF).push (nS C s.heap.objs.size)).get? (s.heap.objs.size+1)=some (nS C s.heap.objs.size):=by
  have:=cN (s.heap.push mF) (o:=nS C s.heap.objs.size) rfl
  rwa [kc] at this
 have e3:(s.heap.push mF).Ns s.heap.objs.size (fun _=>none):=⟨mF,#[],_,e1,rfl,(fun e he=>absurd he (by simp)),fun _=>rfl⟩
 have I1:=I.laid (a:=s.heap.objs.size) (o:=.own (s.heap.objs.size+1)) (h':=s.heap.push mF) (t':=s.toks) (fun b u q=>aW _ q) (bc _) ⟨_,e1⟩;refine I1.laid (a:=s.heap.objs.size+1) (o:=.ins C s.heap.objs.size []) (t':=s.toks) (fun b u q=>aW _ q) (Nat.le_of_eq (kc _ _)) ?_;have ne:s.heap.objs.size≠s.heap.objs.size+1:=bJ (yu _);refine⟨by rw [aF ne,aU],gw _,ne,e2,fun _=>none,(Heap.Ns1.of_empty e3).at fun o q=>aW _ q,fun _=>lA,fun y hy=>absurd rfl hy⟩
theorem afy {prog:Program}{w:World}{env:Env}{e:Expr}{f:Str}{pos:Pos}{s:Shared}{Q:Value->Shared->Prop}(hb:attributeBase e f env (eval e env)=eval e env)
  (h:wpAny (model prog w) A (eval e env) (fun o aT=>wpAny (model prog w) A (getAttr o f true) Q E aT) E s):wpAny (model prog w) A (eval (.Attribute e f pos) env) Q E s:=
 Attribute_any_ h (by rw [arm_eval_Attribute,hb])
end
noncomputable def K3 (K:ah)(ta:TE)(f:Str):TE:=fun σ H Q=>ta σ H fun x H1=>∃a C dx fs v,x=.ref a/\H1 a=some (.ins C dx fs)/\mv K C/\pw K C f/\fs.lookup f=some v/\Q v H1
noncomputable def D3 (K:ah)(ta tv:TE)(f:Str):TS:=fun D σ H=>tv σ H fun y H1=>ta σ H1 fun x H2=>∃a C dx fs,x=.ref a/\H2 a=some (.ins C dx fs)/\mv K C/\pw K C f/\fs.length<1000/\
 D.nx σ (upd H2 a (.ins C dx (gN f y fs)))
section
variable {X:Cx}{o e value:Expr}{f:Str}{pos pos' pS:Pos}{ta tv:TE}
theorem qk (he:PE X e ta)(hb:attributeBase e f X.env (eval e X.env)=eval e X.env):PE X (.Attribute e f pos) (K3 X.K ta f):=by
 intro pins s σ H Q I h;refine afy hb (aC (he pins s σ H _ I h) fun u s1 ⟨x,H1,I1,rx,a,C,dx,fs,v,ex,ea,c,n,l,q⟩=>?_);subst ex;obtain rfl:u=bI a:=rx;exact acU I1 ea c n l fun u' s2 I2 ru=>(fun ht=>⟨v,H1,I2,ru,q⟩)
theorem LX (ha:PE X o ta)(hv:PE X value tv)(hs:swapsWith value (some (.Attribute o f pos')) pos.line X.env=pure false):PS X (.Assign [.Attribute o f pos'] value pos) (D3 X.K ta tv f):=by
 intro pins s σ H D I h;refine plainObj_wpAny_Assign_Attribute (aC (hv pins s σ H _ I h) fun u s1 ⟨y,H1,I1,ry,q⟩=>aC (ha pins s1 σ H1 _ I1 q) fun ov s2 ⟨x,H2,I2,rx,a,C,dx,fs,ex,ea,c,n,l,q2⟩=>?_) hs;subst ex;obtain rfl:ov=bI a:=rx;exact VB I2 ea c n l ry fun s3 I3=>(fun ht=>⟨σ,_,I3,q2⟩)
end
structure bF (k:Nat) (A:Around):Prop where
 hd:A.handled=none
 dp:A.depth+3 * k+5<recursionLimit
 un:A.units+16 * k+200<cLine
 gd:A.guards=some []
theorem bF.mono {j k:Nat}{A:Around}(r:bF k A)(h:j<=k):bF j A:=⟨r.hd,by have:=r.dp; omega,by have:=r.un; omega,r.gd⟩
theorem bF.deeper {k:Nat}{A:Around}(r:bF (k+1) A)(env:Env):bF k (A.deeper env):=
 ⟨r.hd,by have:=r.dp; show A.depth+1+3 * k+5<_; omega,by have:=r.un; show A.units+3+16 * k+200<_; omega,r.gd⟩
theorem ZS {A:Around}{C:Addr}{us:List Value}{kw:List (Str×Value)}:(A.under (.builtin "type.__call__" ⟨.ref C::us,kw⟩)).depth=A.depth+1:=by
 first | rfl | simp [ym,Code.weight,Code.isCreation,Code.isGuard,Code.isCaller,Code.frames,Code.isFrame,guardIds]
theorem ZQ {A:Around}{C:Addr}{us:List Value}{kw:List (Str×Value)}:(A.under (.builtin "type.__call__" ⟨.ref C::us,kw⟩)).units=A.units+1:=by
 first | rfl | simp [ym,Code.cUnits,Code.frames,Code.isFrame]
theorem bF.make {k:Nat}{A:Around}(r:bF (k+1) A)(C:Addr)(us:List Value)(kw:List (Str×Value)):bF k (A.under (.builtin "type.__call__" ⟨.ref C::us,kw⟩)):=
 ⟨r.hd,by have:=r.dp; rw [ZS]; omega,by have:=r.un; rw [ZQ]; omega,by have g:=r.gd; simp [ym,Code.guards,Code.isGuard,guardIds,pushGuards,g]⟩
theorem bF.depth {k:Nat}{A:Around}(r:bF k A):A.depth<recursionLimit:=by have:=r.dp; omega
noncomputable def jD:TA:=fun _ H Q=>Q [] H
noncomputable def mP (ta:TE)(tr:TA):TA:=fun σ H Q=>ta σ H fun x H1=>tr σ H1 fun xs H2=>Q (x::xs) H2
section
variable {X:Cx}{e:Expr}{es:List Expr}{te:TE}{t:TA}{pos:Pos}
theorem cL:PA X [] jD:=fun _ _ _ _ H Q I h=>mE (fun ht=>⟨[],H,I,.nil,h⟩)
theorem XN (ha:PE X e te)(hr:PA X es t)(hs:starEach (e::es) X.env=(false,eval e X.env)::starEach es X.env:=by rfl):PA X (e::es) (mP te t):=by
 intro pos pins s σ H Q I h;rw [hs];show wpAny _ _ (spliced ((false,eval e X.env)::backTo pos (starEach es X.env))) _ _ s;refine lr (aC (ha pins s σ H _ I h) fun u s1 ⟨x,H1,I1,r1,q1⟩=>?_);exact aC (hr pos pins s1 σ H1 _ I1 q1) fun us s2 ⟨xs,H2,I2,r2,q2⟩=>(fun ht=>⟨x::xs,H2,I2,.cons r1 r2,q2⟩)
noncomputable def C8 (t:TA):TE:=fun σ H Q=>t σ H fun xs H1=>xs.length<=sizeLine/\∀p,H1 p=none->Q (.ref p) (upd H1 p (.tup xs))
noncomputable def Dg (t:TA):TE:=fun σ H Q=>t σ H fun xs H1=>xs.length<=sizeLine/\∀p,H1 p=none->Q (.ref p) (upd H1 p (.lst xs))
theorem zD {x1}(h:PA X es t):PE X (.Tuple es x1 pos) (C8 t):=by
 intro pins s σ H Q I hq;refine wpAny_Tuple_spliced (aC (h pos pins s σ H _ I hq) fun us s1 ⟨xs,H1,I1,r,z,q⟩=>⟨by rw [← r.length]; exact z,?_⟩);have hf:H1 s1.heap.objs.size=none:=I1.ar.fresh (bc _);refine(fun ht=>⟨.ref s1.heap.objs.size,upd H1 s1.heap.objs.size (.tup xs),I1.laid (t':=s1.toks) (fun b u e=>aW _ e) (bc _) ?_,rfl,q _ hf⟩);exact⟨z,us,r,⟨_,cN _ rfl,rfl,_,rfl⟩⟩
theorem m4 (h:PA X es t):PE X (.List es pos) (Dg t):=by
 intro pins s σ H Q I hq;refine wpAny_List_spliced (aC (h pos pins s σ H _ I hq) fun us s1 ⟨xs,H1,I1,r,z,q⟩=>⟨by rw [← r.length]; exact z,?_⟩);have hf:H1 s1.heap.objs.size=none:=I1.ar.fresh (bc _);refine(fun ht=>⟨.ref s1.heap.objs.size,upd H1 s1.heap.objs.size (.lst xs),I1.laid (t':=s1.toks) (fun b u e=>aW _ e) (bc _) ?_,rfl,q _ hf⟩);exact⟨z,us,0,r,cN _ rfl⟩
end
noncomputable abbrev Sp:=List V->Hp->VK->XK->Prop
noncomputable abbrev fU:=List Env->Hp->Shared->XK->Value->Shared->Prop
structure iW (P:Program) (w:World) (K:ah) (mg:Str->Option Value) (base:Heap) (A:Around) (outer:List Env) (s:Shared) (H:Hp):Prop where
 frames:A.frames=some outer
 mod:Mod K mg base
 bs:∀b o,base.get? b=some o->s.heap.get? b=some o/\H b=none
 iQ:base.objs.size<=s.heap.objs.size
 en:s.heap.FunFrames base outer
 gq:∀b∈aE outer,H b=none
 ar:cq P w H s.heap
 bare:AllBare s.gens
noncomputable def CE (outer:List Env)(P:Program)(w:World)(H:Hp)(s:Shared)(Q:VK)(u:Value)(s':Shared):Prop:=
 ∃v H',s'.os=s.os/\AllBare s'.gens/\Un (aE outer) [] H H' s.heap s'.heap/\cq P w H' s'.heap/\RelV v u/\Q v H'
noncomputable def CR (CX:fU)(outer:List Env)(P:Program)(w:World)(H:Hp)(s:Shared)(Q:VK)(E:XK)(r:Result)(s':Shared):Prop:=
 match r with
 |.ok (.ret u)=>CE outer P w H s Q u s'
 |.ok _=>False
 |.error e=>CX outer H s E e s'
noncomputable abbrev dz:Str:="_law_script"
structure cS (P:Program) (w:World) (K:ah) (mg:Str->Option Value) (base:Heap) (CX:fU) (k:Nat) (f:Addr) (fd:FuncData) (ps:List Str) (sp:Sp):Prop where
 len:∀vs H Q E,sp vs H Q E->vs.length=ps.length
 run:∀(A:Around) (outer:List Env) (s:Shared) (H:Hp) (args:Args) (us:List Value) (vs:List V) (Q:VK) (E:XK),bF k A->iW P w K mg base A outer s H->(0<s.toks∨ps=[dz])->BindsTo s fd args (ps.zip us)->Vals vs us->sp vs H Q E->
  codeAny (model P w) A (.call (.ref f) args) (CR CX outer P w H s Q E) s
theorem cS.imp {P:Program}{w:World}{K:ah}{mg:Str->Option Value}{base:Heap}{CX:fU}{k:Nat}{f:Addr}{fd:FuncData}{ps:List Str}{sp Lm:Sp}(F:cS P w K mg base CX k f fd ps sp)
  (h:∀vs H Q E,Lm vs H Q E->sp vs H Q E):cS P w K mg base CX k f fd ps Lm:=
 ⟨fun vs H Q E q=>F.len vs H Q E (h _ _ _ _ q),fun A outer s H args us vs Q E hr he ht hb hv hs=>F.run A outer s H args us vs Q E hr he ht hb hv (h _ _ _ _ hs)⟩
theorem iW.make {P:Program}{w:World}{K:ah}{mg:Str->Option Value}{base:Heap}{A:Around}{outer:List Env}{s:Shared}{H:Hp}(e:iW P w K mg base A outer s H)(C:Addr)(us:List Value)(kw:List (Str×Value)) :
  iW P w K mg base (A.under (.builtin "type.__call__" ⟨.ref C::us,kw⟩)) outer s H:=⟨by first | exact e.frames | (simpa [ym,Code.envs,Code.isFrame,pushEnvs] using e.frames),e.mod,e.bs,e.iQ,e.en,e.gq,e.ar,e.bare⟩
section
variable {X:Cx}{pins:List (Addr×Obj)}{σ:St}{H:Hp}{s s':Shared}
theorem Inv.xC (I:Inv X pins σ H s):iW X.prog X.w X.K X.mg X.base X.A X.stack s H:=
 ⟨I.ok.frames,I.ok.mod,I.bs,c9 I.ok.iQ I.sz,I.stack,I.vW,I.ar,I.bare⟩
theorem Inv.after {Q:VK}{u:Value}(I:Inv X pins σ H s)(h:CE X.stack X.prog X.w H s Q u s'):EP X pins σ Q u s':=by
 obtain⟨v,H',os,bare,un,ar,r,q⟩:=h;obtain⟨hh,g,d,t,kB⟩:=s';obtain rfl:kB=s.os:=os;exact(fun ht=>⟨v,H',I.call (h':=hh) (g':=g) (d':=d) (t':=t) (ch:=[]) un ar bare (fun b z=>absurd z (by simp)),r,q⟩)
end
noncomputable def K7 (sp:Sp)(dvs:List V)(E:XK)(t:TA):TE:=fun σ H Q=>t σ H fun vs H1=>sp (vs++dvs) H1 Q E
noncomputable def KZ (C:Addr)(m:Str)(sp:Sp)(dvs:List V)(E:XK)(ta:TE)(t:TA):TE:=fun σ H Q=>ta σ H fun x H1=>∃a dx fs,x=.ref a/\H1 a=some (.ins C dx fs)/\fs.lookup m=none/\
 t σ H1 fun vs H2=>sp (x::(vs++dvs)) H2 Q E
noncomputable def US (C:Addr)(sp:Sp)(dvs:List V)(E:XK)(t:TA):TE:=fun σ H Q=>t σ H fun vs H1=>∀x dx,H1 x=none->H1 dx=none->dx≠x->
 sp (.ref x::(vs++dvs)) (upd (upd H1 dx (.own x)) x (.ins C dx [])) (fun v H2=>v=.aI/\Q (.ref x) H2) E
noncomputable def Binds (K:ah)(fd:FuncData)(ps:List Str)(ds:List Value):Prop:=
 ∀(s:Shared) (us:List Value),K.In s.heap->(us++ds).length=ps.length->BindsTo s fd ⟨us,[]⟩ (ps.zip (us++ds))
theorem Binds.all {K:ah}{fd:FuncData}{ps:List Str}(h:∀us:List Value,us.length=ps.length->bindArgs fd ⟨us,[]⟩=pure (ps.zip us)):Binds K fd ps []:=fun s us _ hl=>by
 rw [nV] at hl ⊢;exact .of_eq (h us hl)
noncomputable def Passes (CX:fU)(X:Cx)(E:XK):Prop:=∀(pins:List (Addr×Obj)) (σ:St) (H:Hp) (s:Shared) (e:Value) (s':Shared),Inv X pins σ H s->CX X.stack H s E e s'->X.xe e s'
section
variable {X:Cx}{CX:fU}{k:Nat}{f C:Addr}{fd:FuncData}{ps:List Str}{sp:Sp}{dvs:List V}{ds:List Value}{E:XK}{x m:Str}{p pos apos:Pos}{e o:Expr}{es:List Expr}{ta:TE}{t:TA}
theorem D8 {pins:List (Addr×Obj)}{σ:St}{H:Hp}{s:Shared}{Q:VK}{us:List Value}{vs:List V}(F:cS X.prog X.w X.K X.mg X.base CX k f fd ps sp)(hr:bF k X.A)(hb:Binds X.K fd ps ds)(hd:Vals dvs ds)(hx:Passes CX X E)
  (I:Inv X pins σ H s) (r:Vals vs us) (h:sp (vs++dvs) H Q E):wpAny (model X.prog X.w) X.A (call (.ref f) us) (EP X pins σ Q) X.xe s:=by
 have r2:Vals (vs++dvs) (us++ds):=r.append hd;have hl:(us++ds).length=ps.length:=by rw [← r2.length]; exact F.len _ _ _ _ h
 refine wpAny_call (codeAny_mono (F.run X.A X.stack s H ⟨us,[]⟩ (us++ds) (vs++dvs) Q E hr I.xC (.inl I.tk) (hb s us I.eL hl) r2 h) fun r s' hq=>?_)
 cases r with
 |error e=>exact hx pins σ H s e s' I hq
 |ok fl=>
  cases fl with
  |ret u=>exact I.after hq
  |next=>exact dq hq
  |brk=>exact dq hq
  |cont=>exact dq hq
theorem XI (F:cS X.prog X.w X.K X.mg X.base CX k f fd ps sp)(hr:bF k X.A)(hg:Gl X x)(hm:X.mg x=some (.ref f))(hk:lj X.K (.ref f)=true)(hb:Binds X.K fd ps ds)(hd:Vals dvs ds)(hx:Passes CX X E)
  (ha:PA X (e::es) t) (gk:(x==("__debug__" : Str))=false:=by decide) (he:starEach (e::es) X.env=(false,eval e X.env)::starEach es X.env:=by rfl) (dA:(backTo pos (starEach es X.env)).any (·.1)=false:=by rfl) :
  PE X (.Call (.Name x p) (e::es) [] pos) (K7 sp dvs E t):=by
 intro pins s σ H Q I h;refine wpAny_Call_Name_kw (tV I hg hm ?_ gk);refine yA (h₀:=X.base) I.ok.mod.kE hk (aC (ha pos pins s σ H _ I h) fun us s1 ⟨vs,H1,I1,r,q⟩=>⟨I1.eL,?_⟩) he dA;exact D8 F hr hb hd hx I1 r q
theorem XA {pl:Sem Bool}(he:PE X o ta)(c:mv X.K C)(hm:Meth X.K C m f)(F:cS X.prog X.w X.K X.mg X.base CX k f fd ps sp)(hr:bF k X.A)(hb:Binds X.K fd ps ds)(hd:Vals dvs ds)(hx:Passes CX X E)(ha:PA X (e::es) t)
  (bj:starEach (e::es) X.env=(false,eval e X.env)::starEach es X.env:=by rfl) (dA:(backTo pos (starEach es X.env)).any (·.1)=false:=by rfl)
  (ht:eval (.Call (.Attribute o m apos) (e::es) [] pos) X.env=(do
   let ov ← eval o X.env
   standAt apos.atName
   let (f,first) ← holding [ov] (getMethod ov m pl)
   callWith pos f first (backTo pos (starEach (e::es) X.env)) (backToKw pos (keywordEach [] X.env))):=by rfl) :
  PE X (.Call (.Attribute o m apos) (e::es) [] pos) (KZ C m sp dvs E ta t):=by
 intro pins s σ H Q I h;refine PySem.W.methodCall_KW (pl:=pl) (aC (he pins s σ H _ I h) fun u s1 ⟨x,H1,I1,rx,a,dx,fs,ex,ea,l,q⟩=>?_) ht;subst ex;obtain rfl:u=bI a:=rx;refine Pl I1 ea c hm l ?_;refine yA (first:=[.ref a]) (h₀:=X.base) I.ok.mod.kE hm.kp (aC (ha pos pins s1 σ H1 _ I1 q) fun us s2 ⟨vs,H2,I2,r,q2⟩=>⟨I2.eL,?_⟩) bj dA;exact D8 (us:=.ref a::us) (vs:=.ref a::vs) F hr hb hd hx I2 (.cons rfl r) q2
theorem Xz {pl:Sem Bool}(he:PE X o ta)(c:mv X.K C)(hm:Meth X.K C m f)(F:cS X.prog X.w X.K X.mg X.base CX k f fd ps sp)(hr:bF k X.A)(hb:Binds X.K fd ps ds)(hd:Vals dvs ds)(hx:Passes CX X E)
  (ht:eval (.Call (.Attribute o m apos) [] [] pos) X.env=(do
   let ov ← eval o X.env
   standAt apos.atName
   let (f,first) ← holding [ov] (getMethod ov m pl)
   callWith pos f first (backTo pos (starEach [] X.env)) (backToKw pos (keywordEach [] X.env))):=by rfl) :
  PE X (.Call (.Attribute o m apos) [] [] pos) (KZ C m sp dvs E ta jD):=by
 intro pins s σ H Q I h;refine PySem.W.methodCall_KW (pl:=pl) (aC (he pins s σ H _ I h) fun u s1 ⟨x,H1,I1,rx,a,dx,fs,ex,ea,l,q⟩=>?_) ht;subst ex;obtain rfl:u=bI a:=rx;refine Pl I1 ea c hm l ?_;exact PySem.W.callWith_K0 (first:=[.ref a]) I1.eL hm.kp (D8 (us:=[.ref a]) (vs:=[.ref a]) F hr hb hd hx I1 (.cons rfl .nil) q)
structure Mk (K:ah) (C f:Addr):Prop where
 makes:PySem.W.makesIn K C=true
 init:mC K (.ref C) "__init__" = some (some (.ref f))
 fn:PySem.W.isFn K (.ref f)=true
 kp:lj K (.ref C)=true
theorem WD {pins:List (Addr×Obj)}{σ:St}{H:Hp}{s:Shared}{Q:VK}{us:List Value}{vs:List V}(M:Mk X.K C f)(F:cS X.prog X.w X.K X.mg X.base CX k f fd ps sp)(hr:bF (k+1) X.A)(hb:Binds X.K fd ps ds)(hd:Vals dvs ds)
  (hx:Passes CX X E) (I:Inv X pins σ H s) (r:Vals vs us)
  (h:∀x dx,H x=none->H dx=none->dx≠x->sp (.ref x::(vs++dvs)) (upd (upd H dx (.own x)) x (.ins C dx [])) (fun v H2=>v=.aI/\Q (.ref x) H2) E) :
  wpAny (model X.prog X.w) X.A (call (.ref C) us) (EP X pins σ Q) X.xe s:=by
 have hq:=h (s.heap.objs.size+1) s.heap.objs.size (I.ar.fresh (rV _)) (I.ar.fresh (bc _)) (bJ (yu _));have I2:=Inv.made (C:=C) I;have r2:Vals (V.ref (s.heap.objs.size+1)::(vs++dvs)) (bI (s.heap.objs.size+1)::(us++ds)):=.cons rfl (r.append hd);have hl:(bI (s.heap.objs.size+1)::us++ds).length=ps.length:=by
  have e:=r2.length;rw [F.len _ _ _ _ hq] at e;exact e.symm
 refine wpAny_call (ZR (f:=f) I.eL M.makes M.init (beq_iff_eq.mp M.fn) (codeAny_mono (F.run _ X.stack _ _ ⟨bI (s.heap.objs.size+1)::us,[]⟩ (bI (s.heap.objs.size+1)::(us++ds)) _ _ E (hr.make C us [])
  (I2.xC.make C us []) (.inl I2.tk) (hb _ (bI (s.heap.objs.size+1)::us) I2.eL hl) r2 hq) fun r s' t7=>?_))
 cases r with
 |error e=>exact hx pins σ _ _ e s' I2 t7
 |ok fl=>
  cases fl with
  |ret u=>
   obtain⟨v0,_,_,_,_,_,WB,ev0,_⟩:=id t7;subst ev0;exact⟨WB,fun ht=>by
    obtain⟨v,H',I3,rv,ev,q3⟩:=I2.after t7 ht;exact⟨V.ref (s.heap.objs.size+1),H',I3,rfl,q3⟩⟩
  |next=>exact dq t7
  |brk=>exact dq t7
  |cont=>exact dq t7
theorem XB (M:Mk X.K C f)(F:cS X.prog X.w X.K X.mg X.base CX k f fd ps sp)(hr:bF (k+1) X.A)(hg:Gl X x)(hm:X.mg x=some (.ref C))(hb:Binds X.K fd ps ds)(hd:Vals dvs ds)(hx:Passes CX X E)
  (gk:(x==("__debug__" : Str))=false:=by decide):PE X (.Call (.Name x p) [] [] pos) (US C sp dvs E jD):=by
 intro pins s σ H Q I h;refine wpAny_Call_Name_kw (tV I hg hm ?_ gk);exact PySem.W.callWith_K0 I.eL M.kp (WD (us:=[]) M F hr hb hd hx I .nil h)
end
structure bA (N P:List Str) (sc:Scope):Prop where
 kind:sc.kind=.function
 co:sc.isCoroutine=false
 gen:sc.isGenerator=false
 nd:N.Nodup
 pre:N.take P.length=P
 par:∀x∈P,sc.names.lookup x=some .local∨sc.names.lookup x=some .cell
 fst:P=[dz]->sc.names.lookup dz=some .local∨sc.names.lookup dz=some .cell
 MK:∀y∈sc.names,y.2≠.free
theorem Rc {kindOf:Str->Option NameKind}{x:Str}:∀{binds:List (Str×Value)}{m:Str->Option Value},(∀v,(x,v)∉binds)->bindL kindOf binds m x=m x
 | [],_,_=>rfl
 | (n,v)::r,m,h=>by
  unfold bindL;rw [Rc fun w hw=>h w (cy _ hw)]
  split
  ·have:x≠n:=by rintro rfl; exact h v bH
   simp [this]
  ·rfl
theorem Rf {kindOf:Str->Option NameKind}{x:Str}:∀{binds:List (Str×Value)}{m:Str->Option Value},(∀v,(x,v)∉binds)->bindC kindOf binds m x=m x
 | [],_,_=>rfl
 | (n,v)::r,m,h=>by
  unfold bindC;rw [Rf fun w hw=>h w (cy _ hw)]
  split
  ·rfl
  ·have:x≠n:=by rintro rfl; exact h v bH
   simp [this]
theorem H0 {kindOf:Str->Option NameKind}{x:Str}{v:Value}:∀{P:List Str}{vs:List Value}{i:Nat}{m:Str->Option Value},P.Nodup->P[i]?=some x->vs[i]?=some v->kindOf x=some .local->
  bindL kindOf (P.zip vs) m x=some v
 | [],_,_,_,_,h,_,_=>by simp at h
 |_::_,[],_,_,_,_,h,_=>by simp at h
 |p::P,w::vs,0,m,nd,h1,h2,hk=>by
  simp at h1 h2; subst h1; subst h2;show bindL kindOf ((p,w)::P.zip vs) m p=_;unfold bindL;rw [Rc fun v hv=>(nU.mp nd).1 (vw hv).1,if_pos hk];simp
 |p::P,w::vs,i+1,m,nd,h1,h2,hk=>by
  show bindL kindOf ((p,w)::P.zip vs) m x=_;unfold bindL;exact H0 (i:=i) (nU.mp nd).2 (by simpa using h1) (by simpa using h2) hk
theorem Ia {kindOf:Str->Option NameKind}{x:Str}{v:Value}:∀{P:List Str}{vs:List Value}{i:Nat}{m:Str->Option Value},P.Nodup->P[i]?=some x->vs[i]?=some v->kindOf x≠some .local->
  bindC kindOf (P.zip vs) m x=some v
 | [],_,_,_,_,h,_,_=>by simp at h
 |_::_,[],_,_,_,_,h,_=>by simp at h
 |p::P,w::vs,0,m,nd,h1,h2,hk=>by
  simp at h1 h2; subst h1; subst h2;show bindC kindOf ((p,w)::P.zip vs) m p=_;unfold bindC;rw [Rf fun v hv=>(nU.mp nd).1 (vw hv).1,if_neg hk];simp
 |p::P,w::vs,i+1,m,nd,h1,h2,hk=>by
  show bindC kindOf ((p,w)::P.zip vs) m x=_;unfold bindC;exact Ia (i:=i) (nU.mp nd).2 (by simpa using h1) (by simpa using h2) hk
noncomputable def start (N:List Str)(vs:List V):St:=vs.map some++a7 (N.length - vs.length) none
noncomputable def cg (CX:fU)(P:Program)(w:World)(K:ah)(mg:Str->Option Value)(base:Heap)(N:List Str)(qual:Str)(scope:Scope)(f:Addr)(cd:Value)(A:Around)(outer:List Env)(s:Shared)(H:Hp)(E:XK):Cx where
 prog:=P
 w:=w
 K:=K
 mg:=mg
 base:=base
 A:=A.deeper (envOfC qual scope s.heap.objs.size f cd)
 N:=N
 aH:=s
 aY:=H
 env:=envOfC qual scope s.heap.objs.size f cd
 outer:=outer
 stack:=envOfC qual scope s.heap.objs.size f cd::outer
 ex:=[]
 calm:=true
 fn:=fun _=>true
 pn:=[]
 xe:=fun e s'=>wpAny (model P w) (A.deeper (envOfC qual scope s.heap.objs.size f cd)) (leaving (envOfC qual scope s.heap.objs.size f cd) e) (fun _ gc=>CX outer H s E e gc) (fun e' gc=>CX outer H s E e' gc) s'
theorem Bc {sc:Scope}{n:Nat}{x:Str}(h:sc.names.lookup x=some .cell):∃c,(cellsFrom n sc.names []).lookup x=some c:=by
 have q:=vn sc.names n [] (.inl h);exact i0.mp q
theorem aaT {CX:fU}{P:Program}{w:World}{K:ah}{mg:Str->Option Value}{base:Heap}{N ps:List Str}{qual:Str}{scope:Scope}{f:Addr}{cd:Value}{A:Around}{outer:List Env}{s s1:Shared}{H:Hp}{E:XK}{us:List Value}{vs:List V}
  (S:bA N ps scope) (hd:A.handled=none) (e0:iW P w K mg base A outer s H) (hl:vs.length=ps.length) (r:Vals vs us)
  (x:InCallC s s.heap.objs.size (bindL (envOfC qual scope s.heap.objs.size f cd).kindOf (ps.zip us) fun _=>none) (cellsFrom (s.heap.objs.size+1) scope.names []) (bindC (envOfC qual scope s.heap.objs.size f cd).kindOf (ps.zip us) fun _=>none) s1) (kL:0<s1.toks) :
  Inv (cg CX P w K mg base N qual scope f cd A outer s H E) [] (start N vs) H s1:=by
 have dA:ps.length<=N.length:=by have:=congrArg List.length S.pre; rw [List.length_take] at this; omega
 obtain⟨h1,tk,rfl,hk⟩:=x.done;have kD:∀b:Addr,b∉(cg CX P w K mg base N qual scope f cd A outer s H E).ex:=fun b z=>absurd (show b∈([]:List Addr) from z) (by simp);refine⟨⟨e0.mod,S.kind,rfl,rfl,bc _,fun y z c h1 h2=>?_,fun y hy=>?_,fun y c _ h=>?_,fun _=>hd,Cg e0.frames,.inr ⟨rfl,rfl⟩,fun b z=>absurd z (kD b),e0.bs,e0.iQ,fun b _ _=>kD b,fun b z=>absurd z (kD b),e0.en,e0.gq⟩,
  rfl,e0.bare,Un.kept hk,⟨_,x.toInCall.ns,fun i y v h1 h2 h3=>?_⟩,fun y c h=>⟨_,x.cell y c h⟩,e0.ar.fresh (bc _),fun y c h=>?_,fun p hp=>absurd (show p∈([]:List (Addr×Obj)) from hp) (by simp),e0.ar.kept hk,?_,kL⟩
 ·exact name_of_addr x.apart (jx h1) (jx h2)
 ·have hy:scope.names.lookup y=some .cell∨scope.names.lookup y=some .free:=hy
  rcases hy with hy | hy
  ·exact Bc hy
  ·exact absurd rfl (S.MK _ (jx hy))
 ·exact rX (x.above y c (jx h))
 ·have hi:i<vs.length:=by
   unfold start at h2
   by_cases hi:i<vs.length
   ·exact hi
   ·rw [rR (by simpa using hi)] at h2
    rw [Cm] at h2
    split at h2 <;> cases h2
  have ha:vs[i]?=some v:=by
   unfold start at h2;rw [rQ (by simpa using hi),jt] at h2
   cases e:vs[i]? with
   |none=>rw [e] at h2; cases h2
   |some a=>rw [e] at h2; cases h2; rfl
  obtain⟨u,hu,rv⟩:=r.get ha;have hp:ps[i]?=some y:=by
   rw [← S.pre,List.getElem?_take_of_lt (by omega)]; exact h1
  have wG:ps.Nodup:=by rw [← S.pre]; exact S.nd.sublist (List.take_sublist _ _)
  refine⟨u,rv,?_⟩;rcases S.par y (kg hp) with k | k
  ·exact .inl ⟨k,H0 wG hp hu k⟩
  ·obtain⟨c,e⟩:=Bc (n:=s.heap.objs.size+1) k
   refine .inr ⟨.inl k,c,e,?_⟩;have q:=x.cell y c e;rw [Ia wG hp hu (by show scope.names.lookup y≠_; rw [k]; decide)] at q;exact q
 ·exact e0.ar.fresh (rX (x.above y c (jx h)))
 ·unfold start
  show _=N.length;rw [jw,ef,vm];omega
theorem Vo {M:Model}{A:Around}{E:Value->Shared->Prop}{aH s:Shared}{m cm:Str->Option Value}{env:Env}{n:Str}{v:Value}{Q:Unit->Shared->Prop}(x:InCallC aH env.locals m env.cells cm s)(hk:env.scope.kind=.function)(hl:env.kindOf n=some .local)
  (h:∀s',InCallC aH env.locals (fun y=>if y=n then some v else m y) env.cells cm s'->0<s'.toks->Q () s'):wpAny M A (storeName env n v) Q E s:=by
 refine wpAny_storeName_local hl x.toInCall.ns (fun h' nq w9=>h _ ⟨⟨?_,nq,fun b o e=>?_,x.toInCall.fresh⟩,fun k c hc=>?_,x.apart,x.above⟩ (Nat.succ_pos _)) (by rw [hk]; rfl)
 ·obtain⟨el,tk,rfl⟩:=x.toInCall.same
  exact⟨h',_,rfl⟩
 ·exact w9.extBut b o (bJ (cB (aV e) x.toInCall.fresh)) (x.toInCall.keep b o e)
 ·exact(x.cell k c hc).sameBut w9 (vt (x.above k c (jx hc)))
theorem Zv {prog:Program}{w:World}{A:Around}{E:Value->Shared->Prop}{s:Shared}{scope:Scope}{globals:Addr}{ps:List Str}{us:List Value}{qual:Str}{func:Option Addr}{code:Value}{builtins:Addr}{Q:Env->Shared->Prop}
  (hk:scope.kind=.function) (ht:0<s.toks∨ps=[dz]) (hl:us.length=ps.length) (hf:ps=[dz]->scope.names.lookup dz=some .local)
  (ua:∀x∈ps.zip us,scope.names.lookup x.1=some .local∨(scope.names.lookup x.1=some .cell/\((cellsFrom (s.heap.objs.size+1) scope.names []).lookup x.1).isSome=true))
  (hQ:∀env,env=newEnv scope s.heap.objs.size globals (cellsFrom (s.heap.objs.size+1) scope.names []) qual func code none builtins->
   ∀s',InCallC s env.locals (bindL env.kindOf (ps.zip us) fun _=>none) env.cells (bindC env.kindOf (ps.zip us) fun _=>none) s'->0<s'.toks->Q env s') :
  wpAny (model prog w) A (newFunctionEnv scope globals [] (ps.zip us) qual func code none builtins) Q E s:=by
 rcases ht with ht | ht
 ·exact wpAny_with_toks (n:=1) ht (wpAny_newFunctionEnv_cells hk ua fun env he s' x h=>hQ env he s' x h)
 ·have hF:=hf ht
  clear hf
  subst ht;obtain⟨u,rfl⟩:∃u,us=[u]:=by
   match us,hl with
   | [u],_=>exact⟨u,rfl⟩
  have hz:([dz]:List Str).zip [u]=[(dz,u)]:=rfl;rw [hz] at hQ ua ⊢;simp only [newFunctionEnv,yC,cT,if_false];refine wpAny_bind (wpAny_alloc ?_);refine wpAny_bind (wpAny_layCells _ (fun name kind cells=>by cases Gu:kind==n6 <;> simp [Gu]) _ _ _ _ ?_);have ok:=cellsFrom_ok scope.names (s.heap.push {cls:=.type "frame",data:=.dict #[]}) (s.heap.objs.size+1) [] ⟨fun _ _ hm=>(nomatch hm),List.Pairwise.nil⟩ (by rw [kc]; exact bc _)
  rw [kc] at ok;rw [show ({s with heap:=s.heap.push {cls:=.type "frame",data:=.dict #[]}}:Shared).heap.objs.size=s.heap.objs.size+1 from kc ..]
  have x0:InCallC s (newEnv scope s.heap.objs.size globals (cellsFrom (s.heap.objs.size+1) scope.names []) qual func code none builtins).locals (fun _=>none) (newEnv scope s.heap.objs.size globals (cellsFrom (s.heap.objs.size+1) scope.names []) qual func code none builtins).cells (fun _=>none) {s with heap:=pushCells (s.heap.push {cls:=.type "frame",data:=.dict #[]}) scope.names}:=
   ⟨⟨⟨_,_,rfl⟩,(Heap.Ns.new s.heap (.type "frame")).keeps (pushCells_keeps _ _),fun b o e=>pushCells_keeps _ _ b o (aW _ e),bc _⟩,fun n c hc=>(ok.empty n c (jx hc)).1,ok.apart,fun n c hm=>(ok.empty n c hm).2⟩
  rw [yr];refine wpAny_bind (wpAny_bind (wpAny_bind (Vo x0 hk hF fun s' x' F7=>wpAny_pure ?_)));show wpAny _ _ (forIn [] _ _) _ _ _;rw [List.forIn_nil];refine wpAny_pure (wpAny_pure (hQ _ rfl s' ?_ F7));unfold bindL bindC;have O9:(newEnv scope s.heap.objs.size globals (cellsFrom (s.heap.objs.size+1) scope.names []) qual func code none builtins).kindOf dz=some .local:=hF;rw [if_pos O9,if_pos O9];exact x'
theorem Hn {CX:fU}{P:Program}{w:World}{K:ah}{mg:Str->Option Value}{base:Heap}{k:Nat}{f:Addr}{name qual:Str}{params:Arguments}{body:List Stmt}{scope:Scope}{dV kV doc pm ax ct oc:Value}{an od:Option Addr}
  {hU:Array (Option Value)} {N ps:List Str} {sp:Sp} (lk:K.lookup f=some ⟨oc,od,.func (fI name qual params body scope dV kV doc pm an ax ct),hU⟩) (eM:nQ K ax qual=true) (S:bA N ps scope)
  (hf:ps=[dz]->scope.names.lookup dz=some .local)
  (len:∀vs H Q E,sp vs H Q E->vs.length=ps.length)
  (gn:∀(A:Around) (outer:List Env) (s:Shared) (H:Hp) (vs:List V) (Q:VK) (E:XK),bF k (A.deeper (envOfC qual scope s.heap.objs.size f ax))->sp vs H Q E->
   ∃t,eP (cg CX P w K mg base N qual scope f ax A outer s H E) body t/\t {nx:=fun _ H'=>Q .aI H',rt:=Q} (start N vs) H) :
  cS P w K mg base CX (k+1) f (fI name qual params body scope dV kV doc pm an ax ct) ps sp:=by
 refine⟨len,fun A outer s H args us vs Q E hr e0 qI hb r oS=>?_⟩;have hl:=len _ _ _ _ oS;have KX:K.In s.heap:=e0.mod.kE.keeps fun b o e=>(e0.bs b o e).1;have lim:s.heap.NoLimit:=e0.mod.nolimit.keeps fun b o e=>(e0.bs b o e).1;have ua:∀y∈ps.zip us,scope.names.lookup y.1=some .local∨(scope.names.lookup y.1=some .cell/\((cellsFrom (s.heap.objs.size+1) scope.names []).lookup y.1).isSome=true):=fun⟨n,v⟩ hy=>by
  rcases S.par n (vw hy).1 with q | q
  ·exact .inl q
  ·exact .inr ⟨q,vn _ _ _ (.inl q)⟩
 refine codeAny_call_function hr.depth (KX _ _ lk) rfl S.co S.gen rfl (PySem.W.codeRec_of KX eM) (hb _ _ _ _ ?_);refine Zv S.kind qI (by rw [← r.length]; exact hl) hf ua fun env he s1 x kL=>?_;subst he;refine⟨lim.keeps x.toInCall.keep,codeAny_func ?_⟩;obtain⟨t,ht,hq⟩:=gn A outer s H vs Q E (hr.deeper _) oS;have I:Inv (cg CX P w K mg base N qual scope f ax A outer s H E) [] (start N vs) H s1:=aaT S hr.hd e0 hl r x kL;refine aC (ht [] s1 (start N vs) H _ I hq) fun fl s' hs=>?_;have fin:∀{aJ:St} {H':Hp} {v:V} {u:Value},Inv (cg CX P w K mg base N qual scope f ax A outer s H E) [] aJ H' s'->RelV v u->Q v H'->CE outer P w H s Q u s':=
  fun {aJ H' v u} J rv q=>⟨v,H',J.os,J.bare,J.base,J.ar,rv,q⟩
 cases fl with
 |ret u=>
  obtain⟨v,aJ,H',J,rv,q⟩:=hs;exact fin J rv q
 |next=>
  obtain⟨aJ,H',J,q⟩:=hs;exact fin (v:=V.aI) (u:=gu) J rfl q
 |brk=>
  obtain⟨_,_,_,q⟩:=hs;exact dq q
 |cont=>
  obtain⟨_,_,_,q⟩:=hs;exact dq q
section
variable {X:Cx}{x:Str}{p pos:Pos}{e:Expr}{es:List Expr}{t:TA}{id T:String}{r:List V->Hp->VK->Prop}
noncomputable def vP (r:List V->Hp->VK->Prop)(t:TA):TE:=fun σ H Q=>t σ H fun vs H1=>r vs H1 Q
theorem iB (hc:fi X (.builtin id) r)(hg:Gl X x)(hm:X.mg x=none)(hv:bootBuiltins x=some (.builtin id))(ha:PA X (e::es) t)(hn:x≠"__name__" := by decide)(gk:(x==("__debug__" : Str))=false:=by decide)
  (he:starEach (e::es) X.env=(false,eval e X.env)::starEach es X.env:=by rfl) (dA:(backTo pos (starEach es X.env)).any (·.1)=false:=by rfl):PE X (.Call (.Name x p) (e::es) [] pos) (vP r t):=by
 intro pins s σ H Q I h;refine wpAny_Call_Name_kw (lJ I hg hm hv ?_ hn gk);exact Cs (aC (ha pos pins s σ H _ I h) fun us s1 ⟨vs,H1,I1,r1,q1⟩=>hc pins s1 σ H1 vs us Q I1 r1 q1) he dA
theorem zG (hc:fi X (.type T) r)(hg:Gl X x)(hm:X.mg x=none)(hv:bootBuiltins x=some (.type T))(ha:PA X (e::es) t)(hn:x≠"__name__" := by decide)(gk:(x==("__debug__" : Str))=false:=by decide)
  (he:starEach (e::es) X.env=(false,eval e X.env)::starEach es X.env:=by rfl) (dA:(backTo pos (starEach es X.env)).any (·.1)=false:=by rfl):PE X (.Call (.Name x p) (e::es) [] pos) (vP r t):=by
 intro pins s σ H Q I h;refine wpAny_Call_Name_kw (lJ I hg hm hv ?_ hn gk);exact rS (aC (ha pos pins s σ H _ I h) fun us s1 ⟨vs,H1,I1,r1,q1⟩=>hc pins s1 σ H1 vs us Q I1 r1 q1) he dA
end
end L2
namespace HT
open PySem PyProof.Rows
section
variable {prog:Program}{w:World}{A:Around}{E:Value->Shared->Prop}{s:Shared}
theorem aeT {t b:Addr}{vs ws:List Value}{Q:Value->Shared->Prop}(ht:IsTup s.heap t vs.toArray)(hb:IsTup s.heap b ws.toArray)(hv:vs≠[])
  (h1:ws=[]->Q (.ref t) s) (h2:ws≠[]->Q (.ref s.heap.objs.size) {s with heap:=s.heap.push {cls:=.type "tuple",data:=.seq (vs++ws).toArray}})
  (hsz:vs.length+ws.length<=sizeLine):wpAny (model prog w) A (binaryOp .Add (.ref t) (.ref b)) Q E s:=by
 obtain⟨⟨cls,dd,data,sl⟩,ho,hc,n,hd⟩:=id ht;obtain⟨⟨ajk,HQ,data2,oh⟩,qL,xq,n2,hd2⟩:=id hb
 simp only at hc hd xq hd2
 subst hc hd xq hd2;have e:vs.toArray++ws.toArray=(vs++ws).toArray:=by simp
 by_cases hw:ws=[]
 ·exact concat_meets ⟨_,ho,rfl⟩ ⟨_,qL,rfl⟩ noFill_tuple_add seq_tuple_add PySem.F.slot_tuple_add PySem.F.entry_tuple_add (PySem.F.args_tuple_add_2 _ _)
   (tuple_addW1 t b vs.toArray ws.toArray n n2 dd HQ sl oh (by simpa using hv) (by simp [hw])) ⟨ho,qL,h1 hw⟩
 ·refine concat_meets ⟨_,ho,rfl⟩ ⟨_,qL,rfl⟩ noFill_tuple_add seq_tuple_add PySem.F.slot_tuple_add PySem.F.entry_tuple_add (PySem.F.args_tuple_add_2 _ _)
   (tuple_addW2 t b vs.toArray ws.toArray n n2 dd HQ sl oh (by simpa using hv) (by simpa using hw) (by rw [gx,gx]; exact hsz)) ⟨ho,qL,?_⟩
  rw [e];exact h2 hw
end
end HT
namespace L2
open PySem PySem.Spec PyProof.Rows
noncomputable abbrev TO:=St->Hp->(Option Int->Hp->Prop)->Prop
noncomputable def PO (X:Cx)(e:Option Expr)(t:TO):Prop:=
 ∀(pins:List (Addr×Obj)) (s:Shared) (σ:St) (H:Hp) (Q:Option Int->Hp->Prop),Inv X pins σ H s->t σ H Q->
  wpAny (model X.prog X.w) X.A (evalPart e X.env) (Lz fun u s'=>∃o H',Inv X pins σ H' s'/\IsPart u o/\Q o H') X.xe s
noncomputable def UP:TO:=fun _ H Q=>Q none H
noncomputable def UM (t:TE):TO:=fun σ H Q=>t σ H fun x H1=>∃i,x=.int i/\Q (some i) H1
section
variable {X:Cx}{e:Expr}{te:TE}{lo hi:Option Expr}{tl th:TO}{pos p2:Pos}
theorem Xm:PO X none UP:=by
 intro pins s σ H Q I h;rw [evalPart_none];exact wpAny_pure (fun ht=>⟨none,H,I,.none,h⟩)
theorem Xl (h:PE X e te):PO X (some e) (UM te):=by
 intro pins s σ H Q I hw;rw [evalPart_some];refine aC (h pins s σ H _ I hw) fun u s1 h_=>?_;obtain⟨x,H1,I1,r1,q1⟩:=h_;obtain⟨i,rfl,q⟩:=q1;obtain⟨t,rfl⟩:=r1;exact(fun ht=>⟨some i,H1,I1,.int i t,q⟩)
noncomputable def RD (X:Cx)(r:V->Option Int->Option Int->Hp->VK->Prop):Prop:=
 ∀(pins:List (Addr×Obj)) (s:Shared) (σ:St) (H:Hp) (x:V) (v vl vu:Value) (lo hi:Option Int) (sl:Addr) (Q:VK),Inv X pins σ H s->RelV x v->s.heap.IsSliceOf sl vl vu .none->IsPart vl lo->IsPart vu hi->r x lo hi H Q->
  ∃T id,typeLookup (.type T) "__getitem__" = pure (some (.builtin id))/\s.TypeIs v T/\wpAny (model X.prog X.w) X.A (getItem v (.ref sl)) (EP X pins σ Q) X.xe s
noncomputable def UI (r:V->Option Int->Option Int->Hp->VK->Prop)(te:TE)(tl th:TO):TE:=fun σ H Q=>te σ H fun x H1=>tl σ H1 fun l H2=>th σ H2 fun u H3=>r x l u H3 Q
theorem Xx {r:V->Option Int->Option Int->Hp->VK->Prop}(hr:RD X r)(he:PE X e te)(hl:PO X lo tl)(hu:PO X hi th):PE X (.Subscript e (.Slice lo hi none p2) pos) (UI r te tl th):=by
 intro pins s σ H Q I h;refine Subscript_ (aC (he pins s σ H _ I h) fun v s1 ⟨x,H1,I1,r1,q1⟩=>?_);refine wpAny_Slice (aC (hl pins s1 σ H1 _ I1 q1) fun vl s2 ⟨l,H2,I2,pl,q2⟩=>aC (hu pins s2 σ H2 _ I2 q2) fun vu s3 ⟨u,H3,I3,pu,q3⟩=>?_);rw [evalPart_none];refine wpAny_pure ?_;have I4:Inv X pins σ H3 {s3 with heap:=s3.heap.push {cls:=.type "slice",data:=.fields #[vl,vu,.none]}}:=I3.kept (t':=s3.toks) fun b ob q=>aW _ q
 obtain⟨T,id,hT,ht,hg⟩:=hr pins {s3 with heap:=s3.heap.push {cls:=.type "slice",data:=.fields #[vl,vu,.none]}} σ H3 x v vl vu l u s3.heap.objs.size Q I4 r1 (Heap.IsSliceOf.new ..) pl pu q3
 show wpAny (model X.prog X.w) X.A (subscriptTail e (.Slice lo hi none p2) v (.ref s3.heap.objs.size)) (EP X pins σ Q) X.xe {s3 with heap:=s3.heap.push {cls:=.type "slice",data:=.fields #[vl,vu,.none]}}
 exact tail_any (ops:=[.ref s3.heap.objs.size,v]) ht hT hg (by with_unfolding_all rfl)
noncomputable def W3 (K:ah):R2:=fun x y H Q=>∃a b xs ys,x=.ref a/\y=.ref b/\cX K H a xs/\cX K H b ys/\xs≠[]/\xs.length+ys.length<=sizeLine/\
 (ys=[]->Q (.ref a) H)/\(ys≠[]->∀p,H p=none->Q (.ref p) (upd H p (.tup (xs++ys))))
theorem Vals.EV {xs:List V}{us:List Value}(r:Vals xs us):us=[]↔xs=[]:=by
 cases r with
 |nil=>simp
 |cons _ _=>simp
theorem Ym:cb X (binaryOp .Add) (W3 X.K):=by
 intro pins s σ H x y v u Q I rx ry h;obtain⟨a,b,xs,ys,rfl,rfl,ha,hb,hx,hz,q1,q2⟩:=h;cases rx;cases ry;obtain⟨ak,r1,p1,_⟩:=I.tuple ha;obtain⟨ai1,r2,p2,_⟩:=I.tuple hb;refine HT.aeT p1 p2 (fun z=>hx (r1.EV.mp z)) (fun z=>(fun ht=>⟨.ref a,H,I,rfl,q1 (r2.EV.mp z)⟩)) (fun z=>?_) (by rw [← r1.length,← r2.length]; exact hz);refine(fun ht=>⟨.ref s.heap.objs.size,_,I.laid (t':=s.toks) (o:=.tup (xs++ys)) (fun b ob q=>aW _ q) (bc _) ?_,rfl,q2 (fun w=>z (r2.EV.mpr w)) _ (I.ar.fresh (bc _))⟩);exact⟨by rw [jw]; exact hz,_,r1.append r2,IsTup.new _ _⟩
end
noncomputable def nc (n:Nat)(i:Int):Option Nat:=if 0<=i then (if i<n then some i.toNat else none) else if -(n:Int)<=i then some (i+n).toNat else none
noncomputable def iR {α:Type}(xs:List α)(i:Int):Option α:=(nc xs.length i).bind fun j=>xs[j]?
theorem aaH {n:Nat}{i:Int}{j:Nat}(h:nc n i=some j):seqIndex? i n=some j/\j<n/\-(n:Int)<=i/\i<n:=by
 unfold nc at h
 by_cases h0:0<=i
 ·rw [if_pos h0] at h
  by_cases h1:i<n
  ·rw [if_pos h1] at h
   have e:i.toNat=j:=gZ h;exact⟨by rw [seqIndex_of h0 h1,e],by omega,by omega,h1⟩
  ·rw [if_neg h1] at h; cases h
 ·rw [if_neg h0] at h
  by_cases h1 : -(n:Int)<=i
  ·rw [if_pos h1] at h
   have e:(i+n).toNat=j:=gZ h;exact⟨by rw [seqIndex_neg (by omega) h1,e],by omega,h1,by omega⟩
  ·rw [if_neg h1] at h; cases h
theorem Ir {α:Type}{xs:List α}{i:Int}{v:α}(h:iR xs i=some v):∃j,seqIndex? i xs.length=some j/\xs[j]?=some v/\j<xs.length/\-(xs.length:Int)<=i/\i<xs.length:=by
 unfold iR at h
 cases e:nc xs.length i with
 |none=>rw [e] at h; cases h
 |some j=>
  rw [e] at h;obtain⟨h1,h2,h3,h4⟩:=aaH e;exact⟨j,h1,h,h2,h3,h4⟩
theorem afC {α:Type}{xs:List α}{j:Nat}{v:α}(h:xs[j]?=some v):iR xs (j:Int)=some v:=by
 have hj:j<xs.length:=(ej.mp h).1;have e:nc xs.length (j:Int)=some j:=by
  unfold nc;rw [if_pos (by omega),if_pos (by omega)]; simp
 unfold iR; rw [e]; exact h
noncomputable def Jv (b:Expr):Prop:=∀o i,subscripted b false o i=operate [o,i] (getItem o i)
noncomputable def mm (X:Cx)(r:R2):Prop:=
 ∀(value slice:Expr) (pins:List (Addr×Obj)) (s:Shared) (σ:St) (H:Hp) (x y:V) (v u:Value) (Q:VK),Inv X pins σ H s->RelV x v->RelV y u->r x y H Q->
  subscripted slice false v u=operate [v,u] (getItem v u)->wpAny (model X.prog X.w) X.A (subscriptTail value slice v u) (EP X pins σ Q) X.xe s
noncomputable def vf (X:Cx)(id:String)(r:V->List V->Hp->VK->Prop):Prop:=
 ∀(pins:List (Addr×Obj)) (s:Shared) (σ:St) (H:Hp) (x:V) (xs:List V) (v:Value) (us:List Value) (Q:VK),Inv X pins σ H s->RelV x v->Vals xs us->r x xs H Q->
  wpAny (model X.prog X.w) X.A (call (.builtin id) (v::us)) (EP X pins σ Q) X.xe s
section
variable {X:Cx}{a b:Expr}{ta tb:TE}{pos:Pos}
theorem mm.or {r r':R2}(h:mm X r)(h':mm X r'):mm X (fun x y H Q=>r x y H Q∨r' x y H Q):=by
 intro value slice pins s σ H x y v u Q I rx ry q hs;rcases q with q | q
 ·exact h value slice pins s σ H x y v u Q I rx ry q hs
 ·exact h' value slice pins s σ H x y v u Q I rx ry q hs
theorem wk {r:R2}(hr:mm X r)(ha:PE X a ta)(hb:PE X b tb)(hs:Jv b):PE X (.Subscript a b pos) (og r ta tb):=by
 intro pins s σ H Q I h;exact Subscript_ (Ib ha hb I h fun v u s2 x y H2 I2 rx ry q=>hr a b pins s2 σ H2 x y v u Q I2 rx ry q (hs _ _))
noncomputable def Eh (K:ah):R2:=fun x y H Q=>∃p xs i v,x=.ref p/\y=.int i/\bP K H p xs/\iR xs i=some v/\Q v H
noncomputable def Eg (K:ah):R2:=fun x y H Q=>∃p xs i v,x=.ref p/\y=.int i/\cX K H p xs/\iR xs i=some v/\Q v H
noncomputable def WZ:R2:=fun x y H Q=>∃z i c,x=.str z/\y=.int i/\z.length<=sizeLine/\iR z.cps.toList i=some c/\Q (.str ⟨#[c]⟩) H
theorem FI:mm X (Eh X.K):=by
 intro value slice pins s σ H x y v u Q I rx ry h hs;obtain⟨p,xs,i,z,rfl,rfl,hq,he,q⟩:=h;cases rx;obtain⟨t,rfl⟩:=ry;obtain⟨ak,r,pl,hz⟩:=I.list hq;obtain⟨j,h1,h2,h3,h4,h5⟩:=Ir he;obtain⟨w,ew,dW⟩:=r.get h2;have hl:=r.length;have hn:=wM;have fin:EP X pins σ Q w s:=(fun ht=>⟨z,H,I,dW,q⟩)
 by_cases h0:0<=i
 ·have hj:i.toNat=j:=by
   rw [seqIndex_of h0 h5] at h1;exact gZ h1
  exact item_listR pl.isList h0 (by omega) (by rw [hj]; simpa using ew) fin hs
 ·have hj:(i+(ak.toArray.size:Int)).toNat=j:=by
   rw [seqIndex_neg (by omega) h4] at h1;rw [gx,← hl];exact gZ h1
  exact subscriptTail_builtinR (x:=w) pl.isList.typeIs slot_list_getitem.lookup
   (wpAny_getItem_list_neg (Q:=fun r s'=>r=w/\EP X pins σ Q r s') pl.isList (by omega) (by rw [gx] <;> omega) (by omega) (by rw [hj]; simpa using ew) ⟨rfl,fin⟩) hs
theorem N5:mm X (Eg X.K):=by
 intro value slice pins s σ H x y v u Q I rx ry h hs;obtain⟨p,xs,i,z,rfl,rfl,hq,he,q⟩:=h;cases rx;obtain⟨t,rfl⟩:=ry;obtain⟨ak,r,pl,hz⟩:=I.tuple hq;obtain⟨j,h1,h2,h3,h4,h5⟩:=Ir he;obtain⟨w,ew,dW⟩:=r.get h2;have hl:=r.length;have hn:=wM;have fin:EP X pins σ Q w s:=(fun ht=>⟨z,H,I,dW,q⟩)
 exact subscriptTail_builtinR (x:=w) pl.typeIs slot_tuple_getitem.lookup
  (getItem_tuple (j:=j) (Q:=fun r s'=>r=w/\EP X pins σ Q r s') pl (by omega) (by omega) (by rw [gx,← hl]; exact h1) (by simpa using ew) ⟨rfl,fin⟩) hs
theorem aaE:mm X WZ:=by
 intro value slice pins s σ H x y v u Q I rx ry h hs;obtain⟨z,i,c,rfl,rfl,hz,he,q⟩:=h;obtain⟨t,rfl⟩:=rx;obtain⟨t',rfl⟩:=ry;obtain⟨j,h1,h2,h3,h4,h5⟩:=Ir he;have hl:z.cps.toList.length=z.length:=by simp [rT]
 rw [hl] at h1 h4 h5;have hn:=wM;exact tail_any (typeIs_str s z t) slot_str_getitem.lookup (getItem_str (c:=c) (by
  have e1:decide (i < -(2 ^ 63:Int))=false:=decide_eq_false (by omega);have e2:decide (i≥2 ^ 63)=false:=decide_eq_false (by omega);rw [e1,e2,Bool.or_false]) (by rw [h1]; simpa using h2) (fun ht=>⟨.str ⟨#[c]⟩,H,I.tok _,⟨_,rfl⟩,q⟩)) hs
noncomputable def gV:V->Bool
 |.aI=>true
 |.bl _=>true
 |.int _=>true
 |.str _=>true
 |_=>false
noncomputable def dM:V->V->Bool
 |.aI,.aI=>true
 |.bl a,.bl b=>a==b
 |.bl a,.int b=>(if a then 1 else 0)==b
 |.int a,.bl b=>a==(if b then 1 else 0)
 |.int a,.int b=>a==b
 |.str a,.str b=>a==b
 |_,_=>false
theorem adJ {A:Around}{s:Shared}{y x:V}{u v:Value}(ry:RelV y u)(rx:RelV x v)(fy:gV y=true)(fx:gV x=true):mK A s u v (dM y x):=by
 cases y with
 |aI=>
  cases ry
  cases x with
  |aI=>cases rx; exact SeqAt.EqAt.same _
  |bl b=>cases rx; exact SeqAt.EqAt.none_bool b
  |int b=>obtain⟨t,rfl⟩:=rx; exact SeqAt.EqAt.none_int b t
  |str b=>obtain⟨t,rfl⟩:=rx; exact SeqAt.EqAt.none_str b t
  |_=>exact absurd (show false=true from fx) fo
 |bl a=>
  cases ry
  cases x with
  |aI=>cases rx; exact SeqAt.EqAt.bool_none a
  |bl b=>cases rx; exact SeqAt.EqAt.bool_bool a b
  |int b=>obtain⟨t,rfl⟩:=rx; exact SeqAt.EqAt.bool_int a b t
  |str b=>obtain⟨t,rfl⟩:=rx; exact SeqAt.EqAt.bool_str a b t
  |_=>exact absurd (show false=true from fx) fo
 |int a=>
  obtain⟨t',rfl⟩:=ry
  cases x with
  |aI=>cases rx; exact SeqAt.EqAt.int_none a t'
  |bl b=>cases rx; exact SeqAt.EqAt.int_bool a t' b
  |int b=>obtain⟨t,rfl⟩:=rx; exact SeqAt.EqAt.int_int a t' b t
  |str b=>obtain⟨t,rfl⟩:=rx; exact SeqAt.EqAt.int_str a t' b t
  |_=>exact absurd (show false=true from fx) fo
 |str a=>
  obtain⟨t',rfl⟩:=ry
  cases x with
  |aI=>cases rx; exact SeqAt.EqAt.str_none a t'
  |bl b=>cases rx; exact SeqAt.EqAt.str_bool a t' b
  |int b=>obtain⟨t,rfl⟩:=rx; exact SeqAt.EqAt.str_int a t' b t
  |str b=>obtain⟨t,rfl⟩:=rx; exact SeqAt.EqAt.str_str a t' b t
  |_=>exact absurd (show false=true from fx) fo
 |_=>exact absurd (show false=true from fy) fo
noncomputable def fD (x:V)(u:Value):Bool:=match u with
 |.none=>dM .aI x
 |.bool b=>dM (.bl b) x
 |.int i _=>dM (.int i) x
 |.str z _=>dM (.str z) x
 |_=>false
theorem A1 {x y:V}{u:Value}(r:RelV y u)(f:gV y=true):fD x u=dM y x:=by
 cases y with
 |aI=>cases r; rfl
 |bl b=>cases r; rfl
 |int i=>obtain⟨t,rfl⟩:=r; rfl
 |str z=>obtain⟨t,rfl⟩:=r; rfl
 |_=>exact absurd (show false=true from f) fo
theorem xU {x:V}:∀{xs:List V}{us:List Value},Vals xs us->xs.all gV=true->us.any (fD x)=xs.any fun y=>dM y x
 |_,_,.nil,_=>rfl
 |y::xs,u::us,.cons r t,f=>by
  rw [mz,nW] at f;rw [nO,nO,A1 r f.1,xU t f.2]
theorem qx {A:Around}{s:Shared}{x:V}{v:Value}(rx:RelV x v)(fx:gV x=true):∀{xs:List V}{us:List Value},Vals xs us->xs.all gV=true->∀u∈us,mK A s u v (fD x u)
 |_,_,.nil,_=>fun u hu=>by cases hu
 |y::xs,u::us,.cons r t,f=>fun u' hu=>by
  rw [mz,nW] at f;rcases ba.mp hu with rfl | hu
  ·rw [A1 r f.1]; exact adJ r rx f.1 fx
  ·exact qx rx fx t f.2 u' hu
noncomputable def wX (x:V)(xs:List V):Bool:=xs.any fun y=>dM y x
noncomputable def Ej (K:ah)(neg:Bool):R2:=fun x y H Q=>∃p xs,y=.ref p/\(bP K H p xs∨cX K H p xs)/\gV x=true/\xs.all gV=true/\Q (.bl (if neg then !wX x xs else wX x xs)) H
theorem Yh:cb X (compareOp .In) (Ej X.K false):=by
 intro pins s σ H x y v u Q I rx ry h;obtain⟨p,xs,rfl,hq,fx,fs,q⟩:=h;cases ry;rcases hq with hq | hq
 ·obtain⟨ak,r,pl,hz⟩:=I.list hq
  refine SeqAt.in_listAt (fD x) pl.isList (fun w hw=>qx rx fx r fs w (by simpa using hw)) (fun ht=>⟨.bl _,H,I,rfl,?_⟩);rw [show ak.toArray.any (fD x)=ak.any (fD x) by simp,xU r fs];exact q
 ·obtain⟨ak,r,pl,hz⟩:=I.tuple hq
  refine SeqAt.in_tupleAt (fD x) pl (fun w hw=>qx rx fx r fs w (by simpa using hw)) (fun ht=>⟨.bl _,H,I,rfl,?_⟩);rw [show ak.toArray.any (fD x)=ak.any (fD x) by simp,xU r fs];exact q
theorem X7:cb X (compareOp .NotIn) (Ej X.K true):=by
 intro pins s σ H x y v u Q I rx ry h;obtain⟨p,xs,rfl,hq,fx,fs,q⟩:=h;cases ry;rcases hq with hq | hq
 ·obtain⟨ak,r,pl,hz⟩:=I.list hq
  refine SeqAt.notIn_listAt (fD x) pl.isList (fun w hw=>qx rx fx r fs w (by simpa using hw)) (fun ht=>⟨.bl _,H,I,rfl,?_⟩);rw [show ak.toArray.any (fD x)=ak.any (fD x) by simp,xU r fs];exact q
 ·obtain⟨ak,r,pl,hz⟩:=I.tuple hq
  refine SeqAt.notIn_tupleAt (fD x) pl (fun w hw=>qx rx fx r fs w (by simpa using hw)) (fun ht=>⟨.bl _,H,I,rfl,?_⟩);rw [show ak.toArray.any (fD x)=ak.any (fD x) by simp,xU r fs];exact q
theorem Bf:fi X (.builtin "len") (fun xs H Q=>∃p ys,xs=[.ref p]/\(bP X.K H p ys∨cX X.K H p ys)/\Q (.int ys.length) H):=by
 intro pins s σ H xs us Q I r h;obtain⟨p,ys,rfl,hq,q⟩:=h;obtain⟨u,rfl,rx⟩:=vals1 r;cases rx;have hn:=wM;rcases hq with hq | hq
 ·obtain⟨ak,r',pl,hz⟩:=I.list hq
  have hlen:=r'.length;exact Calls.call_len_list pl.isList (by simp only [gx] <;> omega) (fun ht=>⟨.int ys.length,H,I.tok _,⟨s.toks+1,by rw [gx,hlen]⟩,q⟩)
 ·obtain⟨ak,r',pl,hz⟩:=I.tuple hq
  have hlen:=r'.length;exact len_tuple pl (by simp only [gx] <;> omega) (fun ht=>⟨.int ys.length,H,I.tok _,⟨s.toks+1,by rw [gx,hlen]⟩,q⟩)
theorem aeX:fi X (.builtin "len") (fun xs H Q=>∃z,xs=[.str z]/\z.length<=sizeLine/\Q (.int z.length) H):=by
 intro pins s σ H xs us Q I r h;obtain⟨z,rfl,hz,q⟩:=h;obtain⟨u,rfl,t,rfl⟩:=vals1 r;have hn:=wM;exact len_str (by omega) (fun ht=>⟨.int z.length,H,I.tok _,⟨_,rfl⟩,q⟩)
theorem fi.or {f:Value}{r r':List V->Hp->VK->Prop}(h:fi X f r)(h':fi X f r'):fi X f (fun xs H Q=>r xs H Q∨r' xs H Q):=by
 intro pins s σ H xs us Q I rs q;rcases q with q | q
 ·exact h pins s σ H xs us Q I rs q
 ·exact h' pins s σ H xs us Q I rs q
theorem aeV:fi X (.type "tuple") (fun xs H Q=>∃p ys,xs=[.ref p]/\((bP X.K H p ys/\∀l,H l=none->Q (.ref l) (upd H l (.tup ys)))∨(cX X.K H p ys/\Q (.ref p) H))):=by
 intro pins s σ H xs us Q I r h;obtain⟨p,ys,rfl,h⟩:=h;obtain⟨u,rfl,rx⟩:=vals1 r;cases rx;rcases h with ⟨hq,q⟩ | ⟨hq,q⟩
 ·obtain⟨ak,r',pl,hz⟩:=I.list hq
  have hlen:=r'.length;refine call_tuple_list pl.isList (fun h' kp=>?_) (by simp only [gx] <;> omega);have I1:Inv X pins σ H {s with heap:=h'}:=I.kept (t':=s.toks) kp;have I2:Inv X pins σ (upd H h'.objs.size (.tup ys)) {s with heap:=h'.push {cls:=.type "tuple",data:=.seq ak.toArray}}:=
   I1.laid (t':=s.toks) (fun b o e=>aW _ e) (bc _) (show c8 X.prog X.w _ _ _ (.tup ys) from⟨hz,ak,r',IsTup.new _ _⟩)
  exact(fun ht=>⟨.ref h'.objs.size,_,I2,rfl,q _ (I1.ar.fresh (bc _))⟩)
 ·obtain⟨ak,r',pl,hz⟩:=I.tuple hq
  exact call_tuple_same pl (fun ht=>⟨.ref p,H,I,rfl,q⟩)
noncomputable def pR (K:ah)(T:String)(x:V)(H:Hp):Prop:=match x with
 |.str _=>T = "str"
 |.int _=>T = "int"
 |.ref p=>(T = "list" /\∃xs,bP K H p xs)∨(T = "tuple" /\∃o,K.lookup p=some o/\o.cls=.type "tuple" /\o.dict=none)∨
   (T = "dict" /\((∃kvs,H p=some (.dK kvs))∨∃kvs,H p=some (.dT kvs)))∨(T = "set" /\∃S n,H p=some (.set S n))
 |_=>False
theorem KC {pins:List (Addr×Obj)}{σ:St}{H:Hp}{s:Shared}{T:String}{x:V}{v:Value}(I:Inv X pins σ H s)(r:RelV x v)(ty:pR X.K T x H) :
  s.TypeIs v T/\∀a,v=.ref a->∃ob,s.heap.get? a=some ob/\ob.dict=none:=by
 cases x with
 |str z=>
  obtain⟨t,rfl⟩:=r
  cases (show T = "str" from ty)
  exact⟨typeIs_str s z t,fun _ e=>nomatch e⟩
 |int i=>
  obtain⟨t,rfl⟩:=r
  cases (show T = "int" from ty)
  exact⟨typeIs_int s i t,fun _ e=>nomatch e⟩
 |ref p=>
  cases r;rcases ty with ⟨rfl,xs,hq⟩ | ⟨rfl,o,hk,hc,hd⟩ | ⟨rfl,hk⟩ | ⟨rfl,S,n,hk⟩
  ·obtain⟨ak,_,pl,_⟩:=I.list hq
   refine⟨pl.isList.typeIs,fun a e=>?_⟩;cases e;obtain⟨o,n,e,c,hd,_⟩:=pl;exact⟨o,e,hd⟩
  ·refine⟨⟨o,I.eL p o hk,hc⟩,fun a e=>?_⟩
   cases e;exact⟨o,I.eL _ o hk,hd⟩
  ·have z:∃o,s.heap.get? p=some o/\o.ExactDict:=by
    rcases hk with ⟨kvs,hk⟩ | ⟨kvs,hk⟩
    ·obtain⟨_,_,_,_,o,_,_,e,ex,_⟩:=I.ar p _ hk
     exact⟨o,e,ex⟩
    ·obtain⟨_,_,_,_,o,_,_,e,ex,_⟩:=I.ar p _ hk
     exact⟨o,e,ex⟩
   obtain⟨o,e,ex⟩:=z;refine⟨⟨o,e,ex.1⟩,fun a e2=>?_⟩;cases e2;exact⟨o,e,ex.2.1⟩
  ·obtain⟨o,_,_,_,e,ex,_⟩:=I.ar p _ hk
   refine⟨⟨o,e,ex.1⟩,fun a e2=>?_⟩;cases e2;exact⟨o,e,ex.2.1⟩
 |_=>exact dq ty
noncomputable def K9 (K:ah)(T:String)(r:V->List V->Hp->VK->Prop)(to:TE):TE:=fun σ H Q=>to σ H fun x H1=>pR K T x H1/\r x [] H1 Q
noncomputable def Di (K:ah)(T:String)(r:V->List V->Hp->VK->Prop)(to:TE)(t:TA):TE:=fun σ H Q=>to σ H fun x H1=>pR K T x H1/\t σ H1 fun xs H2=>r x xs H2 Q
variable {o e:Expr}{es:List Expr}{to:TE}{t:TA}{name:Str}{apos bW:Pos}{T id:String}{r:V->List V->Hp->VK->Prop}
theorem XJ (pa:PlainAttrs T)(slot:Slot T name id)(jS:typeOf (.builtin id)=pure (.type "method_descriptor"))(hm:vf X id r)(ho:PE X o to)
  (nv:attributeBase o name X.env (eval o X.env)=eval o X.env:=by rfl) (kO:(apos.endLine==bW.line)=true:=by rfl):PE X (.Call (.Attribute o name apos) [] [] bW) (K9 X.K T r to):=by
 intro pins s σ H Q I h;refine wpAny_Call_method0_late nv kO (aC (ho pins s σ H _ I h) fun v s1 ⟨x,H1,I1,r1,ty,q1⟩=>?_);obtain⟨h1,h2⟩:=KC I1 r1 ty;exact⟨T,id,pa,slot,jS,h1,h2,yL rfl (PySem.evalArgs_none (hm pins s1 σ H1 x [] v [] Q I1 r1 .nil q1))⟩
theorem wo (pa:PlainAttrs T)(slot:Slot T name id)(jS:typeOf (.builtin id)=pure (.type "method_descriptor"))(hm:vf X id r)(ho:PE X o to)(ha:PA X (e::es) t)
  (nv:attributeBase o name X.env (eval o X.env)=eval o X.env:=by rfl)
  (xn:((backTo bW (starEach (e::es) X.env)).all (fun x=>!x.1)&&(backToKw bW (keywordEach [] X.env)).all (fun x=>x.1.isSome)
   && decide ((e::es).length+([]:List Keyword).length+(if ([]:List Keyword).isEmpty then 0 else 1)<30))=true:=by rfl)
  (kO:(apos.endLine==bW.line)=true:=by rfl) (hs:starEach (e::es) X.env=(false,eval e X.env)::starEach es X.env:=by rfl) (xa:(backTo bW (starEach es X.env)).any (·.1)=false:=by rfl) :
  PE X (.Call (.Attribute o name apos) (e::es) [] bW) (Di X.K T r to t):=by
 intro pins s σ H Q I h;refine wpAny_Call_method_late nv xn kO rfl (aC (ho pins s σ H _ I h) fun v s1 ⟨x,H1,I1,r1,ty,q1⟩=>?_);obtain⟨h1,h2⟩:=KC I1 r1 ty;refine⟨T,id,pa,slot,jS,h1,h2,?_⟩;have hA:=ha bW pins s1 σ H1 _ I1 q1;rw [hs] at hA ⊢;refine yL (by show (false || (backTo bW (starEach es X.env)).any (·.1))=false; rw [xa] <;> rfl) (yI ?_);exact aC hA fun us s2 ⟨vs,H2,I2,r2,q2⟩=>hm pins s2 σ H2 x vs v us Q I2 r1 r2 q2
end
noncomputable def RP (X:Cx)(id:String)(r:V->List V->Hp->VK->Prop):Prop:=
 ∀(pins:List (Addr×Obj)) (s:Shared) (σ:St) (H:Hp) (x:V) (xs:List V) (v:Value) (us:List Value) (Q:VK),Inv X pins σ H s->RelV x v->Vals xs us->r x xs H Q->
  wpAny (model X.prog X.w) X.A (call (.builtin id) (v::us)) (EP X pins σ Q) X.xe s
theorem Vals.one:∀{x:V}{us:List Value},Vals [x] us->∃u,us=[u]/\RelV x u
 |_,_,.cons r .nil=>⟨_,rfl,r⟩
theorem Vals.two:∀{x y:V}{us:List Value},Vals [x,y] us->∃u v,us=[u,v]/\RelV x u/\RelV y v
 |_,_,_,.cons r (.cons q .nil)=>⟨_,_,rfl,r,q⟩
theorem Vals.zero:∀{us:List Value},Vals [] us->us=[]
 |_,.nil=>rfl
theorem Vals.rep {xs:List V}{us:List Value}(h:Vals xs us):∀k:Nat,Vals (a7 k xs).flatten (a7 k us).flatten
 |0=>.nil
 |k+1=>by
  rw [ly,ly,nX,nX];exact Vals.append h (Vals.rep h k)
theorem foldl_rep (ak:List Value):∀(k:Nat) (acc:List Value),
  List.foldl (fun x1 x2=>x1++x2) acc.toArray (a7 k ak.toArray)=(acc++(a7 k ak).flatten).toArray
 |0,acc=>by simp
 |k+1,acc=>by
  have e:acc.toArray++ak.toArray=(acc++ak).toArray:=by simp
  have e2:(acc++ak)++(a7 k ak).flatten=acc++(a7 (k+1) ak).flatten:=by
   rw [ly,nX,mG]
  rw [← e2,← foldl_rep ak k (acc++ak),← e,ly,pD]
section
variable {X:Cx}{pins:List (Addr×Obj)}{σ:St}{H:Hp}{s:Shared}{l b:Addr}{xs ys zs:List V}
theorem Inv.Nj {ak its':List Value}{n:Nat}{f:Array Value->Array Value}{t':Nat}(I:Inv X pins σ H s)(hH:H l=some (.lst xs))
  (e:s.heap.get? l=some {cls:=.type "list",data:=.seq ak.toArray n}) (hf:f ak.toArray=its'.toArray) (hv:Vals ys its') (hz:ys.length<=sizeLine) (ht:0<t':=by first | assumption | exact Inv.tk (by assumption)) :
  Inv X pins σ (upd H l (.lst ys)) {s with heap:=s.heap.update l (Obj.mapSeq f),toks:=t'}:=by
 have q:=PySem.IsL.update e f;rw [hf] at q;refine I.write (x:=l) (e:=l) (by rw [hH]; exact trivial) (.inl rfl) (fun b' u hb hu=>(Cj s.heap (Obj.mapSeq f) (bY hb)).trans hu) ⟨_,q⟩ ?_ ht;exact⟨hz,its',_,hv,q⟩
theorem Inv.Nl {ak:List Value}{t':Nat}(I:Inv X pins σ H s)(hv:Vals ys ak)(hz:ys.length<=sizeLine)(ht:0<t':=by first | assumption | exact Inv.tk (by assumption)) :
  Inv X pins σ (upd H s.heap.objs.size (.lst ys)) {s with heap:=s.heap.push {cls:=.type "list",data:=.seq ak.toArray},toks:=t'}:=
 I.laid (fun _ _ q=>aW _ q) (bc _) ⟨hz,ak,0,hv,cN _ rfl⟩ ht
theorem Inv.fresh (I:Inv X pins σ H s):H s.heap.objs.size=none:=I.ar.fresh (bc _)
theorem Inv.jQ (I:Inv X pins σ H s)(hH:H l=some (.lst xs)):xs.length<=sizeLine/\∃(ak:List Value) (n:Nat),Vals xs ak/\xs.length=ak.length/\s.heap.get? l=some {cls:=.type "list",data:=.seq ak.toArray n}:=by
 obtain⟨z,ak,n,r,e⟩:=I.ar l _ hH;exact⟨z,ak,n,r,r.length,e⟩
theorem Zm {n:Nat}(h:n<=sizeLine):Cn n=false:=by
 unfold Cn;exact decide_eq_false (by omega)
end
section
variable {X:Cx}
noncomputable def El:V->List V->Hp->VK->Prop:=fun x vs H Q=>∃l xs y,x=.ref l/\vs=[y]/\H l=some (.lst xs)/\xs.length<sizeLine/\Q .aI (upd H l (.lst (xs++[y])))
theorem zZ:RP X "list.append" El:=by
 intro pins s σ H x vs v us Q I rx rv h;obtain⟨l,xs,y,rfl,rfl,hH,hz,q⟩:=h;cases rx;obtain⟨u,rfl,ru⟩:=rv.one;obtain⟨z,ak,n,r,hl,e⟩:=I.jQ hH;refine call_meets Ci ⟨_,e,rfl⟩ F.entry_list_append (F.args_list_append_2 _ _) (PySem.list_append l ak.toArray n u (by rw [gx]; omega)) ⟨e,?_⟩;refine(fun ht=>⟨.aI,_,I.Nj (its':=ak++[u]) hH e (by simp) (r.append (.cons ru .nil)) ?_,rfl,q⟩);rw [jw,List.length_singleton];omega
noncomputable def Ek:V->List V->Hp->VK->Prop:=fun x vs H Q=>∃l xs,x=.ref l/\vs=[]/\H l=some (.lst xs)/\Q .aI (upd H l (.lst []))
theorem ZI:RP X "list.clear" Ek:=by
 intro pins s σ H x vs v us Q I rx rv h;obtain⟨l,xs,rfl,rfl,hH,q⟩:=h;cases rx;have hus:=rv.zero;subst hus;obtain⟨z,ak,n,r,hl,e⟩:=I.jQ hH;refine call_meets F.slot_list_clear ⟨_,e,rfl⟩ F.entry_list_clear (F.args_list_clear_1 _) (AutoSeq1.list_clear_list_0 l ak.toArray n (by rw [gx]; omega)) ⟨e,?_⟩;exact(fun ht=>⟨.aI,_,I.Nj (its':=[]) (ys:=[]) hH e rfl .nil (gw _),rfl,q⟩)
noncomputable def WU:R2:=fun x y H Q=>∃l k xs,x=.ref l/\y=.int k/\H l=some (.lst xs)/\-(2 ^ 63)<=k/\k<2 ^ 63/\xs.length * k.toNat<=sizeLine/\
 ∀p,H p=none->Q (.ref p) (upd H p (.lst (a7 k.toNat xs).flatten))
theorem len_rep {α:Type}(xs:List α)(k:Nat):(a7 k xs).flatten.length=k * xs.length:=by
 induction k with
 |zero=>simp
 |succ k ih=>rw [ly,nX,jw,ih,Nat.succ_mul,Nat.add_comm]
theorem X5:cb X (binaryOp .Mult) WU:=by
 intro pins s σ H x y v u Q I rx ry h;obtain⟨l,k,xs,rfl,rfl,hH,h1,h2,hz,q⟩:=h;cases rx;obtain⟨t,rfl⟩:=ry;obtain⟨z,ak,n,r,hl,e⟩:=I.jQ hH;have hlen:ak.toArray.size * k.toNat<=sizeLine:=by rw [gx,← hl]; exact hz
 have ace:¬ ak.toArray.size * k.toNat > (2 ^ 63 - 1) / 8:=by
  have:(sizeLine:Nat)<=(2 ^ 63 - 1) / 8:=by decide
  omega
 have ab4:¬ (!Builtin.List.listFitsIndex k)=true:=by
  rw [fitsIndex_both h1 h2];exact fo
 have abL:¬ Cn (ak.toArray.size * k.toNat)=true:=by
  rw [Zm hlen];exact fo
 have xg:List.foldl (fun x1 x2=>x1++x2) #[] (a7 (if ak.toArray.isEmpty=true then 0 else k.toNat) ak.toArray)=(a7 k.toNat ak).flatten.toArray:=by
  have f0:∀m:Nat,List.foldl (fun x1 x2=>x1++x2) #[] (a7 m ak.toArray)=(a7 m ak).flatten.toArray:=fun m=>by
   have:=foldl_rep ak m [];rw [lq] at this;exact this
  rw [f0]
  cases ak with
  |nil=>simp
  |cons a r'=>rw [if_neg (by simp)]
 refine wpAny_binaryOp_repeat_ref (T:="list") (U:="int") (by decide) ⟨_,e,rfl⟩ (fun s'=>typeIs_int s' k t) noFill_list_mul F.fills_int_mul F.slot_int_rmul repeat_list F.slot_int_index.lookup
  (call_meets F.slot_int_rmul (typeIs_int s k t) F.entry_int_rmul (F.args_int_rmul_2 _ _) (int___rmul___int_list k t l ak.toArray n)
   ⟨e,rfl,⟨_,e,rfl⟩,call_meets F.slot_list_mul ⟨_,e,rfl⟩ F.entry_list_mul (F.args_list_mul_2 _ _) (AutoListH.list___mul___list_int_3 l ak.toArray n k t ab4 ace abL) ⟨e,?_⟩⟩)
 rw [xg];exact(fun ht=>⟨.ref _,_,I.Nl (t':=s.toks) (r.rep k.toNat) (by rw [len_rep,Nat.mul_comm]; exact hz),rfl,q _ I.fresh⟩)
end
end L2
namespace Sj
open PySem PySem.W PySem.Calls PyProof.Rows
theorem aaV {P:Params}{h:Heap}:∀(ns:List Int) (vs:List Value),WellAll P h vs (ns.map WData.int)->IntsAre vs ns:=by
 intro ns
 induction ns with
 |nil=>
  intro vs w;rw [jq] at w;cases w;exact .nil
 |cons n ns ih=>
  intro vs w;rw [bG] at w
  cases w with
  |cons a b=>
   cases a;exact .cons _ _ (ih _ b)
theorem VG {l:OpenLaw}{n:Nat}(hn:l.most=some n){P:Params}{h:Heap}{args:List WData}{vals:List Value}
  (As:l.row.toRowW.claim.pre args=true) (FY:WellAll P h vals args) :
  ∃a vs ns,vals=[bI a]/\args=[WData.list (ns.map WData.int)]/\h.get? a=some {cls:=.type "list",data:=.seq vs.toArray}/\IntsAre vs ns/\ns.length<=n:=by
 have wZ:WShape.hasAll [] args [.list .int]=true:=(pre_splitW As).1;have hc:l.pre.holds [] {args:=args}=true:=(pre_splitW As).2;obtain⟨d,r,rfl,h1,h2⟩:=hasAllW_cons wZ;obtain rfl:=hasAllW_nil h2;obtain⟨xs,rfl,h3⟩:=hasW_list h1;obtain⟨ns,rfl⟩:=items_int h3;have hlen:ns.length<=n:=by
  unfold OpenLaw.pre at hc;have h4:(WTm.not (.lt (.lit (.int (n:Int))) (.len (.arg 0)))).holds [] {args:=[.list (ns.map .int)]}=true:=by
   have h4:=(holds_andW hc).1;rw [hn] at h4;exact h4
  have h5:=condW_of h4 (w_not (w_lt w_lit (w_len_list (w_arg rfl))));rw [ef] at h5;refine Nat.le_of_not_lt fun q=>?_;have q':(n:Int)<((ns.length:Nat):Int):=by omega
  first
   | (rw [decide_eq_true q'] at h5; exact absurd h5 (by decide))
   | (simp at h5; omega)
 cases FY with
 |cons w1 w2=>
  cases w2
  cases w1 with
  |list ho GJ=>exact⟨_,_,ns,rfl,rfl,ho,aaV ns _ GJ,hlen⟩
theorem Xk (l:OpenLaw)(args:List WData):l.row.toRowW.claim.post args (.bool true) args=true:=
 postW_of (r:=l.row.toRowW) (X:=(true==true))
  (show WShape.has [] (.bool true) .bool=true by first | rfl | decide | simp [WShape.has,WShape.arms,WShape.armsAll])
  (show (WTm.eq .res (.lit (.bool true))).value [] {args:=args,res:=some (.bool true),after:=args}=some (.bool (true==true)) from w_eq_bool (w_res rfl) w_lit) rfl
theorem afz {l:OpenLaw}{n:Nat}{q:Program}{loose:List Str}{XP:(Str->Option Value)->Heap->Prop}{YP:World->Heap->Prop}{d:DefRec}
  (hn:l.most=some n) (xo:d.params.defaults=[])
  (call:∀(w:World) (aH aT:Shared) (mg mb:Str->Option Value) (fa:Addr) (o:Obj) (pm cd doc:Value) (a:Addr) (vs:List Value) (ns:List Int),
   Ground q loose [] XP w aH mg mb aT.heap->YP w aT.heap->
   aT.heap.get? fa=some o->o.data=.func (docDef d.name d.params d.body d.scope pm cd doc)->aT.heap.CodeRec cd d.name->mg d.name=some (.ref fa)->
   aT.heap.get? a=some {cls:=.type "list",data:=.seq vs.toArray}->IntsAre vs ns->ns.length<=n->aT.gens=#[]->
   codeAny (model l.prog w) callerA (.call (.ref fa) ⟨[.ref a],[]⟩) (fun r s'=>r=.ok (.ret (.bool true))/\OldK aT.heap s'.heap/\s'.os=aT.os/\AllBare s'.gens) aT) :
  WalkO q loose XP YP l.row.toRowW d [] (fun f vs=>PySem.call f vs):=by
 intro w aH aT mg mb G Y fa o pm cd doc dV kV ho hd eM hD xj hg args vals as As ai9 Oy FY hlo;obtain rfl:dV=.none:=Dflts.none hD xo;obtain rfl:kV=.none:=Dflts.noKw hD;obtain⟨a,vs,ns,rfl,rfl,Gg,hints,hlen⟩:=VG hn As FY;refine enter_call (codeAny_mono (call w aH aT mg mb fa o pm cd doc a vs ns G Y ho (fd_plain hd) eM xj Gg hints hlen hg) fun r s' hq=>?_);obtain⟨rfl,h2,h3,h4⟩:=hq;exact⟨.inl ⟨.bool true,.bool true,[],rfl,fun _=>rfl,.bool true,Xk l _,fun _=>⟨List.Pairwise.nil,fun _ hm=>(nomatch hm)⟩⟩,h2,h3,h4⟩
end Sj
namespace L2
open PySem PySem.Spec PyProof.Rows
theorem Kh:∀{vs:List Value}{ns:List Int},IntsAre vs ns->Vals (ns.map V.int) vs
 |_,_,.nil=>.nil
 |_,_,.cons n t h=>.cons ⟨t,rfl⟩ (Kh h)
noncomputable def fR (s:Stmt):Arguments:=match s with
 |.FunctionDef _ a _ _ _ _ _ _ _ _=>a
 |_=>{posonlyargs:=[],args:=[],vararg:=none,kwonlyargs:=[],kw_defaults:=[],kwarg:=none,defaults:=[]}
noncomputable def di (s:Stmt):List Stmt:=match s with
 |.FunctionDef _ _ b _ _ _ _ _ _ _=>b
 |_=>[]
noncomputable def az (s:Stmt):Scope:=match s with
 |.FunctionDef _ _ _ _ _ _ sc _ _ _=>sc
 |_=>{kind:=.function,names:=[],isGenerator:=false,isCoroutine:=false}
noncomputable abbrev CX0:fU:=fun _ _ _ _ _ _=>False
noncomputable abbrev E0:XK:=fun _ _ _=>False
structure fG (K:ah) (x qual:Str) (st:Stmt) (f:Addr) (fd:FuncData):Prop where
 ex:∃(oc:Value) (od:Option Addr) (kV doc pm:Value) (an:Option Addr) (ax ct:Value) (hU:Array (Option Value)),
  fd=fI x qual (fR st) (di st) (az st) .none kV doc pm an ax ct/\K.lookup f=some ⟨oc,od,.func fd,hU⟩/\nQ K ax qual=true
 kp:lj K (.ref f)=true
section
variable {P:Program}{w:World}{K:ah}{mg:Str->Option Value}{base:Heap}
theorem fG.binds {x qual:Str}{st:Stmt}{f:Addr}{fd:FuncData}{ps:List Str}(F:fG K x qual st f fd)
  (h:∀(kV doc pm:Value) (an:Option Addr) (ax ct:Value) (us:List Value),us.length=ps.length->bindArgs (fI x qual (fR st) (di st) (az st) .none kV doc pm an ax ct) ⟨us,[]⟩=pure (ps.zip us)):Binds K fd ps []:=by
 obtain⟨oc,od,kV,doc,pm,an,ax,ct,hU,rfl,lk,eM⟩:=F.ex;exact .all (h kV doc pm an ax ct)
theorem l6 {x qual:Str}{st:Stmt}{f:Addr}{oc:Value}{od an:Option Addr}{hU:Array (Option Value)}{kV doc pm ax ct:Value}(l:K.lookup f=some ⟨oc,od,.func (fI x qual (fR st) (di st) (az st) .none kV doc pm an ax ct),hU⟩)
  (c:nQ K ax qual=true) (k:lj K (.ref f)=true):fG K x qual st f (fI x qual (fR st) (di st) (az st) .none kV doc pm an ax ct):=⟨⟨oc,od,kV,doc,pm,an,ax,ct,hU,rfl,l,c⟩,k⟩
end
section
variable {X:Cx}
theorem pv (i:Nat){x:Str}{pos:Pos}(hN:X.N[i]?=some x:=by rfl)(hv:vc X.env.scope x:=by first | exact bw rfl | exact dj (bw rfl) | exact dj (dj rfl))(hd:(x==("__debug__" : Str))=false:=by decide)
  (eM:(x==("__classdict__" : Str))=false:=by decide):PE X (.Name x pos) (eE i):=Ex hN hv hd eM
end
theorem N7 {A B:Prop}(h:B):if false=true then A else B:=by
 rw [if_neg fo];exact h
noncomputable def aw (H H':Hp):Prop:=∀b o,H b=some o->H' b=some o
theorem aw.refl (H:Hp):aw H H:=fun _ _ h=>h
theorem aw.trans {H H1 H2:Hp}(a:aw H H1)(b:aw H1 H2):aw H H2:=fun c o h=>b c o (a c o h)
theorem aw.seq {K:ah}{H H':Hp}{a:Addr}{xs:List V}(e:aw H H')(h:bP K H a xs):bP K H' a xs:=by
 rcases h with (h | ⟨o,h⟩) | h
 ·exact .inl (.inl (e _ _ h))
 ·exact .inl (.inr ⟨o,e _ _ h⟩)
 ·exact .inr h
section
variable {κ:Type}[DecidableEq κ]
noncomputable def fY (kvs:List (κ×V))(k:κ):Option V:=(kvs.find? fun kv=>decide (kv.1=k)).map (·.2)
noncomputable def putK (kvs:List (κ×V))(k:κ)(v:V):List (κ×V):=
 if (kvs.any fun kv=>decide (kv.1=k))=true then kvs.map (fun kv=>if kv.1=k then (kv.1,v) else kv) else kvs++[(k,v)]
noncomputable def rD (kvs:List (κ×V))(k:κ):List (κ×V):=kvs.filter fun kv=>decide (kv.1≠k)
theorem yR {p:κ×V}{r:List (κ×V)}{k:κ}(e:p.1=k):fY (p::r) k=some p.2:=by simp [fY,il,e]
theorem yS {p:κ×V}{r:List (κ×V)}{k:κ}(e:¬ p.1=k):fY (p::r) k=fY r k:=by simp [fY,il,e]
theorem Ki (k:κ):∀kvs:List (κ×V),(kvs.any fun kv=>decide (kv.1=k))=(fY kvs k).isSome
 | []=>rfl
 |p::r=>by
  rw [nO]
  by_cases e:p.1=k
  ·simp only [yR e,decide_eq_true e,Bool.true_or,vC]
  ·rw [yS e,decide_eq_false e,Bool.false_or]; exact Ki k r
theorem Fh (kvs:List (κ×V))(k:κ)(v:V):(putK kvs k v).length<=kvs.length+1:=by
 unfold putK
 split
 ·rw [ef]; omega
 ·rw [jw,eg,mD]; omega
theorem fE.wW {o:Option V}{u:Option Value}(r:fE o u):o.isSome=u.isSome:=by
 cases o with
 |none=>cases u with
  |none=>rfl
  |some _=>exact(show False from r).elim
 |some _=>cases u with
  |none=>exact(show False from r).elim
  |some _=>rfl
theorem fE.getD {o:Option V}{u:Option Value}{d:V}{d':Value}(r:fE o u)(rd:RelV d d'):RelV (o.getD d) (u.getD d'):=by
 cases o with
 |none=>cases u with
  |none=>exact rd
  |some _=>exact(show False from r).elim
 |some _=>cases u with
  |none=>exact(show False from r).elim
  |some _=>exact r
theorem KV.val {kvs:List (κ×V)}{vs:List (κ×Value)}(r:KV kvs vs)(k:κ):fE (fY kvs k) (valueAt vs k):=by
 unfold KV at r
 induction r with
 |nil=>exact lA
 |@cons p q ps qs h t ih=>
  obtain⟨h1,h2⟩:=h
  by_cases e:p.1=k
  ·have e':q.1=k:=h1.symm.trans e
   have b:valueAt (q::qs) k=some q.2:=by simp [valueAt,il,e']
   rw [yR e,b]; exact h2
  ·have e':¬ q.1=k:=fun z=>e (h1.trans z)
   have b:valueAt (q::qs) k=valueAt qs k:=by simp [valueAt,il,e']
   rw [yS e,b]; exact ih
theorem KV.any {kvs:List (κ×V)}{vs:List (κ×Value)}(r:KV kvs vs)(k:κ):(kvs.any fun kv=>decide (kv.1=k))=vs.any fun kv=>decide (kv.1=k):=by
 unfold KV at r
 induction r with
 |nil=>rfl
 |cons h t ih=>rw [nO,nO,ih,h.1]
theorem KV.Ec {kvs:List (κ×V)}{vs:List (κ×Value)}(r:KV kvs vs)(k:κ){y:V}{u:Value}(ry:RelV y u) :
  KV (kvs.map fun kv=>if kv.1=k then (kv.1,y) else kv) (vs.map fun kv=>if kv.1=k then (kv.1,u) else kv):=by
 unfold KV at r ⊢
 induction r with
 |nil=>exact .nil
 |@cons p q ps qs h t ih=>
  rw [bG,bG];refine .cons ?_ ih;obtain⟨h1,h2⟩:=h
  by_cases e:p.1=k
  ·rw [if_pos e,if_pos (h1.symm.trans e)]; exact⟨h1,ry⟩
  ·rw [if_neg e,if_neg (fun z=>e (h1.trans z))]; exact⟨h1,h2⟩
theorem KV.put {kvs:List (κ×V)}{vs:List (κ×Value)}(r:KV kvs vs)(k:κ){y:V}{u:Value}(ry:RelV y u):KV (putK kvs k y) (stored vs k u):=by
 unfold putK stored;rw [r.any k]
 by_cases e:(vs.any fun kv=>decide (kv.1=k))=true
 ·rw [if_pos e,if_pos e]; exact r.Ec k ry
 ·rw [if_neg e,if_neg e]; exact Paired.snoc r ⟨rfl,ry⟩
theorem KV.drop {kvs:List (κ×V)}{vs:List (κ×Value)}(r:KV kvs vs)(k:κ):KV (rD kvs k) (without vs k):=by
 unfold KV at r ⊢;unfold rD without
 induction r with
 |nil=>exact .nil
 |@cons p q ps qs h t ih=>
  obtain⟨h1,h2⟩:=h;rw [vz,vz]
  by_cases e:p.1=k
  ·have a:¬ decide (p.1≠k)=true:=by simp [e]
   have b:¬ decide (q.1≠k)=true:=by simp [h1.symm.trans e]
   rw [if_neg a,if_neg b]; exact ih
  ·have e':¬ q.1=k:=fun z=>e (h1.trans z)
   have a:decide (p.1≠k)=true:=by simp [e]
   have b:decide (q.1≠k)=true:=by simp [e']
   rw [if_pos a,if_pos b]; exact .cons ⟨h1,h2⟩ ih
theorem KV.keys {kvs:List (κ×V)}{vs:List (κ×Value)}(r:KV kvs vs):kvs.map (·.1)=vs.map (·.1):=by
 unfold KV at r
 induction r with
 |nil=>rfl
 |cons h t ih=>rw [bG,bG,ih,h.1]
theorem KV.length {kvs:List (κ×V)}{vs:List (κ×Value)}(r:KV kvs vs):kvs.length=vs.length:=yn r
theorem adV (kvs:List (κ×V))(k:κ):(rD kvs k).length<=kvs.length:=nZ _ _
end
theorem oM {P:Program}{w:World}{k:Key}{u:Value}(r:RelV (kV k) u):(cZ P w).is k u=true:=by
 cases k with
 |inl i=>obtain⟨t,e⟩:=(show ∃t,u=Value.int i t from r); subst e; exact ZK P w i t
 |inr x=>obtain⟨t,e⟩:=(show ∃t,u=pG x t from r); subst e; exact Nf P w x t
theorem N6 {P:Program}{w:World}:∀{ks:List Key}{us:List Value},Vals (ks.map kV) us->ItemsAre (cZ P w) ks us
 | [],_,r=>by rw [jq] at r; cases r; exact .nil
 |k::ks,_,r=>by
  rw [bG] at r
  cases r with
  |cons h t=>exact .cons (oM h) (N6 t)
noncomputable abbrev KT (H:Hp):List (List Key×V)->List (List Key×Addr×Value)->Prop:=Paired fun p q=>p.1=q.1/\H q.2.1=some (.tup (p.1.map kV))/\RelV p.2 q.2.2
theorem KT.val {H:Hp}{kvs:List (List Key×V)}{xs:List (List Key×Addr×Value)}(r:KT H kvs xs)(k:List Key):fE (fY kvs k) ((atKey xs k).map (·.2)):=by
 induction r with
 |nil=>exact lA
 |@cons p q ps qs h t ih=>
  obtain⟨h1,_,h2⟩:=h
  by_cases e:p.1=k
  ·have e':q.1=k:=h1.symm.trans e
   have b:atKey (q::qs) k=some q.2:=by simp [atKey,il,e']
   rw [yR e,b]; exact h2
  ·have e':¬ q.1=k:=fun z=>e (h1.trans z)
   have b:atKey (q::qs) k=atKey qs k:=by simp [atKey,il,e']
   rw [yS e,b]; exact ih
theorem KT.Ec {H:Hp}{kvs:List (List Key×V)}{xs:List (List Key×Addr×Value)}(r:KT H kvs xs)(k:List Key){y:V}{u:Value}(ry:RelV y u) :
  KT H (kvs.map fun kv=>if kv.1=k then (kv.1,y) else kv) (xs.map (putAt k u)):=by
 induction r with
 |nil=>exact .nil
 |@cons p q ps qs h t ih=>
  rw [bG,bG];refine .cons ?_ ih;obtain⟨h1,h2,h3⟩:=h;unfold putAt
  by_cases e:p.1=k
  ·rw [if_pos e,if_pos (h1.symm.trans e)]; exact⟨h1,h2,ry⟩
  ·rw [if_neg e,if_neg (fun z=>e (h1.trans z))]; exact⟨h1,h2,h3⟩
theorem KT.put {H:Hp}{kvs:List (List Key×V)}{xs:List (List Key×Addr×Value)}(r:KT H kvs xs)(k:List Key){b:Addr}{y:V}{u:Value}(hb:H b=some (.tup (k.map kV)))(ry:RelV y u) :
  KT H (putK kvs k y) (storedH xs k b u):=by
 have e:(kvs.any fun kv=>decide (kv.1=k))=(atKey xs k).isSome:=by
  rw [Ki,(r.val k).wW,vB]
 unfold putK storedH;rw [e]
 by_cases q:(atKey xs k).isSome=true
 ·rw [if_pos q,if_pos q]; exact r.Ec k ry
 ·rw [if_neg q,if_neg q]; exact Paired.snoc r ⟨rfl,hb,ry⟩
theorem KT.keeps {H H':Hp}{kvs:List (List Key×V)}{xs:List (List Key×Addr×Value)}(r:KT H kvs xs)(ht:∀b ys,H b=some (.tup ys)->H' b=some (.tup ys)):KT H' kvs xs:=
 Paired.z7 r fun _ _ z=>⟨z.1,ht _ _ z.2.1,z.2.2⟩
section
variable {P:Program}{w:World}{H:Hp}{h:Heap}{a:Addr}
theorem LL {u:HO}(ok:cq P w H h)(e:Rd H a u):c8 P w H h a u:=e.ok ok
theorem pd {kvs:List (Key×V)}(ok:cq P w H h)(e:Rd H a (.dK kvs)):kvs.length<=sizeLine/\(a==sysModules)=false/\∃vs,KV kvs vs/\h.DictOf (cZ P w) a vs:=
 show c8 P w H h a (.dK kvs) from LL ok e
theorem HL {kvs:List (Key×V)}(ok:cq P w H h)(e:H a=some (.dK kvs)):kvs.length<=sizeLine/\(a==sysModules)=false/\∃vs,KV kvs vs/\h.DictOf (cZ P w) a vs:=pd ok (.inl e)
theorem tX {ks:List Key}(ok:cq P w H h)(e:H a=some (.tup (ks.map kV))):(tupleKind (cZ P w)).is h ks a:=by
 obtain⟨_,ak,r,o,h1,h2,n,h3⟩:=(show c8 P w H h a (.tup (ks.map kV)) from ok a _ e)
 exact⟨o,ak.toArray,n,h1,h2,h3,by simpa using N6 r⟩
theorem rB {kvs:List (List Key×V)}(ok:cq P w H h)(e:Rd H a (.dT kvs)):kvs.length<=sizeLine/\(a==sysModules)=false/\
  ∃xs,KT H kvs xs/\h.DictOfH (tupleKind (cZ P w)) a xs:=by
 obtain⟨z,y,xs,r,o,es,ep,h1,h2,h3,h4,h5⟩:=(show c8 P w H h a (.dT kvs) from LL ok e)
 refine⟨z,y,xs,r,o,es,ep,h1,h2,h3,h4,fun x hx=>?_,h5⟩;have all:∀{l:List (List Key×V)} {m:List (List Key×Addr×Value)},KT H l m->∀x∈m,(tupleKind (cZ P w)).is h x.1 x.2.1:=by
  intro l m q
  induction q with
  |nil=>intro x hx; exact nomatch hx
  |@cons p q ps qs hq t ih=>
   intro x hx;rcases ba.mp hx with e | hx
   ·subst e
    exact tX ok (by rw [← hq.1]; exact hq.2.1)
   ·exact ih x hx
 exact all r x hx
theorem adT {kvs:List (List Key×V)}(ok:cq P w H h)(e:H a=some (.dT kvs)):kvs.length<=sizeLine/\(a==sysModules)=false/\
  ∃xs,KT H kvs xs/\h.DictOfH (tupleKind (cZ P w)) a xs:=rB ok (.inl e)
end
noncomputable def iX (H:Hp)(a:Addr)(y:V)(r:Option V):Prop:=
 (∃kvs k,Rd H a (.dK kvs)/\y=kV k/\r=fY kvs k)∨∃kvs k b,Rd H a (.dT kvs)/\y=.ref b/\H b=some (.tup (k.map kV))/\r=fY kvs k
noncomputable def Sd (H:Hp)(a:Addr)(y v:V)(H':Hp):Prop:=
 (∃kvs k,H a=some (.dK kvs)/\y=kV k/\kvs.length<sizeLine/\H'=upd H a (.dK (putK kvs k v)))∨
 ∃kvs k b,H a=some (.dT kvs)/\y=.ref b/\H b=some (.tup (k.map kV))/\kvs.length<sizeLine/\H'=upd H a (.dT (putK kvs k v))
theorem iX.k {H:Hp}{a:Addr}{kvs:List (Key×V)}{k:Key}(e:H a=some (.dK kvs)):iX H a (kV k) (fY kvs k):=.inl ⟨kvs,k,.inl e,rfl,rfl⟩
section
variable {X:Cx}{pins:List (Addr×Obj)}{σ:St}{H:Hp}{s:Shared}{a:Addr}{y v:V}{u r:Value}{o:Option V}{A:Around}{E:Value->Shared->Prop}
theorem Inv.big (I:Inv X pins σ H s):sysModules<s.heap.objs.size:=by
 have h:mainGlobals<s.heap.objs.size:=(I.mod.glob.keeps I.bk).lt;exact rW (by decide) h
theorem aez {Q:Value->Shared->Prop}(hu:A.units+1<cLine)(I:Inv X pins σ H s)(g:iX H a y (some v))(ry:RelV y u)(h:∀w' s',Inv X pins σ H s'->RelV v w'->Q w' s') :
  wpAny (model X.prog X.w) A (getItem (.ref a) u) Q E s:=by
 rcases g with ⟨kvs,k,e,ey,l⟩ | ⟨kvs,k,b,e,ey,eb,l⟩
 ·subst ey
  obtain⟨z,hd,vs,rel,dd⟩:=pd I.ar e;obtain⟨w',hw,dW⟩:=fE.some_of (v:=v) (o:=valueAt vs k) (by rw [l]; exact rel.val k);exact wpAny_getItem_of (oM ry) dd.mapOf hw (h w' _ (I.tok _) dW)
 ·subst ey
  cases (show u=bI b from ry)
  obtain⟨z,hd,xs,rel,dd⟩:=rB I.ar e;obtain⟨w',hw,dW⟩:=fE.some_of (v:=v) (o:=(atKey xs k).map (·.2)) (by rw [l]; exact rel.val k);obtain⟨p,hp,hV⟩:=iZ.mp hw;refine wpAny_getItem_heap (tupleKind_room_in1 hu) (tX I.ar eb) dd hp ?_;rw [hV];exact h w' _ (I.tok _ (cB I.tk (kf _ _))) dW
theorem aey {Q:Value->Shared->Prop}(hu:A.units+1<cLine)(I:Inv X pins σ H s)(g:iX H a y o)(ry:RelV y u)(h:∀s',Inv X pins σ H s'->Q (.bool o.isSome) s') :
  wpAny (model X.prog X.w) A (compareOp .In u (.ref a)) Q E s:=by
 rcases g with ⟨kvs,k,e,ey,l⟩ | ⟨kvs,k,b,e,ey,eb,l⟩
 ·subst ey
  obtain⟨z,hd,vs,rel,dd⟩:=pd I.ar e;refine wpAny_in_of (oM ry) hd dd.mapOf ?_;rw [← (rel.val k).wW,← l];exact h _ (I.tok _)
 ·subst ey
  cases (show u=bI b from ry)
  obtain⟨z,hd,xs,rel,dd⟩:=rB I.ar e;refine wpAny_in_heap (tupleKind_room_in1 hu) (tX I.ar eb) hd dd ?_;have q:=(rel.val k).wW;rw [vB] at q;rw [← q,← l];exact h _ (I.tok _ (cB I.tk (kf _ _)))
theorem aex {Q:Value->Shared->Prop}(hu:A.units+1<cLine)(I:Inv X pins σ H s)(g:iX H a y o)(ry:RelV y u)(h:∀s',Inv X pins σ H s'->Q (.bool (!o.isSome)) s') :
  wpAny (model X.prog X.w) A (compareOp .NotIn u (.ref a)) Q E s:=by
 rcases g with ⟨kvs,k,e,ey,l⟩ | ⟨kvs,k,b,e,ey,eb,l⟩
 ·subst ey
  obtain⟨z,hd,vs,rel,dd⟩:=pd I.ar e;refine wpAny_notIn_of (oM ry) hd dd.mapOf ?_;rw [← (rel.val k).wW,← l];exact h _ (I.tok _)
 ·subst ey
  cases (show u=bI b from ry)
  obtain⟨z,hd,xs,rel,dd⟩:=rB I.ar e;refine wpAny_notIn_heap (tupleKind_room_in1 hu) (tX I.ar eb) hd dd ?_;have q:=(rel.val k).wW;rw [vB] at q;rw [← q,← l];exact h _ (I.tok _ (cB I.tk (kf _ _)))
theorem A8 {h':Heap}{t':Nat}{ob:HO}(I:Inv X pins σ H s)(mu:ya (H a))(hs:j9 a s.heap h')(he:∃q,h'.get? a=some q)(new:c8 X.prog X.w (upd H a ob) h' a ob)(ht:0<t':=by first | assumption | exact Inv.tk (by assumption) | exact cB (Inv.tk (by assumption)) (kf _ _)) :
  Inv X pins σ (upd H a ob) {s with heap:=h',toks:=t'}:=
 I.write (x:=a) (e:=a) mu (.inl rfl) (fun b q hb z=>(hs.2 b hb).trans z) he new ht
theorem xE {P:Program}{w:World}{H':Hp}{h':Heap}{kvs:List (Key×V)}{vs:List (Key×Value)}(z:kvs.length<=sizeLine)(hd:(a==sysModules)=false)(rel:KV kvs vs)(dd:h'.DictOf (cZ P w) a vs) :
  c8 P w H' h' a (.dK kvs):=⟨z,hd,vs,rel,dd⟩
theorem aev {H':Hp}{Q:Unit->Shared->Prop}(hu:A.units+1<cLine)(I:Inv X pins σ H s)(g:Sd H a y v H')(ry:RelV y u)(rv:RelV v r)(h:∀s',Inv X pins σ H' s'->Q () s') :
  wpAny (model X.prog X.w) A (setItem (.ref a) u r) Q E s:=by
 rcases g with ⟨kvs,k,e,ey,l,eH⟩ | ⟨kvs,k,b,e,ey,eb,l,eH⟩
 ·subst ey eH
  obtain⟨z,hd,vs,rel,dd⟩:=HL I.ar e;have hz:vs.length<=sizeLine:=by rw [← rel.length]; exact z
  have hl:(putK kvs k v).length<=sizeLine:=by have:=Fh kvs k v; omega
  refine wpAny_setItem_pairs (hsz:=hz) (oM ry) dd fun h' jX hs=>h _ ?_;have he:∃q,h'.get? a=some q:=let ⟨q,_,_,hq,_⟩:=jX; ⟨q,hq⟩
  exact A8 I (by rw [e]; exact lA) hs he (xE hl hd (rel.put k rv) jX)
 ·subst ey eH
  cases (show u=bI b from ry)
  obtain⟨z,hd,xs,rel,dd⟩:=adT I.ar e;have hz:xs.length<=sizeLine:=by rw [← yn rel]; exact z
  have hl:(putK kvs k v).length<=sizeLine:=by have:=Fh kvs k v; omega
  refine wpAny_setItem_heap (hsz:=hz) (tupleKind_room_in1 hu) (tX I.ar eb) dd fun h' jX hs=>h _ ?_;obtain⟨q,es,ep,hq,h2,h3,h4,_,h5⟩:=jX;refine A8 I (by rw [e]; exact lA) hs ⟨q,hq⟩ ⟨hl,hd,_,(rel.put k eb rv).keeps fun c ys ec=>?_,q,es,ep,hq,h2,h3,h4,h5⟩;rw [aF (wD ec e (fun z=>nomatch z))];exact ec
end
section
variable {X:Cx}{pins:List (Addr×Obj)}{σ:St}{H:Hp}{s:Shared}{a:Addr}{kvs:List (Key×V)}{k:Key}{u:Value}{A:Around}{E:Value->Shared->Prop}
theorem aew {v:V}{more:List Value}{Q:Value->Shared->Prop}(I:Inv X pins σ H s)(e:H a=some (.dK kvs))(ry:RelV (kV k) u)(l:fY kvs k=some v)(hm:more=[]∨∃x,more=[x])
  (h:∀w' s',Inv X pins σ (upd H a (.dK (rD kvs k))) s'->RelV v w'->Q w' s'):wpAny (model X.prog X.w) A (call (.builtin "dict.pop") (.ref a::u::more)) Q E s:=by
 obtain⟨z,hd,vs,rel,dd⟩:=HL I.ar e;obtain⟨w',hw,dW⟩:=fE.some_of (v:=v) (o:=valueAt vs k) (by rw [← l]; exact rel.val k);have hp:(keyPart u).isSome=true:=by
  cases k with
  |inl i=>obtain⟨t,q⟩:=(show ∃t,u=Value.int i t from ry); subst q; rfl
  |inr x=>obtain⟨t,q⟩:=(show ∃t,u=pG x t from ry); subst q; rfl
 have ha:argsOk "dict.pop" ⟨.ref a::u::more,[]⟩:=by
  rcases hm with q | ⟨x,q⟩
  ·subst q; exact PySem.F.args_dict_pop_2 _ _
  ·subst q; exact PySem.F.args_dict_pop_3 _ _ _
 refine call_meetsIn PySem.F.slot_dict_pop dd.typeIs PySem.F.entry_dict_pop ha (meets_dict_pop_there (cZ X.prog X.w) a (oM ry) more hm hp)
  ⟨vs,w',dd,by rw [← rel.length]; exact z,hw,fun h' jX hs=>h w' _ ?_ dW⟩
 have he:∃q,h'.get? a=some q:=let ⟨q,_,_,hq,_⟩:=jX; ⟨q,hq⟩
 exact A8 I (by rw [e]; exact lA) hs he (xE (c9 (adV kvs k) z) hd (rel.drop k) jX)
end
noncomputable def Jx (i:Expr):Prop:=∀ov iv,subscripted i false ov iv=operate [ov,iv] (getItem ov iv)
theorem Vf {prog:Program}{w:World}{A:Around}{E:Value->Shared->Prop}{s:Shared}{env:Env}{value slice:Expr}{pos:Pos}{T id:String}{Q:Value->Shared->Prop}
  (hl:typeLookup (.type T) "__getitem__" = pure (some (.builtin id))) (hs:Jx slice)
  (h:wpAny (model prog w) A (eval value env) (fun o aT=>wpAny (model prog w) A (eval slice env) (fun i gD=>gD.TypeIs o T/\wpAny (model prog w) A (getItem o i) Q E gD) E aT) E s) :
  wpAny (model prog w) A (eval (.Subscript value slice pos) env) Q E s:=by
 refine Subscript_ (wpAny_mono h (fun o aT el=>wpAny_mono el (fun i gD qE=>?_) fun _ _ x=>x) fun _ _ x=>x);obtain⟨hT,qE⟩:=qE;unfold subscriptTail;refine wpAny_bind ?_;rw [getitemInPython_of_ne hT.not_modules];refine wpAny_bind (wpAny_specialOf hT hl ?_);have fin:wpAny (model prog w) A (subscripted slice false o i) (fun r gB=>wpAny (model prog w) A (letTemporaryGo value o r >>= fun _=>pure r) Q E gB) E gD:=by
  rw [hs o i];exact wpAny_operating (wpAny_mono qE (fun r gB kK=>wpAny_bind (wpAny_letTemporaryGo (wpAny_pure kK))) fun _ _ x=>x)
 first
  |exact wpAny_pure (wpAny_bind fin)
  |exact wpAny_bind (wpAny_pure (wpAny_bind fin))
  |exact wpAny_bind fin
theorem aed {X:Cx}{pins:List (Addr×Obj)}{σ:St}{H:Hp}{s:Shared}{a:Addr}{y:V}{o:Option V}(I:Inv X pins σ H s)(g:iX H a y o):s.TypeIs (.ref a) "dict" := by
 rcases g with ⟨kvs,k,e,_,_⟩ | ⟨kvs,k,b,e,_,_,_⟩
 ·obtain⟨_,_,vs,_,dd⟩:=pd I.ar e
  exact dd.typeIs
 ·obtain⟨_,_,xs,_,dd⟩:=rB I.ar e
  exact dd.typeIs
noncomputable def U1 (td ty:TE):TE:=fun σ H Q=>td σ H fun x H1=>ty σ H1 fun y H2=>∃a v,x=.ref a/\iX H2 a y (some v)/\Q v H2
noncomputable def Wq (td ty tv:TE):TS:=fun D σ H=>tv σ H fun v H1=>td σ H1 fun x H2=>ty σ H2 fun y H3=>∃a H4,x=.ref a/\Sd H3 a y v H4/\D.nx σ H4
section
variable {X:Cx}{o i e value:Expr}{pos pos' pS:Pos}{td ty tv:TE}
theorem XF (hu:X.A.units+1<cLine)(ho:PE X o td)(hi:PE X i ty)(hs:Jx i):PE X (.Subscript o i pos) (U1 td ty):=by
 intro pins s σ H Q I h;refine Vf PySem.F.slot_dict_getitem.lookup hs (aC (ho pins s σ H _ I h) fun u s1 ⟨x,H1,I1,rx,q1⟩=>aC (hi pins s1 σ H1 _ I1 q1) fun iv s2 ⟨y,H2,I2,ry,a,v,ex,g,q2⟩=>?_);subst ex;obtain rfl:u=bI a:=rx;exact⟨aed I2 g,aez hu I2 g ry fun w' s3 I3 dW=>(fun ht=>⟨v,H2,I3,dW,q2⟩)⟩
theorem Xh (hu:X.A.units+1<cLine)(ho:PE X o td)(hi:PE X i ty)(hv:PE X value tv)(hs:swapsWith value (some (.Subscript o i pos')) pos.line X.env=pure false) :
  PS X (.Assign [.Subscript o i pos'] value pos) (Wq td ty tv):=by
 intro pins s σ H D I h;refine wpAny_Assign_Subscript (aC (hv pins s σ H _ I h) fun r s1 ⟨v,H1,I1,rv,q1⟩=>aC (ho pins s1 σ H1 _ I1 q1) fun u s2 ⟨x,H2,I2,rx,q2⟩=>aC (hi pins s2 σ H2 _ I2 q2) fun iv s3 ⟨y,H3,I3,ry,a,H4,ex,g,q3⟩=>?_) hs;subst ex;obtain rfl:u=bI a:=rx;exact aev hu I3 g ry rv fun s4 I4=>(fun ht=>⟨σ,H4,I4,q3⟩)
end
theorem Qx {P:Program}{w:World}{H:Hp}(h:Heap)(hb:sysModules<h.objs.size):c8 P w H (h.push {cls:=.type "dict",data:=.dict #[]}) h.objs.size (.dK []):=
 ⟨gw _,beq_eq_false_iff_ne.mpr (bY (bJ hb)),[],.nil,Heap.DictOf.new h⟩
noncomputable def K4:TE:=fun _ H Q=>∀p,H p=none->Q (.ref p) (upd H p (.dK []))
section
variable {X:Cx}{pos:Pos}
theorem Me:PE X (.Dict [] [] pos) K4:=fun pins s σ H Q I h=>
 wpAny_Dict_empty (fun ht=>⟨.ref s.heap.objs.size,_,I.laid (a:=s.heap.objs.size) (o:=.dK []) (t':=s.toks) (fun _ _ q=>aW _ q) (bc _) (Qx s.heap I.big),rfl,h _ (I.ar.fresh (bc _))⟩)
end
noncomputable def Dc:List (TE×TE)->St->Hp->(List (V×V)->Hp->Prop)->Prop
 | [],_,H,Q=>Q [] H
 | (tk,tv)::r,σ,H,Q=>tk σ H fun x H1=>tv σ H1 fun y H2=>Dc r σ H2 fun ps H3=>Q ((x,y)::ps) H3
noncomputable abbrev VV:List (V×V)->List (Value×Value)->Prop:=Paired fun p q=>RelV p.1 q.1/\RelV p.2 q.2
noncomputable def BC (X:Cx)(pos:Pos)(keys:List (Option Expr))(values:List Expr)(mL:List (TE×TE)):Prop:=
 ∀(pins:List (Addr×Obj)) (s:Shared) (σ:St) (H:Hp) (Q:List (V×V)->Hp->Prop),Inv X pins σ H s->Dc mL σ H Q->
  wpAny (model X.prog X.w) X.A (evalPairs (pairTrees keys values X.env pos)) (Lz fun vs s'=>∃ps H',Inv X pins σ H' s'/\VV ps vs/\Q ps H') X.xe s
theorem Xj {X:Cx}{pos:Pos}:BC X pos [] [] []:=fun pins s σ H Q I h=>pairTrees_nil_walk (fun ht=>⟨[],H,I,.nil,h⟩)
theorem Et {X:Cx}{pos:Pos}{k v:Expr}{ks:List (Option Expr)}{vs:List Expr}{tk tv:TE}{mL:List (TE×TE)}(hk:PE X k tk)(hv:PE X v tv)(hr:BC X pos ks vs mL) :
  BC X pos (some k::ks) (v::vs) ((tk,tv)::mL):=fun pins s σ H Q I h=>
 pairTrees_cons_walk (aC (hk pins s σ H _ I h) fun u s1 ⟨x,H1,I1,rx,q1⟩=>aC (hv pins s1 σ H1 _ I1 q1) fun w2 s2 ⟨y,H2,I2,ry,q2⟩=>
  aC (hr pins s2 σ H2 _ I2 q2) fun ws s3 ⟨ps,H3,I3,rel,q3⟩=>(fun ht=>⟨(x,y)::ps,H3,I3,.cons ⟨rx,ry⟩ rel,q3⟩))
noncomputable def m8 (kvs more:List (Key×V)):List (Key×V):=more.foldl (fun acc kv=>putK acc kv.1 kv.2) kvs
theorem KV.merge:∀{more:List (Key×V)}{rs:List (Key×Value)}{kvs:List (Key×V)}{vs:List (Key×Value)},KV more rs->KV kvs vs->KV (m8 kvs more) (merged vs rs):=by
 intro more rs kvs vs r;unfold KV at r
 induction r generalizing kvs vs with
 |nil=>intro q; exact q
 |@cons p q ps qs h t ih=>
  intro r0;have e:KV (putK kvs p.1 p.2) (stored vs q.1 q.2):=by
   have:=r0.put p.1 h.2;rw [← h.1]; exact this
  exact ih e
theorem Fi:∀(more kvs:List (Key×V)),(m8 kvs more).length<=kvs.length+more.length
 | [],kvs=>by show kvs.length<=kvs.length+0; omega
 |p::r,kvs=>by
  have h1:=Fi r (putK kvs p.1 p.2);have h2:=Fh kvs p.1 p.2;show (m8 (putK kvs p.1 p.2) r).length<=_;rw [eg]; omega
theorem Q8 {P:Program}{w:World}:∀{kvs:List (Key×V)}{ws:List (Value×Value)},VV (kvs.map fun kv=>(kV kv.1,kv.2)) ws->∃rs,Carries (cZ P w) ws rs/\KV kvs rs
 | [],_,r=>by rw [jq] at r; cases r; exact⟨[],lA,.nil⟩
 |p::kvs,_,r=>by
  rw [bG] at r
  cases r with
  |@cons a b as bs h t=>
   obtain⟨rs,c,q⟩:=Q8 (P:=P) (w:=w) t;obtain⟨b1,b2⟩:=b;exact⟨(p.1,b2)::rs,⟨oM h.1,rfl,c⟩,.cons ⟨rfl,h.2⟩ q⟩
noncomputable def UX (mL:List (TE×TE)):TE:=fun σ H Q=>∀p,H p=none->Dc mL σ (upd H p (.dK [])) fun ps H2=>H2 p=some (.dK [])/\∃kvs:List (Key×V),ps=kvs.map (fun kv=>(kV kv.1,kv.2))/\kvs.length<=15/\Q (.ref p) (upd H2 p (.dK (m8 [] kvs)))
theorem XD {X:Cx}{pos:Pos}{keys:List (Option Expr)}{values:List Expr}{mL:List (TE×TE)}(h:BC X pos keys values mL)(GJ:keys.all (·.isSome)=true)(hl:keys.length=values.length)(h0:keys≠[])
  (h15:keys.length<=15):PE X (.Dict keys values pos) (UX mL):=by
 intro pins s σ H Q I q;have hn:=I.ar.fresh (bc s.heap.objs.size);have I1:=I.laid (a:=s.heap.objs.size) (o:=.dK []) (h':=s.heap.push {cls:=.type "dict",data:=.dict #[]}) (t':=s.toks) (fun _ _ q=>aW _ q) (bc _) (Qx s.heap I.big)
 refine wpAny_Dict_walk (knd:=cZ X.prog X.w) GJ hl h0 h15 (aC (h pins _ σ _ _ I1 (q _ hn)) fun ws s2 ⟨ps,H2,I2,rel,e,kvs,ep,lk,q2⟩=>?_);subst ep;obtain⟨rs,c,rk⟩:=Q8 (P:=X.prog) (w:=X.w) rel;obtain⟨z,hd,vs0,r0,dd⟩:=HL I2.ar e;cases r0;refine⟨rs,c,dd,fun h' jX hs=>(fun ht=>⟨.ref s.heap.objs.size,_,?_,rfl,q2⟩)⟩;have hz:(m8 [] kvs).length<=sizeLine:=by
  have h1:=Fi kvs [];rw [mD] at h1;rw [sizeLine_eq]; omega
 have he:∃q,h'.get? s.heap.objs.size=some q:=let ⟨q,_,_,hq,_⟩:=jX; ⟨q,hq⟩
 exact A8 I2 (by rw [e]; exact lA) hs he (xE hz hd (rk.merge .nil) jX)
structure M1 (X:Cx) (o:Expr) (m:Str) (apos:Pos) (e:Expr) (bW:Pos):Prop where
 base:attributeBase o m X.env (eval o X.env)=eval o X.env
 o7:((backTo bW (starEach [e] X.env)).all (fun x=>!x.1)&&(backToKw bW (keywordEach [] X.env)).all (fun x=>x.1.isSome)
  && decide (([e]:List Expr).length+([]:List Keyword).length+(if ([]:List Keyword).isEmpty then 0 else 1)<30))=true
 line:(apos.endLine==bW.line)=true
 trees:backTo bW (starEach [e] X.env)=[(false,eval e X.env)]
structure M2 (X:Cx) (o:Expr) (m:Str) (apos:Pos) (e f:Expr) (bW:Pos):Prop where
 base:attributeBase o m X.env (eval o X.env)=eval o X.env
 o7:((backTo bW (starEach [e,f] X.env)).all (fun x=>!x.1)&&(backToKw bW (keywordEach [] X.env)).all (fun x=>x.1.isSome)
  && decide (([e,f]:List Expr).length+([]:List Keyword).length+(if ([]:List Keyword).isEmpty then 0 else 1)<30))=true
 line:(apos.endLine==bW.line)=true
 trees:backTo bW (starEach [e,f] X.env)=[(false,eval e X.env),(false,eval f X.env)]
noncomputable def JE (H:Hp)(a:Addr):Prop:=(∃kvs,Rd H a (.dK kvs))∨∃kvs,Rd H a (.dT kvs)
theorem Od {X:Cx}{pins:List (Addr×Obj)}{σ:St}{H:Hp}{s:Shared}{a:Addr}(I:Inv X pins σ H s)(d:JE H a) :
  s.TypeIs (.ref a) "dict" /\(∀b,bI a=.ref b->∃ob,s.heap.get? b=some ob/\ob.dict=none)/\(a==sysModules)=false:=by
 rcases d with ⟨kvs,e⟩ | ⟨kvs,e⟩
 ·obtain⟨_,hd,vs,_,dd⟩:=pd I.ar e
  refine⟨dd.typeIs,fun b q=>?_,hd⟩;cases q;obtain⟨ob,_,_,h1,h2,_⟩:=dd;exact⟨ob,h1,h2.2.1⟩
 ·obtain⟨_,hd,xs,_,dd⟩:=rB I.ar e
  refine⟨dd.typeIs,fun b q=>?_,hd⟩;cases q;obtain⟨ob,_,_,h1,h2,_⟩:=dd;exact⟨ob,h1,h2.2.1⟩
section
variable {X:Cx}{pins:List (Addr×Obj)}{σ:St}{H:Hp}{s:Shared}{a:Addr}{y d:V}{u r:Value}{o:Option V}{A:Around}{E:Value->Shared->Prop}
theorem aeA {Q:Value->Shared->Prop}(hu:A.units+1<cLine)(I:Inv X pins σ H s)(g:iX H a y o)(ry:RelV y u)(rd:RelV d r)(h:∀w' s',Inv X pins σ H s'->RelV (o.getD d) w'->Q w' s') :
  wpAny (model X.prog X.w) A (call (.builtin "dict.get") [.ref a,u,r]) Q E s:=by
 rcases g with ⟨kvs,k,e,ey,l⟩ | ⟨kvs,k,b,e,ey,eb,l⟩
 ·subst ey
  obtain⟨z,hd,vs,rel,dd⟩:=pd I.ar e;refine call_meetsIn yK dd.typeIs PySem.F.entry_dict_get (PySem.F.args_dict_get_3 _ _ _) (meets_dict_get_default (cZ X.prog X.w) a (oM ry) hd r) ⟨_,dd.mapOf,h _ _ (I.tok _) ?_⟩;rw [l];exact(rel.val k).getD rd
 ·subst ey
  cases (show u=bI b from ry)
  obtain⟨z,hd,xs,rel,dd⟩:=rB I.ar e;refine call_meetsIn yK dd.typeIs PySem.F.entry_dict_get (PySem.F.args_dict_get_3 _ _ _) (meetsH_dict_get_default (tupleKind (cZ X.prog X.w)) a b hd r) ⟨tupleKind_room_in1 hu,k,xs,tX I.ar eb,dd,h _ _ (I.tok _ (cB I.tk (kf _ _))) ?_⟩;rw [l];exact(rel.val k).getD rd
end
noncomputable def U0 (td ty tx:TE):TE:=fun σ H Q=>td σ H fun x H1=>∃a,x=.ref a/\JE H1 a/\ty σ H1 fun y H2=>tx σ H2 fun z H3=>∃o,iX H3 a y o/\Q (o.getD z) H3
noncomputable def UZ (td ty:TE):TE:=fun σ H Q=>td σ H fun x H1=>∃a,x=.ref a/\JE H1 a/\ty σ H1 fun y H2=>∃kvs k v,H2 a=some (.dK kvs)/\y=kV k/\fY kvs k=some v/\Q v (upd H2 a (.dK (rD kvs k)))
section
variable {X:Cx}{o e f:Expr}{apos bW:Pos}{td ty tx:TE}
theorem XE (hu:X.A.units+1<cLine)(ho:PE X o td)(he:PE X e ty)(hf:PE X f tx)(m:M2 X o "get" apos e f bW):PE X (.Call (.Attribute o "get" apos) [e,f] [] bW) (U0 td ty tx):=by
 intro pins s σ H Q I h;refine wpAny_Call_method m.base m.o7 m.line Ck yK PySem.F.type_dict_get (aC (ho pins s σ H _ I h) fun u s1 ⟨x,H1,I1,rx,a,ex,d,q1⟩=>?_);subst ex;obtain rfl:u=bI a:=rx;obtain⟨t1,t2,_⟩:=Od I1 d;refine⟨t1,t2,?_⟩;rw [m.trees];refine yL rfl (yI (lr (aC (he pins s1 σ H1 _ I1 q1) fun iv s2 ⟨y,H2,I2,ry,q2⟩=>
  lr (aC (hf pins s2 σ H2 _ I2 q2) fun fv s3 ⟨z,H3,I3,rz,ov,g,q3⟩=>mE ?_))))
 exact aeA hu I3 g ry rz fun w' s4 I4 dW=>(fun ht=>⟨_,H3,I4,dW,q3⟩)
theorem XC (ho:PE X o td)(he:PE X e ty)(m:M1 X o "pop" apos e bW):PE X (.Call (.Attribute o "pop" apos) [e] [] bW) (UZ td ty):=by
 intro pins s σ H Q I h;refine wpAny_Call_method m.base m.o7 m.line Ck PySem.F.slot_dict_pop PySem.F.type_dict_pop (aC (ho pins s σ H _ I h) fun u s1 ⟨x,H1,I1,rx,a,ex,d,q1⟩=>?_);subst ex;obtain rfl:u=bI a:=rx;obtain⟨t1,t2,_⟩:=Od I1 d;refine⟨t1,t2,?_⟩;rw [m.trees];refine yL rfl (yI (lr (aC (he pins s1 σ H1 _ I1 q1) fun iv s2 ⟨y,H2,I2,ry,kvs,k,v,ea,ey,l,q2⟩=>mE ?_)));subst ey;exact aew I2 ea ry l (.inl rfl) fun w' s3 I3 dW=>(fun ht=>⟨v,_,I3,dW,q2⟩)
end
section
variable {X:Cx}{pins:List (Addr×Obj)}{σ:St}{H:Hp}{s:Shared}{a:Addr}{kvs:List (Key×V)}{A:Around}{E:Value->Shared->Prop}
theorem aeB {Q:Value->Shared->Prop}(I:Inv X pins σ H s)(e:Rd H a (.dK kvs))(h:∀p s',H p=none->Inv X pins σ (upd H p (.dK kvs)) s'->Q (.ref p) s'):wpAny (model X.prog X.w) A (call (.type "dict") [.ref a]) Q E s:=by
 obtain⟨z,hd,vs,rel,dd⟩:=pd I.ar e;refine kt_call_dict hd dd (by rw [← rel.length]; exact z) fun h' jX hs=>?_;refine h _ _ (I.ar.fresh (bc _)) (I.laid (a:=s.heap.objs.size) (o:=.dK kvs) (t':=s.toks) (fun b q hq=>?_) (bc _) (xE z (beq_eq_false_iff_ne.mpr (bY (bJ I.big))) rel jX));exact(hs.2 b (bJ (aV hq))).trans (aW _ hq)
end
end L2
set_option maxHeartbeats 4000000
namespace L2
open PySem PySem.Spec PyProof.Rows
noncomputable def d7 (names:List (Str×NameKind))(cells:List (Str×Addr)):List (Str×Addr):=
 names.foldl (fun cs p=>if p.2 == .free then (p.1,(cells.lookup p.1).getD 0)::cs else cs) []
theorem Q4 {env:Env}:∀(names:List (Str×NameKind)) (cs:List (Str×Addr)),(∀x∈names,x.2=.free->∃c,env.cells.lookup x.1=some c)->
  (forIn names cs (fun(x:Str×NameKind) (cs:List (Str×Addr))=>match x with | (name,kind)=>if (kind==pJ)=true then do let a ← cellOf env name; pure (nR ((name,a)::cs)) else pure (nR cs)):Sem (List (Str×Addr)))
   = pure (names.foldl (fun cs p=>if p.2 == .free then (p.1,(env.cells.lookup p.1).getD 0)::cs else cs) cs)
 | [],cs,_=>rfl
 | (n,k)::r,cs,h=>by
  rw [yr,pD];have ih:=fun cs'=>Q4 (env:=env) r cs' fun x hx=>h x (cy _ hx)
  cases hk:(k==pJ) with
  |false=>
   simp only [hk,cT,if_false,pure_bind];exact ih cs
  |true=>
   obtain⟨c,hc⟩:=h (n,k) bH (by simpa using hk);have e:cellOf env n=pure c:=by unfold cellOf; rw [hc]
   simp only [hk,if_true,e,pure_bind];rw [hc];exact ih _
theorem Ba {scope:Scope}{env:Env}(h:∀x∈scope.names,x.2=.free->∃c,env.cells.lookup x.1=some c):closureFor scope env=pure (d7 scope.names env.cells):=by
 unfold closureFor;have:=Q4 (env:=env) scope.names [] h;simp only [bind_pure];exact this
theorem Q3 {cells:List (Str×Addr)}{x:Str}{c:Addr}:∀(names:List (Str×NameKind)) (cs:List (Str×Addr)),
  (∀y∈names,y.2=.free->∃c,cells.lookup y.1=some c)->(∀c,cs.lookup x=some c->cells.lookup x=some c)->
  (names.foldl (fun cs p=>if p.2 == .free then (p.1,(cells.lookup p.1).getD 0)::cs else cs) cs).lookup x=some c->cells.lookup x=some c
 | [],cs,_,h2,h=>h2 c h
 | (n,k)::r,cs,h1,h2,h=>by
  rw [pD] at h;refine Q3 r _ (fun y hy=>h1 y (cy _ hy)) (fun d hd=>?_) h
  cases hk:(k==pJ) with
  |false=>
   simp only [hk,cT,if_false] at hd;exact h2 d hd
  |true=>
   obtain⟨e,he⟩:=h1 (n,k) bH (by simpa using hk);simp only [hk,if_true,js] at hd
   cases hx:x==n with
   |false=>rw [hx] at hd; exact h2 d hd
   |true=>
    rw [hx] at hd;have FX:x=n:=by simpa using hx
    subst FX;rw [he] at hd;simp at hd;rw [he,hd]
theorem rF {names:List (Str×NameKind)}{cells:List (Str×Addr)}{x:Str}{c:Addr}(h1:∀y∈names,y.2=.free->∃c,cells.lookup y.1=some c)(h:(d7 names cells).lookup x=some c):cells.lookup x=some c:=
 Q3 names [] h1 (fun _ z=>by simp at z) h
theorem xF {cells:List (Str×Addr)}{x:Str}:∀(names:List (Str×NameKind)) (cs:List (Str×Addr)),
  ((x,pJ)∈names∨∃c,cs.lookup x=some c)->∃c,(names.foldl (fun cs p=>if p.2 == .free then (p.1,(cells.lookup p.1).getD 0)::cs else cs) cs).lookup x=some c
 | [],cs,h=>by
  rcases h with h | h
  ·cases h
  ·exact h
 | (n,k)::r,cs,h=>by
  rw [pD];refine xF r _ ?_;rcases h with h | ⟨c,h⟩
  ·rcases ba.mp h with h | h
   ·right
    injection h with h1 h2;subst h1 h2;exact⟨(cells.lookup x).getD 0,by simp [js]⟩
   ·exact .inl h
  ·right
   cases hk:(k==pJ) with
   |false=>exact⟨c,by simp only [hk,cT,if_false]; exact h⟩
   |true=>
    simp only [hk,if_true,js]
    cases hx:x==n with
    |false=>exact⟨c,h⟩
    |true=>exact⟨_,rfl⟩
theorem lookup_mem {names:List (Str×NameKind)}{x:Str}{k:NameKind}(h:names.lookup x=some k):(x,k)∈names:=by
 induction names with
 |nil=>simp at h
 |cons p r ih=>
  obtain⟨n,l⟩:=p;rw [js] at h
  cases hx:x==n with
  |false=>rw [hx] at h; exact cy _ (ih h)
  |true=>
   rw [hx] at h;have FX:x=n:=by simpa using hx
   subst FX;cases h;exact bH
theorem z8 {env:Env}:∀{names:List (Str×NameKind)}{x:Str}{k:NameKind},
  (names.map fun(n,k)=>if (k==pJ&&env.scope.kind == .function&&env.kindOf n==some .cell) then (n,n6) else (n,k)).lookup x=some k->
   names.lookup x=some k∨(k=.cell/\names.lookup x=some .free)
 | [],_,_,h=>by simp at h
 | (n,l)::r,x,k,h=>by
  have ih:=@z8 env r x k;rw [bG] at h
  by_cases hc:(l==pJ&&env.scope.kind == .function&&env.kindOf n==some .cell)=true
  ·simp only [hc,if_true] at h
   rw [js] at h ⊢
   cases hx:x==n with
   |true=>
    rw [hx] at h;cases h;have hl:l=.free:=by
     have:=(yH.mp (yH.mp hc).1).1;simpa using this
    subst hl;exact .inr ⟨rfl,rfl⟩
   |false=>rw [hx] at h; exact ih h
  ·simp only [hc] at h
   simp only [cT,if_false] at h;rw [js] at h ⊢
   cases hx:x==n with
   |true=>rw [hx] at h; exact .inl h
   |false=>rw [hx] at h; exact ih h
theorem HV {x:Str}{c:Addr}:∀(names:List (Str×NameKind)) (n:Nat) (acc:List (Str×Addr)),(cellsFrom n names acc).lookup x=some c->
  (n<=c/\(x,n6)∈names)∨(acc.lookup x=some c/\∀k,(x,k)∈names->k≠.cell)
 | [],n,acc,h=>.inr ⟨h,fun _ z=>nomatch z⟩
 | (y,k)::r,n,acc,h=>by
  unfold cellsFrom at h
  by_cases hk:(k==n6)=true
  ·rw [if_pos hk] at h
   have jd:k=.cell:=by simpa using hk
   subst jd;rcases HV r _ _ h with ⟨a,b⟩ | ⟨a,b⟩
   ·exact .inl ⟨by omega,cy _ b⟩
   ·rw [js] at a
    cases hx:x==y with
    |true=>
     rw [hx] at a;have e:n=c:=by simpa using a
     have hxy:x=y:=by simpa using hx
     subst hxy;exact .inl ⟨by omega,bH⟩
    |false=>
     rw [hx] at a;refine .inr ⟨a,fun k' z=>?_⟩;rcases ba.mp z with z | z
     ·injection z with z1 z2
      subst z1;simp at hx
     ·exact b k' z
  ·rw [if_neg hk] at h
   rcases HV r _ _ h with ⟨a,b⟩ | ⟨a,b⟩
   ·exact .inl ⟨a,cy _ b⟩
   ·refine .inr ⟨a,fun k' z=>?_⟩
    rcases ba.mp z with z | z
    ·injection z with z1 z2
     subst z2;intro e;exact hk (by rw [e]; rfl)
    ·exact b k' z
theorem HW:∀(names:List (Str×NameKind)) (n:Nat) (acc:List (Str×Addr)),(∀z d,acc.lookup z=some d->d<n)->(∀x y c,acc.lookup x=some c->acc.lookup y=some c->x=y)->
  ∀x y c,(cellsFrom n names acc).lookup x=some c->(cellsFrom n names acc).lookup y=some c->x=y
 | [],_,_,_,h=>h
 | (y,k)::r,n,acc,hb,hi=>by
  unfold cellsFrom
  by_cases hk:(k==n6)=true
  ·rw [if_pos hk]
   refine HW r _ _ (fun z d e=>?_) fun u v c e1 e2=>?_
   ·rw [js] at e
    cases hx:z==y with
    |true=>rw [hx] at e; have q:n=d:=(by simpa using e); rw [← q]; exact yu n
    |false=>rw [hx] at e; exact yy (hb z d e)
   ·rw [js] at e1 e2
    cases hx:u==y with
    |true=>
     rw [hx] at e1;have q1:n=c:=by simpa using e1
     cases hy:v==y with
     |true=>rw [(by simpa using hx:u=y),(by simpa using hy:v=y)]
     |false=>rw [hy] at e2; exact absurd (hb v c e2) (by rw [← q1]; exact fm _)
    |false=>
     rw [hx] at e1
     cases hy:v==y with
     |true=>rw [hy] at e2; have q2:n=c:=(by simpa using e2); exact absurd (hb u c e1) (by rw [← q2]; exact fm _)
     |false=>rw [hy] at e2; exact hi u v c e1 e2
  ·rw [if_neg hk]
   exact HW r _ _ hb hi
theorem Bb:∀(names:List (Str×NameKind)) (h:Heap) (acc:List (Str×Addr)),(∀z d,acc.lookup z=some d->∃v,h.IsCell d v)->
  ∀x c,(cellsFrom h.objs.size names acc).lookup x=some c->∃v,(pushCells h names).IsCell c v
 | [],_,_,h=>h
 | (y,k)::r,h,acc,hb=>by
  unfold cellsFrom pushCells
  by_cases hk:(k==n6)=true
  ·rw [if_pos hk,if_pos hk]
   have:=Bb r (h.push {cls:=.type "cell",data:=.cell none}) ((y,h.objs.size)::acc) fun z d e=>by
    rw [js] at e
    cases hx:z==y with
    |true=>
     rw [hx] at e;have q:h.objs.size=d:=by simpa using e
     subst q;exact⟨none,_,cN _ rfl,rfl⟩
    |false=>
     rw [hx] at e;obtain⟨v,q⟩:=hb z d e;exact⟨v,q.keeps fun b o e=>aW _ e⟩
   rwa [kc] at this
  ·rw [if_neg hk,if_neg hk]
   exact Bb r h acc hb
theorem MX {M:Model}{A:Around}{E:Value->Shared->Prop}{s:Shared}{scope:Scope}{globals:Addr}{cl:List (Str×Addr)}{qual:Str}{env:Env}{Q:Env->Shared->Prop}
  (h:Q {scope:=scope,locals:=s.heap.objs.size,globals:=globals,cells:=cellsFrom (s.heap.objs.size+1) scope.names cl,qual:=qual,func:=none,code:=env.code,frame:=env.frame,builtins:=env.builtins}
   {s with heap:=pushCells (s.heap.push {cls:=.type "dict",data:=.dict #[]}) scope.names}):wpAny M A (newFunctionEnv scope globals cl [] qual none .none (some env)) Q E s:=by
 simp only [newFunctionEnv,vC,if_true];refine wpAny_bind (wpAny_alloc ?_);refine wpAny_bind (wpAny_layCells _ (fun name kind cells=>by cases Gu:kind==n6 <;> simp [Gu]) _ _ _ _ ?_);rw [show ({s with heap:=s.heap.push {cls:=.type "dict",data:=.dict #[]}}:Shared).heap.objs.size=s.heap.objs.size+1 from kc ..]
 exact wpAny_bind (wpAny_pure (wpAny_pure h))
noncomputable def bZ (X:Cx)(scope:Scope)(N:List Str)(pins:List (Addr×Obj))(fp:List Addr)(s:Shared)(H:Hp):Cx where
 prog:=X.prog
 w:=X.w
 K:=X.K
 mg:=X.mg
 base:=X.base
 A:=X.A
 N:=N
 aH:=s
 aY:=H
 env:=compEnvC scope (cellsFrom (s.heap.objs.size+1) scope.names (d7 scope.names X.env.cells)) s.heap.objs.size X.env
 outer:=X.stack
 stack:=X.stack
 ex:=fp
 fn:=fun x=>scope.names.lookup x==some .cell
 calm:=X.calm
 pn:=X.pn++pins
 xe:=fun _ _=>False
structure eB (X:Cx) (scope:Scope) (N:List Str) (k:Nat) (fr:List Nat):Prop where
 kind:scope.kind=.function
 owned:(scope.names.all fun y=>y.2 != .cell || scope.names.lookup y.1==some .cell)=true
 names:(scope.names.all fun y=>y.2 != .local || scope.names.lookup y.1==some .local)=true
 free:(scope.names.all fun y=>y.2 != .free || (X.env.kindOf y.1==some .cell || X.env.kindOf y.1==some .free))=true
 len:N.length=k+fr.length
 at_:((fV fr.length).all fun i=>match N[k+i]?,fr[i]? with | some x,some j=>X.N[j]?==some x&&scope.names.lookup x==some .free | _,_=>false)=true
section
variable {X:Cx}{scope:Scope}{N:List Str}{k:Nat}{fr:List Nat}
theorem eB.frees (S:eB X scope N k fr):∀y∈scope.names,y.2=.free->X.env.kindOf y.1=some .cell∨X.env.kindOf y.1=some .free:=fun y hy e=>by
 have h:=dO.mp S.free y hy;simp only [e] at h;simpa using h
theorem eB.cells (S:eB X scope N k fr)(ok:X.Ok):∀y∈scope.names,y.2=.free->∃c,X.env.cells.lookup y.1=some c:=fun y hy e=>ok.has y.1 (S.frees y hy e)
theorem eB.locals (S:eB X scope N k fr):∀y∈scope.names,y.2=.local->scope.names.lookup y.1=some .local:=fun y hy e=>by
 have h:=dO.mp S.names y hy;simp only [e] at h;simpa using h
theorem eB.own (S:eB X scope N k fr){x:Str}(h:(x,n6)∈scope.names):scope.names.lookup x=some .cell:=by
 have h:=dO.mp S.owned _ h;simpa using h
theorem eB.look (S:eB X scope N k fr)(ok:X.Ok){n:Nat}{x:Str}{c:Addr}(h:(cellsFrom n scope.names (d7 scope.names X.env.cells)).lookup x=some c) :
  (n<=c/\scope.names.lookup x=some .cell)∨(X.env.cells.lookup x=some c/\scope.names.lookup x≠some .cell):=by
 rcases HV _ _ _ h with ⟨a,b⟩ | ⟨a,b⟩
 ·exact .inl ⟨a,S.own b⟩
 ·exact .inr ⟨rF (S.cells ok) a,fun z=>b _ (lookup_mem z) rfl⟩
noncomputable def cU (k:Nat)(fr:List Nat)(σ:St):St:=a7 k none++fr.map fun j=>(σ[j]?).getD none
variable {pins:List (Addr×Obj)}{σ:St}{H:Hp}{s:Shared}{fp:List Addr}
theorem YX (S:eB X scope N k fr)(I:Inv X pins σ H s)(hf:∀b∈fp,fH X pins H b)(aR:∀b∈fp,b<s.heap.objs.size):(bZ X scope N pins fp s H).Ok where
 mod:=I.ok.mod
 kind:=S.kind
 glob:=I.ok.glob
 blt:=I.ok.blt
 above:=bc _
 inj:=HW _ _ _ (fun z d e=>by
   obtain⟨v,q⟩:=I.cell z d (rF (S.cells I.ok) e);exact yy q.lt) fun x y c hx hy=>I.ok.inj x y c (rF (S.cells I.ok) hx) (rF (S.cells I.ok) hy)
 has:=fun x hx=>by
  have oQ:(relabel scope X.env).names.lookup x=some .cell∨(relabel scope X.env).names.lookup x=some .free:=hx;have key:scope.names.lookup x=some .cell∨scope.names.lookup x=some .free:=by
   rcases oQ with h | h
   ·rcases z8 h with h | h
    ·exact .inl h
    ·exact .inr h.2
   ·rcases z8 h with h | h
    ·exact .inr h
    ·exact .inr h.2
  refine i0.mp (vn scope.names _ _ (key.imp id fun e=>?_));obtain⟨c,hc⟩:=xF (cells:=X.env.cells) scope.names [] (.inl (lookup_mem e));exact i0.mpr ⟨c,hc⟩
 ph:=fun x c h hc=>by
  have h':scope.names.lookup x=some .cell:=by
   have h2:(scope.names.lookup x==some .cell)=true:=h;simpa using h2
  rcases S.look I.ok hc with ⟨a,_⟩ | ⟨_,b⟩
  ·exact c9 (rV _) a
  ·exact absurd h' b
 hd:=I.ok.hd
 frames:=I.ok.frames
 pW:=.inl rfl
 xx:=fun b hb=>⟨bJ (aR b hb),fun x c hc=>by
  rcases S.look I.ok hc with ⟨a,_⟩ | ⟨a,_⟩
  ·intro z
   exact fm _ (cB (aR b hb) (z ▸ c9 (rV _) a))
  ·exact(hf b hb).2.2.2.2.1 x c a⟩
 bs:=I.bs
 iQ:=c9 I.ok.iQ I.sz
 bM:=fun b o e hb=>by
  rcases(hf b hb).2.2.2.1 with z | z
  ·exact I.ok.bM b o e z
  ·exact absurd (cB (aV e) (c9 I.ok.iQ z)) (fm _)
 rn:=fun b hb hs=>by
  rcases ba.mp (I.jE b hs) with e | e
  ·exact(hf b hb).2.1 e
  ·exact(hf b hb).2.2.1 e
 en:=I.stack
 gq:=I.vW
theorem Of {h1:Heap}{t1:Nat}{m:Str->Option Value}(S:eB X scope N k fr)(I:Inv X pins σ H s)(hf:∀b∈fp,fH X pins H b)(aR:∀b∈fp,b<s.heap.objs.size)
  (ni:h1.Ns s.heap.objs.size m) (oV:∀b o,s.heap.get? b=some o->h1.get? b=some o)
  (qR:∀x c,(cellsFrom (s.heap.objs.size+1) scope.names (d7 scope.names X.env.cells)).lookup x=some c->∃v,h1.IsCell c v) (kL:0<t1:=by first | assumption | exact Inv.tk (by assumption)):Inv (bZ X scope N pins fp s H) [] (cU k fr σ) H {s with heap:=h1,toks:=t1} where
 tk:=kL
 ok:=YX S I hf aR
 os:=rfl
 bare:=I.bare
 base:=Un.kept oV
 loc:=by
  refine⟨m,ni,fun i x v e1 e2 e3=>?_⟩;have hk:k<=i:=by
   by_cases z:i<k
   ·unfold cU at e2
    rw [rQ (by simpa using z)] at e2;simp [z] at e2
   ·omega
  obtain⟨j,rfl⟩:∃j,i=k+j:=⟨i - k,by omega⟩
  unfold cU at e2;rw [rR (by simp)] at e2;simp only [vm,vp,jt] at e2;have hj:j<fr.length:=by
   cases q:fr[j]? with
   |none=>rw [q] at e2; cases e2
   |some _=>exact(ej.mp q).1
  have ha:=dO.mp S.at_ j (by simpa using hj);have uQ:N[k+j]?=some x:=e1
  cases q:fr[j]? with
  |none=>rw [q] at e2; cases e2
  |some p=>
   rw [q] at e2;simp only [uQ,q] at ha;obtain⟨a1,a2⟩:=yH.mp ha;have Jp:X.N[p]?=some x:=by simpa using a1
   have pq:scope.names.lookup x=some .free:=by simpa using a2
   have ij:(σ[p]?).getD none=some v:=by simpa using e2
   have HH:σ[p]?=some (some v):=by
    cases z:σ[p]? with
    |none=>rw [z] at ij; cases ij
    |some y=>rw [z] at ij; simpa using ij
   have cV:=S.frees (x,.free) (lookup_mem pq) rfl;obtain⟨m0,hn0,Gp⟩:=I.loc;have F4:vc X.env.scope x:=by
    rcases cV with z | z
    ·exact .inr (.inl z)
    ·exact .inr (.inr z)
   obtain⟨u,r,l⟩:=Gp p x v Jp HH F4;refine⟨u,r,.inr ⟨?_,?_⟩⟩
   ·show (relabel scope X.env).names.lookup x=some .cell∨(relabel scope X.env).names.lookup x=some .free
    rcases e3 with z | z | z
    ·rcases z8 z with z | z
     ·rw [pq] at z; cases z
     ·cases z.1
    ·exact .inl z
    ·exact .inr z
   ·have hc:∃c,X.env.cells.lookup x=some c/\s.heap.IsCell c (some u):=by
     rcases l with ⟨z,_⟩ | ⟨_,c,hc,hv⟩
     ·rcases cV with y | y
      ·have y':X.env.kindOf x=some .cell:=y
       rw [y'] at z; cases z
      ·have y':X.env.kindOf x=some .free:=y
       rw [y'] at z; cases z
     ·exact⟨c,hc,hv⟩
    obtain⟨c,hc,o,ho,hd⟩:=hc;obtain⟨c1,AF⟩:=xF (cells:=X.env.cells) scope.names [] (.inl (lookup_mem pq));obtain⟨c',fA⟩:=i0.mp (vn scope.names (s.heap.objs.size+1) (d7 scope.names X.env.cells) (.inr (i0.mpr ⟨c1,AF⟩)));have lY:X.env.cells.lookup x=some c':=by
     rcases S.look I.ok fA with ⟨_,b⟩ | ⟨b,_⟩
     ·rw [pq] at b; cases b
     ·exact b
    rw [hc] at lY;cases lY;exact⟨c,fA,o,oV c o ho,hd⟩
 cell:=qR
 free:=I.ar.fresh (bc _)
 eO:=fun x c hc=>by
  rcases S.look I.ok hc with ⟨a,_⟩ | ⟨a,_⟩
  ·exact I.ar.fresh (c9 (rV _) a)
  ·exact I.eO x c a
 pin:=fun p hp=>by
  have dJ:p∈X.pn++pins:=by
   have hV:p∈(X.pn++pins)++[]:=hp;simpa using hV
  obtain⟨e,n,ne,nf,d⟩:=I.pin p dJ;refine⟨oV _ _ e,n,bJ (aV e),fun z=>?_,d⟩;rcases ba.mp (I.jE p.1 z) with q | q
  ·exact ne q
  ·exact nf q
 ar:=I.ar.kept oV
 len:=by
  have:=S.len;show (cU k fr σ).length=N.length;unfold cU;simp [this]
theorem EG {aJ:St}{H':Hp}{s':Shared}{h':Heap}{gg:List (Addr×Obj)}(I:Inv X pins σ H s)(hf:∀b∈fp,fH X pins H b)(I':Inv (bZ X scope N pins fp s H) gg aJ H' s')(sb:j9 s.heap.objs.size s'.heap h') :
  Inv X pins σ H' {s' with heap:=h'}:=by
 have ui:H' s.heap.objs.size=none:=I'.free;refine I.ae5 (s':={s' with heap:=h'}) (ch:=fp) I'.os ⟨fun b o e n hb hx=>?_,fun b o e n hb hx=>?_,I'.base.free,fun b o e hx=>?_,I'.base.eD,I'.base.d6,I'.base.dH⟩ ?_ I'.bare (fun b hb=>⟨(hf b hb).2.2.2.1,(hf b hb).2.1,(hf b hb).2.2.2.2.1,(hf b hb).2.2.2.2.2⟩) I'.tk
 ·exact(sb.2 b (bJ (aV e))).trans (I'.base.keep b o e n hb hx)
 ·obtain⟨sl,q⟩:=I'.base.slot b o e n hb hx
  exact⟨sl,(sb.2 b (bJ (aV e))).trans q⟩
 ·obtain⟨o',q⟩:=I'.base.there b o e hx
  exact⟨o',(sb.2 b (bJ (aV e))).trans q⟩
 ·intro b u e
  refine(I'.ar b u e).iu (fun c v hc q=>(sb.2 c ?_).trans q) (fun _ q=>q) fun _ _ q=>q;rintro rfl;rcases hc with rfl | hc
  ·rw [ui] at e; cases e
  ·rw [ui] at hc; cases hc
end
noncomputable def jl (X:Cx)(ifs:List Expr)(t:TT):Prop:=
 ∀(pins:List (Addr×Obj)) (s:Shared) (σ:St) (H:Hp) (Q:Bool->Hp->Prop),Inv X pins σ H s->t σ H Q->
  wpAny (model X.prog X.w) X.A (forIn ifs true fun c r=>if r=true then do let ok ← isTrue c X.env (eval c X.env); pure (nR ok) else pure (nR r)) (TP X pins σ Q) X.xe s
noncomputable def UE:TT:=fun _ H Q=>Q true H
theorem Xb {X:Cx}:jl X [] UE:=fun _ _ _ H _ I h=>wpAny_tests_nil (fun ht=>⟨H,I,h⟩)
theorem Xa {X:Cx}{c:Expr}{t:TT}(h:PT X c t):jl X [c] t:=fun pins s σ H Q I hw=>wpAny_tests_one (h pins s σ H Q I hw)
theorem aeF {prog:Program}{w:World}{A:Around}{R:Result->Shared->Prop}{s:Shared}{elt target iter:Expr}{ifs:List Expr}{scope:Scope}{pos:Pos}{it acc:Value}{env:Env}(I:Nat->Shared->Prop)
  (turn:∀n s,I n s->wpAny (model prog w) A (pyNext it) (fun r aT=>match r with
   |none=>R (.ok .next) aT
   |some v=>wpAny (model prog w) A (letOwnedTupleGo target it v) (fun _ vS=>wpAny (model prog w) A (assign target env v) (fun _ gD=>
     wpAny (model prog w) A (forIn ifs true fun c r=>if r=true then do let ok ← isTrue c env (eval c env); pure (nR ok) else pure (nR r)) (fun ok gB=>
      if ok=true then wpAny (model prog w) A (eval elt env) (fun x mQ=>
       wpAny (model prog w) A (call (.builtin "list.append") [acc,x]) (fun _ vR=>∃m,m<n/\I m vR) (fun _ _=>False) mQ) (fun _ _=>False) gB
      else ∃m,m<n/\I m gB) (fun _ _=>False) gD) (fun _ _=>False) vS) (fun _ _=>False) aT) (fun _ _=>False) s)
  (n:Nat) (h:I n s) :
  codeAny (model prog w) A (.compLoop (.ListComp elt [⟨target,iter,ifs,0⟩] scope pos) 0 it acc env) R s:=by
 refine codeAny_loop rfl I (fun n s hI=>?_) n h;show wpAny _ A ((compTurn (.ListComp elt [⟨target,iter,ifs,0⟩] scope pos) 0 it acc env).onRaise (fun x=>do noteFrame x env; theTreesLotGoes x)) _ _ s;refine wpAny_noted ?_;rw [compTurn_list];refine wpAny_bind (wpAny_standAt (wpAny_bind (wpAny_mono (turn n s hI) (fun r aT el=>?_) fun _ _ h'=>h'.elim)))
 cases r with
 |none=>exact wpAny_pure el
 |some v=>
  refine wpAny_bind (wpAny_mono el (fun _ vS FU=>?_) fun _ _ h'=>h'.elim);refine wpAny_bind (wpAny_mono FU (fun _ gD qE=>wpAny_bind (wpAny_mono qE (fun ok gB kK=>?_) fun _ _ h'=>h'.elim)) fun _ _ h'=>h'.elim)
  cases ok with
  |false=>
   simp only [cT,if_false] at kK ⊢;exact wpAny_bind (wpAny_pure (wpAny_pure ⟨rfl,kK⟩))
  |true=>
   simp only [if_true] at kK ⊢;refine wpAny_bind (wpAny_bind (wpAny_mono kK (fun x mQ FR=>wpAny_bind (wpAny_mono FR (fun _ vR FQ=>wpAny_pure (wpAny_pure ⟨rfl,FQ⟩)) fun _ _ h'=>h'.elim)) fun _ _ h'=>h'.elim))
noncomputable def oq (k:Nat)(fr:List Nat)(g:TG)(tc:TT)(te:TE)(σ:St)(J:It)(H1:Hp)(Q:VK):Prop:=
 ∀D,H1 D=none->∃W:Nat->Nat->List V->St->Hp->Prop,(∃m,W 0 m [] (cU k fr σ) (upd H1 D (.lst [])))/\
  ∀i m ys aJ H',W i m ys aJ H'->H' D=some (.lst ys)/\
   ((J.stop i H'/\Q (.ref D) H')∨
    (J.go i H'/\∃m',m'<m/\∀x H2,J.vF i H' x H2->g x aJ H2 fun ed H3=>tc ed H3 fun b H4=>
     if b=true then te ed H4 fun v H5=>H5 D=some (.lst ys)/\ys.length<sizeLine/\W (i+1) m' (ys++[v]) ed (upd H5 D (.lst (ys++[v])))
     else W (i+1) m' ys ed H4))
noncomputable def tD (k:Nat)(fr:List Nat)(wi:TI)(g:TG)(tc:TT)(te:TE):TE:=fun σ H Q=>wi σ H fun J H1=>oq k fr g tc te σ J H1 Q
section
variable {X:Cx}{scope:Scope}{N:List Str}{k:Nat}{fr:List Nat}{tg iter elt:Expr}{ifs:List Expr}{wi:TI}{g:TG}{tc:TT}{te:TE}{pos:Pos}
theorem Rb {pins:List (Addr×Obj)}{σ:St}{H:Hp}{s:Shared}{it:Addr}{fp:List Addr}{tn:Nat->Heap->Prop}{J:It}{Q:VK}{RR:Value->Addr->Result->Shared->Prop}{E:Value->Shared->Prop}
  (hc:X.calm=true) (S:eB X scope N k fr) (hg:∀pins fp s H,PG (bZ X scope N pins fp s H) tg g) (ht:∀pins fp s H,jl (bZ X scope N pins fp s H) ifs tc) (he:∀pins fp s H,PE (bZ X scope N pins fp s H) elt te)
  (I:Inv X pins σ H s) (T:Turn X.prog X.w X.K tg J fp it tn) (st:tn 0 s.heap) (hf:∀b∈fp,fH X pins H b) (h:oq k fr g tc te σ J H Q)
  (hR:∀D C s' (H':Hp),Q (.ref D) H'->fH X pins H' C->(∃m,s'.heap.Ns C m)->(∀h',j9 C s'.heap h'->Inv X pins σ H' {s' with heap:=h'})->RR (.ref D) C (.ok .next) s') :
  wpAny (model X.prog X.w) X.A (newList []) (fun acc gB=>wpAny (model X.prog X.w) X.A (newFunctionEnv scope X.env.globals (d7 scope.names X.env.cells) [] X.env.qual none .none (some X.env)) (fun jY mQ=>
   codeAny (model X.prog X.w) X.A (.compStart (.ListComp elt [⟨tg,iter,ifs,0⟩] scope pos) 0 (.ref it) acc {jY with scope:=relabel scope X.env}) (RR acc jY.locals) mQ) E gB) E s:=by
 refine wpAny_newObj_type (MX ?_)
 dsimp only
 have I3:Inv X pins σ (upd H s.heap.objs.size (.lst [])) {s with heap:=s.heap.push {cls:=.type "list",dict:=none,data:=.seq ([]:List Value).toArray}}:=
  I.laid (t':=s.toks) (fun b u e=>aW _ e) (bc _) ⟨by simp,[],_,.nil,cN _ rfl⟩
 generalize qW:({s with heap:=s.heap.push {cls:=.type "list",dict:=none,data:=.seq ([]:List Value).toArray}}:Shared)=s3 at I3
 have e3:s.heap.push {cls:=.type "list",dict:=none,data:=.seq ([]:List Value).toArray}=s3.heap:=by rw [← qW]
 rw [e3];generalize hD:s.heap.objs.size=D at I3 ⊢;have GQ:H D=none:=I.ar.fresh (by omega);obtain⟨W,⟨m0,w0⟩,turn⟩:=h D GQ;have Gz:∀b∈fp,b≠D:=fun b hb z=>by
  obtain⟨o,e,_⟩:=T.obj 0 _ st b hb;exact absurd (aV e) (by rw [z,← hD]; exact fm _)
 have oY:∀b∈fp,fH X pins (upd H D (.lst [])) b:=fun b hb=>⟨by rw [aF (Gz b hb)]; exact(hf b hb).1,(hf b hb).2⟩
 have vJ:∀b o,s.heap.get? b=some o->s3.heap.get? b=some o:=fun b o e=>by rw [← e3]; exact aW _ e
 have aR:∀b∈fp,b<s3.heap.objs.size:=fun b hb=>by
  obtain⟨o,e,_⟩:=T.obj 0 _ st b hb;exact aV (vJ b o e)
 have wQ:∀b o,s3.heap.get? b=some o->(pushCells (s3.heap.push {cls:=.type "dict",data:=.dict #[]}) scope.names).get? b=some o:=fun b o e=>pushCells_keeps _ _ b o (aW _ e)
 have wA:=(Heap.Ns.new s3.heap (.type "dict")).keeps (pushCells_keeps scope.names _)
 have xG:∀x c,(cellsFrom (s3.heap.objs.size+1) scope.names (d7 scope.names X.env.cells)).lookup x=some c->∃v,(pushCells (s3.heap.push {cls:=.type "dict",data:=.dict #[]}) scope.names).IsCell c v:=by
  have q:=Bb scope.names (s3.heap.push {cls:=.type "dict",data:=.dict #[]}) (d7 scope.names X.env.cells) fun z d e=>by
   obtain⟨v,q⟩:=I3.cell z d (rF (S.cells I.ok) e);exact⟨v,q.keeps fun b o e=>aW _ e⟩
  rwa [kc] at q
 generalize abX:pushCells (s3.heap.push {cls:=.type "dict",data:=.dict #[]}) scope.names=el at wQ wA xG ⊢
 have keep:∀b o,s3.heap.get? b=some o->el.get? b=some o:=wQ;have Gh:=wA;have iw:tn 0 el:=T.keep 0 _ _ st fun b hb o e=>keep b o (vJ b o e);have HD:({s with heap:=el,toks:=s.toks}:Shared)={s3 with heap:=el,toks:=s.toks}:=by rw [← qW]
 have IC:Inv (bZ X scope N pins fp s3 (upd H D (.lst []))) [] (cU k fr σ) (upd H D (.lst [])) {s3 with heap:=el,toks:=s.toks}:=Of S I3 oY aR Gh keep xG;rw [← HD] at IC;have pX:∀{H':Hp},(∀b∈fp,H' b=none)->∀b∈fp,fH (bZ X scope N pins fp s3 (upd H D (.lst []))) [] H' b:=fun hn b hb=>
  ⟨hn b hb,bJ (aR b hb),fun z=>by
   rcases ba.mp (I3.jE b z) with q | q
   ·exact(hf b hb).2.1 q
   ·exact(hf b hb).2.2.1 q,.inl hb,fun x c qQ=>by
   rcases S.look I.ok qQ with ⟨a,_⟩ | ⟨a,_⟩
   ·intro z
    exact fm _ (cB (aR b hb) (z ▸ c9 (rV _) a))
   ·exact(hf b hb).2.2.2.2.1 x c a,fun p hp=>by
   have dJ:p∈X.pn++pins:=by
    have hV:p∈(X.pn++pins)++[]:=hp;simpa using hV
   exact(hf b hb).2.2.2.2.2 p dJ⟩
 have loop:∀s4:Shared,Inv (bZ X scope N pins fp s3 (upd H D (.lst []))) [] (cU k fr σ) (upd H D (.lst [])) s4->tn 0 s4.heap->
   codeAny (model X.prog X.w) X.A (.compLoop (.ListComp elt [⟨tg,iter,ifs,0⟩] scope pos) 0 (.ref it) (.ref D) (bZ X scope N pins fp s3 (upd H D (.lst []))).env) (RR (.ref D) s3.heap.objs.size) s4:=by
  intro s4 I4 Dw;refine aeF (fun n s'=>∃i ys aJ H',Inv (bZ X scope N pins fp s3 (upd H D (.lst []))) [] aJ H' s'/\tn i s'.heap/\(∀b∈fp,H' b=none)/\W i n ys aJ H') ?_ m0 ⟨0,[],_,_,I4,Dw,fun b hb=>(oY b hb).1,w0⟩;rintro n s5 ⟨i,ys,mw,H5,I5,mR,ri,w5⟩;obtain⟨hD5,qS⟩:=turn i n ys mw H5 w5;rcases qS with ⟨stop,q⟩ | ⟨go,m',hm,step⟩
  ·refine aC (T.done (bZ X scope N pins fp s3 (upd H D (.lst []))) rfl rfl rfl hc i [] s5 mw H5 _ I5 (pX ri) mR stop) fun r s6 ⟨hr,I6⟩=>?_
   subst hr;obtain⟨m6,Gj,_⟩:=I6.loc;exact hR D _ s6 H5 q (I3.o5 (bc _) I6.free) ⟨m6,Gj⟩ fun h' sb=>EG I3 oY I6 sb
  ·refine pT (T.item (bZ X scope N pins fp s3 (upd H D (.lst []))) rfl rfl rfl hc i [] s5 mw H5 _ I5 (pX ri) mR go) fun r s6 abi ⟨u,hr,h6⟩=>?_
   subst hr;refine aC h6 fun _ s7 h_=>?_;obtain⟨x,H7,I7,r7,y7,pY,Hi⟩:=h_;have JF:=I7.pinned (pX Hi) (T.obj _ _ pY);refine aC (hg pins fp s3 _ _ s7 mw H7 x u _ JF r7 (step x H7 y7)) fun _ s8 h_=>?_;obtain⟨d9,H8,I8,q8⟩:=h_;refine aC (ht pins fp s3 _ _ s8 d9 H8 _ I8 q8) fun b s9 h_=>?_;obtain⟨H9,I9,q9⟩:=h_;have again:∀{H':Hp} {s':Shared},Inv (bZ X scope N pins fp s3 (upd H D (.lst []))) ([]++tN fp s7.heap) d9 H' s'->tn (i+1) s'.heap/\(∀b∈fp,H' b=none):=fun {H' s'} I'=>by
    refine⟨T.keep _ _ _ pY fun b hb o e=>(I'.pin (b,o) (eh _ (eh _ (tQ hb e)))).1,fun b hb=>?_⟩;obtain⟨o,e,d⟩:=T.obj _ _ pY b hb;exact(I'.pin (b,o) (eh _ (eh _ (tQ hb e)))).2.1
   cases b with
   |false=>
    simp only [cT,if_false] at q9 ⊢;obtain⟨a1,a2⟩:=again I9;exact⟨m',hm,i+1,ys,d9,H9,I9.pQ,a1,a2,q9⟩
   |true=>
    simp only [if_true] at q9 ⊢;refine aC (he pins fp s3 _ _ s9 d9 H9 _ I9 q9) fun y D5 h_=>?_;obtain⟨v,ye,JG,Em,GV,Gn,Eo⟩:=h_;refine aC (zZ (X:=bZ X scope N pins fp s3 (upd H D (.lst []))) _ D5 d9 ye (.ref D) [v] (.ref D) [y] (fun z H'=>z=.aI/\H'=upd ye D (.lst (ys++[v]))) JG rfl (.cons Em .nil) ⟨D,ys,v,rfl,rfl,GV,Gn,rfl,rfl⟩) fun z Ww h_=>?_;obtain⟨v11,H11,yd,_,_,HI⟩:=h_;subst HI;obtain⟨a1,a2⟩:=again yd;exact⟨m',hm,i+1,ys++[v],d9,_,yd.pQ,a1,a2,Eo⟩
 exact codeAny_compStart_list (loop _ IC iw) (T.self X.A 0 _ _ _ iw (loop _ IC iw))
theorem XG (hc:X.calm=true)(S:eB X scope N k fr)(hi:PI X tg iter wi)(hg:∀pins fp s H,PG (bZ X scope N pins fp s H) tg g)(ht:∀pins fp s H,jl (bZ X scope N pins fp s H) ifs tc)
  (he:∀pins fp s H,PE (bZ X scope N pins fp s H) elt te) (hs:∀x,foldedSetIterable iter X.env x=pure x:=by intro _; rfl):PE X (.ListComp elt [⟨tg,iter,ifs,0⟩] scope pos) (tD k fr wi g tc te):=by
 intro pins s σ H Q I h;rw [eval_ListComp];refine wpAny_comprehension_free (use:=none) rfl hs (Ba (S.cells I.ok)) S.kind S.locals (pT (hi pins s σ H _ I h) fun v s1 t1 h1=>aC h1 fun wV s2 h2=>?_);obtain⟨it,fp,tn,J,H2,e,I2,T,gG,f2,q⟩:=h2;subst e;refine Rb (RR:=fun acc C=>compPost (model X.prog X.w) X.A X.xe none (EP X pins σ Q) acc C) hc S hg ht he I2 T gG f2 q ?_;intro D C s' H' q' _ hn inv;obtain⟨m,hn⟩:=hn;exact⟨m,hn,fun h' sb=>(fun ht=>⟨.ref D,H',inv h' sb,rfl,q'⟩)⟩
theorem Xe {i:Nat}{x:Str}{pos' kq:Pos}(hc:X.calm=true)(S:eB X scope N k fr)(hi:PI X tg iter wi)(hg:∀pins fp s H,PG (bZ X scope N pins fp s H) tg g)(ht:∀pins fp s H,jl (bZ X scope N pins fp s H) ifs tc)
  (he:∀pins fp s H,PE (bZ X scope N pins fp s H) elt te) (hN:X.N.Nodup) (Gv:X.N[i]?=some x) (hx:X.env.scope.names.lookup x=some .local)
  (F8:swapsWith (.ListComp elt [⟨tg,iter,ifs,0⟩] scope pos) (some (.Name x pos')) kq.line X.env=pure true:=by rfl)
  (hs:∀x,foldedSetIterable iter X.env x=pure x:=by intro _; rfl):PS X (.Assign [.Name x pos'] (.ListComp elt [⟨tg,iter,ifs,0⟩] scope pos) kq) (vQ (tD k fr wi g tc te) (uh i)):=by
 intro pins s σ H D I h;rw [exec_Assign_Name_used _ _ _ _ F8];refine wpAny_bind (wpAny_standAt (wpAny_bind ?_));show wpAny _ X.A (do let _ ← comprehension (.ListComp elt [⟨tg,iter,ifs,0⟩] scope pos) scope X.env _ (newList []) false (eval iter X.env) (some (assign (.Name x pos') X.env))) _ _ s;refine wpAny_bind (wpAny_mono (wpAny_comprehension_free (use:=some (assign (.Name x pos') X.env)) (Q:=fun _ s'=>SP X pins D .next s') rfl hs (Ba (S.cells I.ok)) S.kind S.locals
  (pT (hi pins s σ H _ I h) fun v s1 t1 h1=>aC h1 fun wV s2 h2=>?_)) (fun _ s' hq=>wpAny_pure (wpAny_pure hq)) fun _ _ e=>e)
 obtain⟨it,fp,tn,J,H2,e,I2,T,gG,f2,q⟩:=h2;subst e;refine Rb (RR:=fun acc C=>compPost (model X.prog X.w) X.A X.xe (some (assign (.Name x pos') X.env)) (fun _ s'=>SP X pins D .next s') acc C) hc S hg ht he I2 T gG f2 q ?_;intro L C s' H' q' fC hn inv;obtain⟨m,hn⟩:=hn;show wpAny _ X.A (assign (.Name x pos') X.env (.ref L)) _ _ _;have I3:Inv X pins σ H' s':=inv s'.heap (.refl ..);obtain⟨f0,f1,f2',f3,f4,f5⟩:=fC;refine wpAny_assign_Name (Lf I3 hN Gv (.inl hx) (v:=.ref L) rfl (fun gc I4 hb=>?_) (.inr hx));obtain⟨a,sb,ha⟩:=hb;have hCa:C≠a:=by
  rcases ha with e | e
  ·rw [e]; exact f1
  ·exact fun z=>f4 x a e z.symm
 refine⟨m,hn.sameBut sb hCa,fun iG Wj=>(fun ht=>⟨_,H',I4.turned (t':=gc.toks) (fun b o hb e=>(Wj.2 b hb).trans e) f0 f1 f3 f4 f5,q'⟩)⟩
end
noncomputable abbrev S (l:List Nat):V:=.str ⟨l.toArray⟩
theorem RC {a b:Str}(h:a.cps.toList=b.cps.toList):a=b:=by
 cases a; cases b
 simp at h;rw [h]
theorem Ju {a b:List Nat}(h:S a=S b):a=b:=by
 injection h with h;injection h with h;simpa using congrArg iY h
section
variable {X:Cx}
theorem jb {l:List Nat}{x:Str}{j pos}(h:x=⟨l.toArray⟩:=by decide +kernel):PE X (.Constant (.str x) j pos) (tC (S l)):=by
 subst h;exact Ey
theorem aiI (a b:List Nat):(⟨a.toArray⟩:Str)++(⟨b.toArray⟩:Str)=⟨(a++b).toArray⟩:=RC (by show (a.toArray++b.toArray).toList=_; simp)
noncomputable def W5:R2:=fun x y H Q=>∃a b,x=S a/\y=S b/\a.length+b.length<=sizeLine/\Q (S (a++b)) H
theorem Yo:cb X (binaryOp .Add) W5:=by
 intro pins s σ H x y v u Q I rx ry ⟨a,b,ex,ey,hl,q⟩;subst ex ey;refine Yn pins s σ H _ _ v u Q I rx ry ⟨_,_,rfl,rfl,?_,?_⟩
 ·show a.toArray.size+b.toArray.size<=sizeLine
  simpa using hl
 ·rw [aiI]; exact q
noncomputable def W0:R2:=fun x y H Q=>∃l i c,x=S l/\y=.int i/\l.length<=sizeLine/\iR l i=some c/\Q (S [c]) H
theorem aaG:mm X W0:=by
 intro value slice pins s σ H x y v u Q I rx ry ⟨l,i,c,ex,ey,hl,hc,q⟩ hs;subst ex ey;exact aaE value slice pins s σ H _ _ v u Q I rx ry ⟨_,i,c,rfl,rfl,by simpa [rT] using hl,by simpa using hc,q⟩ hs
theorem aeY:fi X (.builtin "len") (fun xs H Q=>∃l,xs=[S l]/\l.length<=sizeLine/\Q (.int l.length) H):=by
 intro pins s σ H xs us Q I r ⟨l,e,hl,q⟩;subst e;exact aeX pins s σ H _ us Q I r ⟨_,rfl,by simpa [rT] using hl,by simpa [rT] using q⟩
noncomputable def Ei (neg:Bool):R2:=fun x y H Q=>∃c l,x=S [c]/\y=S l/\Q (.bl (if neg then !decide (c∈l) else decide (c∈l))) H
theorem Yi:cb X (compareOp .In) (Ei false):=by
 intro pins s σ H x y v u Q I rx ry ⟨c,l,ex,ey,q⟩;subst ex ey;refine Yg pins s σ H _ _ v u Q I rx ry ⟨_,_,rfl,rfl,?_⟩;rw [StrLaws.found_one];simpa using q
theorem X8:cb X (compareOp .NotIn) (Ei true):=by
 intro pins s σ H x y v u Q I rx ry ⟨c,l,ex,ey,q⟩;subst ex ey;refine X6 pins s σ H _ _ v u Q I rx ry ⟨_,_,rfl,rfl,?_⟩;rw [StrLaws.found_one];simpa using q
noncomputable def JC (vs:List V):It:=⟨fun i _=>i<vs.length,fun i H x H'=>H'=H/\vs[i]?=some x,fun i _=>vs.length<=i⟩
noncomputable def gK (l:List Nat):List V:=l.map fun c=>S [c]
theorem VA (l:List Nat):(gK l).length=l.length:=by simp [gK]
theorem Ub {P:Program}{w:World}{K:ah}{tg:Expr}(it:Addr)(l:List Nat)(ty:String)(t:Tok)(jS:ty = "str_ascii_iterator" ∨ty = "str_iterator") :
  Turn P w K tg (JC (gK l)) [it] it (fun i h=>h.IsStrIter it ty ⟨l.toArray⟩ t i):=by
 have WW:∀A:Around,A.handled=none->Walks P w A it [it] [it] l.length (SignAt ⟨l.toArray⟩) (fun i h=>h.IsStrIter it ty ⟨l.toArray⟩ t i):=fun A hh=>by
  rcases jS with rfl | rfl
  ·simpa using Walks.strAscii (prog:=P) (w:=w) hh it ⟨l.toArray⟩ t
  ·simpa using Walks.strWide (prog:=P) (w:=w) hh it ⟨l.toArray⟩ t
 refine⟨by simp,fun i h st b hb=>?_,fun i h h' st k=>?_,?_,?_,?_⟩
 ·have e:b=it:=by simpa using hb
  subst e;obtain⟨o,e,c,d⟩:=st;exact⟨o,e,fun v z=>by rw [d] at z; cases z⟩
 ·obtain⟨o,e,r⟩:=st
  exact⟨o,k it (by simp) o e,r⟩
 ·intro X hP hw hK hc i pins s σ H E I hf st hg
  subst hP hw hK;obtain⟨f0,f1,f2,f3,f4,f5⟩:=hf it (by simp);have hi:i<l.length:=by simpa [gK] using (show i<(gK l).length from hg)
  refine(WW X.A (I.ok.hd hc)).item i s _ _ hi st fun v h' tk hv gH kk ht=>?_;obtain⟨c,u,qQ,rfl⟩:=hv;have I1:Inv X pins σ H {s with heap:=h',toks:=tk}:=I.turned (fun b o hb e=>kk b o (by simpa using hb) e) f0 f1 f3 f4 f5;obtain⟨o,e,c',d⟩:=id gH;refine⟨_,rfl,xw (s:={s with heap:=h',toks:=tk}) (n:=ty) e c' d (by rcases jS with rfl | rfl <;> decide) fun _=>⟨S [c],H,I1,⟨u,rfl⟩,⟨rfl,?_⟩,gH,fun b hb=>(hf b hb).1⟩⟩;have acd:l[i]?=some c:=by simpa using qQ
  simp [gK,acd]
 ·intro X hP hw hK hc i pins s σ H E I hf st hg
  subst hP hw hK;obtain⟨f0,f1,f2,f3,f4,f5⟩:=hf it (by simp);have hi:l.length<=i:=by simpa [gK] using (show (gK l).length<=i from hg)
  have MI:(⟨l.toArray⟩:Str).cps[i]?=none:=by simp [hi]
  rcases jS with rfl | rfl
  ·exact wpAny_pyNext_ascii_end (I.ok.hd hc) st MI fun h' eb=>(fun ht=>⟨rfl,I.turned (t':=s.toks) (fun b o hb e=>eb b o hb e) f0 f1 f3 f4 f5⟩)
  ·exact wpAny_pyNext_wide_end (I.ok.hd hc) st MI fun h' eb=>(fun ht=>⟨rfl,I.turned (t':=s.toks) (fun b o hb e=>eb b o hb e) f0 f1 f3 f4 f5⟩)
 ·intro A i s Q E st h
  rcases jS with rfl | rfl
  ·exact wpAny_pyIter_striter_ascii st h
  ·exact wpAny_pyIter_striter_wide st h
noncomputable def aa3 (tl:TE):TI:=fun σ H R=>tl σ H fun x H1=>∃l,x=S l/\R (JC (gK l)) H1
theorem Xs {tg e:Expr}{tl:TE}(hl:PE X e tl):PI X tg e (aa3 tl):=by
 intro pins s σ H R I h;refine aC (hl pins s σ H _ I h) fun v s1 h_=>?_;obtain⟨x,H1,I1,r1,l,ex,q⟩:=h_;subst ex;obtain⟨t,rfl⟩:=r1;refine fun _=>wpAny_pyIter_strU fun _=>?_;refine⟨s1.heap.objs.size,[s1.heap.objs.size],_,_,H1,rfl,I1.kept (t':=s1.toks) fun b o e=>aW _ e,Ub _ l (strIterType ⟨l.toArray⟩) t ?_,⟨_,cN _ rfl,rfl,rfl⟩,fun b hb=>?_,q⟩
 ·unfold strIterType
  split
  ·exact .inl rfl
  ·exact .inr rfl
 ·have e:b=s1.heap.objs.size:=by simpa using hb
  subst e;exact I1.o5 (bc _) (I1.ar.fresh (bc _))
theorem range_all (bs:List Bool):(fV bs.length).all (fun i=>bs[i]?.getD false)=bs.all id:=by
 rw [ke,dO,dO];constructor
 ·intro h b hb
  obtain⟨i,hi,rfl⟩:=List.mem_iff_getElem.mp hb;have:=h i (by simpa using hi);simpa [hi] using this
 ·intro h i hi
  have lT:i<bs.length:=by simpa using hi
  have:=h bs[i] (yw lT);simpa [lT] using this
theorem afd {P:Program}{w:World}{A:Around}{bs:List Bool}{ak:List Value}(r:Vals (bs.map V.bl) ak):TruthOf P w A (fun i v=>ak.toArray[i]?=some v) (fun i=>bs[i]?.getD false):=by
 intro i v s Q E hP hQ;have O5:ak[i]?=some v:=by simpa using hP
 have hl:=r.length;have hi:i<ak.length:=(ej.mp O5).1;have hb:i<bs.length:=by simpa [← hl] using hi
 obtain⟨u,hu,ru⟩:=r.get (i:=i) (x:=.bl bs[i]) (by simp [hb]);rw [O5] at hu;cases hu;cases ru;have e:bs[i]?.getD false=bs[i]:=by simp [hb]
 have O4:Q (bs[i]?.getD false) s:=hQ;rw [e] at O4;exact wpAny_truthy_bool O4
theorem ae4 (hc:X.calm=true):fi X (.builtin "all") (fun xs H Q=>∃(p:Addr) (bs:List Bool),xs=[.ref p]/\bP X.K H p (bs.map V.bl)/\Q (.bl (bs.all id)) H):=by
 intro pins s σ H xs us Q I r ⟨p,bs,e,hq,q⟩;subst e;obtain⟨u,rfl,ru⟩:=r.one;cases ru;obtain⟨ak,rv,pl,hz⟩:=I.list hq;have aR:p<s.heap.objs.size:=by obtain⟨o,n,e,_⟩:=pl; exact aV e
 refine call_all_walk (wpAny_pyIter_list pl.isList ⟨_,_,_,_,_,_,fun i=>bs[i]?.getD false,rfl,Walks.list (A:=X.A.in1) (I.ok.hd hc) s.heap.objs.size p (bJ aR) ak.toArray,⟨⟨_,cN _ rfl,rfl,rfl⟩,pl.isList.push _⟩,afd rv,fun h' tk hk=>?_⟩);refine(fun ht=>⟨.bl (bs.all id),H,I.kept (t':=tk) (fun b o e=>hk b o (by simpa using bJ (aV e)) (aW _ e)),?_,q⟩);have hl:ak.toArray.size=bs.length:=by have:=rv.length; simp at this; simp [this]
 rw [hl,range_all];rfl
noncomputable def Ob (K:ah)(x:V)(H:Hp)(b:Bool):Prop:=match x with
 |.str _=>b=true
 |.int _=>b=false
 |.bl _=>b=false
 |.aI=>b=false
 |.ref p=>b=false/\((∃xs,bP K H p xs)∨∃xs,cX K H p xs)
 |_=>False
theorem aeZ:fi X (.builtin "isinstance") (fun xs H Q=>∃x b,xs=[x,.ty "str"]/\Ob X.K x H b/\Q (.bl b) H):=by
 intro pins s σ H xs us Q I r ⟨x,b,e,hx,q⟩;subst e;obtain⟨u,t,rfl,ru,rt⟩:=r.two;cases rt
 cases x with
 |str z=>
  obtain⟨t,rfl⟩:=ru
  cases (show b=true from hx)
  exact IsiPair.str_str (fun ht=>⟨.bl _,H,I,rfl,q⟩)
 |int i=>
  obtain⟨t,rfl⟩:=ru
  cases (show b=false from hx)
  exact IsiPair.int_str (fun ht=>⟨.bl _,H,I.tok _,rfl,q⟩)
 |bl k=>
  cases ru
  cases (show b=false from hx)
  exact IsiPair.bool_str (fun ht=>⟨.bl _,H,I.tok _,rfl,q⟩)
 |aI=>
  cases ru
  cases (show b=false from hx)
  exact IsiPair.NoneType_str (fun ht=>⟨.bl _,H,I.tok _,rfl,q⟩)
 |ref p=>
  cases ru;obtain⟨hb,hx⟩:=hx;cases hb;rcases hx with ⟨xs,hx⟩ | ⟨xs,hx⟩
  ·obtain⟨ak,_,pl,_⟩:=I.list hx
   obtain⟨o,n,e,c,_⟩:=pl;exact IsiPair.list_str e c (fun ht=>⟨.bl _,H,I.tok _,rfl,q⟩)
  ·obtain⟨ak,_,pl,_⟩:=I.tuple hx
   obtain⟨o,e,c,_⟩:=pl;exact IsiPair.tuple_str e c (fun ht=>⟨.bl _,H,I.tok _,rfl,q⟩)
 |_=>exact dq hx
end
noncomputable def vk (p:List Nat×List Nat)(e:DictEntry):Prop:=(∃t,e.key=.str ⟨p.1.toArray⟩ t)/\∃t,e.val=.str ⟨p.2.toArray⟩ t
noncomputable def dD (h:Heap)(a:Addr)(kvs:List (List Nat×List Nat)):Prop:=
 (a==sysModules)=false/\∃o es ep,h.get? a=some o/\o.ExactDict/\o.data=.dict es ep/\Paired vk kvs es.toList/\(kvs.map (·.1)).Nodup
theorem aaR (a b:List Nat)(t:Tok):(pG ⟨a.toArray⟩ t).isStr ⟨b.toArray⟩=(a==b):=by
 have z:(pG ⟨a.toArray⟩ t).isStr ⟨b.toArray⟩=((⟨a.toArray⟩:Str) == ⟨b.toArray⟩):=rfl;rw [z,ke];simp only [beq_iff_eq];constructor
 ·intro h
  injection h with h;simpa using congrArg iY h
 ·intro h; rw [h]
theorem Qo {kvs:List (List Nat×List Nat)}{es:Array DictEntry}(r:Paired vk kvs es.toList):kvs.length=es.size:=by
 rw [yn r]; simp
theorem Paired.at2 {α β:Type}{F:α->β->Prop}:∀{wJ:List α}{l₂:List β}{i:Nat}{b:β},Paired F wJ l₂->l₂[i]?=some b->∃a,wJ[i]?=some a/\F a b
 |_,_,_,_,.nil,e=>by simp at e
 |_,_,0,_,.cons r _,e=>by simp at e; subst e; exact⟨_,by simp,r⟩
 |_,_,i+1,b,.cons _ t,e=>by
  obtain⟨a,h1,h2⟩:=Paired.at2 (i:=i) (b:=b) t (by simpa using e);exact⟨a,by simpa using h1,h2⟩
theorem adL {kvs:List (List Nat×List Nat)}{es:Array DictEntry}(r:Paired vk kvs es.toList):(es.all fun e=>isExactStrKey e.key)=true:=by
 rw [Array.all_eq_true];intro i hi;obtain⟨p,_,⟨t,hk⟩,_⟩:=Paired.at2 (i:=i) (b:=es[i]) r (by simp [hi]);rw [hk];rfl
theorem HF {k:List Nat}:∀{kvs:List (List Nat×List Nat)}{l:List DictEntry},Paired vk kvs l->
  (l.findIdx? (fun e=>e.key.isStr ⟨k.toArray⟩)=none/\ay kvs k=none)∨∃i e v t u,l.findIdx? (fun e=>e.key.isStr ⟨k.toArray⟩)=some i/\l[i]?=some e/\e.key=.str ⟨k.toArray⟩ t/\e.val=.str ⟨v.toArray⟩ u/\ay kvs k=some v
 |_,_,.nil=>.inl ⟨rfl,rfl⟩
 |p::ps,e::l,.cons r t=>by
  obtain⟨⟨tk,hk⟩,⟨tv,hv⟩⟩:=id r;rw [List.findIdx?_cons];have hi:e.key.isStr ⟨k.toArray⟩=(p.1==k):=by rw [hk]; exact aaR _ _ _
  rw [hi];unfold ay;rw [il]
  cases hpk:(p.1==k) with
  |true=>
   right
   have e1:p.1=k:=by simpa using hpk
   exact⟨0,e,p.2,tk,tv,rfl,by simp,by rw [hk,e1],hv,rfl⟩
  |false=>
   rcases HF (k:=k) t with ⟨h1,h2⟩ | ⟨i,e',v,t',u,h1,h2,h3,h4,h5⟩
   ·left
    unfold ay at h2;simp only [h1];exact⟨rfl,h2⟩
   ·right
    unfold ay at h5;simp only [h1];exact⟨i+1,e',v,t',u,rfl,by simpa using h2,h3,h4,h5⟩
theorem Nm:∀{kvs:List (List Nat×List Nat)}{p:List Nat×List Nat},(kvs.map (·.1)).Nodup->p∈kvs->ay kvs p.1=some p.2
 |q::r,p,hn,hp=>by
  have nq:(q.1::r.map (·.1)).Nodup:=hn;obtain⟨h1,h2⟩:=nU.mp nq;unfold ay;rw [il];rcases ba.mp hp with e | e
  ·subst e; simp
  ·have bN:(q.1==p.1)=false:=by
    rw [beq_eq_false_iff_ne];intro z;exact h1 (df.mpr ⟨p,e,z.symm⟩)
   rw [bN];exact Nm h2 e
theorem adI {ka kb:List (List Nat×List Nat)}(hn:(ka.map (·.1)).Nodup):o9 ka kb=nC ka kb:=by
 unfold o9
 cases ia:(ka==kb) with
 |false=>rfl
 |true=>
  have e:ka=kb:=by simpa using ia
  subst e;rw [Bool.true_or];unfold nC;rw [beq_self_eq_true,yo];exact(dO.mpr fun p hp=>by rw [Nm hn hp]; simp).symm
section
variable {prog:Program}{w:World}{A:Around}{E:Value->Shared->Prop}{s:Shared}
theorem aeh {d:Addr}{o:Obj}{es:Array DictEntry}{ep:Nat}{kvs:List (List Nat×List Nat)}{k:List Nat}{t:Tok}{hs:Int}{Q:Option Nat->Shared->Prop}(ho:s.heap.get? d=some o)
  (hd:o.data=.dict es ep) (r:Paired vk kvs es.toList) (q:Q (es.toList.findIdx? fun e=>e.key.isStr ⟨k.toArray⟩) s) :
  wpAny (model prog w) A (dictFind d (.str ⟨k.toArray⟩ t) hs) Q E s:=by
 unfold dictFind;refine wpAny_holding (wpAny_bind (wpAny_dictEntries ho hd ?_))
 dsimp only
 rw [if_pos (adL r)];unfold foundByValue;have e0:es.findIdx? (fun e=>e.key.isStr ⟨k.toArray⟩)=es.toList.findIdx? (fun e=>e.key.isStr ⟨k.toArray⟩):=by
  cases es; simp
 rw [e0];rcases HF (k:=k) r with ⟨h1,_⟩ | ⟨i,e,v,t',u,h1,h2,h3,_,_⟩
 ·rw [h1] at q ⊢
  exact wpAny_pure q
 ·rw [h1] at q ⊢
  have eZ:es[i]?=some e:=by simpa using h2
  simp only [eZ];refine wpAny_bind (wpAny_dictEpoch ho hd (wpAny_bind ?_));rw [h3];refine wpAny_eqBool_str (wpAny_bind (wpAny_dictEpoch ho hd ?_));rw [if_neg (by simp),decide_eq_true rfl];exact wpAny_bind (wpAny_rule (wpAny_pure q))
theorem QD {nm:String}{a b:Addr}{ka kb:List (List Nat×List Nat)}{Q:Bool->Shared->Prop}(da:dD s.heap a ka)(db:dD s.heap b kb)(q:Q (o9 ka kb) s) :
  wpAny (model prog w) A (Builtin.Dict.samePairs nm a b) Q E s:=by
 have q:Q (nC ka kb) s:=by rw [← adI (let ⟨_,_,_,_,_,_,_,_,n⟩:=da; n)]; exact q
 obtain⟨na,oa,ea,pa,ga,_,fa,ra,_⟩:=da;obtain⟨nb,ob,eb,pb,gb,_,fb,rb,_⟩:=db;have la:=Qo ra;have lb:=Qo rb;unfold Builtin.Dict.samePairs Builtin.Dict.showsAll;rw [if_neg (by rw [na]; simp),if_neg (by rw [nb]; simp)];refine wpAny_bind (wpAny_pure (wpAny_bind (wpAny_pure (wpAny_bind (wpAny_dictEntries ga fa ?_)))))
 dsimp only
 refine wpAny_bind (wpAny_dictEntries gb fb ?_);unfold nC at q
 by_cases hl:ea.size=eb.size
 ·have q2:Q (ka.all fun p=>ay kb p.1==some p.2) s:=by
   have z:(ka.length==kb.length)=true:=by simp; omega
   rw [z,yo] at q;exact q
  rw [if_neg (by rw [hl]; simp)];refine wpAny_bind (wpAny_dictEpoch ga fa (wpAny_bind ?_));rw [Std.Legacy.Range.forIn_eq_forIn_range'];simp only [Std.Legacy.Range.size,Nat.sub_zero,Nat.add_sub_cancel,Nat.div_one];refine wpAny_forIn_list _
   (fun l c s'=>s'=s/\c=(none,())/\∃i,l=List.range' i (ea.size - i)/\i<=ea.size/\Q ((ka.drop i).all fun p=>ay kb p.1==some p.2) s)
   _ ?_ ?_ _ _ ⟨rfl,rfl,0,by simp,gw _,by simpa using q2⟩
  ·rintro x l c s' ⟨rfl,rfl,i,hr,hi,hq⟩
   have aR:i<ea.size:=by
    rcases Nat.lt_or_ge i ea.size with h | h
    ·exact h
    ·rw [Nat.sub_eq_zero_of_le h] at hr; simp at hr
   rw [show ea.size - i=(ea.size - (i+1))+1 by omega,List.range'_succ] at hr;obtain⟨rfl,Ga⟩:=List.cons.inj hr;refine wpAny_bind (wpAny_dictEntries ga fa ?_);have hx:ea[x]?=some ea[x]:=by simp [aR]
   rw [hx];obtain⟨p,hp,⟨tk,hk⟩,⟨tv,hv⟩⟩:=Paired.at2 (i:=x) (b:=ea[x]) ra (by simp [aR]);have dA:x<ka.length:=by omega
   have dJ:ka[x]=p:=by simpa [dA] using hp
   rw [vq dA,dJ,mz] at hq;refine wpAny_bind (wpAny_holding ?_);rw [hk];refine wpAny_bind (aeh gb fb rb ?_);rcases HF (k:=p.1) rb with ⟨h1,h2⟩ | ⟨j,e,v,t',u,h1,h2,h3,h4,h5⟩
   ·rw [h1]
    rw [h2] at hq;refine wpAny_pure ?_;show wpAny _ _ (if (!false)=true then _ else _) _ _ _;rw [if_pos (by decide)];exact wpAny_pure (wpAny_pure (by simpa using hq))
   ·rw [h1]
    refine wpAny_bind (wpAny_dictEntries gb fb ?_);have eZ:eb[j]?=some e:=by simpa using h2
    rw [eZ];refine wpAny_holding ?_;rw [hv,h4];refine wpAny_eqBool_str ?_;rw [h5] at hq
    by_cases FZ:p.2=v
    ·subst FZ
     rw [decide_eq_true rfl];show wpAny _ _ (if (!true)=true then _ else _) _ _ _;rw [if_neg (by decide)];refine wpAny_bind (wpAny_dictEpoch ga fa ?_);rw [if_neg (by simp)];exact wpAny_pure ⟨rfl,rfl,x+1,Ga,aR,by simpa using hq⟩
    ·have bN:¬ (⟨p.2.toArray⟩:Str)=⟨v.toArray⟩:=fun z=>FZ (by injection z with z; simpa using congrArg iY z)
     rw [decide_eq_false bN];show wpAny _ _ (if (!false)=true then _ else _) _ _ _;rw [if_pos (by decide)];have z:(some v==some p.2)=false:=by simp; exact fun z=>FZ z.symm
     rw [z] at hq;exact wpAny_pure (wpAny_pure (by simpa using hq))
  ·rintro c s' ⟨rfl,rfl,i,hr,hi,hq⟩
   have xk:i=ea.size:=by
    rcases Nat.lt_or_ge i ea.size with h | h
    ·rw [show ea.size - i=(ea.size - (i+1))+1 by omega,List.range'_succ] at hr; exact nomatch hr
    ·exact Nat.le_antisymm hi h
   rw [xk,← la,vy] at hq;exact wpAny_pure (by simpa using hq)
 ·rw [if_pos (by simpa using hl)]
  have z:(ka.length==kb.length)=false:=by simp; omega
  rw [z,Bool.false_and] at q;exact wpAny_bind (wpAny_rule (wpAny_pure q))
theorem dD.ty {s:Shared}{a:Addr}{ka:List (List Nat×List Nat)}(d:dD s.heap a ka):s.TypeIs (.ref a) "dict" := let ⟨_,o,_,_,g,c,_⟩:=d; ⟨o,g,c.1⟩
end
end L2
namespace L2
open PySem PySem.Spec PyProof.Rows PySem.SeqAt PySem.MeetsSeq PySem.MeetsSeq2 PySem.MeetsSeq3
open AutoSeq1 (wpAny_loadPart')
section
variable {A:Around}{s:Shared}
theorem zT {M:Model}{E:Value->Shared->Prop}{a b:Addr}{oa ob:Obj}{R:Bool->Shared->Prop}(ia:a≠b)(ga:s.heap.get? a=some oa)(gb:s.heap.get? b=some ob)(hc:oa.cls=.type "dict" ∨ob.cls=.type "dict")(q:R false s):wpAny M A (isSame (.ref a) (.ref b)) R E s:=by
 rcases hc with hc | hc
 ·exact wpAny_isSame_ref_other ia ga gb (by rw [hc]; decide) q
 ·exact wpAny_isSame_ref_other' ia ga gb (by rw [hc]; decide) q
theorem LN {a b:Addr}{ka kb:List (List Nat×List Nat)}(da:dD s.heap a ka)(db:dD s.heap b kb)(hu:A.units<cLine):RcAt A s (.ref a) (.ref b) (o9 ka kb):=fun prog w E Q q=>by
 refine wpAny_richCompare_same_room (op:=.Eq) da.ty db.ty yF (wpAny_call_entry yF da.ty PySem.F.entry_dict_eq ?_ (PySem.F.args_dict_eq_2 _ _)) hu;show wpAny _ _ (n4 "__eq__" ⟨[.ref a,.ref b],[]⟩ >>= _) _ _ s
 refine wpAny_bind ?_;unfold n4;refine wpAny_bind (wpAny_notOrdered_dict da.ty ?_);show wpAny _ _ (pure (bI a,bI b)) _ _ s;refine wpAny_pure (wpAny_bind (wpAny_isInstance (T:="dict") db.ty PySem.F.sub_dict_dict ?_))
 simp only [rZ,cT,if_false];refine wpAny_bind (wpAny_pure (wpAny_bind (wpAny_pure (wpAny_bind (QD da db (wpAny_pure ⟨_,rfl,(fun x=>nomatch x),?_⟩))))))
 cases hz:o9 ka kb <;> rw [hz] at q <;> exact q
theorem QC {prog:Program}{w:World}{E:Value->Shared->Prop}{a:Addr}{ka:List (List Nat×List Nat)}{u:Value}{T:String}{Q:Value->Shared->Prop}(da:dD s.heap a ka)(hT:s.TypeIs u T)(hs:isSubtype (.type T) (.type "dict")=pure false)(q:Q .notImplemented s) :
  wpAny (model prog w) A (call (.builtin "dict.__eq__") [.ref a,u]) Q E s:=by
 refine wpAny_call_entry yF da.ty PySem.F.entry_dict_eq ?_ (PySem.F.args_dict_eq_2 _ _);show wpAny _ _ (n4 "__eq__" ⟨[.ref a,u],[]⟩ >>= _) _ _ s
 refine wpAny_bind ?_;unfold n4;refine wpAny_bind (wpAny_notOrdered_dict da.ty ?_);show wpAny _ _ (pure (bI a,u)) _ _ s;refine wpAny_pure (wpAny_bind (wpAny_isInstance (T:=T) hT hs ?_));simp only [vv,if_true];exact wpAny_bind (wpAny_rule (wpAny_pure ⟨_,rfl,q⟩))
theorem WQ {a b:Addr}{ka kb:List (List Nat×List Nat)}(da:dD s.heap a ka)(db:dD s.heap b kb)(hu:A.units<cLine):RcNeAt A s (.ref a) (.ref b) (!o9 ka kb):=fun prog w E Q q=>by
 refine wpAny_richCompare_same_room (op:=.NotEq) da.ty db.ty yE (wpAny_call_entry yE da.ty PySem.F.entry_dict_ne ?_ (PySem.F.args_dict_ne_2 _ _)) hu;show wpAny _ _ (n4 "__ne__" ⟨[.ref a,.ref b],[]⟩ >>= _) _ _ s
 refine wpAny_bind ?_;unfold n4;refine wpAny_bind (wpAny_notOrdered_dict da.ty ?_);show wpAny _ _ (pure (bI a,bI b)) _ _ s;refine wpAny_pure (wpAny_bind (wpAny_isInstance (T:="dict") db.ty PySem.F.sub_dict_dict ?_))
 simp only [rZ,cT,if_false];refine wpAny_bind (wpAny_pure (wpAny_bind (wpAny_pure (wpAny_bind (QD da db (wpAny_pure ⟨_,rfl,(fun x=>nomatch x),?_⟩))))))
 cases hz:o9 ka kb <;> rw [hz] at q <;> exact q
theorem QB {prog:Program}{w:World}{E:Value->Shared->Prop}{a:Addr}{ka:List (List Nat×List Nat)}{u:Value}{T:String}{Q:Value->Shared->Prop}(da:dD s.heap a ka)(hT:s.TypeIs u T)(hs:isSubtype (.type T) (.type "dict")=pure false)(q:Q .notImplemented s) :
  wpAny (model prog w) A (call (.builtin "dict.__ne__") [.ref a,u]) Q E s:=by
 refine wpAny_call_entry yE da.ty PySem.F.entry_dict_ne ?_ (PySem.F.args_dict_ne_2 _ _);show wpAny _ _ (n4 "__ne__" ⟨[.ref a,u],[]⟩ >>= _) _ _ s
 refine wpAny_bind ?_;unfold n4;refine wpAny_bind (wpAny_notOrdered_dict da.ty ?_);show wpAny _ _ (pure (bI a,u)) _ _ s;refine wpAny_pure (wpAny_bind (wpAny_isInstance (T:=T) hT hs ?_));simp only [vv,if_true];exact wpAny_bind (wpAny_rule (wpAny_pure ⟨_,rfl,q⟩))
noncomputable def Al (A:Around)(s:Shared)(u t:Value)(b:Bool):Prop:=EqAt A s u t b/\RcAt A s u t b/\RcNeAt A s u t (!b)
theorem Qh {u t:Value}{a:Addr}{b:Bool}(ha:u=.ref a∨t=.ref a)(bN:u≠t)(h:RcAt A s u t b):EqAt A s u t b:=fun prog w E Q q=>by
 unfold eqBool;refine wpAny_holding (wpAny_ite_split (fun z=>absurd (eq_of_beq z) bN) fun _=>?_);rcases ha with rfl | rfl
 ·exact wpAny_bind (h prog w E _ (wpAny_truthy_bool q))
 ·cases u <;> exact wpAny_bind (h prog w E _ (wpAny_truthy_bool q))
noncomputable abbrev Sb (A:Around)(s:Shared)(id:String)(u t:Value):Prop:=∀(prog:Program) (w:World) (E:Value->Shared->Prop) (Q:Value->Shared->Prop),Q .notImplemented s->wpAny (model prog w) A (call (.builtin id) [u,t]) Q E s
noncomputable abbrev RI (A:Around)(s:Shared)(u t:Value):Prop:=∀(prog:Program) (w:World) (E:Value->Shared->Prop) (Q:Bool->Shared->Prop),Q false s->wpAny (model prog w) A (isSame u t) Q E s
theorem dk {a:Addr}{ka:List (List Nat×List Nat)}{u:Value}{T ie im:String}(da:dD s.heap a ka)(hu:A.units<cLine)(ty:s.TypeIs u T)(bN:bI a≠u)(n1:(n5 "dict" != n5 T)=true)(n2:(n5 T != n5 "dict")=true)
  (s1:isSubtype (.type T) (.type "dict")=pure false) (s2:isSubtype (.type "dict") (.type T)=pure false) (e1:Slot T (cmpInfo .Eq).2.1 ie) (e2:Slot T (cmpInfo .Eq).2.2 ie) (m1:Slot T (cmpInfo .NotEq).2.1 im) (m2:Slot T (cmpInfo .NotEq).2.2 im)
  (c1:Sb A s ie u (.ref a)) (c2:Sb A s im u (.ref a)) (k1:RI A s (.ref a) u) (k2:RI A s u (.ref a)):Al A s (.ref a) u false/\Al A s u (.ref a) false:=by
 have r1:RcAt A s (.ref a) u false:=fun prog w E Q q=>rc_eq_decline_or (k:=false) da.ty ty n1 s1 yF e2 (fun _ hq=>QC da ty s1 hq) (fun _ hq=>c1 prog w E _ hq) (fun _ hq=>k1 prog w E _ hq) (.inr hu) q;have r2:RcAt A s u (.ref a) false:=fun prog w E Q q=>rc_eq_decline_or (k:=false) ty da.ty n2 s2 e1 F.slot_dict_eq_refl (fun _ hq=>c1 prog w E _ hq) (fun _ hq=>QC da ty s1 hq) (fun _ hq=>k2 prog w E _ hq) (.inr hu) q;exact⟨⟨Qh (.inl rfl) bN r1,r1,fun prog w E Q q=>rc_ne_decline_or (k:=false) da.ty ty n1 s1 yE m2 (fun _ hq=>QB da ty s1 hq) (fun _ hq=>c2 prog w E _ hq) (fun _ hq=>k1 prog w E _ hq) (.inr hu) q⟩,
  Qh (.inr rfl) bN.symm r2,r2,fun prog w E Q q=>rc_ne_decline_or (k:=false) ty da.ty n2 s2 m1 F.slot_dict_ne_refl (fun _ hq=>c2 prog w E _ hq) (fun _ hq=>QB da ty s1 hq) (fun _ hq=>k2 prog w E _ hq) (.inr hu) q⟩
noncomputable def Dn (a:Addr):PySem.Spec:=fun _ R s=>(∃c es ep dd sl,s.heap.get? a=some {cls:=c,dict:=dd,data:=.dict es ep,slots:=sl})/\R (.ok (.ret .notImplemented)) s
noncomputable def Dm (T:String)(l a:Addr):PySem.Spec:=fun _ R s=>(∃items n dl ll,s.heap.get? l=some {cls:=.type T,dict:=dl,data:=.seq items n,slots:=ll})/\(∃es ep dd sl,s.heap.get? a=some {cls:=.type "dict",dict:=dd,data:=.dict es ep,slots:=sl})/\R (.ok (.ret .notImplemented)) s
theorem Vi (b:Str)(u:Tok)(a:Addr):Meets (Builtin.«str.__eq__» ⟨[.str b u,.ref a],[]⟩) (Dn a):=.of_wp fun prog w A R s h=>by obtain⟨hp,g,d,tk,os⟩:=s; obtain⟨⟨_,_,_,_,_,ga⟩,h⟩:=h; wp_walk using wpAny_loadPart' ga,wpAny_load ga; exact⟨_,rfl,h⟩
theorem Vh (b:Str)(u:Tok)(a:Addr):Meets (Builtin.«str.__ne__» ⟨[.str b u,.ref a],[]⟩) (Dn a):=.of_wp fun prog w A R s h=>by obtain⟨hp,g,d,tk,os⟩:=s; obtain⟨⟨_,_,_,_,_,ga⟩,h⟩:=h; wp_walk using wpAny_loadPart' ga,wpAny_load ga; exact⟨_,rfl,h⟩
theorem aaX (b:Int)(u:Tok)(a:Addr):Meets (Builtin.«int.__eq__» ⟨[.int b u,.ref a],[]⟩) (Dn a):=.of_wp fun prog w A R s h=>by obtain⟨hp,g,d,tk,os⟩:=s; obtain⟨⟨_,_,_,_,_,ga⟩,h⟩:=h; wp_walk using wpAny_loadPart' ga,wpAny_load ga; exact⟨_,rfl,h⟩
theorem aaW (b:Int)(u:Tok)(a:Addr):Meets (Builtin.«int.__ne__» ⟨[.int b u,.ref a],[]⟩) (Dn a):=.of_wp fun prog w A R s h=>by obtain⟨hp,g,d,tk,os⟩:=s; obtain⟨⟨_,_,_,_,_,ga⟩,h⟩:=h; wp_walk using wpAny_loadPart' ga,wpAny_load ga; exact⟨_,rfl,h⟩
theorem aff (b:Bool)(a:Addr):Meets (Builtin.«int.__eq__» ⟨[.bool b,.ref a],[]⟩) (Dn a):=.of_wp fun prog w A R s h=>by obtain⟨hp,g,d,tk,os⟩:=s; obtain⟨⟨_,_,_,_,_,ga⟩,h⟩:=h; wp_walk using wpAny_loadPart' ga,wpAny_load ga; exact⟨_,rfl,h⟩
theorem afe (b:Bool)(a:Addr):Meets (Builtin.«int.__ne__» ⟨[.bool b,.ref a],[]⟩) (Dn a):=.of_wp fun prog w A R s h=>by obtain⟨hp,g,d,tk,os⟩:=s; obtain⟨⟨_,_,_,_,_,ga⟩,h⟩:=h; wp_walk using wpAny_loadPart' ga,wpAny_load ga; exact⟨_,rfl,h⟩
theorem aab (l a:Addr):Meets (Builtin.«list.__eq__» ⟨[.ref l,.ref a],[]⟩) (Dm "list" l a):=.of_wp fun prog w A R s h=>by obtain⟨hp,g,d,tk,os⟩:=s; obtain⟨⟨_,_,_,_,gl⟩,⟨_,_,_,_,ga⟩,h⟩:=h; have f1:=F.sub_dict_list; wp_walk using wpAny_loadPart' gl,wpAny_loadPart' ga; exact⟨_,rfl,h⟩
theorem aaa (l a:Addr):Meets (Builtin.«list.__ne__» ⟨[.ref l,.ref a],[]⟩) (Dm "list" l a):=.of_wp fun prog w A R s h=>by obtain⟨hp,g,d,tk,os⟩:=s; obtain⟨⟨_,_,_,_,gl⟩,⟨_,_,_,_,ga⟩,h⟩:=h; have f1:=F.sub_dict_list; wp_walk using wpAny_loadPart' gl,wpAny_loadPart' ga; exact⟨_,rfl,h⟩
theorem Uj (l a:Addr):Meets (Builtin.«tuple.__eq__» ⟨[.ref l,.ref a],[]⟩) (Dm "tuple" l a):=.of_wp fun prog w A R s h=>by obtain⟨hp,g,d,tk,os⟩:=s; obtain⟨⟨_,_,_,_,gl⟩,⟨_,_,_,_,ga⟩,h⟩:=h; have f1:=F.sub_dict_tuple; wp_walk using wpAny_loadPart' gl,wpAny_loadPart' ga; exact⟨_,rfl,h⟩
theorem Ui (l a:Addr):Meets (Builtin.«tuple.__ne__» ⟨[.ref l,.ref a],[]⟩) (Dm "tuple" l a):=.of_wp fun prog w A R s h=>by obtain⟨hp,g,d,tk,os⟩:=s; obtain⟨⟨_,_,_,_,gl⟩,⟨_,_,_,_,ga⟩,h⟩:=h; have f1:=F.sub_dict_tuple; wp_walk using wpAny_loadPart' gl,wpAny_loadPart' ga; exact⟨_,rfl,h⟩
theorem dD.dn {a:Addr}{ka:List (List Nat×List Nat)}(da:dD s.heap a ka):∃c es ep dd sl,s.heap.get? a=some {cls:=c,dict:=dd,data:=.dict es ep,slots:=sl}:=by
 obtain⟨_,⟨c,dd,data,sl⟩,es,ep,ga,_,hd,_⟩:=da
 simp only at hd
 subst hd;exact⟨c,es,ep,dd,sl,ga⟩
theorem dD.dm {a:Addr}{ka:List (List Nat×List Nat)}(da:dD s.heap a ka):∃es ep dd sl,s.heap.get? a=some {cls:=.type "dict",dict:=dd,data:=.dict es ep,slots:=sl}:=by
 obtain⟨_,⟨c,dd,data,sl⟩,es,ep,ga,hx,hd,_⟩:=da
 simp only at hd
 have hc:c=.type "dict" := hx.1
 subst hd hc;exact⟨es,ep,dd,sl,ga⟩
theorem QR {a:Addr}{ka:List (List Nat×List Nat)}(da:dD s.heap a ka)(hu:A.units<cLine):Al A s (.ref a) .none false/\Al A s .none (.ref a) false:=
 dk da hu rfl nofun (by decide) (by decide) F.sub_NoneType_dict F.sub_dict_NoneType F.slot_NoneType_eq F.slot_NoneType_eq_refl F.slot_NoneType_ne F.slot_NoneType_ne_refl
  (fun _ _ _ _ q=>call_gives F.slot_NoneType_eq rfl F.entry_NoneType_eq (F.args_NoneType_eq_2 _ _) (NoneType___eq___none_ref_0 a) q) (fun _ _ _ _ q=>call_gives F.slot_NoneType_ne rfl F.entry_NoneType_ne (F.args_NoneType_ne_2 _ _) (NoneType___ne___none_ref_0 a) q) (fun _ _ _ _ q=>wpAny_of_eq rfl q) (fun _ _ _ _ q=>wpAny_of_eq rfl q)
theorem QU {a:Addr}{ka:List (List Nat×List Nat)}(b:Bool)(da:dD s.heap a ka)(hu:A.units<cLine):Al A s (.ref a) (.bool b) false/\Al A s (.bool b) (.ref a) false:=
 dk da hu rfl nofun (by decide) (by decide) F.sub_bool_dict F.sub_dict_bool F.slot_bool_eq F.slot_bool_eq_refl F.slot_bool_ne F.slot_bool_ne_refl
  (fun _ _ _ _ q=>call_meets F.slot_bool_eq rfl F.entry_int_eq (F.args_int_eq_2 _ _) (aff b a) ⟨da.dn,q⟩) (fun _ _ _ _ q=>call_meets F.slot_bool_ne rfl F.entry_int_ne (F.args_int_ne_2 _ _) (afe b a) ⟨da.dn,q⟩) (fun _ _ _ _ q=>wpAny_of_eq rfl q) (fun _ _ _ _ q=>wpAny_of_eq rfl q)
theorem QT {a:Addr}{ka:List (List Nat×List Nat)}(b:Int)(u:Tok)(da:dD s.heap a ka)(hu:A.units<cLine):Al A s (.ref a) (.int b u) false/\Al A s (.int b u) (.ref a) false:=
 dk da hu (typeIs_int s b u) nofun (by decide) (by decide) F.sub_int_dict F.sub_dict_int F.slot_int_eq F.slot_int_eq_refl F.slot_int_ne F.slot_int_ne_refl
  (fun _ _ _ _ q=>call_meets F.slot_int_eq (typeIs_int s b u) F.entry_int_eq (F.args_int_eq_2 _ _) (aaX b u a) ⟨da.dn,q⟩) (fun _ _ _ _ q=>call_meets F.slot_int_ne (typeIs_int s b u) F.entry_int_ne (F.args_int_ne_2 _ _) (aaW b u a) ⟨da.dn,q⟩) (fun _ _ _ _ q=>wpAny_of_eq rfl q) (fun _ _ _ _ q=>wpAny_of_eq rfl q)
theorem QP {a:Addr}{ka:List (List Nat×List Nat)}(b:Str)(u:Tok)(da:dD s.heap a ka)(hu:A.units<cLine):Al A s (.ref a) (.str b u) false/\Al A s (.str b u) (.ref a) false:=
 dk da hu (typeIs_str s b u) nofun (by decide) (by decide) F.sub_str_dict F.sub_dict_str F.slot_str_eq F.slot_str_eq_refl F.slot_str_ne F.slot_str_ne_refl
  (fun _ _ _ _ q=>call_meets F.slot_str_eq (typeIs_str s b u) F.entry_str_eq (F.args_str_eq_2 _ _) (Vi b u a) ⟨da.dn,q⟩) (fun _ _ _ _ q=>call_meets F.slot_str_ne (typeIs_str s b u) F.entry_str_ne (F.args_str_ne_2 _ _) (Vh b u a) ⟨da.dn,q⟩) (fun _ _ _ _ q=>wpAny_of_eq rfl q) (fun _ _ _ _ q=>wpAny_of_eq rfl q)
theorem Zz {a l:Addr}{ka:List (List Nat×List Nat)}{items:Array Value}(da:dD s.heap a ka)(hl:s.heap.IsList l items):a≠l:=fun z=>by
 subst z;obtain⟨_,o,es,ep,ga,hx,hd,_⟩:=da;obtain⟨o',gl,hc,n,iE⟩:=hl;rw [ga] at gl;cases gl;rw [hx.1] at hc;exact absurd hc (by decide)
theorem Zy {a l:Addr}{ka:List (List Nat×List Nat)}{items:Array Value}(da:dD s.heap a ka)(hl:s.heap.IsTuple l items):a≠l:=fun z=>by
 subst z;obtain⟨_,o,es,ep,ga,hx,hd,_⟩:=da;obtain⟨o',gl,hc,n,iE⟩:=hl;rw [ga] at gl;cases gl;rw [hx.1] at hc;exact absurd hc (by decide)
theorem QS {a l:Addr}{ka:List (List Nat×List Nat)}{items:Array Value}(da:dD s.heap a ka)(hl:s.heap.IsList l items)(hu:A.units<cLine):Al A s (.ref a) (.ref l) false/\Al A s (.ref l) (.ref a) false:=by
 obtain⟨es,ep,dd,sl,ga⟩:=da.dm;obtain⟨⟨cl,dl,dal,ll⟩,gl,hc,n,iE⟩:=id hl
 simp only at hc iE
 subst hc iE;have bN:a≠l:=fun z=>by subst z; rw [ga] at gl; exact absurd (congrArg (fun o:Option Obj=>o.map (·.cls)) gl) (by simp)
 exact dk da hu ⟨_,gl,rfl⟩ (fun z=>bN (by injection z)) (by decide) (by decide) F.sub_list_dict F.sub_dict_list F.slot_list_eq F.slot_list_eq_refl F.slot_list_ne F.slot_list_ne_refl
  (fun _ _ _ _ q=>call_meets F.slot_list_eq ⟨_,gl,rfl⟩ F.entry_list_eq (F.args_list_eq_2 _ _) (aab l a) ⟨⟨_,_,_,_,gl⟩,⟨_,_,_,_,ga⟩,q⟩) (fun _ _ _ _ q=>call_meets F.slot_list_ne ⟨_,gl,rfl⟩ F.entry_list_ne (F.args_list_ne_2 _ _) (aaa l a) ⟨⟨_,_,_,_,gl⟩,⟨_,_,_,_,ga⟩,q⟩)
  (fun _ _ _ _ q=>zT bN ga gl (.inl rfl) q) (fun _ _ _ _ q=>zT bN.symm gl ga (.inr rfl) q)
theorem QO {a l:Addr}{ka:List (List Nat×List Nat)}{items:Array Value}(da:dD s.heap a ka)(hl:s.heap.IsTuple l items)(hu:A.units<cLine):Al A s (.ref a) (.ref l) false/\Al A s (.ref l) (.ref a) false:=by
 obtain⟨es,ep,dd,sl,ga⟩:=da.dm;obtain⟨⟨cl,dl,dal,ll⟩,gl,hc,n,iE⟩:=id hl
 simp only at hc iE
 subst hc iE;have bN:a≠l:=fun z=>by subst z; rw [ga] at gl; exact absurd (congrArg (fun o:Option Obj=>o.map (·.cls)) gl) (by simp)
 exact dk da hu ⟨_,gl,rfl⟩ (fun z=>bN (by injection z)) (by decide) (by decide) F.sub_tuple_dict F.sub_dict_tuple F.slot_tuple_eq F.slot_tuple_eq_refl F.slot_tuple_ne F.slot_tuple_ne_refl
  (fun _ _ _ _ q=>call_meets F.slot_tuple_eq ⟨_,gl,rfl⟩ F.entry_tuple_eq (F.args_tuple_eq_2 _ _) (Uj l a) ⟨⟨_,_,_,_,gl⟩,⟨_,_,_,_,ga⟩,q⟩) (fun _ _ _ _ q=>call_meets F.slot_tuple_ne ⟨_,gl,rfl⟩ F.entry_tuple_ne (F.args_tuple_ne_2 _ _) (Ui l a) ⟨⟨_,_,_,_,gl⟩,⟨_,_,_,_,ga⟩,q⟩)
  (fun _ _ _ _ q=>zT bN ga gl (.inl rfl) q) (fun _ _ _ _ q=>zT bN.symm gl ga (.inr rfl) q)
end
end L2
namespace L2
open PySem PySem.Spec PyProof.Rows
noncomputable def a9 (kvs:List (List Nat×List Nat)):List (Key×V):=kvs.map fun p=>(.inr ⟨p.1.toArray⟩,S p.2)
noncomputable def FzD (H:Hp)(a:Addr)(kvs:List (List Nat×List Nat)):Prop:=∃o,H a=some (.bq o (.dK (a9 kvs)))
section
variable (K:ah)(H:Hp)
mutual
noncomputable def Rep:Dt->V->Prop
 |.aI,v=>v=.aI
 |.bl b,v=>v=.bl b
 |.int i,v=>v=.int i
 |.str l,v=>v=S l
 |.tup ds,v=>∃a xs,v=.ref a/\cX K H a xs/\av ds xs
 |.lst ds,v=>∃a xs,v=.ref a/\bP K H a xs/\av ds xs
 |.aj kvs,v=>∃a ks,v=.ref a/\ks=kvs/\FzD H a ks
noncomputable def av:List Dt->List V->Prop
 | [],xs=>xs=[]
 |d::ds,xs=>∃x r,xs=x::r/\Rep d x/\av ds r
end
end
theorem aw.f9 {K:ah}{H H':Hp}{a:Addr}{xs:List V}(e:aw H H')(h:cX K H a xs):cX K H' a xs:=by
 rcases h with (h | ⟨o,h⟩) | h
 ·exact .inl (.inl (e _ _ h))
 ·exact .inl (.inr ⟨o,e _ _ h⟩)
 ·exact .inr h
mutual
theorem Rep.mono {K:ah}{H H':Hp}(e:aw H H'):∀{d:Dt}{v:V},Rep K H d v->Rep K H' d v
 |.aI,_,h=>by simpa only [Rep] using h
 |.bl _,_,h=>by simpa only [Rep] using h
 |.int _,_,h=>by simpa only [Rep] using h
 |.str _,_,h=>by simpa only [Rep] using h
 |.tup ds,_,h=>by
  simp only [Rep] at h ⊢;obtain⟨a,xs,h1,h2,h3⟩:=h;exact⟨a,xs,h1,e.f9 h2,av.mono e h3⟩
 |.lst ds,_,h=>by
  simp only [Rep] at h ⊢;obtain⟨a,xs,h1,h2,h3⟩:=h;exact⟨a,xs,h1,e.seq h2,av.mono e h3⟩
 |.aj kvs,_,h=>by
  simp only [Rep] at h ⊢;obtain⟨a,ks,h1,h3,o,h2⟩:=h;exact⟨a,ks,h1,h3,o,e _ _ h2⟩
theorem av.mono {K:ah}{H H':Hp}(e:aw H H'):∀{ds:List Dt}{xs:List V},av K H ds xs->av K H' ds xs
 | [],_,h=>by simpa only [av] using h
 |d::ds,_,h=>by
  simp only [av] at h ⊢;obtain⟨x,r,h1,h2,h3⟩:=h;exact⟨x,r,h1,Rep.mono e h2,av.mono e h3⟩
end
theorem av.nil {K:ah}{H:Hp}:av K H [] []:=by simp only [av]
theorem av.cons {K:ah}{H:Hp}{d:Dt}{ds:List Dt}{x:V}{xs:List V}(h:Rep K H d x)(t:av K H ds xs):av K H (d::ds) (x::xs):=by
 simp only [av];exact⟨x,xs,rfl,h,t⟩
theorem av.length {K:ah}{H:Hp}:∀{ds:List Dt}{xs:List V},av K H ds xs->ds.length=xs.length
 | [],_,h=>by simp only [av] at h; subst h; rfl
 |d::ds,_,h=>by
  simp only [av] at h;obtain⟨x,r,rfl,_,h3⟩:=h;simp [av.length h3]
theorem av.get {K:ah}{H:Hp}:∀{ds:List Dt}{xs:List V}{i:Nat}{x:V},av K H ds xs->xs[i]?=some x->∃d,ds[i]?=some d/\Rep K H d x
 | [],_,i,x,h,e=>by simp only [av] at h; subst h; simp at e
 |d::ds,_,0,x,h,e=>by
  simp only [av] at h;obtain⟨y,r,rfl,h2,_⟩:=h;simp at e;subst e;exact⟨d,rfl,h2⟩
 |d::ds,_,i+1,x,h,e=>by
  simp only [av] at h;obtain⟨y,r,rfl,_,h3⟩:=h;obtain⟨d',a,b⟩:=av.get (i:=i) (x:=x) h3 (by simpa using e);exact⟨d',by simpa using a,b⟩
theorem av.append {K:ah}{H:Hp}:∀{ds es:List Dt}{xs ys:List V},av K H ds xs->av K H es ys->av K H (ds++es) (xs++ys)
 | [],es,xs,ys,h,t=>by simp only [av] at h; subst h; simpa using t
 |d::ds,es,xs,ys,h,t=>by
  simp only [av] at h;obtain⟨x,r,rfl,h2,h3⟩:=h;exact .cons h2 (av.append h3 t)
theorem ek {K:ah}{H:Hp}{i:Int}:Rep K H (.int i) (.int i):=by simp only [Rep]
theorem mU {K:ah}{H:Hp}{l:List Nat}:Rep K H (.str l) (S l):=by simp only [Rep]
theorem eJ {K:ah}{H:Hp}{b:Bool}:Rep K H (.bl b) (.bl b):=by simp only [Rep]
theorem zp {K:ah}{H:Hp}:Rep K H .aI .aI:=by simp only [Rep]
theorem qg {K:ah}{H:Hp}{a:Addr}{xs:List V}{ds:List Dt}(h:H a=some (.tup xs))(r:av K H ds xs):Rep K H (.tup ds) (.ref a):=by
 simp only [Rep];exact⟨a,xs,rfl,.of h,r⟩
theorem wd {K:ah}{H:Hp}{a:Addr}{xs:List V}{ds:List Dt}(h:H a=some (.lst xs))(r:av K H ds xs):Rep K H (.lst ds) (.ref a):=by
 simp only [Rep];exact⟨a,xs,rfl,.of h,r⟩
theorem Inv.list_tuple {X:Cx}{pins:List (Addr×Obj)}{σ:St}{H:Hp}{s:Shared}{a:Addr}{xs ys:List V}(I:Inv X pins σ H s)(h:bP X.K H a xs)(h':cX X.K H a ys):False:=by
 obtain⟨ak,r,⟨o,n,e,c,_⟩,_⟩:=I.list h;obtain⟨its',r',⟨o',e',c',_⟩,_⟩:=I.tuple h';rw [e] at e';cases e';rw [c] at c';injection c' with c';exact absurd c' (by decide)
theorem Ed {K:ah}{H:Hp}{a:Addr}{o:Obj}{kvs:List (List Nat×List Nat)}(h:H a=some (.bq o (.dK (a9 kvs)))):Rep K H (.aj kvs) (.ref a):=by
 simp only [Rep];exact⟨a,_,rfl,rfl,o,h⟩
theorem Qw:∀{a b:List (List Nat×List Nat)},a9 a=a9 b->a=b
 | [],[],_=>rfl
 | [],_::_,h=>by simp [a9] at h
 |_::_,[],h=>by simp [a9] at h
 |p::a,q::b,h=>by
  simp only [a9,bG] at h;injection h with h1 h2;have h3:=Qw (a:=a) (b:=b) h2;have e1:p.1=q.1:=by
   have z:=congrArg Prod.fst h1
   simp only at z
   injection z with z;injection z with z;simpa using congrArg iY z
  have e2:p.2=q.2:=Ju (congrArg Prod.snd h1);rw [h3,Prod.ext e1 e2]
theorem Qn {P:Program}{w:World}:∀{kvs:List (List Nat×List Nat)}{vs:List (Key×Value)}{l:List DictEntry},KV (a9 kvs) vs->Pairs (cZ P w) l vs->Paired vk kvs l
 | [],vs,l,r,p=>by
  unfold a9 KV at r;cases r;cases p;exact .nil
 |k::kvs,vs,l,r,p=>by
  unfold a9 KV at r;rw [bG] at r
  cases r with
  |cons h t=>
   cases p with
   |cons a b c=>
    refine .cons ⟨?_,?_⟩ (Qn t c)
    ·rw [← h.1] at a
     rcases kF (k:=.inr ⟨k.1.toArray⟩) a with ⟨i,u,z,_⟩ | ⟨x,u,z,e⟩
     ·exact nomatch z
     ·injection z with z; subst z; exact⟨u,e⟩
    ·obtain⟨u,e⟩:=h.2
     exact⟨u,b.trans e⟩
theorem M7:∀{kvs:List (List Nat×List Nat)},(kvs.map ((·.1) ∘ fun p=>((.inr ⟨p.1.toArray⟩:Key),S p.2))).Nodup->(kvs.map (·.1)).Nodup
 | [],_=>by simp
 |p::r,h=>by
  rw [bG,nU] at h ⊢;refine⟨fun m=>h.1 ?_,M7 h.2⟩;obtain⟨q,hq,e⟩:=df.mp m;exact df.mpr ⟨q,hq,by simp only [Function.comp]; rw [e]⟩
theorem HM {P:Program}{w:World}{H:Hp}{h:Heap}{a:Addr}{ob:Obj}{kvs:List (List Nat×List Nat)}(ok:cq P w H h)(e:H a=some (.bq ob (.dK (a9 kvs)))):dD h a kvs:=by
 obtain⟨_,_,na,vs,r,o,es,ep,g,x,d,_,pr,nd⟩:=ok a _ e;refine⟨na,o,es,ep,g,x,d,Qn r pr,?_⟩;rw [← KV.keys r] at nd;unfold a9 at nd;rw [my] at nd;exact M7 nd
theorem Inv.qh {X:Cx}{pins:List (Addr×Obj)}{σ:St}{H:Hp}{s:Shared}(I:Inv X pins σ H s){kvs:List (List Nat×List Nat)}{v:V}(h:Rep X.K H (.aj kvs) v):∃a,v=.ref a/\(∃o,H a=some (.bq o (.dK (a9 kvs))))/\dD s.heap a kvs:=by
 simp only [Rep] at h;obtain⟨a,ks,rfl,rfl,o,h2⟩:=h;exact⟨a,rfl,⟨o,h2⟩,HM I.ar h2⟩
theorem Inv.list_dict {X:Cx}{pins:List (Addr×Obj)}{σ:St}{H:Hp}{s:Shared}{a:Addr}{xs:List V}{o:Obj}{kvs:List (List Nat×List Nat)}(I:Inv X pins σ H s)(h:bP X.K H a xs)(h':H a=some (.bq o (.dK (a9 kvs)))):False:=by
 obtain⟨ak,r,p,_⟩:=I.list h;exact Zz (HM I.ar h') p.isList rfl
theorem Inv.tuple_dict {X:Cx}{pins:List (Addr×Obj)}{σ:St}{H:Hp}{s:Shared}{a:Addr}{xs:List V}{o:Obj}{kvs:List (List Nat×List Nat)}(I:Inv X pins σ H s)(h:cX X.K H a xs)(h':H a=some (.bq o (.dK (a9 kvs)))):False:=by
 obtain⟨ak,r,p,_⟩:=I.tuple h;exact Zy (HM I.ar h') p rfl
mutual
theorem Rep.inj {X:Cx}{pins:List (Addr×Obj)}{σ:St}{H:Hp}{s:Shared}(I:Inv X pins σ H s):∀{d e:Dt}{v:V},Rep X.K H d v->Rep X.K H e v->d=e
 |.aI,e,v,h,h'=>by
  simp only [Rep] at h;subst h
  cases e <;> simp only [Rep] at h' <;> first | rfl | (exfalso; first | exact nomatch h' | (obtain⟨_,_,z,_⟩:=h'; exact nomatch z))
 |.bl b,e,v,h,h'=>by
  simp only [Rep] at h;subst h
  cases e <;> simp only [Rep] at h' <;> first | (injection h' with h'; rw [h']) | (exfalso; first | exact nomatch h' | (obtain⟨_,_,z,_⟩:=h'; exact nomatch z))
 |.int i,e,v,h,h'=>by
  simp only [Rep] at h;subst h
  cases e <;> simp only [Rep] at h' <;> first | (injection h' with h'; rw [h']) | (exfalso; first | exact nomatch h' | (obtain⟨_,_,z,_⟩:=h'; exact nomatch z))
 |.str l,e,v,h,h'=>by
  simp only [Rep] at h;subst h
  cases e with
  |str l'=>simp only [Rep] at h'; rw [Ju h']
  |_=>simp only [Rep] at h'; exfalso; first | exact nomatch h' | (obtain⟨_,_,z,_⟩:=h'; exact nomatch z)
 |.tup ds,e,v,h,h'=>by
  simp only [Rep] at h;obtain⟨a,xs,rfl,h2,h3⟩:=h
  cases e with
  |tup es=>
   simp only [Rep] at h';obtain⟨b,ys,hb,h4,h5⟩:=h';cases hb;rw [I.C3 h2 h4] at h3;rw [av.inj I h3 h5]
  |lst es=>
   simp only [Rep] at h';obtain⟨b,ys,hb,h4,h5⟩:=h';cases hb;exact(I.list_tuple h4 h2).elim
  |aj kvs=>
   simp only [Rep] at h';obtain⟨b,ys,hb,rfl,o',h4⟩:=h';cases hb;exact(I.tuple_dict h2 h4).elim
  |_=>simp only [Rep] at h'; exfalso; exact nomatch h'
 |.lst ds,e,v,h,h'=>by
  simp only [Rep] at h;obtain⟨a,xs,rfl,h2,h3⟩:=h
  cases e with
  |lst es=>
   simp only [Rep] at h';obtain⟨b,ys,hb,h4,h5⟩:=h';cases hb;rw [I.Ff h2 h4] at h3;rw [av.inj I h3 h5]
  |tup es=>
   simp only [Rep] at h';obtain⟨b,ys,hb,h4,h5⟩:=h';cases hb;exact(I.list_tuple h2 h4).elim
  |aj kvs=>
   simp only [Rep] at h';obtain⟨b,ys,hb,rfl,o',h4⟩:=h';cases hb;exact(I.list_dict h2 h4).elim
  |_=>simp only [Rep] at h'; exfalso; exact nomatch h'
 |.aj kvs,e,v,h,h'=>by
  simp only [Rep] at h;obtain⟨a,xs,rfl,rfl,o,h2⟩:=h
  cases e with
  |lst es=>
   simp only [Rep] at h';obtain⟨b,ys,hb,h4,h5⟩:=h';cases hb;exact(I.list_dict h4 h2).elim
  |tup es=>
   simp only [Rep] at h';obtain⟨b,ys,hb,h4,h5⟩:=h';cases hb;exact(I.tuple_dict h4 h2).elim
  |aj ks=>
   simp only [Rep] at h';obtain⟨b,ys,hb,rfl,o',h4⟩:=h';cases hb;rw [h2] at h4;injection h4 with h4;injection h4 with _ h4;injection h4 with h4;rw [Qw h4]
  |_=>simp only [Rep] at h'; exfalso; exact nomatch h'
theorem av.inj {X:Cx}{pins:List (Addr×Obj)}{σ:St}{H:Hp}{s:Shared}(I:Inv X pins σ H s):∀{ds es:List Dt}{xs:List V},av X.K H ds xs->av X.K H es xs->ds=es
 | [],es,xs,h,h'=>by
  simp only [av] at h;subst h
  cases es with
  |nil=>rfl
  |cons e es=>simp only [av] at h'; obtain⟨_,_,z,_⟩:=h'; cases z
 |d::ds,es,xs,h,h'=>by
  simp only [av] at h;obtain⟨x,r,rfl,h2,h3⟩:=h
  cases es with
  |nil=>simp only [av] at h'; cases h'
  |cons e es=>
   simp only [av] at h';obtain⟨y,t,z,h4,h5⟩:=h';injection z with z1 z2;subst z1 z2;rw [Rep.inj I h2 h4,av.inj I h3 h5]
end
mutual
theorem rA:∀d:Dt,bV d d=true
 |.aI=>rfl
 |.bl b=>beq_self_eq_true b
 |.int b=>beq_self_eq_true b
 |.str b=>beq_self_eq_true b
 |.tup b=>rq b
 |.lst b=>rq b
 |.aj b=>(show (b==b || nC b b)=true by rw [beq_self_eq_true b]; rfl)
theorem rq:∀d:List Dt,ig d d=true
 | []=>rfl
 |a::r=>(show (bV a a&&ig r r)=true by rw [rA a,rq r]; rfl)
end
theorem xA:∀{a b:List Dt},a.length≠b.length->ig a b=false
 | [],[],h=>absurd rfl h
 | [],_::_,_=>rfl
 |_::_,[],_=>rfl
 |a::r,b::t,h=>by
  show (bV a b&&ig r t)=false;rw [xA (a:=r) (b:=t) (fun e=>h (congrArg Nat.succ e)),Bool.and_false]
theorem xB:∀(a b:List Dt),a.length=b.length->(fV a.length).all (fun i=>match a[i]?,b[i]? with | some x,some y=>bV x y | _,_=>true)=ig a b
 | [],[],_=>rfl
 |x::r,y::t,h=>by
  have ih:=xB r t (Nat.succ.inj h);show _=(bV x y&&ig r t);rw [eg,List.range_succ_eq_map,mz,List.all_map];rw [← ih]
  congr 1
theorem Dr (a b:List Nat):((⟨a.toArray⟩:Str) == ⟨b.toArray⟩)=(a==b):=by
 rw [ke];simp only [beq_iff_eq];constructor
 ·intro h
  injection h with h;simpa using congrArg iY h
 ·intro h; rw [h]
theorem QK {d:Dt}:∀{ds:List Dt},d∈ds->dep d<=e8 ds
 |e::ds,h=>by
  simp only [e8];rcases ba.mp h with h | h
  ·subst h; omega
  ·have:=QK h; omega
section
variable {X:Cx}{pins:List (Addr×Obj)}{σ:St}{H:Hp}{s:Shared}
theorem Inv.fK (I:Inv X pins σ H s){ds:List Dt}{v:V}(h:Rep X.K H (.lst ds) v):∃a xs,v=.ref a/\bP X.K H a xs/\av X.K H ds xs/\∃ak:List Value,Vals xs ak/\s.heap.IsList a ak.toArray:=by
 simp only [Rep] at h;obtain⟨a,xs,rfl,h2,h3⟩:=h;obtain⟨ak,r,p,_⟩:=I.list h2;exact⟨a,xs,rfl,h2,h3,ak,r,p.isList⟩
theorem Inv.iz (I:Inv X pins σ H s){ds:List Dt}{v:V}(h:Rep X.K H (.tup ds) v):∃a xs,v=.ref a/\cX X.K H a xs/\av X.K H ds xs/\∃ak:List Value,Vals xs ak/\s.heap.IsTuple a ak.toArray:=by
 simp only [Rep] at h;obtain⟨a,xs,rfl,h2,h3⟩:=h;obtain⟨ak,r,p,_⟩:=I.tuple h2;exact⟨a,xs,rfl,h2,h3,ak,r,p⟩
theorem Ai (A:Around)(I:Inv X pins σ H s){ds es:List Dt}{xs ys:List V}{us vs:List Value}(rx:av X.K H ds xs)(ry:av X.K H es ys)(ru:Vals xs us)(rv:Vals ys vs)
  (ih:∀d∈ds,∀e v w u t,Rep X.K H d v->Rep X.K H e w->RelV v u->RelV w t->mK A s u t (bV d e)) :
  ∀j (h1:j<us.toArray.size) (h2:j<vs.toArray.size),mK A s us.toArray[j] vs.toArray[j] ((fun i=>match ds[i]?,es[i]? with | some x,some y=>bV x y | _,_=>true) j):=by
 intro j h1 h2;have l0:j<us.length:=by simpa using h1
 have eZ:j<vs.length:=by simpa using h2
 have e1:=ru.length;have e2:=rv.length;have hx:j<xs.length:=by omega
 have hy:j<ys.length:=by omega
 obtain⟨d,hd,rd⟩:=rx.get (i:=j) (x:=xs[j]) (by simp [hx]);obtain⟨e,he,re⟩:=ry.get (i:=j) (x:=ys[j]) (by simp [hy]);obtain⟨u,hu,WE⟩:=ru.get (i:=j) (x:=xs[j]) (by simp [hx]);obtain⟨t,ht,WG⟩:=rv.get (i:=j) (x:=ys[j]) (by simp [hy]);have aP:us[j]=u:=by simpa [l0] using hu
 have F7:vs[j]=t:=by simpa [eZ] using ht
 have hm:d∈ds:=kg hd;simp only [hd,he,Cf,aP,F7];exact ih d hm e _ _ u t rd re WE WG
theorem Z8 (A:Around)(I:Inv X pins σ H s){a b:Addr}{ds es:List Dt}{xs ys:List V}{us vs:List Value}(rx:av X.K H ds xs)(ry:av X.K H es ys)(ru:Vals xs us)(rv:Vals ys vs)
  (pa:s.heap.IsList a us.toArray) (pb:s.heap.IsList b vs.toArray) (hu:A.units<cLine)
  (ih:∀d∈ds,∀e v w u t,Rep X.K H d v->Rep X.K H e w->RelV v u->RelV w t->mK A.in1 s u t (bV d e)):SeqAt.RcAt A s (.ref a) (.ref b) (bV (.lst ds) (.lst es)):=by
 have l1:=rx.length;have l2:=ry.length;have l3:=ru.length;have l4:=rv.length;show SeqAt.RcAt A s (.ref a) (.ref b) (ig ds es)
 by_cases hl:ds.length=es.length
 ·have z:=SeqAt.RcAt.lists pa pb (by simp; omega) hu (Ai A.in1 I rx ry ru rv ih)
  rw [show us.toArray.size=ds.length by simp; omega] at z;rw [xB ds es hl] at z;exact z
 ·have z:=SeqAt.RcAt.lists_lengths pa pb (by simp; omega) hu
  rw [xA hl];exact z
theorem Ug (A:Around)(I:Inv X pins σ H s){a b:Addr}{ds es:List Dt}{xs ys:List V}{us vs:List Value}(rx:av X.K H ds xs)(ry:av X.K H es ys)(ru:Vals xs us)(rv:Vals ys vs)
  (pa:s.heap.IsTuple a us.toArray) (pb:s.heap.IsTuple b vs.toArray) (hu:A.units<cLine)
  (ih:∀d∈ds,∀e v w u t,Rep X.K H d v->Rep X.K H e w->RelV v u->RelV w t->mK A.in1 s u t (bV d e)):SeqAt.RcAt A s (.ref a) (.ref b) (bV (.tup ds) (.tup es)):=by
 have l1:=rx.length;have l2:=ry.length;have l3:=ru.length;have l4:=rv.length;show SeqAt.RcAt A s (.ref a) (.ref b) (ig ds es);have z:=SeqAt.RcAt.tuples pa pb hu (Ai A.in1 I rx ry ru rv ih)
 by_cases hl:ds.length=es.length
 ·rw [show min us.toArray.size vs.toArray.size=ds.length by simp; omega,show (us.toArray.size==vs.toArray.size)=true by simp; omega,Bool.and_true] at z
  rw [xB ds es hl] at z;exact z
 ·rw [show (us.toArray.size==vs.toArray.size)=false by simp; omega,Bool.and_false] at z
  rw [xA hl];exact z
theorem Z9 (A:Around)(I:Inv X pins σ H s){a b:Addr}{ds es:List Dt}{xs ys:List V}{us vs:List Value}(rx:av X.K H ds xs)(ry:av X.K H es ys)(ru:Vals xs us)(rv:Vals ys vs)
  (pa:s.heap.IsList a us.toArray) (pb:s.heap.IsList b vs.toArray) (hu:A.units<cLine)
  (ih:∀d∈ds,∀e v w u t,Rep X.K H d v->Rep X.K H e w->RelV v u->RelV w t->mK A.in1 s u t (bV d e)):yk A s (.ref a) (.ref b) (!bV (.lst ds) (.lst es)):=by
 have l1:=rx.length;have l2:=ry.length;have l3:=ru.length;have l4:=rv.length;show yk A s (.ref a) (.ref b) (!ig ds es)
 by_cases hl:ds.length=es.length
 ·have z:=SeqAt.RcNeAt.lists pa pb (by simp; omega) hu (Ai A.in1 I rx ry ru rv ih)
  rw [show us.toArray.size=ds.length by simp; omega] at z;rw [xB ds es hl] at z;exact z
 ·have z:=SeqAt.RcNeAt.lists_lengths pa pb (by simp; omega) hu
  rw [xA hl];exact z
theorem Uh (A:Around)(I:Inv X pins σ H s){a b:Addr}{ds es:List Dt}{xs ys:List V}{us vs:List Value}(rx:av X.K H ds xs)(ry:av X.K H es ys)(ru:Vals xs us)(rv:Vals ys vs)
  (pa:s.heap.IsTuple a us.toArray) (pb:s.heap.IsTuple b vs.toArray) (hu:A.units<cLine)
  (ih:∀d∈ds,∀e v w u t,Rep X.K H d v->Rep X.K H e w->RelV v u->RelV w t->mK A.in1 s u t (bV d e)):yk A s (.ref a) (.ref b) (!bV (.tup ds) (.tup es)):=by
 have l1:=rx.length;have l2:=ry.length;have l3:=ru.length;have l4:=rv.length;show yk A s (.ref a) (.ref b) (!ig ds es);have z:=SeqAt.RcNeAt.tuples pa pb hu (Ai A.in1 I rx ry ru rv ih)
 by_cases hl:ds.length=es.length
 ·rw [show min us.toArray.size vs.toArray.size=ds.length by simp; omega,show (us.toArray.size==vs.toArray.size)=true by simp; omega,Bool.and_true] at z
  rw [xB ds es hl] at z;exact z
 ·rw [show (us.toArray.size==vs.toArray.size)=false by simp; omega,Bool.and_false] at z
  rw [xA hl];exact z
noncomputable def Sh (X:Cx)(H:Hp)(s:Shared)(u:Value):Dt->Prop
 |.aI=>u=.none
 |.bl b=>u=.bool b
 |.int i=>∃t,u=.int i t
 |.str l=>∃t,u=.str ⟨l.toArray⟩ t
 |.tup ds=>∃a xs ak,u=.ref a/\av X.K H ds xs/\Vals xs ak/\s.heap.IsTuple a ak.toArray
 |.lst ds=>∃a xs ak,u=.ref a/\av X.K H ds xs/\Vals xs ak/\s.heap.IsList a ak.toArray
 |.aj ks=>∃a,u=.ref a/\dD s.heap a ks
theorem Lq (I:Inv X pins σ H s){d:Dt}{v:V}{u:Value}(h:Rep X.K H d v)(r:RelV v u):Sh X H s u d:=by
 cases d with
 |tup ds=>
  obtain⟨a,xs,rfl,_,q,ak,v1,p⟩:=I.iz h;cases r;exact⟨a,xs,ak,rfl,q,v1,p⟩
 |lst ds=>
  obtain⟨a,xs,rfl,_,q,ak,v1,p⟩:=I.fK h;cases r;exact⟨a,xs,ak,rfl,q,v1,p⟩
 |aj ks=>
  obtain⟨a,rfl,_,p⟩:=I.qh h;cases r;exact⟨a,rfl,p⟩
 |_=>
  simp only [Rep] at h;subst h
  first
   |exact r
   | (cases r; rfl)
theorem afG {A:Around}(I:Inv X pins σ H s){d e:Dt}{v w:V}{u t:Value}(h:Rep X.K H d v)(h':Rep X.K H e w)(r:RelV v u)(r':RelV w t)(aP:A.units<cLine)
  (it:∀{ds:List Dt},(d=.lst ds∨d=.tup ds)->∀d'∈ds,∀e v w u t,Rep X.K H d' v->Rep X.K H e w->RelV v u->RelV w t->mK A.in1 s u t (bV d' e)):Al A s u t (bV d e):=by
 have nj:v=w->bV d e=true:=fun z=>by
  subst z;rw [Rep.inj I h h',rA]
 have rr:∀{a:Addr},u=.ref a->t=.ref a->v=w:=fun e1 e2=>by
  subst e1 e2
  cases v <;> cases w <;> simp [RelV] at r r' ⊢
  exact r.symm.trans r'
 have s1:=Lq I h r;have s2:=Lq I h' r'
 cases d with
 |aI=>
  obtain rfl:=s1
  cases e with
  |aI=>obtain rfl:=s2; exact⟨.same _,.none_none,.none_none⟩
  |bl b2=>obtain rfl:=s2; exact⟨.none_bool _,.none_bool _,.none_bool _⟩
  |int i2=>obtain⟨t2,rfl⟩:=s2; exact⟨.none_int _ _,.none_int _ _,.none_int _ _⟩
  |str lb=>obtain⟨t2,rfl⟩:=s2; exact⟨.none_str _ _,.none_str _ _,.none_str _ _⟩
  |tup es=>obtain⟨_,_,_,rfl,_,_,p⟩:=s2; exact⟨.none_tuple p aP,.none_tuple p aP,.none_tuple p aP⟩
  |lst es=>obtain⟨_,_,_,rfl,_,_,p⟩:=s2; exact⟨.none_list p aP,.none_list p aP,.none_list p aP⟩
  |aj kb=>obtain⟨_,rfl,p⟩:=s2; exact(QR p aP).2
 |bl b1=>
  obtain rfl:=s1
  cases e with
  |aI=>obtain rfl:=s2; exact⟨.bool_none _,.bool_none _,.bool_none _⟩
  |bl b2=>obtain rfl:=s2; exact⟨.bool_bool _ _,.bool_bool _ _,.bool_bool _ _⟩
  |int i2=>obtain⟨t2,rfl⟩:=s2; exact⟨.bool_int _ _ _,.bool_int _ _ _,.bool_int _ _ _⟩
  |str lb=>obtain⟨t2,rfl⟩:=s2; exact⟨.bool_str _ _ _,.bool_str _ _ _,.bool_str _ _ _⟩
  |tup es=>obtain⟨_,_,_,rfl,_,_,p⟩:=s2; exact⟨.bool_tuple _ p aP,.bool_tuple _ p aP,.bool_tuple _ p aP⟩
  |lst es=>obtain⟨_,_,_,rfl,_,_,p⟩:=s2; exact⟨.bool_list _ p aP,.bool_list _ p aP,.bool_list _ p aP⟩
  |aj kb=>obtain⟨_,rfl,p⟩:=s2; exact(QU _ p aP).2
 |int i1=>
  obtain⟨t1,rfl⟩:=s1
  cases e with
  |aI=>obtain rfl:=s2; exact⟨.int_none _ _,.int_none _ _,.int_none _ _⟩
  |bl b2=>obtain rfl:=s2; exact⟨.int_bool _ _ _,.int_bool _ _ _,.int_bool _ _ _⟩
  |int i2=>obtain⟨t2,rfl⟩:=s2; exact⟨.int_int _ _ _ _,.int_int _ _ _ _,.int_int _ _ _ _⟩
  |str lb=>obtain⟨t2,rfl⟩:=s2; exact⟨.int_str _ _ _ _,.int_str _ _ _ _,.int_str _ _ _ _⟩
  |tup es=>obtain⟨_,_,_,rfl,_,_,p⟩:=s2; exact⟨.int_tuple _ _ p aP,.int_tuple _ _ p aP,.int_tuple _ _ p aP⟩
  |lst es=>obtain⟨_,_,_,rfl,_,_,p⟩:=s2; exact⟨.int_list _ _ p aP,.int_list _ _ p aP,.int_list _ _ p aP⟩
  |aj kb=>obtain⟨_,rfl,p⟩:=s2; exact(QT _ _ p aP).2
 |str la=>
  obtain⟨t1,rfl⟩:=s1
  cases e with
  |aI=>obtain rfl:=s2; exact⟨.str_none _ _,.str_none _ _,.str_none _ _⟩
  |bl b2=>obtain rfl:=s2; exact⟨.str_bool _ _ _,.str_bool _ _ _,.str_bool _ _ _⟩
  |int i2=>obtain⟨t2,rfl⟩:=s2; exact⟨.str_int _ _ _ _,.str_int _ _ _ _,.str_int _ _ _ _⟩
  |str lb=>
   obtain⟨t2,rfl⟩:=s2;show Al A s _ _ (la==lb);rw [← Dr];exact⟨.str_str _ _ _ _,.str_str _ _ _ _,.str_str _ _ _ _⟩
  |tup es=>obtain⟨_,_,_,rfl,_,_,p⟩:=s2; exact⟨.str_tuple _ _ p aP,.str_tuple _ _ p aP,.str_tuple _ _ p aP⟩
  |lst es=>obtain⟨_,_,_,rfl,_,_,p⟩:=s2; exact⟨.str_list _ _ p aP,.str_list _ _ p aP,.str_list _ _ p aP⟩
  |aj kb=>obtain⟨_,rfl,p⟩:=s2; exact(QP _ _ p aP).2
 |tup ds=>
  obtain⟨a1,_,_,rfl,q1,v1,p⟩:=s1
  cases e with
  |aI=>obtain rfl:=s2; exact⟨.tuple_none p aP,.tuple_none p aP,.tuple_none p aP⟩
  |bl b2=>obtain rfl:=s2; exact⟨.tuple_bool _ p aP,.tuple_bool _ p aP,.tuple_bool _ p aP⟩
  |int i2=>obtain⟨t2,rfl⟩:=s2; exact⟨.tuple_int _ _ p aP,.tuple_int _ _ p aP,.tuple_int _ _ p aP⟩
  |str lb=>obtain⟨t2,rfl⟩:=s2; exact⟨.tuple_str _ _ p aP,.tuple_str _ _ p aP,.tuple_str _ _ p aP⟩
  |tup es=>
   obtain⟨a2,_,_,rfl,q2,v2,p2⟩:=s2;have R:=Ug A I q1 q2 v1 v2 p p2 aP (it (.inr rfl));refine⟨?_,R,Uh A I q1 q2 v1 v2 p p2 aP (it (.inr rfl))⟩
   by_cases ia:a1=a2
   ·subst ia; rw [nj (rr rfl rfl)]; exact .same _
   ·exact .of_refs ia R
  |lst es=>obtain⟨a2,_,_,rfl,q2,v2,p2⟩:=s2; exact⟨.tuple_list p p2 aP,.tuple_list p p2 aP,.tuple_list p p2 aP⟩
  |aj kb=>obtain⟨a2,rfl,p2⟩:=s2; exact(QO p2 p aP).2
 |lst ds=>
  obtain⟨a1,_,_,rfl,q1,v1,p⟩:=s1
  cases e with
  |aI=>obtain rfl:=s2; exact⟨.list_none p aP,.list_none p aP,.list_none p aP⟩
  |bl b2=>obtain rfl:=s2; exact⟨.list_bool _ p aP,.list_bool _ p aP,.list_bool _ p aP⟩
  |int i2=>obtain⟨t2,rfl⟩:=s2; exact⟨.list_int _ _ p aP,.list_int _ _ p aP,.list_int _ _ p aP⟩
  |str lb=>obtain⟨t2,rfl⟩:=s2; exact⟨.list_str _ _ p aP,.list_str _ _ p aP,.list_str _ _ p aP⟩
  |tup es=>obtain⟨a2,_,_,rfl,q2,v2,p2⟩:=s2; exact⟨.list_tuple p p2 aP,.list_tuple p p2 aP,.list_tuple p p2 aP⟩
  |lst es=>
   obtain⟨a2,_,_,rfl,q2,v2,p2⟩:=s2;have R:=Z8 A I q1 q2 v1 v2 p p2 aP (it (.inl rfl));refine⟨?_,R,Z9 A I q1 q2 v1 v2 p p2 aP (it (.inl rfl))⟩
   by_cases ia:a1=a2
   ·subst ia; rw [nj (rr rfl rfl)]; exact .same _
   ·exact .of_refs ia R
  |aj kb=>obtain⟨a2,rfl,p2⟩:=s2; exact(QS p2 p aP).2
 |aj ka=>
  obtain⟨a1,rfl,p⟩:=s1
  cases e with
  |aI=>obtain rfl:=s2; exact(QR p aP).1
  |bl b2=>obtain rfl:=s2; exact(QU _ p aP).1
  |int i2=>obtain⟨t2,rfl⟩:=s2; exact(QT _ _ p aP).1
  |str lb=>obtain⟨t2,rfl⟩:=s2; exact(QP _ _ p aP).1
  |tup es=>obtain⟨a2,_,_,rfl,q2,v2,p2⟩:=s2; exact(QO p p2 aP).1
  |lst es=>obtain⟨a2,_,_,rfl,q2,v2,p2⟩:=s2; exact(QS p p2 aP).1
  |aj kb=>
   obtain⟨a2,rfl,p2⟩:=s2;refine⟨?_,LN p p2 aP,WQ p p2 aP⟩
   by_cases ia:a1=a2
   ·subst ia; rw [nj (rr rfl rfl)]; exact .same _
   ·exact .of_refs ia (LN p p2 aP)
theorem Iy {A:Around}(I:Inv X pins σ H s)(d e:Dt)(v w:V)(u t:Value)(h:Rep X.K H d v)(h':Rep X.K H e w)(r:RelV v u)(r':RelV w t)(hu:A.units+dep d<cLine):Al A s u t (bV d e):=
 afG I h h' r r' (by omega) fun {ds} jV d' hd e v w u t hv hw rv dW=>
  have hsz:sizeOf d'<sizeOf d:=by
   have:=List.sizeOf_lt_of_mem hd;rcases jV with z | z <;> rw [z] <;> simp <;> omega
  (Iy (A:=A.in1) I d' e v w u t hv hw rv dW (by
   have:=QK hd;rcases jV with z | z <;> rw [z] at hu <;> simp only [dep] at hu <;> (show A.units+1+dep d'<cLine) <;> omega)).1
termination_by sizeOf d
decreasing_by exact hsz
end
section
variable {X:Cx}
noncomputable def W2 (K:ah):R2:=fun x y H Q=>∃d e,Rep K H d x/\Rep K H e y/\dep d<=50/\Q (.bl (bV d e)) H
noncomputable def WV (K:ah):R2:=fun x y H Q=>∃d e,Rep K H d x/\Rep K H e y/\dep d<=50/\Q (.bl (!bV d e)) H
theorem Yl (hu:X.A.units+50<cLine):cb X (compareOp .Eq) (W2 X.K):=by
 intro pins s σ H x y v u Q I rx ry ⟨d,e,hd,he,hp,q⟩;exact(Iy I d e x y v u hd he rx ry (by omega)).2.1 X.prog X.w X.xe _ (fun ht=>⟨.bl _,H,I,rfl,q⟩)
theorem Ya (hu:X.A.units+50<cLine):cb X (compareOp .NotEq) (WV X.K):=by
 intro pins s σ H x y v u Q I rx ry ⟨d,e,hd,he,hp,q⟩;exact(Iy I d e x y v u hd he rx ry (by omega)).2.2 X.prog X.w X.xe _ (fun ht=>⟨.bl _,H,I,rfl,q⟩)
theorem bb {A:Around}{k:Nat}(hr:bF k A):A.units+50<cLine:=by have:=hr.un; omega
end
noncomputable def uY (ns:List Int)(k:Int):Int:=
 if k<ns.length then ns.getD k.toNat 0 else if ns=[] then 0 else ns.getD (k % (ns.length:Int)).toNat 0 * 31+k
noncomputable def md (ns:List Int)(k:Int):Int:=(uY ns k+6151 * (k+1)) * 40692 % 2147483399
noncomputable def bL (ns:List Int)(k many:Int):Int:=(md ns k * md ns k+md ns k / 31) % 2147483629 % many
theorem mY (ns:List Int)(k:Int){many:Int}(h:0<many):0<=bL ns k many:=yt _ (by omega)
theorem mZ (ns:List Int)(k:Int){many:Int}(h:0<many):bL ns k many<many:=yD _ h
noncomputable def i8 (ns:List Int)(k:Int)(sg:List Nat):Nat:=sg.getD (bL ns k sg.length).toNat 0
theorem v5 (ns:List Int)(k:Int){sg:List Nat}(h:sg≠[]):i8 ns k sg∈sg:=by
 have hp:0<(sg.length:Int):=by
  have:=mH.mpr h;omega
 have h1:=mY ns k hp;have h2:=mZ ns k hp;unfold i8;have aR:(bL ns k sg.length).toNat<sg.length:=by omega
 rw [yi,mI aR,r9];exact yw aR
theorem DA (ns:List Int)(k:Int){sg:List Nat}(h:sg≠[]):iR sg (bL ns k sg.length)=some (i8 ns k sg):=by
 have hp:0<(sg.length:Int):=by
  have:=mH.mpr h;omega
 have h1:=mY ns k hp;have h2:=mZ ns k hp;have aR:(bL ns k sg.length).toNat<sg.length:=by omega
 have e:bL ns k sg.length=((bL ns k sg.length).toNat:Int):=by omega
 rw [e];refine afC ?_;unfold i8;rw [yi,mI aR,r9]
noncomputable def dF (ns:List Int)(a:Int)(sg:List Nat):Nat->List Nat
 |0=>[i8 ns a sg]
 |k+1=>if bL ns (a+2 * ((k:Int)+1)) 2=0 then dF ns a sg k++[(dF ns a sg k).getLastD 0] else dF ns a sg k++[i8 ns (a+2 * ((k:Int)+1)+1) sg]
noncomputable def pO (ns:List Int)(a many:Int)(sg:List Nat):List Nat:=dF ns a sg (many - 1).toNat
theorem pN (ns:List Int)(a:Int)(sg:List Nat):∀k,(dF ns a sg k).length=k+1
 |0=>rfl
 |k+1=>by
  unfold dF
  split <;> simp [pN ns a sg k]
theorem vI (ns:List Int)(a:Int){sg:List Nat}(h:sg≠[]):∀k,∀c∈dF ns a sg k,c∈sg
 |0=>by
  intro c hc;simp [dF] at hc;rw [hc];exact v5 ns a h
 |k+1=>by
  intro c hc;have ih:=vI ns a h k;unfold dF at hc
  split at hc
  ·rcases eC.mp hc with hc | hc
   ·exact ih c hc
   ·simp only [jv] at hc
    have bN:dF ns a sg k≠[]:=by
     intro z;have:=pN ns a sg k;rw [z] at this;simp at this
    rw [hc,Co,List.getLast?_eq_some_getLast bN,r9];exact ih _ (List.getLast_mem bN)
  ·rcases eC.mp hc with hc | hc
   ·exact ih c hc
   ·simp only [jv] at hc
    rw [hc];exact v5 ns _ h
theorem Kf (ns:List Int)(a many:Int){sg:List Nat}(h:sg≠[]):∀c∈pO ns a many sg,c∈sg:=vI ns a h _
section
variable (K:ah)
noncomputable abbrev Scr (H:Hp)(a:Addr)(ns:List Int):Prop:=bP K H a (ns.map V.int)/\ns.length<=63
end
theorem aw.upd {H:Hp}{a:Addr}{o:HO}(h:H a=none):aw H (L2.upd H a o):=fun b u e=>by rw [aF (cH e h)]; exact e
theorem big (n:Nat)(h:n<=10000:=by omega):n<=sizeLine:=c9 h (by decide)
theorem LF {K:ah}{H:Hp}:∀ns:List Int,av K H (ns.map Dt.int) (ns.map V.int)
 | []=>.nil
 |n::ns=>.cons ek (LF ns)
theorem WK {K:ah}{H:Hp}{a:Addr}{ns:List Int}(h:bP K H a (ns.map V.int)):Rep K H (.lst (ns.map Dt.int)) (.ref a):=by
 simp only [Rep];exact⟨a,_,rfl,h,LF ns⟩
theorem Qj (ns:List Int):bV (.lst (ns.map Dt.int)) (.lst [])=decide (ns=[]):=by
 cases ns <;> rfl
noncomputable def isStar:Expr->Bool
 |.Starred ..=>true
 |_=>false
theorem jG {e:Expr}{es:List Expr}{env:Env}(h:isStar e=false):starEach (e::es) env=(false,eval e env)::starEach es env:=by
 cases e <;> first | rfl | exact absurd h (by simp [isStar])
theorem bh (X:Cx)(e:Expr)(es:List Expr)(te:TE)(t:TA)(h:isStar e=false)(ha:PE X e te)(hr:PA X es t):PA X (e::es) (mP te t):=XN ha hr (jG h)
end L2
namespace L2
open PySem PySem.Spec PyProof.Rows PySem.W
section
variable {prog:Program}{w:World}{A:Around}{E:Value->Shared->Prop}{s:Shared}{K:ah}{x C:Addr}{ox:Obj}
structure rM (K:ah) (C:Addr):Prop where
 cls:(clsIn K C).isSome=true
 ga:findIn K (.ref C) "__getattribute__" = some (some (.builtin "BaseException.__getattribute__"))
 na:findIn K (.ref C) "__getattr__" = some none
 ca:findIn K (.ref C) "__class__" = some (some (.builtin "object.__class__"))
 get:specialIn K (.builtin "object.__class__") "__get__" = some (some (.builtin "getset_descriptor.__get__"))
 tk:takesIn K (.builtin "object.__class__")=some true
 ob:mroIn K C (.type "object")=some true
 be:mroIn K C (.type "BaseException")=some true
noncomputable def ExcAt (h:Heap)(x C:Addr):Prop:=∃ox,h.get? x=some ox/\ox.cls=.ref C
theorem ExcAt.type {M:Model}{h:Heap}(I:ExcAt h x C):Looks M h (typeOf (.ref x)) (.ref C):=by
 obtain⟨ox,e,c⟩:=I;exact c ▸ (Looks.ld e).andThen .now
theorem adn {M:Model}{h:Heap}(Z:rM K C)(X:K.In h):Looks M h (J5 (.ref x) (.ref C) "__class__") (.bind (.builtin "getset_descriptor.__get__") (.builtin "object.__class__")):=by
 have L1:=looks_findIn (M:=M) X Z.ca;have L2:Looks M h (Builtin.ObjectAttr.getOf (some (.builtin "object.__class__"))) (some (.builtin "getset_descriptor.__get__")):=looks_specialIn X Z.get
 unfold J5;refine L1.andThen (L2.andThen ?_);have L3:=looks_takesIn (M:=M) X Z.tk;exact(show Looks M h (Builtin.ObjectAttr.dataDescriptor? (some (.builtin "object.__class__")) (some (.builtin "getset_descriptor.__get__"))) (some ((.builtin "getset_descriptor.__get__"),(.builtin "object.__class__"))) from L3.andThen .now).andThen (Looks.tag .now)
theorem adm {R:Result->Shared->Prop}{tp:Value}(Z:rM K C)(X:K.In s.heap)(I:ExcAt s.heap x C)
  (h:R (.ok (.ret (.ref C))) s):codeAny (model prog w) A (.call (.builtin "getset_descriptor.__get__") ⟨[.builtin "object.__class__",.ref x,tp],[]⟩) R s:=by
 obtain⟨hh,g,dr,t,os⟩:=s;have L0:=I.type (M:=model prog w);have L1:=looks_mroIn (M:=model prog w) X Z.ob;refine codeAny_call_builtin KF.slot_gs.plain KF.entry_gs (KF.slot_gs.check _ _ _ _ _ _ _ _ KF.type_class (KF.args_gs _ _ _) ?_);unfold Builtin.«getset_descriptor.__get__» Builtin.Getset_descriptor.descrGet;rw [dga_obj];refine wpAny_bind (wpAny_pure ?_);unfold Builtin.Getset_descriptor.descrGetter Builtin.Getset_descriptor.descrCheckInstance Builtin.Getset_descriptor.descrNameAndClass isInstance;simp only [KF.owner_class]
 repeat lk
 refine⟨Code.quiet_builtin _ (by decide +kernel),codeAny_builtin KF.entry_class ?_⟩;unfold Builtin.«object.__class__» shownTypeOf
 repeat lk
 exact h
theorem adp {M9:Value}{M:Model}{Q:Unit->Shared->Prop}(Z:rM K C)(X:K.In s.heap)(I:ExcAt s.heap x C)(hq:Q () s):wpAny M A (checkBuiltinCall "BaseException.__getattribute__" ⟨[.ref x,M9],[]⟩) Q E s:=by
 have hk:builtinKind "BaseException.__getattribute__" = some .slot:=by decide +kernel
 have abm:splitId "BaseException.__getattribute__" = some ("BaseException","__getattribute__"):=by decide +kernel
 have L0:=I.type (M:=M);have L1:=looks_mroIn (M:=M) X Z.be;have ha:=F.args_bexc_ga (.ref x) M9;simp only [checkBuiltinCall,hk,abm];refine wpAny_bind ?_;unfold isInstance;refine wpAny_bind (L0.at (L1.at ?_))
 repeat (first | wp_step)
 exact hq
theorem ado {Q:Option Value->Shared->Prop}(Z:rM K C)(X:K.In s.heap)(I:ExcAt s.heap x C)(h:Q (some (.ref C)) {s with toks:=s.toks+1}):wpAny (model prog w) A (getAttr? (.ref x) "__class__") Q E s:=by
 have L0:=I.type (M:=model prog w);have L1:=looks_findIn (M:=model prog w) X Z.ga;have L2:=looks_findIn (M:=model prog w) X Z.na;have L3:=adn (M:=model prog w) (x:=x) Z X;unfold getAttr? getAttrBy? getAttrBy;refine wpAny_bind (wpAny_mkText (wpAny_bind (wpAny_attempt (wpAny_holding (wpAny_bind (L0.at (wpAny_bind (L1.at ?_))))))));have hx2:(rY "BaseException.__getattribute__" == rY "object.__getattribute__")=false:=by decide +kernel
 have hx1:(onTheHeap (bI C)&&rY "BaseException.__getattribute__" == rY "object.__getattribute__")=false:=by rw [hx2]; rfl
 show wpAny _ _ (if (onTheHeap (bI C)&&rY "BaseException.__getattribute__" == rY "object.__getattribute__")=true then _ else _) _ _ _
 rw [hx1,if_neg (by decide)];unfold getAttrByItsOwn hookBefore;rw [show onTheHeap (bI C)=true from rfl,if_pos rfl];refine wpAny_bind (L2.at ?_);refine wpAny_bind (wpAny_attempt (wpAny_holding ?_));unfold callGetattribute;rw [if_neg (by decide)];unfold boundAndCalled;refine wpAny_bind (wpAny_of_eq (F.attr_ValueError.ga.bind (.ref x)) ?_);refine wpAny_call (codeAny_call_builtin F.attr_ValueError.ga.plain F.entry_bexc_ga (adp (s:={s with toks:=s.toks+1}) Z X I ?_));unfold Builtin.«object.__getattribute__»;refine wpAny_bind (wpAny_pure ?_);refine wpAny_bind (wpAny_pure (wpAny_bind (L0.at (wpAny_bind (L3.at ?_)))));show wpAny _ _ (J6 (.builtin "getset_descriptor.__get__") (.builtin "object.__class__") (.ref x) (.ref C)) _ _ _
 unfold J6;show wpAny _ _ (holding [.builtin "object.__class__"] (call (.builtin "getset_descriptor.__get__") [.builtin "object.__class__",.ref x,.ref C]) >>= fun v=>ret v) _ _ _
 refine wpAny_bind (wpAny_holding (wpAny_call (adm (s:={s with toks:=s.toks+1}) Z X I ?_)));exact wpAny_pure (handed_on rfl (wpAny_pure h))
theorem aaq (Z:rM K C):KitX K (.ref x) (.ref C) (fun h=>ExcAt h x C) where
 ty:=fun _ _ _ I=>I.type
 it:=fun _ _ X _=>by
  obtain⟨cd,hc⟩:=i0.mp Z.cls;unfold clsIn at hc
  split at hc
  ·rename_i c' d' cd' dQ ho
   intro A' Q' E' s' k q;unfold isType loadHead;exact wpAny_bind (wpAny_loadPart (k _ _ (X _ _ ho)) (wpAny_pure q))
  ·cases hc
 ne:=fun h tp dd ak n sl X htp=>by
  obtain⟨cd,hc⟩:=i0.mp Z.cls;refine Bool.eq_false_iff.mpr fun q=>?_;have e:C=tp:=Value.ref.inj (beq_iff_eq.mp q);subst e;unfold clsIn at hc
  split at hc
  ·rename_i c' d' cd' dQ ho
   have z:=(X _ _ ho).symm.trans htp;cases z
  ·cases hc
 ca:=fun X I k=>ado Z X I k
end
noncomputable def um (C a:Addr):HO:=.ext fun h=>ExcAt h a C
section
variable {X:Cx}
theorem nF:fi X (.builtin "isinstance") (fun xs H Q=>∃a C D b,xs=[.ref a,D]/\H a=some (um C a)/\rM X.K C/\(∀u,RelV D u->kitOne X.K (.ref C) u=some b)/\Q (.bl b) H):=by
 intro pins s σ H xs us Q I r ⟨a,C,D,b,e,hH,Z,hb,q⟩;subst e;obtain⟨u,t,rfl,ru,rt⟩:=r.two;cases ru;have hI:ExcAt s.heap a C:=(I.ar a _ hH).1;exact kia_one (aaq (x:=a) Z) I.eL hI (hb t rt) (by intro z; cases z) fun tk=>(fun ht=>⟨.bl b,H,I.tok tk,rfl,q⟩)
end
theorem c8.there {P:Program}{w:World}{H:Hp}{h:Heap}{a:Addr}{o:HO}(x:c8 P w H h a o):∃ob,h.get? a=some ob:=by
 cases o with
 |lst xs=>obtain⟨_,_,_,_,e⟩:=x; exact⟨_,e⟩
 |tup xs=>obtain⟨_,_,_,ob,e,_⟩:=x; exact⟨_,e⟩
 |dK kvs=>obtain⟨_,_,_,_,o,_,_,e,_⟩:=x; exact⟨_,e⟩
 |dT kvs=>obtain⟨_,_,_,_,o,_,_,e,_⟩:=x; exact⟨_,e⟩
 |set S n=>obtain⟨o,_,_,_,e,_⟩:=x; exact⟨_,e⟩
 |ins C dx fs=>obtain⟨_,_,_,e,_⟩:=x; exact⟨_,e⟩
 |own y=>exact x
 |xd fs=>obtain⟨_,⟨_,_,_,e,_⟩,_⟩:=x; exact⟨_,e⟩
 |zo lo hi=>obtain⟨_,_,_,e⟩:=x; exact⟨_,e⟩
 |bq ob u=>obtain⟨e,_⟩:=x; exact⟨_,e⟩
 |du q=>obtain⟨ps,e,_⟩:=x; exact⟨_,e⟩
 |met f y=>exact⟨_,(show h.get? a=some _ from x)⟩
 |ext φ=>exact x.2.1
inductive aG (P:Program) (w:World) (outer:List Env) (H:Hp) (s:Shared) (E:XK) (e:Value) (s':Shared):Prop
 |mk (ea C:Addr) (H':Hp) (B:Heap) (a0:Value) (h1:e=.ref ea) (h2:s'.os=s.os) (h3:AllBare s'.gens) (h4:pI B outer ea (.ref C) a0 s'.heap) (h5:cq P w H' B) (h6:Un (aE outer) [] H H' s.heap s'.heap)
  (h7:∀b o,s.heap.get? b=some o->H b=none->b∉aE outer->B.get? b=some o) (h8:∀b o,s.heap.get? b=some o->b∉aE outer->∃o',B.get? b=some o') (h9:H' ea=none) (o3:E (.ref C) none H'):aG P w outer H s E e s'
structure Rz (X:Cx) (E:XK):Prop where
 made:∀(pins:List (Addr×Obj)) (σ:St) (H:Hp) (s:Shared) (h':Heap) (e C:Addr) (vs:List Value),Inv X pins σ H s->Heap.MadeExcOf s.heap h' e (.ref C) vs->E (.ref C) none H->X.xe (.ref e) {s with heap:=h'}
 pass:Passes (aG X.prog X.w) X E
section
variable {P:Program}{w:World}{K:ah}{mg:Str->Option Value}{base:Heap}{N:List Str}{qual:Str}{scope:Scope}{f:Addr}{cd:Value}{A:Around}{outer:List Env}{aH:Shared}{aY:Hp}{E:XK}
theorem D7:Rz (cg (aG P w) P w K mg base N qual scope f cd A outer aH aY E) E where
 made:=by
  intro pins σ H s h' e C vs I hx hE;have cV:=I.ok.frames;have hF:=I.stack;have xk:∀env∈(cg (aG P w) P w K mg base N qual scope f cd A outer aH aY E).stack,∀b,env.frame=some b->b∈aE (cg (aG P w) P w K mg base N qual scope f cd A outer aH aY E).stack:=fun env he b hb=>yB.mpr ⟨env,he,hb⟩;refine wpAny_leaves_madeW (base:=hideAll s.heap (aE (cg (aG P w) P w K mg base N qual scope f cd A outer aH aY E).stack)) (h:=s.heap) cV rfl (fun b o q=>of_hideAll _ q) (funFrames_hide hF xk) hx fun iG t fl _ _ up=>?_;have lN:∀b o,s.heap.get? b=some o->b∉aE (cg (aG P w) P w K mg base N qual scope f cd A outer aH aY E).stack->(hideAll s.heap (aE (cg (aG P w) P w K mg base N qual scope f cd A outer aH aY E).stack)).get? b=some o:=fun b o q hb=>hideAll_get _ q hb;have old:∀b o,aH.heap.get? b=some o->b∉aE outer->b∉aE (cg (aG P w) P w K mg base N qual scope f cd A outer aH aY E).stack:=fun b o q hb z=>by
   rcases ba.mp (I.jE b z) with e | e
   ·exact absurd (aV q) (by have:=I.ok.above; rw [e]; exact mJ.mpr this)
   ·exact hb e
  have bM:∀b:Addr,b∉(cg (aG P w) P w K mg base N qual scope f cd A outer aH aY E).ex:=fun b z=>nomatch z
  have kG:∀b o,aH.heap.get? b=some o->aY b=none->b∉aE outer->(hideAll s.heap (aE (cg (aG P w) P w K mg base N qual scope f cd A outer aH aY E).stack)).get? b=some o:=fun b o q n hb=>lN b o (I.base.keep b o q n hb (bM b)) (old b o q hb);have kl:∀b o,aH.heap.get? b=some o->b∉aE outer->∃o',(hideAll s.heap (aE (cg (aG P w) P w K mg base N qual scope f cd A outer aH aY E).stack)).get? b=some o':=fun b o q hb=>by
   obtain⟨o',q'⟩:=I.base.there b o q (bM b);exact⟨o',lN b o' q' (old b o q hb)⟩
  have ku:∀b o,aH.heap.get? b=some o->aY b=none->b∈aE outer->∃sl,iG.get? b=some {o with slots:=sl}:=fun b o q n hb=>by
   obtain⟨sl,q'⟩:=I.base.slot b o q n hb (bM b);obtain⟨_,o2,q2,nf⟩:=I.ok.en.mem hb;have gL:aH.heap.get? b=some o2:=q2;rw [q] at gL;cases gL;obtain⟨dQ,q3⟩:=up b _ (hx.keeps b _ q') (by intro vs z; exact nf vs z);exact⟨dQ,q3⟩
  refine⟨e,C,H,_,_,rfl,I.os,I.bare,fl,fun a o q=>?_,⟨fun b o q n hb _=>fl.1 b o (kG b o q n hb),fun b o q n hb _=>ku b o q n hb,fun b o q n _=>I.base.free b o q n (bM b),fun b o q _=>?_,I.base.eD,I.base.d6,I.base.dH⟩,kG,kl,?_,hE⟩
  ·have na:∀b u,H b=some u->b∉aE (cg (aG P w) P w K mg base N qual scope f cd A outer aH aY E).stack:=fun b u q z=>by
    have:=I.vW b z;rw [q] at this;cases this
   refine(I.ar a o q).iu (fun c u hc r=>lN c u r ?_) (fun _ z=>z) fun _ _ z=>z;rcases hc with rfl | hc
   ·exact na _ _ q
   ·exact na _ _ hc
  ·by_cases hb:b∈aE outer
   ·have hn:aY b=none:=I.ok.gq b hb
    obtain⟨sl,q'⟩:=ku b o q hn hb;exact⟨_,q'⟩
   ·obtain⟨o',q'⟩:=kl b o q hb
    exact⟨o',fl.1 b o' q'⟩
  ·cases q:H e with
   |none=>rfl
   |some u=>
    obtain⟨ob,z⟩:=(I.ar e u q).there;rw [hx.new] at z;cases z
 pass:=by
  intro pins σ H s e s' I hc;obtain⟨ea,C,H',B,a0,rfl,nh,hb,fl,ar,un,kH,mM,gj,hE⟩:=hc;have cV:=I.ok.frames;refine wpAny_leaves_onW cV rfl fl fun iG jh up=>?_;have old:∀b o,aH.heap.get? b=some o->b∉aE outer->b∉aE (cg (aG P w) P w K mg base N qual scope f cd A outer aH aY E).stack:=fun b o q hb z=>by
   rcases ba.mp (I.jE b z) with e | e
   ·exact absurd (aV q) (by have:=I.ok.above; rw [e]; exact mJ.mpr this)
   ·exact hb e
  have bM:∀b:Addr,b∉(cg (aG P w) P w K mg base N qual scope f cd A outer aH aY E).ex:=fun b z=>nomatch z
  have kG:∀b o,aH.heap.get? b=some o->aY b=none->b∉aE outer->B.get? b=some o:=fun b o q n hb=>kH b o (I.base.keep b o q n hb (bM b)) (I.base.free b o q n (bM b)) (old b o q hb);have kl:∀b o,aH.heap.get? b=some o->b∉aE outer->∃o',B.get? b=some o':=fun b o q hb=>by
   obtain⟨o',q'⟩:=I.base.there b o q (bM b);exact mM b o' q' (old b o q hb)
  have sub:∀b,b∈aE outer->b∈aE (cg (aG P w) P w K mg base N qual scope f cd A outer aH aY E).stack:=fun b hb=>by
   show b∈aE (_::outer);unfold aE;rw [fX]
   split
   ·exact hb
   ·exact cy _ hb
  have ku:∀b o,aH.heap.get? b=some o->aY b=none->b∈aE outer->∃sl,iG.get? b=some {o with slots:=sl}:=fun b o q n hb=>by
   obtain⟨sl,q'⟩:=I.base.slot b o q n hb (bM b);obtain⟨oh,gL⟩:=un.slot b _ q' (I.base.free b o q n (bM b)) (sub b hb) (by simp);obtain⟨_,o2,q2,nf⟩:=I.ok.en.mem hb;have oy:aH.heap.get? b=some o2:=q2;rw [q] at oy;cases oy;obtain⟨dQ,q3⟩:=up b _ gL (by intro vs z; exact nf vs z);exact⟨dQ,q3⟩
  refine⟨ea,C,H',B,a0,rfl,nh.trans I.os,hb,jh,ar,⟨fun b o q n hb _=>jh.1 b o (kG b o q n hb),fun b o q n hb _=>ku b o q n hb,fun b o q n _=>?_,fun b o q _=>?_,fun b xs q=>un.eD b xs (I.base.eD b xs q),fun b o u q=>un.d6 b o u (I.base.d6 b o u q),fun b ps q=>?_⟩,kG,kl,gj,hE⟩
  ·obtain⟨o',q'⟩:=I.base.there b o q (bM b)
   exact un.free b o' q' (I.base.free b o q n (bM b)) (by simp)
  ·by_cases hb:b∈aE outer
   ·have hn:aY b=none:=I.ok.gq b hb
    obtain⟨sl,q'⟩:=ku b o q hn hb;exact⟨_,q'⟩
   ·obtain⟨o',q'⟩:=kl b o q hb
    exact⟨o',jh.1 b o' q'⟩
  ·exact un.dH b ps (I.base.dH b ps q)
end
section
variable {P:Program}{w:World}{K:ah}{mg:Str->Option Value}{base:Heap}
theorem fG.qm {x qual:Str}{st:Stmt}{f:Addr}{fd:FuncData}{N ps:List Str}{k:Nat}{sp:Sp}(F:fG K x qual st f fd)(S:bA N ps (az st))(len:∀vs H Q E,sp vs H Q E->vs.length=ps.length)
  (gn:∀(ax:Value) (A:Around) (outer:List Env) (s:Shared) (H:Hp) (vs:List V) (Q:VK) (E:XK),bF k (A.deeper (envOfC qual (az st) s.heap.objs.size f ax))->sp vs H Q E->
   Rz (cg (aG P w) P w K mg base N qual (az st) f ax A outer s H E) E->
   ∃t,eP (cg (aG P w) P w K mg base N qual (az st) f ax A outer s H E) (di st) t/\t {nx:=fun _ H'=>Q .aI H',rt:=Q} (start N vs) H) (hf:ps=[dz]->(az st).names.lookup dz=some .local:=by first | assumption | decide +kernel):cS P w K mg base (aG P w) (k+1) f fd ps sp:=by
 obtain⟨oc,od,kV,doc,pm,an,ax,ct,hU,rfl,lk,eM⟩:=F.ex;refine Hn lk eM S hf len fun A outer s H vs Q E hr oS=>?_;exact gn ax A outer s H vs Q E hr oS D7
end
abbrev lC:List Value:=[.type "ValueError",.type "Exception",.type "BaseException",.type "object"]
theorem adl {K:ah}{h:Heap}{C:Addr}(X:K.In h)(q:excIn K C lC "ValueError.__new__" = true) :
  ∃nm qn N bs bm hdct sn sub ab col dd k0 k1 k2 k3 k5 mN,h.get? C=some (excClassObj nm qn C N bs bm hdct sn sub ab col dd k0 k1 k2 k3 k5 "ValueError.__new__")/\h.Ns N mN/\mN "__init__" = none/\OwnTail h lC bm:=by
 unfold excIn at q
 split at q
 ·rename_i dd cd sl ho
  split at q
  ·rename_i C' bm k0 k1 k2 k3 n k5 hm hs
   simp only [nW,beq_iff_eq,Bool.not_eq_true'] at q;obtain⟨⟨⟨⟨⟨rfl,rfl⟩,OQ⟩,ht⟩,ar⟩,Ay⟩:=q;obtain⟨nm,bs,mro,ns,qn,hd,sn,sub,ab,col,del⟩:=cd
   dsimp only at hm OQ ar Ay
   subst hm OQ;have F9:sl=#[k0,k1,k2,k3,some (.builtin "ValueError.__new__"),k5]:=by
    obtain⟨l⟩:=sl
    simp only at hs
    rw [hs]
   subst F9;exact⟨nm,qn,ns,bs,bm,hd,sn,sub,ab,col,dd,k0,k1,k2,k3,k5,_,X _ _ ho,.of_isNs (isNs_of_in X ar),nsMap_none_of_in X ar Ay,tail_of_in X ht⟩
  ·cases q
 ·cases q
section
variable {X:Cx}{pos:Pos}
noncomputable def UL (C:Addr)(E:XK)(te:TE):TS:=fun _ σ H=>te σ H fun _ H1=>E (.ref C) none H1
theorem Xf {x:Str}{np bW:Pos}{C:Addr}{E:XK}{e:Expr}{te:TE}(hc:X.calm=true)(R:Rz X E)(hg:Gl X x)(hm:X.mg x=some (.ref C))(hK:excIn X.K C lC "ValueError.__new__" = true)(he:PE X e te)(bj:isStar e=false:=by rfl)
  (hd:(x==("__debug__" : Str))=false:=by decide):PS X (.Raise (some (.Call (.Name x np) [e] [] bW)) none pos) (UL C E te):=by
 intro pins s σ H D I h;obtain⟨nm,qn,N,bs,bm,hdct,sn,sub,ab,col,dd,k0,k1,k2,k3,k5,mN,hC,hN,Ay,T⟩:=adl I.mod.kE hK;have hs:starEach [e] X.env=[(false,eval e X.env)]:=by rw [jG bj]; rfl
 refine wpAny_Raise_call_subT F.excBase_ValueError (C:=C) (nm:=nm) (q:=qn) (N:=N) (bs:=bs) (bm:=bm) (hdct:=hdct) (sn:=sn) (sub:=sub) (ab:=ab) (col:=col) (dd:=dd) (k0:=k0) (k1:=k1) (k2:=k2) (k3:=k3) (k5:=k5) (mN:=mN)
  (T.hasType F.excBase_ValueError.hasBase) (I.ok.hd hc) (by rw [hs]; rfl) Ay (tV I hg hm ⟨rfl,?_⟩ hd)
 rw [hs];refine yI (lr (aC (he pins s σ H _ I h) fun v s1 ⟨x,H1,I1,r1,q1⟩=>mE ?_));exact⟨rfl,by show 1<=sizeLine; decide,I1.bk _ _ hC,hN.keeps I1.bk,T.keeps I1.bk,fun h' ea OD=>R.made pins σ H1 s1 h' ea C _ I1 OD q1⟩
noncomputable def K8 (t:TE)(k:Hp->Prop):St->Hp->Prop:=fun σ H=>t σ H fun x H1=>∃l:Str,x=.str l/\l.length<=1000/\k H1
theorem wN (a b:Str):(a++b).length=a.length+b.length:=strLen_append a b
theorem Mc {a b:Expr}{ta tb:TE}(ha:PE X a ta)(hb:PE X b tb):PE X (.JoinedStr [a,b] pos) (fun σ H Q=>K8 ta (fun H1=>K8 tb (fun H2=>∀z,Q (.str z) H2) σ H1) σ H):=by
 intro pins s σ H Q I h;refine wpAny_JoinedStr ?_;have e0:Str.empty.length=0:=rfl;refine aC (ha pins s σ H _ I h) fun v s1 h_=>?_;obtain⟨x,H1,I1,r1,l,ex,hl,q1⟩:=h_;subst ex;obtain⟨t,rfl⟩:=r1;refine⟨l,t,rfl,big _ (by rw [wN,e0]; omega),?_⟩;refine aC (hb pins s1 σ H1 _ I1 q1) fun v s2 h_=>?_;obtain⟨y,H2,I2,r2,m,ey,hm,q2⟩:=h_;subst ey;obtain⟨t',rfl⟩:=r2;refine⟨m,t',rfl,big _ (by rw [wN,wN,e0]; omega),big _ (by rw [wN,wN,e0]; omega),?_⟩;exact(fun ht=>⟨.str _,H2,I2.tok _,⟨_,rfl⟩,q2 _⟩)
end
noncomputable abbrev Cx.jR (X:Cx)(pn:List (Addr×Obj))(W:Value->Shared->Prop):Cx:={X with pn:=pn,xe:=W}
noncomputable abbrev Cx.qD (X:Cx)(pn:List (Addr×Obj))(ea:Addr):Cx:={X with A:=X.A.mark (some (.ref ea)),calm:=false,pn:=pn,xe:=fun _ _=>False}
section
variable {X:Cx}{pins:List (Addr×Obj)}{σ:St}{H:Hp}{s:Shared}
theorem YR (ok:X.Ok)(pn:List (Addr×Obj))(W:Value->Shared->Prop):(X.jR pn W).Ok:=
 ⟨ok.mod,ok.kind,ok.glob,ok.blt,ok.above,ok.inj,ok.has,ok.ph,ok.hd,ok.frames,ok.pW,ok.xx,ok.bs,ok.iQ,ok.bM,ok.rn,ok.en,ok.gq⟩
theorem Inv.jR (I:Inv X pins σ H s)(W:Value->Shared->Prop):Inv (X.jR (X.pn++pins) W) [] σ H s:=
 ⟨YR I.ok _ W,I.os,I.bare,I.base,I.loc,I.cell,I.free,I.eO,fun p hp=>I.pin p (by
  have dJ:p∈(X.pn++pins)++[]:=hp;simpa using dJ),I.ar,I.len,I.tk⟩
theorem Inv.zL {W:Value->Shared->Prop}{gg:List (Addr×Obj)}(ok:X.Ok)(I:Inv (X.jR (X.pn++pins) W) gg σ H s):Inv X pins σ H s:=
 ⟨ok,I.os,I.bare,I.base,I.loc,I.cell,I.free,I.eO,fun p hp=>I.pin p (eT _ hp),I.ar,I.len,I.tk⟩
theorem Inv.X0 {gg:List (Addr×Obj)}{ea:Addr}(ok:X.Ok)(I:Inv (X.qD (X.pn++pins) ea) gg σ H s):Inv X pins σ H s:=
 ⟨ok,I.os,I.bare,I.base,I.loc,I.cell,I.free,I.eO,fun p hp=>I.pin p (eT _ hp),I.ar,I.len,I.tk⟩
theorem Inv.aeS {W:Value->Shared->Prop}{pn gg:List (Addr×Obj)}{H':Hp}{s':Shared}{ea C:Addr}{B h6:Heap}{a0:Value}(oR:X.stack=X.env::X.outer/\X.env.frame=some X.env.locals)(hex:X.ex=[])
  (I:Inv (X.jR pn W) gg σ H s) (nh:s'.os=s.os) (hb:AllBare s'.gens) (ar:cq X.prog X.w H' B) (un:Un (aE X.stack) [] H H' s.heap s'.heap)
  (kH:∀b o,s.heap.get? b=some o->H b=none->b∉aE X.stack->B.get? b=some o) (mM:∀b o,s.heap.get? b=some o->b∉aE X.stack->∃o',B.get? b=some o') (gj:H' ea=none)
  (fl:pI B X.stack ea (.ref C) a0 h6) (up:s'.heap.UpToSlots h6) (ht:0<s'.toks) :
  Inv (X.qD pn ea) [] (a7 σ.length none) (upd H' ea (um C ea)) {s' with heap:=h6}:=by
 obtain⟨f1,f2,f3,oe,vs,T,oT,ts,e1,e2,e3,_⟩:=id fl;have AR:aE X.stack=X.env.locals::X.fs:=by
  rw [oR.1];unfold aE;rw [fX,oR.2];rfl
 have frn:∀b,b∈aE X.stack->b≠ea:=fun b bU z=>by
  obtain⟨_,o,q,nf⟩:=f3.mem bU;rw [z,e1] at q;cases q;exact nf vs e3
 have nB:∀b o,B.get? b=some o->b≠ea:=fun b o q z=>by rw [z,f2] at q; cases q
 have nd:∀b o,s.heap.get? b=some o->b∈aE X.stack->∀vs,o.data≠.fields vs:=fun b o q bU=>by
  obtain⟨_,o2,q2,nf⟩:=I.stack.mem bU;have gL:s.heap.get? b=some o2:=q2;rw [q] at gL;cases gL;exact nf
 have slot:∀b o,s.heap.get? b=some o->H b=none->b∈aE X.stack->∃sl,h6.get? b=some {o with slots:=sl}:=fun b o q n bU=>by
  obtain⟨sl,q'⟩:=un.slot b o q n bU (by simp);obtain⟨dQ,mV⟩:=up b _ q' (by intro vs z; exact nd b o q bU vs z);exact⟨dQ,mV⟩
 have keep:∀b o,s.heap.get? b=some o->H b=none->b∉aE X.stack->h6.get? b=some o:=fun b o q n bU=>f1 b o (kH b o q n bU);have AS:∀b o,s.heap.get? b=some o->H b=none->(upd H' ea (um C ea)) b=none:=fun b o q n=>by
  have bN:b≠ea:=by
   by_cases bU:b∈aE X.stack
   ·exact frn b bU
   ·exact nB b o (kH b o q n bU)
  rw [aF bN];exact un.free b o q n (by simp)
 have Yu:∀b o,X.aH.heap.get? b=some o->b∉X.fs->b∉aE X.stack:=fun b o q bU z=>by
  rw [AR] at z;rcases ba.mp z with e | e
  ·exact absurd (aV q) (by have:=I.ok.above; rw [e]; exact mJ.mpr this)
  ·exact bU e
 have Ve:∀b,b∈X.fs->b∈aE X.stack:=fun b bU=>by rw [AR]; exact cy _ bU
 have bM:∀b:Addr,b∉X.ex:=fun b z=>by rw [hex] at z; cases z
 obtain⟨m,⟨oL,es,ep,Aw,Ga⟩,_⟩:=I.loc;have Z3:X.env.locals∈aE X.stack:=by rw [AR]; exact bH
 obtain⟨slL,hL6⟩:=slot _ _ Aw I.free Z3;refine⟨⟨I.ok.mod,I.ok.kind,I.ok.glob,I.ok.blt,I.ok.above,I.ok.inj,I.ok.has,I.ok.ph,(fun z=>nomatch z),I.ok.frames,I.ok.pW,I.ok.xx,I.ok.bs,I.ok.iQ,I.ok.bM,I.ok.rn,I.ok.en,I.ok.gq⟩,nh.trans I.os,hb,
  ⟨fun b o q n bU hx=>?_,fun b o q n bU hx=>?_,fun b o q n hx=>?_,fun b o q hx=>?_,fun b xs q=>?_,fun b o u q=>?_,fun b ps q=>?_⟩,⟨m,⟨_,es,ep,hL6,Ga⟩,fun i x v h1 h2 _=>?_⟩,fun x c hc=>?_,?_,fun x c hc=>?_,fun p hp=>?_,fun a o q=>?_,?_,ht⟩
 ·exact keep b o (I.base.keep b o q n bU hx) (I.base.free b o q n hx) (Yu b o q bU)
 ·obtain⟨sl,q'⟩:=I.base.slot b o q n bU hx
  obtain⟨dQ,mV⟩:=slot b _ q' (I.base.free b o q n hx) (Ve b bU);exact⟨dQ,mV⟩
 ·obtain⟨o',q'⟩:=I.base.there b o q hx
  exact AS b o' q' (I.base.free b o q n hx)
 ·obtain⟨o',q'⟩:=I.base.there b o q hx
  by_cases bU:b∈aE X.stack
  ·have hn:=I.vW b bU
   obtain⟨sl,mV⟩:=slot b o' q' hn bU;exact⟨_,mV⟩
  ·obtain⟨MF,mV⟩:=mM b o' q' bU
   exact⟨MF,f1 b MF mV⟩
 ·have z:=un.eD b xs (I.base.eD b xs q)
  rw [aF (cH z gj)];exact z
 ·have z:=un.d6 b o u (I.base.d6 b o u q)
  rw [aF (cH z gj)];exact z
 ·have z:=un.dH b ps (I.base.dH b ps q)
  rw [aF (cH z gj)];exact z
 ·rw [Cm] at h2
  split at h2 <;> cases h2
 ·obtain⟨v,o,ho,hd⟩:=I.cell x c hc
  by_cases bU:c∈aE X.stack
  ·obtain⟨sl,mV⟩:=slot c o ho (I.eO x c hc) bU
   exact⟨v,_,mV,hd⟩
  ·exact⟨v,o,keep c o ho (I.eO x c hc) bU,hd⟩
 ·exact AS _ _ Aw I.free
 ·obtain⟨v,o,ho,hd⟩:=I.cell x c hc
  exact AS c o ho (I.eO x c hc)
 ·have dJ:p∈pn++gg:=by
   have hV:p∈pn++[]:=hp;exact eT _ (by simpa using hV)
  obtain⟨q,n,ne,nf,d⟩:=I.pin p dJ;have bU:p.1∉aE X.stack:=fun z=>by
   rw [AR] at z;rcases ba.mp z with e | e
   ·exact ne e
   ·exact nf e
  exact⟨keep _ _ q n bU,AS _ _ q n,ne,nf,d⟩
 ·by_cases ha:a=ea
  ·subst ha
   rw [aU] at q;cases q;exact⟨⟨oe,e1,e2.1⟩,⟨oe,e1⟩,fun h1 h2 ⟨o,z1,z2⟩ k=>⟨o,k o z1,z2⟩⟩
  ·rw [aF ha] at q
   exact(ar a o q).iu (fun c u _ r=>f1 c u r) (fun c r=>by rw [aF (cH r gj)]; exact r) (fun c xs r=>by rw [aF (cH r gj)]; exact r) fun c _ _ r=>by rw [aF (cH r gj)]; exact r
 ·show (a7 σ.length none).length=X.N.length
  rw [vm];exact I.len
theorem Inv.acR {h':Heap}{t':Nat}{v:Option Value}{i:Nat}{n:Str}{m:Str->Option Value}(I:Inv X pins σ H s)(hN:X.N.Nodup)(hi:X.N[i]?=some n)
  (hm:s.heap.Ns X.env.locals m) (Gm:∀(i:Nat) (x:Str) (v:V),X.N[i]?=some x->σ[i]?=some (some v)->vc X.env.scope x->∃u,RelV v u/\Look X.env s.heap m x u)
  (hn:h'.Ns X.env.locals (fun x=>if x=n then v else m x)) (sb:j9 X.env.locals s.heap h') (ht:0<t':=by first | assumption | exact Inv.tk (by assumption) | exact Nat.succ_pos _):Inv X pins (σ.set i none) H {s with heap:=h',toks:=t'}:=by
 have kZ:=I.kZ;have AA:i<σ.length:=by rw [I.len]; exact(ej.mp hi).1
 have nL:∀b o,X.aH.heap.get? b=some o->b≠X.env.locals:=fun b o e=>bJ (cB (aV e) I.ok.above);refine⟨I.ok,I.os,I.bare,⟨fun b o e n hb hx=>?_,fun b o e n hb hx=>?_,I.base.free,fun b o e hx=>?_,I.base.eD,I.base.d6,I.base.dH⟩,⟨_,hn,fun j y v' e1 e2 e3=>?_⟩,fun y c e=>?_,I.free,I.eO,fun p hp=>?_,fun b ob e=>?_,by simpa using I.len,ht⟩
 ·exact(sb.2 b (nL b o e)).trans (I.base.keep b o e n hb hx)
 ·obtain⟨sl,q⟩:=I.base.slot b o e n hb hx
  exact⟨sl,(sb.2 b (nL b o e)).trans q⟩
 ·obtain⟨o',q⟩:=I.base.there b o e hx
  exact⟨o',(sb.2 b (nL b o e)).trans q⟩
 ·by_cases hj:j=i
  ·subst hj
   rw [pF AA] at e2;cases e2
  ·rw [jy (bY hj)] at e2
   obtain⟨u',r',q⟩:=Gm j y v' e1 e2 e3;refine⟨u',r',?_⟩;rcases q with ⟨k,e⟩ | ⟨k,c,e,z⟩
   ·refine .inl ⟨k,?_⟩
    have:y≠n:=fun e=>hj (EO hN e1 (e ▸ hi));simp [this,e]
   ·exact .inr ⟨k,c,e,z.sameBut sb (kZ y c e)⟩
 ·obtain⟨w',z⟩:=I.cell y c e
  exact⟨w',z.sameBut sb (kZ y c e)⟩
 ·obtain⟨e,n,ne,nf,d⟩:=I.pin p hp
  exact⟨(sb.2 p.1 ne).trans e,n,ne,nf,d⟩
 ·refine(I.ar b ob e).iu (fun c w' hc q=>(sb.2 c ?_).trans q) (fun _ q=>q) fun _ _ q=>q
  have qO:=I.free;rintro rfl;rcases hc with rfl | hc
  ·rw [qO] at e; cases e
  ·rw [qO] at hc; cases hc
noncomputable def Qp (K:ah)(CT:Addr)(iN:Nat)(ts:TS)(D:Ends)(n:Nat):XK:=fun cls _ H'=>∀ea C,cls=.ref C->H' ea=none->exmOne K (.ref C) (.ref CT)=some true/\
 ts {nx:=fun ed H2=>D.nx (ed.set iN none) H2,rt:=D.rt,bk:=fun ed H2=>D.bk (ed.set iN none) H2,ct:=fun ed H2=>D.ct (ed.set iN none) H2} ((a7 n none).set iN (some (.ref ea))) (upd H' ea (um C ea))
noncomputable def UG (K:ah)(CT:Addr)(iN:Nat)(tb:XK->TS)(ts:TS):TS:=fun D σ H=>tb (Qp K CT iN ts D σ.length) D σ H
end
section
variable {X:Cx}{pos Gd np:Pos}{T n:Str}{CT:Addr}{body Dl:List Stmt}{HY:Stmt}{tb:XK->TS}{ts:TS}{iN:Nat}
theorem Xd (hc:X.calm=true)(oR:X.stack=X.env::X.outer/\X.env.frame=some X.env.locals)(hex:X.ex=[])(hN:X.N.Nodup)(hi:X.N[iN]?=some n)(hl:X.env.scope.names.lookup n=some .local)
  (hg:Gl X T) (hm:X.mg T=some (.ref CT)) (hb:∀pn W E',Passes (aG X.prog X.w) (X.jR pn W) E'->eP (X.jR pn W) body (tb E')) (hs:∀pn ea,eP (X.qD pn ea) (HY::Dl) ts)
  (hd:(T==("__debug__" : Str))=false:=by decide) :
  PS X (.Try body [.ExceptHandler (some (.Name T np)) (some n) (HY::Dl) Gd] [] [] pos) (UG X.K CT iN tb ts):=by
 intro pins s σ H D I h;have hp:(X.env.scope.kind == .class || (X.env.scope.kind == .module&&X.env.locals != X.env.globals))=false:=by rw [I.ok.kind]; rfl
 refine wpAny_Try_except ?_;have abu:Passes (aG X.prog X.w) (X.jR (X.pn++pins) (fun e aT=>0<aT.toks->wpAny (model X.prog X.w) X.A (noteFrame e X.env) (fun _ gD=>wpAny (model X.prog X.w) X.A (setFlight e none) (fun _ gB=>wpAny (model X.prog X.w) X.A (handleBy e X.env [.ExceptHandler (some (.Name T np)) (some n) (HY::Dl) Gd]) (SP X pins D) X.xe gB) X.xe gD) X.xe aT)) (Qp X.K CT iN ts D σ.length):=by
  intro gg aJ H1 s1 e LC I1 qQ hts;obtain⟨ea,C,H',B,a0,rfl,nh,acj,fl,ar,un,kH,mM,gj,hE⟩:=qQ;have cV:X.A.frames=some (X.env::X.outer):=by rw [← oR.1]; exact I1.ok.frames
  have jh:pI B (X.env::X.outer) ea (.ref C) a0 LC.heap:=by rw [← oR.1]; exact fl
  refine wpAny_looks_onW cV oR.2 jh fun h4 held TV=>?_;refine wpAny_landsW held fun h5 AY CW=>?_;have lN:∀b o,X.base.get? b=some o->B.get? b=some o:=fun b o q=>by
   have q2:=I1.bs b o q;refine kH b o q2.1 q2.2 fun z=>?_;have:=(I1.stack.mem z).1;rw [show X.base.get? b=some o from q] at this;cases this
  have K5:∀{h:Heap},pI B (X.env::X.outer) ea (.ref C) a0 h->X.K.In h:=fun {h} z=>I1.ok.mod.kE.keeps fun b o q=>z.1 b o (lN b o q);refine wpAny_handleBy_cons (codeAny_handlers_test ?_) (by intro q; cases q);have g5:h5.Ns mainGlobals X.mg:=I1.ok.mod.glob.keeps fun b o q=>AY.1 b o (lN b o q);refine Cr I1.ok.kind hg (Calls.loadGlobal_global (by rw [show X.env.globals=mainGlobals from I1.ok.glob]; exact g5) hm ?_) hd;obtain⟨abH,abj⟩:=hE ea C rfl gj;obtain⟨ob,hob,abz⟩:=AY.there;have LT:Looks (model X.prog X.w) h5 (typeOf (.ref ea)) (.ref C):=abz ▸ (Looks.ld hob).andThen .now;refine(exm_one (M:=model X.prog X.w) (K5 AY) LT abH).at ?_;refine codeAny_handlers_suite_as ?_;refine lands_againW AY fun h6 fl6 TU=>?_;have TQ:LC.heap.UpToSlots h6:=(TV.trans CW).trans TU;have adf:pI B X.stack ea (.ref C) a0 h6:=by rw [oR.1]; exact fl6
  have I6:=Inv.aeS (X:=X) oR hex I1 nh acj ar un kH mM gj adf TQ hts;have hlen:aJ.length=σ.length:=by rw [show aJ.length=X.N.length from I1.len,show σ.length=X.N.length from I.len]
  rw [hlen] at I6;refine vV (X:=X.qD (X.pn++pins) ea) I6 hN hi (.inl hl) (v:=.ref ea) rfl (fun s7 I7=>?_) (.inr hl);refine Um (hs (X.pn++pins) ea [] s7 _ _ _ I7 abj) (fun f s8 q8=>?_);have fin:∀{d9:St} {H8:Hp},Inv (X.qD (X.pn++pins) ea) [] d9 H8 s8->∀(Q:Unit->Shared->Prop),(∀s9,Inv X pins (d9.set iN none) H8 s9->Q () s9)->wpAny (model X.prog X.w) X.A (do bindName X.env n .none; unbindBehindTheSuite X.env n Gd) Q X.xe s8:=fun {d9 H8} I8 Q k=>by
   have I9:Inv X pins d9 H8 s8:=I8.X0 I.ok;obtain⟨m,fQ,Gm⟩:=I9.loc;exact wpAny_nameGoes_keeps hl fQ hp fun h' v hn sb=>k _ (I9.acR hN hi fQ Gm hn sb)
  cases f with
  |next=>
   obtain⟨d9,H8,I8,q⟩:=q8;exact fin I8 _ fun s9 I9 _=>⟨_,H8,I9,q⟩
  |brk=>
   obtain⟨d9,H8,I8,q⟩:=q8;exact fin I8 _ fun s9 I9 _=>⟨_,H8,I9,q⟩
  |cont=>
   obtain⟨d9,H8,I8,q⟩:=q8;exact fin I8 _ fun s9 I9 _=>⟨_,H8,I9,q⟩
  |ret v=>
   obtain⟨x8,d9,H8,I8,r8,q⟩:=q8;exact fin I8 _ fun s9 I9 _=>⟨x8,_,H8,I9,r8,q⟩
 refine Ul (hb (X.pn++pins) _ _ abu [] s σ H D (I.jR _) h) fun f s1 q1=>?_
 cases f with
 |next=>
  obtain⟨j8,H1,I1,q⟩:=q1;exact wpAny_execs_nil (fun ht=>⟨j8,H1,I1.zL I.ok,q⟩)
 |brk=>obtain⟨j8,H1,I1,q⟩:=q1; exact(fun ht=>⟨j8,H1,I1.zL I.ok,q⟩)
 |cont=>obtain⟨j8,H1,I1,q⟩:=q1; exact(fun ht=>⟨j8,H1,I1.zL I.ok,q⟩)
 |ret v=>obtain⟨x1,j8,H1,I1,r1,q⟩:=q1; exact(fun ht=>⟨x1,j8,H1,I1.zL I.ok,r1,q⟩)
end
theorem QX {x:V}:∀{xs:List V}{us:List Value},Vals xs us->xs.all gV=true->us.countP (fD x)=xs.countP fun y=>dM y x
 |_,_,.nil,_=>rfl
 |y::xs,u::us,.cons r t,f=>by
  rw [mz,nW] at f;rw [List.countP_cons,List.countP_cons,A1 r f.1,QX t f.2]
section
variable {X:Cx}
theorem ZH:vf X "list.count" (fun x vs H Q=>∃p xs y,x=.ref p/\vs=[y]/\H p=some (.lst xs)/\gV y=true/\xs.all gV=true/\Q (.int (xs.countP fun z=>dM z y)) H):=by
 intro pins s σ H x vs v us Q I rx rv ⟨p,xs,y,ex,ev,hH,fy,fx,q⟩;subst ex ev;cases rx;obtain⟨u,rfl,ru⟩:=rv.one;obtain⟨z,ak,n,r,hl,e⟩:=I.jQ hH;refine call_meets F.slot_list_count ⟨_,e,rfl⟩ F.entry_list_count (F.args_list_count_2 _ _) (SeqAt.list_countAt p ak.toArray n none #[] u (fD y)) ⟨e,fun w hw=>qx ru fy r fx w (by simpa using hw),?_⟩;refine(fun ht=>⟨.int (xs.countP fun z=>dM z y),H,I.tok _,⟨s.toks,?_⟩,q⟩);rw [← QX r fx]
theorem ZG:vf X "list.index" (fun x vs H Q=>∃p xs y j,x=.ref p/\vs=[y]/\H p=some (.lst xs)/\gV y=true/\xs.all gV=true/\(∃z,xs[j]?=some z/\dM z y=true)/\(∀m z,m<j->xs[m]?=some z->dM z y=false)/\Q (.int (j:Nat)) H):=by
 intro pins s σ H x vs v us Q I rx rv ⟨p,xs,y,j,ex,ev,hH,fy,fx,⟨z,hz,hit⟩,Gi,q⟩;subst ex ev;cases rx;obtain⟨u,rfl,ru⟩:=rv.one;obtain⟨zl,ak,n,r,hl,e⟩:=I.jQ hH;have hj:j<ak.length:=by rw [← hl]; exact(ej.mp hz).1
 have fl:∀m zz,xs[m]?=some zz->gV zz=true:=fun m zz h=>dO.mp fx zz (kg h);have at_:∀m zz,xs[m]?=some zz->∀(hm:m<ak.length),fD y ak[m]=dM zz y:=fun m zz h hm=>by
  obtain⟨w,hw,dW⟩:=r.get h;have qF:ak[m]=w:=by simpa [hm] using hw
  rw [qF];exact A1 dW (fl m zz h)
 have Ap:(j:Int)<2 ^ 63 - 1:=by
  have:=sizeLine_eq;have h24:sizeLine=2 ^ 24:=rfl;omega
 refine call_meets F.slot_list_index ⟨_,e,rfl⟩ F.entry_list_index (F.args_list_index_2 _ _) (SeqAt.list_indexAt p ak.toArray n none #[] u (fD y) j (by simpa using hj) Ap ?_ ?_) ⟨e,fun w hw=>qx ru fy r fx w (by simpa using hw),?_⟩
 ·simp only [Cf]
  rw [at_ j z hz hj];exact hit
 ·intro m hm hmj
  have fQ:m<ak.length:=by simpa using hm
  have hx:m<xs.length:=by omega
  simp only [Cf];rw [at_ m xs[m] (by simp [hx]) fQ];exact Gi m _ hmj (by simp [hx])
 ·exact(fun ht=>⟨.int (j:Nat),H,I.tok _,⟨s.toks,rfl⟩,q⟩)
theorem acT (parts:List (List Nat)):(Txt.join ⟨([]:List Nat).toArray⟩ (parts.map fun l=>(⟨l.toArray⟩:Str)))=⟨parts.flatten.toArray⟩:=by
 apply RC
 unfold Txt.join Builtin.Str.glued;have key:∀(ps:List (List Nat)) (acc:Array Nat),(ps.map fun l=>(⟨l.toArray⟩:Str)).foldl (fun acc p=>acc++(⟨([]:List Nat).toArray⟩:Str).cps++p.cps) acc=acc++ps.flatten.toArray:=by
  intro ps
  induction ps with
  |nil=>intro acc; simp
  |cons l ps ih=>
   intro acc;rw [bG,pD,ih];simp
 cases parts with
 |nil=>rfl
 |cons l ps=>
  show (((l::ps).map fun l=>(⟨l.toArray⟩:Str)).drop 1 |>.foldl (fun acc p=>acc++(⟨([]:List Nat).toArray⟩:Str).cps++p.cps) (l.toArray)).toList=_;rw [bG,List.drop_one,List.tail_cons,key];simp
theorem Ld:∀{ls:List (List Nat)}{us:List Value},Vals (ls.map S) us->StrsAre us (ls.map fun l=>(⟨l.toArray⟩:Str))
 | [],_,.nil=>.nil
 |l::ls,_,.cons r t=>by
  obtain⟨tk,rfl⟩:=r;exact .cons _ tk (Ld t)
theorem ZF:vf X "str.join" (fun x vs H Q=>∃(p:Addr) (ls:List (List Nat)),x=S []/\vs=[.ref p]/\bP X.K H p (ls.map S)/\ls.flatten.length<=10000/\Q (S ls.flatten) H):=by
 intro pins s σ H x vs v us Q I rx rv ⟨p,ls,ex,ev,hq,hl,q⟩;subst ex ev;obtain⟨t,rfl⟩:=rx;obtain⟨u,rfl,ru⟩:=rv.one;cases ru;obtain⟨ak,r,pl,hz⟩:=I.list hq;have hs:((ls.map fun l=>(⟨l.toArray⟩:Str)).map (·.length)).sum=ls.flatten.length:=by
  rw [List.length_flatten,my];rfl
 refine join_list pl.isList (by simpa using Ld r) ?_ fun t' k=>(fun ht=>⟨S ls.flatten,H,I.tok k,⟨t',?_⟩,q⟩)
 ·rw [hs]
  have e0:(⟨([]:List Nat).toArray⟩:Str).length=0:=rfl;rw [e0];omega
 ·rw [acT]
end
noncomputable def rO (P:Program)(w:World)(K:ah)(mg:Str->Option Value)(base:Heap)(CX:fU)(k:Nat)(x:Str)(ps:List Str)(sp:Sp):Prop:=
 ∃(f:Addr) (fd:FuncData),cS P w K mg base CX k f fd ps sp/\mg x=some (.ref f)/\lj K (.ref f)=true/\Binds K fd ps []
section
variable {X:Cx}{CX:fU}{k:Nat}{x:Str}{ps:List Str}{sp:Sp}{E:XK}{p pos:Pos}{e:Expr}{es:List Expr}{t:TA}
theorem Mg (C:rO X.prog X.w X.K X.mg X.base CX k x ps sp)(hr:bF k X.A)(hx:Passes CX X E)(ha:PA X (e::es) t)(bj:isStar e=false:=by rfl)(hg:Gl X x:=by rfl)(gk:(x==("__debug__" : Str))=false:=by decide)(dA:(backTo pos (starEach es X.env)).any (·.1)=false:=by rfl) :
  PE X (.Call (.Name x p) (e::es) [] pos) (K7 sp [] E t):=by
 obtain⟨f,fd,h1,h2,h3,h4⟩:=C;exact XI h1 hr hg h2 h3 h4 .nil hx ha gk (jG bj) dA
end
noncomputable def cF (K:ah)(mg:Str->Option Value)(x:Str)(st:Stmt)(ps:List Str):Prop:=∃f fd,fG K x x st f fd/\mg x=some (.ref f)/\Binds K fd ps []
noncomputable def Vp (K:ah):Sp:=fun vs H Q _=>∃(a:Addr) (ns:List Int),vs=[.ref a]/\Scr K H a ns/\∀H',Q (.bl true) H'
theorem afc:bootBuiltins "ValueError" = some (.type "ValueError"):=by with_unfolding_all rfl
theorem rm:∀l:List Nat,(l.map fun c=>[c]).flatten=l
 | []=>rfl
 |c::l=>by simp only [bG,nX,rm l]; rfl
theorem Pu (l:List Nat):∀(k:Nat) (acc:List Nat),List.foldl (fun x1 x2=>x1++x2) acc.toArray (a7 k l.toArray)=(acc++(a7 k l).flatten).toArray
 |0,acc=>by simp
 |k+1,acc=>by
  have e:acc.toArray++l.toArray=(acc++l).toArray:=by simp
  have e2:(acc++l)++(a7 k l).flatten=acc++(a7 (k+1) l).flatten:=by
   rw [ly,nX,mG]
  rw [← e2,← Pu l k (acc++l),← e,ly,pD]
section
variable {X:Cx}
noncomputable def WT:R2:=fun x y H Q=>∃l n,x=S l/\y=.int n/\-1000<=n/\n<=1000/\l.length<=1000/\Q (S (a7 n.toNat l).flatten) H
theorem X4:cb X (binaryOp .Mult) WT:=by
 intro pins s σ H x y v u Q I rx ry ⟨l,n,ex,ey,n0,n1,hl,q⟩;subst ex ey;obtain⟨t,rfl⟩:=rx;obtain⟨t',rfl⟩:=ry;have hlen:(⟨l.toArray⟩:Str).length=l.length:=by simp [rT]
 refine P.mul_str ?_ ?_ ?_ ?_
 ·rw [decide_eq_false (by omega),decide_eq_false (by omega)]
  rfl
 ·intro h1 _
  rw [hlen];have:(1000:Int)<=(2 ^ 63 - 1) / n:=by
   rw [Int.le_ediv_iff_mul_le (by omega)];omega
  omega
 ·intro h1 _
  rw [hlen];have h2:l.length * n.toNat<=1000 * 1000:=Nat.mul_le_mul hl (by omega);unfold Builtin.Str.tooLong;exact decide_eq_false (by have:sizeLine=2 ^ 24:=rfl; omega)
 ·by_cases h1:n<1
  ·rw [if_pos h1]
   refine⟨by decide,fun ht=>⟨S (a7 n.toNat l).flatten,H,I.tok _,⟨s.toks,?_⟩,q⟩⟩;have:n.toNat=0:=by omega
   rw [this];rfl
  ·rw [if_neg h1]
   by_cases h2:(n==1 || (⟨l.toArray⟩:Str).length==0)=true
   ·rw [if_pos h2]
    refine(fun ht=>⟨S (a7 n.toNat l).flatten,H,I,⟨t,?_⟩,q⟩);have e:(a7 n.toNat l).flatten=l:=by
     rw [hlen] at h2;simp only [Bool.or_eq_true,beq_iff_eq] at h2;rcases h2 with h2 | h2
     ·subst h2; simp
     ·have:l=[]:=yN.mp h2
      subst this; simp
    rw [e]
   ·rw [if_neg h2]
    have e:(⟨(a7 n.toNat l.toArray).foldl (· ++ ·) #[]⟩:Str)=⟨(a7 n.toNat l).flatten.toArray⟩:=by
     have:=Pu l n.toNat [];simp only [lq] at this;exact congrArg Str.mk this
    show _/\_;rw [e];refine⟨?_,fun ht=>⟨S (a7 n.toNat l).flatten,H,I.tok _,⟨_,rfl⟩,q⟩⟩;show (a7 n.toNat l).flatten.toArray.size<=sizeLine;have h3:n.toNat * l.length<=1000 * 1000:=Nat.mul_le_mul (by omega) hl;have:sizeLine=2 ^ 24:=rfl;simp;omega
end
section
variable {X:Cx}{pins:List (Addr×Obj)}{σ:St}{H:Hp}{s:Shared}
theorem Inv.T7 {ch:List Addr}{h':Heap}{t':Nat}{T:Addr}{o:HO}(I:Inv X pins σ H s)(hf:∀b∈ch,fH X pins H b)(k:∀b u,b∉ch->s.heap.get? b=some u->h'.get? b=some u)(hT:s.heap.objs.size<=T)(new:c8 X.prog X.w (upd H T o) h' T o)(ht:0<t':=by first | assumption | exact Inv.tk (by assumption)) :
  Inv X pins σ (upd H T o) {s with heap:=h',toks:=t'}:=by
 have hn:H T=none:=I.ar.fresh hT;have nT:∀b u,s.heap.get? b=some u->b≠T:=fun b u e z=>absurd (aV e) (by rw [z]; exact mJ.mpr hT);have oJ:∀b u,H b=some u->b∉ch:=fun b u e z=>by rw [(hf b z).1] at e; cases e
 have up:∀b u,H b=some u->upd H T o b=some u:=fun b u e=>by rw [aF (cH e hn)]; exact e
 refine I.step (g':=s.gens) (d':=s.drawn) (ch:=ch) (fun b hb=>?_) (fun b u _ _ hc e _=>k b u hc e) (fun b u _ _ hc e _=>⟨u.slots,k b u hc e⟩) (fun b u _ e n=>by rw [aF (nT b u e)]; exact n)
  (fun b u hc e=>⟨u,k b u hc e⟩) (fun b xs e=>up b _ e) (fun b _ _ e=>up b _ e) (fun b q e=>up b _ e) (fun m hm=>?_) (fun b u e=>?_) I.bare ht
 ·obtain⟨_,f1,_,f3,f4,f5⟩:=hf b hb
  exact⟨f3,f1,f4,f5⟩
 ·obtain⟨u,es,ep,ho,r⟩:=hm
  exact⟨u,es,ep,k _ u (fun z=>(hf _ z).2.1 rfl) ho,r⟩
 ·by_cases hb:b=T
  ·subst hb
   rw [aU] at e;cases e;exact new
  ·rw [aF hb] at e
   refine(I.ar b u e).iu (fun c v hc q=>k c v ?_ q) (fun c q=>up c _ q) (fun c _ q=>up c _ q) fun c _ _ q=>up c _ q;rcases hc with z | z
   ·rw [z]; exact oJ b u e
   ·exact oJ c _ z
theorem Inv.T8 {ch:List Addr}{h':Heap}{t':Nat}(I:Inv X pins σ H s)(hf:∀b∈ch,fH X pins H b)(k:∀b u,b∉ch->s.heap.get? b=some u->h'.get? b=some u)(ht:0<t':=by first | assumption | exact Inv.tk (by assumption)) :
  Inv X pins σ H {s with heap:=h',toks:=t'}:=by
 have oJ:∀b u,H b=some u->b∉ch:=fun b u e z=>by rw [(hf b z).1] at e; cases e
 refine I.step (g':=s.gens) (d':=s.drawn) (ch:=ch) (fun b hb=>?_) (fun b u _ _ hc e _=>k b u hc e) (fun b u _ _ hc e _=>⟨u.slots,k b u hc e⟩) (fun b u _ e n=>n)
  (fun b u hc e=>⟨u,k b u hc e⟩) (fun b xs e=>e) (fun b _ _ e=>e) (fun b q e=>e) (fun m hm=>?_) (fun b u e=>?_) I.bare ht
 ·obtain⟨_,f1,_,f3,f4,f5⟩:=hf b hb
  exact⟨f3,f1,f4,f5⟩
 ·obtain⟨u,es,ep,ho,r⟩:=hm
  exact⟨u,es,ep,k _ u (fun z=>(hf _ z).2.1 rfl) ho,r⟩
 ·refine(I.ar b u e).iu (fun c v hc q=>k c v ?_ q) (fun c q=>q) fun c _ q=>q
  rcases hc with z | z
  ·rw [z]; exact oJ b u e
  ·exact oJ c _ z
end
noncomputable def ao (H:Hp)(A:List Addr):Hp:=fun b=>if b∈A then none else H b
theorem cf {H:Hp}{A:List Addr}{b:Addr}(h:b∉A):ao H A b=H b:=by unfold ao; rw [if_neg h]
theorem OL {H:Hp}{A:List Addr}{b:Addr}(h:b∈A):ao H A b=none:=by unfold ao; rw [if_pos h]
theorem dX {H:Hp}{A:List Addr}{b:Addr}{o:HO}(h:ao H A b=some o):b∉A/\H b=some o:=by
 by_cases hb:b∈A
 ·rw [OL hb] at h; cases h
 ·rw [cf hb] at h; exact⟨hb,h⟩
theorem bO {H:Hp}{A:List Addr}:aw (ao H A) H:=fun b o e=>(dX e).2
theorem aw.ao {H H':Hp}(s:aw H H')(A:List Addr):aw (L2.ao H A) (L2.ao H' A):=fun b o e=>by
 obtain⟨h1,h2⟩:=dX e;rw [cf h1];exact s b o h2
noncomputable abbrev cJ (H:Hp)(A:List Addr):Prop:=∀a∈A,H a≠none
theorem cJ.mono {H H':Hp}{A:List Addr}(h:cJ H A)(s:aw H H'):cJ H' A:=fun a ha z=>by
 cases q:H a with
 |none=>exact h a ha q
 |some o=>rw [s a o q] at z; cases z
theorem cJ.fresh {H:Hp}{A:List Addr}(h:cJ H A){p:Addr}(hp:H p=none):p∉A:=fun z=>h p z hp
theorem nt {H:Hp}{A:List Addr}(h:cJ H A){p:Addr}{o:HO}(hp:H p=none):ao (upd H p o) A p=some o:=by
 rw [cf (h.fresh hp)];exact aU
noncomputable def gX (K:ah)(C:Addr):Prop:=cQ K mainGlobals "Board" = some (some (.ref C))/\mv K C/\pw K C "done" /\pw K C "undone"
noncomputable abbrev mh (l m:Addr):List (Str×V):=[("done",.ref l),("undone",.ref m)]
noncomputable def gi:Bd->Bool
 |.own _=>true
 |.bT _=>true
 |.aQ _ _=>true
 |_=>false
section
variable (K:ah)
noncomputable def iT (A:List Addr)(H:Hp)(v:V):Bd->Prop
 |.own ds=>∃a xs,v=.ref a/\H a=some (.lst xs)/\av K (ao H A) ds xs/\bC ds/\ds.length<=10000
 |.bT ks=>∃a,v=.ref a/\H a=some (.dK (a9 ks))/\sm (.aj ks)
 |.aQ dn un=>∃a dx l m C xs ys,v=.ref a/\gX K C/\H a=some (.ins C dx (mh l m))/\H dx=some (.own a)/\H l=some (.lst xs)/\H m=some (.lst ys)/\l≠m/\
   (av K (ao H A) dn xs/\bC dn/\dn.length<=10000)/\av K (ao H A) un ys/\bC un/\un.length<=10000
 |_=>False
noncomputable def a5 (H:Hp):V->Bd->List Addr
 |.ref a,.aQ _ _=>match H a with
  |some (.ins _ dx [(_,.ref l),(_,.ref m)])=>[a,dx,l,m]
  |_=>[a]
 |.ref a,_=>[a]
 |_,_=>[]
structure bf (O A:List Addr) (ρ:aa) (σ:St) (H:Hp):Prop where
 len:ρ.length=σ.length
 bD:cJ H A
 sub:∀a∈O,a∈A
 val:∀(i:Nat) d,ρ[i]?=some (.val d)->∃v,σ[i]?=some (some v)/\Rep K (ao H A) d v/\sm d
 ow:∀(i:Nat) b,ρ[i]?=some b->gi b=true->∃v,σ[i]?=some (some v)/\iT K A H v b/\∀a∈a5 H v b,a∈O
 apart:∀(i j:Nat) b c v w,i≠j->ρ[i]?=some b->ρ[j]?=some c->gi b=true->gi c=true->σ[i]?=some (some v)->σ[j]?=some (some w)->∀a∈a5 H v b,a∉a5 H w c
 bo:∀(i:Nat) p dn un,ρ[i]?=some (.bor p dn un)->∃v,σ[i]?=some (some v)/\(∀a,p=some a->v=.ref a)/\iT K A H v (.aQ dn un)/\∀a∈a5 H v (.aQ dn un),a∈A/\a∉O
end
section
variable {K:ah}{O A O' A':List Addr}{ρ:aa}{σ:St}{H H':Hp}{v:V}{b:Bd}
theorem iT.fst (h:iT K A H v b):∃a,v=.ref a/\a∈a5 H v b:=by
 cases b with
 |own ds=>obtain⟨a,xs,rfl,_⟩:=h; exact⟨a,rfl,bH⟩
 |bT ks=>obtain⟨a,rfl,_⟩:=h; exact⟨a,rfl,bH⟩
 |aQ dn un=>
  obtain⟨a,dx,l,m,C,xs,ys,rfl,_,h1,_⟩:=h;refine⟨a,rfl,?_⟩;show a∈(match H a with | some (.ins _ dx [(_,.ref l),(_,.ref m)])=>[a,dx,l,m] | _=>[a]);rw [h1];exact bH
 |_=>exact h.elim
theorem rj {a dx l m C:Addr}{dn un:List Dt}(h:H a=some (.ins C dx (mh l m))):a5 H (.ref a) (.aQ dn un)=[a,dx,l,m]:=by
 show (match H a with | some (.ins _ dx [(_,.ref l),(_,.ref m)])=>[a,dx,l,m] | _=>[a])=_;rw [h]
theorem uj (h:∀a,v=.ref a->H' a=H a):a5 H' v b=a5 H v b:=by
 cases v with
 |ref a=>
  cases b with
  |aQ dn un=>
   show (match H' a with | some (.ins _ dx [(_,.ref l),(_,.ref m)])=>[a,dx,l,m] | _=>[a])=_;rw [h a rfl];rfl
  |_=>rfl
 |_=>rfl
theorem iT.off (h:iT K A H v b)(k:∀a∈a5 H v b,H' a=H a)(s:aw (ao H A) (ao H' A')):iT K A' H' v b:=by
 cases b with
 |own ds=>
  obtain⟨a,xs,rfl,h1,h2,h3⟩:=h;exact⟨a,xs,rfl,(k a bH).trans h1,h2.mono s,h3⟩
 |bT ks=>
  obtain⟨a,rfl,h1,h2⟩:=h;exact⟨a,rfl,(k a bH).trans h1,h2⟩
 |aQ dn un=>
  obtain⟨a,dx,l,m,C,xs,ys,rfl,hC,h1,h2,h3,h4,h5,⟨h6,h7⟩,h8,h9⟩:=h;rw [rj h1] at k;exact⟨a,dx,l,m,C,xs,ys,rfl,hC,(k a (by simp)).trans h1,(k dx (by simp)).trans h2,(k l (by simp)).trans h3,(k m (by simp)).trans h4,h5,⟨h6.mono s,h7⟩,h8.mono s,h9⟩
 |_=>exact h.elim
theorem iT.live (h:iT K A H v b){a:Addr}(ha:a∈a5 H v b):H a≠none:=by
 cases b with
 |own ds=>
  obtain⟨p,xs,rfl,h1,_⟩:=h;obtain rfl:a=p:=by simpa [a5] using ha
  rw [h1]; simp
 |bT ks=>
  obtain⟨p,rfl,h1,_⟩:=h;obtain rfl:a=p:=by simpa [a5] using ha
  rw [h1]; simp
 |aQ dn un=>
  obtain⟨p,dx,l,m,C,xs,ys,rfl,hC,h1,h2,h3,h4,_⟩:=h;rw [rj h1] at ha;simp only [ba,fJ,or_false] at ha;rcases ha with rfl | rfl | rfl | rfl <;> simp [*]
 |_=>exact h.elim
theorem kx {a:Addr}(s:aw H H')(h:H a≠none):H' a=H a:=by
 cases e:H a with
 |none=>exact(h e).elim
 |some o=>exact s a o e
theorem bf.mono (F:bf K O A ρ σ H)(s:aw H H'):bf K O A ρ σ H':=by
 have fe:∀{v b},iT K A H v b->a5 H' v b=a5 H v b:=fun {v b} w=>uj fun a e=>by
  obtain⟨a',e',ha⟩:=w.fst;rw [e] at e';cases e';exact kx s (w.live ha)
 refine⟨F.len,F.bD.mono s,F.sub,fun i d e=>?_,fun i b e o=>?_,fun i j b c v w lR e1 e2 o1 o2 e3 e4=>?_,fun i p dn un e=>?_⟩
 ·obtain⟨v,h1,h2,h3⟩:=F.val i d e
  exact⟨v,h1,h2.mono (s.ao A),h3⟩
 ·obtain⟨v,h1,h2,h3⟩:=F.ow i b e o
  refine⟨v,h1,h2.off (fun a ha=>kx s (h2.live ha)) (s.ao A),?_⟩;rw [fe h2];exact h3
 ·obtain⟨v',h1,h2,_⟩:=F.ow i b e1 o1
  obtain⟨w',l0,eZ,_⟩:=F.ow j c e2 o2;rw [e3] at h1;cases h1;rw [e4] at l0;cases l0;rw [fe h2,fe eZ];exact F.apart i j b c v w lR e1 e2 o1 o2 e3 e4
 ·obtain⟨v,h1,hp,h2,h3⟩:=F.bo i p dn un e
  refine⟨v,h1,hp,h2.off (fun a ha=>kx s (h2.live ha)) (s.ao A),?_⟩;rw [fe h2];exact h3
theorem bf.own (F:bf K O A ρ σ H)(i:Nat)(ds:List Dt)(e:ρ[i]?=some (.own ds)):∃a xs,σ[i]?=some (some (.ref a))/\a∈O/\H a=some (.lst xs)/\av K (ao H A) ds xs/\bC ds/\ds.length<=10000:=by
 obtain⟨v,h1,⟨a,xs,rfl,h2⟩,h3⟩:=F.ow i _ e rfl;exact⟨a,xs,h1,h3 a bH,h2⟩
theorem bf.bT (F:bf K O A ρ σ H)(i:Nat)(ks:List (List Nat×List Nat))(e:ρ[i]?=some (.bT ks)):∃a,σ[i]?=some (some (.ref a))/\a∈O/\H a=some (.dK (a9 ks))/\sm (.aj ks):=by
 obtain⟨v,h1,⟨a,rfl,h2⟩,h3⟩:=F.ow i _ e rfl;exact⟨a,h1,h3 a bH,h2⟩
noncomputable def l7 (ρ:aa)(σ:St)(H:Hp)(i:Nat):List Addr:=match ρ[i]?,σ[i]? with
 |some b,some (some v)=>if gi b=true then a5 H v b else []
 |_,_=>[]
theorem Hj {i:Nat}(e:ρ[i]?=some b)(e':σ[i]?=some (some v))(o:gi b=true):l7 ρ σ H i=a5 H v b:=by
 unfold l7;rw [e,e'];exact if_pos o
theorem bf.set {i:Nat}{v':V}{b':Bd}(F:bf K O A ρ σ H)(L:cJ H' A')(sub:∀a∈O',a∈A')(hs:aw (ao H A) (ao H' A'))(keep:∀a∈O,a∉l7 ρ σ H i->a∈O'/\H' a=H a)(kb:∀a∈A,a∉O->a∈A'/\a∉O'/\H' a=H a)
  (new:(∃d,b'=.val d/\Rep K (ao H' A') d v'/\sm d)∨(iT K A' H' v' b'/\∀a∈a5 H' v' b',a∈O'/\(a∉O∨a∈l7 ρ σ H i))):bf K O' A' (ρ.set i b') (σ.set i (some v')) H':=by
 have Bn:∀{b},(ρ.set i b')[i]?=some b->b=b'/\(σ.set i (some v'))[i]?=some (some v'):=fun {b} e=>by
  have aR:i<ρ.length:=by simpa using (ej.mp e).1
  rw [pF aR] at e;exact⟨(gZ e).symm,pF (by rw [← F.len]; exact aR)⟩
 have off:∀{j b v},j≠i->ρ[j]?=some b->gi b=true->σ[j]?=some (some v)->∀a∈a5 H v b,a∈O/\a∉l7 ρ σ H i:=fun {j b v} hj e o e' a ha=>by
  obtain⟨v1,q1,_,q3⟩:=F.ow j b e o;rw [e'] at q1;cases q1;refine⟨q3 a ha,fun z=>?_⟩;unfold l7 at z
  split at z
  ·rename_i c w e1 e2
   split at z
   ·rename_i oc
    exact F.apart j i b c v w hj e e1 o oc e' e2 a ha z
   ·cases z
  ·cases z
 have fe:∀{j b v},j≠i->ρ[j]?=some b->gi b=true->σ[j]?=some (some v)->a5 H' v b=a5 H v b:=fun {j b v} hj e o e'=>uj fun a ea=>by
  obtain⟨v1,q1,q2,_⟩:=F.ow j b e o;rw [e'] at q1;cases q1;obtain⟨a',z,ha⟩:=q2.fst;rw [ea] at z;cases z;obtain⟨k1,k2⟩:=off hj e o e' a ha;exact(keep a k1 k2).2
 refine⟨by simp [F.len],L,sub,fun j d e=>?_,fun j b e o=>?_,fun j k b c v w Az e1 e2 o1 o2 e3 e4=>?_,fun j p dn un e=>?_⟩
 ·by_cases hj:j=i
  ·subst hj
   obtain⟨z,e'⟩:=Bn e;rcases new with ⟨d',y,q⟩ | ⟨q,_⟩
   ·rw [y] at z; cases z; exact⟨v',e',q⟩
   ·rw [← z] at q; exact q.elim
  ·rw [jy (bY hj)] at e ⊢
   obtain⟨v,q1,q2,q3⟩:=F.val j d e;exact⟨v,q1,q2.mono hs,q3⟩
 ·by_cases hj:j=i
  ·subst hj
   obtain⟨z,e'⟩:=Bn e;rcases new with ⟨d',y,q⟩ | ⟨q,q'⟩
   ·rw [z,y] at o; cases o
   ·rw [z]; exact⟨v',e',q,fun a ha=>(q' a ha).1⟩
  ·rw [jy (bY hj)] at e ⊢
   obtain⟨v,q1,q2,q3⟩:=F.ow j b e o;have kk:∀a∈a5 H v b,a∈O'/\H' a=H a:=fun a ha=>let ⟨k1,k2⟩:=off hj e o q1 a ha; keep a k1 k2
   refine⟨v,q1,q2.off (fun a ha=>(kk a ha).2) hs,?_⟩;rw [fe hj e o q1];exact fun a ha=>(kk a ha).1
 ·have no:∀{m b v},m≠i->(ρ.set i b')[m]?=some b->(σ.set i (some v'))[m]?=some (some v)->ρ[m]?=some b/\σ[m]?=some (some v):=fun {m b v} hm e e'=>by
   rw [jy (bY hm)] at e e';exact⟨e,e'⟩
  have nw:∀{b v},(ρ.set i b')[i]?=some b->(σ.set i (some v'))[i]?=some (some v)->gi b=true->∀a∈a5 H' v b,a∉O∨a∈l7 ρ σ H i:=fun {b v} e e' o a ha=>by
   obtain⟨z,y⟩:=Bn e;rw [e'] at y;cases y;rw [z] at ha o;rcases new with ⟨d',y,q⟩ | ⟨q,q'⟩
   ·rw [y] at o; cases o
   ·exact(q' a ha).2
  by_cases hj:j=i
  ·subst hj
   obtain⟨k1,k2⟩:=no (bY Az) e2 e4;intro a ha z;rw [fe (bY Az) k1 o2 k2] at z;obtain⟨m1,m2⟩:=off (bY Az) k1 o2 k2 a z;rcases nw e1 e3 o1 a ha with y | y
   ·exact y m1
   ·exact m2 y
  ·obtain⟨j1,j2⟩:=no hj e1 e3
   by_cases hk:k=i
   ·subst hk
    intro a ha z;rw [fe hj j1 o1 j2] at ha;obtain⟨m1,m2⟩:=off hj j1 o1 j2 a ha;rcases nw e2 e4 o2 a z with y | y
    ·exact y m1
    ·exact m2 y
   ·obtain⟨k1,k2⟩:=no hk e2 e4
    rw [fe hj j1 o1 j2,fe hk k1 o2 k2];exact F.apart j k b c v w Az j1 k1 o1 o2 j2 k2
 ·by_cases hj:j=i
  ·subst hj
   obtain⟨z,_⟩:=Bn e;rcases new with ⟨d',y,q⟩ | ⟨q,_⟩
   ·rw [y] at z; cases z
   ·rw [← z] at q; exact q.elim
  ·rw [jy (bY hj)] at e ⊢
   obtain⟨v,q1,qp,q2,q3⟩:=F.bo j p dn un e;have kk:∀a∈a5 H v (.aQ dn un),a∈A'/\a∉O'/\H' a=H a:=fun a ha=>kb a (q3 a ha).1 (q3 a ha).2;refine⟨v,q1,qp,q2.off (fun a ha=>(kk a ha).2.2) hs,?_⟩;have fq:a5 H' v (.aQ dn un)=a5 H v (.aQ dn un):=uj fun a ea=>by
    obtain⟨a',z,ha⟩:=q2.fst;rw [ea] at z;cases z;exact(kk a ha).2.2
   rw [fq];exact fun a ha=>⟨(kk a ha).1,(kk a ha).2.1⟩
theorem set_same {σ:St}{i:Nat}(h:σ[i]?=some (some v)):σ.set i (some v)=σ:=by
 apply B7
 intro j
 by_cases hj:i=j
 ·subst hj
  rw [pF (ej.mp h).1,h]
 ·rw [jy hj]
end
noncomputable def Rg {α:Type}(cls:Nat->Addr)(E:XK)(m:M α)(H:Hp)(P:α->Prop):Prop:=match m with
 |.ok a=>P a
 |.ex c=>∀H',aw H H'->E (.ref (cls c)) none H'
 |.bad=>False
theorem Rg.bind {α β:Type}{cls:Nat->Addr}{E:XK}{m:M α}{k:α->M β}{H:Hp}{P:β->Prop}{P':α->Prop}(h:Rg cls E (m.bd k) H P)(f:∀a,m=.ok a->Rg cls E (k a) H P->P' a):Rg cls E m H P':=by
 cases m with
 |ok a=>exact f a rfl h
 |ex c=>exact h
 |bad=>exact h
theorem Rg.ok {α:Type}{cls:Nat->Addr}{E:XK}{m:M α}{H:Hp}{P P':α->Prop}(h:Rg cls E m H P)(f:∀a,m=.ok a->P a->P' a):Rg cls E m H P':=by
 cases m with
 |ok a=>exact f a rfl h
 |ex c=>exact h
 |bad=>exact h
theorem Rg.heap {α:Type}{cls:Nat->Addr}{E:XK}{m:M α}{H H':Hp}{P P':α->Prop}(h:Rg cls E m H P)(s:aw H H')(f:∀a,m=.ok a->P a->P' a):Rg cls E m H' P':=by
 cases m with
 |ok a=>exact f a rfl h
 |ex c=>exact fun H2 s2=>h H2 (s.trans s2)
 |bad=>exact h
section
variable (K:ah)(cls:Nat->Addr)(A:List Addr)(E:XK)
noncomputable def Res (m:M Dt)(H:Hp)(Q:VK):Prop:=Rg cls E m H fun d=>∀v H',aw H H'->Rep K (ao H' A) d v->sm d->Q v H'
noncomputable def vd (m:M Bool)(H:Hp)(Q:Bool->Hp->Prop):Prop:=Rg cls E m H fun b=>∀H',aw H H'->Q b H'
noncomputable def xY (m:M (List Dt))(H:Hp)(Q:List V->Hp->Prop):Prop:=Rg cls E m H fun ds=>∀vs H',aw H H'->av K (ao H' A) ds vs->bC ds->Q vs H'
noncomputable def aiK (m:M (Option Int))(H:Hp)(Q:Option Int->Hp->Prop):Prop:=Rg cls E m H fun o=>∀H',aw H H'->Q o H'
end
section
variable {K:ah}{cls:Nat->Addr}{A:List Addr}{E:XK}{H H':Hp}
theorem Res.mono {m:M Dt}{Q:VK}(h:Res K cls A E m H Q)(s:aw H H'):Res K cls A E m H' Q:=Rg.heap h s fun d _ p v H2 s2=>p v H2 (s.trans s2)
theorem vd.mono {m:M Bool}{Q:Bool->Hp->Prop}(h:vd cls E m H Q)(s:aw H H'):vd cls E m H' Q:=Rg.heap h s fun d _ p H2 s2=>p H2 (s.trans s2)
theorem xY.mono {m:M (List Dt)}{Q:List V->Hp->Prop}(h:xY K cls A E m H Q)(s:aw H H'):xY K cls A E m H' Q:=Rg.heap h s fun d _ p v H2 s2=>p v H2 (s.trans s2)
end
section
variable (K:ah)(cls:Nat->Addr)(E:XK)
inductive tM (f:aa->M Dt) (σ:St) (H:Hp) (Q:VK):Prop
 |mk (O A:List Addr) (ρ:aa) (F:bf K O A ρ σ H) (q:Res K cls A E (f ρ) H Q):tM f σ H Q
inductive eV (f:aa->M Bool) (σ:St) (H:Hp) (Q:Bool->Hp->Prop):Prop
 |mk (O A:List Addr) (ρ:aa) (F:bf K O A ρ σ H) (q:vd cls E (f ρ) H Q):eV f σ H Q
inductive mO (f:aa->M (List Dt)) (σ:St) (H:Hp) (Q:List V->Hp->Prop):Prop
 |mk (O A:List Addr) (ρ:aa) (F:bf K O A ρ σ H) (q:xY K cls A E (f ρ) H Q):mO f σ H Q
inductive y9 (f:aa->M (Option Int)) (σ:St) (H:Hp) (Q:Option Int->Hp->Prop):Prop
 |mk (O A:List Addr) (ρ:aa) (F:bf K O A ρ σ H) (q:aiK cls E (f ρ) H Q):y9 f σ H Q
inductive K0 (f:aa->M Unit) (σ:St) (H:Hp) (Q:VK):Prop
 |mk (O A:List Addr) (ρ:aa) (F:bf K O A ρ σ H) (q:Rg cls E (f ρ) H fun _=>∀v H',aw H H'->Q v H'):K0 f σ H Q
end
noncomputable abbrev Ev (X:Cx)(cls:Nat->Addr)(E:XK)(e:Expr)(f:aa->M Dt):Prop:=PE X e (tM X.K cls E f)
noncomputable abbrev Tv (X:Cx)(cls:Nat->Addr)(E:XK)(e:Expr)(f:aa->M Bool):Prop:=PT X e (eV X.K cls E f)
noncomputable abbrev Wv (X:Cx)(cls:Nat->Addr)(E:XK)(e:Expr)(f:aa->M Bool):Prop:=PW X e (eV X.K cls E f)
noncomputable abbrev Av (X:Cx)(cls:Nat->Addr)(E:XK)(es:List Expr)(f:aa->M (List Dt)):Prop:=PA X es (mO X.K cls E f)
theorem PE.imp {X:Cx}{e:Expr}{t t':TE}(h:PE X e t')(i:∀σ H Q,t σ H Q->t' σ H Q):PE X e t:=fun pins s σ H Q I hw=>h pins s σ H Q I (i σ H Q hw)
theorem PT.imp {X:Cx}{e:Expr}{t t':TT}(h:PT X e t')(i:∀σ H Q,t σ H Q->t' σ H Q):PT X e t:=fun pins s σ H Q I hw=>h pins s σ H Q I (i σ H Q hw)
theorem PW.imp {X:Cx}{e:Expr}{t t':TT}(h:PW X e t')(i:∀σ H Q,t σ H Q->t' σ H Q):PW X e t:=fun wh pins s σ H Q I hw=>h wh pins s σ H Q I (i σ H Q hw)
theorem PA.imp {X:Cx}{es:List Expr}{t t':TA}(h:PA X es t')(i:∀σ H Q,t σ H Q->t' σ H Q):PA X es t:=fun pos pins s σ H Q I hw=>h pos pins s σ H Q I (i σ H Q hw)
theorem PO.imp {X:Cx}{e:Option Expr}{t t':TO}(h:PO X e t')(i:∀σ H Q,t σ H Q->t' σ H Q):PO X e t:=fun pins s σ H Q I hw=>h pins s σ H Q I (i σ H Q hw)
section
variable {X:Cx}{cls:Nat->Addr}{E:XK}{a b c:Expr}{f g h:aa->M Dt}{pos:Pos}
theorem xy {e:Expr}{d:Dt}{v:V}(h:PE X e (tC v))(r:∀H,Rep X.K H d v)(z:sm d):Ev X cls E e (pC d):=h.imp fun σ H Q ⟨O,A,ρ,F,q⟩=>q v H (.refl _) (r _) z
theorem af {i:Nat}{x:Str}(h:PE X (.Name x pos) (eE i)):Ev X cls E (.Name x pos) (ae i):=h.imp fun σ H Q h_=>by
 obtain⟨O,A,ρ,F,q⟩:=h_;unfold ae gv at q
 split at q
 ·rename_i d e
  obtain⟨v,h1,h2,h3⟩:=F.val i d e;exact⟨v,h1,q v H (.refl _) h2 h3⟩
 ·exact q.elim
theorem aM {i j}:Ev X cls E (.Constant (.int i) j pos) (pC (.int i)):=xy wm (fun _=>ek) trivial
theorem Hz {i j}:Ev X cls E (.Constant (.bool i) j pos) (pC (.bl i)):=xy EB (fun _=>eJ) trivial
theorem a8 {l:List Nat}{x:Str}{j}(h:x=⟨l.toArray⟩:=by decide +kernel)(z:l.length<=10000:=by decide):Ev X cls E (.Constant (.str x) j pos) (pC (.str l)):=xy (jb h) (fun _=>mU) z
noncomputable def ez (X:Cx)(cls:Nat->Addr)(E:XK)(F:Value->Value->Sem Value)(op:Dt->Dt->M Dt):Prop:=
 ∃r,cb X F r/\∀A H Q d1 d2 x y,cJ H A->Rep X.K (ao H A) d1 x->Rep X.K (ao H A) d2 y->sm d1->sm d2->Res X.K cls A E (op d1 d2) H Q->r x y H Q
theorem t2 {r:R2}{op:Dt->Dt->M Dt}(ho:∀A H Q d1 d2 x y,cJ H A->Rep X.K (ao H A) d1 x->Rep X.K (ao H A) d2 y->sm d1->sm d2->Res X.K cls A E (op d1 d2) H Q->r x y H Q)(σ:St)(H:Hp)(Q:VK)
  (h:tM X.K cls E (p2 op f g) σ H Q):og r (tM X.K cls E f) (tM X.K cls E g) σ H Q:=by
 obtain⟨O,A,ρ,F,q⟩:=h;refine⟨O,A,ρ,F,Rg.bind q fun d1 _ q1=>?_⟩;intro v H1 s1 r1 z1;refine⟨O,A,ρ,F.mono s1,Rg.bind (Res.mono (Q:=Q) q1 s1) fun d2 _ q2=>?_⟩;intro u H2 s2 r2 z2;exact ho A H2 Q d1 d2 v u ((F.bD.mono s1).mono s2) (r1.mono (s2.ao A)) r2 z1 z2 (Res.mono q2 s2)
theorem cj {o:Operator}{op:Dt->Dt->M Dt}(ho:ez X cls E (binaryOp o) op)(ha:Ev X cls E a f)(hb:Ev X cls E b g):Ev X cls E (.BinOp a o b pos) (p2 op f g):=by
 obtain⟨r,h1,h2⟩:=ho;exact(zE h1 ha hb).imp (t2 h2)
theorem ji {o:CmpOp}{op:Dt->Dt->M Dt}(ho:ez X cls E (compareOp o) op)(ha:Ev X cls E a f)(hb:Ev X cls E b g)(hm:behindInMarks o b=false):Ev X cls E (.Compare a [o] [b] pos) (p2 op f g):=by
 obtain⟨r,h1,h2⟩:=ho;exact(XH h1 ha hb hm).imp (t2 h2)
theorem C6 {t:TE}{f:aa->M Dt}(h:∀σ H Q,tM X.K cls E f σ H Q->t σ H Q)(σ:St)(H:Hp)(Q:Bool->Hp->Prop)(q:eV X.K cls E (a6 f) σ H Q):y6 t σ H Q:=by
 obtain⟨O,A,ρ,F,q⟩:=q;refine h σ H _ ⟨O,A,ρ,F,Rg.bind q fun d _ q1=>?_⟩;intro v H1 s1 r1 z1
 cases d with
 |bl k=>
  simp only [Rep] at r1;exact⟨k,r1,q1 H1 s1⟩
 |_=>exact(show False from q1).elim
theorem cc {o:CmpOp}{op:Dt->Dt->M Dt}(ho:ez X cls E (compareOp o) op)(ha:Ev X cls E a f)(hb:Ev X cls E b g)(hm:behindInMarks o b=false):Tv X cls E (.Compare a [o] [b] pos) (a6 (p2 op f g)):=by
 obtain⟨r,h1,h2⟩:=ho;exact(zw h1 ha hb hm).imp (C6 (t2 h2))
theorem yW (ha:Ev X cls E a f)(he:∀whole,isTrue a X.env whole=(do let v ← whole; standAt a.pos; holding [v] (truthy v)):=by intro _; rfl):Tv X cls E a (a6 f):=
 (LU ha he).imp (C6 fun _ _ _ q=>q)
theorem UB {r r':R2}{op cM:Dt->Dt->M Dt}(ho:∀A H Q d1 d2 x y,cJ H A->Rep X.K (ao H A) d1 x->Rep X.K (ao H A) d2 y->sm d1->sm d2->Res X.K cls A E (op d1 d2) H Q->r x y H Q)
  (hW:∀A H Q d1 d2 x y,cJ H A->Rep X.K (ao H A) d1 x->Rep X.K (ao H A) d2 y->sm d1->sm d2->Res X.K cls A E (cM d1 d2) H Q->r' x y H Q) (σ:St) (H:Hp) (Q:VK)
  (q:tM X.K cls E (zK op cM f g h) σ H Q):K6 r r' (tM X.K cls E f) (tM X.K cls E g) (tM X.K cls E h) σ H Q:=by
 obtain⟨O,A,ρ,F,q⟩:=q;refine⟨O,A,ρ,F,Rg.bind q fun d1 _ q1=>?_⟩;intro v H1 s1 r1 z1;refine⟨O,A,ρ,F.mono s1,Rg.bind (Res.mono (Q:=Q) q1 s1) fun d2 _ q2=>?_⟩;intro u H2 s2 r2 z2;have R4:cJ H2 A:=(F.bD.mono s1).mono s2;refine ho A H2 _ d1 d2 v u R4 (r1.mono (s2.ao A)) r2 z1 z2 (Rg.bind (Res.mono (Q:=Q) q2 s2) fun d _ q3=>?_);intro w H3 s3 r3 z3
 cases d with
 |bl k=>
  simp only [Rep] at r3;refine⟨k,r3,?_⟩
  cases k with
  |false=>
   simp only [cT,if_false];have En:Res X.K cls A E (.ok (.bl false)) H2 Q:=q3;exact En (.bl false) H3 s3 eJ trivial
  |true=>
   simp only [if_true];have En:Res X.K cls A E ((h ρ).bd fun z=>cM d2 z) H2 Q:=q3;refine⟨O,A,ρ,((F.mono s1).mono s2).mono s3,Rg.bind (Res.mono (Q:=Q) En s3) fun d3 _ q4=>?_⟩;intro w' H4 s4 r4 z4;exact hW A H4 Q d2 d3 u w' ((R4.mono s3).mono s4) ((r2.mono (s3.ao A)).mono (s4.ao A)) r4 z2 z4 (Res.mono q4 s4)
 |_=>exact(show False from q3).elim
theorem T6 {o o':CmpOp}{op cM:Dt->Dt->M Dt}(ho:ez X cls E (compareOp o) op)(hW:ez X cls E (compareOp o') cM)(ha:Ev X cls E a f)(hb:Ev X cls E b g)(hc:Ev X cls E c h)
  (hm:lastMarks [o,o'] [b,c]=false:=by with_unfolding_all rfl):Tv X cls E (.Compare a [o,o'] [b,c] pos) (a6 (zK op cM f g h)):=by
 obtain⟨r,h1,h2⟩:=ho;obtain⟨r',l0,eZ⟩:=hW;exact(Xc h1 l0 ha hb hc hm).imp (C6 (UB h2 eZ))
variable {F G:aa->M Bool}
theorem Up {σ:St}{H:Hp}{Q:Bool->Hp->Prop}(q:eV X.K cls E (lE F G) σ H Q):De (eV X.K cls E F) (eV X.K cls E G) σ H Q:=by
 obtain⟨O,A,ρ,Ft,q⟩:=q;refine⟨O,A,ρ,Ft,Rg.bind q fun b _ q1=>?_⟩;intro H1 s1
 cases b with
 |false=>
  simp only [cT,if_false] at q1 ⊢;exact⟨O,A,ρ,Ft.mono s1,vd.mono q1 s1⟩
 |true=>
  simp only [if_true] at q1 ⊢;exact q1 H1 s1
theorem pL (ha:Tv X cls E a F):Wv X cls E (.BoolOp .Or [a] pos) F:=pw_or1 ha
theorem pM {rest:List Expr}(ha:Tv X cls E a F)(hb:Wv X cls E (.BoolOp .Or (b::rest) pos) G):Wv X cls E (.BoolOp .Or (a::b::rest) pos) (lE F G):=(pw_or ha hb).imp fun _ _ _ q=>Up q
theorem yX (ha:Tv X cls E a F):Tv X cls E (.UnaryOp .Not a pos) (tu F):=(LV ha).imp fun σ H Q ⟨O,A,ρ,Ft,q⟩=>⟨O,A,ρ,Ft,Rg.bind q fun b _ q1 H1 s1=>q1 H1 s1⟩
theorem ro (hc:Tv X cls E c F)(ha:Ev X cls E a f)(hb:Ev X cls E b g):Ev X cls E (.IfExp c a b pos) (jM F f g):=(EA hc ha hb).imp fun σ H Q h_=>by
 obtain⟨O,A,ρ,Ft,q⟩:=h_;refine⟨O,A,ρ,Ft,Rg.bind q fun b _ q1=>?_⟩;intro H1 s1
 cases b with
 |false=>
  simp only [cT,if_false] at q1 ⊢;exact⟨O,A,ρ,Ft.mono s1,Res.mono q1 s1⟩
 |true=>
  simp only [if_true] at q1 ⊢;exact⟨O,A,ρ,Ft.mono s1,Res.mono q1 s1⟩
theorem Hx (ha:Ev X cls E a f):Ev X cls E (.UnaryOp .USub a pos) (p1 wy f):=(Mb Ks ha).imp fun σ H Q h_=>by
 obtain⟨O,A,ρ,Ft,q⟩:=h_;refine⟨O,A,ρ,Ft,Rg.bind q fun d _ q1=>?_⟩;intro v H1 s1 r1 z1
 cases d with
 |int b=>
  simp only [Rep] at r1;exact⟨b,r1,q1 _ H1 s1 ek trivial⟩
 |_=>exact(show False from q1).elim
theorem dg {H:Hp}{i:Int}{v:V}(h:Rep X.K H (.int i) v):v=.int i:=by simpa only [Rep] using h
theorem cK {H:Hp}{l:List Nat}{v:V}(h:Rep X.K H (.str l) v):v=S l:=by simpa only [Rep] using h
theorem qi {H:Hp}{b:Bool}{v:V}(h:Rep X.K H (.bl b) v):v=.bl b:=by simpa only [Rep] using h
theorem tK {H:Hp}{v:V}(h:Rep X.K H .aI v):v=.aI:=by simpa only [Rep] using h
inductive LstAt (K:ah) (H:Hp) (ds:List Dt) (v:V):Prop
 |mk (a:Addr) (xs:List V) (e:v=.ref a) (h1:bP K H a xs) (h2:av K H ds xs):LstAt K H ds v
inductive TupAt (K:ah) (H:Hp) (ds:List Dt) (v:V):Prop
 |mk (a:Addr) (xs:List V) (e:v=.ref a) (h1:cX K H a xs) (h2:av K H ds xs):TupAt K H ds v
theorem fK {K:ah}{H:Hp}{ds:List Dt}{v:V}(h:Rep K H (.lst ds) v):LstAt K H ds v:=by
 simp only [Rep] at h;obtain⟨a,xs,h1,h2,h3⟩:=h;exact⟨a,xs,h1,h2,h3⟩
theorem iz {K:ah}{H:Hp}{ds:List Dt}{v:V}(h:Rep K H (.tup ds) v):TupAt K H ds v:=by
 simp only [Rep] at h;obtain⟨a,xs,h1,h2,h3⟩:=h;exact⟨a,xs,h1,h2,h3⟩
theorem Dj {A:List Addr}{H:Hp}{Q:VK}{l:List Nat}(q:Res X.K cls A E (lG l) H Q):l.length<=10000/\Q (S l) H:=by
 unfold lG at q
 split at q
 ·rename_i h
  exact⟨h,q (S l) H (.refl _) mU h⟩
 ·exact(show False from q).elim
theorem jH {n:Nat}(h:n<=10000):n<=sizeLine:=c9 h (by decide)
theorem Lb {A:List Addr}{H:Hp}{Q:VK}{l:List Dt}{xs:List V}(q:Res X.K cls A E (gE l) H Q)(L:cJ H A)(r:av X.K (ao H A) l xs)(z:bC l):l.length<=10000/\∀p,H p=none->Q (.ref p) (upd H p (.lst xs)):=by
 unfold gE at q
 split at q
 ·rename_i h
  refine⟨h,fun p hp=>q (.ref p) _ (.upd hp) (wd (nt L hp) (r.mono ((aw.upd hp).ao A))) ⟨h,z⟩⟩
 ·exact(show False from q).elim
noncomputable def W4 (K:ah):R2:=fun x y H Q=>∃l b xs zs,x=.ref l/\y=.ref b/\bP K H l xs/\bP K H b zs/\xs.length+zs.length<=sizeLine/\∀p,H p=none->Q (.ref p) (upd H p (.lst (xs++zs)))
theorem EH:cb X (binaryOp .Add) (W4 X.K):=by
 intro pins s σ H x y v u Q I rx ry h;obtain⟨l,b,xs,zs,rfl,rfl,hH,hB,hz,q⟩:=h;cases rx;cases ry;obtain⟨vs,r,pl,_⟩:=I.list hH;obtain⟨ws,r2,Xp,_⟩:=I.list hB;have hl:=r.length;have nr:=r2.length;obtain⟨⟨cl,dd,data,sl⟩,n,ho,hc,hd,OO⟩:=pl;obtain⟨⟨cl2,HQ,data2,oh⟩,n2,qL,xq,hd2,ON⟩:=Xp
 simp only at hc hd OO xq hd2 ON
 subst hc hd OO xq hd2 ON;have e:vs.toArray++ws.toArray=(vs++ws).toArray:=by simp
 refine concat_meets ⟨_,ho,rfl⟩ ⟨_,qL,rfl⟩ noFill_list_add seq_list_add PySem.F.slot_list_add PySem.F.entry_list_add (PySem.F.args_list_add_2 _ _) (list_addW l b vs.toArray ws.toArray n n2 none none sl oh (by simp; omega)) ⟨ho,qL,?_⟩;rw [e];exact(fun ht=>⟨.ref _,_,I.Nl (t':=s.toks) (r.append r2) (by rw [jw]; omega),rfl,q _ I.fresh⟩)
theorem dY:ez X cls E (binaryOp .Add) cG:=by
 refine⟨_,Yp.or (Yo.or EH),fun A H Q d1 d2 x y L r1 r2 z1 z2 q=>?_⟩
 cases d1 with
 |int i=>
  cases d2 with
  |int j=>exact .inl ⟨i,j,dg r1,dg r2,q _ H (.refl _) ek trivial⟩
  |_=>exact(show False from q).elim
 |str l=>
  cases d2 with
  |str m=>
   obtain⟨h,q⟩:=Dj q;exact .inr (.inl ⟨l,m,cK r1,cK r2,jH (by simpa using h),q⟩)
  |_=>exact(show False from q).elim
 |lst l=>
  cases d2 with
  |lst m=>
   obtain⟨p,xs,rfl,h1,h2⟩:=fK r1;obtain⟨p',ys,rfl,l0,eZ⟩:=fK r2;have e1:=h2.length;have e2:=eZ.length;obtain⟨h,q⟩:=Lb q L (h2.append eZ) (tG z1.2 z2.2);exact .inr (.inr ⟨p,p',xs,ys,rfl,rfl,bO.seq h1,bO.seq l0,jH (by simp at h; omega),q⟩)
  |_=>exact(show False from q).elim
 |_=>cases d2 <;> exact(show False from q).elim
theorem MB {F:Value->Value->Sem Value}{C:Int->Int->Prop}[∀i j,Decidable (C i j)]{k:Int->Int->V}{kd:Int->Int->Dt}{op:Dt->Dt->M Dt}(h:cb X F (rI C k))(hk:∀i j H,Rep X.K H (kd i j) (k i j)/\sm (kd i j))(h1:∀i j,op (.int i) (.int j)=if C i j then .ok (kd i j) else .bad)
  (h2:∀d1 d2,(∀i j,¬ (d1=.int i/\d2=.int j))->op d1 d2=.bad):ez X cls E F op:=by
 refine⟨_,h,fun A H Q d1 d2 x y L r1 r2 z1 z2 q=>?_⟩
 by_cases hh:∃i j,d1=.int i/\d2=.int j
 ·obtain⟨i,j,rfl,rfl⟩:=hh
  rw [h1] at q
  split at q
  ·rename_i hc
   exact⟨i,j,dg r1,dg r2,hc,q _ H (.refl _) (hk i j _).1 (hk i j H).2⟩
  ·exact(show False from q).elim
 ·rw [h2 d1 d2 fun i j z=>hh ⟨i,j,z⟩] at q
  exact(show False from q).elim
theorem EM {F:Value->Value->Sem Value}{k:Int->Int->V}{kd:Int->Int->Dt}{op:Dt->Dt->M Dt}(h:cb X F (ou k))(hk:∀i j H,Rep X.K H (kd i j) (k i j)/\sm (kd i j))(h1:∀i j,op (.int i) (.int j)=.ok (kd i j))
  (h2:∀d1 d2,(∀i j,¬ (d1=.int i/\d2=.int j))->op d1 d2=.bad):ez X cls E F op:=by
 refine⟨_,h,fun A H Q d1 d2 x y L r1 r2 z1 z2 q=>?_⟩
 by_cases hh:∃i j,d1=.int i/\d2=.int j
 ·obtain⟨i,j,rfl,rfl⟩:=hh
  rw [h1] at q;exact⟨i,j,dg r1,dg r2,q _ H (.refl _) (hk i j _).1 (hk i j H).2⟩
 ·rw [h2 d1 d2 fun i j z=>hh ⟨i,j,z⟩] at q
  exact(show False from q).elim
theorem wB {op:Dt->Dt->M Dt}(h:∀d1 d2,op d1 d2=.bad∨∃i j,d1=.int i/\d2=.int j)(d1 d2:Dt)(hn:∀i j,¬ (d1=.int i/\d2=.int j)):op d1 d2=.bad:=by
 rcases h d1 d2 with h | ⟨i,j,h⟩
 ·exact h
 ·exact(hn i j h).elim
theorem zP:ez X cls E (binaryOp .Mod) oMod:=MB Yd (fun _ _ _=>⟨ek,trivial⟩) (fun _ _=>rfl) (wB fun d1 d2=>by unfold oMod; split; exact .inr ⟨_,_,rfl,rfl⟩; exact .inl rfl)
theorem Mx:ez X cls E (compareOp .Lt) oLt:=EM Ye (fun _ _ _=>⟨eJ,trivial⟩) (fun _ _=>rfl) (wB fun d1 d2=>by unfold oLt; split; exact .inr ⟨_,_,rfl,rfl⟩; exact .inl rfl)
theorem My:ez X cls E (compareOp .LtE) oLe:=EM Yf (fun _ _ _=>⟨eJ,trivial⟩) (fun _ _=>rfl) (wB fun d1 d2=>by unfold oLe; split; exact .inr ⟨_,_,rfl,rfl⟩; exact .inl rfl)
theorem Mz:ez X cls E (compareOp .Gt) oG:=EM Mp (fun _ _ _=>⟨eJ,trivial⟩) (fun _ _=>rfl) (wB fun d1 d2=>by unfold oG; split; exact .inr ⟨_,_,rfl,rfl⟩; exact .inl rfl)
noncomputable instance (i j:Int):Decidable (JM i j):=by unfold JM; infer_instance
theorem Y5:ez X cls E (binaryOp .FloorDiv) oDiv:=MB Yk (fun _ _ _=>⟨ek,trivial⟩) (fun _ _=>rfl) (wB fun d1 d2=>by unfold oDiv; split; exact .inr ⟨_,_,rfl,rfl⟩; exact .inl rfl)
theorem qq:ez X cls E (binaryOp .Mult) jN:=by
 refine⟨_,Yc.or X4,fun A H Q d1 d2 x y L r1 r2 z1 z2 q=>?_⟩
 cases d1 with
 |int i=>
  cases d2 with
  |int j=>
   simp only [jN] at q
   split at q
   ·rename_i h
    exact .inl ⟨i,j,dg r1,dg r2,h,q _ H (.refl _) ek trivial⟩
   ·exact(show False from q).elim
  |_=>exact(show False from q).elim
 |str l=>
  cases d2 with
  |int j=>
   simp only [jN] at q
   split at q
   ·rename_i h
    exact .inr ⟨l,j,cK r1,dg r2,h.1,h.2.1,h.2.2,(Dj q).2⟩
   ·exact(show False from q).elim
  |_=>exact(show False from q).elim
 |_=>cases d2 <;> exact(show False from q).elim
theorem cE (hu:X.A.units+50<cLine):ez X cls E (compareOp .Eq) oEq:=by
 refine⟨_,Yl hu,fun A H Q d1 d2 x y L r1 r2 z1 z2 q=>?_⟩;unfold oEq at q
 split at q
 ·rename_i h
  exact⟨d1,d2,r1.mono bO,r2.mono bO,h,q _ H (.refl _) eJ trivial⟩
 ·exact(show False from q).elim
theorem qo (hu:X.A.units+50<cLine):ez X cls E (compareOp .NotEq) eW:=by
 refine⟨_,Ya hu,fun A H Q d1 d2 x y L r1 r2 z1 z2 q=>?_⟩;unfold eW at q
 split at q
 ·rename_i h
  exact⟨d1,d2,r1.mono bO,r2.mono bO,h,q _ H (.refl _) eJ trivial⟩
 ·exact(show False from q).elim
end
section
variable {X:Cx}{cls:Nat->Addr}{E:XK}{a b c:Expr}{f g h:aa->M Dt}{pos:Pos}
theorem Hr {H:Hp}{d:Dt}{v:V}(h:l9 d=true)(r:Rep X.K H d v):gV v=true:=by
 cases d with
 |aI=>cases tK r; rfl
 |bl b=>cases qi r; rfl
 |int i=>cases dg r; rfl
 |str l=>cases cK r; rfl
 |_=>cases h
theorem adH {H H':Hp}{d e:Dt}{v w:V}(h1:l9 d=true)(h2:l9 e=true)(r1:Rep X.K H d v)(r2:Rep X.K H' e w):dM v w=bV d e:=by
 cases d with
 |aI=>
  cases tK r1
  cases e with
  |aI=>cases tK r2; rfl
  |bl b=>cases qi r2; rfl
  |int i=>cases dg r2; rfl
  |str l=>cases cK r2; rfl
  |_=>cases h2
 |bl b=>
  cases qi r1
  cases e with
  |aI=>cases tK r2; rfl
  |bl b'=>cases qi r2; cases b <;> cases b' <;> rfl
  |int i=>cases dg r2; first | rfl | (cases b <;> simp [dM,bV,b2i])
  |str l=>cases cK r2; rfl
  |_=>cases h2
 |int i=>
  cases dg r1
  cases e with
  |aI=>cases tK r2; rfl
  |bl b=>cases qi r2; first | rfl | (cases b <;> simp [dM,bV,b2i])
  |int j=>cases dg r2; first | rfl | simp [dM,bV]
  |str l=>cases cK r2; rfl
  |_=>cases h2
 |str l=>
  cases cK r1
  cases e with
  |aI=>cases tK r2; rfl
  |bl b=>cases qi r2; rfl
  |int j=>cases dg r2; rfl
  |str m=>cases cK r2; first | exact Dr l m | simp [dM,bV,Dr]
  |_=>cases h2
 |_=>cases h1
theorem Hq {H:Hp}:∀{ds:List Dt}{xs:List V},ds.all l9=true->av X.K H ds xs->xs.all gV=true
 | [],_,_,r=>by simp only [av] at r; subst r; rfl
 |d::ds,_,h,r=>by
  simp only [av] at r;obtain⟨x,t,rfl,r1,r2⟩:=r;rw [mz,nW] at h ⊢;exact⟨Hr h.1 r1,Hq h.2 r2⟩
theorem FP {H H':Hp}{e:Dt}{w:V}(he:l9 e=true)(re:Rep X.K H' e w):∀{ds:List Dt}{xs:List V},ds.all l9=true->av X.K H ds xs->wX w xs=ds.any fun d=>bV d e
 | [],_,_,r=>by simp only [av] at r; subst r; rfl
 |d::ds,_,h,r=>by
  simp only [av] at r;obtain⟨x,t,rfl,r1,r2⟩:=r;rw [mz,nW] at h;unfold wX;rw [nO,nO,adH h.1 he r1 re];have:=FP he re h.2 r2;unfold wX at this;rw [this]
theorem LP {A:List Addr}{H:Hp}{Q:Bool->Prop}{d1 d2:Dt}{x y:V}{neg:Bool}{QQ:VK}(r1:Rep X.K (ao H A) d1 x)(r2:Rep X.K (ao H A) d2 y)(hq:∀k,fN d1 d2=.ok (.bl k)->QQ (.bl (if neg then !k else k)) H)(hb:∃k,fN d1 d2=.ok (.bl k)) :
  Ei neg x y H QQ∨Ej X.K neg x y H QQ:=by
 obtain⟨k,hk⟩:=hb;have q:=hq k hk;unfold fN at hk
 split at hk
 ·rename_i c l
  injection hk with hk;injection hk with hk;subst hk;exact .inl ⟨c,l,cK r1,cK r2,q⟩
 ·rename_i ds _
  split at hk
  ·rename_i hc
   injection hk with hk;injection hk with hk;obtain⟨p,xs,rfl,h1,h2⟩:=fK r2;refine .inr ⟨p,xs,rfl,.inl (bO.seq h1),Hr hc.1 r1,Hq hc.2 h2,?_⟩;rw [FP hc.1 r1 hc.2 h2,hk];exact q
  ·cases hk
 ·rename_i ds _
  split at hk
  ·rename_i hc
   injection hk with hk;injection hk with hk;obtain⟨p,xs,rfl,h1,h2⟩:=iz r2;refine .inr ⟨p,xs,rfl,.inr (bO.f9 h1),Hr hc.1 r1,Hq hc.2 h2,?_⟩;rw [FP hc.1 r1 hc.2 h2,hk];exact q
  ·cases hk
 ·cases hk
theorem MD {d1 d2 d:Dt}(h:fN d1 d2=.ok d):∃k,d=.bl k:=by
 unfold fN at h
 split at h
 ·injection h with h; exact⟨_,h.symm⟩
 ·split at h
  ·injection h with h; exact⟨_,h.symm⟩
  ·cases h
 ·split at h
  ·injection h with h; exact⟨_,h.symm⟩
  ·cases h
 ·cases h
theorem MC {d1 d2:Dt}{c:Nat}(h:fN d1 d2=.ex c):False:=by
 unfold fN at h
 split at h
 ·cases h
 ·split at h <;> cases h
 ·split at h <;> cases h
 ·cases h
theorem Y4:ez X cls E (compareOp .In) fN:=by
 refine⟨_,Yi.or Yh,fun A H Q d1 d2 x y L r1 r2 z1 z2 q=>?_⟩
 cases hm:fN d1 d2 with
 |ok d=>
  obtain⟨k,rfl⟩:=MD hm;rw [hm] at q;refine LP (Q:=fun _=>True) (neg:=false) r1 r2 (fun k' jd=>?_) ⟨k,hm⟩;rw [hm] at jd;cases jd;exact q _ H (.refl _) eJ trivial
 |ex c=>exact(MC hm).elim
 |bad=>rw [hm] at q; exact(show False from q).elim
theorem Y3:ez X cls E (compareOp .NotIn) zQ:=by
 refine⟨_,X8.or X7,fun A H Q d1 d2 x y L r1 r2 z1 z2 q=>?_⟩;unfold zQ at q
 cases hm:fN d1 d2 with
 |ok d=>
  obtain⟨k,rfl⟩:=MD hm;rw [hm] at q;refine LP (Q:=fun _=>True) (neg:=true) r1 r2 (fun k' jd=>?_) ⟨k,hm⟩;rw [hm] at jd;cases jd;exact q _ H (.refl _) eJ trivial
 |ex c=>exact(MC hm).elim
 |bad=>rw [hm] at q; exact(show False from q).elim
theorem LH {K:ah}{H:Hp}{ds:List Dt}{xs:List V}(r:av K H ds xs){i:Int}{d:Dt}(h:cA ds i=some d):∃x,iR xs i=some x/\Rep K H d x:=by
 have hl:=r.length;unfold cA at h;have e:t4 ds.length i=nc xs.length i:=by rw [hl]; rfl
 unfold iR;rw [← e]
 cases hj:t4 ds.length i with
 |none=>rw [hj] at h; cases h
 |some j=>
  rw [hj] at h;simp only [Option.bind_some] at h ⊢;have aR:j<ds.length:=(ej.mp h).1;have hx:xs[j]?=some (xs[j]'(by omega)):=by simp
  obtain⟨d',h1,h2⟩:=r.get hx;rw [h] at h1;cases h1;exact⟨_,hx,h2⟩
theorem Rm {α:Type}{l:List α}{i:Int}{x:α}(h:cA l i=some x):x∈l:=by
 unfold cA at h
 cases hj:t4 l.length i with
 |none=>rw [hj] at h; cases h
 |some j=>rw [hj] at h; exact kg h
theorem bS (ha:Ev X cls E a f)(hb:Ev X cls E b g)(hs:Jv b):Ev X cls E (.Subscript a b pos) (p2 aO f g):=by
 refine(wk (aaG.or (FI.or N5)) ha hb hs).imp (t2 fun A H Q d1 d2 x y L r1 r2 z1 z2 q=>?_)
 cases d1 with
 |str l=>
  cases d2 with
  |int i=>
   simp only [aO,Ah] at q
   split at q
   ·rename_i c hc
    exact .inl ⟨l,i,c,cK r1,dg r2,jH z1,hc,q _ H (.refl _) mU (by show 1<=10000; decide)⟩
   ·exact(show False from q).elim
  |_=>exact(show False from q).elim
 |lst l=>
  cases d2 with
  |int i=>
   simp only [aO,qC] at q
   split at q
   ·rename_i d hd
    obtain⟨p,xs,rfl,h1,h2⟩:=fK r1;obtain⟨v,hv,rv⟩:=LH h2 hd;exact .inr (.inl ⟨p,xs,i,v,rfl,dg r2,bO.seq h1,hv,q v H (.refl _) rv (ix z1.2 (Rm hd))⟩)
   ·exact(show False from q).elim
  |_=>exact(show False from q).elim
 |tup l=>
  cases d2 with
  |int i=>
   simp only [aO,qC] at q
   split at q
   ·rename_i d hd
    obtain⟨p,xs,rfl,h1,h2⟩:=iz r1;obtain⟨v,hv,rv⟩:=LH h2 hd;exact .inr (.inr ⟨p,xs,i,v,rfl,dg r2,bO.f9 h1,hv,q v H (.refl _) rv (ix z1.2 (Rm hd))⟩)
   ·exact(show False from q).elim
  |_=>exact(show False from q).elim
 |_=>cases d2 <;> exact(show False from q).elim
theorem LG {K:ah}{H:Hp}:∀(n:Nat){ds:List Dt}{xs:List V},av K H ds xs->av K H (ds.drop n) (xs.drop n)
 |0,_,_,r=>r
 |n+1,[],_,r=>by simp only [av] at r; subst r; exact .nil
 |n+1,d::ds,_,r=>by
  simp only [av] at r;obtain⟨x,t,rfl,_,r2⟩:=r;exact LG n r2
theorem XW:PO X none (y9 X.K cls E (wq none)):=Xm.imp fun σ H Q ⟨O,A,ρ,F,q⟩=>q H (.refl _)
theorem EE {e:Expr}(he:Ev X cls E e f):PO X (some e) (y9 X.K cls E (wq (some f))):=(Xl he).imp fun σ H Q h_=>by
 obtain⟨O,A,ρ,F,q⟩:=h_;refine⟨O,A,ρ,F,Rg.bind q fun d _ q1=>?_⟩;intro v H1 s1 r1 z1
 cases d with
 |int i=>exact⟨i,dg r1,q1 H1 s1⟩
 |_=>exact(show False from q1).elim
variable {fs:aa->M (List Dt)}{es:List Expr}
theorem aA:Av X cls E [] au:=cL.imp fun σ H Q ⟨O,A,ρ,F,q⟩=>q [] H (.refl _) .nil trivial
theorem ai (bj:isStar a=false)(ha:Ev X cls E a f)(hr:Av X cls E es fs):Av X cls E (a::es) (ag f fs):=(bh _ _ _ _ _ bj ha hr).imp fun σ H Q h_=>by
 obtain⟨O,A,ρ,F,q⟩:=h_;refine⟨O,A,ρ,F,Rg.bind q fun d _ q1=>?_⟩;intro v H1 s1 r1 z1;refine⟨O,A,ρ,F.mono s1,Rg.bind (xY.mono (Q:=Q) q1 s1) fun ds _ q2=>?_⟩;intro vs H2 s2 r2 z2;exact q2 (v::vs) H2 s2 (.cons (r1.mono (s2.ao A)) r2) ⟨z1,z2⟩
theorem ma (h:Av X cls E es fs):Ev X cls E (.List es pos) (gR fs):=(m4 h).imp fun σ H Q h_=>by
 obtain⟨O,A,ρ,F,q⟩:=h_;refine⟨O,A,ρ,F,Rg.bind q fun ds _ q1=>?_⟩;intro vs H1 s1 r1 z1;obtain⟨h1,h2⟩:=Lb (Res.mono (Q:=Q) q1 s1) (F.bD.mono s1) r1 z1;exact⟨jH (by rw [← r1.length]; exact h1),h2⟩
theorem ib {k}(h:Av X cls E es fs):Ev X cls E (.Tuple es k pos) (fw fs):=(zD h).imp fun σ H Q h_=>by
 obtain⟨O,A,ρ,F,q⟩:=h_;refine⟨O,A,ρ,F,Rg.bind q fun ds _ q1=>?_⟩;intro vs H1 s1 r1 z1;have jK:=Res.mono (Q:=Q) q1 s1
 split at jK
 ·rename_i hl
  refine⟨jH (by rw [← r1.length]; exact hl),fun p hp=>jK (.ref p) _ (.upd hp) (qg (nt (F.bD.mono s1) hp) (r1.mono ((aw.upd hp).ao A))) ⟨hl,z1⟩⟩
 ·exact(show False from jK).elim
theorem adt {ED:Pos}(h:Av X cls E es fs)(hg:Ev X cls E b g):Ev X cls E (.BinOp (.List es ED) .Mult b pos) (EC fs g):=(zE X5 (m4 h) hg).imp fun σ H Q h_=>by
 obtain⟨O,A,ρ,F,q⟩:=h_;refine⟨O,A,ρ,F,Rg.bind q fun ds _ q1=>?_⟩;intro vs H1 s1 r1 z1;have jK:=Res.mono (Q:=Q) q1 s1
 split at jK
 ·rename_i hl
  have hlen:=r1.length;refine⟨jH (by omega),fun p hp=>?_⟩;have s2:aw H1 (upd H1 p (.lst vs)):=.upd hp;refine⟨O,A,ρ,(F.mono s1).mono s2,Rg.bind (Res.mono (Q:=Q) jK s2) fun d _ q3=>?_⟩;intro v H3 s3 r3 z3
  cases d with
  |int n=>
   simp only [qh] at q3
   split at q3
   ·rename_i hn
    refine⟨p,n,vs,rfl,dg r3,s3 _ _ aU,by omega,by omega,jH (by rw [← hlen]; exact hn.2.2),fun p' dJ=>?_⟩;have L3:cJ H3 A:=((F.bD.mono s1).mono s2).mono s3;have rr:∀k:Nat,av X.K (ao H3 A) (a7 k ds).flatten (a7 k vs).flatten:=fun k=>by
     induction k with
     |zero=>exact .nil
     |succ k ih=>
      rw [ly,ly,nX,nX];exact(r1.mono ((s2.trans s3).ao A)).append ih
    refine q3 (.ref p') _ (s3.trans (.upd dJ)) (wd (nt L3 dJ) ((rr _).mono ((aw.upd dJ).ao A))) ⟨?_,mS fun d hd=>?_⟩
    ·rw [len_rep,Nat.mul_comm]
     exact hn.2.2
    ·obtain⟨l,hl,hd⟩:=List.mem_flatten.mp hd
     rw [(List.mem_replicate.mp hl).2] at hd;exact ix z1 hd
   ·exact(show False from q3).elim
  |_=>exact(show False from q3).elim
 ·exact(show False from jK).elim
noncomputable def rP (X:Cx)(cls:Nat->Addr)(E:XK)(fv:Value)(F:List Dt->M Dt):Prop:=
 ∃r,fi X fv r/\∀A H Q ds vs,cJ H A->av X.K (ao H A) ds vs->bC ds->Res X.K cls A E (F ds) H Q->r vs H Q
variable {F':List Dt->M Dt}
theorem KQ {r:List V->Hp->VK->Prop}(h:∀A H Q ds vs,cJ H A->av X.K (ao H A) ds vs->bC ds->Res X.K cls A E (F' ds) H Q->r vs H Q)(σ:St)(H:Hp)(Q:VK)(q:tM X.K cls E (aN F' fs) σ H Q):vP r (mO X.K cls E fs) σ H Q:=by
 obtain⟨O,A,ρ,F,q⟩:=q;refine⟨O,A,ρ,F,Rg.bind q fun ds _ q1=>?_⟩;intro vs H1 s1 r1 z1;exact h A H1 Q ds vs (F.bD.mono s1) r1 z1 (Res.mono q1 s1)
theorem ic {x:Str}{id:String}{p:Pos}(hc:rP X cls E (.builtin id) F')(hg:Gl X x)(hm:X.mg x=none)(hv:bootBuiltins x=some (.builtin id))(ha:Av X cls E (a::es) fs)(hn:x≠"__name__" := by decide)(gk:(x==("__debug__" : Str))=false:=by decide)
  (he:starEach (a::es) X.env=(false,eval a X.env)::starEach es X.env:=by rfl) (dA:(backTo pos (starEach es X.env)).any (·.1)=false:=by rfl):Ev X cls E (.Call (.Name x p) (a::es) [] pos) (aN F' fs):=by
 obtain⟨r,h1,h2⟩:=hc;exact(iB h1 hg hm hv ha hn gk he dA).imp (KQ h2)
theorem uo {x:Str}{T:String}{p:Pos}(hc:rP X cls E (.type T) F')(hg:Gl X x)(hm:X.mg x=none)(hv:bootBuiltins x=some (.type T))(ha:Av X cls E (a::es) fs)(hn:x≠"__name__" := by decide)(gk:(x==("__debug__" : Str))=false:=by decide)
  (he:starEach (a::es) X.env=(false,eval a X.env)::starEach es X.env:=by rfl) (dA:(backTo pos (starEach es X.env)).any (·.1)=false:=by rfl):Ev X cls E (.Call (.Name x p) (a::es) [] pos) (aN F' fs):=by
 obtain⟨r,h1,h2⟩:=hc;exact(zG h1 hg hm hv ha hn gk he dA).imp (KQ h2)
theorem jJ {K:ah}{H:Hp}{d:Dt}{vs:List V}(h:av K H [d] vs):∃v,vs=[v]/\Rep K H d v:=by
 simp only [av] at h;obtain⟨x,r,rfl,h1,rfl⟩:=h;exact⟨x,rfl,h1⟩
theorem oj {K:ah}{H:Hp}{d e:Dt}{vs:List V}(h:av K H [d,e] vs):∃v w,vs=[v,w]/\Rep K H d v/\Rep K H e w:=by
 simp only [av] at h;obtain⟨x,r,rfl,h1,y,t,rfl,h2,rfl⟩:=h;exact⟨x,y,rfl,h1,h2⟩
theorem jZ:rP X cls E (.builtin "len") eu:=by
 refine⟨_,aeY.or Bf,fun A H Q ds vs L r z q=>?_⟩;unfold eu at q
 split at q
 ·rename_i l
  obtain⟨v,rfl,rv⟩:=jJ r;exact .inl ⟨l,by rw [cK rv],jH z.1,q _ H (.refl _) ek trivial⟩
 ·rename_i l
  obtain⟨v,rfl,rv⟩:=jJ r;obtain⟨p,xs,rfl,h1,h2⟩:=fK rv;refine .inr ⟨p,xs,rfl,.inl (bO.seq h1),?_⟩;rw [← h2.length];exact q _ H (.refl _) ek trivial
 ·rename_i l
  obtain⟨v,rfl,rv⟩:=jJ r;obtain⟨p,xs,rfl,h1,h2⟩:=iz rv;refine .inr ⟨p,xs,rfl,.inr (bO.f9 h1),?_⟩;rw [← h2.length];exact q _ H (.refl _) ek trivial
 ·exact(show False from q).elim
theorem aeQ (hc:X.calm=true):rP X cls E (.builtin "min") Bm:=by
 refine⟨_,aeW hc,fun A H Q ds vs L r z q=>?_⟩;unfold Bm at q
 split at q
 ·rename_i i j
  obtain⟨v,w,rfl,r1,r2⟩:=oj r;exact⟨i,j,by rw [dg r1,dg r2],q _ H (.refl _) ek trivial⟩
 ·exact(show False from q).elim
theorem Ra {K:ah}{H:Hp}:∀{ds:List Dt}{bs:List Bool}{xs:List V},bools ds=some bs->av K H ds xs->xs=bs.map V.bl
 | [],bs,xs,h,r=>by
  simp only [av] at r;simp only [bools,vA] at h;subst r h;rfl
 |d::ds,bs,xs,h,r=>by
  simp only [av] at r;obtain⟨x,t,rfl,r1,r2⟩:=r
  cases d with
  |bl b=>
   simp only [bools,iZ] at h;obtain⟨cs,hc,rfl⟩:=h;rw [Ra hc r2,bG];simp only [Rep] at r1;rw [r1]
  |_=>simp [bools] at h
theorem Q6 (hc:X.calm=true):rP X cls E (.builtin "all") xQ:=by
 refine⟨_,ae4 hc,fun A H Q ds vs L r z q=>?_⟩;unfold xQ at q
 split at q
 ·rename_i l
  obtain⟨v,rfl,rv⟩:=jJ r;obtain⟨p,xs,rfl,h1,h2⟩:=fK rv;unfold va at q
  split at q
  ·rename_i bs hb
   rw [Ra hb h2] at h1;exact⟨p,bs,rfl,bO.seq h1,q _ H (.refl _) eJ trivial⟩
  ·exact(show False from q).elim
 ·exact(show False from q).elim
theorem Ea {K:ah}{H:Hp}:∀l:List Nat,av K H (eF l) (gK l)
 | []=>.nil
 |c::l=>.cons mU (Ea l)
theorem Ln (l:List Nat):bC (eF l):=mS fun d hd=>by
 obtain⟨c,_,rfl⟩:=df.mp hd;show 1<=10000
 decide
inductive pZ (K:ah) (cls:Nat->Addr) (F:List Dt->M Dt) (vs:List V) (H:Hp) (Q:VK) (E:XK):Prop
 |mk (A:List Addr) (ds:List Dt) (L:cJ H A) (r:av K (ao H A) ds vs) (z:bC ds) (q:Res K cls A E (F ds) H Q):pZ K cls F vs H Q E
theorem cu {k:Nat}{x:Str}{ps:List Str}{p:Pos}{CX:fU}(C:rO X.prog X.w X.K X.mg X.base CX k x ps (pZ X.K cls F'))(hr:bF k X.A)(hx:Passes CX X E)(ha:Av X cls E (a::es) fs)(bj:isStar a=false:=by rfl)(hg:Gl X x:=by rfl)
  (gk:(x==("__debug__" : Str))=false:=by decide) (dA:(backTo pos (starEach es X.env)).any (·.1)=false:=by rfl):Ev X cls E (.Call (.Name x p) (a::es) [] pos) (aN F' fs):=
 (Mg C hr hx ha bj hg gk dA).imp fun σ H Q ⟨O,A,ρ,F,q⟩=>by
 refine⟨O,A,ρ,F,Rg.bind q fun ds _ q1=>?_⟩;intro vs H1 s1 r1 z1;rw [nV];exact⟨A,ds,F.bD.mono s1,r1,z1,Res.mono q1 s1⟩
noncomputable def RQ (X:Cx)(cls:Nat->Addr)(E:XK)(T id:String)(m:Sel):Prop:=
 ∃r,vf X id r/\(∀H d k x,m d=some k->Rep X.K H d x->pR X.K T x H)/\∀A H Q d k x ds vs,m d=some k->cJ H A->Rep X.K (ao H A) d x->sm d->av X.K (ao H A) ds vs->bC ds->Res X.K cls A E (k ds) H Q->r x vs H Q
theorem UC {T:String}{m:Sel}{r:V->List V->Hp->VK->Prop}(h1:∀H d k x,m d=some k->Rep X.K H d x->pR X.K T x H)
  (h2:∀A H Q d k x ds vs,m d=some k->cJ H A->Rep X.K (ao H A) d x->sm d->av X.K (ao H A) ds vs->bC ds->Res X.K cls A E (k ds) H Q->r x vs H Q) (σ:St) (H:Hp) (Q:VK) (q:tM X.K cls E (oE m f fs) σ H Q) :
  Di X.K T r (tM X.K cls E f) (mO X.K cls E fs) σ H Q:=by
 obtain⟨O,A,ρ,F,q⟩:=q;refine⟨O,A,ρ,F,Rg.bind q fun d _ q1=>?_⟩;intro v H1 s1 r1 z1;have jK:=Res.mono (Q:=Q) q1 s1
 cases hk:m d with
 |none=>rw [hk] at jK; exact(show False from jK).elim
 |some k=>
  rw [hk] at jK;have gL:Res X.K cls A E ((fs ρ).bd k) H1 Q:=jK;refine⟨h1 H1 d k v hk (r1.mono bO),O,A,ρ,F.mono s1,Rg.bind gL fun ds _ q2=>?_⟩;intro vs H2 s2 r2 z2;exact h2 A H2 Q d k v ds vs hk ((F.bD.mono s1).mono s2) (r1.mono (s2.ao A)) z1 r2 z2 (Res.mono q2 s2)
theorem adB {T name id:String}{m:Sel}{apos:Pos}{o:Expr}(pa:PlainAttrs T)(slot:Slot T name id)(jS:typeOf (.builtin id)=pure (.type "method_descriptor"))(hm:RQ X cls E T id m)(ho:Ev X cls E o f)(ha:Av X cls E (a::es) fs)
  (nv:attributeBase o name X.env (eval o X.env)=eval o X.env:=by rfl)
  (xn:((backTo pos (starEach (a::es) X.env)).all (fun x=>!x.1)&&(backToKw pos (keywordEach [] X.env)).all (fun x=>x.1.isSome)
   && decide ((a::es).length+([]:List Keyword).length+(if ([]:List Keyword).isEmpty then 0 else 1)<30))=true:=by rfl)
  (kO:(apos.endLine==pos.line)=true:=by rfl) (hs:starEach (a::es) X.env=(false,eval a X.env)::starEach es X.env:=by rfl) (xa:(backTo pos (starEach es X.env)).any (·.1)=false:=by rfl) :
  Ev X cls E (.Call (.Attribute o name apos) (a::es) [] pos) (oE m f fs):=by
 obtain⟨r,h0,h1,h2⟩:=hm;exact(wo pa slot jS h0 ho ha nv xn kO hs xa).imp (UC h1 h2)
theorem Dq {K:ah}{H:Hp}:∀{ds:List Dt}{ls:List (List Nat)}{xs:List V},kn ds=some ls->av K H ds xs->xs=ls.map S
 | [],bs,xs,h,r=>by
  simp only [av] at r;simp only [kn,vA] at h;subst r h;rfl
 |d::ds,bs,xs,h,r=>by
  simp only [av] at r;obtain⟨x,t,rfl,r1,r2⟩:=r
  cases d with
  |str l=>
   simp only [kn,iZ] at h;obtain⟨cs,hc,rfl⟩:=h;rw [Dq hc r2,bG];simp only [Rep] at r1;rw [r1]
  |_=>simp [kn] at h
theorem ZP:RQ X cls E "str" "str.join" m9:=by
 refine⟨_,ZF,fun H d k x hk r=>?_,fun A H Q d k x ds vs hk L r z rs zs q=>?_⟩
 ·unfold m9 at hk
  split at hk
  ·rw [cK r]; rfl
  ·cases hk
 ·unfold m9 at hk
  split at hk
  ·injection hk with hk
   subst hk;unfold joinM at q
   split at q
   ·rename_i l
    obtain⟨v,rfl,rv⟩:=jJ rs;obtain⟨p,xs,rfl,h1,h2⟩:=fK rv;unfold Ag at q
    split at q
    ·rename_i ls hls
     rw [Dq hls h2] at h1;obtain⟨h,q⟩:=Dj q;exact⟨p,ls,cK r,rfl,bO.seq h1,h,q⟩
    ·exact(show False from q).elim
   ·exact(show False from q).elim
  ·cases hk
structure mn (K:ah) (A:List Addr) (J:It) (ds:List Dt) (H1:Hp):Prop where
 go:∀i H,i<ds.length->aw (ao H1 A) H->J.go i H
 stop:∀H,aw (ao H1 A) H->J.stop ds.length H
 yl:∀i H x H' A',i<ds.length->cJ H A'->aw (ao H1 A) (ao H A')->J.vF i H x H'->aw H H'/\∃d,ds[i]?=some d/\Rep K (ao H' A') d x
 small:bC ds
 o7:ds.length<=10000
inductive iM (K:ah) (cls:Nat->Addr) (E:XK) (ι:IM) (σ:St) (H:Hp) (R:It->Hp->Prop):Prop
 |mk (O A:List Addr) (ρ:aa) (F:bf K O A ρ σ H) (q:Rg cls E (ι ρ) H fun ds=>∀J H',aw H H'->mn K A J ds H'->R J H'):iM K cls E ι σ H R
noncomputable abbrev Iv (X:Cx)(cls:Nat->Addr)(E:XK)(tg e:Expr)(ι:IM):Prop:=PI X tg e (iM X.K cls E ι)
theorem PI.imp {tg e:Expr}{t t':TI}(h:PI X tg e t')(i:∀σ H R,t σ H R->t' σ H R):PI X tg e t:=fun pins s σ H R I hw=>h pins s σ H R I (i σ H R hw)
theorem PI.or {tg e:Expr}{t t':TI}(h:PI X tg e t)(h':PI X tg e t'):PI X tg e (fun σ H R=>t σ H R∨t' σ H R):=fun pins s σ H R I hw=>by
 rcases hw with hw | hw
 ·exact h pins s σ H R I hw
 ·exact h' pins s σ H R I hw
theorem N9 {K:ah}{A:List Addr}{a:Addr}{ds:List Dt}{xs:List V}{H1:Hp}(h1:bP K (ao H1 A) a xs)(h2:av K (ao H1 A) ds xs)(z:bC ds)(zl:ds.length<=10000):mn K A (rL K a) ds H1:=by
 have hl:=h2.length;refine⟨fun i H hi s=>⟨xs,xs[i]'(by omega),s.seq h1,by simp⟩,fun H s=>⟨xs,s.seq h1,by omega⟩,fun i H x H' A' hi L s y=>?_,z,zl⟩;obtain⟨e,hx⟩:=y;subst e;have oQ:=hx xs ((s.trans bO).seq h1);obtain⟨d,hd,rd⟩:=h2.get oQ;exact⟨.refl _,d,hd,rd.mono s⟩
theorem aaM {K:ah}{A:List Addr}{a:Addr}{ds:List Dt}{xs:List V}{H1:Hp}(h1:cX K (ao H1 A) a xs)(h2:av K (ao H1 A) ds xs)(z:bC ds)(zl:ds.length<=10000):mn K A (JB K a) ds H1:=by
 have hl:=h2.length;refine⟨fun i H hi s=>⟨xs,xs[i]'(by omega),s.f9 h1,by simp⟩,fun H s=>⟨xs,s.f9 h1,by omega⟩,fun i H x H' A' hi L s y=>?_,z,zl⟩;obtain⟨e,hx⟩:=y;subst e;have oQ:=hx xs ((s.trans bO).f9 h1);obtain⟨d,hd,rd⟩:=h2.get oQ;exact⟨.refl _,d,hd,rd.mono s⟩
theorem aaN {K:ah}{A:List Addr}{ds:List Dt}{xs:List V}{H1:Hp}(h2:av K (ao H1 A) ds xs)(z:bC ds)(zl:ds.length<=10000):mn K A (JC xs) ds H1:=by
 have hl:=h2.length;refine⟨fun i H hi s=>by show i<xs.length; omega,fun H s=>by show xs.length<=ds.length; omega,fun i H x H' A' hi L s y=>?_,z,zl⟩;obtain⟨e,hx⟩:=y;subst e;obtain⟨d,hd,rd⟩:=h2.get hx;exact⟨.refl _,d,hd,rd.mono s⟩
theorem ng {tg e:Expr}(he:Ev X cls E e f):Iv X cls E tg e (fP f):=by
 refine((L8 he).or ((Xr he).or (Xs he))).imp fun σ H R h_=>?_;obtain⟨O,A,ρ,F,q⟩:=h_
 cases hm:f ρ with
 |bad=>
  unfold fP at q;rw [hm] at q;exact(show False from q).elim
 |ex c=>
  refine .inl ⟨O,A,ρ,F,?_⟩;unfold fP at q;rw [hm] at q ⊢;exact q
 |ok d=>
  have q':Rg cls E (dS d) H fun ds=>∀J H',aw H H'->mn X.K A J ds H'->R J H':=by
   unfold fP at q;rw [hm] at q;exact q
  cases d with
  |lst l=>
   refine .inl ⟨O,A,ρ,F,?_⟩;rw [hm];intro v H1 s1 r1 z1;obtain⟨p,xs,rfl,h1,h2⟩:=fK r1;exact⟨p,rfl,⟨xs,bO.seq h1⟩,q' _ H1 s1 (N9 h1 h2 z1.2 z1.1)⟩
  |tup l=>
   refine .inr (.inl ⟨O,A,ρ,F,?_⟩);rw [hm];intro v H1 s1 r1 z1;obtain⟨p,xs,rfl,h1,h2⟩:=iz r1;exact⟨p,rfl,⟨xs,bO.f9 h1⟩,q' _ H1 s1 (aaM h1 h2 z1.2 z1.1)⟩
  |str l=>
   refine .inr (.inr ⟨O,A,ρ,F,?_⟩);rw [hm];intro v H1 s1 r1 z1;exact⟨l,cK r1,q' _ H1 s1 (aaN (Ea l) (Ln l) (by rw [eF,ef]; exact z1))⟩
  |_=>exact(show False from q').elim
theorem N8 {K:ah}{A:List Addr}{lo hi:Int}{H1:Hp}(zl:(hi - lo).toNat<=10000):mn K A (yc lo (hi - lo).toNat) (eI lo hi) H1:=by
 have hl:(eI lo hi).length=(hi - lo).toNat:=by simp [eI]
 refine⟨fun i H hi s=>by show i<(_:Nat); omega,fun H s=>by show (_:Nat)<=_; omega,fun i H x H' A' lT L s y=>?_,mS fun d hd=>?_,by omega⟩
 ·obtain⟨e,hx⟩:=y
  subst e hx;refine⟨.refl _,.int (lo+(i:Nat)),?_,ek⟩;rw [hl] at lT;simp [eI,lT]
 ·obtain⟨k,_,rfl⟩:=df.mp hd
  trivial
theorem FK {tg:Expr}{p:Pos}(hg:Gl X "range")(hm:X.mg "range" = none)(ha:Av X cls E [a] fs)(hs:starEach [a] X.env=[(false,eval a X.env)]:=by rfl):Iv X cls E tg (.Call (.Name "range" p) [a] [] pos) (kJ tJ fs):=
 (Xu hg hm ha hs).imp fun σ H R ⟨O,A,ρ,F,q⟩=>by
 refine⟨O,A,ρ,F,Rg.bind q fun ds jV q1=>?_⟩
 clear jV
 intro vs H1 s1 r1 z1;unfold tJ at q1
 split at q1
 ·rename_i n
  split at q1
  ·rename_i hn
   obtain⟨v,rfl,rv⟩:=jJ r1;refine⟨n,by rw [dg rv],by omega,by omega,?_⟩;have e:n.toNat=(n - 0).toNat:=by omega
   rw [e];exact q1 _ H1 s1 (N8 (by omega))
  ·exact(show False from q1).elim
 ·exact(show False from q1).elim
theorem aaI {tg:Expr}{p:Pos}(hg:Gl X "range")(hm:X.mg "range" = none)(ha:Av X cls E [a,b] fs)(hs:starEach [a,b] X.env=[(false,eval a X.env),(false,eval b X.env)]:=by rfl)(eY:starEach [b] X.env=[(false,eval b X.env)]:=by rfl) :
  Iv X cls E tg (.Call (.Name "range" p) [a,b] [] pos) (kJ zm fs):=
 (Xt hg hm ha hs eY).imp fun σ H R ⟨O,A,ρ,F,q⟩=>by
 refine⟨O,A,ρ,F,Rg.bind q fun ds jV q1=>?_⟩
 clear jV
 intro vs H1 s1 r1 z1;unfold zm at q1
 split at q1
 ·rename_i i j
  split at q1
  ·rename_i hn
   obtain⟨v,w,rfl,rv,dW⟩:=oj r1;refine⟨i,j,by rw [dg rv,dg dW],⟨by omega,by omega,by omega,by omega⟩,?_⟩;exact q1 _ H1 s1 (N8 (by omega))
  ·exact(show False from q1).elim
 ·exact(show False from q1).elim
end
inductive gM (K:ah) (g:GM) (v:V) (σ:St) (H:Hp) (Q:St->Hp->Prop):Prop
 |mk (O A:List Addr) (ρ:aa) (d:Dt) (F:bf K O A ρ σ H) (r:Rep K (ao H A) d v) (z:sm d) (ρ':aa) (e:g d ρ=.ok ρ') (q:∀aJ,bf K O A ρ' aJ H->Q aJ H):gM K g v σ H Q
inductive uf (K:ah) (g:List Dt->aa->M aa) (vs:List V) (σ:St) (H:Hp) (Q:St->Hp->Prop):Prop
 |mk (O A:List Addr) (ρ:aa) (ds:List Dt) (F:bf K O A ρ σ H) (r:av K (ao H A) ds vs) (z:bC ds) (ρ':aa) (e:g ds ρ=.ok ρ') (q:∀aJ,bf K O A ρ' aJ H->Q aJ H):uf K g vs σ H Q
theorem PG.imp {X:Cx}{e:Expr}{t t':TG}(h:PG X e t')(i:∀v σ H Q,t v σ H Q->t' v σ H Q):PG X e t:=fun pins s σ H v u Q I r hw=>h pins s σ H v u Q I r (i v σ H Q hw)
theorem jm.imp {X:Cx}{e:List Expr}{t t':mj}(h:jm X e t')(i:∀v σ H Q,t v σ H Q->t' v σ H Q):jm X e t:=fun pins s σ H v u Q I r hw=>h pins s σ H v u Q I r (i v σ H Q hw)
theorem bf.put {K:ah}{O A:List Addr}{ρ:aa}{σ:St}{H:Hp}(F:bf K O A ρ σ H)(i:Nat){d:Dt}{v:V}(r:Rep K (ao H A) d v)(z:sm d):bf K O A (mW i d ρ) (σ.set i (some v)) H:=
 F.set F.bD F.sub (.refl _) (fun _ h _=>⟨h,rfl⟩) (fun _ h h'=>⟨h,h',rfl⟩) (.inl ⟨d,rfl,r,z⟩)
section
variable {X:Cx}{cls:Nat->Addr}{E:XK}{a b c:Expr}{f g h:aa->M Dt}{pos:Pos}{fs:aa->M (List Dt)}{es:List Expr}
theorem cW {i:Nat}{x:Str}(h:PG X (.Name x pos) (uh i)):PG X (.Name x pos) (gM X.K (aL i)):=h.imp fun v σ H Q h_=>by
 obtain⟨O,A,ρ,d,F,r,z,ρ',e,q⟩:=h_;cases e;exact q _ (F.put i r z)
theorem ue:jm X [] (uf X.K kS):=Xv.imp fun v σ H Q h_=>by
 obtain⟨O,A,ρ,ds,F,r,z,ρ',e,q⟩:=h_
 cases ds with
 |nil=>
  cases e;simp only [av] at r;exact⟨r,q _ F⟩
 |cons d ds=>cases e
theorem jf {g:GM}{gs:List Dt->aa->M aa}(h1:PG X a (gM X.K g))(h2:jm X es (uf X.K gs))(hs:(assignEach (a::es) X.env).map (·.2)=assign a X.env::(assignEach es X.env).map (·.2):=by rfl):jm X (a::es) (uf X.K (dZ g gs)):=(L9 h1 h2 hs).imp fun v σ H Q h_=>by
 obtain⟨O,A,ρ,ds,F,r,z,ρ',e,q⟩:=h_
 cases ds with
 |nil=>cases e
 |cons d ds=>
  simp only [av] at r;obtain⟨x,t,rfl,r1,r2⟩:=r;simp only [dZ] at e
  cases hg:g d ρ with
  |ok aX=>
   rw [hg] at e;exact⟨x,t,rfl,O,A,ρ,d,F,r1,z.1,aX,hg,fun j8 F1=>⟨O,A,aX,ds,F1,r2,z.2,ρ',e,q⟩⟩
  |ex c=>rw [hg] at e; cases e
  |bad=>rw [hg] at e; cases e
noncomputable def ac1 (K:ah)(n:Nat)(t:mj):TG:=fun v σ H Q=>∃a xs,v=.ref a/\bP K H a xs/\xs.length=n/\t xs σ H Q
theorem Xw {k:Nat}{t:mj}{n:Nat}(hc:X.calm=true)(h:jm X es t)(hn:(assignEach es X.env).length=n)(bj:(assignEach es X.env).findIdx? (·.1)=none):PG X (.Tuple es k pos) (ac1 X.K n t):=by
 intro pins s σ H v u Q I r hw;obtain⟨a,xs,e1,hq,hl,hw⟩:=hw;subst e1;cases r;obtain⟨ak,rv,pl,hz⟩:=I.list hq;rw [assign_Tuple];refine wpAny_bind (wpAny_standAt ?_);unfold unpack;rw [bj,show (assignEach es X.env).length=ak.toArray.size by simp [hn,← hl,rv.length]];refine wpAny_bind (wpAny_holding (kun_itemsOf (I.ok.hd hc) pl.isList fun h' hx=>?_));have I1:Inv X pins σ H {s with heap:=h'}:=I.kept (t':=s.toks) fun b o e=>hx b o (bJ (aV e)) e;exact h pins _ σ H xs _ Q I1 (by simpa using rv) hw
theorem PG.or {e:Expr}{t t':TG}(h:PG X e t)(h':PG X e t'):PG X e (fun v σ H Q=>t v σ H Q∨t' v σ H Q):=fun pins s σ H v u Q I r hw=>by
 rcases hw with hw | hw
 ·exact h pins s σ H v u Q I r hw
 ·exact h' pins s σ H v u Q I r hw
theorem xv {k n:Nat}{gs:List Dt->aa->M aa}(hc:X.calm=true)(h:jm X es (uf X.K gs))(hn:(assignEach es X.env).length=n:=by rfl)(bj:(assignEach es X.env).findIdx? (·.1)=none:=by rfl):PG X (.Tuple es k pos) (gM X.K (iI n gs)):=by
 refine((Ma hc h hn bj).or (Xw hc h hn bj)).imp fun v σ H Q h_=>?_;obtain⟨O,A,ρ,d,F,r,z,ρ',e,q⟩:=h_
 cases d with
 |tup ds=>
  simp only [iI] at e
  split at e
  ·rename_i hl
   obtain⟨p,xs,rfl,h1,h2⟩:=iz r;exact .inl ⟨p,xs,rfl,bO.f9 h1,by rw [← h2.length]; exact hl,O,A,ρ,ds,F,h2,z.2,ρ',e,q⟩
  ·cases e
 |lst ds=>
  simp only [iI] at e
  split at e
  ·rename_i hl
   obtain⟨p,xs,rfl,h1,h2⟩:=fK r;exact .inr ⟨p,xs,rfl,bO.seq h1,by rw [← h2.length]; exact hl,O,A,ρ,ds,F,h2,z.2,ρ',e,q⟩
  ·cases e
 |_=>cases e
end
noncomputable def GK (k:Nat)(g:GM):Prop:=∀d ρ ρ',g d ρ=.ok ρ'->ρ'.length=ρ.length/\∀i,k<=i->ρ'[i]?=ρ[i]?
noncomputable def BH (k:Nat)(g:List Dt->aa->M aa):Prop:=∀d ρ ρ',g d ρ=.ok ρ'->ρ'.length=ρ.length/\∀i,k<=i->ρ'[i]?=ρ[i]?
theorem fB {k i:Nat}(h:i<k):GK k (aL i):=fun d ρ ρ' e=>by
 cases e;refine⟨by simp [mW],fun j hj=>?_⟩;unfold mW;rw [jy (by omega)]
theorem AL {k:Nat}:BH k kS:=fun ds ρ ρ' e=>by
 cases ds with
 |nil=>cases e; exact⟨rfl,fun _ _=>rfl⟩
 |cons d ds=>cases e
theorem o4 {k:Nat}{g:GM}{gs:List Dt->aa->M aa}(h1:GK k g)(h2:BH k gs):BH k (dZ g gs):=fun ds ρ ρ' e=>by
 cases ds with
 |nil=>cases e
 |cons d ds=>
  simp only [dZ] at e
  cases hg:g d ρ with
  |ok aX=>
   rw [hg] at e;obtain⟨a1,a2⟩:=h1 d ρ aX hg;obtain⟨b1,b2⟩:=h2 ds aX ρ' e;exact⟨b1.trans a1,fun i hi=>(b2 i hi).trans (a2 i hi)⟩
  |ex c=>rw [hg] at e; cases e
  |bad=>rw [hg] at e; cases e
theorem AM {k n:Nat}{gs:List Dt->aa->M aa}(h:BH k gs):GK k (iI n gs):=fun d ρ ρ' e=>by
 cases d with
 |tup ds=>
  simp only [iI] at e
  split at e
  ·exact h ds ρ ρ' e
  ·cases e
 |lst ds=>
  simp only [iI] at e
  split at e
  ·exact h ds ρ ρ' e
  ·cases e
 |_=>cases e
theorem Vm (k:Nat)(fr:List Nat)(ρ:aa):(bQ k fr ρ).length=k+fr.length:=by simp [bQ]
theorem Dv {k:Nat}{fr:List Nat}{ρ:aa}{i:Nat}(h:i<k):(bQ k fr ρ)[i]?=some .no:=by
 unfold bQ;rw [rQ (by simpa using h)];simp [h]
theorem vX {k:Nat}{fr:List Nat}{ρ:aa}{i:Nat}{b:Bd}(h:(bQ k fr ρ)[i]?=some b):b=.no∨∃j m d,i=k+j/\fr[j]?=some m/\ρ[m]?=some (.val d)/\b=.val d:=by
 by_cases hi:i<k
 ·rw [Dv hi] at h
  cases h;exact .inl rfl
 ·unfold bQ at h
  rw [rR (by simp; omega)] at h;simp only [vm,jt,iZ] at h;obtain⟨m,hm,hb⟩:=h;unfold CU at hb
  split at hb
  ·rename_i d hd
   exact .inr ⟨i - k,m,d,by omega,hm,hd,hb.symm⟩
  ·exact .inl hb.symm
theorem bf.cU {K:ah}{O A:List Addr}{ρ:aa}{σ:St}{H:Hp}(F:bf K O A ρ σ H)(k:Nat)(fr:List Nat):bf K O A (bQ k fr ρ) (L2.cU k fr σ) H:=by
 have no:∀{i b},(bQ k fr ρ)[i]?=some b->gi b=true->False:=fun {i b} h o=>by
  rcases vX h with z | ⟨j,m,d',_,_,_,z⟩ <;> rw [z] at o <;> cases o
 refine⟨by rw [Vm]; simp [L2.cU],F.bD,F.sub,fun i d h=>?_,fun i b h o=>(no h o).elim,fun i j b c v w _ h _ o=>(no h o).elim,fun i p x y h=>?_⟩
 rotate_left
 ·rcases vX h with z | ⟨j,m,d',_,_,_,z⟩ <;> cases z
 ·rcases vX h with z | ⟨j,m,d',rfl,hm,hd,z⟩
  ·cases z
  ·cases z
   obtain⟨v,h1,h2,h3⟩:=F.val m d hd;refine⟨v,?_,h2,h3⟩;unfold L2.cU;rw [rR (by simp)];simp [hm,h1]
theorem bf.back {K:ah}{O A:List Addr}{ρ ρ0:aa}{σ:St}{H:Hp}(F:bf K O A ρ σ H)(hl:ρ.length=ρ0.length)(hv:∀(i:Nat) d,ρ0[i]?=some (.val d)->ρ[i]?=some (.val d))(ho:∀(i:Nat) b,ρ0[i]?=some b->gi b=true∨(∃p x y,b=.bor p x y)->False):bf K O A ρ0 σ H:=
 ⟨by rw [← hl]; exact F.len,F.bD,F.sub,fun i d h=>F.val i d (hv i d h),fun i b h o=>(ho i b h (.inl o)).elim,fun i _ b _ _ _ _ h _ o=>(ho i b h (.inl o)).elim,fun i p x y h=>(ho i _ h (.inr ⟨p,x,y,rfl⟩)).elim⟩
theorem cJ.cons {H:Hp}{A:List Addr}{D:Addr}{o:HO}(h:cJ H A)(hD:H D=some o):cJ H (D::A):=fun a ha=>by
 rcases ba.mp ha with z | z
 ·subst z; rw [hD]; simp
 ·exact h a z
theorem xl {H:Hp}{A:List Addr}{D:Addr}{o:HO}(h:D∈A):ao (upd H D o) A=ao H A:=by
 funext b
 unfold ao
 by_cases hb:b∈A
 ·rw [if_pos hb,if_pos hb]
 ·rw [if_neg hb,if_neg hb]
  exact aF fun z=>hb (z ▸ h)
theorem Q1 {g:GM}{tc:aa->M Bool}{te:aa->M Dt}{ρ0:aa}{d:Dt}{ds:List Dt}{xs:List Dt}(h:ff g tc te ρ0 (d::ds)=.ok xs) :
  ∃aX,g d ρ0=.ok aX/\((tc aX=.ok false/\ff g tc te ρ0 ds=.ok xs)∨(tc aX=.ok true/\∃x ys,te aX=.ok x/\ff g tc te ρ0 ds=.ok ys/\xs=x::ys)):=by
 simp only [ff] at h
 cases hg:g d ρ0 with
 |ok aX=>
  rw [hg] at h;simp only [bz] at h;refine⟨aX,rfl,?_⟩
  cases ht:tc aX with
  |ok b=>
   rw [ht] at h;simp only [bz] at h
   cases b with
   |false=>exact .inl ⟨rfl,h⟩
   |true=>
    simp only [if_true] at h
    cases hx:te aX with
    |ok x=>
     rw [hx] at h;simp only [bz] at h
     cases hr:ff g tc te ρ0 ds with
     |ok ys=>rw [hr] at h; simp only [bz] at h; cases h; exact .inr ⟨rfl,x,ys,rfl,rfl,rfl⟩
     |ex c=>rw [hr] at h; cases h
     |bad=>rw [hr] at h; cases h
    |ex c=>rw [hx] at h; cases h
    |bad=>rw [hx] at h; cases h
  |ex c=>rw [ht] at h; cases h
  |bad=>rw [ht] at h; cases h
 |ex c=>rw [hg] at h; cases h
 |bad=>rw [hg] at h; cases h
theorem WN {K:ah}{cls:Nat->Addr}{k:Nat}{fr:List Nat}{g:GM}{tc:aa->M Bool}{te:aa->M Dt}{O A:List Addr}{ρ:aa}{σ:St}{J:It}{H1:Hp}{Q:VK}{ds xs:List Dt}(F:bf K O A ρ σ H1)(hk:GK k g)(hJ:mn K A J ds H1)
  (hx:ff g tc te (bQ k fr ρ) ds=.ok xs) (fin:∀v H',aw H1 H'->Rep K (ao H' A) (.lst xs) v->bC xs->xs.length<=10000->Q v H'):oq k fr (gM K g) (eV K cls E0 tc) (tM K cls E0 te) σ J H1 Q:=by
 intro D hD;have GS:D∉A:=F.bD.fresh hD;have ho:∀(i:Nat) b,(bQ k fr ρ)[i]?=some b->gi b=true∨(∃p x y,b=.bor p x y)->False:=fun i b h o=>by
  rcases vX h with z | ⟨j,m,d',_,_,_,z⟩ <;> rw [z] at o <;> rcases o with o | ⟨p,x,y,o⟩ <;> cases o
 have s0:aw H1 (upd H1 D (.lst [])):=.upd hD;have sD:∀{H'},aw H1 H'->aw (ao H1 A) (ao H' (D::A)):=fun {H'} s b o e=>by
  obtain⟨h1,h2⟩:=dX e;have hb:b∉D::A:=fun z=>by
   rcases ba.mp z with z | z
   ·subst z; rw [hD] at h2; cases h2
   ·exact h1 z
  rw [cf hb];exact s b o h2
 have FD:bf K [] (D::A) (bQ k fr ρ) (cU k fr σ) (upd H1 D (.lst [])):=by
  have F1:=F.cU k fr;refine⟨F1.len,(F.bD.mono s0).cons aU,(fun a z=>nomatch z),fun i d h=>?_,fun i b h o=>(ho i b h (.inl o)).elim,fun i _ b _ _ _ _ h _ o=>(ho i b h (.inl o)).elim,fun i p x y h=>(ho i _ h (.inr ⟨p,x,y,rfl⟩)).elim⟩;obtain⟨v,h1,h2,h3⟩:=F1.val i d h;exact⟨v,h1,h2.mono (sD s0),h3⟩
 refine⟨fun i m ys aJ H'=>i<=ds.length/\m=ds.length - i/\H' D=some (.lst ys)/\aw H1 H'/\bf K [] (D::A) (bQ k fr ρ) aJ H'/\∃us ws,ff g tc te (bQ k fr ρ) (ds.drop i)=.ok ws/\xs=us++ws/\av K (ao H' (D::A)) us ys/\bC us/\us.length<=i,
  ⟨ds.length,gw _,rfl,aU,s0,FD,[],xs,hx,rfl,.nil,trivial,gw _⟩,?_⟩
 rintro i m ys aJ H' ⟨hi,rfl,lZ,g7,F',us,ws,hw,rfl,ru,zu,lu⟩;refine⟨lZ,?_⟩;have o7:=hJ.o7
 by_cases aR:i<ds.length
 ·refine .inr ⟨hJ.go i H' aR (bO.trans g7),ds.length - (i+1),by omega,fun x H2 y=>?_⟩
  obtain⟨sy,d,hd,rd⟩:=hJ.yl i H' x H2 (D::A) aR F'.bD (sD g7) y;have xp:ds.drop i=d::ds.drop (i+1):=by
   rw [vq aR]
   congr 1
   have:=mI aR;rw [hd] at this;exact(gZ this).symm
  rw [xp] at hw;obtain⟨aX,hg,qS⟩:=Q1 hw;refine⟨[],D::A,_,d,F'.mono sy,rd,ix hJ.small (kg hd),aX,hg,fun ed F2=>?_⟩;obtain⟨k1,k2⟩:=hk d _ _ hg;have bk:∀{gY H3},bf K [] (D::A) aX gY H3->bf K [] (D::A) (bQ k fr ρ) gY H3:=fun F3=>F3.back k1 (fun j e hj=>by
   have Gq:k<=j:=by
    by_cases z:j<k
    ·rw [Dv z] at hj; cases hj
    ·omega
   rw [k2 j Gq];exact hj) ho
  rcases qS with ⟨ht,hr⟩ | ⟨ht,x',Ka,qH,hr,rfl⟩
  ·refine⟨[],D::A,aX,F2,?_⟩
   rw [ht];intro H4 s4;simp only [cT,if_false];have qf:=sy.trans s4;exact⟨aR,trivial,qf _ _ lZ,g7.trans qf,bk (F2.mono s4),us,ws,hr,rfl,ru.mono (qf.ao _),zu,by omega⟩
  ·refine⟨[],D::A,aX,F2,?_⟩
   rw [ht];intro H4 s4;simp only [if_true];refine⟨[],D::A,aX,F2.mono s4,?_⟩;rw [qH];intro v H5 s5 r5 z5;have qe:=(sy.trans s4).trans s5;have hl:=ru.length;refine⟨qe _ _ lZ,B8 (by omega:ys.length<=10000) (by decide),aR,trivial,aU,fun b o e=>?_,?_,us++[x'],Ka,hr,by simp,?_,tG zu ⟨z5,trivial⟩,by simp; omega⟩
   ·rw [aF (cH e hD)]
    exact qe b o (g7 b o e)
   ·have F5:=bk ((F2.mono s4).mono s5)
    refine⟨F5.len,fun a' ha=>?_,(fun a z=>nomatch z),fun j e h=>?_,fun j b h o=>(ho j b h (.inl o)).elim,fun j _ b _ _ _ _ h _ o=>(ho j b h (.inl o)).elim,fun j p x y h=>(ho j _ h (.inr ⟨p,x,y,rfl⟩)).elim⟩
    ·by_cases hz:a'=D
     ·rw [hz,aU]; simp
     ·rw [aF hz]; exact F5.bD a' ha
    ·rw [xl bH]
     exact F5.val j e h
   ·rw [xl bH]
    exact(ru.mono (qe.ao _)).append (.cons r5 .nil)
 ·have e:i=ds.length:=by omega
  subst e;rw [vy] at hw;cases hw;rw [nV] at fin;have hl:=ru.length;refine .inl ⟨hJ.stop H' (bO.trans g7),fin (.ref D) H' g7 (wd (by rw [cf GS]; exact lZ) (ru.mono fun b o e=>?_)) zu (by omega)⟩;obtain⟨h1,h2⟩:=dX e;rw [cf fun z=>h1 (cy _ z)];exact h2
section
variable {X:Cx}{cls:Nat->Addr}{E:XK}{a b c:Expr}{f:aa->M Dt}{pos:Pos}{scope:Scope}{N:List Str}{k:Nat}{fr:List Nat}{tg iter elt:Expr}{ifs:List Expr}{ι:IM}{g:GM}{tc:aa->M Bool}{te:aa->M Dt}
theorem KP (hk:GK k g)(σ:St)(H:Hp)(Q:VK)(q:tM X.K cls E (dy k fr ι g tc te) σ H Q):tD k fr (iM X.K cls E ι) (gM X.K g) (eV X.K cls E0 tc) (tM X.K cls E0 te) σ H Q:=by
 obtain⟨O,A,ρ,F,q⟩:=q;refine⟨O,A,ρ,F,Rg.bind q fun ds _ q1=>?_⟩;intro J H1 s1 hJ
 cases hm:ff g tc te (bQ k fr ρ) ds with
 |ok xs=>
  have q2:Res X.K cls A E (gE xs) H Q:=by rw [hm] at q1; exact q1
  refine WN (F.mono s1) hk hJ hm fun v H' s' r z zl=>?_;unfold gE at q2;rw [if_pos zl] at q2;exact q2 v H' (s1.trans s') r ⟨zl,z⟩
 |ex c=>rw [hm] at q1; exact(show False from q1).elim
 |bad=>rw [hm] at q1; exact(show False from q1).elim
theorem jC:jl X [] (eV X.K cls E cO):=fun pins s σ H Q I ⟨O,A,ρ,F,q⟩=>Xb pins s σ H Q I (q H (.refl _))
theorem C1 (h:Tv X cls E c tc):jl X [c] (eV X.K cls E tc):=Xa h
theorem adA (hk:GK k g)(hc:X.calm=true)(S:eB X scope N k fr)(hi:Iv X cls E tg iter ι)(hg:∀pins fp s H,PG (bZ X scope N pins fp s H) tg (gM X.K g))(ht:∀pins fp s H,jl (bZ X scope N pins fp s H) ifs (eV X.K cls E0 tc))
  (he:∀pins fp s H,PE (bZ X scope N pins fp s H) elt (tM X.K cls E0 te)) (hs:∀x,foldedSetIterable iter X.env x=pure x:=by intro _; rfl):Ev X cls E (.ListComp elt [⟨tg,iter,ifs,0⟩] scope pos) (dy k fr ι g tc te):=
 (XG hc S hi hg ht he hs).imp (KP hk)
end
noncomputable def cx (K:ah)(Hin:Hp)(A₀:List Addr)(os:List Addr)(ρ:aa)(σ:St)(H:Hp):Prop:=aw Hin H/\cJ Hin A₀/\(∀a∈os,Hin a=none)/\bf K os (os++A₀) ρ σ H
inductive fg (K:ah) (Hin:Hp) (A₀:List Addr) (ρ:aa) (σ:St) (H:Hp):Prop
 |mk (os:List Addr) (S:cx K Hin A₀ os ρ σ H):fg K Hin A₀ ρ σ H
noncomputable def j6 (K:ah)(cls:Nat->Addr)(E:XK)(Hin:Hp)(A₀:List Addr)(m:M Fl)(D:Ends):Prop:=match m with
 |.ok (.nx ρ)=>∀σ H,fg K Hin A₀ ρ σ H->D.nx σ H
 |.ok (.bk ρ)=>∀σ H,fg K Hin A₀ ρ σ H->D.bk σ H
 |.ok (.ct ρ)=>∀σ H,fg K Hin A₀ ρ σ H->D.ct σ H
 |.ok (.rt d)=>∀v H,aw Hin H->Rep K (ao H A₀) d v->sm d->D.rt v H
 |.ex c=>∀H,aw Hin H->E (.ref (cls c)) none H
 |.bad=>False
inductive sM (K:ah) (cls:Nat->Addr) (E:XK) (f:SM) (D:Ends) (σ:St) (H:Hp):Prop
 |mk (Hin:Hp) (A₀:List Addr) (ρ:aa) (S:fg K Hin A₀ ρ σ H) (q:j6 K cls E Hin A₀ (f ρ) D):sM K cls E f D σ H
noncomputable abbrev Sv (X:Cx)(cls:Nat->Addr)(E:XK)(st:Stmt)(f:SM):Prop:=PS X st (sM X.K cls E f)
noncomputable abbrev Bv (X:Cx)(cls:Nat->Addr)(E:XK)(st:List Stmt)(f:SM):Prop:=eP X st (sM X.K cls E f)
theorem PS.imp {X:Cx}{e:Stmt}{t t':TS}(h:PS X e t')(i:∀D σ H,t D σ H->t' D σ H):PS X e t:=fun pins s σ H D I hw=>h pins s σ H D I (i D σ H hw)
theorem eP.imp {X:Cx}{e:List Stmt}{t t':TS}(h:eP X e t')(i:∀D σ H,t D σ H->t' D σ H):eP X e t:=fun pins s σ H D I hw=>h pins s σ H D I (i D σ H hw)
theorem PS.oI {X:Cx}{st:Stmt}{t:TS}(h:PS X.oI st t):PS X st t:=fun pins s σ H D I hw=>
 wpAny_mono (h pins s σ H D (I.jz _) hw) (fun _ _ q=>q.ki) fun _ _ z=>dq z
section
variable {K:ah}{cls:Nat->Addr}{E:XK}{Hin:Hp}{A₀:List Addr}{ρ:aa}{σ:St}{H:Hp}{D:Ends}
theorem Gw {H:Hp}{A B:List Addr}:aw (ao H (A++B)) (ao H B):=fun b o e=>by
 obtain⟨h1,h2⟩:=dX e;rw [cf fun z=>h1 (eh _ z)];exact h2
theorem ky {m:M Dt}{k:Dt->M Fl}{os:List Addr}{Q:VK}(s0:aw Hin H)(h:j6 K cls E Hin A₀ (m.bd k) D)
  (f:∀d v H',m=.ok d->j6 K cls E Hin A₀ (k d) D->aw H H'->Rep K (ao H' (os++A₀)) d v->sm d->Q v H'):Res K cls (os++A₀) E m H Q:=by
 cases m with
 |ok d=>exact fun v H' s r z=>f d v H' rfl h s r z
 |ex c=>exact fun H' s=>h H' (s0.trans s)
 |bad=>exact h
theorem WJ {m:M Bool}{k:Bool->M Fl}{Q:Bool->Hp->Prop}(s0:aw Hin H)(h:j6 K cls E Hin A₀ (m.bd k) D)
  (f:∀d H',m=.ok d->j6 K cls E Hin A₀ (k d) D->aw H H'->Q d H'):vd cls E m H Q:=by
 cases m with
 |ok d=>exact fun H' s=>f d H' rfl h s
 |ex c=>exact fun H' s=>h H' (s0.trans s)
 |bad=>exact h
end
section
variable {X:Cx}{cls:Nat->Addr}{E:XK}{a b c:Expr}{f g h:aa->M Dt}{pos:Pos}{st:Stmt}{rest:List Stmt}{s t:SM}
theorem d8:Bv X cls E [] dw:=Er.imp fun D σ H ⟨Hin,A₀,ρ,S,q⟩=>q σ H S
theorem Uu {D:Ends}{σ:St}{H:Hp}(q:sM X.K cls E (aZ s t) D σ H):tm (sM X.K cls E s) (sM X.K cls E t) D σ H:=by
 obtain⟨Hin,A₀,ρ,S,q⟩:=q;refine⟨Hin,A₀,ρ,S,?_⟩;unfold aZ at q
 cases hm:s ρ with
 |ok fl=>
  rw [hm] at q
  cases fl with
  |nx ρ'=>exact fun aJ H' S'=>⟨Hin,A₀,ρ',S',q⟩
  |bk ρ'=>exact q
  |ct ρ'=>exact q
  |rt d=>exact q
 |ex c=>rw [hm] at q; exact q
 |bad=>rw [hm] at q; exact q
theorem bx (h1:Sv X cls E st s)(h2:Bv X cls E rest t):Bv X cls E (st::rest) (aZ s t):=(fL h1 h2).imp fun D σ H q=>Uu q
theorem bu (h1:Sv X cls E st s):Bv X cls E [st] s:=gP h1
theorem Hs {os A₀:List Addr}{p:Addr->Bool}:∀b,b∈os.filter p++A₀->b∈os++A₀:=fun b z=>by
 rcases eC.mp z with z | z
 ·exact eT _ (jr.mp z).1
 ·exact eh _ z
theorem cx.let {K:ah}{Hin:Hp}{A₀ os:List Addr}{ρ:aa}{σ:St}{H H':Hp}{i:Nat}{a:Addr}{b:Bd}{d:Dt}(S:cx K Hin A₀ os ρ σ H)(hi:ρ[i]?=some b)(hv:σ[i]?=some (some (.ref a)))(ho:gi b=true)(hf:a5 H (.ref a) b=[a])
  (hH:∀x,x≠a->H' x=H x) (ha:H' a≠none) (r:∀B,a∉B->(∀x,x∈B->x∈os++A₀)->Rep K (ao H' B) d (.ref a)) (z:sm d):fg K Hin A₀ (ρ.set i (.val d)) σ H':=by
 obtain⟨s0,L0,fr,F⟩:=S;obtain⟨v,h1,h2,h3⟩:=F.ow i b hi ho;rw [hv] at h1;cases h1;have AI:a∈os:=h3 a (by rw [hf]; exact bH);have haA:a∉A₀:=fun z=>L0 a z (fr a AI);have qP:l7 ρ σ H i=[a]:=by rw [Hj hi hv ho]; exact hf
 refine⟨os.filter fun b=>decide (b≠a),fun b o e=>?_,L0,fun b hb=>fr b (jr.mp hb).1,?_⟩
 ·rw [hH b (cH e (fr a AI))]
  exact s0 b o e
 ·have F2:=F.set (i:=i) (v':=.ref a) (b':=.val d) (O':=os.filter fun b=>decide (b≠a)) (A':=(os.filter fun b=>decide (b≠a))++A₀) (H':=H') (fun b hb=>?_) (fun b hb=>eT _ hb) (fun b o e=>?_) (fun b hb hn=>?_) (fun b hb hn=>⟨?_,fun z=>hn (jr.mp z).1,hH b fun z=>hn (z ▸ AI)⟩) (.inl ⟨d,rfl,r _ ?_ Hs,z⟩)
  ·rwa [set_same hv] at F2
  ·by_cases hz:b=a
   ·rw [hz]; exact ha
   ·rw [hH b hz]; exact F.bD b (Hs b hb)
  ·obtain⟨e1,e2⟩:=dX e
   have AH:b≠a:=fun z=>e1 (by rw [z]; exact eT _ AI);rw [cf fun z=>e1 (Hs b z),hH b AH];exact e2
  ·rw [qP] at hn
   have AH:b≠a:=by simpa using hn
   exact⟨jr.mpr ⟨hb,by simpa using AH⟩,hH b AH⟩
  ·rcases eC.mp hb with z | z
   ·exact(hn z).elim
   ·exact eh _ z
  ·intro z
   rcases eC.mp z with z | z
   ·simp at z
   ·exact haA z
theorem fg.rel {K:ah}{Hin:Hp}{A₀:List Addr}{ρ:aa}{σ:St}{H:Hp}(S:fg K Hin A₀ ρ σ H)(i:Nat)(Gi:∀ks,ρ[i]?≠some (.bT ks)):fg K Hin A₀ (L2.rel i ρ) σ H:=by
 unfold L2.rel oo
 split
 ·rename_i ds hd
  obtain⟨os,S⟩:=S;obtain⟨a,xs,h1,h2,h3,h4,h5,h6⟩:=S.2.2.2.own i ds hd;refine S.let hd h1 rfl rfl (fun _ _=>rfl) (by rw [h3]; simp) (fun B hB hs=>wd (by rw [cf hB]; exact h3) (h4.mono fun b o e=>?_)) ⟨h6,h5⟩
  obtain⟨e1,e2⟩:=dX e;rw [cf fun z=>e1 (hs b z)];exact e2
 ·rename_i ks hd
  exact(Gi ks hd).elim
 ·exact S
theorem Inv.freeze {X:Cx}{pins:List (Addr×Obj)}{σ:St}{H:Hp}{s:Shared}{a:Addr}{kvs:List (Key×V)}(I:Inv X pins σ H s)(h:H a=some (.dK kvs)):∃o,Inv X pins σ (upd H a (.bq o (.dK kvs))) s:=by
 have ok:=I.ar a _ h;obtain⟨z,na,vs,r,o,es,ep,g,x⟩:=id ok;refine⟨o,?_⟩;have:=I.write (x:=a) (e:=a) (o:=.bq o (.dK kvs)) (h':=s.heap) (t':=s.toks) (by rw [h]; exact lA) (.inl rfl) (fun _ _ _ q=>q) ⟨o,g⟩ ⟨g,z,na,vs,r,o,es,ep,g,x⟩;exact this
theorem fg.LI {K:ah}{Hin:Hp}{A₀:List Addr}{ρ:aa}{σ:St}{H:Hp}{i:Nat}{ds:List (List Nat×List Nat)}(S:fg K Hin A₀ ρ σ H)(hd:ρ[i]?=some (.bT ds)) :
  ∃a,H a=some (.dK (a9 ds))/\∀o,fg K Hin A₀ (ρ.set i (.val (.aj ds))) σ (upd H a (.bq o (.dK (a9 ds)))):=by
 obtain⟨os,S⟩:=S;obtain⟨a,h1,h2,h3,h4⟩:=S.2.2.2.bT i ds hd;exact⟨a,h3,fun ob=>S.let hd h1 rfl rfl (fun _ hx=>aF hx) (by rw [aU]; simp) (fun B hB _=>Ed (o:=ob) (by rw [cf hB]; exact aU)) h4⟩
theorem rG (i:Nat)(h:Bv X cls E rest s):Bv X cls E rest (lI i s):=fun pins sh σ H D I h_=>by
 obtain⟨Hin,A₀,ρ,S,q⟩:=h_
 by_cases hz:∃ks,ρ[i]?=some (.bT ks)
 ·obtain⟨ks,hk⟩:=hz
  obtain⟨a,h1,h2⟩:=S.LI hk;obtain⟨o,I'⟩:=I.freeze h1;refine h pins sh σ _ D I' ⟨Hin,A₀,_,h2 o,?_⟩;unfold lI L2.rel oo at q;rw [hk] at q;exact q
 ·exact h pins sh σ H D I ⟨Hin,A₀,L2.rel i ρ,S.rel i (fun ks e=>hz ⟨ks,e⟩),q⟩
theorem bX (he:Ev X cls E a f):Sv X cls E (.Return (some a) pos) (bR f):=(i9 he).imp fun D σ H ⟨Hin,A₀,ρ,⟨os,s0,L0,fr,F⟩,q⟩=>
 ⟨os,os++A₀,ρ,F,ky s0 q fun d v H' _ q1 s' r z=>q1 v H' (s0.trans s') (r.mono Gw) z⟩
theorem pV (he:Ev X cls E a f)(hs:swapsWith a none pos.line X.env=pure false:=by rfl):Sv X cls E (.Expr a pos) (iy f):=(oz he hs).imp fun D σ H ⟨Hin,A₀,ρ,⟨os,s0,L0,fr,F⟩,q⟩=>
 ⟨os,os++A₀,ρ,F,ky s0 q fun d v H' _ q1 s' r z=>q1 σ H' ⟨os,s0.trans s',L0,fr,F.mono s'⟩⟩
theorem UD {g:GM}{D:Ends}{σ:St}{H:Hp}(q:sM X.K cls E (cP f g) D σ H):vQ (tM X.K cls E f) (gM X.K g) D σ H:=by
 obtain⟨Hin,A₀,ρ,⟨os,s0,L0,fr,F⟩,q⟩:=q;refine⟨os,os++A₀,ρ,F,ky s0 q fun d v H' _ q1 s' r z=>?_⟩
 cases hg:g d ρ with
 |ok ρ'=>
  rw [hg] at q1;exact⟨os,os++A₀,ρ,d,F.mono s',r,z,ρ',hg,fun aJ F'=>q1 aJ H' ⟨os,s0.trans s',L0,fr,F'⟩⟩
 |ex c=>rw [hg] at q1; exact(show False from q1).elim
 |bad=>rw [hg] at q1; exact(show False from q1).elim
theorem Vc {g:GM}{tg:Expr}(he:Ev X cls E a f)(hg:PG X tg (gM X.K g))(hs:swapsWithSole [tg] a pos.line X.env=pure false:=by rfl)(hw:swappedStores [tg] a X.env=pure none:=by rfl)
  (h1:(assignEach [tg] X.env).map (·.2)=[assign tg X.env]:=by rfl):Sv X cls E (.Assign [tg] a pos) (cP f g):=(LY he hg hs hw h1).imp fun D σ H q=>UD q
theorem KR {i:Nat}{te:TE}(ht:∀σ H Q,tM X.K cls E f σ H Q->te σ H Q){D:Ends}{σ:St}{H:Hp}(q:sM X.K cls E (cP f (aL i)) D σ H):vQ te (uh i) D σ H:=by
 obtain⟨Hin,A₀,ρ,⟨os,s0,L0,fr,F⟩,q⟩:=q;refine ht σ H _ ⟨os,os++A₀,ρ,F,ky s0 q fun d v H' _ q1 s' r z=>?_⟩;exact q1 _ H' ⟨os,s0.trans s',L0,fr,(F.mono s').put i r z⟩
theorem fZ {i:Nat}{x:Str}{pos':Pos}(hN:X.N.Nodup)(hi:X.N[i]?=some x)(hx:Loc X.env.scope x)(he:Ev X cls E a f)(hs:swapsWith a (some (.Name x pos')) pos.line X.env=pure false:=by rfl)
  (hf:X.fn x=true∨X.env.scope.names.lookup x=some .local:=by first | exact .inl rfl | exact .inr rfl | assumption):Sv X cls E (.Assign [.Name x pos'] a pos) (cP f (aL i)):=(qj hN hi hx he hs hf).imp fun D σ H q=>KR (fun _ _ _ z=>z) q
theorem U3 {i:Nat}{x:Str}{pos' kq:Pos}{scope:Scope}{N:List Str}{k:Nat}{fr:List Nat}{tg iter elt:Expr}{ifs:List Expr}{ι:IM}{g:GM}{tc:aa->M Bool}{te:aa->M Dt}(hk:GK k g)(hc:X.calm=true)(S:eB X scope N k fr)(hi:Iv X cls E tg iter ι)
  (hg:∀pins fp s H,PG (bZ X scope N pins fp s H) tg (gM X.K g)) (ht:∀pins fp s H,jl (bZ X scope N pins fp s H) ifs (eV X.K cls E0 tc))
  (he:∀pins fp s H,PE (bZ X scope N pins fp s H) elt (tM X.K cls E0 te)) (hN:X.N.Nodup) (Gv:X.N[i]?=some x) (hx:X.env.scope.names.lookup x=some .local)
  (F8:swapsWith (.ListComp elt [⟨tg,iter,ifs,0⟩] scope pos) (some (.Name x pos')) kq.line X.env=pure true:=by rfl)
  (hs:∀x,foldedSetIterable iter X.env x=pure x:=by intro _; rfl):Sv X cls E (.Assign [.Name x pos'] (.ListComp elt [⟨tg,iter,ifs,0⟩] scope pos) kq) (cP (dy k fr ι g tc te) (aL i)):=
 (Xe hc S hi hg ht he hN Gv hx F8 hs).imp fun D σ H q=>KR (KP hk) q
theorem U5 {fs:aa->M (List Dt)}{i j:Nat}{x y:Str}{px py pt:Pos}{kt k2 g8}(hc:X.calm=true)(hN:X.N.Nodup)(hi:X.N[i]?=some x)(hj:X.N[j]?=some y)(lR:i≠j)
  (hx:X.env.scope.names.lookup x=some .local) (hy:X.env.scope.names.lookup y=some .local) (ha:Av X cls E [a,b] fs)
  (hw:swappedStores [.Tuple [.Name x px,.Name y py] kt pt] (.Tuple [a,b] k2 g8) X.env=pure (some [x,y]))
  (hs:swapsWithSole [.Tuple [.Name x px,.Name y py] kt pt] (.Tuple [a,b] k2 g8) pos.line X.env=pure false:=by rfl) :
  Sv X cls E (.Assign [.Tuple [.Name x px,.Name y py] kt pt] (.Tuple [a,b] k2 g8) pos) (zg i j fs):=(LW hc hN hi hj lR hx hy ha hw hs).imp fun D σ H ⟨Hin,A₀,ρ,⟨os,s0,L0,fr,F⟩,q⟩=>by
 refine⟨os,os++A₀,ρ,F,?_⟩;unfold zg at q
 cases hm:fs ρ with
 |ok ds=>
  rw [hm] at q;intro vs H' s' r z;simp only [bz] at q;unfold zI at q
  split at q
  ·rename_i d e
   obtain⟨v,w,rfl,r1,r2⟩:=oj r;exact⟨v,w,rfl,q _ H' ⟨os,s0.trans s',L0,fr,((F.mono s').put i r1 z.1).put j r2 z.2.1⟩⟩
  ·exact q.elim
 |ex c=>rw [hm] at q; exact fun H' s'=>q H' (s0.trans s')
 |bad=>rw [hm] at q; exact q
theorem dP {F G:SM}{tc:aa->M Bool}{sa sb:List Stmt}(hc:Tv X cls E c tc)(ha:Bv X cls E sa F)(hb:Bv X cls E sb G):Sv X cls E (.If c sa sb pos) (dI tc F G):=(zx hc ha hb).imp fun D σ H ⟨Hin,A₀,ρ,⟨os,s0,L0,fr,Ft⟩,q⟩=>
 ⟨os,os++A₀,ρ,Ft,WJ s0 q fun b H' _ q1 s'=>by
  have S':fg X.K Hin A₀ ρ σ H':=⟨os,s0.trans s',L0,fr,Ft.mono s'⟩
  cases b with
  |false=>
   simp only [cT,if_false] at q1 ⊢;exact⟨Hin,A₀,ρ,S',q1⟩
  |true=>
   simp only [if_true] at q1 ⊢;exact⟨Hin,A₀,ρ,S',q1⟩⟩
theorem U7 {st:Stmt}(h:Sv X.oI cls E0 st s):Sv X cls E st (fun ρ=>(s ρ).calm):=(PS.oI h).imp fun D σ H ⟨Hin,A₀,ρ,S,q⟩=>⟨Hin,A₀,ρ,S,by
 have q:j6 X.K cls E Hin A₀ (s ρ).calm D:=q
 cases hm:s ρ with
 |ok fl=>rw [hm] at q; cases fl <;> exact q
 |ex c=>rw [hm] at q; exact(show False from q).elim
 |bad=>rw [hm] at q; exact(show False from q).elim⟩
noncomputable abbrev Uv (X:Cx)(cls:Nat->Addr)(E:XK)(e:Expr)(f:aa->M Unit):Prop:=PE X e (K0 X.K cls E f)
theorem TK (h:Ev X cls E a f):Uv X cls E a (CZ f):=PE.imp h fun σ H Q ⟨O,A,ρ,F,q⟩=>⟨O,A,ρ,F,Rg.bind q fun d _ q1 v H' s' _ _=>q1 v H' s'⟩
theorem zb {x:Str}{np bW:Pos}{cn:Nat}{fu:aa->M Unit}(hc:X.calm=true)(R:Rz X E)(hg:Gl X x)(hm:X.mg x=some (.ref (cls cn)))(hK:excIn X.K (cls cn) lC "ValueError.__new__" = true)(he:Uv X cls E a fu)(bj:isStar a=false:=by rfl)
  (hd:(x==("__debug__" : Str))=false:=by decide):Sv X cls E (.Raise (some (.Call (.Name x np) [a] [] bW)) none pos) (qc cn fu):=(Xf hc R hg hm hK he bj hd).imp fun D σ H ⟨Hin,A₀,ρ,⟨os,s0,L0,fr,F⟩,q⟩=>by
 refine⟨os,os++A₀,ρ,F,?_⟩;unfold qc at q
 cases fQ:fu ρ with
 |ok u=>
  rw [fQ] at q;exact fun v H' s'=>q H' (s0.trans s')
 |ex c=>rw [fQ] at q; exact fun H' s'=>q H' (s0.trans s')
 |bad=>rw [fQ] at q; exact q
theorem cx.weak {K:ah}{Hin R6:Hp}{A₀ os:List Addr}{ρ:aa}{σ:St}{H:Hp}(h:cx K R6 A₀ os ρ σ H)(s:aw Hin R6)(L:cJ Hin A₀):cx K Hin A₀ os ρ σ H:=by
 refine⟨s.trans h.1,L,fun a ha=>?_,h.2.2.2⟩
 cases q:Hin a with
 |none=>rfl
 |some o=>
  have e:=s a o q;rw [h.2.2.1 a ha] at e;exact nomatch e
theorem Uy {ι:IM}{g:GM}{D:Ends}{σ:St}{H:Hp}(q:sM X.K cls E0 (D0 ι g s) D σ H):K2 (iM X.K cls E0 ι) (gM X.K g) (sM X.K cls E0 s) D σ H:=by
 obtain⟨Hin,A₀,ρ,⟨os,s0,L0,fr,F⟩,q⟩:=q;refine⟨os,os++A₀,ρ,F,?_⟩;unfold D0 at q
 cases hm:ι ρ with
 |ex c=>rw [hm] at q; exact fun H' s'=>q H' (s0.trans s')
 |bad=>rw [hm] at q; exact q
 |ok ds=>
  rw [hm] at q;simp only [bz] at q;intro J H1 s1 hJ;have sI:aw Hin (ao H1 os):=fun b o e=>by
   rw [cf fun z=>by rw [fr b z] at e; cases e];exact s1 b o (s0 b o e)
  have L1:cJ (ao H1 os) A₀:=L0.mono sI;have sJ:∀{H2},aw (ao H1 os) H2->aw (ao H1 (os++A₀)) H2:=fun s2 b o e=>by
   obtain⟨e1,e2⟩:=dX e;refine s2 b o ?_;rw [cf fun z=>e1 (eT _ z)];exact e2
  refine⟨fun i m aJ H'=>i<=ds.length/\m=ds.length - i/\∃ρ',fg X.K (ao H1 os) A₀ ρ' aJ H'/\j6 X.K cls E0 Hin A₀ (iJ g s (ds.drop i) ρ') D,
   ⟨ds.length,gw _,rfl,ρ,⟨os,bO,L1,fun a ha=>OL ha,F.mono s1⟩,q⟩,?_⟩
  rintro i m aJ H' ⟨hi,rfl,ρ',⟨kB,s',L',ui,F'⟩,q'⟩
  by_cases aR:i<ds.length
  ·refine .inr ⟨hJ.go i H' aR (sJ s'),fun ed H2=>i+1<=ds.length/\∃mx,fg X.K (ao H1 os) A₀ mx ed H2/\j6 X.K cls E0 Hin A₀ (iJ g s (ds.drop (i+1)) mx) D,fun ed H2 ⟨h1,h2⟩=>⟨ds.length - (i+1),by omega,h1,rfl,h2⟩,fun x H2 y=>?_⟩
   have sA:aw (ao H1 (os++A₀)) (ao H' (kB++A₀)):=fun b o e=>by
    obtain⟨e1,e2⟩:=dX e;have e3:ao H1 os b=some o:=by rw [cf fun z=>e1 (eT _ z)]; exact e2
    rw [cf]
    ·exact s' b o e3
    ·intro z
     rcases eC.mp z with z | z
     ·rw [ui b z] at e3; cases e3
     ·exact e1 (eh _ z)
   obtain⟨sy,d,hd,rd⟩:=hJ.yl i H' x H2 (kB++A₀) aR F'.bD sA y;have xp:ds.drop i=d::ds.drop (i+1):=by
    rw [vq aR]
    congr 1
    have:=mI aR;rw [hd] at this;exact(gZ this).symm
   rw [xp] at q';simp only [iJ] at q'
   cases hg:g d ρ' with
   |ex c=>rw [hg] at q'; exact(show False from q').elim
   |bad=>rw [hg] at q'; exact(show False from q').elim
   |ok aX=>
    rw [hg] at q';simp only [iL,bz] at q';refine⟨kB,kB++A₀,ρ',d,F'.mono sy,rd,ix hJ.small (kg hd),aX,hg,fun ed F2=>?_⟩;refine⟨ao H1 os,A₀,aX,⟨kB,s'.trans sy,L',ui,F2⟩,?_⟩
    cases hs:s aX with
    |ex c=>rw [hs] at q'; exact(show False from q').elim
    |bad=>rw [hs] at q'; exact(show False from q').elim
    |ok fl=>
     rw [hs] at q';simp only [iL,bz] at q'
     cases fl with
     |nx mx=>exact fun gY H3 S3=>⟨aR,mx,S3,q'⟩
     |ct mx=>exact fun gY H3 S3=>⟨aR,mx,S3,q'⟩
     |bk mx=>exact fun gY H3 ⟨X2,S3⟩=>q' gY H3 ⟨X2,S3.weak sI L0⟩
     |rt d=>exact fun v H3 s3 r z=>q' v H3 (sI.trans s3) r z
  ·have e:i=ds.length:=by omega
   subst e;rw [vy] at q';exact .inl ⟨hJ.stop H' (sJ s'),q' aJ H' ⟨kB,cx.weak ⟨s',L',ui,F'⟩ sI L0⟩⟩
theorem vT {iter tg:Expr}{body:List Stmt}{ι:IM}{g:GM}(hc:X.calm=true)(hi:Iv X.oI cls E0 tg iter ι)(hg:PG X.oI tg (gM X.K g))(hb:Bv X.oI cls E0 body s)
  (hs:∀x,foldedSetIterable iter X.env x=pure x:=by intro _; rfl):Sv X cls E (.For tg iter body [] pos) (oi ι g s):=
 U7 (X:=X) ((Xg (X:=X.oI) PassesOwn.never hc hi hg hb hs).imp fun D σ H q=>Uy q)
theorem Hm {K:ah}{A:List Addr}{ds:List Dt}{vs:List V}{H:Hp}(L:cJ H A)(r:av K (ao H A) ds vs)(z:bC ds)(n:Nat):bf K [] A (ds.map Bd.val++a7 n .no) (vs.map some++a7 n none) H:=by
 have hl:=r.length;have key:∀(i:Nat) b,(ds.map Bd.val++a7 n .no)[i]?=some b->b=.no∨∃d,b=.val d/\ds[i]?=some d:=fun i b h=>by
  by_cases hi:i<ds.length
  ·rw [rQ (by simpa using hi)] at h
   simp only [jt,iZ] at h;obtain⟨d,h1,h2⟩:=h;exact .inr ⟨d,h2.symm,h1⟩
  ·rw [rR (by simp; omega)] at h
   exact .inl (List.eq_of_mem_replicate (kg h))
 have no:∀{i b},(ds.map Bd.val++a7 n .no)[i]?=some b->gi b=true->False:=fun {i b} h o=>by
  rcases key i b h with e | ⟨d',e,hd⟩ <;> rw [e] at o <;> cases o
 refine⟨by simp [hl],L,(fun a z=>nomatch z),fun i d h=>?_,fun i b h o=>(no h o).elim,fun i j b c v w _ h _ o=>(no h o).elim,fun i p x y h=>?_⟩
 ·rcases key i _ h with e | ⟨d',e,hd⟩
  ·cases e
  ·cases e
   have hi:i<ds.length:=(ej.mp hd).1;have hx:vs[i]?=some (vs[i]'(by omega)):=by simp
   obtain⟨d2,h1,h2⟩:=r.get hx;rw [hd] at h1;cases h1;refine⟨_,?_,h2,ix z (kg hd)⟩;rw [rQ (by simp; omega)];simp
 ·rcases key i _ h with e | ⟨d',e,hd⟩ <;> cases e
end
section
variable {P:Program}{w:World}{K:ah}{mg:Str->Option Value}{base:Heap}{cls:Nat->Addr}
theorem ade {x qual:Str}{st:Stmt}{f:Addr}{fd:FuncData}{N ps:List Str}{k np n:Nat}{b:SM}(F:fG K x qual st f fd)(S:bA N ps (az st))(hp:ps.length=np)(hn:N.length=np+n)
  (gn:∀(ax:Value) (A:Around) (outer:List Env) (s:Shared) (H:Hp) (E:XK),bF k (A.deeper (envOfC qual (az st) s.heap.objs.size f ax))->
   Rz (cg (aG P w) P w K mg base N qual (az st) f ax A outer s H E) E->Bv (cg (aG P w) P w K mg base N qual (az st) f ax A outer s H E) cls E (di st) b) (hf:ps=[dz]->(az st).names.lookup dz=some .local:=by first | assumption | decide +kernel) :
  cS P w K mg base (aG P w) (k+1) f fd ps (pZ K cls (cI np n b)):=by
 have len:∀vs H Q E,pZ K cls (cI np n b) vs H Q E->vs.length=np:=fun vs H Q E h_=>by
  obtain⟨A,ds,L,r,z,q⟩:=h_;unfold cI at q
  split at q
  ·rename_i hl
   rw [← r.length];exact hl
  ·exact(show False from q).elim
 refine F.qm S (fun vs H Q E h=>by rw [hp]; exact len vs H Q E h) fun ax A outer s H vs Q E hr h R=>?_;have hv:=len vs H Q E h;refine⟨_,gn ax A outer s H E hr R,?_⟩;obtain⟨B,ds,L,r,z,q⟩:=h;refine⟨H,B,ds.map Bd.val++a7 n .no,⟨[],.refl _,L,(fun a z=>nomatch z),?_⟩,?_⟩
 ·have e:start N vs=vs.map some++a7 n none:=by
   unfold start;rw [hn,hv,vp]
  rw [e];exact Hm L r z n
 ·unfold cI at q
  split at q
  ·cases hm:b (ds.map Bd.val++a7 n .no) with
   |ok fl=>
    rw [hm] at q
    cases fl with
    |nx ρ=>exact fun σ H' ⟨os,s',_,_,_⟩=>q .aI H' s' zp trivial
    |rt d=>exact fun v H' s' r' z'=>q v H' s' r' z'
    |bk ρ=>exact(show False from q).elim
    |ct ρ=>exact(show False from q).elim
   |ex c=>rw [hm] at q; exact q
   |bad=>rw [hm] at q; exact q
  ·exact(show False from q).elim
end
theorem oB {P:Program}{w:World}{X:Cx}:Passes (aG P w) X E0:=fun pins σ H s e s' I hc=>by
 obtain⟨ea,C,H',B,a0,_,_,_,_,_,_,_,_,_,hE⟩:=hc;exact hE.elim
section
variable {X:Cx}{cls:Nat->Addr}{E:XK}{a b c:Expr}{f g h:aa->M Dt}{pos:Pos}{st:Stmt}{rest:List Stmt}{s t:SM}{fs:aa->M (List Dt)}{es:List Expr}
theorem cx.anew {K:ah}{Hin:Hp}{A₀ os:List Addr}{ρ:aa}{σ:St}{H:Hp}{i:Nat}{p:Addr}{o:HO}{b:Bd}(S:cx K Hin A₀ os ρ σ H)(hp:H p=none)(hf:a5 (upd H p o) (.ref p) b=[p])
  (w:∀B,aw (ao H (os++A₀)) (ao (upd H p o) B)->iT K B (upd H p o) (.ref p) b):cx K Hin A₀ (p::os) (ρ.set i b) (σ.set i (some (.ref p))) (upd H p o):=by
 obtain⟨s0,L0,fr,F⟩:=S;have Au:p∉os++A₀:=F.bD.fresh hp;have s2:aw H (upd H p o):=.upd hp;have sh:aw (ao H (os++A₀)) (ao (upd H p o) ((p::os)++A₀)):=fun b o' e=>by
  obtain⟨e1,e2⟩:=dX e;have hb:b∉(p::os)++A₀:=fun z=>(ba.mp z).elim (cH e2 hp) e1;rw [cf hb];exact s2 b o' e2
 refine⟨s0.trans s2,L0,fun a ha=>?_,F.set (fun a ha=>?_) (fun a ha=>eT _ ha) sh (fun a ha _=>⟨cy _ ha,aF fun z=>Au (z ▸ eT _ ha)⟩) (fun a ha hn=>⟨cy _ ha,fun z=>(ba.mp z).elim (fun y=>Au (y ▸ ha)) hn,aF fun z=>Au (z ▸ ha)⟩) (.inr ⟨w _ sh,fun a ha=>?_⟩)⟩
 ·rcases ba.mp ha with z | z
  ·subst z
   cases e:Hin a with
   |none=>rfl
   |some q=>have:=s0 a q e; rw [hp] at this; cases this
  ·exact fr a z
 ·rcases ba.mp ha with z | z
  ·subst z; rw [aU]; simp
  ·exact(F.bD.mono s2) a z
 ·rw [hf] at ha
  obtain rfl:a=p:=by simpa using ha
  exact⟨bH,.inl fun z=>Au (eT _ z)⟩
theorem cx.fresh {K:ah}{Hin:Hp}{A₀ os:List Addr}{ρ:aa}{σ:St}{H:Hp}{i:Nat}{ds:List Dt}{vs:List V}{p:Addr}(S:cx K Hin A₀ os ρ σ H)(hp:H p=none)(r:av K (ao H (os++A₀)) ds vs)(z:bC ds)(hl:ds.length<=10000) :
  cx K Hin A₀ (p::os) (ρ.set i (.own ds)) (σ.set i (some (.ref p))) (upd H p (.lst vs)):=S.anew hp rfl fun B s=>⟨p,vs,rfl,aU,r.mono s,z,hl⟩
theorem cx.turn {K:ah}{Hin:Hp}{A₀ os:List Addr}{ρ:aa}{σ:St}{H:Hp}{i:Nat}{p:Addr}{o:HO}{b b':Bd}(S:cx K Hin A₀ os ρ σ H)(hi:ρ[i]?=some b)(hp:σ[i]?=some (some (.ref p)))(ho:gi b=true)(hf:a5 H (.ref p) b=[p])(hf':a5 (upd H p o) (.ref p) b'=[p])
  (w:ao (upd H p o) (os++A₀)=ao H (os++A₀)->iT K (os++A₀) (upd H p o) (.ref p) b'):cx K Hin A₀ os (ρ.set i b') σ (upd H p o):=by
 obtain⟨s0,L0,fr,F⟩:=S;obtain⟨v,h1,h2,h3⟩:=F.ow i b hi ho;rw [hp] at h1;cases h1;have eZ:p∈os:=h3 p (by rw [hf]; exact bH);have e:=xl (H:=H) (o:=o) (eT A₀ eZ);have qP:l7 ρ σ H i=[p]:=by rw [Hj hi hp ho]; exact hf
 refine⟨fun b o q=>?_,L0,fr,?_⟩
 ·rw [aF (cH q (fr p eZ))]
  exact s0 b o q
 ·have F2:=F.set (i:=i) (v':=.ref p) (b':=b') (O':=os) (A':=os++A₀) (H':=upd H p o) (fun a ha=>?_) F.sub (by rw [e]; exact .refl _) (fun a ha hn=>⟨ha,aF fun z=>hn (by rw [qP,z]; exact bH)⟩) (fun a ha hn=>⟨ha,hn,aF fun z=>hn (z ▸ eZ)⟩) (.inr ⟨w e,fun a ha=>?_⟩)
  ·rwa [set_same hp] at F2
  ·by_cases hz:a=p
   ·rw [hz,aU]; simp
   ·rw [aF hz]; exact F.bD a ha
  ·rw [hf'] at ha
   obtain rfl:a=p:=by simpa using ha
   exact⟨eZ,.inr (by rw [qP]; exact bH)⟩
theorem cx.grow {K:ah}{Hin:Hp}{A₀ os:List Addr}{ρ:aa}{σ:St}{H:Hp}{i:Nat}{ds ns:List Dt}{p:Addr}{ys:List V}(S:cx K Hin A₀ os ρ σ H)(hi:ρ[i]?=some (.own ds))(hp:σ[i]?=some (some (.ref p)))
  (r:av K (ao H (os++A₀)) ns ys) (z:bC ns) (zl:ns.length<=10000):cx K Hin A₀ os (ρ.set i (.own ns)) σ (upd H p (.lst ys)):=
 S.turn hi hp rfl rfl rfl fun e=>⟨p,ys,rfl,aU,by rw [e]; exact r,z,zl⟩
theorem cx.mono {K:ah}{Hin:Hp}{A₀ os:List Addr}{ρ:aa}{σ:St}{H H':Hp}(S:cx K Hin A₀ os ρ σ H)(s:aw H H'):cx K Hin A₀ os ρ σ H':=⟨S.1.trans s,S.2.1,S.2.2.1,S.2.2.2.mono s⟩
theorem Vd {i:Nat}{x:Str}{np apos bW:Pos}(hv:PE X (.Name x np) (eE i))(bj:isStar a=false)(he:Ev X cls E a f)
  (hs:swapsWith (.Call (.Attribute (.Name x np) "append" apos) [a] [] bW) none pos.line X.env=pure false:=by rfl)
  (nv:attributeBase (.Name x np) "append" X.env (eval (.Name x np) X.env)=eval (.Name x np) X.env:=by rfl)
  (xn:((backTo bW (starEach [a] X.env)).all (fun x=>!x.1)&&(backToKw bW (keywordEach [] X.env)).all (fun x=>x.1.isSome)
   && decide (([a]:List Expr).length+([]:List Keyword).length+(if ([]:List Keyword).isEmpty then 0 else 1)<30))=true:=by rfl)
  (kO:(apos.endLine==bW.line)=true:=by rfl) (jT:starEach [a] X.env=(false,eval a X.env)::starEach [] X.env:=by rfl) (xa:(backTo bW (starEach [] X.env)).any (·.1)=false:=by rfl) :
  Sv X cls E (.Expr (.Call (.Attribute (.Name x np) "append" apos) [a] [] bW) pos) (zj i f):=
 (oz (wo vo Ci PySem.F.type_list_append zZ hv (bh _ _ _ _ _ bj he cL) nv xn kO jT xa) hs).imp fun D σ H ⟨Hin,A₀,ρ,⟨os,S⟩,q⟩=>by
 unfold zj Br at q
 split at q
 ·rename_i ds hi
  have F:=S.2.2.2;obtain⟨p,xs,h1,h2,h3,h4,h5,h6⟩:=F.own i ds hi;refine⟨.ref p,h1,.inl ⟨rfl,xs,bP.of h3⟩,os,os++A₀,ρ,F,ky S.1 q fun d v H' _ q1 s' r z=>?_⟩
  split at q1
  ·rename_i hl
   have hlen:=h4.length;refine⟨p,xs,v,rfl,rfl,s' _ _ h3,B8 (by omega:xs.length<=10000) (by decide),q1 _ _ ⟨os,?_⟩⟩;exact(S.mono s').grow hi h1 ((h4.mono (s'.ao _)).append (.cons r .nil)) (tG h5 ⟨z,trivial⟩) (by simp; omega)
  ·exact q1.elim
 ·exact q.elim
end
section
variable {X:Cx}{cls:Nat->Addr}{E:XK}{a b c:Expr}{f g h:aa->M Dt}{pos:Pos}{fs:aa->M (List Dt)}{es:List Expr}
theorem A0 {x:Str}{j p apos}(ha:Av X cls E [a] fs)(bj:isStar a=false)(hx:x=⟨([]:List Nat).toArray⟩:=by decide +kernel)(kO:(apos.endLine==pos.line)=true:=by rfl):Ev X cls E (.Call (.Attribute (.Constant (.str x) j p) "join" apos) [a] [] pos) (oE m9 (pC (.str [])) fs):=by
 have hs:starEach [a] X.env=(false,eval a X.env)::starEach [] X.env:=jG bj;exact adB PySem.F.plainAttrs_str PySem.F.slot_str_join PySem.F.type_str_join ZP (a8 (l:=[]) hx) ha rfl (by rw [hs]; rfl) kO hs rfl
end
theorem MN:typeLookup (.type "str") "__int__" = pure none:=by rw [typeLookup_type,builtinLookup_eq_fast]; kernel_rfl
theorem MQ:typeLookup (.type "str") "__index__" = pure none:=by rw [typeLookup_type,builtinLookup_eq_fast]; kernel_rfl
theorem MM:typeLookup (.type "str") "__trunc__" = pure none:=by rw [typeLookup_type,builtinLookup_eq_fast]; kernel_rfl
theorem ZO (t:Tok):Meets (Builtin.«int.__new__» ⟨[.type "int",.str ⟨#[48]⟩ t],[]⟩) (Made.int 0).spec:=
 Meets.of_wp fun prog w A R s hs=>by
  obtain⟨hp,g,d,tk,os⟩:=s;have f1:=F.conv_sub_int;have f2:=F.madeHere_int;have f3:=MN;have f4:=MQ;have f5:=MM
  repeat (any_goals (first | assumption | wp_step))
  refine Eq.mpr (congrArg (fun m=>wpAny (model prog w) A.in1 m _ _ _) (show _=mkInt 0 from ?e)) ?_
  case e=>kernel_rfl
  repeat (any_goals (first | assumption | wp_step))
  all_goals exact⟨_,rfl,hs⟩
theorem ZN (t:Tok):Meets (Builtin.«int.__new__» ⟨[.type "int",.str ⟨#[49]⟩ t],[]⟩) (Made.int 1).spec:=
 Meets.of_wp fun prog w A R s hs=>by
  obtain⟨hp,g,d,tk,os⟩:=s;have f1:=F.conv_sub_int;have f2:=F.madeHere_int;have f3:=MN;have f4:=MQ;have f5:=MM
  repeat (any_goals (first | assumption | wp_step))
  refine Eq.mpr (congrArg (fun m=>wpAny (model prog w) A.in1 m _ _ _) (show _=mkInt 1 from ?e)) ?_
  case e=>kernel_rfl
  repeat (any_goals (first | assumption | wp_step))
  all_goals exact⟨_,rfl,hs⟩
section
variable {X:Cx}{cls:Nat->Addr}{E:XK}
theorem ae2:fi X (.type "int") (fun xs H Q=>xs=[S [48]]/\Q (.int 0) H):=by
 intro pins s σ H xs us Q I r ⟨e,q⟩;subst e;obtain⟨u,rfl,t,rfl⟩:=r.one;exact call_int_1 (ZO t) (show (Made.int 0).post _ s from⟨rfl,fun ht=>⟨.int 0,H,I.tok _,⟨_,rfl⟩,q⟩⟩)
theorem ae0:fi X (.type "int") (fun xs H Q=>xs=[S [49]]/\Q (.int 1) H):=by
 intro pins s σ H xs us Q I r ⟨e,q⟩;subst e;obtain⟨u,rfl,t,rfl⟩:=r.one;exact call_int_1 (ZN t) (show (Made.int 1).post _ s from⟨rfl,fun ht=>⟨.int 1,H,I.tok _,⟨_,rfl⟩,q⟩⟩)
theorem Be:rP X cls E (.type "int") j5:=by
 refine⟨_,ae1.or (ae2.or ae0),fun A H Q ds vs L r z q=>?_⟩;unfold j5 at q
 split at q
 ·rename_i i
  obtain⟨v,rfl,rv⟩:=jJ r;exact .inl (.inl ⟨i,by rw [dg rv],q _ H (.refl _) ek trivial⟩)
 ·rename_i b
  obtain⟨v,rfl,rv⟩:=jJ r;exact .inl (.inr ⟨b,by rw [qi rv],q _ H (.refl _) ek trivial⟩)
 ·obtain⟨v,rfl,rv⟩:=jJ r
  exact .inr (.inl ⟨by rw [cK rv],q _ H (.refl _) ek trivial⟩)
 ·obtain⟨v,rfl,rv⟩:=jJ r
  exact .inr (.inr ⟨by rw [cK rv],q _ H (.refl _) ek trivial⟩)
 ·exact(show False from q).elim
end
noncomputable abbrev fF (h:Heap)(T:Addr)(xs:Array Value):Prop:=h.get? T=some {cls:=.type "tuple",data:=.seq xs}
theorem CV {prog:Program}{w:World}{A:Around}{E:Value->Shared->Prop}{s:Shared}{T:Addr}{xs:Array Value}{x:Value}{k:Nat}{Q:Unit->Shared->Prop}(hT:fF s.heap T xs)
  (h:∀h',fF h' T (xs.setIfInBounds k x)->j9 T s.heap h'->Q () {s with heap:=h'}) (hx:xs.size<=100:=by simp) :
  wpAny (model prog w) A (updateSeq T (·.setIfInBounds k x)) Q E s:=by
 refine wpAny_updateSeq hT rfl (h _ ?_ (B9 ..)) (hz:=c9 hx (by decide)) (_hz':=by rw [Array.size_setIfInBounds]; exact c9 hx (by decide));show Heap.get? _ _=_;rw [yJ _ hT rfl];simp [Obj.mapSeq]
structure BA (z TI TO i1 i2:Addr) (f1:List Addr) (f2:List Addr):Prop where
 TIz:TI≠z
 TOz:TO≠z
 TITO:TI≠TO
 z1:i1≠z
 TI1:TI≠i1
 RB:TO≠i1
 Hh:z∉f1
 Hu:TO∉f1
 i12:i1≠i2
 f12:i2∉f1
 z2:i2≠z
 TI2:TI≠i2
 TO2:TO≠i2
 Hg:z∉f2
 Ht:TO∉f2
 i21:i2≠i1
 Qd:i1∉f2
section
variable {prog:Program}{w:World}{A:Around}{E:Value->Shared->Prop}{s:Shared}{z TI TO i1 i2:Addr}{f1:List Addr}{n1:Nat}{P1:Nat->Value->Prop}{S1:Nat->Heap->Prop}{f2:List Addr}{n2:Nat}{P2:Nat->Value->Prop}{S2:Nat->Heap->Prop}
theorem So (L:BA z TI TO i1 i2 f1 f2)(D1:Draws prog w A i1 f1 n1 P1 S1)(D2:Draws prog w A i2 f2 n2 P2 S2){m:Nat}{a1 a2:Value}(hz:IsZip s.heap z TI TO .none)(je:fF s.heap TI #[.ref i1,.ref i2])(jW:fF s.heap TO #[a1,a2])(iw:S1 m s.heap)(gG:S2 m s.heap)(h1:m<n1)(h2:m<n2){Q:Value->Shared->Prop}
  (hQ:∀x1 x2 h' tk,P1 m x1->P2 m x2->IsZip h' z TI TO (rawInt s.heap.objs.size)->fF h' TO #[x1,x2]->S1 (m+1) h'->S2 (m+1) h'->fF h' s.heap.objs.size #[x1,x2]->(∀c o,c≠z->c≠TO->c≠i1->c≠i2->s.heap.get? c=some o->h'.get? c=some o)->Q (.ref s.heap.objs.size) {s with heap:=h',toks:=tk}) :
  wpAny (model prog w) A (Builtin.«zip.__next__» ⟨[.ref z],[]⟩) (fun fin s'=>∃v,fin=.done (.ret v)/\Q v s') E s:=by
 show wpAny _ _ (field (.ref z) 2 >>= _) _ _ _;refine wpAny_bind (wpAny_field hz rfl (x:=.bool false) rfl ?_);show wpAny _ _ (field (.ref z) 3 >>= _) _ _ _;refine wpAny_bind (wpAny_field hz rfl (x:=.ref TI) rfl ?_);refine wpAny_bind (wpAny_seqItems je rfl ?_);show wpAny _ _ (yj (.ref z) >>= _) _ _ _;refine wpAny_bind ?_;unfold yj;refine wpAny_bind (wpAny_field hz rfl (x:=.none) rfl (wpAny_pure ?_));simp only [if_true];refine wpAny_bind (wpAny_rule ?_);refine wpAny_bind (wpAny_field hz rfl (x:=.ref TO) rfl ?_);refine wpAny_bind (wpAny_setField_rec hz (by simp) fun g0 oP lP=>?_)
 replace oP:IsZip g0 z TI TO .ellipsis:=oP
 refine wpAny_bind ?_;simp only [List.zipIdx_cons,List.zipIdx_nil,yr,List.forIn_nil];have Df:fF g0 TO #[a1,a2]:=lP.extBut _ _ L.TOz jW;have wc:=D1.frame _ _ _ iw fun b hb o e=>lP.extBut b o (fun q=>L.Hh (q ▸ hb)) e;have D6:=D2.frame _ _ _ gG fun b hb o e=>lP.extBut b o (fun q=>L.Hg (q ▸ hb)) e;refine wpAny_bind (wpAny_bind (wpAny_onRaise ?_));show wpAny _ _ (n3 (.ref i1) >>= _) _ _ _;refine wpAny_bind (D1.item m _ _ _ h1 wc fun x1 Hf KG LR D4 lO=>wpAny_pure ?_);have vO:fF Hf TO #[a1,a2]:=lO.extBut _ _ L.RB Df;refine wpAny_bind (wpAny_seqItems vO rfl ?_);refine wpAny_bind (CV vO fun g1 tq jT=>?_)
 replace tq:fF g1 TO #[x1,a2]:=tq
 refine wpAny_bind (wpAny_letGo (wpAny_pure ?_));have LA:=D1.frame _ _ _ D4 fun b hb o e=>jT.extBut b o (fun q=>L.Hu (q ▸ hb)) e;have zk:=D2.frame _ _ _ (D2.frame _ _ _ D6 fun b hb o e=>lO.extBut b o (fun q=>L.Qd (q ▸ hb)) e) fun b hb o e=>jT.extBut b o (fun q=>L.Ht (q ▸ hb)) e;have FW:IsZip g1 z TI TO .ellipsis:=jT.extBut _ _ L.TOz.symm (lO.extBut _ _ L.z1.symm oP);refine wpAny_bind (wpAny_bind (wpAny_onRaise ?_));show wpAny _ _ (n3 (.ref i2) >>= _) _ _ _;refine wpAny_bind (D2.item m _ _ _ h2 zk fun x2 g2a tk2 W6 Ws w8=>wpAny_pure ?_);have KY:fF g2a TO #[x1,a2]:=w8.extBut _ _ L.TO2 tq;refine wpAny_bind (wpAny_seqItems KY rfl ?_);refine wpAny_bind (CV KY fun g2 y8 eY=>?_)
 replace y8:fF g2 TO #[x1,x2]:=y8
 refine wpAny_bind (wpAny_letGo (wpAny_pure (wpAny_pure ?_)));have Wu:=D1.frame _ _ _ (D1.frame _ _ _ LA fun b hb o e=>w8.extBut b o (fun q=>L.f12 (q ▸ hb)) e) fun b hb o e=>eY.extBut b o (fun q=>L.Hu (q ▸ hb)) e;have Wt:=D2.frame _ _ _ Ws fun b hb o e=>eY.extBut b o (fun q=>L.Ht (q ▸ hb)) e;have Oo:IsZip g2 z TI TO .ellipsis:=eY.extBut _ _ L.TOz.symm (w8.extBut _ _ L.z2.symm FW);refine wpAny_bind (wpAny_seqItems y8 rfl ?_);refine wpAny_bind (wpAny_newTuple ?_);have hsz:g2.objs.size=s.heap.objs.size:=by rw [eY.1,w8.1,jT.1,lO.1,lP.1]
 have hk2:∀c o,c≠z->c≠TO->c≠i1->c≠i2->s.heap.get? c=some o->g2.get? c=some o:=fun c o c1 c2 d1 d2 e=>eY.extBut _ _ c2 (w8.extBut _ _ d2 (jT.extBut _ _ c2 (lO.extBut _ _ d1 (lP.extBut _ _ c1 e))));have Om:z<g2.objs.size:=aV Oo;show wpAny _ _ (J9 (.ref z) (.ref g2.objs.size) >>= _) _ _ _;refine wpAny_bind ?_;unfold J9;have hz6:IsZip (g2.push {cls:=.type "tuple",data:=.seq #[x1,x2]}) z TI TO .ellipsis:=aW _ Oo
 refine wpAny_bind (wpAny_setField_rec hz6 (by simp) fun h7 FV Ox=>?_)
 replace FV:IsZip h7 z TI TO (rawInt g2.objs.size):=FV
 refine wpAny_setField_rec FV (by simp) fun h8 Ao Ow=>?_
 replace Ao:IsZip h8 z TI TO (rawInt g2.objs.size):=Ao
 have up:∀c o,c≠z->g2.get? c=some o->h8.get? c=some o:=fun c o c1 e=>Ow.extBut _ _ c1 (Ox.extBut _ _ c1 (aW _ e));have OZ:fF h8 g2.objs.size #[x1,x2]:=Ow.extBut _ _ (vt Om) (Ox.extBut _ _ (vt Om) (cN _ rfl));rw [hsz] at Ao OZ;refine wpAny_pure ⟨_,rfl,?_⟩;show Q (.ref g2.objs.size) _;rw [hsz];exact hQ x1 x2 h8 _ LR W6 Ao (up _ _ L.TOz y8) (D1.frame _ _ _ Wu fun b hb o e=>up b o (fun q=>L.Hh (q ▸ hb)) e) (D2.frame _ _ _ Wt fun b hb o e=>up b o (fun q=>L.Hg (q ▸ hb)) e) OZ fun c o c1 c2 d1 d2 e=>up c o c1 (hk2 c o c1 c2 d1 d2 e)
end
section
variable {prog:Program}{w:World}{A:Around}{E:Value->Shared->Prop}{s:Shared}{z TI TO i1 i2:Addr}{f1:List Addr}{n1:Nat}{P1:Nat->Value->Prop}{S1:Nat->Heap->Prop}{f2:List Addr}{n2:Nat}{P2:Nat->Value->Prop}{S2:Nat->Heap->Prop}
theorem Sq (L:BA z TI TO i1 i2 f1 f2)(D1:Draws prog w A i1 f1 n1 P1 S1)(D2:Draws prog w A i2 f2 n2 P2 S2){a1 a2:Value}(hz:IsZip s.heap z TI TO .none)(je:fF s.heap TI #[.ref i1,.ref i2])(jW:fF s.heap TO #[a1,a2])(iw:S1 (min (n1) n2) s.heap)(gG:S2 (min (n1) n2) s.heap){Q:Fin->Shared->Prop}
  (hE:∀h' e tk,(∀c o,c≠z->c≠TO->c≠i1->c≠i2->s.heap.get? c=some o->h'.get? c=some o)->(∃o,h'.get? e=some o/\o.cls=.type "StopIteration")->E (.ref e) {s with heap:=h',toks:=tk}) :
  wpAny (model prog w) A (Builtin.«zip.__next__» ⟨[.ref z],[]⟩) Q E s:=by
 generalize hm:min (n1) n2=m at iw gG;show wpAny _ _ (field (.ref z) 2 >>= _) _ _ _;refine wpAny_bind (wpAny_field hz rfl (x:=.bool false) rfl ?_);show wpAny _ _ (field (.ref z) 3 >>= _) _ _ _;refine wpAny_bind (wpAny_field hz rfl (x:=.ref TI) rfl ?_);refine wpAny_bind (wpAny_seqItems je rfl ?_);show wpAny _ _ (yj (.ref z) >>= _) _ _ _;refine wpAny_bind ?_;unfold yj;refine wpAny_bind (wpAny_field hz rfl (x:=.none) rfl (wpAny_pure ?_));simp only [if_true];refine wpAny_bind (wpAny_rule ?_);refine wpAny_bind (wpAny_field hz rfl (x:=.ref TO) rfl ?_);refine wpAny_bind (wpAny_setField_rec hz (by simp) fun g0 oP lP=>?_)
 replace oP:IsZip g0 z TI TO .ellipsis:=oP
 refine wpAny_bind ?_;simp only [List.zipIdx_cons,List.zipIdx_nil,yr,List.forIn_nil];have Df:fF g0 TO #[a1,a2]:=lP.extBut _ _ L.TOz jW;have wc:=D1.frame _ _ _ iw fun b hb o e=>lP.extBut b o (fun q=>L.Hh (q ▸ hb)) e;have D6:=D2.frame _ _ _ gG fun b hb o e=>lP.extBut b o (fun q=>L.Hg (q ▸ hb)) e;have k0:∀c o,c≠z->c≠TO->c≠i1->c≠i2->s.heap.get? c=some o->g0.get? c=some o:=fun c o c1 c2 d1 d2 e=>lP.extBut _ _ c1 e;refine wpAny_bind (wpAny_bind (wpAny_onRaise ?_));show wpAny _ _ (n3 (.ref i1) >>= _) _ _ _
 by_cases q1:n1<=m
 ·have e1:n1=m:=by omega
  rw [← e1] at wc;refine wpAny_bind (D1.done _ _ _ wc fun g e he hS=>?_);obtain⟨oe,qK,nu⟩:=hS;have wY:IsZip g z TI TO .ellipsis:=he _ _ L.z1.symm oP;have GA:e≠z:=fun q=>by subst q; rw [wY] at qK; cases qK; simp at nu
  refine wpAny_setField_rec wY (by simp) fun h3 _ qJ=>hE h3 e _ (fun c o c1 c2 d1 d2 x=>qJ.extBut _ _ c1 (he _ _ d1 (k0 c o c1 c2 d1 d2 x))) ⟨oe,qJ.extBut _ _ GA qK,nu⟩
 ·refine wpAny_bind (D1.item m _ _ _ (by omega) wc fun x1 Hf KG LR D4 lO=>wpAny_pure ?_)
  have vO:fF Hf TO #[a1,a2]:=lO.extBut _ _ L.RB Df;refine wpAny_bind (wpAny_seqItems vO rfl ?_);refine wpAny_bind (CV vO fun g1 tq jT=>?_)
  replace tq:fF g1 TO #[x1,a2]:=tq
  refine wpAny_bind (wpAny_letGo (wpAny_pure ?_));have LA:=D1.frame _ _ _ D4 fun b hb o e=>jT.extBut b o (fun q=>L.Hu (q ▸ hb)) e;have zk:=D2.frame _ _ _ (D2.frame _ _ _ D6 fun b hb o e=>lO.extBut b o (fun q=>L.Qd (q ▸ hb)) e) fun b hb o e=>jT.extBut b o (fun q=>L.Ht (q ▸ hb)) e;have FW:IsZip g1 z TI TO .ellipsis:=jT.extBut _ _ L.TOz.symm (lO.extBut _ _ L.z1.symm oP);have k1:∀c o,c≠z->c≠TO->c≠i1->c≠i2->s.heap.get? c=some o->g1.get? c=some o:=fun c o c1 c2 d1 d2 e=>jT.extBut _ _ c2 (lO.extBut _ _ d1 (k0 c o c1 c2 d1 d2 e));refine wpAny_bind (wpAny_bind (wpAny_onRaise ?_));show wpAny _ _ (n3 (.ref i2) >>= _) _ _ _;have e2:n2=m:=by omega
  rw [← e2] at zk;refine wpAny_bind (D2.done _ _ _ zk fun g e he hS=>?_);obtain⟨oe,qK,nu⟩:=hS;have wY:IsZip g z TI TO .ellipsis:=he _ _ L.z2.symm FW;have GA:e≠z:=fun q=>by subst q; rw [wY] at qK; cases qK; simp at nu
  refine wpAny_setField_rec wY (by simp) fun h3 _ qJ=>hE h3 e _ (fun c o c1 c2 d1 d2 x=>qJ.extBut _ _ c1 (he _ _ d2 (k1 c o c1 c2 d1 d2 x))) ⟨oe,qJ.extBut _ _ GA qK,nu⟩
end
section
variable {prog:Program}{w:World}{A:Around}{E:Value->Shared->Prop}{s:Shared}
theorem Zt {it l:Addr}{i:Nat}{items}{x:Value}{Q:Value->Shared->Prop}(hit:s.heap.IsTupleIter it l i)(hl:s.heap.IsTuple l items)(hx:items[i]?=some x)
  (hQ:∀h',h'.IsTupleIter it l (i+1)->j9 it s.heap h'->Q x {s with heap:=h'}) :
  wpAny (model prog w) A (n3 (.ref it)) Q E s:=by
 obtain⟨o,ho,hc,hd⟩:=id hit;obtain⟨ol,t8,_,nl,iE⟩:=hl;unfold n3;refine wpAny_bind (wpAny_callSpecial?_slot (name:=Str.ofString "__next__") hit.typeIs yP (wpAny_call_entry yP hit.typeIs F.entry_tuple_iterator_next ?_ (F.args_tuple_iterator_next_1 _)))
 show wpAny _ _ (field (.ref it) 0 >>= _) _ _ s;refine wpAny_bind (wpAny_field ho hd (x:=.ref l) rfl ?_);show wpAny _ _ (if (bI l==gu)=true then _ else _) _ _ s;rw [if_neg (show ¬ ((bI l==gu)=true) from fo)];show wpAny _ _ (field (.ref it) 1 >>= _) _ _ s;refine wpAny_bind (wpAny_field ho hd (x:=.int i 0) rfl ?_);show wpAny _ _ (seqItems? (.ref l) >>= _) _ _ s;refine wpAny_bind (wpAny_seqItems t8 iE ?_);simp only [Int.toNat_natCast,hx];refine wpAny_bind (wpAny_setField ho hd (by simp) (wpAny_pure ⟨x,rfl,wpAny_pure (hQ _ ?_ (B9 ..))⟩));exact⟨_,yJ _ ho (Obj.isFreed_of_fields (yz hd _)),(Obj.cls_mapFields ..).trans hc,by rw [yz hd]; simp [rawInt]⟩
theorem Zu {it l:Addr}{i:Nat}{items}{Q:Value->Shared->Prop}(hh:A.handled=none)(hit:s.heap.IsTupleIter it l i)(hl:s.heap.IsTuple l items)(hx:items[i]?=none)
  (hE:∀h' e,Heap.ExtBut it s.heap h'->(∃o,h'.get? e=some o/\o.cls=.type "StopIteration")->E (.ref e) {s with heap:=h'}) :
  wpAny (model prog w) A (n3 (.ref it)) Q E s:=by
 obtain⟨o,ho,hc,hd⟩:=id hit;obtain⟨ol,t8,_,nl,iE⟩:=hl;unfold n3;refine wpAny_bind (wpAny_callSpecial?_slot (name:=Str.ofString "__next__") hit.typeIs yP (wpAny_call_entry yP hit.typeIs F.entry_tuple_iterator_next ?_ (F.args_tuple_iterator_next_1 _)))
 show wpAny _ _ (field (.ref it) 0 >>= _) _ _ s;refine wpAny_bind (wpAny_field ho hd (x:=.ref l) rfl ?_);show wpAny _ _ (if (bI l==gu)=true then _ else _) _ _ s;rw [if_neg (show ¬ ((bI l==gu)=true) from fo)];show wpAny _ _ (field (.ref it) 1 >>= _) _ _ s;refine wpAny_bind (wpAny_field ho hd (x:=.int i 0) rfl ?_);show wpAny _ _ (seqItems? (.ref l) >>= _) _ _ s;refine wpAny_bind (wpAny_seqItems t8 iE ?_);simp only [Int.toNat_natCast,hx];refine wpAny_bind (wpAny_rule (wpAny_bind (wpAny_setField ho hd (by simp) ?_)));show wpAny _ _ (newExc (.type "StopIteration") [] >>= _) _ _ _
 refine wpAny_bind ?_;simp only [newExc,newTuple];refine wpAny_bind (wpAny_newObj_type ?_ (by size_fits));refine wpAny_bind (m:=firstArgMember _ _) (wpAny_of_eq (a:=gu) (by first | rfl | (simp only [firstArgMember]; rfl)) ?_);refine wpAny_newObj_type ?_ (by size_fits);simp only [raiseNew];refine wpAny_bind (wpAny_handled ?_)
 first | rw [show A.in1.handled=none from hh] | rw [hh]
 refine wpAny_bind (wpAny_pure (wpAny_throw ?_));exact hE _ _ (((B9 ..).extBut.push _).push _) ⟨_,cN _ rfl,rfl⟩
theorem adX (hh:A.handled=none)(it l:Addr)(bN:l≠it)(items:Array Value):Draws prog w A it [it,l] items.size (fun i v=>items[i]?=some v) (fun i h=>h.IsTupleIter it l i/\h.IsTuple l items) where
 live:=fun _ _ st=>let ⟨o,ho,_⟩:=st.1; ⟨o,ho⟩
 frame:=fun _ _ _ st hk=>⟨let ⟨o,ho,r⟩:=st.1; ⟨o,hk it (by simp) o ho,r⟩,let ⟨o,ho,r⟩:=st.2; ⟨o,hk l (by simp) o ho,r⟩⟩
 item:=fun i s Q E hi st hQ=>by
  refine Zt st.1 st.2 (x:=items[i]) (by simp [hi]) fun h' abS w9=>?_;exact hQ _ h' s.toks (by simp [hi]) ⟨abS,st.2.extBut w9.extBut bN⟩ w9
 done:=fun s Q E st hE=>Zu hh st.1 st.2 (by simp) hE
end
inductive Src where
 |L (a:Addr) | T (l:List Nat) (t:Tok) | U (a:Addr)
noncomputable def Src.it:Src->Addr->Nat->Heap->Prop
 |.L a,j,i,h=>h.IsListIter j a i
 |.T l t,j,i,h=>h.IsStrIter j (strIterType ⟨l.toArray⟩) ⟨l.toArray⟩ t i
 |.U a,j,i,h=>h.IsTupleIter j a i
noncomputable def Src.vals (K:ah)(H:Hp):Src->List V->Prop
 |.L a,xs=>bP K H a xs
 |.T l _,xs=>xs=gK l
 |.U a,xs=>cX K H a xs
noncomputable def Src.fp:Src->Addr->List Addr
 |.L a,j=>[j,a]
 |.T _ _,j=>[j]
 |.U a,j=>[j,a]
noncomputable def Src.con:Src->List Value->Heap->Prop
 |.L a,us,h=>h.IsList a us.toArray
 |.T _ _,_,_=>True
 |.U a,us,h=>h.IsTuple a us.toArray
noncomputable def Src.num:Src->List Value->Nat
 |.L _,us=>us.length
 |.T l _,_=>l.length
 |.U _,us=>us.length
noncomputable def Src.P:Src->List Value->Nat->Value->Prop
 |.L _,us,i,v=>us.toArray[i]?=some v
 |.T l _,_,i,v=>∃c u,l[i]?=some c/\v=.str ⟨#[c]⟩ u
 |.U _,us,i,v=>us.toArray[i]?=some v
noncomputable def Src.lt:Src->Nat->Prop
 |.L a,n=>a<n
 |.T _ _,_=>True
 |.U a,n=>a<n
noncomputable def Src.val:Src->Value
 |.L a=>.ref a
 |.T l t=>.str ⟨l.toArray⟩ t
 |.U a=>.ref a
noncomputable def Src.obj:Src->Obj
 |.L a=>{cls:=.type "list_iterator",data:=.fields #[.ref a,.int 0 0]}
 |.T l t=>{cls:=.type (strIterType ⟨l.toArray⟩),data:=.fields #[.str ⟨l.toArray⟩ t,.int 0 0]}
 |.U a=>{cls:=.type "tuple_iterator",data:=.fields #[.ref a,.int 0 0]}
theorem Src.draws {prog:Program}{w:World}{A:Around}(hh:A.handled=none)(sc:Src){j:Addr}(hj:sc.lt j)(us:List Value):Draws prog w A j (sc.fp j) (sc.num us) (sc.P us) (fun i h=>sc.it j i h/\sc.con us h):=by
 cases sc with
 |L a=>exact Draws.list hh j a (bJ hj) us.toArray
 |U a=>exact adX hh j a (bJ hj) us.toArray
 |T l t=>
  have go:∀ty,ty=strIterType ⟨l.toArray⟩->Draws prog w A j [j] l.length (fun i v=>∃c u,l[i]?=some c/\v=.str ⟨#[c]⟩ u) (fun i h=>h.IsStrIter j ty ⟨l.toArray⟩ t i):=fun ty jS=>by
   have ht:ty = "str_ascii_iterator" ∨ty = "str_iterator" := by
    rw [jS];unfold strIterType
    split
    ·exact .inl rfl
    ·exact .inr rfl
   rcases ht with h | h
   ·rw [h]; simpa using Draws.strAscii (prog:=prog) (w:=w) hh j ⟨l.toArray⟩ t
   ·rw [h]; simpa using Draws.strWide (prog:=prog) (w:=w) hh j ⟨l.toArray⟩ t
  have D:=go _ rfl;exact⟨fun i h st=>D.live i h st.1,fun i h h' st k=>⟨D.frame i h h' st.1 k,trivial⟩,fun i s Q E hi st hQ=>D.item i s Q E hi st.1 fun x h' tk p gH sb=>hQ x h' tk p ⟨gH,trivial⟩ sb,fun s Q E st hE=>D.done s Q E st.1 hE⟩
theorem Src.use {X:Cx}{pins:List (Addr×Obj)}{σ:St}{H:Hp}{s:Shared}(I:Inv X pins σ H s){sc:Src}{xs:List V}(hv:sc.vals X.K H xs):∃us,sc.con us s.heap/\sc.num us=xs.length/\∀i v,sc.P us i v->∃x,xs[i]?=some x/\RelV x v:=by
 cases sc with
 |L a=>
  obtain⟨us,rv,p,_⟩:=I.list hv;refine⟨us,p.isList,rv.length.symm,fun i v h=>?_⟩;have h':us[i]?=some v:=by simpa using (show us.toArray[i]?=some v from h)
  have hi:i<us.length:=(ej.mp h').1;have hx:i<xs.length:=by rw [rv.length]; exact hi
  obtain⟨u,hu,ru⟩:=rv.get (x:=xs[i]) (i:=i) (by simp [hx]);rw [h'] at hu;cases hu;exact⟨xs[i],by simp [hx],ru⟩
 |U a=>
  obtain⟨us,rv,p,_⟩:=I.tuple hv;refine⟨us,p,rv.length.symm,fun i v h=>?_⟩;have h':us[i]?=some v:=by simpa using (show us.toArray[i]?=some v from h)
  have hi:i<us.length:=(ej.mp h').1;have hx:i<xs.length:=by rw [rv.length]; exact hi
  obtain⟨u,hu,ru⟩:=rv.get (x:=xs[i]) (i:=i) (by simp [hx]);rw [h'] at hu;cases hu;exact⟨xs[i],by simp [hx],ru⟩
 |T l t=>
  have e:xs=gK l:=hv;subst e;refine⟨[],trivial,(VA l).symm,fun i v h=>?_⟩;obtain⟨c,u,hc,rfl⟩:=h;exact⟨S [c],by simp [gK,hc],⟨u,rfl⟩⟩
theorem Src.inj {X:Cx}{pins:List (Addr×Obj)}{σ:St}{H:Hp}{s:Shared}(I:Inv X pins σ H s){sc:Src}{xs ys:List V}(h:sc.vals X.K H xs)(h':sc.vals X.K H ys):xs=ys:=by
 cases sc with
 |L a=>exact I.Ff h h'
 |U a=>exact I.C3 h h'
 |T l t=>exact(show xs=gK l from h).trans (show ys=gK l from h').symm
theorem Src.Ak {sc:Src}{j:Addr}{i:Nat}{h h':Heap}(x:sc.it j i h)(k:∀o,h.get? j=some o->h'.get? j=some o):sc.it j i h':=by
 cases sc with
 |L a=>exact Heap.IsListIter.at x k
 |U a=>obtain⟨o,e,r⟩:=x; exact⟨o,k o e,r⟩
 |T l t=>obtain⟨o,e,r⟩:=x; exact⟨o,k o e,r⟩
theorem Src.Aj {sc:Src}{j:Addr}{i:Nat}{h:Heap}(x:sc.it j i h):∃o,h.get? j=some o/\∀v,o.data≠.cell v:=by
 cases sc with
 |L a=>obtain⟨o,e,c,d⟩:=x; exact⟨o,e,fun v z=>by rw [d] at z; cases z⟩
 |U a=>obtain⟨o,e,c,d⟩:=x; exact⟨o,e,fun v z=>by rw [d] at z; cases z⟩
 |T l t=>obtain⟨o,e,c,d⟩:=x; exact⟨o,e,fun v z=>by rw [d] at z; cases z⟩
theorem Src.Oa {sc:Src}{j:Addr}{h:Heap}(e:h.get? j=some sc.obj):sc.it j 0 h:=by
 cases sc with
 |L a=>exact⟨_,e,rfl,rfl⟩
 |U a=>exact⟨_,e,rfl,rfl⟩
 |T l t=>exact⟨_,e,rfl,rfl⟩
noncomputable def Src.ok:Src->Heap->Prop
 |.L a,h=>∃items,h.IsList a items
 |.T _ _,_=>True
 |.U a,h=>∃items,h.IsTuple a items
theorem Src.iter {prog:Program}{w:World}{A:Around}{E:Value->Shared->Prop}{s:Shared}{sc:Src}{Q:Value->Shared->Prop}(ok:sc.ok s.heap)(hQ:Q (.ref s.heap.objs.size) {s with heap:=s.heap.push sc.obj}):wpAny (model prog w) A (pyIter sc.val) Q E s:=by
 cases sc with
 |L a=>obtain⟨items,hl⟩:=ok; exact wpAny_pyIter_list hl hQ
 |U a=>obtain⟨items,hl⟩:=ok; exact wpAny_pyIter_tuple hl hQ
 |T l t=>exact wpAny_pyIter_strU hQ
theorem Src.Yz {sc:Src}{h:Heap}{o:Obj}(x:sc.ok h):sc.ok (h.push o):=by
 cases sc with
 |L a=>obtain⟨items,hl⟩:=x; exact⟨items,hl.push _⟩
 |U a=>obtain⟨items,hl⟩:=x; exact⟨items,hl.push _⟩
 |T l t=>trivial
noncomputable def JA (K:ah)(s1 s2:Src):It:=
 ⟨fun i H=>∃iq ip,s1.vals K H iq/\s2.vals K H ip/\i<min (iq.length) ip.length,
  fun i H x H'=>∃T x1 x2,x=.ref T/\H T=none/\H'=upd H T (.tup [x1,x2])/\(∀xs,s1.vals K H xs->xs[i]?=some x1)/\(∀xs,s2.vals K H xs->xs[i]?=some x2),
  fun i H=>∃iq ip,s1.vals K H iq/\s2.vals K H ip/\i=min (iq.length) ip.length⟩
theorem T9 {P:Program}{w:World}{K:ah}{elts:List Expr}{kk:Nat}{pS:Pos}{z TI TO i1 i2:Addr}{s1 s2:Src}(L:BA z TI TO i1 i2 (s1.fp i1) (s2.fp i2))(l1:s1.lt i1)(l2:s2.lt i2) :
  Turn P w K (.Tuple elts kk pS) (JA K s1 s2) [z,TI,TO,i1,i2] z (fun i h=>IsZip h z TI TO .none/\fF h TI #[.ref i1,.ref i2]/\(∃a1 a2,fF h TO #[a1,a2])/\s1.it i1 i h/\s2.it i2 i h) where
 mem:=by simp
 obj:=fun i h st b hb=>by
  obtain⟨hz,je,⟨a1,a2,jW⟩,t1,t2⟩:=st;simp only [ba,fJ,or_false] at hb;rcases hb with rfl | rfl | rfl | rfl | rfl
  ·exact⟨_,hz,fun v z=>nomatch z⟩
  ·exact⟨_,je,fun v z=>nomatch z⟩
  ·exact⟨_,jW,fun v z=>nomatch z⟩
  ·exact(Src.Aj t1)
  ·exact(Src.Aj t2)
 keep:=fun i h h' st k=>by
  obtain⟨hz,je,⟨a1,a2,jW⟩,t1,t2⟩:=st;exact⟨k z (by simp) _ hz,k TI (by simp) _ je,⟨a1,a2,k TO (by simp) _ jW⟩,(Src.Ak t1 fun o e=>k i1 (by simp) o e),(Src.Ak t2 fun o e=>k i2 (by simp) o e)⟩
 item:=by
  intro X hP hw hK hc i pins s σ H E I hf st hg;subst hP hw hK;obtain⟨iq,ip,Ar,Aq,hi⟩:=hg;obtain⟨yU,c1,m1,r1⟩:=Src.use I Ar;obtain⟨yT,c2,m2,r2⟩:=Src.use I Aq;obtain⟨hz,je,⟨a1,a2,jW⟩,t1,t2⟩:=st;have hT:s.TypeIs (.ref z) "zip" := ⟨_,hz,rfl⟩
  have D1:=Src.draws (prog:=X.prog) (w:=X.w) (A:=X.A.in1) (I.ok.hd hc) s1 l1 yU;have D2:=Src.draws (prog:=X.prog) (w:=X.w) (A:=X.A.in1) (I.ok.hd hc) s2 l2 yT;unfold pyNext;refine wpAny_bind (wpAny_attempt (wpAny_callSpecial?_slot (name:=Str.ofString "__next__") hT yq (wpAny_call_entry yq hT F.entry_zip_next (So L D1 D2 hz je jW ⟨t1,c1⟩ ⟨t2,c2⟩ (by rw [m1]; omega) (by rw [m2]; omega) fun v1 v2 h' tk p1 p2 y1 y2 w1 w2 y3 hk=>wpAny_pure ?_) (F.args_zip_next_1 _))))
  refine(fun ht=>⟨_,rfl,wpAny_letOwnedTupleGo_zip y1 fun iG aa7 t6=>?_⟩);obtain⟨x1,gx1,WA⟩:=r1 i v1 p1;obtain⟨x2,gx2,Wz⟩:=r2 i v2 p2;have lt:∀{c o},s.heap.get? c=some o->s.heap.objs.size≠c:=fun e=>vt (aV e);have hTz:s.heap.objs.size≠z:=lt hz;have aaD:∀b o,b∉[z,TO,i1,i2]->s.heap.get? b=some o->iG.get? b=some o:=fun b o hb e=>t6.extBut _ _ (fun q=>hb (by simp [q])) (hk b o (fun q=>hb (by simp [q])) (fun q=>hb (by simp [q])) (fun q=>hb (by simp [q])) (fun q=>hb (by simp [q])) e);have I2:Inv X pins σ (upd H s.heap.objs.size (.tup [x1,x2])) {s with heap:=iG,toks:=tk}:=
   I.T7 (ch:=[z,TO,i1,i2]) (fun b hb=>hf b (by simp only [ba,fJ,or_false] at hb ⊢; rcases hb with h | h | h | h <;> simp [h])) aaD (bc _)
    ⟨by show 2<=sizeLine; decide,[v1,v2],(.cons WA (.cons Wz .nil)),⟨_,t6.extBut _ _ hTz y3,rfl,_,rfl⟩⟩
  refine(fun ht=>⟨.ref s.heap.objs.size,_,I2,rfl,⟨s.heap.objs.size,x1,x2,rfl,I.ar.fresh (bc _),rfl,(fun xs h=>by rw [Src.inj I h Ar]; exact gx1),(fun xs h=>by rw [Src.inj I h Aq]; exact gx2)⟩,⟨aa7,t6.extBut _ _ L.TIz (hk _ _ L.TIz L.TITO L.TI1 L.TI2 je),⟨_,_,t6.extBut _ _ L.TOz y2⟩,(Src.Ak w1.1 fun o e=>t6.extBut _ _ L.z1 e),(Src.Ak w2.1 fun o e=>t6.extBut _ _ L.z2 e)⟩,fun b hb=>?_⟩);have bne:b≠s.heap.objs.size:=by
   rintro rfl;have gG:∃o,s.heap.get? s.heap.objs.size=some o:=by
    simp only [ba,fJ,or_false] at hb;rcases hb with h | h | h | h | h
    ·rw [h]; exact⟨_,hz⟩
    ·rw [h]; exact⟨_,je⟩
    ·rw [h]; exact⟨_,jW⟩
    ·rw [h]; obtain⟨o,e,_⟩:=(Src.Aj t1); exact⟨o,e⟩
    ·rw [h]; obtain⟨o,e,_⟩:=(Src.Aj t2); exact⟨o,e⟩
   obtain⟨o,e⟩:=gG;exact absurd (aV e) (fm _)
  rw [aF bne];exact(hf b hb).1
 done:=by
  intro X hP hw hK hc i pins s σ H E I hf st hg;subst hP hw hK;obtain⟨iq,ip,Ar,Aq,hi⟩:=hg;obtain⟨yU,c1,m1,r1⟩:=Src.use I Ar;obtain⟨yT,c2,m2,r2⟩:=Src.use I Aq;obtain⟨hz,je,⟨a1,a2,jW⟩,t1,t2⟩:=st;have hT:s.TypeIs (.ref z) "zip" := ⟨_,hz,rfl⟩
  have D1:=Src.draws (prog:=X.prog) (w:=X.w) (A:=X.A.in1) (I.ok.hd hc) s1 l1 yU;have D2:=Src.draws (prog:=X.prog) (w:=X.w) (A:=X.A.in1) (I.ok.hd hc) s2 l2 yT;have ei:i=min (s1.num yU) (s2.num yT):=by rw [m1,m2]; exact hi
  rw [ei] at t1 t2;unfold pyNext;refine wpAny_bind (wpAny_attempt (wpAny_callSpecial?_slot (name:=Str.ofString "__next__") hT yq (wpAny_call_entry yq hT F.entry_zip_next (Sq L D1 D2 hz je jW ⟨t1,c1⟩ ⟨t2,c2⟩ fun h' e tk hk he=>?_) (F.args_zip_next_1 _))))
  obtain⟨o,ho,fA⟩:=he;refine wpAny_bind (wpAny_isInstance (T:="StopIteration") (b:=true) ⟨o,ho,fA⟩ isSubtype_stop ?_)
  exact wpAny_pure (fun ht=>⟨rfl,I.T8 (ch:=[z,TO,i1,i2]) (fun b hb=>hf b (by simp only [ba,fJ,or_false] at hb ⊢; rcases hb with h | h | h | h <;> simp [h])) fun b u hb e=>hk b u (fun q=>hb (by simp [q])) (fun q=>hb (by simp [q])) (fun q=>hb (by simp [q])) (fun q=>hb (by simp [q])) e⟩)
 self:=fun _ _ _ _ _ st h=>wpAny_pyIter_zip st.1 h
noncomputable def Src.Am:Src->Nat->V->Prop
 |.L a,k,v=>k=0/\v=.ref a
 |.T l _,k,v=>k=1/\v=S l
 |.U a,k,v=>k=2/\v=.ref a
noncomputable def ml (k:Nat)(K:ah)(H:Hp)(v:V):Prop:=(k=0/\∃a xs,v=.ref a/\bP K H a xs)∨(k=1/\∃l,v=S l)∨(k=2/\∃a xs,v=.ref a/\cX K H a xs)
theorem ml.mono {k:Nat}{K:ah}{H H':Hp}{v:V}(h:ml k K H v)(s:aw H H'):ml k K H' v:=by
 rcases h with ⟨e,a,xs,rfl,hq⟩ | h | ⟨e,a,xs,rfl,hq⟩
 ·exact .inl ⟨e,a,xs,rfl,s.seq hq⟩
 ·exact .inr (.inl h)
 ·exact .inr (.inr ⟨e,a,xs,rfl,s.f9 hq⟩)
theorem ml.src {X:Cx}{pins:List (Addr×Obj)}{σ:St}{H:Hp}{s:Shared}(I:Inv X pins σ H s){v:V}{u:Value}{k:Nat}(h:ml k X.K H v)(r:RelV v u):∃sc:Src,sc.Am k v/\u=sc.val/\sc.ok s.heap/\sc.lt s.heap.objs.size:=by
 rcases h with ⟨rfl,a,xs,rfl,hq⟩ | ⟨rfl,l,rfl⟩ | ⟨rfl,a,xs,rfl,hq⟩
 ·cases r
  obtain⟨ak,_,p,_⟩:=I.list hq;obtain⟨o,e,_⟩:=id p.isList;exact⟨.L a,⟨rfl,rfl⟩,rfl,⟨_,p.isList⟩,aV e⟩
 ·obtain⟨t,rfl⟩:=r
  exact⟨.T l t,⟨rfl,rfl⟩,rfl,trivial,trivial⟩
 ·cases r
  obtain⟨ak,_,p,_⟩:=I.tuple hq;obtain⟨o,e,_⟩:=id p;exact⟨.U a,⟨rfl,rfl⟩,rfl,⟨_,p⟩,aV e⟩
theorem Src.mono {K:ah}{H H':Hp}{sc:Src}{xs:List V}(h:sc.vals K H xs)(s:aw H H'):sc.vals K H' xs:=by
 cases sc with
 |L a=>exact s.seq h
 |U a=>exact s.f9 h
 |T l t=>exact h
theorem Src.Ni {sc:Src}{m n:Nat}(h:sc.lt m)(k:m<=n):sc.lt n:=by
 cases sc with
 |L a=>exact cB h k
 |U a=>exact cB h k
 |T l t=>trivial
theorem Src.zU {sc:Src}{m:Nat}{j b:Addr}(h:sc.lt m)(hb:m<=b)(hj:b≠j):b∉sc.fp j:=by
 cases sc with
 |L a=>
  intro z;rcases ba.mp z with z | z
  ·exact hj z
  ·have:b=a:=by simpa using z
   subst this;exact absurd (cB (show b<m from h) hb) (fm _)
 |U a=>
  intro z;rcases ba.mp z with z | z
  ·exact hj z
  ·have:b=a:=by simpa using z
   subst this;exact absurd (cB (show b<m from h) hb) (fm _)
 |T l t=>intro z; exact hj (by simpa [Src.fp] using z)
theorem Lw {K:ah}{H:Hp}{d:Dt}{ds:List Dt}{v:V}(h:ko d=.ok ds)(r:Rep K H d v):∃k,ml k K H v/\∀sc:Src,sc.Am k v->∃xs,sc.vals K H xs/\av K H ds xs:=by
 cases d with
 |lst l=>
  cases h;obtain⟨a,xs,rfl,h1,h2⟩:=fK r;refine⟨0,.inl ⟨rfl,a,xs,rfl,h1⟩,fun sc hs=>?_⟩
  cases sc with
  |L b=>cases (show V.ref a=.ref b from hs.2); exact⟨xs,h1,h2⟩
  |T m t=>exact nomatch hs.1
  |U b=>exact nomatch hs.1
 |str l=>
  cases h;have e:v=S l:=by simpa only [Rep] using r
  subst e;refine⟨1,.inr (.inl ⟨rfl,l,rfl⟩),fun sc hs=>?_⟩
  cases sc with
  |L b=>exact nomatch hs.1
  |U b=>exact nomatch hs.1
  |T m t=>
   have:=Ju (show S l=S m from hs.2);subst this;exact⟨gK l,rfl,Ea l⟩
 |_=>cases h
noncomputable def vE (hp:Heap)(s1 s2:Src):Heap:=((hp.push s1.obj).push s2.obj).push {cls:=.type "tuple",data:=.seq #[.ref (hp).objs.size,.ref ((hp.push s1.obj)).objs.size]}
noncomputable def vD (hp:Heap)(s1 s2:Src):Heap:=(vE hp s1 s2).push {cls:=.type "tuple",data:=.seq #[.none,.none]}
noncomputable def pK (hp:Heap)(s1 s2:Src):Heap:=(vD hp s1 s2).push {cls:=.type "zip",data:=.fields #[.none,.bool false,.bool false,.ref (((hp.push s1.obj).push s2.obj)).objs.size,.ref (vE hp s1 s2).objs.size]}
theorem ZE (s1 s2:Src):Meets (Builtin.«zip.__new__» ⟨[.type "zip",s1.val,s2.val],[]⟩) (fun _ R s=>s1.ok s.heap/\s2.ok s.heap/\R (.ok (.ret (.ref (vD s.heap s1 s2).objs.size))) {s with heap:=pK s.heap s1 s2}):=
 .of_wp fun prog w A R s h=>by
  obtain⟨hp,g,d,tk,os⟩:=s;obtain⟨o1,o2,h⟩:=h;have abk:=sub_zip;have hI1:∀{A:Around} {E:Value->Shared->Prop} {Q:Value->Shared->Prop},Q (.ref (hp).objs.size) ⟨(hp.push s1.obj),g,d,tk,os⟩->wpAny (model prog w) A (pyIter s1.val) Q E ⟨hp,g,d,tk,os⟩:=fun q=>Src.iter (s:=⟨hp,g,d,tk,os⟩) o1 q;have hI2:∀{A:Around} {E:Value->Shared->Prop} {Q:Value->Shared->Prop},Q (.ref ((hp.push s1.obj)).objs.size) ⟨((hp.push s1.obj).push s2.obj),g,d,tk,os⟩->wpAny (model prog w) A (pyIter s2.val) Q E ⟨(hp.push s1.obj),g,d,tk,os⟩:=fun q=>Src.iter (s:=⟨(hp.push s1.obj),g,d,tk,os⟩) (Src.Yz o2) q
  wp_walk using hI1,hI2
  exact⟨_,rfl,h⟩
theorem aae (hp:Heap)(s1 s2:Src):(vE hp s1 s2).objs.size=hp.objs.size+3/\(vD hp s1 s2).objs.size=hp.objs.size+4/\((hp.push s1.obj)).objs.size=hp.objs.size+1/\(((hp.push s1.obj).push s2.obj)).objs.size=hp.objs.size+2:=by
 simp [vE,vD,kc]
theorem Xq {X:Cx}{tl:List Expr}{kk:Nat}{pS p pos:Pos}{a b:Expr}{ta:TA}(hg:Gl X "zip")(hm:X.mg "zip" = none)(ha:PA X [a,b] ta)(hs:starEach [a,b] X.env=(false,eval a X.env)::starEach [b] X.env)(eY:(backTo pos (starEach [b] X.env)).any (·.1)=false) :
  PI X (.Tuple tl kk pS) (.Call (.Name "zip" p) [a,b] [] pos) (fun σ H R=>ta σ H fun vs H1=>∃v1 v2 k1 k2,vs=[v1,v2]/\ml k1 X.K H1 v1/\ml k2 X.K H1 v2/\∀s1 s2:Src,s1.Am k1 v1->s2.Am k2 v2->R (JA X.K s1 s2) H1):=by
 intro pins s σ H R I h;refine Call_ (lJ I hg hm boot_zip (rS (aC (ha pos pins s σ H _ I h) fun us s' ⟨vs,H1,I1,r1,q1⟩=>?_) hs eY));obtain⟨v1,v2,k1,k2,e,w1,w2,q⟩:=q1;subst e;obtain⟨u1,u2,rfl,r1,r2⟩:∃u1 u2,us=[u1,u2]/\RelV v1 u1/\RelV v2 u2:=by
  cases r1 with | cons g1 r2=>cases r2 with | cons g2 r3=>cases r3; exact⟨_,_,rfl,g1,g2⟩
 obtain⟨s1,iv1,rfl,YZ,Fc⟩:=w1.src I1 r1;obtain⟨s2,iv2,rfl,YY,E9⟩:=w2.src I1 r2;refine callType_new F.called_zip (by decide) (F.typeCall_zip_2 _ _) (F.newCall_zip_2 _ _) (fun obj=>F.args_object_init_3 obj _ _) F.entry_zip_new (ZE s1 s2) ⟨YZ,YY,?_⟩;obtain⟨zA,zB,z1,z2⟩:=aae s'.heap s1 s2;have gz:(pK s'.heap s1 s2).get? (vD s'.heap s1 s2).objs.size=some _:=cN _ rfl;have gO:(pK s'.heap s1 s2).get? (vE s'.heap s1 s2).objs.size=some _:=aW _ (cN _ rfl);have gI:(pK s'.heap s1 s2).get? (((s'.heap.push s1.obj).push s2.obj)).objs.size=some _:=aW _ (aW _ (cN _ rfl));have g1:(pK s'.heap s1 s2).get? (s'.heap).objs.size=some s1.obj:=(aW _ (aW _ (aW _ (aW _ (cN _ (by cases s1 <;> rfl))))))
 have g2:(pK s'.heap s1 s2).get? ((s'.heap.push s1.obj)).objs.size=some s2.obj:=(aW _ (aW _ (aW _ (cN _ (by cases s2 <;> rfl)))))
 have kk':∀c o,s'.heap.get? c=some o->(pK s'.heap s1 s2).get? c=some o:=fun c o x=>(aW _ (aW _ (aW _ (aW _ (aW _ x)))))
 show _/\_;rw [zB,zA,z2] at gz;rw [zA] at gO;rw [z2,z1] at gI;rw [z1] at g2;rw [zB];refine⟨⟨_,gz,rfl⟩,fun _=>wpAny_pyIter_zip gz fun _=>?_⟩;have L:BA (s'.heap.objs.size+4) (s'.heap.objs.size+2) (s'.heap.objs.size+3) (s'.heap.objs.size) (s'.heap.objs.size+1) (s1.fp (s'.heap.objs.size)) (s2.fp (s'.heap.objs.size+1)):=by
  have ne:∀i j:Nat,i≠j->s'.heap.objs.size+i≠s'.heap.objs.size+j:=fun i j h z=>h (Nat.add_left_cancel z);constructor
  all_goals first | exact ne _ _ (by decide) | exact ne 0 _ (by decide) | exact ne _ 0 (by decide) | exact Src.zU Fc (kf _ _) (by first | exact ne _ _ (by decide) | exact ne 0 _ (by decide) | exact ne _ 0 (by decide)) | exact Src.zU Fc (bc _) (ne 0 _ (by decide)) | exact Src.zU E9 (kf _ _) (by first | exact ne _ _ (by decide) | exact ne 0 _ (by decide) | exact ne _ 0 (by decide)) | exact Src.zU E9 (bc _) (ne 0 _ (by decide))
 refine⟨s'.heap.objs.size+4,[s'.heap.objs.size+4,s'.heap.objs.size+2,s'.heap.objs.size+3,s'.heap.objs.size,s'.heap.objs.size+1],_,_,H1,rfl,I1.kept (t':=s'.toks) kk',T9 (s1:=s1) (s2:=s2) L (Src.Ni Fc (by first | exact bc _ | exact kf _ _)) (Src.Ni E9 (by first | exact bc _ | exact kf _ _)),⟨gz,gI,⟨_,_,gO⟩,Src.Oa g1,Src.Oa g2⟩,fun b hb=>?_,q s1 s2 iv1 iv2⟩;have bU:s'.heap.objs.size<=b:=by
  simp only [ba,fJ,or_false] at hb;rcases hb with h | h | h | h | h <;> (rw [h]; first | exact bc _ | exact kf _ _)
 exact I1.o5 bU (I1.ar.fresh bU)
theorem Lj {d:Dt}{c:Nat}(h:ko d=.ex c):False:=by cases d <;> cases h
theorem aaL {K:ah}{A:List Addr}{s1 s2:Src}{d1 d2:List Dt}{iq ip:List V}{H1:Hp}(h1:s1.vals K (ao H1 A) iq)(r1:av K (ao H1 A) d1 iq)(z1:bC d1)(l1:d1.length<=10000)(h2:s2.vals K (ao H1 A) ip)(r2:av K (ao H1 A) d2 ip)(z2:bC d2)(l2:d2.length<=10000):mn K A (JA K s1 s2) (i4 d1 d2) H1:=by
 have e1:=r1.length;have e2:=r2.length;have hz:(i4 d1 d2).length=min (d1.length) d2.length:=by simp [i4]
 refine⟨fun i H hi s=>⟨iq,ip,Src.mono h1 s,Src.mono h2 s,by omega⟩,fun H s=>⟨iq,ip,Src.mono h1 s,Src.mono h2 s,by omega⟩,fun i H x H' A' hi L s y=>?_,mS fun d hd=>?_,by omega⟩
 ·obtain⟨T,x1,x2,rfl,hT,rfl,y1,y2⟩:=y
  have g1:=y1 iq (Src.mono h1 (s.trans bO));obtain⟨c1,k1,q1⟩:=r1.get g1;have g2:=y2 ip (Src.mono h2 (s.trans bO));obtain⟨c2,k2,q2⟩:=r2.get g2;have s2:aw H (upd H T (.tup [x1,x2])):=.upd hT;refine⟨s2,.tup [c1,c2],?_,qg (nt L hT) (.cons ((q1.mono s).mono (s2.ao _)) (.cons ((q2.mono s).mono (s2.ao _)) .nil))⟩;simp [i4,List.getElem?_zip_eq_some,k1,k2]
 ·obtain⟨p,hp,rfl⟩:=df.mp hd
  have m1:=vw hp;exact⟨by show 2<=10000; decide,ix z1 m1.1,ix z2 m1.2,trivial⟩
theorem Li {d:Dt}{ds:List Dt}(h:ko d=.ok ds)(z:sm d):bC ds/\ds.length<=10000:=by
 cases d with
 |lst l=>cases h; exact⟨z.2,z.1⟩
 |str l=>cases h; exact⟨Ln l,by rw [eF,ef]; exact z⟩
 |_=>cases h
theorem FJ {X:Cx}{cls:Nat->Addr}{E:XK}{tl:List Expr}{kk:Nat}{pS p pos:Pos}{a b:Expr}{fs:aa->M (List Dt)}(hg:Gl X "zip")(hm:X.mg "zip" = none)(ha:Av X cls E [a,b] fs)(hs:starEach [a,b] X.env=(false,eval a X.env)::starEach [b] X.env:=by rfl)(eY:(backTo pos (starEach [b] X.env)).any (·.1)=false:=by rfl) :
  Iv X cls E (.Tuple tl kk pS) (.Call (.Name "zip" p) [a,b] [] pos) (kJ se fs):=(Xq hg hm ha hs eY).imp fun σ H R ⟨O,A,ρ,F,q⟩=>by
 refine⟨O,A,ρ,F,Rg.bind q fun ds jV q1=>?_⟩
 clear jV
 intro vs H1 s1 r1 z1;unfold se at q1
 split at q1
 ·rename_i e1 e2
  obtain⟨v1,v2,rfl,t1,t2⟩:=oj r1
  cases g1:ko e1 with
  |ex c=>exact(Lj g1).elim
  |bad=>rw [g1] at q1; exact(show False from q1).elim
  |ok d1=>
   rw [g1] at q1;simp only [bz] at q1
   cases g2:ko e2 with
   |ex c=>exact(Lj g2).elim
   |bad=>rw [g2] at q1; exact(show False from q1).elim
   |ok d2=>
    rw [g2] at q1;simp only [bz] at q1;obtain⟨k1,a1,b1⟩:=Lw g1 t1;obtain⟨Dz,Z4⟩:=Li g1 z1.1;have aa1:ml k1 X.K H1 v1:=a1.mono bO;obtain⟨k2,a2,b2⟩:=Lw g2 t2;obtain⟨Lp,ln2⟩:=Li g2 z1.2.1;have aa2:ml k2 X.K H1 v2:=a2.mono bO;refine⟨v1,v2,k1,k2,rfl,aa1,aa2,fun c1 c2 i1 i2=>?_⟩;obtain⟨iq,m1,n1⟩:=b1 c1 i1;obtain⟨ip,m2,n2⟩:=b2 c2 i2;exact q1 _ H1 s1 (aaL m1 n1 Dz Z4 m2 n2 Lp ln2)
 ·exact(show False from q1).elim
noncomputable def xD:List (List Nat×List Nat)->List Nat->Option (List Nat)
 | [],_=>none
 | (k,v)::r,l=>if l=k then some v else xD r l
noncomputable def nD (P:Params)(q:List Nat×Tok×List Nat×Tok):DictEntry:=⟨lh P ⟨q.1.toArray⟩,.str ⟨q.1.toArray⟩ q.2.1,.str ⟨q.2.2.1.toArray⟩ q.2.2.2⟩
noncomputable def JH (w:World)(K:ah)(a:Addr)(kvs:List (List Nat×List Nat)):Prop:=
 ∃(qs:List (List Nat×Tok×List Nat×Tok)) (ep:Nat),K.lookup a=some {cls:=.type "dict",dict:=none,data:=.dict (qs.map (nD w.params)).toArray ep,slots:=#[]}/\kvs=qs.map fun q=>(q.1,q.2.2.1)
theorem Nw (w:World)(x:Str):lh w.params x=hashStr w x:=by
 rfl
theorem PF {P:Params}:∀{qs:List (List Nat×Tok×List Nat×Tok)}{l v:List Nat},xD (qs.map fun q=>(q.1,q.2.2.1)) l=some v->∃t,((qs.map (nD P)).find? fun e=>eS ⟨l.toArray⟩ e.key).map (·.val)=some (.str ⟨v.toArray⟩ t)
 | [],l,v,h=>by cases h
 |q::qs,l,v,h=>by
  simp only [bG,xD] at h;rw [bG,il]
  by_cases e:l=q.1
  ·rw [if_pos e] at h
   cases h;have:eS ⟨l.toArray⟩ (nD P q).key=true:=by simp [nD,eS,e]
   rw [this];exact⟨q.2.2.2,rfl⟩
  ·rw [if_neg e] at h
   have:eS ⟨l.toArray⟩ (nD P q).key=false:=by
    simp only [nD,eS];rw [beq_eq_false_iff_ne];intro z;injection z with z;exact e (by simpa using (congrArg iY z).symm)
   rw [this];exact PF h
theorem aaF {X:Cx}{a:Addr}{kvs:List (List Nat×List Nat)}(D:JH X.w X.K a kvs):mm X (fun x y H Q=>∃l v,x=.ref a/\y=S l/\xD kvs l=some v/\Q (S v) H):=by
 intro value slice pins s σ H x y v u Q I rx ry h hs;obtain⟨l,c,ex,ey,hd,q⟩:=h;subst ex ey;cases rx;obtain⟨t,rfl⟩:=ry;obtain⟨qs,ep,hk,rfl⟩:=D;have ho:=I.eL a _ hk;obtain⟨t',ht⟩:=PF (P:=X.w.params) hd;have hm:s.heap.MapOf (strKind X.prog X.w) a (fun k=>findBy eS (qs.map (nD X.w.params)).toArray k):=by
  refine⟨_,_,ep,ho,⟨rfl,rfl,rfl⟩,rfl,?_,fun _=>rfl⟩;intro e he;have GC:e∈qs.map (nD X.w.params):=by simpa using he
  obtain⟨q,_,rfl⟩:=df.mp GC;exact⟨⟨q.1.toArray⟩,strKind_is X.prog X.w _ _,Nw _ _⟩
 have hv:findBy eS (qs.map (nD X.w.params)).toArray ⟨l.toArray⟩=some (.str ⟨c.toArray⟩ t'):=by
  unfold findBy;rw [List.find?_toArray];exact ht
 refine subscriptTail_builtinR (x:=.str ⟨c.toArray⟩ t') hm.typeIs slot_dict_getitem.lookup (wpAny_getItem_of (k:=⟨l.toArray⟩) (strKind_is X.prog X.w _ _) hm hv ⟨rfl,?_⟩) hs;exact(fun ht=>⟨S c,H,I.tok _,⟨t',rfl⟩,q⟩)
section
variable {X:Cx}{cls:Nat->Addr}{E:XK}{a b v:Expr}{f g:aa->M Dt}{fs:aa->M (List Dt)}{pos:Pos}
theorem QF:∀{kvs:List (List Nat×List Nat)}{d e:Dt},me (kvs.map fun q=>(q.1,Dt.str q.2)) d=.ok e->∃l m,d=.str l/\xD kvs l=some m/\e=.str m/\∃k,(k,m)∈kvs
 | [],d,e,h=>by cases h
 | (k,m)::r,d,e,h=>by
  cases d with
  |str l=>
   simp only [bG,me] at h
   by_cases z:l=k
   ·rw [if_pos z] at h
    cases h;exact⟨l,m,rfl,if_pos z,rfl,k,bH ..⟩
   ·rw [if_neg z] at h
    obtain⟨l',m',e1,e2,e3,k',e4⟩:=QF h;cases e1;exact⟨l,m',rfl,(if_neg z).trans e2,e3,k',cy _ e4⟩
  |_=>cases h
theorem QE:∀{kvs:List (List Nat×Dt)}{d:Dt}{c:Nat},me kvs d≠.ex c
 | [],d,c=>by intro h; cases h
 | (k,m)::r,d,c=>by
  intro h
  cases d with
  |str l=>
   simp only [me] at h
   split at h
   ·cases h
   ·exact QE h
  |_=>cases h
theorem ady {x:Str}{p:Pos}{aD:Addr}{kvs:List (List Nat×List Nat)}(D:JH X.w X.K aD kvs)(hg:Gl X x)(hm:X.mg x=some (.ref aD))(hb:Ev X cls E b g)(hs:Jv b)(hz:∀q∈kvs,q.2.length<=10000:=by decide)(hd:(x==("__debug__" : Str))=false:=by decide) :
  Ev X cls E (.Subscript (.Name x p) b pos) (p1 (A7 kvs) g):=by
 refine(wk (aaF D) (jL hg hm (v:=.ref aD) rfl hd) hb hs).imp fun σ H Q h_=>?_;obtain⟨O,A,ρ,F,q⟩:=h_;refine⟨O,A,ρ,F,Rg.bind q fun d _ q1=>?_⟩;intro u H1 s1 r1 z1;unfold A7 at q1
 cases e:me (kvs.map fun q=>(q.1,Dt.str q.2)) d with
 |ok c=>
  obtain⟨l,m,rfl,h2,rfl,k,hk⟩:=QF e;rw [e] at q1;exact⟨l,m,rfl,cK r1,h2,q1 _ H1 s1 mU (hz _ hk)⟩
 |ex c=>exact(QE e).elim
 |bad=>rw [e] at q1; exact(show False from q1).elim
noncomputable def kz (ks:List (List Nat))(us:List Value):List (Str×Value):=(ks.map fun k=>(⟨k.toArray⟩:Str)).zip us
noncomputable def PD (X:Cx)(cls:Nat->Addr)(E:XK)(pairs:List (Sem Value×Sem Value))(ks:List (List Nat))(fs:aa->M (List Dt)):Prop:=
 ∀(pins:List (Addr×Obj)) (s:Shared) (σ:St) (H:Hp) (Q:List V->Hp->Prop),Inv X pins σ H s->mO X.K cls E fs σ H Q->
  wpAny (model X.prog X.w) X.A (evalPairs pairs) (Lz fun vs s'=>∃xs us H',Inv X pins σ H' s'/\Vals xs us/\Q xs H'/\Carries (strKind X.prog X.w) vs (kz ks us)) X.xe s
end
theorem A4 {α:Type}[DecidableEq α](l:List α)(k:α):(l++[k]).eraseDups.length=if k∈l then l.eraseDups.length else l.eraseDups.length+1:=by
 rw [List.eraseDups_append,jw]
 by_cases h:k∈l
 ·have:[k].removeAll l=[]:=by simp [List.removeAll,h]
  rw [if_pos h,this];rfl
 ·have:[k].removeAll l=[k]:=by simp [List.removeAll,h]
  rw [if_neg h,this];rfl
theorem Qr {α:Type}[DecidableEq α]:∀(n:Nat) (l:List α),l.length=n->l.eraseDups.length<=n
 |0,l,h=>by rw [yN.mp h]; exact bc _
 |n+1,l,h=>by
  have bN:l≠[]:=fun e=>by rw [e] at h; cases h
  have e:=List.dropLast_concat_getLast bN;have hl:l.dropLast.length=n:=by rw [List.length_dropLast,h]; rfl
  have:=Qr n l.dropLast hl;rw [← e,A4]
  split <;> omega
section
variable {prog:Program}{w:World}{A:Around}{R:Result->Shared->Prop}{I S:Addr}{fp wr:List Addr}{St:Nat->Heap->Prop}{Kt:Type}[DecidableEq Kt]{knd:KeyKind prog w Kt}
theorem VD {items:Array Value}{ks:List Kt}(hk:∀(i:Nat) (v:Value),items[i]?=some v->∃k,ks[i]?=some k/\knd.is k v=true/\v.scannable=true)
  (W:Walks prog w A.in1 I fp wr items.size (fun i v=>items[i]?=some v) St) (O3:S∉fp) (hn:ks.length=items.size) (hb:items.size+1<scanBound) :
  ∀(m i:Nat) (s:Shared),items.size - i=m->i<=items.size->St i s.heap->s.heap.SetOf knd S (fun k=>decide (k∈ks.take i)) (ks.take i).eraseDups.length->
   (∀h' tk,(∀b o,b≠S->b∉wr->s.heap.get? b=some o->h'.get? b=some o)->h'.SetOf knd S (fun k=>decide (k∈ks)) ks.eraseDups.length->R (.ok (.ret .none)) {s with heap:=h',toks:=tk})->
   codeAny (model prog w) A (.builtin "set.update.loop" ⟨[.ref S,.ref I],[]⟩) R s:=by
 have O2:S∉wr:=fun h=>O3 (W.sub _ h);intro m
 induction m with
 |zero=>
  intro i s hm hi bj hS hR;obtain rfl:i=items.size:=by omega
  refine codeAny_builtin J8 ?_;rw [yG B4 _];show wpAny _ A.in1 (pyNext (.ref I) >>= _) _ _ s;refine wpAny_bind (W.done s _ _ bj fun h' tk k'=>?_);rw [← hn,List.take_length] at hS;obtain⟨o,es,ep,t,ho,rest⟩:=hS;exact wpAny_pure (hR h' tk (fun b o _ hb e=>k' b o hb e) ⟨o,es,ep,t,k' S _ O2 ho,rest⟩)
 |succ m ih=>
  intro i s hm hi bj hS hR;have aR:i<items.size:=by omega
  refine codeAny_builtin J8 ?_;rw [yG B4 _];show wpAny _ A.in1 (pyNext (.ref I) >>= _) _ _ s;refine wpAny_bind (W.item i s _ _ aR bj fun v h1 KG hP abl k1=>?_);obtain⟨k,hki,OK,hsc⟩:=hk i v hP;obtain⟨o,es,ep,t,ho,rest⟩:=hS;have hS1:h1.SetOf knd S (fun k=>decide (k∈ks.take i)) (ks.take i).eraseDups.length:=⟨o,es,ep,t,k1 S _ O2 ho,rest⟩
  show wpAny _ A.in1 (holding [v] (setAdd S v) >>= _) _ _ _;refine wpAny_bind (wpAny_holding ?_);unfold setAdd;refine wpAny_holding (wpAny_bind (knd.pyHash OK ?_));have hl:(ks.take i).eraseDups.length<=i:=Qr i _ (by rw [List.length_take]; omega);refine wpAny_setAddHashed_of (knd:=knd) OK hsc hS1 (by omega) fun h2 eY hS2=>?_;have ht:ks.take (i+1)=ks.take i++[k]:=by rw [List.take_add_one,hki]; rfl
  have qW:h2.SetOf knd S (fun k=>decide (k∈ks.take (i+1))) (ks.take (i+1)).eraseDups.length:=by
   have e1:(fun k'=>decide (k'∈ks.take i) || decide (k'=k))=fun k'=>decide (k'∈ks.take (i+1)):=by
    funext k'
    rw [ht];simp
   have e2:(if decide (k∈ks.take i)=true then (ks.take i).eraseDups.length else (ks.take i).eraseDups.length+1)=(ks.take (i+1)).eraseDups.length:=by
    rw [ht,A4];simp
   rw [← e1,← e2];exact hS2
  refine wpAny_pure ⟨plainId_quiet B4 _,ih (i+1) _ (by omega) aR (W.frame _ _ _ abl fun b hb o e=>?_) qW fun h3 vL k3 hS4=>?_⟩
  ·exact(eY.2 b (fun z=>O3 (z ▸ hb))).trans e
  ·exact hR h3 vL (fun b o OV OU e=>k3 b o OV OU ((eY.2 b OV).trans (k1 b o OU e))) hS4
end
section
variable {prog:Program}{w:World}{A:Around}{E:Value->Shared->Prop}{s:Shared}{Kt:Type}[DecidableEq Kt]{knd:KeyKind prog w Kt}
noncomputable abbrev mT (led:Bool):Obj:={cls:=.type "set",dict:=none,data:=.set #[] 0 (.fresh 0 0 led)}
theorem Lv {l:Addr}{items:Array Value}{ks:List Kt}{Q:Value->Shared->Prop}(hh:A.handled=none)(hl:s.heap.IsList l items)
  (hk:∀(i:Nat) (v:Value),items[i]?=some v->∃k,ks[i]?=some k/\knd.is k v=true/\v.scannable=true) (hn:ks.length=items.size) (hb:items.size+1<scanBound)
  (h:∀(h':Heap) (tk:Nat),h'.SetOf knd s.heap.objs.size (fun k=>decide (k∈ks)) ks.eraseDups.length->(∀b o,s.heap.get? b=some o->h'.get? b=some o)->Q (.ref s.heap.objs.size) {s with heap:=h',toks:=tk}) :
  wpAny (model prog w) A (call (.type "set") [.ref l]) Q E s:=by
 obtain⟨c,tl,ai8⟩:=nY.mro;have OD:=nY.made;have abk:=nY.sub;refine wpAny_call (codeAny_of_tree ?_);show wpAny _ _ (callAny (.type "set") _) _ _ _
 refine wpAny_pure ⟨Code.quiet_builtin _ (by decide +kernel),codeAny_builtin PySem.F.entry_type_call ?_⟩;rw [Around.under_plain (weight_type_call_type "set" [.ref l] []) rfl]
 have h1:=nY.notType;have h2:=nY.canCreate;have hct:=PySem.F.typeCall_set_1 (.ref l)
 repeat (any_goals (first | assumption | wp_step))
 refine codeAny_mono (code_set_new_1 (.ref l) (E:=E) (Q₁:=fun obj s1=>∃led:Bool,obj=.ref s.heap.objs.size/\s1={s with heap:=s.heap.push (mT led)}) fun led=>⟨led,rfl,rfl⟩) fun r s1 hr=>?_
 match r,hr with
 |.error e,hr=>exact hr
 |.ok (.ret obj),hr=>
  obtain⟨led,rfl,rfl⟩:=hr;have hS:(s.heap.push (mT led)).get? s.heap.objs.size=some (mT led):=cN _ rfl;have hT:Shared.TypeIs {s with heap:=s.heap.push (mT led)} (.ref s.heap.objs.size) "set" := ⟨_,hS,rfl⟩
  have OG:=nY.init.lookup;have hbi:=nY.init.bind (.ref s.heap.objs.size)
  repeat (any_goals (first | assumption | wp_step))
  refine codeAny_mono (codeAny_call_builtin (R:=wants (fun r s2=>r=.none/\∃h' tk,s2={s with heap:=h',toks:=tk}/\h'.SetOf knd s.heap.objs.size (fun k=>decide (k∈ks)) ks.eraseDups.length/\∀b o,s.heap.get? b=some o->h'.get? b=some o) E)
   nY.init.plain PySem.F.entry_set_init (check_set_init_1 hT ?_)) fun r2 s2 kN=>?_
  ·obtain⟨⟨oc,od,Y2,os⟩,t8,qR,nl,iE⟩:=hl
   simp only at qR iE
   subst qR iE;have abx:(s.heap.push (mT led)).get? l=some {cls:=.type "list",dict:=od,data:=.seq items nl,slots:=os}:=aW _ t8
   have oU:(s.heap.push (mT led)).IsList l items:=⟨_,abx,rfl,nl,rfl⟩
   have ai6:=PySem.F.sub_list_set;have ai7:=PySem.F.sub_list_frozenset;have bN:(n5 "list" == n5 "dict")=false:=by decide
   have OH:l<s.heap.objs.size:=aV t8;unfold Builtin.«set.__init__» noKeywords Builtin.Frozenset.updateFrom;generalize hPI:pyIter=PI
   wp_walk
   subst hPI;refine wpAny_pyIter_list oU (wpAny_bind (wpAny_runValue ?_));have hz:(s.heap.push (mT led)).objs.size=s.heap.objs.size+1:=kc _ _;refine VD (knd:=knd) hk (Walks.list (by simp [hh]) (s.heap.push (mT led)).objs.size l (by rw [hz]; exact bJ (yy OH)) items) (S:=s.heap.objs.size) (by rw [hz]; simp only [ba,fJ,or_false,not_or]; exact⟨bJ (yu _),(bJ OH).symm⟩) hn hb (items.size - 0) 0 _ rfl (gw _) ⟨⟨_,cN _ rfl,rfl,rfl⟩,oU.push _⟩ ?_ fun h' tk jd GO=>?_
   ·exact⟨mT led,#[],0,_,aW _ hS,⟨rfl,rfl,rfl⟩,rfl,fun e he=>by simp at he,fun k=>by simp,by decide,rfl,rfl⟩
   ·refine wpAny_pure (wpAny_pure ⟨rfl,h',tk,rfl,GO,fun b o e=>?_⟩)
    have bU:=aV e;exact jd b o (bJ bU) (by rw [hz]; simp only [ba,fJ,or_false]; exact bJ (yy bU)) (aW _ (aW _ e))
  ·match r2,kN with
   |.error e,kN=>exact kN
   |.ok (.ret r),kN=>
    obtain⟨rfl,h',tk,rfl,GO,jd⟩:=kN
    repeat (any_goals (first | assumption | wp_step))
    exact h _ _ GO jd
end
theorem Qq {α β:Type}[DecidableEq α][DecidableEq β](h:α->β)(hi:∀a b,h a=h b->a=b):∀(n:Nat) (l:List α),l.length=n->(l.map h).eraseDups.length=l.eraseDups.length
 |0,l,e=>by rw [yN.mp e]; rfl
 |n+1,l,e=>by
  have bN:l≠[]:=fun z=>by rw [z] at e; cases e
  have hl:l.dropLast.length=n:=by rw [List.length_dropLast,e]; rfl
  have ih:=Qq h hi n l.dropLast hl;rw [← List.dropLast_concat_getLast bN,vx,bG,jq,A4,A4,ih];have:h (l.getLast bN)∈l.dropLast.map h↔l.getLast bN∈l.dropLast:=by
   rw [df];exact⟨fun⟨a,ha,z⟩=>hi _ _ z ▸ ha,fun ha=>⟨_,ha,rfl⟩⟩
  by_cases z:l.getLast bN∈l.dropLast
  ·rw [if_pos z,if_pos (this.mpr z)]
  ·rw [if_neg z,if_neg (fun y=>z (this.mp y))]
noncomputable def txt (l:List Nat):Str:=⟨l.toArray⟩
theorem T5 (a b:List Nat)(h:txt a=txt b):a=b:=by
 injection h with h;simpa using congrArg iY h
theorem afi {α:Type}[DecidableEq α](i:BEq α)[LawfulBEq α]:(instBEqOfDecidableEq:BEq α)=i:=by
 cases i with
 |mk g=>
  have:(fun a b:α=>decide (a=b))=g:=by
   funext a b
   have h:(g a b=true)↔a=b:=@beq_iff_eq α ⟨g⟩ _ a b;rw [ke,h,decide_eq_true_eq]
  exact congrArg BEq.mk this
theorem adQ (ls:List (List Nat)):(ls.map txt).eraseDups.length=ls.eraseDups.length:=by
 rw [Qq txt T5 _ ls rfl];rw [afi (α:=List Nat) _]
section
variable {X:Cx}{cls:Nat->Addr}{E:XK}{e:Expr}{f:aa->M Dt}{pos oA p p2:Pos}
theorem ads (hc:X.calm=true)(Gx:Gl X "len")(t9:X.mg "len" = none)(xm:Gl X "set")(Gk:X.mg "set" = none)(ha:Ev X cls E e f)(bj:isStar e=false) :
  Ev X cls E (.Call (.Name "len" p) [.Call (.Name "set" p2) [e] [] oA] [] pos) (p1 tO f):=by
 intro pins s σ H Q I ⟨O,A,ρ,F,q⟩;refine wpAny_Call_Name_kw (lJ I Gx t9 fW ?_ (by decide) (by decide));refine Cs (e:=.Call (.Name "set" p2) [e] [] oA) (rest:=[]) ?_ rfl rfl
 refine lr (x:=eval (.Call (.Name "set" p2) [e] [] oA) X.env) ?_
 refine wpAny_Call_Name_kw (lJ I xm Gk (show bootBuiltins "set" = some (.type "set") from by decide +kernel) ?_ (by decide) (by decide))
 refine rS (e:=e) (rest:=[]) ?_ (jG bj) rfl;rw [jG bj];refine lr (x:=eval e X.env) (aC (ha pins s σ H (fun x H1=>∃d,aw H H1/\Rep X.K (ao H1 A) d x/\sm d/\Res X.K cls A E (tO d) H1 Q) I ⟨O,A,ρ,F,Rg.bind q fun d _ q1=>?_⟩) fun u s1 ⟨x,H1,I1,r1,d,Dz,rp,zd,q1⟩=>?_)
 ·intro x H1 s1 r1 z1
  exact⟨d,s1,r1,z1,Res.mono q1 s1⟩
 refine mE ?_
 cases d with
 |lst ds=>
  simp only [tO] at q1
  split at q1
  ·rename_i hlen
   cases hs:kn ds with
   |none=>rw [hs] at q1; exact(show False from q1).elim
   |some ls=>
    rw [hs] at q1;obtain⟨pl,xs,rfl,h1,h2⟩:=fK rp;cases r1;have hx:=Dq hs h2;subst hx;obtain⟨ak,rv,Eu,hz⟩:=I1.list (bO.seq h1);have hl:ak.length=ls.length:=by have:=rv.length; simpa using this.symm
    have nr:ls.length<=1000:=by have:=h2.length; simp at this; omega
    refine Lv (knd:=strKind X.prog X.w) (ks:=ls.map txt) (I1.ok.hd hc) Eu.isList (fun i v hv=>?_) (by simp [hl]) (by simp [scanBound]; omega) fun h' tk hS hk=>?_
    ·have qG:ak[i]?=some v:=by simpa using hv
     have hi:i<ak.length:=(ej.mp qG).1;have oW:i<ls.length:=by omega
     obtain⟨u,hu,ru⟩:=rv.get (i:=i) (x:=S ls[i]) (by simp [oW]);rw [qG] at hu;cases hu;obtain⟨t,rfl⟩:=ru;exact⟨txt ls[i],by simp [oW],strKind_is X.prog X.w _ _,rfl⟩
    ·refine mE ?_
     rw [adQ] at hS;obtain⟨o,es,ep,t,ho,hex,hd,_,_,hb,hf,hn⟩:=hS;refine call_len_set ho hex hd hf (by have:es.size<4096:=hb; omega) ?_;rw [hn];exact(fun ht=>⟨.int (ls.eraseDups.length:Nat),H1,I1.kept hk,⟨_,rfl⟩,q1 _ H1 (.refl _) ek trivial⟩)
  ·exact(show False from q1).elim
 |_=>exact(show False from q1).elim
end
section
variable {X:Cx}{cls:Nat->Addr}{E:XK}{a b e dE o:Expr}{f g:aa->M Dt}{fs:aa->M (List Dt)}{pos p kp:Pos}
theorem adw {p2:Pos}(hg:Gl X "isinstance")(hm:X.mg "isinstance" = none)(hg2:Gl X "str")(gS:X.mg "str" = none)(ha:Ev X cls E e f)(bj:isStar e=false):Ev X cls E (.Call (.Name "isinstance" p) [e,.Name "str" p2] [] pos) (p1 EN f):=by
 refine(iB aeZ hg hm boot_isinstance (@bh _ _ _ _ _ bj ha (@bh _ _ _ _ _ rfl (Mh hg2 gS boot_str (v:=.ty "str") rfl) cL)) (by decide) (by decide) (jG bj) rfl).imp fun σ H Q h_=>?_
 obtain⟨O,A,ρ,F,q⟩:=h_;refine⟨O,A,ρ,F,Rg.bind q fun d _ q1=>?_⟩;intro v H1 s1 r1 z1;have q2:=Res.mono (Q:=Q) q1 s1;show ∃x b,[v,V.ty "str"]=[x,.ty "str"]/\Ob X.K x H1 b/\Q (.bl b) H1
 cases d with
 |str l=>exact⟨v,true,rfl,by rw [cK r1]; rfl,q2 _ H1 (.refl _) eJ trivial⟩
 |int i=>exact⟨v,false,rfl,by rw [dg r1]; rfl,q2 _ H1 (.refl _) eJ trivial⟩
 |bl i=>exact⟨v,false,rfl,by simp only [Rep] at r1; rw [r1]; rfl,q2 _ H1 (.refl _) eJ trivial⟩
 |aI=>exact⟨v,false,rfl,by simp only [Rep] at r1; rw [r1]; rfl,q2 _ H1 (.refl _) eJ trivial⟩
 |lst l=>
  obtain⟨p,xs,rfl,h1,_⟩:=fK r1;exact⟨_,false,rfl,⟨rfl,.inl ⟨xs,bO.seq h1⟩⟩,q2 _ H1 (.refl _) eJ trivial⟩
 |tup l=>
  obtain⟨p,xs,rfl,h1,_⟩:=iz r1;exact⟨_,false,rfl,⟨rfl,.inr ⟨xs,bO.f9 h1⟩⟩,q2 _ H1 (.refl _) eJ trivial⟩
 |aj l=>exact(show False from q2).elim
end
section
variable {X:Cx}{cls:Nat->Addr}{E:XK}{a b e dE o:Expr}{f g:aa->M Dt}{fs:aa->M (List Dt)}{pos p kp:Pos}
theorem Q5:rP X cls E (.type "tuple") xP:=by
 refine⟨_,aeV,fun A H Q ds vs L r z q=>?_⟩;unfold xP at q
 split at q
 ·rename_i l
  obtain⟨v,rfl,rv⟩:=jJ r;obtain⟨p,xs,rfl,h1,h2⟩:=fK rv;refine⟨p,xs,rfl,.inl ⟨bO.seq h1,fun l' qM=>?_⟩⟩;exact q (.ref l') _ (.upd qM) (qg (nt L qM) (h2.mono ((aw.upd qM).ao A))) z.1
 ·rename_i l
  obtain⟨v,rfl,rv⟩:=jJ r;obtain⟨p,xs,rfl,h1,h2⟩:=iz rv;exact⟨p,xs,rfl,.inr ⟨bO.f9 h1,q (.ref p) H (.refl _) rv z.1⟩⟩
 ·exact(show False from q).elim
theorem ints_rep {K:ah}{H:Hp}:∀{ds:List Dt}{ns:List Int}{xs:List V},lM ds=some ns->av K H ds xs->xs=ns.map V.int
 | [],ns,xs,h,r=>by
  simp only [av] at r;simp only [lM,vA] at h;subst r h;rfl
 |d::ds,ns,xs,h,r=>by
  simp only [av] at r;obtain⟨x,t,rfl,r1,r2⟩:=r
  cases d with
  |int i=>
   simp only [lM,iZ] at h;obtain⟨cs,hc,rfl⟩:=h;simp only [Rep] at r1;rw [ints_rep hc r2,bG,r1]
  |_=>simp [lM] at h
noncomputable def iv (ns:List Int)(i:Nat):Int:=ns.getD i 0
end
section
variable {X:Cx}{cls:Nat->Addr}{E:XK}{a b c o:Expr}{f g:aa->M Dt}{fs:aa->M (List Dt)}{pos:Pos}
theorem Md {ta:TE}(ha:PE X a ta):PE X (.FormattedValue a 114 none pos) (fun σ H Q=>ta σ H fun v H1=>∃l:List Nat,v=S l/\l.length<=50/\(∀c∈l,c<1000)/\∀z:Str,z.length<=1000->Q (.str z) H1):=by
 intro pins s σ H Q I h;refine wpAny_FormattedValue_repr (aC (ha pins s σ H _ I h) fun v s1 ⟨x,H1,I1,r1,l,e,hl,hc,q⟩=>?_);subst e;obtain⟨t,rfl⟩:=r1;have hlen:(reprText ⟨l.toArray⟩).length<=502:=by
  have h1:=StrLaws.reprText_len ⟨l.toArray⟩ (fun c lY=>rW (hc c (by simpa using lY)) (by decide));have h2:(⟨l.toArray⟩:Str).length=l.length:=by simp [rT]
  omega
 have hs:1000<=sizeLine:=by decide
 refine wpAny_pyReprObj_str ?_ (by omega);exact wpAny_formatField_str (fun ht=>⟨.str _,H1,I1.tok _,⟨_,rfl⟩,q _ (by omega)⟩) (fun ht=>⟨.str _,H1,I1.tok _,⟨_,rfl⟩,q _ (by omega)⟩) (by omega)
theorem Kq {x:Str}{j p p'}(h:Ev X cls E a f)(hx:x.length<=1000:=by decide +kernel):Uv X cls E (.JoinedStr [.FormattedValue a 114 none p',.Constant (.str x) j p] pos) (ti f):=(Mc (Md h) (Ey (x:=x))).imp fun σ H Q h_=>by
 obtain⟨O,A,ρ,F,q⟩:=h_;refine⟨O,A,ρ,F,Rg.bind q fun d _ q1=>?_⟩;intro v H' s' r z
 cases d with
 |str l=>
  simp only [vK] at q1
  split at q1
  ·rename_i hi
   refine⟨l,cK r,hi.1,fun c hc=>by simpa using dO.mp hi.2 c hc,fun z hz=>⟨z,rfl,hz,_,rfl,hx,fun z'=>q1 _ H' s'⟩⟩
  ·exact(show False from q1).elim
 |_=>exact(show False from q1).elim
end
section
variable {X:Cx}{cls:Nat->Addr}{E:XK}{a b c o:Expr}{f g:aa->M Dt}{fs:aa->M (List Dt)}{pos:Pos}
theorem U4 {i j:Nat}{x y:Str}{px py pt lp:Pos}{kt k2 g8}(hc:X.calm=true)(hN:X.N.Nodup)(hi:X.N[i]?=some x)(hj:X.N[j]?=some y)(lR:i≠j)
  (hx:X.env.scope.names.lookup x=some .local) (hy:X.env.scope.names.lookup y=some .local) (he:Ev X cls E a f) (bj:isStar a=false)
  (hw:swappedStores [.Tuple [.Name x px,.Name y py] kt pt] (.Tuple [a,.List [] lp] k2 g8) X.env=pure (some [x,y]))
  (hs:swapsWithSole [.Tuple [.Name x px,.Name y py] kt pt] (.Tuple [a,.List [] lp] k2 g8) pos.line X.env=pure false:=by rfl) :
  Sv X cls E (.Assign [.Tuple [.Name x px,.Name y py] kt pt] (.Tuple [a,.List [] lp] k2 g8) pos) (zf i j f):=
 (LW hc hN hi hj lR hx hy (@bh _ _ _ _ _ bj he (@bh _ _ _ _ _ rfl (m4 cL) cL)) hw hs).imp fun D σ H ⟨Hin,A₀,ρ,⟨os,S⟩,q⟩=>by
 have F:=S.2.2.2;refine⟨os,os++A₀,ρ,F,ky S.1 q fun d v H' _ q1 s' r z=>⟨gw _,fun p hp=>⟨v,.ref p,rfl,q1 _ _ ⟨p::os,?_⟩⟩⟩⟩;have S':=S.mono s';exact cx.fresh (i:=j) (ds:=[]) (vs:=[]) ⟨S'.1,S'.2.1,S'.2.2.1,S'.2.2.2.put i r z⟩ hp .nil trivial (by simp)
variable {scope:Scope}{N:List Str}{k:Nat}{fr:List Nat}{tg iter elt:Expr}{ifs:List Expr}{ι:IM}{gm:GM}{tc:aa->M Bool}{te:aa->M Dt}
end
structure pz (mg:Str->Option Value) (base:Heap) (c P:Addr):Prop where
 code:CodeHd base c P
 bm:∃bm ob,mg "__builtins__" = some (.ref bm)/\bm≠builtinsNs/\base.get? bm=some ob/\ob.cls=.type "module" /\ob.dict=some builtinsNs/\ob.data=.plain
theorem afE {pos:Pos}{a b:Int}{c cv:Value}(l:List Value)(h:TriplesOk l)(e:codeAmong pos (l++[rawInt a,rawInt b,c])=some cv):codeAmong pos l=some cv∨cv=c:=by
 fun_induction TriplesOk l with
 |case1=>
  simp only [lq,codeAmong,rawInt] at e
  split at e
  ·exact .inr (gZ e).symm
  ·cases e
 |case2 a' t b' u x rest ih=>
  simp only [yx,codeAmong] at e ⊢
  split at e
  ·rename_i hc; rw [if_pos hc]; exact .inl e
  ·rename_i hc; rw [if_neg hc]; exact ih h e
 |case3 l h1 h2=>exact h.elim
noncomputable def Se (H:Hp)(c:Addr)(q:Str):Prop:=∃oc u vs t,H c=some (.bq oc u)/\oc.data=.fields vs/\vs[1]?=some (.str q t)
section
variable {X:Cx}{pins:List (Addr×Obj)}{σ:St}{H:Hp}{s:Shared}{params:Arguments}{body:Expr}{scope:Scope}{pos:Pos}{c P:Addr}{q:Str}
noncomputable abbrev lK (q:Str)(params:Arguments)(body:Expr)(scope:Scope)(cells:List (Str×Addr))(mg:Str->Option Value)(cv fS:Value):Obj:=
 {cls:=.type "function",data:=.func (kla_fn "<lambda>" q params body scope (d7 scope.names cells) ((mg "__name__").getD .none) cv fS)}
theorem aao {Q:Value->Shared->Prop}{E:Value->Shared->Prop}(I:Inv X pins σ H s)(qO:∀y∈scope.names,y.2=.free->∃c,X.env.cells.lookup y.1=some c)(AE:X.env.code=.ref c)(B:pz X.mg X.base c P)(hT:H P=some (.du q))(hq:X.env.qual ++ "<lambda>" = q)
  (GF:defaultsOf params X.env=([],[]))
  (h:∀(f c':Addr) (fS:Value) (s':Shared) (H':Hp),Inv X pins σ H' s'->aw H H'->H' f=some (.bq (lK q params body scope X.env.cells X.mg (.ref c') fS) (.own 0))->Se H' c' q->Q (.ref f) s') :
  wpAny (model X.prog X.w) X.A (eval (.Lambda params body scope pos) X.env) Q E s:=by
 refine wpAny_with_toks (n:=1) I.tk ?_;refine kla_eval GF ?_;rw [hq];obtain⟨ps,hP,tr,codes⟩:=I.ar P _ hT;have qR:closureFor scope X.env=pure (d7 scope.names X.env.cells):=Ba qO;have hg:s.heap.Ns mainGlobals X.mg:=I.ok.mod.glob.keeps I.bk;have C:CodeHd s.heap c P:=B.code.keeps I.bk;have nP:∀b o,X.base.get? b=some o->b≠P:=fun b o e z=>by
  have:=(I.bs b o e).2;rw [z,hT] at this;cases this
 have hgP:mainGlobals≠P:=by
  obtain⟨o,es,ep,e,_⟩:=I.ok.mod.glob;exact nP _ _ e
 obtain⟨bm,ob,b1,b2,b3,b4,b5,b6⟩:=B.bm;have hbG:bm≠mainGlobals:=fun z=>by
  obtain⟨o,es,ep,e,hd,_⟩:=I.ok.mod.glob;rw [z,e] at b3; cases b3; rw [hd] at b6; cases b6
 have hB:s.heap.BuiltinsAt X.mg P:=⟨bm,ob,b1,b2,hbG,nP _ _ b3,I.bk _ _ b3,b4,b5,b6⟩
 cases hf:codeAmong pos ps.toList with
 |some cv=>
  obtain⟨c',oc,u,rfl,fA,vs,t,hd,hv⟩:=codes pos cv hf;refine kla_makeFunctionHit (mg:=X.mg) qR I.ok.glob hg AE C hP tr hf hB fun fS h' tk hk hsz ht=>?_;have cV:H h'.objs.size=none:=I.ar.fresh hsz;have k2:∀b o,s.heap.get? b=some o->(h'.push (lK q params body scope X.env.cells X.mg (.ref c') fS)).get? b=some o:=fun b o e=>aW _ (hk b o e);refine h h'.objs.size c' fS _ (upd H h'.objs.size (.bq (lK q params body scope X.env.cells X.mg (.ref c') fS) (.own 0))) (I.laid (t':=tk) k2 hsz ⟨cN _ rfl,⟨_,cN _ rfl⟩⟩) (.upd cV) aU ⟨oc,u,vs,t,by rw [aF (cH fA cV)]; exact fA,hd,hv⟩
 |none=>
  refine kla_makeFunction (mg:=X.mg) qR I.ok.glob hg AE C hP tr hf hgP hB fun c' fS h' tk hx lU aR abq Ot ht=>?_;obtain⟨c₂,oc,vs,t,e2,xc,hd,hv⟩:=abq;cases e2;have cV:H h'.objs.size=none:=I.ar.fresh (c9 lU (rX aR));have GH:H c'=none:=I.ar.fresh lU;have OR:c'≠h'.objs.size:=bJ aR;have lt:∀b o,s.heap.get? b=some o->b≠c'/\b≠h'.objs.size:=fun b o e=>⟨bJ (cB (aV e) lU),bJ (rW (cB (aV e) lU) aR)⟩
  have up:∀b u,H b=some u->upd (upd H c' (.bq oc (.own 0))) h'.objs.size (.bq (lK q params body scope X.env.cells X.mg (.ref c') fS) (.own 0)) b=some u:=fun b u e=>by
   rw [aF (cH e cV),aF (cH e GH)];exact e
  have k2:∀b o,b≠P->s.heap.get? b=some o->(h'.push (lK q params body scope X.env.cells X.mg (.ref c') fS)).get? b=some o:=fun b o hb e=>aW _ (hx b o hb e);have M0:∀b,H b=none->b≠P:=fun b n z=>by rw [z,hT] at n; cases n
  have un:Un X.fs [] H (upd (upd H c' (.bq oc (.own 0))) h'.objs.size (.bq (lK q params body scope X.env.cells X.mg (.ref c') fS) (.own 0))) s.heap (h'.push (lK q params body scope X.env.cells X.mg (.ref c') fS)):=by
   refine⟨fun b o e n _ _=>k2 b o (M0 b n) e,fun b o e n _ _=>⟨o.slots,k2 b o (M0 b n) e⟩,fun b o e n _=>?_,fun b o e _=>?_,fun b xs e=>up b _ e,fun b ob u e=>up b _ e,fun b n e=>up b _ e⟩
   ·rw [aF (lt b o e).2,aF (lt b o e).1]
    exact n
   ·by_cases hb:b=P
    ·subst hb
     exact⟨_,aW _ Ot⟩
    ·exact⟨o,k2 b o hb e⟩
  have ar:cq X.prog X.w (upd (upd H c' (.bq oc (.own 0))) h'.objs.size (.bq (lK q params body scope X.env.cells X.mg (.ref c') fS) (.own 0))) (h'.push (lK q params body scope X.env.cells X.mg (.ref c') fS)):=by
   intro a o e
   by_cases ha:a=h'.objs.size
   ·subst ha
    rw [aU] at e;cases e;exact⟨cN _ rfl,⟨_,cN _ rfl⟩⟩
   ·rw [aF ha] at e
    by_cases OX:a=c'
    ·subst OX
     rw [aU] at e;cases e;exact⟨aW _ xc,⟨_,aW _ xc⟩⟩
    ·rw [aF OX] at e
     by_cases OW:a=P
     ·subst OW
      rw [hT] at e;cases e;refine⟨_,aW _ Ot,?_,fun pos' cv z=>?_⟩
      ·rw [Array.toList_append]
       exact TriplesOk_snoc _ _ _ _ tr
      ·rw [Array.toList_append] at z
       rcases afE _ tr z with z | z
       ·obtain⟨c2,Za,u2,z1,z2,z3⟩:=codes pos' cv z
        exact⟨c2,Za,u2,z1,up _ _ z2,z3⟩
       ·exact⟨c',oc,.own 0,z,by rw [aF OR,aU],vs,t,hd,hv⟩
     ·refine(I.ar a o e).iu (fun b u hb r=>k2 b u ?_ r) (fun b r=>up b _ r) (fun b xs r=>up b _ r) fun b ob u r=>up b _ r
      rcases hb with rfl | hb
      ·exact OW
      ·rintro rfl
       rw [hT] at hb;cases hb
  exact h h'.objs.size c' fS _ _ (I.un (t':=tk) un ar) (fun b u e=>up b u e) aU ⟨oc,.own 0,vs,t,by rw [aF OR,aU],hd,hv⟩
end
noncomputable def e9 (CX:fU)(P:Program)(w:World)(K:ah)(mg:Str->Option Value)(base:Heap)(N:List Str)(qual:Str)(scope:Scope)(f:Addr)(cd:Value)(cl:List (Str×Addr))(A:Around)(outer:List Env)(s:Shared)(H:Hp)(E:XK):Cx where
 prog:=P
 w:=w
 K:=K
 mg:=mg
 base:=base
 A:=A.deeper (envX qual scope s.heap.objs.size f cd cl)
 N:=N
 aH:=s
 aY:=H
 env:=envX qual scope s.heap.objs.size f cd cl
 outer:=outer
 stack:=envX qual scope s.heap.objs.size f cd cl::outer
 ex:=[]
 calm:=true
 fn:=fun _=>false
 pn:=[]
 xe:=fun e s'=>wpAny (model P w) (A.deeper (envX qual scope s.heap.objs.size f cd cl)) (leaving (envX qual scope s.heap.objs.size f cd cl) e) (fun _ gc=>CX outer H s E e gc) (fun e' gc=>CX outer H s E e' gc) s'
section
variable {P:Program}{w:World}{K:ah}{mg:Str->Option Value}{base:Heap}{N:List Str}{qual:Str}{scope:Scope}{f:Addr}{cd:Value}{cl:List (Str×Addr)}{A:Around}{outer:List Env}{aH:Shared}{aY:Hp}{E:XK}
theorem Wx:Rz (e9 (aG P w) P w K mg base N qual scope f cd cl A outer aH aY E) E where
 made:=by
  intro pins σ H s h' e C vs I hx hE;have cV:=I.ok.frames;have hF:=I.stack;have xk:∀env∈(e9 (aG P w) P w K mg base N qual scope f cd cl A outer aH aY E).stack,∀b,env.frame=some b->b∈aE (e9 (aG P w) P w K mg base N qual scope f cd cl A outer aH aY E).stack:=fun env he b hb=>yB.mpr ⟨env,he,hb⟩;refine wpAny_leaves_madeW (base:=hideAll s.heap (aE (e9 (aG P w) P w K mg base N qual scope f cd cl A outer aH aY E).stack)) (h:=s.heap) cV rfl (fun b o q=>of_hideAll _ q) (funFrames_hide hF xk) hx fun iG t fl _ _ up=>?_;have lN:∀b o,s.heap.get? b=some o->b∉aE (e9 (aG P w) P w K mg base N qual scope f cd cl A outer aH aY E).stack->(hideAll s.heap (aE (e9 (aG P w) P w K mg base N qual scope f cd cl A outer aH aY E).stack)).get? b=some o:=fun b o q hb=>hideAll_get _ q hb;have old:∀b o,aH.heap.get? b=some o->b∉aE outer->b∉aE (e9 (aG P w) P w K mg base N qual scope f cd cl A outer aH aY E).stack:=fun b o q hb z=>by
   rcases ba.mp (I.jE b z) with e | e
   ·exact absurd (aV q) (by have:=I.ok.above; rw [e]; exact mJ.mpr this)
   ·exact hb e
  have bM:∀b:Addr,b∉(e9 (aG P w) P w K mg base N qual scope f cd cl A outer aH aY E).ex:=fun b z=>nomatch z
  have kG:∀b o,aH.heap.get? b=some o->aY b=none->b∉aE outer->(hideAll s.heap (aE (e9 (aG P w) P w K mg base N qual scope f cd cl A outer aH aY E).stack)).get? b=some o:=fun b o q n hb=>lN b o (I.base.keep b o q n hb (bM b)) (old b o q hb);have kl:∀b o,aH.heap.get? b=some o->b∉aE outer->∃o',(hideAll s.heap (aE (e9 (aG P w) P w K mg base N qual scope f cd cl A outer aH aY E).stack)).get? b=some o':=fun b o q hb=>by
   obtain⟨o',q'⟩:=I.base.there b o q (bM b);exact⟨o',lN b o' q' (old b o q hb)⟩
  have ku:∀b o,aH.heap.get? b=some o->aY b=none->b∈aE outer->∃sl,iG.get? b=some {o with slots:=sl}:=fun b o q n hb=>by
   obtain⟨sl,q'⟩:=I.base.slot b o q n hb (bM b);obtain⟨_,o2,q2,nf⟩:=I.ok.en.mem hb;have gL:aH.heap.get? b=some o2:=q2;rw [q] at gL;cases gL;obtain⟨dQ,q3⟩:=up b _ (hx.keeps b _ q') (by intro vs z; exact nf vs z);exact⟨dQ,q3⟩
  refine⟨e,C,H,_,_,rfl,I.os,I.bare,fl,fun a o q=>?_,⟨fun b o q n hb _=>fl.1 b o (kG b o q n hb),fun b o q n hb _=>ku b o q n hb,fun b o q n _=>I.base.free b o q n (bM b),fun b o q _=>?_,I.base.eD,I.base.d6,I.base.dH⟩,kG,kl,?_,hE⟩
  ·have na:∀b u,H b=some u->b∉aE (e9 (aG P w) P w K mg base N qual scope f cd cl A outer aH aY E).stack:=fun b u q z=>by
    have:=I.vW b z;rw [q] at this;cases this
   refine(I.ar a o q).iu (fun c u hc r=>lN c u r ?_) (fun _ z=>z) fun _ _ z=>z;rcases hc with rfl | hc
   ·exact na _ _ q
   ·exact na _ _ hc
  ·by_cases hb:b∈aE outer
   ·have hn:aY b=none:=I.ok.gq b hb
    obtain⟨sl,q'⟩:=ku b o q hn hb;exact⟨_,q'⟩
   ·obtain⟨o',q'⟩:=kl b o q hb
    exact⟨o',fl.1 b o' q'⟩
  ·cases q:H e with
   |none=>rfl
   |some u=>
    obtain⟨ob,z⟩:=(I.ar e u q).there;rw [hx.new] at z;cases z
 pass:=by
  intro pins σ H s e s' I hc;obtain⟨ea,C,H',B,a0,rfl,nh,hb,fl,ar,un,kH,mM,gj,hE⟩:=hc;have cV:=I.ok.frames;refine wpAny_leaves_onW cV rfl fl fun iG jh up=>?_;have old:∀b o,aH.heap.get? b=some o->b∉aE outer->b∉aE (e9 (aG P w) P w K mg base N qual scope f cd cl A outer aH aY E).stack:=fun b o q hb z=>by
   rcases ba.mp (I.jE b z) with e | e
   ·exact absurd (aV q) (by have:=I.ok.above; rw [e]; exact mJ.mpr this)
   ·exact hb e
  have bM:∀b:Addr,b∉(e9 (aG P w) P w K mg base N qual scope f cd cl A outer aH aY E).ex:=fun b z=>nomatch z
  have kG:∀b o,aH.heap.get? b=some o->aY b=none->b∉aE outer->B.get? b=some o:=fun b o q n hb=>kH b o (I.base.keep b o q n hb (bM b)) (I.base.free b o q n (bM b)) (old b o q hb);have kl:∀b o,aH.heap.get? b=some o->b∉aE outer->∃o',B.get? b=some o':=fun b o q hb=>by
   obtain⟨o',q'⟩:=I.base.there b o q (bM b);exact mM b o' q' (old b o q hb)
  have sub:∀b,b∈aE outer->b∈aE (e9 (aG P w) P w K mg base N qual scope f cd cl A outer aH aY E).stack:=fun b hb=>by
   show b∈aE (_::outer);unfold aE;rw [fX]
   split
   ·exact hb
   ·exact cy _ hb
  have ku:∀b o,aH.heap.get? b=some o->aY b=none->b∈aE outer->∃sl,iG.get? b=some {o with slots:=sl}:=fun b o q n hb=>by
   obtain⟨sl,q'⟩:=I.base.slot b o q n hb (bM b);obtain⟨oh,gL⟩:=un.slot b _ q' (I.base.free b o q n (bM b)) (sub b hb) (by simp);obtain⟨_,o2,q2,nf⟩:=I.ok.en.mem hb;have oy:aH.heap.get? b=some o2:=q2;rw [q] at oy;cases oy;obtain⟨dQ,q3⟩:=up b _ gL (by intro vs z; exact nf vs z);exact⟨dQ,q3⟩
  refine⟨ea,C,H',B,a0,rfl,nh.trans I.os,hb,jh,ar,⟨fun b o q n hb _=>jh.1 b o (kG b o q n hb),fun b o q n hb _=>ku b o q n hb,fun b o q n _=>?_,fun b o q _=>?_,fun b xs q=>un.eD b xs (I.base.eD b xs q),fun b o u q=>un.d6 b o u (I.base.d6 b o u q),fun b ps q=>?_⟩,kG,kl,gj,hE⟩
  ·obtain⟨o',q'⟩:=I.base.there b o q (bM b)
   exact un.free b o' q' (I.base.free b o q n (bM b)) (by simp)
  ·by_cases hb:b∈aE outer
   ·have hn:aY b=none:=I.ok.gq b hb
    obtain⟨sl,q'⟩:=ku b o q hn hb;exact⟨_,q'⟩
   ·obtain⟨o',q'⟩:=kl b o q hb
    exact⟨o',jh.1 b o' q'⟩
  ·exact un.dH b ps (I.base.dH b ps q)
end
structure Jz (X:Cx) (scope:Scope) (N:List Str) (fr:List Nat):Prop where
 c:eB X scope N 0 fr
 co:scope.isCoroutine=false
 gen:scope.isGenerator=false
 ML:∀x∈scope.names,x.2≠.cell
section
variable {X:Cx}{scope:Scope}{N:List Str}{fr:List Nat}{pins:List (Addr×Obj)}{σ:St}{H H2:Hp}{s s2:Shared}{A:Around}{outer:List Env}{E:XK}{q:Str}{f:Addr}{cv:Value}{h1:Heap}{t1:Nat}{m:Str->Option Value}
theorem aaU (S:Jz X scope N fr)(I:Inv X pins σ H s)(un:Un (aE X.stack) [] H H2 s.heap s2.heap)(e0:iW X.prog X.w X.K X.mg X.base A outer s2 H2)(hd:A.handled=none)(ni:h1.Ns s2.heap.objs.size m)(oV:∀b o,s2.heap.get? b=some o->h1.get? b=some o)(kL:0<t1) :
  Inv (e9 (aG X.prog X.w) X.prog X.w X.K X.mg X.base N q scope f cv (d7 scope.names X.env.cells) A outer s2 H2 E) [] (cU 0 fr σ) H2 {s2 with heap:=h1,toks:=t1}:=by
 have lk:∀{x:Str} {c:Addr},(d7 scope.names X.env.cells).lookup x=some c->X.env.cells.lookup x=some c:=fun h=>rF (S.c.cells I.ok) h;have cellK:∀x c v,X.env.cells.lookup x=some c->s.heap.IsCell c v->h1.IsCell c v:=fun x c v hc h_=>by
  obtain⟨o,ho,hd⟩:=h_;obtain⟨sl,q⟩:=un.any ho (I.eO x c hc) (by simp);exact⟨_,oV _ _ q,hd⟩
 have kD:∀b:Addr,b∉(e9 (aG X.prog X.w) X.prog X.w X.K X.mg X.base N q scope f cv (d7 scope.names X.env.cells) A outer s2 H2 E).ex:=fun b z=>nomatch z
 refine⟨⟨e0.mod,S.c.kind,rfl,rfl,bc _,fun y z c h1 h2=>I.ok.inj y z c (lk h1) (lk h2),fun y hy=>?_,(fun y c z _=>nomatch z),fun _=>hd,Cg e0.frames,.inr ⟨rfl,rfl⟩,fun b z=>absurd z (kD b),e0.bs,e0.iQ,fun b _ _=>kD b,fun b z=>absurd z (kD b),e0.en,e0.gq⟩,
  rfl,e0.bare,Un.kept oV,⟨m,ni,fun i x v e1 e2 e3=>?_⟩,fun x c hc=>?_,e0.ar.fresh (bc _),fun x c hc=>?_,(fun p hp=>nomatch (show p∈([]:List (Addr×Obj)) from hp)),e0.ar.kept oV,?_,kL⟩
 ·have hy:scope.names.lookup y=some .cell∨scope.names.lookup y=some .free:=hy
  rcases hy with hy | hy
  ·exact absurd rfl (S.ML _ (lookup_mem hy))
  ·exact xF (cells:=X.env.cells) scope.names [] (.inl (lookup_mem hy))
 ·unfold cU at e2
  simp only [Ce,lq,jt] at e2;have hj:i<fr.length:=by
   cases q:fr[i]? with
   |none=>rw [q] at e2; cases e2
   |some _=>exact(ej.mp q).1
  have ha:=dO.mp S.c.at_ i (by simpa using hj);have uQ:N[0+i]?=some x:=by rw [Nat.zero_add]; exact e1
  cases q:fr[i]? with
  |none=>rw [q] at e2; cases e2
  |some p=>
   rw [q] at e2;simp only [uQ,q] at ha;obtain⟨a1,a2⟩:=yH.mp ha;have Jp:X.N[p]?=some x:=by simpa using a1
   have pq:scope.names.lookup x=some .free:=by simpa using a2
   have ij:(σ[p]?).getD none=some v:=by simpa using e2
   have HH:σ[p]?=some (some v):=by
    cases z:σ[p]? with
    |none=>rw [z] at ij; cases ij
    |some y=>rw [z] at ij; simpa using ij
   have cV:=S.c.frees (x,.free) (lookup_mem pq) rfl;obtain⟨m0,hn0,Gp⟩:=I.loc;have F4:vc X.env.scope x:=by
    rcases cV with z | z
    ·exact .inr (.inl z)
    ·exact .inr (.inr z)
   obtain⟨u,r,l⟩:=Gp p x v Jp HH F4;refine⟨u,r,.inr ⟨.inr pq,?_⟩⟩;have hc:∃c,X.env.cells.lookup x=some c/\s.heap.IsCell c (some u):=by
    rcases l with ⟨z,_⟩ | ⟨_,c,hc,hv⟩
    ·rcases cV with y | y
     ·have y':X.env.kindOf x=some .cell:=y
      rw [y'] at z; cases z
     ·have y':X.env.kindOf x=some .free:=y
      rw [y'] at z; cases z
    ·exact⟨c,hc,hv⟩
   obtain⟨c,hc,hv⟩:=hc;obtain⟨c1,AF⟩:=xF (cells:=X.env.cells) scope.names [] (.inl (lookup_mem pq));have lY:=lk AF;rw [hc] at lY;cases lY;exact⟨c,AF,cellK x c _ hc hv⟩
 ·obtain⟨v,z⟩:=I.cell x c (lk hc)
  exact⟨v,cellK x c v (lk hc) z⟩
 ·obtain⟨v,o,ho,_⟩:=I.cell x c (lk hc)
  exact un.free c o ho (I.eO x c (lk hc)) (by simp)
 ·have:=S.c.len
  show (cU 0 fr σ).length=N.length;unfold cU;simp [this]
theorem aan {params:Arguments}{body:Expr}{fS:Value}{c':Addr}{u:HO}{k:Nat}{t:XK->TE}{Q:VK}(S:Jz X scope N fr)(I:Inv X pins σ H s)(un:Un (aE X.stack) [] H H2 s.heap s2.heap)(e0:iW X.prog X.w X.K X.mg X.base A outer s2 H2)(hr:bF (k+1) A)
  (hf:H2 f=some (.bq (lK q params body scope X.env.cells X.mg (.ref c') fS) u)) (hc:Se H2 c' q)
  (xr:∀fd:FuncData,fd.params=params->fd.defaults=.none->fd.kwdefaults=.none->bindArgs fd ⟨[],[]⟩=pure [])
  (gn:∀(f:Addr) (cv:Value) (A:Around) (outer:List Env) (s2:Shared) (H2:Hp) (E:XK),bF k (A.deeper (envX q scope s2.heap.objs.size f cv (d7 scope.names X.env.cells)))->Rz (e9 (aG X.prog X.w) X.prog X.w X.K X.mg X.base N q scope f cv (d7 scope.names X.env.cells) A outer s2 H2 E) E->
   PE (e9 (aG X.prog X.w) X.prog X.w X.K X.mg X.base N q scope f cv (d7 scope.names X.env.cells) A outer s2 H2 E) body (t E))
  (hq:t E (cU 0 fr σ) H2 Q) (F6:0<s2.toks) :
  codeAny (model X.prog X.w) A (.call (.ref f) ⟨[],[]⟩) (CR (aG X.prog X.w) outer X.prog X.w H2 s2 Q E) s2:=by
 obtain⟨hfo,_⟩:=e0.ar f _ hf;have GH:s2.heap.CodeRec (.ref c') q:=by
  obtain⟨oc,u',vs,t,z1,z2,z3⟩:=hc;obtain⟨z4,_⟩:=e0.ar c' _ z1;exact⟨c',oc,vs,t,rfl,z4,z2,z3⟩
 have lim:s2.heap.NoLimit:=e0.mod.nolimit.keeps fun b o e=>(e0.bs b o e).1;refine kla_callFunE hr.depth hfo rfl S.co S.gen rfl GH ?_;rw [xr _ rfl rfl rfl];refine wpAny_pure (wpAny_newFunctionEnv S.ML (fun x hx=>nomatch hx) (fun el ni Ov=>⟨lim.fresh _ Ov,?_⟩) S.c.kind);have abP:∀b o,s2.heap.get? b=some o->el.get? b=some o:=fun b o e=>Ov.extBut b o (bJ (aV e)) (aW _ e);have IL:=aaU (q:=q) (f:=f) (cv:=.ref c') (E:=E) (t1:=s2.toks+([]:List (Str×Value)).length) S I un e0 hr.hd ni abP (cB F6 (kf _ _));refine kla_codeExpr (aC (gn f (.ref c') A outer s2 H2 E (hr.deeper _) Wx [] _ _ _ Q IL hq) (fun v s' ⟨v',H',J,rv,hQ⟩=>?_));exact⟨v',H',J.os,J.bare,J.base,J.ar,rv,hQ⟩
end
noncomputable abbrev uX (cm:Bool)(CX:fU)(P:Program)(w:World)(K:ah)(mg:Str->Option Value)(base:Heap)(N:List Str)(qual:Str)(scope:Scope)(f:Addr)(cd:Value)(A:Around)(outer:List Env)(s:Shared)(H:Hp)(E:XK):Cx:=
 {cg CX P w K mg base N qual scope f cd A outer s H E with calm:=cm}
theorem aaS {cm:Bool}{CX:fU}{P:Program}{w:World}{K:ah}{mg:Str->Option Value}{base:Heap}{N ps:List Str}{qual:Str}{scope:Scope}{f:Addr}{cd:Value}{A:Around}{outer:List Env}{s s1:Shared}{H:Hp}{E:XK}{us:List Value}{vs:List V}
  (S:bA N ps scope) (hd:cm=true->A.handled=none) (e0:iW P w K mg base A outer s H) (hl:vs.length=ps.length) (r:Vals vs us)
  (x:InCallC s s.heap.objs.size (bindL (envOfC qual scope s.heap.objs.size f cd).kindOf (ps.zip us) fun _=>none) (cellsFrom (s.heap.objs.size+1) scope.names []) (bindC (envOfC qual scope s.heap.objs.size f cd).kindOf (ps.zip us) fun _=>none) s1) (kL:0<s1.toks) :
  Inv (uX cm CX P w K mg base N qual scope f cd A outer s H E) [] (start N vs) H s1:=by
 have dA:ps.length<=N.length:=by have:=congrArg List.length S.pre; rw [List.length_take] at this; omega
 obtain⟨h1,tk,rfl,hk⟩:=x.done;have kD:∀b:Addr,b∉(uX cm CX P w K mg base N qual scope f cd A outer s H E).ex:=fun b z=>absurd (show b∈([]:List Addr) from z) (by simp);refine⟨⟨e0.mod,S.kind,rfl,rfl,bc _,fun y z c h1 h2=>?_,fun y hy=>?_,fun y c _ h=>?_,hd,Cg e0.frames,.inr ⟨rfl,rfl⟩,fun b z=>absurd z (kD b),e0.bs,e0.iQ,fun b _ _=>kD b,fun b z=>absurd z (kD b),e0.en,e0.gq⟩,
  rfl,e0.bare,Un.kept hk,⟨_,x.toInCall.ns,fun i y v h1 h2 h3=>?_⟩,fun y c h=>⟨_,x.cell y c h⟩,e0.ar.fresh (bc _),fun y c h=>?_,fun p hp=>absurd (show p∈([]:List (Addr×Obj)) from hp) (by simp),e0.ar.kept hk,?_,kL⟩
 ·exact name_of_addr x.apart (jx h1) (jx h2)
 ·have hy:scope.names.lookup y=some .cell∨scope.names.lookup y=some .free:=hy
  rcases hy with hy | hy
  ·exact Bc hy
  ·exact absurd rfl (S.MK _ (jx hy))
 ·exact rX (x.above y c (jx h))
 ·have hi:i<vs.length:=by
   unfold start at h2
   by_cases hi:i<vs.length
   ·exact hi
   ·rw [rR (by simpa using hi)] at h2
    rw [Cm] at h2
    split at h2 <;> cases h2
  have ha:vs[i]?=some v:=by
   unfold start at h2;rw [rQ (by simpa using hi),jt] at h2
   cases e:vs[i]? with
   |none=>rw [e] at h2; cases h2
   |some a=>rw [e] at h2; cases h2; rfl
  obtain⟨u,hu,rv⟩:=r.get ha;have hp:ps[i]?=some y:=by
   rw [← S.pre,List.getElem?_take_of_lt (by omega)]; exact h1
  have wG:ps.Nodup:=by rw [← S.pre]; exact S.nd.sublist (List.take_sublist _ _)
  refine⟨u,rv,?_⟩;rcases S.par y (kg hp) with k | k
  ·exact .inl ⟨k,H0 wG hp hu k⟩
  ·obtain⟨c,e⟩:=Bc (n:=s.heap.objs.size+1) k
   refine .inr ⟨.inl k,c,e,?_⟩;have q:=x.cell y c e;rw [Ia wG hp hu (by show scope.names.lookup y≠_; rw [k]; decide)] at q;exact q
 ·exact e0.ar.fresh (rX (x.above y c (jx h)))
 ·unfold start
  show _=N.length;rw [jw,ef,vm];omega
theorem Px {cm:Bool}{CX:fU}{P:Program}{w:World}{K:ah}{mg:Str->Option Value}{base:Heap}{f:Addr}{name qual:Str}{params:Arguments}{body:List Stmt}{scope:Scope}{dV kV doc pm ax ct oc:Value}{an od:Option Addr}
  {hU:Array (Option Value)} {N ps:List Str} (lk:K.lookup f=some ⟨oc,od,.func (fI name qual params body scope dV kV doc pm an ax ct),hU⟩) (eM:nQ K ax qual=true) (S:bA N ps scope)
  {A:Around} {outer:List Env} {s:Shared} {H:Hp} {args:Args} {us:List Value} {vs:List V} {Q:VK} {E:XK} (OP:A.depth<recursionLimit) (hd:cm=true->A.handled=none) (e0:iW P w K mg base A outer s H) (qI:0<s.toks∨False) (hb:BindsTo s (fI name qual params body scope dV kV doc pm an ax ct) args (ps.zip us)) (r:Vals vs us) (hl:vs.length=ps.length)
  (gn:∃t,eP (uX cm CX P w K mg base N qual scope f ax A outer s H E) body t/\t {nx:=fun _ H'=>Q .aI H',rt:=Q} (start N vs) H) :
  codeAny (model P w) A (.call (.ref f) args) (CR CX outer P w H s Q E) s:=by
 have KX:K.In s.heap:=e0.mod.kE.keeps fun b o e=>(e0.bs b o e).1;have lim:s.heap.NoLimit:=e0.mod.nolimit.keeps fun b o e=>(e0.bs b o e).1;have ua:∀y∈ps.zip us,scope.names.lookup y.1=some .local∨(scope.names.lookup y.1=some .cell/\((cellsFrom (s.heap.objs.size+1) scope.names []).lookup y.1).isSome=true):=fun⟨n,v⟩ hy=>by
  rcases S.par n (vw hy).1 with q | q
  ·exact .inl q
  ·exact .inr ⟨q,vn _ _ _ (.inl q)⟩
 refine codeAny_call_function OP (KX _ _ lk) rfl S.co S.gen rfl (PySem.W.codeRec_of KX eM) (hb _ _ _ _ ?_);refine wpAny_with_toks (n:=1) (qI.resolve_right id) (wpAny_newFunctionEnv_cells S.kind ua fun env he s1 x kL=>?_);subst he;refine⟨lim.keeps x.toInCall.keep,codeAny_func ?_⟩;obtain⟨t,ht,hq⟩:=gn;have I:Inv (uX cm CX P w K mg base N qual scope f ax A outer s H E) [] (start N vs) H s1:=aaS S hd e0 hl r x kL;refine aC (ht [] s1 (start N vs) H _ I hq) fun fl s' hs=>?_;have fin:∀{aJ:St} {H':Hp} {v:V} {u:Value},Inv (uX cm CX P w K mg base N qual scope f ax A outer s H E) [] aJ H' s'->RelV v u->Q v H'->CE outer P w H s Q u s':=
  fun {aJ H' v u} J rv q=>⟨v,H',J.os,J.bare,J.base,J.ar,rv,q⟩
 cases fl with
 |ret u=>
  obtain⟨v,aJ,H',J,rv,q⟩:=hs;exact fin J rv q
 |next=>
  obtain⟨aJ,H',J,q⟩:=hs;exact fin (v:=V.aI) (u:=gu) J rfl q
 |brk=>
  obtain⟨_,_,_,q⟩:=hs;exact dq q
 |cont=>
  obtain⟨_,_,_,q⟩:=hs;exact dq q
structure rN (K:ah) (C c0 c1 c2 c3 c4 c5 c6 c7:Addr) (j:Nat):Prop where
 z:rM K C
 lt:j<8
 w0:kitOne K (.ref C) (.ref c0)=some (j==0)
 w1:kitOne K (.ref C) (.ref c1)=some (j==1)
 w2:kitOne K (.ref C) (.ref c2)=some (j==2)
 w3:kitOne K (.ref C) (.ref c3)=some (j==3)
 w4:kitOne K (.ref C) (.ref c4)=some (j==4)
 w5:kitOne K (.ref C) (.ref c5)=some (j==5)
 w6:kitOne K (.ref C) (.ref c6)=some (j==6)
 w7:kitOne K (.ref C) (.ref c7)=some (j==7)
 ve:kitOne K (.ref C) (.type "ValueError")=some true
noncomputable def vH (j:Nat):List Nat:=[[99,108,97,115,104],[110,111,32,98,97,99,107],[110,111,32,110,97,109,101],[110,111,32,116,101,120,116],[110,111,32,116,105,99,107],[110,111,32,119,97,118,101],[116,111,111,32,108,111,110,103],[117,110,108,105,107,101]].getD j []
theorem Tj (c:Nat):(gy c).length<=8:=by
 unfold gy
 match c with
 |0=>decide
 |1=>decide
 |2=>decide
 |3=>decide
 |4=>decide
 |5=>decide
 |6=>decide
 |7=>decide
 |n+8=>simp
noncomputable def Sf (P:Program)(w:World)(K:ah)(mg:Str->Option Value)(base:Heap)(c0 c1 c2 c3 c4 c5 c6 c7:Addr):Prop:=
 ∃fc:Addr,mg "_law_class" = some (.ref fc)/\keepIn K (.ref fc)=true/\∀(A:Around) (outer:List Env) (s:Shared) (H:Hp) (a C:Addr) (j:Nat) (Q:VK),A.depth+8<recursionLimit->A.units+200<cLine->iW P w K mg base A outer s H->0<s.toks->H a=some (um C a)->rN K C c0 c1 c2 c3 c4 c5 c6 c7 j->
  (∀H',aw H H'->Q (S (vH j)) H')->codeAny (model P w) A (.call (.ref fc) ⟨[.ref a],[]⟩) (CR CX0 outer P w H s Q E0) s
noncomputable def Tld {γ:Type}(cs:List Nat)(H:Hp)(P:γ->Prop)(Q:VK):M γ->Prop
 |.ok r=>P r
 |.ex c=>c∈cs/\∀H',aw H H'->Q (S (gy c)) H'
 |.bad=>False
noncomputable def Jt (P:Program)(w:World)(K:ah)(mg:Str->Option Value)(base:Heap)(cls:Nat->Addr)(cs:List Nat)(k:Nat):Prop:=
 ∃f:Addr,mg "_law_told" = some (.ref f)/\keepIn K (.ref f)=true/\∀(A:Around) (outer:List Env) (s:Shared) (H:Hp) (g:Addr) (o:Obj) (u:HO) (γ:Type) (m:M γ) (R:γ->VK->Prop) (Q:VK) (E:XK),bF (k+2) A->iW P w K mg base A outer s H->0<s.toks->H g=some (.bq o u)->(∃fd,o.data=.func fd)->
  (∀(A':Around) (EF:List Env) (s2:Shared) (Q':VK) (E':XK),bF (k+1) A'->iW P w K mg base A' EF s2 H->0<s2.toks->Un (aE outer) [] H H s.heap s2.heap->Rg cls E' m H (fun r=>R r Q')->codeAny (model P w) A' (.call (.ref g) ⟨[],[]⟩) (CR (aG P w) EF P w H s2 Q' E') s2)->
  Tld cs H (fun r=>R r Q) Q m->codeAny (model P w) A (.call (.ref f) ⟨[.ref g],[]⟩) (CR (aG P w) outer P w H s Q E) s
section
variable {P:Program}{w:World}{K:ah}{mg:Str->Option Value}{base:Heap}{cls:Nat->Addr}
theorem Uk {x e T:Str}{st:Stmt}{cs:List Nat}{k:Nat}{CT c0 c1 c2 c3 c4 c5 c6 c7:Addr}{p1 p2 p3 p4 p5 p6 p7 p8 p9 XU:Pos}(FT:cF K mg "_law_told" st [x])(S:bA [x,e] [x] (az st))
  (gn:di st=[.Try [.Return (some (.Call (.Name x p1) [] [] p2)) p3] [.ExceptHandler (some (.Name T p4)) (some e) [.Return (some (.Call (.Name "_law_class" p5) [.Name e p6] [] p7)) p8] p9] [] [] XU])
  (lx:(az st).names.lookup x=some .local) (le:(az st).names.lookup e=some .local) (gT:(az st).names.lookup T=some .globalImplicit) (gC:(az st).names.lookup ("_law_class" : Str)=some .globalImplicit)
  (hmT:mg T=some (.ref CT)) (HC:Sf P w K mg base c0 c1 c2 c3 c4 c5 c6 c7)
  (hw:∀c∈cs,∃j,rN K (cls c) c0 c1 c2 c3 c4 c5 c6 c7 j/\vH j=gy c/\exmOne K (.ref (cls c)) (.ref CT)=some true)
  (dx:(x==("__debug__" : Str))=false:=by decide) (ddx:(x==("__classdict__" : Str))=false:=by decide) (de:(e==("__debug__" : Str))=false:=by decide) (dde:(e==("__classdict__" : Str))=false:=by decide) (dT:(T==("__debug__" : Str))=false:=by decide) :
  Jt P w K mg base cls cs k:=by
 obtain⟨f,fd,F,hm,hb⟩:=FT;obtain⟨fc,hmC,kC,runC⟩:=HC;refine⟨f,hm,F.kp,fun A outer s H g o u γ m R Q E hr e0 qI hg ho run hq=>?_⟩;obtain⟨oc,od,kV,doc,pm,an,ax,ct,hU,rfl,lk,eM⟩:=F.ex;have KX:K.In s.heap:=e0.mod.kE.keeps fun b o e=>(e0.bs b o e).1;refine Px (cm:=true) (N:=[x,e]) (ps:=[x]) (us:=[.ref g]) (vs:=[.ref g]) lk eM S hr.depth (fun _=>hr.hd) e0 (.inl qI) (hb s [.ref g] KX rfl) (.cons rfl .nil) rfl ?_;rw [gn];generalize hX:uX true (aG P w) P w K mg base [x,e] "_law_told" (az st) f ax A outer s H E=X
 have eA:X.A=A.deeper (envOfC "_law_told" (az st) s.heap.objs.size f ax):=by rw [← hX]; rfl
 have PD:∀pn W E',Passes (aG P w) (X.jR pn W) E'->PE (X.jR pn W) (.Call (.Name x p1) [] [] p2) (fun σ H2 Q'=>σ[0]?=some (some (.ref g))/\H2=H/\Rg cls E' m H (fun r=>R r Q')):=by
  subst hX;intro pn W E' hp pins s1 σ H2 Q' I ⟨h1,h2,h3⟩;subst h2;refine wpAny_Call_Name_kw (aC (Ex (X:=Cx.jR _ pn W) (i:=0) rfl (.inl lx) dx ddx pins s1 σ H2 (fun v H'=>v=.ref g/\H'=H2) I ⟨_,h1,rfl,rfl⟩) fun v s2 ⟨v',H',I2,rv,z1,z2⟩=>?_);subst z1 z2;cases rv;obtain⟨hgo,_⟩:=I2.ar g _ hg;obtain⟨fd',OM⟩:=ho;have hF:FnAt g s2.heap:=by
   obtain⟨oc',od',da',dQ⟩:=o
   simp only at OM
   subst OM;exact⟨_,_,_,_,hgo⟩
  refine callWith_F0 hF (wpAny_call (codeAny_mono (run _ _ s2 Q' E' (hr.deeper _) I2.xC I2.tk I2.base h3) fun r s' hq=>?_))
  cases r with
  |error e=>exact hp pins σ _ s2 e s' I2 hq
  |ok fl=>
   cases fl with
   |ret u=>exact I2.after hq
   |next=>exact dq hq
   |brk=>exact dq hq
   |cont=>exact dq hq
 have PC:∀pn ea,PE (X.qD pn ea) (.Call (.Name "_law_class" p5) [.Name e p6] [] p7) (fun σ H2 Q'=>∃a C j,σ[1]?=some (some (.ref a))/\H2 a=some (um C a)/\rN K C c0 c1 c2 c3 c4 c5 c6 c7 j/\∀H',aw H2 H'->Q' (L2.S (vH j)) H'):=by
  subst hX;intro pn ea pins s1 σ H2 Q' I ⟨a,C,j,h1,h2,h3,h4⟩;refine wpAny_Call_Name_kw (tV I (show _ from gC) hmC ?_ (by decide));refine yA (h₀:=base) I.ok.mod.kE kC (aC ((bh _ _ _ _ _ rfl (Ex (X:=Cx.qD _ pn ea) (i:=1) rfl (.inl le) de dde) cL) p7 pins s1 σ H2 (fun vs H'=>vs=[.ref a]/\H'=H2) I ⟨_,h1,rfl,rfl⟩) fun us s2 ⟨vs,H',I2,r,z1,z2⟩=>⟨I2.eL,?_⟩) rfl rfl;subst z1 z2;obtain⟨u',rfl,ru⟩:=r.one;cases ru;have h8:(A.deeper (envOfC "_law_told" (az st) s.heap.objs.size f ax)).depth+8<recursionLimit:=by have:=(hr.deeper (envOfC "_law_told" (az st) s.heap.objs.size f ax)).dp; omega
  have h9:(A.deeper (envOfC "_law_told" (az st) s.heap.objs.size f ax)).units+200<cLine:=by have:=(hr.deeper (envOfC "_law_told" (az st) s.heap.objs.size f ax)).un; omega
  refine wpAny_call (codeAny_mono (runC _ _ s2 _ a C j Q' h8 h9 I2.xC I2.tk h2 h3 h4) fun r s' hq=>?_)
  cases r with
  |error e=>exact dq hq
  |ok fl=>
   cases fl with
   |ret u=>exact I2.after hq
   |next=>exact dq hq
   |brk=>exact dq hq
   |cont=>exact dq hq
 refine⟨_,gP (Xd (X:=X) (iN:=1) (CT:=CT) (tb:=fun E'=>n9 fun σ H2 Q'=>σ[0]?=some (some (.ref g))/\H2=H/\Rg cls E' m H (fun r=>R r Q')) (by rw [← hX]) (by rw [← hX]; exact⟨rfl,rfl⟩) (by rw [← hX]; rfl) (by rw [← hX]; exact S.nd) (by rw [← hX]; rfl) (by rw [← hX]; exact le) (by rw [← hX]; exact gT) (by rw [← hX]; exact hmT) (fun pn W E' hp=>gP (i9 (PD pn W E' (by rw [← hX] at hp ⊢; exact hp)))) (fun pn ea=>gP (i9 (PC pn ea))) dT),?_⟩;have eK:X.K=K:=by rw [← hX]; rfl
 refine⟨rfl,rfl,?_⟩
 cases m with
 |ok d=>exact hq
 |bad=>exact hq
 |ex c=>
  obtain⟨GG,q'⟩:=hq;obtain⟨j,w1,w2,w3⟩:=hw c GG;intro H' s';intro ea C' ec gj;cases ec;rw [eK];refine⟨w3,?_⟩;refine⟨_,_,j,rfl,aU,w1,fun H'' gc=>?_⟩;rw [w2];exact q' _ ((s'.trans (aw.upd gj)).trans gc)
end
theorem Rh (fd:FuncData)(h1:fd.params={posonlyargs:=[],args:=[],vararg:=none,kwonlyargs:=[],kw_defaults:=[],kwarg:=none,defaults:=[]})(h2:fd.defaults=.none)(h3:fd.kwdefaults=.none):bindArgs fd ⟨[],[]⟩=pure []:=by
 obtain⟨_,_,_,_,_,_,_,_,_,_,_,_,_,_⟩:=fd
 simp only at h1 h2 h3
 subst h1 h2 h3;rfl
noncomputable abbrev iS:=List (Addr×Addr×Str)
noncomputable def km (tabs:iS)(b:Addr):Option HO:=(tabs.find? fun t=>t.2.1==b).map fun t=>.du t.2.2
theorem KN:∀{tabs:iS},tabs.Pairwise (fun x y=>x.2.1≠y.2.1)->∀t∈tabs,km tabs t.2.1=some (.du t.2.2)
 |t::r,h,u,hu=>by
  rw [List.pairwise_cons] at h;unfold km;rw [il];rcases ba.mp hu with rfl | hu
  ·simp
  ·have bN:(t.2.1==u.2.1)=false:=by simpa using h.1 u hu
   rw [bN];exact KN h.2 u hu
theorem y4 {tabs:iS}{b:Addr}{u:HO}(h:km tabs b=some u):∃t∈tabs,t.2.1=b/\u=.du t.2.2:=by
 unfold km at h;obtain⟨t,h1,h2⟩:=iZ.mp h;exact⟨t,List.mem_of_find?_eq_some h1,by simpa using List.find?_some h1,h2.symm⟩
theorem aal {P:Program}{w:World}{K:ah}{mg mb:Str->Option Value}{CX:fU}{k:Nat}{fa a:Addr}{fd:FuncData}{x:Str}{sp:Sp}{aT:Shared}{vs:List Value}{ns:List Int}{tabs:iS}
  (KX:K.In aT.heap) (ni:aT.heap.Ns mainGlobals mg) (hb:aT.heap.Ns builtinsNs mb) (hbb:∀x:Str,x≠"__name__" ->mb x=bootBuiltins x) (abO:aT.heap.NoLimit) (hg:aT.gens=#[])
  (ha:aT.heap.get? a=some {cls:=.type "list",data:=.seq vs.toArray}) (hi:IntsAre vs ns) (hl:ns.length<=sizeLine) (hr:bF k callerA)
  (xh:tabs.Pairwise (fun x y=>x.2.1≠y.2.1)) (hT:∀t∈tabs,CodeHd aT.heap t.1 t.2.1/\aT.heap.get? t.2.1=some (tabObj #[])) (xu:noTabs K=true)
  (hbm:∃bm ob,mg "__builtins__" = some (.ref bm)/\bm≠builtinsNs/\aT.heap.get? bm=some ob/\ob.cls=.type "module" /\ob.dict=some builtinsNs/\ob.data=.plain)
  (F:∀base:Heap,K.In base->base.Ns mainGlobals mg->(∀t∈tabs,pz mg base t.1 t.2.1)->cS P w K mg base CX k fa fd [x] sp) (xr:∀(s:Shared) (u:Value),BindsTo s fd ⟨[u],[]⟩ [(x,u)])
  (oS:∀H:Hp,(∀t∈tabs,H t.2.1=some (.du t.2.2))->bP K H a (ns.map V.int)->sp [.ref a] H (fun v _=>v=.bl true) fun _ _ _=>False)
  (GW:∀H e s',CX [] H aT (fun _ _ _=>False) e s'->False) (hx:x=dz:=by rfl) :
  codeAny (model P w) callerA (.call (.ref fa) ⟨[.ref a],[]⟩) (fun r s'=>r=.ok (.ret (.bool true))/\OldK aT.heap s'.heap/\s'.os=aT.os/\AllBare s'.gens) aT:=by
 have rv:=Kh hi;have aaf:=hi.length;have Nb:∀t∈tabs,t.2.1≠a:=fun t ht z=>by
  have e:=(hT t ht).2;rw [z,ha] at e;cases e
 have core:∀H:Hp,(∀b,H b=km tabs b∨(b=a/\∃o xs,H b=some (.bq o (.lst xs))))->bP K H a (ns.map V.int)->cq P w H aT.heap->(H a≠none->K.lookup a=none)->
   codeAny (model P w) callerA (.call (.ref fa) ⟨[.ref a],[]⟩) (fun r s'=>r=.ok (.ret (.bool true))/\OldK aT.heap s'.heap/\s'.os=aT.os/\AllBare s'.gens) aT:=by
  intro H hO hS ar hK;have Bk:∀{b:Addr} {o:Obj},aT.heap.get? b=some o->H b=none->(lS aT.heap H).get? b=some o:=fun e n=>abV e n;have tabAt:∀t∈tabs,H t.2.1=some (.du t.2.2):=fun t ht=>by
   rcases hO t.2.1 with z | ⟨z,_⟩
   ·rw [z]; exact KN xh t ht
   ·exact absurd z (Nb t ht)
  have kinds:∀b o,aT.heap.get? b=some o->H b≠none->b=a∨o=tabObj #[]:=fun b o e n=>by
   rcases hO b with z | ⟨z,_⟩
   ·cases q:km tabs b with
    |none=>rw [z,q] at n; exact absurd rfl n
    |some u=>
     obtain⟨t,ht,h1,_⟩:=y4 q;have e2:=(hT t ht).2;rw [h1,e] at e2;exact .inr (gZ e2)
   ·exact .inl z
  have free:∀b o,aT.heap.get? b=some o->o.cls≠.type "list" ->o≠tabObj #[]->H b=none:=fun b o e n1 n2=>by
   cases q:H b with
   |none=>rfl
   |some u=>
    rcases kinds b o e (by rw [q]; simp) with z | z
    ·subst z
     rw [ha] at e; cases e;exact absurd rfl n1
    ·exact absurd z n2
  have ac8:∀b o es ep,aT.heap.get? b=some o->o.data=.dict es ep->H b=none:=fun b o es ep e d=>by
   cases q:H b with
   |none=>rfl
   |some u=>
    rcases kinds b o e (by rw [q]; simp) with z | z
    ·subst z
     rw [ha] at e; cases e;have d':Data.seq vs.toArray _=Data.dict es ep:=d;cases d'
    ·rw [z] at d
     cases d
  have zS:∀{b:Addr} {m:Str->Option Value},aT.heap.Ns b m->(lS aT.heap H).Ns b m:=fun {b m} ⟨o,es,ep,e,d,r⟩=>⟨o,es,ep,Bk e (ac8 b o es ep e d),d,r⟩
  have O6:K.In (lS aT.heap H):=fun b o e=>Bk (KX b o e) (by
   cases q:H b with
   |none=>rfl
   |some u=>
    rcases kinds b o (KX b o e) (by rw [q]; simp) with z | z
    ·subst z
     rw [hK (by rw [q]; simp)] at e; cases e
    ·have h2:=dO.mp xu (b,o) (mem_of_lookupK e)
     rw [z] at h2;exact absurd (show false=true from h2) fo)
  have hM:Mod K mg (lS aT.heap H):=⟨O6,zS ni,⟨mb,zS hb,hbb⟩,let ⟨mc,h1,h2⟩:=abO; ⟨mc,zS h1,h2⟩⟩
  have GP:∀t∈tabs,pz mg (lS aT.heap H) t.1 t.2.1:=fun t ht=>by
   obtain⟨⟨o,TH,file,tf,flags,tg,inF,text,tt,e1,c1,r⟩,_⟩:=hT t ht;obtain⟨bm,ob,b1,b2,b3,b4,b5⟩:=hbm;exact⟨⟨o,TH,file,tf,flags,tg,inF,text,tt,Bk e1 (free _ _ e1 (by rw [c1]; intro z; injection z with z; exact absurd z (by decide)) (by intro z; rw [z] at c1; cases c1)),c1,r⟩,bm,ob,b1,b2,Bk b3 (free _ _ b3 (by rw [b4]; intro z; injection z with z; exact absurd z (by decide)) (by intro z; rw [z] at b4; cases b4)),b4,b5⟩
  have e0:iW P w K mg (lS aT.heap H) callerA [] aT H:=⟨rfl,hM,fun b o e=>Y1 e,Nat.le_of_eq (abU _ _),trivial,fun b hb=>absurd (show b∈([]:List Addr) from hb) (by simp),ar,.of_eq hg⟩
  refine codeAny_mono ((F _ O6 (zS ni) GP).run callerA [] aT H ⟨[.ref a],[]⟩ [.ref a] [.ref a] _ _ hr e0 (.inr (by rw [hx])) (xr aT (.ref a)) (.cons rfl .nil) (oS H tabAt hS)) fun r s' h=>?_
  cases r with
  |error e=>exact(GW H e s' h).elim
  |ok fl=>
   cases fl with
   |next=>exact dq h
   |brk=>exact dq h
   |cont=>exact dq h
   |ret u=>
    obtain⟨v,H',os,bare,un,OC,r',q⟩:=h;have q':v=.bl true:=q;subst q';obtain rfl:u=Value.bool true:=r';refine⟨rfl,⟨fun b o e=>?_,fun b o e=>un.there b o e (by simp)⟩,os,bare⟩
    cases q:H b with
    |none=>exact .inl (un.keep b o e q (by intro z; exact absurd (show b∈([]:List Addr) from z) (by simp)) (by simp))
    |some u=>
     rcases hO b with z | ⟨_,ob,xs,z⟩
     ·rw [q] at z
      obtain⟨t,ht,h1,h2⟩:=y4 z.symm;subst h1 h2;have z2:=un.dH _ _ q;obtain⟨ps,hP,_⟩:=OC _ _ z2;have e2:=(hT t ht).2;rw [e] at e2;cases e2;exact .inr (.inl ⟨((hT t ht).1.tab (hT t ht).2).isCodeTable,rfl,#[],ps,rfl,by rw [Array.empty_append]; exact hP⟩)
     ·have z2:=un.d6 b ob _ z
      obtain⟨e1,_⟩:=ar b _ z;obtain⟨e2,_⟩:=OC b _ z2;rw [e] at e1; cases e1;exact .inl e2
 have Mv:∀(H:Hp) b u,km tabs b=some u->c8 P w H aT.heap b u:=fun H b u z=>by
  obtain⟨t,ht,h1,h2⟩:=y4 z;subst h1 h2;exact⟨#[],(hT t ht).2,trivial,fun pos cv z=>by cases z⟩
 cases hk:K.lookup a with
 |some o=>
  have e:=KX a o hk;rw [ha] at e;cases e;have hna:km tabs a=none:=by
   cases q:km tabs a with
   |none=>rfl
   |some u=>
    obtain⟨t,ht,h1,_⟩:=y4 q;exact absurd h1 (Nb t ht)
  refine core (km tabs) (fun _=>.inl rfl) (.inr ⟨_,vs.toArray,_,hk,rfl,rfl,rfl,by rw [gx,aaf]; exact hl,by simpa using rv⟩) (fun b u z=>Mv _ b u z) fun z=>absurd hna z
 |none=>
  refine core (fun b=>if b=a then some (.bq {cls:=.type "list",data:=.seq vs.toArray} (.lst (ns.map V.int))) else km tabs b) (fun b=>?_) (.inl (.inr ⟨{cls:=.type "list",data:=.seq vs.toArray},if_pos rfl⟩)) (fun b u z=>?_) fun _=>hk
  ·by_cases hb:b=a
   ·exact .inr ⟨hb,_,_,if_pos hb⟩
   ·exact .inl (if_neg hb)
  ·by_cases hb:b=a
   ·have z':=(if_pos hb).symm.trans z
    cases z';subst hb;exact⟨ha,by rw [ef]; exact hl,vs,_,rv,ha⟩
   ·have z':=(if_neg hb).symm.trans z
    exact Mv _ b u z'
theorem TC {l:PySem.W.OpenLaw}{n k:Nat}{q:Program}{loose:List Str}{XP:(Str->Option Value)->Heap->Prop}{YP:World->Heap->Prop}{d:DefRec}{K:Params->ah}{CX:World->fU}{sp:World->Sp}{x:Str}{tabs:iS}
  (hn:l.most=some n) (xi:n<=sizeLine) (xo:d.params.defaults=[]) (hr:bF k callerA)
  (hY:∀(w:World) (h:Heap),YP w h->(K w.params).In h)
  (xh:tabs.Pairwise (fun x y=>x.2.1≠y.2.1)) (xu:∀w:World,noTabs (K w.params)=true)
  (hT:∀(w:World) (lz:List Str) (z0:ExcName->Option Value) (mg mb:Str->Option Value) (h:Heap),(K w.params).In h->Top q lz z0 mg mb h->∀t∈tabs,CodeHd h t.1 t.2.1/\h.get? t.2.1=some (tabObj #[]))
  (F:∀(w:World) (mg:Str->Option Value) (fa:Addr) (h:Heap),(K w.params).In h->h.Ns mainGlobals mg->mg d.name=some (.ref fa)->
   ∃fd:FuncData,(∀(s:Shared) (u:Value),BindsTo s fd ⟨[u],[]⟩ [(x,u)])/\
    ∀base:Heap,(K w.params).In base->base.Ns mainGlobals mg->(∀t∈tabs,pz mg base t.1 t.2.1)->cS l.prog w (K w.params) mg base (CX w) k fa fd [x] (sp w))
  (oS:∀(w:World) (H:Hp) (a:Addr) (ns:List Int),ns.length<=n->(∀t∈tabs,H t.2.1=some (.du t.2.2))->bP (K w.params) H a (ns.map V.int)->sp w [.ref a] H (fun v _=>v=.bl true) fun _ _ _=>False)
  (GW:∀(w:World) (H:Hp) (s:Shared) (e:Value) (s':Shared),CX w [] H s (fun _ _ _=>False) e s'->False) (hx:x=dz:=by rfl) :
  PySem.W.WalkO q loose XP YP l.row.toRowW d [] (fun f vs=>PySem.call f vs):=by
 refine Sj.afz hn xo fun w aH aT mg mb fa o pm cd doc a vs ns G Y ho hd eM xj Gg hints hlen hg=>?_;have KX:=hY w _ Y;obtain⟨fd,hb,hF⟩:=F w mg fa _ KX G.T.g xj;exact aal KX G.T.g G.T.b G.T.builtins G.T.nolimit hg Gg hints (c9 hlen xi) hr xh (hT w _ _ mg mb _ KX G.T) (xu w) G.T.bmain hF hb (fun H hO hS=>oS w H a ns hlen hO hS) (fun H e s'=>GW w H aT e s') hx
noncomputable def Lk (K:ah)(cls:Nat->Addr)(tabs:iS)(F:List Dt->M Dt):Sp:=fun vs H Q E=>(∀t∈tabs,H t.2.1=some (.du t.2.2))/\pZ K cls F vs H Q E
noncomputable def vY (K:ah)(tabs:iS):Sp:=fun vs H Q E=>(∀t∈tabs,H t.2.1=some (.du t.2.2))/\Vp K vs H Q E
section
variable {P:Program}{w:World}{K:ah}{mg:Str->Option Value}{base:Heap}{cls:Nat->Addr}
theorem adb {x qual:Str}{st:Stmt}{f:Addr}{fd:FuncData}{N ps:List Str}{k np n:Nat}{b:SM}{tabs:iS}(F:fG K x qual st f fd)(S:bA N ps (az st))(hp:ps.length=np)(hn:N.length=np+n)
  (gn:∀(ax:Value) (A:Around) (outer:List Env) (s:Shared) (H:Hp) (E:XK),ax=fd.code->(∀t∈tabs,H t.2.1=some (.du t.2.2))->bF k (A.deeper (envOfC qual (az st) s.heap.objs.size f ax))->
   Rz (cg (aG P w) P w K mg base N qual (az st) f ax A outer s H E) E->Bv (cg (aG P w) P w K mg base N qual (az st) f ax A outer s H E) cls E (di st) b) (hf:ps=[dz]->(az st).names.lookup dz=some .local:=by first | assumption | decide +kernel) :
  cS P w K mg base (aG P w) (k+1) f fd ps (Lk K cls tabs (cI np n b)):=by
 have len:∀vs H Q E,pZ K cls (cI np n b) vs H Q E->vs.length=np:=fun vs H Q E h_=>by
  obtain⟨A,ds,L,r,z,q⟩:=h_;unfold cI at q
  split at q
  ·rename_i hl
   rw [← r.length];exact hl
  ·exact(show False from q).elim
 obtain⟨oc,od,kV,doc,pm,an,ax,ct,hU,rfl,lk,eM⟩:=F.ex;refine Hn lk eM S hf (fun vs H Q E h=>by rw [hp]; exact len vs H Q E h.2) fun A outer s H vs Q E hr h=>?_;obtain⟨ht,h⟩:=h;have hv:=len vs H Q E h;refine⟨_,gn ax A outer s H E rfl ht hr D7,?_⟩;obtain⟨B,ds,L,r,z,q⟩:=h;refine⟨H,B,ds.map Bd.val++a7 n .no,⟨[],.refl _,L,(fun a z=>nomatch z),?_⟩,?_⟩
 ·have e:start N vs=vs.map some++a7 n none:=by
   unfold start;rw [hn,hv,vp]
  rw [e];exact Hm L r z n
 ·unfold cI at q
  split at q
  ·cases hm:b (ds.map Bd.val++a7 n .no) with
   |ok fl=>
    rw [hm] at q
    cases fl with
    |nx ρ=>exact fun σ H' ⟨os,s',_,_,_⟩=>q .aI H' s' zp trivial
    |rt d=>exact fun v H' s' r' z'=>q v H' s' r' z'
    |bk ρ=>exact(show False from q).elim
    |ct ρ=>exact(show False from q).elim
   |ex c=>rw [hm] at q; exact q
   |bad=>rw [hm] at q; exact q
  ·exact(show False from q).elim
theorem aak {f:Addr}{fd:FuncData}{k:Nat}{x:Str}{G:List Dt->M Dt}{tabs:iS}(h:cS P w K mg base (aG P w) k f fd [x] (Lk K cls tabs G))(hG:∀ns:List Int,ns.length<=63->G [.lst (ns.map Dt.int)]=.ok (.bl true)):cS P w K mg base (aG P w) k f fd [x] (vY K tabs):=by
 refine h.imp ?_;intro vs H Q E ⟨ht,a,ns,e,hS,q⟩;subst e;refine⟨ht,[],[.lst (ns.map Dt.int)],(fun a z=>nomatch z),.cons (WK ?_) .nil,⟨⟨by simpa using (show ns.length<=10000 by have:=hS.2; omega),mS fun d hd=>?_⟩,trivial⟩,?_⟩
 ·have e:ao H []=H:=by funext b; unfold ao; simp
  rw [e];exact hS.1
 ·obtain⟨n,_,rfl⟩:=df.mp hd
  trivial
 ·rw [hG ns hS.2]
  intro v H' _ r _;simp only [Rep] at r;rw [r];exact q H'
end
noncomputable def FH (K:ah)(f:Str)(st:Stmt):Prop:=∃(a:Addr) (oc:Value) (od an:Option Addr) (sl:Array (Option Value)) (kV dc pm cd ct:Value),cQ K mainGlobals f=some (some (.ref a))/\
 K.lookup a=some ⟨oc,od,.func (fI f f (fR st) (di st) (az st) .none kV dc pm an cd ct),sl⟩/\nQ K cd f=true/\lj K (.ref a)=true
theorem FH.mk {K:ah}{f:Str}{st:Stmt}{a:Addr}{oc:Value}{od an:Option Addr}{sl:Array (Option Value)}{kV dc pm cd ct:Value}(h1:cQ K mainGlobals f=some (some (.ref a)))
  (h2:K.lookup a=some ⟨oc,od,.func (fI f f (fR st) (di st) (az st) .none kV dc pm an cd ct),sl⟩) (h3:nQ K cd f=true) (h4:lj K (.ref a)=true):FH K f st:=⟨a,oc,od,an,sl,kV,dc,pm,cd,ct,h1,h2,h3,h4⟩
theorem FH.fn {K:ah}{h:Heap}{mg:Str->Option Value}{f:Str}{st:Stmt}{ps:List Str}(H:FH K f st)(X:K.In h)(G:h.Ns mainGlobals mg)
  (hb:∀(kV dc pm:Value) (an:Option Addr) (cd ct:Value) (us:List Value),us.length=ps.length->bindArgs (fI f f (fR st) (di st) (az st) .none kV dc pm an cd ct) ⟨us,[]⟩=pure (ps.zip us)):cF K mg f st ps:=by
 obtain⟨a,oc,od,an,sl,kV,dc,pm,cd,ct,h1,h2,h3,h4⟩:=H;exact⟨a,_,l6 (st:=st) h2 h3 h4,eR X G h1,.all fun us hl=>hb kV dc pm an cd ct us hl⟩
theorem Fj {α:Type}:∀{n:Nat}{us:List α},us.length=n+1->∃a r,us=a::r/\r.length=n
 |n,a::r,h=>⟨a,r,rfl,by simpa using h⟩
theorem Nu {α:Type}{us:List α}(h:us.length=1):∃u0,us=[u0]:=List.length_eq_one_iff.mp h
theorem FH.rl {K:ah}{h:Heap}{mg:Str->Option Value}{f p0:Str}{st:Stmt}(H:FH K f st)(X:K.In h)(G:h.Ns mainGlobals mg)
  (hb:∀(kV dc pm:Value) (an:Option Addr) (cd ct u0:Value),bindArgs (fI f f (fR st) (di st) (az st) .none kV dc pm an cd ct) ⟨[u0],[]⟩=pure ([p0].zip [u0])):cF K mg f st [p0]:=H.fn X G fun kV dc pm an cd ct us hl=>by
 obtain⟨u0,rfl⟩:=Nu hl;exact hb ..
theorem Nt {α:Type}{us:List α}(h:us.length=2):∃u0 u1,us=[u0,u1]:=by
 obtain⟨u0,r,rfl,h1⟩:=Fj h;obtain⟨u1,rfl⟩:=Nu h1;exact⟨u0,u1,rfl⟩
theorem FH.jg {K:ah}{h:Heap}{mg:Str->Option Value}{f p0 p1:Str}{st:Stmt}(H:FH K f st)(X:K.In h)(G:h.Ns mainGlobals mg)
  (hb:∀(kV dc pm:Value) (an:Option Addr) (cd ct u0 u1:Value),bindArgs (fI f f (fR st) (di st) (az st) .none kV dc pm an cd ct) ⟨[u0,u1],[]⟩=pure ([p0,p1].zip [u0,u1])):cF K mg f st [p0,p1]:=H.fn X G fun kV dc pm an cd ct us hl=>by
 obtain⟨u0,u1,rfl⟩:=Nt hl;exact hb ..
theorem Nr {α:Type}{us:List α}(h:us.length=3):∃u0 u1 u2,us=[u0,u1,u2]:=by
 obtain⟨u0,r,rfl,h1⟩:=Fj h;obtain⟨u1,u2,rfl⟩:=Nt h1;exact⟨u0,u1,u2,rfl⟩
theorem FH.Ho {K:ah}{h:Heap}{mg:Str->Option Value}{f p0 p1 p2:Str}{st:Stmt}(H:FH K f st)(X:K.In h)(G:h.Ns mainGlobals mg)
  (hb:∀(kV dc pm:Value) (an:Option Addr) (cd ct u0 u1 u2:Value),bindArgs (fI f f (fR st) (di st) (az st) .none kV dc pm an cd ct) ⟨[u0,u1,u2],[]⟩=pure ([p0,p1,p2].zip [u0,u1,u2])):cF K mg f st [p0,p1,p2]:=H.fn X G fun kV dc pm an cd ct us hl=>by
 obtain⟨u0,u1,u2,rfl⟩:=Nr hl;exact hb ..
theorem aah {α:Type}{us:List α}(h:us.length=4):∃u0 u1 u2 u3,us=[u0,u1,u2,u3]:=by
 obtain⟨u0,r,rfl,h1⟩:=Fj h;obtain⟨u1,u2,u3,rfl⟩:=Nr h1;exact⟨u0,u1,u2,u3,rfl⟩
theorem FH.Py {K:ah}{h:Heap}{mg:Str->Option Value}{f p0 p1 p2 p3:Str}{st:Stmt}(H:FH K f st)(X:K.In h)(G:h.Ns mainGlobals mg)
  (hb:∀(kV dc pm:Value) (an:Option Addr) (cd ct u0 u1 u2 u3:Value),bindArgs (fI f f (fR st) (di st) (az st) .none kV dc pm an cd ct) ⟨[u0,u1,u2,u3],[]⟩=pure ([p0,p1,p2,p3].zip [u0,u1,u2,u3])):cF K mg f st [p0,p1,p2,p3]:=H.fn X G fun kV dc pm an cd ct us hl=>by
 obtain⟨u0,u1,u2,u3,rfl⟩:=aah hl;exact hb ..
section
variable {P:Program}{w:World}{K:ah}{mg:Str->Option Value}{base:Heap}{cls:Nat->Addr}
noncomputable abbrev Cq (P:Program)(w:World)(K:ah)(mg:Str->Option Value)(base:Heap)(cls:Nat->Addr)(k:Nat)(x:Str)(ps:List Str)(F:List Dt->M Dt):Prop:=rO P w K mg base (aG P w) k x ps (pZ K cls F)
theorem rO.of {x:Str}{st:Stmt}{N ps:List Str}{k np n:Nat}{b:SM}(t:cF K mg x st ps)(S:bA N ps (az st))(hp:ps.length=np)(hn:N.length=np+n)
  (gn:∀(f:Addr) (ax:Value) (A:Around) (outer:List Env) (s:Shared) (H:Hp) (E:XK),bF k (A.deeper (envOfC x (az st) s.heap.objs.size f ax))->
   Rz (cg (aG P w) P w K mg base N x (az st) f ax A outer s H E) E->Bv (cg (aG P w) P w K mg base N x (az st) f ax A outer s H E) cls E (di st) b) (hf:ps=[dz]->(az st).names.lookup dz=some .local:=by first | assumption | decide +kernel) :
  Cq P w K mg base cls (k+1) x ps (cI np n b):=by
 obtain⟨f,fd,F,hm,hb⟩:=t;exact⟨f,fd,ade F S hp hn (gn f) hf,hm,F.kp,hb⟩
end
noncomputable abbrev Kt (l:List Nat):Key:=.inr ⟨l.toArray⟩
theorem tW {a b:List Nat}:(Kt a=Kt b)↔a=b:=by
 constructor
 ·intro h
  injection h with h;injection h with h;simpa using congrArg iY h
 ·intro h; rw [h]
theorem Nv (a b:List Nat):decide (Kt a=Kt b)=(a==b):=by
 rw [ke];simp only [decide_eq_true_eq,beq_iff_eq];exact tW
theorem CS (l:List Nat):∀kvs:aq,fY (a9 kvs) (Kt l)=(ay kvs l).map S
 | []=>rfl
 |p::r=>by
  have ih:=CS l r;unfold a9 ay;rw [bG,il]
  by_cases h:p.1=l
  ·rw [yR (tW.mpr h)]
   simp [h]
  ·rw [yS (fun z=>h (tW.mp z))]
   have:(p.1==l)=false:=by simpa using h
   rw [this];exact ih
theorem Qv (kvs:aq)(k v:List Nat):putK (a9 kvs) (Kt k) (S v)=a9 (dh kvs k v):=by
 unfold putK dh a9;have e:((kvs.map fun p=>(Kt p.1,S p.2)).any fun kv=>decide (kv.1=Kt k))=kvs.any fun p=>p.1==k:=by
  rw [List.any_map]
  congr 1
  funext p
  exact Nv p.1 k
 rw [e]
 split
 ·rw [my,my]
  congr 1
  funext p
  simp only [Function.comp]
  by_cases h:p.1=k
  ·rw [if_pos (tW.mpr h)]; simp [h]
  ·rw [if_neg (fun z=>h (tW.mp z))]; simp [h]
 ·rw [vx]; rfl
theorem ad1 (kvs:aq)(k:List Nat):rD (a9 kvs) (Kt k)=a9 (cw kvs k):=by
 unfold rD cw a9;rw [List.filter_map]
 congr 1
 congr 1
 funext p
 simp only [Function.comp];have:=Nv p.1 k
 by_cases h:p.1=k
 ·simp [h]
 ·have h':¬ Kt p.1=Kt k:=fun z=>h (tW.mp z)
  simp only [ne_eq,h',not_false_eq_true,decide_true];simp [h]
theorem HK (kvs:aq):(a9 kvs).length=kvs.length:=by simp [a9]
theorem wL {kvs:aq}{l v:List Nat}(h:ay kvs l=some v):∃p∈kvs,p.1=l/\p.2=v:=by
 unfold ay at h;rw [iZ] at h;obtain⟨p,h1,h2⟩:=h;exact⟨p,List.mem_of_find?_eq_some h1,by simpa using List.find?_some h1,h2⟩
theorem Vq {kvs:aq}{l v:List Nat}(z:sm (.aj kvs))(h:ay kvs l=some v):sm (.str v):=by
 obtain⟨p,h1,_,rfl⟩:=wL h;exact(z.2 p h1).2
theorem vZ {kvs:aq}{k v:List Nat}(z:sm (.aj kvs))(hk:sm (.str k))(hv:sm (.str v))(hl:kvs.length<10000):sm (.aj (dh kvs k v)):=by
 unfold dh
 split
 ·refine⟨by rw [ef]; exact z.1,fun p hp=>?_⟩
  obtain⟨q,hq,rfl⟩:=df.mp hp;have:=z.2 q hq
  split
  ·exact⟨this.1,hv⟩
  ·exact this
 ·refine⟨by rw [jw]; exact hl,fun p hp=>?_⟩
  rcases eC.mp hp with h | h
  ·exact z.2 p h
  ·have:p=(k,v):=by simpa using h
   subst this;exact⟨hk,hv⟩
theorem Dy {kvs:aq}{k:List Nat}(z:sm (.aj kvs)):sm (.aj (cw kvs k)):=
 ⟨c9 (nZ _ _) z.1,fun p hp=>z.2 p (jr.mp hp).1⟩
section
variable {X:Cx}{cls:Nat->Addr}{E:XK}{a b c o e:Expr}{f g h:aa->M Dt}{pos p:Pos}{rest:List Stmt}{s:SM}
theorem tL {K:ah}{H:Hp}{A:List Addr}{kvs:aq}{v:V}(r:Rep K (ao H A) (.aj kvs) v):∃a o,v=.ref a/\a∉A/\H a=some (.bq o (.dK (a9 kvs))):=by
 simp only [Rep] at r;obtain⟨a,ks,rfl,rfl,o,h⟩:=r;obtain⟨h1,h2⟩:=dX h;exact⟨a,o,rfl,h1,h2⟩
theorem HN {H:Hp}{a:Addr}{ob:Obj}{kvs:aq}{l:List Nat}(h:H a=some (.bq ob (.dK (a9 kvs)))):iX H a (S l) ((ay kvs l).map S):=.inl ⟨a9 kvs,Kt l,.inr ⟨ob,h⟩,rfl,(CS l kvs).symm⟩
theorem o8 (hu:X.A.units+50<cLine)(ha:Ev X cls E a f)(hb:Ev X cls E b g)(hs:Jx b):Ev X cls E (.Subscript a b pos) (p2 fO f g):=by
 refine(XF (by omega) ha hb hs).imp (t2 (r:=fun x y H Q=>∃a v,x=.ref a/\iX H a y (some v)/\Q v H) fun A H Q d1 d2 x y L r1 r2 z1 z2 q=>?_)
 cases d1 with
 |aj kvs=>
  cases d2 with
  |str l=>
   obtain⟨p,ob,rfl,hp,hH⟩:=tL r1;simp only [fO,nE] at q
   split at q
   ·rename_i v hv
    refine⟨p,S v,rfl,?_,q _ H (.refl _) mU (Vq z1 hv)⟩;have:=HN (l:=l) hH;rw [hv] at this;rw [cK r2];exact this
   ·exact(show False from q).elim
  |_=>exact(show False from q).elim
 |_=>exact(show False from q).elim
theorem Yj (hu:X.A.units+50<cLine):cb X (compareOp .In) (fun y x H Q=>∃a o,x=.ref a/\iX H a y o/\Q (.bl o.isSome) H):=by
 intro pins s σ H y x v u Q I ry rx h;obtain⟨a,ov,rfl,gd,q⟩:=h;obtain rfl:u=bI a:=rx;exact aey (by omega) I gd ry fun s3 I3=>fun _=>⟨.bl ov.isSome,H,I3,rfl,q⟩
theorem X9 (hu:X.A.units+50<cLine):cb X (compareOp .NotIn) (fun y x H Q=>∃a o,x=.ref a/\iX H a y o/\Q (.bl (!o.isSome)) H):=by
 intro pins s σ H y x v u Q I ry rx h;obtain⟨a,ov,rfl,gd,q⟩:=h;obtain rfl:u=bI a:=rx;exact aex (by omega) I gd ry fun s3 I3=>fun _=>⟨.bl (!ov.isSome),H,I3,rfl,q⟩
theorem EL (hu:X.A.units+50<cLine):ez X cls E (compareOp .In) wz:=by
 refine⟨_,Yj hu,fun A H Q d1 d2 x y L r1 r2 z1 z2 q=>?_⟩
 cases d1 with
 |str l=>
  cases d2 with
  |aj kvs=>
   obtain⟨p,ob,rfl,hp,hH⟩:=tL r2;refine⟨p,(ay kvs l).map S,rfl,by rw [cK r1]; exact HN hH,?_⟩;rw [vB];exact q _ H (.refl _) eJ trivial
  |_=>exact(show False from q).elim
 |_=>exact(show False from q).elim
theorem Mw (hu:X.A.units+50<cLine):ez X cls E (compareOp .NotIn) wu:=by
 refine⟨_,X9 hu,fun A H Q d1 d2 x y L r1 r2 z1 z2 q=>?_⟩
 cases d1 with
 |str l=>
  cases d2 with
  |aj kvs=>
   obtain⟨p,ob,rfl,hp,hH⟩:=tL r2;refine⟨p,(ay kvs l).map S,rfl,by rw [cK r1]; exact HN hH,?_⟩;rw [vB];exact q _ H (.refl _) eJ trivial
  |_=>exact(show False from q).elim
 |_=>exact(show False from q).elim
theorem cx.freshD {K:ah}{Hin:Hp}{A₀ os:List Addr}{ρ:aa}{σ:St}{H:Hp}{i:Nat}{ds:aq}{p:Addr}(S:cx K Hin A₀ os ρ σ H)(hp:H p=none)(z:sm (.aj ds)) :
  cx K Hin A₀ (p::os) (ρ.set i (.bT ds)) (σ.set i (some (.ref p))) (upd H p (.dK (a9 ds))):=S.anew hp rfl fun B s=>⟨p,rfl,aU,z⟩
theorem cx.Pk {K:ah}{Hin:Hp}{A₀ os:List Addr}{ρ:aa}{σ:St}{H:Hp}{i:Nat}{ds ns:aq}{p:Addr}(S:cx K Hin A₀ os ρ σ H)(hi:ρ[i]?=some (.bT ds))(hp:σ[i]?=some (some (.ref p)))
  (z:sm (.aj ns)):cx K Hin A₀ os (ρ.set i (.bT ns)) σ (upd H p (.dK (a9 ns))):=S.turn hi hp rfl rfl rfl fun e=>⟨p,rfl,aU,z⟩
theorem ac7 {pins:List (Addr×Obj)}{σ:St}{H:Hp}{s':Shared}{p:Addr}{kvs:List (Key×V)}(I:Inv X pins σ (upd H p (.dK kvs)) s'):∃ob,Inv X pins σ (upd H p (.bq ob (.dK kvs))) s':=by
 obtain⟨ob,I'⟩:=I.freeze aU;rw [TM] at I';exact⟨ob,I'⟩
theorem Q9:fi X (.type "dict") (fun xs H Q=>∃a kvs,xs=[V.ref a]/\Rd H a (.dK kvs)/\∀p,H p=none->Q (.ref p) (upd H p (.dK kvs))):=by
 intro pins s σ H xs us Q I r h;obtain⟨a,kvs,rfl,hd,q⟩:=h;obtain⟨u,rfl,ru⟩:=vals1 r;obtain rfl:u=bI a:=ru;exact aeB I hd fun p s' hp I'=>fun _=>⟨.ref p,_,I',rfl,q p hp⟩
theorem boot_dict:bootBuiltins "dict" = some (.type "dict"):=by decide +kernel
theorem Qe:Ev X cls E (.Dict [] [] pos) oF:=fun pins s σ H Q I ⟨O,A,ρ,F,q⟩=>by
 refine wpAny_mono (Me (X:=X) pins s σ H (fun v H'=>∃p,v=.ref p/\H p=none/\H'=upd H p (.dK [])) I fun p hp=>⟨p,rfl,hp,rfl⟩) (fun u s1 hz ht=>?_) fun _ _ x=>x;obtain⟨v,H',I',rv,p,rfl,hp,rfl⟩:=hz ht;obtain⟨ob,I2⟩:=ac7 I';exact⟨.ref p,_,I2,rv,q _ _ (.upd hp) (Ed (kvs:=[]) (o:=ob) (nt F.bD hp)) ⟨by simp,fun _ z=>nomatch z⟩⟩
theorem Lc {i:Nat}{x:Str}{pos' dp cp:Pos}(hN:X.N.Nodup)(hi:X.N[i]?=some x)(hx:Loc X.env.scope x)(hg:Gl X "dict")(hm:X.mg "dict" = none)(he:Ev X cls E a f)(bj:isStar a=false)
  (hs:swapsWith (.Call (.Name "dict" dp) [a] [] cp) (some (.Name x pos')) pos.line X.env=pure false:=by rfl)
  (hf:X.fn x=true∨X.env.scope.names.lookup x=some .local:=by first | exact .inl rfl | exact .inr rfl | assumption):Sv X cls E (.Assign [.Name x pos'] (.Call (.Name "dict" dp) [a] [] cp) pos) (wa i f):=
 (qj hN hi hx (zG Q9 hg hm boot_dict (@bh _ _ _ _ _ bj he cL) (by decide) (by decide) (jG bj) rfl) hs hf).imp fun D σ H ⟨Hin,A₀,ρ,⟨os,S⟩,q⟩=>by
 have F:=S.2.2.2;refine⟨os,os++A₀,ρ,F,ky S.1 q fun d v H' _ q1 s' r z=>?_⟩
 cases d with
 |aj kvs=>
  obtain⟨p,ob,rfl,hp,hH⟩:=tL r;exact⟨p,a9 kvs,rfl,.inr ⟨ob,hH⟩,fun p' dJ=>q1 _ _ ⟨p'::os,(S.mono s').freshD dJ z⟩⟩
 |_=>exact(show False from q1).elim
theorem Dk {i:Nat}{x:Str}{np pos':Pos}(hu:X.A.units+50<cLine)(hv:PE X (.Name x np) (eE i))(hk:Ev X cls E b g)(he:Ev X cls E a f)
  (hs:swapsWith a (some (.Subscript (.Name x np) b pos')) pos.line X.env=pure false:=by rfl):Sv X cls E (.Assign [.Subscript (.Name x np) b pos'] a pos) (tI i g f):=
 (Xh (by omega) hv hk he hs).imp fun D σ H ⟨Hin,A₀,ρ,⟨os,S⟩,q⟩=>by
 unfold tI A6 at q
 split at q
 ·rename_i kvs hi
  have F:=S.2.2.2;refine⟨os,os++A₀,ρ,F,ky S.1 q fun d v H' _ q1 s' r z=>?_⟩
  cases d with
  |str l=>
   have S':=S.mono s';have F':=S'.2.2.2;obtain⟨p,h1,h2,h3,h4⟩:=F'.bT i kvs hi;refine⟨.ref p,h1,os,os++A₀,ρ,F',ky S'.1 q1 fun d2 v2 H2 _ q2 s2 r2 z2=>?_⟩
   cases d2 with
   |str k=>
    simp only [uR] at q2
    split at q2
    ·rename_i hl
     refine⟨p,_,rfl,.inl ⟨a9 kvs,Kt k,s2 _ _ h3,cK r2,by rw [HK]; exact cB hl (by decide),rfl⟩,q2 _ _ ⟨os,?_⟩⟩;rw [cK r,Qv];exact(S'.mono s2).Pk hi h1 (vZ h4 z2 z hl)
    ·exact(show False from q2).elim
   |_=>exact(show False from q2).elim
  |_=>exact(show False from q1).elim
 ·exact(show False from q).elim
theorem Va {i:Nat}{x:Str}{np apos bW:Pos}(hv:PE X (.Name x np) (eE i))(hk:Ev X cls E b g)(m:M1 X (.Name x np) "pop" apos b bW)
  (hs:swapsWith (.Call (.Attribute (.Name x np) "pop" apos) [b] [] bW) none pos.line X.env=pure false:=by rfl):Sv X cls E (.Expr (.Call (.Attribute (.Name x np) "pop" apos) [b] [] bW) pos) (zi i g):=
 (oz (XC hv hk m) hs).imp fun D σ H ⟨Hin,A₀,ρ,⟨os,S⟩,q⟩=>by
 unfold zi zy at q
 split at q
 ·rename_i kvs hi
  have F:=S.2.2.2;obtain⟨p,h1,h2,h3,h4⟩:=F.bT i kvs hi;refine⟨.ref p,h1,p,rfl,.inl ⟨_,.inl h3⟩,os,os++A₀,ρ,F,ky S.1 q fun d2 v2 H2 _ q2 s2 r2 z2=>?_⟩
  cases d2 with
  |str k=>
   simp only [zC] at q2
   split at q2
   ·rename_i hl
    obtain⟨w,hw⟩:=i0.mp hl;refine⟨a9 kvs,Kt k,L2.S w,s2 _ _ h3,cK r2,by rw [CS,hw]; rfl,q2 _ _ ⟨os,?_⟩⟩;rw [ad1];exact(S.mono s2).Pk hi h1 (Dy h4)
   ·exact(show False from q2).elim
  |_=>exact(show False from q2).elim
 ·exact(show False from q).elim
end
noncomputable def JD (d:Addr)(ob:Obj)(u:HO)(xs:List V):It:=
 ⟨fun i H=>H d=some (.bq ob u)/\i<xs.length,fun i H x H'=>H'=H/\xs[i]?=some x,fun i H=>H d=some (.bq ob u)/\xs.length<=i⟩
theorem QA {P:Program}{w:World}{H:Hp}{h:Heap}{d:Addr}{ob:Obj}{kvs:List (Key×V)}(ok:cq P w H h)(e:H d=some (.bq ob (.dK kvs))) :
  ∃es ep,ob.data=.dict es ep/\(d==sysModules)=false/\h.get? d=some ob/\kvs.length<=sizeLine/\∃vs,KV kvs vs/\h.DictAt (cZ P w) d vs ep:=by
 obtain⟨g,z,na,vs,r,o,es,ep,g',x,dt,k,p,n⟩:=ok d _ e;rw [g] at g';cases g';exact⟨es,ep,dt,na,g,z,vs,r,ob,es,g,x,dt,k,p,n⟩
theorem Qz {P:Program}{w:World}{H:Hp}{h:Heap}{d:Addr}{ob:Obj}{kvs:List (Key×V)}{es0:Array DictEntry}{ep:Nat}(hd:ob.data=.dict es0 ep)(ok:cq P w H h)(e:H d=some (.bq ob (.dK kvs))) :
  ∃vs,KV kvs vs/\h.DictAt (cZ P w) d vs ep:=by
 obtain⟨es,A2,h1,_,_,_,vs,r,a⟩:=QA ok e;rw [hd] at h1;cases h1;exact⟨vs,r,a⟩
theorem aaP {P:Program}{w:World}{k:Key}{u:Value}(h:(cZ P w).is k u=true):RelV (kV k) u:=by
 rcases kF (k:=k) (v:=u) h with ⟨i,t,rfl,rfl⟩ | ⟨x,t,rfl,rfl⟩
 ·exact⟨t,rfl⟩
 ·exact⟨t,rfl⟩
theorem KV.at {kvs:List (Key×V)}{vs:List (Key×Value)}(r:KV kvs vs):∀{i:Nat}{p:Key×V},kvs[i]?=some p->∃q,vs[i]?=some q/\p.1=q.1/\RelV p.2 q.2:=by
 unfold KV at r
 induction r with
 |nil=>intro i p e; simp at e
 |cons h t ih=>
  intro i p e
  cases i with
  |zero=>simp at e; subst e; exact⟨_,by simp,h.1,h.2⟩
  |succ i=>obtain⟨q,h1,h2⟩:=ih (i:=i) (p:=p) (by simpa using e); exact⟨q,by simpa using h1,h2⟩
theorem Ue {P:Program}{w:World}{K:ah}{tg:Expr}(d it:Addr)(ob:Obj)(kvs:List (Key×V))(es:Array DictEntry)(ep:Nat)(hd:ob.data=.dict es ep) :
  Turn P w K tg (JD d ob (.dK kvs) (kvs.map fun p=>kV p.1)) [it] it (fun i h=>h.IsKeyIter it d i kvs.length ep) where
 mem:=by simp
 obj:=fun i h st b hb=>by
  have e:b=it:=by simpa using hb
  subst e;obtain⟨o,e,c,dd⟩:=st;exact⟨o,e,fun v z=>by rw [dd] at z; cases z⟩
 keep:=fun i h h' st k=>st.at fun o e=>k it (by simp) o e
 item:=by
  intro X hP hw hK hc i pins s σ H E I hf st hg;subst hP hw hK;obtain⟨hH,hi⟩:=hg;rw [ef] at hi;obtain⟨vs,r,da⟩:=Qz hd I.ar hH;obtain⟨q,hq,h1,h2⟩:=r.at (i:=i) (p:=kvs[i]) (by simp [hi]);obtain⟨f0,f1,f2,f3,f4,f5⟩:=hf it (by simp);have hl:=KV.length r;rw [hl] at st;refine wpAny_pyNext_dict_item (k:=q.1) (v:=q.2) st da (by rw [hq]) fun key h' Gr gH sb=>?_;have I1:Inv X pins σ H {s with heap:=h'}:=I.turned (t':=s.toks) (fun b o hb e=>(sb.2 b hb).trans e) f0 f1 f3 f4 f5;obtain⟨o,e,c,dd⟩:=id gH;refine(fun ht=>⟨key,rfl,xw (s:={s with heap:=h'}) e c dd (by decide) (fun ht=>⟨kV kvs[i].1,H,I1,?_,⟨rfl,by simp [hi]⟩,by rw [hl]; exact gH,fun b hb=>(hf b hb).1⟩)⟩);rw [h1];exact aaP Gr
 done:=by
  intro X hP hw hK hc i pins s σ H E I hf st hg;subst hP hw hK;obtain⟨hH,hi⟩:=hg;rw [ef] at hi;obtain⟨vs,r,da⟩:=Qz hd I.ar hH;obtain⟨f0,f1,f2,f3,f4,f5⟩:=hf it (by simp);have hl:=KV.length r;rw [hl] at st hi;exact wpAny_pyNext_dict_end (I.ok.hd hc) st da (by simp [hi]) fun h' eb=>(fun ht=>⟨rfl,I.turned (t':=s.toks) (fun b o hb e=>eb b o hb e) f0 f1 f3 f4 f5⟩)
 self:=fun _ _ _ _ _ st h=>wpAny_pyIter_keyiter st h
section
variable {X:Cx}{cls:Nat->Addr}{E:XK}{a b c o e tg:Expr}{f g h:aa->M Dt}{pos p apos:Pos}
theorem aaO {K:ah}{A:List Addr}{d:Addr}{ob:Obj}{u:HO}{ds:List Dt}{xs:List V}{H1:Hp}(hd:ao H1 A d=some (.bq ob u))(h2:av K (ao H1 A) ds xs)(z:bC ds)(zl:ds.length<=10000):mn K A (JD d ob u xs) ds H1:=by
 have hl:=h2.length;refine⟨fun i H hi s=>⟨s _ _ hd,by omega⟩,fun H s=>⟨s _ _ hd,by omega⟩,fun i H x H' A' hi L s y=>?_,z,zl⟩;obtain⟨rfl,hx⟩:=y;obtain⟨d',oZ,rd⟩:=h2.get hx;exact⟨.refl _,d',oZ,rd.mono s⟩
theorem LD {K:ah}{H:Hp}:∀kvs:aq,av K H (lL kvs) ((a9 kvs).map fun p=>kV p.1)
 | []=>.nil
 |p::r=>.cons mU (LD r)
theorem Vs {kvs:aq}(z:sm (.aj kvs)):bC (lL kvs):=mS fun d hd=>by
 obtain⟨p,hp,rfl⟩:=df.mp hd;exact(z.2 p hp).1
theorem abT {H:Hp}{A:List Addr}{d:Addr}{u:HO}(h:H d=some u)(hA:d∉A):ao H A d=some u:=by rw [cf hA]; exact h
theorem FL (he:Ev X cls E e f):Iv X cls E tg e (kI f):=by
 intro pins s σ H R I ⟨O,A,ρ,F,q⟩;refine aC (he pins s σ H (fun x H1=>∃d ob kvs,x=.ref d/\H1 d=some (.bq ob (.dK (a9 kvs)))/\R (JD d ob (.dK (a9 kvs)) ((a9 kvs).map fun p=>kV p.1)) H1) I ⟨O,A,ρ,F,Rg.bind q fun d _ q1=>?_⟩) fun v s1 hz=>?_
 ·intro v H1 s1 r1 z1
  cases d with
  |aj kvs=>
   obtain⟨p,ob,rfl,hp,hH⟩:=tL r1;exact⟨p,ob,kvs,rfl,hH,q1 _ H1 s1 (aaO (abT hH hp) (LD kvs) (Vs z1) (by simp [lL]; exact z1.1))⟩
  |_=>exact(show False from q1).elim
 ·obtain⟨x,H1,I1,r1,d,ob,kvs,rfl,hH,q1⟩:=hz
  obtain rfl:v=bI d:=r1;obtain⟨es,ep,ab9,na,g0,_,vs,r,da⟩:=QA I1.ar hH;refine fun _=>wpAny_pyIter_dict na da fun _=>?_;refine⟨s1.heap.objs.size,[s1.heap.objs.size],_,_,H1,rfl,I1.kept (t':=s1.toks) fun b o e=>aW _ e,Ue d _ ob (a9 kvs) es ep ab9,?_,fun b hb=>?_,q1⟩
  ·rw [KV.length r]
   exact⟨_,cN _ rfl,rfl,rfl⟩
  ·have e:b=s1.heap.objs.size:=by simpa using hb
   subst e;exact I1.o5 (bc _) (I1.ar.fresh (bc _))
end
end L2
namespace L2
open PySem PySem.Spec PyProof.Rows
open Sem (wp)
theorem Z6:typeLookup (.type "list") "keys" = pure none:=by rw [typeLookup_type,builtinLookup_eq_fast]; kernel_rfl
theorem Z7:typeLookup (.type "list") "__getattr__" = pure none:=by rw [typeLookup_type,builtinLookup_eq_fast]; kernel_rfl
theorem Dp:isSubtype (.type "AttributeError") (.type "AttributeError")=pure true:=by rw [isSubtype_type]; kernel_rfl
section
variable {prog:Program}{w:World}{A:Around}{E:Value->Shared->Prop}{s:Shared}
theorem Zk {e:Addr}{vs:Array Value}{o nm:Value}{Q:Unit->Shared->Prop}(he:s.heap.get? e=some {cls:=.type "AttributeError",data:=.fields vs})(h6:vs[6]?=some (rawInt 0))(h7:vs[7]?=some (rawInt 0))
  (q:∀h',(∀b,b≠e->h'.get? b=s.heap.get? b)->(∃oe,h'.get? e=some oe/\oe.cls=.type "AttributeError")->Q () {s with heap:=h'}):wpAny (model prog w) A (noteAttr (.ref e) o nm) Q E s:=by
 have hT:s.TypeIs (.ref e) "AttributeError" := ⟨_,he,rfl⟩
 unfold noteAttr;refine wpAny_bind ?_;unfold lacksNameAndObj;refine wpAny_bind (wpAny_isInstance hT Dp ?_);simp only [rZ,cT,if_false];refine wpAny_bind (wpAny_load he ?_);simp only [h6,h7,rawInt];rw [if_neg (by decide),if_neg (by decide)];refine wpAny_pure ?_;rw [if_pos rfl];refine wpAny_bind (wpAny_rule (wpAny_bind (wpAny_typeOf hT ?_)));unfold layMembers;refine wpAny_bind (wpAny_load he (wpAny_update he (q _ (fun b hb=>Heap.get?_update_ne _ _ _ _ hb) ?_)));exact⟨_,yJ _ he rfl,rfl⟩
theorem WS {α:Type}{o:Value}{nm msg:Str}{Q:α->Shared->Prop}(hh:A.handled=none)(hm:msg.length<=sizeLine)
  (q:∀h' t' e oe,(∀b ob,s.heap.get? b=some ob->h'.get? b=some ob)->h'.get? e=some oe->oe.cls=.type "AttributeError" ->E (.ref e) {s with heap:=h',toks:=t'}) :
  wpAny (model prog w) A (raiseAttrError o nm msg:Sem α) Q E s:=by
 unfold raiseAttrError;refine wpAny_bind (wpAny_mkStr (wpAny_bind ?_) hm);unfold newExc newTuple;refine wpAny_bind (wpAny_newObj_type ?_);refine wpAny_bind (m:=firstArgMember _ _) (wpAny_of_eq (a:=gu) (by kernel_rfl) ?_);refine wpAny_newObj_type (wpAny_bind (wpAny_mkText (wpAny_bind (Zk (cN _ rfl) rfl rfl fun h' k ⟨oe,h1,h2⟩=>wpAny_raiseNew_none hh (q _ _ _ oe (fun b ob hb=>?_) h1 h2)))));have h3:(s.heap.push {cls:=.type "tuple",data:=.seq #[.str msg s.toks]}).get? b=some ob:=aW _ hb
 have h4:=aW {cls:=.type "AttributeError",data:=.fields (#[.ref s.heap.objs.size,.none,.none,.none,.bool false,.none]++ownMembersOf (.type "AttributeError") [.str msg s.toks])} h3
 refine(k b ?_).trans h4;exact bJ (aV h3)
end
section
variable {prog:Program}{w:World}{A:Around}{E:Value->Shared->Prop}{h:Heap}{g:Array GenState}{d:Drawn}{t:Nat}{os:OsState}{a:Addr}{items:Array Value}{n:Nat}{sl:Array (Option Value)}
theorem aas {tk:Tok}{Q:Fin->Shared->Prop}(hh:A.handled=none)(hx:h.get? a=some {cls:=.type "list",data:=.seq items n,slots:=sl})
  (q:∀h' t' e oe,(∀b ob,h.get? b=some ob->h'.get? b=some ob)->h'.get? e=some oe->oe.cls=.type "AttributeError" ->E (.ref e) ⟨h',g,d,t',os⟩) :
  wpAny (model prog w) A (Builtin.«object.__getattribute__» ⟨[.ref a,.str "keys" tk],[]⟩) Q E ⟨h,g,d,t,os⟩:=by
 have hT:(⟨h,g,d,t,os⟩:Shared).TypeIs (.ref a) "list" := ⟨_,hx,rfl⟩
 have f4:=Z6
 repeat (any_goals (first | assumption | wp_step))
 all_goals exact WS hh (by decide +kernel) q
theorem aat {tk:Tok}{R:Result->Shared->Prop}(hh:A.handled=none)(hx:h.get? a=some {cls:=.type "list",data:=.seq items n,slots:=sl})
  (q:∀h' t' e oe,(∀b ob,h.get? b=some ob->h'.get? b=some ob)->h'.get? e=some oe->oe.cls=.type "AttributeError" ->R (.error (.ref e)) ⟨h',g,d,t',os⟩) :
  codeAny (model prog w) A (.call (.builtin "list.__getattribute__") ⟨[.ref a,.str "keys" tk],[]⟩) R ⟨h,g,d,t,os⟩:=
 codeAny_call_builtin yO.plain F.entry_list_ga (yO.check _ _ _ _ _ _ _ _ (show (⟨h,g,d,t,os⟩:Shared).TypeIs (.ref a) "list" from⟨_,hx,rfl⟩) (F.args_list_getattribute_2 _ _) (aas (by simpa using hh) hx q))
theorem aau {tk:Tok}{Q:Value->Shared->Prop}(hh:A.handled=none)(hx:h.get? a=some {cls:=.type "list",data:=.seq items n,slots:=sl})
  (q:∀h' t' e oe,(∀b ob,h.get? b=some ob->h'.get? b=some ob)->h'.get? e=some oe->oe.cls=.type "AttributeError" ->E (.ref e) ⟨h',g,d,t',os⟩):wpAny (model prog w) A (getAttrBy (.ref a) (.str "keys" tk) false) Q E ⟨h,g,d,t,os⟩:=by
 have hT:(⟨h,g,d,t,os⟩:Shared).TypeIs (.ref a) "list" := ⟨_,hx,rfl⟩
 have f2:=yO.lookup;have f3:=yO.bind (.ref a)
 repeat (any_goals (first | assumption | wp_step))
 refine aat hh hx fun h' t' e oe k he hc=>?_;show wpAny _ _ (getattributeRaised _ _ _ _ _ _ _) _ _ _;unfold getattributeRaised;have O0:(⟨h',g,d,t',os⟩:Shared).TypeIs (.ref e) "AttributeError" := ⟨_,he,hc⟩
 have f6:=Dp;have f7:=Z7
 repeat (any_goals (first | assumption | wp_step))
 exact q h' t' e oe k he hc
theorem aar {Q:Option Value->Shared->Prop}(hh:A.handled=none)(hx:h.get? a=some {cls:=.type "list",data:=.seq items n,slots:=sl})
  (q:∀h' t',(∀b ob,h.get? b=some ob->h'.get? b=some ob)->Q none ⟨h',g,d,t',os⟩):wpAny (model prog w) A (getAttr? (.ref a) "keys") Q E ⟨h,g,d,t,os⟩:=by
 unfold getAttr? getAttrBy?;refine wpAny_bind (wpAny_mkText (wpAny_bind (wpAny_attempt (aau hh hx fun h' t' e oe k he hc=>?_))));have O0:(⟨h',g,d,t',os⟩:Shared).TypeIs (.ref e) "AttributeError" := ⟨_,he,hc⟩
 refine wpAny_bind (wpAny_isInstance O0 Dp ?_);rw [if_pos rfl];exact wpAny_pure (q h' t' k)
end
end L2
namespace L2
open PySem PySem.Spec PyProof.Rows
theorem Qs:entryFor table "dict.update.loop" = some Builtin.«dict.update.loop» := entryFor_of_tree (by kernel_rfl)
theorem A5:plainId "dict.update.loop" = true:=by decide +kernel
theorem Vj {K:Type}[DecidableEq K](kvs:List (K×Value))(k:K)(v:Value):(stored kvs k v).length<=kvs.length+1:=by
 unfold stored
 split
 ·simp
 ·simp
noncomputable def Jw (prog:Program)(w:World)(h:Heap)(v:Value)(r:Key×Value):Prop:=∃T k,v=.ref T/\h.IsTuple T #[k,r.2]/\(cZ prog w).is r.1 k=true
section
variable {prog:Program}{w:World}{A:Around}{E:Value->Shared->Prop}{s:Shared}
theorem pair_items {T:Addr}{k x:Value}{Q:List Value->Shared->Prop}(ht:s.heap.IsTuple T #[k,x])(q:Q [k,x] s):wpAny (model prog w) A (Builtin.Dict.pairItems (.ref T)) Q E s:=by
 obtain⟨o,ho,hc,n,hd⟩:=ht;unfold Builtin.Dict.pairItems;refine wpAny_bind (wpAny_typeOf (show s.TypeIs (.ref T) "tuple" from⟨o,ho,hc⟩) ?_)
 rw [if_pos (by decide)];exact wpAny_bind (wpAny_seqItems ho hd (wpAny_pure q))
theorem TN {R:Result->Shared->Prop}{l it D:Addr}{items:Array Value}{rs:List (Key×Value)}(hh:A.handled=none)(GR:D≠it)(hDl:D≠l)(OG:l≠it)(hn:rs.length=items.size)(hz:rs.length<=10000) :
  ∀(m i:Nat) (s:Shared) (acc:List (Key×Value)),items.size - i=m->i<=items.size->s.heap.IsListIter it l i->s.heap.IsList l items->s.heap.DictOf (cZ prog w) D acc->acc.length<=i->
   (∀(j:Nat) v,items[j]?=some v->∃r,rs[j]?=some r/\Jw prog w s.heap v r/\v≠.ref it/\v≠.ref D)->
   (∀h' tk,h'.DictOf (cZ prog w) D (merged acc (rs.drop i))->(∀b o,b≠it->b≠D->s.heap.get? b=some o->h'.get? b=some o)->R (.ok (.ret .none)) {s with heap:=h',toks:=tk})->
   codeAny (model prog w) A (.builtin "dict.update.loop" ⟨[.ref D,.ref it,rawInt i,.none],[]⟩) R s:=by
 intro m
 induction m with
 |zero=>
  intro i s acc hm hi st hl hD ha hp q;obtain rfl:i=items.size:=by omega
  refine codeAny_builtin Qs ?_;rw [yG A5 _];show wpAny _ A.in1 (pyNext (.ref it) >>= _) _ _ s;refine wpAny_bind (wpAny_pyNext_list_end (by simp [hh]) st hl (by simp) fun h' eb=>?_);rw [← hn,vy] at q;refine wpAny_bind (wpAny_pure (wpAny_pure (q h' s.toks ?_ fun b o hb _ e=>eb b o hb e)));obtain⟨o,es,ep,ho,rr⟩:=hD;exact⟨o,es,ep,eb D o GR ho,rr⟩
 |succ m ih=>
  intro i s acc hm hi st hl hD ha hp q;have aR:i<items.size:=by omega
  have hx:items[i]?=some items[i]:=by simp [aR]
  obtain⟨r,hr,⟨T,k,hT,ht,hk⟩,n1,n2⟩:=hp i _ hx;have hTi:T≠it:=fun z=>n1 (by rw [hT,z]);refine codeAny_builtin Qs ?_;rw [yG A5 _];show wpAny _ A.in1 (pyNext (.ref it) >>= _) _ _ s;refine wpAny_bind (wpAny_pyNext_list_item st hl hx fun h1 iw Wi=>?_);have k1:∀b o,b≠it->s.heap.get? b=some o->h1.get? b=some o:=fun b o hb e=>(Wi.2 b hb).trans e;show wpAny _ A.in1 (holding [items[i]] _ >>= _) _ _ _;refine wpAny_bind (wpAny_holding (wpAny_bind (wpAny_tryCatch ?_)));rw [hT];obtain⟨ot,hot,rt⟩:=ht;refine pair_items (s:={s with heap:=h1}) ⟨ot,k1 T ot hTi hot,rt⟩ ?_;refine wpAny_holding ?_;have hD1:h1.DictOf (cZ prog w) D acc:=by
   obtain⟨o,es,ep,ho,rr⟩:=hD;exact⟨o,es,ep,k1 D o GR ho,rr⟩
  have hlen:rs.length=items.size:=hn;refine wpAny_dictSet_pairs (s:={s with heap:=h1}) hk hD1 (fun h2 hD2 Lx=>?_) (c9 ha (by have:sizeLine≥10000:=(by decide); omega));have k2:∀b o,b≠it->b≠D->s.heap.get? b=some o->h2.get? b=some o:=fun b o hb qV e=>(Lx.2 b qV).trans (k1 b o hb e);have hlo:∃o,s.heap.get? l=some o:=let ⟨o,e,_⟩:=hl; ⟨o,e⟩
  have gG:h2.IsListIter it l (i+1):=iw.at fun o e=>(Lx.2 it (bY GR)).trans e;have nr:h2.IsList l items:=by
   obtain⟨o,e,rr⟩:=hl;exact⟨o,k2 l o OG (bY hDl) e,rr⟩
  have e1:rawInt ((i:Int)+1)=rawInt ((i+1:Nat):Int):=by push_cast; rfl
  show wpAny _ _ (again (.builtin "dict.update.loop" ⟨[.ref D,.ref it,rawInt ((i:Int)+1),.none],[]⟩)) _ _ _
  rw [e1];refine wpAny_pure ⟨plainId_quiet A5 _,ih (i+1) _ (stored acc r.1 r.2) (by omega) aR gG nr hD2 (c9 (Vj _ _ _) (by omega)) (fun j v hj=>?_) fun h3 vL GU k3=>?_⟩
  ·obtain⟨r',Gb,⟨T',k',GN,⟨o',hW,WH⟩,jd⟩,m1,m2⟩:=hp j v hj
   exact⟨r',Gb,⟨T',k',GN,⟨o',k2 T' o' (fun z=>m1 (by rw [GN,z])) (fun z=>m2 (by rw [GN,z])) hW,WH⟩,jd⟩,m1,m2⟩
  ·refine q h3 vL ?_ fun b o hb qV e=>k3 b o hb qV (k2 b o hb qV e)
   have oW:i<rs.length:=by omega
   have hri:rs[i]=r:=by simpa [oW] using hr
   rw [vq oW,hri];exact GU
theorem aee {l:Addr}{items:Array Value}{nn:Nat}{sl:Array (Option Value)}{rs:List (Key×Value)}{Q:Value->Shared->Prop}(hh:A.handled=none)(hl:s.heap.get? l=some {cls:=.type "list",data:=.seq items nn,slots:=sl})(hn:rs.length=items.size)(hz:rs.length<=10000)
  (hp:∀(j:Nat) v,items[j]?=some v->∃r,rs[j]?=some r/\Jw prog w s.heap v r)
  (q:∀h' tk,h'.DictOf (cZ prog w) s.heap.objs.size (merged [] rs)->(∀b o,s.heap.get? b=some o->h'.get? b=some o)->Q (.ref s.heap.objs.size) {s with heap:=h',toks:=tk}) :
  wpAny (model prog w) A (call (.type "dict") [.ref l]) Q E s:=by
 refine callType_codes (Q₁:=fun obj aT=>obj=.ref s.heap.objs.size/\aT={s with heap:=s.heap.push {cls:=.type "dict",data:=.dict #[]}}) F.kt_called_dict (F.kt_typeCall_dict_1 _) F.entry_dict_init (kt_code_dict_new _ ⟨rfl,rfl⟩) ?_
 rintro obj aT ⟨rfl,rfl⟩;have xg:(s.heap.push {cls:=.type "dict",data:=.dict #[]}).DictOf (cZ prog w) s.heap.objs.size []:=Heap.DictOf.new s.heap
 have oU:(s.heap.push {cls:=.type "dict",data:=.dict #[]}).get? l=some {cls:=.type "list",data:=.seq items nn,slots:=sl}:=aW _ hl
 refine⟨xg.typeIs,F.args_dict_init_2 _ _,?_⟩;unfold Builtin.«dict.__init__»;refine wpAny_bind ?_;unfold Builtin.Dict.selfAndRest;refine wpAny_bind (wpAny_notOrdered_dict xg.typeIs ?_);show wpAny _ _ (pure (s.heap.objs.size,[bI l])) _ _ _;refine wpAny_pure ?_;show wpAny _ _ (Builtin.Dict.updateFrom "dict.__init__" s.heap.objs.size (.ref l) [] .none) _ _ _
 unfold Builtin.Dict.updateFrom;refine wpAny_bind (wpAny_typeOf (show Shared.TypeIs {s with heap:=s.heap.push {cls:=.type "dict",data:=.dict #[]}} (.ref l) "list" from⟨_,oU,rfl⟩) ?_)
 rw [if_pos (by decide)];refine wpAny_bind (aar (by simpa using hh) oU fun h2 t2 k2=>?_);rw [if_pos (by rfl)];have nr:=k2 l _ oU;refine wpAny_bind (wpAny_rule (wpAny_bind (wpAny_pyIter_list (s:={s with heap:=h2,toks:=t2}) ⟨_,nr,rfl,nn,rfl⟩ (wpAny_bind (wpAny_pure ?_)))));have hDs:h2.get? s.heap.objs.size=some {cls:=.type "dict",data:=.dict #[]}:=k2 _ _ (cN _ rfl)
 have AJ:s.heap.objs.size<h2.objs.size:=aV hDs;have OF:l<s.heap.objs.size:=aV hl;have k3:∀b o,s.heap.get? b=some o->(h2.push {cls:=.type "list_iterator",data:=.fields #[.ref l,.int 0 0]}).get? b=some o:=fun b o e=>aW _ (k2 b o (aW _ e))
 refine wpAny_pure ⟨plainId_quiet A5 _,TN (A:=A.in1) (l:=l) (it:=h2.objs.size) (D:=s.heap.objs.size) (rs:=rs) (by simpa using hh) (bJ AJ) (bY (bJ OF)) (bJ (rW OF AJ)) hn hz items.size 0 _ [] (by omega) (gw _)
  ⟨_,cN _ rfl,rfl,rfl⟩ ⟨_,aW _ nr,rfl,nn,rfl⟩ ?_ (gw _) (fun j v hj=>?_) fun h3 vL GU k4=>⟨rfl,q h3 vL GU fun b o e=>k4 b o ?_ ?_ (k3 b o e)⟩⟩
 ·obtain⟨o,es,ep,ho,rr⟩:=xg
  exact⟨o,es,ep,aW _ (k2 _ _ ho),rr⟩
 ·obtain⟨r,hr,T,k,hT,⟨o,ho,rr⟩,hk⟩:=hp j v hj
  have OY:=aV ho;refine⟨r,hr,⟨T,k,hT,⟨o,k3 T o ho,rr⟩,hk⟩,?_,?_⟩
  ·rw [hT]; intro z; injection z with z; exact absurd (rW OY AJ) (by rw [z]; exact fm _)
  ·rw [hT]; intro z; injection z with z; exact absurd OY (by rw [z]; exact fm _)
 ·exact bJ (rW (aV e) AJ)
 ·exact bJ (aV e)
end
end L2
namespace L2
open PySem PySem.Spec PyProof.Rows PySem.W
theorem HJ:∀(ps kvs:aq),m8 (a9 kvs) (a9 ps)=a9 (jc kvs ps)
 | [],kvs=>rfl
 |p::ps,kvs=>by
  have ih:=HJ ps (dh kvs p.1 p.2);show m8 (putK (a9 kvs) (Kt p.1) (S p.2)) (a9 ps)=_;rw [Qv,ih];rfl
theorem W9 (kvs:aq)(k v:List Nat):(dh kvs k v).length<=kvs.length+1:=by
 unfold dh
 split
 ·simp
 ·simp
theorem Lo:∀(ps kvs:aq),sm (.aj kvs)->(∀p∈ps,p.1.length<=10000/\p.2.length<=10000)->kvs.length+ps.length<=10000->sm (.aj (jc kvs ps))
 | [],kvs,z,_,_=>z
 |p::ps,kvs,z,hp,hl=>by
  have h1:=hp p bH;have h2:=W9 kvs p.1 p.2;rw [eg] at hl;exact Lo ps (dh kvs p.1 p.2) (vZ z h1.1 h1.2 (by omega)) (fun q hq=>hp q (cy _ hq)) (by omega)
theorem L5 {d:Dt}{ds:List Dt}{ps:aq}(h:g9 (d::ds)=some ps):∃k v r,d=.tup [.str k,.str v]/\g9 ds=some r/\ps=(k,v)::r:=by
 unfold g9 at h
 split at h
 ·rename_i he; cases he
 ·rename_i k v r he
  injection he with h1 h2;subst h1 h2;rw [iZ] at h;obtain⟨r',h3,h4⟩:=h;exact⟨k,v,r',rfl,h3,h4.symm⟩
 ·cases h
theorem LZ:∀{ds:List Dt}{ps:aq},g9 ds=some ps->bC ds->ps.length=ds.length/\∀p∈ps,p.1.length<=10000/\p.2.length<=10000
 | [],ps,h,_=>by
  simp only [g9,vA] at h;subst h;exact⟨rfl,fun _ z=>nomatch z⟩
 |d::ds,ps,h,z=>by
  obtain⟨k,v,r,rfl,h1,rfl⟩:=L5 h;obtain⟨i1,i2⟩:=LZ h1 z.2;refine⟨by simp [i1],fun p hp=>?_⟩;rcases ba.mp hp with e | e
  ·subst e; exact⟨z.1.2.1,z.1.2.2.1⟩
  ·exact i2 p e
section
variable {X:Cx}{cls:Nat->Addr}{E:XK}{a b c o e:Expr}{f g h:aa->M Dt}{pos p:Pos}
theorem Mi {pins:List (Addr×Obj)}{σ:St}{H:Hp}{s:Shared}(I:Inv X pins σ H s):∀{ds:List Dt}{ts:List V}{ak:List Value}{ps:aq},av X.K H ds ts->g9 ds=some ps->Vals ts ak->
  ∃rs:List (Key×Value),KV (a9 ps) rs/\rs.length=ak.length/\∀(j:Nat) v,ak[j]?=some v->∃r,rs[j]?=some r/\Jw X.prog X.w s.heap v r
 | [],ts,ak,ps,r,hp,rv=>by
  simp only [av] at r;subst r;cases rv;simp only [g9,vA] at hp;subst hp;exact⟨[],.nil,rfl,fun j v e=>by simp at e⟩
 |d::ds,ts,ak,ps,r,hp,rv=>by
  obtain⟨k,v,r',rfl,h1,rfl⟩:=L5 hp;simp only [av] at r;obtain⟨x,xs,rfl,rx,Wy⟩:=r
  cases rv with
  |@cons _ u _ us ru WC=>
   obtain⟨rs,i1,i2,i3⟩:=Mi I Wy h1 WC;obtain⟨T,ys,rfl,hT,hys,vs,hv,ht⟩:=I.iz rx;obtain rfl:u=bI T:=ru;obtain⟨y1,y2,rfl,g1,g2⟩:=oj hys;rw [cK g1,cK g2] at hv
   cases hv with
   |cons a1 a2=>
    cases a2 with
    |cons a3 a4=>
     cases a4;obtain⟨t1,rfl⟩:=a1;refine⟨(Kt k,_)::rs,.cons ⟨rfl,a3⟩ i1,by simp [i2],fun j w hw=>?_⟩
     cases j with
     |zero=>
      simp at hw;subst hw;exact⟨_,List.getElem?_cons_zero,T,_,rfl,ht,Nf X.prog X.w _ t1⟩
     |succ j=>obtain⟨r,h2,h3⟩:=i3 j w (by simpa using hw); exact⟨r,by simpa using h2,h3⟩
end
noncomputable def R8 (H:Hp)(v:V)(H':Hp):Prop:=∃D ys,v=.ref D/\H D=none/\H' D=some (.lst ys)
theorem WO {k:Nat}{fr:List Nat}{g:TG}{tc:TT}{te:TE}{σ:St}{J:It}{H1:Hp}{Q:VK}(h:oq k fr g tc te σ J H1 (fun v H'=>R8 H1 v H'->Q v H')):oq k fr g tc te σ J H1 Q:=by
 intro D hD;obtain⟨W,h0,hs⟩:=h D hD;refine⟨W,h0,fun i m ys aJ H' hw=>?_⟩;obtain⟨h1,h2⟩:=hs i m ys aJ H' hw;refine⟨h1,?_⟩;rcases h2 with ⟨a,b⟩ | h2
 ·exact .inl ⟨a,b ⟨D,ys,rfl,hD,h1⟩⟩
 ·exact .inr h2
theorem bf.jF {K:ah}{O A:List Addr}{ρ:aa}{σ:St}{H:Hp}(F:bf K O A ρ σ H)(fr:List Nat):bf K [] A (L2.jF fr ρ) (L2.cU 0 fr σ) H:=by
 have key:∀{i:Nat} {b},(L2.jF fr ρ)[i]?=some b->∃m,fr[i]?=some m/\b=pP ρ[m]?:=fun {i b} h=>by
  have h':(fr.map fun j=>pP ρ[j]?)[i]?=some b:=h;rw [jt] at h';obtain⟨m,h1,h2⟩:=iZ.mp h';exact⟨m,h1,h2.symm⟩
 have at_:∀{i m:Nat} {v},fr[i]?=some m->σ[m]?=some (some v)->(L2.cU 0 fr σ)[i]?=some (some v):=fun {i m v} h1 h2=>by
  unfold L2.cU;simp [h1,h2]
 have no:∀{i:Nat} {b},(L2.jF fr ρ)[i]?=some b->gi b=true->False:=fun {i b} h o=>by
  obtain⟨m,_,rfl⟩:=key h;unfold pP at o
  split at o <;> cases o
 refine⟨by simp [L2.jF,L2.cU],F.bD,(fun a z=>nomatch z),fun i d h=>?_,fun i b h o=>(no h o).elim,fun i j b c v w _ h _ o=>(no h o).elim,fun i p x y h=>?_⟩
 ·obtain⟨m,h1,h2⟩:=key h
  unfold pP at h2
  split at h2
  ·rename_i d' hd
   cases h2;obtain⟨v,g1,g2⟩:=F.val m d hd;exact⟨v,at_ h1 g1,g2⟩
  all_goals cases h2
 ·obtain⟨m,h1,h2⟩:=key h
  unfold pP at h2
  split at h2
  ·cases h2
  ·rename_i x' y' hd
   cases h2;obtain⟨v,g1,g2,g3⟩:=F.ow m _ hd rfl;exact⟨v,at_ h1 g1,(fun a z=>nomatch z),g2,fun a ha=>⟨F.sub a (g3 a ha),fun z=>nomatch z⟩⟩
  ·rename_i p' x' y' hd
   cases h2;obtain⟨v,g1,gp,g2,g3⟩:=F.bo m p x y hd;exact⟨v,at_ h1 g1,gp,g2,fun a ha=>⟨(g3 a ha).1,fun z=>nomatch z⟩⟩
  ·cases h2
end L2
namespace L2
open PySem PySem.SetTable
theorem getD_some {owner:Array (Option Nat)}{j:Nat}(h:owner[j]?=some none):(owner.getD j (some 0)).isNone=true:=by
 rw [Array.getD_eq_getD_getElem?,h];rfl
end L2
namespace L2
open PySem PySem.Spec PyProof.Rows PySem.W PySem.SetTable
section
variable {X:Cx}{cls:Nat->Addr}{E:XK}{e e':Expr}{f g:aa->M Dt}{pos oA aiX aiW p p2 p3:Pos}
theorem TL {a:Expr}{x:Str}{j p p'}(h:Ev X cls E a f)(hx:x.length<=1000:=by decide +kernel):Uv X cls E (.JoinedStr [.Constant (.str x) j p,.FormattedValue a 114 none p'] pos) (ti f):=(Mc (Ey (x:=x)) (Md h)).imp fun σ H Q h_=>by
 obtain⟨O,A,ρ,F,q⟩:=h_;refine⟨_,rfl,hx,O,A,ρ,F,Rg.bind q fun d _ q1=>?_⟩;intro v H' s' r z
 cases d with
 |str l=>
  simp only [vK] at q1
  split at q1
  ·rename_i hi
   exact⟨l,cK r,hi.1,fun c hc=>by simpa using dO.mp hi.2 c hc,fun z hz=>⟨z,rfl,hz,fun z'=>q1 _ H' s'⟩⟩
  ·exact(show False from q1).elim
 |_=>exact(show False from q1).elim
end
end L2
namespace L2
open PySem PySem.Spec PyProof.Rows PySem.W
mutual
theorem WL {K:ah}{H:Hp}{p:Addr}{ys:List V}(hp:H p=some (.lst ys)):∀{d:Dt}{v:V},qu d=true->Rep K H d v->Rep K (ao H [p]) d v
 |.aI,_,_,h=>by simpa only [Rep] using h
 |.bl _,_,_,h=>by simpa only [Rep] using h
 |.int _,_,_,h=>by simpa only [Rep] using h
 |.str _,_,_,h=>by simpa only [Rep] using h
 |.tup es,_,hz,h=>by
  simp only [Rep] at h ⊢;obtain⟨a,xs,h1,h2,h3⟩:=h;refine⟨a,xs,h1,?_,Eb hp (by simpa only [qu] using hz) h3⟩;rcases h2 with (h2 | ⟨o,h2⟩) | h2
  ·exact .inl (.inl (by rw [cf (by simp only [jv]; intro z; rw [z,hp] at h2; cases h2)]; exact h2))
  ·exact .inl (.inr ⟨o,by rw [cf (by simp only [jv]; intro z; rw [z,hp] at h2; cases h2)]; exact h2⟩)
  ·exact .inr h2
 |.lst es,v,hz,h=>by simp only [qu] at hz; cases hz
 |.aj kvs,_,_,h=>by
  simp only [Rep] at h ⊢;obtain⟨a,ks,h1,h3,o,h2⟩:=h;exact⟨a,ks,h1,h3,o,by rw [cf (by simp only [jv]; intro z; rw [z,hp] at h2; cases h2)]; exact h2⟩
theorem Eb {K:ah}{H:Hp}{p:Addr}{ys:List V}(hp:H p=some (.lst ys)):∀{es:List Dt}{xs:List V},jP es=true->av K H es xs->av K (ao H [p]) es xs
 | [],_,_,h=>by simpa only [av] using h
 |d::es,_,hz,h=>by
  simp only [av] at h ⊢;simp only [jP,nW] at hz;obtain⟨x,r,h1,h2,h3⟩:=h;exact⟨x,r,h1,WL hp hz.1 h2,Eb hp hz.2 h3⟩
end
noncomputable def eQ (K:ah)(A:List Addr)(H:Hp)(v:V)(x y:List Dt):Prop:=iT K A H v (.aQ x y)/\∀a∈a5 H v (.aQ x y),a∈A
section
variable {K:ah}{O A A':List Addr}{ρ:aa}{σ:St}{H H':Hp}{v:V}{x y:List Dt}
theorem eQ.mono (h:eQ K A H v x y)(s:aw H H'):eQ K A H' v x y:=by
 refine⟨h.1.off (fun a ha=>kx s (h.1.live ha)) (s.ao A),?_⟩;have fq:a5 H' v (.aQ x y)=a5 H v (.aQ x y):=uj fun a e=>by
  obtain⟨a',e',ha⟩:=h.1.fst;rw [e] at e';cases e';exact kx s (h.1.live ha)
 rw [fq];exact h.2
theorem bf.VF {i:Nat}(F:bf K O A ρ σ H)(h:nG ρ[i]?=some (x,y)):∃v,σ[i]?=some (some v)/\eQ K A H v x y:=by
 unfold nG at h
 split at h
 ·rename_i x' y' e
  cases h;obtain⟨v,h1,h2,h3⟩:=F.ow i _ e rfl;exact⟨v,h1,h2,fun a ha=>F.sub a (h3 a ha)⟩
 ·rename_i p' x' y' e
  cases h;obtain⟨v,h1,_,h2,h3⟩:=F.bo i p' x y e;exact⟨v,h1,h2,fun a ha=>(h3 a ha).1⟩
 ·cases h
inductive Si (K:ah) (A:List Addr) (H:Hp) (v:V) (x y:List Dt):Prop
 |mk (a dx l m C:Addr) (xs ys:List V) (e:v=.ref a) (hC:gX K C) (h1:H a=some (.ins C dx (mh l m))) (h2:H dx=some (.own a)) (h3:H l=some (.lst xs)) (h4:H m=some (.lst ys)) (h5:l≠m)
  (h6:av K (ao H A) x xs/\bC x/\x.length<=10000) (h7:av K (ao H A) y ys/\bC y/\y.length<=10000) (g1:a∈A) (g2:dx∈A) (g3:l∈A) (g4:m∈A):Si K A H v x y
theorem eQ.parts (h:eQ K A H v x y):Si K A H v x y:=by
 obtain⟨⟨a,dx,l,m,C,xs,ys,rfl,hC,h1,h2,h3,h4,h5,h6,h7⟩,h8⟩:=h;rw [rj h1] at h8;exact⟨a,dx,l,m,C,xs,ys,rfl,hC,h1,h2,h3,h4,h5,h6,h7,h8 a (by simp),h8 dx (by simp),h8 l (by simp),h8 m (by simp)⟩
theorem gX.one {C C':Addr}(h:gX K C)(h':gX K C'):C=C':=by
 have e:=h.1.symm.trans h'.1;injection e with e;injection e with e;injection e
end
noncomputable abbrev WR:=List Addr->Dt->V->Hp->Hp->Prop
noncomputable def CO (K:ah):WR:=fun A d v _ H'=>Rep K (ao H' A) d v
noncomputable def CP (K:ah):WR:=fun A d v H H'=>Rep K (ao H' A) d v/\R8 H v H'
noncomputable def yQ:WR:=fun _ d v H H'=>∃ks p,d=.aj ks/\v=.ref p/\H p=none/\H' p=some (.dK (a9 ks))
inductive kr (K:ah) (cls:Nat->Addr) (W:WR) (F:List Dt->List Dt->M Dt) (vs:List V) (H:Hp) (Q:VK) (E:XK):Prop
 |mk (v:V) (A:List Addr) (x y:List Dt) (e:vs=[v]) (L:cJ H A) (b:eQ K A H v x y) (q:Rg cls E (F x y) H fun d=>∀v H',aw H H'->W A d v H H'->sm d->Q v H'):kr K cls W F vs H Q E
inductive gJ (K:ah) (cls:Nat->Addr) (F:Nat->BM) (vs:List V) (H:Hp) (Q:VK) (E:XK):Prop
 |mk (p:Nat) (v:V) (ws:List V) (A:List Addr) (x y ds:List Dt) (e:vs=v::ws) (e2:v=.ref p) (L:cJ H A) (b:eQ K A H v x y) (r:av K (ao H A) ds ws) (z:bC ds)
  (q:Rg cls E (F p x y ds) H fun r=>∀u H',aw (ao H (a5 H v (.aQ x y))) H'->eQ K A H' v r.2.1 r.2.2->a5 H' v (.aQ x y)=a5 H v (.aQ x y)->Rep K (ao H' A) r.1 u->sm r.1->Q u H'):gJ K cls F vs H Q E
noncomputable def jo (P:Program)(w:World)(K:ah)(mg:Str->Option Value)(base:Heap)(k:Nat)(m:Str)(ps:List Str)(sp:Sp):Prop:=
 ∃C f fd,gX K C/\Meth K C m f/\cS P w K mg base (aG P w) k f fd ps sp/\Binds K fd ps []
inductive tw (K:ah) (m:Str) (sp:Sp) (E:XK) (i:Nat) (t:TA) (σ:St) (H:Hp) (Q:VK):Prop
 |mk (v:V) (a C dx:Addr) (fs:List (Str×V)) (h1:σ[i]?=some (some v)) (h2:v=.ref a) (h3:H a=some (.ins C dx fs)) (h4:gX K C) (h5:fs.lookup m=none) (q:t σ H fun vs H2=>sp (v::vs) H2 Q E):tw K m sp E i t σ H Q
section
variable {X:Cx}{cls:Nat->Addr}{E:XK}{a b c o e:Expr}{f g h:aa->M Dt}{pos apos:Pos}{i k:Nat}{m:Str}{ps:List Str}{sp:Sp}{t:TA}{es:List Expr}{fs:aa->M (List Dt)}
theorem Ez {pl:Sem Bool}(C:jo X.prog X.w X.K X.mg X.base k m ps sp)(hr:bF k X.A)(hx:Passes (aG X.prog X.w) X E)(ho:PE X o (eE i))
  (ht:eval (.Call (.Attribute o m apos) [] [] pos) X.env=(do
   let ov ← eval o X.env
   standAt apos.atName
   let (f,first) ← holding [ov] (getMethod ov m pl)
   callWith pos f first (backTo pos (starEach [] X.env)) (backToKw pos (keywordEach [] X.env))):=by rfl):PE X (.Call (.Attribute o m apos) [] [] pos) (tw X.K m sp E i jD):=by
 obtain⟨C,f,fd,hC,hM,F,hb⟩:=C;refine(Xz (pl:=pl) (dvs:=[]) (ds:=[]) ho hC.2.1 hM F hr hb .nil hx ht).imp fun σ H Q h_=>?_;obtain⟨v,a,C',dx,fs,h0,h1,h2,h3,h4,h5⟩:=h_;rw [h3.one hC] at h2;exact⟨v,h0,a,dx,fs,h1,h2,h4,h5⟩
theorem zF {pl:Sem Bool}(C:jo X.prog X.w X.K X.mg X.base k m ps sp)(hr:bF k X.A)(hx:Passes (aG X.prog X.w) X E)(ho:PE X o (eE i))(ha:PA X (e::es) (mO X.K cls E fs))
  (bj:starEach (e::es) X.env=(false,eval e X.env)::starEach es X.env:=by rfl) (dA:(backTo pos (starEach es X.env)).any (·.1)=false:=by rfl)
  (ht:eval (.Call (.Attribute o m apos) (e::es) [] pos) X.env=(do
   let ov ← eval o X.env
   standAt apos.atName
   let (f,first) ← holding [ov] (getMethod ov m pl)
   callWith pos f first (backTo pos (starEach (e::es) X.env)) (backToKw pos (keywordEach [] X.env))):=by rfl):PE X (.Call (.Attribute o m apos) (e::es) [] pos) (tw X.K m sp E i (mO X.K cls E fs)):=by
 obtain⟨C,f,fd,hC,hM,F,hb⟩:=C;refine(XA (pl:=pl) (dvs:=[]) (ds:=[]) ho hC.2.1 hM F hr hb .nil hx ha bj dA ht).imp fun σ H Q h_=>?_;obtain⟨v,a,C',dx,rh,h0,h1,h2,h3,h4,h5⟩:=h_;rw [h3.one hC] at h2;refine⟨v,h0,a,dx,rh,h1,h2,h4,?_⟩;simpa only [nV] using h5
theorem eQ.look {K:ah}{A:List Addr}{H:Hp}{v:V}{x y:List Dt}(h:eQ K A H v x y)(hZ:(m==("done" : Str))=false)(gS:(m==("undone" : Str))=false):∃a C dx fs,v=.ref a/\H a=some (.ins C dx fs)/\gX K C/\fs.lookup m=none:=by
 obtain⟨a,dx,l,n,C,xs,ys,rfl,hC,h1,_⟩:=h.parts;refine⟨a,C,dx,_,rfl,h1,hC,?_⟩;unfold mh;rw [js,hZ,js,gS];rfl
theorem C7 {W:WR}{F:List Dt->List Dt->M Dt}{σ:St}{H:Hp}{Q:VK}{O A:List Addr}{ρ:aa}(hZ:(m==("done" : Str))=false)(gS:(m==("undone" : Str))=false)(Ft:bf X.K O A ρ σ H)
  (q:Rg cls E (gQ i F ρ) H fun d=>∀v H',aw H H'->W A d v H H'->sm d->Q v H'):tw X.K m (kr X.K cls W F) E i jD σ H Q:=by
 unfold gQ Ef at q
 split at q
 ·rename_i p hb
  obtain⟨x,y⟩:=p;obtain⟨v,h1,h2⟩:=Ft.VF hb;obtain⟨a,C,dx,fs,h3,h4,h5,h6⟩:=h2.look hZ gS;exact⟨v,a,C,dx,fs,h1,h3,h4,h5,h6,v,A,x,y,rfl,Ft.bD,h2,q⟩
 ·exact(show False from q).elim
theorem adv {pl:Sem Bool}{F:List Dt->List Dt->M Dt}(C:jo X.prog X.w X.K X.mg X.base k m ps (kr X.K cls (CO X.K) F))(hr:bF k X.A)(hx:Passes (aG X.prog X.w) X E)(ho:PE X o (eE i))(hZ:(m==("done" : Str))=false:=by decide +kernel)(gS:(m==("undone" : Str))=false:=by decide +kernel)
  (ht:eval (.Call (.Attribute o m apos) [] [] pos) X.env=(do
   let ov ← eval o X.env
   standAt apos.atName
   let (f,first) ← holding [ov] (getMethod ov m pl)
   callWith pos f first (backTo pos (starEach [] X.env)) (backToKw pos (keywordEach [] X.env))):=by rfl):Ev X cls E (.Call (.Attribute o m apos) [] [] pos) (gQ i F):=
 (Ez C hr hx ho ht).imp fun σ H Q ⟨O,A,ρ,Ft,q⟩=>C7 hZ gS Ft q
theorem AZ {pl:Sem Bool}{F:List Dt->List Dt->M Dt}(C:jo X.prog X.w X.K X.mg X.base k m ps (kr X.K cls yQ F))(hr:bF k X.A)(hx:Passes (aG X.prog X.w) X E)(ho:PE X o (eE i))(hZ:(m==("done" : Str))=false:=by decide +kernel)(gS:(m==("undone" : Str))=false:=by decide +kernel)
  (ht:eval (.Call (.Attribute o m apos) [] [] pos) X.env=(do
   let ov ← eval o X.env
   standAt apos.atName
   let (f,first) ← holding [ov] (getMethod ov m pl)
   callWith pos f first (backTo pos (starEach [] X.env)) (backToKw pos (keywordEach [] X.env))):=by rfl):Ev X cls E (.Call (.Attribute o m apos) [] [] pos) (gQ i F):=fun pins s σ H Q I ⟨O,A,ρ,Ft,q⟩=>by
 refine wpAny_mono (Ez C hr hx ho ht pins s σ H (fun v H'=>∃d,aw H H'/\yQ A d v H H'/\sm d/\gQ i F ρ=.ok d) I (C7 hZ gS Ft ?_)) (fun u s1 hz hT=>?_) fun _ _ z=>z
 ·exact Rg.ok q fun d e _ v H' s w z=>⟨d,s,w,z,e⟩
 ·obtain⟨v,H',I',rv,d,s',⟨ks,p,rfl,rfl,hp,dJ⟩,z,e⟩:=hz hT
  obtain⟨ob,I2⟩:=I'.freeze dJ;rw [e] at q;have s2:aw H (upd H' p (.bq ob (.dK (a9 ks)))):=fun b o e=>by
   rw [aF (cH e hp)];exact s' b o e
  exact⟨.ref p,_,I2,rv,q _ _ s2 (Ed (o:=ob) (by rw [cf (Ft.bD.fresh hp)]; exact aU)) z⟩
end
noncomputable abbrev lD (K:ah)(f:Str):TE:=K3 K (eE 0) f
noncomputable abbrev WY (K:ah):List V->Hp->VK->Prop:=fun xs H Q=>∃p ys,xs=[.ref p]/\(bP K H p ys∨cX K H p ys)/\Q (.int ys.length) H
noncomputable abbrev LQ:List V->Hp->VK->Prop:=fun xs H Q=>∃a kvs,xs=[V.ref a]/\Rd H a (.dK kvs)/\∀p,H p=none->Q (.ref p) (upd H p (.dK kvs))
noncomputable abbrev Dh (K:ah)(f:Str):TE:=vP (WY K) (mP (lD K f) jD)
noncomputable abbrev UJ (K:ah):TS:=n9 (C8 (mP (Dh K "done") (mP (Dh K "undone") jD)))
noncomputable abbrev UK (K:ah):TS:=n9 (K1 (y6 (og (ou fun i j=>.bl (decide (j<i))) (Dh K "done") (tC (.int 0))))
 (vP LQ (mP (og (Eg K) (og (Eh K) (lD K "done") (KW (rU fun i=>.int (-i)) (tC (.int 1)))) (tC (.int 1))) jD)) K4)
noncomputable abbrev AQ:GM:=iI 2 (dZ (aL 0) (dZ (aL 1) kS))
noncomputable abbrev UW (K:ah):TS:=tm (za (Di K "list" El (lD K "done") (mP (C8 (mP (eE 1) (mP (eE 2) jD))) jD))) (za (K9 K "list" Ek (lD K "undone")))
noncomputable abbrev UT (K:ah):TS:=tm (D3 K (eE 0) (Dg jD) "done") (D3 K (eE 0) (Dg jD) "undone")
section
variable {P:Program}{w:World}{K:ah}{mg:Str->Option Value}{base:Heap}{cls:Nat->Addr}{x qual:Str}{st:Stmt}{f:Addr}{fd:FuncData}{k:Nat}
noncomputable abbrev BY (P:Program)(w:World)(K:ah)(mg:Str->Option Value)(base:Heap)(N:List Str)(qual:Str)(st:Stmt)(f:Addr)(k:Nat)(t:TS):Prop:=
 ∀(ax:Value) (A:Around) (outer:List Env) (s:Shared) (H:Hp) (E:XK),bF k (A.deeper (envOfC qual (az st) s.heap.objs.size f ax))->eP (cg (aG P w) P w K mg base N qual (az st) f ax A outer s H E) (di st) t
theorem qb {H:Hp}{σ:St}{a dx C l m:Addr}{Q:VK}{g:Str}{z:Addr}(e:σ[0]?=some (some (.ref a)))(hC:gX K C)(h:H a=some (.ins C dx (mh l m)))(hg:(g = "done" /\z=l)∨(g = "undone" /\z=m))(q:Q (.ref z) H):lD K g σ H Q:=by
 refine⟨_,e,a,C,dx,_,.ref z,rfl,h,hC.2.1,?_,?_,q⟩
 ·rcases hg with ⟨rfl,rfl⟩ | ⟨rfl,rfl⟩
  ·exact hC.2.2.1
  ·exact hC.2.2.2
 ·rcases hg with ⟨rfl,rfl⟩ | ⟨rfl,rfl⟩
  ·rfl
  ·rfl
theorem Vx (F:fG K x qual st f fd)(S:bA ["self"] ["self"] (az st))(hB:BY P w K mg base ["self"] qual st f k (UJ K)):cS P w K mg base (aG P w) (k+1) f fd ["self"] (kr K cls (CO K) Bl):=by
 refine F.qm S (fun vs H Q E h=>by obtain⟨v,_,_,_,rfl,_⟩:=h; rfl) (fun ax A outer s H vs Q E hr h R=>⟨_,hB ax A outer s H E hr,?_⟩) (fun z=>by injection z with z; exact absurd z (by decide +kernel));obtain⟨v,B,x,y,rfl,L,hb,q⟩:=h;obtain⟨a,dx,l,m,C,xs,ys,rfl,hC,h1,h2,h3,h4,h5,⟨h6,h7,h8⟩,⟨h9,o3,qX⟩,_⟩:=hb.parts;refine qb rfl hC h1 (.inl ⟨rfl,rfl⟩) ⟨l,xs,rfl,.inl (.of h3),qb rfl hC h1 (.inr ⟨rfl,rfl⟩) ⟨m,ys,rfl,.inl (.of h4),by show (2:Nat)<=_; exact jH (by decide),fun p hp=>?_⟩⟩;refine q _ _ (.upd hp) (qg (nt L hp) ?_) ⟨by show (2:Nat)<=_; decide,trivial,trivial,trivial⟩;rw [← h6.length,← h9.length];exact .cons ek (.cons ek .nil)
theorem aam {x:List Dt}{xs:List V}{H:Hp}{d:Dt}(r:av K H x xs)(h:x.getLast?=some d):∃u,iR xs (-1)=some u/\Rep K H d u:=by
 have hl:=r.length;have hx:x≠[]:=fun z=>by rw [z] at h; cases h
 have hp:0<x.length:=mH.mpr hx;have aR:x.length - 1<xs.length:=by omega
 have hg:xs[x.length - 1]?=some (xs[x.length - 1]'aR):=mI aR;obtain⟨d',e1,e2⟩:=r.get hg;rw [List.getLast?_eq_getElem?,e1] at h;cases h;refine⟨_,?_,e2⟩;unfold iR;rw [show nc xs.length (-1)=some (x.length - 1) by
  unfold nc;rw [if_neg (by omega),if_pos (by omega)]
  congr 1
  omega]
 exact hg
theorem Vy (F:fG K x qual st f fd)(S:bA ["self"] ["self"] (az st))(hB:BY P w K mg base ["self"] qual st f k (UK K)):cS P w K mg base (aG P w) (k+1) f fd ["self"] (kr K cls yQ pj):=by
 refine F.qm S (fun vs H Q E h=>by obtain⟨v,_,_,_,rfl,_⟩:=h; rfl) (fun ax A outer s H vs Q E hr h R=>⟨_,hB ax A outer s H E hr,?_⟩) (fun z=>by injection z with z; exact absurd z (by decide +kernel));obtain⟨v,B,x,y,rfl,L,hb,q⟩:=h;obtain⟨a,dx,l,m,C,xs,ys,rfl,hC,h1,h2,h3,h4,h5,⟨h6,h7,h8⟩,⟨h9,o3,qX⟩,_⟩:=hb.parts;have hl:=h6.length;refine qb rfl hC h1 (.inl ⟨rfl,rfl⟩) ⟨l,xs,rfl,.inl (.of h3),_,_,rfl,rfl,_,rfl,?_⟩;unfold pj at q
 cases hx:x.getLast? with
 |none=>
  have e:x=[]:=List.getLast?_eq_none_iff.mp hx;subst e;rw [hx] at q;rw [show decide ((0:Int)<(xs.length:Int))=false by rw [← hl]; rfl];simp only [cT,if_false];intro p hp;exact q _ _ (.upd hp) ⟨[],p,rfl,rfl,hp,aU⟩ ⟨by simp,fun _ z=>nomatch z⟩
 |some d=>
  rw [hx] at q;have hp:0<x.length:=mH.mpr fun z=>by rw [z] at hx; cases hx
  rw [show decide ((0:Int)<(xs.length:Int))=true by rw [decide_eq_true_eq]; omega];simp only [if_true];obtain⟨u,hu,ru⟩:=aam h6 hx;refine(show lD K "done" [some (.ref a)] H (fun z H1=>∃i,V.int 1=.int i/\Eh K z (.int (-i)) H1 fun z2 H2=>Eg K z2 (.int 1) H2 fun z3 H3=>LQ [z3] H3 Q) from qb rfl hC h1 (.inl ⟨rfl,rfl⟩) ⟨1,rfl,l,xs,_,u,rfl,rfl,.of h3,hu,?_⟩)
  have hz:sm d:=ix h7 (List.mem_of_getLast? hx);unfold ft at q
  split at q
  ·rename_i e; cases e
  ·rename_i s' ks e
   cases e;obtain⟨p,zs,rfl,r1,r2⟩:=iz ru;obtain⟨v1,v2,rfl,r3,r4⟩:=oj r2;obtain⟨p2,o2,rfl,_,hH⟩:=tL r4;refine⟨p,_,1,.ref p2,rfl,rfl,bO.f9 r1,rfl,p2,a9 ks,rfl,.inr ⟨o2,hH⟩,fun p' dJ=>?_⟩;exact q _ _ (.upd dJ) ⟨ks,p',rfl,rfl,dJ,aU⟩ hz.2.2.1
  ·exact(show False from q).elim
end
section
variable {P:Program}{w:World}{K:ah}{mg:Str->Option Value}{base:Heap}{cls:Nat->Addr}{x qual:Str}{st:Stmt}{f:Addr}{fd:FuncData}{k:Nat}
theorem ad0 (F:fG K x qual st f fd)(S:bA ["self","step","behind"] ["self","step","behind"] (az st))(hB:BY P w K mg base ["self","step","behind"] qual st f k (UW K)):cS P w K mg base (aG P w) (k+1) f fd ["self","step","behind"] (gJ K cls fun _=>k9):=by
 have two:∀{vs H Q E},(gJ K cls fun _=>k9) vs H Q E->∃v w1 w2,vs=[v,w1,w2]:=fun {vs H Q E} h=>by
  obtain⟨p,v,ws,A,x,y,ds,rfl,_,L,hb,r,z,q⟩:=h;simp only [k9] at q
  split at q
  ·obtain⟨w1,w2,rfl,_⟩:=oj r
   exact⟨v,w1,w2,rfl⟩
  ·exact(show False from q).elim
 refine F.qm S (fun vs H Q E h=>by obtain⟨v,w1,w2,rfl⟩:=two h; rfl) (fun ax A outer s H vs Q E hr h R=>⟨_,hB ax A outer s H E hr,?_⟩) (fun z=>by injection z with z; exact absurd z (by decide +kernel));obtain⟨p0,v,ws,B,x,y,ds,rfl,_,L,hb,r,z,q⟩:=h;obtain⟨a,dx,l,m,C,xs,ys,rfl,hC,h1,h2,h3,h4,h5,⟨h6,h7,h8⟩,⟨h9,o3,qX⟩,aB,dB,lB,mB⟩:=hb.parts;simp only [k9] at q
 split at q
 rotate_left
 ·exact(show False from q).elim
 rename_i sd bd;obtain⟨w1,w2,rfl,r1,r2⟩:=oj r;unfold gF at q
 split at q
 rotate_left
 ·exact(show False from q).elim
 rename_i hl;have hlen:=h6.length;refine(show lD K "done" [some (.ref a),some w1,some w2] H (fun z H1=>pR K "list" z H1/\eE 1 [some (.ref a),some w1,some w2] H1 fun u1 H1=>eE 2 [some (.ref a),some w1,some w2] H1 fun u2 H1=>[u1,u2].length<=sizeLine/\∀p,H1 p=none->El z [.ref p] (upd H1 p (.tup [u1,u2])) fun _ H3=>lD K "undone" [some (.ref a),some w1,some w2] H3 fun z2 H4=>pR K "list" z2 H4/\Ek z2 [] H4 fun _ H5=>Q .aI H5) from
  qb rfl hC h1 (.inl ⟨rfl,rfl⟩) ⟨.inl ⟨rfl,xs,.of h3⟩,w1,rfl,w2,rfl,by show (2:Nat)<=_; exact jH (by decide),fun p hp=>?_⟩)
 have M8:a≠p:=cH h1 hp;have ZA:dx≠p:=cH h2 hp;have MU:l≠p:=cH h3 hp;have MS:m≠p:=cH h4 hp;have Na:a≠l:=wD h1 h3 (by simp);have tP:a≠m:=wD h1 h4 (by simp);have ZD:dx≠l:=wD h2 h3 (by simp);have ZC:dx≠m:=wD h2 h4 (by simp);refine⟨l,xs,.ref p,rfl,rfl,by rw [aF MU]; exact h3,cB (by omega:xs.length<10000) (by decide),?_⟩;have g1:upd (upd H p (.tup [w1,w2])) l (.lst (xs++[.ref p])) a=some (.ins C dx (mh l m)):=by rw [aF Na,aF M8]; exact h1
 have g4:upd (upd H p (.tup [w1,w2])) l (.lst (xs++[.ref p])) m=some (.lst ys):=by rw [aF (bY h5),aF MS]; exact h4
 refine qb rfl hC g1 (.inr ⟨rfl,rfl⟩) ⟨.inl ⟨rfl,ys,.of g4⟩,m,ys,rfl,rfl,g4,?_⟩;rw [rj h1] at q;have keep:∀b,b≠l->b≠m->b≠p->upd (upd (upd H p (.tup [w1,w2])) l (.lst (xs++[.ref p]))) m (.lst []) b=H b:=fun b z1 z2 z3=>by rw [aF z2,aF z1,aF z3]
 have gA:upd (upd (upd H p (.tup [w1,w2])) l (.lst (xs++[.ref p]))) m (.lst []) a=some (.ins C dx (mh l m)):=by rw [keep a Na tP M8]; exact h1
 have pB:p∉B:=L.fresh hp;have sB:aw (ao H B) (ao (upd (upd (upd H p (.tup [w1,w2])) l (.lst (xs++[.ref p]))) m (.lst [])) B):=fun b o e=>by
  obtain⟨e1,e2⟩:=dX e;rw [cf e1,keep b (fun z=>e1 (z ▸ lB)) (fun z=>e1 (z ▸ mB)) (cH e2 hp)];exact e2
 refine q .aI _ (fun b o e=>?_) ⟨⟨a,dx,l,m,C,xs++[.ref p],[],rfl,hC,gA,?_,?_,?_,h5,⟨(h6.mono sB).append (.cons (qg ?_ ((av.cons r1 (.cons r2 .nil)).mono sB)) .nil),tG h7 ⟨⟨by show (2:Nat)<=_; decide,z⟩,trivial⟩,by simp; omega⟩,.nil,trivial,by simp⟩,?_⟩ ?_ zp trivial
 ·obtain⟨e1,e2⟩:=dX e
  simp only [ba,fJ,or_false,not_or] at e1;rw [keep b e1.2.2.1 e1.2.2.2 (cH e2 hp)];exact e2
 ·rw [keep dx ZD ZC ZA]; exact h2
 ·rw [aF h5,aU]
 ·rw [aU]
 ·rw [cf pB,aF (bY MS),aF (bY MU),aU]
 ·rw [rj gA]
  intro b hb;simp only [ba,fJ,or_false] at hb;rcases hb with rfl | rfl | rfl | rfl <;> assumption
 ·rw [rj gA]
noncomputable def C9 (K:ah)(cls:Nat->Addr)(E:XK):List SM->TS->TS
 | [],t=>t
 |a::r,t=>tm (sM K cls E a) (C9 K cls E r t)
noncomputable def RG (K:ah)(cls:Nat->Addr)(E:XK)(Hin:Hp)(A₀:List Addr)(m:M Fl)(t:St->Hp->Prop):Prop:=match m with
 |.ok (.nx ρ)=>∀σ H,fg K Hin A₀ ρ σ H->t σ H
 |.ex c=>∀H,aw Hin H->E (.ref (cls c)) none H
 |_=>False
theorem pre_of {E:XK}{Hin:Hp}{A₀:List Addr}{t:TS}{D:Ends}:∀{pre:List SM}{ρ:aa}{σ:St}{H:Hp},fg K Hin A₀ ρ σ H->RG K cls E Hin A₀ (eG pre ρ) (t D)->C9 K cls E pre t D σ H
 | [],ρ,σ,H,S,q=>q σ H S
 |a::r,ρ,σ,H,S,q=>by
  refine⟨Hin,A₀,ρ,S,?_⟩;have q:RG K cls E Hin A₀ (aZ a (eG r) ρ) (t D):=q;unfold aZ at q
  cases hm:a ρ with
  |ok fl=>
   rw [hm] at q
   cases fl with
   |nx ρ'=>exact fun aJ H' S'=>pre_of S' q
   |bk ρ'=>exact(show False from q).elim
   |ct ρ'=>exact(show False from q).elim
   |rt d=>exact(show False from q).elim
  |ex c=>rw [hm] at q; exact q
  |bad=>rw [hm] at q; exact(show False from q).elim
noncomputable abbrev UY (K:ah)(cls:Nat->Addr)(E:XK)(pre:List SM)(fs:aa->M (List Dt))(e:aa->M Dt):TS:=
 C9 K cls E pre (tm (za (tw K "do_step" (gJ K cls fun _=>k9) E 0 (mO K cls E fs))) (n9 (tM K cls E e)))
theorem bf.adW {O A:List Addr}{ρ:aa}{σ:St}{H H':Hp}{b0:Bd}(F:bf K O A ρ σ H)(h0:ρ[0]?=some b0)(L:cJ H' A)(hs:aw (ao H A) (ao H' A))(ho:∀a∈O,H' a=H a)(hb:∀(i:Nat) p x y,i≠0->ρ[i]?≠some (.bor p x y)):bf K O A (ρ.set 0 .no) σ H':=by
 have at_:∀{i:Nat} {b},(ρ.set 0 .no)[i]?=some b->(i=0/\b=.no)∨(i≠0/\ρ[i]?=some b):=fun {i b} e=>by
  by_cases hi:i=0
  ·subst hi
   have aR:0<ρ.length:=(ej.mp h0).1;rw [pF aR] at e;exact .inl ⟨rfl,(gZ e).symm⟩
  ·rw [jy (bY hi)] at e
   exact .inr ⟨hi,e⟩
 have fe:∀{i:Nat} {b v},ρ[i]?=some b->gi b=true->σ[i]?=some (some v)->a5 H' v b=a5 H v b:=fun {i b v} e o e'=>uj fun a ea=>by
  obtain⟨v1,q1,q2,q3⟩:=F.ow i b e o;rw [e'] at q1;cases q1;obtain⟨a',z,ha⟩:=q2.fst;rw [ea] at z;cases z;exact ho a (q3 a ha)
 refine⟨by simp [F.len],L,F.sub,fun i d e=>?_,fun i b e o=>?_,fun i j b c v w lR e1 e2 o1 o2 e3 e4=>?_,fun i p x y e=>?_⟩
 ·rcases at_ e with ⟨_,z⟩ | ⟨_,e'⟩
  ·cases z
  ·obtain⟨v,q1,q2,q3⟩:=F.val i d e'
   exact⟨v,q1,q2.mono hs,q3⟩
 ·rcases at_ e with ⟨_,z⟩ | ⟨_,e'⟩
  ·rw [z] at o; cases o
  ·obtain⟨v,q1,q2,q3⟩:=F.ow i b e' o
   refine⟨v,q1,q2.off (fun a ha=>ho a (q3 a ha)) hs,?_⟩;rw [fe e' o q1];exact q3
 ·rcases at_ e1 with ⟨_,z⟩ | ⟨_,uQ⟩
  ·rw [z] at o1; cases o1
  ·rcases at_ e2 with ⟨_,z⟩ | ⟨_,ij⟩
   ·rw [z] at o2; cases o2
   ·rw [fe uQ o1 e3,fe ij o2 e4]
    exact F.apart i j b c v w lR uQ ij o1 o2 e3 e4
 ·rcases at_ e with ⟨_,z⟩ | ⟨hi,e'⟩
  ·cases z
  ·exact(hb i p x y hi e').elim
theorem uk {H:Hp}{v:V}{x y x' y':List Dt}:a5 H v (.aQ x y)=a5 H v (.aQ x' y'):=by cases v <;> rfl
theorem eQ.fp {A:List Addr}{H H':Hp}{v:V}{x y:List Dt}(h:eQ K A H v x y)(s:aw H H'):a5 H' v (.aQ x y)=a5 H v (.aQ x y):=uj fun a e=>by
 obtain⟨a',e',ha⟩:=h.1.fst;rw [e] at e';cases e';exact kx s (h.1.live ha)
noncomputable def yb (s:SM):Prop:=∀ρ ρ',s ρ=.ok (.nx ρ')->ρ'[0]?=ρ[0]?/\∀(i:Nat) p x y,ρ'[i]?=some (.bor p x y)->ρ[i]?=some (.bor p x y)
theorem Ny {g:aa->M Dt}:yb (iy g):=fun ρ ρ' h=>by
 unfold iy at h
 cases hg:g ρ <;> rw [hg] at h <;> cases h
 exact⟨rfl,fun _ _ _ _ z=>z⟩
theorem z9 {g:aa->M Dt}{i:Nat}:yb (cP g (aL (i+1))):=fun ρ ρ' h=>by
 unfold cP at h
 cases hg:g ρ with
 |ex c=>rw [hg] at h; cases h
 |bad=>rw [hg] at h; cases h
 |ok d=>
  rw [hg] at h;have h:M.ok (Fl.nx (ρ.set (i+1) (.val d)))=.ok (.nx ρ'):=h;cases h;refine⟨by rw [jy (by omega)],fun j p x y z=>?_⟩
  by_cases hj:i+1=j
  ·subst hj
   rw [List.getElem?_set] at z;simp only [if_true] at z
   split at z <;> cases z
  ·rw [jy hj] at z
   exact z
theorem Nx:∀{pre:List SM},(∀s∈pre,yb s)->yb (eG pre)
 | [],_=>fun ρ ρ' h=>by cases h; exact⟨rfl,fun _ _ _ _ z=>z⟩
 |a::r,hk=>fun ρ ρ' h=>by
  have h:aZ a (eG r) ρ=.ok (.nx ρ'):=h;unfold aZ at h
  cases ha:a ρ with
  |ex c=>rw [ha] at h; cases h
  |bad=>rw [ha] at h; cases h
  |ok fl=>
   rw [ha] at h
   cases fl with
   |nx aX=>
    obtain⟨e1,e2⟩:=hk a bH ρ aX ha;obtain⟨e3,e4⟩:=Nx (fun s hs=>hk s (cy _ hs)) aX ρ' h;exact⟨e3.trans e1,fun i p x y z=>e2 i p x y (e4 i p x y z)⟩
   |bk _=>cases h
   |ct _=>cases h
   |rt _=>cases h
theorem Pz {K:ah}{B:List Addr}{H:Hp}{v:V}{ws:List V}{x y ds:List Dt}{p:Option Nat}{n:Nat}(L:cJ H B)(r:av K (ao H B) ds ws)(z:bC ds)(hb:eQ K B H v x y)(t5:∀a,p=some a->v=.ref a) :
  bf K [] B (.bor p x y::(ds.map Bd.val++a7 n .no)) (some v::(ws.map some++a7 n none)) H:=by
 have F0:=Hm L r z n;refine⟨by simp [r.length],L,(fun a z=>nomatch z),fun i d e=>?_,fun i b e o=>?_,fun i j b c v w lR e1 e2 o1 o2 e3 e4=>?_,fun i p' x' y' e=>?_⟩
 ·cases i with
  |zero=>cases e
  |succ i=>exact F0.val i d (by simpa using e)
 ·cases i with
  |zero=>cases e; cases o
  |succ i=>exact F0.ow i b (by simpa using e) o
 ·cases i with
  |zero=>cases e1; cases o1
  |succ i=>
   cases j with
   |zero=>cases e2; cases o2
   |succ j=>exact F0.apart i j b c v w (by omega) (by simpa using e1) (by simpa using e2) o1 o2 (by simpa using e3) (by simpa using e4)
 ·cases i with
  |zero=>cases e; exact⟨v,rfl,t5,hb.1,fun a ha=>⟨hb.2 a ha,fun z=>nomatch z⟩⟩
  |succ i=>exact F0.bo i p' x' y' (by simpa using e)
theorem HP {N ps:List Str}{np n:Nat}{pre:List SM}{fs:aa->M (List Dt)}{e:aa->M Dt}(F:fG K x qual st f fd)(S:bA N ps (az st))(hp:ps.length=np+1)(hn:N.length=np+1+n)(hk:∀s∈pre,yb s)
  (hB:∀(ax:Value) (A:Around) (outer:List Env) (s:Shared) (H:Hp) (E:XK),bF k (A.deeper (envOfC qual (az st) s.heap.objs.size f ax))->
   Rz (cg (aG P w) P w K mg base N qual (az st) f ax A outer s H E) E->eP (cg (aG P w) P w K mg base N qual (az st) f ax A outer s H E) (di st) (UY K cls E pre fs e))
  (hf:ps=[dz]->(az st).names.lookup dz=some .local:=by first | assumption | decide +kernel):cS P w K mg base (aG P w) (k+1) f fd ps (gJ K cls (gU np n (eG pre) fs e)):=by
 have len:∀vs H Q E,gJ K cls (gU np n (eG pre) fs e) vs H Q E->vs.length=np+1:=fun vs H Q E h_=>by
  obtain⟨p,v,ws,A,x,y,ds,e1,_,L,hb,r,z,q⟩:=h_;subst e1;unfold gU at q
  split at q
  ·rename_i hl
   rw [eg,← r.length,hl]
  ·exact(show False from q).elim
 refine F.qm S (fun vs H Q E h=>by rw [hp]; exact len vs H Q E h) (fun ax A outer s H vs Q E hr h R=>⟨_,hB ax A outer s H E hr R,?_⟩) hf;have hv:=len vs H Q E h;obtain⟨p,v,ws,B,x,y,ds,rfl,t5,L,hb,r,z,q⟩:=h;unfold gU at q
 split at q
 rotate_left
 ·exact(show False from q).elim
 rename_i hl;have bj:start N (v::ws)=some v::(ws.map some++a7 n none):=by
  unfold start;rw [hn,hv,vp];rfl
 rw [bj];have Zr:∀(i:Nat) p x y,(ds.map Bd.val++a7 n Bd.no)[i]?≠some (.bor p x y):=fun i p x y e=>by
  rcases eC.mp (kg e) with e | e
  ·obtain⟨d,_,z⟩:=df.mp e
   cases z
  ·have:=List.eq_of_mem_replicate e
   cases this
 have Fb:=Pz (p:=some p) (n:=n) L r z hb fun a ha=>by cases ha; exact t5
 refine pre_of (Hin:=H) (A₀:=B) (ρ:=.bor (some p) x y::(ds.map Bd.val++a7 n .no)) ⟨[],.refl _,L,(fun a z=>nomatch z),Fb⟩ ?_
 cases hm:eG pre (.bor (some p) x y::(ds.map Bd.val++a7 n .no)) with
 |bad=>rw [hm] at q; exact(show False from q).elim
 |ex c=>rw [hm] at q; exact q
 |ok fl=>
  rw [hm] at q
  cases fl with
  |bk ρ=>exact(show False from q).elim
  |ct ρ=>exact(show False from q).elim
  |rt d=>exact(show False from q).elim
  |nx ρ=>
   obtain⟨h0,h1⟩:=Nx hk _ _ hm;have h0:ρ[0]?=some (.bor (some p) x y):=h0;have hb3:∀(i:Nat) p x y,i≠0->ρ[i]?≠some (.bor p x y):=fun i p' x' y' hi e=>by
    have e':=h1 i p' x' y' e
    cases i with
    |zero=>exact hi rfl
    |succ i=>exact Zr i p' x' y' (by simpa using e')
   rintro j8 H1 ⟨os,s1,L1,fr,F1⟩;obtain⟨v1,g1,gp,g2,g3⟩:=F1.bo 0 _ x y h0;obtain rfl:v1=v:=(gp p rfl).trans t5.symm;have GI:eQ K (os++B) H1 v1 x y:=⟨g2,fun a ha=>(g3 a ha).1⟩
   obtain⟨a,C,dx,rh,z1,z2,z3,z4⟩:=GI.look (m:="do_step") (by decide +kernel) (by decide +kernel)
   have q:Rg cls E (uW fs e ρ ρ[0]?) H _:=q;rw [h0] at q;have q:Rg cls E ((fs ρ).bd fun ds=>(k9 x y ds).bd fun r=>(e (ρ.set 0 .no)).calm.bd fun d=>.ok (d,r.2.1,r.2.2)) H _:=q;refine⟨v1,a,C,dx,rh,g1,z1,z2,z3,z4,os,os++B,ρ,F1,?_⟩;refine Rg.heap (Rg.bind q fun Qt _ q2=>q2) s1 fun Qt _ q2=>?_;intro vs H2 s2 r2 Sn;have qV:=GI.mono s2;refine⟨p,v1,vs,os++B,x,y,Qt,rfl,t5,F1.bD.mono s2,qV,r2,Sn,?_⟩;refine Rg.heap (Rg.bind q2 fun r _ q3=>q3) (s1.trans s2) fun r _ q3=>?_;intro u H3 s3 b3 f3 _ _;have e21:a5 H2 v1 (.aQ x y)=a5 H1 v1 (.aQ x y):=GI.fp s2;have HG:a5 H2 v1 (.aQ x y)=a5 H v1 (.aQ x y):=hb.fp (s1.trans s2);have k3:∀b,b∉a5 H2 v1 (.aQ x y)->H2 b≠none->H3 b=H2 b:=fun b hb hn=>by
    cases ee:H2 b with
    |none=>exact(hn ee).elim
    |some o=>exact s3 b o (by rw [cf hb]; exact ee)
   have Vg:∀b,b∈a5 H2 v1 (.aQ x y)->b∈os++B:=fun b hb=>qV.2 b hb;have L3:cJ H3 (os++B):=fun b hb=>by
    by_cases hf:b∈a5 H2 v1 (.aQ x y)
    ·refine b3.1.live (a:=b) ?_
     rw [uk (x':=x) (y':=y),f3];exact hf
    ·rw [k3 b hf (F1.bD.mono s2 b hb)]
     exact F1.bD.mono s2 b hb
   have qJ:aw (ao H2 (os++B)) (ao H3 (os++B)):=fun b o ee=>by
    obtain⟨e1,e2⟩:=dX ee;rw [cf e1,k3 b (fun z=>e1 (Vg b z)) (by rw [e2]; simp)];exact e2
   have ho3:∀b∈os,H3 b=H2 b:=fun b hb=>k3 b (fun z=>by rw [e21] at z; exact(g3 b z).2 hb) (F1.bD.mono s2 b (eT _ hb));refine⟨os,os++B,ρ.set 0 .no,(F1.mono s2).adW h0 L3 qJ ho3 hb3,?_⟩
   cases he:e (ρ.set 0 .no) with
   |bad=>rw [he] at q3; exact(show False from q3).elim
   |ex c=>rw [he] at q3; exact(show False from q3).elim
   |ok d=>
    rw [he] at q3;intro v4 H4 s4 r4 z4;have sB:aw (ao H3 (os++B)) (ao H4 B):=fun b o ee=>Gw b o (s4.ao _ b o ee);refine q3 v4 H4 (fun b o ee=>?_) ⟨b3.1.off (fun b hb=>kx s4 (b3.1.live hb)) sB,?_⟩ ?_ (r4.mono Gw) z4
    ·obtain⟨e1,e2⟩:=dX ee
     have ij:=s2 b o (s1 b o e2);refine s4 b o ?_;rw [k3 b (by rw [HG]; exact e1) (by rw [ij]; simp)];exact ij
    ·intro b bU
     have e4:a5 H4 v1 (.aQ r.2.1 r.2.2)=a5 H v1 (.aQ x y):=by rw [b3.fp s4,uk (x':=x) (y':=y),f3,HG]
     rw [e4] at bU;exact hb.2 b bU
    ·show a5 H4 v1 (.aQ x y)=_
     rw [uk (x':=r.2.1) (y':=r.2.2),b3.fp s4,uk (x':=x) (y':=y),f3,HG]
end
noncomputable def Ll (K:ah):Sp:=fun vs H Q E=>∃a dx C,vs=[.ref a]/\gX K C/\H a=some (.ins C dx [])/\H dx=some (.own a)/\
 ∀l m H',H l=none->H m=none->l≠m->H' a=some (.ins C dx (mh l m))->H' l=some (.lst [])->H' m=some (.lst [])->(∀b,b≠a->b≠l->b≠m->H' b=H b)->Q .aI H'
noncomputable def UR (K:ah):TE:=fun σ H Q=>∀a dx l m C H',gX K C->(∀b∈[a,dx,l,m],H b=none)->[a,dx,l,m].Nodup->H' a=some (.ins C dx (mh l m))->H' dx=some (.own a)->H' l=some (.lst [])->H' m=some (.lst [])->(∀b,b∉[a,dx,l,m]->H' b=H b)->Q (.ref a) H'
noncomputable def JK (P:Program)(w:World)(K:ah)(mg:Str->Option Value)(base:Heap)(k:Nat):Prop:=
 ∃C f fd,gX K C/\mg "Board" = some (.ref C)/\Mk K C f/\cS P w K mg base (aG P w) k f fd ["self"] (Ll K)/\Binds K fd ["self"] []
section
variable {P:Program}{w:World}{K:ah}{mg:Str->Option Value}{base:Heap}{cls:Nat->Addr}{x qual:Str}{st:Stmt}{f:Addr}{fd:FuncData}{k:Nat}
theorem aaY (F:fG K x qual st f fd)(S:bA ["self"] ["self"] (az st))(hB:BY P w K mg base ["self"] qual st f k (UT K)):cS P w K mg base (aG P w) (k+1) f fd ["self"] (Ll K):=by
 refine F.qm S (fun vs H Q E h=>by obtain⟨a,_,_,rfl,_⟩:=h; rfl) (fun ax A outer s H vs Q E hr h R=>⟨_,hB ax A outer s H E hr,?_⟩) (fun z=>by injection z with z; exact absurd z (by decide +kernel));obtain⟨a,dx,C,rfl,hC,h1,h2,q⟩:=h;refine⟨gw _,fun l hl=>⟨_,rfl,a,C,dx,[],rfl,by rw [aF (cH h1 hl)]; exact h1,hC.2.1,hC.2.2.1,by decide,gw _,fun m hm=>⟨_,rfl,a,C,dx,[("done",.ref l)],rfl,?_,hC.2.1,hC.2.2.2,by show (1:Nat)<1000; decide,?_⟩⟩⟩
 ·have tP:a≠m:=fun z=>by rw [← z,aU] at hm; cases hm
  rw [aF tP,aU];rfl
 ·have tP:m≠a:=fun z=>by rw [z,aU] at hm; cases hm
  have MV:l≠a:=(cH h1 hl).symm;rw [aF tP] at hm;have ES:m≠l:=fun z=>by rw [z,aU] at hm; cases hm
  rw [aF ES] at hm;refine q l m _ hl hm (bY ES) ?_ ?_ ?_ fun b z1 z2 z3=>?_
  ·rw [aU]; rfl
  ·rw [aF MV,aF (bY ES),aF MV,aU]
  ·rw [aF tP,aU]
  ·rw [aF z1,aF z3,aF z1,aF z2]
end
section
variable {K:ah}{Hin:Hp}{A₀ os O A:List Addr}{ρ:aa}{σ:St}{H H':Hp}{i:Nat}{a dx l m C:Addr}
theorem cx.Zx (S:cx K Hin A₀ os ρ σ H)(s:aw H H')(hC:gX K C)(hn:∀b∈[a,dx,l,m],H b=none)(nd:[a,dx,l,m].Nodup)(h1:H' a=some (.ins C dx (mh l m)))(h2:H' dx=some (.own a))(h3:H' l=some (.lst []))(h4:H' m=some (.lst [])) :
  cx K Hin A₀ ([a,dx,l,m]++os) (ρ.set i (.aQ [] [])) (σ.set i (some (.ref a))) H':=by
 obtain⟨s0,L0,fr,F⟩:=S;have MW:∀{b},H b≠none->b∉[a,dx,l,m]:=fun {b} h z=>h (hn b z);have abW:aw (ao H (os++A₀)) (ao H' (([a,dx,l,m]++os)++A₀)):=fun b o e=>by
  obtain⟨e1,e2⟩:=dX e;rw [mG,cf fun z=>(eC.mp z).elim (MW (by rw [e2]; simp)) e1];exact s b o e2
 refine⟨s0.trans s,L0,fun b hb=>?_,F.set (fun b hb=>?_) (fun b hb=>eT _ hb) abW (fun b hb _=>⟨eh _ hb,kx s (F.bD b (eT _ hb))⟩) (fun b hb nq=>⟨?_,?_,kx s (F.bD b hb)⟩) (.inr ⟨?_,fun b hb=>?_⟩)⟩
 ·rcases eC.mp hb with z | z
  ·cases e:Hin b with
   |none=>rfl
   |some o=>have:=s0 b o e; rw [hn b z] at this; cases this
  ·exact fr b z
 ·rw [mG] at hb
  rcases eC.mp hb with z | z
  ·simp only [ba,fJ,or_false] at z
   rcases z with rfl | rfl | rfl | rfl <;> simp [*]
  ·exact F.bD.mono s b z
 ·rw [mG]; exact eh _ hb
 ·intro z
  rcases eC.mp z with z | z
  ·exact MW (F.bD b hb) z
  ·exact nq z
 ·refine⟨a,dx,l,m,C,[],[],rfl,hC,h1,h2,h3,h4,?_,⟨.nil,trivial,by simp⟩,.nil,trivial,by simp⟩
  intro z;simp [z] at nd
 ·rw [rj h1] at hb
  exact⟨eT _ hb,.inl fun z=>F.bD b (eT _ z) (hn b hb)⟩
theorem bf.wide (F:bf K O A ρ σ H)(s:aw H H'){B:List Addr}(hB:∀b∈B,H b=none)(hB':∀b∈B,H' b≠none):bf K O (B++A) ρ σ H':=by
 have G:=F.mono s;have sH:aw (ao H A) (ao H' (B++A)):=fun b o e=>by
  obtain⟨e1,e2⟩:=dX e;rw [cf fun z=>(eC.mp z).elim (fun y=>by rw [hB b y] at e2; cases e2) e1];exact s b o e2
 refine⟨G.len,fun b hb=>(eC.mp hb).elim (hB' b) (G.bD b),fun b hb=>eh _ (G.sub b hb),fun i d e=>?_,fun i b e o=>?_,G.apart,fun i p x y e=>?_⟩
 ·obtain⟨v,h1,h2,h3⟩:=F.val i d e
  exact⟨v,h1,h2.mono sH,h3⟩
 ·obtain⟨v,h1,h2,h3⟩:=F.ow i b e o
  obtain⟨v',g1,g2,g3⟩:=G.ow i b e o;rw [h1] at g1;cases g1;exact⟨v,h1,h2.off (fun a ha=>kx s (h2.live ha)) sH,g3⟩
 ·obtain⟨v,h1,hp,h2,h3⟩:=F.bo i p x y e
  obtain⟨v',g1,_,g2,g3⟩:=G.bo i p x y e;rw [h1] at g1;cases g1;exact⟨v,h1,hp,h2.off (fun a ha=>kx s (h2.live ha)) sH,fun a ha=>⟨eh _ (g3 a ha).1,(g3 a ha).2⟩⟩
end
section
variable {X:Cx}{cls:Nat->Addr}{E:XK}{a b c o e:Expr}{f g h:aa->M Dt}{pos apos kq:Pos}{i j k:Nat}{m:Str}{ps:List Str}{es:List Expr}{fs:aa->M (List Dt)}
theorem Xy {p:Pos}(C:JK X.prog X.w X.K X.mg X.base k)(hr:bF (k+1) X.A)(hx:Passes (aG X.prog X.w) X E)(hg:Gl X "Board"):PE X (.Call (.Name "Board" p) [] [] pos) (UR X.K):=by
 obtain⟨C,f,fd,hC,hm,M,F,hb⟩:=C;refine(XB (E:=E) (dvs:=[]) (ds:=[]) M F hr hg hm hb .nil hx).imp fun σ H Q q=>?_;refine fun x dx oQ hdx bN=>⟨x,dx,C,rfl,hC,aU,by rw [aF bN,aU],fun l m H' hl fQ hlm h1 h3 h4 hk=>⟨rfl,?_⟩⟩
 have MT:l≠x:=fun z=>by rw [z,aU] at hl; cases hl
 have MR:m≠x:=fun z=>by rw [z,aU] at fQ; cases fQ
 rw [aF MT] at hl;rw [aF MR] at fQ;have EU:l≠dx:=fun z=>by rw [z,aU] at hl; cases hl
 have ET:m≠dx:=fun z=>by rw [z,aU] at fQ; cases fQ
 rw [aF EU] at hl;rw [aF ET] at fQ;refine q x dx l m C H' hC (fun b hb=>?_) (by simp [bY bN,bY MT,bY MR,bY EU,bY ET,hlm]) h1 ?_ h3 h4 fun b hb=>?_
 ·simp only [ba,fJ,or_false] at hb
  rcases hb with rfl | rfl | rfl | rfl <;> assumption
 ·rw [hk dx bN (bY EU) (bY ET),aF bN,aU]
 ·simp only [ba,fJ,or_false,not_or] at hb
  rw [hk b hb.1 hb.2.2.1 hb.2.2.2,aF hb.1,aF hb.2.1]
theorem Zw {H H':Hp}{ls:List Addr}(hn:∀b∈ls,H b=none)(hk:∀b,b∉ls->H' b=H b):aw H H':=fun b o e=>by
 rw [hk b fun z=>by rw [hn b z] at e; cases e];exact e
end
section
variable {P:Program}{w:World}{K:ah}{mg:Str->Option Value}{base:Heap}{cls:Nat->Addr}
noncomputable def nJ (K:ah)(m qual:Str)(st:Stmt)(ps:List Str):Prop:=∃C f fd,gX K C/\Meth K C m f/\fG K m qual st f fd/\Binds K fd ps []
noncomputable def R9 (K:ah)(mg:Str->Option Value)(st:Stmt):Prop:=∃C f fd,gX K C/\mg "Board" = some (.ref C)/\Mk K C f/\fG K "__init__" "Board.__init__" st f fd/\Binds K fd ["self"] []
theorem Dx {F:Nat->BM}{G:BM}(h:∀p x y ds,F p x y ds=G x y ds):∀vs H Q E,gJ K cls (fun _=>G) vs H Q E->gJ K cls F vs H Q E:=fun vs H Q E ⟨p,v,ws,A,x,y,ds,h1,h2,h3,h4,h5,h6,q⟩=>
 ⟨p,v,ws,A,x,y,ds,h1,h2,h3,h4,h5,h6,by rw [h p x y ds]; exact q⟩
noncomputable def vj (K:ah):Prop:=∃C,gX K C
theorem vj.mk {C:Addr}(h1:nsIn K mainGlobals "Board" = some (some (.ref C)))(h2:plainGet K C Str.empty=true)(h3:hasDictIn K C=true)(h4:plainOver K C=true)(h5:findIn K (.ref C) "__setattr__" = some (some (.builtin "object.__setattr__")))
  (h6:findIn K (.ref C) "done" = some none) (h7:findIn K (.ref C) "undone" = some none):vj K:=⟨C,h1,⟨h2,h3,h4,h5⟩,h6,h7⟩
noncomputable def dN (K:ah)(m qual:Str)(st:Stmt):Prop:=∃(C f:Addr) (oc:Value) (od an:Option Addr) (sl:Array (Option Value)) (kV dc pm cd ct:Value),nsIn K mainGlobals "Board" = some (some (.ref C))/\findIn K (.ref C) m=some (some (.ref f))/\isFn K (.ref f)=true/\keepIn K (.ref f)=true/\
 K.lookup f=some ⟨oc,od,.func (fnOf m qual (fR st) (di st) (az st) .none kV dc pm an cd ct),sl⟩/\codeIn K cd qual=true
theorem dN.mk {m qual:Str}{st:Stmt}{C f:Addr}{oc:Value}{od an:Option Addr}{sl:Array (Option Value)}{kV dc pm cd ct:Value}(h1:nsIn K mainGlobals "Board" = some (some (.ref C)))(h2:findIn K (.ref C) m=some (some (.ref f)))(h3:isFn K (.ref f)=true)(h4:keepIn K (.ref f)=true)
  (h5:K.lookup f=some ⟨oc,od,.func (fnOf m qual (fR st) (di st) (az st) .none kV dc pm an cd ct),sl⟩) (h6:codeIn K cd qual=true):dN K m qual st:=⟨C,f,oc,od,an,sl,kV,dc,pm,cd,ct,h1,h2,h3,h4,h5,h6⟩
theorem dN.fn {m qual:Str}{st:Stmt}{ps:List Str}(H:dN K m qual st)(B:vj K)(hb:∀(kV dc pm:Value) (an:Option Addr) (cd ct:Value) (us:List Value),us.length=ps.length->bindArgs (fnOf m qual (fR st) (di st) (az st) .none kV dc pm an cd ct) ⟨us,[]⟩=pure (ps.zip us)):nJ K m qual st ps:=by
 obtain⟨C,f,oc,od,an,sl,kV,dc,pm,cd,ct,h1,h2,h3,h4,h5,h6⟩:=H;obtain⟨C',hC⟩:=B;have e:=h1.symm.trans hC.1;cases e;exact⟨C,f,_,hC,⟨h2,h3,h4⟩,l6 (st:=st) h5 h6 h4,.all fun us hl=>hb kV dc pm an cd ct us hl⟩
theorem dN.init {h:Heap}{mg:Str->Option Value}{st:Stmt}(H:dN K "__init__" "Board.__init__" st)(B:vj K)(X:K.In h)(G:h.Ns mainGlobals mg)(hmk:∃C,nsIn K mainGlobals "Board" = some (some (.ref C))/\makesIn K C=true/\keepIn K (.ref C)=true)
  (hb:∀(kV dc pm:Value) (an:Option Addr) (cd ct:Value) (us:List Value),us.length=1->bindArgs (fnOf "__init__" "Board.__init__" (fR st) (di st) (az st) .none kV dc pm an cd ct) ⟨us,[]⟩=pure ((["self"]:List Str).zip us)):R9 K mg st:=by
 obtain⟨C,f,oc,od,an,sl,kV,dc,pm,cd,ct,h1,h2,h3,h4,h5,h6⟩:=H;obtain⟨C',hC⟩:=B;obtain⟨C2,g1,g2,g3⟩:=hmk;have e:=h1.symm.trans hC.1;cases e;have e:=h1.symm.trans g1;cases e;exact⟨C,f,_,hC,mg_of X G h1,⟨g2,h2,h3,g3⟩,l6 (st:=st) h5 h6 h4,.all fun us hl=>hb kV dc pm an cd ct us hl⟩
theorem ZJ {C:Addr}(h1:nsIn K mainGlobals "Board" = some (some (.ref C)))(h2:makesIn K C=true)(h3:keepIn K (.ref C)=true):∃C,nsIn K mainGlobals "Board" = some (some (.ref C))/\makesIn K C=true/\keepIn K (.ref C)=true:=⟨C,h1,h2,h3⟩
end
section
variable {M:Model}{A:Around}{E:Value->Shared->Prop}{s:Shared}{base:Heap}{l outer:List Env}{env Qm:Env}{e L:Addr}{cls a0:Value}{h h':Heap}
noncomputable def fh (base:Heap)(l:List Env)(e:Addr)(cls a0:Value)(h:Heap):Prop:=base.StaysIn h/\base.get? e=none/\h.FunFrames base l/\∃fl,h.TracedAtW base e cls a0 fl
theorem fh.of (x:pI base l e cls a0 h):fh base l e cls a0 h:=⟨x.1,x.2.1,x.2.2.1,.none,x.2.2.2⟩
theorem fh.held (x:Heap.HeldW base l e cls a0 L h):fh base l e cls a0 h:=⟨x.1,x.2.1,x.2.2.1,_,x.2.2.2⟩
theorem Zl (h:Qm.frame=env.frame)(v:Value):noteFrame v Qm=noteFrame v env:=by
 unfold noteFrame PySem.frameOf;rw [h]
theorem VE {fr:Option Addr}{Q:Unit->Shared->Prop}(x:fh base l e cls a0 s.heap)
  (hQ:∀h',(fh base l e cls a0 h'/\h'.TracedAtW base e cls a0 (fr.elim .none fun f=>rawInt f))->s.heap.UpToSlots h'->Q () {s with heap:=h'}):wpAny M A (setFlight (.ref e) fr) Q E s:=by
 obtain⟨lQ,lV,hl,fl,oe,vs,T,oT,ts,he,lW,hd,h1,nk,ny,hT,iF,h3⟩:=x;have Ou:3<ts.size:=(Cp.mp h3).1;have other:∀b,b≠T->(s.heap.update T (Obj.mapFields (·.setIfInBounds 3 (fr.elim gu fun f=>rawInt f)))).get? b=s.heap.get? b:=
  fun b hb=>Cj _ _ (bY hb)
 have wC:∀b o,s.heap.get? b=some o->(∀vs,o.data≠.fields vs)->b≠T:=fun b o hb jU q=>by
  rw [q,hT] at hb; injection hb with hb; subst hb; exact jU ts iF
 have tr:(s.heap.update T (Obj.mapFields (·.setIfInBounds 3 (fr.elim gu fun f=>rawInt f)))).TracedAtW base e cls a0 (fr.elim .none fun f=>rawInt f):=
  ⟨oe,vs,T,_,_,(other e (bY ny)).trans he,lW,hd,h1,nk,ny,yJ _ hT (Obj.isFreed_of_fields (yz iF _)),yz iF _,by simp [Ou]⟩
 unfold setFlight;refine wpAny_bind (wpAny_field he hd h1 ?_);rw [if_pos (show (bI T != gu)=true from by simp)];refine wpAny_setField hT iF Ou (hQ _ ⟨⟨fun b o qT=>(other b fun q=>by rw [q,nk] at qT; cases qT).trans (lQ b o qT),lV,hl.of_keeps fun b o hb jU=>⟨o,(other b (wC b o hb jU)).trans hb,rfl⟩,_,tr⟩,tr⟩
  fun b o hb jU=>⟨o.slots,(other b (wC b o hb jU)).trans hb⟩)
theorem MH {Q:Unit->Shared->Prop}(cV:A.frames=some (env::outer))(hf:env.frame=some L)(x:fh base (env::outer) e cls a0 s.heap)
  (hQ:∀h',Heap.HeldW base (env::outer) e cls a0 L h'->s.heap.UpToSlots h'->Q () {s with heap:=h'}):wpAny M A (noteFrame (.ref e) env) Q E s:=by
 obtain⟨lQ,lV,hl,fl,ht⟩:=x
 by_cases oX:(fl==rawInt L)=true
 ·have e1:fl=rawInt L:=by simpa using oX
  subst e1;exact wpAny_noteFrame_againW hf ht (hQ s.heap ⟨lQ,lV,hl,ht⟩ (.refl _))
 ·obtain⟨oe,vs,T,oT,ts,he,⟨lW,h0⟩,hd,h1,nk,ny,hT,iF,h3⟩:=ht
  subst lW;unfold noteFrame;simp only [hf];refine wpAny_bind (wpAny_field he hd h1 ?_);rw [if_pos (show (bI T != gu)=true from by simp)];refine wpAny_bind (wpAny_field hT iF h3 ?_);rw [if_neg oX];refine wpAny_bind (wpAny_setField hT iF (Cp.mp h3).1 ?_);have other:∀b,b≠T->(s.heap.update T (Obj.mapFields (·.setIfInBounds 3 gu))).get? b=s.heap.get? b:=fun b hb=>Cj _ _ (bY hb);have wC:∀b o,s.heap.get? b=some o->(∀vs,o.data≠.fields vs)->b≠T:=fun b o hb jU q=>by
   rw [q,hT] at hb; injection hb with hb; subst hb; exact jU ts iF
  refine wpAny_entryW cV (hl.of_keeps fun b o hb jU=>⟨o,(other b (wC b o hb jU)).trans hb,rfl⟩) hf ((other e (bY ny)).trans he)
   (fun b o qT=>(other b fun q=>by rw [q,nk] at qT; cases qT).trans (lQ b o qT)) lV hd (Cp.mp h1).1 h0
   fun h' ⟨x1,x2,x3,x4⟩=>hQ h' ⟨x1,lV,x2,x3⟩ fun b o hb jU=>x4 b o ((other b (wC b o hb jU)).trans hb) jU
theorem aai {Q:Unit->Shared->Prop}(cV:A.frames=some (env::outer))(hf:env.frame=some L)(x:fh base (env::outer) e cls a0 s.heap)
  (hQ:∀h',pI base outer e cls a0 h'->s.heap.UpToSlots h'->Q () {s with heap:=h'}):wpAny M A (leaving env (.ref e)) Q E s:=by
 unfold leaving;refine wpAny_bind (MH cV hf x fun h' hh up=>?_);refine wpAny_landsW hh fun iG oX TX=>?_;obtain⟨k1,k2,⟨_,_,k3⟩,k4⟩:=oX;exact hQ iG ⟨k1,k2,k3,k4⟩ (up.trans TX)
theorem XM {α:Type}{Ts:String}{Q:α->Shared->Prop}(x:fh base l e cls a0 s.heap)(hE:∀h',fh base l e cls a0 h'->s.heap.UpToSlots h'->E (.ref e) {s with heap:=h'}):wpAny M A (PySem.passOn Ts (.ref e) env:Sem α) Q E s:=by
 have x':=x;obtain⟨lQ,lV,hl,fl,oe,vs,T,oT,ts,he,lW,hd,h1,nk,ny,hT,iF,h3⟩:=x;unfold PySem.passOn;refine wpAny_bind (wpAny_field he hd h1 ?_);rw [if_neg (show ¬ (bI T==gu)=true from by simp)];refine wpAny_bind (VE x' fun h' hh up=>?_);exact wpAny_throw (hE h' hh.1 up)
theorem fh.off {C:Addr}{oC:Obj}(x:fh base l e cls a0 h)(hC:base.get? C=none)(hl:C∉aE l)(ho:h.get? C=some oC)(hd:∀vs,oC.data≠.fields vs)(sb:j9 C h h'):fh base l e cls a0 h':=by
 obtain⟨lQ,lV,oX,fl,oe,vs,T,oT,ts,he,lW,AB,h1,nk,ny,hT,iF,h3⟩:=x;have ne:e≠C:=fun z=>by rw [z,ho] at he; injection he with he; subst he; exact hd vs AB
 have nT:T≠C:=fun z=>by rw [z,ho] at hT; injection hT with hT; subst hT; exact hd ts iF
 refine⟨fun b o q=>(sb.2 b fun z=>by rw [z,hC] at q; cases q).trans (lQ b o q),lV,?_,fl,oe,vs,T,oT,ts,(sb.2 e ne).trans he,lW,AB,h1,nk,ny,(sb.2 T nT).trans hT,iF,h3⟩
 clear lQ he hT
 induction l with
 |nil=>trivial
 |cons v r ih=>
  obtain⟨k1,⟨L,o,k2,k3,k4,k5⟩,k6⟩:=oX;have hm:aE (v::r)=L::aE r:=by unfold aE; rw [fX,k2]
  rw [hm] at hl;exact⟨k1,⟨L,o,k2,k3,(sb.2 L fun z=>hl (z ▸ bH)).trans k4,k5⟩,ih (fun z=>hl (cy _ z)) k6⟩
end
inductive mi (X:Cx) (E:XK) (ea Cc:Addr) (H':Hp) (B:Heap) (s':Shared):Prop
 |mk (h1:s'.os=X.aH.os) (h2:AllBare s'.gens) (h3:cq X.prog X.w H' B)
  (h4:∀b o,X.aH.heap.get? b=some o->X.aY b=none->b∉aE X.outer->B.get? b=some o) (h5:∀b o,X.aH.heap.get? b=some o->b∉aE X.outer->∃o',B.get? b=some o')
  (h6:∀b o,X.aH.heap.get? b=some o->X.aY b=none->H' b=none) (h7:∀b xs,X.aY b=some (.tup xs)->H' b=some (.tup xs)) (h8:∀b o u,X.aY b=some (.bq o u)->H' b=some (.bq o u)) (h9:∀b q,X.aY b=some (.du q)->H' b=some (.du q))
  (o3:H' ea=none) (qX:E (.ref Cc) none H')
  (nz:∀b o,X.aH.heap.get? b=some o->X.aY b=none->b∈aE X.outer->(∀vs,o.data≠.fields vs)/\∃sl,s'.heap.get? b=some {o with slots:=sl}):mi X E ea Cc H' B s'
inductive xX (X:Cx) (E:XK) (C:Addr) (e:Value) (s':Shared):Prop
 |mk (ea Cc:Addr) (H':Hp) (B:Heap) (a0:Value) (e1:e=.ref ea) (f:fh B X.stack ea (.ref Cc) a0 s'.heap) (n:B.get? C=none) (r:mi X E ea Cc H' B s'):xX X E C e s'
structure Plain (X:Cx) (E:XK):Prop where
 ex:X.ex=[]
 st:X.stack=X.env::X.outer
 fr:∃L,X.env.frame=some L
 held:∀C e s',xX X E C e s'->X.xe e s'
section
variable {X:Cx}{E:XK}{pins:List (Addr×Obj)}{σ:St}{H:Hp}{s s':Shared}{C:Addr}{e:Value}
theorem less_none {B B':Heap}(k:∀b o,B'.get? b=some o->B.get? b=some o){b:Addr}(h:B.get? b=none):B'.get? b=none:=by
 cases q:B'.get? b with
 |none=>rfl
 |some o=>rw [k b o q] at h; cases h
theorem Pr {B B' h:Heap}(k:∀b o,B'.get? b=some o->B.get? b=some o):∀{l:List Env},h.FunFrames B l->h.FunFrames B' l
 | [],_=>trivial
 |v::r,⟨k1,⟨L,o,k2,k3,k4,k5⟩,k6⟩=>⟨k1,⟨L,o,k2,less_none k k3,k4,k5⟩,Pr k k6⟩
theorem fh.less {B B' h:Heap}{l:List Env}{e:Addr}{cls a0:Value}(x:fh B l e cls a0 h)(k:∀b o,B'.get? b=some o->B.get? b=some o):fh B' l e cls a0 h:=by
 obtain⟨lQ,lV,oX,fl,oe,vs,T,oT,ts,he,lW,AB,h1,nk,ny,hT,iF,h3⟩:=x;exact⟨fun b o q=>lQ b o (k b o q),less_none k lV,Pr k oX,fl,oe,vs,T,oT,ts,he,lW,AB,h1,less_none k nk,ny,hT,iF,h3⟩
theorem ab8 (hX:Plain X E)(I:Inv X pins σ H s)(hc:aG X.prog X.w X.stack H s E e s'){oC:Obj}(hC:s.heap.get? C=some oC)(hn:H C=none)(lU:X.aH.heap.objs.size<=C):xX X E C e s':=by
 obtain⟨ea,Cc,H',B,a0,rfl,nh,hb,fl,ar,un,kH,mM,gj,hE⟩:=hc;have bM:∀b:Addr,b∉X.ex:=fun b z=>by rw [hX.ex] at z; exact nomatch z
 have AK:H' C=none:=un.free C oC hC hn (by simp);have sub:∀b o,(hideAll B [C]).get? b=some o->B.get? b=some o:=fun b o q=>of_hideAll [C] q;have qv:∀{b o},X.aH.heap.get? b=some o->b∉[C]:=fun {b o} q z=>by
  rw [jv] at z;rw [z] at q;exact absurd (aV q) (mJ.mpr lU)
 have old:∀b o,X.aH.heap.get? b=some o->b∉aE X.outer->b∉aE X.stack:=fun b o q hb z=>by
  rcases ba.mp (I.jE b z) with e | e
  ·exact absurd (aV q) (by have:=I.ok.above; rw [e]; exact mJ.mpr this)
  ·exact hb e
 have up:∀b,b∈aE X.outer->b∈aE X.stack:=fun b hb=>by
  rw [hX.st];unfold aE;rw [fX]
  split
  ·exact hb
  ·exact cy _ hb
 refine⟨ea,Cc,H',hideAll B [C],a0,rfl,(fh.of fl).less sub,hideAll_none [C] (jv.mpr rfl),nh.trans I.os,hb,fun a o q=>?_,fun b o q n hb=>?_,fun b o q hb=>?_,fun b o q n=>?_,fun b xs q=>un.eD b xs (I.base.eD b xs q),fun b o u q=>un.d6 b o u (I.base.d6 b o u q),fun b q z=>un.dH b q (I.base.dH b q z),gj,hE,fun b o q n hb=>?_⟩
 ·refine(ar a o q).iu (fun b u hb r=>hideAll_get [C] r fun z=>?_) (fun _ z=>z) fun _ _ z=>z
  rw [jv] at z;subst z;rcases hb with hb | hb
  ·rw [hb,q] at AK; cases AK
  ·rw [hb] at AK; cases AK
 ·exact hideAll_get [C] (kH b o (I.base.keep b o q n hb (bM b)) (I.base.free b o q n (bM b)) (old b o q hb)) (qv q)
 ·obtain⟨o',q'⟩:=I.base.there b o q (bM b)
  obtain⟨o2,q2⟩:=mM b o' q' (old b o q hb);exact⟨o2,hideAll_get [C] q2 (qv q)⟩
 ·obtain⟨o',q'⟩:=I.base.there b o q (bM b)
  exact un.free b o' q' (I.base.free b o q n (bM b)) (by simp)
 ·obtain⟨sl,q'⟩:=I.base.slot b o q n hb (bM b)
  obtain⟨oh,gL⟩:=un.slot b _ q' (I.base.free b o q n (bM b)) (up b hb) (by simp);obtain⟨_,o2,q2,nf⟩:=I.ok.en.mem hb;have oy:X.aH.heap.get? b=some o2:=q2;rw [q] at oy;cases oy;exact⟨nf,oh,gL⟩
theorem mi.up {ea Cc:Addr}{H':Hp}{B h':Heap}(x:mi X E ea Cc H' B s')(hu:∀b o,X.aH.heap.get? b=some o->(∀vs,o.data≠.fields vs)->∀sl,s'.heap.get? b=some {o with slots:=sl}->∃dQ,h'.get? b=some {o with slots:=dQ}):mi X E ea Cc H' B {s' with heap:=h'}:=by
 obtain⟨h1,h2,h3,h4,h5,h6,h7,h8,h9,o3,qX,nz⟩:=x;refine⟨h1,h2,h3,h4,h5,h6,h7,h8,h9,o3,qX,fun b o q n hb=>?_⟩;obtain⟨nf,sl,q2⟩:=nz b o q n hb;exact⟨nf,hu b o q nf sl q2⟩
theorem mi.slots {ea Cc:Addr}{H':Hp}{B h':Heap}(x:mi X E ea Cc H' B s')(up:s'.heap.UpToSlots h'):mi X E ea Cc H' B {s' with heap:=h'}:=x.up fun b o q nf sl q2=>by
 obtain⟨dQ,q3⟩:=up b _ q2 nf;exact⟨dQ,q3⟩
theorem ab7 {C:Addr}{m:Str->Option Value}(hX:Plain X E)(cV:X.A.frames=some X.stack)(x:xX X E C e s')(lU:X.aH.heap.objs.size<=C)(ud:C∉aE X.stack)(hm:s'.heap.Ns C m){jY:Env}(nu:jY.frame=X.env.frame){acc:Value}{use:Option (Value->Sem Unit)}{Q:Value->Shared->Prop} :
  notedBy (model X.prog X.w) X.A jY (fun e gc=>compPost (model X.prog X.w) X.A X.xe use Q acc C (.error e) gc) e s':=by
 obtain⟨L,hL⟩:=hX.fr;obtain⟨ea,Cc,H',B,a0,rfl,h3,h4,hr⟩:=x;unfold notedBy;rw [Zl nu];have Pb:=h3;rw [hX.st] at cV Pb;refine MH cV hL Pb fun h' hh up=>?_;have fQ:=up.ns hm;refine⟨m,fQ,fun h2 sb ajm hl=>?_⟩;have f1:fh B X.stack ea (.ref Cc) a0 h':=by rw [hX.st]; exact fh.held hh
 obtain⟨oC,es,ep,Ax,hdC,_⟩:=fQ;have f2:=f1.off h4 ud Ax (fun vs z=>by rw [hdC] at z; cases z) sb;have r1:mi X E ea Cc H' B {s' with heap:=h'}:=hr.slots up;have r2:mi X E ea Cc H' B {s' with heap:=h2}:=r1.up fun b o q nf sl q2=>⟨sl,(sb.2 b fun z=>by
  rw [z] at q;exact absurd (aV q) (mJ.mpr lU)).trans q2⟩
 refine XM f2 fun h5 f5 CW=>hX.held C _ _ ⟨ea,Cc,H',B,a0,rfl,f5,h4,r2.slots CW⟩
end
section
variable {P:Program}{w:World}{K:ah}{mg:Str->Option Value}{base:Heap}{N:List Str}{qual:Str}{scope:Scope}{f:Addr}{cd:Value}{A:Around}{outer:List Env}{aH:Shared}{aY:Hp}{E:XK}
theorem ja (cV:(cg (aG P w) P w K mg base N qual scope f cd A outer aH aY E).A.frames=some (cg (aG P w) P w K mg base N qual scope f cd A outer aH aY E).stack)(ab2:∀b∈aE outer,aY b=none):Plain (cg (aG P w) P w K mg base N qual scope f cd A outer aH aY E) E where
 ex:=rfl
 st:=rfl
 fr:=⟨_,rfl⟩
 held:=by
  intro C e s' ⟨ea,Cc,H',B,a0,e1,fl,_,h1,h2,h3,h4,h5,h6,h7,h8,h9,o3,qX,nz⟩;subst e1;refine aai cV rfl fl fun iG jh up=>?_;refine⟨ea,Cc,H',B,a0,rfl,h1,h2,jh,h3,⟨fun b o q n hb _=>jh.1 b o (h4 b o q n hb),fun b o q n hb _=>?_,fun b o q n _=>h6 b o q n,fun b o q _=>?_,h7,h8,h9⟩,h4,h5,o3,qX⟩
  ·obtain⟨nf,sl,q2⟩:=nz b o q n hb
   obtain⟨dQ,q3⟩:=up b _ q2 nf;exact⟨dQ,q3⟩
  ·by_cases hb:b∈aE outer
   ·obtain⟨nf,sl,q2⟩:=nz b o q (ab2 b hb) hb
    obtain⟨dQ,q3⟩:=up b _ q2 nf;exact⟨_,q3⟩
   ·obtain⟨o',q'⟩:=h5 b o q hb
    exact⟨o',jh.1 b o' q'⟩
end
theorem aeE {prog:Program}{w:World}{A:Around}{R:Result->Shared->Prop}{s:Shared}{elt target iter:Expr}{ifs:List Expr}{scope:Scope}{pos:Pos}{it acc:Value}{env:Env}(I:Nat->Shared->Prop)
  (turn:∀n s,I n s->wpAny (model prog w) A (pyNext it) (fun r aT=>match r with
   |none=>R (.ok .next) aT
   |some v=>wpAny (model prog w) A (letOwnedTupleGo target it v) (fun _ vS=>wpAny (model prog w) A (assign target env v) (fun _ gD=>
     wpAny (model prog w) A (forIn ifs true fun c r=>if r=true then do let ok ← isTrue c env (eval c env); pure (nR ok) else pure (nR r)) (fun ok gB=>
      if ok=true then wpAny (model prog w) A (eval elt env) (fun x mQ=>
       wpAny (model prog w) A (call (.builtin "list.append") [acc,x]) (fun _ vR=>∃m,m<n/\I m vR) (notedBy (model prog w) A env fun x s'=>R (.error x) s') mQ) (notedBy (model prog w) A env fun x s'=>R (.error x) s') gB
      else ∃m,m<n/\I m gB) (notedBy (model prog w) A env fun x s'=>R (.error x) s') gD) (notedBy (model prog w) A env fun x s'=>R (.error x) s') vS) (notedBy (model prog w) A env fun x s'=>R (.error x) s') aT) (notedBy (model prog w) A env fun x s'=>R (.error x) s') s)
  (n:Nat) (h:I n s) :
  codeAny (model prog w) A (.compLoop (.ListComp elt [⟨target,iter,ifs,0⟩] scope pos) 0 it acc env) R s:=by
 refine codeAny_loop rfl I (fun n s hI=>?_) n h;show wpAny _ A ((compTurn (.ListComp elt [⟨target,iter,ifs,0⟩] scope pos) 0 it acc env).onRaise (fun x=>do noteFrame x env; theTreesLotGoes x)) _ _ s;refine wpAny_noted ?_;rw [compTurn_list];refine wpAny_bind (wpAny_standAt (wpAny_bind (wpAny_mono (turn n s hI) (fun r aT el=>?_) fun _ _ h'=>h')))
 cases r with
 |none=>exact wpAny_pure el
 |some v=>
  refine wpAny_bind (wpAny_mono el (fun _ vS FU=>?_) fun _ _ h'=>h');refine wpAny_bind (wpAny_mono FU (fun _ gD qE=>wpAny_bind (wpAny_mono qE (fun ok gB kK=>?_) fun _ _ h'=>h')) fun _ _ h'=>h')
  cases ok with
  |false=>
   simp only [cT,if_false] at kK ⊢;exact wpAny_bind (wpAny_pure (wpAny_pure ⟨rfl,kK⟩))
  |true=>
   simp only [if_true] at kK ⊢;refine wpAny_bind (wpAny_bind (wpAny_mono kK (fun x mQ FR=>wpAny_bind (wpAny_mono FR (fun _ vR FQ=>wpAny_pure (wpAny_pure ⟨rfl,FQ⟩)) fun _ _ h'=>h')) fun _ _ h'=>h'))
noncomputable def iK (X:Cx)(E:XK)(scope:Scope)(N:List Str)(pins:List (Addr×Obj))(fp:List Addr)(s:Shared)(H:Hp):Cx:=
 (bZ X scope N pins fp s H).jz fun e s'=>∃gg aJ H' s1,Inv (bZ X scope N pins fp s H) gg aJ H' s1/\aG X.prog X.w X.stack H' s1 E e s'
theorem zH {X:Cx}{E:XK}{scope:Scope}{N:List Str}{pins:List (Addr×Obj)}{fp:List Addr}{s:Shared}{H:Hp}:Passes (aG X.prog X.w) (iK X E scope N pins fp s H) E:=fun gg aJ H' s1 e s' I hc=>⟨gg,aJ,H',s1,I.ki,hc⟩
section
variable {X:Cx}{scope:Scope}{N:List Str}{k:Nat}{fr:List Nat}{tg iter elt:Expr}{ifs:List Expr}{wi:TI}{g:TG}{tc:TT}{te:TE}{pos:Pos}
theorem afg {EX:XK}{pins:List (Addr×Obj)}{σ:St}{H:Hp}{s:Shared}{it:Addr}{fp:List Addr}{tn:Nat->Heap->Prop}{J:It}{Q:VK}{RR:Value->Addr->Result->Shared->Prop}{E:Value->Shared->Prop}
  (hc:X.calm=true) (S:eB X scope N k fr) (hg:∀pins fp s H,PG (iK X EX scope N pins fp s H) tg g) (ht:∀pins fp s H,jl (iK X EX scope N pins fp s H) ifs tc) (he:∀pins fp s H,PE (iK X EX scope N pins fp s H) elt te) (hX:Plain X EX)
  (hRE:∀acc C e s' m,xX X EX C e s'->X.aH.heap.objs.size<=C->C∉aE X.stack->s'.heap.Ns C m->∀jY:Env,jY.frame=X.env.frame->notedBy (model X.prog X.w) X.A jY (fun x gc=>RR acc C (.error x) gc) e s')
  (I:Inv X pins σ H s) (T:Turn X.prog X.w X.K tg J fp it tn) (st:tn 0 s.heap) (hf:∀b∈fp,fH X pins H b) (h:oq k fr g tc te σ J H Q)
  (hR:∀D C s' (H':Hp),Q (.ref D) H'->fH X pins H' C->(∃m,s'.heap.Ns C m)->(∀h',j9 C s'.heap h'->Inv X pins σ H' {s' with heap:=h'})->RR (.ref D) C (.ok .next) s') :
  wpAny (model X.prog X.w) X.A (newList []) (fun acc gB=>wpAny (model X.prog X.w) X.A (newFunctionEnv scope X.env.globals (d7 scope.names X.env.cells) [] X.env.qual none .none (some X.env)) (fun jY mQ=>
   codeAny (model X.prog X.w) X.A (.compStart (.ListComp elt [⟨tg,iter,ifs,0⟩] scope pos) 0 (.ref it) acc {jY with scope:=relabel scope X.env}) (RR acc jY.locals) mQ) E gB) E s:=by
 refine wpAny_newObj_type (MX ?_)
 dsimp only
 have I3:Inv X pins σ (upd H s.heap.objs.size (.lst [])) {s with heap:=s.heap.push {cls:=.type "list",dict:=none,data:=.seq ([]:List Value).toArray}}:=
  I.laid (t':=s.toks) (fun b u e=>aW _ e) (bc _) ⟨by simp,[],_,.nil,cN _ rfl⟩
 generalize qW:({s with heap:=s.heap.push {cls:=.type "list",dict:=none,data:=.seq ([]:List Value).toArray}}:Shared)=s3 at I3
 have e3:s.heap.push {cls:=.type "list",dict:=none,data:=.seq ([]:List Value).toArray}=s3.heap:=by rw [← qW]
 rw [e3];generalize hD:s.heap.objs.size=D at I3 ⊢;have GQ:H D=none:=I.ar.fresh (by omega);obtain⟨W,⟨m0,w0⟩,turn⟩:=h D GQ;have Gz:∀b∈fp,b≠D:=fun b hb z=>by
  obtain⟨o,e,_⟩:=T.obj 0 _ st b hb;exact absurd (aV e) (by rw [z,← hD]; exact fm _)
 have oY:∀b∈fp,fH X pins (upd H D (.lst [])) b:=fun b hb=>⟨by rw [aF (Gz b hb)]; exact(hf b hb).1,(hf b hb).2⟩
 have vJ:∀b o,s.heap.get? b=some o->s3.heap.get? b=some o:=fun b o e=>by rw [← e3]; exact aW _ e
 have aR:∀b∈fp,b<s3.heap.objs.size:=fun b hb=>by
  obtain⟨o,e,_⟩:=T.obj 0 _ st b hb;exact aV (vJ b o e)
 have wQ:∀b o,s3.heap.get? b=some o->(pushCells (s3.heap.push {cls:=.type "dict",data:=.dict #[]}) scope.names).get? b=some o:=fun b o e=>pushCells_keeps _ _ b o (aW _ e)
 have wA:=(Heap.Ns.new s3.heap (.type "dict")).keeps (pushCells_keeps scope.names _)
 have xG:∀x c,(cellsFrom (s3.heap.objs.size+1) scope.names (d7 scope.names X.env.cells)).lookup x=some c->∃v,(pushCells (s3.heap.push {cls:=.type "dict",data:=.dict #[]}) scope.names).IsCell c v:=by
  have q:=Bb scope.names (s3.heap.push {cls:=.type "dict",data:=.dict #[]}) (d7 scope.names X.env.cells) fun z d e=>by
   obtain⟨v,q⟩:=I3.cell z d (rF (S.cells I.ok) e);exact⟨v,q.keeps fun b o e=>aW _ e⟩
  rwa [kc] at q
 generalize abX:pushCells (s3.heap.push {cls:=.type "dict",data:=.dict #[]}) scope.names=el at wQ wA xG ⊢
 have keep:∀b o,s3.heap.get? b=some o->el.get? b=some o:=wQ;have Gh:=wA;have iw:tn 0 el:=T.keep 0 _ _ st fun b hb o e=>keep b o (vJ b o e);have HD:({s with heap:=el,toks:=s.toks}:Shared)={s3 with heap:=el,toks:=s.toks}:=by rw [← qW]
 have IC:Inv (bZ X scope N pins fp s3 (upd H D (.lst []))) [] (cU k fr σ) (upd H D (.lst [])) {s3 with heap:=el,toks:=s.toks}:=Of S I3 oY aR Gh keep xG;rw [← HD] at IC;have pX:∀{H':Hp},(∀b∈fp,H' b=none)->∀b∈fp,fH (bZ X scope N pins fp s3 (upd H D (.lst []))) [] H' b:=fun hn b hb=>
  ⟨hn b hb,bJ (aR b hb),fun z=>by
   rcases ba.mp (I3.jE b z) with q | q
   ·exact(hf b hb).2.1 q
   ·exact(hf b hb).2.2.1 q,.inl hb,fun x c qQ=>by
   rcases S.look I.ok qQ with ⟨a,_⟩ | ⟨a,_⟩
   ·intro z
    exact fm _ (cB (aR b hb) (z ▸ c9 (rV _) a))
   ·exact(hf b hb).2.2.2.2.1 x c a,fun p hp=>by
   have dJ:p∈X.pn++pins:=by
    have hV:p∈(X.pn++pins)++[]:=hp;simpa using hV
   exact(hf b hb).2.2.2.2.2 p dJ⟩
 have ud:s3.heap.objs.size∉aE X.stack:=fun z=>by
  rcases ba.mp (I3.jE _ z) with e | e
  ·exact absurd I3.lt (by rw [← e]; exact fm _)
  ·exact I3.MJ (bc _) e
 have GL:∀e s',(iK X EX scope N pins fp s3 (upd H D (.lst []))).xe e s'->notedBy (model X.prog X.w) X.A (bZ X scope N pins fp s3 (upd H D (.lst []))).env (fun x gc=>RR (.ref D) s3.heap.objs.size (.error x) gc) e s':=by
  rintro e s' ⟨gg,aJ,H',s1,I',fA⟩;have IX:=EG I3 oY I' (.refl ..);obtain⟨m,⟨oC,es,ep,Ax,rC⟩,_⟩:=I'.loc;have hu:=fA;obtain⟨_,_,_,_,_,_,_,_,_,_,un,_⟩:=hu;have hk:=un.keep _ oC Ax I'.free ud (by simp);exact hRE (.ref D) _ e s' m (ab8 hX IX fA Ax I'.free I3.sz) I3.sz ud ⟨oC,es,ep,hk,rC⟩ _ rfl
 have loop:∀s4:Shared,Inv (bZ X scope N pins fp s3 (upd H D (.lst []))) [] (cU k fr σ) (upd H D (.lst [])) s4->tn 0 s4.heap->
   codeAny (model X.prog X.w) X.A (.compLoop (.ListComp elt [⟨tg,iter,ifs,0⟩] scope pos) 0 (.ref it) (.ref D) (bZ X scope N pins fp s3 (upd H D (.lst []))).env) (RR (.ref D) s3.heap.objs.size) s4:=by
  intro s4 I4 Dw;refine aeE (fun n s'=>∃i ys aJ H',Inv (bZ X scope N pins fp s3 (upd H D (.lst []))) [] aJ H' s'/\tn i s'.heap/\(∀b∈fp,H' b=none)/\W i n ys aJ H') ?_ m0 ⟨0,[],_,_,I4,Dw,fun b hb=>(oY b hb).1,w0⟩;rintro n s5 ⟨i,ys,mw,H5,I5,mR,ri,w5⟩;obtain⟨hD5,qS⟩:=turn i n ys mw H5 w5;rcases qS with ⟨stop,q⟩ | ⟨go,m',hm,step⟩
  ·refine aC (T.done (bZ X scope N pins fp s3 (upd H D (.lst []))) rfl rfl rfl hc i [] s5 mw H5 _ I5 (pX ri) mR stop) fun r s6 ⟨hr,I6⟩=>?_
   subst hr;obtain⟨m6,Gj,_⟩:=I6.loc;exact hR D _ s6 H5 q (I3.o5 (bc _) I6.free) ⟨m6,Gj⟩ fun h' sb=>EG I3 oY I6 sb
  ·refine pT (T.item (bZ X scope N pins fp s3 (upd H D (.lst []))) rfl rfl rfl hc i [] s5 mw H5 _ I5 (pX ri) mR go) fun r s6 abi ⟨u,hr,h6⟩=>?_
   subst hr;refine aC h6 fun _ s7 h_=>?_;obtain⟨x,H7,I7,r7,y7,pY,Hi⟩:=h_;have JF:=I7.pinned (pX Hi) (T.obj _ _ pY);refine aC (wpAny_mono (hg pins fp s3 _ _ s7 mw H7 x u _ (JF.jz _) r7 (step x H7 y7)) (fun _ _ z=>z) GL) fun _ s8 h_=>?_;obtain⟨d9,H8,I8,q8⟩:=h_;refine aC (wpAny_mono (ht pins fp s3 _ _ s8 d9 H8 _ I8 q8) (fun _ _ z=>z) GL) fun b s9 h_=>?_;obtain⟨H9,R5,q9⟩:=h_;have I9:=R5.ki;have again:∀{H':Hp} {s':Shared},Inv (bZ X scope N pins fp s3 (upd H D (.lst []))) ([]++tN fp s7.heap) d9 H' s'->tn (i+1) s'.heap/\(∀b∈fp,H' b=none):=fun {H' s'} I'=>by
    refine⟨T.keep _ _ _ pY fun b hb o e=>(I'.pin (b,o) (eh _ (eh _ (tQ hb e)))).1,fun b hb=>?_⟩;obtain⟨o,e,d⟩:=T.obj _ _ pY b hb;exact(I'.pin (b,o) (eh _ (eh _ (tQ hb e)))).2.1
   cases b with
   |false=>
    simp only [cT,if_false] at q9 ⊢;obtain⟨a1,a2⟩:=again I9;exact⟨m',hm,i+1,ys,d9,H9,I9.pQ,a1,a2,q9⟩
   |true=>
    simp only [if_true] at q9 ⊢;refine aC (wpAny_mono (he pins fp s3 _ _ s9 d9 H9 _ R5 q9) (fun _ _ z=>z) GL) fun y D5 h_=>?_;obtain⟨v,ye,aiP,Em,GV,Gn,Eo⟩:=h_;have JG:=aiP.ki;refine aC (wpAny_mono (zZ (X:=bZ X scope N pins fp s3 (upd H D (.lst []))) _ D5 d9 ye (.ref D) [v] (.ref D) [y] (fun z H'=>z=.aI/\H'=upd ye D (.lst (ys++[v]))) JG rfl (.cons Em .nil) ⟨D,ys,v,rfl,rfl,GV,Gn,rfl,rfl⟩) (fun _ _ z=>z) fun _ _ z=>z.elim) fun z Ww h_=>?_;obtain⟨v11,H11,yd,_,_,HI⟩:=h_;subst HI;obtain⟨a1,a2⟩:=again yd;exact⟨m',hm,i+1,ys++[v],d9,_,yd.pQ,a1,a2,Eo⟩
 exact codeAny_compStart_list (loop _ IC iw) (T.self X.A 0 _ _ _ iw (loop _ IC iw))
theorem Mf {EX:XK}(hX:X.A.frames=some X.stack->(∀b∈aE X.outer,X.aY b=none)->Plain X EX)(hc:X.calm=true)(S:eB X scope N k fr)(hi:PI X tg iter wi)(hg:∀pins fp s H,PG (iK X EX scope N pins fp s H) tg g)(ht:∀pins fp s H,jl (iK X EX scope N pins fp s H) ifs tc)
  (he:∀pins fp s H,PE (iK X EX scope N pins fp s H) elt te) (hs:∀x,foldedSetIterable iter X.env x=pure x:=by intro _; rfl):PE X (.ListComp elt [⟨tg,iter,ifs,0⟩] scope pos) (tD k fr wi g tc te):=by
 intro pins s σ H Q I h;have hP:=hX I.ok.frames I.ok.gq;rw [eval_ListComp];refine wpAny_comprehension_free (use:=none) rfl hs (Ba (S.cells I.ok)) S.kind S.locals (pT (hi pins s σ H _ I h) fun v s1 t1 h1=>aC h1 fun wV s2 h2=>?_);obtain⟨it,fp,tn,J,H2,e,I2,T,gG,f2,q⟩:=h2;subst e;refine afg (RR:=fun acc C=>compPost (model X.prog X.w) X.A X.xe none (EP X pins σ Q) acc C) hc S hg ht he hP (fun acc C e s' m x lU ud hm jY nu=>ab7 hP I.ok.frames x lU ud hm nu) I2 T gG f2 q ?_;intro D C s' H' q' _ hn inv;obtain⟨m,hn⟩:=hn;exact⟨m,hn,fun h' sb=>(fun ht=>⟨.ref D,H',inv h' sb,rfl,q'⟩)⟩
end
noncomputable def xZ (K:ah)(cls:Nat->Addr)(A:List Addr)(E:XK)(H1:Hp)(Q:VK)(us:List Dt):M (List Dt)->Prop
 |.ok ws=>∀v H',aw H1 H'->Rep K (ao H' A) (.lst (us++ws)) v->bC (us++ws)->(us++ws).length<=10000->Q v H'
 |.ex c=>∀H',aw H1 H'->E (.ref (cls c)) none H'
 |.bad=>False
theorem xZ.cons {K:ah}{cls:Nat->Addr}{A:List Addr}{E:XK}{H1:Hp}{Q:VK}{us:List Dt}{x:Dt}{m:M (List Dt)}(h:xZ K cls A E H1 Q us (m.bd fun xs=>.ok (x::xs))):xZ K cls A E H1 Q (us++[x]) m:=by
 cases m with
 |ok ws=>
  have h:∀v H',aw H1 H'->Rep K (ao H' A) (.lst (us++(x::ws))) v->bC (us++(x::ws))->(us++(x::ws)).length<=10000->Q v H':=h;show ∀v H',aw H1 H'->Rep K (ao H' A) (.lst ((us++[x])++ws)) v->bC ((us++[x])++ws)->((us++[x])++ws).length<=10000->Q v H';rw [mG];exact h
 |ex c=>exact h
 |bad=>exact h
theorem LM {K:ah}{cls:Nat->Addr}{E:XK}{k:Nat}{fr:List Nat}{g:GM}{tc:aa->M Bool}{te:aa->M Dt}{O A:List Addr}{ρ:aa}{σ:St}{J:It}{H1:Hp}{Q:VK}{ds:List Dt}(F:bf K O A ρ σ H1)(hk:GK k g)(hJ:mn K A J ds H1)
  (hx:xZ K cls A E H1 Q [] (gW g tc te (bQ k fr ρ) ds)):oq k fr (gM K g) (eV K cls E tc) (tM K cls E te) σ J H1 Q:=by
 intro D hD;have GS:D∉A:=F.bD.fresh hD;have ho:∀(i:Nat) b,(bQ k fr ρ)[i]?=some b->gi b=true∨(∃p x y,b=.bor p x y)->False:=fun i b h o=>by
  rcases vX h with z | ⟨j,m,d',_,_,_,z⟩ <;> rw [z] at o <;> rcases o with o | ⟨p,x,y,o⟩ <;> cases o
 have s0:aw H1 (upd H1 D (.lst [])):=.upd hD;have sD:∀{H'},aw H1 H'->aw (ao H1 A) (ao H' (D::A)):=fun {H'} s b o e=>by
  obtain⟨h1,h2⟩:=dX e;have hb:b∉D::A:=fun z=>by
   rcases ba.mp z with z | z
   ·subst z; rw [hD] at h2; cases h2
   ·exact h1 z
  rw [cf hb];exact s b o h2
 have FD:bf K [] (D::A) (bQ k fr ρ) (cU k fr σ) (upd H1 D (.lst [])):=by
  have F1:=F.cU k fr;refine⟨F1.len,(F.bD.mono s0).cons aU,(fun a z=>nomatch z),fun i d h=>?_,fun i b h o=>(ho i b h (.inl o)).elim,fun i _ b _ _ _ _ h _ o=>(ho i b h (.inl o)).elim,fun i p x y h=>(ho i _ h (.inr ⟨p,x,y,rfl⟩)).elim⟩;obtain⟨v,h1,h2,h3⟩:=F1.val i d h;exact⟨v,h1,h2.mono (sD s0),h3⟩
 refine⟨fun i m ys aJ H'=>i<=ds.length/\m=ds.length - i/\H' D=some (.lst ys)/\aw H1 H'/\bf K [] (D::A) (bQ k fr ρ) aJ H'/\∃us,xZ K cls A E H1 Q us (gW g tc te (bQ k fr ρ) (ds.drop i))/\av K (ao H' (D::A)) us ys/\bC us/\us.length<=i,
  ⟨ds.length,gw _,rfl,aU,s0,FD,[],hx,.nil,trivial,gw _⟩,?_⟩
 rintro i m ys aJ H' ⟨hi,rfl,lZ,g7,F',us,hw,ru,zu,lu⟩;refine⟨lZ,?_⟩;have o7:=hJ.o7
 by_cases aR:i<ds.length
 ·refine .inr ⟨hJ.go i H' aR (bO.trans g7),ds.length - (i+1),by omega,fun x H2 y=>?_⟩
  obtain⟨sy,d,hd,rd⟩:=hJ.yl i H' x H2 (D::A) aR F'.bD (sD g7) y;have xp:ds.drop i=d::ds.drop (i+1):=by
   rw [vq aR]
   congr 1
   have:=mI aR;rw [hd] at this;exact(gZ this).symm
  rw [xp] at hw;unfold gW at hw
  cases hg:g d (bQ k fr ρ) with
  |ex c=>rw [hg] at hw; exact(show False from hw).elim
  |bad=>rw [hg] at hw; exact(show False from hw).elim
  |ok aX=>
   rw [hg] at hw;simp only [iL,bz] at hw;refine⟨[],D::A,_,d,F'.mono sy,rd,ix hJ.small (kg hd),aX,hg,fun ed F2=>?_⟩;obtain⟨k1,k2⟩:=hk d _ _ hg;have bk:∀{gY H3},bf K [] (D::A) aX gY H3->bf K [] (D::A) (bQ k fr ρ) gY H3:=fun F3=>F3.back k1 (fun j e hj=>by
    have Gq:k<=j:=by
     by_cases z:j<k
     ·rw [Dv z] at hj; cases hj
     ·omega
    rw [k2 j Gq];exact hj) ho
   refine⟨[],D::A,aX,F2,?_⟩
   cases ht:tc aX with
   |ex c=>rw [ht] at hw; exact fun H4 s4=>hw H4 ((g7.trans sy).trans s4)
   |bad=>rw [ht] at hw; exact(show False from hw).elim
   |ok b=>
    rw [ht] at hw;simp only [bz] at hw;intro H4 s4
    cases b with
    |false=>
     simp only [cT,if_false] at hw ⊢;have qf:=sy.trans s4;exact⟨aR,trivial,qf _ _ lZ,g7.trans qf,bk (F2.mono s4),us,hw,ru.mono (qf.ao _),zu,by omega⟩
    |true=>
     simp only [if_true] at hw ⊢;refine⟨[],D::A,aX,F2.mono s4,?_⟩
     cases qH:te aX with
     |ex c=>rw [qH] at hw; exact fun H5 s5=>hw H5 (((g7.trans sy).trans s4).trans s5)
     |bad=>rw [qH] at hw; exact(show False from hw).elim
     |ok x'=>
      rw [qH] at hw;simp only [bz] at hw;intro v H5 s5 r5 z5;have qe:=(sy.trans s4).trans s5;have hl:=ru.length;refine⟨qe _ _ lZ,B8 (by omega:ys.length<=10000) (by decide),aR,trivial,aU,fun b o e=>?_,?_,us++[x'],hw.cons,?_,tG zu ⟨z5,trivial⟩,by simp; omega⟩
      ·rw [aF (cH e hD)]
       exact qe b o (g7 b o e)
      ·have F5:=bk ((F2.mono s4).mono s5)
       refine⟨F5.len,fun a' ha=>?_,(fun a z=>nomatch z),fun j e h=>?_,fun j b h o=>(ho j b h (.inl o)).elim,fun j _ b _ _ _ _ h _ o=>(ho j b h (.inl o)).elim,fun j p x y h=>(ho j _ h (.inr ⟨p,x,y,rfl⟩)).elim⟩
       ·by_cases hz:a'=D
        ·rw [hz,aU]; simp
        ·rw [aF hz]; exact F5.bD a' ha
       ·rw [xl bH]
        exact F5.val j e h
      ·rw [xl bH]
       exact(ru.mono (qe.ao _)).append (.cons r5 .nil)
 ·have e:i=ds.length:=by omega
  subst e;rw [vy] at hw;have hw:∀v H',aw H1 H'->Rep K (ao H' A) (.lst (us++[])) v->bC (us++[])->(us++[]).length<=10000->Q v H':=hw;rw [nV] at hw;have hl:=ru.length;refine .inl ⟨hJ.stop H' (bO.trans g7),hw (.ref D) H' g7 (wd (by rw [cf GS]; exact lZ) (ru.mono fun b o e=>?_)) zu (by omega)⟩;obtain⟨h1,h2⟩:=dX e;rw [cf fun z=>h1 (cy _ z)];exact h2
section
variable {X:Cx}{cls:Nat->Addr}{E:XK}{a b c:Expr}{f:aa->M Dt}{pos:Pos}{scope:Scope}{N:List Str}{k:Nat}{fr:List Nat}{tg iter elt:Expr}{ifs:List Expr}{ι:IM}{g:GM}{tc:aa->M Bool}{te:aa->M Dt}
theorem UA (hk:GK k g)(σ:St)(H:Hp)(Q:VK)(q:tM X.K cls E (wt k fr ι g tc te) σ H Q):tD k fr (iM X.K cls E ι) (gM X.K g) (eV X.K cls E tc) (tM X.K cls E te) σ H Q:=by
 obtain⟨O,A,ρ,F,q⟩:=q;refine⟨O,A,ρ,F,Rg.bind q fun ds _ q1=>?_⟩;intro J H1 s1 hJ;refine LM (F.mono s1) hk hJ ?_
 cases hm:gW g tc te (bQ k fr ρ) ds with
 |ok xs=>
  have q2:Res X.K cls A E (gE xs) H Q:=by rw [hm] at q1; exact q1
  intro v H' s' r z zl;rw [lq] at r z zl;unfold gE at q2;rw [if_pos zl] at q2;exact q2 v H' (s1.trans s') r ⟨zl,z⟩
 |ex c=>rw [hm] at q1; exact fun H' s'=>q1 H' (s1.trans s')
 |bad=>rw [hm] at q1; exact(show False from q1).elim
theorem Qf (hX:X.A.frames=some X.stack->(∀b∈aE X.outer,X.aY b=none)->Plain X E)(hk:GK k g)(hc:X.calm=true)(S:eB X scope N k fr)(hi:Iv X cls E tg iter ι)(hg:∀pins fp s H,PG (iK X E scope N pins fp s H) tg (gM X.K g))(ht:∀pins fp s H,jl (iK X E scope N pins fp s H) ifs (eV X.K cls E tc))
  (he:∀pins fp s H,PE (iK X E scope N pins fp s H) elt (tM X.K cls E te)) (hs:∀x,foldedSetIterable iter X.env x=pure x:=by intro _; rfl):Ev X cls E (.ListComp elt [⟨tg,iter,ifs,0⟩] scope pos) (wt k fr ι g tc te):=
 (Mf hX hc S hi hg ht he hs).imp (UA hk)
end
section
variable {X:Cx}{cls:Nat->Addr}{E:XK}{a b c o e:Expr}{f g h:aa->M Dt}{pos apos kq:Pos}{i j k:Nat}{m:Str}{ps:List Str}{es:List Expr}{fs:aa->M (List Dt)}
theorem adu {pl:Sem Bool}{F:List Dt->List Dt->M Dt}(C:jo X.prog X.w X.K X.mg X.base k m ps (kr X.K cls (CP X.K) F))(hr:bF k X.A)(hx:Passes (aG X.prog X.w) X E)(ho:PE X o (eE i))(hZ:(m==("done" : Str))=false:=by decide +kernel)(gS:(m==("undone" : Str))=false:=by decide +kernel)
  (ht:eval (.Call (.Attribute o m apos) [] [] pos) X.env=(do
   let ov ← eval o X.env
   standAt apos.atName
   let (f,first) ← holding [ov] (getMethod ov m pl)
   callWith pos f first (backTo pos (starEach [] X.env)) (backToKw pos (keywordEach [] X.env))):=by rfl):Ev X cls E (.Call (.Attribute o m apos) [] [] pos) (gQ i F):=
 (Ez C hr hx ho ht).imp fun σ H Q ⟨O,A,ρ,Ft,q⟩=>C7 hZ gS Ft (Rg.ok q fun d _ p v H' s w z=>p v H' s w.1 z)
theorem cx.mt {K:ah}{Hin:Hp}{A₀ os:List Addr}{ρ:aa}{σ:St}{H H1 H2:Hp}{v:V}{x y x' y':List Dt}(S:cx K Hin A₀ os ρ σ H)(eX:ρ[i]?=some (.aQ x y))(g1:σ[i]?=some (some v))(hb:eQ K (os++A₀) H v x y)(g3:∀a∈a5 H v (.aQ x y),a∈os)(s1:aw H H1)
  (s2:aw (ao H1 (a5 H1 v (.aQ x y))) H2) (b2:eQ K (os++A₀) H2 v x' y') (f2:a5 H2 v (.aQ x y)=a5 H1 v (.aQ x y)):cx K Hin A₀ os (ρ.set i (.aQ x' y')) σ H2:=by
 have Ft:=S.2.2.2;have F1:=Ft.mono s1;have e1:a5 H1 v (.aQ x y)=a5 H v (.aQ x y):=hb.fp s1;have An:∀b∈a5 H1 v (.aQ x y),b∈os:=fun b hb=>g3 b (by rw [← e1]; exact hb);have k2:∀b,b∉a5 H1 v (.aQ x y)->H1 b≠none->H2 b=H1 b:=fun b hb hn=>by
  cases ee:H1 b with
  |none=>exact(hn ee).elim
  |some o=>exact s2 b o (by rw [cf hb]; exact ee)
 refine⟨fun b o ee=>?_,S.2.1,S.2.2.1,?_⟩
 ·have e2:=s1 b o (S.1 b o ee)
  rw [k2 b (fun z=>by rw [S.2.2.1 b (An b z)] at ee; cases ee) (by rw [e2]; simp)];exact e2
 ·have qP:l7 ρ σ H1 i=a5 H1 v (.aQ x y):=Hj eX g1 rfl
  have F2:=F1.set (i:=i) (v':=v) (b':=.aQ x' y') (O':=os) (A':=os++A₀) (H':=H2) (fun b hb=>?_) F1.sub (fun b o ee=>?_) (fun b hb hn=>⟨hb,k2 b (by rw [← qP]; exact hn) (F1.bD b (F1.sub b hb))⟩) (fun b hb hn=>⟨hb,hn,k2 b (fun z=>hn (An b z)) (F1.bD b hb)⟩) (.inr ⟨b2.1,fun b hb=>?_⟩)
  ·rwa [set_same g1] at F2
  ·by_cases hf:b∈a5 H1 v (.aQ x y)
   ·refine b2.1.live (a:=b) ?_
    rw [uk (x':=x) (y':=y),f2];exact hf
   ·rw [k2 b hf (F1.bD b hb)]
    exact F1.bD b hb
  ·obtain⟨e3,e4⟩:=dX ee
   rw [cf e3,k2 b (fun z=>e3 (eT _ (An b z))) (by rw [e4]; simp)];exact e4
  ·rw [uk (x':=x) (y':=y),f2] at hb
   exact⟨An b hb,.inr (by rw [qP]; exact hb)⟩
noncomputable def aiL (K:ah)(cls:Nat->Addr)(E:XK)(Hin:Hp)(A₀:List Addr)(σ:St)(Q:VK):M (Dt×aa)->Prop
 |.ok r=>∀u H' os,cx K Hin A₀ os r.2 σ H'->Rep K (ao H' (os++A₀)) r.1 u->sm r.1->Q u H'
 |.ex c=>∀H',aw Hin H'->E (.ref (cls c)) none H'
 |.bad=>False
noncomputable def BB (K:ah)(cls:Nat->Addr)(E:XK)(Hin:Hp)(A₀:List Addr)(σ:St)(Q:Bool->Hp->Prop):M (Bool×aa)->Prop
 |.ok r=>∀H',fg K Hin A₀ r.2 σ H'->Q r.1 H'
 |.ex c=>∀H',aw Hin H'->E (.ref (cls c)) none H'
 |.bad=>False
noncomputable def pU (K:ah)(cls:Nat->Addr)(E:XK)(F:TB):TT:=fun σ H Q=>∃Hin A₀ ρ,fg K Hin A₀ ρ σ H/\BB K cls E Hin A₀ σ Q (F ρ)
noncomputable abbrev Tb (X:Cx)(cls:Nat->Addr)(E:XK)(e:Expr)(F:TB):Prop:=PT X e (pU X.K cls E F)
theorem Uo {f:aa->M Bool}(h:Tv X cls E a f):Tb X cls E a (vM f):=h.imp fun σ H Q h_=>by
 obtain⟨Hin,A₀,ρ,⟨os,S⟩,q⟩:=h_;refine⟨os,os++A₀,ρ,S.2.2.2,?_⟩;unfold vM at q
 cases hf:f ρ with
 |ok b=>rw [hf] at q; exact fun H' s'=>q H' ⟨os,S.mono s'⟩
 |ex c=>rw [hf] at q; exact fun H' s'=>q H' (S.1.trans s')
 |bad=>rw [hf] at q; exact q
theorem Uw {F G:TB}{σ:St}{H:Hp}{Q:Bool->Hp->Prop}(q:pU X.K cls E (tj F G) σ H Q):De (pU X.K cls E F) (pU X.K cls E G) σ H Q:=by
 obtain⟨Hin,A₀,ρ,S,q⟩:=q;refine⟨Hin,A₀,ρ,S,?_⟩;unfold tj at q
 cases hF:F ρ with
 |ex c=>rw [hF] at q; exact q
 |bad=>rw [hF] at q; exact q
 |ok p=>
  obtain⟨b,ρ'⟩:=p;rw [hF] at q;intro H' S';have q:BB X.K cls E Hin A₀ σ Q (if b=true then .ok (true,ρ') else G ρ'):=q
  cases b with
  |true=>
   rw [if_pos rfl] at q;simp only [if_true];exact q H' S'
  |false=>
   rw [if_neg (by decide)] at q;simp only [cT,if_false];exact⟨Hin,A₀,ρ',S',q⟩
theorem Tt {F:TB}(ha:Tb X cls E a F):PW X (.BoolOp .Or [a] pos) (pU X.K cls E F):=pw_or1 ha
theorem Tu {F G:TB}{rest:List Expr}(ha:Tb X cls E a F)(hb:PW X (.BoolOp .Or (b::rest) pos) (pU X.K cls E G)):PW X (.BoolOp .Or (a::b::rest) pos) (pU X.K cls E (tj F G)):=(pw_or ha hb).imp fun _ _ _ q=>Uw q
theorem U9 {F:TB}{s t:SM}{sa sb:List Stmt}(hc:Tb X cls E c F)(ha:Bv X cls E sa s)(hb:Bv X cls E sb t):Sv X cls E (.If c sa sb pos) (wb F s t):=(zx hc ha hb).imp fun D σ H h_=>by
 obtain⟨Hin,A₀,ρ,S,q⟩:=h_;refine⟨Hin,A₀,ρ,S,?_⟩;unfold wb at q
 cases hF:F ρ with
 |ex c=>rw [hF] at q; exact q
 |bad=>rw [hF] at q; exact q
 |ok p=>
  obtain⟨b,ρ'⟩:=p;rw [hF] at q;intro H' S';have q:j6 X.K cls E Hin A₀ (if b=true then s ρ' else t ρ') D:=q
  cases b with
  |true=>rw [if_pos rfl] at q; simp only [if_true]; exact⟨Hin,A₀,ρ',S',q⟩
  |false=>rw [if_neg (by decide)] at q; simp only [cT,if_false]; exact⟨Hin,A₀,ρ',S',q⟩
end
section
variable {X:Cx}{cls:Nat->Addr}{E:XK}{a b:Expr}{f g:aa->M Dt}{pos p apos:Pos}
theorem MA:ez X cls E (binaryOp .Add) qt:=by
 refine⟨_,Ym,fun A H Q d1 d2 x y L r1 r2 z1 z2 q=>?_⟩;unfold qt at q
 split at q
 ·rename_i d r b'
  split at q
  ·rename_i hl
   obtain⟨p,xs,rfl,h1,h2⟩:=iz r1;obtain⟨p',ys,rfl,l0,eZ⟩:=iz r2;have e1:=h2.length;have e2:=eZ.length;have hz:sm (.tup ((d::r)++b')):=⟨by rw [jw]; exact hl,tG z1.2 z2.2⟩
   refine⟨p,p',xs,ys,rfl,rfl,bO.f9 h1,bO.f9 l0,fun z=>(by rw [z] at e1; cases e1),jH (by omega),fun z=>?_,fun _ p2 hV=>?_⟩
   ·subst z
    have:b'=[]:=yN.mp e2;subst this;exact q _ H (.refl _) (by rw [nV]; exact r1) hz
   ·exact q _ _ (.upd hV) (qg (nt L hV) ((h2.append eZ).mono ((aw.upd hV).ao A))) hz
  ·exact(show False from q).elim
 ·exact(show False from q).elim
noncomputable def jj (P:Params)(q:List Nat×Tok×Int×Tok):DictEntry:=⟨lh P ⟨q.1.toArray⟩,.str ⟨q.1.toArray⟩ q.2.1,.int q.2.2.1 q.2.2.2⟩
noncomputable def JI (w:World)(K:ah)(a:Addr)(kvs:List (List Nat×Int)):Prop:=
 ∃(qs:List (List Nat×Tok×Int×Tok)) (ep:Nat),K.lookup a=some {cls:=.type "dict",dict:=none,data:=.dict (qs.map (jj w.params)).toArray ep,slots:=#[]}/\kvs=qs.map fun q=>(q.1,q.2.2.1)
theorem PB {P:Params}:∀(qs:List (List Nat×Tok×Int×Tok)) (l:List Nat),(∃i t,oO (qs.map fun q=>(q.1,q.2.2.1)) l=some i/\((qs.map (jj P)).find? fun e=>eS ⟨l.toArray⟩ e.key).map (·.val)=some (.int i t))∨
  (oO (qs.map fun q=>(q.1,q.2.2.1)) l=none/\((qs.map (jj P)).find? fun e=>eS ⟨l.toArray⟩ e.key).map (·.val)=none)
 | [],l=>.inr ⟨rfl,rfl⟩
 |q::qs,l=>by
  simp only [bG,oO];rw [il]
  by_cases e:l=q.1
  ·rw [if_pos e]
   have:eS ⟨l.toArray⟩ (jj P q).key=true:=by simp [jj,eS,e]
   rw [this];exact .inl ⟨_,q.2.2.2,rfl,rfl⟩
  ·rw [if_neg e]
   have:eS ⟨l.toArray⟩ (jj P q).key=false:=by
    simp only [jj,eS];rw [beq_eq_false_iff_ne];intro z;injection z with z;exact e (by simpa using (congrArg iY z).symm)
   rw [this];exact PB qs l
theorem QM {aD:Addr}{kvs:List (List Nat×Int)}(D:JI X.w X.K aD kvs){pins:List (Addr×Obj)}{s:Shared}{σ:St}{H:Hp}(I:Inv X pins σ H s):∃f,s.heap.MapOf (strKind X.prog X.w) aD f/\∀l,(∃i t,oO kvs l=some i/\f ⟨l.toArray⟩=some (.int i t))∨(oO kvs l=none/\f ⟨l.toArray⟩=none):=by
 obtain⟨qs,ep,hk,rfl⟩:=D;have ho:=I.eL aD _ hk;refine⟨fun k=>findBy eS (qs.map (jj X.w.params)).toArray k,⟨_,_,ep,ho,⟨rfl,rfl,rfl⟩,rfl,?_,fun _=>rfl⟩,fun l=>?_⟩
 ·intro e he
  have GC:e∈qs.map (jj X.w.params):=by simpa using he
  obtain⟨q,_,rfl⟩:=df.mp GC;exact⟨⟨q.1.toArray⟩,strKind_is X.prog X.w _ _,Nw _ _⟩
 ·have ht:=PB (P:=X.w.params) qs l
  have e:findBy eS (qs.map (jj X.w.params)).toArray ⟨l.toArray⟩=((qs.map (jj X.w.params)).find? fun e=>eS ⟨l.toArray⟩ e.key).map (·.val):=by
   unfold findBy;rw [List.find?_toArray]
  show (∃i t,_/\findBy eS (qs.map (jj X.w.params)).toArray ⟨l.toArray⟩=some (.int i t))∨(_/\findBy eS (qs.map (jj X.w.params)).toArray ⟨l.toArray⟩=none);rw [e];exact ht
theorem adx {x:Str}{aD:Addr}{kvs:List (List Nat×Int)}(D:JI X.w X.K aD kvs)(jV:(aD==sysModules)=false)(hg:Gl X x)(hm:X.mg x=some (.ref aD))(ha:Ev X cls E a f)(hsa:isStar a=false)
  (nv:attributeBase (.Name x p) "get" X.env (eval (.Name x p) X.env)=eval (.Name x p) X.env:=by rfl) (kO:(apos.endLine==pos.line)=true:=by rfl) (hd:(x==("__debug__" : Str))=false:=by decide) :
  Ev X cls E (.Call (.Attribute (.Name x p) "get" apos) [a] [] pos) (p1 (rE kvs) f):=by
 have hs:starEach [a] X.env=[(false,eval a X.env)]:=by rw [jG hsa]; rfl
 intro pins s σ H Q I ⟨O,A,ρ,F,q⟩;refine wpAny_Call_method_late nv (by rw [hs]; rfl) kO (trees:=[(false,eval a X.env)]) (by rw [hs]; rfl) (aC (jL hg hm (v:=.ref aD) rfl hd pins s σ H (fun v H1=>v=.ref aD/\H1=H) I ⟨rfl,rfl⟩) fun v s1 ⟨x,H1,I1,r1,ex,eH⟩=>?_);subst ex eH;cases r1;obtain⟨f0,m0,_⟩:=QM D I1;refine⟨"dict","dict.get",Ck,yK,PySem.F.type_dict_get,m0.typeIs,m0.noDict,wpAny_dict_get1 (knd:=strKind X.prog X.w) jV ?_⟩
 refine aC (ha pins s1 σ H1 (fun x H2=>∃d,aw H1 H2/\Rep X.K (ao H2 A) d x/\sm d/\Res X.K cls A E (rE kvs d) H2 Q) I1 ⟨O,A,ρ,F,Rg.bind q fun d _ q1=>?_⟩) fun u s2 ⟨x,H2,I2,r2,d,Lp,rp,zd,q2⟩=>?_
 ·intro x H2 s2 r2 z2
  exact⟨d,s2,r2,z2,Res.mono q1 s2⟩
 obtain⟨f3,m3,k1⟩:=QM D I2
 cases d with
 |str l=>
  obtain rfl:=cK rp;obtain⟨t,rfl⟩:=r2;refine⟨⟨l.toArray⟩,f3,strKind_is X.prog X.w _ _,m3,?_⟩;have q2:Res X.K cls A E (.ok (Oe (oO kvs l))) H2 Q:=q2;rcases k1 l with ⟨i,t2,h1,h2⟩ | ⟨h1,h2⟩
  ·rw [h2]
   rw [h1] at q2;exact fun ht=>⟨.int i,H2,I2.tok _,⟨_,rfl⟩,q2 _ H2 (.refl _) ek trivial⟩
  ·rw [h2]
   rw [h1] at q2;exact fun ht=>⟨.aI,H2,I2.tok _,rfl,q2 _ H2 (.refl _) zp trivial⟩
 |_=>exact(show False from q2).elim
end
theorem aeH {g:GM}{tc:aa->M Bool}{te:aa->M Dt}{ρ0:aa}:∀{ds xs:List Dt},ff g tc te ρ0 ds=.ok xs->gW g tc te ρ0 ds=.ok xs:=by
 intro ds
 induction ds with
 |nil=>exact fun h=>h
 |cons d ds ih=>
  intro xs h;obtain⟨aX,hg,qS⟩:=Q1 h;unfold gW;rw [hg];simp only [iL,bz];rcases qS with ⟨ht,hr⟩ | ⟨ht,x',Ka,qH,hr,rfl⟩
  ·rw [ht]
   exact ih hr
  ·rw [ht]
   show ((te aX).bd _:M (List Dt))=_;rw [qH,bz,ih hr];rfl
section
variable {X:Cx}{cls:Nat->Addr}{E:XK}{a b c:Expr}{f:aa->M Dt}{pos:Pos}{scope:Scope}{N:List Str}{k:Nat}{fr:List Nat}{tg iter elt:Expr}{ifs:List Expr}{ι:IM}{g:GM}{tc:aa->M Bool}{te:aa->M Dt}
theorem kW (hX:X.A.frames=some X.stack->(∀b∈aE X.outer,X.aY b=none)->Plain X E)(hk:GK k g)(hc:X.calm=true)(S:eB X scope N k fr)(hi:Iv X cls E tg iter ι)(hg:∀pins fp s H,PG (iK X E scope N pins fp s H) tg (gM X.K g))(ht:∀pins fp s H,jl (iK X E scope N pins fp s H) ifs (eV X.K cls E tc))
  (he:∀pins fp s H,PE (iK X E scope N pins fp s H) elt (tM X.K cls E te)) (hs:∀x,foldedSetIterable iter X.env x=pure x:=by intro _; rfl):Ev X cls E (.ListComp elt [⟨tg,iter,ifs,0⟩] scope pos) (dy k fr ι g tc te):=
 (Qf hX hk hc S hi hg ht he hs).imp fun σ H Q h=>by
 obtain⟨O,A,ρ,F,q⟩:=h;refine⟨O,A,ρ,F,?_⟩;unfold dy at q;unfold wt
 cases hi:ι ρ with
 |ex c=>rw [hi] at q; exact q
 |bad=>rw [hi] at q; exact q
 |ok ds=>
  rw [hi] at q;simp only [bz] at q ⊢
  cases hm:ff g tc te (bQ k fr ρ) ds with
  |ex c=>rw [hm] at q; exact(show False from q).elim
  |bad=>rw [hm] at q; exact(show False from q).elim
  |ok xs=>rw [aeH hm]; rw [hm] at q; exact q
end
noncomputable abbrev UH (K:ah)(cls:Nat->Addr)(E:XK):TS:=n9 (tD 2 [] (Oj K (lD K "done")) (gM K AQ) (eV K cls E cO) (tM K cls E (ae 0)))
section
variable {P:Program}{w:World}{K:ah}{mg:Str->Option Value}{base:Heap}{cls:Nat->Addr}{x qual:Str}{st:Stmt}{f:Addr}{fd:FuncData}{k:Nat}
theorem QY:∀{x ds:List Dt},rg x=some ds->gW AQ cO (ae 0) (bQ 2 [] [.no]) x=.ok ds
 | [],ds,h=>by cases h; rfl
 |d::r,ds,h=>by
  unfold rg at h
  split at h
  ·rename_i e; cases e
  ·rename_i s' b' r' e
   injection e with e1 e2;subst e1 e2
   cases hr:rg r with
   |none=>rw [hr] at h; cases h
   |some es=>
    rw [hr] at h;cases h;have ih:=QY hr;show (gW AQ cO (ae 0) (bQ 2 [] [.no]) r).bd (fun xs=>.ok (s'::xs))=_;rw [ih];rfl
  ·cases h
theorem Vk (F:fG K x qual st f fd)(S:bA ["self"] ["self"] (az st))
  (hB:∀(ax:Value) (A:Around) (outer:List Env) (s:Shared) (H:Hp) (E:XK),bF k (A.deeper (envOfC qual (az st) s.heap.objs.size f ax))->Rz (cg (aG P w) P w K mg base ["self"] qual (az st) f ax A outer s H E) E->
   eP (cg (aG P w) P w K mg base ["self"] qual (az st) f ax A outer s H E) (di st) (UH K cls E)):cS P w K mg base (aG P w) (k+1) f fd ["self"] (kr K cls (CP K) rH):=by
 refine F.qm S (fun vs H Q E h=>by obtain⟨v,_,_,_,rfl,_⟩:=h; rfl) (fun ax A outer s H vs Q E hr h R=>⟨_,hB ax A outer s H E hr R,?_⟩) (fun z=>by injection z with z; exact absurd z (by decide +kernel));obtain⟨v,B,x,y,rfl,L,hb,q⟩:=h;obtain⟨a,dx,l,m,C,xs,ys,rfl,hC,h1,h2,h3,h4,h5,⟨h6,h7,h8⟩,_,_,_,_,_⟩:=hb.parts;refine(show lD K "done" [some (.ref a)] H (fun u H1=>∃b,u=.ref b/\(∃zs,bP K H1 b zs)/\oq 2 [] (gM K AQ) (eV K cls E cO) (tM K cls E (ae 0)) [some (.ref a)] (rL K b) H1 Q) from qb rfl hC h1 (.inl ⟨rfl,rfl⟩) ⟨l,rfl,⟨xs,.of h3⟩,?_⟩)
 unfold rH at q
 split at q
 ·rename_i ds jV
  split at q
  ·rename_i hn
   let B':=B.filter fun b=>decide (b≠l)
   have OI:l∉B':=fun z=>by simpa using (jr.mp z).2
   have sub:∀b,b∈B'->b∈B:=fun b z=>(jr.mp z).1;have sH:∀{H2:Hp},aw (ao H2 B) (ao H2 B'):=fun {H2} b o e=>by
    obtain⟨e1,e2⟩:=dX e;rw [cf fun z=>e1 (sub b z)];exact e2
   have F0:bf K [] B' [.no] [some (.ref a)] H:=by
    refine⟨rfl,fun b hb=>L b (sub b hb),(fun b z=>nomatch z),fun i d e=>?_,fun i b e o=>?_,fun i j b c v w _ e _ o=>?_,fun i p x y e=>?_⟩
    all_goals
     (cases i with
     |zero=>cases e <;> cases o
     |succ i=>simp at e)
   refine WO (LM (ds:=x) F0 (AM (o4 (fB (by decide)) (o4 (fB (by decide)) AL))) (N9 (.of (by rw [cf OI]; exact h3)) (h6.mono sH) h7 h8) ?_);rw [QY jV];intro v H' s' r z zl hF;refine q v H' s' ⟨?_,hF⟩ ⟨zl,z⟩;obtain⟨D,zs,rfl,hD,lZ⟩:=hF;obtain⟨D',Cu,e1,e2,e3⟩:=fK r;cases e1;have Pa:D∉B:=fun z=>L D z hD;have qM:ao H' B' l=some (.lst xs):=by rw [cf OI]; exact s' _ _ h3
   have e4:=(Eb qM hn.1 e3).mono (H':=ao H' B) fun b o e=>by
    obtain⟨e4,e5⟩:=dX e;obtain⟨e6,e7⟩:=dX e5;rw [cf fun z=>e6 (jr.mpr ⟨z,by simpa using e4⟩)];exact e7
   simp only [Rep];refine⟨D,Cu,rfl,?_,e4⟩;rw [show bP K (ao H' B) D Cu=bP K (ao H' B') D Cu by unfold bP Rd; rw [cf Pa,cf fun z=>Pa (sub _ z)]];exact e2
  ·exact(show False from q).elim
 ·exact(show False from q).elim
end
noncomputable def rJ (K:ah)(A:List Addr)(v:V)(x y:List Dt)(H:Hp)(Q:VK)(r:Dt×List Dt×List Dt):Prop:=∀u H',aw (ao H (a5 H v (.aQ x y))) H'->eQ K A H' v r.2.1 r.2.2->a5 H' v (.aQ x y)=a5 H v (.aQ x y)->Rep K (ao H' A) r.1 u->sm r.1->Q u H'
theorem rJ.mono {K:ah}{A:List Addr}{v:V}{x y:List Dt}{H H1:Hp}{Q:VK}{r:Dt×List Dt×List Dt}(h:rJ K A v x y H Q r)(s:aw H H1)(hb:eQ K A H v x y):rJ K A v x y H1 Q r:=by
 intro u H' s1 b1 f1;have e:=hb.fp s;rw [e] at s1 f1;exact h u H' ((s.ao _).trans s1) b1 f1
inductive lF (K:ah) (cls:Nat->Addr) (E:XK) (i:Nat) (G:GB) (σ:St) (H:Hp) (Q:VK):Prop
 |mk (O A:List Addr) (ρ:aa) (v:V) (x y:List Dt) (Ft:bf K O A ρ σ H) (eX:nG ρ[i]?=some (x,y)) (hv:σ[i]?=some (some v)) (hb:eQ K A H v x y) (q:Rg cls E (G ρ) H (rJ K A v x y H Q)):lF K cls E i G σ H Q
noncomputable abbrev mr (X:Cx)(cls:Nat->Addr)(E:XK)(i:Nat)(e:Expr)(G:GB):Prop:=PE X e (lF X.K cls E i G)
noncomputable def zc (K:ah)(cls:Nat->Addr)(tabs:iS)(F:BM):Sp:=fun vs H Q E=>(∀t∈tabs,H t.2.1=some (.du t.2.2))/\gJ K cls (fun _=>F) vs H Q E
section
variable {X:Cx}{cls:Nat->Addr}{E:XK}{a b c o e:Expr}{f g h:aa->M Dt}{pos apos kq:Pos}{i j k:Nat}{m:Str}{ps:List Str}{es:List Expr}{fs:aa->M (List Dt)}{G G':GB}{σ:St}{H:Hp}{Q:VK}
theorem Ux {F:BM}(hZ:(m==("done" : Str))=false)(gS:(m==("undone" : Str))=false)(q:lF X.K cls E i (iH i F fs) σ H Q):tw X.K m (gJ X.K cls fun _=>F) E i (mO X.K cls E fs) σ H Q:=by
 obtain⟨O,A,ρ,v,x,y,Ft,eX,hv,hb,q⟩:=q;obtain⟨a,C',dx,rh,z1,z2,z3,z4⟩:=hb.look hZ gS;refine⟨v,a,C',dx,rh,hv,z1,z2,z3,z4,O,A,ρ,Ft,?_⟩;unfold iH AN at q;rw [eX] at q;refine Rg.bind q fun ds _ q1=>?_;intro vs H1 s1 r1 Ct;exact⟨a,v,vs,A,x,y,ds,rfl,z1,Ft.bD.mono s1,hb.mono s1,r1,Ct,Rg.heap q1 s1 fun r _ p=>p.mono s1 hb⟩
theorem HA {pl:Sem Bool}{F:BM}(C:jo X.prog X.w X.K X.mg X.base k m ps (gJ X.K cls fun _=>F))(hr:bF k X.A)(hx:Passes (aG X.prog X.w) X E)(ho:PE X o (eE i))(ha:Av X cls E (e::es) fs)(hZ:(m==("done" : Str))=false:=by decide +kernel)(gS:(m==("undone" : Str))=false:=by decide +kernel)
  (bj:starEach (e::es) X.env=(false,eval e X.env)::starEach es X.env:=by rfl) (dA:(backTo pos (starEach es X.env)).any (·.1)=false:=by rfl)
  (ht:eval (.Call (.Attribute o m apos) (e::es) [] pos) X.env=(do
   let ov ← eval o X.env
   standAt apos.atName
   let (f,first) ← holding [ov] (getMethod ov m pl)
   callWith pos f first (backTo pos (starEach (e::es) X.env)) (backToKw pos (keywordEach [] X.env))):=by rfl):mr X cls E i (.Call (.Attribute o m apos) (e::es) [] pos) (iH i F fs):=
 (zF (pl:=pl) C hr hx ho ha bj dA ht).imp fun σ H Q q=>Ux hZ gS q
theorem KO {t:aa->M Bool}{σ:St}{H:Hp}{Q:VK}(q:lF X.K cls E i (qZ t G G') σ H Q):eV X.K cls E t σ H fun b H1=>if b=true then lF X.K cls E i G σ H1 Q else lF X.K cls E i G' σ H1 Q:=by
 obtain⟨O,A,ρ,v,x,y,Ft,eX,hv,hb,q⟩:=q;refine⟨O,A,ρ,Ft,Rg.bind (k:=fun b=>if b=true then G ρ else G' ρ) q fun b _ q1=>?_⟩;intro H1 s1
 cases b with
 |true=>rw [if_pos rfl]; exact⟨O,A,ρ,v,x,y,Ft.mono s1,eX,hv,hb.mono s1,Rg.heap q1 s1 fun r _ p=>p.mono s1 hb⟩
 |false=>rw [if_neg (by decide)]; exact⟨O,A,ρ,v,x,y,Ft.mono s1,eX,hv,hb.mono s1,Rg.heap q1 s1 fun r _ p=>p.mono s1 hb⟩
theorem adC {t:aa->M Bool}(hc:Tv X cls E c t)(ha:mr X cls E i a G)(hb:mr X cls E i b G'):mr X cls E i (.IfExp c a b pos) (qZ t G G'):=(EA hc ha hb).imp fun σ H Q q=>KO q
theorem ae6 {t:aa->M Bool}{p1 p2 p3:Pos}(hc:Tv X cls E c t)(ha:mr X cls E i a G)(hb:mr X cls E i b G'):eP X [.If c [.Return (some a) p1] [] p2,.Return (some b) p3] (n9 (lF X.K cls E i (qZ t G G'))):=
 (fL (zx hc (gP (i9 ha)) Er) (gP (i9 hb))).imp fun D σ H q=>KO q
theorem adD {x:Str}{p:Pos}{F:BM}{tabs:iS}(C:rO X.prog X.w X.K X.mg X.base (aG X.prog X.w) k x ps (zc X.K cls tabs F))(hT:∀t∈tabs,X.aY t.2.1=some (.du t.2.2))(hr:bF k X.A)(hx:Passes (aG X.prog X.w) X E)(ho:PE X o (eE i))(ha:Av X cls E es fs)(bj:isStar o=false:=by rfl)(hg:Gl X x:=by rfl)
  (gk:(x==("__debug__" : Str))=false:=by decide) (dA:(backTo pos (starEach es X.env)).any (·.1)=false:=by rfl):mr X cls E i (.Call (.Name x p) (o::es) [] pos) (iH i F fs):=by
 intro pins s σ H Q I ⟨O,A,ρ,v,x,y,Ft,eX,hv,hb,q⟩;refine Mg C hr hx (@bh _ _ _ _ _ bj ho ha) bj hg gk dA pins s σ H Q I ?_;refine⟨v,hv,O,A,ρ,Ft,?_⟩;unfold iH AN at q;rw [eX] at q;refine Rg.bind q fun ds _ q1=>?_;intro vs H1 s1 r1 Ct;obtain⟨a,e1,_⟩:=hb.1.fst;rw [nV];exact⟨fun t ht=>s1 _ _ (I.base.dH _ _ (hT t ht)),a,v,vs,A,_,_,ds,rfl,e1,Ft.bD.mono s1,hb.mono s1,r1,Ct,Rg.heap q1 s1 fun r _ p=>p.mono s1 hb⟩
theorem Uz {Hin:Hp}{A₀:List Addr}{ρ:aa}(S:fg X.K Hin A₀ ρ σ H)(q:aiL X.K cls E Hin A₀ σ Q (wI i ρ (G ρ) ρ[i]?)):lF X.K cls E i G σ H Q:=by
 obtain⟨os,S⟩:=S;have Ft:=S.2.2.2;unfold wI at q
 split at q
 rotate_left
 ·exact q.elim
 rename_i x y eX;obtain⟨v,g1,g2,g3⟩:=Ft.ow i _ eX rfl;have hb:eQ X.K (os++A₀) H v x y:=⟨g2,fun a ha=>Ft.sub a (g3 a ha)⟩
 refine⟨os,os++A₀,ρ,v,x,y,Ft,by rw [eX]; rfl,g1,hb,?_⟩
 cases hG:G ρ with
 |ex c=>rw [hG] at q; exact fun H' s'=>q H' (S.1.trans s')
 |bad=>rw [hG] at q; exact q
 |ok r=>rw [hG] at q; exact fun u H2 s2 b2 f2 ru zu=>q u H2 os (S.mt eX g1 hb g3 (.refl _) s2 b2 f2) ru zu
theorem Uq {o':CmpOp}{op:Dt->Dt->M Dt}{bW:Pos}(xb:ez X cls E (compareOp o') op)(ha:mr X cls E i a G)(hb:Ev X cls E b g)(hm:behindInMarks o' b=false):Tb X cls E (.Compare a [o'] [b] bW) (vN i G op g):=by
 obtain⟨r,h1,ho⟩:=xb;refine(zw h1 ha hb hm).imp fun σ H Q q=>?_;obtain⟨Hin,A₀,ρ,S,q⟩:=q;refine Uz S ?_;unfold vN at q
 cases hm:wI i ρ (G ρ) ρ[i]? with
 |ex c=>rw [hm] at q; exact q
 |bad=>rw [hm] at q; exact q
 |ok p=>
  obtain⟨d,ρ'⟩:=p;rw [hm] at q;intro u H' os S' ru zu;refine⟨os,os++A₀,ρ',S'.2.2.2,?_⟩;have q:BB X.K cls E Hin A₀ σ Q ((g ρ').bd fun d2=>(op d d2).bd (Bi ρ')):=q
  cases hg:g ρ' with
  |ex c=>rw [hg] at q; exact fun H2 s2=>q H2 (S'.1.trans s2)
  |bad=>rw [hg] at q; exact q
  |ok d2=>
   rw [hg] at q;intro v H2 s2 rv zv;have q:BB X.K cls E Hin A₀ σ Q ((op d d2).bd (Bi ρ')):=q;refine ho (os++A₀) H2 _ d d2 u v (S'.2.2.2.bD.mono s2) (ru.mono (s2.ao _)) rv zu zv ?_
   cases xb:op d d2 with
   |ex c=>rw [xb] at q; exact fun H3 s3=>q H3 ((S'.1.trans s2).trans s3)
   |bad=>rw [xb] at q; exact q
   |ok d3=>
    rw [xb] at q;intro w3 H3 s3 r3 z3
    cases d3 with
    |bl b=>
     simp only [Rep] at r3;exact⟨b,r3,q H3 ⟨os,(S'.mono s2).mono s3⟩⟩
    |_=>exact(show False from q).elim
end
section
variable {P:Program}{w:World}{K:ah}{mg:Str->Option Value}{base:Heap}{cls:Nat->Addr}{x qual:Str}{st:Stmt}{f:Addr}{fd:FuncData}{k:Nat}
theorem ad5 {N ps:List Str}{np n:Nat}{G:GB}{tabs:iS}(F:fG K x qual st f fd)(S:bA N ps (az st))(hp:ps.length=np+1)(hn:N.length=np+1+n)
  (hB:∀(ax:Value) (A:Around) (outer:List Env) (s:Shared) (H:Hp) (E:XK),ax=fd.code->(∀t∈tabs,H t.2.1=some (.du t.2.2))->bF k (A.deeper (envOfC qual (az st) s.heap.objs.size f ax))->
   Rz (cg (aG P w) P w K mg base N qual (az st) f ax A outer s H E) E->eP (cg (aG P w) P w K mg base N qual (az st) f ax A outer s H E) (di st) (n9 (lF K cls E 0 G)))
  (hf:ps=[dz]->(az st).names.lookup dz=some .local:=by first | assumption | decide +kernel):cS P w K mg base (aG P w) (k+1) f fd ps (zc K cls tabs (o6 np n G)):=by
 have len:∀vs H Q E,gJ K cls (fun _=>o6 np n G) vs H Q E->vs.length=np+1:=fun vs H Q E h_=>by
  obtain⟨p,v,ws,A,x,y,ds,e1,_,L,hb,r,z,q⟩:=h_;subst e1;unfold o6 at q
  split at q
  ·rename_i hl
   rw [eg,← r.length,hl]
  ·exact(show False from q).elim
 obtain⟨oc,od,kV,doc,pm,an,ax,ct,hU,rfl,lk,eM⟩:=F.ex;refine Hn lk eM S hf (fun vs H Q E h=>by rw [hp]; exact len vs H Q E h.2) fun A outer s H vs Q E hr h=>?_;obtain⟨ht,h⟩:=h;have hv:=len vs H Q E h;refine⟨_,hB ax A outer s H E rfl ht hr D7,?_⟩;obtain⟨p,v,ws,B,x,y,ds,rfl,t5,L,hb,r,z,q⟩:=h;unfold o6 at q
 split at q
 rotate_left
 ·exact(show False from q).elim
 have bj:start N (v::ws)=some v::(ws.map some++a7 n none):=by
  unfold start;rw [hn,hv,vp];rfl
 rw [bj];exact⟨[],B,.bor none x y::(ds.map Bd.val++a7 n .no),v,x,y,Pz (p:=none) L r z hb (fun a ha=>nomatch ha),rfl,rfl,hb,q⟩
end
section
variable {X:Cx}{cls:Nat->Addr}{E:XK}{body:Expr}{g:GB}{params:Arguments}{scope:Scope}{N:List Str}{fr cs:List Nat}{c P:Addr}{q:Str}{i j k:Nat}{p Z1 pos:Pos}
theorem ae7 {fr:List Nat}{ρ:aa}(h:fr[j]?=some i):nG (jF fr ρ)[j]?=nG ρ[i]?:=by
 unfold jF;rw [jt,h];show nG (some (pP ρ[i]?))=_
 cases ρ[i]? with
 |none=>rfl
 |some b=>cases b <;> rfl
theorem Vn {fr:List Nat}{σ:St}{v:V}(h:fr[j]?=some i)(hv:σ[i]?=some (some v)):(cU 0 fr σ)[j]?=some (some v):=by
 unfold cU;simp only [Ce,lq,jt,h];simp [hv]
theorem Qg (TR:Jt X.prog X.w X.K X.mg X.base cls cs k)(hr:bF (k+2) X.A)(hx:Passes (aG X.prog X.w) X E)(hg:Gl X "_law_told")(S:Jz X scope N fr)(AE:X.env.code=.ref c)(B:pz X.mg X.base c P)(hT:X.aY P=some (.du q))(hq:X.env.qual ++ "<lambda>" = q)(hj:fr[j]?=some i)
  (GF:defaultsOf params X.env=([],[])) (xr:∀fd:FuncData,fd.params=params->fd.defaults=.none->fd.kwdefaults=.none->bindArgs fd ⟨[],[]⟩=pure [])
  (gn:∀(f:Addr) (cv:Value) (A:Around) (outer:List Env) (s2:Shared) (H2:Hp) (E:XK),bF k (A.deeper (envX q scope s2.heap.objs.size f cv (d7 scope.names X.env.cells)))->Rz (e9 (aG X.prog X.w) X.prog X.w X.K X.mg X.base N q scope f cv (d7 scope.names X.env.cells) A outer s2 H2 E) E->
   mr (e9 (aG X.prog X.w) X.prog X.w X.K X.mg X.base N q scope f cv (d7 scope.names X.env.cells) A outer s2 H2 E) cls E j body g) :
  mr X cls E i (.Call (.Name "_law_told" p) [.Lambda params body scope Z1] [] pos) (ug i cs fr g):=by
 obtain⟨f,hm,hk,run⟩:=TR;intro pins s σ H Q I ⟨O,A,ρ,v,x,y,Ft,eX,hv,hb,hQ⟩;refine wpAny_Call_Name_kw (tV I hg hm ?_ (by decide));refine yA (h₀:=X.base) I.ok.mod.kE hk ?_ rfl rfl;refine lr (aao I (S.c.cells I.ok) AE B (I.base.dH P q hT) hq GF fun g' c' fS s' H' I' sm qN fA=>mE ⟨I'.eL,?_⟩);have bU:=hb.mono sm;refine wpAny_call (codeAny_mono (run X.A X.stack s' H' g' _ _ (Dt×List Dt×List Dt) (g (jF fr ρ)) (fun r Q=>rJ X.K A v x y H' Q r) Q E hr I'.xC I'.tk qN ⟨_,rfl⟩ (fun A' EF s2 Q' E' Gb e0' F6 T3 q'=>?_) ?_) fun r s2 hq=>?_)
 ·exact aan (t:=fun E=>lF X.K cls E j g) S I' T3 e0' Gb qN fA xr gn ⟨[],A,jF fr ρ,v,x,y,(Ft.mono sm).jF fr,by rw [ae7 hj]; exact eX,Vn hj hv,bU,q'⟩ F6
 ·unfold ug at hQ
  rw [eX] at hQ
  cases hm:g (jF fr ρ) with
  |ok r=>rw [hm] at hQ; exact rJ.mono hQ sm hb
  |bad=>rw [hm] at hQ; exact hQ
  |ex c=>
   rw [hm] at hQ;have q':Rg cls E (if c∈cs then .ok (.str (gy c),x,y) else .bad) H (rJ X.K A v x y H Q):=hQ
   split at q'
   ·rename_i GG
    refine⟨GG,fun H2 s2=>?_⟩;exact q' _ H2 ((bO).trans (sm.trans s2)) (hb.mono (sm.trans s2)) (hb.fp (sm.trans s2)) mU (by have:=Tj c; simp only [L2.sm]; omega)
   ·exact(show False from q').elim
 ·cases r with
  |error e=>exact hx pins σ H' s' e s2 I' hq
  |ok fl=>
   cases fl with
   |ret u=>exact I'.after hq
   |next=>exact dq hq
   |brk=>exact dq hq
   |cont=>exact dq hq
end
theorem c8.y0 {P:Program}{w:World}{H:Hp}{h:Heap}{a b:Addr}{ob:Obj}{kvs:List (Key×V)}(ha:H a=some (.bq ob (.dK kvs)))(hd:∀vs,ob.data≠.fields vs){u:HO}(x:c8 P w H h b u):c8 P w (upd H a (.dK kvs)) h b u:=by
 have ne:∀{c o},H c=some o->(∀p q,o≠.bq p q)->upd H a (.dK kvs) c=some o:=fun {c o} e n=>by
  rw [aF (fun z=>by rw [z,ha] at e; cases e; exact n _ _ rfl)];exact e
 induction u with
 |ins C dx fs=>obtain⟨d,r⟩:=x; exact⟨ne d (fun _ _ z=>nomatch z),r⟩
 |dT ai0=>
  obtain⟨z,y,xs,r,q⟩:=x;exact⟨z,y,xs,Paired.z7 r fun p q z=>⟨z.1,ne z.2.1 (fun _ _ z=>nomatch z),z.2.2⟩,q⟩
 |du q=>
  obtain⟨ps,e,t,hc⟩:=x;refine⟨ps,e,t,fun pos cv AD=>?_⟩;obtain⟨c,oc,u,e1,e2,vs,tt,e3,e4⟩:=hc pos cv AD;refine⟨c,oc,u,e1,?_,vs,tt,e3,e4⟩;rw [aF (fun z=>by rw [z,ha] at e2; cases e2; exact hd _ e3)];exact e2
 |bq o u ih=>exact⟨x.1,ih x.2⟩
 |_=>exact x
theorem Inv.y0 {X:Cx}{pins:List (Addr×Obj)}{σ:St}{H:Hp}{s:Shared}{a:Addr}{ob:Obj}{kvs:List (Key×V)}(I:Inv X pins σ H s)(ha:H a=some (.bq ob (.dK kvs)))(h0:∀o u,X.aY a≠some (.bq o u)):Inv X pins σ (upd H a (.dK kvs)) s:=by
 have ok:=I.ar a _ ha;obtain⟨go,z,na,vs,r,o,es,ep,g,_,hd,_⟩:=id ok;rw [go] at g;cases g;have oZ:∀vs,ob.data≠.fields vs:=fun vs e=>by rw [hd] at e; cases e
 have nn:∀{b},H b=none->upd H a (.dK kvs) b=none:=fun {b} e=>by
  rw [aF (fun z=>by rw [z,ha] at e; cases e)];exact e
 have ns:∀{b u},H b=some u->(∀p q,u≠.bq p q)->upd H a (.dK kvs) b=some u:=fun {b u} e n=>by
  rw [aF (fun z=>by rw [z,ha] at e; cases e; exact n _ _ rfl)];exact e
 refine⟨I.ok,I.os,I.bare,⟨I.base.keep,I.base.slot,fun b o e n hx=>nn (I.base.free b o e n hx),I.base.there,fun b xs e=>ns (I.base.eD b xs e) (fun _ _ z=>nomatch z),fun b o u e=>?_,fun b q e=>ns (I.base.dH b q e) (fun _ _ z=>nomatch z)⟩,I.loc,I.cell,nn I.free,fun x c e=>nn (I.eO x c e),fun p hp=>?_,fun b u e=>?_,I.len,I.tk⟩
 ·rw [aF (fun z=>h0 o u (by rw [← z]; exact e))]
  exact I.base.d6 b o u e
 ·obtain⟨h1,h2,h3⟩:=I.pin p hp
  exact⟨h1,nn h2,h3⟩
 ·by_cases hb:b=a
  ·subst hb
   rw [aU] at e;cases e;exact(ok.2).y0 ha oZ
  ·rw [aF hb] at e
   exact(I.ar b u e).y0 ha oZ
section
variable {X:Cx}{cls:Nat->Addr}{E:XK}{a b c o e:Expr}{f g h:aa->M Dt}{pos apos kq:Pos}{i j k:Nat}{es:List Expr}{fs:aa->M (List Dt)}
theorem U8 {t:aa->M Bool}{s u:SM}{sa sb:List Stmt}(i:Nat)(hc:Tv X cls E c t)(ha:Bv X cls E sa s)(hb:Bv X cls E sb u):Sv X cls E (.If c sa sb pos) (tH i t s u):=fun pins sh σ H D I h_=>by
 obtain⟨Hin,A₀,ρ,S,q⟩:=h_
 by_cases hz:∃ks,ρ[i]?=some (.bT ks)
 ·obtain⟨ks,hk⟩:=hz
  obtain⟨p,h1,h2⟩:=S.LI hk;obtain⟨ob,I'⟩:=I.freeze h1;obtain⟨kB,S'⟩:=h2 ob;unfold tH lend at q;rw [hk] at q;have q:j6 X.K cls E Hin A₀ ((t (ρ.set i (.val (.aj ks)))).bd fun b=>if b=true then s ρ else u ρ) D:=q;refine wpAny_If (aC (hc pins sh σ _ (fun b H1=>aw (upd H p (.bq ob (.dK (a9 ks)))) H1/\j6 X.K cls E Hin A₀ (if b=true then s ρ else u ρ) D) I' ⟨kB,kB++A₀,_,S'.2.2.2,?_⟩) fun d s1 ⟨H1,I1,s',q1⟩=>?_)
  ·cases ht:t (ρ.set i (.val (.aj ks))) with
   |ok d=>rw [ht] at q; exact fun H' s'=>⟨s',q⟩
   |ex c=>rw [ht] at q; exact fun H' s'=>q H' (S'.1.trans s')
   |bad=>rw [ht] at q; exact q
  ·have I2:=I1.y0 (s' p _ aU) fun o u e=>by
    have:=I.base.d6 p o u e;rw [h1] at this;cases this
   have ss:aw H (upd H1 p (.dK (a9 ks))):=fun b o e=>by
    by_cases AG:b=p
    ·rw [AG,aU]; rw [AG,h1] at e; exact e
    ·rw [aF AG]; exact s' b o (by rw [aF AG]; exact e)
   obtain⟨os,S⟩:=S
   cases d with
   |true=>exact ha pins s1 σ _ D I2 ⟨Hin,A₀,ρ,⟨os,S.mono ss⟩,q1⟩
   |false=>exact hb pins s1 σ _ D I2 ⟨Hin,A₀,ρ,⟨os,S.mono ss⟩,q1⟩
 ·have e:lend i ρ=ρ:=by
   unfold lend
   split
   ·rename_i ks hk; exact(hz ⟨ks,hk⟩).elim
   ·rfl
  unfold tH at q;rw [e] at q;exact dP hc ha hb pins sh σ H D I ⟨Hin,A₀,ρ,S,q⟩
theorem ae3 (hc:X.calm=true):fi X (.type "dict") (fun xs H Q=>∃a ts ds ps,xs=[V.ref a]/\bP X.K H a ts/\av X.K H ds ts/\g9 ds=some ps/\ps.length<=10000/\∀p,H p=none->Q (.ref p) (upd H p (.dK (a9 (jc [] ps))))):=by
 intro pins s σ H xs us Q I r h;obtain⟨a,ts,ds,ps,rfl,hs,hr,hp,hl,q⟩:=h;obtain⟨u,rfl,ru⟩:=vals1 r;obtain rfl:u=bI a:=ru;obtain⟨ak,rv,⟨⟨oc,od,Y2,hU⟩,n,e,c1,c2,c3⟩,_⟩:=I.list hs
 simp only at c1 c2 c3
 subst c1 c2 c3;obtain⟨rs,h1,h2,h3⟩:=Mi I hr hp rv;have hlen:=KV.length h1;rw [HK] at hlen;refine aee (I.ok.hd hc) e (rs:=rs) (by simp [h2]) (by omega) (fun j v hj=>h3 j v (by simpa using hj)) fun h' tk hD k=>?_;intro ht;have rel:KV (a9 (jc [] ps)) (merged [] rs):=by
  rw [← HJ];exact KV.merge h1 .nil
 have t9:=Fi (a9 ps) (a9 []);rw [HJ,HK ps] at t9;have hz:(a9 (jc [] ps)).length<=sizeLine:=by
  have:sizeLine≥10000:=by decide
  simp only [a9,jq,mD] at t9 ⊢;omega
 exact⟨.ref s.heap.objs.size,_,I.laid (a:=s.heap.objs.size) (o:=.dK (a9 (jc [] ps))) (h':=h') (t':=tk) k (bc _) (xE hz (beq_eq_false_iff_ne.mpr (bY (bJ I.big))) rel hD) ht,rfl,q _ (I.ar.fresh (bc _))⟩
theorem U6 {i:Nat}{x:Str}{pos' dp cp:Pos}(hN:X.N.Nodup)(hi:X.N[i]?=some x)(hx:Loc X.env.scope x)(hc:X.calm=true)(hg:Gl X "dict")(hm:X.mg "dict" = none)(he:Ev X cls E a f)(bj:isStar a=false)
  (hs:swapsWith (.Call (.Name "dict" dp) [a] [] cp) (some (.Name x pos')) pos.line X.env=pure false:=by rfl)
  (hf:X.fn x=true∨X.env.scope.names.lookup x=some .local:=by first | exact .inl rfl | exact .inr rfl | assumption):Sv X cls E (.Assign [.Name x pos'] (.Call (.Name "dict" dp) [a] [] cp) pos) (zh i f):=
 (qj hN hi hx (zG (ae3 hc) hg hm boot_dict (@bh _ _ _ _ _ bj he cL) (by decide) (by decide) (jG bj) rfl) hs hf).imp fun D σ H ⟨Hin,A₀,ρ,⟨os,S⟩,q⟩=>by
 have F:=S.2.2.2;refine⟨os,os++A₀,ρ,F,ky S.1 q fun d v H' _ q1 s' r z=>?_⟩
 cases d with
 |lst ds=>
  obtain⟨p,xs,rfl,h1,h2⟩:=fK r;simp only [Mm] at q1
  split at q1
  ·rename_i ps Oz
   obtain⟨e1,e2⟩:=LZ Oz z.2;have:=z.1;exact⟨p,xs,ds,ps,rfl,bO.seq h1,h2.mono bO,Oz,by omega,fun p' dJ=>q1 _ _ ⟨p'::os,(S.mono s').freshD dJ (Lo ps [] ⟨by simp,fun _ z=>nomatch z⟩ e2 (by simp; omega))⟩⟩
  ·exact(show False from q1).elim
 |_=>exact(show False from q1).elim
theorem Vu:RD X (fun x lo hi H Q=>∃p xs n,x=.ref p/\cX X.K H p xs/\1<=n/\n<=xs.length/\lo=some ((n:Nat):Int)/\hi=none/\∀p',H p'=none->Q (.ref p') (upd H p' (.tup (xs.drop n)))):=by
 intro pins s σ H x v vl vu lo hi sl Q I rx hs pl pu h;obtain⟨p,xs,n,rfl,hx,h1,h2,rfl,rfl,q⟩:=h;cases rx;cases pl;cases pu;obtain⟨ak,r,ht,hz⟩:=I.tuple hx;have hlen:=r.length;refine⟨"tuple",_,slot_tuple_getitem.lookup,ht.typeIs,?_⟩
 refine getItem_tuple_from ht hs h1 (by rw [gx]; omega) ?_ (by rw [gx]; omega);refine(fun ht=>⟨.ref s.heap.objs.size,_,I.laid (t':=s.toks) (o:=.tup (xs.drop n)) (fun b ob q=>aW _ q) (bc _) ?_,rfl,q _ (I.ar.fresh (bc _))⟩);exact⟨by rw [List.length_drop]; omega,ak.drop n,r.drop n,_,cN _ rfl,rfl,_,rfl⟩
theorem Hy {ED:Pos}{n:Nat}(he:Ev X cls E a f)(hn:1<=n)(hl:PO X (some o) (y9 X.K cls E (wq (some (pC (.int n)))))):Ev X cls E (.Subscript a (.Slice (some o) none none ED) pos) (p1 (oH n) f):=
 (Xx Vu he hl (XW (cls:=cls) (E:=E))).imp fun σ H Q ⟨O,A,ρ,F,q⟩=>by
 refine⟨O,A,ρ,F,Rg.bind q fun d _ q1=>?_⟩;intro v H1 s1 r1 z1;refine⟨O,A,ρ,F.mono s1,?_⟩;intro H2 s2;refine⟨O,A,ρ,(F.mono s1).mono s2,?_⟩;intro H3 s3;have q2:=Res.mono (Q:=Q) q1 ((s1.trans s2).trans s3)
 cases d with
 |tup ds=>
  simp only [oH] at q2
  split at q2
  ·rename_i xi
   obtain⟨p,xs,rfl,h1,h2⟩:=iz (r1.mono ((s2.trans s3).ao A));have hlen:=h2.length;exact⟨p,xs,n,rfl,bO.f9 h1,hn,by omega,rfl,rfl,fun p' hp=>q2 (.ref p') _ (.upd hp) (qg (nt (((F.bD.mono s1).mono s2).mono s3) hp) ((LG n h2).mono ((aw.upd hp).ao A))) ⟨by rw [List.length_drop]; have:=z1.1; omega,mS fun d hd=>ix z1.2 (List.mem_of_mem_drop hd)⟩⟩
  ·exact(show False from q2).elim
 |_=>exact(show False from q2).elim
theorem afF (ρ:aa)(ds:List Dt)(h:au ρ=.ok ds):ds.length=([]:List Expr).length:=by cases h; rfl
theorem Iw {e:Expr}{es:List Expr}{f:aa->M Dt}{fs:aa->M (List Dt)}(h:∀ρ ds,fs ρ=.ok ds->ds.length=es.length)(ρ:aa)(ds:List Dt)(q:ag f fs ρ=.ok ds):ds.length=(e::es).length:=by
 unfold ag at q
 cases h1:f ρ with
 |ok d=>
  cases h2:fs ρ with
  |ok r=>rw [h1,h2] at q; cases q; rw [eg,eg,h ρ r h2]
  |ex c=>rw [h1,h2] at q; cases q
  |bad=>rw [h1,h2] at q; cases q
 |ex c=>rw [h1] at q; cases q
 |bad=>rw [h1] at q; cases q
theorem Vb {x:Str}{p px pt g8:Pos}{kt k2 n}{ts:List Expr}{gs:List Dt->aa->M aa}(C:JK X.prog X.w X.K X.mg X.base k)(hr:bF (k+1) X.A)(hx:Passes (aG X.prog X.w) X E)(hg:Gl X "Board")(hc:X.calm=true)(hgi:PG X (.Name x px) (uh i))(xm:jm X ts (uf X.K gs))(he:Av X cls E es fs)(hl:es.length<=10:=by decide)
  (hm:(assignEach (.Name x px::ts) X.env).map (·.2)=assign (.Name x px) X.env::(assignEach ts X.env).map (·.2):=by rfl)
  (hn:(assignEach (.Name x px::ts) X.env).length=n:=by rfl) (bj:(assignEach (.Name x px::ts) X.env).findIdx? (·.1)=none:=by rfl) (hN:∀ds:List Dt,ds.length=es.length->(1+ds.length)=n)
  (hlen:∀ρ ds,fs ρ=.ok ds->ds.length=es.length)
  (hs:swapsWithSole [.Tuple (.Name x px::ts) kt pt] (.Tuple (.Call (.Name "Board" p) [] [] pos::es) k2 g8) kq.line X.env=pure false:=by rfl)
  (hw:swappedStores [.Tuple (.Name x px::ts) kt pt] (.Tuple (.Call (.Name "Board" p) [] [] pos::es) k2 g8) X.env=pure none:=by rfl) :
  Sv X cls E (.Assign [.Tuple (.Name x px::ts) kt pt] (.Tuple (.Call (.Name "Board" p) [] [] pos::es) k2 g8) kq) (qd i gs fs):=
 (LY (zD (@bh _ _ _ _ _ rfl (Xy C hr hx hg) he)) (Ma (n:=n) hc (L9 hgi xm hm) hn bj) hs hw rfl).imp fun D σ H ⟨Hin,A₀,ρ,⟨os,S⟩,q⟩=>by
 intro a dx l m C H1 hC hn nd h1 h2 h3 h4 hk;have s1:=Zw hn hk;have F:=S.2.2.2;have F1:bf X.K os (([a,dx,l,m]++os)++A₀) ρ σ H1:=by
  rw [mG];refine F.wide s1 hn fun b hb=>?_;simp only [ba,fJ,or_false] at hb;rcases hb with rfl | rfl | rfl | rfl <;> simp [*]
 refine⟨os,([a,dx,l,m]++os)++A₀,ρ,F1,?_⟩
 cases hf:fs ρ with
 |bad=>unfold qd at q; rw [hf] at q; exact q
 |ex c=>unfold qd at q; rw [hf] at q; exact fun H' s'=>q H' ((S.1.trans s1).trans s')
 |ok ds=>
  have hd:=hlen ρ ds hf;unfold qd at q;rw [hf] at q;have q:j6 X.K cls E Hin A₀ ((gs ds (ρ.set i (.aQ [] []))).calm.bd fun ρ'=>.ok (.nx ρ')) D:=q;intro vs H2 s2 r z;have hvl:=r.length;refine⟨by show vs.length+1<=_; exact c9 (by omega:vs.length+1<=11) (jH (by decide)),fun T hT=>?_⟩;have s3:aw H2 (upd H2 T (.tup (.ref a::vs))):=.upd hT;refine⟨T,.ref a::vs,rfl,.of aU,by rw [← hN ds hd,eg]; omega,_,_,rfl,?_⟩;have S2:=S.Zx (i:=i) ((s1.trans s2).trans s3) hC hn nd (s3 _ _ (s2 _ _ h1)) (s3 _ _ (s2 _ _ h2)) (s3 _ _ (s2 _ _ h3)) (s3 _ _ (s2 _ _ h4))
  cases hg:gs ds (ρ.set i (.aQ [] [])) with
  |bad=>rw [hg] at q; exact(show False from q).elim
  |ex c=>rw [hg] at q; exact(show False from q).elim
  |ok ρ'=>
   rw [hg] at q;exact⟨_,_,_,ds,S2.2.2.2,r.mono (s3.ao _),z,ρ',hg,fun aJ F'=>q aJ _ ⟨[a,dx,l,m]++os,S2.1,S2.2.1,S2.2.2.1,F'⟩⟩
theorem adq {p p2 oA:Pos}(hc:X.calm=true)(Gx:Gl X "len")(t9:X.mg "len" = none)(xm:Gl X "set")(Gk:X.mg "set" = none)(ha:Ev X cls E e f)(bj:isStar e=false) :
  Ev X cls E (.Call (.Name "len" p) [.Call (.Name "set" p2) [e] [] oA] [] pos) (p1 qr f):=by
 intro pins s σ H Q I ⟨O,A,ρ,F,q⟩;refine wpAny_Call_Name_kw (lJ I Gx t9 fW ?_ (by decide) (by decide));refine Cs (e:=.Call (.Name "set" p2) [e] [] oA) (rest:=[]) ?_ rfl rfl
 refine lr (x:=eval (.Call (.Name "set" p2) [e] [] oA) X.env) ?_
 refine wpAny_Call_Name_kw (lJ I xm Gk (show bootBuiltins "set" = some (.type "set") from by decide +kernel) ?_ (by decide) (by decide))
 refine rS (e:=e) (rest:=[]) ?_ (jG bj) rfl;rw [jG bj];refine lr (x:=eval e X.env) (aC (ha pins s σ H (fun x H1=>∃d,aw H H1/\Rep X.K (ao H1 A) d x/\sm d/\Res X.K cls A E (qr d) H1 Q) I ⟨O,A,ρ,F,Rg.bind q fun d _ q1=>?_⟩) fun u s1 ⟨x,H1,I1,r1,d,Dz,rp,zd,q1⟩=>?_)
 ·intro x H1 s1 r1 z1
  exact⟨d,s1,r1,z1,Res.mono q1 s1⟩
 refine mE ?_
 cases d with
 |lst ds=>
  simp only [qr] at q1
  split at q1
  ·rename_i hlen
   cases hs:lM ds with
   |none=>rw [hs] at q1; exact(show False from q1).elim
   |some ls=>
    rw [hs] at q1;obtain⟨pl,xs,rfl,h1,h2⟩:=fK rp;cases r1;have hx:=ints_rep hs h2;subst hx;obtain⟨ak,rv,Eu,hz⟩:=I1.list (bO.seq h1);have hl:ak.length=ls.length:=by have:=rv.length; simpa using this.symm
    have nr:ls.length<=1000:=by have:=h2.length; simp at this; omega
    refine Lv (knd:=intKind X.prog X.w) (ks:=ls) (I1.ok.hd hc) Eu.isList (fun i v hv=>?_) (by simp [hl]) (by simp [scanBound]; omega) fun h' tk hS hk=>?_
    ·have qG:ak[i]?=some v:=by simpa using hv
     have hi:i<ak.length:=(ej.mp qG).1;have oW:i<ls.length:=by omega
     obtain⟨u,hu,ru⟩:=rv.get (i:=i) (x:=V.int ls[i]) (by simp [oW]);rw [qG] at hu;cases hu;obtain⟨t,rfl⟩:=ru;exact⟨ls[i],by simp [oW],intKind_is X.prog X.w _ _,rfl⟩
    ·refine mE ?_
     obtain⟨o,es,ep,t,ho,hex,hd,_,_,hb,hf,hn⟩:=hS;refine call_len_set ho hex hd hf (by have:es.size<4096:=hb; omega) ?_;rw [hn];exact(fun ht=>⟨.int (ls.eraseDups.length:Nat),H1,I1.kept hk,⟨_,rfl⟩,q1 _ H1 (.refl _) ek trivial⟩)
  ·exact(show False from q1).elim
 |_=>exact(show False from q1).elim
theorem ZM {k1 k2 k3:List Nat}{v1 v2 v3:V}(nz:k1≠k2)(GY:k1≠k3)(GX:k2≠k3):m8 [] [(Kt k1,v1),(Kt k2,v2),(Kt k3,v3)]=[(Kt k1,v1),(Kt k2,v2),(Kt k3,v3)]:=by
 have ne:∀{a b:List Nat},a≠b->Kt a≠Kt b:=fun h e=>h (by injection e with e; injection e with e; simpa using congrArg iY e);simp [m8,putK,ne nz,ne GY,ne GX]
theorem TJ {k1 k2 k3 l:List Nat}{v1 v2 v3:V}:fY [(Kt k1,v1),(Kt k2,v2),(Kt k3,v3)] (Kt l)=if l=k1 then some v1 else if l=k2 then some v2 else if l=k3 then some v3 else none:=by
 have ne:∀{a:List Nat},decide (Kt a=Kt l)=decide (l=a):=fun {a}=>by
  rw [decide_eq_decide];exact⟨fun e=>by injection e with e; injection e with e; exact(by simpa using congrArg iY e:a=l).symm,fun e=>by rw [e]⟩
 unfold fY;simp only [il,ne]
 by_cases h1:l=k1
 ·simp only [decide_eq_true h1,if_pos h1,Option.map_some]
 ·by_cases h2:l=k2
  ·simp only [decide_eq_false h1,decide_eq_true h2,if_neg h1,if_pos h2,Option.map_some]
  ·by_cases h3:l=k3
   ·simp only [decide_eq_false h1,decide_eq_false h2,decide_eq_true h3,if_neg h1,if_neg h2,if_pos h3,Option.map_some]
   ·simp only [decide_eq_false h1,decide_eq_false h2,decide_eq_false h3,if_neg h1,if_neg h2,if_neg h3,List.find?_nil,Option.map_none]
theorem adz {k1 k2 k3:List Nat}{x1 x2 x3:Str}{j1 j2 j3 p1 p2 p3 dp}{a1 a2 a3:Expr}{f1 f2 f3:aa->M Dt}(e1:x1=⟨k1.toArray⟩)(e2:x2=⟨k2.toArray⟩)(e3:x3=⟨k3.toArray⟩)(nz:k1≠k2)(GY:k1≠k3)(GX:k2≠k3)(hu:X.A.units+50<cLine)(h1:Ev X cls E a1 f1)(h2:Ev X cls E a2 f2)(h3:Ev X cls E a3 f3)(hb:Ev X cls E b g)(hc:Ev X cls E c h)
  (m:M2 X (.Dict [some (.Constant (.str x1) j1 p1),some (.Constant (.str x2) j2 p2),some (.Constant (.str x3) j3 p3)] [a1,a2,a3] dp) "get" apos b c pos) :
  Ev X cls E (.Call (.Attribute (.Dict [some (.Constant (.str x1) j1 p1),some (.Constant (.str x2) j2 p2),some (.Constant (.str x3) j3 p3)] [a1,a2,a3] dp) "get" apos) [b,c] [] pos) (zJ k1 k2 k3 f1 f2 f3 g h):=by
 subst e1 e2 e3;refine(XE (by omega) (XD (Et (jb (l:=k1) rfl) h1 (Et (jb (l:=k2) rfl) h2 (Et (jb (l:=k3) rfl) h3 Xj))) rfl rfl (by simp) (by simp)) hb hc m).imp fun σ H Q h_=>?_;obtain⟨O,A,ρ,F,q⟩:=h_;intro p hp;have s0:aw H (upd H p (.dK [])):=.upd hp;refine⟨O,A,ρ,F.mono s0,Rg.heap (Rg.bind q fun d1 _ q1=>q1) s0 fun d1 _ q1=>?_⟩;intro v1 H1 s1 r1 z1;refine⟨O,A,ρ,(F.mono s0).mono s1,Rg.heap (Rg.bind q1 fun d2 _ q2=>q2) (s0.trans s1) fun d2 _ q2=>?_⟩;intro v2 H2 s2 r2 z2;refine⟨O,A,ρ,((F.mono s0).mono s1).mono s2,Rg.heap (Rg.bind q2 fun d3 _ q3=>q3) ((s0.trans s1).trans s2) fun d3 _ q3=>?_⟩;intro v3 H3 s3 r3 z3;have Gf:H3 p=some (.dK []):=s3 _ _ (s2 _ _ (s1 _ _ aU));refine⟨Gf,[(Kt k1,v1),(Kt k2,v2),(Kt k3,v3)],rfl,by simp,p,rfl,.inl ⟨_,.inl aU⟩,?_⟩;rw [ZM nz GY GX];generalize O7:upd H3 p (.dK [(Kt k1,v1),(Kt k2,v2),(Kt k3,v3)])=H4;have Ge:H4 p=some (.dK [(Kt k1,v1),(Kt k2,v2),(Kt k3,v3)]):=by rw [← O7]; exact aU
 have pA:p∉A:=F.bD.fresh hp;have s4:aw H H4:=fun b o e=>by
  rw [← O7,aF (cH e hp)];exact s3 _ _ (s2 _ _ (s1 _ _ (s0 _ _ e)))
 refine⟨O,A,ρ,F.mono s4,Rg.heap (Rg.bind q3 fun d4 _ q4=>q4) s4 fun d4 _ q4=>?_⟩;intro y H5 s5 r5 z5;refine⟨O,A,ρ,(F.mono s4).mono s5,Rg.heap (Rg.bind q4 fun d5 _ q5=>q5) (s4.trans s5) fun d5 _ q5=>?_⟩;intro u H6 s6 r6 z6;have q6:=Res.mono (K:=X.K) (A:=A) (Q:=Q) q5 ((s4.trans s5).trans s6);obtain⟨b1,rfl⟩:∃b1,d1=.bl b1:=by
  cases d1 with
  |bl b=>exact⟨b,rfl⟩
  |_=>exact(show False from q6).elim
 obtain⟨b2,rfl⟩:∃b2,d2=.bl b2:=by
  cases d2 with
  |bl b=>exact⟨b,rfl⟩
  |_=>exact(show False from q6).elim
 obtain⟨b3,rfl⟩:∃b3,d3=.bl b3:=by
  cases d3 with
  |bl b=>exact⟨b,rfl⟩
  |_=>exact(show False from q6).elim
 have q6:Res X.K cls A E (QG k1 k2 k3 b1 b2 b3 d5 d4) H6 Q:=q6;simp only [Rep] at r1 r2 r3;subst r1 r2 r3
 cases d4 with
 |str l=>
  have q6:∀v H',aw H6 H'->Rep X.K (ao H' A) (if l=k1 then .bl b1 else if l=k2 then .bl b2 else if l=k3 then .bl b3 else d5) v->sm (if l=k1 then .bl b1 else if l=k2 then .bl b2 else if l=k3 then .bl b3 else d5)->Q v H':=q6;refine⟨fY [(Kt k1,_),(Kt k2,_),(Kt k3,_)] (Kt l),by rw [cK r5]; exact iX.k (k:=Kt l) (s6 _ _ (s5 _ _ Ge)),?_⟩;rw [TJ]
  by_cases c1:l=k1
  ·simp only [if_pos c1] at q6 ⊢
   exact q6 _ H6 (.refl _) eJ trivial
  ·by_cases c2:l=k2
   ·simp only [if_neg c1,if_pos c2] at q6 ⊢
    exact q6 _ H6 (.refl _) eJ trivial
   ·by_cases c3:l=k3
    ·simp only [if_neg c1,if_neg c2,if_pos c3] at q6 ⊢
     exact q6 _ H6 (.refl _) eJ trivial
    ·simp only [if_neg c1,if_neg c2,if_neg c3] at q6 ⊢
     exact q6 _ H6 (.refl _) r6 z6
 |_=>exact(show False from q6).elim
end
end L2
namespace vg
open PySem L2 Pg PyProof.Rows PySem.W
local macro_rules
 | `(tactic| exists cC) => `(tactic| exact ⟨rfl, rfl, rfl, by decide +kernel, rfl, by decide +kernel, by decide +kernel, by decide +kernel⟩)
noncomputable def top (i:Nat):Stmt:=PySem.Challenge.pw_tickrows_k86_whole_boards.main.body.getD i (.Pass ⟨0,0,0,0⟩)
noncomputable abbrev DT:Stmt:=top 31
noncomputable abbrev DI:Stmt:=top 35
noncomputable abbrev DJ:Stmt:=top 12
noncomputable abbrev DH:Stmt:=top 13
noncomputable abbrev DD:Stmt:=top 25
noncomputable abbrev DC:Stmt:=top 24
noncomputable abbrev DF:Stmt:=top 22
noncomputable abbrev DG:Stmt:=top 19
noncomputable abbrev DK:Stmt:=top 16
noncomputable abbrev DX:Stmt:=top 20
noncomputable abbrev DY:Stmt:=top 17
noncomputable abbrev DV:Stmt:=top 21
noncomputable abbrev DW:Stmt:=top 18
noncomputable abbrev DU:Stmt:=top 36
noncomputable abbrev DE:Stmt:=top 26
noncomputable abbrev DB:Stmt:=top 27
noncomputable abbrev Ly:Stmt:=top 37
noncomputable abbrev DR:Stmt:=top 39
noncomputable abbrev DN:Stmt:=top 40
noncomputable abbrev DL:Stmt:=top 41
noncomputable abbrev DP:Stmt:=top 44
noncomputable abbrev DO:Stmt:=top 45
noncomputable abbrev DS:Stmt:=top 46
noncomputable abbrev DQ:Stmt:=top 42
noncomputable abbrev DM:Stmt:=top 43
noncomputable abbrev lH:Stmt:=top 47
noncomputable abbrev jI:Stmt:=top 48
noncomputable def nH (i:Nat):Stmt:=match top 34 with | .ClassDef _ _ _ b _ _ _ _ _ _ _=>b.getD i (.Pass ⟨0,0,0,0⟩) | _=>.Pass ⟨0,0,0,0⟩
noncomputable abbrev E6:Stmt:=nH 0
noncomputable abbrev E5:Stmt:=nH 1
noncomputable abbrev E7:Stmt:=nH 2
noncomputable abbrev E1:Stmt:=nH 3
noncomputable abbrev E8:Stmt:=nH 4
noncomputable abbrev E4:Stmt:=nH 5
noncomputable abbrev E2:Stmt:=nH 6
noncomputable abbrev Nh:Stmt:=nH 7
noncomputable abbrev E3:Stmt:=nH 9
structure Tx (w:World) (K:ah) (mg:Str->Option Value) (z:Nat->Addr):Prop where
 len:mg "len" = none
 range:mg "range" = none
 min:mg "min" = none
 all:mg "all" = none
 int:mg "int" = none
 str:mg "str" = none
 zip:mg "zip" = none
 isinstance:mg "isinstance" = none
 ValueError:mg "ValueError" = none
 set:mg "set" = none
 dict:mg "dict" = none
 tuple:mg "tuple" = none
 Ry:mg "TickError" = some (.ref (z 8))
 Sg:mg "Clash" = some (.ref (z 0))
 x9:mg "NoName" = some (.ref (z 1))
 RL:mg "NoText" = some (.ref (z 2))
 RK:mg "NoTick" = some (.ref (z 3))
 RJ:mg "NoWave" = some (.ref (z 4))
 Rx:mg "TooLong" = some (.ref (z 5))
 Jr:mg "Unlike" = some (.ref (z 6))
 RM:mg "NoBack" = some (.ref (z 7))
 R3:∃t,mg "LETTERS" = some (.str ⟨#[97,98,99,100,101,102,103,104,105,106,107,108,109,110,111,112,113,114,115,116,117,118,119,120,121,122]⟩ t)
 R0:∃t,mg "MOST_LETTERS" = some (.int 4 t)
 JJ:∃a,mg "OPPOSITES" = some (.ref a)/\JH w K a [([48],[49]),([49],[48]),([120],[120])]
 BX:∃a,mg "GATE_SIZES" = some (.ref a)/\JI w K a [([110,111],1),([98,111,116,104],2),([101,105,116,104,101,114],2),([117,110,108,105,107,101],2)]
 RN:∀a,mg "GATE_SIZES" = some (.ref a)->(a==sysModules)=false
 PX:cF K mg "is_name" DT ["thing"]
 PR:cF K mg "refuse_no_name" DI ["name"]
 PU:cF K mg "of_one_length" DJ ["waves"]
 PQ:cF K mg "refuse_unlike" DH ["waves"]
 PK:cF K mg "with_name" DD ["sheet","name","wave"]
 PJ:cF K mg "with_wave" DC ["sheet","name","wave"]
 PM:cF K mg "unlike_at" DF ["first","second"]
 PN:cF K mg "unlike" DG ["one","other"]
 PV:cF K mg "no" DK ["wave"]
 P4:cF K mg "both_at" DX ["first","second"]
 f_both:cF K mg "both" DY ["one","other"]
 PZ:cF K mg "either_at" DV ["first","second"]
 P0:cF K mg "either" DW ["one","other"]
 PY:cF K mg "gate_wave" DU ["word","waves"]
 PL:cF K mg "wave_of" DE ["sheet","name"]
 PH:cF K mg "without_wave" DB ["sheet","name"]
 adh:cF K mg "move_last" Ly ["source","target"]
 Qb:cF K mg "_law_cell" DR ["_law_script","_law_k"]
 P7:cF K mg "_law_pick" DN ["_law_script","_law_k","_law_many"]
 P5:cF K mg "_law_wave" DL ["_law_script","_law_at","_law_many","_law_signs"]
 P9:cF K mg "_law_deed" DP ["_law_script","_law_at","_law_known","_law_many"]
 P8:cF K mg "_law_made" DO ["_law_word","_law_some"]
 Qc:cF K mg "_law_behind" DS ["_law_known","_law_deed_here"]
 Qa:cF K mg "_law_class" DQ ["_law_kept"]
 P6:cF K mg "_law_told" DM ["_law_deed_here"]
 adj:cF K mg "_law_did" lH ["_law_board","_law_deed_here"]
 adi:cF K mg "law" jI ["_law_script"]
 RX:R9 K mg E6
 RW:nJ K "put" "Board.put" E5 ["self","name","wave"]
 RY:nJ K "gate" "Board.gate" E7 ["self","name","word","names"]
 RS:nJ K "take" "Board.take" E1 ["self","name"]
 RZ:nJ K "do_step" "Board.do_step" E8 ["self","step","behind"]
 RV:nJ K "sheet" "Board.sheet" E4 ["self"]
 RT:nJ K "steps" "Board.steps" E2 ["self"]
 aiN:nJ K "back" "Board.back" Nh ["self"]
 RU:nJ K "sizes" "Board.sizes" E3 ["self"]
 n8:excIn K (z 1) lC "ValueError.__new__" = true
 sf:excIn K (z 6) lC "ValueError.__new__" = true
 vG:excIn K (z 7) lC "ValueError.__new__" = true
 uO:isClsIn K (z 1)=true
 uL:findIn K (.ref (z 1)) "__getattribute__" = some (some (.builtin "BaseException.__getattribute__"))
 uI:findIn K (.ref (z 1)) "__getattr__" = some none
 uF:findIn K (.ref (z 1)) "__class__" = some (some (.builtin "object.__class__"))
 uC:specialIn K (.builtin "object.__class__") "__get__" = some (some (.builtin "getset_descriptor.__get__"))
 uz:takesIn K (.builtin "object.__class__")=some true
 uw:mroIn K (z 1) (.type "object")=some true
 ur:mroIn K (z 1) (.type "BaseException")=some true
 tS:exmOne K (.ref (z 1)) (.ref (z 8))=some true
 sV:kitOne K (.ref (z 1)) (.ref (z 0))=some false
 sS:kitOne K (.ref (z 1)) (.ref (z 7))=some false
 sP:kitOne K (.ref (z 1)) (.ref (z 1))=some true
 sL:kitOne K (.ref (z 1)) (.ref (z 2))=some false
 sE:kitOne K (.ref (z 1)) (.ref (z 3))=some false
 sv:kitOne K (.ref (z 1)) (.ref (z 4))=some false
 sq:kitOne K (.ref (z 1)) (.ref (z 5))=some false
 sj:kitOne K (.ref (z 1)) (.ref (z 6))=some false
 sY:kitOne K (.ref (z 1)) (.type "ValueError")=some true
 uN:isClsIn K (z 6)=true
 uK:findIn K (.ref (z 6)) "__getattribute__" = some (some (.builtin "BaseException.__getattribute__"))
 uH:findIn K (.ref (z 6)) "__getattr__" = some none
 uE:findIn K (.ref (z 6)) "__class__" = some (some (.builtin "object.__class__"))
 uB:specialIn K (.builtin "object.__class__") "__get__" = some (some (.builtin "getset_descriptor.__get__"))
 uy:takesIn K (.builtin "object.__class__")=some true
 uv:mroIn K (z 6) (.type "object")=some true
 uq:mroIn K (z 6) (.type "BaseException")=some true
 tR:exmOne K (.ref (z 6)) (.ref (z 8))=some true
 sU:kitOne K (.ref (z 6)) (.ref (z 0))=some false
 sR:kitOne K (.ref (z 6)) (.ref (z 7))=some false
 sO:kitOne K (.ref (z 6)) (.ref (z 1))=some false
 sG:kitOne K (.ref (z 6)) (.ref (z 2))=some false
 sC:kitOne K (.ref (z 6)) (.ref (z 3))=some false
 su:kitOne K (.ref (z 6)) (.ref (z 4))=some false
 so:kitOne K (.ref (z 6)) (.ref (z 5))=some false
 si:kitOne K (.ref (z 6)) (.ref (z 6))=some true
 sX:kitOne K (.ref (z 6)) (.type "ValueError")=some true
 uP:isClsIn K (z 7)=true
 uM:findIn K (.ref (z 7)) "__getattribute__" = some (some (.builtin "BaseException.__getattribute__"))
 uJ:findIn K (.ref (z 7)) "__getattr__" = some none
 uG:findIn K (.ref (z 7)) "__class__" = some (some (.builtin "object.__class__"))
 uD:specialIn K (.builtin "object.__class__") "__get__" = some (some (.builtin "getset_descriptor.__get__"))
 uA:takesIn K (.builtin "object.__class__")=some true
 ux:mroIn K (z 7) (.type "object")=some true
 uu:mroIn K (z 7) (.type "BaseException")=some true
 tT:exmOne K (.ref (z 7)) (.ref (z 8))=some true
 sW:kitOne K (.ref (z 7)) (.ref (z 0))=some false
 sT:kitOne K (.ref (z 7)) (.ref (z 7))=some true
 sQ:kitOne K (.ref (z 7)) (.ref (z 1))=some false
 sN:kitOne K (.ref (z 7)) (.ref (z 2))=some false
 sF:kitOne K (.ref (z 7)) (.ref (z 3))=some false
 sx:kitOne K (.ref (z 7)) (.ref (z 4))=some false
 sr:kitOne K (.ref (z 7)) (.ref (z 5))=some false
 sk:kitOne K (.ref (z 7)) (.ref (z 6))=some false
 sZ:kitOne K (.ref (z 7)) (.type "ValueError")=some true
section
variable {P:Program}{w:World}{K:ah}{mg:Str->Option Value}{base:Heap}{z:Nat->Addr}
theorem Wc:bA ["thing"] ["thing"] (az DT):=by exists cC
theorem YD (T:Tx w K mg z):Cq P w K mg base z 1 "is_name" ["thing"] BO:=
 have SC:=Wc
 .of (b:=JU) T.PX SC rfl rfl fun f ax A outer s H E hr R=>(bx (dP (PW.pt (pM (yX (yW (adw (by rfl) T.isinstance (by rfl) T.str (af (pv 0)) rfl))) (pL (yX (T6 My My aM (ic jZ (by rfl) T.len fW (ai rfl (af (pv 0)) aA)) (xy (jL (by rfl) T.R0.choose_spec (v:=.int 4) ⟨_,rfl⟩) (fun _=>ek) trivial)))))) (bu (bX Hz)) d8)
   (bu (bX (ic (Q6 rfl) (by rfl) T.all boot_all (ai rfl (kW ja (N:=["sign"]) (k:=1) (fr:=[]) (fB (by decide)) rfl ⟨rfl,rfl,rfl,rfl,rfl,rfl⟩ (ng (af (pv 0))) (fun _ _ _ _=>(cW (cR (i:=0) (show fj (α:=Str) ["sign"] from by decide +kernel) rfl (bw rfl) (dj rfl)))) (fun _ _ _ _=>jC) (fun _ _ _ _=>(ji Y4 (af (pv 0)) (xy (jL (by rfl) T.R3.choose_spec (v:=S [97,98,99,100,101,102,103,104,105,106,107,108,109,110,111,112,113,114,115,116,117,118,119,120,121,122]) ⟨_,rfl⟩) (fun _=>mU) (by show _<=10000; decide)) (by with_unfolding_all rfl)))) aA)))))
theorem VQ:bA ["name"] ["name"] (az DI):=by exists cC
theorem Mt (T:Tx w K mg z):Cq P w K mg base z 2 "refuse_no_name" ["name"] nM:=
 have SC:=VQ
 .of (b:=JQ) T.PR SC rfl rfl fun f ax A outer s H E hr R=>(bu (dP (yX (yW (cu (YD T) (hr.mono (by decide)) R.pass (ai rfl (af (pv 0)) aA)))) (bu (zb (cn:=1) rfl R (by rfl) (by exact T.x9) (by exact T.n8) (Kq (af (pv 0))))) d8))
theorem VR:bA ["waves"] ["waves"] (az DJ):=by exists cC
theorem YA (T:Tx w K mg z):Cq P w K mg base z 1 "of_one_length" ["waves"] BL:=
 have SC:=VR
 .of (b:=JR) T.PU SC rfl rfl fun f ax A outer s H E hr R=>(bu (bX (ic (Q6 rfl) (by rfl) T.all boot_all (ai rfl (kW ja (N:=["wave","waves"]) (k:=1) (fr:=[0]) (fB (by decide)) rfl ⟨rfl,rfl,rfl,rfl,rfl,rfl⟩ (ng (af (pv 0))) (fun _ _ _ _=>(cW (cR (i:=0) (show fj (α:=Str) ["wave","waves"] from by decide +kernel) rfl (bw rfl) (dj rfl)))) (fun _ _ _ _=>jC) (fun _ _ _ _=>(ji (cE (bb hr)) (ic jZ (by rfl) T.len fW (ai rfl (af (pv 0)) aA)) (ic jZ (by rfl) T.len fW (ai rfl (bS (af (pv 1)) aM (fun _ _=>rfl)) aA)) (bE _)))) aA))))
theorem VP:bA ["waves"] ["waves"] (az DH):=by exists cC
theorem zN (T:Tx w K mg z):Cq P w K mg base z 2 "refuse_unlike" ["waves"] mq:=
 have SC:=VP
 .of (b:=B2) T.PQ SC rfl rfl fun f ax A outer s H E hr R=>(bu (dP (yX (yW (cu (YA T) (hr.mono (by decide)) R.pass (ai rfl (af (pv 0)) aA)))) (bu (zb (cn:=6) rfl R (by rfl) (by exact T.Jr) (by exact T.sf) (TK (a8 (l:=[116,104,101,32,119,97,118,101,115,32,104,97,118,101,32,117,110,108,105,107,101,32,108,101,110,103,116,104,115]))))) d8))
theorem VL:bA ["sheet","name","wave","told"] ["sheet","name","wave"] (az DD):=by exists cC
theorem Yw (T:Tx w K mg z):Cq P w K mg base z 1 "with_name" ["sheet","name","wave"] BI:=
 have SC:=VL
 .of (b:=JN) T.PK SC rfl rfl fun f ax A outer s H E hr R=>(bx (Lc (i:=3) SC.nd rfl (bw rfl) (by rfl) T.dict (af (pv 0)) rfl)
   (bx (Dk (bb hr) (pv 3) (af (pv 1)) (af (pv 2)))
   (rG 3 (bu (bX (af (pv 3)))))))
theorem VJ:bA ["sheet","name","wave"] ["sheet","name","wave"] (az DC):=by exists cC
theorem Mr (T:Tx w K mg z):Cq P w K mg base z 3 "with_wave" ["sheet","name","wave"] iU:=
 have SC:=VJ
 .of (b:=B0) T.PJ SC rfl rfl fun f ax A outer s H E hr R=>(bx (pV (cu (zN T) (hr.mono (by decide)) R.pass (ai rfl (cj dY (ma (ai rfl (af (pv 2)) aA)) (kW ja (N:=["other","sheet","name"]) (k:=1) (fr:=[0,1]) (fB (by decide)) rfl ⟨rfl,rfl,rfl,rfl,rfl,rfl⟩ (FL (af (pv 0))) (fun _ _ _ _=>(cW (cR (i:=0) (show fj (α:=Str) ["other","sheet","name"] from by decide +kernel) rfl (bw rfl) (dj rfl)))) (fun _ _ _ _=>(C1 (cc (qo (bb hr)) (af (pv 0)) (af (pv 2)) (bE _)))) (fun _ _ _ _=>(o8 (bb hr) (af (pv 1)) (af (pv 0)) (fun _ _=>rfl))))) aA)))
   (bu (bX (cu (Yw T) (hr.mono (by decide)) R.pass (ai rfl (af (pv 0)) (ai rfl (af (pv 1)) (ai rfl (af (pv 2)) aA)))))))
theorem VN:bA ["first","second"] ["first","second"] (az DF):=by exists cC
theorem Yx (T:Tx w K mg z):Cq P w K mg base z 1 "unlike_at" ["first","second"] BJ:=
 have SC:=VN
 .of (b:=JO) T.PM SC rfl rfl fun f ax A outer s H E hr R=>(bx (dP (PW.pt (pM (cc (cE (bb hr)) (af (pv 0)) (a8 (l:=[120])) (bE _)) (pL (cc (cE (bb hr)) (af (pv 1)) (a8 (l:=[120])) (bE _))))) (bu (bX (a8 (l:=[120])))) d8)
   (bu (bX (ro (cc (cE (bb hr)) (af (pv 0)) (af (pv 1)) (bE _)) (a8 (l:=[48])) (a8 (l:=[49]))))))
theorem VO:bA ["one","other"] ["one","other"] (az DG):=by exists cC
theorem Yy (T:Tx w K mg z):Cq P w K mg base z 3 "unlike" ["one","other"] BK:=
 have SC:=VO
 .of (b:=JP) T.PN SC rfl rfl fun f ax A outer s H E hr R=>(bx (pV (cu (zN T) (hr.mono (by decide)) R.pass (ai rfl (ma (ai rfl (af (pv 0)) (ai rfl (af (pv 1)) aA))) aA)))
   (bu (bX (A0 (ai rfl (kW ja (N:=["first","second"]) (k:=2) (fr:=[]) (AM (o4 (fB (by decide)) (o4 (fB (by decide)) AL))) rfl ⟨rfl,rfl,rfl,rfl,rfl,rfl⟩ (FJ (by rfl) T.zip (ai rfl (af (pv 0)) (ai rfl (af (pv 1)) aA))) (fun _ _ _ _=>(xv (n:=2) rfl (jf (cW (cR (i:=0) (show fj (α:=Str) ["first","second"] from by decide +kernel) rfl (bw rfl) (dj rfl))) (jf (cW (cR (i:=1) (show fj (α:=Str) ["first","second"] from by decide +kernel) rfl (bw rfl) (dj rfl))) ue)))) (fun _ _ _ _=>jC) (fun _ _ _ _=>(cu (Yx T) (hr.mono (by decide)) zH (ai rfl (af (pv 0)) (ai rfl (af (pv 1)) aA))))) aA) rfl))))
theorem VS:bA ["wave"] ["wave"] (az DK):=by exists cC
theorem YB (T:Tx w K mg z):Cq P w K mg base z 1 "no" ["wave"] BN:=
 have SC:=VS
 .of (b:=JS) T.PV SC rfl rfl fun f ax A outer s H E hr R=>(bu (bX (A0 (ai rfl (kW ja (N:=["level"]) (k:=1) (fr:=[]) (fB (by decide)) rfl ⟨rfl,rfl,rfl,rfl,rfl,rfl⟩ (ng (af (pv 0))) (fun _ _ _ _=>(cW (cR (i:=0) (show fj (α:=Str) ["level"] from by decide +kernel) rfl (bw rfl) (dj rfl)))) (fun _ _ _ _=>jC) (fun _ _ _ _=>(ady T.JJ.choose_spec.2 (by rfl) T.JJ.choose_spec.1 (af (pv 0)) (fun _ _=>rfl)))) aA) rfl)))
theorem Wg:bA ["first","second"] ["first","second"] (az DX):=by exists cC
theorem YH (T:Tx w K mg z):Cq P w K mg base z 1 "both_at" ["first","second"] BR:=
 have SC:=Wg
 .of (b:=JX) T.P4 SC rfl rfl fun f ax A outer s H E hr R=>(bx (dP (PW.pt (pM (cc (cE (bb hr)) (af (pv 0)) (a8 (l:=[48])) (bE _)) (pL (cc (cE (bb hr)) (af (pv 1)) (a8 (l:=[48])) (bE _))))) (bu (bX (a8 (l:=[48])))) d8)
   (bx (dP (PW.pt (pM (cc (cE (bb hr)) (af (pv 0)) (a8 (l:=[120])) (bE _)) (pL (cc (cE (bb hr)) (af (pv 1)) (a8 (l:=[120])) (bE _))))) (bu (bX (a8 (l:=[120])))) d8)
   (bu (bX (a8 (l:=[49]))))))
theorem Wh:bA ["one","other"] ["one","other"] (az DY):=by exists cC
theorem YI (T:Tx w K mg z):Cq P w K mg base z 3 "both" ["one","other"] BS:=
 have SC:=Wh
 .of (b:=JY) T.f_both SC rfl rfl fun f ax A outer s H E hr R=>(bx (pV (cu (zN T) (hr.mono (by decide)) R.pass (ai rfl (ma (ai rfl (af (pv 0)) (ai rfl (af (pv 1)) aA))) aA)))
   (bu (bX (A0 (ai rfl (kW ja (N:=["first","second"]) (k:=2) (fr:=[]) (AM (o4 (fB (by decide)) (o4 (fB (by decide)) AL))) rfl ⟨rfl,rfl,rfl,rfl,rfl,rfl⟩ (FJ (by rfl) T.zip (ai rfl (af (pv 0)) (ai rfl (af (pv 1)) aA))) (fun _ _ _ _=>(xv (n:=2) rfl (jf (cW (cR (i:=0) (show fj (α:=Str) ["first","second"] from by decide +kernel) rfl (bw rfl) (dj rfl))) (jf (cW (cR (i:=1) (show fj (α:=Str) ["first","second"] from by decide +kernel) rfl (bw rfl) (dj rfl))) ue)))) (fun _ _ _ _=>jC) (fun _ _ _ _=>(cu (YH T) (hr.mono (by decide)) zH (ai rfl (af (pv 0)) (ai rfl (af (pv 1)) aA))))) aA) rfl))))
theorem We:bA ["first","second"] ["first","second"] (az DV):=by exists cC
theorem YF (T:Tx w K mg z):Cq P w K mg base z 1 "either_at" ["first","second"] BP:=
 have SC:=We
 .of (b:=JV) T.PZ SC rfl rfl fun f ax A outer s H E hr R=>(bx (dP (PW.pt (pM (cc (cE (bb hr)) (af (pv 0)) (a8 (l:=[49])) (bE _)) (pL (cc (cE (bb hr)) (af (pv 1)) (a8 (l:=[49])) (bE _))))) (bu (bX (a8 (l:=[49])))) d8)
   (bx (dP (PW.pt (pM (cc (cE (bb hr)) (af (pv 0)) (a8 (l:=[120])) (bE _)) (pL (cc (cE (bb hr)) (af (pv 1)) (a8 (l:=[120])) (bE _))))) (bu (bX (a8 (l:=[120])))) d8)
   (bu (bX (a8 (l:=[48]))))))
theorem Wf:bA ["one","other"] ["one","other"] (az DW):=by exists cC
theorem YG (T:Tx w K mg z):Cq P w K mg base z 3 "either" ["one","other"] BQ:=
 have SC:=Wf
 .of (b:=JW) T.P0 SC rfl rfl fun f ax A outer s H E hr R=>(bx (pV (cu (zN T) (hr.mono (by decide)) R.pass (ai rfl (ma (ai rfl (af (pv 0)) (ai rfl (af (pv 1)) aA))) aA)))
   (bu (bX (A0 (ai rfl (kW ja (N:=["first","second"]) (k:=2) (fr:=[]) (AM (o4 (fB (by decide)) (o4 (fB (by decide)) AL))) rfl ⟨rfl,rfl,rfl,rfl,rfl,rfl⟩ (FJ (by rfl) T.zip (ai rfl (af (pv 0)) (ai rfl (af (pv 1)) aA))) (fun _ _ _ _=>(xv (n:=2) rfl (jf (cW (cR (i:=0) (show fj (α:=Str) ["first","second"] from by decide +kernel) rfl (bw rfl) (dj rfl))) (jf (cW (cR (i:=1) (show fj (α:=Str) ["first","second"] from by decide +kernel) rfl (bw rfl) (dj rfl))) ue)))) (fun _ _ _ _=>jC) (fun _ _ _ _=>(cu (YF T) (hr.mono (by decide)) zH (ai rfl (af (pv 0)) (ai rfl (af (pv 1)) aA))))) aA) rfl))))
theorem Wd:bA ["word","waves"] ["word","waves"] (az DU):=by exists cC
theorem YE (T:Tx w K mg z):Cq P w K mg base z 4 "gate_wave" ["word","waves"] jn:=
 have SC:=Wd
 .of (b:=B3) T.PY SC rfl rfl fun f ax A outer s H E hr R=>(bx (dP (cc (qo (bb hr)) (ic jZ (by rfl) T.len fW (ai rfl (af (pv 1)) aA)) (adx T.BX.choose_spec.2 (T.RN _ T.BX.choose_spec.1) (by rfl) T.BX.choose_spec.1 (af (pv 0)) rfl) (bE _)) (bu (zb (cn:=1) rfl R (by rfl) (by exact T.x9) (by exact T.n8) (Kq (af (pv 0))))) d8)
   (bx (dP (cc (cE (bb hr)) (af (pv 0)) (a8 (l:=[110,111])) (bE _)) (bu (bX (cu (YB T) (hr.mono (by decide)) R.pass (ai rfl (bS (af (pv 1)) aM (fun _ _=>rfl)) aA)))) d8)
   (bx (dP (cc (cE (bb hr)) (af (pv 0)) (a8 (l:=[98,111,116,104])) (bE _)) (bu (bX (cu (YI T) (hr.mono (by decide)) R.pass (ai rfl (bS (af (pv 1)) aM (fun _ _=>rfl)) (ai rfl (bS (af (pv 1)) aM (fun _ _=>rfl)) aA))))) d8)
   (bx (dP (cc (cE (bb hr)) (af (pv 0)) (a8 (l:=[101,105,116,104,101,114])) (bE _)) (bu (bX (cu (YG T) (hr.mono (by decide)) R.pass (ai rfl (bS (af (pv 1)) aM (fun _ _=>rfl)) (ai rfl (bS (af (pv 1)) aM (fun _ _=>rfl)) aA))))) d8)
   (bu (bX (cu (Yy T) (hr.mono (by decide)) R.pass (ai rfl (bS (af (pv 1)) aM (fun _ _=>rfl)) (ai rfl (bS (af (pv 1)) aM (fun _ _=>rfl)) aA)))))))))
theorem VM:bA ["sheet","name"] ["sheet","name"] (az DE):=by exists cC
theorem Ms (T:Tx w K mg z):Cq P w K mg base z 1 "wave_of" ["sheet","name"] iV:=
 have SC:=VM
 .of (b:=B1) T.PL SC rfl rfl fun f ax A outer s H E hr R=>(bx (dP (cc (Mw (bb hr)) (af (pv 1)) (af (pv 0)) (by with_unfolding_all rfl)) (bu (zb (cn:=1) rfl R (by rfl) (by exact T.x9) (by exact T.n8) (TL (af (pv 1))))) d8)
   (bu (bX (o8 (bb hr) (af (pv 0)) (af (pv 1)) (fun _ _=>rfl)))))
theorem VI:bA ["sheet","name","told"] ["sheet","name"] (az DB):=by exists cC
theorem Yv (T:Tx w K mg z):Cq P w K mg base z 2 "without_wave" ["sheet","name"] nK:=
 have SC:=VI
 .of (b:=BZ) T.PH SC rfl rfl fun f ax A outer s H E hr R=>(bx (pV (cu (Ms T) (hr.mono (by decide)) R.pass (ai rfl (af (pv 0)) (ai rfl (af (pv 1)) aA))))
   (bx (Lc (i:=2) SC.nd rfl (bw rfl) (by rfl) T.dict (af (pv 0)) rfl)
   (bx (Va (pv 2) (af (pv 1)) ⟨rfl,rfl,rfl,rfl⟩)
   (rG 2 (bu (bX (af (pv 2))))))))
theorem V9:bA ["_law_script","_law_k"] ["_law_script","_law_k"] (az DR):=by exists cC
theorem YN (T:Tx w K mg z):Cq P w K mg base z 1 "_law_cell" ["_law_script","_law_k"] BW:=
 have SC:=V9
 .of (b:=J3) T.Qb SC rfl rfl fun f ax A outer s H E hr R=>(bx (dP (cc Mx (af (pv 1)) (ic jZ (by rfl) T.len fW (ai rfl (af (pv 0)) aA)) (bE _)) (bu (bX (bS (af (pv 0)) (af (pv 1)) (fun _ _=>rfl)))) d8)
   (bx (dP (cc (cE (bb hr)) (af (pv 0)) (ma aA) (bE _)) (bu (bX aM)) d8)
   (bu (bX (cj dY (cj qq (bS (af (pv 0)) (cj zP (af (pv 1)) (ic jZ (by rfl) T.len fW (ai rfl (af (pv 0)) aA))) (fun _ _=>rfl)) aM) (af (pv 1)))))))
theorem V4:bA ["_law_script","_law_k","_law_many","_law_drawn"] ["_law_script","_law_k","_law_many"] (az DN):=by exists cC
theorem m5 (T:Tx w K mg z):Cq P w K mg base z 2 "_law_pick" ["_law_script","_law_k","_law_many"] ik:=
 have SC:=V4
 .of (b:=J0) T.P7 SC rfl rfl fun f ax A outer s H E hr R=>(bx (fZ (i:=3) SC.nd rfl (bw rfl) (cj zP (cj qq (cj dY (cu (YN T) (hr.mono (by decide)) R.pass (ai rfl (af (pv 0)) (ai rfl (af (pv 1)) aA))) (cj qq aM (cj dY (af (pv 1)) aM))) aM) aM))
   (bu (bX (cj zP (cj zP (cj dY (cj qq (af (pv 3)) (af (pv 3))) (cj Y5 (af (pv 3)) aM)) aM) (af (pv 2))))))
theorem V2:bA ["_law_script","_law_at","_law_many","_law_signs","_law_made_here","_law_k"] ["_law_script","_law_at","_law_many","_law_signs"] (az DL):=by exists cC
theorem YJ (T:Tx w K mg z):Cq P w K mg base z 3 "_law_wave" ["_law_script","_law_at","_law_many","_law_signs"] yg:=
 have SC:=V2
 .of (b:=JZ) T.P5 SC rfl rfl fun f ax A outer s H E hr R=>(bx (fZ (i:=4) SC.nd rfl (bw rfl) (bS (af (pv 3)) (cu (m5 T) (hr.mono (by decide)) R.pass (ai rfl (af (pv 0)) (ai rfl (af (pv 1)) (ai rfl (ic jZ (by rfl) T.len fW (ai rfl (af (pv 3)) aA)) aA)))) (fun _ _=>rfl)))
   (bx (vT rfl (aaI (by rfl) T.range (ai rfl aM (ai rfl (af (pv 2)) aA))) (cW (cR (i:=5) SC.nd rfl (bw rfl))) (bu (dP (cc (cE (bb hr)) (cu (m5 T) (hr.mono (by decide)) oB (ai rfl (af (pv 0)) (ai rfl (cj dY (af (pv 1)) (cj qq aM (af (pv 5)))) (ai rfl aM aA)))) aM (bE _)) (bu (fZ (i:=4) SC.nd rfl (bw rfl) (cj dY (af (pv 4)) (bS (af (pv 4)) (Hx aM) (fun _ _=>rfl))))) (bu (fZ (i:=4) SC.nd rfl (bw rfl) (cj dY (af (pv 4)) (bS (af (pv 3)) (cu (m5 T) (hr.mono (by decide)) oB (ai rfl (af (pv 0)) (ai rfl (cj dY (cj dY (af (pv 1)) (cj qq aM (af (pv 5)))) aM) (ai rfl (ic jZ (by rfl) T.len fW (ai rfl (af (pv 3)) aA)) aA)))) (fun _ _=>rfl))))))))
   (bu (bX (af (pv 4))))))
theorem V7:bA ["_law_script","_law_at","_law_known","_law_many","_law_names","_law_name","_law_way","_law_long","_law_word","_law_some"] ["_law_script","_law_at","_law_known","_law_many"] (az DP):=by exists cC
theorem YM (T:Tx w K mg z):Cq P w K mg base z 4 "_law_deed" ["_law_script","_law_at","_law_known","_law_many"] BV:=
 have SC:=V7
 .of (b:=J2) T.P9 SC rfl rfl fun f ax A outer s H E hr R=>(bx (fZ (i:=4) SC.nd rfl (dj rfl) (ma (ai rfl (a8 (l:=[97])) (ai rfl (a8 (l:=[98])) (ai rfl (a8 (l:=[99,100])) (ai rfl (a8 (l:=[119,120,121,122])) aA))))))
   (bx (U5 (i:=5) (j:=6) rfl SC.nd rfl rfl (by decide) rfl rfl (ai rfl (bS (af (pv 4)) (cu (m5 T) (hr.mono (by decide)) R.pass (ai rfl (af (pv 0)) (ai rfl (af (pv 1)) (ai rfl aM aA)))) (fun _ _=>rfl)) (ai rfl (cu (m5 T) (hr.mono (by decide)) R.pass (ai rfl (af (pv 0)) (ai rfl (cj dY (af (pv 1)) aM) (ai rfl aM aA)))) aA)) rfl)
   (bx (dP (PW.pt (pM (cc Mx (af (pv 6)) aM (bE _)) (pL (cc (cE (bb hr)) (af (pv 2)) Qe (bE _))))) (bx (fZ (i:=7) SC.nd rfl (bw rfl) (cj dY (af (pv 3)) (uo Be (by rfl) T.int boot_int (ai rfl (ji (cE (bb hr)) (cu (m5 T) (hr.mono (by decide)) R.pass (ai rfl (af (pv 0)) (ai rfl (cj dY (af (pv 1)) aM) (ai rfl aM aA)))) aM (bE _)) aA))))
   (bu (bX (ib (ai rfl (a8 (l:=[112,117,116])) (ai rfl (af (pv 5)) (ai rfl (cu (YJ T) (hr.mono (by decide)) R.pass (ai rfl (af (pv 0)) (ai rfl (cj dY (af (pv 1)) aM) (ai rfl (ic (aeQ rfl) (by rfl) T.min boot_min (ai rfl aM (ai rfl (af (pv 7)) aA))) (ai rfl (a8 (l:=[48,49,120])) aA))))) aA))))))) d8)
   (bx (dP (cc (cE (bb hr)) (af (pv 6)) aM (bE _)) (bu (bX (ib (ai rfl (a8 (l:=[116,97,107,101])) (ai rfl (af (pv 5)) aA))))) d8)
   (bx (fZ (i:=8) SC.nd rfl (bw rfl) (bS (ma (ai rfl (a8 (l:=[110,111])) (ai rfl (a8 (l:=[98,111,116,104])) (ai rfl (a8 (l:=[101,105,116,104,101,114])) (ai rfl (a8 (l:=[117,110,108,105,107,101])) aA))))) (cu (m5 T) (hr.mono (by decide)) R.pass (ai rfl (af (pv 0)) (ai rfl (cj dY (af (pv 1)) aM) (ai rfl aM aA)))) (fun _ _=>rfl)))
   (bx (U3 (i:=9) (N:=["_law_k","_law_script","_law_at","_law_names"]) (k:=1) (fr:=[0,1,4]) (fB (by decide)) rfl ⟨rfl,rfl,rfl,rfl,rfl,rfl⟩ (FK (by rfl) T.range (ai rfl (ro (cc (cE (bb hr)) (af (pv 8)) (a8 (l:=[110,111])) (bE _)) aM aM) aA)) (fun _ _ _ _=>(cW (cR (i:=0) (show fj (α:=Str) ["_law_k","_law_script","_law_at","_law_names"] from by decide +kernel) rfl (bw rfl) (dj rfl)))) (fun _ _ _ _=>jC) (fun _ _ _ _=>(bS (af (pv 3)) (cu (m5 T) (hr.mono (by decide)) oB (ai rfl (af (pv 1)) (ai rfl (cj dY (cj dY (af (pv 2)) aM) (af (pv 0))) (ai rfl aM aA)))) (fun _ _=>rfl))) SC.nd rfl rfl)
   (bu (bX (cj MA (ib (ai rfl (a8 (l:=[103,97,116,101])) (ai rfl (af (pv 5)) (ai rfl (af (pv 8)) aA)))) (uo Q5 (by rfl) T.tuple (show PySem.bootBuiltins "tuple" = some (.type "tuple") from by decide +kernel) (ai rfl (af (pv 9)) aA)))))))))))
theorem V5:bA ["_law_word","_law_some","_law_made_here","_law_k","_law_levels","_law_here","_law_one","_law_other","_law_count","_law_level"] ["_law_word","_law_some"] (az DO):=by exists cC
theorem YK (T:Tx w K mg z):Cq P w K mg base z 1 "_law_made" ["_law_word","_law_some"] vi:=
 have SC:=V5
 .of (b:=J1) T.P8 SC rfl rfl fun f ax A outer s H E hr R=>(bx (fZ (i:=2) SC.nd rfl (bw rfl) (a8 (l:=[])))
   (rG 5 (bx (vT rfl (FK (by rfl) T.range (ai rfl (ic jZ (by rfl) T.len fW (ai rfl (bS (af (pv 1)) aM (fun _ _=>rfl)) aA)) aA)) (cW (cR (i:=3) SC.nd rfl (dj rfl))) (bx (U4 (i:=4) (j:=5) rfl SC.nd rfl rfl (by decide) rfl rfl (adA (N:=["_law_wave_here","_law_k"]) (k:=1) (fr:=[3]) (fB (by decide)) rfl ⟨rfl,rfl,rfl,rfl,rfl,rfl⟩ (ng (af (pv 1))) (fun _ _ _ _=>(cW (cR (i:=0) (show fj (α:=Str) ["_law_wave_here","_law_k"] from by decide +kernel) rfl (bw rfl) (dj rfl)))) (fun _ _ _ _=>jC) (fun _ _ _ _=>(bS (af (pv 0)) (af (pv 1)) (fun _ _=>rfl)))) rfl rfl)
   (bx (vT rfl (ng (ro (cc (cE (bb hr)) (bS (af (pv 4)) aM (fun _ _=>rfl)) (a8 (l:=[120])) (bE _)) (a8 (l:=[48,49])) (bS (af (pv 4)) aM (fun _ _=>rfl)))) (cW (cR (i:=6) SC.nd rfl (bw rfl))) (bu (vT rfl (ng (ro (cc (cE (bb hr)) (bS (af (pv 4)) (Hx aM) (fun _ _=>rfl)) (a8 (l:=[120])) (bE _)) (a8 (l:=[48,49])) (bS (af (pv 4)) (Hx aM) (fun _ _=>rfl)))) (cW (cR (i:=7) SC.nd rfl (bw rfl))) (bx (fZ (i:=8) SC.nd rfl (bw rfl) (cj dY (uo Be (by rfl) T.int boot_int (ai rfl (ji (cE (bb hr)) (af (pv 6)) (a8 (l:=[49])) (bE _)) aA)) (uo Be (by rfl) T.int boot_int (ai rfl (ji (cE (bb hr)) (af (pv 7)) (a8 (l:=[49])) (bE _)) aA))))
   (bx (fZ (i:=9) SC.nd rfl (bw rfl) (adz (k1:=[98,111,116,104]) (k2:=[101,105,116,104,101,114]) (k3:=[117,110,108,105,107,101]) (by decide +kernel) (by decide +kernel) (by decide +kernel) (by decide) (by decide) (by decide) (bb hr) (ji (cE (bb hr)) (af (pv 8)) aM (bE _)) (ji Mz (af (pv 8)) aM (bE _)) (ji (cE (bb hr)) (af (pv 8)) aM (bE _)) (af (pv 0)) (ji (cE (bb hr)) (af (pv 6)) (a8 (l:=[48])) (bE _)) ⟨rfl,rfl,rfl,rfl⟩))
   (bu (Vd (pv 5) rfl (ro (yW (af (pv 9))) (a8 (l:=[49])) (a8 (l:=[48]))))))))))
   (rG 5 (bu (fZ (i:=2) SC.nd rfl (bw rfl) (cj dY (af (pv 2)) (ro (cc (cE (bb hr)) (ads rfl (by rfl) T.len (by rfl) T.set (af (pv 5)) rfl) aM (bE _)) (bS (af (pv 5)) aM (fun _ _=>rfl)) (a8 (l:=[120]))))))))))
   (bu (bX (af (pv 2)))))))
theorem Wa:bA ["_law_known","_law_deed_here","_law_rest"] ["_law_known","_law_deed_here"] (az DS):=by exists cC
theorem YO (T:Tx w K mg z):Cq P w K mg base z 2 "_law_behind" ["_law_known","_law_deed_here"] nN:=
 have SC:=Wa
 .of (b:=yh) T.Qc SC rfl rfl fun f ax A outer s H E hr R=>(bx (U6 (i:=2) SC.nd rfl (dj rfl) rfl (by rfl) T.dict (kW ja (N:=["_law_name","_law_known","_law_deed_here"]) (k:=1) (fr:=[0,1]) (fB (by decide)) rfl ⟨rfl,rfl,rfl,rfl,rfl,rfl⟩ (FL (af (pv 0))) (fun _ _ _ _=>(cW (cR (i:=0) (show fj (α:=Str) ["_law_name","_law_known","_law_deed_here"] from by decide +kernel) rfl (bw rfl) (dj rfl)))) (fun _ _ _ _=>(C1 (cc (qo (bb hr)) (af (pv 0)) (bS (af (pv 2)) aM (fun _ _=>rfl)) (bE _)))) (fun _ _ _ _=>(ib (ai rfl (af (pv 0)) (ai rfl (o8 (bb hr) (af (pv 1)) (af (pv 0)) (fun _ _=>rfl)) aA))))) rfl)
   (bx (dP (cc (cE (bb hr)) (bS (af (pv 1)) aM (fun _ _=>rfl)) (a8 (l:=[116,97,107,101])) (bE _)) (rG 2 (bu (bX (ro (cc (EL (bb hr)) (bS (af (pv 1)) aM (fun _ _=>rfl)) (af (pv 0)) (by with_unfolding_all rfl)) (ib (ai rfl (af (pv 2)) (ai rfl (o8 (bb hr) (af (pv 0)) (bS (af (pv 1)) aM (fun _ _=>rfl)) (fun _ _=>rfl)) aA))) (ib (ai rfl (af (pv 0)) (ai rfl (a8 (l:=[110,111,32,110,97,109,101])) aA))))))) d8)
   (bx (dP (cc (cE (bb hr)) (bS (af (pv 1)) aM (fun _ _=>rfl)) (a8 (l:=[112,117,116])) (bE _)) (bx (U8 2 (cc Mz (adq rfl (by rfl) T.len (by rfl) T.set (cj dY (kW ja (N:=["_law_name","_law_rest"]) (k:=1) (fr:=[2]) (fB (by decide)) rfl ⟨rfl,rfl,rfl,rfl,rfl,rfl⟩ (FL (af (pv 2))) (fun _ _ _ _=>(cW (cR (i:=0) (show fj (α:=Str) ["_law_name","_law_rest"] from by decide +kernel) rfl (bw rfl) (dj rfl)))) (fun _ _ _ _=>jC) (fun _ _ _ _=>(ic jZ (by rfl) T.len fW (ai rfl (o8 (bb hr) (af (pv 1)) (af (pv 0)) (fun _ _=>rfl)) aA)))) (ma (ai rfl (ic jZ (by rfl) T.len fW (ai rfl (bS (af (pv 1)) aM (fun _ _=>rfl)) aA)) aA))) rfl) aM (bE _)) (bu (bX (ib (ai rfl (af (pv 0)) (ai rfl (a8 (l:=[117,110,108,105,107,101])) aA))))) d8)
   (bx (Dk (bb hr) (pv 2) (bS (af (pv 1)) aM (fun _ _=>rfl)) (bS (af (pv 1)) aM (fun _ _=>rfl)))
   (rG 2 (bu (bX (ib (ai rfl (af (pv 2)) (ai rfl (ji (EL (bb hr)) (bS (af (pv 1)) aM (fun _ _=>rfl)) (af (pv 0)) (by with_unfolding_all rfl)) aA)))))))) d8)
   (bx (dP (cc (qo (bb hr)) (kW ja (N:=["_law_name","_law_known"]) (k:=1) (fr:=[0]) (fB (by decide)) rfl ⟨rfl,rfl,rfl,rfl,rfl,rfl⟩ (ng (Hy (n:=3) (af (pv 1)) (by decide) (EE aM))) (fun _ _ _ _=>(cW (cR (i:=0) (show fj (α:=Str) ["_law_name","_law_known"] from by decide +kernel) rfl (bw rfl) (dj rfl)))) (fun _ _ _ _=>(C1 (cc (Mw (bb hr)) (af (pv 0)) (af (pv 1)) (by with_unfolding_all rfl)))) (fun _ _ _ _=>(af (pv 0)))) (ma aA) (bE _)) (bu (bX (ib (ai rfl (af (pv 0)) (ai rfl (a8 (l:=[110,111,32,110,97,109,101])) aA))))) d8)
   (bx (Dk (bb hr) (pv 2) (bS (af (pv 1)) aM (fun _ _=>rfl)) (cu (YK T) (hr.mono (by decide)) R.pass (ai rfl (bS (af (pv 1)) aM (fun _ _=>rfl)) (ai rfl (kW ja (N:=["_law_name","_law_known"]) (k:=1) (fr:=[0]) (fB (by decide)) rfl ⟨rfl,rfl,rfl,rfl,rfl,rfl⟩ (ng (Hy (n:=3) (af (pv 1)) (by decide) (EE aM))) (fun _ _ _ _=>(cW (cR (i:=0) (show fj (α:=Str) ["_law_name","_law_known"] from by decide +kernel) rfl (bw rfl) (dj rfl)))) (fun _ _ _ _=>jC) (fun _ _ _ _=>(o8 (bb hr) (af (pv 1)) (af (pv 0)) (fun _ _=>rfl)))) aA))))
   (rG 2 (bu (bX (ib (ai rfl (af (pv 2)) (ai rfl (o8 (bb hr) (af (pv 2)) (bS (af (pv 1)) aM (fun _ _=>rfl)) (fun _ _=>rfl)) aA)))))))))))
theorem om {c:Addr}{K:ah}{C:Addr}{b:Bool}(h:kitOne K (.ref C) (.ref c)=some b):∀u,RelV (.ref c) u->kitOne K (.ref C) u=some b:=fun u r=>by
 cases r;exact h
theorem WM {n:String}{K:ah}{C:Addr}{b:Bool}(h:kitOne K (.ref C) (.type n)=some b):∀u,RelV (.ty n) u->kitOne K (.ref C) u=some b:=fun u r=>by
 cases r;exact h
theorem V8:bA ["_law_kept","_law_kinds","_law_some"] ["_law_kept"] (az DQ):=by exists cC
noncomputable abbrev l4 (j:Nat):List V:=[V.bl (j==0),V.bl (j==1),V.bl (j==2),V.bl (j==3)]
noncomputable abbrev l3 (j:Nat):List V:=[V.bl (j==4),V.bl (j==5),V.bl (j==6)]
noncomputable abbrev l1 (j:Nat):List V:=[V.bl (j==7)]
noncomputable abbrev l8 (j:Nat):List V:=[V.bl (j==0),V.bl (j==1),V.bl (j==2),V.bl (j==3),V.bl (j==4),V.bl (j==5),V.bl (j==6),V.bl (j==7)]
theorem aeJ {j:Nat}(h:j<8):(l8 j).countP (fun z=>dM z (.bl true))=1:=by
 match j,h with
 |0,_=>rfl
 |1,_=>rfl
 |2,_=>rfl
 |3,_=>rfl
 |4,_=>rfl
 |5,_=>rfl
 |6,_=>rfl
 |7,_=>rfl
theorem Q2 {j:Nat}(hj:j<8):(∃z,(l8 j)[j]?=some z/\dM z (.bl true)=true)/\(∀m z,m<j->(l8 j)[m]?=some z->dM z (.bl true)=false):=by
 have key:∀(m:Nat),m<8->(l8 j)[m]?=some (V.bl (j==m)):=fun m hm=>by
  match m,hm with
  |0,_=>rfl
  |1,_=>rfl
  |2,_=>rfl
  |3,_=>rfl
  |4,_=>rfl
  |5,_=>rfl
  |6,_=>rfl
  |7,_=>rfl
 refine⟨⟨_,key j hj,by simp [dM]⟩,fun m z hm hz=>?_⟩;rw [key m (by omega)] at hz;cases hz;simp [dM];omega
theorem aeI {j:Nat}(hj:j<8):iR [S [99,108,97,115,104],S [110,111,32,98,97,99,107],S [110,111,32,110,97,109,101],S [110,111,32,116,101,120,116],S [110,111,32,116,105,99,107],S [110,111,32,119,97,118,101],S [116,111,111,32,108,111,110,103],S [117,110,108,105,107,101]] ((j:Nat):Int)=some (S (vH j)):=by
 match j,hj with
 |0,_=>rfl
 |1,_=>rfl
 |2,_=>rfl
 |3,_=>rfl
 |4,_=>rfl
 |5,_=>rfl
 |6,_=>rfl
 |7,_=>rfl
theorem aeL (T:Tx w K mg z):Sf P w K mg base (z 0) (z 7) (z 1) (z 2) (z 3) (z 4) (z 5) (z 6):=by
 obtain⟨f,fd,F,hm,hb⟩:=T.Qa;have SC:=V8;refine⟨f,hm,F.kp,fun A outer s H a C j Q OP hun e0 qI hH W q=>?_⟩;obtain⟨oc,od,kV,doc,pm,an,ax,ct,hU,rfl,lk,eM⟩:=F.ex;have KX:K.In s.heap:=e0.mod.kE.keeps fun b o e=>(e0.bs b o e).1;refine Px (cm:=false) (N:=["_law_kept","_law_kinds","_law_some"]) (ps:=["_law_kept"]) (us:=[.ref a]) (vs:=[.ref a]) lk eM SC (by omega) (fun z=>nomatch z) e0 (.inl qI) (hb s [.ref a] KX rfl) (.cons rfl .nil) rfl ?_
 refine⟨_,(fL (qj (i:=1) SC.nd rfl (bw rfl) (m4 (@bh _ _ _ _ _ rfl (iB nF (by rfl) T.isinstance boot_isinstance (@bh _ _ _ _ _ rfl (pv 0) (@bh _ _ _ _ _ rfl (jL (by rfl) T.Sg (v:=.ref (z 0)) rfl) cL))) (@bh _ _ _ _ _ rfl (iB nF (by rfl) T.isinstance boot_isinstance (@bh _ _ _ _ _ rfl (pv 0) (@bh _ _ _ _ _ rfl (jL (by rfl) T.RM (v:=.ref (z 7)) rfl) cL))) (@bh _ _ _ _ _ rfl (iB nF (by rfl) T.isinstance boot_isinstance (@bh _ _ _ _ _ rfl (pv 0) (@bh _ _ _ _ _ rfl (jL (by rfl) T.x9 (v:=.ref (z 1)) rfl) cL))) (@bh _ _ _ _ _ rfl (iB nF (by rfl) T.isinstance boot_isinstance (@bh _ _ _ _ _ rfl (pv 0) (@bh _ _ _ _ _ rfl (jL (by rfl) T.RL (v:=.ref (z 2)) rfl) cL))) cL))))))
   (fL (qj (i:=1) SC.nd rfl (bw rfl) (zE EH (pv 1) (m4 (@bh _ _ _ _ _ rfl (iB nF (by rfl) T.isinstance boot_isinstance (@bh _ _ _ _ _ rfl (pv 0) (@bh _ _ _ _ _ rfl (jL (by rfl) T.RK (v:=.ref (z 3)) rfl) cL))) (@bh _ _ _ _ _ rfl (iB nF (by rfl) T.isinstance boot_isinstance (@bh _ _ _ _ _ rfl (pv 0) (@bh _ _ _ _ _ rfl (jL (by rfl) T.RJ (v:=.ref (z 4)) rfl) cL))) (@bh _ _ _ _ _ rfl (iB nF (by rfl) T.isinstance boot_isinstance (@bh _ _ _ _ _ rfl (pv 0) (@bh _ _ _ _ _ rfl (jL (by rfl) T.Rx (v:=.ref (z 5)) rfl) cL))) cL))))))
   (fL (qj (i:=1) SC.nd rfl (bw rfl) (zE EH (pv 1) (m4 (@bh _ _ _ _ _ rfl (iB nF (by rfl) T.isinstance boot_isinstance (@bh _ _ _ _ _ rfl (pv 0) (@bh _ _ _ _ _ rfl (jL (by rfl) T.Jr (v:=.ref (z 6)) rfl) cL))) cL))))
   (fL (zx (PW.pt (pw_or (zw Yb (wo vo PySem.F.slot_list_count PySem.F.type_list_count ZH (pv 1) (@bh _ _ _ _ _ rfl EB cL)) wm (bE _)) (pw_or1 (LV (LU (iB nF (by rfl) T.isinstance boot_isinstance (@bh _ _ _ _ _ rfl (pv 0) (@bh _ _ _ _ _ rfl (Mh (by rfl) T.ValueError afc (v:=.ty "ValueError") rfl) cL)))))))) (gP (i9 (jb (l:=[119,114,111,110,103])))) Er)
   (fL (qj (i:=2) SC.nd rfl (bw rfl) (m4 (@bh _ _ _ _ _ rfl (jb (l:=[99,108,97,115,104])) (@bh _ _ _ _ _ rfl (jb (l:=[110,111,32,98,97,99,107])) (@bh _ _ _ _ _ rfl (jb (l:=[110,111,32,110,97,109,101])) (@bh _ _ _ _ _ rfl (jb (l:=[110,111,32,116,101,120,116])) (@bh _ _ _ _ _ rfl (jb (l:=[110,111,32,116,105,99,107])) (@bh _ _ _ _ _ rfl (jb (l:=[110,111,32,119,97,118,101])) (@bh _ _ _ _ _ rfl (jb (l:=[116,111,111,32,108,111,110,103])) (@bh _ _ _ _ _ rfl (jb (l:=[117,110,108,105,107,101])) cL))))))))))
   (gP (i9 (wk FI (pv 2) (wo vo PySem.F.slot_list_index PySem.F.type_list_index ZG (pv 1) (@bh _ _ _ _ _ rfl EB cL)) (fun _ _=>rfl))))))))),?_⟩
 have w0:=om W.w0;have w1:=om W.w1;have w2:=om W.w2;have w3:=om W.w3;have w4:=om W.w4;have w5:=om W.w5;have w6:=om W.w6;have w7:=om W.w7;have wv:=WM W.ve;refine⟨_,rfl,a,C,_,_,rfl,hH,W.z,w0,_,rfl,a,C,_,_,rfl,hH,W.z,w1,_,rfl,a,C,_,_,rfl,hH,W.z,w2,_,rfl,a,C,_,_,rfl,hH,W.z,w3,big 4,fun p hp=>?_⟩;have h1:aw H (upd H p (.lst (l4 j))):=.upd hp;refine⟨_,rfl,_,rfl,a,C,_,_,rfl,h1 _ _ hH,W.z,w4,_,rfl,a,C,_,_,rfl,h1 _ _ hH,W.z,w5,_,rfl,a,C,_,_,rfl,h1 _ _ hH,W.z,w6,big 3,fun p2 hV=>?_⟩;have h2:aw (upd H p (.lst (l4 j))) (upd (upd H p (.lst (l4 j))) p2 (.lst (l3 j))):=.upd hV;refine⟨p,p2,l4 j,l3 j,rfl,rfl,.of (h2 _ _ aU),.of aU,big 7,fun p3 Gf=>?_⟩;have h3:=h2.trans (aw.upd (o:=.lst (l4 j++l3 j)) Gf);have O8:=h3 _ _ (h1 _ _ hH);refine⟨_,rfl,_,rfl,a,C,_,_,rfl,O8,W.z,w7,big 1,fun p4 Ge=>?_⟩;have h4:aw _ (upd (upd (upd (upd H p (.lst (l4 j))) p2 (.lst (l3 j))) p3 (.lst (l4 j++l3 j))) p4 (.lst (l1 j))):=aw.upd Ge;refine⟨p3,p4,l4 j++l3 j,l1 j,rfl,rfl,.of (h4 _ _ aU),.of aU,big 8,fun p5 hp5=>?_⟩;have h5:=h4.trans (aw.upd (o:=.lst ((l4 j++l3 j)++l1 j)) hp5);have hH5:=h5 _ _ O8;refine⟨_,rfl,.inl ⟨rfl,_,.of aU⟩,p5,l8 j,_,rfl,rfl,aU,rfl,rfl,rfl,_,rfl,?_⟩;rw [aeJ W.lt];refine N7 ?_;refine⟨_,rfl,a,C,_,_,rfl,hH5,W.z,wv,_,rfl,N7 ?_⟩;refine⟨big 8,fun p6 OB=>?_⟩;have e5:∀o,upd (upd (upd (upd (upd (upd H p (.lst (l4 j))) p2 (.lst (l3 j))) p3 (.lst (l4 j++l3 j))) p4 (.lst (l1 j))) p5 (.lst ((l4 j++l3 j)++l1 j))) p6 o p5=some (.lst (l8 j)):=fun o=>by
  rw [aF (cH aU OB)];exact aU
 refine⟨_,rfl,_,rfl,.inl ⟨rfl,_,.of (e5 _)⟩,p5,l8 j,_,j,rfl,rfl,e5 _,rfl,rfl,(Q2 W.lt).1,(Q2 W.lt).2,p6,_,_,_,rfl,rfl,.of aU,aeI W.lt,?_⟩;exact q _ (((h1.trans h3).trans h5).trans (.upd OB))
theorem aeN (T:Tx w K mg z):rN K (z 1) (z 0) (z 7) (z 1) (z 2) (z 3) (z 4) (z 5) (z 6) 2:=⟨⟨T.uO,T.uL,T.uI,T.uF,T.uC,T.uz,T.uw,T.ur⟩,by decide,T.sV,T.sS,T.sP,T.sL,T.sE,T.sv,T.sq,T.sj,T.sY⟩
theorem aeM (T:Tx w K mg z):rN K (z 6) (z 0) (z 7) (z 1) (z 2) (z 3) (z 4) (z 5) (z 6) 7:=⟨⟨T.uN,T.uK,T.uH,T.uE,T.uB,T.uy,T.uv,T.uq⟩,by decide,T.sU,T.sR,T.sO,T.sG,T.sC,T.su,T.so,T.si,T.sX⟩
theorem aeO (T:Tx w K mg z):rN K (z 7) (z 0) (z 7) (z 1) (z 2) (z 3) (z 4) (z 5) (z 6) 1:=⟨⟨T.uP,T.uM,T.uJ,T.uG,T.uD,T.uA,T.ux,T.uu⟩,by decide,T.sW,T.sT,T.sQ,T.sN,T.sF,T.sx,T.sr,T.sk,T.sZ⟩
theorem aeK (T:Tx w K mg z):∀c∈[1,6,7],∃j,rN K (z c) (z 0) (z 7) (z 1) (z 2) (z 3) (z 4) (z 5) (z 6) j/\vH j=gy c/\exmOne K (.ref (z c)) (.ref (z 8))=some true:=by
 intro c h;simp only [ba,fJ,or_false] at h;rcases h with rfl | rfl | rfl
 ·exact⟨_,aeN T,rfl,T.tS⟩
 ·exact⟨_,aeM T,rfl,T.tR⟩
 ·exact⟨_,aeO T,rfl,T.tT⟩
theorem V3:bA ["_law_deed_here","e"] ["_law_deed_here"] (az DM):=by exists cC
theorem Mu (T:Tx w K mg z):Jt P w K mg base z [1,6,7] 5:=Uk T.P6 V3 rfl rfl rfl rfl rfl T.Ry (aeL T) (aeK T)
theorem VZ:bA ["self"] ["self"] (az E6):=by exists cC
theorem YQ (T:Tx w K mg z):JK P w K mg base 1:=by
 obtain⟨C,f,fd,hC,hm,hM,F,hb⟩:=T.RX;have SC:=VZ;exact⟨C,f,fd,hC,hm,hM,aaY F SC fun ax A outer s H E hr=>fL (LX (pv 0) (m4 cL) rfl) (gP (LX (pv 0) (m4 cL) rfl)),hb⟩
theorem V1:bA ["self","step","behind"] ["self","step","behind"] (az E8):=by exists cC
theorem EK (T:Tx w K mg z):jo P w K mg base 1 "do_step" ["self","step","behind"] (gJ K z fun _=>k9):=by
 obtain⟨C,f,fd,hC,hM,F,hb⟩:=T.RZ;have SC:=V1;exact⟨C,f,fd,hC,hM,ad0 F SC fun ax A outer s H E hr=>fL (oz (wo vo Ci PySem.F.type_list_append zZ (qk (pv 0) rfl) (@bh _ _ _ _ _ rfl (zD (@bh _ _ _ _ _ rfl (pv 1) (@bh _ _ _ _ _ rfl (pv 2) cL))) cL))) (gP (oz (XJ vo PySem.F.slot_list_clear PySem.F.type_list_clear ZI (qk (pv 0) rfl)))),hb⟩
theorem VX:bA ["self"] ["self"] (az E4):=by exists cC
theorem zO (T:Tx w K mg z):jo P w K mg base 1 "sheet" ["self"] (kr K z yQ pj):=by
 obtain⟨C,f,fd,hC,hM,F,hb⟩:=T.RV;have SC:=VX;exact⟨C,f,fd,hC,hM,Vy F SC fun ax A outer s H E hr=>gP (i9 (EA (zw Mp (iB Bf (by rfl) T.len fW (@bh _ _ _ _ _ rfl (qk (pv 0) rfl) cL)) wm (bE _)) (zG Q9 (by rfl) T.dict L2.boot_dict (@bh _ _ _ _ _ rfl (wk N5 (wk FI (qk (pv 0) rfl) (Mb Ks wm) (fun _ _=>rfl)) wm (fun _ _=>rfl)) cL)) Me)),hb⟩
theorem VU:bA ["self"] ["self"] (az E2):=by exists cC
theorem YT (T:Tx w K mg z):jo P w K mg base 1 "steps" ["self"] (kr K z (CP K) rH):=by
 obtain⟨C,f,fd,hC,hM,F,hb⟩:=T.RT;have SC:=VU;exact⟨C,f,fd,hC,hM,Vk F SC fun ax A outer s H E hr R=>gP (i9 (Mf ja (N:=["step","behind"]) (k:=2) (fr:=[]) rfl ⟨rfl,rfl,rfl,rfl,rfl,rfl⟩ (L8 (qk (pv 0) rfl)) (fun _ _ _ _=>(xv (n:=2) rfl (jf (cW (cR (i:=0) (show fj (α:=Str) ["step","behind"] from by decide +kernel) rfl (bw rfl) (dj rfl))) (jf (cW (cR (i:=1) (show fj (α:=Str) ["step","behind"] from by decide +kernel) rfl (bw rfl) (dj rfl))) ue)))) (fun _ _ _ _=>jC) (fun _ _ _ _=>af (pv 0)))),hb⟩
theorem VW:bA ["self"] ["self"] (az E3):=by exists cC
theorem YU (T:Tx w K mg z):jo P w K mg base 1 "sizes" ["self"] (kr K z (CO K) Bl):=by
 obtain⟨C,f,fd,hC,hM,F,hb⟩:=T.RU;have SC:=VW;exact⟨C,f,fd,hC,hM,Vx F SC fun ax A outer s H E hr=>gP (i9 (zD (@bh _ _ _ _ _ rfl (iB Bf (by rfl) T.len fW (@bh _ _ _ _ _ rfl (qk (pv 0) rfl) cL)) (@bh _ _ _ _ _ rfl (iB Bf (by rfl) T.len fW (@bh _ _ _ _ _ rfl (qk (pv 0) rfl) cL)) cL)))),hb⟩
theorem VY:bA ["self","name","wave","ahead"] ["self","name","wave"] (az E5):=by exists cC
theorem Ys:∀p x y ds,gU 2 1 (eG wg) Bp zr p x y ds=k8 x y ds:=fun p x y ds=>by
 unfold k8 gU wg;simp only [uU,uV,uT];rcases ds with _ | ⟨d2,_ | ⟨d1,_ | ⟨d0,ds⟩⟩⟩ <;> rfl
theorem YV (T:Tx w K mg z):jo P w K mg base 4 "put" ["self","name","wave"] (gJ K z fun _=>k8):=by
 obtain⟨C,f,fd,hC,hM,F,hb⟩:=T.RW;have SC:=VY;refine⟨C,f,fd,hC,hM,(HP (pre:=wg) (fs:=Bp) (e:=zr) F SC rfl rfl (pE.mpr ⟨Ny,pE.mpr ⟨z9,fun _ z=>nomatch z⟩⟩) fun ax A outer s H E hr R=>?_).imp (Dx Ys),hb⟩;exact(fL (pV (cu (Mt T) (hr.mono (by decide)) R.pass (ai rfl (af (pv 1)) aA))) (fL (fZ (i:=3) SC.nd rfl (bw rfl) (AZ (zO T) (hr.mono (by decide)) R.pass (pv 0))) (fL (oz (zF (EK T) (hr.mono (by decide)) R.pass (pv 0) (ai rfl (ib (ai rfl (a8 (l:=[112,117,116])) (ai rfl (af (pv 1)) (ai rfl (af (pv 2)) aA)))) (ai rfl (cu (Mr T) (hr.mono (by decide)) R.pass (ai rfl (af (pv 3)) (ai rfl (af (pv 1)) (ai rfl (af (pv 2)) aA)))) aA)))) (gP (i9 (ji (EL (bb hr)) (af (pv 1)) (af (pv 3)) (by with_unfolding_all rfl)))))))
theorem V0:bA ["self","name","word","names","ahead","wave"] ["self","name","word","names"] (az E7):=by exists cC
theorem Yt:∀p x y ds,gU 3 2 (eG wj) Bq zt p x y ds=jk x y ds:=fun p x y ds=>by
 unfold jk gU wj;simp only [uU,uV,uT];rcases ds with _ | ⟨d3,_ | ⟨d2,_ | ⟨d1,_ | ⟨d0,ds⟩⟩⟩⟩ <;> rfl
theorem YW (T:Tx w K mg z):jo P w K mg base 5 "gate" ["self","name","word","names"] (gJ K z fun _=>jk):=by
 obtain⟨C,f,fd,hC,hM,F,hb⟩:=T.RY;have SC:=V0;refine⟨C,f,fd,hC,hM,(HP (pre:=wj) (fs:=Bq) (e:=zt) F SC rfl rfl (pE.mpr ⟨Ny,pE.mpr ⟨z9,pE.mpr ⟨z9,fun _ z=>nomatch z⟩⟩⟩) fun ax A outer s H E hr R=>?_).imp (Dx Yt),hb⟩;exact(fL (pV (cu (Mt T) (hr.mono (by decide)) R.pass (ai rfl (af (pv 1)) aA))) (fL (fZ (i:=4) SC.nd rfl (dj rfl) (AZ (zO T) (hr.mono (by decide)) R.pass (pv 0))) (fL (fZ (i:=5) SC.nd rfl (bw rfl) (cu (YE T) (hr.mono (by decide)) R.pass (ai rfl (af (pv 2)) (ai rfl (Qf ja (N:=["own","ahead"]) (k:=1) (fr:=[4]) (fB (by decide)) rfl ⟨rfl,rfl,rfl,rfl,rfl,rfl⟩ (ng (af (pv 3))) (fun _ _ _ _=>(cW (cR (i:=0) (show fj (α:=Str) ["own","ahead"] from by decide +kernel) rfl (bw rfl) (dj rfl)))) (fun _ _ _ _=>jC) (fun _ _ _ _=>(cu (Ms T) (hr.mono (by decide)) zH (ai rfl (af (pv 1)) (ai rfl (af (pv 0)) aA))))) aA)))) (fL (oz (zF (EK T) (hr.mono (by decide)) R.pass (pv 0) (ai rfl (cj MA (ib (ai rfl (a8 (l:=[103,97,116,101])) (ai rfl (af (pv 1)) (ai rfl (af (pv 2)) aA)))) (uo Q5 (by rfl) T.tuple (show PySem.bootBuiltins "tuple" = some (.type "tuple") from by decide +kernel) (ai rfl (af (pv 3)) aA))) (ai rfl (cu (Mr T) (hr.mono (by decide)) R.pass (ai rfl (af (pv 4)) (ai rfl (af (pv 1)) (ai rfl (af (pv 5)) aA)))) aA)))) (gP (i9 (af (pv 5))))))))
theorem VT:bA ["self","name","ahead"] ["self","name"] (az E1):=by exists cC
theorem Yr:∀p x y ds,gU 1 1 (eG we) Bo zq p x y ds=k7 x y ds:=fun p x y ds=>by
 unfold k7 gU we;simp only [uU,uV,uT];rcases ds with _ | ⟨d1,_ | ⟨d0,ds⟩⟩ <;> rfl
theorem YS (T:Tx w K mg z):jo P w K mg base 3 "take" ["self","name"] (gJ K z fun _=>k7):=by
 obtain⟨C,f,fd,hC,hM,F,hb⟩:=T.RS;have SC:=VT;refine⟨C,f,fd,hC,hM,(HP (pre:=we) (fs:=Bo) (e:=zq) F SC rfl rfl (pE.mpr ⟨z9,fun _ z=>nomatch z⟩) fun ax A outer s H E hr R=>?_).imp (Dx Yr),hb⟩;exact(fL (fZ (i:=2) SC.nd rfl (bw rfl) (AZ (zO T) (hr.mono (by decide)) R.pass (pv 0))) (fL (oz (zF (EK T) (hr.mono (by decide)) R.pass (pv 0) (ai rfl (ib (ai rfl (a8 (l:=[116,97,107,101])) (ai rfl (af (pv 1)) aA))) (ai rfl (cu (Yv T) (hr.mono (by decide)) R.pass (ai rfl (af (pv 2)) (ai rfl (af (pv 1)) aA))) aA)))) (gP (i9 (o8 (bb hr) (af (pv 2)) (af (pv 1)) (fun _ _=>rfl))))))
theorem V6:bA ["_law_board","_law_deed_here"] ["_law_board","_law_deed_here"] (az lH):=by exists cC
noncomputable abbrev iA:Str:=(("_law_did" : Str) ++ ".<locals>.") ++ "<lambda>"
theorem YL (T:Tx w K mg z){f:Addr}{fd:FuncData}{cD PD:Addr}(F:fG K "_law_did" "_law_did" lH f fd)(hm:mg "_law_did" = some (.ref f))(hb:Binds K fd ["_law_board","_law_deed_here"] [])(hcT:fd.code=.ref cD)(LB:pz mg base cD PD):rO P w K mg base (aG P w) 8 "_law_did" ["_law_board","_law_deed_here"] (zc K z [(cD,PD,iA)] BU):=by
 have SC:=V6;refine⟨f,fd,ad5 (G:=R7) F SC rfl rfl fun ax A outer s H E AD xt hr R=>?_,hm,F.kp,hb⟩;have OT:=AD.trans hcT;have O1:H PD=some (.du iA):=xt (cD,PD,iA) (by simp);exact(ae6 (cc (cE (bb hr)) (bS (af (pv 1)) aM (fun _ _=>rfl)) (a8 (l:=[103,97,116,101])) (bE _)) (Qg (N:=["_law_board","_law_deed_here"]) (fr:=[0,1]) (cs:=[1,6,7]) (k:=5) (i:=0) (j:=0) (Mu T) (hr.mono (by decide)) R.pass (by rfl) ⟨⟨rfl,rfl,rfl,rfl,rfl,rfl⟩,rfl,rfl,by decide +kernel⟩ OT LB O1 rfl rfl rfl Rh (fun _ _ _ _ _ _ _ kN R2=>(HA (YW T) (kN.mono (by decide)) R2.pass (pv 0) (ai rfl (bS (af (pv 1)) aM (fun _ _=>rfl)) (ai rfl (bS (af (pv 1)) aM (fun _ _=>rfl)) (ai rfl (Hy (n:=3) (af (pv 1)) (by decide) (EE aM)) aA)))))) (Qg (N:=["_law_board","_law_deed_here"]) (fr:=[0,1]) (cs:=[1,6,7]) (k:=5) (i:=0) (j:=0) (Mu T) (hr.mono (by decide)) R.pass (by rfl) ⟨⟨rfl,rfl,rfl,rfl,rfl,rfl⟩,rfl,rfl,by decide +kernel⟩ OT LB O1 rfl rfl rfl Rh (fun _ _ _ _ _ _ _ kN R2=>(adC (cc (cE (bb kN)) (bS (af (pv 1)) aM (fun _ _=>rfl)) (a8 (l:=[112,117,116])) (bE _)) (HA (YV T) (kN.mono (by decide)) R2.pass (pv 0) (ai rfl (bS (af (pv 1)) aM (fun _ _=>rfl)) (ai rfl (bS (af (pv 1)) aM (fun _ _=>rfl)) aA))) (HA (YS T) (kN.mono (by decide)) R2.pass (pv 0) (ai rfl (bS (af (pv 1)) aM (fun _ _=>rfl)) aA))))))
theorem Wb:bA ["_law_script","_law_board","_law_known","_law_steps","_law_many","_law_k","_law_deed_here","_law_due"] ["_law_script"] (az jI):=by exists cC
theorem YC (hG:∀ns:List Int,ns.length<=63->vh [.lst (ns.map Dt.int)]=.ok (.bl true))(T:Tx w K mg z){f:Addr}{fd:FuncData}{cD PD:Addr}(F:fG K "law" "law" jI f fd)(CD:rO P w K mg base (aG P w) 8 "_law_did" ["_law_board","_law_deed_here"] (zc K z [(cD,PD,iA)] BU)):cS P w K mg base (aG P w) 9 f fd ["_law_script"] (vY K [(cD,PD,iA)]):=by
 have SC:=Wb;refine aak (cls:=z) (G:=vh) ?_ hG;refine adb (b:=JT) F SC rfl rfl fun ax A outer s H E AD xt hr R=>?_;exact(bx (Vb (i:=1) (YQ T) (hr.mono (by decide)) R.pass (by rfl) rfl (cR (i:=1) SC.nd rfl (bw rfl)) (jf (cW (cR (i:=2) SC.nd rfl (bw rfl))) (jf (cW (cR (i:=3) SC.nd rfl (bw rfl))) (jf (cW (cR (i:=4) SC.nd rfl (bw rfl))) ue))) (ai rfl Qe (ai rfl (ma aA) (ai rfl (cj dY aM (cu (m5 T) (hr.mono (by decide)) R.pass (ai rfl (af (pv 0)) (ai rfl aM (ai rfl aM aA))))) aA))) (hN:=fun _ h=>by rw [h]; rfl) (hlen:=(Iw (Iw (Iw afF)))))
   (bx (vT rfl (FK (by rfl) T.range (ai rfl aM aA)) (cW (cR (i:=5) SC.nd rfl (bw rfl))) (bx (fZ (i:=6) SC.nd rfl (bw rfl) (cu (YM T) (hr.mono (by decide)) oB (ai rfl (af (pv 0)) (ai rfl (cj dY aM (cj qq aM (af (pv 5)))) (ai rfl (af (pv 2)) (ai rfl (af (pv 4)) aA))))))
   (bx (Vc (cu (YO T) (hr.mono (by decide)) oB (ai rfl (af (pv 2)) (ai rfl (af (pv 6)) aA))) (xv (n:=2) rfl (jf (cW (cR (i:=2) SC.nd rfl (bw rfl))) (jf (cW (cR (i:=7) SC.nd rfl (bw rfl))) ue))))
   (bx (U9 (PW.pt (Tu (Uq (qo (bb hr)) (adD CD xt (hr.mono (by decide)) oB (pv 1) (ai rfl (af (pv 6)) aA)) (af (pv 7)) (bE _)) (Tt (Uo (cc (qo (bb hr)) (AZ (zO T) (hr.mono (by decide)) oB (pv 1)) (af (pv 2)) (bE _)))))) (bu (bX Hz)) d8)
   (bx (fZ (i:=3) SC.nd rfl (bw rfl) (cj dY (af (pv 3)) (adt (ai rfl (af (pv 6)) aA) (uo Be (by rfl) T.int boot_int (ai rfl (ji Y3 (af (pv 7)) (ib (ai rfl (a8 (l:=[110,111,32,110,97,109,101])) (ai rfl (a8 (l:=[117,110,108,105,107,101])) aA))) (by with_unfolding_all rfl)) aA)))))
   (bu (dP (cc (qo (bb hr)) (adu (YT T) (hr.mono (by decide)) oB (pv 1)) (af (pv 3)) (bE _)) (bu (bX Hz)) d8)))))))
   (bu (bX (ji (cE (bb hr)) (adv (YU T) (hr.mono (by decide)) R.pass (pv 1)) (ib (ai rfl (ic jZ (by rfl) T.len fW (ai rfl (af (pv 3)) aA)) (ai rfl aM aA))) (bE _))))))
end
theorem all_mk (hG:∀ns:List Int,ns.length<=63->vh [.lst (ns.map Dt.int)]=.ok (.bl true)){l:PySem.W.OpenLaw}{w:World}{K:ah}{h:Heap}{mg:Str->Option Value}{fa:Addr}(X:K.In h)(G:h.Ns mainGlobals mg)(hfa:mg "law" = some (.ref fa))
  {Y7 afD:Option Addr} {Vw:Array (Option Value)} {Y9 aaC aet Xo Q7 aeC:Value} {Bz:Addr}
  {Y6 Rq:Option Addr} {Vv:Array (Option Value)} {Y8 NC QN L6 HX QW:Value} {By:Addr}
  {xI:Addr}
  {xN:Addr}
  {er:Addr}
  {xM:Addr}
  {xK:Addr}
  {xJ:Addr}
  {xH:Addr}
  {eo:Addr}
  {et:Addr}
  {KU:Tok}
  {KS:Tok}
  {IP:Addr} {Qk:Nat} {Kz Ko Kx Km Kv Kk:Tok}
  {Bw:Addr} {Ql:Nat} {KA Kp Ky Kn Kw Kl Ku Kj:Tok}
  {cD PD:Addr}
  (Jq:FH K "is_name" DT)
  (Je:FH K "refuse_no_name" DI)
  (IZ:FH K "of_one_length" DJ)
  (IY:FH K "refuse_unlike" DH)
  (IW:FH K "with_name" DD)
  (IV:FH K "with_wave" DC)
  (IU:FH K "unlike_at" DF)
  (IT:FH K "unlike" DG)
  (IS:FH K "no" DK)
  (IQ:FH K "both_at" DX)
  (Jo:FH K "both" DY)
  (Jn:FH K "either_at" DV)
  (Jm:FH K "either" DW)
  (Jl:FH K "gate_wave" DU)
  (Jk:FH K "wave_of" DE)
  (Jj:FH K "without_wave" DB)
  (Ji:FH K "move_last" Ly)
  (Jh:FH K "_law_cell" DR)
  (Jg:FH K "_law_pick" DN)
  (Jf:FH K "_law_wave" DL)
  (Jd:FH K "_law_deed" DP)
  (Jc:FH K "_law_made" DO)
  (Jb:FH K "_law_behind" DS)
  (Ja:FH K "_law_class" DQ)
  (I0:FH K "_law_told" DM)
  (xW:cQ K mainGlobals "_law_did" = some (some (.ref Bz))) (qA:K.lookup Bz=some ⟨Y9,Y7,.func (fI "_law_did" "_law_did" (fR lH) (di lH) (az lH) .none aaC aet Xo afD Q7 aeC),Vw⟩) (uZ:nQ K Q7 "_law_did" = true) (tZ:lj K (.ref Bz)=true)
  (Bx:cQ K mainGlobals "law" = some (some (.ref By))) (wO:K.lookup By=some ⟨Y8,Y6,.func (fI "law" "law" (fR jI) (di jI) (az jI) .none NC QN L6 Rq HX QW),Vv⟩) (xO:nQ K HX "law" = true) (wU:lj K (.ref By)=true)
  (CF:cQ K mainGlobals "len" = some none)
  (CB:cQ K mainGlobals "range" = some none)
  (CC:cQ K mainGlobals "min" = some none)
  (CJ:cQ K mainGlobals "all" = some none)
  (CH:cQ K mainGlobals "int" = some none)
  (Cz:cQ K mainGlobals "str" = some none)
  (Cw:cQ K mainGlobals "zip" = some none)
  (CG:cQ K mainGlobals "isinstance" = some none)
  (CK:cQ K mainGlobals "ValueError" = some none)
  (CA:cQ K mainGlobals "set" = some none)
  (CI:cQ K mainGlobals "dict" = some none)
  (Cy:cQ K mainGlobals "tuple" = some none)
  (G5:cQ K mainGlobals "TickError" = some (some (.ref xI)))
  (He:cQ K mainGlobals "Clash" = some (some (.ref xN)))
  (Ha:cQ K mainGlobals "NoName" = some (some (.ref er)))
  (G9:cQ K mainGlobals "NoText" = some (some (.ref xM)))
  (G8:cQ K mainGlobals "NoTick" = some (some (.ref xK)))
  (G7:cQ K mainGlobals "NoWave" = some (some (.ref xJ)))
  (G4:cQ K mainGlobals "TooLong" = some (some (.ref xH)))
  (G3:cQ K mainGlobals "Unlike" = some (some (.ref eo)))
  (Hb:cQ K mainGlobals "NoBack" = some (some (.ref et)))
  (Hd:cQ K mainGlobals "LETTERS" = some (some (.str ⟨#[97,98,99,100,101,102,103,104,105,106,107,108,109,110,111,112,113,114,115,116,117,118,119,120,121,122]⟩ KU)))
  (Hc:cQ K mainGlobals "MOST_LETTERS" = some (some (.int 4 KS)))
  (G6:cQ K mainGlobals "OPPOSITES" = some (some (.ref IP)))
  (HR:K.lookup IP=some ⟨.type "dict",none,.dict #[⟨lh w.params ⟨#[48]⟩,.str ⟨#[48]⟩ Kz,.str ⟨#[49]⟩ Ko⟩,⟨lh w.params ⟨#[49]⟩,.str ⟨#[49]⟩ Kx,.str ⟨#[48]⟩ Km⟩,⟨lh w.params ⟨#[120]⟩,.str ⟨#[120]⟩ Kv,.str ⟨#[120]⟩ Kk⟩] Qk,#[]⟩)
  (AO:cQ K mainGlobals "GATE_SIZES" = some (some (.ref Bw)))
  (HS:K.lookup Bw=some ⟨.type "dict",none,.dict #[⟨lh w.params ⟨#[110,111]⟩,.str ⟨#[110,111]⟩ KA,.int 1 Kp⟩,⟨lh w.params ⟨#[98,111,116,104]⟩,.str ⟨#[98,111,116,104]⟩ Ky,.int 2 Kn⟩,⟨lh w.params ⟨#[101,105,116,104,101,114]⟩,.str ⟨#[101,105,116,104,101,114]⟩ Kw,.int 2 Kl⟩,⟨lh w.params ⟨#[117,110,108,105,107,101]⟩,.str ⟨#[117,110,108,105,107,101]⟩ Ku,.int 2 Kj⟩] Ql,#[]⟩)
  (EW:(Bw==sysModules)=false)
  (n8:excIn K er lC "ValueError.__new__" = true)
  (sf:excIn K eo lC "ValueError.__new__" = true)
  (vG:excIn K et lC "ValueError.__new__" = true)
  (bB:vj K)
  (bK:∃C,nsIn K mainGlobals "Board" = some (some (.ref C))/\makesIn K C=true/\keepIn K (.ref C)=true)
  (Ij:dN K "__init__" "Board.__init__" E6)
  (Ii:dN K "put" "Board.put" E5)
  (Ik:dN K "gate" "Board.gate" E7)
  (Ic:dN K "take" "Board.take" E1)
  (Il:dN K "do_step" "Board.do_step" E8)
  (Ih:dN K "sheet" "Board.sheet" E4)
  (Ie:dN K "steps" "Board.steps" E2)
  (Im:dN K "back" "Board.back" Nh)
  (Ig:dN K "sizes" "Board.sizes" E3)
  (uO:isClsIn K er=true)
  (uL:findIn K (.ref er) "__getattribute__" = some (some (.builtin "BaseException.__getattribute__")))
  (uI:findIn K (.ref er) "__getattr__" = some none)
  (uF:findIn K (.ref er) "__class__" = some (some (.builtin "object.__class__")))
  (uC:specialIn K (.builtin "object.__class__") "__get__" = some (some (.builtin "getset_descriptor.__get__")))
  (uz:takesIn K (.builtin "object.__class__")=some true)
  (uw:mroIn K er (.type "object")=some true)
  (ur:mroIn K er (.type "BaseException")=some true)
  (tS:exmOne K (.ref er) (.ref xI)=some true)
  (sV:kitOne K (.ref er) (.ref xN)=some false)
  (sS:kitOne K (.ref er) (.ref et)=some false)
  (sP:kitOne K (.ref er) (.ref er)=some true)
  (sL:kitOne K (.ref er) (.ref xM)=some false)
  (sE:kitOne K (.ref er) (.ref xK)=some false)
  (sv:kitOne K (.ref er) (.ref xJ)=some false)
  (sq:kitOne K (.ref er) (.ref xH)=some false)
  (sj:kitOne K (.ref er) (.ref eo)=some false)
  (sY:kitOne K (.ref er) (.type "ValueError")=some true)
  (uN:isClsIn K eo=true)
  (uK:findIn K (.ref eo) "__getattribute__" = some (some (.builtin "BaseException.__getattribute__")))
  (uH:findIn K (.ref eo) "__getattr__" = some none)
  (uE:findIn K (.ref eo) "__class__" = some (some (.builtin "object.__class__")))
  (uB:specialIn K (.builtin "object.__class__") "__get__" = some (some (.builtin "getset_descriptor.__get__")))
  (uy:takesIn K (.builtin "object.__class__")=some true)
  (uv:mroIn K eo (.type "object")=some true)
  (uq:mroIn K eo (.type "BaseException")=some true)
  (tR:exmOne K (.ref eo) (.ref xI)=some true)
  (sU:kitOne K (.ref eo) (.ref xN)=some false)
  (sR:kitOne K (.ref eo) (.ref et)=some false)
  (sO:kitOne K (.ref eo) (.ref er)=some false)
  (sG:kitOne K (.ref eo) (.ref xM)=some false)
  (sC:kitOne K (.ref eo) (.ref xK)=some false)
  (su:kitOne K (.ref eo) (.ref xJ)=some false)
  (so:kitOne K (.ref eo) (.ref xH)=some false)
  (si:kitOne K (.ref eo) (.ref eo)=some true)
  (sX:kitOne K (.ref eo) (.type "ValueError")=some true)
  (uP:isClsIn K et=true)
  (uM:findIn K (.ref et) "__getattribute__" = some (some (.builtin "BaseException.__getattribute__")))
  (uJ:findIn K (.ref et) "__getattr__" = some none)
  (uG:findIn K (.ref et) "__class__" = some (some (.builtin "object.__class__")))
  (uD:specialIn K (.builtin "object.__class__") "__get__" = some (some (.builtin "getset_descriptor.__get__")))
  (uA:takesIn K (.builtin "object.__class__")=some true)
  (ux:mroIn K et (.type "object")=some true)
  (uu:mroIn K et (.type "BaseException")=some true)
  (tT:exmOne K (.ref et) (.ref xI)=some true)
  (sW:kitOne K (.ref et) (.ref xN)=some false)
  (sT:kitOne K (.ref et) (.ref et)=some true)
  (sQ:kitOne K (.ref et) (.ref er)=some false)
  (sN:kitOne K (.ref et) (.ref xM)=some false)
  (sF:kitOne K (.ref et) (.ref xK)=some false)
  (sx:kitOne K (.ref et) (.ref xJ)=some false)
  (sr:kitOne K (.ref et) (.ref xH)=some false)
  (sk:kitOne K (.ref et) (.ref eo)=some false)
  (sZ:kitOne K (.ref et) (.type "ValueError")=some true)
  (C5:tabIn K "_law_did" = some (cD,PD)) :
  ∃fd:FuncData,(∀(s:Shared) (v:Value),BindsTo s fd ⟨[v],[]⟩ [("_law_script",v)])/\∀base:Heap,K.In base->base.Ns mainGlobals mg->(∀t∈[(cD,PD,iA)],pz mg base t.1 t.2.1)->cS l.prog w K mg base (aG l.prog w) 9 fa fd ["_law_script"] (vY K [(cD,PD,iA)]):=by
 have T:Tx w K mg (fun n=>match n with | 8=>xI | 0=>xN | 1=>er | 2=>xM | 3=>xK | 4=>xJ | 5=>xH | 6=>eo | 7=>et | _=>0):={
  len:=ju X G CF
  range:=ju X G CB
  min:=ju X G CC
  all:=ju X G CJ
  int:=ju X G CH
  str:=ju X G Cz
  zip:=ju X G Cw
  isinstance:=ju X G CG
  ValueError:=ju X G CK
  set:=ju X G CA
  dict:=ju X G CI
  tuple:=ju X G Cy
  Ry:=eR X G G5
  Sg:=eR X G He
  x9:=eR X G Ha
  RL:=eR X G G9
  RK:=eR X G G8
  RJ:=eR X G G7
  Rx:=eR X G G4
  Jr:=eR X G G3
  RM:=eR X G Hb
  R3:=⟨KU,eR X G Hd⟩
  R0:=⟨KS,eR X G Hc⟩
  JJ:=⟨IP,eR X G G6,[([48],Kz,[49],Ko),([49],Kx,[48],Km),([120],Kv,[120],Kk)],Qk,HR,rfl⟩
  BX:=⟨Bw,eR X G AO,[([110,111],KA,1,Kp),([98,111,116,104],Ky,2,Kn),([101,105,116,104,101,114],Kw,2,Kl),([117,110,108,105,107,101],Ku,2,Kj)],Ql,HS,rfl⟩
  RN:=fun a h=>by
   have e:=h.symm.trans (eR X G AO);cases e;exact EW
  PX:=Jq.rl X G fun _ _ _ _ _ _ _=>rfl
  PR:=Je.rl X G fun _ _ _ _ _ _ _=>rfl
  PU:=IZ.rl X G fun _ _ _ _ _ _ _=>rfl
  PQ:=IY.rl X G fun _ _ _ _ _ _ _=>rfl
  PK:=IW.Ho X G fun _ _ _ _ _ _ _ _ _=>rfl
  PJ:=IV.Ho X G fun _ _ _ _ _ _ _ _ _=>rfl
  PM:=IU.jg X G fun _ _ _ _ _ _ _ _=>rfl
  PN:=IT.jg X G fun _ _ _ _ _ _ _ _=>rfl
  PV:=IS.rl X G fun _ _ _ _ _ _ _=>rfl
  P4:=IQ.jg X G fun _ _ _ _ _ _ _ _=>rfl
  f_both:=Jo.jg X G fun _ _ _ _ _ _ _ _=>rfl
  PZ:=Jn.jg X G fun _ _ _ _ _ _ _ _=>rfl
  P0:=Jm.jg X G fun _ _ _ _ _ _ _ _=>rfl
  PY:=Jl.jg X G fun _ _ _ _ _ _ _ _=>rfl
  PL:=Jk.jg X G fun _ _ _ _ _ _ _ _=>rfl
  PH:=Jj.jg X G fun _ _ _ _ _ _ _ _=>rfl
  adh:=Ji.jg X G fun _ _ _ _ _ _ _ _=>rfl
  Qb:=Jh.jg X G fun _ _ _ _ _ _ _ _=>rfl
  P7:=Jg.Ho X G fun _ _ _ _ _ _ _ _ _=>rfl
  P5:=Jf.Py X G fun _ _ _ _ _ _ _ _ _ _=>rfl
  P9:=Jd.Py X G fun _ _ _ _ _ _ _ _ _ _=>rfl
  P8:=Jc.jg X G fun _ _ _ _ _ _ _ _=>rfl
  Qc:=Jb.jg X G fun _ _ _ _ _ _ _ _=>rfl
  Qa:=Ja.rl X G fun _ _ _ _ _ _ _=>rfl
  P6:=I0.rl X G fun _ _ _ _ _ _ _=>rfl
  adj:=⟨Bz,_,l6 (st:=lH) qA uZ tZ,eR X G xW,(l6 (st:=lH) qA uZ tZ).binds (ps:=["_law_board","_law_deed_here"]) fun _ _ _ _ _ _ us hl=>match us,hl with | [_,_],_=>rfl⟩
  adi:=⟨By,_,l6 (st:=jI) wO xO wU,eR X G Bx,(l6 (st:=jI) wO xO wU).binds (ps:=["_law_script"]) fun _ _ _ _ _ _ us hl=>match us,hl with | [_],_=>rfl⟩
  RX:=Ij.init bB X G bK (fun _ _ _ _ _ _ us hl=>match us,hl with | [_],_=>rfl)
  RW:=Ii.fn bB (fun _ _ _ _ _ _ us hl=>match us,hl with | [_,_,_],_=>rfl)
  RY:=Ik.fn bB (fun _ _ _ _ _ _ us hl=>match us,hl with | [_,_,_,_],_=>rfl)
  RS:=Ic.fn bB (fun _ _ _ _ _ _ us hl=>match us,hl with | [_,_],_=>rfl)
  RZ:=Il.fn bB (fun _ _ _ _ _ _ us hl=>match us,hl with | [_,_,_],_=>rfl)
  RV:=Ih.fn bB (fun _ _ _ _ _ _ us hl=>match us,hl with | [_],_=>rfl)
  RT:=Ie.fn bB (fun _ _ _ _ _ _ us hl=>match us,hl with | [_],_=>rfl)
  aiN:=Im.fn bB (fun _ _ _ _ _ _ us hl=>match us,hl with | [_],_=>rfl)
  RU:=Ig.fn bB (fun _ _ _ _ _ _ us hl=>match us,hl with | [_],_=>rfl)
  n8:=n8
  sf:=sf
  vG:=vG
  uO:=uO
  uL:=uL
  uI:=uI
  uF:=uF
  uC:=uC
  uz:=uz
  uw:=uw
  ur:=ur
  tS:=tS
  sV:=sV
  sS:=sS
  sP:=sP
  sL:=sL
  sE:=sE
  sv:=sv
  sq:=sq
  sj:=sj
  sY:=sY
  uN:=uN
  uK:=uK
  uH:=uH
  uE:=uE
  uB:=uB
  uy:=uy
  uv:=uv
  uq:=uq
  tR:=tR
  sU:=sU
  sR:=sR
  sO:=sO
  sG:=sG
  sC:=sC
  su:=su
  so:=so
  si:=si
  sX:=sX
  uP:=uP
  uM:=uM
  uJ:=uJ
  uG:=uG
  uD:=uD
  uA:=uA
  ux:=ux
  uu:=uu
  tT:=tT
  sW:=sW
  sT:=sT
  sQ:=sQ
  sN:=sN
  sF:=sF
  sx:=sx
  sr:=sr
  sk:=sk
  sZ:=sZ
 }
 refine⟨fI "law" "law" (fR jI) (di jI) (az jI) .none NC QN L6 Rq HX QW,fun s v=>.of_eq rfl,fun base _ _ GP=>?_⟩
 have e:=hfa.symm.trans (eR X G Bx);cases e;exact YC (P:=l.prog) (w:=w) (base:=base) hG T (l6 (st:=jI) wO xO wU) (YL (P:=l.prog) (w:=w) (base:=base) T (l6 (st:=lH) qA uZ tZ) (eR X G xW) ((l6 (st:=lH) qA uZ tZ).binds (ps:=["_law_board","_law_deed_here"]) fun _ _ _ _ _ _ us hl=>match us,hl with | [_,_],_=>rfl) (law_code X G C5 (eR X G xW) (X _ _ qA) rfl) (GP (cD,PD,iA) (by simp)))
theorem walk {l:PySem.W.OpenLaw}{q:Program}{loose:List Str}{XP:(Str->Option Value)->Heap->Prop}{YP:World->Heap->Prop}{d:DefRec}{K:Params->ah}{cD PD:Addr}(xh:([(cD,PD,iA)]:iS).Pairwise (fun x y=>x.2.1≠y.2.1))(hn:l.most=some 63)(xo:d.params.defaults=[])
  (hY:∀(w:World) (h:Heap),YP w h->(K w.params).In h) (xu:∀w:World,noTabs (K w.params)=true)
  (hT:∀(w:World) (lz:List Str) (z0:ExcName->Option Value) (mg mb:Str->Option Value) (h:Heap),(K w.params).In h->Top q lz z0 mg mb h->∀t∈([(cD,PD,iA)]:iS),CodeHd h t.1 t.2.1/\h.get? t.2.1=some (tabObj #[]))
  (F:∀(w:World) (mg:Str->Option Value) (fa:Addr) (h:Heap),(K w.params).In h->h.Ns mainGlobals mg->mg d.name=some (.ref fa)->
   ∃fd:FuncData,(∀(s:Shared) (u:Value),BindsTo s fd ⟨[u],[]⟩ [("_law_script",u)])/\∀base:Heap,(K w.params).In base->base.Ns mainGlobals mg->(∀t∈[(cD,PD,iA)],pz mg base t.1 t.2.1)->cS l.prog w (K w.params) mg base (aG l.prog w) 9 fa fd ["_law_script"] (vY (K w.params) [(cD,PD,iA)])) :
  PySem.W.WalkO q loose XP YP l.row.toRowW d [] (fun f vs=>PySem.call f vs):=
 L2.TC (n:=63) (k:=9) (x:="_law_script") (tabs:=[(cD,PD,iA)]) (CX:=fun w=>aG l.prog w) (sp:=fun w=>vY (K w.params) [(cD,PD,iA)]) hn (by decide) xo ⟨rfl,by decide,by decide,rfl⟩ hY xh xu hT F (fun _ _ a ns hl xt hS=>⟨xt,a,ns,rfl,⟨hS,hl⟩,fun _=>rfl⟩) fun _ _ _ _ _ z=>by
  obtain⟨ea,C,H',B,a0,_,_,_,_,_,_,_,_,_,hE⟩:=z;exact hE
end vg
open PySem PySem.W PyProof.Rows
local macro_rules
 | `(tactic| exists dG) => `(tactic| (refine' L2.FH.mk ?x1 ?x2 ?x3 ?x4; (case x1 => k_is); (case x2 => k_is); (case x3 => k_is); (case x4 => k_is)))
local macro_rules
 | `(tactic| exists aK) => `(tactic| first | k_is | kit_is | kts_exm | k_exc)
def PySem.W.Fast.tw4154280086637437098:Unit:=()
def PySem.W.Fast.tw814817112557208939:Unit:=()
def PySem.W.Fast.tw1007130419879238616:Unit:=()
def PySem.W.Fast.tw3902318765280906765:Unit:=()
def PySem.W.Fast.tw17169292174774177096:Unit:=()
def PySem.W.Fast.tw2958036258119890383:Unit:=()
def PySem.W.Fast.tw3618333299799988929:Unit:=()
def PySem.W.Fast.tw17619346703598476938:Unit:=()
def PySem.W.Fast.tw5542916593594430708:Unit:=()
def PySem.W.Fast.tw10999105660271583550:Unit:=()
def PySem.W.Fast.tw6175721548849117646:Unit:=()
def PySem.W.Fast.tw9421575990399060419:Unit:=()
def PySem.W.Fast.tw9117804605128176718:Unit:=()
def PySem.W.Fast.tw11604871219571314796:Unit:=()
def PySem.W.Fast.tw14283362548522813294:Unit:=()
def PySem.W.Fast.tw11341401067389360703:Unit:=()
def PySem.W.Fast.tw1226894356589574134:Unit:=()
def PySem.W.Fast.tw2057822315692094647:Unit:=()
def PySem.W.Fast.tw4668911515006771236:Unit:=()
def PySem.W.Fast.tw14685834719012288403:Unit:=()
set_option maxRecDepth 100000 in
set_option maxHeartbeats 0 in
theorem PySem.Challenge.cw_tickrows_k86_whole_boards_holds : PySem.Challenge.rw_tickrows_k86_whole_boards.Holds := by
 w_on; o_law; k_head; (case hw=>w_witness2)
 k_fill
 refine vg.walk (l:=PySem.Challenge.rw_tickrows_k86_whole_boards) (cD:=380) (PD:=376) (by decide) rfl rfl (fun w h Y=>PySem.W.km_in_of Y) (fun w=>by kernel_rfl) (fun w lz z0 mg mb h KX T=>pE.mpr ⟨tab_of (x:="_law_did") T KX rfl (by kernel_rfl),fun _ h=>nomatch h⟩) ?F
 case F=>
  intro w mg fa h KX G xj
  refine' vg.all_mk vg.aaj KX G xj ?Jq ?Je ?IZ ?IY ?IW ?IV ?IU ?IT ?IS ?IQ ?Jo ?Jn ?Jm ?Jl ?Jk ?Jj ?Ji ?Jh ?Jg ?Jf ?Jd ?Jc ?Jb ?Ja ?I0 ?xW ?qA ?uZ ?tZ ?Bx ?wO ?xO ?wU ?CF ?CB ?CC ?CJ ?CH ?Cz ?Cw ?CG ?CK ?CA ?CI ?Cy ?G5 ?He ?Ha ?G9 ?G8 ?G7 ?G4 ?G3 ?Hb ?Hd ?Hc ?G6 ?HR ?AO ?HS ?EW ?n8 ?sf ?vG ?bB ?bK ?Ij ?Ii ?Ik ?Ic ?Il ?Ih ?Ie ?Im ?Ig ?uO ?uL ?uI ?uF ?uC ?uz ?uw ?ur ?tS ?sV ?sS ?sP ?sL ?sE ?sv ?sq ?sj ?sY ?uN ?uK ?uH ?uE ?uB ?uy ?uv ?uq ?tR ?sU ?sR ?sO ?sG ?sC ?su ?so ?si ?sX ?uP ?uM ?uJ ?uG ?uD ?uA ?ux ?uu ?tT ?sW ?sT ?sQ ?sN ?sF ?sx ?sr ?sk ?sZ ?C5
  (case Jq=>exists dG)
  (case Je=>exists dG)
  (case IZ=>exists dG)
  (case IY=>exists dG)
  (case IW=>exists dG)
  (case IV=>exists dG)
  (case IU=>exists dG)
  (case IT=>exists dG)
  (case IS=>exists dG)
  (case IQ=>exists dG)
  (case Jo=>exists dG)
  (case Jn=>exists dG)
  (case Jm=>exists dG)
  (case Jl=>exists dG)
  (case Jk=>exists dG)
  (case Jj=>exists dG)
  (case Ji=>exists dG)
  (case Jh=>exists dG)
  (case Jg=>exists dG)
  (case Jf=>exists dG)
  (case Jd=>exists dG)
  (case Jc=>exists dG)
  (case Jb=>exists dG)
  (case Ja=>exists dG)
  (case I0=>exists dG)
  (case xW=>exists aK)
  (case qA=>exists aK)
  (case uZ=>exists aK)
  (case tZ=>exists aK)
  (case Bx=>exists aK)
  (case wO=>exists aK)
  (case xO=>exists aK)
  (case wU=>exists aK)
  (case CF=>exists aK)
  (case CB=>exists aK)
  (case CC=>exists aK)
  (case CJ=>exists aK)
  (case CH=>exists aK)
  (case Cz=>exists aK)
  (case Cw=>exists aK)
  (case CG=>exists aK)
  (case CK=>exists aK)
  (case CA=>exists aK)
  (case CI=>exists aK)
  (case Cy=>exists aK)
  (case G5=>exists aK)
  (case He=>exists aK)
  (case Ha=>exists aK)
  (case G9=>exists aK)
  (case G8=>exists aK)
  (case G7=>exists aK)
  (case G4=>exists aK)
  (case G3=>exists aK)
  (case Hb=>exists aK)
  (case Hd=>exists aK)
  (case Hc=>exists aK)
  (case G6=>exists aK)
  (case HR=>exists aK)
  (case AO=>exists aK)
  (case HS=>exists aK)
  (case EW=>decide +kernel)
  (case n8=>exists aK)
  (case sf=>exists aK)
  (case vG=>exists aK)
  (case bB=>(refine' L2.vj.mk ?x1 ?x2 ?x3 ?x4 ?x5 ?x6 ?x7; (case x1=>first | k_is | kit_is | decide +kernel); (case x2=>first | k_is | kit_is | decide +kernel); (case x3=>first | k_is | kit_is | decide +kernel); (case x4=>first | k_is | kit_is | decide +kernel); (case x5=>first | k_is | kit_is | decide +kernel); (case x6=>first | k_is | kit_is | decide +kernel); (case x7=>first | k_is | kit_is | decide +kernel)))
  (case bK=>(refine' L2.ZJ ?x1 ?x2 ?x3; (case x1=>first | k_is | kit_is | decide +kernel); (case x2=>first | k_is | kit_is | decide +kernel); (case x3=>first | k_is | kit_is | decide +kernel)))
  (case Ij=>(refine' L2.dN.mk ?x1 ?x2 ?x3 ?x4 ?x5 ?x6; (case x1=>first | k_is | kit_is | decide +kernel); (case x2=>first | k_is | kit_is | decide +kernel); (case x3=>first | k_is | kit_is | decide +kernel); (case x4=>first | k_is | kit_is | decide +kernel); (case x5=>first | k_is | kit_is | decide +kernel); (case x6=>first | k_is | kit_is | decide +kernel)))
  (case Ii=>(refine' L2.dN.mk ?x1 ?x2 ?x3 ?x4 ?x5 ?x6; (case x1=>first | k_is | kit_is | decide +kernel); (case x2=>first | k_is | kit_is | decide +kernel); (case x3=>first | k_is | kit_is | decide +kernel); (case x4=>first | k_is | kit_is | decide +kernel); (case x5=>first | k_is | kit_is | decide +kernel); (case x6=>first | k_is | kit_is | decide +kernel)))
  (case Ik=>(refine' L2.dN.mk ?x1 ?x2 ?x3 ?x4 ?x5 ?x6; (case x1=>first | k_is | kit_is | decide +kernel); (case x2=>first | k_is | kit_is | decide +kernel); (case x3=>first | k_is | kit_is | decide +kernel); (case x4=>first | k_is | kit_is | decide +kernel); (case x5=>first | k_is | kit_is | decide +kernel); (case x6=>first | k_is | kit_is | decide +kernel)))
  (case Ic=>(refine' L2.dN.mk ?x1 ?x2 ?x3 ?x4 ?x5 ?x6; (case x1=>first | k_is | kit_is | decide +kernel); (case x2=>first | k_is | kit_is | decide +kernel); (case x3=>first | k_is | kit_is | decide +kernel); (case x4=>first | k_is | kit_is | decide +kernel); (case x5=>first | k_is | kit_is | decide +kernel); (case x6=>first | k_is | kit_is | decide +kernel)))
  (case Il=>(refine' L2.dN.mk ?x1 ?x2 ?x3 ?x4 ?x5 ?x6; (case x1=>first | k_is | kit_is | decide +kernel); (case x2=>first | k_is | kit_is | decide +kernel); (case x3=>first | k_is | kit_is | decide +kernel); (case x4=>first | k_is | kit_is | decide +kernel); (case x5=>first | k_is | kit_is | decide +kernel); (case x6=>first | k_is | kit_is | decide +kernel)))
  (case Ih=>(refine' L2.dN.mk ?x1 ?x2 ?x3 ?x4 ?x5 ?x6; (case x1=>first | k_is | kit_is | decide +kernel); (case x2=>first | k_is | kit_is | decide +kernel); (case x3=>first | k_is | kit_is | decide +kernel); (case x4=>first | k_is | kit_is | decide +kernel); (case x5=>first | k_is | kit_is | decide +kernel); (case x6=>first | k_is | kit_is | decide +kernel)))
  (case Ie=>(refine' L2.dN.mk ?x1 ?x2 ?x3 ?x4 ?x5 ?x6; (case x1=>first | k_is | kit_is | decide +kernel); (case x2=>first | k_is | kit_is | decide +kernel); (case x3=>first | k_is | kit_is | decide +kernel); (case x4=>first | k_is | kit_is | decide +kernel); (case x5=>first | k_is | kit_is | decide +kernel); (case x6=>first | k_is | kit_is | decide +kernel)))
  (case Im=>(refine' L2.dN.mk ?x1 ?x2 ?x3 ?x4 ?x5 ?x6; (case x1=>first | k_is | kit_is | decide +kernel); (case x2=>first | k_is | kit_is | decide +kernel); (case x3=>first | k_is | kit_is | decide +kernel); (case x4=>first | k_is | kit_is | decide +kernel); (case x5=>first | k_is | kit_is | decide +kernel); (case x6=>first | k_is | kit_is | decide +kernel)))
  (case Ig=>(refine' L2.dN.mk ?x1 ?x2 ?x3 ?x4 ?x5 ?x6; (case x1=>first | k_is | kit_is | decide +kernel); (case x2=>first | k_is | kit_is | decide +kernel); (case x3=>first | k_is | kit_is | decide +kernel); (case x4=>first | k_is | kit_is | decide +kernel); (case x5=>first | k_is | kit_is | decide +kernel); (case x6=>first | k_is | kit_is | decide +kernel)))
  (case uO=>exists aK)
  (case uL=>exists aK)
  (case uI=>exists aK)
  (case uF=>exists aK)
  (case uC=>exists aK)
  (case uz=>exists aK)
  (case uw=>exists aK)
  (case ur=>exists aK)
  (case tS=>exists aK)
  (case sV=>exists aK)
  (case sS=>exists aK)
  (case sP=>exists aK)
  (case sL=>exists aK)
  (case sE=>exists aK)
  (case sv=>exists aK)
  (case sq=>exists aK)
  (case sj=>exists aK)
  (case sY=>exists aK)
  (case uN=>exists aK)
  (case uK=>exists aK)
  (case uH=>exists aK)
  (case uE=>exists aK)
  (case uB=>exists aK)
  (case uy=>exists aK)
  (case uv=>exists aK)
  (case uq=>exists aK)
  (case tR=>exists aK)
  (case sU=>exists aK)
  (case sR=>exists aK)
  (case sO=>exists aK)
  (case sG=>exists aK)
  (case sC=>exists aK)
  (case su=>exists aK)
  (case so=>exists aK)
  (case si=>exists aK)
  (case sX=>exists aK)
  (case uP=>exists aK)
  (case uM=>exists aK)
  (case uJ=>exists aK)
  (case uG=>exists aK)
  (case uD=>exists aK)
  (case uA=>exists aK)
  (case ux=>exists aK)
  (case uu=>exists aK)
  (case tT=>exists aK)
  (case sW=>exists aK)
  (case sT=>exists aK)
  (case sQ=>exists aK)
  (case sN=>exists aK)
  (case sF=>exists aK)
  (case sx=>exists aK)
  (case sr=>exists aK)
  (case sk=>exists aK)
  (case sZ=>exists aK)
  (case C5=>kernel_rfl)
