import PyProof.Rows.All
import Wide.All
import OpenK.AllK
import Wide.FinOn
import Lean
import PyProof.EqAt
import PyProof.EqKinds
import PyProof.TupleCall
import PyProof.ConsumeWalk
import PyProof.StrWalks
import PyProof.IsiPairs
import PyProof.IsiHeapPairs
import KE.KEqDict
import PyProof.NeKinds
import PyProof.FactsAll.dict
import KE.KIsAll
import KE.KTryMore
import PyProof.FString
import PyProof.ExcBaseAll.ValueError
import PyProof.NsDelKeeps
import PyProof.ListStr
import PyProof.Rows.StrJoin2
import KE.RegKIsAll
import KE.RegKTryMore
import PyProof.StrOps2
import PyProof.ZipIter
import PyProof.Rows.FactsT2
import PyProof.WalksEnum
import PyProof.EnumMake
import PyProof.Draws
import KE.KUnpack
import PyProof.CallType
import PyProof.CollectIter
import PyProof.JoinWalk
import PyProof.Rows.StrJoinStr
import PyProof.DictRoads
import PyProof.DictKinds
import PyProof.DictStraight
import PyProof.DictDisplay
import PyProof.ReprRoads
import PyProof.ReprLen
import PyProof.SetRoads
import PyProof.Rows.SetFrom
import PyProof.MinMaxWalk
import PyProof.Rows.CallKwBuiltin
import KE.KMinKey
import PyProof.StrLawsChain
import PyProof.StrLawsTight
import PyProof.Rows.StrNews
import PyProof.Rows.StrSplitCount
import PyProof.DictCalls
import PyProof.SliceSyntax
import PyProof.SumWalk
import PyProof.ReprStr
import PyProof.StrLawsRepr
import KE.KLam
import PyProof.SetKind
import PyProof.CollectWalk
import PyProof.Rows.SortStr
import PyProof.StrLawsReplace
import PyProof.DictWalks
import PyProof.DictItems
import PyProof.DictItemsLoops
import KE.KPairComp
import PyProof.IsiH_list
import KE.KDictOf
import KE.KItemsList
import PyProof.ListNew
import PyProof.SetScanFacts
import PyProof.MeetsSeq2
import PyProof.FactsAll.subtypes_5
import PyProof.Rows.SortShell
import PyProof.ReprHeadsTuple
import PyProof.FString4
import KE.KDictList
import PyProof.FString5
import PySem.Challenge.RW_tickrows_k51_whole_sheets_together
open PySem.W renaming Frag→ao,nsIn→cX,mg_none_of→iP,fnOf→gi,mg_of→jl,keepIn→oR,cellsFrom_some→yK,codeIn→qV,methodObj→BX
open PySem.Heap renaming get?_push_of_some→aI,lt_size→aK,get?_push_size→bE,size_push→gk,SameBut→fQ,get?_update_self→ma,get?_update_other→vh,FlyingW→oN
open List renaming mem_cons→aO,mem_cons_self→bu,mem_cons_of_mem→bR,map_cons→a5,getElem?_eq_some_iff→cP,mem_map→aX,replicate→bM,range→bf,length_map→cg,mem_append_right→d6,filterMap_cons→dG,length_cons→cQ,all_eq_true→dR,getElem?_eq_getElem→iq,not_mem_nil→eL,mem_append_left→gq,mem_append→eJ,map_map→dw,nodup_cons→fz,getElem?_map→gR,size_toArray→gQ,Nodup→du,mem_of_getElem?→jV,mem_singleton→jm,getElem?_set_ne→kL,length_append→jU,pairwise_cons→kK,getElem?_set_self→nE,drop_eq_getElem_cons→oJ,length_eq_zero_iff→oH,mem_of_mem_take→nD,lookup_cons→kJ,flatMap_cons→l9,map_congr_left→nC,find?_cons→kI,foldl_cons→kH,getElem?_cons_zero→qO,ext_getElem?→nz,length_pos_iff→oE,any_cons→kG,getElem?_append_right→uK,length_take→nv,getElem?_eq_none→qN,length_replicate→qM,getElem?_append_left→uJ,map_nil→kF,append_nil→nu,map_append→nt,all_cons→mj,mem_flatMap→oV,range'_succ→oU,mem_filter→oS,eraseDups_append→vg,length_range→ri,append_assoc→rh,mem_iff_getElem→vf,range'→mf,getElem_mem→rg,drop_length→qZ,replicate_succ→vd,getElem?_range→vc,getElem?_cons_succ→yN,length_nil→qY,take_of_length_le→yL,take_sublist→u6,getElem?_zipWith→yJ,removeAll→qU,filter_cons→uZ,take_length→uY,length_drop→uX,getD_eq_getElem?_getD→Co,sum_cons→qS,filter_eq_self→yE,forIn_cons→uU,mem_range→uS,drop_sublist→yx,count_append→yw,take_add_one→yv,filter_eq_nil_iff→Ce,range_succ_eq_map→Cd,any_eq_true→yt,countP_cons→yr,length_filter_le→Ca,nil_append→yq,all_map→uN,mem_of_mem_drop→B9,of_mem_zip→yp,getElem_toArray→B8,length→uM,count_eq_zero→B6,mem_eraseDups→B4,mem_filterMap→B3,flatten_cons→B1,filter_congr→B0,nodup_append→BZ,getElem_take→BY
open Nat renaming le_refl→aN,ne_of_lt→a9,lt_of_lt_of_le→cK,le_trans→bH,lt_irrefl→eI,zero_le→fP,le_add_right→jS,lt_succ_of_lt→l8,le_succ→mh,le_of_lt→nH,not_lt→md,succ_pos→oP,ne_of_gt→oO,pow_le_pow_right→yI,lt_succ_self→uW,lt_trans→qQ,lt_of_le_of_lt→yA,zero_add→uO,mod_lt→uL
open Bool renaming false_eq_true→cF,false_ne_true→fA,and_eq_true→eY,eq_iff_iff→jR,true_and→l7,false_and→qW,and_eq_true_iff→yH,not_true→qT,not_false→uT,and_false→uR,not_eq_false'→B5
open PySem.Value renaming ref→bx,none→eX,type→kO,isStrOf_shape→u9,builtin→qR,str→qP
open Or renaming inl→aS,inr→cx
open Array renaming length_toList→eZ,getD_eq_getD_getElem?→oK,getElem?_eq_getElem→oI,getElem?_toList→oG,toList→mi,getElem_toList→yG,toArray_toList→yF,getElem?_eq_none_iff→Ck,getElem?_eq_some_iff→Cj,toList_push→BS
open Option renaming map_eq_some_iff→gr,isSome_iff_exists→jn,isSome_some→rj,getD_some→u5,isSome_none→yB,isSome_map→BV,getD_none→BR
open PyProof.Rows renaming callWith_type1→jW,callWith_builtin1→Cp
open PySem.F renaming called_set→gp,slot_tuple_iterator_next→yQ,slot_dict_values→yP,slot_list_getattribute→yO,plainAttrs_list→yM,slot_dict_eq→yD,slot_dict_ne→yC,plainAttrs_dict→Cf,slot_list_extend→Cb,slot_zip_next→yn
open Option.some renaming inj→gn,injEq→jT
open Ne renaming symm→cz
open PySem renaming boot_len→gj,strKind→jk,mem_of_lookup→oD,evalArgs_none→B7
open PySem.Builtin.Dict renaming dictSlotArgs→nG
open PySem.Builtin.SmallTypes renaming nextOf→nF,ownedTupleIsFree→yg,ownedTupleHandOut→JL
open PySem.Str renaming ofString→iO,length→gP
open PySem.Calls renaming spliced_cons→nA,spliced_nil→ny,Name_function_global→Cn
open PySem.PyData renaming int→ip,shownAll→qX,depthAll→ym,hasDictAll→BU
open PySem.Around renaming under_plainId→oF
open ForInStep renaming yield→nq
open Int renaming toNat_of_nonneg→rn,emod_lt_of_pos→u7,emod_nonneg→uV,toNat_natCast→yy
open PySem.Heap.SameBut renaming update→rm
open PySem.SetTable renaming grown→nJ,below→uQ,fits→yi
open False renaming elim→jX
open PyProof.Rows.F renaming plain_set_update_loop→Cs,entry_set_update_loop→JK
open PySem.NameKind renaming cell→nI,free→oQ
open PySem.SeqAt renaming EqAt→kN,RcNeAt→yh
open PySem.Obj renaming mapSeq→me,data_mapFields→yz
open Std.Legacy.Range renaming forIn_eq_forIn_range'→JM,size→Jz
open PySem.Builtin.List renaming listTooLong→Ci,listExtendWith→JH,listSameRef→JC
open PySem.Builtin.Frozenset renaming sizeOf→Cg,updateFrom→JJ,walkUnseen→JI,isAnySet→JG,subsetOf→JF,quietEq→JD,slot1→JA
open True renaming intro→oM
open String renaming splitOnAux→yu,splitOn→yk
open Function renaming comp→uP
open PySem.StrLaws renaming occBody→yo
open PySem.Code renaming quiet_builtin→B2
open PySem.Paired renaming length→yj
open List.Pairwise renaming nil→BW
open PySem.Builtin.ObjectAttr renaming bindTo→JE,find→JB
open List.cons renaming injEq→BQ
open PySem.Manifest renaming owners→BP
theorem zF{p:Prop}(h:False):p:=h.elim
noncomputable section
set_option Elab.async false
set_option compiler.extract_closed false
set_option linter.all false
set_option maxRecDepth 100000
namespace L2
inductive Dt where
 |ax | bl (b:Bool) | int (i:Int) | str (l:List Nat) | tup (ds:List Dt) | lst (ds:List Dt)
 |af (kvs:List (List Nat×List Nat))
noncomputable def aE {α β:Type}[BEq α](kvs:List (α×β))(k:α):Option β:=(kvs.find? λp=>p.1==k).map (·.2)
noncomputable def lQ (ka kb:List (List Nat×List Nat)):Bool:=ka.length==kb.length&&ka.all λp=>aE kb p.1==some p.2
noncomputable def fg (ka kb:List (List Nat×List Nat)):Bool:=ka==kb || lQ ka kb
mutual
noncomputable def bh:Dt->Dt->Bool
 |.ax,.ax=>true
 |.bl a,.bl b=>a==b
 |.int a,.int b=>a==b
 |.bl a,.int b=>(if a then 1 else 0)==b
 |.int a,.bl b=>a==(if b then 1 else 0)
 |.str a,.str b=>a==b
 |.tup a,.tup b=>et a b
 |.lst a,.lst b=>et a b
 |.af a,.af b=>fg a b
 |_,_=>false
noncomputable def et:List Dt->List Dt->Bool
 | [],[]=>true
 |a::r,b::t=>bh a b&&et r t
 |_,_=>false
end
mutual
noncomputable def dep:Dt->Nat
 |.tup ds=>eU ds+1
 |.lst ds=>eU ds+1
 |.af _=>1
 |_=>0
noncomputable def eU:List Dt->Nat
 | []=>0
 |d::ds=>max (dep d) (eU ds)
end
mutual
noncomputable def sm:Dt->Prop
 |.str l=>l.length<=10000
 |.tup ds=>ds.length<=10000/\bj ds
 |.lst ds=>ds.length<=10000/\bj ds
 |.af kvs=>kvs.length<=10000/\∀p∈kvs,p.1.length<=10000/\p.2.length<=10000
 |_=>True
noncomputable def bj:List Dt->Prop
 | []=>True
 |d::ds=>sm d/\bj ds
end
theorem iy {d:Dt}:∀{ds:List Dt},bj ds->d∈ds->sm d
 |e::ds,h,hd=>by
  simp only [bj] at h;rcases aO.mp hd with z | z
  ·subst z; exact h.1
  ·exact iy h.2 z
theorem js:∀{ds:List Dt},(∀d∈ds,sm d)->bj ds
 | [],_=>by simp only [bj]
 |d::ds,h=>by
  simp only [bj];exact⟨h d bu,js λe he=>h e (bR _ he)⟩
theorem zv {a b:List Dt}(ha:bj a)(hb:bj b):bj (a++b):=js λd hd=>by
 rcases eJ.mp hd with h | h
 ·exact iy ha h
 ·exact iy hb h
inductive M (α:Type) where
 |ok (a:α) | ex (c:Nat) | bad
noncomputable def M.bd {α β:Type}:M α->(α->M β)->M β
 |.ok a,k=>k a
 |.ex c,_=>.ex c
 |.bad,_=>.bad
noncomputable def M.calm {α:Type}:M α->M α
 |.ex _=>.bad
 |m=>m
@[simp] theorem bt {α β:Type}(a:α)(k:α->M β):(M.ok a).bd k=k a:=.trans rfl rfl
@[simp] theorem afq {α β:Type}(c:Nat)(k:α->M β):(M.ex c).bd k=.ex c:=.trans rfl rfl
@[simp] theorem afr {α β:Type}(k:α->M β):(M.bad).bd k=.bad:=.trans rfl rfl
@[simp] theorem gK {α:Type}(a:α):(M.ok a).calm=.ok a:=.trans rfl rfl
@[simp] theorem ae7 {α:Type}:(M.bad:M α).calm=.bad:=.trans rfl rfl
theorem ajN {α β:Type}(c:Prop)[Decidable c](a b:M α)(k:α->M β):(if c then a else b).bd k=if c then a.bd k else b.bd k:=by split <;> rfl
inductive Bd where
 |no | val (d:Dt) | own (ds:List Dt) | bP (kvs:List (List Nat×List Nat))
 |jd (dn un:List Dt)
 |bor (p:Option Nat) (dn un:List Dt)
noncomputable abbrev aa:=List Bd
noncomputable def gv:Option Bd->M Dt
 |some (.val d)=>.ok d
 |_=>.bad
noncomputable def ae (i:Nat)(ρ:aa):M Dt:=gv ρ[i]?
noncomputable def gB (i:Nat)(d:Dt)(ρ:aa):aa:=ρ.set i (.val d)
noncomputable def CO:Option Bd->Bd
 |some (.val d)=>.val d
 |_=>.no
noncomputable def bT (k:Nat)(fr:List Nat)(ρ:aa):aa:=bM k .no++fr.map λj=>CO ρ[j]?
noncomputable def pC (d:Dt):aa->M Dt:=λ_=>.ok d
noncomputable def p2 (op:Dt->Dt->M Dt)(f g:aa->M Dt):aa->M Dt:=λρ=>(f ρ).bd λx=>(g ρ).bd λy=>op x y
noncomputable def p1 (op:Dt->M Dt)(f:aa->M Dt):aa->M Dt:=λρ=>(f ρ).bd op
noncomputable def kZ (l:List Nat):M Dt:=if l.length<=10000 then .ok (.str l) else .bad
noncomputable def fB (l:List Dt):M Dt:=if l.length<=10000 then .ok (.lst l) else .bad
noncomputable def bI:Dt->Dt->M Dt
 |.int a,.int b=>.ok (.int (a+b))
 |.str a,.str b=>kZ (a++b)
 |.lst a,.lst b=>fB (a++b)
 |_,_=>.bad
noncomputable def ZD:Dt->Dt->M Dt
 |.int a,.int b=>.ok (.int (a - b))
 |_,_=>.bad
noncomputable def zw (a:Int):Prop:=-(2 ^ 64)<a/\a<2 ^ 64
noncomputable instance (a:Int):Decidable (zw a):=by unfold zw; infer_instance
noncomputable def dY:Dt->Dt->M Dt
 |.int a,.int b=>if zw a∨zw b then .ok (.int (a * b)) else .bad
 |.str a,.int n=>if -1000<=n/\n<=1000/\a.length<=1000 then kZ (bM n.toNat a).flatten else .bad
 |_,_=>.bad
noncomputable def oMod:Dt->Dt->M Dt
 |.int a,.int b=>if 0<b then .ok (.int (a % b)) else .bad
 |_,_=>.bad
noncomputable def oDiv:Dt->Dt->M Dt
 |.int a,.int b=>if 0<b/\b<1073741824 then .ok (.int (a / b)) else .bad
 |_,_=>.bad
noncomputable def ZG:Dt->Dt->M Dt
 |.int a,.int b=>if 0<=b/\b<=1000/\a.natAbs<2 ^ 64 then .ok (.int (a ^ b.toNat)) else .bad
 |_,_=>.bad
noncomputable def ZE:Dt->Dt->M Dt
 |.int a,.int b=>if 0<=b then .ok (.int (a / 2 ^ b.toNat)) else .bad
 |_,_=>.bad
noncomputable def ZL:Dt->M Dt
 |.int a=>if 0<=a then .ok (.int (a % 2)) else .bad
 |_=>.bad
noncomputable def EJ:Dt->M Dt
 |.int a=>.ok (.int (-a))
 |_=>.bad
noncomputable def oLt:Dt->Dt->M Dt
 |.int a,.int b=>.ok (.bl (decide (a<b)))
 |_,_=>.bad
noncomputable def oLe:Dt->Dt->M Dt
 |.int a,.int b=>.ok (.bl (decide (a<=b)))
 |_,_=>.bad
noncomputable def v7:Dt->Dt->M Dt
 |.int a,.int b=>.ok (.bl (decide (b<a)))
 |_,_=>.bad
noncomputable def ZK:Dt->Dt->M Dt
 |.int a,.int b=>.ok (.bl (decide (b<=a)))
 |_,_=>.bad
noncomputable def oEq (a b:Dt):M Dt:=if dep a<=50 then .ok (.bl (bh a b)) else .bad
noncomputable def cA (a b:Dt):M Dt:=if dep a<=50 then .ok (.bl (!bh a b)) else .bad
noncomputable def lP:Dt->Bool
 |.ax=>true
 |.bl _=>true
 |.int _=>true
 |.str _=>true
 |_=>false
noncomputable def jw:Dt->Dt->M Dt
 |.str [c],.str l=>.ok (.bl (decide (c∈l)))
 |a,.lst ds=>if lP a=true/\ds.all lP=true then .ok (.bl (ds.any λd=>bh d a)) else .bad
 |a,.tup ds=>if lP a=true/\ds.all lP=true then .ok (.bl (ds.any λd=>bh d a)) else .bad
 |_,_=>.bad
noncomputable def sL:Dt->M Dt
 |.bl b=>.ok (.bl (!b))
 |_=>.bad
noncomputable def v3 (a b:Dt):M Dt:=(jw a b).bd sL
noncomputable def As:Dt->Bool
 |.ax=>true
 |_=>false
noncomputable def sN (a b:Dt):M Dt:=match b with
 |.ax=>.ok (.bl (As a))
 |.bl y=>(match a with | .bl x=>.ok (.bl (x==y)) | _=>.bad)
 |_=>.bad
noncomputable def lx (a b:Dt):M Dt:=(sN a b).bd sL
noncomputable def sU (n:Nat)(i:Int):Option Nat:=if 0<=i then (if i<n then some i.toNat else none) else if -(n:Int)<=i then some (i+n).toNat else none
noncomputable def d4 {α:Type}(xs:List α)(i:Int):Option α:=(sU xs.length i).bind λj=>xs[j]?
noncomputable def Ak:Option Nat->M Dt
 |some c=>.ok (.str [c])
 |none=>.bad
noncomputable def pR:Option Dt->M Dt
 |some d=>.ok d
 |none=>.bad
noncomputable def dh:Dt->Dt->M Dt
 |.str l,.int i=>Ak (d4 l i)
 |.lst l,.int i=>pR (d4 l i)
 |.tup l,.int i=>pR (d4 l i)
 |_,_=>.bad
noncomputable def sr (n d:Nat):Option Int->Nat
 |none=>d
 |some i=>if i<0 then (i+n).toNat else min i.toNat n
noncomputable def ig {α:Type}(l:List α)(lo hi:Option Int):List α:=(l.drop (sr l.length 0 lo)).take (sr l.length l.length hi - sr l.length 0 lo)
noncomputable def Mr (lo hi:Option Int):Dt->M Dt
 |.str l=>.ok (.str (ig l lo hi))
 |.lst l=>.ok (.lst (ig l lo hi))
 |_=>.bad
noncomputable def NY:Dt->M Int
 |.int i=>.ok i
 |_=>.bad
noncomputable def dX:Option (aa->M Dt)->aa->M (Option Int)
 |none,_=>.ok none
 |some f,ρ=>(f ρ).bd λd=>(NY d).bd λi=>.ok (some i)
noncomputable def kc (f:aa->M Dt)(lo hi:aa->M (Option Int)):aa->M Dt:=λρ=>(f ρ).bd λd=>(lo ρ).bd λa=>(hi ρ).bd λb=>Mr a b d
noncomputable def kW:Dt->M Bool
 |.bl b=>.ok b
 |_=>.bad
noncomputable def a6 (f:aa->M Dt):aa->M Bool:=λρ=>(f ρ).bd kW
noncomputable def C6 (f:aa->M Bool):aa->M Bool:=λρ=>(f ρ).bd λb=>.ok (!b)
noncomputable def mq (f g:aa->M Bool):aa->M Bool:=λρ=>(f ρ).bd λb=>if b=true then g ρ else .ok false
noncomputable def kY (f g:aa->M Bool):aa->M Bool:=λρ=>(f ρ).bd λb=>if b=true then .ok true else g ρ
noncomputable def vX (f g:aa->M Dt):aa->M Dt:=λρ=>(f ρ).bd λd=>(kW d).bd λb=>if b=true then g ρ else .ok (.bl false)
noncomputable def Ez (f g:aa->M Dt):aa->M Dt:=λρ=>(f ρ).bd λd=>(kW d).bd λb=>if b=true then .ok (.bl true) else g ρ
noncomputable def vV (c:aa->M Bool)(f g:aa->M Dt):aa->M Dt:=λρ=>(c ρ).bd λb=>if b=true then f ρ else g ρ
noncomputable def Yw (op d9:Dt->Dt->M Dt)(f g h:aa->M Dt):aa->M Dt:=λρ=>(f ρ).bd λx=>(g ρ).bd λy=>(op x y).bd λd=>(kW d).bd λb=>if b=true then (h ρ).bd λz=>d9 y z else .ok (.bl false)
noncomputable def av:aa->M (List Dt):=λ_=>.ok []
noncomputable def ah (f:aa->M Dt)(g:aa->M (List Dt)):aa->M (List Dt):=λρ=>(f ρ).bd λd=>(g ρ).bd λds=>.ok (d::ds)
noncomputable def gC (f:aa->M (List Dt)):aa->M Dt:=λρ=>(f ρ).bd λds=>fB ds
noncomputable def nS (f:aa->M (List Dt)):aa->M Dt:=λρ=>(f ρ).bd λds=>if ds.length<=10000 then .ok (.tup ds) else .bad
noncomputable def sv (ds:List Dt):Dt->M Dt
 |.int n=>if -1000<=n/\n<=1000/\ds.length * n.toNat<=10000 then .ok (.lst (bM n.toNat ds).flatten) else .bad
 |_=>.bad
noncomputable def Yt (f:aa->M (List Dt))(g:aa->M Dt):aa->M Dt:=λρ=>(f ρ).bd λds=>if ds.length<=10000 then (g ρ).bd (sv ds) else .bad
noncomputable def aG (F:List Dt->M Dt)(f:aa->M (List Dt)):aa->M Dt:=λρ=>(f ρ).bd F
noncomputable def eF:List Dt->M Dt
 | [.str l]=>.ok (.int l.length)
 | [.lst l]=>.ok (.int l.length)
 | [.tup l]=>.ok (.int l.length)
 |_=>.bad
noncomputable def afu:List Dt->M Dt
 | [.int i,.int j]=>.ok (.int (if j<i then j else i))
 |_=>.bad
noncomputable def afv:List Dt->M Dt
 | [.int i,.int j]=>.ok (.int (if j > i then j else i))
 |_=>.bad
noncomputable def bools:List Dt->Option (List Bool)
 | []=>some []
 |.bl b::r=>(bools r).map (b :: ·)
 |_=>none
noncomputable def uw (k:List Bool->Bool):Option (List Bool)->M Dt
 |some bs=>.ok (.bl (k bs))
 |none=>.bad
noncomputable def ux:List Dt->M Dt
 | [.lst l]=>uw (λbs=>bs.all id) (bools l)
 |_=>.bad
noncomputable def afw:List Dt->M Dt
 | [.lst l]=>uw (λbs=>bs.any id) (bools l)
 |_=>.bad
noncomputable def cL (l:List Nat):List Dt:=l.map λc=>.str [c]
noncomputable def Q4:List Dt->M Dt
 | [.lst l]=>.ok (.lst l)
 | [.tup l]=>.ok (.lst l)
 | [.str l]=>.ok (.lst (cL l))
 |_=>.bad
noncomputable def Q5:List Dt->M Dt
 | [.int i]=>.ok (.int i)
 | [.bl b]=>.ok (.int (if b then 1 else 0))
 | [.str [c]]=>if 48<=c/\c<=57 then .ok (.int ((c:Int) - 48)) else .bad
 |_=>.bad
noncomputable def aft:List Dt->M Dt
 | [.int i]=>if 0<=i/\i<=9 then .ok (.str [48+i.toNat]) else .bad
 |_=>.bad
noncomputable def e9:List Dt->Option (List (List Nat))
 | []=>some []
 |.str l::r=>(e9 r).map (l :: ·)
 |_=>none
noncomputable abbrev Sel:=Dt->Option (List Dt->M Dt)
noncomputable def Aj:Option (List (List Nat))->M Dt
 |some ls=>kZ ls.flatten
 |none=>.bad
noncomputable def joinM:List Dt->M Dt
 | [.lst ds]=>Aj (e9 ds)
 |_=>.bad
noncomputable def sS:Sel
 |.str []=>some joinM
 |_=>none
noncomputable def Bl (l:List Nat):List Dt->M Dt
 | [.str [c]]=>.ok (.int (l.count c))
 |_=>.bad
noncomputable def pL:Sel
 |.str l=>some (Bl l)
 |_=>none
noncomputable def pK:Option (List Dt->M Dt)->M (List Dt)->M Dt
 |some k,m=>m.bd k
 |none,_=>.bad
noncomputable def nU (m:Sel)(f:aa->M Dt)(g:aa->M (List Dt)):aa->M Dt:=λρ=>(f ρ).bd λd=>pK (m d) (g ρ)
noncomputable abbrev IM:=aa->M (List Dt)
noncomputable def dI:Dt->M (List Dt)
 |.lst l=>.ok l
 |.tup l=>.ok l
 |.str l=>.ok (cL l)
 |_=>.bad
noncomputable def g8 (f:aa->M Dt):IM:=λρ=>(f ρ).bd dI
noncomputable def dz (lo hi:Int):List Dt:=(bf (hi - lo).toNat).map fun(k:Nat)=>.int (lo+(k:Nat))
noncomputable def pq:List Dt->M (List Dt)
 | [.int n]=>if -1000000<=n/\n<=10000 then .ok (dz 0 n) else .bad
 |_=>.bad
noncomputable def zJ:List Dt->M (List Dt)
 | [.int a,.int b]=>if -1000000<=a/\a<=1000000/\-1000000<=b/\b<=1000000/\b - a<=10000 then .ok (dz a b) else .bad
 |_=>.bad
noncomputable def iQ (a b:List Dt):List Dt:=(a.zip b).map λp=>.tup [p.1,p.2]
noncomputable def Sd:List Dt->M (List Dt)
 | [x,y]=>(dI x).bd λa=>(dI y).bd λb=>.ok (iQ a b)
 |_=>.bad
noncomputable def Ct (a b c:List Dt):List Dt:=(a.zip (b.zip c)).map λp=>.tup [p.1,p.2.1,p.2.2]
noncomputable def Sb:List Dt->M (List Dt)
 | [x,y,z]=>(dI x).bd λa=>(dI y).bd λb=>(dI z).bd λc=>.ok (Ct a b c)
 |_=>.bad
noncomputable def f9 (a:List Dt):List Dt:=(bf a.length).zipWith (fun(i:Nat) d=>.tup [.int (i:Nat),d]) a
noncomputable def aee:List Dt->M (List Dt)
 | [x]=>(dI x).bd λa=>.ok (f9 a)
 |_=>.bad
noncomputable def W0:List Dt->M (List Dt)
 | [x]=>(dI x).bd λa=>.ok a.reverse
 |_=>.bad
noncomputable def fH (k:List Dt->M (List Dt))(f:aa->M (List Dt)):IM:=λρ=>(f ρ).bd k
noncomputable abbrev GM:=Dt->aa->M aa
noncomputable def aw (i:Nat):GM:=λd ρ=>.ok (gB i d ρ)
noncomputable def dj:List Dt->aa->M aa
 | [],ρ=>.ok ρ
 |_,_=>.bad
noncomputable def bp (g:GM)(gs:List Dt->aa->M aa):List Dt->aa->M aa
 |d::ds,ρ=>(g d ρ).bd λaP=>gs ds aP
 |_,_=>.bad
noncomputable def cH (n:Nat)(gs:List Dt->aa->M aa):GM
 |.tup ds,ρ=>if ds.length=n then gs ds ρ else .bad
 |.lst ds,ρ=>if ds.length=n then gs ds ρ else .bad
 |_,_=>.bad
noncomputable def fi (g:GM)(tc:aa->M Bool)(te:aa->M Dt)(ρ0:aa):List Dt->M (List Dt)
 | []=>.ok []
 |d::ds=>(g d ρ0).bd λaP=>(tc aP).bd λb=>if b=true then (te aP).bd λx=>(fi g tc te ρ0 ds).bd λxs=>.ok (x::xs) else fi g tc te ρ0 ds
noncomputable def dU:aa->M Bool:=λ_=>.ok true
noncomputable def dg (k:Nat)(fr:List Nat)(it:IM)(g:GM)(tc:aa->M Bool)(te:aa->M Dt):aa->M Dt:=λρ=>(it ρ).bd λds=>(fi g tc te (bT k fr ρ) ds).calm.bd fB
inductive Fl where
 |nx (ρ:aa) | rt (d:Dt) | bk (ρ:aa) | ct (ρ:aa)
noncomputable abbrev SM:=aa->M Fl
noncomputable def eN:SM:=λρ=>.ok (.nx ρ)
noncomputable def sj (t:SM):Fl->M Fl
 |.nx ρ=>t ρ
 |f=>.ok f
noncomputable def aU (s t:SM):SM:=λρ=>(s ρ).bd (sj t)
noncomputable def bN (f:aa->M Dt):SM:=λρ=>(f ρ).bd λd=>.ok (.rt d)
noncomputable def vH (f:aa->M Dt):SM:=λρ=>(f ρ).bd λ_=>.ok (.nx ρ)
noncomputable def bU (f:aa->M Dt)(g:GM):SM:=λρ=>(f ρ).bd λd=>(g d ρ).calm.bd λaW=>.ok (.nx aW)
noncomputable def HF (i:Nat)(ρ:aa)(n:Int):Dt->M Fl
 |.int k=>.ok (.nx (gB i (.int (n+k)) ρ))
 |_=>.bad
noncomputable def HE (i:Nat)(f:aa->M Dt)(ρ:aa):Option Bd->M Fl
 |some (.val (.int n))=>(f ρ).bd (HF i ρ n)
 |_=>.bad
noncomputable def Wn (i:Nat)(f:aa->M Dt):SM:=λρ=>HE i f ρ ρ[i]?
noncomputable def d8 (c:aa->M Bool)(s t:SM):SM:=λρ=>(c ρ).bd λb=>if b=true then s ρ else t ρ
noncomputable def fork (k:SM):Fl->M Fl
 |.nx ρ=>k ρ
 |.ct ρ=>k ρ
 |.bk ρ=>.ok (.nx ρ)
 |.rt d=>.ok (.rt d)
noncomputable def d3 (g:GM)(b:SM):List Dt->SM
 | [],ρ=>.ok (.nx ρ)
 |d::ds,ρ=>(g d ρ).calm.bd λaP=>(b aP).calm.bd (fork (d3 g b ds))
noncomputable def D9 (it:IM)(g:GM)(b:SM):SM:=λρ=>(it ρ).bd λds=>d3 g b ds ρ
noncomputable def zE (i:Nat)(f:aa->M (List Dt)):SM:=λρ=>(f ρ).bd λds=>if ds.length<=10000 then .ok (.nx (ρ.set i (.own ds))) else .bad
noncomputable def pA (i:Nat)(ρ:aa):Option Bd->aa
 |some (.own ds)=>ρ.set i (.val (.lst ds))
 |some (.bP kvs)=>ρ.set i (.val (.af kvs))
 |_=>ρ
noncomputable def rel (i:Nat)(ρ:aa):aa:=pA i ρ ρ[i]?
noncomputable def nM (i:Nat)(s:SM):SM:=λρ=>s (rel i ρ)
noncomputable def HH (i:Nat)(f:aa->M Dt)(ρ:aa):Option Bd->M Fl
 |some (.own ds)=>(f ρ).bd λd=>if ds.length<10000 then .ok (.nx (ρ.set i (.own (ds++[d])))) else .bad
 |_=>.bad
noncomputable def Wo (i:Nat)(f:aa->M Dt):SM:=λρ=>HH i f ρ ρ[i]?
noncomputable def lg (it:IM)(g:GM)(b:SM):SM:=λρ=>(D9 it g b ρ).calm
noncomputable def Ew (i j:Nat)(ρ:aa):List Dt->M Fl
 | [d,e]=>.ok (.nx (gB j e (gB i d ρ)))
 |_=>.bad
noncomputable def Wj (i j:Nat)(f:aa->M (List Dt)):SM:=λρ=>(f ρ).bd (Ew i j ρ)
noncomputable def CV (f:aa->M Dt):aa->M Unit:=λρ=>(f ρ).bd λ_=>.ok ()
noncomputable def y4:Dt->M Unit
 |.int i=>if -2<=i/\i<=20 then .ok () else .bad
 |_=>.bad
noncomputable def CY (f:aa->M Dt):aa->M Unit:=λρ=>(f ρ).bd y4
noncomputable def so (c:Nat)(f:aa->M Unit):SM:=λρ=>(f ρ).bd λ_=>.ex c
noncomputable def kQ (j:Nat):List Nat:=[[99,108,97,115,104],[110,111,32,110,97,109,101],[110,111,32,116,101,120,116],[110,111,32,116,105,99,107],[110,111,32,119,97,118,101],[116,111,111,32,108,111,110,103],[117,110,108,105,107,101]].getD j []
noncomputable def zb (cs:List Nat)(i:Nat):M Fl->M Fl
 |.ok (.nx ρ)=>(ae i ρ).bd λd=>.ok (.rt d)
 |.ex c=>if c∈cs then .ok (.rt (.str (kQ c))) else .bad
 |_=>.bad
noncomputable def Wi (cs:List Nat)(i:Nat)(b:SM):SM:=λρ=>zb cs i (b ρ)
noncomputable def Bk:List (List Nat×Dt)->Dt->M Dt
 | [],_=>.bad
 | (k,v)::r,d=>match d with | .str l=>if l=k then .ok v else Bk r d | _=>.bad
noncomputable def Yv (ks:List (List Nat))(f:aa->M (List Dt))(g:aa->M Dt):aa->M Dt:=λρ=>(f ρ).bd λvs=>(g ρ).bd λd=>Bk (ks.zip vs) d
noncomputable def ZF:Dt->M Dt
 |.str l=>.ok (.str l.reverse)
 |_=>.bad
noncomputable def Er (Fs:List (List Dt->M Dt)):Dt->Option (List Dt->M Dt)
 |.int k=>if 0<=k then Fs[k.toNat]? else none
 |_=>none
noncomputable def Yu (Fs:List (List Dt->M Dt))(i:aa->M Dt)(f:aa->M (List Dt)):aa->M Dt:=λρ=>(i ρ).bd λd=>pK (Er Fs d) (f ρ)
noncomputable def A6:Fl->M Dt
 |.nx _=>.ok .ax
 |.rt d=>.ok d
 |_=>.bad
noncomputable def cu (np n:Nat)(b:SM):List Dt->M Dt:=λds=>if ds.length=np then (b (ds.map Bd.val++bM n .no)).bd A6 else .bad
noncomputable def jy:Dt->M (List Dt)
 |.lst l=>.ok l
 |_=>.bad
noncomputable def Sa:List Dt->M (List Dt)
 | [x,y]=>(jy x).bd λa=>(jy y).bd λb=>.ok (iQ a b)
 |_=>.bad
noncomputable def ix:Dt->M (List Dt)
 |.lst l=>.ok l
 |.str l=>.ok (cL l)
 |_=>.bad
noncomputable def vi:List Dt->M (List Dt)
 | [x,y]=>(ix x).bd λa=>(ix y).bd λb=>.ok (iQ a b)
 |_=>.bad
noncomputable def tR:List Dt->M (List Dt)
 | [x]=>(ix x).bd λa=>.ok (f9 a)
 |_=>.bad
noncomputable def vp (cs:List Nat)(k i:Nat):M Fl->M Fl
 |.ok (.nx ρ)=>(match gv ρ[k]? with | .ok .ax=>(ae i ρ).bd (λd=>.ok (.rt d)) | _=>.bad)
 |.ex c=>if c∈cs then .ok (.rt (.str (kQ c))) else .bad
 |_=>.bad
noncomputable def zD (cs:List Nat)(k i:Nat)(b:SM):SM:=λρ=>vp cs k i (b (gB i .ax (gB k .ax ρ)))
noncomputable def zL:List Dt->M (List Dt)
 | [.str l]=>.ok (cL l).reverse
 |_=>.bad
noncomputable def vE:Dt->Bool
 |.int i=>decide (-2<=i)&&decide (i<=20)
 |_=>false
noncomputable def y0:Dt->M Unit
 |.lst ds=>if ds.length<=50/\ds.all vE=true then .ok () else .bad
 |_=>.bad
noncomputable def CW (f:aa->M Dt):aa->M Unit:=λρ=>(f ρ).bd y0
end L2
namespace Pg
open L2
noncomputable def Jy:SM:=(aU (d8 (a6 (p2 oLt (ae 1) (aG eF (ah (ae 0) av)))) (bN (p2 dh (ae 0) (ae 1))) eN)
 (aU (d8 (a6 (p2 oEq (ae 0) (gC av))) (bN (pC (.int 0))) eN)
 (bN (p2 bI (p2 dY (p2 dh (ae 0) (p2 oMod (ae 1) (aG eF (ah (ae 0) av)))) (pC (.int 31))) (ae 1)))))
noncomputable def BJ:List Dt->M Dt:=cu 2 0 Jy
noncomputable def Jv:SM:=(aU (bU (p2 oMod (p2 dY (p2 bI (aG BJ (ah (ae 0) (ah (ae 1) av))) (p2 dY (pC (.int 6151)) (p2 bI (ae 1) (pC (.int 1))))) (pC (.int 40692))) (pC (.int 2147483399))) (aw 3))
 (bN (p2 oMod (p2 oMod (p2 bI (p2 dY (ae 3) (ae 3)) (p2 oDiv (ae 3) (pC (.int 31)))) (pC (.int 2147483629))) (ae 2))))
noncomputable def jj:List Dt->M Dt:=cu 3 1 Jv
noncomputable def RU:SM:=(d8 (a6 (p2 oEq (aG jj (ah (ae 0) (ah (p2 bI (ae 1) (p2 dY (pC (.int 2)) (ae 5))) (ah (pC (.int 2)) av)))) (pC (.int 0)))) (bU (p2 bI (ae 4) (p2 dh (ae 4) (p1 EJ (pC (.int 1))))) (aw 4)) (bU (p2 bI (ae 4) (p2 dh (ae 3) (aG jj (ah (ae 0) (ah (p2 bI (p2 bI (ae 1) (p2 dY (pC (.int 2)) (ae 5))) (pC (.int 1))) (ah (aG eF (ah (ae 3) av)) av)))))) (aw 4)))
noncomputable def Js:SM:=(aU (bU (p2 dh (ae 3) (aG jj (ah (ae 0) (ah (ae 1) (ah (aG eF (ah (ae 3) av)) av))))) (aw 4))
 (aU (lg (fH zJ (ah (pC (.int 1)) (ah (ae 2) av))) (aw 5) RU)
 (bN (ae 4))))
noncomputable def BH:List Dt->M Dt:=cu 4 2 Js
noncomputable def Jl:SM:=(bN (aG ux (ah (dg 1 [0] (g8 (ae 0)) (aw 0) dU (p2 oEq (aG eF (ah (ae 0) av)) (aG eF (ah (p2 dh (ae 1) (pC (.int 0))) av)))) av)))
noncomputable def BD:List Dt->M Dt:=cu 1 0 Jl
noncomputable def BM:SM:=(d8 (C6 (a6 (aG BD (ah (ae 0) av)))) (so 6 (CV (pC (.str [116,104,101,32,119,97,118,101,115,32,104,97,118,101,32,117,110,108,105,107,101,32,108,101,110,103,116,104,115])))) eN)
noncomputable def kD:List Dt->M Dt:=cu 1 0 BM
noncomputable def IU:SM:=(aU (bU (aG jj (ah (ae 0) (ah (p2 bI (p2 bI (ae 1) (pC (.int 41))) (ae 5)) (ah (ae 2) av)))) (aw 6))
 (bU (p2 bI (p2 bI (kc (ae 4) (dX none) (dX (some (ae 6)))) (pC (.str [120]))) (kc (ae 4) (dX (some (p2 bI (ae 6) (pC (.int 1))))) (dX none))) (aw 4)))
noncomputable def Ju:SM:=(aU (bU (aG BH (ah (ae 0) (ah (ae 1) (ah (ae 2) (ah (pC (.str [48,49])) av))))) (aw 4))
 (aU (lg (fH pq (ah (aG jj (ah (ae 0) (ah (p2 bI (ae 1) (pC (.int 40))) (ah (p2 bI (ae 3) (pC (.int 1))) av)))) av)) (aw 5) IU)
 (bN (ae 4))))
noncomputable def BI:List Dt->M Dt:=cu 4 3 Ju
noncomputable def Jg:SM:=(aU (d8 (a6 (p2 oEq (ae 0) (pC (.str [120])))) (bN (p2 bI (aG (λ_=>.bad) (ah (pC (.str [48])) (ah (ae 1) av))) (aG (λ_=>.bad) (ah (pC (.str [49])) (ah (ae 1) av))))) eN)
 (bN (dg 1 [0] (g8 (ae 1)) (aw 0) dU (p2 bI (ae 1) (ae 0)))))
noncomputable def x5:List Dt->M Dt:=cu 2 0 Jg
noncomputable def Jh:SM:=(aU (d8 (a6 (p2 oEq (ae 0) (pC (.str [120])))) (bN (p2 bI (aG x5 (ah (pC (.str [48])) (ah (ae 1) av))) (aG x5 (ah (pC (.str [49])) (ah (ae 1) av))))) eN)
 (bN (dg 1 [0] (g8 (ae 1)) (aw 0) dU (p2 bI (ae 1) (ae 0)))))
noncomputable def BC:List Dt->M Dt:=cu 2 0 Jh
noncomputable def RV:SM:=(bU (aG BC (ah (ae 2) (ah (ae 1) av))) (aw 1))
noncomputable def Jr:SM:=(aU (d8 (a6 (p2 v7 (nU pL (ae 0) (ah (pC (.str [120])) av)) (pC (.int 6)))) (so 5 (CY (pC (.int 6)))) eN)
 (aU (bU (gC (ah (pC (.str [])) av)) (aw 1))
 (aU (lg (fH zL (ah (ae 0) av)) (aw 2) RV)
 (bN (ae 1)))))
noncomputable def uG:List Dt->M Dt:=cu 1 2 Jr
noncomputable def Jo:SM:=(aU (vH (aG kD (ah (gC (ah (ae 0) (ah (ae 1) av))) av)))
 (bN (aG ux (ah (dg 2 [] (fH vi (ah (ae 0) (ah (ae 1) av))) (cH 2 (bp (aw 0) (bp (aw 1) dj))) dU (Ez (p2 oEq (ae 0) (pC (.str [120]))) (p2 oEq (ae 0) (ae 1)))) av))))
noncomputable def BE:List Dt->M Dt:=cu 2 0 Jo
noncomputable def Jq:SM:=(bN (vX (p2 cA (ae 0) (ae 1)) (vX (p2 cA (ae 0) (pC (.str [120]))) (p2 cA (ae 1) (pC (.str [120]))))))
noncomputable def BG:List Dt->M Dt:=cu 2 0 Jq
noncomputable def Jp:SM:=(aU (vH (aG kD (ah (gC (ah (ae 0) (ah (ae 1) av))) av)))
 (bN (dg 1 [0,1] (fH pq (ah (aG eF (ah (ae 0) av)) av)) (aw 0) (a6 (aG BG (ah (p2 dh (ae 1) (ae 0)) (ah (p2 dh (ae 2) (ae 0)) av)))) (ae 0))))
noncomputable def BF:List Dt->M Dt:=cu 2 0 Jp
noncomputable def BN:SM:=(aU (bU (aG BF (ah (ae 0) (ah (ae 1) av))) (aw 2))
 (aU (d8 (a6 (p2 v7 (aG eF (ah (ae 2) av)) (pC (.int 0)))) (so 0 (CW (ae 2))) eN)
 (bN (nU sS (pC (.str [])) (ah (dg 2 [] (fH vi (ah (ae 0) (ah (ae 1) av))) (cH 2 (bp (aw 0) (bp (aw 1) dj))) dU (vV (a6 (p2 oEq (ae 0) (pC (.str [120])))) (ae 1) (ae 0))) av)))))
noncomputable def uE:List Dt->M Dt:=cu 2 1 BN
end Pg
namespace L2
noncomputable def br {α:Type}(b:Bool)(x y:M α):M α:=if b=true then x else y
theorem afh {α:Type}{x y:M α}:br true x y=x:=.trans rfl rfl
theorem afi {α:Type}{x y:M α}:br false x y=y:=.trans rfl rfl
noncomputable def ck {α:Type}(p:Prop)[Decidable p](x:M α):M α:=if p then x else .bad
theorem ae3 {α:Type}{x:M α}{i:Decidable True}:@ck α True i x=x:=if_pos trivial
theorem cI {α:Type}{p:Prop}[Decidable p]{x:M α}(h:p):ck p x=x:=if_pos h
noncomputable def k2 (op:Dt->Dt->M Dt)(g:aa->M Dt)(ρ:aa)(x:Dt):M Dt:=(g ρ).bd (op x)
noncomputable def Af (d:Dt)(a b:Option Int):M Dt:=Mr a b d
noncomputable def E5 (hi:aa->M (Option Int))(ρ:aa)(d:Dt)(a:Option Int):M Dt:=(hi ρ).bd (Af d a)
noncomputable def Nf (lo hi:aa->M (Option Int))(ρ:aa)(d:Dt):M Dt:=(lo ρ).bd (E5 hi ρ d)
noncomputable def Nn (b:Bool):M Bool:=.ok (!b)
noncomputable def Fg (g:aa->M Bool)(ρ:aa)(b:Bool):M Bool:=if b=true then g ρ else .ok false
noncomputable def E6 (g:aa->M Bool)(ρ:aa)(b:Bool):M Bool:=if b=true then .ok true else g ρ
noncomputable def Ah (g:aa->M Dt)(ρ:aa)(b:Bool):M Dt:=if b=true then g ρ else .ok (.bl false)
noncomputable def Nk (g:aa->M Dt)(ρ:aa)(d:Dt):M Dt:=(kW d).bd (Ah g ρ)
noncomputable def Ag (g:aa->M Dt)(ρ:aa)(b:Bool):M Dt:=if b=true then .ok (.bl true) else g ρ
noncomputable def Nj (g:aa->M Dt)(ρ:aa)(d:Dt):M Dt:=(kW d).bd (Ag g ρ)
noncomputable def E8 (f g:aa->M Dt)(ρ:aa)(b:Bool):M Dt:=if b=true then f ρ else g ρ
noncomputable def Ai (d9:Dt->Dt->M Dt)(h:aa->M Dt)(ρ:aa)(y:Dt)(b:Bool):M Dt:=if b=true then (h ρ).bd (d9 y) else .ok (.bl false)
noncomputable def Fe (d9:Dt->Dt->M Dt)(h:aa->M Dt)(ρ:aa)(y d:Dt):M Dt:=(kW d).bd (Ai d9 h ρ y)
noncomputable def Ff (op d9:Dt->Dt->M Dt)(h:aa->M Dt)(ρ:aa)(x y:Dt):M Dt:=(op x y).bd (Fe d9 h ρ y)
noncomputable def ND (op d9:Dt->Dt->M Dt)(g h:aa->M Dt)(ρ:aa)(x:Dt):M Dt:=(g ρ).bd (Ff op d9 h ρ x)
noncomputable def Fh (d:Dt)(ds:List Dt):M (List Dt):=.ok (d::ds)
noncomputable def NH (fs:aa->M (List Dt))(ρ:aa)(d:Dt):M (List Dt):=(fs ρ).bd (Fh d)
noncomputable def kT (ds:List Dt):M Dt:=ck (ds.length<=10000) (.ok (.tup ds))
noncomputable def kR (g:aa->M Dt)(ρ:aa)(ds:List Dt):M Dt:=ck (ds.length<=10000) ((g ρ).bd (sv ds))
noncomputable def kM (m:Sel)(fs:aa->M (List Dt))(ρ:aa)(d:Dt):M Dt:=pK (m d) (fs ρ)
noncomputable def kP (Fs:List (List Dt->M Dt))(fs:aa->M (List Dt))(ρ:aa)(d:Dt):M Dt:=pK (Er Fs d) (fs ρ)
noncomputable def dC (k:Nat)(fr:List Nat)(g:GM)(tc:aa->M Bool)(te:aa->M Dt)(ρ:aa)(ds:List Dt):M Dt:=(fi g tc te (bT k fr ρ) ds).calm.bd fB
noncomputable def wD (d:Dt):M Fl:=.ok (.rt d)
noncomputable def NA (ρ:aa)(_:Dt):M Fl:=.ok (.nx ρ)
noncomputable def E7 (ρ:aa):M Fl:=.ok (.nx ρ)
noncomputable def NF (g:GM)(ρ:aa)(d:Dt):M Fl:=(g d ρ).calm.bd E7
noncomputable def E4 (s t:SM)(ρ:aa)(b:Bool):M Fl:=if b=true then s ρ else t ρ
noncomputable def Ny (g:GM)(s:SM)(ρ:aa)(ds:List Dt):M Fl:=d3 g s ds ρ
noncomputable def Nl (i:Nat)(ρ:aa)(ds:List Dt):M Fl:=ck (ds.length<=10000) (.ok (.nx (ρ.set i (.own ds))))
noncomputable def NG (i:Nat)(ρ:aa)(ds:List Dt)(d:Dt):M Fl:=ck (ds.length<10000) (.ok (.nx (ρ.set i (.own (ds++[d])))))
noncomputable def kU (_:Dt):M Unit:=.ok ()
noncomputable def Ng (c:Nat)(_:Unit):M Fl:=.ex c
noncomputable def Nz (s k:SM)(ρ:aa):M Fl:=(s ρ).calm.bd (fork k)
noncomputable def mG (i:Int):M (Option Int):=.ok (some i)
noncomputable def Ni (d:Dt):M (Option Int):=(NY d).bd mG
noncomputable def pO (a b:List Dt):M (List Dt):=.ok (iQ a b)
noncomputable def M9 (y:Dt)(a:List Dt):M (List Dt):=(dI y).bd (pO a)
noncomputable def EZ (a b c:List Dt):M (List Dt):=.ok (Ct a b c)
noncomputable def E1 (z:Dt)(a b:List Dt):M (List Dt):=(dI z).bd (EZ a b)
noncomputable def Na (y z:Dt)(a:List Dt):M (List Dt):=(dI y).bd (E1 z a)
noncomputable def Nq (y:Dt)(a:List Dt):M (List Dt):=(jy y).bd (pO a)
noncomputable def Fc (a:List Dt):M (List Dt):=.ok (f9 a)
noncomputable def Nh (a:List Dt):M (List Dt):=.ok a.reverse
noncomputable def Fd (ks:List (List Nat))(vs:List Dt)(d:Dt):M Dt:=Bk (ks.zip vs) d
noncomputable def NC (ks:List (List Nat))(g:aa->M Dt)(ρ:aa)(vs:List Dt):M Dt:=(g ρ).bd (Fd ks vs)
section
variable {ρ:aa}{f g h:aa->M Dt}{tf tg:aa->M Bool}{fs:aa->M (List Dt)}{s t:SM}{d e x y z:Dt}{ds es OT:List Dt}{i j n k np c:Nat}{a b:Int}{l m:List Nat}{p q:Bool}{op d9:Dt->Dt->M Dt}{lo hi:aa->M (Option Int)}{gm:GM}{gs:List Dt->aa->M aa}{o o':Option Int}{F:List Dt->M Dt}{it:IM}{kk:List Dt->M (List Dt)}{sl:Sel}
theorem aio:ae i ρ=gv ρ[i]?:=.trans rfl rfl
theorem aim:gv (some (.val d))=.ok d:=.trans rfl rfl
theorem Ro:pC d ρ=.ok d:=.trans rfl rfl
theorem agU:p2 op f g ρ=(f ρ).bd (k2 op g ρ):=.trans rfl rfl
theorem ah5:k2 op g ρ x=(g ρ).bd (op x):=.trans rfl rfl
theorem agV {op:Dt->M Dt}:p1 op f ρ=(f ρ).bd op:=.trans rfl rfl
theorem agI:kc f lo hi ρ=(f ρ).bd (Nf lo hi ρ):=.trans rfl rfl
theorem aht:Nf lo hi ρ d=(lo ρ).bd (E5 hi ρ d):=.trans rfl rfl
theorem ahs:E5 hi ρ d o=(hi ρ).bd (Af d o):=.trans rfl rfl
theorem ahr:Af (.str l) o o'=.ok (.str (ig l o o')):=.trans rfl rfl
theorem ahq:Af (.lst ds) o o'=.ok (.lst (ig ds o o')):=.trans rfl rfl
theorem agF:dX none ρ=.ok none:=.trans rfl rfl
theorem agE:dX (some f) ρ=(f ρ).bd Ni:=.trans rfl rfl
theorem ahy:Ni (.int a)=.ok (some a):=.trans rfl rfl
theorem af4:a6 f ρ=(f ρ).bd kW:=.trans rfl rfl
theorem af1:kW (.bl p)=.ok p:=.trans rfl rfl
theorem af5:C6 tf ρ=(tf ρ).bd Nn:=.trans rfl rfl
theorem ahK:Nn p=.ok (!p):=.trans rfl rfl
theorem af6:mq tf tg ρ=(tf ρ).bd (Fg tg ρ):=.trans rfl rfl
theorem ah1:Fg tg ρ true=tg ρ:=.trans rfl rfl
theorem ah2:Fg tg ρ false=.ok false:=.trans rfl rfl
theorem af3:kY tf tg ρ=(tf ρ).bd (E6 tg ρ):=.trans rfl rfl
theorem ahH:E6 tg ρ true=.ok true:=.trans rfl rfl
theorem ahI:E6 tg ρ false=tg ρ:=.trans rfl rfl
theorem agT:vX f g ρ=(f ρ).bd (Nk g ρ):=.trans rfl rfl
theorem ahE:Nk g ρ (.bl p)=Ah g ρ p:=.trans rfl rfl
theorem ahC:Ah g ρ true=g ρ:=.trans rfl rfl
theorem ahD:Ah g ρ false=.ok (.bl false):=.trans rfl rfl
theorem agL:Ez f g ρ=(f ρ).bd (Nj g ρ):=.trans rfl rfl
theorem ahB:Nj g ρ (.bl p)=Ag g ρ p:=.trans rfl rfl
theorem ahz:Ag g ρ true=.ok (.bl true):=.trans rfl rfl
theorem ahA:Ag g ρ false=g ρ:=.trans rfl rfl
theorem agO:vV tf f g ρ=(tf ρ).bd (E8 f g ρ):=.trans rfl rfl
theorem ahN:E8 f g ρ true=f ρ:=.trans rfl rfl
theorem ahO:E8 f g ρ false=g ρ:=.trans rfl rfl
theorem agR:Yw op d9 f g h ρ=(f ρ).bd (ND op d9 g h ρ):=.trans rfl rfl
theorem ahY:ND op d9 g h ρ x=(g ρ).bd (Ff op d9 h ρ x):=.trans rfl rfl
theorem ahX:Ff op d9 h ρ x y=(op x y).bd (Fe d9 h ρ y):=.trans rfl rfl
theorem ahW:Fe d9 h ρ y (.bl p)=Ai d9 h ρ y p:=.trans rfl rfl
theorem ahU:Ai d9 h ρ y true=(h ρ).bd (d9 y):=.trans rfl rfl
theorem ahV:Ai d9 h ρ y false=.ok (.bl false):=.trans rfl rfl
theorem aiR:av ρ=.ok []:=.trans rfl rfl
theorem aiS:ah f fs ρ=(f ρ).bd (NH fs ρ):=.trans rfl rfl
theorem ah4:NH fs ρ d=(fs ρ).bd (Fh d):=.trans rfl rfl
theorem ah3:Fh d ds=.ok (d::ds):=.trans rfl rfl
theorem agN:gC fs ρ=(fs ρ).bd fB:=.trans rfl rfl
theorem agH:nS fs ρ=(fs ρ).bd kT:=.trans rfl rfl
theorem ahn:kT ds=ck (ds.length<=10000) (.ok (.tup ds)):=.trans rfl rfl
theorem agJ:Yt fs g ρ=(fs ρ).bd (kR g ρ):=.trans rfl rfl
theorem ahx:kR g ρ ds=ck (ds.length<=10000) ((g ρ).bd (sv ds)):=.trans rfl rfl
theorem agz:sv ds (.int a)=ck (-1000<=a/\a<=1000/\ds.length * a.toNat<=10000) (.ok (.lst (bM a.toNat ds).flatten)):=.trans rfl rfl
theorem agS:aG F fs ρ=(fs ρ).bd F:=.trans rfl rfl
theorem agM:nU sl f fs ρ=(f ρ).bd (kM sl fs ρ):=.trans rfl rfl
theorem ahL:kM sl fs ρ d=pK (sl d) (fs ρ):=.trans rfl rfl
theorem agK {Fs:List (List Dt->M Dt)}:Yu Fs f fs ρ=(f ρ).bd (kP Fs fs ρ):=.trans rfl rfl
theorem ahF {Fs:List (List Dt->M Dt)}:kP Fs fs ρ d=pK (Er Fs d) (fs ρ):=.trans rfl rfl
theorem ag3 {k:List Dt->M Dt}{m:M (List Dt)}:pK (some k) m=m.bd k:=.trans rfl rfl
theorem aik:g8 f ρ=(f ρ).bd dI:=.trans rfl rfl
theorem ail:fH kk fs ρ=(fs ρ).bd kk:=.trans rfl rfl
theorem ait:aw i d ρ=.ok (ρ.set i (.val d)):=.trans rfl rfl
theorem aiq:dj [] ρ=.ok ρ:=.trans rfl rfl
theorem air:bp gm gs (d::ds) ρ=(gm d ρ).bd (gs ds):=.trans rfl rfl
theorem Rq:cH n gs (.tup ds) ρ=ck (ds.length=n) (gs ds ρ):=.trans rfl rfl
theorem ais:cH n gs (.lst ds) ρ=ck (ds.length=n) (gs ds ρ):=.trans rfl rfl
theorem agQ {fr:List Nat}{tc:aa->M Bool}{te:aa->M Dt}:dg k fr it gm tc te ρ=(it ρ).bd (dC k fr gm tc te ρ):=.trans rfl rfl
theorem af2:dU ρ=.ok true:=.trans rfl rfl
theorem agi:eN ρ=.ok (.nx ρ):=.trans rfl rfl
theorem agj:aU s t ρ=(s ρ).bd (sj t):=.trans rfl rfl
theorem agc:sj s (.nx ρ)=s ρ:=.trans rfl rfl
theorem agb:sj s (.rt d)=.ok (.rt d):=.trans rfl rfl
theorem aga:sj s (.bk ρ)=.ok (.bk ρ):=.trans rfl rfl
theorem af9:sj s (.ct ρ)=.ok (.ct ρ):=.trans rfl rfl
theorem agl:bN f ρ=(f ρ).bd wD:=.trans rfl rfl
theorem ahw:wD d=.ok (.rt d):=.trans rfl rfl
theorem agr:vH f ρ=(f ρ).bd (NA ρ):=.trans rfl rfl
theorem ahR:NA ρ d=.ok (.nx ρ):=.trans rfl rfl
theorem agt:bU f gm ρ=(f ρ).bd (NF gm ρ):=.trans rfl rfl
theorem ahZ:NF gm ρ d=(gm d ρ).calm.bd E7:=.trans rfl rfl
theorem ahJ:E7 ρ=.ok (.nx ρ):=.trans rfl rfl
theorem ags:Wn i f ρ=HE i f ρ ρ[i]?:=.trans rfl rfl
theorem aiI:HE i f ρ (some (.val (.int a)))=(f ρ).bd (HF i ρ a):=.trans rfl rfl
theorem aiJ:HF i ρ a (.int b)=.ok (.nx (ρ.set i (.val (.int (a+b))))):=.trans rfl rfl
theorem agp:d8 tf s t ρ=(tf ρ).bd (E4 s t ρ):=.trans rfl rfl
theorem aho:E4 s t ρ true=s ρ:=.trans rfl rfl
theorem ahp:E4 s t ρ false=t ρ:=.trans rfl rfl
theorem agq:lg it gm s ρ=((it ρ).bd (Ny gm s ρ)).calm:=.trans rfl rfl
theorem ahP:Ny gm s ρ ds=d3 gm s ds ρ:=.trans rfl rfl
theorem aiy:d3 gm s [] ρ=.ok (.nx ρ):=.trans rfl rfl
theorem HP:d3 gm s (d::ds) ρ=(gm d ρ).calm.bd (Nz s (d3 gm s ds)):=.trans rfl rfl
theorem HN {k:SM}:Nz s k ρ=(s ρ).calm.bd (fork k):=.trans rfl rfl
theorem aix:fork s (.nx ρ)=s ρ:=.trans rfl rfl
theorem aiw:fork s (.ct ρ)=s ρ:=.trans rfl rfl
theorem aiv:fork s (.bk ρ)=.ok (.nx ρ):=.trans rfl rfl
theorem aiu:fork s (.rt d)=.ok (.rt d):=.trans rfl rfl
theorem ago:zE i fs ρ=(fs ρ).bd (Nl i ρ):=.trans rfl rfl
theorem ahG:Nl i ρ ds=ck (ds.length<=10000) (.ok (.nx (ρ.set i (.own ds)))):=.trans rfl rfl
theorem agm:nM i s ρ=s (pA i ρ ρ[i]?):=.trans rfl rfl
theorem agB:pA i ρ (some (.own ds))=ρ.set i (.val (.lst ds)):=.trans rfl rfl
theorem agA:pA i ρ (some (.val d))=ρ:=.trans rfl rfl
theorem agu:Wo i f ρ=HH i f ρ ρ[i]?:=.trans rfl rfl
theorem aiK:HH i f ρ (some (.own ds))=(f ρ).bd (NG i ρ ds):=.trans rfl rfl
theorem ah0:NG i ρ ds d=ck (ds.length<10000) (.ok (.nx (ρ.set i (.own (ds++[d]))))):=.trans rfl rfl
theorem agn:Wj i j fs ρ=(fs ρ).bd (Ew i j ρ):=.trans rfl rfl
theorem agG:Ew i j ρ [d,e]=.ok (.nx ((ρ.set i (.val d)).set j (.val e))):=.trans rfl rfl
theorem afS:CV f ρ=(f ρ).bd kU:=.trans rfl rfl
theorem ahm:kU d=.ok ():=.trans rfl rfl
theorem afV:CY f ρ=(f ρ).bd y4:=.trans rfl rfl
theorem afW:y4 (.int a)=ck (-2<=a/\a<=20) (.ok ()):=.trans rfl rfl
theorem agk {fu:aa->M Unit}:so k fu ρ=(fu ρ).bd (Ng k):=.trans rfl rfl
theorem ahu {u:Unit}:Ng c u=.ex c:=.trans rfl rfl
theorem agh {cs:List Nat}:Wi cs i s ρ=zb cs i (s ρ):=.trans rfl rfl
theorem af0 {cs:List Nat}:zb cs i (.ok (.nx ρ))=(ae i ρ).bd wD:=.trans rfl rfl
theorem afZ {cs:List Nat}:zb cs i (.ex k)=ck (k∈cs) (.ok (.rt (.str (kQ k)))):=.trans rfl rfl
theorem aiz:cu np n s ds=ck (ds.length=np) ((s (ds.map Bd.val++bM n .no)).bd A6):=.trans rfl rfl
theorem aiB:A6 (.nx ρ)=.ok .ax:=.trans rfl rfl
theorem aiA:A6 (.rt d)=.ok d:=.trans rfl rfl
theorem agP {ks:List (List Nat)}:Yv ks fs g ρ=(fs ρ).bd (NC ks g ρ):=.trans rfl rfl
theorem ahT {ks:List (List Nat)}:NC ks g ρ ds=(g ρ).bd (Fd ks ds):=.trans rfl rfl
theorem ahS {ks:List (List Nat)}:Fd ks ds d=Bk (ks.zip ds) d:=.trans rfl rfl
theorem aiQ:bI (.int a) (.int b)=.ok (.int (a+b)):=.trans rfl rfl
theorem aiO:bI (.str l) (.str m)=kZ (l++m):=.trans rfl rfl
theorem aiP:bI (.lst ds) (.lst es)=fB (ds++es):=.trans rfl rfl
theorem af7:ZD (.int a) (.int b)=.ok (.int (a - b)):=.trans rfl rfl
theorem ag2:dY (.int a) (.int b)=ck ((-(2 ^ 64)<a/\a<2 ^ 64)∨(-(2 ^ 64)<b/\b<2 ^ 64)) (.ok (.int (a * b))):=.trans rfl rfl
theorem ag1:dY (.str l) (.int b)=ck (-1000<=b/\b<=1000/\l.length<=1000) (kZ (bM b.toNat l).flatten):=.trans rfl rfl
theorem ag4:oMod (.int a) (.int b)=ck (0<b) (.ok (.int (a % b))):=.trans rfl rfl
theorem aiF:oDiv (.int a) (.int b)=ck (0<b/\b<1073741824) (.ok (.int (a / b))):=.trans rfl rfl
theorem agd:ZE (.int a) (.int b)=ck (0<=b) (.ok (.int (a / 2 ^ b.toNat))):=.trans rfl rfl
theorem agD:ZG (.int a) (.int b)=ck (0<=b/\b<=1000/\a.natAbs<2 ^ 64) (.ok (.int (a ^ b.toNat))):=.trans rfl rfl
theorem aiM:ZL (.int a)=ck (0<=a) (.ok (.int (a % 2))):=.trans rfl rfl
theorem agY:EJ (.int a)=.ok (.int (-a)):=.trans rfl rfl
theorem ag9:oLt (.int a) (.int b)=.ok (.bl (decide (a<b))):=.trans rfl rfl
theorem ahg:oLe (.int a) (.int b)=.ok (.bl (decide (a<=b))):=.trans rfl rfl
theorem ain:v7 (.int a) (.int b)=.ok (.bl (decide (b<a))):=.trans rfl rfl
theorem aip:ZK (.int a) (.int b)=.ok (.bl (decide (b<=a))):=.trans rfl rfl
theorem Rr:oEq d e=ck (dep d<=50) (.ok (.bl (bh d e))):=.trans rfl rfl
theorem xM:cA d e=ck (dep d<=50) (.ok (.bl (!bh d e))):=.trans rfl rfl
theorem aiD:oEq (.int a) (.int b)=.ok (.bl (decide (a=b))):=.trans rfl rfl
theorem ag0:cA (.int a) (.int b)=.ok (.bl (!decide (a=b))):=.trans rfl rfl
theorem agX:sL (.bl p)=.ok (.bl (!p)):=.trans rfl rfl
theorem agW:v3 d e=(jw d e).bd sL:=.trans rfl rfl
theorem aif:sN (.bl p) (.bl q)=.ok (.bl (p==q)):=.trans rfl rfl
theorem aie:sN d .ax=.ok (.bl (As d)):=.trans rfl rfl
theorem aid:lx d e=(sN d e).bd sL:=.trans rfl rfl
theorem ah9:dh (.str l) (.int a)=Ak (d4 l a):=.trans rfl rfl
theorem aia:dh (.lst ds) (.int a)=pR (d4 ds a):=.trans rfl rfl
theorem ah8:dh (.tup ds) (.int a)=pR (d4 ds a):=.trans rfl rfl
theorem aic:Ak (some c)=.ok (.str [c]):=.trans rfl rfl
theorem aib:pR (some d)=.ok d:=.trans rfl rfl
theorem ahe:eF [.str l]=.ok (.int l.length):=.trans rfl rfl
theorem ahf:eF [.lst ds]=.ok (.int ds.length):=.trans rfl rfl
theorem ahd:eF [.tup ds]=.ok (.int ds.length):=.trans rfl rfl
theorem ag5:afu [.int a,.int b]=.ok (.int (if b<a then b else a)):=.trans rfl rfl
theorem ag6:afv [.int a,.int b]=.ok (.int (if b > a then b else a)):=.trans rfl rfl
theorem aiN:ux [.lst ds]=uw (λbs=>bs.all id) (bools ds):=.trans rfl rfl
theorem aiL:afw [.lst ds]=uw (λbs=>bs.any id) (bools ds):=.trans rfl rfl
theorem ahc:Q4 [.lst ds]=.ok (.lst ds):=.trans rfl rfl
theorem ahb:Q4 [.str l]=.ok (.lst (cL l)):=.trans rfl rfl
theorem aii:Q5 [.int a]=.ok (.int a):=.trans rfl rfl
theorem aih:Q5 [.bl p]=.ok (.int (if p then 1 else 0)):=.trans rfl rfl
theorem agg:dI (.lst ds)=.ok ds:=.trans rfl rfl
theorem age:dI (.tup ds)=.ok ds:=.trans rfl rfl
theorem agf:dI (.str l)=.ok (cL l):=.trans rfl rfl
theorem ag7:sS (.str [])=some joinM:=.trans rfl rfl
theorem ah6:joinM [.lst ds]=Aj (e9 ds):=.trans rfl rfl
theorem ag8:pL (.str l)=some (Bl l):=.trans rfl rfl
theorem aiG:Bl l [.str [c]]=.ok (.int (l.count c)):=.trans rfl rfl
theorem agC:gB i d ρ=ρ.set i (.val d):=.trans rfl rfl
theorem afR:CO (some (.val d))=.val d:=.trans rfl rfl
theorem agx:ZF (.str l)=.ok (.str l.reverse):=.trans rfl rfl
theorem afQ:Sd [x,y]=(dI x).bd (M9 y):=.trans rfl rfl
theorem ahi:M9 y ds=(dI y).bd (pO ds):=.trans rfl rfl
theorem ahh:pO ds es=.ok (iQ ds es):=.trans rfl rfl
theorem afP:Sb [x,y,z]=(dI x).bd (Na y z):=.trans rfl rfl
theorem ahl:Na y z ds=(dI y).bd (E1 z ds):=.trans rfl rfl
theorem ahk:E1 z ds es=(dI z).bd (EZ ds es):=.trans rfl rfl
theorem ahj:EZ ds es OT=.ok (Ct ds es OT):=.trans rfl rfl
theorem afO:Sa [x,y]=(jy x).bd (Nq y):=.trans rfl rfl
theorem ahM:Nq y ds=(jy y).bd (pO ds):=.trans rfl rfl
theorem aha:jy (.lst ds)=.ok ds:=.trans rfl rfl
theorem aiE:aee [x]=(dI x).bd Fc:=.trans rfl rfl
theorem ahQ:Fc ds=.ok (f9 ds):=.trans rfl rfl
theorem agy:W0 [x]=(dI x).bd Nh:=.trans rfl rfl
theorem ahv:Nh ds=.ok ds.reverse:=.trans rfl rfl
theorem Rn:pq [.int a]=ck (-1000000<=a/\a<=10000) (.ok (dz 0 a)):=.trans rfl rfl
theorem agw:zJ [.int a,.int b]=ck (-1000000<=a/\a<=1000000/\-1000000<=b/\b<=1000000/\b - a<=10000) (.ok (dz a b)):=.trans rfl rfl
theorem af8:aft [.int a]=ck (0<=a/\a<=9) (.ok (.str [48+a.toNat])):=.trans rfl rfl
theorem aiH {k:List Bool->Bool}{bs:List Bool}:uw k (some bs)=.ok (.bl (k bs)):=.trans rfl rfl
theorem ah7 {ls:List (List Nat)}:Aj (some ls)=kZ ls.flatten:=.trans rfl rfl
theorem aiC:oEq (.str l) (.str m)=.ok (.bl (decide (l=m))):=by
 show M.ok (Dt.bl (l==m))=_
 congr 2
 by_cases h:l=m <;> simp [h]
theorem agZ:cA (.str l) (.str m)=.ok (.bl (!decide (l=m))):=by
 show M.ok (Dt.bl (!(l==m)))=_
 congr 2
 by_cases h:l=m <;> simp [h]
theorem aij:jw (.str [c]) (.str l)=.ok (.bl (decide (c∈l))):=by simp only [jw]
theorem j0 (h:l.length<=10000):kZ l=.ok (.str l):=by unfold kZ; rw [if_pos h]
theorem cR (h:ds.length<=10000):fB ds=.ok (.lst ds):=by unfold fB; rw [if_pos h]
end
end L2
section ai2
open L2
local macro_rules
 | `(tactic| exists aA, $xs:term,*) => `(tactic| simp only [aio, aim, Ro, agU, ah5, agV, agI, aht, ahs, ahr, ahq, agF, agE, ahy, af4, af1, af5, ahK, af6, ah1, ah2, af3, ahH, ahI, agT, ahE, ahC, ahD, agL, ahB, ahz, ahA, agO, ahN, ahO, agR, ahY, ahX, ahW, ahU, ahV, aiR, aiS, ah4, ah3, agN, agH, ahn, agJ, ahx, agz, agS, agM, ahL, agK, ahF, ag3, aik, ail, ait, aiq, air, Rq, ais, agQ, af2, agi, agj, agc, agb, aga, af9, agl, ahw, agr, ahR, agt, ahZ, ahJ, ags, aiI, aiJ, agp, aho, ahp, agq, ahP, aiy, HP, HN, aix, aiw, aiv, aiu, ago, ahG, agm, agB, agA, agu, aiK, ah0, agn, agG, afS, ahm, afV, afW, agk, ahu, agh, af0, afZ, aiz, aiB, aiA, agP, ahT, ahS, aiQ, aiO, aiP, af7, ag2, ag1, ag4, aiF, agd, agD, aiM, agY, ag9, ahg, ain, aip, aiD, ag0, agX, agW, aif, aie, aid, ah9, aia, ah8, aic, aib, ahe, ahf, ahd, ag5, ag6, aiN, aiL, ahc, ahb, aii, aih, agg, age, agf, ag7, ah6, ag8, aiG, agC, afR, agx, afQ, ahi, ahh, afP, ahl, ahk, ahj, afO, ahM, aha, aiE, ahQ, agy, ahv, Rn, agw, af8, aiH, ah7, aiC, agZ, aij, afh, afi, bt, afq, afr, gK, ae7, cQ, qY, a5, kF, vd, List.replicate_zero, List.cons_append, yq, nu, qO, yN, List.set_cons_succ, List.set_cons_zero, cg, Nat.reduceAdd, uO, qT, uT, decide_true, decide_false, ae3, eq_self, $[$xs:term],*])
local macro_rules
 | `(tactic| exists ev) => `(tactic| try exists aA, eq_self)
 | `(tactic| exists go) => `(tactic| repeat (first | rw [cI (by omega)] | rw [j0 (by (try simp only [jU, cQ, qY]); omega)] | rw [cR (by (try simp only [jU, cQ, qY]); omega)] | exists aA, eq_self))
namespace Pg
open L2
noncomputable def uv (ns:List Int)(k:Int):Int:=
 if k<ns.length then ns.getD k.toNat 0 else if ns=[] then 0 else ns.getD (k % (ns.length:Int)).toNat 0 * 31+k
noncomputable def lR (ns:List Int)(k:Int):Int:=(uv ns k+6151 * (k+1)) * 40692 % 2147483399
noncomputable def df (ns:List Int)(k many:Int):Int:=(lR ns k * lR ns k+lR ns k / 31) % 2147483629 % many
theorem aer (ns:List Int)(k:Int):0<=lR ns k:=uV _ (by decide)
theorem aes (ns:List Int)(k:Int):lR ns k<2147483399:=u7 _ (by decide)
theorem j9 (ns:List Int)(k:Int){many:Int}(h:0<many):0<=df ns k many:=uV _ (by omega)
theorem mz (ns:List Int)(k:Int){many:Int}(h:0<many):df ns k many<many:=u7 _ h
noncomputable abbrev gy (ns:List Int):Dt:=.lst (ns.map Dt.int)
theorem Bq {α:Type}{l:List α}{n:Nat}{x:α}(h:l[n]?=some x):d4 l (n:Int)=some x:=by
 have aF:n<l.length:=(cP.mp h).1;unfold d4 sU;rw [if_pos (by omega),if_pos (by omega)];simpa using h
theorem Q9 {α:Type}{l:List α}{i:Int}(h0:0<=i)(h1:i<l.length):d4 l i=some (l[i.toNat]'(by omega)):=by
 obtain⟨n,rfl⟩:∃n:Nat,i=n:=⟨i.toNat,by omega⟩
 refine Bq ?_;simp
theorem Q8 {ns:List Int}{k:Int}(h0:0<=k)(h1:k<ns.length):d4 (ns.map Dt.int) k=some (.int (ns.getD k.toNat 0)):=by
 rw [Q9 h0 (by simpa using h1)];have aF:k.toNat<ns.length:=by omega
 simp [aF]
theorem Qw:∀ns:List Int,eU (ns.map Dt.int)=0
 | []=>rfl
 |n::ns=>by simp only [a5,eU,dep,Qw ns]; omega
theorem PU (ns:List Int):bh (gy ns) (.lst [])=decide (ns=[]):=by
 cases ns <;> rfl
theorem cell_eq {ns:List Int}{k:Int}(hk:0<=k):BJ [gy ns,.int k]=.ok (.int (uv ns k)):=by
 unfold BJ Jy uv
 exists go
 by_cases h1:k<ns.length
 ·simp only [h1,decide_true,if_true]
  exists go
  rw [Q8 hk h1]
  exists go
 ·simp only [h1,decide_false,if_false]
  exists go
  rw [Rr,cI (by simp only [dep,Qw]; omega),PU]
  by_cases h2:ns=[]
  ·simp only [h2,decide_true,if_true]
   exists go
  ·have hp:0<(ns.length:Int):=by have:=oE.mpr h2; omega
   have m0:0<=k % (ns.length:Int):=uV _ (by omega);have m1:k % (ns.length:Int)<ns.length:=u7 _ hp;simp only [h2,decide_false,if_false]
   exists go
   rw [Q8 m0 m1]
   exists go
theorem lj {ns:List Int}{k many:Int}(hk:0<=k)(hm:0<many):jj [gy ns,.int k,.int many]=.ok (.int (df ns k many)):=by
 have d0:=aer ns k;have d1:=aes ns k;unfold jj Jv
 exists go
 rw [cell_eq hk]
 exists go
 rw [show (uv ns k+6151 * (k+1)) * 40692 % 2147483399=lR ns k from rfl]
 exists go
 rfl
mutual
theorem xt:∀d:Dt,bh d d=true
 |.ax=>rfl
 |.bl b=>beq_self_eq_true b
 |.int b=>beq_self_eq_true b
 |.str b=>beq_self_eq_true b
 |.tup b=>qx b
 |.lst b=>qx b
 |.af b=>(show (b==b || lQ b b)=true by rw [beq_self_eq_true b]; rfl)
theorem qx:∀d:List Dt,et d d=true
 | []=>rfl
 |a::r=>(show (bh a a&&et r r)=true by rw [xt a,qx r]; rfl)
end
theorem A1 {g:GM}{b:SM}:∀(ds:List Dt) (st:Nat->aa),(∀i d,ds[i]?=some d->((g d (st i)).calm.bd λaP=>(b aP).calm)=.ok (.nx (st (i+1))))->d3 g b ds (st 0)=.ok (.nx (st ds.length))
 | [],st,_=>rfl
 |d::ds,st,h=>by
  have h0:=h 0 d rfl;have ih:=A1 ds (λi=>st (i+1)) λi e he=>h (i+1) e (by simpa using he);rw [HP]
  cases hg:g d (st 0) with
  |ok aP=>
   rw [hg] at h0;simp only [gK,bt] at h0 ⊢;rw [HN,h0];exact ih
  |ex c=>rw [hg] at h0; cases h0
  |bad=>rw [hg] at h0; cases h0
theorem adG {g:GM}{b:SM}(lo hi:Int)(st:Nat->aa)(h:∀i:Nat,i<(hi - lo).toNat->((g (.int (lo+i)) (st i)).calm.bd λaP=>(b aP).calm)=.ok (.nx (st (i+1)))):d3 g b (dz lo hi) (st 0)=.ok (.nx (st (hi - lo).toNat)):=by
 have e:(dz lo hi).length=(hi - lo).toNat:=by simp [dz]
 rw [← e];refine A1 _ st λi d hd=>?_;unfold dz at hd;simp only [gR,gr] at hd;obtain⟨j,hj,rfl⟩:=hd;have c8:i<(hi - lo).toNat:=by
  have:=(cP.mp hj).1;simpa using this
 rw [vc c8] at hj;cases hj;exact h i c8
theorem adH {g:GM}{b:SM}{ds:List Dt}{ρ0:aa}(st:Nat->aa)(h0:ρ0=st 0)(h:∀i d,ds[i]?=some d->((g d (st i)).calm.bd λaP=>(b aP).calm)=.ok (.nx (st (i+1)))):d3 g b ds ρ0=.ok (.nx (st ds.length)):=by
 subst h0;exact A1 ds st h
theorem adF {g:GM}{b:SM}{lo hi:Int}{ρ0:aa}(st:Nat->aa)(h0:ρ0=st 0)(h:∀i:Nat,i<(hi - lo).toNat->((g (.int (lo+i)) (st i)).calm.bd λaP=>(b aP).calm)=.ok (.nx (st (i+1)))):d3 g b (dz lo hi) ρ0=.ok (.nx (st (hi - lo).toNat)):=by
 subst h0;exact adG lo hi st h
noncomputable def j4 (ns:List Int)(k:Int)(sg:List Nat):Nat:=sg.getD (df ns k sg.length).toNat 0
theorem KH (ns:List Int)(k:Int){sg:List Nat}(h:sg≠[]):j4 ns k sg∈sg:=by
 have hp:0<(sg.length:Int):=by
  have:=oE.mpr h;omega
 have h1:=j9 ns k hp;have h2:=mz ns k hp;unfold j4;have aF:(df ns k sg.length).toNat<sg.length:=by omega
 rw [Co,iq aF,u5];exact rg aF
theorem DC (ns:List Int)(k:Int){sg:List Nat}(h:sg≠[]):d4 sg (df ns k sg.length)=some (j4 ns k sg):=by
 have hp:0<(sg.length:Int):=by
  have:=oE.mpr h;omega
 have h1:=j9 ns k hp;have h2:=mz ns k hp;rw [Q9 h1 h2];have aF:(df ns k sg.length).toNat<sg.length:=by omega
 unfold j4;rw [Co,iq aF,u5]
noncomputable def d7 (ns:List Int)(a:Int)(sg:List Nat):Nat->List Nat
 |0=>[j4 ns a sg]
 |k+1=>if df ns (a+2 * ((k:Int)+1)) 2=0 then d7 ns a sg k++[(d7 ns a sg k).getLastD 0] else d7 ns a sg k++[j4 ns (a+2 * ((k:Int)+1)+1) sg]
noncomputable def rB (ns:List Int)(a many:Int)(sg:List Nat):List Nat:=d7 ns a sg (many - 1).toNat
theorem rA (ns:List Int)(a:Int)(sg:List Nat):∀k,(d7 ns a sg k).length=k+1
 |0=>rfl
 |k+1=>by
  unfold d7
  split <;> simp [rA ns a sg k]
theorem JR (ns:List Int)(a:Int){sg:List Nat}(h:sg≠[]):∀k,∀c∈d7 ns a sg k,c∈sg
 |0=>by
  intro c hc;simp [d7] at hc;rw [hc];exact KH ns a h
 |k+1=>by
  intro c hc;have ih:=JR ns a h k;unfold d7 at hc
  split at hc
  ·rcases eJ.mp hc with hc | hc
   ·exact ih c hc
   ·simp only [jm] at hc
    have bF:d7 ns a sg k≠[]:=by
     intro z;have:=rA ns a sg k;rw [z] at this;simp at this
    rw [hc,List.getLastD_eq_getLast?,List.getLast?_eq_some_getLast bF,u5];exact ih _ (List.getLast_mem bF)
  ·rcases eJ.mp hc with hc | hc
   ·exact ih c hc
   ·simp only [jm] at hc
    rw [hc];exact KH ns _ h
theorem Tg (ns:List Int)(a:Int){many:Int}(sg:List Nat)(h:1<=many):((rB ns a many sg).length:Int)=many:=by
 unfold rB;rw [rA];omega
theorem Tf (ns:List Int)(a many:Int){sg:List Nat}(h:sg≠[]):∀c∈rB ns a many sg,c∈sg:=JR ns a h _
theorem afA {l:List Nat}(h:l≠[]):d4 l (-1)=some (l.getLastD 0):=by
 have hp:=oE.mpr h;unfold d4 sU;rw [if_neg (by omega),if_pos (by omega)];have e:((-1:Int)+(l.length:Nat)).toNat=l.length - 1:=by omega
 simp only [Option.bind_some,e];rw [List.getLastD_eq_getLast?,List.getLast?_eq_getElem?,iq (by omega)];rfl
theorem Te {ns:List Int}{a many:Int}{sg:List Nat}(ha:0<=a)(h1:1<=many)(h2:many<=1000)(hs:sg≠[])(hz:sg.length<=1000):BH [gy ns,.int a,.int many,.str sg]=.ok (.str (rB ns a many sg)):=by
 have hp:0<(sg.length:Int):=by
  have:=oE.mpr hs;omega
 unfold BH Js RU
 exists go
 rw [lj ha hp]
 exists go
 rw [DC ns a hs]
 exists go
 rw [adF (st:=λi=>[.val (gy ns),.val (.int a),.val (.int many),.val (.str sg),.val (.str (d7 ns a sg i)),match i with | 0=>.no | j+1=>.val (.int (1+(j:Nat)))])]
 ·exists go
  rfl
 ·rfl
 ·intro i hi
  have wl:=rA ns a sg i;have Ta:d7 ns a sg i≠[]:=by
   intro z;rw [z] at wl;simp at wl
  exists go
  rw [lj (by omega) (by decide)]
  exists go
  have e0:a+2 * (1+(i:Int))=a+2 * ((i:Int)+1):=by omega
  by_cases hq:df ns (a+2 * ((i:Int)+1)) 2=0
  ·rw [e0]
   simp only [hq,decide_true]
   exists go
   rw [afA Ta]
   exists go
   simp only [d7,hq,if_true]
  ·rw [e0]
   simp only [hq,decide_false]
   exists go
   rw [lj (by omega) hp]
   exists go
   rw [DC ns _ hs]
   exists go
   simp only [d7,hq,if_false];rw [e0]
noncomputable def E3 (x:Dt):M (Option Dt):=.ok (some x)
noncomputable def Ae (te:aa->M Dt)(ρ:aa)(b:Bool):M (Option Dt):=if b=true then (te ρ).bd E3 else .ok none
noncomputable def E2 (tc:aa->M Bool)(te:aa->M Dt)(ρ:aa):M (Option Dt):=(tc ρ).bd (Ae te ρ)
noncomputable def stC (g:GM)(tc:aa->M Bool)(te:aa->M Dt)(ρ0:aa)(d:Dt):M (Option Dt):=(g d ρ0).bd (E2 tc te)
theorem kA {x:Dt}:E3 x=.ok (some x):=.trans rfl rfl
theorem m8 {te:aa->M Dt}{ρ:aa}:Ae te ρ true=(te ρ).bd E3:=.trans rfl rfl
theorem Hz {te:aa->M Dt}{ρ:aa}:Ae te ρ false=.ok none:=.trans rfl rfl
theorem m9 {tc:aa->M Bool}{te:aa->M Dt}{ρ:aa}:E2 tc te ρ=(tc ρ).bd (Ae te ρ):=.trans rfl rfl
theorem nc {g:GM}{tc:aa->M Bool}{te:aa->M Dt}{ρ:aa}{d:Dt}:stC g tc te ρ d=(g d ρ).bd (E2 tc te):=.trans rfl rfl
theorem QK {g:GM}{tc:aa->M Bool}{te:aa->M Dt}{ρ0:aa}(f:Dt->Option Dt):∀(ds:List Dt),(∀d∈ds,stC g tc te ρ0 d=.ok (f d))->fi g tc te ρ0 ds=.ok (ds.filterMap f)
 | [],_=>rfl
 |d::ds,h=>by
  have h0:=h d bu;have ih:=QK f ds λe he=>h e (bR _ he);simp only [fi];rw [nc] at h0
  cases hg:g d ρ0 with
  |ok aP=>
   rw [hg] at h0;simp only [bt,m9] at h0 ⊢
   cases ht:tc aP with
   |ok b=>
    rw [ht] at h0;simp only [bt] at h0 ⊢
    cases b with
    |false=>
     rw [Hz] at h0
     cases hf:f d with
     |none=>simp only [cF,if_false,ih,dG,hf]
     |some x=>rw [hf] at h0; cases h0
    |true=>
     rw [m8] at h0;simp only [if_true]
     cases hx:te aP with
     |ok x=>
      rw [hx] at h0;simp only [bt,kA] at h0 ⊢;injection h0 with h0;simp only [ih,bt,dG,← h0]
     |ex c=>rw [hx] at h0; cases h0
     |bad=>rw [hx] at h0; cases h0
   |ex c=>rw [ht] at h0; cases h0
   |bad=>rw [ht] at h0; cases h0
  |ex c=>rw [hg] at h0; cases h0
  |bad=>rw [hg] at h0; cases h0
theorem m7 {α:Type}{g:GM}{tc:aa->M Bool}{te:aa->M Dt}{ρ0:aa}(e:α->Dt)(f:α->Option Dt):∀(xs:List α),(∀x∈xs,stC g tc te ρ0 (e x)=.ok (f x))->fi g tc te ρ0 (xs.map e)=.ok (xs.filterMap f)
 | [],_=>rfl
 |x::xs,h=>by
  have h1:=QK (g:=g) (tc:=tc) (te:=te) (ρ0:=ρ0) (λ_=>f x) [e x] (λd hd=>by
   have:d=e x:=by simpa using hd
   rw [this];exact h x bu)
  have ih:=m7 e f xs λy hy=>h y (bR _ hy);rw [a5];simp only [fi] at h1 ⊢
  cases hg:g (e x) ρ0 with
  |ok aP=>
   rw [hg] at h1;simp only [bt] at h1 ⊢
   cases ht:tc aP with
   |ok b=>
    rw [ht] at h1;simp only [bt] at h1 ⊢
    cases b with
    |false=>
     simp only [cF,if_false] at h1 ⊢;rw [ih]
     cases hf:f x with
     |none=>simp only [dG,hf]
     |some y=>rw [dG,hf] at h1; cases h1
    |true=>
     simp only [if_true] at h1 ⊢
     cases hx:te aP with
     |ok y=>
      rw [hx] at h1;simp only [bt] at h1 ⊢;rw [ih]
      cases hf:f x with
      |none=>rw [dG,hf] at h1; cases h1
      |some z=>
       rw [dG,hf] at h1;simp only [bt,dG,hf];cases h1;rfl
     |ex c=>rw [hx] at h1; cases h1
     |bad=>rw [hx] at h1; cases h1
   |ex c=>rw [ht] at h1; cases h1
   |bad=>rw [ht] at h1; cases h1
  |ex c=>rw [hg] at h1; cases h1
  |bad=>rw [hg] at h1; cases h1
theorem aeU {g:GM}{tc:aa->M Bool}{te:aa->M Dt}{ρ0:aa}{lo hi:Int}(f:Nat->Option Dt)(h:∀i,i<(hi - lo).toNat->stC g tc te ρ0 (.int (lo+(i:Nat)))=.ok (f i)):fi g tc te ρ0 (dz lo hi)=.ok ((bf (hi - lo).toNat).filterMap f):=
 m7 (fun(i:Nat)=>.int (lo+(i:Nat))) f _ λi c8=>h i (by simpa using c8)
theorem GV {α β:Type}(p:α->Bool)(e:α->β):∀l:List α,(l.filterMap λa=>if p a=true then some (e a) else none)=(l.filter p).map e
 | []=>rfl
 |a::l=>by
  rw [dG,uZ]
  cases h:p a <;> simp [h,GV p e l]
theorem qt {α β:Type}(e:α->β):∀l:List α,(l.filterMap λa=>some (e a))=l.map e
 | []=>rfl
 |a::l=>by rw [dG,a5,qt e l]
noncomputable def lv (l:List Nat)(i:Nat):Nat:=l.getD i 0
theorem afz {l:List Nat}{i:Nat}(h:i<l.length):d4 l (i:Int)=some (lv l i):=by
 refine Bq ?_;simp [lv,h]
theorem Q6 {l:List Nat}{k:Int}{i:Nat}(e:k=i)(h:i<l.length):d4 l k=some (lv l i):=by rw [e]; exact afz h
noncomputable def Tz (l:List Nat):List Nat:=(bf (l.length - 1)).filter λi=>decide (lv l i=48)&&decide (lv l (i+1)=49)
noncomputable def up (l:List Nat)(i:Nat):Bool:=decide (lv l i=48)&&decide (lv l (i+1)=49)
theorem Bn {α:Type}(f:α->Bool):∀l:List α,bools (l.map λa=>Dt.bl (f a))=some (l.map f)
 | []=>rfl
 |a::l=>by simp [bools,Bn f l]
theorem Mi {ls:List (List Nat)}(hl:ls.length<=1000):BD [.lst (ls.map Dt.str)]=.ok (.bl (ls.all λl=>decide (l.length=(ls.headD []).length))):=by
 unfold BD Jl
 exists ev
 simp only [dC];rw [m7 Dt.str (λl=>some (.bl (decide (l.length=(ls.headD []).length))))]
 ·rw [qt,gK,bt,cR (by simp; omega)]
  exists ev
  rw [Bn]
  exists ev
  rw [uN];rfl
 ·intro l hm
  have a0:d4 (ls.map Dt.str) 0=some (.str (ls.headD [])):=by
   cases ls with
   |nil=>cases hm
   |cons x xs=>exact Bq (n:=0) rfl
  exists aA,nc,m9,bT,a0,m8,kA
  have e:decide (((l.length:Nat):Int)=(((ls.headD []).length:Nat):Int))=decide (l.length=(ls.headD []).length):=by
   exact decide_eq_decide.mpr ⟨λz=>by omega,λz=>by omega⟩
  rw [e]
theorem JX {ls:List (List Nat)}(hl:ls.length<=1000)(h:∀l∈ls,l.length=(ls.headD []).length):kD [.lst (ls.map Dt.str)]=.ok .ax:=by
 unfold kD BM
 exists ev
 rw [Mi hl];have:(ls.all λl=>decide (l.length=(ls.headD []).length))=true:=by
  rw [dR];intro l hm;simpa using h l hm
 rw [this]
 exists ev
theorem TJ {ls:List (List Nat)}(hl:ls.length<=1000)(h:¬ ∀l∈ls,l.length=(ls.headD []).length):kD [.lst (ls.map Dt.str)]=.ex 6:=by
 unfold kD BM
 exists ev
 rw [Mi hl];have:(ls.all λl=>decide (l.length=(ls.headD []).length))=false:=by
  rw [Bool.eq_false_iff];intro z;rw [dR] at z;exact h λl hm=>by simpa using z l hm
 rw [this]
 exists ev
theorem JW {a b:List Nat}(h:a.length=b.length):kD [.lst [.str a,.str b]]=.ok .ax:=JX (ls:=[a,b]) (by simp) (by simp [h])
theorem Kl {α:Type}(f:α->Nat):∀l:List α,e9 (l.map λi=>Dt.str [f i])=some (l.map λi=>[f i])
 | []=>rfl
 |a::l=>by simp [e9,Kl f l]
theorem A5 {α:Type}(f:α->Nat):∀l:List α,(l.map λi=>[f i]).flatten=l.map f
 | []=>rfl
 |a::l=>by simp [A5 f l]
noncomputable def hN (w b:List Nat)(c:Nat):Nat->Nat
 |0=>c
 |t+1=>if up b t=true then lv w t else hN w b c t
noncomputable def hL (w b:List Nat)(c:Nat):List Nat:=(bf b.length).map (hN w b c)
theorem Hl {α:Type}(f:α->List Nat):∀l:List α,eU (l.map λa=>Dt.str (f a))=0
 | []=>rfl
 |a::l=>by simp only [a5,eU,dep,Hl f l]; rfl
theorem Um {α:Type}(l:List α)(j:Nat):l.take (min j l.length)=l.take j:=by
 by_cases h:j<=l.length
 ·rw [Nat.min_eq_left h]
 ·rw [Nat.min_eq_right (by omega),yL (aN _),yL (by omega)]
theorem xw {α:Type}(l:List α){k:Int}{j:Nat}(e:k=j):ig l none (some k)=l.take j:=by
 subst e;unfold ig;simp only [sr];rw [if_neg (by omega),Nat.sub_zero,List.drop_zero,yy,Um]
theorem QH {α:Type}(l:List α){k:Int}{j:Nat}(e:k=j):ig l (some k) none=l.drop j:=by
 subst e;unfold ig;simp only [sr];rw [if_neg (by omega),yy]
 by_cases h:j<=l.length
 ·rw [Nat.min_eq_left h]
  exact yL (by simp)
 ·rw [Nat.min_eq_right (by omega)]
  simp;omega
end Pg
namespace L2
noncomputable def lz:List Dt->Option (List Int)
 | []=>some []
 |.int i::r=>(lz r).map (i :: ·)
 |_=>none
noncomputable def Dg:Option (List Int)->M Dt
 |some ns=>if ns.length<=1000/\ns.all (λn=>decide (-1000000<=n)&&decide (n<=1000000))=true then .ok (.int ns.sum) else .bad
 |none=>.bad
noncomputable def Bo:List Dt->M Dt
 | [.lst ds]=>Dg (lz ds)
 |_=>.bad
noncomputable def CU:Dt->M Unit
 |.str l=>if l.length<=50/\(l.all λc=>decide (c<1000))=true then .ok () else .bad
 |_=>.bad
noncomputable def TM (f:aa->M Dt):aa->M Unit:=λρ=>(f ρ).bd CU
noncomputable def Bb (i:Nat)(ρ:aa)(ds:List Dt):Dt->M Fl
 |.lst es=>if ds.length+es.length<=10000 then .ok (.nx (ρ.set i (.own (ds++es)))) else .bad
 |_=>.bad
noncomputable def Ba (i:Nat)(f:aa->M Dt)(ρ:aa):Option Bd->M Fl
 |some (.own ds)=>(f ρ).bd (Bb i ρ ds)
 |_=>.bad
noncomputable def zH (i:Nat)(f:aa->M Dt):SM:=λρ=>Ba i f ρ ρ[i]?
noncomputable def ic (g:GM)(b:SM):List Dt->SM
 | [],ρ=>.ok (.nx ρ)
 |d::ds,ρ=>(g d ρ).calm.bd λaP=>(b aP).bd (fork (ic g b ds))
noncomputable def vG (it:IM)(g:GM)(b:SM):SM:=λρ=>(it ρ).bd λds=>ic g b ds ρ
noncomputable def sV (x:List Nat):List (List Nat)->List (List Nat)
 | []=>[x]
 |y::l=>if y<x then y::sV x l else x::y::l
noncomputable def gT:List (List Nat)->List (List Nat)
 | []=>[]
 |x::l=>sV x (gT l)
noncomputable def Kw:Option (List (List Nat))->M Dt
 |some ls=>.ok (.lst ((gT ls.eraseDups).map Dt.str))
 |none=>.bad
noncomputable def vZ:Dt->M Dt
 |.lst ds=>if ds.length<=60 then Kw (e9 ds) else .bad
 |_=>.bad
noncomputable def Kx:Option (List (List Nat))->M Dt
 |some ls=>.ok (.lst ((gT ls).map Dt.str))
 |none=>.bad
noncomputable def pG:Dt->M Dt
 |.lst ds=>if ds.length<=60 then Kx (e9 ds) else .bad
 |_=>.bad
theorem Fn (x:List Nat):∀l,(sV x l).Perm (x::l)
 | []=>.refl _
 |y::l=>by
  unfold sV
  split
  ·exact((Fn x l).cons y).trans (.swap ..)
  ·exact .refl _
theorem k9:∀l,(gT l).Perm l
 | []=>.refl _
 |x::l=>(Fn x _).trans ((k9 l).cons x)
noncomputable abbrev kC (a b:List Nat):Prop:=¬ b<a
theorem MY {a b c:List Nat}(h1:kC a b)(h2:kC b c):kC a c:=by
 intro z
 by_cases y:b<a
 ·exact h1 y
 ·by_cases x:a=b
  ·subst x; exact h2 z
  ·have ia:a<b:=by
    rcases Decidable.em (a<b) with q | q
    ·exact q
    ·exact absurd (List.le_antisymm (List.not_lt.mp y) (List.not_lt.mp q)) x
   exact h2 (List.lt_trans z ia)
theorem NZ (x:List Nat):∀l:List (List Nat),l.Pairwise kC->(sV x l).Pairwise kC
 | [],_=>List.pairwise_singleton ..
 |y::l,h=>by
  obtain⟨h1,h2⟩:=kK.mp h;unfold sV
  split
  ·rename_i Ax
   refine kK.mpr ⟨λz hz=>?_,NZ x l h2⟩;rcases aO.mp ((Fn x l).mem_iff.mp hz) with rfl | hz
   ·exact λq=>List.lt_irrefl _ (List.lt_trans Ax q)
   ·exact h1 z hz
  ·rename_i Ax
   refine kK.mpr ⟨λz hz=>?_,h⟩;rcases aO.mp hz with rfl | hz
   ·exact Ax
   ·exact MY Ax (h1 z hz)
theorem zr:∀l:List (List Nat),(gT l).Pairwise kC
 | []=>.nil
 |x::l=>NZ x _ (zr l)
theorem Dw:∀{a b:List (List Nat)},a.Pairwise kC->b.Pairwise kC->a.Perm b->a=b
 | [],b,_,_,p=>(List.nil_perm.mp p).symm
 |x::a,[],_,_,p=>by cases (List.perm_nil.mp p)
 |x::a,y::b,h1,h2,p=>by
  obtain⟨a1,a2⟩:=kK.mp h1;obtain⟨b1,b2⟩:=kK.mp h2;have e:x=y:=by
   have hx:x∈y::b:=p.mem_iff.mp bu;have hy:y∈x::a:=p.mem_iff.mpr bu;rcases aO.mp hx with z | z
   ·exact z
   ·rcases aO.mp hy with w | w
    ·exact w.symm
    ·have q1:=b1 x z
     have q2:=a1 y w;exact List.le_antisymm (List.not_lt.mp q2) (List.not_lt.mp q1)
  subst e;rw [Dw a2 b2 (List.perm_cons x |>.mp p)]
theorem Vf {a b:List (List Nat)}(h:a.Perm b):gT a=gT b:=Dw (zr a) (zr b) ((k9 a).trans (h.trans (k9 b).symm))
noncomputable abbrev aj:=List (List Nat×List Nat)
noncomputable def uq:Dt->M aj
 |.af kvs=>.ok kvs
 |_=>.bad
noncomputable def Km:Dt->M (List Nat)
 |.str l=>.ok l
 |_=>.bad
noncomputable def qB (kvs:aj)(l:List Nat):M Dt:=match aE kvs l with | some v=>.ok (.str v) | none=>.bad
noncomputable def iY:Dt->Dt->M Dt
 |.af kvs,.str l=>qB kvs l
 |_,_=>.bad
noncomputable def v5:Dt->Dt->M Dt
 |.str l,.af kvs=>.ok (.bl (aE kvs l).isSome)
 |_,_=>.bad
noncomputable def ZH:Dt->Dt->M Dt
 |.str l,.af kvs=>.ok (.bl (!(aE kvs l).isSome))
 |_,_=>.bad
noncomputable def qm (kvs:aj)(e:Dt):Dt->M Dt
 |.str l=>.ok (match aE kvs l with | some v=>.str v | none=>e)
 |_=>.bad
noncomputable def Me (f g:aa->M Dt):aa->M Dt:=λρ=>(f ρ).bd λd=>(uq d).bd λkvs=>(g ρ).bd λk=>qm kvs .ax k
noncomputable def Md (f g h:aa->M Dt):aa->M Dt:=λρ=>(f ρ).bd λd=>(uq d).bd λkvs=>(g ρ).bd λk=>(h ρ).bd λe=>qm kvs e k
noncomputable def a7 (kvs:aj)(k v:List Nat):aj:=if (kvs.any λp=>p.1==k)=true then kvs.map (λp=>if p.1==k then (p.1,v) else p) else kvs++[(k,v)]
noncomputable def Qi (kvs:aj)(k:List Nat):aj:=kvs.filter λp=>!(p.1==k)
noncomputable def sH:aa->M Dt:=λ_=>.ok (.af [])
noncomputable def sq (i:Nat)(f:aa->M Dt):SM:=λρ=>(f ρ).bd λd=>(uq d).bd λkvs=>.ok (.nx (ρ.set i (.bP kvs)))
noncomputable def D8 (i:Nat):SM:=λρ=>.ok (.nx (ρ.set i (.bP [])))
noncomputable def uk (i:Nat)(ρ:aa)(kvs:aj)(v:List Nat):Dt->M Fl
 |.str k=>if kvs.length<10000 then .ok (.nx (ρ.set i (.bP (a7 kvs k v)))) else .bad
 |_=>.bad
noncomputable def Bh (i:Nat)(fk fv:aa->M Dt)(ρ:aa):Option Bd->M Fl
 |some (.bP kvs)=>(fv ρ).bd λd=>(Km d).bd λv=>(fk ρ).bd (uk i ρ kvs v)
 |_=>.bad
noncomputable def pf (i:Nat)(fk fv:aa->M Dt):SM:=λρ=>Bh i fk fv ρ ρ[i]?
noncomputable def En (i:Nat)(ρ:aa)(kvs:aj):Dt->M Fl
 |.str k=>if (aE kvs k).isSome=true then .ok (.nx (ρ.set i (.bP (Qi kvs k)))) else .bad
 |_=>.bad
noncomputable def Em (i:Nat)(fk:aa->M Dt)(ρ:aa):Option Bd->M Fl
 |some (.bP kvs)=>(fk ρ).bd (En i ρ kvs)
 |_=>.bad
noncomputable def Wl (i:Nat)(fk:aa->M Dt):SM:=λρ=>Em i fk ρ ρ[i]?
noncomputable def jB (kvs:aj):List Dt:=kvs.map λp=>.str p.1
noncomputable def e7 (kvs:aj):List Dt:=kvs.map λp=>.str p.2
noncomputable def fW (kvs:aj):List Dt:=kvs.map λp=>.tup [.str p.1,.str p.2]
noncomputable def wJ (f:aa->M Dt):IM:=λρ=>(f ρ).bd λd=>(uq d).bd λkvs=>.ok (jB kvs)
noncomputable def Au (f:aa->M Dt):IM:=λρ=>(f ρ).bd λd=>(uq d).bd λkvs=>.ok (e7 kvs)
noncomputable def n5 (f:aa->M Dt):IM:=λρ=>(f ρ).bd λd=>(uq d).bd λkvs=>.ok (fW kvs)
noncomputable def iU:List Dt->Option aj
 | []=>some []
 |.tup [.str k,.str v]::r=>(iU r).map ((k,v) :: ·)
 |_=>none
noncomputable def ly (kvs more:aj):aj:=more.foldl (λa p=>a7 a p.1 p.2) kvs
noncomputable def zP:Option aj->M Dt
 |some ps=>.ok (.af (ly [] ps))
 |none=>.bad
noncomputable def qD:List Dt->M Dt
 | [.af kvs]=>.ok (.af kvs)
 | [.lst ds]=>zP (iU ds)
 |_=>.bad
noncomputable def lS:Dt->M aj
 |.af a=>if a.length<=30 then .ok a else .bad
 |_=>.bad
noncomputable def El:Dt->Dt->List (List Nat×List Nat)->M (List (List Nat×List Nat))
 |.str k,.str v,r=>.ok ((k,v)::r)
 |_,_,_=>.bad
noncomputable def pPairs:List ((aa->M Dt)×(aa->M Dt))->aa->M (List (List Nat×List Nat))
 | [],_=>.ok []
 |p::r,ρ=>(p.1 ρ).bd λa=>(p.2 ρ).bd λb=>(pPairs r ρ).bd λks=>El a b ks
noncomputable def xu (ks:List (List Nat×List Nat)):M Dt:=if ks.length<=15 then .ok (.af (ks.foldl (λacc p=>a7 acc p.1 p.2) [])) else .bad
noncomputable def vW (prs:List ((aa->M Dt)×(aa->M Dt))):aa->M Dt:=λρ=>(pPairs prs ρ).bd xu
noncomputable def jJ (g:GM)(tc:aa->M Bool)(te:aa->M Dt)(ρ0:aa):List Dt->M (List Dt)
 | []=>.ok []
 |d::ds=>(g d ρ0).calm.bd λaP=>(tc aP).bd λb=>if b=true then (te aP).bd λx=>(jJ g tc te ρ0 ds).bd λxs=>.ok (x::xs) else jJ g tc te ρ0 ds
noncomputable def zS (k:Nat)(fr:List Nat)(it:IM)(g:GM)(tc:aa->M Bool)(te:aa->M Dt):aa->M Dt:=λρ=>(it ρ).bd λds=>(jJ g tc te (bT k fr ρ) ds).bd fB
noncomputable def nV:Dt->M Dt
 |.af kvs=>.ok (.lst (jB kvs))
 |_=>.bad
noncomputable def vY:Dt->M Dt
 |.af kvs=>.ok (.lst (e7 kvs))
 |_=>.bad
noncomputable def nW (a:Dt):Dt->M Dt
 |.lst ds=>if eU ds<=40 then .ok (.bl (ds.any λd=>bh d a)) else .bad
 |_=>.bad
noncomputable def pH (a b:Dt):M Dt:=(nW a b).bd sL
noncomputable def neT (a b:List (List Nat)):Bool:=!(decide (a.eraseDups.length=b.eraseDups.length)&&a.all λk=>decide (k∈b))
noncomputable def ze (f g:aa->M Dt):aa->M Bool:=λρ=>(f ρ).bd λx=>(lS x).bd λa=>(g ρ).bd λy=>(lS y).bd λb=>.ok (neT (a.map (·.1)) (b.map (·.1)))
end L2
namespace Pg
open L2
section
variable {x y z:Dt}{ds:List Dt}{l:List Nat}{ρ:aa}{s:SM}{cs:List Nat}{i k:Nat}
noncomputable def Np (y:Dt)(a:List Dt):M (List Dt):=(ix y).bd (pO a)
theorem Rj:vi [x,y]=(ix x).bd (Np y):=.trans rfl rfl
theorem Rp:Np y ds=(ix y).bd (pO ds):=.trans rfl rfl
theorem Rm:ix (.str l)=.ok (cL l):=.trans rfl rfl
theorem HM:ix (.lst ds)=.ok ds:=.trans rfl rfl
theorem HQ:tR [x]=(ix x).bd Fc:=.trans rfl rfl
end
theorem e1 (a b:Nat):([a]=[b])=(a=b):=by simp
noncomputable def CZ (i:Nat)(ρ:aa):M Dt->M Fl
 |.ok .ax=>(ae i ρ).bd wD
 |_=>.bad
section
variable {cs:List Nat}{k i c:Nat}{ρ:aa}{s:SM}
theorem HL:zD cs k i s ρ=vp cs k i (s (gB i .ax (gB k .ax ρ))):=.trans rfl rfl
theorem afY:vp cs k i (.ok (.nx ρ))=CZ i ρ (gv ρ[k]?):=by
 simp only [vp]
 split
 ·rename_i h; rw [h]; rfl
 ·rename_i h
  unfold CZ
  split
  ·rename_i h2; exact absurd h2 (by simpa using h)
  ·rfl
theorem afX:CZ i ρ (.ok .ax)=(ae i ρ).bd wD:=.trans rfl rfl
theorem Rk:vp cs k i (.ex c)=ck (c∈cs) (.ok (.rt (.str (kQ c)))):=.trans rfl rfl
end
theorem tL {c n:Nat}:(bM n [c]).flatten=bM n c:=by
 induction n with
 |zero=>rfl
 |succ n ih=>rw [vd,B1,ih,vd]; rfl
theorem aaj (l:List Nat):(bf l.length).map (lv l)=l:=by
 apply nz
 intro i;unfold lv
 by_cases h:i<l.length
 ·simp [h]
 ·simp [h]
noncomputable def Va (l:List Nat)(i:Nat):Bool:=decide (i=0) || !decide (lv l i=lv l (i - 1))
noncomputable def Ko (l:List Nat):List Nat:=(bf l.length).filter (Va l)
noncomputable def enL (l:List Nat):List Nat:=(Ko l).drop 1++[l.length]
theorem GR {g:GM}{b:SM}:∀(ds:List Dt) (P:Nat->aa->Prop) (ρ:aa),P 0 ρ->(∀j d ρ,ds[j]?=some d->P j ρ->∃aW,((g d ρ).calm.bd λaP=>(b aP).calm)=.ok (.nx aW)/\P (j+1) aW)->∃aW,d3 g b ds ρ=.ok (.nx aW)/\P ds.length aW
 | [],P,ρ,h0,_=>⟨ρ,rfl,h0⟩
 |d::ds,P,ρ,h0,h=>by
  obtain⟨aP,e1,p1⟩:=h 0 d ρ rfl h0;obtain⟨fO,e2,p2⟩:=GR ds (λi=>P (i+1)) aP p1 λj e ρ he hp=>h (j+1) e ρ (by simpa using he) hp;refine⟨fO,?_,p2⟩;rw [HP]
  cases hg:g d ρ with
  |ok aW=>
   rw [hg] at e1;simp only [gK,bt] at e1 ⊢;rw [HN,e1];exact e2
  |ex c=>rw [hg] at e1; cases e1
  |bad=>rw [hg] at e1; cases e1
noncomputable def opts (c:Nat):List Nat:=if c=120 then [48,49] else [c]
noncomputable def aL:List Nat->List (List Nat)
 | []=>[[]]
 |c::w=>(opts c).flatMap λs=>(aL w).map (s :: ·)
theorem xI:∀w:List Nat,(aL w).length=2 ^ w.count 120
 | []=>rfl
 |c::w=>by
  have ih:=xI w;unfold aL opts
  by_cases h:c=120
  ·rw [if_pos h,h,List.count_cons_self,Nat.pow_succ]
   simp [ih];omega
  ·rw [if_neg h,List.count_cons_of_ne (by simpa using h)]
   simp [ih]
theorem xJ:∀(w o:List Nat),o∈aL w->o.length=w.length
 | [],o,h=>by simp [aL] at h; simp [h]
 |c::w,o,h=>by
  simp only [aL,oV,aX] at h;obtain⟨s,_,r,hr,rfl⟩:=h;simp [xJ w r hr]
theorem Dk:∀l:List (List Nat),e9 (l.map Dt.str)=some l
 | []=>rfl
 |a::l=>by simp [e9,Dk l]
theorem Rf {c:Nat}{es:List (List Nat)}(hl:es.length<=1000)(he:∀e∈es,e.length<=1000):dC 1 [0] (aw 0) dU (p2 bI (ae 1) (ae 0)) [.val (.str [c]),.val (.lst (es.map Dt.str))] (es.map Dt.str)=.ok (.lst ((es.map (c :: ·)).map Dt.str)):=by
 simp only [dC];rw [m7 Dt.str (λe=>some (.str (c::e)))]
 ·rw [qt,gK,bt,cR (by simp; omega),dw]
  rfl
 ·intro e hm
  have:=he e hm
  exists aA,nc,m9,bT,m8
  rw [j0 (by simp; omega)]
  exists aA,kA
theorem Rh {c:Nat}{es:List (List Nat)}(hc:c≠120)(hl:es.length<=1000)(he:∀e∈es,e.length<=1000):x5 [.str [c],.lst (es.map Dt.str)]=.ok (.lst ((es.map (c :: ·)).map Dt.str)):=by
 unfold x5 Jg;have q:(c=120)=False:=by simpa using hc
 exists aA,e1,q
 rw [Rf hl he]
 exists ev
theorem afI {c:Nat}{es:List (List Nat)}(hl:es.length<=1000)(he:∀e∈es,e.length<=1000):BC [.str [c],.lst (es.map Dt.str)]=.ok (.lst (((opts c).flatMap λs=>es.map (s :: ·)).map Dt.str)):=by
 unfold BC Jh
 by_cases h:c=120
 ·have q:(c=120)=True:=by simpa using h
  rw [show opts c=[48,49] by unfold opts; rw [if_pos h]]
  exists aA,e1,q,Rh (c:=48) (by decide) hl he,Rh (c:=49) (by decide) hl he
  rw [cR (by simp; omega)]
  exists ev
  simp
 ·have q:(c=120)=False:=by simpa using h
  rw [show opts c=[c] by unfold opts; rw [if_neg h]]
  exists aA,e1,q
  rw [Rf hl he]
  exists ev
  simp
theorem WY (w:List Nat):(cL w).reverse=(bf w.length).map λi=>Dt.str [lv w (w.length - 1 - i)]:=by
 apply nz
 intro i
 by_cases h:i<w.length
 ·rw [List.getElem?_reverse (by simpa [cL] using h)]
  have h2:w.length - 1 - i<w.length:=by omega
  simp [cL,lv,h,h2]
 ·rw [qN (by simp [cL]; omega),qN (by simp; omega)]
theorem aeQ (w:List Nat)(k:Nat):(w.drop k).count 120<=w.count 120:=(yx k w).count_le 120
theorem drop_cons {w:List Nat}{k:Nat}(h:k<w.length):w.drop k=lv w k::w.drop (k+1):=by
 rw [oJ h];simp [lv,h]
theorem agv {l:List Nat}:zL [.str l]=.ok (cL l).reverse:=.trans rfl rfl
theorem afE {w:List Nat}(hw:w.length<=100)(h:w.count 120<=6):uG [.str w]=.ok (.lst ((aL w).map Dt.str)):=by
 unfold uG Jr RV;have q:((6:Int)<((w.count 120:Nat):Int))=False:=by simp; omega
 exists aA,q
 rw [cR (by simp)]
 exists aA,agv
 rw [WY,adH (st:=λi=>[.val (.str w),.val (.lst ((aL (w.drop (w.length - i))).map Dt.str)),match i with | 0=>.no | j+1=>.val (.str [lv w (w.length - 1 - j)])])]
 ·exists aA,ri
  simp
 ·simp [aL]
 ·intro i d hd
  simp only [gR,gr] at hd;obtain⟨j,hj,rfl⟩:=hd;have hi:i<w.length:=by simpa using (cP.mp hj).1
  rw [vc hi] at hj;cases hj;have hc:=aeQ w (w.length - i);have hlen:(aL (w.drop (w.length - i))).length<=64:=by
   rw [xI]
   calc 2 ^ (w.drop (w.length - i)).count 120<=2 ^ 6:=yI (by decide) (by omega)
    _=64:=rfl
  have acS:∀e∈aL (w.drop (w.length - i)),e.length<=1000:=λe he=>by
   rw [xJ _ _ he];simp;omega
  have e:=afI (c:=lv w (w.length - 1 - i)) (es:=aL (w.drop (w.length - i))) (by omega) acS
  exists aA,e
  have ed:w.drop (w.length - (i+1))=lv w (w.length - 1 - i)::w.drop (w.length - i):=by
   rw [drop_cons (k:=w.length - (i+1)) (by omega),show w.length - (i+1)=w.length - 1 - i by omega,show w.length - 1 - i+1=w.length - i by omega]
  rw [ed];rfl
noncomputable def mX (w o:List Nat):Bool:=(bf w.length).all λi=>decide (lv w i=120) || decide (lv w i=lv o i)
theorem JN {w o:List Nat}(h:w.length=o.length):iQ (cL w) (cL o)=(bf w.length).map λi=>Dt.tup [.str [lv w i],.str [lv o i]]:=by
 apply nz
 intro i
 by_cases hi:i<w.length
 ·have ho:i<o.length:=by omega
  simp [iQ,cL,lv,hi,ho,List.getElem?_zip_eq_some]
 ·rw [qN (by simp [iQ,cL]; omega),qN (by simp; omega)]
theorem adM {w o:List Nat}(h:w.length=o.length)(hw:w.length<=1000):BE [.str w,.str o]=.ok (.bl (mX w o)):=by
 unfold BE Jo
 exists ev
 rw [cR (by simp)]
 exists aA,JW h,Rj,Rp,Rm
 rw [JN h];simp only [dC];rw [m7 (fun(i:Nat)=>Dt.tup [.str [lv w i],.str [lv o i]]) (λi=>some (.bl (decide (lv w i=120) || decide (lv w i=lv o i))))]
 ·rw [qt,gK,bt,cR (by simp; omega)]
  exists aA,Bn
  rw [uN];rfl
 ·intro i hi
  exists aA,nc,m9,bT,m8,e1
  by_cases h1:lv w i=120
  ·exists aA,h1,kA,Bool.true_or
  ·exists aA,h1,kA,Bool.false_or,e1
theorem adN {w o:List Nat}:mX w o=true↔∀i,i<w.length->lv w i=120∨lv w i=lv o i:=by
 simp [mX]
theorem pM {c:Nat}{w:List Nat}{i:Nat}:lv (c::w) (i+1)=lv w i:=by simp [lv]
theorem wo {c:Nat}{w:List Nat}:lv (c::w) 0=c:=by simp [lv]
theorem HJ:∀(w o:List Nat),o∈aL w↔o.length=w.length/\∀i,i<w.length->lv o i∈opts (lv w i)
 | [],o=>by simp [aL]
 |c::w,o=>by
  have ih:=HJ w;simp only [aL,oV,aX];constructor
  ·rintro⟨s,hs,r,hr,rfl⟩
   obtain⟨h1,h2⟩:=(ih r).mp hr;refine⟨by simp [h1],λi hi=>?_⟩
   cases i with
   |zero=>simpa [wo] using hs
   |succ i=>rw [pM,pM]; exact h2 i (by simpa using hi)
  ·rintro⟨h1,h2⟩
   cases o with
   |nil=>simp at h1
   |cons s r=>
    refine⟨s,by simpa [wo] using h2 0 (by simp),r,(ih r).mpr ⟨by simpa using h1,λi hi=>?_⟩,rfl⟩;have:=h2 (i+1) (by simpa using hi)
    rwa [pM,pM] at this
theorem HK {w o:List Nat}(h:o.length=w.length)(ho:∀c∈o,c=48∨c=49):o∈aL w↔mX w o=true:=by
 rw [HJ,adN];have hm:∀i,i<w.length->lv o i=48∨lv o i=49:=λi hi=>ho _ (by
  have:i<o.length:=by omega
  simp [lv,this])
 constructor
 ·rintro⟨_,h2⟩ i hi
  have:=h2 i hi;unfold opts at this
  by_cases q:lv w i=120
  ·exact .inl q
  ·rw [if_neg q] at this
   exact .inr (by simp at this; exact this.symm)
 ·intro h2
  refine⟨h,λi hi=>?_⟩;unfold opts;rcases h2 i hi with q | q
  ·rw [if_pos q]
   rcases hm i hi with z | z <;> simp [z]
  ·by_cases z:lv w i=120
   ·rcases hm i hi with y | y <;> rw [q] at z <;> omega
   ·rw [if_neg z,q]
    simp
theorem count_set (l:List Nat)(t:Nat):(l.take t++[120]++l.drop (t+1)).count 120<=l.count 120+1:=by
 have h1:l.count 120=(l.take t).count 120+(l.drop t).count 120:=by rw [← yw,List.take_append_drop]
 have h2:(l.drop (t+1)).count 120<=(l.drop t).count 120:=by
  rw [← List.drop_drop];exact(yx 1 _).count_le 120
 simp only [yw,List.count_singleton_self];omega
noncomputable def gh (l:List Nat):Prop:=∀c∈l,c=48∨c=49∨c=120
theorem VI {ns:List Int}{a:Int}{many most:Nat}(ha:0<=a)(h1:1<=many)(h2:many<=1000)(hm:most<=1000):∃l,BI [gy ns,.int a,.int (many:Nat),.int (most:Nat)]=.ok (.str l)/\l.length=many/\gh l/\l.count 120<=most:=by
 have e0:=Te (ns:=ns) (a:=a) (many:=(many:Nat)) (sg:=[48,49]) ha (by omega) (by omega) (by decide) (by decide);have FW:=Tg ns a (many:=(many:Nat)) [48,49] (by omega);have FT:=Tf ns a (many:Nat) (sg:=[48,49]) (by decide);generalize rB ns a (many:Nat) [48,49]=w0 at e0 FW FT;have hc0:w0.count 120=0:=B6.mpr λz=>by
  have:=FT 120 z;simp at this
 have p1:=lj (ns:=ns) (k:=a+40) (many:=(most:Int)+1) (by omega) (by omega);have q1:=j9 ns (a+40) (many:=(most:Int)+1) (by omega);have q2:=mz ns (a+40) (many:=(most:Int)+1) (by omega);generalize df ns (a+40) ((most:Int)+1)=n at p1 q1 q2;have hr:(dz 0 n).length=n.toNat:=by simp [dz]
 obtain⟨ρ,e,l,b5,b6,rfl,hl,hv,hc⟩:=GR (g:=aw 5) (b:=IU) (dz 0 n) (λi ρ=>∃l b5 b6,ρ=[.val (gy ns),.val (.int a),.val (.int (many:Nat)),.val (.int (most:Nat)),.val (.str l),b5,b6]/\l.length=many/\gh l/\l.count 120<=i) [.val (gy ns),.val (.int a),.val (.int (many:Nat)),.val (.int (most:Nat)),.val (.str w0),.no,.no] ⟨w0,.no,.no,rfl,by omega,λc hc=>by have:=FT c hc; simp at this; omega,by omega⟩ (by
  rintro j d ρ hd ⟨l,b5,b6,rfl,hl,hv,hc⟩;have hj:j<n.toNat:=by have:=(cP.mp hd).1; omega
  have ed:d=.int (0+(j:Nat)):=by
   simp [dz,hj] at hd;rw [← hd];simp
  subst ed;have p2:=lj (ns:=ns) (k:=a+41+(0+(j:Nat))) (many:=(many:Nat)) (by omega) (by omega);have r1:=j9 ns (a+41+(0+(j:Nat))) (many:=(many:Nat)) (by omega);have r2:=mz ns (a+41+(0+(j:Nat))) (many:=(many:Nat)) (by omega);obtain⟨t,ht⟩:∃t:Nat,df ns (a+41+(0+(j:Nat))) (many:Nat)=t:=⟨_,(rn r1).symm⟩
  rw [ht] at p2 r1 r2;refine⟨_,?_,l.take t++[120]++l.drop (t+1),.val (.int (0+(j:Nat))),.val (.int (t:Nat)),rfl,?_,?_,?_⟩
  ·unfold IU
   exists aA,p2
   rw [xw _ (j:=t) rfl,j0 (by simp; omega)]
   exists ev
   rw [QH _ (j:=t+1) (by omega),j0 (by simp; omega)]
   exists ev
  ·simp
   omega
  ·intro c hm
   simp only [eJ,jm] at hm;rcases hm with (hm | hm) | hm
   ·exact hv c (nD hm)
   ·exact .inr (.inr hm)
   ·exact hv c (B9 hm)
  ·have:=count_set l t
   omega)
 refine⟨l,?_,hl,hv,by omega⟩;unfold BI Ju
 exists aA,e0,p1
 rw [cI (by omega)]
 exists aA,e
noncomputable def gm (g:Nat->Nat->Nat)(a b:List Nat):List Nat:=(bf a.length).map λi=>g (lv a i) (lv b i)
theorem ads (g:Nat->Nat->Nat)(a b:List Nat):(gm g a b).length=a.length:=by simp [gm]
theorem EN {l:List Nat}(h:gh l){i:Nat}(hi:i<l.length):lv l i=48∨lv l i=49∨lv l i=120:=h _ (by simp [lv,hi])
noncomputable def Kn (l:List Nat):Prop:=∀c∈l,c=48∨c=49
theorem Rc {w o:List Nat}(hw:gh w)(h:o∈aL w):Kn o:=by
 obtain⟨h1,h2⟩:=(HJ w o).mp h;intro c hc;obtain⟨i,hi,rfl⟩:=vf.mp hc;have e:o[i]=lv o i:=by simp [lv,hi]
 rw [e];have:=h2 i (by omega);unfold opts at this
 split at this
 ·simpa using this
 ·rename_i q
  have z:lv o i=lv w i:=by simpa using this
  rcases EN hw (i:=i) (by omega) with g | g | g
  ·left; omega
  ·right; omega
  ·exact absurd g q
noncomputable def gc (c d:Nat):Bool:=!decide (c=d)&&(!decide (c=120)&&!decide (d=120))
noncomputable def dM (c d:Nat):Nat:=if c=120 then d else c
noncomputable def dO (a b:List Nat):List Nat:=(bf a.length).filter λi=>gc (lv a i) (lv b i)
theorem QP (a b:List Nat):(dO a b).length<=a.length:=by
 have:=Ca (λi=>gc (lv a i) (lv b i)) (bf a.length);simpa [dO] using this
theorem ae0 (c d:Nat):BG [.str [c],.str [d]]=.ok (.bl (gc c d)):=by
 unfold BG Jq gc
 by_cases h1:c=d
 ·exists aA,e1,h1,qW
 ·by_cases h2:c=120
  ·exists aA,e1,h1,h2,l7,qW
   have:¬ (120:Nat)=d:=by omega
   exists aA,this,e1,l7,qW
  ·exists aA,e1,h1,h2,l7
theorem QO {a b:List Nat}(h:a.length=b.length)(ha:a.length<=1000):BF [.str a,.str b]=.ok (.lst ((dO a b).map fun(i:Nat)=>.int (i:Nat))):=by
 have hl:=QP a b;unfold BF Jp
 exists ev
 rw [cR (by simp)]
 exists aA,JW h
 rw [cI (by omega)]
 exists ev
 simp only [dC];rw [aeU (λi=>if gc (lv a i) (lv b i)=true then some (.int (i:Nat)) else none)]
 ·rw [GV,show ((a.length:Int) - 0).toNat=a.length by omega,show (bf a.length).filter (λi=>gc (lv a i) (lv b i))=dO a b from rfl,gK,bt,cR (by simp; omega)]
  exists ev
 ·intro i hi
  have a1:=Q6 (l:=a) (k:=0+(i:Int)) (i:=i) (by omega) (by omega);have a2:=Q6 (l:=b) (k:=0+(i:Int)) (i:=i) (by omega) (by omega);have e0:(0:Int)+(i:Nat)=(i:Nat):=by omega
  exists aA,nc,m9,bT,a1,a2,ae0
  cases gc (lv a i) (lv b i) with
  |false=>exists aA,Hz; rfl
  |true=>exists aA,m8,kA,e0; rfl
theorem afT {f:aa->M Dt}{ρ:aa}:CW f ρ=(f ρ).bd y0:=.trans rfl rfl
theorem afU {ds:List Dt}:y0 (.lst ds)=ck (ds.length<=50/\ds.all vE=true) (.ok ()):=.trans rfl rfl
theorem adw {te:aa->M Dt}{g:Nat->Nat->Nat}(hF:∀c d:Nat,te [.val (.str [c]),.val (.str [d])]=.ok (.str [g c d])){a b:List Nat}{ρ:aa}(h:a.length=b.length)(ha:a.length<=1000):dC 2 [] (cH 2 (bp (aw 0) (bp (aw 1) dj))) dU te ρ (iQ (cL a) (cL b))=.ok (.lst ((bf a.length).map λi=>.str [g (lv a i) (lv b i)])):=by
 rw [JN h];simp only [dC];rw [m7 (fun(i:Nat)=>Dt.tup [.str [lv a i],.str [lv b i]]) (λi=>some (.str [g (lv a i) (lv b i)]))]
 ·rw [qt,gK,bt,cR (by simp; omega)]
 ·intro i hi
  exists aA,nc,m9,bT,m8,hF,kA
theorem aaA {a b:List Nat}(h:a.length=b.length)(ha:a.length<=20)(hc:dO a b=[]):uE [.str a,.str b]=.ok (.str (gm dM a b)):=by
 unfold uE BN
 exists aA,QO h (by omega),hc
 rw [show decide ((0:Int)<((0:Nat):Int))=false from rfl]
 exists aA,Rj,Rp,Rm
 rw [adw (g:=dM) (λc d=>by
  unfold dM
  by_cases q:c=120
  ·have e:(c=120)=True:=by simpa using q
   rw [if_pos q]
   exists aA,e1,e
  ·have e:(c=120)=False:=by simpa using q
   rw [if_neg q]
   exists aA,e1,e) h (by omega)]
 exists aA,Kl,A5
 rw [j0 (by simp; omega)]
 exists ev
 rfl
theorem aaB {a b:List Nat}(h:a.length=b.length)(ha:a.length<=20)(hc:dO a b≠[]):uE [.str a,.str b]=.ex 0:=by
 have hl:=QP a b;have hp:=oE.mpr hc;unfold uE BN;have q:((0:Int)<((dO a b).length:Nat))=True:=by simp; omega
 exists aA,QO h (by omega),q,afT,afU
 rw [cI]
 ·exists ev
 ·refine⟨by omega,?_⟩
  rw [dR];intro d hd;obtain⟨i,hi,rfl⟩:=aX.mp hd;have c8:i<a.length:=by
   have:=(oS.mp hi).1;simpa using this
  simp only [vE,eY,decide_eq_true_eq];omega
theorem adt {g g':Nat->Nat->Nat}{a b a' b':List Nat}(hl:a.length=a'.length)(h:∀i,i<a.length->g (lv a i) (lv b i)=g' (lv a' i) (lv b' i)):gm g a b=gm g' a' b':=by
 unfold gm;rw [← hl];refine nC λi hi=>h i (by simpa using hi)
theorem Hu {a b:List Nat}:dO a b=[]↔∀i,i<a.length->gc (lv a i) (lv b i)=false:=by
 unfold dO;rw [Ce];constructor
 ·intro h i hi
  simpa using h i (by simpa using hi)
 ·intro h i hi
  simpa using h i (by simpa using hi)
theorem ae2 (c d:Nat):gc c d=gc d c:=by
 unfold gc
 by_cases h1:c=d
 ·subst h1; rfl
 ·have:¬ d=c:=λz=>h1 z.symm
  simp [h1,this,Bool.and_comm]
theorem ae1 {a b:List Nat}(h:a.length=b.length):dO a b=dO b a:=by
 unfold dO;rw [← h];exact B0 λi _=>ae2 _ _
theorem aaF {c d:Nat}(h:gc c d=false):dM c d=dM d c:=by
 unfold dM;simp only [gc,Bool.and_eq_false_iff,B5,decide_eq_true_eq] at h
 split <;> split <;> omega
theorem aak {g:Nat->Nat->Nat}{a b:List Nat}(hg:∀{c d:Nat},(c=48∨c=49∨c=120)->(d=48∨d=49∨d=120)->g c d=48∨g c d=49∨g c d=120)(ha:gh a)(hb:gh b)(h:a.length=b.length):gh (gm g a b):=by
 intro c hc;simp only [gm,aX,uS] at hc;obtain⟨i,hi,rfl⟩:=hc;exact hg (EN ha hi) (EN hb (by omega))
theorem aaE {c d:Nat}(hc:c=48∨c=49∨c=120)(hd:d=48∨d=49∨d=120):dM c d=48∨dM c d=49∨dM c d=120:=by
 unfold dM
 split <;> assumption
theorem aaD {c d s:Nat}(hc:c=48∨c=49∨c=120)(hd:d=48∨d=49∨d=120)(h:gc c d=false):(opts c).filter (λs=>decide (s∈opts d))=opts (dM c d):=by
 rcases hc with rfl | rfl | rfl <;> rcases hd with rfl | rfl | rfl <;> first | rfl | (revert h; decide)
theorem adO (c d:Nat)(a b:List Nat):(aL (c::a)).filter (λo=>decide (o∈aL (d::b)))=((opts c).filter λs=>decide (s∈opts d)).flatMap λs=>((aL a).filter λo=>decide (o∈aL b)).map (s :: ·):=by
 have hm:∀s r,(s::r∈aL (d::b))↔(s∈opts d/\r∈aL b):=by
  intro s r;simp only [aL,oV,aX];constructor
  ·rintro⟨s',h1,r',h2,e⟩
   cases e;exact⟨h1,h2⟩
  ·rintro⟨h1,h2⟩
   exact⟨s,h1,r,h2,rfl⟩
 show List.filter (λo=>decide (o∈aL (d::b))) ((opts c).flatMap λs=>(aL a).map (s :: ·))=_;generalize opts c=L
 induction L with
 |nil=>rfl
 |cons s L ih=>
  rw [l9,List.filter_append,ih,uZ];have e:((aL a).map (s :: ·)).filter (λo=>decide (o∈aL (d::b)))=if s∈opts d then ((aL a).filter λo=>decide (o∈aL b)).map (s :: ·) else []:=by
   generalize aL a=R
   induction R with
   |nil=>simp
   |cons r R ihR=>
    rw [a5,uZ,ihR,uZ]
    by_cases h1:s∈opts d <;> by_cases h2:r∈aL b <;> simp [hm,h1,h2]
  rw [e]
  by_cases h:s∈opts d <;> simp [h]
theorem MX:∀{a b:List Nat},a.length=b.length->gh a->gh b->dO a b=[]->(aL a).filter (λo=>decide (o∈aL b))=aL (gm dM a b)
 | [],[],_,_,_,_=>by simp [aL,gm]
 |c::a,d::b,h,ha,hb,hc=>by
  have gG:=Hu.mp hc;have h0:=gG 0 (by simp);rw [wo,wo] at h0;have ih:=MX (a:=a) (b:=b) (by simpa using h) (λx hx=>ha x (bR _ hx)) (λx hx=>hb x (bR _ hx)) (Hu.mpr λi hi=>by
   have:=gG (i+1) (by simpa using hi)
   rwa [pM,pM] at this)
  rw [adO,ih,aaD (s:=0) (ha c bu) (hb d bu) h0];have e:gm dM (c::a) (d::b)=dM c d::gm dM a b:=by
   unfold gm;rw [cQ,Cd,a5,dw];simp only [Function.comp_def,wo,pM]
  rw [e];rfl
 | [],_::_,h,_,_,_=>by simp at h
 |_::_,[],h,_,_,_=>by simp at h
noncomputable def Jj:SM:=(bN (aG Bo (ah (dg 1 [] (Au (ae 0)) (aw 0) dU (nU pL (ae 0) (ah (pC (.str [120])) av))) av)))
noncomputable def qI:List Dt->M Dt:=cu 1 0 Jj
noncomputable def Jf:SM:=(aU (sq 3 (ae 0))
 (aU (pf 3 (ae 1) (ae 2))
 (nM 3 (bN (ae 3)))))
noncomputable def xZ:List Dt->M Dt:=cu 3 1 Jf
noncomputable def By:SM:=(zH 3 (dg 1 [1,4] (g8 (ae 2)) (aw 0) dU (aG xZ (ah (ae 2) (ah (ae 1) (ah (ae 0) av))))))
noncomputable def Ji:SM:=(aU (zE 3 av)
 (aU (lg (g8 (ae 0)) (aw 4) By)
 (nM 3 (bN (ae 3)))))
noncomputable def x6:List Dt->M Dt:=cu 3 2 Ji
noncomputable def oz:SM:=(bU (aG x6 (ah (ae 2) (ah (ae 3) (ah (ae 4) av)))) (aw 2))
noncomputable def ye:SM:=(aU (bU (dg 2 [] (n5 (ae 0)) (cH 2 (bp (aw 0) (bp (aw 1) dj))) dU (nS (ah (ae 0) (ah (aG uG (ah (ae 1) av)) av)))) (aw 1))
 (aU (bU (gC (ah sH av)) (aw 2))
 (aU (lg (g8 (ae 1)) (cH 2 (bp (aw 3) (bp (aw 4) dj))) oz)
 (bN (ae 2)))))
noncomputable def oB:List Dt->M Dt:=cu 1 4 ye
noncomputable def Jn:SM:=(bN (vX (p2 oEq (aG eF (ah (ae 0) av)) (aG eF (ah (ae 1) av))) (aG BE (ah (ae 0) (ah (ae 1) av)))))
noncomputable def x9:List Dt->M Dt:=cu 2 0 Jn
noncomputable def BL:SM:=(bN (p2 oEq (aG qI (ah (ae 0) av)) (pC (.int 0))))
noncomputable def ni:List Dt->M Dt:=cu 1 0 BL
noncomputable def Jt:SM:=(bN (aG qD (ah (dg 2 [0,1,3,4] (fH tR (ah (ae 2) av)) (cH 2 (bp (aw 0) (bp (aw 1) dj))) dU (nS (ah (ae 1) (ah (aG BI (ah (ae 2) (ah (p2 bI (ae 3) (p2 dY (pC (.int 60)) (ae 0))) (ah (ae 4) (ah (ae 5) av))))) av)))) av)))
noncomputable def ya:List Dt->M Dt:=cu 5 0 Jt
end Pg
namespace L2
section
variable {f g h fk fv:aa->M Dt}{ρ:aa}{kvs:aj}{l v:List Nat}{d e k:Dt}{i:Nat}{it:IM}{gm:GM}{s:SM}{ds:List Dt}
noncomputable def Nr:Dt->M (List Dt)
 |.af kvs=>.ok (jB kvs)
 |_=>.bad
noncomputable def Nb:Dt->M (List Dt)
 |.af kvs=>.ok (e7 kvs)
 |_=>.bad
noncomputable def Nt:Dt->M (List Dt)
 |.af kvs=>.ok (fW kvs)
 |_=>.bad
theorem SI:wJ f ρ=(f ρ).bd Nr:=by
 unfold wJ
 congr 1
 funext d
 cases d <;> rfl
theorem SH:Au f ρ=(f ρ).bd Nb:=by
 unfold Au
 congr 1
 funext d
 cases d <;> rfl
theorem SJ:n5 f ρ=(f ρ).bd Nt:=by
 unfold n5
 congr 1
 funext d
 cases d <;> rfl
theorem Sw:Nr (.af kvs)=.ok (jB kvs):=.trans rfl rfl
theorem Ss:Nb (.af kvs)=.ok (e7 kvs):=.trans rfl rfl
theorem Sx:Nt (.af kvs)=.ok (fW kvs):=.trans rfl rfl
theorem SX:iY (.af kvs) (.str l)=qB kvs l:=.trans rfl rfl
theorem qA (h:aE kvs l=some v):qB kvs l=.ok (.str v):=by unfold qB; rw [h]
theorem SG:v5 (.str l) (.af kvs)=.ok (.bl (aE kvs l).isSome):=.trans rfl rfl
theorem Sr:ZH (.str l) (.af kvs)=.ok (.bl (!(aE kvs l).isSome)):=.trans rfl rfl
noncomputable def gtD (e:Dt):Option (List Nat)->Dt
 |some v=>.str v
 |none=>e
theorem SK:qm kvs e (.str l)=.ok (gtD e (aE kvs l)):=by
 show M.ok (match aE kvs l with | some v=>Dt.str v | none=>e)=_
 cases aE kvs l <;> rfl
noncomputable def Nv (g:aa->M Dt)(ρ:aa):Dt->M Dt
 |.af kvs=>(g ρ).bd (qm kvs .ax)
 |_=>.bad
theorem SO:Me f g ρ=(f ρ).bd (Nv g ρ):=by
 unfold Me
 congr 1
 funext d
 cases d <;> rfl
theorem SD:Nv g ρ (.af kvs)=(g ρ).bd (qm kvs .ax):=.trans rfl rfl
noncomputable def E9 (kvs:aj)(k e:Dt):M Dt:=qm kvs e k
noncomputable def Fb (h:aa->M Dt)(ρ:aa)(kvs:aj)(k:Dt):M Dt:=(h ρ).bd (E9 kvs k)
noncomputable def Nu (g h:aa->M Dt)(ρ:aa):Dt->M Dt
 |.af kvs=>(g ρ).bd (Fb h ρ kvs)
 |_=>.bad
theorem SN:Md f g h ρ=(f ρ).bd (Nu g h ρ):=by
 unfold Md
 congr 1
 funext d
 cases d <;> rfl
theorem SA:Nu g h ρ (.af kvs)=(g ρ).bd (Fb h ρ kvs):=.trans rfl rfl
theorem Sz:Fb h ρ kvs k=(h ρ).bd (E9 kvs k):=.trans rfl rfl
theorem Sy:E9 kvs k e=qm kvs e k:=.trans rfl rfl
noncomputable def Nm (i:Nat)(ρ:aa):Dt->M Fl
 |.af kvs=>.ok (.nx (ρ.set i (.bP kvs)))
 |_=>.bad
theorem So:sq i f ρ=(f ρ).bd (Nm i ρ):=by
 unfold sq
 congr 1
 funext d
 cases d <;> rfl
theorem Su:Nm i ρ (.af kvs)=.ok (.nx (ρ.set i (.bP kvs))):=.trans rfl rfl
theorem Sq:D8 i ρ=.ok (.nx (ρ.set i (.bP []))):=.trans rfl rfl
theorem Sk:pf i fk fv ρ=Bh i fk fv ρ ρ[i]?:=.trans rfl rfl
noncomputable def NB (i:Nat)(fk:aa->M Dt)(ρ:aa)(kvs:aj):Dt->M Fl
 |.str v=>(fk ρ).bd (uk i ρ kvs v)
 |_=>.bad
theorem SV:Bh i fk fv ρ (some (.bP kvs))=(fv ρ).bd (NB i fk ρ kvs):=by
 show ((fv ρ).bd λd=>(Km d).bd λv=>(fk ρ).bd (uk i ρ kvs v))=_
 congr 1
 funext d
 cases d <;> rfl
theorem SF:NB i fk ρ kvs (.str v)=(fk ρ).bd (uk i ρ kvs v):=.trans rfl rfl
theorem SW:uk i ρ kvs v (.str l)=ck (kvs.length<10000) (.ok (.nx (ρ.set i (.bP (a7 kvs l v))))):=.trans rfl rfl
theorem Sl:Wl i fk ρ=Em i fk ρ ρ[i]?:=.trans rfl rfl
theorem Sm:Em i fk ρ (some (.bP kvs))=(fk ρ).bd (En i ρ kvs):=.trans rfl rfl
theorem Sn:En i ρ kvs (.str l)=ck ((aE kvs l).isSome=true) (.ok (.nx (ρ.set i (.bP (Qi kvs l))))):=.trans rfl rfl
theorem Sj:pA i ρ (some (.bP kvs))=ρ.set i (.val (.af kvs)):=.trans rfl rfl
theorem SY:qD [.af kvs]=.ok (.af kvs):=.trans rfl rfl
theorem JP:qD [.lst ds]=zP (iU ds):=.trans rfl rfl
theorem JO:zP (some kvs)=.ok (.af (ly [] kvs)):=.trans rfl rfl
theorem CL:sH ρ=.ok (.af []):=.trans rfl rfl
theorem Sf:TM f ρ=(f ρ).bd CU:=.trans rfl rfl
theorem Se:CU (.str l)=ck (l.length<=50/\(l.all λc=>decide (c<1000))=true) (.ok ()):=.trans rfl rfl
noncomputable def Nx (gm:GM)(s:SM)(ρ:aa)(ds:List Dt):M Fl:=ic gm s ds ρ
theorem SQ:vG it gm s ρ=(it ρ).bd (Nx gm s ρ):=.trans rfl rfl
theorem SE:Nx gm s ρ ds=ic gm s ds ρ:=.trans rfl rfl
noncomputable def Nw (gm:GM)(s:SM)(ds:List Dt)(ρ:aa):M Fl:=(s ρ).bd (fork (ic gm s ds))
theorem CK:ic gm s (d::ds) ρ=(gm d ρ).calm.bd (Nw gm s ds):=.trans rfl rfl
theorem CJ:Nw gm s ds ρ=(s ρ).bd (fork (ic gm s ds)):=.trans rfl rfl
theorem Si {ns:List Int}(h:lz ds=some ns)(hl:ns.length<=1000)(hb:∀n∈ns,-1000000<=n/\n<=1000000):Bo [.lst ds]=.ok (.int ns.sum):=by
 show Dg (lz ds)=_;rw [h];refine if_pos ?_;refine⟨hl,dR.mpr λn hn=>?_⟩;have:=hb n hn;simp [this]
theorem ints_map {α:Type}(f:α->Int):∀l:List α,lz (l.map λa=>Dt.int (f a))=some (l.map f)
 | []=>rfl
 |a::l=>by
  show (lz (l.map λa=>Dt.int (f a))).map (f a :: ·)=_;rw [ints_map f l];rfl
theorem SR:zH i f ρ=Ba i f ρ ρ[i]?:=.trans rfl rfl
theorem SS:Ba i f ρ (some (.own ds))=(f ρ).bd (Bb i ρ ds):=.trans rfl rfl
theorem SU {es:List Dt}:Bb i ρ ds (.lst es)=ck (ds.length+es.length<=10000) (.ok (.nx (ρ.set i (.own (ds++es))))):=.trans rfl rfl
end
end L2
local macro_rules
 | `(tactic| exists dN, $xs:term,*) => `(tactic| exists aA, SI, SH, SJ, Sw, Ss, Sx, SX, SG, Sr, SK, SO, SD, SN, SA, Sz, Sy, So, Su, Sq, Sk, SV, SF, SW, Sl, Sm, Sn, Sj, SY, JP, JO, CL, Sf, Se, SQ, SE, SR, SS, SU, $xs,*)
 | `(tactic| exists dv) => `(tactic| try exists dN, eq_self)
namespace Pg
open L2
theorem ET (k:List Nat):aE ([]:aj) k=none:=rfl
theorem fG (p:List Nat×List Nat)(r:aj)(k:List Nat):aE (p::r) k=if p.1=k then some p.2 else aE r k:=by
 unfold aE;rw [kI]
 by_cases h:p.1=k
 ·have:(p.1==k)=true:=by simpa using h
  rw [this,if_pos h]; rfl
 ·have:(p.1==k)=false:=by simpa using h
  rw [this,if_neg h]
noncomputable abbrev PW:=List Nat×List Nat
noncomputable abbrev Nd (kvs:aj):Prop:=(kvs.map (·.1)).Nodup
theorem jz:∀{kvs:aj}{p:List Nat×List Nat},Nd kvs->p∈kvs->aE kvs p.1=some p.2
 |q::r,p,hn,hp=>by
  obtain⟨h1,h2⟩:=fz.mp (show (q.1::r.map (·.1)).Nodup from hn);rw [fG];rcases aO.mp hp with e | e
  ·rw [← e,if_pos rfl]
  ·rw [if_neg λz=>h1 (aX.mpr ⟨p,e,z.symm⟩)]
   exact jz h2 e
theorem Tb {kvs:aj}{n w:List Nat}(h:kvs.length<10000):xZ [.af kvs,.str n,.str w]=.ok (.af (a7 kvs n w)):=by
 unfold xZ Jf
 exists dv
 rw [cI h]
 exists dv
theorem JY {kvs:aj}(hl:kvs.length<=1000)(h:∀p∈kvs,p.2.length<=1000):qI [.af kvs]=.ok (.int ((kvs.map λp=>((p.2.count 120:Nat):Int)).sum)):=by
 unfold qI Jj
 exists dv
 simp only [dC];rw [show e7 kvs=kvs.map (λp=>Dt.str p.2) from rfl,m7 (λp:PW=>Dt.str p.2) (λp=>some (.int (p.2.count 120:Nat)))]
 ·rw [qt,gK,bt,cR (by simp; omega)]
  have hm:=Si (ints_map (λp:List Nat×List Nat=>((p.2.count 120:Nat):Int)) kvs) (by simpa using hl) (by
   intro n hn;obtain⟨q,hq,rfl⟩:=aX.mp hn;have h1:=h q hq;have h2:q.2.count 120<=q.2.length:=List.count_le_length
   omega)
  exists aA,hm
 ·intro p hp
  exists aA,nc,m9,bT,m8,kA
theorem sC {kvs:aj}{k v:List Nat}(h:∀p∈kvs,p.1≠k):a7 kvs k v=kvs++[(k,v)]:=by
 unfold a7;rw [if_neg];intro z;obtain⟨p,hp,e⟩:=yt.mp z;exact h p hp (by simpa using e)
theorem O3 (f:PW->List Nat):∀(r acc:aj),(∀p∈r,∀q∈acc,q.1≠p.1)->Nd r->r.foldl (λa p=>a7 a p.1 (f p)) acc=acc++r.map λp=>(p.1,f p)
 | [],acc,_,_=>by simp
 |p::r,acc,h,hn=>by
  obtain⟨h1,h2⟩:=fz.mp (show (p.1::r.map (·.1)).Nodup from hn);rw [kH,sC (h p bu),O3 f r _ _ h2,a5,rh]
  ·rfl
  ·intro q hq a ha z
   rcases eJ.mp ha with ha | ha
   ·exact h q (bR _ hq) a ha z
   ·have:a=(p.1,f p):=by simpa using ha
    subst this;exact h1 (aX.mpr ⟨q,hq,z.symm⟩)
theorem sE (kvs:aj)(k v:List Nat):(a7 kvs k v).length<=kvs.length+1:=by
 unfold a7
 split <;> simp
noncomputable def KU (a:List Nat)(t:Nat):List Nat:=(a.drop t).take 1
noncomputable def dT (a b:List Nat):List Nat:=(bf (max a.length b.length)).filter λt=>!decide (KU a t=KU b t)
noncomputable def gd (a:aj)(n:List Nat):List Nat:=(aE a n).getD []
theorem Hb (l:List (List Nat)):f9 (l.map Dt.str)=(bf l.length).map λi=>Dt.tup [.int (i:Nat),.str (l.getD i [])]:=by
 apply nz
 intro i;unfold f9
 by_cases h:i<l.length
 ·simp [yJ,h]
 ·simp [yJ,h]
theorem LP {α:Type}(f g:α->List Nat):∀l:List α,iU (l.map λa=>Dt.tup [.str (f a),.str (g a)])=some (l.map λa=>(f a,g a))
 | []=>rfl
 |a::l=>by
  show (iU (l.map λa=>Dt.tup [.str (f a),.str (g a)])).map ((f a,g a) :: ·)=_;rw [LP f g l];rfl
theorem aae {kvs:aj}(h:Nd kvs):ly [] kvs=kvs:=by
 unfold ly;rw [O3 (λp=>p.2) kvs [] (by simp) h];simp
theorem Qo {α:Type}(f g:α->List Nat)(l:List α)(h:(l.map f).Nodup):qD [.lst (l.map λa=>Dt.tup [.str (f a),.str (g a)])]=.ok (.af (l.map λa=>(f a,g a))):=by
 rw [JP,LP f g,JO,aae];show (List.map _ (l.map _)).Nodup;rw [dw];exact h
theorem range_getD (l:List (List Nat)):(bf l.length).map (λi=>l.getD i [])=l:=by
 apply nz
 intro i
 by_cases h:i<l.length
 ·simp [h]
 ·simp [h]
theorem mem_keys {kvs:aj}{n:List Nat}:n∈kvs.map (·.1)↔(aE kvs n).isSome=true:=by
 induction kvs with
 |nil=>simp [ET]
 |cons p r ih=>
  rw [fG,a5,aO,ih]
  by_cases h:p.1=n
  ·simp [h]
  ·simp [h,cz h]
theorem Qu (l:List (List Nat)):dep (.lst (l.map Dt.str))<=50:=by
 have:eU (l.map Dt.str)=0:=Hl (λa=>a) l;simp [dep,this]
theorem ael:∀(n:Nat) (ps:List (List Nat)),ps.length=n->ps.eraseDups.Nodup:=by
 intro n
 induction n using Nat.strongRecOn with
 |_ n ih=>
  intro ps hn
  cases ps with
  |nil=>simp
  |cons x l=>
   rw [List.eraseDups_cons];have h1:=Ca (λb=>!b==x) l;refine fz.mpr ⟨λz=>?_,ih _ (by simp at hn; omega) _ rfl⟩;have:=B4.mp z;simp at this
theorem aaq (a b:aj)(m:List Nat):aE (a++b) m=match aE a m with | some v=>some v | none=>aE b m:=by
 induction a with
 |nil=>rfl
 |cons p r ih=>
  show aE (p::(r++b)) m=_;rw [fG,fG]
  by_cases h:p.1=m
  ·rw [if_pos h,if_pos h]
  ·rw [if_neg h,if_neg h]; exact ih
theorem MR {kvs:aj}{n:List Nat}:aE kvs n=none↔∀p∈kvs,p.1≠n:=by
 constructor
 ·intro h p hp e
  have h1:n∈kvs.map (·.1):=aX.mpr ⟨p,hp,e⟩;rw [mem_keys,h] at h1;cases h1
 ·intro h
  cases e:aE kvs n with
  |none=>rfl
  |some v=>
   have h1:(aE kvs n).isSome=true:=by rw [e]; rfl
   rw [← mem_keys] at h1;obtain⟨p,hp,e1⟩:=aX.mp h1;exact absurd e1 (h p hp)
theorem jA:∀{kvs:aj}{n v:List Nat},aE kvs n=some v->(n,v)∈kvs
 | [],_,_,h=>nomatch h
 |p::r,n,v,h=>by
  rw [fG] at h
  by_cases e:p.1=n
  ·rw [if_pos e] at h
   cases h;subst e;exact bu
  ·rw [if_neg e] at h
   exact bR _ (jA h)
theorem afC (kvs:aj)(n:List Nat):(kvs.any λp=>p.1==n)=(aE kvs n).isSome:=by
 induction kvs with
 |nil=>rfl
 |cons p r ih=>
  rw [kG,fG,ih]
  by_cases h:p.1=n
  ·rw [if_pos h,h,beq_self_eq_true]; rfl
  ·rw [if_neg h,beq_eq_false_iff_ne.mpr h]; rfl
theorem aap (kvs:aj)(n w m:List Nat):aE (kvs.map λp=>if (p.1==n)=true then (p.1,w) else p) m=if m=n then (aE kvs n).map λ_=>w else aE kvs m:=by
 induction kvs with
 |nil=>by_cases h:m=n <;> simp [ET,h]
 |cons p r ih=>
  rw [a5,fG,ih]
  by_cases h:p.1=n
  ·simp only [h,beq_self_eq_true,if_true]
   by_cases h2:m=n
   ·subst h2; simp [fG,h]
   ·rw [if_neg (λz=>h2 z.symm),if_neg h2,if_neg h2,fG,if_neg (λz=>h2 (by rw [← z,h]))]
  ·simp only [beq_eq_false_iff_ne.mpr h,if_false,cF]
   by_cases h2:m=n
   ·subst h2
    rw [if_neg h,if_pos rfl,if_pos rfl,fG,if_neg h]
   ·rw [if_neg h2,if_neg h2,fG]
theorem aao (kvs:aj)(n w m:List Nat):aE (a7 kvs n w) m=if m=n then some w else aE kvs m:=by
 unfold a7;rw [afC]
 cases e:aE kvs n with
 |some v=>
  simp only [rj,if_true];rw [aap,e];rfl
 |none=>
  simp only [yB,cF,if_false];rw [aaq]
  by_cases h:m=n
  ·subst h; rw [e,if_pos rfl]; simp [fG]
  ·rw [if_neg h]
   cases aE kvs m with
   |some v=>rfl
   |none=>simp [fG,ET]; exact λz=>h z.symm
noncomputable abbrev Tj:List Nat:=[110,111]
noncomputable abbrev To:List Nat:=[98,111,116,104]
noncomputable abbrev Tn:List Nat:=[101,105,116,104,101,114]
noncomputable abbrev Ti:List Nat:=[117,110,108,105,107,101]
noncomputable def OS (g:List Nat)(n:Nat):Prop:=(g=Tj/\n=1)∨((g=To∨g=Tn∨g=Ti)/\n=2)
noncomputable instance (g:List Nat) (n:Nat):Decidable (OS g n):=by unfold OS; infer_instance
theorem aeV {g:GM}{tc:aa->M Bool}{te:aa->M Dt}{ρ0:aa}{d:Dt}{ds:List Dt}:jJ g tc te ρ0 (d::ds)=(g d ρ0).calm.bd λaP=>(tc aP).bd λb=>if b=true then (te aP).bd λx=>(jJ g tc te ρ0 ds).bd λxs=>.ok (x::xs) else jJ g tc te ρ0 ds:=rfl
noncomputable abbrev iD (l:List Nat):List Dt:=l.map fun(i:Nat)=>Dt.int (i:Nat)
theorem mV {α:Type}{k:Nat}{fr:List Nat}{g:GM}{tc:aa->M Bool}{te:aa->M Dt}{ρ:aa}(e:α->Dt)(p:α->Bool)(r:α->Dt)(R:α->aa)(xs:List α)(hl:xs.length<=10000)(hg:∀x∈xs,g (e x) (bT k fr ρ)=.ok (R x))(hp:∀x∈xs,tc (R x)=.ok (p x))(hr:∀x∈xs,p x=true->te (R x)=.ok (r x)) :
  dC k fr g tc te ρ (xs.map e)=.ok (.lst ((xs.filter p).map r)):=by
 simp only [dC];rw [m7 e (λx=>if p x=true then some (r x) else none)]
 ·rw [GV,gK,bt,cR]
  rw [cg];exact bH (Ca _ _) hl
 ·intro x hx
  rw [nc,hg x hx,bt,m9,hp x hx,bt]
  cases h:p x with
  |false=>rw [Hz]; simp
  |true=>rw [m8,hr x hx h,bt,kA]; simp
theorem Lf {a b:Nat}(h:a<=b):dz (a:Nat) (b:Nat)=iD ((bf (b - a)).map (a + ·)):=by
 unfold dz;rw [show (((b:Nat):Int) - (a:Nat)).toNat=b - a by omega,iD,dw]
 apply nC
 intro i _;show Dt.int ((a:Nat)+((i:Nat):Int))=Dt.int (((a+i:Nat)):Int)
 congr 1
noncomputable def ru (w:List Nat):List Nat:=(Tz w).map (1 + ·)
noncomputable def run (W:List Nat)(c i:Nat):Nat:=((W.drop i).takeWhile λx=>decide (x=c)).length
noncomputable def inr (w:List Nat):List (Nat×Nat):=(((Ko w).zip (enL w)).drop 1).dropLast
theorem dx {s:aj}{n a:List Nat}(h:aE s n=some a):qB s n=.ok (.str a):=by
 unfold qB;rw [h]
theorem aeh {acc:List aj}{n:List Nat}{ws:List (List Nat)}{s:aj}{os:List Dt}(hs:s.length<1000)(hw:ws.length<=1000)(ho:os.length+ws.length<=10000)(b0 b1 b2:Bd) :
  By [b0,.val (.str n),.val (.lst (ws.map Dt.str)),.own os,.val (.af s)]=.ok (.nx [b0,.val (.str n),.val (.lst (ws.map Dt.str)),.own (os++(ws.map λv=>Dt.af (a7 s n v))),.val (.af s)]):=by
 unfold By;have c:dC 1 [1,4] (aw 0) dU (aG xZ (ah (ae 2) (ah (ae 1) (ah (ae 0) av)))) [b0,.val (.str n),.val (.lst (ws.map Dt.str)),.own os,.val (.af s)] (ws.map Dt.str)=.ok (.lst ((ws.filter λ_=>true).map λv=>Dt.af (a7 s n v))):=by
  refine mV Dt.str (λ_=>true) (λv=>Dt.af (a7 s n v)) (λv=>[.val (.str v),.val (.str n),.val (.af s)]) ws (by omega) (λv _=>rfl) (λv _=>rfl) λv _ _=>?_
  exists aA,Tb (kvs:=s) (n:=n) (w:=v) (show s.length<10000 by omega)
 rw [yE.mpr λ_ _=>rfl] at c
 exists dN,c
 rw [cI (by omega)]
theorem Qb {n:List Nat}{ws:List (List Nat)}(hw:ws.length<=1000):∀(acc:List aj) (os:List Dt) (b0 b4:Bd),(∀s∈acc,s.length<1000)->os.length+acc.length * ws.length<=10000->∃je,d3 (aw 4) By (acc.map Dt.af) [b0,.val (.str n),.val (.lst (ws.map Dt.str)),.own os,b4]=.ok (.nx [b0,.val (.str n),.val (.lst (ws.map Dt.str)),.own (os++(acc.flatMap λs=>ws.map λv=>a7 s n v).map Dt.af),je])
 | [],os,b0,b4,_,_=>⟨b4,by simp; rfl⟩
 |s::acc,os,b0,b4,hs,hl=>by
  rw [cQ,Nat.add_mul,Nat.one_mul] at hl;have e1:=aeh (acc:=acc) (n:=n) (ws:=ws) (s:=s) (os:=os) (hs s (by simp)) hw (by omega) b0 b0 b0;obtain⟨je,ih⟩:=Qb (n:=n) hw acc (os++(ws.map λv=>Dt.af (a7 s n v))) b0 (.val (.af s)) (λx hx=>hs x (by simp [hx])) (by simp; omega);refine⟨je,?_⟩;rw [a5];have e2:os++((s::acc).flatMap λs=>ws.map λv=>a7 s n v).map Dt.af=os++(ws.map λv=>Dt.af (a7 s n v))++(acc.flatMap λs=>ws.map λv=>a7 s n v).map Dt.af:=by
   rw [l9,nt,dw,rh];rfl
  rw [e2,← ih]
  exists aA,e1
theorem JQ {n:List Nat}{ws:List (List Nat)}{acc:List aj}(hw:ws.length<=1000)(hs:∀s∈acc,s.length<1000)(hl:acc.length * ws.length<=10000):x6 [.lst (acc.map Dt.af),.str n,.lst (ws.map Dt.str)]=.ok (.lst ((acc.flatMap λs=>ws.map λv=>a7 s n v).map Dt.af)):=by
 obtain⟨b4,e⟩:=Qb (n:=n) hw acc [] (.val (.lst (acc.map Dt.af))) .no hs (by simpa using hl);rw [yq] at e;unfold x6 Ji
 exists ev
 rw [cI (by decide)]
 exists aA,e
noncomputable def pB:List aj->aj->List aj
 |acc,[]=>acc
 |acc,p::r=>pB (acc.flatMap λs=>(aL p.2).map λv=>a7 s p.1 v) r
theorem GX {α β:Type}{f:α->List β}{k:Nat}:∀{l:List α},(∀a∈l,(f a).length=k)->(l.flatMap f).length=l.length * k
 | [],_=>by simp
 |a::l,h=>by
  rw [l9,jU,GX λx hx=>h x (by simp [hx]),h a (by simp),cQ,Nat.add_mul,Nat.one_mul];omega
noncomputable abbrev oo (p:List Nat×List Nat):Dt:=.tup [.str p.1,.lst ((aL p.2).map Dt.str)]
theorem DD:∀(kvs:aj) (acc:List aj) (b0 b1 b3 b4:Bd) (B k:Nat),(∀s∈acc,s.length<=k)->k+kvs.length<1000->acc.length * (kvs.map λp=>(aL p.2).length).foldr (· * ·) 1<=B->B<=1000->(∀p∈kvs,1<=(aL p.2).length)->∃ng je,d3 (cH 2 (bp (aw 3) (bp (aw 4) dj))) oz (kvs.map oo) [b0,b1,.val (.lst (acc.map Dt.af)),b3,b4]=.ok (.nx [b0,b1,.val (.lst ((pB acc kvs).map Dt.af)),ng,je])
 | [],acc,b0,b1,b3,b4,B,k,_,_,_,_,_=>⟨b3,b4,rfl⟩
 |p::r,acc,b0,b1,b3,b4,B,k,hs,hk,hB,OP,h1=>by
  rw [cQ] at hk;rw [a5,List.foldr_cons] at hB;have hr:1<=(r.map λp=>(aL p.2).length).foldr (· * ·) 1:=by
   have:∀l:List Nat,(∀x∈l,1<=x)->1<=l.foldr (· * ·) 1:=λl=>by
    induction l with
    |nil=>intro _; exact aN _
    |cons a l ih=>intro h; exact Nat.mul_pos (h a (by simp)) (ih λx hx=>h x (by simp [hx]))
   refine this _ λx hx=>?_;obtain⟨q,hq,rfl⟩:=aX.mp hx;exact h1 q (by simp [hq])
  have hp:=h1 p (by simp);rw [← Nat.mul_assoc] at hB;have hm:acc.length * (aL p.2).length<=B:=bH (Nat.le_mul_of_pos_right _ hr) hB;have len:(acc.flatMap λs=>(aL p.2).map λv=>a7 s p.1 v).length=acc.length * (aL p.2).length:=GX λs _=>by simp
  by_cases ha:acc=[]
  ·subst ha
   have we:=JQ (n:=p.1) (ws:=[]) (acc:=[]) (by simp) (by simp) (by simp);obtain⟨ng,je,ih⟩:=DD r [] b0 b1 (.val (.str p.1)) (.val (.lst ((aL p.2).map Dt.str))) B k (by simp) (by omega) (by simp) OP λq hq=>h1 q (by simp [hq]);refine⟨ng,je,?_⟩;have lb:oz [b0,b1,.val (.lst []),.val (.str p.1),.val (.lst ((aL p.2).map Dt.str))]=.ok (.nx [b0,b1,.val (.lst []),.val (.str p.1),.val (.lst ((aL p.2).map Dt.str))]):=by
    have Td:x6 [.lst [],.str p.1,.lst ((aL p.2).map Dt.str)]=.ok (.lst []):=rfl;unfold oz
    exists aA,Td
   rw [a5];show d3 _ _ (oo p::_) [b0,b1,.val (.lst []),b3,b4]=_
   exists aA,lb
   exact ih
  ·have hal:1<=acc.length:=by cases acc with | nil=>exact absurd rfl ha | cons a l=>simp
   have hw:(aL p.2).length<=1000:=by
    have:(aL p.2).length<=acc.length * (aL p.2).length:=Nat.le_mul_of_pos_left _ hal;omega
   have we:=JQ (n:=p.1) (ws:=aL p.2) (acc:=acc) hw (λs mK=>by have:=hs s mK; omega) (by omega);obtain⟨ng,je,ih⟩:=DD r (acc.flatMap λs=>(aL p.2).map λv=>a7 s p.1 v) b0 b1 (.val (.str p.1)) (.val (.lst ((aL p.2).map Dt.str))) B (k+1) (λs mK=>by
    obtain⟨s0,h2,h3⟩:=oV.mp mK;obtain⟨v,_,rfl⟩:=aX.mp h3;have:=sE s0 p.1 v;have:=hs s0 h2
    omega) (by omega) (by rw [len]; exact hB) OP λq hq=>h1 q (by simp [hq])
   refine⟨ng,je,?_⟩;have lb:oz [b0,b1,.val (.lst (acc.map Dt.af)),.val (.str p.1),.val (.lst ((aL p.2).map Dt.str))]=.ok (.nx [b0,b1,.val (.lst ((acc.flatMap λs=>(aL p.2).map λv=>a7 s p.1 v).map Dt.af)),.val (.str p.1),.val (.lst ((aL p.2).map Dt.str))]):=by
    unfold oz
    exists aA,we
   rw [a5];show d3 _ _ (oo p::_) _=_
   exists aA,lb
   exact ih
theorem xm {α β:Type}{f g:α->List β}:∀{l:List α},(∀a∈l,f a=g a)->l.flatMap f=l.flatMap g
 | [],_=>rfl
 |a::l,h=>by rw [l9,l9,h a (by simp),xm λx hx=>h x (by simp [hx])]
theorem wa {α β:Type}{f:α->β}(hf:∀a b,f a=f b->a=b):∀{l:List α},l.Nodup->(l.map f).Nodup
 | [],_=>by simp
 |a::l,h=>by
  have h':=fz.mp h;refine fz.mpr ⟨λz=>?_,wa hf h'.2⟩;obtain⟨x,hx,e⟩:=aX.mp z;exact h'.1 (hf _ _ e ▸ hx)
theorem Mw {α β:Type}{f:α->List β}:∀{l:List α},l.Nodup->(∀a,(f a).Nodup)->(∀a b,a≠b->∀x,x∈f a->x∈f b->False)->(l.flatMap f).Nodup
 | [],_,_,_=>by simp
 |a::l,h,hf,hd=>by
  have h':=fz.mp h;rw [l9];refine BZ.mpr ⟨hf a,Mw h'.2 hf hd,λx hx y hy z=>?_⟩;subst z;obtain⟨b,hb,hy⟩:=oV.mp hy;exact hd a b (λz=>h'.1 (z ▸ hb)) x hx hy
noncomputable def aY:aj->List aj
 | []=>[[]]
 |p::r=>(aL p.2).flatMap λv=>(aY r).map λt=>(p.1,v)::t
theorem LK:∀(s:aj) (acc:List aj),Nd s->(∀a∈acc,∀p∈s,∀q∈a,q.1≠p.1)->pB acc s=acc.flatMap λa=>(aY s).map (a ++ ·)
 | [],acc,_,_=>by simp [pB,aY]
 |p::r,acc,hn,hd=>by
  have iB:=fz.mp (show (p.1::r.map (·.1)).Nodup from hn);unfold pB;have e:(acc.flatMap λs=>(aL p.2).map λv=>a7 s p.1 v)=acc.flatMap λs=>(aL p.2).map λv=>s++[(p.1,v)]:=by
   refine xm λa ha=>nC λv _=>?_;exact sC λq hq=>hd a ha p (by simp) q hq
  rw [e,LK r _ iB.2 λa ha x hx q hq=>?_]
  ·simp only [aY,List.flatMap_assoc,List.flatMap_map,List.map_flatMap,dw]
   refine xm λa ha=>xm λv _=>nC λt _=>?_;simp
  ·obtain⟨b,hb,hv⟩:=oV.mp ha
   obtain⟨v,_,rfl⟩:=aX.mp hv;rcases eJ.mp hq with z | z
   ·exact hd b hb x (by simp [hx]) q z
   ·rw [jm.mp z]
    exact λz=>iB.1 (z ▸ aX.mpr ⟨x,hx,rfl⟩)
theorem XH {s:aj}(h:Nd s):pB [[]] s=aY s:=by
 rw [LK s [[]] h (by simp)];simp
noncomputable def Cm:aj->aj->Prop
 | [],[]=>True
 |p::r,q::t=>q.1=p.1/\q.2∈aL p.2/\Cm r t
 |_,_=>False
theorem pD:∀{s t:aj},t∈aY s↔Cm s t
 | [],t=>by cases t <;> simp [aY,Cm]
 |p::r,[]=>by simp [aY,Cm]
 |p::r,q::t=>by
  obtain⟨q1,q2⟩:=q;simp only [aY,Cm,oV,aX,BQ,Prod.mk.injEq];constructor
  ·rintro⟨v,hv,u,hu,⟨rfl,rfl⟩,rfl⟩
   exact⟨rfl,hv,pD.mp hu⟩
  ·rintro⟨rfl,h1,h2⟩
   exact⟨q2,h1,t,pD.mpr h2,⟨rfl,rfl⟩,rfl⟩
theorem Cm.keys:∀{s t:aj},Cm s t->t.map (·.1)=s.map (·.1)
 | [],[],_=>rfl
 |p::r,q::t,h=>by rw [a5,a5,h.1,Cm.keys h.2.2]
theorem Cm.at:∀{s t:aj},Cm s t->Nd s->∀p∈s,gd t p.1∈aL p.2/\(aE t p.1).isSome=true
 | [],[],_,_,p,hp=>nomatch hp
 |x::r,q::t,h,hn,p,hp=>by
  have iB:=fz.mp (show (x.1::r.map (·.1)).Nodup from hn);unfold gd;rw [fG];rcases aO.mp hp with rfl | hp
  ·rw [if_pos h.1]; exact⟨h.2.1,rfl⟩
  ·rw [if_neg λz=>iB.1 (by rw [← h.1,z]; exact aX.mpr ⟨p,hp,rfl⟩)]
   exact Cm.at h.2.2 iB.2 p hp
theorem Ek:∀s:aj,(aY s).length=2 ^ (s.map λp=>p.2.count 120).sum
 | []=>rfl
 |p::r=>by
  unfold aY;rw [GX (k:=(aY r).length) λv _=>by rw [cg],xI,Ek r,a5,qS,Nat.pow_add]
theorem Rb:∀w:List Nat,(aL w).Nodup
 | []=>by simp [aL]
 |c::w=>by
  have ih:=Rb w;unfold aL opts
  split
  ·simp only [l9,List.flatMap_nil,nu]
   refine BZ.mpr ⟨wa (λa b h=>by simpa using h) ih,wa (λa b h=>by simpa using h) ih,λa ha b hb=>?_⟩;obtain⟨x,_,rfl⟩:=aX.mp ha;obtain⟨y,_,rfl⟩:=aX.mp hb;simp
  ·simp only [l9,List.flatMap_nil,nu]
   exact wa (λa b h=>by simpa using h) ih
theorem LM:∀s:aj,(aY s).Nodup
 | []=>by simp [aY]
 |p::r=>by
  unfold aY;exact Mw (Rb p.2) (λv=>wa (λa b h=>by simpa using h) (LM r)) λv w hvw t h1 h2=>by
   obtain⟨x,_,rfl⟩:=aX.mp h1;obtain⟨y,_,e⟩:=aX.mp h2;simp only [BQ,Prod.mk.injEq,true_and] at e;exact hvw e.1.symm
theorem EW:∀{a b:aj},a.map (·.1)=b.map (·.1)->Nd a->(∀p∈a,aE b p.1=some p.2)->a=b
 | [],[],_,_,_=>rfl
 | [],_::_,h,_,_=>by simp at h
 |_::_,[],h,_,_=>by simp at h
 |p::a,q::b,h,hn,hl=>by
  have iB:=fz.mp (show (p.1::a.map (·.1)).Nodup from hn);simp only [a5,BQ] at h;have h1:=hl p (by simp);rw [fG,if_pos h.1.symm] at h1;have e:p=q:=Prod.ext h.1 (by simpa using h1.symm);subst e;rw [EW h.2 iB.2 λx hx=>?_];have:=hl x (by simp [hx])
  rwa [fG,if_neg λz=>iB.1 (by rw [z]; exact aX.mpr ⟨x,hx,rfl⟩)] at this
theorem ad9 {a b:aj}(h:a.map (·.1)=b.map (·.1))(hn:Nd a)(e:fg a b=true):a=b:=by
 unfold fg lQ at e;simp only [Bool.or_eq_true,eY,dR,beq_iff_eq] at e;rcases e with e | e
 ·exact e
 ·exact EW h hn e.2
theorem ad8 (a:aj):fg a a=true:=by simp [fg]
theorem O7 {α β:Type}(P:α->Bool)(g:α->List β):∀l:List α,(l.filter P).flatMap g=l.flatMap λa=>if P a=true then g a else []
 | []=>rfl
 |a::l=>by
  rw [uZ,l9,← O7 P g l]
  split <;> simp
theorem LN (P:List Nat->List Nat->Bool)(L:List Nat×List Nat->List Nat):∀(s:aj),(∀p∈s,(aL p.2).filter (P p.1)=aL (L p))->(aY s).filter (λt=>t.all λq=>P q.1 q.2)=aY (s.map λp=>(p.1,L p))
 | [],_=>rfl
 |p::r,h=>by
  have ih:=LN P L r λx hx=>h x (by simp [hx]);rw [a5];show ((aL p.2).flatMap λv=>(aY r).map λt=>(p.1,v)::t).filter _=(aL (L p)).flatMap λv=>(aY (r.map λp=>(p.1,L p))).map λt=>(p.1,v)::t;rw [← h p (by simp),O7,List.filter_flatMap,← ih];refine xm λv _=>?_;rw [List.filter_map]
  cases hP:P p.1 v with
  |true=>
   rw [if_pos rfl]
   congr 1
   refine B0 λt _=>?_;simp [hP]
  |false=>
   rw [if_neg (by decide)];rw [Ce.mpr λt _=>by simp [hP]];rfl
theorem z8 {l:List (List Nat)}(h:l.Nodup):l.eraseDups=l:=by
 induction l with
 |nil=>rfl
 |cons a l ih=>
  have h':=fz.mp h;rw [List.eraseDups_cons,yE.mpr λb hb=>?_,ih h'.2];have:b≠a:=λz=>h'.1 (z ▸ hb);simpa using this
theorem M6 {kvs:aj}{k v:List Nat}(h:(aE kvs k).isSome=true):(a7 kvs k v).map (·.1)=kvs.map (·.1):=by
 unfold a7;rw [if_pos,dw]
 ·refine nC λp _=>?_
  simp only [uP]
  split <;> rfl
 ·obtain⟨p,hp,e⟩:=aX.mp (mem_keys.mpr h)
  exact yt.mpr ⟨p,hp,by simpa using e⟩
theorem MA {kvs:aj}{k v:List Nat}(h:Nd kvs):Nd (a7 kvs k v):=by
 cases hl:aE kvs k with
 |some w=>unfold Nd; rw [M6 (by rw [hl]; rfl)]; exact h
 |none=>
  have h0:=MR.mp hl;rw [sC h0];unfold Nd;rw [nt,a5,kF];refine BZ.mpr ⟨h,by simp,λa ha b hb z=>?_⟩;obtain⟨p,hp,rfl⟩:=aX.mp ha;exact h0 p hp (z.trans (jm.mp hb))
theorem MD (f:PW->List Nat):∀(r acc:aj),Nd acc->Nd (r.foldl (λa q=>a7 a q.1 (f q)) acc)
 | [],_,h=>h
 |q::r,acc,h=>MD f r _ (MA h)
theorem MS (f:PW->List Nat)(n:List Nat):∀(r acc:aj),Nd r->aE (r.foldl (λa q=>a7 a q.1 (f q)) acc) n=match aE r n with | some w=>some (f (n,w)) | none=>aE acc n
 | [],acc,_=>rfl
 |q::r,acc,h=>by
  have h':=fz.mp (show (q.1::r.map (·.1)).Nodup from h);rw [kH,MS f n r _ h'.2,fG,aao]
  by_cases e:q.1=n
  ·subst e
   rw [if_pos rfl,if_pos rfl];have:aE r q.1=none:=MR.mpr λp hp z=>h'.1 (z ▸ aX.mpr ⟨p,hp,rfl⟩);rw [this]
  ·rw [if_neg e,if_neg (cz e)]
theorem M7 (f:PW->List Nat):∀(r acc:aj),(∀q∈r,(aE acc q.1).isSome=true)->(r.foldl (λa q=>a7 a q.1 (f q)) acc).map (·.1)=acc.map (·.1)
 | [],_,_=>rfl
 |q::r,acc,h=>by
  have hk:=M6 (v:=f q) (h q (by simp));rw [kH,M7 f r _ λx hx=>?_,hk];rw [← mem_keys,hk,mem_keys];exact h x (by simp [hx])
noncomputable def jv (o:aj)(q:PW):List Nat:=match aE o q.1 with | some v=>gm dM v q.2 | none=>q.2
noncomputable def J (o r:aj):aj:=r.foldl (λa q=>a7 a q.1 (jv o q)) o
structure Sg (m:Nat) (s:aj):Prop where
 nd:Nd s
 len:s.length<=3
 wl:∀p∈s,p.2.length=m/\gh p.2/\p.2.count 120<=1
 hm:m<=6
noncomputable def gL (o r:aj):Prop:=∀q∈r,∀v,aE o q.1=some v->dO v q.2=[]
theorem Sg.at {m:Nat}{s:aj}(h:Sg m s){n v:List Nat}(e:aE s n=some v):v.length=m/\gh v/\v.count 120<=1:=h.wl _ (jA e)
theorem gL.symm {m:Nat}{o r:aj}(ho:Sg m o)(hr:Sg m r)(h:gL o r):gL r o:=λq hq v hv=>by
 have h1:=h (q.1,v) (jA hv) q.2 (jz ho.nd hq);rw [ae1 (by rw [(hr.at hv).1,(ho.wl q hq).1])];exact h1
theorem BA {o r:aj}(hr:Nd r)(n:List Nat):aE (J o r) n=match aE r n with | some w=>some (jv o (n,w)) | none=>aE o n:=MS (jv o) n r o hr
theorem RW {m:Nat}{o r:aj}(ho:Sg m o)(hr:Sg m r)(h:gL o r)(n:List Nat):aE (J o r) n=aE (J r o) n:=by
 rw [BA hr.nd,BA ho.nd]
 cases h1:aE r n with
 |none=>cases h2:aE o n with
  |none=>rfl
  |some v=>simp only [jv,h1]
 |some w=>cases h2:aE o n with
  |none=>simp only [jv,h2]
  |some v=>
   simp only [jv,h1,h2];have hc:=h (n,w) (jA h1) v h2;have l1:=(ho.at h2).1;have l2:=(hr.at h1).1;rw [adt (g:=dM) (g':=dM) (a:=v) (b:=w) (a':=w) (b':=v) (by rw [l1,l2]) λi hi=>aaF (Hu.mp hc i hi)]
theorem Bz {o r:aj}(h:Nd o):Nd (J o r):=MD (jv o) r o h
theorem ai4 {o r:aj}(hr:Nd r)(n:List Nat):(aE (J o r) n).isSome=true↔(aE o n).isSome=true∨(aE r n).isSome=true:=by
 rw [BA hr]
 cases aE r n <;> simp
theorem perm_keys {a b:aj}(ha:Nd a)(hb:Nd b)(h:∀n,(aE a n).isSome=true↔(aE b n).isSome=true):(a.map (·.1)).Perm (b.map (·.1)):=
 (List.perm_ext_iff_of_nodup ha hb).mpr λn=>by rw [mem_keys,mem_keys]; exact h n
theorem ai7 {m:Nat}{o r:aj}(ho:Sg m o)(hr:Sg m r)(h:gL o r):fg (J o r) (J r o)=true:=by
 have hp:=perm_keys (Bz (r:=r) ho.nd) (Bz (r:=o) hr.nd) λn=>by rw [RW ho hr h n]
 have hl:(J o r).length=(J r o).length:=by simpa using hp.length_eq
 unfold fg lQ;rw [Bool.or_eq_true];refine .inr ?_;rw [eY,beq_iff_eq,dR];refine⟨hl,λp hp=>?_⟩;rw [beq_iff_eq,← RW ho hr h p.1];exact jz (Bz ho.nd) hp
theorem ai3 {o r:aj}(ho:Nd o)(hr:Nd r):gT ((J o r).map (·.1))=gT (o.map (·.1)++r.map (·.1)).eraseDups:=by
 refine Vf ((List.perm_ext_iff_of_nodup (Bz ho) (ael _ _ rfl)).mpr λn=>?_);rw [B4,eJ,mem_keys,mem_keys,mem_keys,ai4 hr]
end Pg
namespace uB
open L2 Pg
noncomputable def IV:SM:=(aU (bU (p2 iY (ae 2) (ae 6)) (aw 7))
 (aU (bU (aG jj (ah (ae 0) (ah (p2 bI (ae 1) (p2 dY (pC (.int 5)) (ae 5))) (ah (aG eF (ah (ae 7) av)) av)))) (aw 8))
 (aU (bU (p2 dh (gC (ah (pC (.str [120])) (ah (pC (.str [120])) (ah (pC (.str [120])) (ah (pC (.str [48])) (ah (p2 dh (ae 7) (ae 8)) av)))))) (aG jj (ah (ae 0) (ah (p2 bI (p2 bI (ae 1) (p2 dY (pC (.int 5)) (ae 5))) (pC (.int 1))) (ah (pC (.int 5)) av))))) (aw 9))
 (pf 4 (ae 6) (p2 bI (p2 bI (kc (ae 7) (dX none) (dX (some (ae 8)))) (ae 9)) (kc (ae 7) (dX (some (p2 bI (ae 8) (pC (.int 1))))) (dX none)))))))
noncomputable def Jw:SM:=(aU (D8 4)
 (aU (lg (fH tR (ah (ae 3) av)) (cH 2 (bp (aw 5) (bp (aw 6) dj))) IV)
 (nM 4 (bN (ae 4)))))
noncomputable def qJ:List Dt->M Dt:=cu 4 6 Jw
noncomputable def ye:SM:=(aU (bU (zS 2 [] (n5 (ae 0)) (cH 2 (bp (aw 0) (bp (aw 1) dj))) dU (nS (ah (ae 0) (ah (aG uG (ah (ae 1) av)) av)))) (aw 1))
 (aU (bU (gC (ah sH av)) (aw 2))
 (aU (lg (g8 (ae 1)) (cH 2 (bp (aw 3) (bp (aw 4) dj))) oz)
 (bN (ae 2)))))
noncomputable def oB:List Dt->M Dt:=cu 1 4 ye
noncomputable def uA:SM:=(pf 2 (ae 3) (vV (a6 (p2 v5 (ae 3) (ae 0))) (aG uE (ah (p2 iY (ae 0) (ae 3)) (ah (ae 4) av))) (ae 4)))
noncomputable def yd:SM:=(aU (vH (aG kD (ah (p2 bI (p1 vY (ae 0)) (p1 vY (ae 1))) av)))
 (aU (sq 2 (ae 0))
 (aU (vG (n5 (ae 1)) (cH 2 (bp (aw 3) (bp (aw 4) dj))) uA)
 (nM 2 (bN (ae 2))))))
noncomputable def oA:List Dt->M Dt:=cu 2 3 yd
noncomputable def BO:SM:=(zD [0,5,6] 2 3 (bU (vV (a6 (p2 lx (ae 1) (pC .ax))) (aG oA (ah (ae 0) (ah (ae 1) av))) (aG oB (ah (ae 0) av))) (aw 3)))
noncomputable def l5:List Dt->M Dt:=cu 2 3 BO
noncomputable def Jk:SM:=(aU (d8 (ze (ae 0) (ae 1)) (bN (pC (.bl false))) eN)
 (bN (aG ux (ah (dg 2 [1] (n5 (ae 0)) (cH 2 (bp (aw 0) (bp (aw 1) dj))) dU (aG x9 (ah (ae 1) (ah (p2 iY (ae 2) (ae 0)) av)))) av))))
noncomputable def ji:List Dt->M Dt:=cu 2 0 Jk
noncomputable def Jx:SM:=(bN (p2 cA (dg 1 [0,1] (fH pq (ah (aG eF (ah (ae 0) av)) av)) (aw 0) (mq (a6 (p2 v3 (pC (.str [120])) (p2 bI (p2 dh (ae 1) (ae 0)) (p2 dh (ae 2) (ae 0))))) (a6 (p2 cA (p2 dh (ae 1) (ae 0)) (p2 dh (ae 2) (ae 0))))) (ae 0)) (gC av)))
noncomputable def yb:List Dt->M Dt:=cu 2 0 Jx
noncomputable def xT:SM:=(bU (p2 dY (pC (.int 2)) (ae 6)) (aw 6))
noncomputable def RC:SM:=(nM 14 (bN (p2 sN (aG ji (ah (ae 3) (ah (ae 14) av))) (pC (.bl false)))))
noncomputable def RE:SM:=(aU (pf 14 (pC (.str [100])) (p2 dY (pC (.str [48])) (ae 1))) RC)
noncomputable def IE:SM:=(aU (sq 14 (ae 3)) RE)
noncomputable def RG:SM:=(aU (d8 (mq (a6 (p2 cA (ae 3) sH)) (a6 (p2 lx (aG ji (ah (ae 3) (ah (ae 13) av))) (pC (.bl false))))) (bN (pC (.bl false))) eN) IE)
noncomputable def IF:SM:=(aU (bU (aG qD (ah (dg 1 [3] (wJ (ae 3)) (aw 0) dU (nS (ah (ae 0) (ah (p2 bI (p2 iY (ae 1) (ae 0)) (pC (.str [48]))) av)))) av)) (aw 13)) RG)
noncomputable def IG:SM:=(aU (d8 (a6 (p2 cA (aG l5 (ah (vW [((pC (.str [97])),(p2 dY (pC (.str [120])) (pC (.int 7))))]) (ah (pC .ax) av))) (pC (.str [116,111,111,32,108,111,110,103])))) (bN (pC (.bl false))) eN) IF)
noncomputable def IH:SM:=(aU (d8 (mq (a6 (p2 cA (ae 3) sH)) (a6 (p2 cA (aG l5 (ah (ae 3) (ah (vW [((pC (.str [122])),(p2 dY (pC (.str [48])) (p2 bI (ae 1) (pC (.int 1)))))]) av))) (pC (.str [117,110,108,105,107,101]))))) (bN (pC (.bl false))) eN) IG)
noncomputable def II:SM:=(aU (d8 (a6 (p2 cA (ae 10) (pC (.str [99,108,97,115,104])))) (aU (d8 (a6 (p2 cA (p1 pG (p1 nV (ae 10))) (p1 vZ (p2 bI (p1 nV (ae 3)) (p1 nV (ae 4)))))) (bN (pC (.bl false))) eN)
 (d8 (a6 (p2 oEq (p1 pG (p1 nV (ae 3))) (p1 pG (p1 nV (ae 4))))) (aU (bU (dg 1 [4] (g8 (ae 5)) (aw 0) (a6 (aG ji (ah (ae 1) (ah (ae 0) av)))) (ae 0)) (aw 11))
 (aU (bU (aG oB (ah (ae 10) av)) (aw 12))
 (d8 (kY (a6 (p2 cA (dg 1 [11] (g8 (ae 12)) (aw 0) (a6 (p2 pH (ae 0) (ae 1))) (ae 0)) (gC av))) (a6 (p2 cA (aG eF (ah (ae 11) av)) (aG eF (ah (ae 12) av))))) (bN (pC (.bl false))) eN))) eN)) eN) IH)
noncomputable def RH:SM:=(aU (d8 (kY (a6 (p2 cA (ae 10) (aG l5 (ah (ae 4) (ah (ae 3) av))))) (a6 (p2 cA (p2 oEq (ae 10) (pC (.str [99,108,97,115,104]))) (p2 cA (ae 9) (gC av))))) (bN (pC (.bl false))) eN) II)
noncomputable def RI:SM:=(aU (bU (aG l5 (ah (ae 3) (ah (ae 4) av))) (aw 10)) RH)
noncomputable def IJ:SM:=(aU (bU (dg 1 [3,4] (wJ (ae 3)) (aw 0) (mq (a6 (p2 v5 (ae 0) (ae 2))) (a6 (aG yb (ah (p2 iY (ae 1) (ae 0)) (ah (p2 iY (ae 2) (ae 0)) av))))) (ae 0)) (aw 9)) RI)
noncomputable def IB:SM:=(aU (d8 (a6 (p2 cA (aG eF (ah (dg 2 [5] (fH tR (ah (ae 5) av)) (cH 2 (bp (aw 0) (bp (aw 1) dj))) (a6 (p2 nW (ae 1) (kc (ae 2) (dX none) (dX (some (ae 0)))))) (ae 1)) av)) (pC (.int 0)))) (bN (pC (.bl false))) eN) IJ)
noncomputable def Rw:SM:=(aU (d8 (kY (a6 (p2 cA (aG eF (ah (ae 5) av)) (ae 6))) (kY (a6 (p2 cA (ae 8) (gC av))) (a6 (p2 cA (aG ni (ah (ae 3) av)) (p2 oEq (aG qI (ah (ae 3) av)) (pC (.int 0))))))) (bN (pC (.bl false))) eN) IB)
noncomputable def Rx:SM:=(aU (bU (dg 1 [3] (g8 (ae 5)) (aw 0) (kY (a6 (p2 lx (aG ji (ah (ae 1) (ah (ae 0) av))) (pC (.bl true)))) (a6 (p2 lx (aG ni (ah (ae 0) av)) (pC (.bl true))))) (ae 0)) (aw 8)) Rw)
noncomputable def Ry:SM:=(aU (lg (fH pq (ah (aG qI (ah (ae 3) av)) av)) (aw 7) xT) Rx)
noncomputable def RA:SM:=(aU (bU (pC (.int 1)) (aw 6)) Ry)
noncomputable def ID:SM:=(aU (bU (aG oB (ah (ae 3) av)) (aw 5)) RA)
noncomputable def RB:SM:=(aU (bU (aG qJ (ah (ae 0) (ah (pC (.int 240)) (ah (ae 2) (ah (kc (gC (ah (pC (.str [99])) (ah (pC (.str [98])) (ah (pC (.str [97])) av)))) (dX none) (dX (some (aG jj (ah (ae 0) (ah (pC (.int 2)) (ah (pC (.int 4)) av))))))) av))))) (aw 4)) ID)
noncomputable def RD:SM:=(aU (bU (aG qJ (ah (ae 0) (ah (pC (.int 200)) (ah (ae 2) (ah (kc (gC (ah (pC (.str [97])) (ah (pC (.str [98])) (ah (pC (.str [99])) av)))) (dX none) (dX (some (aG jj (ah (ae 0) (ah (pC (.int 1)) (ah (pC (.int 4)) av))))))) av))))) (aw 3)) RB)
noncomputable def RJ:SM:=(aU (bU (aG ya (ah (ae 0) (ah (pC (.int 10)) (ah (gC (ah (pC (.str [97])) (ah (pC (.str [98])) (ah (pC (.str [99])) av)))) (ah (ae 1) (ah (pC (.int 0)) av)))))) (aw 2)) RD)
noncomputable def Jm:SM:=(aU (bU (p2 bI (pC (.int 1)) (aG jj (ah (ae 0) (ah (pC (.int 0)) (ah (pC (.int 6)) av))))) (aw 1)) RJ)
noncomputable def uF:List Dt->M Dt:=cu 1 14 Jm
theorem adQ {w k:List Nat}(hw:w.length<=1000):x9 [.str w,.str k]=.ok (.bl (decide (w.length=k.length)&&mX w k)):=by
 unfold x9 Jn
 by_cases h:w.length=k.length
 ·exists aA,adM h hw,h
  rfl
 ·have:((w.length:Int)=k.length)=False:=by simp; omega
  exists aA,this,h
  rfl
noncomputable def j5 (s k:aj):Bool:=!neT (s.map (·.1)) (k.map (·.1))&&s.all λp=>decide (p.2.length=(gd k p.1).length)&&mX p.2 (gd k p.1)
theorem Ky {a b:aj}{ρ:aa}(ha:a.length<=30)(hb:b.length<=30):ze (ae 0) (ae 1) (.val (.af a) :: .val (.af b)::ρ)=.ok (neT (a.map (·.1)) (b.map (·.1))):=by
 show (lS (.af a)).bd (λa=>(lS (.af b)).bd λb=>.ok (neT (a.map (·.1)) (b.map (·.1))))=_;simp only [lS,if_pos ha,if_pos hb,bt]
theorem A8 {s k:aj}(hs:s.length<=30)(hk:k.length<=30)(hw:∀p∈s,p.2.length<=1000):ji [.af s,.af k]=.ok (.bl (j5 s k)):=by
 unfold ji Jk j5
 cases hn:neT (s.map (·.1)) (k.map (·.1)) with
 |true=>
  exists aA,Ky (ρ:=[]) hs hk,hn
  rfl
 |false=>
  have wV:∀p∈s,(aE k p.1).isSome=true:=λp hp=>by
   unfold neT at hn;simp only [B5,eY,dR,decide_eq_true_eq] at hn;exact mem_keys.mp (hn.2 _ (aX.mpr ⟨p,hp,rfl⟩))
  have c:dC 2 [1] (cH 2 (bp (aw 0) (bp (aw 1) dj))) dU (aG x9 (ah (ae 1) (ah (p2 iY (ae 2) (ae 0)) av))) [.val (.af s),.val (.af k)] (fW s)=.ok (.lst ((s.filter λ_=>true).map λp=>Dt.bl (decide (p.2.length=(gd k p.1).length)&&mX p.2 (gd k p.1)))):=by
   refine mV (fun(p:List Nat×List Nat)=>Dt.tup [.str p.1,.str p.2]) (λ_=>true) (λp=>Dt.bl (decide (p.2.length=(gd k p.1).length)&&mX p.2 (gd k p.1))) (λp=>[.val (.str p.1),.val (.str p.2),.val (.af k)]) s (by omega) (λv _=>rfl) (λv _=>rfl) λp hp _=>?_;obtain⟨v,hv⟩:=jn.mp (wV p hp);have e:gd k p.1=v:=by simp [gd,hv]
   rw [e]
   exists dN,qA hv,adQ (w:=p.2) (k:=v) (hw p hp)
  rw [yE.mpr λ_ _=>rfl] at c
  exists dN,Ky (ρ:=[]) hs hk,hn,c
  rw [Bn]
  exists ev
  rw [uN];rfl
theorem QL {α:Type}{g:GM}{te:aa->M Dt}{ρ0:aa}(e r:α->Dt)(R:α->aa):∀xs:List α,(∀x∈xs,g (e x) ρ0=.ok (R x))->(∀x∈xs,te (R x)=.ok (r x))->jJ g dU te ρ0 (xs.map e)=.ok (xs.map r)
 | [],_,_=>rfl
 |x::xs,hg,hr=>by
  rw [a5,aeV,hg x (by simp),gK,bt];rw [show dU (R x)=.ok true from rfl,bt,if_pos rfl,hr x (by simp),bt,QL e r R xs (λy hy=>hg y (by simp [hy])) λy hy=>hr y (by simp [hy]),bt];rfl
theorem Vx {kvs:aj}(hl:kvs.length<=100)(hw:∀p∈kvs,p.2.length<=100/\p.2.count 120<=6)(h1:∀p∈kvs,1<=(aL p.2).length)(hB:(kvs.map λp=>(aL p.2).length).foldr (· * ·) 1<=1000):oB [.af kvs]=.ok (.lst ((pB [[]] kvs).map Dt.af)):=by
 have c:∀ρ:aa,zS 2 [] (n5 (ae 0)) (cH 2 (bp (aw 0) (bp (aw 1) dj))) dU (nS (ah (ae 0) (ah (aG uG (ah (ae 1) av)) av))) (.val (.af kvs)::ρ)=.ok (.lst (kvs.map oo)):=λρ=>by
  show (jJ _ _ _ (bT 2 [] _) (fW kvs)).bd fB=_;rw [show fW kvs=kvs.map fun(p:List Nat×List Nat)=>Dt.tup [.str p.1,.str p.2] from rfl];rw [QL (fun(p:List Nat×List Nat)=>Dt.tup [.str p.1,.str p.2]) oo (λp=>[.val (.str p.1),.val (.str p.2)]) kvs (λv _=>rfl) λp hp=>?_,bt,cR (by simp; omega)]
  exists aA,afE (w:=p.2) (hw p hp).1 (hw p hp).2
  rw [cI (by decide)]
 obtain⟨b3,b4,e⟩:=DD kvs [[]] (.val (.af kvs)) (.val (.lst (kvs.map oo))) .no .no 1000 0 (by simp) (by omega) (by simpa using hB) (aN _) h1;have e':d3 (cH 2 (bp (aw 3) (bp (aw 4) dj))) oz (kvs.map oo) [.val (.af kvs),.val (.lst (kvs.map oo)),.val (.lst [.af []]),.no,.no]=_:=e;unfold oB ye
 exists dN,c
 rw [cR (by decide)]
 exists aA,e'
theorem aeP (v w:List Nat):(gm dM v w).count 120<=v.count 120:=by
 have h:v.count 120=((bf v.length).map (lv v)).count 120:=by rw [aaj]
 rw [h];unfold gm List.count;rw [List.countP_map,List.countP_map];refine List.countP_mono_left λi _ hi=>?_;simp only [uP,beq_iff_eq,dM] at hi ⊢
 split at hi
 ·assumption
 ·exact hi
theorem afG (w:List Nat):1<=(aL w).length:=by rw [xI]; exact Nat.pow_pos (by decide)
theorem O1:∀(l:List Nat),(∀x∈l,x<=2)->l.foldr (· * ·) 1<=2 ^ l.length
 | [],_=>by simp
 |a::l,h=>by
  rw [List.foldr_cons,cQ,Nat.pow_succ,Nat.mul_comm];exact Nat.mul_le_mul (O1 l λx hx=>h x (by simp [hx])) (h a (by simp))
theorem KS {m:Nat}{s:aj}(h:Sg m s):oB [.af s]=.ok (.lst ((aY s).map Dt.af)):=by
 have h6:=h.hm;rw [Vx (by have:=h.len; omega) (λp hp=>by have:=h.wl p hp; omega) (λp _=>afG _) ?_,XH h.nd]
 ·refine bH (O1 _ λx hx=>?_) ?_
  ·obtain⟨p,hp,rfl⟩:=aX.mp hx
   rw [xI];exact yI (by decide) (h.wl p hp).2.2
  ·rw [cg]
   exact bH (yI (by decide) h.len) (by decide)
theorem VA {m:Nat}{s:aj}(h:Sg m s):qI [.af s]=.ok (.int (((s.map λp=>p.2.count 120).sum:Nat):Int)):=by
 have h6:=h.hm;rw [JY (by have:=h.len; omega) λp hp=>by have:=h.wl p hp; omega]
 congr 2
 induction s with
 |nil=>rfl
 |cons p r ih=>
  rw [a5,a5,qS,qS,ih ⟨(fz.mp (show (p.1::r.map (·.1)).Nodup from h.nd)).2,by have:=h.len; rw [cQ] at this; omega,λx hx=>h.wl x (by simp [hx]),h.hm⟩];simp
theorem Ho:∀{s t:aj},Cm s t->∀{m:Nat},(∀p∈s,p.2.length=m/\gh p.2)->∀q∈t,q.2.length=m/\Kn q.2
 | [],[],_,_,_,q,hq=>nomatch hq
 |p::r,q'::t,h,m,hp,q,hq=>by
  rcases aO.mp hq with rfl | hq
  ·have:=hp p (by simp)
   exact⟨(xJ _ _ h.2.1).trans this.1,Rc this.2 h.2.1⟩
  ·exact Ho h.2.2 (λx hx=>hp x (by simp [hx])) q hq
theorem Hr {s t:aj}(h:Cm s t):t.length=s.length:=by simpa using congrArg uM h.keys
theorem M4 {w:List Nat}(h:Kn w):w.count 120=0:=B6.mpr λz=>by
 have:=h 120 z;omega
theorem aaR {m:Nat}{s t:aj}(h:Sg m s)(c:Cm s t):ni [.af t]=.ok (.bl true):=by
 have hq:=Ho c (λp hp=>⟨(h.wl p hp).1,(h.wl p hp).2.1⟩);have h6:=h.hm;have hu:=JY (kvs:=t) (by rw [Hr c]; have:=h.len; omega) λp hp=>by have:=(hq p hp).1; omega
 have e:(t.map λp=>((p.2.count 120:Nat):Int))=t.map λ_=>(0:Int):=nC λp hp=>by rw [M4 (hq p hp).2]; rfl
 have e2:∀l:aj,(l.map λ_=>(0:Int)).sum=0:=λl=>by induction l with | nil=>rfl | cons a l ih=>simpa using ih
 rw [e,e2] at hu;unfold ni BL
 exists aA,hu
theorem MB {a b:List (List Nat)}(ha:a.Nodup)(hb:b.Nodup)(h:a.Perm b):neT a b=false:=by
 unfold neT;rw [z8 ha,z8 hb,decide_eq_true h.length_eq];simp only [l7,B5,dR,decide_eq_true_eq];exact λx hx=>h.mem_iff.mp hx
theorem Hq {s t:aj}(c:Cm s t)(h:Nd s):Nd t:=by unfold Nd; rw [c.keys]; exact h
theorem VC {m:Nat}{s t:aj}(h:Sg m s)(c:Cm s t):j5 s t=true:=by
 unfold j5;rw [MB h.nd (Hq c h.nd) (by rw [c.keys])];simp only [uT,l7,dR,eY,decide_eq_true_eq];intro p hp;have h1:=(c.at h.nd p hp).1;have h2:=xJ _ _ h1;exact⟨h2.symm,(HK h2 (Rc (h.wl p hp).2.1 h1)).mp h1⟩
theorem oi {k:aj}{n v:List Nat}(h:aE k n=some v):gd k n=v:=by simp [gd,h]
theorem ai5 {m:Nat}{o r:aj}(ho:Sg m o)(hr:Sg m r)(hk:(o.map (·.1)).Perm (r.map (·.1))):J o r=o.map λp=>(p.1,gm dM p.2 (gd r p.1)):=by
 refine(EW (a:=o.map λp=>(p.1,gm dM p.2 (gd r p.1))) ?_ ?_ λq hq=>?_).symm
 ·rw [dw]
  exact(M7 (jv o) r o λq hq=>mem_keys.mp (hk.mem_iff.mpr (aX.mpr ⟨q,hq,rfl⟩))).symm
 ·unfold Nd
  rw [dw];exact ho.nd
 ·obtain⟨p,hp,rfl⟩:=aX.mp hq
  obtain⟨w,hw⟩:=jn.mp (mem_keys.mp (hk.mem_iff.mp (aX.mpr ⟨p,hp,rfl⟩)));rw [BA hr.nd];simp only [hw,jv,jz ho.nd hp,oi hw]
theorem VD {m:Nat}{o r t:aj}(ho:Sg m o)(hr:Sg m r)(hk:(o.map (·.1)).Perm (r.map (·.1)))(c:Cm o t):j5 r t=t.all λq=>decide (q.2∈aL (gd r q.1)):=by
 have hq:=Ho c (λp hp=>⟨(ho.wl p hp).1,(ho.wl p hp).2.1⟩);have FX:(r.map (·.1)).Perm (t.map (·.1)):=by rw [c.keys]; exact hk.symm
 have Mz:=Hq c ho.nd;unfold j5;rw [MB hr.nd Mz FX,jR];simp only [uT,l7,dR,eY,decide_eq_true_eq];constructor
 ·intro h q FJ
  obtain⟨w,hw⟩:=jn.mp (mem_keys.mp (FX.mem_iff.mpr (aX.mpr ⟨q,FJ,rfl⟩)));have h1:=h (q.1,w) (jA hw);rw [oi (jz Mz FJ)] at h1;rw [oi hw];exact(HK h1.1.symm (hq q FJ).2).mpr h1.2
 ·intro h p hp
  obtain⟨v,hv⟩:=jn.mp (mem_keys.mp (FX.mem_iff.mp (aX.mpr ⟨p,hp,rfl⟩)));have h1:=h (p.1,v) (jA hv);rw [oi (jz hr.nd hp)] at h1;rw [oi hv];have h2:=xJ _ _ h1;exact⟨h2.symm,(HK h2 (hq _ (jA hv)).2).mp h1⟩
theorem aen {m:Nat}{o r:aj}(ho:Sg m o)(hr:Sg m r)(hn:gL o r)(hk:(o.map (·.1)).Perm (r.map (·.1))):(aY o).filter (j5 r)=aY (J o r)/\Sg m (J o r):=by
 have hw:∀p∈o,∃w,aE r p.1=some w/\dO p.2 w=[]:=λp hp=>by
  obtain⟨w,hw⟩:=jn.mp (mem_keys.mp (hk.mem_iff.mp (aX.mpr ⟨p,hp,rfl⟩)));exact⟨w,hw,hn (p.1,w) (jA hw) p.2 (jz ho.nd hp)⟩
 rw [ai5 ho hr hk];constructor
 ·rw [← LN (λn v=>decide (v∈aL (gd r n))) (λp=>gm dM p.2 (gd r p.1)) o λp hp=>?_]
  ·exact B0 λt ht=>VD ho hr hk (pD.mp ht)
  ·obtain⟨w,hw,hc⟩:=hw p hp
   rw [oi hw];exact MX (by rw [(ho.wl p hp).1,(hr.at hw).1]) (ho.wl p hp).2.1 (hr.at hw).2.1 hc
 ·refine⟨?_,by rw [cg]; exact ho.len,λq hq=>?_,ho.hm⟩
  ·unfold Nd
   rw [dw];exact ho.nd
  ·obtain⟨p,hp,rfl⟩:=aX.mp hq
   obtain⟨w,hw,hc⟩:=hw p hp;have h1:=ho.wl p hp;have h2:=hr.at hw;rw [oi hw];exact⟨(ads _ _ _).trans h1.1,aak aaE h1.2.1 h2.2.1 (by rw [h1.1,h2.1]),bH (aeP _ _) h1.2.2⟩
theorem NK {m:Nat}{o acc:aj}{q:PW}{b1:Bd}(ho:Sg m o)(hq:q.2.length=m)(hl:acc.length<1000) :
  uA [.val (.af o),b1,.bP acc,.val (.str q.1),.val (.str q.2)]=if (∀v,aE o q.1=some v->dO v q.2=[]) then .ok (.nx [.val (.af o),b1,.bP (a7 acc q.1 (jv o q)),.val (.str q.1),.val (.str q.2)]) else .ex 0:=by
 have hm:=ho.hm;unfold uA
 cases h:aE o q.1 with
 |none=>
  rw [if_pos (λv z=>nomatch z)]
  exists dN,h,yB
  rw [cI (by omega)];simp only [jv,h]
 |some v=>
  have h1:=(ho.at h).1
  by_cases hc:dO v q.2=[]
  ·rw [if_pos (λu z=>by cases z; exact hc)]
   exists dN,h,rj,qA h,aaA (a:=v) (b:=q.2) (by omega) (by omega) hc
   rw [cI (by omega)];simp only [jv,h]
  ·rw [if_neg (λz=>hc (z v rfl))]
   exists dN,h,rj,qA h,aaB (a:=v) (b:=q.2) (by omega) (by omega) hc
theorem NI {m:Nat}{o:aj}{b1:Bd}(ho:Sg m o):∀(r acc:aj) (b3 b4:Bd),(∀q∈r,q.2.length=m)->acc.length+r.length<1000->gL o r->∃ng je,ic (cH 2 (bp (aw 3) (bp (aw 4) dj))) uA (fW r) [.val (.af o),b1,.bP acc,b3,b4]=.ok (.nx [.val (.af o),b1,.bP (r.foldl (λa q=>a7 a q.1 (jv o q)) acc),ng,je])
 | [],acc,b3,b4,_,_,_=>⟨b3,b4,rfl⟩
 |q::r,acc,b3,b4,hq,hl,hn=>by
  rw [cQ] at hl;have h1:=NK (b1:=b1) (acc:=acc) ho (hq q (by simp)) (by omega);rw [if_pos (hn q (by simp))] at h1;have hp:=sE acc q.1 (jv o q);obtain⟨ng,je,ih⟩:=NI (b1:=b1) ho r (a7 acc q.1 (jv o q)) (.val (.str q.1)) (.val (.str q.2)) (λx hx=>hq x (by simp [hx])) (by omega) λx hx=>hn x (by simp [hx]);refine⟨ng,je,?_⟩;show ic _ _ (.tup [.str q.1,.str q.2]::fW r) _=_
  exists aA,CK,CJ,h1
  exact ih
theorem NJ {m:Nat}{o:aj}{b1:Bd}(ho:Sg m o):∀(r acc:aj) (b3 b4:Bd),(∀q∈r,q.2.length=m)->acc.length+r.length<1000->¬ gL o r->ic (cH 2 (bp (aw 3) (bp (aw 4) dj))) uA (fW r) [.val (.af o),b1,.bP acc,b3,b4]=.ex 0
 | [],acc,b3,b4,_,_,hn=>absurd (λq hq=>nomatch hq) hn
 |q::r,acc,b3,b4,hq,hl,hn=>by
  rw [cQ] at hl;have h1:=NK (b1:=b1) (acc:=acc) ho (hq q (by simp)) (by omega);show ic _ _ (.tup [.str q.1,.str q.2]::fW r) _=_
  by_cases hc:∀v,aE o q.1=some v->dO v q.2=[]
  ·rw [if_pos hc] at h1
   have hp:=sE acc q.1 (jv o q);have ih:=NJ (b1:=b1) ho r (a7 acc q.1 (jv o q)) (.val (.str q.1)) (.val (.str q.2)) (λx hx=>hq x (by simp [hx])) (by omega) λz=>hn λx hx=>by
    rcases aO.mp hx with rfl | hx
    ·exact hc
    ·exact z x hx
   exists aA,CK,CJ,h1
   exact ih
  ·rw [if_neg hc] at h1
   exists aA,CK,CJ,h1
theorem JT (a b:aj):e7 a++e7 b=(a.map (·.2)++b.map (·.2)).map Dt.str:=by simp [e7,Function.comp_def]
theorem v_is {k:aj}:vY (.af k)=.ok (.lst (e7 k)):=.trans rfl rfl
theorem KR {m:Nat}{o r:aj}(ho:Sg m o)(hr:Sg m r):kD [.lst (e7 o++e7 r)]=.ok .ax:=by
 have l1:=ho.len;have l2:=hr.len;rw [JT];refine JX (by simp; omega) λl hl=>?_;have:∀l∈o.map (·.2)++r.map (·.2),l.length=m:=λl hl=>by
  rcases eJ.mp hl with z | z
  ·obtain⟨p,hp,rfl⟩:=aX.mp z; exact(ho.wl p hp).1
  ·obtain⟨p,hp,rfl⟩:=aX.mp z; exact(hr.wl p hp).1
 rw [this l hl]
 cases hx:o.map (·.2)++r.map (·.2) with
 |nil=>rw [hx] at hl; cases hl
 |cons a b=>exact(this a (by rw [hx]; simp)).symm
theorem abc {m:Nat}{o r:aj}(ho:Sg m o)(hr:Sg m r)(hn:gL o r):oA [.af o,.af r]=.ok (.af (J o r)):=by
 have l1:=ho.len;have l2:=hr.len;have hu:=KR ho hr;obtain⟨b3,b4,e⟩:=NI (b1:=.val (.af r)) ho r o .no .no (λq hq=>(hr.wl q hq).1) (by omega) hn;have e':ic (cH 2 (bp (aw 3) (bp (aw 4) dj))) uA (fW r) [.val (.af o),.val (.af r),.bP o,.no,.no]=.ok (.nx [.val (.af o),.val (.af r),.bP (J o r),b3,b4]):=e;unfold oA yd
 exists dN,v_is
 rw [cR (by simp [e7]; omega)]
 exists dN,hu,e'
theorem abd {m:Nat}{o r:aj}(ho:Sg m o)(hr:Sg m r)(hn:¬ gL o r):oA [.af o,.af r]=.ex 0:=by
 have l1:=ho.len;have l2:=hr.len;have hu:=KR ho hr;have e:=NJ (b1:=.val (.af r)) ho r o .no .no (λq hq=>(hr.wl q hq).1) (by omega) hn;unfold oA yd
 exists dN,v_is
 rw [cR (by simp [e7]; omega)]
 exists dN,hu,e
noncomputable abbrev ca:List Nat:=[99,108,97,115,104]
noncomputable abbrev un:List Nat:=[117,110,108,105,107,101]
noncomputable abbrev tl:List Nat:=[116,111,111,32,108,111,110,103]
theorem w0:kQ 0=ca:=rfl
theorem w5:kQ 5=tl:=rfl
theorem w6:kQ 6=un:=rfl
theorem m0:(0∈([0,5,6]:List Nat))=True:=by simp
theorem m6:(6∈([0,5,6]:List Nat))=True:=by simp
theorem i0 {k:aj}:As (.af k)=false:=.trans rfl rfl
open Classical in
noncomputable def tD (o r:aj):Dt:=if gL o r then .af (J o r) else .str ca
theorem J1 {m:Nat}{o r:aj}(ho:Sg m o)(hr:Sg m r):l5 [.af o,.af r]=.ok (tD o r):=by
 unfold l5 BO tD
 by_cases hn:gL o r
 ·rw [if_pos hn]
  have:=abc ho hr hn
  exists aA,HL,i0,this,afY,afX
 ·rw [if_neg hn]
  have:=abd ho hr hn
  exists aA,HL,i0,this,Rk,m0,w0
theorem Ud {m:Nat}{o:aj}{z:List Nat}(ho:Sg m o)(h0:o≠[])(hz:z.length≠m):l5 [.af o,.af [([122],z)]]=.ok (.str un):=by
 have l1:=ho.len;have hu:kD [.lst (o.map (λp=>Dt.str p.2)++[.str z])]=.ex 6:=by
  have:=JT o [([122],z)];simp only [e7,a5,kF] at this;rw [this];refine TJ (by simp; omega) λh=>?_;have h1:=h z (by simp)
  cases o with
  |nil=>exact h0 rfl
  |cons p r=>
   have h2:=(ho.wl p (by simp)).1;simp at h1;omega
 have hj:oA [.af o,.af [([122],z)]]=.ex 6:=by
  unfold oA yd
  exists dN,v_is,e7
  rw [cR (by simp; omega)]
  exists dN,hu
 unfold l5 BO
 exists aA,HL,i0,hj,Rk,m6,w6
theorem Ue:l5 [.af [([97],bM 7 120)],.ax]=.ok (.str tl):=rfl
theorem wG {l:List Nat}{i:Nat}(h:i<l.length):d4 l (i:Int)=some (lv l i):=Bq (by simp [lv,h])
theorem PR (L:List Dt):bh (.lst L) (.lst [])=L.isEmpty:=by cases L <;> simp [bh,et]
theorem N2:∀l:List Nat,eU (iD l)=0
 | []=>rfl
 |a::l=>by
  show max (dep (Dt.int _)) (eU (iD l))=0;rw [N2 l];rfl
theorem Z0 {l:List Nat}:cA (.lst (iD l)) (.lst [])=.ok (.bl (!l.isEmpty)):=by
 rw [xM,cI (by simp only [dep,N2]; decide),PR]
 cases l <;> rfl
theorem aeZ {a b:List Nat}(h:a.length=b.length)(ha:a.length<=100)(va:gh a)(vb:gh b):yb [.str a,.str b]=.ok (.bl (!decide (dO a b=[]))):=by
 have c:dC 1 [0,1] (aw 0) (mq (a6 (p2 v3 (pC (.str [120])) (p2 bI (p2 dh (ae 1) (ae 0)) (p2 dh (ae 2) (ae 0))))) (a6 (p2 cA (p2 dh (ae 1) (ae 0)) (p2 dh (ae 2) (ae 0))))) (ae 0) [.val (.str a),.val (.str b)] (dz 0 (a.length:Nat))=.ok (.lst (iD (dO a b))):=by
  rw [show dz 0 (a.length:Nat)=(bf a.length).map (fun(i:Nat)=>Dt.int (i:Nat)) by have:=Lf (a:=0) (b:=a.length) (by omega); simpa using this];refine mV (fun(i:Nat)=>Dt.int (i:Nat)) (λi=>gc (lv a i) (lv b i)) (fun(i:Nat)=>Dt.int (i:Nat)) (λi=>[.val (.int (i:Nat)),.val (.str a),.val (.str b)]) (bf a.length) (by simp; omega) (λv _=>rfl) (λi hi=>?_) λi hi _=>rfl;have c8:i<a.length:=by simpa using hi
  have bg:i<b.length:=by omega
  exists aA,wG c8,wG bg
  rw [j0 (by simp)]
  exists ev
  by_cases hx:120∈[lv a i,lv b i]
  ·exists aA,hx
   simp only [aO,eL,or_false] at hx;rcases hx with z | z <;> simp [gc,← z]
  ·exists aA,hx,wG c8,wG bg
   simp only [aO,eL,or_false,not_or] at hx;have h1:¬ lv a i=120:=λz=>hx.1 z.symm;have h2:¬ lv b i=120:=λz=>hx.2 z.symm;simp [gc,h1,h2]
 unfold yb Jx
 exists aA,Rn
 rw [cI (by omega)]
 exists aA,c
 rw [cR (by simp)]
 exists aA,Z0
 cases dO a b <;> rfl
theorem Vy {ns:List Int}{a:Int}{names:List (List Nat)}{m most:Nat}(hn:names.Nodup)(hl:names.length<=30)(ha:0<=a)(h1:1<=m)(h2:m<=1000)(h3:most<=1000) :
  ∃kvs:aj,ya [gy ns,.int a,.lst (names.map Dt.str),.int (m:Nat),.int (most:Nat)]=.ok (.af kvs)/\kvs.map (·.1)=names/\∀p∈kvs,p.2.length=m/\gh p.2/\p.2.count 120<=most:=by
 obtain⟨f,hf⟩:=Classical.axiomOfChoice (λk:Nat=>VI (ns:=ns) (a:=a+60 * (k:Nat)) (many:=m) (most:=most) (by omega) h1 h2 h3);refine⟨(bf names.length).map λi=>(names.getD i [],f i),?_,?_,?_⟩
 ·unfold ya Jt
  exists aA,HQ,HM
  rw [Hb];simp only [dC];rw [m7 (λi:Nat=>Dt.tup [.int (i:Nat),.str (names.getD i [])]) (λi=>some (.tup [.str (names.getD i []),.str (f i)]))]
  ·rw [qt,gK,bt,cR (by simp; omega)]
   exists aA,Qo (λi:Nat=>names.getD i []) f (bf names.length) (by rw [range_getD]; exact hn)
  ·intro i hi
   have c8:i<names.length:=by simpa using hi
   have e1:=(hf i).1
   exists aA,nc,m9,bT,m8
   rw [cI (by omega)]
   exists aA,kA,e1
   rw [cI (by decide)]
   exists aA,kA
 ·rw [dw]
  exact range_getD names
 ·intro p hp
  obtain⟨i,hi,rfl⟩:=aX.mp hp;exact(hf i).2
theorem aai (w:List Nat)(t:Nat)(ht:t<w.length)(u:Nat)(hu:u<5):∃c:Nat,d4 [Dt.str [120],.str [120],.str [120],.str [48],.str [lv w t]] (u:Int)=some (.str [c])/\(c=120∨c=48∨c=lv w t):=by
 match u,hu with
 |0,_=>exact⟨120,rfl,.inl rfl⟩
 |1,_=>exact⟨120,rfl,.inl rfl⟩
 |2,_=>exact⟨120,rfl,.inl rfl⟩
 |3,_=>exact⟨48,rfl,.inr (.inl rfl)⟩
 |4,_=>exact⟨lv w t,rfl,.inr (.inr rfl)⟩
theorem aeY {w:List Nat}(hw:Kn w)(t c:Nat):(w.take t++[c]++w.drop (t+1)).count 120<=1:=by
 have h0:=M4 hw;have h1:=(u6 t w).count_le 120;have h2:=(yx (t+1) w).count_le 120;have h3:[c].count 120<=1:=List.count_le_length;rw [yw,yw];omega
theorem Oq {ns:List Int}{a:Int}{pl:aj}{names:List (List Nat)}{m:Nat}(ha:0<=a)(h1:1<=m)(hm:m<=6)(hl:names.length<=3)(hn:names.Nodup)(hp:∀n∈names,∃w,aE pl n=some w/\w.length=m/\Kn w) :
  ∃s:aj,qJ [gy ns,.int a,.af pl,.lst (names.map Dt.str)]=.ok (.af s)/\s.map (·.1)=names/\Sg m s:=by
 have iZ:(f9 (names.map Dt.str)).length=names.length:=by rw [Hb]; simp
 obtain⟨ρ,e,s,b5,b6,b7,b8,b9,rfl,hk,hs⟩:=GR (g:=cH 2 (bp (aw 5) (bp (aw 6) dj))) (b:=IV) (f9 (names.map Dt.str)) (λj ρ=>∃(s:aj) (b5 b6 b7 b8 b9:Bd),ρ=[.val (gy ns),.val (.int a),.val (.af pl),.val (.lst (names.map Dt.str)),.bP s,b5,b6,b7,b8,b9]/\s.map (·.1)=names.take j/\∀p∈s,p.2.length=m/\gh p.2/\p.2.count 120<=1) [.val (gy ns),.val (.int a),.val (.af pl),.val (.lst (names.map Dt.str)),.bP [],.no,.no,.no,.no,.no] ⟨[],.no,.no,.no,.no,.no,rfl,rfl,λp hp=>nomatch hp⟩ (by
  rintro j d ρ hd ⟨s,b5,b6,b7,b8,b9,rfl,hk,hs⟩;have hj:j<names.length:=by have:=(cP.mp hd).1; omega
  rw [Hb] at hd;simp [hj] at hd;subst hd;obtain⟨w,hw,wl,wk⟩:=hp names[j] (rg hj);have p1:=lj (ns:=ns) (k:=a+5 * (j:Nat)) (many:=(w.length:Nat)) (by omega) (by omega);have r1:=j9 ns (a+5 * (j:Nat)) (many:=(w.length:Nat)) (by omega);have r2:=mz ns (a+5 * (j:Nat)) (many:=(w.length:Nat)) (by omega);obtain⟨t,ht⟩:∃t:Nat,df ns (a+5 * (j:Nat)) (w.length:Nat)=t:=⟨_,(rn r1).symm⟩
  rw [ht] at p1 r1 r2;have p2:=lj (ns:=ns) (k:=a+5 * (j:Nat)+1) (many:=5) (by omega) (by omega);have u1:=j9 ns (a+5 * (j:Nat)+1) (many:=5) (by omega);have u2:=mz ns (a+5 * (j:Nat)+1) (many:=5) (by omega);obtain⟨u,hu⟩:∃u:Nat,df ns (a+5 * (j:Nat)+1) 5=u:=⟨_,(rn u1).symm⟩
  rw [hu] at p2 u1 u2;have pW:t<w.length:=by omega
  obtain⟨c,hc,hv⟩:=aai w t pW u (by omega);have N8:s.length=j:=by
   have:=congrArg uM hk;simp at this;omega
  have wR:∀q∈s,q.1≠names[j]:=λq hq z=>by
   have h1:names[j]∈names.take j:=by rw [← hk,← z]; exact aX.mpr ⟨q,hq,rfl⟩
   obtain⟨i,hi,e⟩:=List.getElem_of_mem h1;have c8:i<j:=by simp at hi; omega
   rw [BY] at e;exact absurd ((List.getElem_inj hn).mp e) (by omega)
  refine⟨_,?_,s++[(names[j],w.take t++[c]++w.drop (t+1))],.val (.int (j:Nat)),.val (.str names[j]),.val (.str w),.val (.int (t:Nat)),.val (.str [c]),rfl,?_,?_⟩
  ·unfold IV
   rw [Rq,cI (by simp)]
   exists dN,qA hw
   rw [cI (.inl (by decide))]
   exists aA,p1,wG pW
   rw [cR (by simp)]
   exists ev
   rw [cI (.inl (by decide))]
   exists dN,p2,hc
   rw [xw _ (j:=t) rfl,j0 (by simp; omega)]
   exists ev
   rw [QH _ (j:=t+1) (by omega),j0 (by simp; omega)]
   exists dv
   rw [cI (by omega),sC wR]
   exists ev
  ·rw [nt,hk,yv]
   simp [hj]
  ·intro p hp
   rcases eJ.mp hp with z | z
   ·exact hs p z
   ·rw [jm.mp z]
    refine⟨by simp; omega,λx hx=>?_,aeY wk t c⟩;simp only [eJ,jm] at hx;rcases hx with (hx | hx) | hx
    ·have:=wk x (nD hx); omega
    ·subst hx
     have:=wk (lv w t) (by simp [lv,pW]);omega
    ·have:=wk x (B9 hx); omega)
 refine⟨s,?_,?_,?_⟩
 ·unfold qJ Jw
  exists dN,HQ,HM,e
 ·rw [hk,iZ,uY]
 ·rw [iZ,uY] at hk
  exact⟨by unfold Nd; rw [hk]; exact hn,by have:=congrArg uM hk; simp at this; omega,hs,hm⟩
theorem VB {m:Nat}{s:aj}(h:Sg m s):(s.map (·.1)).eraseDups=s.map (·.1):=z8 h.nd
theorem K6 {m:Nat}{o:aj}{b0 b2 b4 b5 b6 b7 b8 b9 b10 qE b12 b13:Bd}(ho:Sg m o)(hd:∀p∈o,p.1≠[100]):IE [b0,.val (.int (m:Nat)),b2,.val (.af o),b4,b5,b6,b7,b8,b9,b10,qE,b12,b13,.no]=.ok (.rt (.bl true)):=by
 have l1:=ho.len;have hm:=ho.hm;have hf:∀w:List Nat,ji [.af o,.af (o++[([100],w)])]=.ok (.bl false):=λw=>by
  rw [A8 (by omega) (by simp; omega) λp hp=>by have:=ho.wl p hp; omega];unfold j5;have:neT (o.map (·.1)) ((o++[([100],w)]:aj).map (·.1))=true:=by
   unfold neT;rw [VB ho,z8 (show Nd (o++[([100],w)]) from by rw [← sC hd]; exact MA ho.nd),decide_eq_false (by simp)];rfl
  rw [this];rfl
 unfold IE RE RC
 exists dv
 rw [cI (by omega),tL,j0 (by simp; omega)]
 exists dv
 rw [cI (by omega),sC hd]
 exists dN,hf
 rfl
theorem z7 {o:aj}:cA (.af o) (.af [])=.ok (.bl (!o.isEmpty)):=by
 rw [xM,cI (by simp [dep])]
 cases o with
 |nil=>rfl
 |cons p r=>simp [bh,fg,lQ]
theorem Wt {m:Nat}{o:aj}{b0 b2 b4 b5 b6 b7 b8 b9 b10 qE b12:Bd}(ho:Sg m o)(hd:∀p∈o,p.1≠[100]):IF [b0,.val (.int (m:Nat)),b2,.val (.af o),b4,b5,b6,b7,b8,b9,b10,qE,b12,.no,.no]=.ok (.rt (.bl true)):=by
 have l1:=ho.len;have hm:=ho.hm;have c:dC 1 [3] (aw 0) dU (nS (ah (ae 0) (ah (p2 bI (p2 iY (ae 1) (ae 0)) (pC (.str [48]))) av))) [b0,.val (.int (m:Nat)),b2,.val (.af o),b4,b5,b6,b7,b8,b9,b10,qE,b12,.no,.no] (jB o)=.ok (.lst ((o.filter λ_=>true).map λp=>Dt.tup [.str p.1,.str (p.2++[48])])):=by
  refine mV (fun(p:List Nat×List Nat)=>Dt.str p.1) (λ_=>true) (λp=>Dt.tup [.str p.1,.str (p.2++[48])]) (λp=>[.val (.str p.1),.val (.af o)]) o (by omega) (λv _=>rfl) (λv _=>rfl) λp hp _=>?_;have:=ho.wl p hp
  exists dN,qA (jz ho.nd hp)
  rw [j0 (by simp; omega)]
  exists ev
  rw [cI (by decide)]
 rw [yE.mpr λ_ _=>rfl] at c;unfold IF RG
 exists dN,c,Qo (λp:PW=>p.1) (λp:PW=>p.2++[48]) o ho.nd
 cases o with
 |nil=>
  exists aA,z7,List.isEmpty_nil
  exact K6 ho hd
 |cons p r=>
  have hw:ji [.af (p::r),.af ((p::r).map λa=>(a.1,a.2++[48]))]=.ok (.bl false):=by
   rw [A8 (by omega) (by rw [cg]; omega) λp hp=>by have:=ho.wl p hp; omega];have h1:=ho.wl p (by simp);have:gd ((p::r).map λa=>(a.1,a.2++[48])) p.1=p.2++[48]:=oi (by rw [a5,fG,if_pos rfl]);unfold j5;rw [show ((p::r).all λq=>decide (q.2.length=(gd ((p::r).map λa=>(a.1,a.2++[48])) q.1).length)&&mX q.2 (gd ((p::r).map λa=>(a.1,a.2++[48])) q.1))=false by
    rw [mj,this,decide_eq_false (by simp)]
    rfl,uR]
  have FC:ji [.af (p::r),.af ((p.1,p.2++[48])::r.map λa=>(a.1,a.2++[48]))]=.ok (.bl false):=hw
  exists aA,z7,List.isEmpty_cons,FC
  exact K6 ho hd
theorem Qn {a b:List Nat}{f:aa->M Dt}{ρ:aa}(h:f ρ=.ok (.str b)):vW [(pC (.str a),f)] ρ=.ok (.af [(a,b)]):=by
 show (pPairs [(pC (.str a),f)] ρ).bd xu=_;simp only [pPairs,h,Ro,bt];rfl
theorem Eb {m:Nat}{o:aj}{b0 b2 b4 b5 b6 b7 b8 b9 b10 qE b12:Bd}(ho:Sg m o)(hd:∀p∈o,p.1≠[100]):IH [b0,.val (.int (m:Nat)),b2,.val (.af o),b4,b5,b6,b7,b8,b9,b10,qE,b12,.no,.no]=.ok (.rt (.bl true)):=by
 have hm:=ho.hm;have l1:=ho.len;have Qd:IG [b0,.val (.int (m:Nat)),b2,.val (.af o),b4,b5,b6,b7,b8,b9,b10,qE,b12,.no,.no]=.ok (.rt (.bl true)):=by
  unfold IG;have h7:∀ρ:aa,(p2 dY (pC (.str [120])) (pC (.int 7))) ρ=.ok (.str (bM 7 120)):=λρ=>rfl;have ht:=Ue
  exists aA,Qn (h7 _),ht
  exact Wt ho hd
 unfold IH
 cases o with
 |nil=>
  exists aA,CL,z7,List.isEmpty_nil
  exact Qd
 |cons p r=>
  have h7:∀ρ:aa,(p2 dY (pC (.str [48])) (p2 bI (ae 1) (pC (.int 1)))) (b0 :: .val (.int (m:Nat))::ρ)=.ok (.str (bM (m+1) 48)):=λρ=>by
   exists ev
   rw [cI (by omega),show ((m:Int)+1).toNat=m+1 by omega,tL,j0 (by simp; omega)];rfl
  have ht:=Ud (z:=bM (m+1) 48) ho (by simp) (by simp);generalize bM (m+1) 48=z at h7 ht
  exists aA,CL,z7,List.isEmpty_cons,Qn (h7 _),ht
  exact Qd
theorem M1 {k:aj}:nV (.af k)=.ok (.lst ((k.map (·.1)).map Dt.str)):=by
 show M.ok (Dt.lst (jB k))=_;unfold jB;rw [dw];rfl
theorem Dx {l:List (List Nat)}(h:l.length<=60):pG (.lst (l.map Dt.str))=.ok (.lst ((gT l).map Dt.str)):=by
 show (if (l.map Dt.str).length<=60 then Kx (e9 (l.map Dt.str)) else M.bad)=_;rw [if_pos (by rw [cg]; exact h),Dk];rfl
theorem Vb {l:List (List Nat)}(h:l.length<=60):vZ (.lst (l.map Dt.str))=.ok (.lst ((gT l.eraseDups).map Dt.str)):=by
 show (if (l.map Dt.str).length<=60 then Kw (e9 (l.map Dt.str)) else M.bad)=_;rw [if_pos (by rw [cg]; exact h),Dk];rfl
theorem wg {d:Dt}(h:dep d<=50):cA d d=.ok (.bl false):=by
 rw [xM,cI h,xt];rfl
theorem PQ:∀a b:List (List Nat),et (a.map Dt.str) (b.map Dt.str)=decide (a=b)
 | [],[]=>rfl
 | [],_::_=>by simp [et]
 |_::_,[]=>by simp [et]
 |x::a,y::b=>by
  show (x==y&&et (a.map Dt.str) (b.map Dt.str))=_;rw [PQ a b,jR];simp
theorem ad6 (a b:List (List Nat)):oEq (.lst (a.map Dt.str)) (.lst (b.map Dt.str))=.ok (.bl (decide (a=b))):=by
 rw [Rr,cI (Qu a)];show M.ok (Dt.bl (et _ _))=_;rw [PQ]
theorem Qt:∀l:List aj,eU (l.map Dt.af)<=1
 | []=>by simp [eU]
 |a::l=>by
  show max 1 (eU (l.map Dt.af))<=1;have:=Qt l;omega
theorem N1 (t:aj)(l:List aj):nW (.af t) (.lst (l.map Dt.af))=.ok (.bl (l.any λd=>fg d t)):=by
 show (if eU (l.map Dt.af)<=40 then M.ok (Dt.bl ((l.map Dt.af).any λd=>bh d (.af t))) else M.bad)=_;rw [if_pos (by have:=Qt l; omega),List.any_map];rfl
theorem O4 (f:PW->List Nat):∀(r acc:aj),(r.foldl (λa q=>a7 a q.1 (f q)) acc).length<=acc.length+r.length
 | [],acc=>by simp
 |q::r,acc=>by
  have h1:=O4 f r (a7 acc q.1 (f q));have h2:=sE acc q.1 (f q);rw [kH,cQ];omega
theorem ai6 (o r:aj):(J o r).length<=o.length+r.length:=O4 (jv o) r o
theorem Df:∀(s:aj),(∀p∈s,p.2.count 120<=1)->(s.map λp=>p.2.count 120).sum<=s.length
 | [],_=>by simp
 |p::r,h=>by
  have h1:=Df r λx hx=>h x (by simp [hx]);have h2:=h p (by simp);simp only [a5,qS,cQ];omega
theorem zO {m:Nat}{o:aj}(ho:Sg m o):(aY o).length<=10000:=by
 rw [Ek];refine bH (yI (by decide) (bH (Df o λp hp=>(ho.wl p hp).2.2) ho.len)) (by decide)
theorem aeo {m:Nat}{o r:aj}{b0 b1 b2 b3 b6 b7 b8 b9 b10:Bd}(ho:Sg m o)(hr:Sg m r):dC 1 [4] (aw 0) (a6 (aG ji (ah (ae 1) (ah (ae 0) av)))) (ae 0) [b0,b1,b2,b3,.val (.af r),.val (.lst ((aY o).map Dt.af)),b6,b7,b8,b9,b10,.no,.no,.no,.no] ((aY o).map Dt.af)=.ok (.lst (((aY o).filter (j5 r)).map Dt.af)):=by
 have l1:=ho.len;have l2:=hr.len;have hm:=ho.hm;refine mV Dt.af (j5 r) Dt.af (λt=>[.val (.af t),.val (.af r)]) (aY o) ?_ (λv _=>rfl) (λt ht=>?_) λt _ _=>rfl
 ·exact zO ho
 ·have c:=pD.mp ht
  exists aA,A8 (s:=r) (k:=t) (by omega) (by rw [Hr c]; omega) λp hp=>by have:=hr.wl p hp; omega
theorem inC {L:List aj}{b0 b1 b2 b3 b4 b5 b6 b7 b8 b9 b10 b12:Bd}(hL:L.length<=10000):dC 1 [11] (aw 0) (a6 (p2 pH (ae 0) (ae 1))) (ae 0) [b0,b1,b2,b3,b4,b5,b6,b7,b8,b9,b10,.val (.lst (L.map Dt.af)),b12,.no,.no] (L.map Dt.af)=.ok (.lst []):=by
 have c:dC 1 [11] (aw 0) (a6 (p2 pH (ae 0) (ae 1))) (ae 0) [b0,b1,b2,b3,b4,b5,b6,b7,b8,b9,b10,.val (.lst (L.map Dt.af)),b12,.no,.no] (L.map Dt.af)=.ok (.lst ((L.filter λ_=>false).map Dt.af)):=by
  refine mV Dt.af (λ_=>false) Dt.af (λt=>[.val (.af t),.val (.lst (L.map Dt.af))]) L hL (λv _=>rfl) (λt ht=>?_) λt _ _=>rfl;have h1:(L.any λd=>fg d t)=true:=yt.mpr ⟨t,ht,ad8 t⟩;have h2:pH (.af t) (.lst (L.map Dt.af))=.ok (.bl false):=by
   unfold pH;rw [N1,h1];rfl
  exists aA,h2
 rw [c];simp
theorem Wu {m:Nat}{o r:aj}{b0 b2 b6 b7 b8 b9:Bd}(ho:Sg m o)(hr:Sg m r)(hd:∀p∈o,p.1≠[100]):II [b0,.val (.int (m:Nat)),b2,.val (.af o),.val (.af r),.val (.lst ((aY o).map Dt.af)),b6,b7,b8,b9,.val (tD o r),.no,.no,.no,.no]=.ok (.rt (.bl true)):=by
 have l1:=ho.len;have l2:=hr.len;have hm:=ho.hm;unfold II tD
 by_cases hn:gL o r
 ·rw [if_pos hn]
  have bF:cA (.af (J o r)) (.str ca)=.ok (.bl true):=rfl;have hL:=ai6 o r;have h1:(J o r).length<=60:=by omega
  have hk:∀{k:aj},k.length<=60->(k.map (·.1)).length<=60:=λ{k} h=>by rw [cg]; exact h
  exists aA,bF,M1,Dx (hk h1)
  rw [cR (by simp; omega),← nt]
  exists aA,Vb (l:=o.map (·.1)++r.map (·.1)) (by simp; omega),ai3 ho.nd hr.nd,wg (Qu _),M1,Dx (hk (k:=o) (by omega)),Dx (hk (k:=r) (by omega)),ad6
  by_cases hs:gT (o.map (·.1))=gT (r.map (·.1))
  ·have hp:(o.map (·.1)).Perm (r.map (·.1)):=(k9 _).symm.trans (hs ▸ k9 _)
   obtain⟨acT,N9⟩:=aen ho hr hn hp;have c1:=aeo (b0:=b0) (b1:=.val (.int (m:Nat))) (b2:=b2) (b3:=.val (.af o)) (b6:=b6) (b7:=b7) (b8:=b8) (b9:=b9) (b10:=.val (.af (J o r))) ho hr;rw [acT] at c1;have c2:=inC (L:=aY (J o r)) (b0:=b0) (b1:=.val (.int (m:Nat))) (b2:=b2) (b3:=.val (.af o)) (b4:=.val (.af r)) (b5:=.val (.lst ((aY o).map Dt.af))) (b6:=b6) (b7:=b7) (b8:=b8) (b9:=b9) (b10:=.val (.af (J o r))) (b12:=.val (.lst ((aY (J o r)).map Dt.af))) (zO N9)
   exists aA,hs,c1,KS N9,c2
   rw [cR (by simp)]
   exists aA,wg (d:=.lst []) (by decide)
   exact Eb ho hd
  ·exists aA,hs
   exact Eb ho hd
 ·rw [if_neg hn]
  exists ev
  exact Eb ho hd
theorem UP {m:Nat}{o r:aj}(ho:Sg m o)(hr:Sg m r):cA (tD o r) (tD r o)=.ok (.bl false):=by
 unfold tD
 by_cases h:gL o r
 ·rw [if_pos h,if_pos (h.symm ho hr),xM,cI (by simp [dep])]
  show M.ok (Dt.bl (!fg (J o r) (J r o)))=_;rw [ai7 ho hr h];rfl
 ·rw [if_neg h,if_neg λz=>h (z.symm hr ho)]
  rfl
noncomputable def ju (r:aj)(p:PW):Bool:=match aE r p.1 with | some w=>!decide (dO p.2 w=[]) | none=>false
theorem Zq {m:Nat}{o r:aj}{b0 b1 b2 b5 b6 b7 b8:Bd}(ho:Sg m o)(hr:Sg m r):dC 1 [3,4] (aw 0) (mq (a6 (p2 v5 (ae 0) (ae 2))) (a6 (aG yb (ah (p2 iY (ae 1) (ae 0)) (ah (p2 iY (ae 2) (ae 0)) av))))) (ae 0) [b0,b1,b2,.val (.af o),.val (.af r),b5,b6,b7,b8,.no,.no,.no,.no,.no,.no] (jB o)=.ok (.lst ((o.filter (ju r)).map λp=>Dt.str p.1)):=by
 have l1:=ho.len;have hm:=ho.hm;refine mV (fun(p:PW)=>Dt.str p.1) (ju r) (λp=>Dt.str p.1) (λp=>[.val (.str p.1),.val (.af o),.val (.af r)]) o (by omega) (λv _=>rfl) (λp hp=>?_) λt _ _=>rfl;have h1:=ho.wl p hp
 cases h:aE r p.1 with
 |none=>
  have e:ju r p=false:=by simp [ju,h]
  rw [e]
  exists dN,h,yB
 |some w=>
  have h2:=hr.at h;have e:ju r p=!decide (dO p.2 w=[]):=by simp [ju,h]
  rw [e]
  exists dN,h,rj,qA (jz ho.nd hp),qA h,aeZ (a:=p.2) (b:=w) (by omega) (by omega) h1.2.1 h2.2.1
theorem Ml {m:Nat}{o r:aj}(ho:Sg m o)(hr:Sg m r):(o.filter (ju r))=[]↔gL o r:=by
 rw [Ce];constructor
 ·intro h q hq v hv
  have h1:=h (q.1,v) (jA hv);simp only [ju,jz hr.nd hq] at h1;simpa using h1
 ·intro h p hp z
  unfold ju at z
  cases hw:aE r p.1 with
  |none=>rw [hw] at z; cases z
  |some w=>
   rw [hw] at z;have:=h (p.1,w) (jA hw) p.2 (jz ho.nd hp);simp [this] at z
theorem vI {m:Nat}{o r:aj}{b0 b2 b6 b7 b8:Bd}(ho:Sg m o)(hr:Sg m r)(hd:∀p∈o,p.1≠[100]):IJ [b0,.val (.int (m:Nat)),b2,.val (.af o),.val (.af r),.val (.lst ((aY o).map Dt.af)),b6,b7,b8,.no,.no,.no,.no,.no,.no]=.ok (.rt (.bl true)):=by
 have c:=Zq (b0:=b0) (b1:=.val (.int (m:Nat))) (b2:=b2) (b5:=.val (.lst ((aY o).map Dt.af))) (b6:=b6) (b7:=b7) (b8:=b8) ho hr;have e2:∀L:List PW,cA (.lst (L.map λp=>Dt.str p.1)) (.lst [])=.ok (.bl (!L.isEmpty)):=λL=>by
  rw [xM,cI (by simp only [dep,Hl (λp:PW=>p.1)]; decide),PR]
  cases L <;> rfl
 have e3:oEq (tD o r) (.str ca)=.ok (.bl (!(o.filter (ju r)).isEmpty)):=by
  unfold tD
  by_cases hn:gL o r
  ·rw [if_pos hn,(Ml ho hr).mpr hn]
   rfl
  ·rw [if_neg hn]
   cases hf:o.filter (ju r) with
   |nil=>exact absurd ((Ml ho hr).mp hf) hn
   |cons a b=>rfl
 unfold IJ RI RH
 exists dN,c,J1 ho hr,J1 hr ho,UP ho hr,e3
 rw [cR (by simp)]
 exists aA,e2,wg (d:=.bl (!(o.filter (ju r)).isEmpty)) (by simp [dep])
 exact Wu ho hr hd
theorem aed (l:List aj):f9 (l.map Dt.af)=(bf l.length).map λi=>Dt.tup [.int (i:Nat),.af (l.getD i [])]:=by
 unfold f9;rw [cg]
 apply nz
 intro i;simp only [yJ,gR,vc]
 by_cases h:i<l.length
 ·simp [h]
 ·simp [h]
theorem aem {m:Nat}{o:aj}{b0 b1 b2 b3 b4 b6 b7 b8:Bd}(ho:Sg m o):dC 2 [5] (cH 2 (bp (aw 0) (bp (aw 1) dj))) (a6 (p2 nW (ae 1) (kc (ae 2) (dX none) (dX (some (ae 0)))))) (ae 1) [b0,b1,b2,b3,b4,.val (.lst ((aY o).map Dt.af)),b6,b7,b8,.no,.no,.no,.no,.no,.no] (f9 ((aY o).map Dt.af))=.ok (.lst []):=by
 have c:dC 2 [5] (cH 2 (bp (aw 0) (bp (aw 1) dj))) (a6 (p2 nW (ae 1) (kc (ae 2) (dX none) (dX (some (ae 0)))))) (ae 1) [b0,b1,b2,b3,b4,.val (.lst ((aY o).map Dt.af)),b6,b7,b8,.no,.no,.no,.no,.no,.no] (f9 ((aY o).map Dt.af))=.ok (.lst (((bf (aY o).length).filter λ_=>false).map λi=>Dt.af ((aY o).getD i []))):=by
  rw [aed];refine mV (λi=>Dt.tup [.int (i:Nat),.af ((aY o).getD i [])]) (λ_=>false) (λi=>Dt.af ((aY o).getD i [])) (λi=>[.val (.int (i:Nat)),.val (.af ((aY o).getD i [])),.val (.lst ((aY o).map Dt.af))]) (bf (aY o).length) (by rw [ri]; exact zO ho) (λv _=>rfl) (λi hi=>?_) λt _ _=>rfl;have c8:i<(aY o).length:=by simpa using hi
  have h1:((aY o).take i).any (λd=>fg d ((aY o).getD i []))=false:=by
   rw [← Bool.not_eq_true,yt];rintro⟨t,ht,e⟩;have hx:(aY o).getD i []=(aY o)[i]:=by simp [c8]
   rw [hx] at e;have c1:=pD.mp (nD ht);have c2:=pD.mp (rg c8);have e':=ad9 (by rw [c1.keys,c2.keys]) (Hq c1 ho.nd) e;obtain⟨j,hj,ej⟩:=List.getElem_of_mem ht;have Om:j<i:=by simp at hj; omega
   rw [BY] at ej;rw [← ej] at e';exact absurd ((List.getElem_inj (LM o)).mp e') (by omega)
  exists ev
  rw [xw _ (j:=i) rfl,← List.map_take,N1,h1];rfl
 rw [c];simp
theorem s9 {m:Nat}{o r:aj}{b0 b2 b6 b7 b8:Bd}(ho:Sg m o)(hr:Sg m r)(hd:∀p∈o,p.1≠[100]):IB [b0,.val (.int (m:Nat)),b2,.val (.af o),.val (.af r),.val (.lst ((aY o).map Dt.af)),b6,b7,b8,.no,.no,.no,.no,.no,.no]=.ok (.rt (.bl true)):=by
 have c:=aem (b0:=b0) (b1:=.val (.int (m:Nat))) (b2:=b2) (b3:=.val (.af o)) (b4:=.val (.af r)) (b6:=b6) (b7:=b7) (b8:=b8) ho;unfold IB
 exists aA,HQ,HM,c
 have z:(((0:Nat):Int)=0)=True:=by simp
 exists aA,z
 exact vI ho hr hd
theorem afs {m:Nat}{o:aj}{b0 b1 b2 b4 b5 b6 b7:Bd}(ho:Sg m o):dC 1 [3] (aw 0) (kY (a6 (p2 lx (aG ji (ah (ae 1) (ah (ae 0) av))) (pC (.bl true)))) (a6 (p2 lx (aG ni (ah (ae 0) av)) (pC (.bl true))))) (ae 0) [b0,b1,b2,.val (.af o),b4,b5,b6,b7,.no,.no,.no,.no,.no,.no,.no] ((aY o).map Dt.af)=.ok (.lst []):=by
 have l1:=ho.len;have hm:=ho.hm;have c:dC 1 [3] (aw 0) (kY (a6 (p2 lx (aG ji (ah (ae 1) (ah (ae 0) av))) (pC (.bl true)))) (a6 (p2 lx (aG ni (ah (ae 0) av)) (pC (.bl true))))) (ae 0) [b0,b1,b2,.val (.af o),b4,b5,b6,b7,.no,.no,.no,.no,.no,.no,.no] ((aY o).map Dt.af)=.ok (.lst (((aY o).filter λ_=>false).map Dt.af)):=by
  refine mV Dt.af (λ_=>false) Dt.af (λt=>[.val (.af t),.val (.af o)]) (aY o) (zO ho) (λv _=>rfl) (λt ht=>?_) λt _ _=>rfl;have c:=pD.mp ht;have h1:=A8 (s:=o) (k:=t) (by omega) (by rw [Hr c]; omega) λp hp=>by have:=ho.wl p hp; omega
  rw [VC ho c] at h1
  exists aA,h1,aaR ho c,beq_self_eq_true
 rw [c];simp
theorem KG:∀(n k:Nat) (yf:Bd){b0 b1 b2 b3 b4 b5:Bd} (f:Nat->Dt),k+n<=40->∃b7,d3 (aw 7) xT ((bf n).map f) [b0,b1,b2,b3,b4,b5,.val (.int ((2 ^ k:Nat):Int)),yf,.no,.no,.no,.no,.no,.no,.no]=.ok (.nx [b0,b1,b2,b3,b4,b5,.val (.int ((2 ^ (k+n):Nat):Int)),b7,.no,.no,.no,.no,.no,.no,.no])
 |0,k,yf,_,_,_,_,_,_,f,_=>⟨yf,rfl⟩
 |n+1,k,yf,b0,b1,b2,b3,b4,b5,f,h=>by
  obtain⟨b7,ih⟩:=KG n (k+1) (.val (f 0)) (b0:=b0) (b1:=b1) (b2:=b2) (b3:=b3) (b4:=b4) (b5:=b5) (λi=>f (i+1)) (by omega);refine⟨b7,?_⟩;rw [Cd,a5,dw];have e:(2:Int) * ((2 ^ k:Nat):Int)=((2 ^ (k+1):Nat):Int):=by rw [Nat.pow_succ]; omega
  have hb:(2:Int)<2 ^ 64:=by decide
  have l1:xT [b0,b1,b2,b3,b4,b5,.val (.int ((2 ^ k:Nat):Int)),.val (f 0),.no,.no,.no,.no,.no,.no,.no]=.ok (.nx [b0,b1,b2,b3,b4,b5,.val (.int ((2 ^ (k+1):Nat):Int)),.val (f 0),.no,.no,.no,.no,.no,.no,.no]):=by
   unfold xT
   exists ev
   rw [cI (.inl (by decide)),e]
   exists ev
  rw [show k+(n+1)=k+1+n by omega]
  exists aA,l1
  exact ih
theorem s4 {m:Nat}{o r:aj}{b0 b2:Bd}(ho:Sg m o)(hr:Sg m r)(hd:∀p∈o,p.1≠[100]):ID [b0,.val (.int (m:Nat)),b2,.val (.af o),.val (.af r),.no,.no,.no,.no,.no,.no,.no,.no,.no,.no]=.ok (.rt (.bl true)):=by
 have hu:=VA ho;have hs:=Df o λp hp=>(ho.wl p hp).2.2;have hl:=ho.len;have bO:=Ek o;generalize hN:(o.map λp=>p.2.count 120).sum=N at hu hs bO;have hrn:dz 0 (N:Nat)=(bf N).map (fun(i:Nat)=>Dt.int (i:Nat)):=by have:=Lf (a:=0) (b:=N) (by omega); simpa using this
 obtain⟨b7,e⟩:=KG N 0 .no (b0:=b0) (b1:=.val (.int (m:Nat))) (b2:=b2) (b3:=.val (.af o)) (b4:=.val (.af r)) (b5:=.val (.lst ((aY o).map Dt.af))) (fun(i:Nat)=>Dt.int (i:Nat)) (by omega);rw [← hrn,uO] at e;have e':d3 (aw 7) xT (dz 0 (N:Nat)) [b0,.val (.int (m:Nat)),b2,.val (.af o),.val (.af r),.val (.lst ((aY o).map Dt.af)),.val (.int 1),.no,.no,.no,.no,.no,.no,.no,.no]=_:=e;have c:=afs (b0:=b0) (b1:=.val (.int (m:Nat))) (b2:=b2) (b4:=.val (.af r)) (b5:=.val (.lst ((aY o).map Dt.af))) (b6:=.val (.int ((2 ^ N:Nat):Int))) (b7:=b7) ho;have hk:ni [.af o]=.ok (.bl (decide ((N:Int)=0))):=by
  unfold ni BL
  exists aA,hu
 unfold ID RA Ry Rx Rw
 exists aA,KS ho,hu
 rw [cI (by omega)]
 exists aA,e',c,bO
 rw [cR (by simp)]
 exists aA,wg (d:=.lst []) (by decide),hk,hu,wg (d:=.bl (decide ((N:Int)=0))) (by simp [dep])
 exact s9 ho hr hd
theorem aaS {w:List Nat}(h:gh w)(h0:w.count 120<=0):Kn w:=λc hc=>by
 have h1:=h c hc;have h2:120∉w:=B6.mp (by omega);have h3:c≠120:=λz=>h2 (z ▸ hc);omega
theorem aaJ (ns:List Int)(_:ns.length<=63):uF [.lst (ns.map Dt.int)]=.ok (.bl true):=by
 show uF [gy ns]=_;have p0:=lj (ns:=ns) (k:=0) (many:=6) (by omega) (by omega);have q1:=j9 ns 0 (many:=6) (by omega);have q2:=mz ns 0 (many:=6) (by omega);obtain⟨m',fc⟩:∃t:Nat,df ns 0 6=t:=⟨_,(rn q1).symm⟩
 rw [fc] at p0 q1 q2;obtain⟨m,hm⟩:∃m:Nat,(1:Int)+m'=m:=⟨1+m',by omega⟩
 obtain⟨pl,bO,pk,pw⟩:=Vy (ns:=ns) (a:=10) (names:=[[97],[98],[99]]) (m:=m) (most:=0) (by decide) (by decide) (by omega) (by omega) (by omega) (by omega);have XO:Nd pl:=by unfold Nd; rw [pk]; decide
 have LV:∀n∈[[97],[98],[99]],∃w,aE pl n=some w/\w.length=m/\Kn w:=λn hn=>by
  rw [← pk] at hn;obtain⟨p,hp,rfl⟩:=aX.mp hn;have h1:=pw p hp;exact⟨p.2,jz XO hp,h1.1,aaS h1.2.1 h1.2.2⟩
 have p1:=lj (ns:=ns) (k:=1) (many:=4) (by omega) (by omega);have r1:=j9 ns 1 (many:=4) (by omega);obtain⟨t1,pV⟩:∃t:Nat,df ns 1 4=t:=⟨_,(rn r1).symm⟩
 rw [pV] at p1;have p2:=lj (ns:=ns) (k:=2) (many:=4) (by omega) (by omega);have r2:=j9 ns 2 (many:=4) (by omega);obtain⟨t2,FF⟩:∃t:Nat,df ns 2 4=t:=⟨_,(rn r2).symm⟩
 rw [FF] at p2;obtain⟨o,ho,ok,os⟩:=Oq (ns:=ns) (a:=200) (pl:=pl) (names:=[[97],[98],[99]].take t1) (m:=m) (by omega) (by omega) (by omega) (by simp; omega) (List.Nodup.sublist (u6 _ _) (by decide)) λn hn=>LV n (nD hn);obtain⟨r,hr,rk,rs⟩:=Oq (ns:=ns) (a:=240) (pl:=pl) (names:=[[99],[98],[97]].take t2) (m:=m) (by omega) (by omega) (by omega) (by simp; omega) (List.Nodup.sublist (u6 _ _) (by decide)) λn hn=>LV n (by
  have:=nD hn;simp only [aO,eL,or_false] at this ⊢;rcases this with h | h | h <;> simp [h])
 have hd:∀p∈o,p.1≠[100]:=λp hp z=>by
  have h1:p.1∈[[97],[98],[99]].take t1:=by rw [← ok]; exact aX.mpr ⟨p,hp,rfl⟩
  have h2:=nD h1;rw [z] at h2;exact absurd h2 (by decide)
 have aca:ya [gy ns,.int 10,.lst [.str [97],.str [98],.str [99]],.int (m:Nat),.int 0]=.ok (.af pl):=bO;have gE:qJ [gy ns,.int 200,.af pl,.lst ([Dt.str [97],.str [98],.str [99]].take t1)]=.ok (.af o):=by rw [← ho,List.map_take]; rfl
 have FI:qJ [gy ns,.int 240,.af pl,.lst ([Dt.str [99],.str [98],.str [97]].take t2)]=.ok (.af r):=by rw [← hr,List.map_take]; rfl
 unfold uF Jm RJ RD RB
 exists aA,p0,hm
 rw [cR (by simp)]
 exists aA,aca
 rw [cR (by simp)]
 exists aA,p1
 rw [xw _ (j:=t1) rfl]
 exists aA,gE
 rw [cR (by simp)]
 exists aA,p2
 rw [xw _ (j:=t2) rfl]
 exists aA,FI,s4 os rs hd
end uB
end ai2
namespace L2
open PySem PySem.Spec PyProof.Rows
noncomputable abbrev Key:=Sum Int Str
noncomputable def mE:Key->Value->Bool
 |.inl k,v=>Value.isInt k v
 |.inr x,v=>Value.isStrOf x v
noncomputable def abb (w:World):Key->Int
 |.inl k=>hashInt k
 |.inr x=>hashStr w x
theorem ke:∀{k:Key}{v:Value},mE k v=true->(∃i t,k=Sum.inl i/\v=Value.int i t)∨(∃x t,k=Sum.inr x/\v=qP x t)
 |.inl i,v,h=>by
  obtain⟨t,e⟩:=Value.isInt_shape (k:=i) (v:=v) h;exact .inl ⟨i,t,rfl,e⟩
 |.inr x,v,h=>by
  obtain⟨t,e⟩:=u9 (x:=x) (v:=v) h;exact .inr ⟨x,t,rfl,e⟩
theorem aba (i:Int)(t:Tok):mE (.inl i) (.int i t)=true:=by simp [mE,Value.isInt]
theorem aa9 (x:Str)(t:Tok):mE (.inr x) (.str x t)=true:=by simp [mE,Value.isStrOf]
theorem aa8 (a b:Int):decide ((Sum.inl a:Key)=Sum.inl b)=(a==b):=by
 by_cases e:a=b
 ·subst e; simp
 ·have h:¬ (Sum.inl a:Key)=Sum.inl b:=λq=>e (Sum.inl.inj q)
  rw [decide_eq_false h];exact(beq_eq_false_iff_ne.mpr e).symm
theorem aa4 (a b:Str):decide ((Sum.inr a:Key)=Sum.inr b)=decide (a=b):=by
 by_cases e:a=b
 ·subst e; simp
 ·have h:¬ (Sum.inr a:Key)=Sum.inr b:=λq=>e (Sum.inr.inj q)
  rw [decide_eq_false h,decide_eq_false e]
theorem aa7 (a:Int)(b:Str):decide ((Sum.inl a:Key)=Sum.inr b)=false:=decide_eq_false (λq=>nomatch q)
theorem aa5 (a:Str)(b:Int):decide ((Sum.inr a:Key)=Sum.inl b)=false:=decide_eq_false (λq=>nomatch q)
noncomputable def bW (prog:Program)(w:World):PySem.KeyKind prog w Key where
 is:=mE
 hash:=abb w
 inj:=λv a b ha hb=>by
  rcases ke ha with ⟨i,t,rfl,rfl⟩ | ⟨x,t,rfl,rfl⟩
  ·rcases ke hb with ⟨j,u,rfl,e⟩ | ⟨y,u,rfl,e⟩
   ·injection e with e1 _; rw [e1]
   ·exact nomatch e
  ·rcases ke hb with ⟨j,u,rfl,e⟩ | ⟨y,u,rfl,e⟩
   ·exact nomatch e
   ·injection e with e1 _; rw [e1]
 byValue:=λk v h=>by
  rcases ke h with ⟨i,t,rfl,rfl⟩ | ⟨x,t,rfl,rfl⟩ <;> rfl
 pyHash:=λhv h=>by
  rcases ke hv with ⟨i,t,rfl,rfl⟩ | ⟨x,t,rfl,rfl⟩
  ·exact wpAny_pyHash_int h
  ·exact wpAny_pyHash_str h
 eqBool:=λhu hv h=>by
  rcases ke hu with ⟨i,t,rfl,rfl⟩ | ⟨x,t,rfl,rfl⟩
  ·rcases ke hv with ⟨j,u,rfl,rfl⟩ | ⟨y,u,rfl,rfl⟩
   ·rw [aa8] at h; exact wpAny_eqBool_int h
   ·rw [aa7] at h; exact SeqAt.EqAt.int_str i t y u _ _ _ _ h
  ·rcases ke hv with ⟨j,u,rfl,rfl⟩ | ⟨y,u,rfl,rfl⟩
   ·rw [aa5] at h; exact SeqAt.EqAt.str_int x t j u _ _ _ _ h
   ·rw [aa4] at h; exact wpAny_eqBool_str h
 «strs» := λk x t v h=>by
  rcases ke h with ⟨i,u,rfl,e⟩ | ⟨y,u,rfl,e⟩
  ·exact nomatch e
  ·injection e with e1 _
   subst e1
   cases v <;> rfl
theorem aad (prog:Program)(w:World)(i:Int)(t:Tok):(bW prog w).is (.inl i) (.int i t)=true:=aba i t
theorem MI (prog:Program)(w:World)(x:Str)(t:Tok):(bW prog w).is (.inr x) (.str x t)=true:=aa9 x t
inductive V where
 |ax | bl (b:Bool) | int (i:Int) | str (x:Str) | lT (b:Array UInt8) | A4 (b:UInt64) | ref (a:Addr) | ty (n:String)
 deriving DecidableEq
noncomputable def RelV:V->Value->Prop
 |.ax,u=>u=eX
 |.bl b,u=>u=Value.bool b
 |.int i,u=>∃t,u=Value.int i t
 |.str x,u=>∃t,u=qP x t
 |.lT b,u=>∃t,u=Value.bytes b t
 |.A4 b,u=>∃t,u=Value.float b t
 |.ref a,u=>u=bx a
 |.ty n,u=>u=kO n
noncomputable abbrev Vals:List V->List Value->Prop:=Paired RelV
theorem Vals.length {xs:List V}{us:List Value}(r:Vals xs us):xs.length=us.length:=yj r
theorem Vals.get:∀{xs:List V}{us:List Value}{i:Nat}{x:V},Vals xs us->xs[i]?=some x->∃u,us[i]?=some u/\RelV x u
 |_,_,_,_,.nil,e=>by simp at e
 |_,_,0,_,.cons r _,e=>by simp at e; subst e; exact⟨_,rfl,r⟩
 |_,_,i+1,x,.cons _ t,e=>by
  obtain⟨u,h1,h2⟩:=Vals.get (i:=i) (x:=x) t (by simpa using e);exact⟨u,by simpa using h1,h2⟩
theorem Vals.append:∀{xs ys:List V}{us ws:List Value},Vals xs us->Vals ys ws->Vals (xs++ys) (us++ws)
 |_,_,_,_,.nil,s=>s
 |_,_,_,_,.cons r t,s=>.cons r (Vals.append t s)
theorem Vals.take:∀{xs:List V}{us:List Value} (n:Nat),Vals xs us->Vals (xs.take n) (us.take n)
 |_,_,0,_=>.nil
 |_,_,_+1,.nil=>.nil
 |_,_,n+1,.cons r t=>.cons r (Vals.take n t)
theorem Vals.drop:∀{xs:List V}{us:List Value} (n:Nat),Vals xs us->Vals (xs.drop n) (us.drop n)
 |_,_,0,r=>r
 |_,_,_+1,.nil=>.nil
 |_,_,n+1,.cons _ t=>Vals.drop n t
noncomputable def lY:Option V->Option Value->Prop
 |some v,some u=>RelV v u
 |none,none=>True
 |_,_=>False
noncomputable def KV {κ:Type}:List (κ×V)->List (κ×Value)->Prop:=Paired fun(p:κ×V) (q:κ×Value)=>p.1=q.1/\RelV p.2 q.2
noncomputable def kV:Key->V
 |.inl i=>.int i
 |.inr x=>.str x
inductive HO where
 |lst (xs:List V)
 |tup (xs:List V)
 |dK (kvs:List (Key×V)) | dT (kvs:List (List Key×V))
 |set (S:Int->Bool) (n:Nat)
 |ins (C dx:Addr) (fs:List (Str×V))
 |own (x:Addr)
 |xd (fs:List (Str×V))
 |met (f x:Addr)
 |zK (lo hi:Int)
 |bG (o:Obj) (u:HO)
 |kX (q:Str)
 |ext (φ:Heap->Prop)
noncomputable abbrev Hp:=Addr->Option HO
noncomputable def upd (H:Hp)(a:Addr)(o:HO):Hp:=λb=>if b=a then some o else H b
theorem bY {H:Hp}{a:Addr}{o:HO}:upd H a o a=some o:=by unfold upd; rw [if_pos rfl]
theorem ba {H:Hp}{a b:Addr}{o:HO}(h:b≠a):upd H a o b=H b:=by unfold upd; rw [if_neg h]
theorem Tt {H:Hp}{a:Addr}{o u:HO}:upd (upd H a o) a u=upd H a u:=by
 funext b; unfold upd; split <;> rfl
theorem ZZ {H:Hp}{a b:Addr}{o u:HO}(h:H a=some o)(h':H b=some u)(d:o≠u):a≠b:=by
 intro e; subst e; rw [h] at h'; exact d (gn h')
theorem cZ {H:Hp}{a b:Addr}{o:HO}(h:H a=some o)(h':H b=none):a≠b:=by
 intro e; subst e; rw [h] at h'; cases h'
section
variable (P:Program)(w:World)
noncomputable def d5 (H:Hp)(h:Heap)(a:Addr):HO->Prop
 |.lst xs=>xs.length<=sizeLine/\∃(ak:List Value) (n:Nat),Vals xs ak/\h.get? a=some {cls:=.type "list",data:=.seq ak.toArray n}
 |.tup xs=>xs.length<=sizeLine/\∃ak:List Value,Vals xs ak/\IsTup h a ak.toArray
 |.dK kvs=>kvs.length<=sizeLine/\(a==sysModules)=false/\∃vs,KV kvs vs/\h.DictOf (bW P w) a vs
 |.dT kvs=>kvs.length<=sizeLine/\(a==sysModules)=false/\∃xs:List (List Key×Addr×Value),
   Paired (fun(p:List Key×V) (q:List Key×Addr×Value)=>p.1=q.1/\H q.2.1=some (.tup (p.1.map kV))/\RelV p.2 q.2.2) kvs xs/\
   ∃o es ep,h.get? a=some o/\o.ExactDict/\o.data=.dict es ep/\es.toList=xs.map (entryOfKey (tupleKind (bW P w)))/\(xs.map (·.1)).Nodup
 |.set S n=>h.SetOf (intKind P w) a S n
 |.ins C dx fs=>H dx=some (.own a)/\fs.length<=1000/\dx≠a/\h.get? a=some (PySem.W.instObj C dx)/\
   ∃mA,h.Ns1 dx mA/\(∀f,lY (fs.lookup f) (mA f))/\PySem.Within mA (fs.map (·.1))
 |.own _=>∃o,h.get? a=some o
 |.xd fs=>∃mA,h.Ns1 a mA/\∀f,lY (fs.lookup f) (mA f)
 |.zK lo hi=>∃t u v,h.get? a=some {cls:=.type "range",data:=.fields #[.int lo t,.int hi u,.int 1 v]}
 |.bG o u=>h.get? a=some o/\d5 H h a u
 |.kX q=>∃ps:Array Value,h.get? a=some {cls:=.none,data:=.fields ps}/\TriplesOk ps.toList/\∀pos cv,codeAmong pos ps.toList=some cv->∃c oc u,cv=.ref c/\H c=some (.bG oc u)/\∃vs t,oc.data=.fields vs/\vs[1]?=some (.str q t)
 |.met f x=>h.get? a=some (BX (.ref f) (.ref x))
 |.ext φ=>φ h/\(∃o,h.get? a=some o)/\∀h1 h2:Heap,φ h1->(∀o,h1.get? a=some o->h2.get? a=some o)->φ h2
noncomputable def cc (H:Hp)(h:Heap):Prop:=∀a o,H a=some o->d5 P w H h a o
end
section
variable {P:Program}{w:World}{H H':Hp}{h h':Heap}{a:Addr}{o:HO}
theorem d5.lt (x:d5 P w H h a o):a<h.objs.size:=by
 cases o with
 |lst xs=>obtain⟨_,_,_,_,e⟩:=x; exact aK e
 |tup xs=>obtain⟨_,_,_,p⟩:=x; exact p.lt
 |dK kvs=>obtain⟨_,_,_,_,o,_,_,e,_⟩:=x; exact aK e
 |dT kvs=>obtain⟨_,_,_,_,o,_,_,e,_⟩:=x; exact aK e
 |set S n=>obtain⟨o,_,_,_,e,_⟩:=x; exact aK e
 |ins C dx fs=>obtain⟨_,_,_,e,_⟩:=x; exact aK e
 |own y=>obtain⟨_,e⟩:=x; exact aK e
 |xd fs=>obtain⟨_,⟨_,_,_,e,_⟩,_⟩:=x; exact aK e
 |zK lo hi=>obtain⟨_,_,_,e⟩:=x; exact aK e
 |bG ob u=>obtain⟨e,_⟩:=x; exact aK e
 |kX q=>obtain⟨ps,e,_⟩:=x; exact aK e
 |met f y=>exact aK (show h.get? a=some _ from x)
 |ext φ=>obtain⟨_,⟨_,e⟩,_⟩:=x; exact aK e
theorem Paired.EM {α β:Type}{F G:α->β->Prop}:∀{n4:List α}{nZ:List β},Paired F n4 nZ->(∀a b,F a b->G a b)->Paired G n4 nZ
 |_,_,.nil,_=>.nil
 |_,_,.cons r t,f=>.cons (f _ _ r) (Paired.EM t f)
theorem d5.jq (x:d5 P w H h a o)(k:∀b u,(b=a∨H b=some (.own a))->h.get? b=some u->h'.get? b=some u)
  (ho:∀b,H b=some (.own a)->H' b=some (.own a)) (ht:∀b xs,H b=some (.tup xs)->H' b=some (.tup xs)) (hf:∀b ob u,H b=some (.bG ob u)->H' b=some (.bG ob u):=by exact λ_ _ _ q=>q):d5 P w H' h' a o:=by
 induction o with
 |lst xs=>obtain⟨z,ak,n,r,e⟩:=x; exact⟨z,ak,n,r,k _ _ (.inl rfl) e⟩
 |tup xs=>obtain⟨z,ak,r,ob,e,c⟩:=x; exact⟨z,ak,r,ob,k _ _ (.inl rfl) e,c⟩
 |dK kvs=>obtain⟨z,y,vs,r,ob,es,ep,e,c⟩:=x; exact⟨z,y,vs,r,ob,es,ep,k _ _ (.inl rfl) e,c⟩
 |dT kvs=>
  obtain⟨z,y,xs,r,ob,es,ep,e,c⟩:=x;exact⟨z,y,xs,Paired.EM r λp q z=>⟨z.1,ht _ _ z.2.1,z.2.2⟩,ob,es,ep,k _ _ (.inl rfl) e,c⟩
 |set S n=>obtain⟨ob,es,ep,t,e,c⟩:=x; exact⟨ob,es,ep,t,k _ _ (.inl rfl) e,c⟩
 |ins C dx fs=>
  obtain⟨d,z,ne,e,mA,⟨od,es,ep,e2,c⟩,r⟩:=x;exact⟨ho _ d,z,ne,k _ _ (.inl rfl) e,mA,⟨od,es,ep,k _ _ (.inr d) e2,c⟩,r⟩
 |own y=>obtain⟨ob,e⟩:=x; exact⟨ob,k _ _ (.inl rfl) e⟩
 |xd fs=>obtain⟨mA,⟨od,es,ep,e,c⟩,r⟩:=x; exact⟨mA,⟨od,es,ep,k _ _ (.inl rfl) e,c⟩,r⟩
 |zK lo hi=>obtain⟨t,u,v,e⟩:=x; exact⟨t,u,v,k _ _ (.inl rfl) e⟩
 |bG ob u ih=>obtain⟨e,q⟩:=x; exact⟨k _ _ (.inl rfl) e,ih q⟩
 |kX q=>
  obtain⟨ps,e,t,g⟩:=x;exact⟨ps,k a _ (.inl rfl) e,t,λpos cv z=>by
   obtain⟨c,oc,u,z1,z2,z3⟩:=g pos cv z;exact⟨c,oc,u,z1,hf _ _ _ z2,z3⟩⟩
 |met f y=>
  have e:h.get? a=some (BX (.ref f) (.ref y)):=x;show h'.get? a=some (BX (.ref f) (.ref y));exact k a _ (.inl rfl) e
 |ext φ=>obtain⟨p,⟨o,e⟩,st⟩:=x; exact⟨st _ _ p λo q=>k _ _ (.inl rfl) q,⟨o,k _ _ (.inl rfl) e⟩,st⟩
theorem cc.lt (x:cc P w H h)(e:H a=some o):a<h.objs.size:=(x a o e).lt
theorem cc.fresh (x:cc P w H h)(e:h.objs.size<=a):H a=none:=by
 cases q:H a with
 |none=>rfl
 |some u=>exact absurd (cK (x.lt q) e) (eI _)
theorem cc.kept (x:cc P w H h)(k:∀b u,h.get? b=some u->h'.get? b=some u):cc P w H h':=λa o e=>
 (x a o e).jq (λb u _ q=>k b u q) (λ_ q=>q) λ_ _ q=>q
theorem cc.laid (x:cc P w H h)(k:∀b u,h.get? b=some u->h'.get? b=some u)(hp:h.objs.size<=a)(new:d5 P w (upd H a o) h' a o):cc P w (upd H a o) h':=λb u e=>by
 have hn:=x.fresh hp
 by_cases hb:b=a
 ·subst hb; rw [bY] at e; cases e; exact new
 ·rw [ba hb] at e
  exact(x b u e).jq (λc v _ q=>k c v q) (λc q=>by rw [ba (cZ q hn)]; exact q) (λc xs q=>by rw [ba (cZ q hn)]; exact q) λc _ _ q=>by rw [ba (cZ q hn)]; exact q
end
noncomputable def Rd (H:Hp)(a:Addr)(u:HO):Prop:=H a=some u∨∃o,H a=some (.bG o u)
theorem Rd.ok {P:Program}{w:World}{H:Hp}{h:Heap}{a:Addr}{u:HO}(r:Rd H a u)(x:cc P w H h):d5 P w H h a u:=by
 rcases r with r | ⟨o,r⟩
 ·exact x a u r
 ·obtain⟨_,q⟩:=x a _ r
  exact q
noncomputable def xS:Option HO->Prop
 |some (.lst _)=>True
 |some (.dK _)=>True
 |some (.dT _)=>True
 |some (.set _ _)=>True
 |some (.ins _ _ _)=>True
 |some (.ext _)=>True
 |_=>False
section
variable {P:Program}{w:World}{H:Hp}{h h':Heap}{x e:Addr}{o':HO}
theorem cc.write (ok:cc P w H h)(mu:xS (H x))(he:e=x∨H e=some (.own x))(k:∀b u,b≠e->h.get? b=some u->h'.get? b=some u)(tF:∃u,h'.get? e=some u)
  (new:d5 P w (upd H x o') h' x o'):cc P w (upd H x o') h':=λb u q=>by
 have Mt:∀c y,H c=some (.own y)->c≠x:=λc y r z=>by subst z; rw [r] at mu; exact mu
 have ZM:∀c xs,H c=some (.tup xs)->c≠x:=λc xs r z=>by subst z; rw [r] at mu; exact mu
 have ZU:∀c ob v,H c=some (.bG ob v)->c≠x:=λc ob v r z=>by subst z; rw [r] at mu; exact mu
 by_cases hb:b=x
 ·subst hb; rw [bY] at q; cases q; exact new
 ·rw [ba hb] at q
  by_cases qj:b=e
  ·have q':H b=some (.own x):=by
    rcases he with z | z
    ·exact absurd (qj.trans z) hb
    ·rw [qj]; exact z
   rw [q] at q'; cases q';obtain⟨v,hv⟩:=tF;exact⟨v,by rw [qj]; exact hv⟩
  ·refine(ok b u q).jq (λc v hc r=>k c v ?_ r) (λc r=>by rw [ba (Mt c b r)]; exact r) (λc xs r=>by rw [ba (ZM c xs r)]; exact r) λc ob v r=>by rw [ba (ZU c ob v r)]; exact r
   rcases hc with rfl | hc
   ·exact qj
   ·rintro rfl
    rcases he with z | z
    ·exact Mt c b hc z
    ·rw [hc] at z; cases z; exact hb rfl
end
structure Un (fs ex:List Addr) (H H':Hp) (h h':Heap):Prop where
 keep:∀b o,h.get? b=some o->H b=none->b∉fs->b∉ex->h'.get? b=some o
 slot:∀b o,h.get? b=some o->H b=none->b∈fs->b∉ex->∃sl,h'.get? b=some {o with slots:=sl}
 free:∀b o,h.get? b=some o->H b=none->b∉ex->H' b=none
 there:∀b o,h.get? b=some o->b∉ex->∃o',h'.get? b=some o'
 fR:∀b xs,H b=some (.tup xs)->H' b=some (.tup xs)
 fJ:∀b o u,H b=some (.bG o u)->H' b=some (.bG o u)
 fS:∀b q,H b=some (.kX q)->H' b=some (.kX q)
section
variable {fs fs' ex ex':List Addr}{H H1 H2:Hp}{h h1 h2 h':Heap}{a x e:Addr}{o:HO}
theorem Un.any (u:Un fs ex H H1 h h1){b:Addr}{ob:Obj}(q:h.get? b=some ob)(n:H b=none)(hx:b∉ex):∃sl,h1.get? b=some {ob with slots:=sl}:=by
 by_cases hb:b∈fs
 ·exact u.slot b ob q n hb hx
 ·exact⟨ob.slots,u.keep b ob q n hb hx⟩
theorem Un.kept (k:∀b u,h.get? b=some u->h'.get? b=some u):Un fs ex H H h h':=
 ⟨λb ob q _ _ _=>k b ob q,λb ob q _ _ _=>⟨ob.slots,k b ob q⟩,λ_ _ _ n _=>n,λb ob q _=>⟨ob,k b ob q⟩,λ_ _ q=>q,λ_ _ _ q=>q,λ_ _ q=>q⟩
theorem Un.refl:Un fs ex H H h h:=Un.kept λ_ _ q=>q
theorem Un.laid (k:∀b u,h.get? b=some u->h'.get? b=some u)(hp:h.objs.size<=a)(hn:H a=none):Un fs ex H (upd H a o) h h' where
 keep:=λb u q _ _ _=>k b u q
 slot:=λb u q _ _ _=>⟨u.slots,k b u q⟩
 free:=λb u q n _=>by rw [ba (a9 (cK (aK q) hp))]; exact n
 there:=λb u q _=>⟨u,k b u q⟩
 fR:=λb xs q=>by rw [ba (cZ q hn)]; exact q
 fJ:=λb u xs q=>by rw [ba (cZ q hn)]; exact q
 fS:=λb n q=>by rw [ba (cZ q hn)]; exact q
theorem Un.write (mu:xS (H x))(he:e=x∨H e=some (.own x))(k:∀b u,b≠e->h.get? b=some u->h'.get? b=some u)(tF:∃u,h'.get? e=some u):Un fs ex H (upd H x o) h h':=by
 have hx:∀b,H b=none->b≠x:=λb n z=>by subst z; rw [n] at mu; exact mu
 have hb:∀b,H b=none->b≠e:=λb n z=>by
  subst z;rcases he with r | r
  ·exact hx b n r
  ·rw [n] at r; cases r
 have hm:∀b u,H b=some u->¬ xS (some u)->b≠x:=λb u q nm z=>by subst z; rw [q] at mu; exact nm mu
 refine⟨λb u q n _ _=>k b u (hb b n) q,λb u q n _ _=>⟨u.slots,k b u (hb b n) q⟩,λb u q n _=>by rw [ba (hx b n)]; exact n,λb u q _=>?_,
  λb xs q=>by rw [ba (hm b _ q λz=>z)]; exact q,λb u xs q=>by rw [ba (hm b _ q λz=>z)]; exact q,λb n q=>by rw [ba (hm b _ q λz=>z)]; exact q⟩
 by_cases qj:b=e
 ·subst qj; exact tF
 ·exact⟨u,k b u qj q⟩
end
noncomputable def zc (h:Heap)(H:Hp):List Addr:=(bf h.objs.size).filter λa=>(H a).isSome
noncomputable def mM (h:Heap)(H:Hp):Heap:=PySem.W.hideAll h (zc h H)
theorem acH (h:Heap)(H:Hp):(mM h H).objs.size=h.objs.size:=PySem.W.hideAll_size _ _
theorem acI {h:Heap}{H:Hp}{b:Addr}{o:Obj}(e:h.get? b=some o)(n:H b=none):(mM h H).get? b=some o:=
 PySem.W.hideAll_get _ e λhm=>by
  have q:(H b).isSome=true:=(oS.mp hm).2;rw [n] at q; simp at q
theorem Zs {h:Heap}{H:Hp}{b:Addr}{o:Obj}(e:(mM h H).get? b=some o):h.get? b=some o/\H b=none:=by
 have e':h.get? b=some o:=PySem.W.of_hideAll (zc h H) e;refine⟨e',?_⟩
 cases q:H b with
 |none=>rfl
 |some x=>
  have hm:b∈zc h H:=oS.mpr ⟨uS.mpr (aK e'),by simp [q]⟩;have z:(mM h H).get? b=none:=PySem.W.hideAll_none (zc h H) hm;rw [z] at e; cases e
noncomputable def afF (g h:Heap)(L:Addr):List (Addr×Obj):=(bf h.objs.size).filterMap λa=>if a=L∨(g.get? a).isSome=true then none else (h.get? a).map λo=>(a,o)
noncomputable def rest (g h:Heap)(L d:Addr):List (Addr×Obj):=(afF g h L).filter λp=>decide (p.1≠d)
structure Mod (K:ao) (mg:Str->Option Value) (base:Heap):Prop where
 wz:K.In base
 glob:base.Ns mainGlobals mg
 blt:∃mb,base.Ns builtinsNs mb/\∀x:Str,x≠"__name__" ->mb x=bootBuiltins x
 nolimit:base.NoLimit
structure Cx where
 prog:Program
 w:World
 K:ao
 mg:Str->Option Value
 base:Heap
 A:Around
 N:List Str
 aQ:Shared
 bQ:Hp
 env:Env
 outer:List Env
 stack:List Env
 ex:List Addr
 fn:Str->Bool
 calm:Bool
 pn:List (Addr×Obj)
 xe:Value->Shared->Prop
noncomputable def aM (l:List Env):List Addr:=l.filterMap (·.frame)
noncomputable abbrev Cx.fs (X:Cx):List Addr:=aM X.outer
noncomputable def xO (sc:Scope)(x:Str):Prop:=sc.names.lookup x=some .local∨sc.names.lookup x=some .cell∨sc.names.lookup x=some .free
noncomputable def Loc (sc:Scope)(x:Str):Prop:=sc.names.lookup x=some .local∨sc.names.lookup x=some .cell
noncomputable def Look (env:Env)(h:Heap)(m:Str->Option Value)(x:Str)(u:Value):Prop:=
 (env.kindOf x=some .local/\m x=some u)∨((env.kindOf x=some .cell∨env.kindOf x=some .free)/\∃c,env.cells.lookup x=some c/\h.IsCell c (some u))
structure Cx.Ok (X:Cx):Prop where
 mod:Mod X.K X.mg X.base
 kind:X.env.scope.kind=.function
 glob:X.env.globals=mainGlobals
 blt:X.env.builtins=builtinsNs
 above:X.aQ.heap.objs.size<=X.env.locals
 inj:∀x y c,X.env.cells.lookup x=some c->X.env.cells.lookup y=some c->x=y
 has:∀x,(X.env.kindOf x=some .cell∨X.env.kindOf x=some .free)->∃c,X.env.cells.lookup x=some c
 ou:∀x c,X.fn x=true->X.env.cells.lookup x=some c->X.aQ.heap.objs.size<=c
 hd:X.calm=true->X.A.handled=none
 frames:X.A.frames=some X.stack
 o5:X.stack=X.outer∨(X.stack=X.env::X.outer/\X.env.frame=some X.env.locals)
 xn:∀b∈X.ex,b≠X.env.locals/\∀x c,X.env.cells.lookup x=some c->c≠b
 bs:∀b o,X.base.get? b=some o->X.aQ.heap.get? b=some o/\X.bQ b=none
 kB:X.base.objs.size<=X.aQ.heap.objs.size
 cG:∀b o,X.base.get? b=some o->b∉X.ex
 qv:∀b∈X.ex,b∉X.fs
 fZ:X.aQ.heap.FunFrames X.base X.outer
 jI:∀b∈X.fs,X.bQ b=none
structure Inv (X:Cx) (pins:List (Addr×Obj)) (σ:List (Option V)) (H:Hp) (s:Shared):Prop where
 ok:X.Ok
 os:s.os=X.aQ.os
 bare:AllBare s.gens
 base:Un X.fs X.ex X.bQ H X.aQ.heap s.heap
 loc:∃m,s.heap.Ns X.env.locals m/\∀(i:Nat) (x:Str) (v:V),X.N[i]?=some x->σ[i]?=some (some v)->xO X.env.scope x->∃u,RelV v u/\Look X.env s.heap m x u
 cell:∀x c,X.env.cells.lookup x=some c->∃v,s.heap.IsCell c v
 free:H X.env.locals=none
 ff:∀x c,X.env.cells.lookup x=some c->H c=none
 pin:∀p∈X.pn++pins,s.heap.get? p.1=some p.2/\H p.1=none/\p.1≠X.env.locals/\p.1∉X.fs/\∀v,p.2.data≠.cell v
 au:cc X.prog X.w H s.heap
 len:σ.length=X.N.length
 tk:0<s.toks
section
variable {X:Cx}{pins:List (Addr×Obj)}{σ:List (Option V)}{H H':Hp}{s:Shared}{h':Heap}
theorem Cx.Ok.ZS (ok:X.Ok){b:Addr}{o:Obj}(e:X.base.get? b=some o):b∉X.fs:=λhb=>by
 have:=(ok.fZ.mem hb).1;rw [e] at this; cases this
theorem Inv.bs (I:Inv X pins σ H s):∀b o,X.base.get? b=some o->s.heap.get? b=some o/\H b=none:=λb o e=>
 ⟨I.base.keep b o (I.ok.bs b o e).1 (I.ok.bs b o e).2 (I.ok.ZS e) (I.ok.cG b o e),I.base.free b o (I.ok.bs b o e).1 (I.ok.bs b o e).2 (I.ok.cG b o e)⟩
theorem Inv.bk (I:Inv X pins σ H s):∀b o,X.base.get? b=some o->s.heap.get? b=some o:=λb o e=>(I.bs b o e).1
theorem Inv.mod (I:Inv X pins σ H s):Mod X.K X.mg X.base:=I.ok.mod
theorem Inv.mG (I:Inv X pins σ H s):X.K.In s.heap:=I.ok.mod.wz.keeps I.bk
theorem Inv.lt (I:Inv X pins σ H s):X.env.locals<s.heap.objs.size:=let ⟨_,hn,_⟩:=I.loc; hn.lt
theorem Inv.sz (I:Inv X pins σ H s):X.aQ.heap.objs.size<=s.heap.objs.size:=bH I.ok.above (nH I.lt)
theorem Inv.EK (I:Inv X pins σ H s){a:Addr}(h:s.heap.objs.size<=a):a∉X.fs:=λhb=>by
 obtain⟨_,o,ho,_⟩:=I.ok.fZ.mem hb;exact absurd (cK (aK ho) (bH I.sz h)) (eI _)
theorem Inv.kz (I:Inv X pins σ H s):∀x c,X.env.cells.lookup x=some c->c≠X.env.locals:=λx c e z=>by
 obtain⟨v,o,ho,hd⟩:=I.cell x c e;obtain⟨m,⟨o',es,ep,gE,hZ,_⟩,_⟩:=I.loc;rw [z,gE] at ho; cases ho; rw [hZ] at hd; cases hd
theorem Inv.fZ (I:Inv X pins σ H s):s.heap.FunFrames X.base X.outer:=by
 have all:∀(l:List Env),(∀b∈aM l,b∈X.fs)->X.aQ.heap.FunFrames X.base l->s.heap.FunFrames X.base l:=by
  intro l
  induction l with
  |nil=>intro _ _; trivial
  |cons env r ih=>
   intro hs hl;obtain⟨hk,⟨L,o,hf,hn,ho,hd⟩,hr⟩:=hl;have hL:L∈X.fs:=hs L (by unfold aM; rw [dG,hf]; exact bu);obtain⟨sl,e⟩:=I.base.slot L o ho (I.ok.jI L hL) hL λz=>I.ok.qv L z hL;exact⟨hk,⟨L,_,hf,hn,e,hd⟩,ih (λb hb=>hs b (by unfold aM; rw [dG,hf]; exact bR _ hb)) hr⟩
 exact all X.outer (λ_ hb=>hb) I.ok.fZ
theorem Inv.stack (I:Inv X pins σ H s):s.heap.FunFrames X.base X.stack:=by
 rcases I.ok.o5 with e | ⟨e,hf⟩
 ·rw [e]; exact I.fZ
 ·rw [e]
  obtain⟨m,hn,_⟩:=I.loc;refine .cons (by rw [I.ok.kind]; decide) hf hn ?_ I.fZ;exact Heap.get?_none_of_le (bH I.ok.kB I.ok.above)
theorem Inv.k7 (I:Inv X pins σ H s):∀b∈aM X.stack,b∈X.env.locals::X.fs:=λb hb=>by
 rcases I.ok.o5 with e | ⟨e,hf⟩
 ·rw [e] at hb; exact bR _ hb
 ·rw [e] at hb
  unfold aM at hb;rw [dG,hf] at hb;exact hb
theorem Inv.zp (I:Inv X pins σ H s):∀b∈aM X.stack,H b=none:=λb hb=>by
 rcases aO.mp (I.k7 b hb) with e | hb
 ·rw [e]; exact I.free
 ·obtain⟨_,o,ho,_⟩:=I.ok.fZ.mem hb
  exact I.base.free b o ho (I.ok.jI b hb) λz=>I.ok.qv b z hb
theorem Inv.step {g':Array GenState}{t':Nat}{d':Drawn}{ch:List Addr}(I:Inv X pins σ H s)
  (lO:∀b∈ch,(b∈X.ex∨X.aQ.heap.objs.size<=b)/\b≠X.env.locals/\(∀x c,X.env.cells.lookup x=some c->c≠b)/\∀p∈X.pn++pins,p.1≠b)
  (keep:∀b o,b≠X.env.locals->b∉X.fs->b∉ch->s.heap.get? b=some o->H b=none->h'.get? b=some o)
  (slot:∀b o,b≠X.env.locals->b∈X.fs->b∉ch->s.heap.get? b=some o->H b=none->∃sl,h'.get? b=some {o with slots:=sl}) (free:∀b o,b∉ch->s.heap.get? b=some o->H b=none->H' b=none)
  (there:∀b o,b∉ch->s.heap.get? b=some o->∃o',h'.get? b=some o')
  (fR:∀b xs,H b=some (.tup xs)->H' b=some (.tup xs)) (fJ:∀b o u,H b=some (.bG o u)->H' b=some (.bG o u)) (fS:∀b q,H b=some (.kX q)->H' b=some (.kX q))
  (ns:∀m,s.heap.Ns X.env.locals m->h'.Ns X.env.locals m) (au:cc X.prog X.w H' h') (hg:AllBare g') (ht:0<t':=by first | assumption | exact Inv.tk (by assumption)) :
  Inv X pins σ H' {s with heap:=h',gens:=g',drawn:=d',toks:=t'}:=by
 have My:∀b o,X.aQ.heap.get? b=some o->b≠X.env.locals:=λb o e=>a9 (cK (aK e) I.ok.above);have pJ:∀b o,X.aQ.heap.get? b=some o->b∉X.ex->b∉ch:=λb o e hx hb=>by
  rcases(lO b hb).1 with z | z
  ·exact hx z
  ·exact absurd (cK (aK e) z) (eI _)
 have cellK:∀x c,X.env.cells.lookup x=some c->∀v,s.heap.IsCell c v->h'.IsCell c v:=λx c e v h_=>by
  obtain⟨o,ho,hd⟩:=h_;have wj:c∉ch:=λz=>(lO c z).2.2.1 x c e rfl
  by_cases hc:c∈X.fs
  ·obtain⟨sl,q⟩:=slot c o (I.kz x c e) hc wj ho (I.ff x c e)
   exact⟨_,q,hd⟩
  ·exact⟨o,keep c o (I.kz x c e) hc wj ho (I.ff x c e),hd⟩
 refine⟨I.ok,I.os,hg,⟨λb o e n hb hx=>?_,λb o e n hb hx=>?_,λb o e n hx=>?_,λb o e hx=>?_,λb xs e=>fR b xs (I.base.fR b xs e),λb o xs e=>fJ b o xs (I.base.fJ b o xs e),λb ps e=>?_⟩,?_,λx c e=>?_,?_,λx c e=>?_,λp hp=>?_,au,I.len,ht⟩
 ·exact keep b o (My b o e) hb (pJ b o e hx) (I.base.keep b o e n hb hx) (I.base.free b o e n hx)
 ·obtain⟨sl,e1⟩:=I.base.slot b o e n hb hx
  obtain⟨fE,e2⟩:=slot b _ (My b o e) hb (pJ b o e hx) e1 (I.base.free b o e n hx);exact⟨fE,e2⟩
 ·obtain⟨o',e1⟩:=I.base.there b o e hx
  exact free b o' (pJ b o e hx) e1 (I.base.free b o e n hx)
 ·obtain⟨o',e1⟩:=I.base.there b o e hx
  exact there b o' (pJ b o e hx) e1
 ·exact fS b ps (I.base.fS b ps e)
 ·obtain⟨m,hn,hl⟩:=I.loc
  refine⟨m,ns m hn,λi x v e1 e2 e3=>?_⟩;obtain⟨u,r,l⟩:=hl i x v e1 e2 e3;refine⟨u,r,?_⟩;rcases l with l | ⟨k,c,e,z⟩
  ·exact .inl l
  ·exact .inr ⟨k,c,e,cellK x c e _ z⟩
 ·obtain⟨v,z⟩:=I.cell x c e
  exact⟨v,cellK x c e v z⟩
 ·obtain⟨m,⟨o,_,_,ho,_⟩,_⟩:=I.loc
  exact free _ o (λz=>(lO _ z).2.1 rfl) ho I.free
 ·obtain⟨v,o,ho,hd⟩:=I.cell x c e
  exact free c o (λz=>(lO c z).2.2.1 x c e rfl) ho (I.ff x c e)
 ·obtain⟨e,n,ne,nf,d⟩:=I.pin p hp
  have wj:p.1∉ch:=λz=>(lO p.1 z).2.2.2 p hp rfl;exact⟨keep p.1 p.2 ne nf wj e n,free p.1 p.2 wj e n,ne,nf,d⟩
theorem Inv.un {t':Nat}(I:Inv X pins σ H s)(u:Un X.fs [] H H' s.heap h')(au:cc X.prog X.w H' h')(ht:0<t':=by first | assumption | exact Inv.tk (by assumption)):Inv X pins σ H' {s with heap:=h',toks:=t'}:=by
 obtain⟨m,⟨o,es,ep,ho,r⟩,_⟩:=id I.loc;obtain⟨sl,hL⟩:=u.any ho I.free (by simp);exact I.step (g':=s.gens) (d':=s.drawn) (ch:=[]) (λ_ z=>nomatch z) (λb o _ hb _ e n=>u.keep b o e n hb (by simp)) (λb o _ hb _ e n=>u.slot b o e n hb (by simp)) (λb o _ e n=>u.free b o e n (by simp)) (λb o _ e=>u.there b o e (by simp)) u.fR u.fJ u.fS (λm' hm=>by
  obtain⟨o',eS,ku,gE,r'⟩:=hm;rw [ho] at gE; cases gE;exact⟨_,eS,ku,hL,r'⟩) au I.bare
theorem Inv.call {g':Array GenState}{t':Nat}{d':Drawn}{ch:List Addr}(I:Inv X pins σ H s)(u:Un (aM X.stack) ch H H' s.heap h')(au:cc X.prog X.w H' h')(hg:AllBare g')
  (lO:∀b∈ch,(b∈X.ex∨X.aQ.heap.objs.size<=b)/\b≠X.env.locals/\(∀x c,X.env.cells.lookup x=some c->c≠b)/\∀p∈X.pn++pins,p.1≠b) (ht:0<t':=by first | assumption | exact Inv.tk (by assumption)) :
  Inv X pins σ H' {s with heap:=h',gens:=g',drawn:=d',toks:=t'}:=by
 obtain⟨m,⟨o,es,ep,ho,r⟩,_⟩:=id I.loc;obtain⟨sl,hL⟩:=u.any ho I.free λz=>(lO _ z).2.1 rfl;exact I.step (ch:=ch) lO (λb o hL hb hc e n=>u.keep b o e n (λz=>(aO.mp (I.k7 b z)).elim hL hb) hc) (λb o _ _ hc e n=>u.any e n hc) (λb o hc e n=>u.free b o e n hc) (λb o hc e=>u.there b o e hc) u.fR u.fJ u.fS (λm' hm=>by
  obtain⟨o',eS,ku,gE,r'⟩:=hm;rw [ho] at gE; cases gE;exact⟨_,eS,ku,hL,r'⟩) au hg
theorem Inv.turned {t':Nat}{it:Addr}(I:Inv X pins σ H s)(k:∀b o,b≠it->s.heap.get? b=some o->h'.get? b=some o)(hn:H it=none)(hL:it≠X.env.locals)
  (h1:it∈X.ex∨X.aQ.heap.objs.size<=it) (h2:∀x c,X.env.cells.lookup x=some c->c≠it) (h3:∀p∈X.pn++pins,p.1≠it) (ht:0<t':=by first | assumption | exact Inv.tk (by assumption)):Inv X pins σ H {s with heap:=h',toks:=t'}:=by
 have nX:∀b u,H b=some u->b≠it:=λb u e z=>by rw [z,hn] at e; cases e
 refine I.step (g':=s.gens) (d':=s.drawn) (ch:=[it]) (λb hb=>?_) (λb o _ _ hc e _=>k b o (λz=>hc (by simp [z])) e) (λb o _ _ hc e _=>⟨o.slots,k b o (λz=>hc (by simp [z])) e⟩) (λ_ _ _ _ n=>n)
  (λb o hc e=>⟨o,k b o (λz=>hc (by simp [z])) e⟩) (λ_ _ e=>e) (λ_ _ _ e=>e) (λb q e=>e) (λm hm=>?_) (λb u e=>?_) I.bare
 ·have e:b=it:=by simpa using hb
  subst e;exact⟨h1,hL,h2,h3⟩
 ·obtain⟨o,es,ep,ho,r⟩:=hm
  exact⟨o,es,ep,k _ o (cz hL) ho,r⟩
 ·refine(I.au b u e).jq (λc v hc q=>k c v ?_ q) (λ_ q=>q) λ_ _ q=>q
  rcases hc with z | z
  ·rw [z]; exact nX b u e
  ·exact nX c _ z
theorem Inv.tok (I:Inv X pins σ H s)(t:Nat)(ht:0<t:=by first | assumption | omega):Inv X pins σ H {s with toks:=t}:=I.un (h':=s.heap) (t':=t) Un.refl I.au
theorem Inv.kept {t':Nat}(I:Inv X pins σ H s)(k:∀b u,s.heap.get? b=some u->h'.get? b=some u)(ht:0<t':=by first | assumption | exact Inv.tk (by assumption)):Inv X pins σ H {s with heap:=h',toks:=t'}:=I.un (Un.kept k) (I.au.kept k)
theorem Inv.laid {a:Addr}{o:HO}{t':Nat}(I:Inv X pins σ H s)(k:∀b u,s.heap.get? b=some u->h'.get? b=some u)(hp:s.heap.objs.size<=a)(new:d5 X.prog X.w (upd H a o) h' a o)(ht:0<t':=by first | assumption | exact Inv.tk (by assumption)) :
  Inv X pins σ (upd H a o) {s with heap:=h',toks:=t'}:=I.un (Un.laid k hp (I.au.fresh hp)) (I.au.laid k hp new)
theorem Inv.write {x e:Addr}{o:HO}{t':Nat}(I:Inv X pins σ H s)(mu:xS (H x))(he:e=x∨H e=some (.own x))(k:∀b u,b≠e->s.heap.get? b=some u->h'.get? b=some u)(tF:∃u,h'.get? e=some u)
  (new:d5 X.prog X.w (upd H x o) h' x o) (ht:0<t':=by first | assumption | exact Inv.tk (by assumption)):Inv X pins σ (upd H x o) {s with heap:=h',toks:=t'}:=I.un (Un.write mu he k tF) (I.au.write mu he k tF new)
theorem Inv.Es {fU:List (Addr×Obj)}(I:Inv X pins σ H s)(h:∀p∈fU,s.heap.get? p.1=some p.2/\H p.1=none/\p.1≠X.env.locals/\p.1∉X.fs/\∀v,p.2.data≠.cell v):Inv X fU σ H s:=
 ⟨I.ok,I.os,I.bare,I.base,I.loc,I.cell,I.free,I.ff,λp hp=>(eJ.mp hp).elim (λz=>I.pin p (gq _ z)) (h p),I.au,I.len,I.tk⟩
theorem EL {N:List Str}(hN:N.Nodup){i j:Nat}{x:Str}(a:N[i]?=some x)(b:N[j]?=some x):i=j:=by
 obtain⟨h1,e1⟩:=cP.mp a;obtain⟨h2,e2⟩:=cP.mp b;exact(List.getElem_inj hN).mp (e1.trans e2.symm)
theorem Dq {M:Model}{A:Around}{E:Value->Shared->Prop}{i:Nat}{x:Str}{v:V}{u:Value}{Q:Unit->Shared->Prop}(I:Inv X pins σ H s)(hN:X.N.Nodup)(hi:X.N[i]?=some x)(hx:Loc X.env.scope x)(r:RelV v u)
  (h:∀s',Inv X pins (σ.set i (some v)) H s'->(∃a,fQ a s.heap s'.heap/\(a=X.env.locals∨X.env.cells.lookup x=some a))->Q () s') (hf:X.fn x=true∨X.env.scope.names.lookup x=some .local:=by first | exact .inl rfl | exact .inr rfl | assumption):wpAny M A (storeName X.env x u) Q E s:=by
 obtain⟨m,hn,hl⟩:=id I.loc;have lN:(X.env.scope.kind == .class || (X.env.scope.kind == .module&&X.env.locals != X.env.globals))=false:=by rw [I.ok.kind]; rfl
 have AL:i<σ.length:=by rw [I.len]; exact(cP.mp hi).1
 have kz:=I.kz;have tracked:∀{a:Addr} {h':Heap},(∃o,s.heap.get? a=some o/\H a=none)->fQ a s.heap h'->cc X.prog X.w H h':=λ{a h'} ha hs b ob e=>by
  obtain⟨_,_,wZ⟩:=ha;refine(I.au b ob e).jq (λc w' hc q=>(hs.2 c ?_).trans q) (λ_ q=>q) λ_ _ q=>q;rintro rfl;rcases hc with rfl | hc
  ·rw [wZ] at e; cases e
  ·rw [wZ] at hc; cases hc
 rcases hx with hk | hk
 ·refine wpAny_storeName_local hk hn (λh' iB hs=>?_) lN
  obtain⟨oL,_,_,lG,_⟩:=id hn;refine h {s with heap:=h',toks:=s.toks+1} ⟨I.ok,I.os,I.bare,⟨λb o e n hb hx=>?_,λb o e n hb hx=>?_,I.base.free,λb o e hx=>?_,I.base.fR,I.base.fJ,I.base.fS⟩,⟨_,iB,λj y v' e1 e2 e3=>?_⟩,λy c e=>?_,I.free,I.ff,λp hp=>?_,tracked ⟨oL,lG,I.free⟩ hs,by simpa using I.len,oP _⟩ ⟨_,hs,.inl rfl⟩
  ·exact(hs.2 b (a9 (cK (aK e) I.ok.above))).trans (I.base.keep b o e n hb hx)
  ·obtain⟨sl,e1⟩:=I.base.slot b o e n hb hx
   exact⟨sl,(hs.2 b (a9 (cK (aK e) I.ok.above))).trans e1⟩
  ·obtain⟨o',e1⟩:=I.base.there b o e hx
   exact⟨o',(hs.2 b (a9 (cK (aK e) I.ok.above))).trans e1⟩
  ·by_cases hj:j=i
   ·subst hj
    rw [hi] at e1; cases e1;rw [nE AL] at e2;cases e2;exact⟨u,r,.inl ⟨hk,by simp⟩⟩
   ·rw [kL (cz hj)] at e2
    obtain⟨u',r',q⟩:=hl j y v' e1 e2 e3;refine⟨u',r',?_⟩;rcases q with ⟨k,e⟩ | ⟨k,c,e,z⟩
    ·refine .inl ⟨k,?_⟩
     have:y≠x:=λe=>hj (EL hN e1 (e ▸ hi));simp [this,e]
    ·exact .inr ⟨k,c,e,z.sameBut hs (kz y c e)⟩
  ·obtain⟨w',z⟩:=I.cell y c e
   exact⟨w',z.sameBut hs (kz y c e)⟩
  ·obtain⟨e,n,ne,nf,d⟩:=I.pin p hp
   exact⟨(hs.2 p.1 ne).trans e,n,ne,nf,d⟩
 ·have F9:X.fn x=true:=by
   rcases hf with z | z
   ·exact z
   ·rw [z] at hk; cases hk
  obtain⟨c,hc⟩:=I.ok.has x (.inl hk);obtain⟨w',z⟩:=I.cell x c hc;refine wpAny_storeName_cell I.ok.kind hk hc z (λh' gG hs=>?_);obtain⟨oc,Oe,acj⟩:=id z;refine h {s with heap:=h'} ⟨I.ok,I.os,I.bare,⟨λb o e n hb hx=>?_,λb o e n hb hx=>?_,I.base.free,λb o e hx=>?_,I.base.fR,I.base.fJ,I.base.fS⟩,⟨m,hn.sameBut hs (cz (kz x c hc)),λj y v' e1 e2 e3=>?_⟩,λy c' e=>?_,I.free,I.ff,λp hp=>?_,tracked ⟨oc,Oe,I.ff x c hc⟩ hs,by simpa using I.len,I.tk⟩ ⟨c,hs,.inr hc⟩
  ·exact(hs.2 b (a9 (cK (aK e) (I.ok.ou x c F9 hc)))).trans (I.base.keep b o e n hb hx)
  ·obtain⟨sl,e1⟩:=I.base.slot b o e n hb hx
   exact⟨sl,(hs.2 b (a9 (cK (aK e) (I.ok.ou x c F9 hc)))).trans e1⟩
  ·obtain⟨o',e1⟩:=I.base.there b o e hx
   exact⟨o',(hs.2 b (a9 (cK (aK e) (I.ok.ou x c F9 hc)))).trans e1⟩
  ·by_cases hj:j=i
   ·subst hj
    rw [hi] at e1; cases e1;rw [nE AL] at e2;cases e2;exact⟨u,r,.inr ⟨.inl hk,c,hc,gG⟩⟩
   ·rw [kL (cz hj)] at e2
    obtain⟨u',r',q⟩:=hl j y v' e1 e2 e3;refine⟨u',r',?_⟩;rcases q with q | ⟨k,c',e,z'⟩
    ·exact .inl q
    ·refine .inr ⟨k,c',e,z'.sameBut hs ?_⟩
     rintro rfl;exact hj (EL hN e1 (I.ok.inj _ _ _ e hc ▸ hi))
  ·by_cases xa:c'=c
   ·subst xa; exact⟨_,gG⟩
   ·obtain⟨w2,z2⟩:=I.cell y c' e
    exact⟨w2,z2.sameBut hs xa⟩
  ·obtain⟨e,n,ne,nf,d⟩:=I.pin p hp
   refine⟨(hs.2 p.1 ?_).trans e,n,ne,nf,d⟩;intro q;rw [q,Oe] at e;have q':oc=p.2:=gn e;exact d w' (by rw [← q']; exact acj)
theorem Dr {M:Model}{A:Around}{E:Value->Shared->Prop}{i:Nat}{x:Str}{v:V}{u:Value}{Q:Unit->Shared->Prop}(I:Inv X pins σ H s)(hN:X.N.Nodup)(hi:X.N[i]?=some x)(hx:Loc X.env.scope x)(r:RelV v u)
  (h:∀s',Inv X pins (σ.set i (some v)) H s'->Q () s') (hf:X.fn x=true∨X.env.scope.names.lookup x=some .local:=by first | exact .inl rfl | exact .inr rfl | assumption):wpAny M A (storeName X.env x u) Q E s:=
 Dq I hN hi hx r (λs' I' _=>h s' I') hf
theorem Inv.aff {s':Shared}{ch:List Addr}(I:Inv X pins σ H s)(ho:s'.os=s.os)(u:Un (aM X.stack) ch H H' s.heap s'.heap)(au:cc X.prog X.w H' s'.heap)(hg:AllBare s'.gens)
  (lO:∀b∈ch,(b∈X.ex∨X.aQ.heap.objs.size<=b)/\b≠X.env.locals/\(∀x c,X.env.cells.lookup x=some c->c≠b)/\∀p∈X.pn++pins,p.1≠b) (ht:0<s'.toks:=by first | assumption | exact Inv.tk (by assumption)):Inv X pins σ H' s':=by
 obtain⟨h',g',d',t',o'⟩:=s';have e:o'=s.os:=ho;subst e;exact I.call (g':=g') (t':=t') (d':=d') u au hg lO
end
noncomputable abbrev XK:=Value->Option Addr->Hp->Prop
noncomputable abbrev St:=List (Option V)
noncomputable abbrev VK:=V->Hp->Prop
noncomputable abbrev TE:=St->Hp->VK->Prop
noncomputable abbrev TT:=St->Hp->(Bool->Hp->Prop)->Prop
noncomputable abbrev TA:=St->Hp->(List V->Hp->Prop)->Prop
structure Ends where
 nx:St->Hp->Prop
 rt:VK
 bk:St->Hp->Prop:=λ_ _=>False
 ct:St->Hp->Prop:=λ_ _=>False
noncomputable abbrev TS:=Ends->St->Hp->Prop
noncomputable def Lz {α:Type}(P:α->Shared->Prop)(a:α)(s':Shared):Prop:=0<s'.toks->P a s'
inductive R1 (X:Cx) (pins:List (Addr×Obj)) (σ:St) (Q:VK) (u:Value) (s':Shared):Prop
 |mk (v:V) (H':Hp) (I:Inv X pins σ H' s') (r:RelV v u) (q:Q v H'):R1 X pins σ Q u s'
noncomputable abbrev EP (X:Cx)(pins:List (Addr×Obj))(σ:St)(Q:VK):Value->Shared->Prop:=Lz (R1 X pins σ Q)
inductive Ru (X:Cx) (pins:List (Addr×Obj)) (σ:St) (Q:Bool->Hp->Prop) (b:Bool) (s':Shared):Prop
 |mk (H':Hp) (I:Inv X pins σ H' s') (q:Q b H'):Ru X pins σ Q b s'
noncomputable abbrev TP (X:Cx)(pins:List (Addr×Obj))(σ:St)(Q:Bool->Hp->Prop):Bool->Shared->Prop:=Lz (Ru X pins σ Q)
inductive R6 (X:Cx) (pins:List (Addr×Obj)) (σ:St) (Q:List V->Hp->Prop) (us:List Value) (s':Shared):Prop
 |mk (vs:List V) (H':Hp) (I:Inv X pins σ H' s') (r:Vals vs us) (q:Q vs H'):R6 X pins σ Q us s'
noncomputable abbrev AP (X:Cx)(pins:List (Addr×Obj))(σ:St)(Q:List V->Hp->Prop):List Value->Shared->Prop:=Lz (R6 X pins σ Q)
noncomputable def SPI (X:Cx)(pins:List (Addr×Obj))(D:Ends)(f:Flow)(s':Shared):Prop:=
 match f with
 |.next=>∃aD H',Inv X pins aD H' s'/\D.nx aD H'
 |.brk=>∃aD H',Inv X pins aD H' s'/\D.bk aD H'
 |.cont=>∃aD H',Inv X pins aD H' s'/\D.ct aD H'
 |.ret u=>∃v aD H',Inv X pins aD H' s'/\RelV v u/\D.rt v H'
noncomputable abbrev SP (X:Cx)(pins:List (Addr×Obj))(D:Ends):Flow->Shared->Prop:=Lz (SPI X pins D)
noncomputable def PE (X:Cx)(e:Expr)(t:TE):Prop:=
 ∀(pins:List (Addr×Obj)) (s:Shared) (σ:St) (H:Hp) (Q:VK),Inv X pins σ H s->t σ H Q->wpAny (model X.prog X.w) X.A (eval e X.env) (EP X pins σ Q) X.xe s
noncomputable def PT (X:Cx)(e:Expr)(t:TT):Prop:=
 ∀(pins:List (Addr×Obj)) (s:Shared) (σ:St) (H:Hp) (Q:Bool->Hp->Prop),Inv X pins σ H s->t σ H Q->wpAny (model X.prog X.w) X.A (isTrue e X.env (eval e X.env)) (TP X pins σ Q) X.xe s
noncomputable def PW (X:Cx)(e:Expr)(t:TT):Prop:=
 ∀(whole:Sem Value) (pins:List (Addr×Obj)) (s:Shared) (σ:St) (H:Hp) (Q:Bool->Hp->Prop),Inv X pins σ H s->t σ H Q->wpAny (model X.prog X.w) X.A (isTrue e X.env whole) (TP X pins σ Q) X.xe s
theorem PW.pt {X:Cx}{e:Expr}{t:TT}(h:PW X e t):PT X e t:=h _
noncomputable def PA (X:Cx)(es:List Expr)(t:TA):Prop:=
 ∀(pos:Pos) (pins:List (Addr×Obj)) (s:Shared) (σ:St) (H:Hp) (Q:List V->Hp->Prop),Inv X pins σ H s->t σ H Q->wpAny (model X.prog X.w) X.A (spliced (backTo pos (starEach es X.env))) (AP X pins σ Q) X.xe s
noncomputable def PS (X:Cx)(st:Stmt)(t:TS):Prop:=
 ∀(pins:List (Addr×Obj)) (s:Shared) (σ:St) (H:Hp) (D:Ends),Inv X pins σ H s->t D σ H->wpAny (model X.prog X.w) X.A (exec st X.env) (SP X pins D) X.xe s
noncomputable def fj (X:Cx)(st:List Stmt)(t:TS):Prop:=
 ∀(pins:List (Addr×Obj)) (s:Shared) (σ:St) (H:Hp) (D:Ends),Inv X pins σ H s->t D σ H->wpAny (model X.prog X.w) X.A (execs st X.env) (SP X pins D) X.xe s
theorem mn {α:Type}{t:Sem α}{P Q':α->Shared->Prop}{prog:Program}{w:World}{A:Around}{E:Value->Shared->Prop}{s:Shared}(h:wpAny (model prog w) A t (Lz P) E s)(hQ:∀a s,0<s.toks->P a s->Q' a s)(ht:0<s.toks:=by first | assumption | exact Inv.tk (by assumption)):wpAny (model prog w) A t Q' E s:=
 wpAny_with_toks (n:=1) ht (wpAny_mono h (λa s1 hp h1=>hQ a s1 h1 (hp h1)) λ_ _ x _=>x)
theorem Ui {α:Type}{t:Sem α}{P Q':α->Shared->Prop}{prog:Program}{w:World}{A:Around}{E:Value->Shared->Prop}{s:Shared}(h:wpAny (model prog w) A t (Lz P) (λe s=>0<s.toks->E e s) s)(hQ:∀a s,P a s->Q' a s)(ht:0<s.toks:=by first | assumption | exact Inv.tk (by assumption)):wpAny (model prog w) A t Q' E s:=
 wpAny_with_toks (n:=1) ht (wpAny_mono h (λa s1 hp h1=>hQ a s1 (hp h1)) λ_ _ x=>x)
theorem Uj {α:Type}{t:Sem α}{P Q':α->Shared->Prop}{prog:Program}{w:World}{A:Around}{E:Value->Shared->Prop}{s:Shared}(h:wpAny (model prog w) A t (Lz P) (λ_ _=>False) s)(hQ:∀a s,P a s->Q' a s)(ht:0<s.toks:=by first | assumption | exact Inv.tk (by assumption)):wpAny (model prog w) A t Q' E s:=
 wpAny_with_toks (n:=1) ht (wpAny_mono h (λa s1 hp h1=>hQ a s1 (hp h1)) λ_ _ x=>x.elim)
theorem aB {α:Type}{t:Sem α}{P Q':α->Shared->Prop}{prog:Program}{w:World}{A:Around}{E:Value->Shared->Prop}{s:Shared}(h:wpAny (model prog w) A t (Lz P) E s)(hQ:∀a s,P a s->Q' a s)(ht:0<s.toks:=by first | assumption | exact Inv.tk (by assumption)):wpAny (model prog w) A t Q' E s:=
 wpAny_with_toks (n:=1) ht (wpAny_mono h (λa s1 hp h1=>hQ a s1 (hp h1)) λ_ _ x _=>x)
section
variable {X:Cx}
inductive oZ (i:Nat) (σ:St) (H:Hp) (Q:VK):Prop
 |mk (v:V) (e:σ[i]?=some (some v)) (q:Q v H):oZ i σ H Q
noncomputable def tC (v:V):TE:=λ_ H Q=>Q v H
theorem vR {i:Nat}{x:Str}{pos:Pos}(hN:X.N[i]?=some x)(hv:xO X.env.scope x)(hd:(x==("__debug__" : Str))=false:=by decide)(i5:(x==("__classdict__" : Str))=false:=by decide):PE X (.Name x pos) (oZ i):=by
 intro pins s σ H Q I h;obtain⟨v,e,h⟩:=h;obtain⟨m,hn,hl⟩:=I.loc;obtain⟨u,r,l⟩:=hl i x v hN e hv;have fin:EP X pins σ Q u s:=(λht=>⟨v,H,I,r,h⟩)
 rcases l with ⟨hk,hm⟩ | ⟨hk,c,hc,Oy⟩
 ·exact wpAny_Name (wpAny_loadName_local I.ok.kind hk hn hm fin) hd
 ·rcases hk with hk | hk
  ·exact wpAny_Name (wpAny_loadName_cell I.ok.kind hk hc Oy fin) hd
  ·exact wpAny_Name (wpAny_loadName_free I.ok.kind hk hc Oy fin i5) hd
theorem L4 {i j pos}:PE X (.Constant (.int i) j pos) (tC (.int i)):=λ_ _ _ H _ I h=>wpAny_Constant_int (λht=>⟨.int i,H,I.tok _,⟨_,rfl⟩,h⟩)
theorem Eu {b j pos}:PE X (.Constant (.bool b) j pos) (tC (.bl b)):=λ_ _ _ H _ I h=>Constant_bool (λht=>⟨.bl b,H,I,rfl,h⟩)
theorem Et {j pos}:PE X (.Constant .none j pos) (tC .ax):=λ_ _ _ H _ I h=>Constant_none (λht=>⟨.ax,H,I,rfl,h⟩)
theorem zR {x j pos}:PE X (.Constant (.str x) j pos) (tC (.str x)):=λ_ _ _ H _ I h=>Calls.Constant_str (λht=>⟨.str x,H,I.tok _,⟨_,rfl⟩,h⟩)
noncomputable def Gl (X:Cx)(x:Str):Prop:=X.env.kindOf x=some .globalImplicit
theorem EV {E:Value->Shared->Prop}{pins:List (Addr×Obj)}{s:Shared}{σ:St}{H:Hp}{x:Str}{u:Value}{pos:Pos}{Q:Value->Shared->Prop}(I:Inv X pins σ H s)(hg:Gl X x)(hm:X.mg x=some u)(h:Q u s)
  (hd:(x==("__debug__" : Str))=false:=by decide):wpAny (model X.prog X.w) X.A (eval (.Name x pos) X.env) Q E s:=
 Cn I.ok.kind hg (Calls.loadGlobal_global (by rw [I.ok.glob]; exact I.mod.glob.keeps I.bk) hm h) hd
theorem g6 {E:Value->Shared->Prop}{pins:List (Addr×Obj)}{s:Shared}{σ:St}{H:Hp}{x:Str}{u:Value}{pos:Pos}{Q:Value->Shared->Prop}(I:Inv X pins σ H s)(hg:Gl X x)(hm:X.mg x=none)(hv:bootBuiltins x=some u)(h:Q u s)
  (hn:x≠"__name__" := by decide) (hd:(x==("__debug__" : Str))=false:=by decide):wpAny (model X.prog X.w) X.A (eval (.Name x pos) X.env) Q E s:=by
 obtain⟨mb,h1,h2⟩:=I.mod.blt;exact Cn I.ok.kind hg (Calls.loadGlobal_builtin (by rw [I.ok.glob]; exact I.mod.glob.keeps I.bk) hm (by rw [I.ok.blt]; exact h1.keeps I.bk) ((h2 x hn).trans hv) h) hd
theorem mB {x:Str}{v:V}{u:Value}{pos:Pos}(hg:Gl X x)(hm:X.mg x=some u)(r:RelV v u)(hd:(x==("__debug__" : Str))=false:=by decide):PE X (.Name x pos) (tC v):=
 λ_ _ _ H _ I h=>EV I hg hm (λht=>⟨v,H,I,r,h⟩) hd
theorem Ym {x:Str}{v:V}{u:Value}{pos:Pos}(hg:Gl X x)(hm:X.mg x=none)(hv:bootBuiltins x=some u)(r:RelV v u)(hn:x≠"__name__" := by decide)(hd:(x==("__debug__" : Str))=false:=by decide):PE X (.Name x pos) (tC v):=
 λ_ _ _ H _ I h=>g6 I hg hm hv (λht=>⟨v,H,I,r,h⟩) hn hd
variable {a b:Expr}{ta tb:TE}{pos:Pos}
noncomputable def PC (X:Cx)(op:CmpOp)(a b:Expr)(t:TE):Prop:=
 ∀(pins:List (Addr×Obj)) (s:Shared) (σ:St) (H:Hp) (Q:VK),Inv X pins σ H s->t σ H Q->
  wpAny (model X.prog X.w) X.A (eval a X.env) (Lz λv aT=>wpAny (model X.prog X.w) X.A (eval b X.env) (Lz λu gx=>wpAny (model X.prog X.w) X.A (compareOp op v u) (EP X pins σ Q) X.xe gx) X.xe aT) X.xe s
theorem ZT (b:Expr){op:CmpOp}(h:op≠.In)(h2:op≠.NotIn):behindInMarks op b=false:=by
 have e1:(op==CmpOp.In)=false:=by cases op <;> first | rfl | exact absurd rfl h
 have e2:(op==CmpOp.NotIn)=false:=by cases op <;> first | rfl | exact absurd rfl h2
 cases b <;> simp [behindInMarks,e1,e2]
noncomputable def UK (ta:TE):TE:=λσ H Q=>ta σ H λx H1=>Q (.bl (decide (x=.ax))) H1
theorem RelV.ZQ {x:V}{v:Value}(r:RelV x v):(v==eX)=decide (x=.ax):=by
 cases x with
 |ax=>cases r; rfl
 |bl _=>cases r; rfl
 |int _=>obtain⟨t,rfl⟩:=r; rfl
 |str _=>obtain⟨t,rfl⟩:=r; rfl
 |lT _=>obtain⟨t,rfl⟩:=r; rfl
 |A4 _=>obtain⟨t,rfl⟩:=r; rfl
 |ref _=>cases r; rfl
 |ty _=>cases r; rfl
theorem Yo {j pos'}(ha:PE X a ta):PC X .Is a (.Constant .none j pos') (UK ta):=by
 intro pins s σ H Q I h;refine aB (ha pins s σ H _ I h) λv s1 h_=>?_;obtain⟨x,H1,I1,r1,q1⟩:=h_;exact λ_=>Constant_none λ_=>(is_none_gen (λht=>⟨.bl _,H1,I1,by rw [r1.ZQ]; rfl,q1⟩))
noncomputable def tB (t:TE):TT:=λσ H Q=>t σ H λx H1=>∃c,x=.bl c/\Q c H1
theorem XB {op:CmpOp}{t:TE}(h:PC X op a b t)(h1:behindInMarks op b=false:=by first | exact ZT _ (by decide) (by decide) | rfl):PT X (.Compare a [op] [b] pos) (tB t):=by
 intro pins s σ H Q I hw;refine wpAny_isTrue_Compare1 (mn (h pins s σ H _ I hw) λv s1 t1 h1=>mn h1 λu s2 t2 h2=>aB h2 λc s3 ⟨x,H1,I1,r1,q1⟩=>?_) h1;obtain⟨d,rfl,q⟩:=q1;cases r1;exact wpAny_truthy_bool (λht=>⟨H1,I1,q⟩)
theorem LG {e:Expr}{t:TE}(h:PE X e t)(he:∀whole,isTrue e X.env whole=(do let v ← whole; standAt e.pos; holding [v] (truthy v)):=by intro _; rfl):PT X e (tB t):=by
 intro pins s σ H Q I hw;refine isTrue_plain (aB (h pins s σ H _ I hw) λv s1 ⟨x,H1,I1,r1,q1⟩=>?_) (he _);obtain⟨d,rfl,q⟩:=q1;cases r1;exact wpAny_truthy_bool (λht=>⟨H1,I1,q⟩)
variable {tA zi:TT}{rest:List Expr}
noncomputable def Kh (t u:TT):TT:=λσ H Q=>t σ H λc H1=>if c=true then u σ H1 Q else Q false H1
noncomputable def Kb (t u:TT):TT:=λσ H Q=>t σ H λc H1=>if c=true then Q true H1 else u σ H1 Q
noncomputable def UE (t:TT):TT:=λσ H Q=>t σ H λc H1=>Q (!c) H1
theorem pw_and1 (ha:PT X a tA):PW X (.BoolOp .And [a] pos) tA:=by
 intro wh pins s σ H Q I h;refine isTrue_and (aB (ha pins s σ H Q I h) λc s1 e=>?_)
 cases c with
 |true=>exact isTrue_and_nil (λ_=>e)
 |false=>exact λ_=>e
theorem pw_or1 (ha:PT X a tA):PW X (.BoolOp .Or [a] pos) tA:=by
 intro wh pins s σ H Q I h;refine isTrue_or (aB (ha pins s σ H Q I h) λc s1 e=>?_)
 cases c with
 |false=>exact isTrue_or_nil (λ_=>e)
 |true=>exact λ_=>e
theorem pw_and (ha:PT X a tA)(hb:PW X (.BoolOp .And (b::rest) pos) zi):PW X (.BoolOp .And (a::b::rest) pos) (Kh tA zi):=by
 intro wh pins s σ H Q I h;refine isTrue_and (aB (ha pins s σ H _ I h) λc s1 ⟨H1,I1,q1⟩=>?_)
 cases c with
 |true=>exact hb wh pins s1 σ H1 Q I1 q1
 |false=>exact(λht=>⟨H1,I1,q1⟩)
theorem pw_or (ha:PT X a tA)(hb:PW X (.BoolOp .Or (b::rest) pos) zi):PW X (.BoolOp .Or (a::b::rest) pos) (Kb tA zi):=by
 intro wh pins s σ H Q I h;refine isTrue_or (aB (ha pins s σ H _ I h) λc s1 ⟨H1,I1,q1⟩=>?_)
 cases c with
 |true=>exact(λht=>⟨H1,I1,q1⟩)
 |false=>exact hb wh pins s1 σ H1 Q I1 q1
theorem LH (ha:PT X a tA):PT X (.UnaryOp .Not a pos) (UE tA):=by
 intro pins s σ H Q I h;exact isTrue_not (wpAny_mono (ha pins s σ H (λc H1=>Q (!c) H1) I h) (λc s' h ht=>by obtain⟨H',I',q⟩:=h ht; exact⟨H',I',q⟩) λ_ _ x=>x)
noncomputable def US (ta tb:TE):TE:=λσ H Q=>ta σ H λx H1=>∃c,x=.bl c/\if c=true then tb σ H1 Q else Q (.bl false) H1
noncomputable def UD (ta tb:TE):TE:=λσ H Q=>ta σ H λx H1=>∃c,x=.bl c/\if c=true then Q (.bl true) H1 else tb σ H1 Q
theorem Yc {op}{t:TE}(h:PE X a t):PE X (.BoolOp op [a] pos) t:=λpins s σ H Q I hw=>BoolOp_one (h pins s σ H Q I hw)
theorem Yn (ha:PE X a ta)(hb:PE X (.BoolOp .And (b::rest) pos) tb):PE X (.BoolOp .And (a::b::rest) pos) (US ta tb):=by
 intro pins s σ H Q I h;refine BoolOp_and (aB (ha pins s σ H _ I h) λv s1 ⟨x,H1,I1,r1,q1⟩=>?_);obtain⟨c,rfl,q1⟩:=q1;cases r1;refine wpAny_truthy_bool ?_
 cases c with
 |true=>exact hb pins s1 σ H1 Q I1 q1
 |false=>exact(λht=>⟨.bl false,H1,I1,rfl,q1⟩)
theorem Ya (ha:PE X a ta)(hb:PE X (.BoolOp .Or (b::rest) pos) tb):PE X (.BoolOp .Or (a::b::rest) pos) (UD ta tb):=by
 intro pins s σ H Q I h;refine BoolOp_or (aB (ha pins s σ H _ I h) λv s1 ⟨x,H1,I1,r1,q1⟩=>?_);obtain⟨c,rfl,q1⟩:=q1;cases r1;refine wpAny_truthy_bool ?_
 cases c with
 |false=>exact hb pins s1 σ H1 Q I1 q1
 |true=>exact(λht=>⟨.bl true,H1,I1,rfl,q1⟩)
noncomputable def UM (t:TT)(ta tb:TE):TE:=λσ H Q=>t σ H λc H1=>if c=true then ta σ H1 Q else tb σ H1 Q
theorem Yd {c:Expr}(hc:PT X c tA)(ha:PE X a ta)(hb:PE X b tb):PE X (.IfExp c a b pos) (UM tA ta tb):=by
 intro pins s σ H Q I h;refine wpAny_IfExp (aB (hc pins s σ H _ I h) λd s1 ⟨H1,I1,q1⟩=>?_)
 cases d with
 |true=>exact ha pins s1 σ H1 Q I1 q1
 |false=>exact hb pins s1 σ H1 Q I1 q1
end
noncomputable def bz (K:ao)(H:Hp)(a:Addr)(xs:List V):Prop:=
 Rd H a (.lst xs)∨
  ∃(o:Obj) (ak:Array Value) (n:Nat),K.lookup a=some o/\o.cls=.type "list" /\o.dict=none/\o.data=.seq ak n/\ak.size<=sizeLine/\Vals xs ak.toList
noncomputable def dP (K:ao)(H:Hp)(a:Addr)(xs:List V):Prop:=
 Rd H a (.tup xs)∨
  ∃(o:Obj) (ak:Array Value) (n:Nat),K.lookup a=some o/\o.cls=.type "tuple" /\o.data=.seq ak n/\ak.size<=sizeLine/\Vals xs ak.toList
noncomputable def afL:Value->Option V
 |.none=>some .ax
 |.bool b=>some (.bl b)
 |.int i _=>some (.int i)
 |.str x _=>some (.str x)
 |.bytes b _=>some (.lT b)
 |.float b _=>some (.A4 b)
 |.ref a=>some (.ref a)
 |.type n=>some (.ty n)
 |_=>none
theorem RelV.abs {x:V}{u:Value}(r:RelV x u):afL u=some x:=by
 cases x with
 |ax=>cases r; rfl
 |bl _=>cases r; rfl
 |int _=>obtain⟨t,rfl⟩:=r; rfl
 |str _=>obtain⟨t,rfl⟩:=r; rfl
 |lT _=>obtain⟨t,rfl⟩:=r; rfl
 |A4 _=>obtain⟨t,rfl⟩:=r; rfl
 |ref _=>cases r; rfl
 |ty _=>cases r; rfl
theorem RelV.inj {x y:V}{u:Value}(r:RelV x u)(q:RelV y u):x=y:=gn (r.abs.symm.trans q.abs)
theorem Vals.inj:∀{xs ys:List V}{us:List Value},Vals xs us->Vals ys us->xs=ys
 |_,_,_,.nil,.nil=>rfl
 |_,_,_,.cons r t,.cons r' t'=>by rw [r.inj r',Vals.inj t t']
section
variable {X:Cx}{pins:List (Addr×Obj)}{σ:St}{H:Hp}{s:Shared}{a:Addr}{xs ys:List V}
theorem bz.of {K:ao}(h:H a=some (.lst xs)):bz K H a xs:=.inl (.inl h)
theorem dP.of {K:ao}(h:H a=some (.tup xs)):dP K H a xs:=.inl (.inl h)
theorem Inv.list (I:Inv X pins σ H s)(h:bz X.K H a xs):∃ak:List Value,Vals xs ak/\PlainL s.heap a ak.toArray/\xs.length<=sizeLine:=by
 rcases h with h | ⟨o,ak,n,hk,hc,hd,hs,hz,r⟩
 ·obtain⟨z,ak,n,r,e⟩:=h.ok I.au
  exact⟨ak,r,⟨_,n,e,rfl,rfl,rfl⟩,z⟩
 ·refine⟨ak.toList,r,⟨o,n,I.mG a o hk,hc,hd,by simpa using hs⟩,?_⟩
  have e:=r.length;simp only [eZ] at e;omega
theorem Inv.tuple (I:Inv X pins σ H s)(h:dP X.K H a xs):∃ak:List Value,Vals xs ak/\IsTup s.heap a ak.toArray/\xs.length<=sizeLine:=by
 rcases h with h | ⟨o,ak,n,hk,hc,hs,hz,r⟩
 ·obtain⟨z,ak,r,p⟩:=h.ok I.au
  exact⟨ak,r,p,z⟩
 ·refine⟨ak.toList,r,⟨o,I.mG a o hk,hc,n,by simpa using hs⟩,?_⟩
  have e:=r.length;simp only [eZ] at e;omega
theorem Inv.wq (I:Inv X pins σ H s)(h:bz X.K H a xs)(h':bz X.K H a ys):xs=ys:=by
 obtain⟨ak,r,⟨o,n,e,_,_,d⟩,_⟩:=I.list h;obtain⟨its',r',⟨o',n',e',_,_,d'⟩,_⟩:=I.list h';rw [e] at e'; cases e';rw [d] at d';injection d' with d1 _;have:ak=its':=by simpa using congrArg mi d1
 subst this;exact r.inj r'
theorem Inv.C3 (I:Inv X pins σ H s)(h:dP X.K H a xs)(h':dP X.K H a ys):xs=ys:=by
 obtain⟨ak,r,⟨o,e,_,n,d⟩,_⟩:=I.tuple h;obtain⟨its',r',⟨o',e',_,n',d'⟩,_⟩:=I.tuple h';rw [e] at e'; cases e';rw [d] at d';injection d' with d1 _;have:ak=its':=by simpa using congrArg mi d1
 subst this;exact r.inj r'
end
noncomputable abbrev Cx.iR (X:Cx)(E:Value->Shared->Prop):Cx:={X with xe:=E}
noncomputable abbrev Cx.jx (X:Cx):Cx:=X.iR λ_ _=>False
theorem Cx.Ok.iR {X:Cx}(ok:X.Ok)(E:Value->Shared->Prop):(X.iR E).Ok:=
 ⟨ok.mod,ok.kind,ok.glob,ok.blt,ok.above,ok.inj,ok.has,ok.ou,ok.hd,ok.frames,ok.o5,ok.xn,ok.bs,ok.kB,ok.cG,ok.qv,ok.fZ,ok.jI⟩
theorem Cx.Ok.jo {X:Cx}{E:Value->Shared->Prop}(ok:(X.iR E).Ok):X.Ok:=
 ⟨ok.mod,ok.kind,ok.glob,ok.blt,ok.above,ok.inj,ok.has,ok.ou,ok.hd,ok.frames,ok.o5,ok.xn,ok.bs,ok.kB,ok.cG,ok.qv,ok.fZ,ok.jI⟩
section
variable {X:Cx}{pins:List (Addr×Obj)}{σ:St}{H:Hp}{s:Shared}{E:Value->Shared->Prop}
theorem Inv.iR (I:Inv X pins σ H s)(E:Value->Shared->Prop):Inv (X.iR E) pins σ H s:=⟨I.ok.iR E,I.os,I.bare,I.base,I.loc,I.cell,I.free,I.ff,I.pin,I.au,I.len,I.tk⟩
theorem Inv.jo (I:Inv (X.iR E) pins σ H s):Inv X pins σ H s:=⟨I.ok.jo,I.os,I.bare,I.base,I.loc,I.cell,I.free,I.ff,I.pin,I.au,I.len,I.tk⟩
theorem SP.jo {D:Ends}{f:Flow}{s':Shared}(h:SP (X.iR E) pins D f s'):SP X pins D f s':=λht=>by
 have h:=h ht
 cases f with
 |next=>obtain⟨aD,H',I,q⟩:=h; exact⟨aD,H',I.jo,q⟩
 |brk=>obtain⟨aD,H',I,q⟩:=h; exact⟨aD,H',I.jo,q⟩
 |cont=>obtain⟨aD,H',I,q⟩:=h; exact⟨aD,H',I.jo,q⟩
 |ret u=>obtain⟨v,aD,H',I,r,q⟩:=h; exact⟨v,aD,H',I.jo,r,q⟩
theorem fj.jx {st:List Stmt}{t:TS}(h:fj X.jx st t):fj X st t:=λpins s σ H D I hw=>
 wpAny_mono (h pins s σ H D (I.iR _) hw) (λ_ _ q=>q.jo) λ_ _ z=>jX z
end
section
variable {X:Cx}{st:Stmt}{rest:List Stmt}{t u:TS}{e:Expr}{te:TE}{pos:Pos}
noncomputable def UI:TS:=λD σ H=>D.nx σ H
noncomputable def J9 (t u:TS):TS:=λD σ H=>t {D with nx:=u D} σ H
theorem Eh:fj X [] UI:=λ_ _ σ H _ I h=>wpAny_execs_nil (λht=>⟨σ,H,I,h⟩)
theorem nQ (h1:PS X st t)(h2:fj X rest u):fj X (st::rest) (J9 t u):=by
 intro pins s σ H D I h;refine wpAny_execs_cons (aB (h1 pins s σ H {D with nx:=u D} I h) λf s1 q=>?_)
 cases f with
 |next=>
  obtain⟨aD,H',I',q⟩:=q;exact h2 pins s1 aD H' D I' q
 |ret v=>exact λ_=>q
 |brk=>exact λ_=>q
 |cont=>exact λ_=>q
theorem sF (h1:PS X st t):fj X [st] t:=by
 intro pins s σ H D I h;refine wpAny_execs_cons (aB (h1 pins s σ H D I h) λf s1 q=>?_)
 cases f with
 |next=>exact wpAny_execs_nil λ_=>q
 |ret v=>exact λ_=>q
 |brk=>exact λ_=>q
 |cont=>exact λ_=>q
theorem Inv.quiet {pins:List (Addr×Obj)}{σ:St}{H:Hp}{s:Shared}(I:Inv X pins σ H s):interactive X.env=false:=by simp [interactive,I.ok.kind]
noncomputable def UN (te:TE):TS:=λD σ H=>te σ H λ_ H1=>D.nx σ H1
theorem Ej (he:PE X e te)(hs:swapsWith e none pos.line X.env=pure false:=by rfl):PS X (.Expr e pos) (UN te):=by
 intro pins s σ H D I h;exact wpAny_Expr_any (aB (he pins s σ H _ I h) λv s1 ⟨x,H1,I1,r1,q1⟩=>(λht=>⟨σ,H1,I1,q1⟩)) I.quiet hs
noncomputable def Ka (te:TE):TS:=λD σ H=>te σ H D.rt
theorem vP (he:PE X e te):PS X (.Return (some e) pos) (Ka te):=by
 intro pins s σ H D I h;exact wpAny_Return_some (aB (he pins s σ H _ I h) λv s1 ⟨x,H1,I1,r1,q1⟩=>(λht=>⟨x,σ,H1,I1,r1,q1⟩))
noncomputable def UL (c:TT)(t u:TS):TS:=λD σ H=>c σ H λb H1=>if b=true then t D σ H1 else u D σ H1
theorem Ei {c:Expr}{a b:List Stmt}{tc:TT}(hc:PT X c tc)(ha:fj X a t)(hb:fj X b u):PS X (.If c a b pos) (UL tc t u):=by
 intro pins s σ H D I h;refine wpAny_If (aB (hc pins s σ H _ I h) λd s1 ⟨H1,I1,q1⟩=>?_)
 cases d with
 |true=>exact ha pins s1 σ H1 D I1 q1
 |false=>exact hb pins s1 σ H1 D I1 q1
end
noncomputable abbrev TG:=V->St->Hp->(St->Hp->Prop)->Prop
noncomputable abbrev lW:=List V->St->Hp->(St->Hp->Prop)->Prop
noncomputable def PG (X:Cx)(target:Expr)(t:TG):Prop:=
 ∀(pins:List (Addr×Obj)) (s:Shared) (σ:St) (H:Hp) (v:V) (u:Value) (Q:St->Hp->Prop),Inv X pins σ H s->RelV v u->t v σ H Q->
  wpAny (model X.prog X.w) X.A (assign target X.env u) (Lz λ_ s'=>∃aD H',Inv X pins aD H' s'/\Q aD H') X.xe s
noncomputable def jN (X:Cx)(ts:List Expr)(t:lW):Prop:=
 ∀(pins:List (Addr×Obj)) (s:Shared) (σ:St) (H:Hp) (vs:List V) (us:List Value) (Q:St->Hp->Prop),Inv X pins σ H s->Vals vs us->t vs σ H Q->
  wpAny (model X.prog X.w) X.A (assignInOrder ((assignEach ts X.env).map (·.2)) us) (Lz λ_ s'=>∃aD H',Inv X pins aD H' s'/\Q aD H') X.xe s
section
variable {X:Cx}{pos:Pos}
noncomputable def tK (i:Nat):TG:=λv σ H Q=>Q (σ.set i (some v)) H
theorem bZ {i:Nat}{x:Str}(hN:X.N.Nodup)(hi:X.N[i]?=some x)(hx:Loc X.env.scope x)(hf:X.fn x=true∨X.env.scope.names.lookup x=some .local:=by first | exact .inl rfl | exact .inr rfl | assumption):PG X (.Name x pos) (tK i):=by
 intro pins s σ H v u Q I r h;exact wpAny_assign_Name (Dr I hN hi hx r (λs' I'=>(λht=>⟨_,H,I',h⟩)) hf)
noncomputable def adz:lW:=λvs σ H Q=>vs=[]/\Q σ H
noncomputable def adA (t:TG)(u:lW):lW:=λvs σ H Q=>∃v r,vs=v::r/\t v σ H λaD H'=>u r aD H' Q
theorem X3:jN X [] adz:=by
 intro pins s σ H vs us Q I r h;obtain⟨e,h⟩:=h;subst e;cases r;exact assignInOrder_nil (λht=>⟨σ,H,I,h⟩)
theorem X4 {e:Expr}{es:List Expr}{t:TG}{u:lW}(h1:PG X e t)(h2:jN X es u)
  (hs:(assignEach (e::es) X.env).map (·.2)=assign e X.env::(assignEach es X.env).map (·.2):=by rfl):jN X (e::es) (adA t u):=by
 intro pins s σ H vs us Q I r h;obtain⟨v,vr,e1,h⟩:=h;subst e1
 cases r with
 |cons r rr=>
  rw [hs];refine assignInOrder_cons (aB (h1 pins s σ H _ _ _ I r h) λ_ s1 ⟨kE,H1,I1,q1⟩=>?_);exact h2 pins s1 kE H1 _ _ Q I1 rr q1
noncomputable def ady (K:ao)(n:Nat)(t:lW):TG:=λv σ H Q=>∃a xs,v=.ref a/\dP K H a xs/\xs.length=n/\t xs σ H Q
theorem X6 {es:List Expr}{k:Nat}{t:lW}{n:Nat}(hc:X.calm=true)(h:jN X es t)
  (hn:(assignEach es X.env).length=n:=by rfl) (bB:(assignEach es X.env).findIdx? (·.1)=none:=by rfl):PG X (.Tuple es k pos) (ady X.K n t):=by
 intro pins s σ H v u Q I r hw;obtain⟨a,xs,e1,hq,hl,hw⟩:=hw;subst e1;cases r;obtain⟨ak,rv,ht,hz⟩:=I.tuple hq;refine assign_Tuple_tuple (I.ok.hd hc) ht (by simp [hn,← hl,rv.length]) bB λh' hx=>?_;have I1:Inv X pins σ H {s with heap:=h'}:=I.kept (t':=s.toks) λb o e=>hx b o (a9 (aK e)) e;exact h pins _ σ H xs _ Q I1 (by simpa using rv) hw
noncomputable def zj (te:TE)(g:TG):TS:=λD σ H=>te σ H λx H1=>g x σ H1 D.nx
theorem nR {i:Nat}{x:Str}{e:Expr}{te:TE}{pos':Pos}(hN:X.N.Nodup)(hi:X.N[i]?=some x)(hx:Loc X.env.scope x)(he:PE X e te)(hs:swapsWith e (some (.Name x pos')) pos.line X.env=pure false:=by rfl)(hf:X.fn x=true∨X.env.scope.names.lookup x=some .local:=by first | exact .inl rfl | exact .inr rfl | assumption) :
  PS X (.Assign [.Name x pos'] e pos) (zj te (tK i)):=by
 intro pins s σ H D I h;refine wpAny_Assign_Name (aB (he pins s σ H _ I h) λv s1 ⟨y,H1,I1,r1,q1⟩=>?_) hs;exact Dr I1 hN hi hx r1 (λs2 I2=>(λht=>⟨_,H1,I2,q1⟩)) hf
end
structure It where
 go:Nat->Hp->Prop
 vm:Nat->Hp->V->Hp->Prop
 stop:Nat->Hp->Prop
noncomputable def fw (X:Cx)(pins:List (Addr×Obj))(H:Hp)(b:Addr):Prop:=
 H b=none/\b≠X.env.locals/\b∉X.fs/\(b∈X.ex∨X.aQ.heap.objs.size<=b)/\(∀x c,X.env.cells.lookup x=some c->c≠b)/\∀p∈X.pn++pins,p.1≠b
theorem Inv.i8 {X:Cx}{pins:List (Addr×Obj)}{σ:St}{H H':Hp}{s:Shared}{b:Addr}(I:Inv X pins σ H s)(hb:s.heap.objs.size<=b)(hn:H' b=none):fw X pins H' b:=by
 refine⟨hn,oO (cK I.lt hb),I.EK hb,.inr (bH I.sz hb),λx c e z=>?_,λp hp z=>?_⟩
 ·obtain⟨v,q⟩:=I.cell x c e
  exact absurd (cK q.lt (by rw [z]; exact hb)) (eI _)
 ·exact absurd (cK (aK (I.pin p hp).1) (by rw [z]; exact hb)) (eI _)
structure Turn (P:Program) (w:World) (K:ao) (tg:Expr) (J:It) (fp:List Addr) (it:Addr) (tn:Nat->Heap->Prop):Prop where
 mem:it∈fp
 obj:∀i h,tn i h->∀b∈fp,∃o,h.get? b=some o/\∀v,o.data≠.cell v
 keep:∀i h h',tn i h->(∀b∈fp,∀o,h.get? b=some o->h'.get? b=some o)->tn i h'
 item:∀(X:Cx),X.prog=P->X.w=w->X.K=K->X.calm=true->∀(i:Nat) (pins:List (Addr×Obj)) (s:Shared) (σ:St) (H:Hp) (E:Value->Shared->Prop),Inv X pins σ H s->(∀b∈fp,fw X pins H b)->tn i s.heap->J.go i H->
  wpAny (model P w) X.A (pyNext (.ref it)) (Lz λr s1=>∃u,r=some u/\
   wpAny (model P w) X.A (letOwnedTupleGo tg (.ref it) u) (Lz λ_ s2=>∃x H',Inv X pins σ H' s2/\RelV x u/\J.vm i H x H'/\tn (i+1) s2.heap/\∀b∈fp,H' b=none) E s1) E s
 done:∀(X:Cx),X.prog=P->X.w=w->X.K=K->X.calm=true->∀(i:Nat) (pins:List (Addr×Obj)) (s:Shared) (σ:St) (H:Hp) (E:Value->Shared->Prop),Inv X pins σ H s->(∀b∈fp,fw X pins H b)->tn i s.heap->J.stop i H->
  wpAny (model P w) X.A (pyNext (.ref it)) (Lz λr s1=>r=none/\Inv X pins σ H s1) E s
 self:∀(A:Around) (i:Nat) (s:Shared) (Q:Value->Shared->Prop) (E:Value->Shared->Prop),tn i s.heap->Q (.ref it) s->wpAny (model P w) A (pyIter (.ref it)) Q E s
noncomputable abbrev TI:=St->Hp->(It->Hp->Prop)->Prop
noncomputable def RL (X:Cx)(pins:List (Addr×Obj))(σ:St)(tg:Expr)(R:It->Hp->Prop)(wH:Value)(s2:Shared):Prop:=
 ∃(it:Addr) (fp:List Addr) (tn:Nat->Heap->Prop) (J:It) (H':Hp),wH=.ref it/\Inv X pins σ H' s2/\Turn X.prog X.w X.K tg J fp it tn/\tn 0 s2.heap/\(∀b∈fp,fw X pins H' b)/\R J H'
noncomputable def PI (X:Cx)(tg iter:Expr)(wi:TI):Prop:=
 ∀(pins:List (Addr×Obj)) (s:Shared) (σ:St) (H:Hp) (R:It->Hp->Prop),Inv X pins σ H s->wi σ H R->
  wpAny (model X.prog X.w) X.A (eval iter X.env) (Lz λv s1=>wpAny (model X.prog X.w) X.A (pyIter v) (Lz (RL X pins σ tg R)) X.xe s1) X.xe s
theorem qo {M:Model}{A:Around}{E:Value->Shared->Prop}{s:Shared}{tg:Expr}{it:Addr}{u:Value}{o:Obj}{n:String}{vs:Array Value}{Q:Unit->Shared->Prop}(ho:s.heap.get? it=some o)(hc:o.cls=.type n)(hd:o.data=.fields vs)
  (hn:["enumerate","zip","dict_itemiterator","dict_reverseitemiterator","odict_iterator","itertools.zip_longest","itertools.pairwise"].contains n=false) (hQ:Q () s):wpAny M A (letOwnedTupleGo tg (.ref it) u) Q E s:=by
 unfold letOwnedTupleGo
 cases tg <;> first
  |exact wpAny_pure hQ
  | (cases u <;> first
    |exact wpAny_pure hQ
    | (refine wpAny_bind (wpAny_load ho ?_)
       rw [hc,hd];show wpAny M A (if (["enumerate","zip","dict_itemiterator","dict_reverseitemiterator","odict_iterator","itertools.zip_longest","itertools.pairwise"].contains n&&vs[0]?==some (rawInt _))=true then _ else _) Q E s
       rw [if_neg (by intro h; rw [hn,qW] at h; cases h)];exact wpAny_pure hQ))
noncomputable def uC (K:ao)(a:Addr):It:=
 ⟨λi H=>∃xs x,bz K H a xs/\xs[i]?=some x,λi H x H'=>H'=H/\∀xs,bz K H a xs->xs[i]?=some x,λi H=>∃xs,bz K H a xs/\xs.length<=i⟩
noncomputable def IZ (K:ao)(a:Addr):It:=
 ⟨λi H=>∃xs x,dP K H a xs/\xs[i]?=some x,λi H x H'=>H'=H/\∀xs,dP K H a xs->xs[i]?=some x,λi H=>∃xs,dP K H a xs/\xs.length<=i⟩
noncomputable def xU (lo:Int)(n:Nat):It:=⟨λi _=>i<n,λi H x H'=>H'=H/\x=.int (lo+i),λi _=>n<=i⟩
theorem T4 {P:Program}{w:World}{K:ao}{tg:Expr}(a it:Addr):Turn P w K tg (uC K a) [it] it (λi h=>h.IsListIter it a i) where
 mem:=by simp
 obj:=λi h st b hb=>by
  have e:b=it:=by simpa using hb
  subst e;obtain⟨o,e,c,d⟩:=st;exact⟨o,e,λv z=>by rw [d] at z; cases z⟩
 keep:=λi h h' st k=>st.at λo e=>k it (by simp) o e
 item:=by
  intro X hP hw hK hc i pins s σ H E I hf st hg;subst hP hw hK;obtain⟨xs,x,hq,hx⟩:=hg;obtain⟨ak,rv,p,hz⟩:=I.list hq;obtain⟨u,hu,ru⟩:=rv.get hx;obtain⟨f0,f1,f2,f3,f4,f5⟩:=hf it (by simp);refine wpAny_pyNext_list_item st p.isList (x:=u) (by simpa using hu) λh' cT sb=>?_;have I1:Inv X pins σ H {s with heap:=h'}:=I.turned (t':=s.toks) (λb o hb e=>(sb.2 b hb).trans e) f0 f1 f3 f4 f5;obtain⟨o,e,c,d⟩:=id cT;exact(λht=>⟨u,rfl,qo (s:={s with heap:=h'}) e c d (by decide) (λht=>⟨x,H,I1,ru,⟨rfl,λys hy=>by rw [I.wq hy hq]; exact hx⟩,cT,λb hb=>(hf b hb).1⟩)⟩)
 done:=by
  intro X hP hw hK hc i pins s σ H E I hf st hg;subst hP hw hK;obtain⟨xs,hq,hx⟩:=hg;obtain⟨ak,rv,p,hz⟩:=I.list hq;obtain⟨f0,f1,f2,f3,f4,f5⟩:=hf it (by simp);have hl:=rv.length;exact wpAny_pyNext_list_end (I.ok.hd hc) st p.isList (by simp; omega) λh' eb=>(λht=>⟨rfl,I.turned (t':=s.toks) (λb o hb e=>eb b o hb e) f0 f1 f3 f4 f5⟩)
 self:=λ_ _ _ _ _ st h=>wpAny_pyIter_listiter st h
theorem TZ {P:Program}{w:World}{K:ao}{tg:Expr}(a it:Addr):Turn P w K tg (IZ K a) [it] it (λi h=>h.IsTupleIter it a i) where
 mem:=by simp
 obj:=λi h st b hb=>by
  have e:b=it:=by simpa using hb
  subst e;obtain⟨o,e,c,d⟩:=st;exact⟨o,e,λv z=>by rw [d] at z; cases z⟩
 keep:=λi h h' st k=>st.at λo e=>k it (by simp) o e
 item:=by
  intro X hP hw hK hc i pins s σ H E I hf st hg;subst hP hw hK;obtain⟨xs,x,hq,hx⟩:=hg;obtain⟨ak,rv,p,hz⟩:=I.tuple hq;obtain⟨u,hu,ru⟩:=rv.get hx;obtain⟨f0,f1,f2,f3,f4,f5⟩:=hf it (by simp);refine wpAny_pyNext_tuple_item st (show s.heap.IsTuple a ak.toArray from p) (x:=u) (by simpa using hu) λh' cT sb=>?_;have I1:Inv X pins σ H {s with heap:=h'}:=I.turned (t':=s.toks) (λb o hb e=>(sb.2 b hb).trans e) f0 f1 f3 f4 f5;obtain⟨o,e,c,d⟩:=id cT;exact(λht=>⟨u,rfl,qo (s:={s with heap:=h'}) e c d (by decide) (λht=>⟨x,H,I1,ru,⟨rfl,λys hy=>by rw [I.C3 hy hq]; exact hx⟩,cT,λb hb=>(hf b hb).1⟩)⟩)
 done:=by
  intro X hP hw hK hc i pins s σ H E I hf st hg;subst hP hw hK;obtain⟨xs,hq,hx⟩:=hg;obtain⟨ak,rv,p,hz⟩:=I.tuple hq;obtain⟨f0,f1,f2,f3,f4,f5⟩:=hf it (by simp);have hl:=rv.length;exact wpAny_pyNext_tuple_end (I.ok.hd hc) st (show s.heap.IsTuple a ak.toArray from p) (by simp; omega) λh' eb=>(λht=>⟨rfl,I.turned (t':=s.toks) (λb o hb e=>eb b o hb e) f0 f1 f3 f4 f5⟩)
 self:=λ_ _ _ _ _ st h=>wpAny_pyIter_tupleiter st h
theorem T3 {P:Program}{w:World}{K:ao}{tg:Expr}(it:Addr)(lo:Int)(n:Nat):Turn P w K tg (xU lo n) [it] it (λi h=>IsRangeIter h it (lo+(i:Nat) * 1) ((n:Int) - (i:Nat)) 1) where
 mem:=by simp
 obj:=λi h st b hb=>by
  have e:b=it:=by simpa using hb
  subst e;exact⟨_,st,λv z=>by
   have z':Data.fields _=Data.cell v:=z
   cases z'⟩
 keep:=λi h h' st k=>k it (by simp) _ st
 item:=by
  intro X hP hw hK hc i pins s σ H E I hf st hg;subst hP hw hK;obtain⟨f0,f1,f2,f3,f4,f5⟩:=hf it (by simp);have W:=Walks.range (prog:=X.prog) (w:=X.w) (I.ok.hd hc) it lo 1 n;refine W.item i s _ _ hg st λv h' tk hv cT kk ht=>?_;obtain⟨t,rfl⟩:=hv;have I1:Inv X pins σ H {s with heap:=h',toks:=tk}:=I.turned (λb o hb e=>kk b o (by simpa using hb) e) f0 f1 f3 f4 f5;refine⟨_,rfl,qo (s:={s with heap:=h',toks:=tk}) (n:="range_iterator") cT rfl rfl (by decide) (λht=>⟨.int (lo+i),H,I1,⟨t,by rw [Int.mul_one]⟩,⟨rfl,rfl⟩,cT,λb hb=>(hf b hb).1⟩)⟩
 done:=by
  intro X hP hw hK hc i pins s σ H E I hf st hg;subst hP hw hK;obtain⟨f0,f1,f2,f3,f4,f5⟩:=hf it (by simp);exact wpAny_pyNext_range_end (I.ok.hd hc) st (by have:n<=i:=hg; omega) λh' eb=>(λht=>⟨rfl,I.turned (t':=s.toks) (λb o hb e=>eb b o hb e) f0 f1 f3 f4 f5⟩)
 self:=λ_ _ _ _ _ st h=>wpAny_pyIter_rangeiter st h
section
variable {X:Cx}{tg:Expr}
noncomputable def abI (K:ao)(tl:TE):TI:=λσ H R=>tl σ H λx H1=>∃a,x=.ref a/\(∃xs,bz K H1 a xs)/\R (uC K a) H1
noncomputable def abD (K:ao)(tl:TE):TI:=λσ H R=>tl σ H λx H1=>∃a,x=.ref a/\(∃xs,dP K H1 a xs)/\R (IZ K a) H1
theorem X0 {l:Expr}{tl:TE}(hl:PE X l tl):PI X tg l (abI X.K tl):=by
 intro pins s σ H R I h;refine aB (hl pins s σ H _ I h) λv s1 h_=>?_;obtain⟨x,H1,I1,r1,q1⟩:=h_;obtain⟨a,e,⟨xs,hq⟩,q⟩:=q1;subst e;cases r1;obtain⟨ak,rv,p,hz⟩:=I1.list hq;refine λ_=>wpAny_pyIter_list p.isList λ_=>?_;refine⟨s1.heap.objs.size,[s1.heap.objs.size],_,_,H1,rfl,I1.kept (t':=s1.toks) λb o e=>aI _ e,T4 a _,⟨_,bE _ rfl,rfl,rfl⟩,λb hb=>?_,q⟩;have e:b=s1.heap.objs.size:=by simpa using hb
 subst e;exact I1.i8 (aN _) (I1.au.fresh (aN _))
theorem XU {l:Expr}{tl:TE}(hl:PE X l tl):PI X tg l (abD X.K tl):=by
 intro pins s σ H R I h;refine aB (hl pins s σ H _ I h) λv s1 h_=>?_;obtain⟨x,H1,I1,r1,q1⟩:=h_;obtain⟨a,e,⟨xs,hq⟩,q⟩:=q1;subst e;cases r1;obtain⟨ak,rv,p,hz⟩:=I1.tuple hq;refine λ_=>wpAny_pyIter_tuple (show s1.heap.IsTuple a ak.toArray from p) λ_=>?_;refine⟨s1.heap.objs.size,[s1.heap.objs.size],_,_,H1,rfl,I1.kept (t':=s1.toks) λb o e=>aI _ e,TZ a _,⟨_,bE _ rfl,rfl,rfl⟩,λb hb=>?_,q⟩;have e:b=s1.heap.objs.size:=by simpa using hb
 subst e;exact I1.i8 (aN _) (I1.au.fresh (aN _))
theorem Lw {pins:List (Addr×Obj)}{σ:St}{H:Hp}{s:Shared}{R:It->Hp->Prop}{E:Value->Shared->Prop}{lo hi:Int}{t u v:Tok}{tk:Nat}(I:Inv X pins σ H s)(h1 : -(2 ^ 62)<=lo)(h2:lo<2 ^ 62)(h3 : -(2 ^ 62)<=hi)(h4:hi<2 ^ 62)
  (q:R (xU lo (hi - lo).toNat) H):wpAny (model X.prog X.w) X.A (pyIter (.ref s.heap.objs.size)) (Lz (RL X pins σ tg R)) E {s with heap:=s.heap.push {cls:=.type "range",data:=.fields #[.int lo t,.int hi u,.int 1 v]},toks:=tk}:=by
 refine wpAny_pyIter_range (IsRange.new ..) (small_one h1 h2 h3 h4) λht=>?_;have I1:Inv X pins σ H {s with heap:=s.heap.push {cls:=.type "range",data:=.fields #[.int lo t,.int hi u,.int 1 v]},toks:=tk}:=I.kept λb o e=>aI _ e
 refine⟨(s.heap.push {cls:=.type "range",data:=.fields #[.int lo t,.int hi u,.int 1 v]}).objs.size,[(s.heap.push {cls:=.type "range",data:=.fields #[.int lo t,.int hi u,.int 1 v]}).objs.size],_,_,H,rfl,
  I1.kept (t':=tk) λb o e=>aI _ e,T3 _ lo (hi - lo).toNat,?_,λb hb=>?_,q⟩
 ·have e1:lo+((0:Nat):Int) * 1=lo:=by simp
  have e2:(((hi - lo).toNat:Nat):Int) - ((0:Nat):Int)=Builtin.Range.rangeSize lo hi 1:=by rw [rangeSize_one]; split <;> omega
  show IsRangeIter _ _ (lo+((0:Nat):Int) * 1) ((((hi - lo).toNat:Nat):Int) - ((0:Nat):Int)) 1;rw [e1,e2];exact bE _ rfl
 ·have e:b=(s.heap.push {cls:=.type "range",data:=.fields #[.int lo t,.int hi u,.int 1 v]}).objs.size:=by simpa using hb
  subst e;exact I1.i8 (aN _) (I1.au.fresh (aN _))
noncomputable def abG (ta:TA):TI:=λσ H R=>ta σ H λvs H1=>∃j:Int,vs=[.int j]/\-(2 ^ 62)<=j/\j<2 ^ 62/\R (xU 0 j.toNat) H1
noncomputable def abF (ta:TA):TI:=λσ H R=>ta σ H λvs H1=>∃i j:Int,vs=[.int i,.int j]/\(-(2 ^ 62)<=i/\i<2 ^ 62/\-(2 ^ 62)<=j/\j<2 ^ 62)/\R (xU i (j - i).toNat) H1
theorem XZ {a:Expr}{ta:TA}{p pos:Pos}(hg:Gl X "range")(hm:X.mg "range" = none)(ha:PA X [a] ta)(hs:starEach [a] X.env=[(false,eval a X.env)]:=by rfl):PI X tg (.Call (.Name "range" p) [a] [] pos) (abG ta):=by
 intro pins s σ H R I h;refine Call_ (g6 I hg hm boot_range (jW (aB (ha pos pins s σ H _ I h) λus s1 ⟨vs,H1,I1,r1,q1⟩=>?_) hs rfl));obtain⟨j,e,q1,q2,q⟩:=q1;subst e
 cases r1 with
 |cons r rr=>
  cases rr;obtain⟨t,rfl⟩:=r;exact call_range_1 (λ_=>Lw I1 (by omega) (by omega) q1 q2 (by simpa using q))
theorem XY {a b:Expr}{ta:TA}{p pos:Pos}(hg:Gl X "range")(hm:X.mg "range" = none)(ha:PA X [a,b] ta)(hs:starEach [a,b] X.env=[(false,eval a X.env),(false,eval b X.env)]:=by rfl)(en:starEach [b] X.env=[(false,eval b X.env)]:=by rfl) :
  PI X tg (.Call (.Name "range" p) [a,b] [] pos) (abF ta):=by
 intro pins s σ H R I h;refine Call_ (g6 I hg hm boot_range (jW (aB (ha pos pins s σ H _ I h) λus s1 ⟨vs,H1,I1,r1,q1⟩=>?_) (by rw [hs,en]) (by rw [en]; rfl)));obtain⟨i,j,e,⟨q1,q2,q3,q4⟩,q⟩:=q1;subst e
 cases r1 with
 |cons r rr=>
  cases rr with
  |cons r' rr=>
   cases rr;obtain⟨t,rfl⟩:=r;obtain⟨t',rfl⟩:=r';exact call_range_2 (λ_=>Lw I1 q1 q2 q3 q4 q)
noncomputable def C7 (wi:TI)(g:TG)(tb:TS):TS:=λD σ H=>wi σ H λJ H1=>∃W:Nat->Nat->St->Hp->Prop,(∃m,W 0 m σ H1)/\∀i m σ H,W i m σ H->
 (J.stop i H/\D.nx σ H)∨(J.go i H/\∃N:St->Hp->Prop,(∀aD H',N aD H'->∃m',m'<m/\W (i+1) m' aD H')/\∀x H',J.vm i H x H'->g x σ H' λcW H2=>tb {D with nx:=N,ct:=N,bk:=D.nx} cW H2)
noncomputable def sG (fp:List Addr)(h:Heap):List (Addr×Obj):=fp.filterMap λb=>(h.get? b).map λo=>(b,o)
theorem sO {fp:List Addr}{h:Heap}{b:Addr}{o:Obj}(hb:b∈fp)(e:h.get? b=some o):(b,o)∈sG fp h:=B3.mpr ⟨b,hb,by rw [e]; rfl⟩
theorem Zr {fp:List Addr}{h:Heap}{p:Addr×Obj}(hp:p∈sG fp h):p.1∈fp/\h.get? p.1=some p.2:=by
 obtain⟨b,hb,e⟩:=B3.mp hp
 cases q:h.get? b with
 |none=>rw [q] at e; cases e
 |some o=>
  rw [q] at e;have e':(b,o)=p:=gn e;subst e';exact⟨hb,q⟩
theorem Inv.pinned {pins:List (Addr×Obj)}{σ:St}{H:Hp}{s:Shared}{fp:List Addr}(I:Inv X pins σ H s)(hf:∀b∈fp,fw X pins H b)(ho:∀b∈fp,∃o,s.heap.get? b=some o/\∀v,o.data≠.cell v):Inv X (pins++sG fp s.heap) σ H s:=
 I.Es λp hp=>(eJ.mp hp).elim (λz=>I.pin p (d6 _ z)) λz=>by
  obtain⟨hb,e⟩:=Zr z;obtain⟨f0,f1,f2,_⟩:=hf p.1 hb;obtain⟨o,e',d⟩:=ho p.1 hb;rw [e] at e'; cases e';exact⟨e,f0,f1,f2,d⟩
theorem Inv.ml {pins pl:List (Addr×Obj)}{σ:St}{H:Hp}{s:Shared}(I:Inv X (pins++pl) σ H s):Inv X pins σ H s:=I.Es λp hp=>I.pin p (d6 _ (gq _ hp))
theorem LJ {iter:Expr}{body:List Stmt}{wi:TI}{g:TG}{tb:TS}{pos:Pos}(hp:PassesOwn (model X.prog X.w) X.A X.env X.xe)(hc:X.calm=true)(hi:PI X tg iter wi)(hg:PG X tg g)(hb:fj X body tb)
  (hs:∀x,foldedSetIterable iter X.env x=pure x:=by intro _; rfl):PS X (.For tg iter body [] pos) (C7 wi g tb):=by
 intro pins s σ H D I h;refine wpAny_For (mn (hi pins s σ H _ I h) λv s1 t1 h1=>aB h1 λwH s2 h2=>?_) hs;obtain⟨it,fp,tn,J,H2,e,I2,T,eM,f2,W,⟨m0,w0⟩,turn⟩:=h2;subst e;have Ds:∀{H':Hp},(∀b∈fp,H' b=none)->∀b∈fp,fw X pins H' b:=λhn b hb=>⟨hn b hb,(f2 b hb).2⟩
 refine codeAny_forLoop_any (λn s'=>∃i aD H',Inv X pins aD H' s'/\tn i s'.heap/\(∀b∈fp,H' b=none)/\W i n aD H') ?_ m0 ⟨0,σ,H2,I2,eM,λb hb=>(f2 b hb).1,w0⟩;rintro n s3 ⟨i,eW,H3,I3,Kp,OY,w3⟩;rcases turn i n eW H3 w3 with ⟨stop,qn⟩ | ⟨go,N,hN,step⟩
 ·refine wpAny_passesOwn hp (aB (T.done X rfl rfl rfl hc i pins s3 eW H3 X.xe I3 (Ds OY) Kp stop) λr s4 ⟨hr,I4⟩=>?_)
  subst hr;exact wpAny_execs_nil (λht=>⟨eW,H3,I4,qn⟩)
 ·refine wpAny_passesOwn hp (mn (T.item X rfl rfl rfl hc i pins s3 eW H3 X.xe I3 (Ds OY) Kp go) λr s4 ht4 ⟨u,hr,h4⟩=>?_)
  subst hr;refine wpAny_passesOwn hp (aB h4 λ_ s5 ⟨x,H5,I5,r5,y5,mv,qq⟩=>?_);have I5':=I5.pinned (Ds qq) (T.obj _ _ mv);refine wpAny_passesOwn hp (aB (hg _ s5 eW H5 x u _ I5' r5 (step x H5 y5)) λ_ s6 ⟨R7,H6,I6,q6⟩=>?_);refine wpAny_passesOwn hp (aB (hb _ s6 R7 H6 _ I6 q6) λf s7 q7=>?_);have again:∀{jQ:St} {H7:Hp},Inv X (pins++sG fp s5.heap) jQ H7 s7->N jQ H7->∃m,m<n/\∃i aD H',Inv X pins aD H' s7/\tn i s7.heap/\(∀b∈fp,H' b=none)/\W i m aD H':=λ{jQ H7} I7 n7=>by
   obtain⟨m',hm,w7⟩:=hN jQ H7 n7;refine⟨m',hm,i+1,jQ,H7,I7.ml,T.keep _ _ _ mv λb hb o e=>(I7.pin (b,o) (d6 _ (d6 _ (sO hb e)))).1,λb hb=>?_,w7⟩;obtain⟨o,e,d⟩:=T.obj _ _ mv b hb;exact(I7.pin (b,o) (d6 _ (d6 _ (sO hb e)))).2.1
  cases f with
  |next=>obtain⟨jQ,H7,I7,n7⟩:=q7; exact again I7 n7
  |cont=>obtain⟨jQ,H7,I7,n7⟩:=q7; exact again I7 n7
  |brk=>obtain⟨jQ,H7,I7,q7⟩:=q7; exact λ_=>⟨jQ,H7,I7.ml,q7⟩
  |ret v=>obtain⟨x7,jQ,H7,I7,r7,q7⟩:=q7; exact λ_=>⟨x7,jQ,H7,I7.ml,r7,q7⟩
end
theorem A1 {K:ao}{a:Addr}{xs:List V}{g:TG}{tb:TS}{D:Ends}{σ:St}{H:Hp}(Pv:Nat->St->Hp->Prop)(h0:Pv 0 σ H)(hl:∀i σ H,i<=xs.length->Pv i σ H->bz K H a xs)
  (hs:∀i x σ H,xs[i]?=some x->Pv i σ H->g x σ H λcW H2=>tb {D with nx:=Pv (i+1),ct:=Pv (i+1),bk:=D.nx} cW H2) (hd:∀σ H,Pv xs.length σ H->D.nx σ H) :
  ∃W:Nat->Nat->St->Hp->Prop,(∃m,W 0 m σ H)/\∀i m σ H,W i m σ H->
   ((uC K a).stop i H/\D.nx σ H)∨((uC K a).go i H/\∃N:St->Hp->Prop,(∀aD H',N aD H'->∃m',m'<m/\W (i+1) m' aD H')/\∀x H',(uC K a).vm i H x H'->g x σ H' λcW H2=>tb {D with nx:=N,ct:=N,bk:=D.nx} cW H2):=by
 refine⟨λi m σ H=>m=xs.length - i/\i<=xs.length/\Pv i σ H,⟨xs.length,by simp,fP _,h0⟩,?_⟩;rintro i m σ H ⟨rfl,hi,p⟩;have q:=hl i σ H hi p
 by_cases aF:i<xs.length
 ·refine .inr ⟨⟨xs,xs[i],q,by simp [aF]⟩,Pv (i+1),λaD H' p'=>⟨xs.length - (i+1),by omega,rfl,aF,p'⟩,λx H' y=>?_⟩
  obtain⟨e,y⟩:=y;subst e;exact hs i x σ _ (y xs q) p
 ·have e:i=xs.length:=by omega
  subst e;exact .inl ⟨⟨xs,q,aN _⟩,hd σ H p⟩
noncomputable abbrev R2:=V->V->Hp->VK->Prop
noncomputable def bX (X:Cx)(f:Value->Value->Sem Value)(r:R2):Prop:=
 ∀(pins:List (Addr×Obj)) (s:Shared) (σ:St) (H:Hp) (x y:V) (v u:Value) (Q:VK),Inv X pins σ H s->RelV x v->RelV y u->r x y H Q->
  wpAny (model X.prog X.w) X.A (f v u) (EP X pins σ Q) X.xe s
noncomputable def Iz (X:Cx)(f:Value->Sem Value)(r:V->Hp->VK->Prop):Prop:=
 ∀(pins:List (Addr×Obj)) (s:Shared) (σ:St) (H:Hp) (x:V) (v:Value) (Q:VK),Inv X pins σ H s->RelV x v->r x H Q->
  wpAny (model X.prog X.w) X.A (f v) (EP X pins σ Q) X.xe s
noncomputable def ik (X:Cx)(f:Value)(r:List V->Hp->VK->Prop):Prop:=
 ∀(pins:List (Addr×Obj)) (s:Shared) (σ:St) (H:Hp) (xs:List V) (us:List Value) (Q:VK),Inv X pins σ H s->Vals xs us->r xs H Q->
  wpAny (model X.prog X.w) X.A (call f us) (EP X pins σ Q) X.xe s
noncomputable def vv (r:R2)(ta tb:TE):TE:=λσ H Q=>ta σ H λx H1=>tb σ H1 λy H2=>r x y H2 Q
noncomputable def Ux (r:V->Hp->VK->Prop)(ta:TE):TE:=λσ H Q=>ta σ H λx H1=>r x H1 Q
noncomputable def rI (C:Int->Int->Prop)(g:Int->Int->V):R2:=λx y H Q=>∃i j,x=.int i/\y=.int j/\C i j/\Q (g i j) H
noncomputable def sx (g:Int->Int->V):R2:=λx y H Q=>∃i j,x=.int i/\y=.int j/\Q (g i j) H
noncomputable def rU (g:Int->V):V->Hp->VK->Prop:=λx H Q=>∃i,x=.int i/\Q (g i) H
section
variable {X:Cx}{a b c:Expr}{ta tb tc:TE}{pos:Pos}
theorem HB (ha:PE X a ta)(hb:PE X b tb){pins:List (Addr×Obj)}{s:Shared}{σ:St}{H:Hp}{R:V->V->Hp->Prop}(I:Inv X pins σ H s)
  (h:ta σ H λx H1=>tb σ H1 λy H2=>R x y H2) {Q:Value->Shared->Prop} {f:Value->Value->Sem Value}
  (hf:∀v u s2 x y H2,Inv X pins σ H2 s2->RelV x v->RelV y u->R x y H2->wpAny (model X.prog X.w) X.A (f v u) Q X.xe s2) :
  wpAny (model X.prog X.w) X.A (eval a X.env) (λv aT=>wpAny (model X.prog X.w) X.A (eval b X.env) (λu gx=>wpAny (model X.prog X.w) X.A (f v u) Q X.xe gx) X.xe aT) X.xe s:=by
 refine aB (ha pins s σ H _ I h) λv s1 h_=>?_;obtain⟨x,H1,I1,r1,q1⟩:=h_;refine aB (hb pins s1 σ H1 _ I1 q1) λu s2 h_=>?_;obtain⟨y,H2,I2,r2,q2⟩:=h_;exact hf v u s2 x y H2 I2 r1 r2 q2
theorem Yb {op:Operator}{r:R2}(ho:bX X (binaryOp op) r)(ha:PE X a ta)(hb:PE X b tb):PE X (.BinOp a op b pos) (vv r ta tb):=by
 intro pins s σ H Q I h;exact wpAny_BinOp (HB ha hb I h λv u s2 x y H2 I2 rx ry q=>ho pins s2 σ H2 x y v u Q I2 rx ry q)
theorem X7 {op:UnaryOp}{r:V->Hp->VK->Prop}(ho:Iz X (unaryOp op) r)(ha:PE X a ta):PE X (.UnaryOp op a pos) (Ux r ta):=by
 intro pins s σ H Q I h;exact UnaryOp_ (aB (ha pins s σ H _ I h) λv s1 ⟨x,H1,I1,r1,q1⟩=>ho pins s1 σ H1 x v Q I1 r1 q1)
theorem ED {f:Value->Value->Sem Value}{C:Int->Int->Prop}{g:Int->Int->Int}
  (rule:∀(i j:Int) (t u:Tok) (s:Shared) (Q:Value->Shared->Prop) (E:Value->Shared->Prop),C i j->Q (.int (g i j) s.toks) {s with toks:=s.toks+1}->wpAny (model X.prog X.w) X.A (f (.int i t) (.int j u)) Q E s) :
  bX X f (rI C λi j=>.int (g i j)):=by
 intro pins s σ H x y v u Q I rx ry h;obtain⟨i,j,rfl,rfl,hc,q⟩:=h;obtain⟨t,rfl⟩:=rx;obtain⟨t',rfl⟩:=ry;exact rule i j t t' s _ _ hc (λht=>⟨.int (g i j),H,I.tok _,⟨_,rfl⟩,q⟩)
theorem YX {f:Value->Value->Sem Value}{g:Int->Int->Int}
  (rule:∀(i j:Int) (t u:Tok) (s:Shared) (Q:Value->Shared->Prop) (E:Value->Shared->Prop),Q (.int (g i j) s.toks) {s with toks:=s.toks+1}->wpAny (model X.prog X.w) X.A (f (.int i t) (.int j u)) Q E s) :
  bX X f (sx λi j=>.int (g i j)):=by
 intro pins s σ H x y v u Q I rx ry h;obtain⟨i,j,rfl,rfl,q⟩:=h;obtain⟨t,rfl⟩:=rx;obtain⟨t',rfl⟩:=ry;exact rule i j t t' s _ _ (λht=>⟨.int (g i j),H,I.tok _,⟨_,rfl⟩,q⟩)
theorem Mh {f:Value->Value->Sem Value}{g:Int->Int->Bool}
  (rule:∀(i j:Int) (t u:Tok) (s:Shared) (Q:Value->Shared->Prop) (E:Value->Shared->Prop),Q (.bool (g i j)) s->wpAny (model X.prog X.w) X.A (f (.int i t) (.int j u)) Q E s) :
  bX X f (sx λi j=>.bl (g i j)):=by
 intro pins s σ H x y v u Q I rx ry h;obtain⟨i,j,rfl,rfl,q⟩:=h;obtain⟨t,rfl⟩:=rx;obtain⟨t',rfl⟩:=ry;exact rule i j t t' s _ _ (λht=>⟨.bl (g i j),H,I,rfl,q⟩)
noncomputable def Je (i j:Int):Prop:=0<j/\j<1073741824
noncomputable def Jd (i j:Int):Prop:=(-(2 ^ 64)<i/\i<2 ^ 64)∨(-(2 ^ 64)<j/\j<2 ^ 64)
theorem Jd.ok {i j:Int}(h:Jd i j):IntMulOk i j:=by
 rcases h with ⟨h1,h2⟩ | ⟨h1,h2⟩
 ·exact .of_left (intBits_le_64 h1 h2)
 ·exact .of_right (intBits_le_64 h1 h2)
theorem YW:bX X (binaryOp .Add) (sx λi j=>.int (i+j)):=YX λ_ _ _ _ _ _ _ q=>add_int q
theorem YH:bX X (binaryOp .Mult) (rI Jd λi j=>.int (i * j)):=ED λ_ _ _ _ _ _ _ hc q=>mul_int q hc.ok
theorem YR:bX X (binaryOp .FloorDiv) (rI Je λi j=>.int (i / j)):=ED λi j _ _ _ _ _ hc q=>by
 have h1:(0:Int)<j:=hc.1;have h2:j<1073741824:=hc.2;exact floordiv_int (by omega) (by rw [Int.fdiv_eq_ediv_of_nonneg i (by omega)]; exact q) (.inl (PyProof.noPylong_small (by omega)))
theorem YI:bX X (binaryOp .Mod) (rI (λ_ j=>0<j) λi j=>.int (i % j)):=ED λi j _ _ _ _ _ hc q=>by
 have h1:(0:Int)<j:=hc;exact mod_int' (by omega) (by rw [Int.fmod_eq_emod_of_nonneg i (by omega)]; exact q)
theorem TL {f:Value->Sem Value}{g:Int->Int}
  (rule:∀(i:Int) (t:Tok) (s:Shared) (Q:Value->Shared->Prop) (E:Value->Shared->Prop),Q (.int (g i) s.toks) {s with toks:=s.toks+1}->wpAny (model X.prog X.w) X.A (f (.int i t)) Q E s) :
  Iz X f (rU λi=>.int (g i)):=by
 intro pins s σ H x v Q I rx h;obtain⟨i,rfl,q⟩:=h;obtain⟨t,rfl⟩:=rx;exact rule i t s _ _ (λht=>⟨.int (g i),H,I.tok _,⟨_,rfl⟩,q⟩)
theorem TK:Iz X (unaryOp .USub) (rU λi=>.int (-i)):=TL λ_ _ _ _ _ q=>neg_int q
end
noncomputable def VR:V->V->Bool
 |.ax,.ax=>true | .ax,.int _=>true | .int _,.ax=>true | .ax,.bl _=>true | .bl _,.ax=>true | .ax,.str _=>true | .str _,.ax=>true
 |.int _,.int _=>true | .bl _,.bl _=>true | .str _,.str _=>true | .lT _,.lT _=>true
 |.int _,.str _=>true | .str _,.int _=>true | .bl _,.str _=>true | .str _,.bl _=>true
 |_,_=>false
noncomputable def Xl:R2:=λx y H Q=>VR x y=true/\Q (.bl (!decide (x=y))) H
theorem aez {i j:Int}:decide (V.int i=V.int j)=(i==j):=by
 rw [jR];simp
theorem aeB {i j:Bool}:decide (V.bl i=V.bl j)=(i==j):=by
 rw [jR];simp
theorem aey {i j:Str}:decide (V.str i=V.str j)=(i==j):=by
 rw [jR];simp
theorem aeA {i j:Array UInt8}:decide (V.lT i=V.lT j)=(i.toList==j.toList):=by
 rw [jR];cases i;cases j;simp
section
variable {X:Cx}{a b c:Expr}{ta tb tc:TE}{pos:Pos}
theorem fK {pins:List (Addr×Obj)}{σ:St}{H:Hp}{s:Shared}{Q:VK}{k k':Bool}(I:Inv X pins σ H s)(q:Q (.bl k) H)(e:k=k'):EP X pins σ Q (.bool k') s:=by
 subst e;exact(λht=>⟨.bl k,H,I,rfl,q⟩)
theorem YG:bX X (compareOp .NotEq) Xl:=by
 intro pins s σ H x y v u Q I rx ry h;obtain⟨hs,q⟩:=h
 cases x with
 |ax=>
  cases rx
  cases y with
  |ax=>cases ry; exact PySem.EqNone.ne_none_none (fK I q (by simp))
  |bl j=>cases ry; exact PySem.EqNone.ne_none_bool (fK I q (by simp))
  |int j=>obtain⟨t',rfl⟩:=ry; exact PySem.EqNone.ne_none_int (fK I q (by simp))
  |str j=>obtain⟨t',rfl⟩:=ry; exact PySem.EqNone.ne_none_str (fK I q (by simp))
  |_=>exact absurd (show false=true from hs) fA
 |bl i=>
  cases rx
  cases y with
  |ax=>cases ry; exact PySem.EqNone.ne_bool_none (fK I q (by simp))
  |bl j=>cases ry; exact ne_bool (fK I q (congrArg not aeB))
  |str j=>obtain⟨t',rfl⟩:=ry; exact PySem.EqMixed.ne_bool_str (fK I q (by simp))
  |_=>exact absurd (show false=true from hs) fA
 |int i=>
  obtain⟨t,rfl⟩:=rx
  cases y with
  |ax=>cases ry; exact PySem.EqNone.ne_int_none (fK I q (by simp))
  |int j=>obtain⟨t',rfl⟩:=ry; exact ne_int (fK I q (congrArg not aez))
  |str j=>obtain⟨t',rfl⟩:=ry; exact PySem.EqMixed.ne_int_str (fK I q (by simp))
  |_=>exact absurd (show false=true from hs) fA
 |str i=>
  obtain⟨t,rfl⟩:=rx
  cases y with
  |ax=>cases ry; exact PySem.EqNone.ne_str_none (fK I q (by simp))
  |bl j=>cases ry; exact PySem.EqMixed.ne_str_bool (fK I q (by simp))
  |int j=>obtain⟨t',rfl⟩:=ry; exact PySem.EqMixed.ne_str_int (fK I q (by simp))
  |str j=>obtain⟨t',rfl⟩:=ry; exact ne_str (fK I q (congrArg not aey))
  |_=>exact absurd (show false=true from hs) fA
 |lT i=>
  obtain⟨t,rfl⟩:=rx
  cases y with
  |lT j=>obtain⟨t',rfl⟩:=ry; exact PySem.W.ne_bytes (fK I q (congrArg not aeA))
  |_=>exact absurd (show false=true from hs) fA
 |_=>cases y <;> exact absurd (show false=true from hs) fA
theorem YJ:bX X (compareOp .Lt) (sx λi j=>.bl (decide (i<j))):=Mh λ_ _ _ _ _ _ _ q=>lt_int q
theorem YQ:bX X (compareOp .Gt) (sx λi j=>.bl (decide (j<i))):=Mh λ_ _ _ _ _ _ _ q=>gt_int q
theorem YL:bX X (compareOp .Is) (λx y H Q=>y=.ax/\Q (.bl (decide (x=.ax))) H):=by
 intro pins s σ H x y v u Q I rx ry h;obtain⟨rfl,q⟩:=h;cases ry;refine is_none_gen (fK I q ?_)
 cases x <;> first
  | (cases rx; rfl)
  | (obtain⟨t,rfl⟩:=rx; rfl)
theorem YB:bX X (compareOp .IsNot) (λx y H Q=>y=.ax/\Q (.bl (!decide (x=.ax))) H):=by
 intro pins s σ H x y v u Q I rx ry h;obtain⟨rfl,q⟩:=h;cases ry;refine isnot_none_gen (fK I q ?_)
 cases x <;> first
  | (cases rx; rfl)
  | (obtain⟨t,rfl⟩:=rx; rfl)
theorem YA:bX X (compareOp .NotIn) (λx y H Q=>∃i j,x=.str i/\y=.str j/\Q (.bl (!(!(Builtin.Str.occurrences j i 0 j.length 1).isEmpty))) H):=by
 intro pins s σ H x y v u Q I rx ry h;obtain⟨i,j,rfl,rfl,q⟩:=h;obtain⟨t,rfl⟩:=rx;obtain⟨t',rfl⟩:=ry;exact notIn_str (fK I q rfl)
theorem bX.or {f:Value->Value->Sem Value}{r r':R2}(h:bX X f r)(h':bX X f r'):bX X f (λx y H Q=>r x y H Q∨r' x y H Q):=by
 intro pins s σ H x y v u Q I rx ry q;rcases q with q | q
 ·exact h pins s σ H x y v u Q I rx ry q
 ·exact h' pins s σ H x y v u Q I rx ry q
theorem bJ (b:Expr){op:CmpOp}(h:op≠.In:=by decide)(h2:op≠.NotIn:=by decide):behindInMarks op b=false:=by
 have e1:(op==CmpOp.In)=false:=by cases op <;> first | rfl | exact absurd rfl h
 have e2:(op==CmpOp.NotIn)=false:=by cases op <;> first | rfl | exact absurd rfl h2
 cases b <;> simp [behindInMarks,e1,e2]
theorem Yk {op:CmpOp}{r:R2}(ho:bX X (compareOp op) r)(ha:PE X a ta)(hb:PE X b tb)(hm:behindInMarks op b=false):PE X (.Compare a [op] [b] pos) (vv r ta tb):=by
 intro pins s σ H Q I h;exact wpAny_Compare1 (HB ha hb I h λv u s2 x y H2 I2 rx ry q=>ho pins s2 σ H2 x y v u Q I2 rx ry q) hm
noncomputable def J8 (t:TE):TT:=λσ H Q=>t σ H λx H'=>∃k,x=.bl k/\Q k H'
theorem LI {op:CmpOp}{r:R2}(ho:bX X (compareOp op) r)(ha:PE X a ta)(hb:PE X b tb)(hm:behindInMarks op b=false):PT X (.Compare a [op] [b] pos) (J8 (vv r ta tb)):=by
 intro pins s σ H Q I h;refine wpAny_isTrue_Compare1 (aB (ha pins s σ H _ I h) λv s1 ⟨x,H1,I1,r1,q1⟩=>aB (hb pins s1 σ H1 _ I1 q1) λu s2 ⟨y,H2,I2,r2,q2⟩=>
  aB (ho pins s2 σ H2 x y v u _ I2 r1 r2 q2) λc s3 ⟨z,H3,I3,r3,k,e,q3⟩=>?_) hm
 subst e;cases r3;exact wpAny_truthy_bool (λht=>⟨H3,I3,q3⟩)
theorem wt:(sizeLine:Nat)<2 ^ 63:=by rw [sizeLine_eq]; decide
theorem YU:bX X (binaryOp .Add) (λx y H Q=>∃i j,x=.str i/\y=.str j/\i.length+j.length<=sizeLine/\Q (.str (i++j)) H):=by
 intro pins s σ H x y v u Q I rx ry h;obtain⟨i,j,rfl,rfl,hz,q⟩:=h;obtain⟨t,rfl⟩:=rx;obtain⟨t',rfl⟩:=ry;exact add_str (λt' tk=>(λht=>⟨.str (i++j),H,I.tok _,⟨_,rfl⟩,q⟩)) hz
theorem vals1 {x:V}{us:List Value}(r:Vals [x] us):∃u,us=[u]/\RelV x u:=by
 cases r with
 |cons r1 r2=>cases r2; exact⟨_,rfl,r1⟩
end
theorem lY.some_of {v:V}{o:Option Value}(r:lY (some v) o):∃u,o=some u/\RelV v u:=by
 cases o with
 |none=>exact zF r
 |some u=>exact⟨u,rfl,r⟩
structure Cls (K:ao) (C:Addr):Prop where
 pg:PySem.W.plainGet K C Str.empty=true
 hd:PySem.W.hasDictIn K C=true
 po:PySem.W.plainOver K C=true
 sa:PySem.W.findIn K (.ref C) "__setattr__" = some (some (.builtin "object.__setattr__"))
noncomputable def RS (K:ao)(C:Addr)(f:Str):Prop:=PySem.W.findIn K (.ref C) f=some none
structure dF (k:Nat) (A:Around):Prop where
 hd:A.handled=none
 dp:A.depth+3 * k+5<recursionLimit
 un:A.units+16 * k+200<cLine
 gd:A.guards=some []
theorem dF.mono {j k:Nat}{A:Around}(r:dF k A)(h:j<=k):dF j A:=⟨r.hd,by have:=r.dp; omega,by have:=r.un; omega,r.gd⟩
theorem dF.deeper {k:Nat}{A:Around}(r:dF (k+1) A)(env:Env):dF k (A.deeper env):=
 ⟨r.hd,by have:=r.dp; show A.depth+1+3 * k+5<_; omega,by have:=r.un; show A.units+3+16 * k+200<_; omega,r.gd⟩
theorem dF.depth {k:Nat}{A:Around}(r:dF k A):A.depth<recursionLimit:=by have:=r.dp; omega
noncomputable def UH:TA:=λ_ H Q=>Q [] H
noncomputable def Ke (ta:TE)(tr:TA):TA:=λσ H Q=>ta σ H λx H1=>tr σ H1 λxs H2=>Q (x::xs) H2
section
variable {X:Cx}{e:Expr}{es:List Expr}{te:TE}{t:TA}{pos:Pos}
theorem fF:PA X [] UH:=λ_ _ _ _ H Q I h=>ny (λht=>⟨[],H,I,.nil,h⟩)
theorem Ys (ha:PE X e te)(hr:PA X es t)(hs:starEach (e::es) X.env=(false,eval e X.env)::starEach es X.env:=by rfl):PA X (e::es) (Ke te t):=by
 intro pos pins s σ H Q I h;rw [hs];show wpAny _ _ (spliced ((false,eval e X.env)::backTo pos (starEach es X.env))) _ _ s;refine nA (aB (ha pins s σ H _ I h) λu s1 ⟨x,H1,I1,r1,q1⟩=>?_);exact aB (hr pos pins s1 σ H1 _ I1 q1) λus s2 ⟨xs,H2,I2,r2,q2⟩=>(λht=>⟨x::xs,H2,I2,.cons r1 r2,q2⟩)
noncomputable def Uy (t:TA):TE:=λσ H Q=>t σ H λxs H1=>xs.length<=sizeLine/\∀p,H1 p=none->Q (.ref p) (upd H1 p (.tup xs))
noncomputable def UJ (t:TA):TE:=λσ H Q=>t σ H λxs H1=>xs.length<=sizeLine/\∀p,H1 p=none->Q (.ref p) (upd H1 p (.lst xs))
theorem X8 {x1}(h:PA X es t):PE X (.Tuple es x1 pos) (Uy t):=by
 intro pins s σ H Q I hq;refine wpAny_Tuple_spliced (aB (h pos pins s σ H _ I hq) λus s1 ⟨xs,H1,I1,r,z,q⟩=>⟨by rw [← r.length]; exact z,?_⟩);have hf:H1 s1.heap.objs.size=none:=I1.au.fresh (aN _);refine(λht=>⟨.ref s1.heap.objs.size,upd H1 s1.heap.objs.size (.tup xs),I1.laid (t':=s1.toks) (λb u e=>aI _ e) (aN _) ?_,rfl,q _ hf⟩);exact⟨z,us,r,⟨_,bE _ rfl,rfl,_,rfl⟩⟩
theorem vS (h:PA X es t):PE X (.List es pos) (UJ t):=by
 intro pins s σ H Q I hq;refine wpAny_List_spliced (aB (h pos pins s σ H _ I hq) λus s1 ⟨xs,H1,I1,r,z,q⟩=>⟨by rw [← r.length]; exact z,?_⟩);have hf:H1 s1.heap.objs.size=none:=I1.au.fresh (aN _);refine(λht=>⟨.ref s1.heap.objs.size,upd H1 s1.heap.objs.size (.lst xs),I1.laid (t':=s1.toks) (λb u e=>aI _ e) (aN _) ?_,rfl,q _ hf⟩);exact⟨z,us,0,r,bE _ rfl⟩
end
noncomputable abbrev Sp:=List V->Hp->VK->XK->Prop
noncomputable abbrev il:=List Env->Hp->Shared->XK->Value->Shared->Prop
structure BK (P:Program) (w:World) (K:ao) (mg:Str->Option Value) (base:Heap) (A:Around) (outer:List Env) (s:Shared) (H:Hp):Prop where
 frames:A.frames=some outer
 mod:Mod K mg base
 bs:∀b o,base.get? b=some o->s.heap.get? b=some o/\H b=none
 kB:base.objs.size<=s.heap.objs.size
 fZ:s.heap.FunFrames base outer
 jI:∀b∈aM outer,H b=none
 au:cc P w H s.heap
 bare:AllBare s.gens
noncomputable def CE (outer:List Env)(P:Program)(w:World)(H:Hp)(s:Shared)(Q:VK)(u:Value)(s':Shared):Prop:=
 ∃v H',s'.os=s.os/\AllBare s'.gens/\Un (aM outer) [] H H' s.heap s'.heap/\cc P w H' s'.heap/\RelV v u/\Q v H'
noncomputable def CR (CX:il)(outer:List Env)(P:Program)(w:World)(H:Hp)(s:Shared)(Q:VK)(E:XK)(r:Result)(s':Shared):Prop:=
 match r with
 |.ok (.ret u)=>CE outer P w H s Q u s'
 |.ok _=>False
 |.error e=>CX outer H s E e s'
noncomputable abbrev dZ:Str:="_law_script"
structure fN (P:Program) (w:World) (K:ao) (mg:Str->Option Value) (base:Heap) (CX:il) (k:Nat) (f:Addr) (fd:FuncData) (ps:List Str) (sp:Sp):Prop where
 len:∀vs H Q E,sp vs H Q E->vs.length=ps.length
 run:∀(A:Around) (outer:List Env) (s:Shared) (H:Hp) (args:Args) (us:List Value) (vs:List V) (Q:VK) (E:XK),dF k A->BK P w K mg base A outer s H->(0<s.toks∨ps=[dZ])->BindsTo s fd args (ps.zip us)->Vals vs us->sp vs H Q E->
  codeAny (model P w) A (.call (.ref f) args) (CR CX outer P w H s Q E) s
theorem fN.imp {P:Program}{w:World}{K:ao}{mg:Str->Option Value}{base:Heap}{CX:il}{k:Nat}{f:Addr}{fd:FuncData}{ps:List Str}{sp Ku:Sp}(F:fN P w K mg base CX k f fd ps sp)
  (h:∀vs H Q E,Ku vs H Q E->sp vs H Q E):fN P w K mg base CX k f fd ps Ku:=
 ⟨λvs H Q E q=>F.len vs H Q E (h _ _ _ _ q),λA outer s H args us vs Q E hr he ht hb hv hs=>F.run A outer s H args us vs Q E hr he ht hb hv (h _ _ _ _ hs)⟩
section
variable {X:Cx}{pins:List (Addr×Obj)}{σ:St}{H:Hp}{s s':Shared}
theorem Inv.aec (I:Inv X pins σ H s):BK X.prog X.w X.K X.mg X.base X.A X.stack s H:=
 ⟨I.ok.frames,I.ok.mod,I.bs,bH I.ok.kB I.sz,I.stack,I.zp,I.au,I.bare⟩
theorem Inv.after {Q:VK}{u:Value}(I:Inv X pins σ H s)(h:CE X.stack X.prog X.w H s Q u s'):EP X pins σ Q u s':=by
 obtain⟨v,H',os,bare,un,au,r,q⟩:=h;obtain⟨hh,g,d,t,gD⟩:=s';obtain rfl:gD=s.os:=os;exact(λht=>⟨v,H',I.call (h':=hh) (g':=g) (d':=d) (t':=t) (ch:=[]) un au bare (λb z=>absurd z (by simp)),r,q⟩)
end
noncomputable def Kf (sp:Sp)(oj:List V)(E:XK)(t:TA):TE:=λσ H Q=>t σ H λvs H1=>sp (vs++oj) H1 Q E
noncomputable def Binds (K:ao)(fd:FuncData)(ps:List Str)(ds:List Value):Prop:=
 ∀(s:Shared) (us:List Value),K.In s.heap->(us++ds).length=ps.length->BindsTo s fd ⟨us,[]⟩ (ps.zip (us++ds))
theorem Binds.all {K:ao}{fd:FuncData}{ps:List Str}(h:∀us:List Value,us.length=ps.length->bindArgs fd ⟨us,[]⟩=pure (ps.zip us)):Binds K fd ps []:=λs us _ hl=>by
 rw [nu] at hl ⊢;exact .of_eq (h us hl)
noncomputable def Passes (CX:il)(X:Cx)(E:XK):Prop:=∀(pins:List (Addr×Obj)) (σ:St) (H:Hp) (s:Shared) (e:Value) (s':Shared),Inv X pins σ H s->CX X.stack H s E e s'->X.xe e s'
section
variable {X:Cx}{CX:il}{k:Nat}{f C:Addr}{fd:FuncData}{ps:List Str}{sp:Sp}{oj:List V}{ds:List Value}{E:XK}{x m:Str}{p pos apos:Pos}{e o:Expr}{es:List Expr}{ta:TE}{t:TA}
theorem WS {pins:List (Addr×Obj)}{σ:St}{H:Hp}{s:Shared}{Q:VK}{us:List Value}{vs:List V}(F:fN X.prog X.w X.K X.mg X.base CX k f fd ps sp)(hr:dF k X.A)(hb:Binds X.K fd ps ds)(hd:Vals oj ds)(hx:Passes CX X E)
  (I:Inv X pins σ H s) (r:Vals vs us) (h:sp (vs++oj) H Q E):wpAny (model X.prog X.w) X.A (call (.ref f) us) (EP X pins σ Q) X.xe s:=by
 have r2:Vals (vs++oj) (us++ds):=r.append hd;have hl:(us++ds).length=ps.length:=by rw [← r2.length]; exact F.len _ _ _ _ h
 refine wpAny_call (codeAny_mono (F.run X.A X.stack s H ⟨us,[]⟩ (us++ds) (vs++oj) Q E hr I.aec (.inl I.tk) (hb s us I.mG hl) r2 h) λr s' hq=>?_)
 cases r with
 |error e=>exact hx pins σ H s e s' I hq
 |ok fl=>
  cases fl with
  |ret u=>exact I.after hq
  |next=>exact jX hq
  |brk=>exact jX hq
  |cont=>exact jX hq
theorem Yl (F:fN X.prog X.w X.K X.mg X.base CX k f fd ps sp)(hr:dF k X.A)(hg:Gl X x)(hm:X.mg x=some (.ref f))(hk:oR X.K (.ref f)=true)(hb:Binds X.K fd ps ds)(hd:Vals oj ds)(hx:Passes CX X E)
  (ha:PA X (e::es) t) (i4:(x==("__debug__" : Str))=false:=by decide) (he:starEach (e::es) X.env=(false,eval e X.env)::starEach es X.env:=by rfl) (bO:(backTo pos (starEach es X.env)).any (·.1)=false:=by rfl) :
  PE X (.Call (.Name x p) (e::es) [] pos) (Kf sp oj E t):=by
 intro pins s σ H Q I h;refine wpAny_Call_Name_kw (EV I hg hm ?_ i4);refine PySem.W.callWith_K (h₀:=X.base) I.ok.mod.wz hk (aB (ha pos pins s σ H _ I h) λus s1 ⟨vs,H1,I1,r,q⟩=>⟨I1.mG,?_⟩) he bO;exact WS F hr hb hd hx I1 r q
end
structure cD (N P:List Str) (sc:Scope):Prop where
 kind:sc.kind=.function
 co:sc.isCoroutine=false
 gen:sc.isGenerator=false
 nd:N.Nodup
 pre:N.take P.length=P
 par:∀x∈P,sc.names.lookup x=some .local∨sc.names.lookup x=some .cell
 fst:P=[dZ]->sc.names.lookup dZ=some .local∨sc.names.lookup dZ=some .cell
 ZR:∀y∈sc.names,y.2≠.free
theorem QX {kindOf:Str->Option NameKind}{x:Str}:∀{binds:List (Str×Value)}{m:Str->Option Value},(∀v,(x,v)∉binds)->bindL kindOf binds m x=m x
 | [],_,_=>rfl
 | (n,v)::r,m,h=>by
  unfold bindL;rw [QX λw hw=>h w (bR _ hw)]
  split
  ·have:x≠n:=by rintro rfl; exact h v bu
   simp [this]
  ·rfl
theorem QZ {kindOf:Str->Option NameKind}{x:Str}:∀{binds:List (Str×Value)}{m:Str->Option Value},(∀v,(x,v)∉binds)->bindC kindOf binds m x=m x
 | [],_,_=>rfl
 | (n,v)::r,m,h=>by
  unfold bindC;rw [QZ λw hw=>h w (bR _ hw)]
  split
  ·rfl
  ·have:x≠n:=by rintro rfl; exact h v bu
   simp [this]
theorem QY {kindOf:Str->Option NameKind}{x:Str}{v:Value}:∀{P:List Str}{vs:List Value}{i:Nat}{m:Str->Option Value},P.Nodup->P[i]?=some x->vs[i]?=some v->kindOf x=some .local->
  bindL kindOf (P.zip vs) m x=some v
 | [],_,_,_,_,h,_,_=>by simp at h
 |_::_,[],_,_,_,_,h,_=>by simp at h
 |p::P,w::vs,0,m,nd,h1,h2,hk=>by
  simp at h1 h2; subst h1; subst h2;show bindL kindOf ((p,w)::P.zip vs) m p=_;unfold bindL;rw [QX λv hv=>(fz.mp nd).1 (yp hv).1,if_pos hk];simp
 |p::P,w::vs,i+1,m,nd,h1,h2,hk=>by
  show bindL kindOf ((p,w)::P.zip vs) m x=_;unfold bindL;exact QY (i:=i) (fz.mp nd).2 (by simpa using h1) (by simpa using h2) hk
theorem Q0 {kindOf:Str->Option NameKind}{x:Str}{v:Value}:∀{P:List Str}{vs:List Value}{i:Nat}{m:Str->Option Value},P.Nodup->P[i]?=some x->vs[i]?=some v->kindOf x≠some .local->
  bindC kindOf (P.zip vs) m x=some v
 | [],_,_,_,_,h,_,_=>by simp at h
 |_::_,[],_,_,_,_,h,_=>by simp at h
 |p::P,w::vs,0,m,nd,h1,h2,hk=>by
  simp at h1 h2; subst h1; subst h2;show bindC kindOf ((p,w)::P.zip vs) m p=_;unfold bindC;rw [QZ λv hv=>(fz.mp nd).1 (yp hv).1,if_neg hk];simp
 |p::P,w::vs,i+1,m,nd,h1,h2,hk=>by
  show bindC kindOf ((p,w)::P.zip vs) m x=_;unfold bindC;exact Q0 (i:=i) (fz.mp nd).2 (by simpa using h1) (by simpa using h2) hk
noncomputable def start (N:List Str)(vs:List V):St:=vs.map some++bM (N.length - vs.length) none
noncomputable def cO (CX:il)(P:Program)(w:World)(K:ao)(mg:Str->Option Value)(base:Heap)(N:List Str)(qual:Str)(scope:Scope)(f:Addr)(cd:Value)(A:Around)(outer:List Env)(s:Shared)(H:Hp)(E:XK):Cx where
 prog:=P
 w:=w
 K:=K
 mg:=mg
 base:=base
 A:=A.deeper (envOfC qual scope s.heap.objs.size f cd)
 N:=N
 aQ:=s
 bQ:=H
 env:=envOfC qual scope s.heap.objs.size f cd
 outer:=outer
 stack:=envOfC qual scope s.heap.objs.size f cd::outer
 ex:=[]
 calm:=true
 fn:=λ_=>true
 pn:=[]
 xe:=λe s'=>wpAny (model P w) (A.deeper (envOfC qual scope s.heap.objs.size f cd)) (leaving (envOfC qual scope s.heap.objs.size f cd) e) (λ_ gX=>CX outer H s E e gX) (λe' gX=>CX outer H s E e' gX) s'
theorem QR {sc:Scope}{n:Nat}{x:Str}(h:sc.names.lookup x=some .cell):∃c,(cellsFrom n sc.names []).lookup x=some c:=by
 have q:=yK sc.names n [] (.inl h);exact jn.mp q
theorem abu {CX:il}{P:Program}{w:World}{K:ao}{mg:Str->Option Value}{base:Heap}{N ps:List Str}{qual:Str}{scope:Scope}{f:Addr}{cd:Value}{A:Around}{outer:List Env}{s s1:Shared}{H:Hp}{E:XK}{us:List Value}{vs:List V}
  (S:cD N ps scope) (hd:A.handled=none) (e0:BK P w K mg base A outer s H) (hl:vs.length=ps.length) (r:Vals vs us)
  (x:InCallC s s.heap.objs.size (bindL (envOfC qual scope s.heap.objs.size f cd).kindOf (ps.zip us) λ_=>none) (cellsFrom (s.heap.objs.size+1) scope.names []) (bindC (envOfC qual scope s.heap.objs.size f cd).kindOf (ps.zip us) λ_=>none) s1) (pV:0<s1.toks) :
  Inv (cO CX P w K mg base N qual scope f cd A outer s H E) [] (start N vs) H s1:=by
 have bO:ps.length<=N.length:=by have:=congrArg uM S.pre; rw [nv] at this; omega
 obtain⟨h1,tk,rfl,hk⟩:=x.done;have wc:∀b:Addr,b∉(cO CX P w K mg base N qual scope f cd A outer s H E).ex:=λb z=>absurd (show b∈([]:List Addr) from z) (by simp);refine⟨⟨e0.mod,S.kind,rfl,rfl,aN _,λy z c h1 h2=>?_,λy hy=>?_,λy c _ h=>?_,λ_=>hd,Around.frames_deeper e0.frames,.inr ⟨rfl,rfl⟩,λb z=>absurd z (wc b),e0.bs,e0.kB,λb _ _=>wc b,λb z=>absurd z (wc b),e0.fZ,e0.jI⟩,
  rfl,e0.bare,Un.kept hk,⟨_,x.toInCall.ns,λi y v h1 h2 h3=>?_⟩,λy c h=>⟨_,x.cell y c h⟩,e0.au.fresh (aN _),λy c h=>?_,λp hp=>absurd (show p∈([]:List (Addr×Obj)) from hp) (by simp),e0.au.kept hk,?_,pV⟩
 ·exact name_of_addr x.apart (oD h1) (oD h2)
 ·have hy:scope.names.lookup y=some .cell∨scope.names.lookup y=some .free:=hy
  rcases hy with hy | hy
  ·exact QR hy
  ·exact absurd rfl (S.ZR _ (oD hy))
 ·exact nH (x.above y c (oD h))
 ·have hi:i<vs.length:=by
   unfold start at h2
   by_cases hi:i<vs.length
   ·exact hi
   ·rw [uK (by simpa using hi)] at h2
    rw [List.getElem?_replicate] at h2
    split at h2 <;> cases h2
  have ha:vs[i]?=some v:=by
   unfold start at h2;rw [uJ (by simpa using hi),gR] at h2
   cases e:vs[i]? with
   |none=>rw [e] at h2; cases h2
   |some a=>rw [e] at h2; cases h2; rfl
  obtain⟨u,hu,rv⟩:=r.get ha;have hp:ps[i]?=some y:=by
   rw [← S.pre,List.getElem?_take_of_lt (by omega)]; exact h1
  have ME:ps.Nodup:=by rw [← S.pre]; exact S.nd.sublist (u6 _ _)
  refine⟨u,rv,?_⟩;rcases S.par y (jV hp) with k | k
  ·exact .inl ⟨k,QY ME hp hu k⟩
  ·obtain⟨c,e⟩:=QR (n:=s.heap.objs.size+1) k
   refine .inr ⟨.inl k,c,e,?_⟩;have q:=x.cell y c e;rw [Q0 ME hp hu (by show scope.names.lookup y≠_; rw [k]; decide)] at q;exact q
 ·exact e0.au.fresh (nH (x.above y c (oD h)))
 ·unfold start
  show _=N.length;rw [jU,cg,qM];omega
theorem U9 {M:Model}{A:Around}{E:Value->Shared->Prop}{aQ s:Shared}{m cm:Str->Option Value}{env:Env}{n:Str}{v:Value}{Q:Unit->Shared->Prop}(x:InCallC aQ env.locals m env.cells cm s)(hk:env.scope.kind=.function)(hl:env.kindOf n=some .local)
  (h:∀s',InCallC aQ env.locals (λy=>if y=n then some v else m y) env.cells cm s'->0<s'.toks->Q () s'):wpAny M A (storeName env n v) Q E s:=by
 refine wpAny_storeName_local hl x.toInCall.ns (λh' iB mK=>h _ ⟨⟨?_,iB,λb o e=>?_,x.toInCall.fresh⟩,λk c hc=>?_,x.apart,x.above⟩ (oP _)) (by rw [hk]; rfl)
 ·obtain⟨eP,tk,rfl⟩:=x.toInCall.same
  exact⟨h',_,rfl⟩
 ·exact mK.extBut b o (a9 (cK (aK e) x.toInCall.fresh)) (x.toInCall.keep b o e)
 ·exact(x.cell k c hc).sameBut mK (oO (x.above k c (oD hc)))
theorem ZY {prog:Program}{w:World}{A:Around}{E:Value->Shared->Prop}{s:Shared}{scope:Scope}{globals:Addr}{ps:List Str}{us:List Value}{qual:Str}{func:Option Addr}{code:Value}{builtins:Addr}{Q:Env->Shared->Prop}
  (hk:scope.kind=.function) (ht:0<s.toks∨ps=[dZ]) (hl:us.length=ps.length) (hf:ps=[dZ]->scope.names.lookup dZ=some .local)
  (AI:∀x∈ps.zip us,scope.names.lookup x.1=some .local∨(scope.names.lookup x.1=some .cell/\((cellsFrom (s.heap.objs.size+1) scope.names []).lookup x.1).isSome=true))
  (hQ:∀env,env=newEnv scope s.heap.objs.size globals (cellsFrom (s.heap.objs.size+1) scope.names []) qual func code none builtins->
   ∀s',InCallC s env.locals (bindL env.kindOf (ps.zip us) λ_=>none) env.cells (bindC env.kindOf (ps.zip us) λ_=>none) s'->0<s'.toks->Q env s') :
  wpAny (model prog w) A (newFunctionEnv scope globals [] (ps.zip us) qual func code none builtins) Q E s:=by
 rcases ht with ht | ht
 ·exact wpAny_with_toks (n:=1) ht (wpAny_newFunctionEnv_cells hk AI λenv he s' x h=>hQ env he s' x h)
 ·have hF:=hf ht
  clear hf
  subst ht;obtain⟨u,rfl⟩:∃u,us=[u]:=by
   match us,hl with
   | [u],_=>exact⟨u,rfl⟩
  have hz:([dZ]:List Str).zip [u]=[(dZ,u)]:=rfl;rw [hz] at hQ AI ⊢;simp only [newFunctionEnv,yB,cF,if_false];refine wpAny_bind (wpAny_alloc ?_);refine wpAny_bind (wpAny_layCells _ (λname kind cells=>by cases FZ:kind==nI <;> simp [FZ]) _ _ _ _ ?_);have ok:=cellsFrom_ok scope.names (s.heap.push {cls:=.type "frame",data:=.dict #[]}) (s.heap.objs.size+1) [] ⟨λ_ _ hm=>(nomatch hm),BW⟩ (by rw [gk]; exact aN _)
  rw [gk] at ok;rw [show ({s with heap:=s.heap.push {cls:=.type "frame",data:=.dict #[]}}:Shared).heap.objs.size=s.heap.objs.size+1 from gk ..]
  have x0:InCallC s (newEnv scope s.heap.objs.size globals (cellsFrom (s.heap.objs.size+1) scope.names []) qual func code none builtins).locals (λ_=>none) (newEnv scope s.heap.objs.size globals (cellsFrom (s.heap.objs.size+1) scope.names []) qual func code none builtins).cells (λ_=>none) {s with heap:=pushCells (s.heap.push {cls:=.type "frame",data:=.dict #[]}) scope.names}:=
   ⟨⟨⟨_,_,rfl⟩,(Heap.Ns.new s.heap (.type "frame")).keeps (pushCells_keeps _ _),λb o e=>pushCells_keeps _ _ b o (aI _ e),aN _⟩,λn c hc=>(ok.empty n c (oD hc)).1,ok.apart,λn c hm=>(ok.empty n c hm).2⟩
  rw [uU];refine wpAny_bind (wpAny_bind (wpAny_bind (U9 x0 hk hF λs' x' pW=>wpAny_pure ?_)));show wpAny _ _ (forIn [] _ _) _ _ _;rw [List.forIn_nil];refine wpAny_pure (wpAny_pure (hQ _ rfl s' ?_ pW));unfold bindL bindC;have ON:(newEnv scope s.heap.objs.size globals (cellsFrom (s.heap.objs.size+1) scope.names []) qual func code none builtins).kindOf dZ=some .local:=hF;rw [if_pos ON,if_pos ON];exact x'
theorem O5 {CX:il}{P:Program}{w:World}{K:ao}{mg:Str->Option Value}{base:Heap}{k:Nat}{f:Addr}{name qual:Str}{params:Arguments}{body:List Stmt}{scope:Scope}{dV kV doc pm aR ct oc:Value}{an od:Option Addr}
  {lq:Array (Option Value)} {N ps:List Str} {sp:Sp} (lk:K.lookup f=some ⟨oc,od,.func (gi name qual params body scope dV kV doc pm an aR ct),lq⟩) (i5:qV K aR qual=true) (S:cD N ps scope)
  (hf:ps=[dZ]->scope.names.lookup dZ=some .local)
  (len:∀vs H Q E,sp vs H Q E->vs.length=ps.length)
  (mQ:∀(A:Around) (outer:List Env) (s:Shared) (H:Hp) (vs:List V) (Q:VK) (E:XK),dF k (A.deeper (envOfC qual scope s.heap.objs.size f aR))->sp vs H Q E->
   ∃t,fj (cO CX P w K mg base N qual scope f aR A outer s H E) body t/\t {nx:=λ_ H'=>Q .ax H',rt:=Q} (start N vs) H) :
  fN P w K mg base CX (k+1) f (gi name qual params body scope dV kV doc pm an aR ct) ps sp:=by
 refine⟨len,λA outer s H args us vs Q E hr e0 ht0 hb r lC=>?_⟩;have hl:=len _ _ _ _ lC;have KX:K.In s.heap:=e0.mod.wz.keeps λb o e=>(e0.bs b o e).1;have lim:s.heap.NoLimit:=e0.mod.nolimit.keeps λb o e=>(e0.bs b o e).1;have AI:∀y∈ps.zip us,scope.names.lookup y.1=some .local∨(scope.names.lookup y.1=some .cell/\((cellsFrom (s.heap.objs.size+1) scope.names []).lookup y.1).isSome=true):=fun⟨n,v⟩ hy=>by
  rcases S.par n (yp hy).1 with q | q
  ·exact .inl q
  ·exact .inr ⟨q,yK _ _ _ (.inl q)⟩
 refine codeAny_call_function hr.depth (KX _ _ lk) rfl S.co S.gen rfl (PySem.W.codeRec_of KX i5) (hb _ _ _ _ ?_);refine ZY S.kind ht0 (by rw [← r.length]; exact hl) hf AI λenv he s1 x pV=>?_;subst he;refine⟨lim.keeps x.toInCall.keep,codeAny_func ?_⟩;obtain⟨t,ht,hq⟩:=mQ A outer s H vs Q E (hr.deeper _) lC;have I:Inv (cO CX P w K mg base N qual scope f aR A outer s H E) [] (start N vs) H s1:=abu S hr.hd e0 hl r x pV;refine aB (ht [] s1 (start N vs) H _ I hq) λfl s' hs=>?_;have fin:∀{aD:St} {H':Hp} {v:V} {u:Value},Inv (cO CX P w K mg base N qual scope f aR A outer s H E) [] aD H' s'->RelV v u->Q v H'->CE outer P w H s Q u s':=
  λ{aD H' v u} J rv q=>⟨v,H',J.os,J.bare,J.base,J.au,rv,q⟩
 cases fl with
 |ret u=>
  obtain⟨v,aD,H',J,rv,q⟩:=hs;exact fin J rv q
 |next=>
  obtain⟨aD,H',J,q⟩:=hs;exact fin (v:=V.ax) (u:=eX) J rfl q
 |brk=>
  obtain⟨_,_,_,q⟩:=hs;exact jX q
 |cont=>
  obtain⟨_,_,_,q⟩:=hs;exact jX q
section
variable {X:Cx}{x:Str}{p pos:Pos}{e:Expr}{es:List Expr}{t:TA}{id T:String}{r:List V->Hp->VK->Prop}
noncomputable def C8 (r:List V->Hp->VK->Prop)(t:TA):TE:=λσ H Q=>t σ H λvs H1=>r vs H1 Q
theorem mC (hc:ik X (.builtin id) r)(hg:Gl X x)(hm:X.mg x=none)(hv:bootBuiltins x=some (.builtin id))(ha:PA X (e::es) t)(hn:x≠"__name__" := by decide)(i4:(x==("__debug__" : Str))=false:=by decide)
  (he:starEach (e::es) X.env=(false,eval e X.env)::starEach es X.env:=by rfl) (bO:(backTo pos (starEach es X.env)).any (·.1)=false:=by rfl):PE X (.Call (.Name x p) (e::es) [] pos) (C8 r t):=by
 intro pins s σ H Q I h;refine wpAny_Call_Name_kw (g6 I hg hm hv ?_ hn i4);exact Cp (aB (ha pos pins s σ H _ I h) λus s1 ⟨vs,H1,I1,r1,q1⟩=>hc pins s1 σ H1 vs us Q I1 r1 q1) he bO
theorem L7 (hc:ik X (.type T) r)(hg:Gl X x)(hm:X.mg x=none)(hv:bootBuiltins x=some (.type T))(ha:PA X (e::es) t)(hn:x≠"__name__" := by decide)(i4:(x==("__debug__" : Str))=false:=by decide)
  (he:starEach (e::es) X.env=(false,eval e X.env)::starEach es X.env:=by rfl) (bO:(backTo pos (starEach es X.env)).any (·.1)=false:=by rfl):PE X (.Call (.Name x p) (e::es) [] pos) (C8 r t):=by
 intro pins s σ H Q I h;refine wpAny_Call_Name_kw (g6 I hg hm hv ?_ hn i4);exact jW (aB (ha pos pins s σ H _ I h) λus s1 ⟨vs,H1,I1,r1,q1⟩=>hc pins s1 σ H1 vs us Q I1 r1 q1) he bO
end
end L2
namespace HT
open PySem PyProof.Rows
section
variable {prog:Program}{w:World}{A:Around}{E:Value->Shared->Prop}{s:Shared}
noncomputable def cM (n d:Nat):Option Int->Nat
 |none=>d
 |some v=>if v<0 then (v+(n:Int)).toNat else min v.toNat n
theorem Wk (n d:Nat)(hd:d<=n)(o:Option Int):cM n d o<=n:=by
 cases o with
 |none=>exact hd
 |some v=>
  show (if v<0 then (v+(n:Int)).toNat else min v.toNat n)<=n
  by_cases hv:v<0
  ·rw [if_pos hv]; omega
  ·rw [if_neg hv]; exact Nat.min_le_right _ _
end
end HT
namespace L2
open PySem PySem.Spec PyProof.Rows
noncomputable abbrev TO:=St->Hp->(Option Int->Hp->Prop)->Prop
noncomputable def PO (X:Cx)(e:Option Expr)(t:TO):Prop:=
 ∀(pins:List (Addr×Obj)) (s:Shared) (σ:St) (H:Hp) (Q:Option Int->Hp->Prop),Inv X pins σ H s->t σ H Q->
  wpAny (model X.prog X.w) X.A (evalPart e X.env) (Lz λu s'=>∃o H',Inv X pins σ H' s'/\IsPart u o/\Q o H') X.xe s
noncomputable def UG:TO:=λ_ H Q=>Q none H
noncomputable def UC (t:TE):TO:=λσ H Q=>t σ H λx H1=>∃i,x=.int i/\Q (some i) H1
section
variable {X:Cx}{e:Expr}{te:TE}{lo hi:Option Expr}{tl th:TO}{pos p2:Pos}
theorem XN:PO X none UG:=by
 intro pins s σ H Q I h;rw [evalPart_none];exact wpAny_pure (λht=>⟨none,H,I,.none,h⟩)
theorem XM (h:PE X e te):PO X (some e) (UC te):=by
 intro pins s σ H Q I hw;rw [evalPart_some];refine aB (h pins s σ H _ I hw) λu s1 h_=>?_;obtain⟨x,H1,I1,r1,q1⟩:=h_;obtain⟨i,rfl,q⟩:=q1;obtain⟨t,rfl⟩:=r1;exact(λht=>⟨some i,H1,I1,.int i t,q⟩)
noncomputable def qF (X:Cx)(r:V->Option Int->Option Int->Hp->VK->Prop):Prop:=
 ∀(pins:List (Addr×Obj)) (s:Shared) (σ:St) (H:Hp) (x:V) (v vl vu:Value) (lo hi:Option Int) (sl:Addr) (Q:VK),Inv X pins σ H s->RelV x v->s.heap.IsSliceOf sl vl vu .none->IsPart vl lo->IsPart vu hi->r x lo hi H Q->
  ∃T id,typeLookup (.type T) "__getitem__" = pure (some (.builtin id))/\s.TypeIs v T/\wpAny (model X.prog X.w) X.A (getItem v (.ref sl)) (EP X pins σ Q) X.xe s
theorem qF.or {r r':V->Option Int->Option Int->Hp->VK->Prop}(h:qF X r)(h':qF X r'):qF X (λx lo hi H Q=>r x lo hi H Q∨r' x lo hi H Q):=by
 intro pins s σ H x v vl vu lo hi sl Q I rx hs pl pu q;rcases q with q | q
 ·exact h pins s σ H x v vl vu lo hi sl Q I rx hs pl pu q
 ·exact h' pins s σ H x v vl vu lo hi sl Q I rx hs pl pu q
noncomputable def UA (r:V->Option Int->Option Int->Hp->VK->Prop)(te:TE)(tl th:TO):TE:=λσ H Q=>te σ H λx H1=>tl σ H1 λl H2=>th σ H2 λu H3=>r x l u H3 Q
theorem X9 {r:V->Option Int->Option Int->Hp->VK->Prop}(hr:qF X r)(he:PE X e te)(hl:PO X lo tl)(hu:PO X hi th):PE X (.Subscript e (.Slice lo hi none p2) pos) (UA r te tl th):=by
 intro pins s σ H Q I h;refine Subscript_ (aB (he pins s σ H _ I h) λv s1 ⟨x,H1,I1,r1,q1⟩=>?_);refine wpAny_Slice (aB (hl pins s1 σ H1 _ I1 q1) λvl s2 ⟨l,H2,I2,pl,q2⟩=>aB (hu pins s2 σ H2 _ I2 q2) λvu s3 ⟨u,H3,I3,pu,q3⟩=>?_);rw [evalPart_none];refine wpAny_pure ?_;have I4:Inv X pins σ H3 {s3 with heap:=s3.heap.push {cls:=.type "slice",data:=.fields #[vl,vu,.none]}}:=I3.kept (t':=s3.toks) λb ob q=>aI _ q
 obtain⟨T,id,hT,ht,hg⟩:=hr pins {s3 with heap:=s3.heap.push {cls:=.type "slice",data:=.fields #[vl,vu,.none]}} σ H3 x v vl vu l u s3.heap.objs.size Q I4 r1 (Heap.IsSliceOf.new ..) pl pu q3
 show wpAny (model X.prog X.w) X.A (subscriptTail e (.Slice lo hi none p2) v (.ref s3.heap.objs.size)) (EP X pins σ Q) X.xe {s3 with heap:=s3.heap.push {cls:=.type "slice",data:=.fields #[vl,vu,.none]}}
 exact tail_any (ops:=[.ref s3.heap.objs.size,v]) ht hT hg (by with_unfolding_all rfl)
noncomputable def ur (xs:List V)(lo hi:Option Int):List V:=(xs.drop (HT.cM xs.length 0 lo)).take (HT.cM xs.length xs.length hi - HT.cM xs.length 0 lo)
theorem aeL (xs:List V)(lo hi:Option Int):(ur xs lo hi).length<=xs.length:=by
 unfold ur;rw [nv,uX];omega
end
noncomputable def pQ (n:Nat)(i:Int):Option Nat:=if 0<=i then (if i<n then some i.toNat else none) else if -(n:Int)<=i then some (i+n).toNat else none
noncomputable def jf {α:Type}(xs:List α)(i:Int):Option α:=(pQ xs.length i).bind λj=>xs[j]?
theorem abh {n:Nat}{i:Int}{j:Nat}(h:pQ n i=some j):seqIndex? i n=some j/\j<n/\-(n:Int)<=i/\i<n:=by
 unfold pQ at h
 by_cases h0:0<=i
 ·rw [if_pos h0] at h
  by_cases h1:i<n
  ·rw [if_pos h1] at h
   have e:i.toNat=j:=gn h;exact⟨by rw [seqIndex_of h0 h1,e],by omega,by omega,h1⟩
  ·rw [if_neg h1] at h; cases h
 ·rw [if_neg h0] at h
  by_cases h1 : -(n:Int)<=i
  ·rw [if_pos h1] at h
   have e:(i+n).toNat=j:=gn h;exact⟨by rw [seqIndex_neg (by omega) h1,e],by omega,h1,by omega⟩
  ·rw [if_neg h1] at h; cases h
theorem HG {α:Type}{xs:List α}{i:Int}{v:α}(h:jf xs i=some v):∃j,seqIndex? i xs.length=some j/\xs[j]?=some v/\j<xs.length/\-(xs.length:Int)<=i/\i<xs.length:=by
 unfold jf at h
 cases e:pQ xs.length i with
 |none=>rw [e] at h; cases h
 |some j=>
  rw [e] at h;obtain⟨h1,h2,h3,h4⟩:=abh e;exact⟨j,h1,h,h2,h3,h4⟩
theorem afB {α:Type}{xs:List α}{j:Nat}{v:α}(h:xs[j]?=some v):jf xs (j:Int)=some v:=by
 have hj:j<xs.length:=(cP.mp h).1;have e:pQ xs.length (j:Int)=some j:=by
  unfold pQ;rw [if_pos (by omega),if_pos (by omega)]; simp
 unfold jf; rw [e]; exact h
noncomputable def RK (b:Expr):Prop:=∀o i,subscripted b false o i=operate [o,i] (getItem o i)
noncomputable def nh (X:Cx)(r:R2):Prop:=
 ∀(value slice:Expr) (pins:List (Addr×Obj)) (s:Shared) (σ:St) (H:Hp) (x y:V) (v u:Value) (Q:VK),Inv X pins σ H s->RelV x v->RelV y u->r x y H Q->
  subscripted slice false v u=operate [v,u] (getItem v u)->wpAny (model X.prog X.w) X.A (subscriptTail value slice v u) (EP X pins σ Q) X.xe s
noncomputable def qH (X:Cx)(id:String)(r:V->List V->Hp->VK->Prop):Prop:=
 ∀(pins:List (Addr×Obj)) (s:Shared) (σ:St) (H:Hp) (x:V) (xs:List V) (v:Value) (us:List Value) (Q:VK),Inv X pins σ H s->RelV x v->Vals xs us->r x xs H Q->
  wpAny (model X.prog X.w) X.A (call (.builtin id) (v::us)) (EP X pins σ Q) X.xe s
section
variable {X:Cx}{a b:Expr}{ta tb:TE}{pos:Pos}
theorem nh.or {r r':R2}(h:nh X r)(h':nh X r'):nh X (λx y H Q=>r x y H Q∨r' x y H Q):=by
 intro value slice pins s σ H x y v u Q I rx ry q hs;rcases q with q | q
 ·exact h value slice pins s σ H x y v u Q I rx ry q hs
 ·exact h' value slice pins s σ H x y v u Q I rx ry q hs
theorem LZ {r:R2}(hr:nh X r)(ha:PE X a ta)(hb:PE X b tb)(hs:RK b):PE X (.Subscript a b pos) (vv r ta tb):=by
 intro pins s σ H Q I h;exact Subscript_ (HB ha hb I h λv u s2 x y H2 I2 rx ry q=>hr a b pins s2 σ H2 x y v u Q I2 rx ry q (hs _ _))
noncomputable def Xo (K:ao):R2:=λx y H Q=>∃p xs i v,x=.ref p/\y=.int i/\bz K H p xs/\jf xs i=some v/\Q v H
noncomputable def Xm (K:ao):R2:=λx y H Q=>∃p xs i v,x=.ref p/\y=.int i/\dP K H p xs/\jf xs i=some v/\Q v H
noncomputable def Xn:R2:=λx y H Q=>∃z i c,x=.str z/\y=.int i/\z.length<=sizeLine/\jf z.cps.toList i=some c/\Q (.str ⟨#[c]⟩) H
theorem NL:nh X (Xo X.K):=by
 intro value slice pins s σ H x y v u Q I rx ry h hs;obtain⟨p,xs,i,z,rfl,rfl,hq,he,q⟩:=h;cases rx;obtain⟨t,rfl⟩:=ry;obtain⟨ak,r,pl,hz⟩:=I.list hq;obtain⟨j,h1,h2,h3,h4,h5⟩:=HG he;obtain⟨w,ew,gY⟩:=r.get h2;have hl:=r.length;have hn:=wt;have fin:EP X pins σ Q w s:=(λht=>⟨z,H,I,gY,q⟩)
 by_cases h0:0<=i
 ·have hj:i.toNat=j:=by
   rw [seqIndex_of h0 h5] at h1;exact gn h1
  exact item_listR pl.isList h0 (by omega) (by rw [hj]; simpa using ew) fin hs
 ·have hj:(i+(ak.toArray.size:Int)).toNat=j:=by
   rw [seqIndex_neg (by omega) h4] at h1;rw [gQ,← hl];exact gn h1
  exact subscriptTail_builtinR (x:=w) pl.isList.typeIs slot_list_getitem.lookup
   (wpAny_getItem_list_neg (Q:=λr s'=>r=w/\EP X pins σ Q r s') pl.isList (by omega) (by rw [gQ] <;> omega) (by omega) (by rw [hj]; simpa using ew) ⟨rfl,fin⟩) hs
theorem abe:nh X (Xm X.K):=by
 intro value slice pins s σ H x y v u Q I rx ry h hs;obtain⟨p,xs,i,z,rfl,rfl,hq,he,q⟩:=h;cases rx;obtain⟨t,rfl⟩:=ry;obtain⟨ak,r,pl,hz⟩:=I.tuple hq;obtain⟨j,h1,h2,h3,h4,h5⟩:=HG he;obtain⟨w,ew,gY⟩:=r.get h2;have hl:=r.length;have hn:=wt;have fin:EP X pins σ Q w s:=(λht=>⟨z,H,I,gY,q⟩)
 exact subscriptTail_builtinR (x:=w) pl.typeIs slot_tuple_getitem.lookup
  (getItem_tuple (j:=j) (Q:=λr s'=>r=w/\EP X pins σ Q r s') pl (by omega) (by omega) (by rw [gQ,← hl]; exact h1) (by simpa using ew) ⟨rfl,fin⟩) hs
theorem abf:nh X Xn:=by
 intro value slice pins s σ H x y v u Q I rx ry h hs;obtain⟨z,i,c,rfl,rfl,hz,he,q⟩:=h;obtain⟨t,rfl⟩:=rx;obtain⟨t',rfl⟩:=ry;obtain⟨j,h1,h2,h3,h4,h5⟩:=HG he;have hl:z.cps.toList.length=z.length:=by simp [gP]
 rw [hl] at h1 h4 h5;have hn:=wt;exact tail_any (typeIs_str s z t) slot_str_getitem.lookup (getItem_str (c:=c) (by
  have e1:decide (i < -(2 ^ 63:Int))=false:=decide_eq_false (by omega);have e2:decide (i≥2 ^ 63)=false:=decide_eq_false (by omega);rw [e1,e2,Bool.or_false]) (by rw [h1]; simpa using h2) (λht=>⟨.str ⟨#[c]⟩,H,I.tok _,⟨_,rfl⟩,q⟩)) hs
theorem KD (lo hi:Option Int)(n:Nat):(sliceBounds lo hi none n).1=((HT.cM n 0 lo:Nat):Int)/\(sliceBounds lo hi none n).2.1=((HT.cM n n hi:Nat):Int)/\(sliceBounds lo hi none n).2.2=1:=by
 refine⟨?_,?_,rfl⟩
 ·cases lo with
  |none=>simp [sliceBounds,HT.cM]
  |some i=>
   simp only [sliceBounds,HT.cM,BR,show (1:Int) > 0 by decide,if_true]
   by_cases h:i<0
   ·simp only [h,if_true] <;> omega
   ·simp only [h,if_false] <;> omega
 ·cases hi with
  |none=>simp [sliceBounds,HT.cM]
  |some i=>
   simp only [sliceBounds,HT.cM,BR,show (1:Int) > 0 by decide,if_true]
   by_cases h:i<0
   ·simp only [h,if_true] <;> omega
   ·simp only [h,if_false] <;> omega
theorem Vn (ak:List Value)(lo hi:Option Int):slicePick ak.toArray lo hi none=((ak.drop (HT.cM ak.length 0 lo)).take (HT.cM ak.length ak.length hi - HT.cM ak.length 0 lo)).toArray:=by
 obtain⟨h1,h2,h3⟩:=KD lo hi ak.toArray.size;unfold slicePick;rw [h1,h2,h3];simp only [sliceRange_one,pick_run,gQ] <;> rfl
noncomputable def Xi (K:ao):V->Option Int->Option Int->Hp->VK->Prop:=λx lo hi H Q=>∃a xs,x=.ref a/\bz K H a xs/\∀p,H p=none->Q (.ref p) (upd H p (.lst (ur xs lo hi)))
theorem Vo:qF X (Xi X.K):=by
 intro pins s σ H x v vl vu lo hi sl Q I rx hs pl pu h;obtain⟨a,xs,rfl,hx,q⟩:=h;cases rx;obtain⟨ak,r,ht,hz⟩:=I.list hx;have hlen:=r.length;refine⟨"list",_,slot_list_getitem.lookup,ht.isList.typeIs,?_⟩
 refine wpAny_getItem_list_slice ht.isList hs pl pu .none (by simp) ?_ (by rw [gQ] <;> omega);rw [Vn,← hlen];refine(λht=>⟨.ref s.heap.objs.size,_,I.laid (t':=s.toks) (o:=.lst (ur xs lo hi)) (λb ob q=>aI _ q) (aN _) ?_,rfl,q _ (I.au.fresh (aN _))⟩);exact⟨bH (aeL xs lo hi) hz,_,0,(r.drop (HT.cM xs.length 0 lo)).take (HT.cM xs.length xs.length hi - HT.cM xs.length 0 lo),bE _ rfl⟩
noncomputable def gH:V->Bool
 |.ax=>true
 |.bl _=>true
 |.int _=>true
 |.str _=>true
 |_=>false
noncomputable def dq:V->V->Bool
 |.ax,.ax=>true
 |.bl a,.bl b=>a==b
 |.bl a,.int b=>(if a then 1 else 0)==b
 |.int a,.bl b=>a==(if b then 1 else 0)
 |.int a,.int b=>a==b
 |.str a,.str b=>a==b
 |_,_=>false
theorem aeb {A:Around}{s:Shared}{y x:V}{u v:Value}(ry:RelV y u)(rx:RelV x v)(fy:gH y=true)(fx:gH x=true):kN A s u v (dq y x):=by
 cases y with
 |ax=>
  cases ry
  cases x with
  |ax=>cases rx; exact SeqAt.EqAt.same _
  |bl b=>cases rx; exact SeqAt.EqAt.none_bool b
  |int b=>obtain⟨t,rfl⟩:=rx; exact SeqAt.EqAt.none_int b t
  |str b=>obtain⟨t,rfl⟩:=rx; exact SeqAt.EqAt.none_str b t
  |_=>exact absurd (show false=true from fx) fA
 |bl a=>
  cases ry
  cases x with
  |ax=>cases rx; exact SeqAt.EqAt.bool_none a
  |bl b=>cases rx; exact SeqAt.EqAt.bool_bool a b
  |int b=>obtain⟨t,rfl⟩:=rx; exact SeqAt.EqAt.bool_int a b t
  |str b=>obtain⟨t,rfl⟩:=rx; exact SeqAt.EqAt.bool_str a b t
  |_=>exact absurd (show false=true from fx) fA
 |int a=>
  obtain⟨t',rfl⟩:=ry
  cases x with
  |ax=>cases rx; exact SeqAt.EqAt.int_none a t'
  |bl b=>cases rx; exact SeqAt.EqAt.int_bool a t' b
  |int b=>obtain⟨t,rfl⟩:=rx; exact SeqAt.EqAt.int_int a t' b t
  |str b=>obtain⟨t,rfl⟩:=rx; exact SeqAt.EqAt.int_str a t' b t
  |_=>exact absurd (show false=true from fx) fA
 |str a=>
  obtain⟨t',rfl⟩:=ry
  cases x with
  |ax=>cases rx; exact SeqAt.EqAt.str_none a t'
  |bl b=>cases rx; exact SeqAt.EqAt.str_bool a t' b
  |int b=>obtain⟨t,rfl⟩:=rx; exact SeqAt.EqAt.str_int a t' b t
  |str b=>obtain⟨t,rfl⟩:=rx; exact SeqAt.EqAt.str_str a t' b t
  |_=>exact absurd (show false=true from fx) fA
 |_=>exact absurd (show false=true from fy) fA
noncomputable def jc (x:V)(u:Value):Bool:=match u with
 |.none=>dq .ax x
 |.bool b=>dq (.bl b) x
 |.int i _=>dq (.int i) x
 |.str z _=>dq (.str z) x
 |_=>false
theorem Bc {x y:V}{u:Value}(r:RelV y u)(f:gH y=true):jc x u=dq y x:=by
 cases y with
 |ax=>cases r; rfl
 |bl b=>cases r; rfl
 |int i=>obtain⟨t,rfl⟩:=r; rfl
 |str z=>obtain⟨t,rfl⟩:=r; rfl
 |_=>exact absurd (show false=true from f) fA
theorem HI {x:V}:∀{xs:List V}{us:List Value},Vals xs us->xs.all gH=true->us.any (jc x)=xs.any λy=>dq y x
 |_,_,.nil,_=>rfl
 |y::xs,u::us,.cons r t,f=>by
  rw [mj,eY] at f;rw [kG,kG,Bc r f.1,HI t f.2]
theorem wm {A:Around}{s:Shared}{x:V}{v:Value}(rx:RelV x v)(fx:gH x=true):∀{xs:List V}{us:List Value},Vals xs us->xs.all gH=true->∀u∈us,kN A s u v (jc x u)
 |_,_,.nil,_=>λu hu=>by cases hu
 |y::xs,u::us,.cons r t,f=>λu' hu=>by
  rw [mj,eY] at f;rcases aO.mp hu with rfl | hu
  ·rw [Bc r f.1]; exact aeb r rx f.1 fx
  ·exact wm rx fx t f.2 u' hu
noncomputable def wI (x:V)(xs:List V):Bool:=xs.any λy=>dq y x
noncomputable def LC (K:ao)(neg:Bool):R2:=λx y H Q=>∃p xs,y=.ref p/\(bz K H p xs∨dP K H p xs)/\gH x=true/\xs.all gH=true/\Q (.bl (if neg then !wI x xs else wI x xs)) H
theorem YC:bX X (compareOp .NotIn) (LC X.K true):=by
 intro pins s σ H x y v u Q I rx ry h;obtain⟨p,xs,rfl,hq,fx,fs,q⟩:=h;cases ry;rcases hq with hq | hq
 ·obtain⟨ak,r,pl,hz⟩:=I.list hq
  refine SeqAt.notIn_listAt (jc x) pl.isList (λw hw=>wm rx fx r fs w (by simpa using hw)) (λht=>⟨.bl _,H,I,rfl,?_⟩);rw [show ak.toArray.any (jc x)=ak.any (jc x) by simp,HI r fs];exact q
 ·obtain⟨ak,r,pl,hz⟩:=I.tuple hq
  refine SeqAt.notIn_tupleAt (jc x) pl (λw hw=>wm rx fx r fs w (by simpa using hw)) (λht=>⟨.bl _,H,I,rfl,?_⟩);rw [show ak.toArray.any (jc x)=ak.any (jc x) by simp,HI r fs];exact q
theorem ae9:ik X (.builtin "len") (λxs H Q=>∃p ys,xs=[.ref p]/\(bz X.K H p ys∨dP X.K H p ys)/\Q (.int ys.length) H):=by
 intro pins s σ H xs us Q I r h;obtain⟨p,ys,rfl,hq,q⟩:=h;obtain⟨u,rfl,rx⟩:=vals1 r;cases rx;have hn:=wt;rcases hq with hq | hq
 ·obtain⟨ak,r',pl,hz⟩:=I.list hq
  have hlen:=r'.length;exact Calls.call_len_list pl.isList (by simp only [gQ] <;> omega) (λht=>⟨.int ys.length,H,I.tok _,⟨s.toks+1,by rw [gQ,hlen]⟩,q⟩)
 ·obtain⟨ak,r',pl,hz⟩:=I.tuple hq
  have hlen:=r'.length;exact len_tuple pl (by simp only [gQ] <;> omega) (λht=>⟨.int ys.length,H,I.tok _,⟨s.toks+1,by rw [gQ,hlen]⟩,q⟩)
theorem ae8:ik X (.builtin "len") (λxs H Q=>∃z,xs=[.str z]/\z.length<=sizeLine/\Q (.int z.length) H):=by
 intro pins s σ H xs us Q I r h;obtain⟨z,rfl,hz,q⟩:=h;obtain⟨u,rfl,t,rfl⟩:=vals1 r;have hn:=wt;exact len_str (by omega) (λht=>⟨.int z.length,H,I.tok _,⟨_,rfl⟩,q⟩)
theorem ik.or {f:Value}{r r':List V->Hp->VK->Prop}(h:ik X f r)(h':ik X f r'):ik X f (λxs H Q=>r xs H Q∨r' xs H Q):=by
 intro pins s σ H xs us Q I rs q;rcases q with q | q
 ·exact h pins s σ H xs us Q I rs q
 ·exact h' pins s σ H xs us Q I rs q
noncomputable def y6 (K:ao)(T:String)(x:V)(H:Hp):Prop:=match x with
 |.str _=>T = "str"
 |.int _=>T = "int"
 |.ref p=>(T = "list" /\∃xs,bz K H p xs)∨(T = "tuple" /\∃o,K.lookup p=some o/\o.cls=.type "tuple" /\o.dict=none)∨
   (T = "dict" /\((∃kvs,H p=some (.dK kvs))∨∃kvs,H p=some (.dT kvs)))∨(T = "set" /\∃S n,H p=some (.set S n))
 |_=>False
theorem TQ {pins:List (Addr×Obj)}{σ:St}{H:Hp}{s:Shared}{T:String}{x:V}{v:Value}(I:Inv X pins σ H s)(r:RelV x v)(ty:y6 X.K T x H) :
  s.TypeIs v T/\∀a,v=.ref a->∃ob,s.heap.get? a=some ob/\ob.dict=none:=by
 cases x with
 |str z=>
  obtain⟨t,rfl⟩:=r
  cases (show T = "str" from ty)
  exact⟨typeIs_str s z t,λ_ e=>nomatch e⟩
 |int i=>
  obtain⟨t,rfl⟩:=r
  cases (show T = "int" from ty)
  exact⟨typeIs_int s i t,λ_ e=>nomatch e⟩
 |ref p=>
  cases r;rcases ty with ⟨rfl,xs,hq⟩ | ⟨rfl,o,hk,hc,hd⟩ | ⟨rfl,hk⟩ | ⟨rfl,S,n,hk⟩
  ·obtain⟨ak,_,pl,_⟩:=I.list hq
   refine⟨pl.isList.typeIs,λa e=>?_⟩;cases e;obtain⟨o,n,e,c,hd,_⟩:=pl;exact⟨o,e,hd⟩
  ·refine⟨⟨o,I.mG p o hk,hc⟩,λa e=>?_⟩
   cases e;exact⟨o,I.mG _ o hk,hd⟩
  ·have z:∃o,s.heap.get? p=some o/\o.ExactDict:=by
    rcases hk with ⟨kvs,hk⟩ | ⟨kvs,hk⟩
    ·obtain⟨_,_,_,_,o,_,_,e,ex,_⟩:=I.au p _ hk
     exact⟨o,e,ex⟩
    ·obtain⟨_,_,_,_,o,_,_,e,ex,_⟩:=I.au p _ hk
     exact⟨o,e,ex⟩
   obtain⟨o,e,ex⟩:=z;refine⟨⟨o,e,ex.1⟩,λa e2=>?_⟩;cases e2;exact⟨o,e,ex.2.1⟩
  ·obtain⟨o,_,_,_,e,ex,_⟩:=I.au p _ hk
   refine⟨⟨o,e,ex.1⟩,λa e2=>?_⟩;cases e2;exact⟨o,e,ex.2.1⟩
 |_=>exact jX ty
noncomputable def Kg (K:ao)(T:String)(r:V->List V->Hp->VK->Prop)(to:TE)(t:TA):TE:=λσ H Q=>to σ H λx H1=>y6 K T x H1/\t σ H1 λxs H2=>r x xs H2 Q
variable {o e:Expr}{es:List Expr}{to:TE}{t:TA}{name:Str}{apos ij:Pos}{T id:String}{r:V->List V->Hp->VK->Prop}
theorem vT (pa:PlainAttrs T)(slot:Slot T name id)(jC:typeOf (.builtin id)=pure (.type "method_descriptor"))(hm:qH X id r)(ho:PE X o to)(ha:PA X (e::es) t)
  (i6:attributeBase o name X.env (eval o X.env)=eval o X.env:=by rfl)
  (Ga:((backTo ij (starEach (e::es) X.env)).all (λx=>!x.1)&&(backToKw ij (keywordEach [] X.env)).all (λx=>x.1.isSome)
   && decide ((e::es).length+([]:List Keyword).length+(if ([]:List Keyword).isEmpty then 0 else 1)<30))=true:=by rfl)
  (g9:(apos.endLine==ij.line)=true:=by rfl) (hs:starEach (e::es) X.env=(false,eval e X.env)::starEach es X.env:=by rfl) (FL:(backTo ij (starEach es X.env)).any (·.1)=false:=by rfl) :
  PE X (.Call (.Attribute o name apos) (e::es) [] ij) (Kg X.K T r to t):=by
 intro pins s σ H Q I h;refine wpAny_Call_method_late i6 Ga g9 rfl (aB (ho pins s σ H _ I h) λv s1 ⟨x,H1,I1,r1,ty,q1⟩=>?_);obtain⟨h1,h2⟩:=TQ I1 r1 ty;refine⟨T,id,pa,slot,jC,h1,h2,?_⟩;have hA:=ha ij pins s1 σ H1 _ I1 q1;rw [hs] at hA ⊢;refine Calls.callWith_builtin (by show (false || (backTo ij (starEach es X.env)).any (·.1))=false; rw [FL] <;> rfl) (Calls.evalArgs_plain ?_);exact aB hA λus s2 ⟨vs,H2,I2,r2,q2⟩=>hm pins s2 σ H2 x vs v us Q I2 r1 r2 q2
end
noncomputable def RT (X:Cx)(id:String)(r:V->List V->Hp->VK->Prop):Prop:=
 ∀(pins:List (Addr×Obj)) (s:Shared) (σ:St) (H:Hp) (x:V) (xs:List V) (v:Value) (us:List Value) (Q:VK),Inv X pins σ H s->RelV x v->Vals xs us->r x xs H Q->
  wpAny (model X.prog X.w) X.A (call (.builtin id) (v::us)) (EP X pins σ Q) X.xe s
theorem Vals.one:∀{x:V}{us:List Value},Vals [x] us->∃u,us=[u]/\RelV x u
 |_,_,.cons r .nil=>⟨_,rfl,r⟩
theorem Vals.two:∀{x y:V}{us:List Value},Vals [x,y] us->∃u v,us=[u,v]/\RelV x u/\RelV y v
 |_,_,_,.cons r (.cons q .nil)=>⟨_,_,rfl,r,q⟩
section
variable {X:Cx}{pins:List (Addr×Obj)}{σ:St}{H:Hp}{s:Shared}{l b:Addr}{xs ys zs:List V}
theorem Inv.ML {ak its':List Value}{n:Nat}{f:Array Value->Array Value}{t':Nat}(I:Inv X pins σ H s)(hH:H l=some (.lst xs))
  (e:s.heap.get? l=some {cls:=.type "list",data:=.seq ak.toArray n}) (hf:f ak.toArray=its'.toArray) (hv:Vals ys its') (hz:ys.length<=sizeLine) (ht:0<t':=by first | assumption | exact Inv.tk (by assumption)) :
  Inv X pins σ (upd H l (.lst ys)) {s with heap:=s.heap.update l (me f),toks:=t'}:=by
 have q:=PySem.IsL.update e f;rw [hf] at q;refine I.write (x:=l) (e:=l) (by rw [hH]; exact trivial) (.inl rfl) (λb' u hb hu=>(vh s.heap (me f) (cz hb)).trans hu) ⟨_,q⟩ ?_ ht;exact⟨hz,its',_,hv,q⟩
theorem Inv.aam {ak:List Value}{t':Nat}(I:Inv X pins σ H s)(hv:Vals ys ak)(hz:ys.length<=sizeLine)(ht:0<t':=by first | assumption | exact Inv.tk (by assumption)) :
  Inv X pins σ (upd H s.heap.objs.size (.lst ys)) {s with heap:=s.heap.push {cls:=.type "list",data:=.seq ak.toArray},toks:=t'}:=
 I.laid (λ_ _ q=>aI _ q) (aN _) ⟨hz,ak,0,hv,bE _ rfl⟩ ht
theorem Inv.fresh (I:Inv X pins σ H s):H s.heap.objs.size=none:=I.au.fresh (aN _)
theorem Inv.jy (I:Inv X pins σ H s)(hH:H l=some (.lst xs)):xs.length<=sizeLine/\∃(ak:List Value) (n:Nat),Vals xs ak/\xs.length=ak.length/\s.heap.get? l=some {cls:=.type "list",data:=.seq ak.toArray n}:=by
 obtain⟨z,ak,n,r,e⟩:=I.au l _ hH;exact⟨z,ak,n,r,r.length,e⟩
theorem ZP {n:Nat}(h:n<=sizeLine):Ci n=false:=by
 unfold Ci;exact decide_eq_false (by omega)
end
section
variable {X:Cx}
noncomputable def Xu:V->List V->Hp->VK->Prop:=λx vs H Q=>∃l xs y,x=.ref l/\vs=[y]/\H l=some (.lst xs)/\xs.length<sizeLine/\Q .ax (upd H l (.lst (xs++[y])))
theorem MH:RT X "list.append" Xu:=by
 intro pins s σ H x vs v us Q I rx rv h;obtain⟨l,xs,y,rfl,rfl,hH,hz,q⟩:=h;cases rx;obtain⟨u,rfl,ru⟩:=rv.one;obtain⟨z,ak,n,r,hl,e⟩:=I.jy hH;refine call_meets F.slot_list_append ⟨_,e,rfl⟩ F.entry_list_append (F.args_list_append_2 _ _) (PySem.list_append l ak.toArray n u (by rw [gQ]; omega)) ⟨e,?_⟩;refine(λht=>⟨.ax,_,I.ML (its':=ak++[u]) hH e (by simp) (r.append (.cons ru .nil)) ?_,rfl,q⟩);rw [jU,List.length_singleton];omega
noncomputable def Xq:V->List V->Hp->VK->Prop:=λx vs H Q=>∃l b xs zs,x=.ref l/\vs=[.ref b]/\H l=some (.lst xs)/\H b=some (.lst zs)/\xs.length+zs.length<=sizeLine/\Q .ax (upd H l (.lst (xs++zs)))
theorem MG:RT X "list.extend" Xq:=by
 intro pins s σ H x vs v us Q I rx rv h;obtain⟨l,b,xs,zs,rfl,rfl,hH,hB,hz,q⟩:=h;cases rx;obtain⟨u,rfl,ru⟩:=rv.one;cases ru;obtain⟨z,ak,n,r,hl,e⟩:=I.jy hH;obtain⟨z2,An,n2,r2,lI,e2⟩:=I.jy hB;have hsz:ak.toArray.size+An.toArray.size<=sizeLine:=by rw [gQ,gQ]; omega
 have acv:¬ (!ak.toArray.isEmpty&&Ci (ak.toArray.size+An.toArray.size))=true:=by
  rw [ZP hsz,uR];exact fA
 refine call_meets Cb ⟨_,e,rfl⟩ F.entry_list_extend (F.args_list_extend_2 _ _)
  (AutoSeq1.list_extend_list_list_0 l ak.toArray n b An.toArray n2 acv (by rw [gQ]; omega) (by omega)) ⟨e,e2,?_⟩
 refine(λht=>⟨.ax,_,I.ML (its':=ak++An) hH e (by simp) (r.append r2) ?_,rfl,q⟩);rw [jU];omega
end
end L2
namespace R5
open PySem PySem.W PySem.Calls PyProof.Rows
theorem abv {P:Params}{h:Heap}:∀(ns:List Int) (vs:List Value),WellAll P h vs (ns.map WData.int)->IntsAre vs ns:=by
 intro ns
 induction ns with
 |nil=>
  intro vs w;rw [kF] at w;cases w;exact .nil
 |cons n ns ih=>
  intro vs w;rw [a5] at w
  cases w with
  |cons a b=>
   cases a;exact .cons _ _ (ih _ b)
theorem VQ {l:OpenLaw}{n:Nat}(hn:l.most=some n){P:Params}{h:Heap}{args:List WData}{vals:List Value}
  (AA:l.row.toRowW.claim.pre args=true) (FA:WellAll P h vals args) :
  ∃a vs ns,vals=[bx a]/\args=[WData.list (ns.map WData.int)]/\h.get? a=some {cls:=.type "list",data:=.seq vs.toArray}/\IntsAre vs ns/\ns.length<=n:=by
 have hsh:WShape.hasAll [] args [.list .int]=true:=(pre_splitW AA).1;have hc:l.pre.holds [] {args:=args}=true:=(pre_splitW AA).2;obtain⟨d,r,rfl,h1,h2⟩:=hasAllW_cons hsh;obtain rfl:=hasAllW_nil h2;obtain⟨xs,rfl,h3⟩:=hasW_list h1;obtain⟨ns,rfl⟩:=items_int h3;have hlen:ns.length<=n:=by
  unfold OpenLaw.pre at hc;have h4:(WTm.not (.lt (.lit (.int (n:Int))) (.len (.arg 0)))).holds [] {args:=[.list (ns.map .int)]}=true:=by
   have h4:=(holds_andW hc).1;rw [hn] at h4;exact h4
  have h5:=condW_of h4 (w_not (w_lt w_lit (w_len_list (w_arg rfl))));rw [cg] at h5;refine Nat.le_of_not_lt λq=>?_;have q':(n:Int)<((ns.length:Nat):Int):=by omega
  first
   | (rw [decide_eq_true q'] at h5; exact absurd h5 (by decide))
   | (simp at h5; omega)
 cases FA with
 |cons w1 w2=>
  cases w2
  cases w1 with
  |list ho xc=>exact⟨_,_,ns,rfl,rfl,ho,abv ns _ xc,hlen⟩
theorem XJ (l:OpenLaw)(args:List WData):l.row.toRowW.claim.post args (.bool true) args=true:=
 postW_of (r:=l.row.toRowW) (X:=(true==true))
  (show WShape.has [] (.bool true) .bool=true by first | rfl | decide | simp [WShape.has,WShape.arms,WShape.armsAll])
  (show (WTm.eq .res (.lit (.bool true))).value [] {args:=args,res:=some (.bool true),after:=args}=some (.bool (true==true)) from w_eq_bool (w_res rfl) w_lit) rfl
theorem afy {l:OpenLaw}{n:Nat}{q:Program}{loose:List Str}{XP:(Str->Option Value)->Heap->Prop}{YP:World->Heap->Prop}{d:DefRec}
  (hn:l.most=some n) (w8:d.params.defaults=[])
  (call:∀(w:World) (aQ aT:Shared) (mg mb:Str->Option Value) (fa:Addr) (o:Obj) (pm cd doc:Value) (a:Addr) (vs:List Value) (ns:List Int),
   Ground q loose [] XP w aQ mg mb aT.heap->YP w aT.heap->
   aT.heap.get? fa=some o->o.data=.func (docDef d.name d.params d.body d.scope pm cd doc)->aT.heap.CodeRec cd d.name->mg d.name=some (.ref fa)->
   aT.heap.get? a=some {cls:=.type "list",data:=.seq vs.toArray}->IntsAre vs ns->ns.length<=n->aT.gens=#[]->
   codeAny (model l.prog w) callerA (.call (.ref fa) ⟨[.ref a],[]⟩) (λr s'=>r=.ok (.ret (.bool true))/\OldK aT.heap s'.heap/\s'.os=aT.os/\AllBare s'.gens) aT) :
  WalkO q loose XP YP l.row.toRowW d [] (λf vs=>PySem.call f vs):=by
 intro w aQ aT mg mb G Y fa o pm cd doc dV kV ho hd i5 hD wU hg args vals as AA ajB hrd FA hlo;obtain rfl:dV=.none:=Dflts.none hD w8;obtain rfl:kV=.none:=Dflts.noKw hD;obtain⟨a,vs,ns,rfl,rfl,FO,hints,hlen⟩:=VQ hn AA FA;refine enter_call (codeAny_mono (call w aQ aT mg mb fa o pm cd doc a vs ns G Y ho (fd_plain hd) i5 wU FO hints hlen hg) λr s' hq=>?_);obtain⟨rfl,h2,h3,h4⟩:=hq;exact⟨.inl ⟨.bool true,.bool true,[],rfl,λ_=>rfl,.bool true,XJ l _,λ_=>⟨BW,λ_ hm=>(nomatch hm)⟩⟩,h2,h3,h4⟩
end R5
namespace L2
open PySem PySem.Spec PyProof.Rows
theorem JS:∀{vs:List Value}{ns:List Int},IntsAre vs ns->Vals (ns.map V.int) vs
 |_,_,.nil=>.nil
 |_,_,.cons n t h=>.cons ⟨t,rfl⟩ (JS h)
noncomputable def IP (H:Hp):Prop:=∀b,H b=none∨∃o xs,H b=some (.bG o (.lst xs))
theorem aaL {P:Program}{w:World}{K:ao}{mg mb:Str->Option Value}{CX:il}{k:Nat}{fa a:Addr}{fd:FuncData}{x:Str}{sp:Sp}{aT:Shared}{vs:List Value}{ns:List Int}
  (KX:K.In aT.heap) (tj:aT.heap.Ns mainGlobals mg) (hb:aT.heap.Ns builtinsNs mb) (hbb:∀x:Str,x≠"__name__" ->mb x=bootBuiltins x) (acx:aT.heap.NoLimit) (hg:aT.gens=#[])
  (ha:aT.heap.get? a=some {cls:=.type "list",data:=.seq vs.toArray}) (hi:IntsAre vs ns) (hl:ns.length<=sizeLine) (hr:dF k callerA)
  (F:∀base:Heap,K.In base->base.Ns mainGlobals mg->fN P w K mg base CX k fa fd [x] sp) (ac0:∀(s:Shared) (u:Value),BindsTo s fd ⟨[u],[]⟩ [(x,u)])
  (lC:∀H:Hp,IP H->bz K H a (ns.map V.int)->sp [.ref a] H (λv _=>v=.bl true) λ_ _ _=>False)
  (Gx:∀H e s',CX [] H aT (λ_ _ _=>False) e s'->False) (hx:x=dZ:=by rfl) :
  codeAny (model P w) callerA (.call (.ref fa) ⟨[.ref a],[]⟩) (λr s'=>r=.ok (.ret (.bool true))/\OldK aT.heap s'.heap/\s'.os=aT.os/\AllBare s'.gens) aT:=by
 have rv:=JS hi;have aay:=hi.length;have core:∀H:Hp,IP H->bz K H a (ns.map V.int)->cc P w H aT.heap->(∀b,H b≠none->b=a)->(H a≠none->K.lookup a=none)->
   codeAny (model P w) callerA (.call (.ref fa) ⟨[.ref a],[]⟩) (λr s'=>r=.ok (.ret (.bool true))/\OldK aT.heap s'.heap/\s'.os=aT.os/\AllBare s'.gens) aT:=by
  intro H hO hS au hA hK;have Q3:∀{b:Addr} {o:Obj},aT.heap.get? b=some o->H b=none->(mM aT.heap H).get? b=some o:=λe n=>acI e n;have wc:∀{b:Addr} {o:Obj} {es:Array DictEntry} {ep:Nat},aT.heap.get? b=some o->o.data=.dict es ep->H b=none:=λ{b o es ep} e d=>by
   cases q:H b with
   |none=>rfl
   |some u=>
    have e':b=a:=hA b (by rw [q]; simp);subst e';rw [ha] at e; cases e;have d':Data.seq vs.toArray _=Data.dict es ep:=d;cases d'
  have zZ:∀{b:Addr} {m:Str->Option Value},aT.heap.Ns b m->(mM aT.heap H).Ns b m:=λ{b m} ⟨o,es,ep,e,d,r⟩=>⟨o,es,ep,Q3 e (wc e d),d,r⟩
  have OL:K.In (mM aT.heap H):=λb o e=>Q3 (KX b o e) (by
   cases q:H b with
   |none=>rfl
   |some u=>
    have e':b=a:=hA b (by rw [q]; simp);subst e';rw [hK (by rw [q]; simp)] at e; cases e)
  have hM:Mod K mg (mM aT.heap H):=⟨OL,zZ tj,⟨mb,zZ hb,hbb⟩,let ⟨mc,h1,h2⟩:=acx; ⟨mc,zZ h1,h2⟩⟩
  have e0:BK P w K mg (mM aT.heap H) callerA [] aT H:=⟨rfl,hM,λb o e=>Zs e,Nat.le_of_eq (acH _ _),trivial,λb hb=>absurd (show b∈([]:List Addr) from hb) (by simp),au,.of_eq hg⟩
  refine codeAny_mono ((F _ OL (zZ tj)).run callerA [] aT H ⟨[.ref a],[]⟩ [.ref a] [.ref a] _ _ hr e0 (.inr (by rw [hx])) (ac0 aT (.ref a)) (.cons rfl .nil) (lC H hO hS)) λr s' h=>?_
  cases r with
  |error e=>exact(Gx H e s' h).elim
  |ok fl=>
   cases fl with
   |next=>exact jX h
   |brk=>exact jX h
   |cont=>exact jX h
   |ret u=>
    obtain⟨v,H',os,bare,un,aci,r',q⟩:=h;have q':v=.bl true:=q;subst q';obtain rfl:u=Value.bool true:=r';refine⟨rfl,OldK.of_keep λb o e=>?_,os,bare⟩
    cases q:H b with
    |none=>exact un.keep b o e q (by intro z; exact absurd (show b∈([]:List Addr) from z) (by simp)) (by simp)
    |some u=>
     rcases hO b with z | ⟨ob,xs,z⟩
     ·rw [q] at z; cases z
     ·have z2:=un.fJ b ob _ z
      obtain⟨e1,_⟩:=au b _ z;obtain⟨e2,_⟩:=aci b _ z2;rw [e] at e1; cases e1;exact e2
 cases hk:K.lookup a with
 |some o=>
  have e:=KX a o hk;rw [ha] at e;cases e;refine core (λ_=>none) (λ_=>.inl rfl) (.inr ⟨_,vs.toArray,_,hk,rfl,rfl,rfl,by rw [gQ,aay]; exact hl,by simpa using rv⟩) (λb u z=>by have z':(none:Option HO)=some u:=z; cases z') (λb z=>absurd rfl z) λz=>absurd rfl z
 |none=>
  refine core (λb=>if b=a then some (.bG {cls:=.type "list",data:=.seq vs.toArray} (.lst (ns.map V.int))) else none) (λb=>?_) (.inl (.inr ⟨{cls:=.type "list",data:=.seq vs.toArray},if_pos rfl⟩)) (λb u z=>?_) (λb z=>?_) λ_=>hk
  ·by_cases hb:b=a
   ·exact .inr ⟨_,_,if_pos hb⟩
   ·exact .inl (if_neg hb)
  ·by_cases hb:b=a
   ·have z':=(if_pos hb).symm.trans z
    cases z';subst hb;exact⟨ha,by rw [cg]; exact hl,vs,_,rv,ha⟩
   ·have z':=(if_neg hb).symm.trans z
    cases z'
  ·by_cases hb:b=a
   ·exact hb
   ·exact absurd (if_neg hb) z
theorem Th {l:PySem.W.OpenLaw}{n k:Nat}{q:Program}{loose:List Str}{XP:(Str->Option Value)->Heap->Prop}{YP:World->Heap->Prop}{d:DefRec}{K:Params->ao}{CX:World->il}{sp:World->Sp}{x:Str}
  (hn:l.most=some n) (hn2:n<=sizeLine) (w8:d.params.defaults=[]) (hr:dF k callerA)
  (hY:∀(w:World) (h:Heap),YP w h->(K w.params).In h)
  (F:∀(w:World) (mg:Str->Option Value) (fa:Addr) (h:Heap),(K w.params).In h->h.Ns mainGlobals mg->mg d.name=some (.ref fa)->
   ∃fd:FuncData,(∀(s:Shared) (u:Value),BindsTo s fd ⟨[u],[]⟩ [(x,u)])/\
    ∀base:Heap,(K w.params).In base->base.Ns mainGlobals mg->fN l.prog w (K w.params) mg base (CX w) k fa fd [x] (sp w))
  (lC:∀(w:World) (H:Hp) (a:Addr) (ns:List Int),ns.length<=n->IP H->bz (K w.params) H a (ns.map V.int)->sp w [.ref a] H (λv _=>v=.bl true) λ_ _ _=>False)
  (Gx:∀(w:World) (H:Hp) (s:Shared) (e:Value) (s':Shared),CX w [] H s (λ_ _ _=>False) e s'->False) (hx:x=dZ:=by rfl) :
  PySem.W.WalkO q loose XP YP l.row.toRowW d [] (λf vs=>PySem.call f vs):=by
 refine R5.afy hn w8 λw aQ aT mg mb fa o pm cd doc a vs ns G Y ho hd i5 wU FO hints hlen hg=>?_;have KX:=hY w _ Y;obtain⟨fd,hb,hF⟩:=F w mg fa _ KX G.T.g wU;exact aaL KX G.T.g G.T.b G.T.builtins G.T.nolimit hg FO hints (bH hlen hn2) hr hF hb (λH hO hS=>lC w H a ns hlen hO hS) (λH e s'=>Gx w H aT e s') hx
noncomputable def iL (s:Stmt):Arguments:=match s with
 |.FunctionDef _ a _ _ _ _ _ _ _ _=>a
 |_=>{posonlyargs:=[],args:=[],vararg:=none,kwonlyargs:=[],kw_defaults:=[],kwarg:=none,defaults:=[]}
noncomputable def fL (s:Stmt):List Stmt:=match s with
 |.FunctionDef _ _ b _ _ _ _ _ _ _=>b
 |_=>[]
noncomputable def aV (s:Stmt):Scope:=match s with
 |.FunctionDef _ _ _ _ _ _ sc _ _ _=>sc
 |_=>{kind:=.function,names:=[],isGenerator:=false,isCoroutine:=false}
noncomputable abbrev yc:il:=λ_ _ _ _ _ _=>False
noncomputable abbrev E0:XK:=λ_ _ _=>False
theorem Yr {X:Cx}:Passes yc X E0:=λ_ _ _ _ _ _ _ h=>h.elim
structure lZ (K:ao) (x qual:Str) (st:Stmt) (f:Addr) (fd:FuncData):Prop where
 ex:∃(oc:Value) (od:Option Addr) (kV doc pm:Value) (an:Option Addr) (aR ct:Value) (lq:Array (Option Value)),
  fd=gi x qual (iL st) (fL st) (aV st) .none kV doc pm an aR ct/\K.lookup f=some ⟨oc,od,.func fd,lq⟩/\qV K aR qual=true
 kp:oR K (.ref f)=true
section
variable {P:Program}{w:World}{K:ao}{mg:Str->Option Value}{base:Heap}
theorem lZ.ok {x qual:Str}{st:Stmt}{f:Addr}{fd:FuncData}{N ps:List Str}{k:Nat}{sp:Sp}(F:lZ K x qual st f fd)(S:cD N ps (aV st))(len:∀vs H Q E,sp vs H Q E->vs.length=ps.length)
  (mQ:∀(aR:Value) (A:Around) (outer:List Env) (s:Shared) (H:Hp) (vs:List V) (Q:VK) (E:XK),dF k (A.deeper (envOfC qual (aV st) s.heap.objs.size f aR))->sp vs H Q E->
   ∃t,fj (cO yc P w K mg base N qual (aV st) f aR A outer s H E).jx (fL st) t/\t {nx:=λ_ H'=>Q .ax H',rt:=Q} (start N vs) H) (hf:ps=[dZ]->(aV st).names.lookup dZ=some .local:=by first | assumption | decide +kernel):fN P w K mg base yc (k+1) f fd ps sp:=by
 obtain⟨oc,od,kV,doc,pm,an,aR,ct,lq,rfl,lk,i5⟩:=F.ex;refine O5 lk i5 S hf len λA outer s H vs Q E hr lC=>?_;obtain⟨t,h,q⟩:=mQ aR A outer s H vs Q E hr lC;exact⟨t,h.jx,q⟩
theorem lZ.binds {x qual:Str}{st:Stmt}{f:Addr}{fd:FuncData}{ps:List Str}(F:lZ K x qual st f fd)
  (h:∀(kV doc pm:Value) (an:Option Addr) (aR ct:Value) (us:List Value),us.length=ps.length->bindArgs (gi x qual (iL st) (fL st) (aV st) .none kV doc pm an aR ct) ⟨us,[]⟩=pure (ps.zip us)):Binds K fd ps []:=by
 obtain⟨oc,od,kV,doc,pm,an,aR,ct,lq,rfl,lk,i5⟩:=F.ex;exact .all (h kV doc pm an aR ct)
theorem AY {x qual:Str}{st:Stmt}{f:Addr}{oc:Value}{od an:Option Addr}{lq:Array (Option Value)}{kV doc pm aR ct:Value}(l:K.lookup f=some ⟨oc,od,.func (gi x qual (iL st) (fL st) (aV st) .none kV doc pm an aR ct),lq⟩)
  (c:qV K aR qual=true) (k:oR K (.ref f)=true):lZ K x qual st f (gi x qual (iL st) (fL st) (aV st) .none kV doc pm an aR ct):=⟨⟨oc,od,kV,doc,pm,an,aR,ct,lq,rfl,l,c⟩,k⟩
end
section
variable {X:Cx}
theorem pv (i:Nat){x:Str}{pos:Pos}(hN:X.N[i]?=some x:=by rfl)(hv:xO X.env.scope x:=by first | exact aS rfl | exact cx (aS rfl) | exact cx (cx rfl))(hd:(x==("__debug__" : Str))=false:=by decide)
  (i5:(x==("__classdict__" : Str))=false:=by decide):PE X (.Name x pos) (oZ i):=vR hN hv hd i5
end
theorem NP {A B:Prop}(h:B):if false=true then A else B:=by
 rw [if_neg fA];exact h
noncomputable def az (H H':Hp):Prop:=∀b o,H b=some o->H' b=some o
theorem az.refl (H:Hp):az H H:=λ_ _ h=>h
theorem az.trans {H H1 H2:Hp}(a:az H H1)(b:az H1 H2):az H H2:=λc o h=>b c o (a c o h)
theorem az.seq {K:ao}{H H':Hp}{a:Addr}{xs:List V}(e:az H H')(h:bz K H a xs):bz K H' a xs:=by
 rcases h with (h | ⟨o,h⟩) | h
 ·exact .inl (.inl (e _ _ h))
 ·exact .inl (.inr ⟨o,e _ _ h⟩)
 ·exact .inr h
section
variable {κ:Type}[DecidableEq κ]
noncomputable def jY (kvs:List (κ×V))(k:κ):Option V:=(kvs.find? λkv=>decide (kv.1=k)).map (·.2)
noncomputable def putK (kvs:List (κ×V))(k:κ)(v:V):List (κ×V):=
 if (kvs.any λkv=>decide (kv.1=k))=true then kvs.map (λkv=>if kv.1=k then (kv.1,v) else kv) else kvs++[(k,v)]
theorem yW {p:κ×V}{r:List (κ×V)}{k:κ}(e:p.1=k):jY (p::r) k=some p.2:=by simp [jY,kI,e]
theorem yX {p:κ×V}{r:List (κ×V)}{k:κ}(e:¬ p.1=k):jY (p::r) k=jY r k:=by simp [jY,kI,e]
theorem JV (k:κ):∀kvs:List (κ×V),(kvs.any λkv=>decide (kv.1=k))=(jY kvs k).isSome
 | []=>rfl
 |p::r=>by
  rw [kG]
  by_cases e:p.1=k
  ·simp only [yW e,decide_eq_true e,Bool.true_or,rj]
  ·rw [yX e,decide_eq_false e,Bool.false_or]; exact JV k r
theorem Aa (kvs:List (κ×V))(k:κ)(v:V):(putK kvs k v).length<=kvs.length+1:=by
 unfold putK
 split
 ·rw [cg]; omega
 ·rw [jU,cQ,qY]; omega
theorem lY.Fm {o:Option V}{u:Option Value}(r:lY o u):o.isSome=u.isSome:=by
 cases o with
 |none=>cases u with
  |none=>rfl
  |some _=>exact zF r
 |some _=>cases u with
  |none=>exact zF r
  |some _=>rfl
theorem KV.val {kvs:List (κ×V)}{vs:List (κ×Value)}(r:KV kvs vs)(k:κ):lY (jY kvs k) (valueAt vs k):=by
 unfold KV at r
 induction r with
 |nil=>exact oM
 |@cons p q ps qs h t ih=>
  obtain⟨h1,h2⟩:=h
  by_cases e:p.1=k
  ·have e':q.1=k:=h1.symm.trans e
   have b:valueAt (q::qs) k=some q.2:=by simp [valueAt,kI,e']
   rw [yW e,b]; exact h2
  ·have e':¬ q.1=k:=λz=>e (h1.trans z)
   have b:valueAt (q::qs) k=valueAt qs k:=by simp [valueAt,kI,e']
   rw [yX e,b]; exact ih
theorem KV.any {kvs:List (κ×V)}{vs:List (κ×Value)}(r:KV kvs vs)(k:κ):(kvs.any λkv=>decide (kv.1=k))=vs.any λkv=>decide (kv.1=k):=by
 unfold KV at r
 induction r with
 |nil=>rfl
 |cons h t ih=>rw [kG,kG,ih,h.1]
theorem KV.Ee {kvs:List (κ×V)}{vs:List (κ×Value)}(r:KV kvs vs)(k:κ){y:V}{u:Value}(ry:RelV y u) :
  KV (kvs.map λkv=>if kv.1=k then (kv.1,y) else kv) (vs.map λkv=>if kv.1=k then (kv.1,u) else kv):=by
 unfold KV at r ⊢
 induction r with
 |nil=>exact .nil
 |@cons p q ps qs h t ih=>
  rw [a5,a5];refine .cons ?_ ih;obtain⟨h1,h2⟩:=h
  by_cases e:p.1=k
  ·rw [if_pos e,if_pos (h1.symm.trans e)]; exact⟨h1,ry⟩
  ·rw [if_neg e,if_neg (λz=>e (h1.trans z))]; exact⟨h1,h2⟩
theorem KV.put {kvs:List (κ×V)}{vs:List (κ×Value)}(r:KV kvs vs)(k:κ){y:V}{u:Value}(ry:RelV y u):KV (putK kvs k y) (stored vs k u):=by
 unfold putK stored;rw [r.any k]
 by_cases e:(vs.any λkv=>decide (kv.1=k))=true
 ·rw [if_pos e,if_pos e]; exact r.Ee k ry
 ·rw [if_neg e,if_neg e]; exact Paired.snoc r ⟨rfl,ry⟩
theorem KV.keys {kvs:List (κ×V)}{vs:List (κ×Value)}(r:KV kvs vs):kvs.map (·.1)=vs.map (·.1):=by
 unfold KV at r
 induction r with
 |nil=>rfl
 |cons h t ih=>rw [a5,a5,ih,h.1]
theorem KV.length {kvs:List (κ×V)}{vs:List (κ×Value)}(r:KV kvs vs):kvs.length=vs.length:=yj r
end
theorem wC {P:Program}{w:World}{k:Key}{u:Value}(r:RelV (kV k) u):(bW P w).is k u=true:=by
 cases k with
 |inl i=>obtain⟨t,e⟩:=(show ∃t,u=Value.int i t from r); subst e; exact aad P w i t
 |inr x=>obtain⟨t,e⟩:=(show ∃t,u=qP x t from r); subst e; exact MI P w x t
theorem NO {P:Program}{w:World}:∀{ks:List Key}{us:List Value},Vals (ks.map kV) us->ItemsAre (bW P w) ks us
 | [],_,r=>by rw [kF] at r; cases r; exact .nil
 |k::ks,_,r=>by
  rw [a5] at r
  cases r with
  |cons h t=>exact .cons (wC h) (NO t)
noncomputable abbrev KT (H:Hp):List (List Key×V)->List (List Key×Addr×Value)->Prop:=Paired λp q=>p.1=q.1/\H q.2.1=some (.tup (p.1.map kV))/\RelV p.2 q.2.2
theorem KT.val {H:Hp}{kvs:List (List Key×V)}{xs:List (List Key×Addr×Value)}(r:KT H kvs xs)(k:List Key):lY (jY kvs k) ((atKey xs k).map (·.2)):=by
 induction r with
 |nil=>exact oM
 |@cons p q ps qs h t ih=>
  obtain⟨h1,_,h2⟩:=h
  by_cases e:p.1=k
  ·have e':q.1=k:=h1.symm.trans e
   have b:atKey (q::qs) k=some q.2:=by simp [atKey,kI,e']
   rw [yW e,b]; exact h2
  ·have e':¬ q.1=k:=λz=>e (h1.trans z)
   have b:atKey (q::qs) k=atKey qs k:=by simp [atKey,kI,e']
   rw [yX e,b]; exact ih
theorem KT.Ee {H:Hp}{kvs:List (List Key×V)}{xs:List (List Key×Addr×Value)}(r:KT H kvs xs)(k:List Key){y:V}{u:Value}(ry:RelV y u) :
  KT H (kvs.map λkv=>if kv.1=k then (kv.1,y) else kv) (xs.map (putAt k u)):=by
 induction r with
 |nil=>exact .nil
 |@cons p q ps qs h t ih=>
  rw [a5,a5];refine .cons ?_ ih;obtain⟨h1,h2,h3⟩:=h;unfold putAt
  by_cases e:p.1=k
  ·rw [if_pos e,if_pos (h1.symm.trans e)]; exact⟨h1,h2,ry⟩
  ·rw [if_neg e,if_neg (λz=>e (h1.trans z))]; exact⟨h1,h2,h3⟩
theorem KT.put {H:Hp}{kvs:List (List Key×V)}{xs:List (List Key×Addr×Value)}(r:KT H kvs xs)(k:List Key){b:Addr}{y:V}{u:Value}(hb:H b=some (.tup (k.map kV)))(ry:RelV y u) :
  KT H (putK kvs k y) (storedH xs k b u):=by
 have e:(kvs.any λkv=>decide (kv.1=k))=(atKey xs k).isSome:=by
  rw [JV,(r.val k).Fm,BV]
 unfold putK storedH;rw [e]
 by_cases q:(atKey xs k).isSome=true
 ·rw [if_pos q,if_pos q]; exact r.Ee k ry
 ·rw [if_neg q,if_neg q]; exact Paired.snoc r ⟨rfl,hb,ry⟩
theorem KT.keeps {H H':Hp}{kvs:List (List Key×V)}{xs:List (List Key×Addr×Value)}(r:KT H kvs xs)(ht:∀b ys,H b=some (.tup ys)->H' b=some (.tup ys)):KT H' kvs xs:=
 Paired.EM r λ_ _ z=>⟨z.1,ht _ _ z.2.1,z.2.2⟩
section
variable {P:Program}{w:World}{H:Hp}{h:Heap}{a:Addr}
theorem Lr {u:HO}(ok:cc P w H h)(e:Rd H a u):d5 P w H h a u:=e.ok ok
theorem um {kvs:List (Key×V)}(ok:cc P w H h)(e:Rd H a (.dK kvs)):kvs.length<=sizeLine/\(a==sysModules)=false/\∃vs,KV kvs vs/\h.DictOf (bW P w) a vs:=
 show d5 P w H h a (.dK kvs) from Lr ok e
theorem Ql {kvs:List (Key×V)}(ok:cc P w H h)(e:H a=some (.dK kvs)):kvs.length<=sizeLine/\(a==sysModules)=false/\∃vs,KV kvs vs/\h.DictOf (bW P w) a vs:=um ok (.inl e)
theorem Ad {ks:List Key}(ok:cc P w H h)(e:H a=some (.tup (ks.map kV))):(tupleKind (bW P w)).is h ks a:=by
 obtain⟨_,ak,r,o,h1,h2,n,h3⟩:=(show d5 P w H h a (.tup (ks.map kV)) from ok a _ e)
 exact⟨o,ak.toArray,n,h1,h2,h3,by simpa using NO r⟩
theorem Bg {kvs:List (List Key×V)}(ok:cc P w H h)(e:Rd H a (.dT kvs)):kvs.length<=sizeLine/\(a==sysModules)=false/\
  ∃xs,KT H kvs xs/\h.DictOfH (tupleKind (bW P w)) a xs:=by
 obtain⟨z,y,xs,r,o,es,ep,h1,h2,h3,h4,h5⟩:=(show d5 P w H h a (.dT kvs) from Lr ok e)
 refine⟨z,y,xs,r,o,es,ep,h1,h2,h3,h4,λx hx=>?_,h5⟩;have all:∀{l:List (List Key×V)} {m:List (List Key×Addr×Value)},KT H l m->∀x∈m,(tupleKind (bW P w)).is h x.1 x.2.1:=by
  intro l m q
  induction q with
  |nil=>intro x hx; exact nomatch hx
  |@cons p q ps qs hq t ih=>
   intro x hx;rcases aO.mp hx with e | hx
   ·subst e
    exact Ad ok (by rw [← hq.1]; exact hq.2.1)
   ·exact ih x hx
 exact all r x hx
theorem aep {kvs:List (List Key×V)}(ok:cc P w H h)(e:H a=some (.dT kvs)):kvs.length<=sizeLine/\(a==sysModules)=false/\
  ∃xs,KT H kvs xs/\h.DictOfH (tupleKind (bW P w)) a xs:=Bg ok (.inl e)
end
noncomputable def qL (H:Hp)(a:Addr)(y:V)(r:Option V):Prop:=
 (∃kvs k,Rd H a (.dK kvs)/\y=kV k/\r=jY kvs k)∨∃kvs k b,Rd H a (.dT kvs)/\y=.ref b/\H b=some (.tup (k.map kV))/\r=jY kvs k
noncomputable def R4 (H:Hp)(a:Addr)(y v:V)(H':Hp):Prop:=
 (∃kvs k,H a=some (.dK kvs)/\y=kV k/\kvs.length<sizeLine/\H'=upd H a (.dK (putK kvs k v)))∨
 ∃kvs k b,H a=some (.dT kvs)/\y=.ref b/\H b=some (.tup (k.map kV))/\kvs.length<sizeLine/\H'=upd H a (.dT (putK kvs k v))
section
variable {X:Cx}{pins:List (Addr×Obj)}{σ:St}{H:Hp}{s:Shared}{a:Addr}{y v:V}{u r:Value}{o:Option V}{A:Around}{E:Value->Shared->Prop}
theorem Inv.big (I:Inv X pins σ H s):sysModules<s.heap.objs.size:=by
 have h:mainGlobals<s.heap.objs.size:=(I.mod.glob.keeps I.bk).lt;exact qQ (by decide) h
theorem aeF {Q:Value->Shared->Prop}(hu:A.units+1<cLine)(I:Inv X pins σ H s)(g:qL H a y (some v))(ry:RelV y u)(h:∀w' s',Inv X pins σ H s'->RelV v w'->Q w' s') :
  wpAny (model X.prog X.w) A (getItem (.ref a) u) Q E s:=by
 rcases g with ⟨kvs,k,e,ey,l⟩ | ⟨kvs,k,b,e,ey,eb,l⟩
 ·subst ey
  obtain⟨z,hd,vs,rel,dd⟩:=um I.au e;obtain⟨w',hw,gY⟩:=lY.some_of (v:=v) (o:=valueAt vs k) (by rw [l]; exact rel.val k);exact wpAny_getItem_of (wC ry) dd.mapOf hw (h w' _ (I.tok _) gY)
 ·subst ey
  cases (show u=bx b from ry)
  obtain⟨z,hd,xs,rel,dd⟩:=Bg I.au e;obtain⟨w',hw,gY⟩:=lY.some_of (v:=v) (o:=(atKey xs k).map (·.2)) (by rw [l]; exact rel.val k);obtain⟨p,hp,fY⟩:=gr.mp hw;refine wpAny_getItem_heap (tupleKind_room_in1 hu) (Ad I.au eb) dd hp ?_;rw [fY];exact h w' _ (I.tok _ (cK I.tk (jS _ _))) gY
theorem aeE {Q:Value->Shared->Prop}(hu:A.units+1<cLine)(I:Inv X pins σ H s)(g:qL H a y o)(ry:RelV y u)(h:∀s',Inv X pins σ H s'->Q (.bool o.isSome) s') :
  wpAny (model X.prog X.w) A (compareOp .In u (.ref a)) Q E s:=by
 rcases g with ⟨kvs,k,e,ey,l⟩ | ⟨kvs,k,b,e,ey,eb,l⟩
 ·subst ey
  obtain⟨z,hd,vs,rel,dd⟩:=um I.au e;refine wpAny_in_of (wC ry) hd dd.mapOf ?_;rw [← (rel.val k).Fm,← l];exact h _ (I.tok _)
 ·subst ey
  cases (show u=bx b from ry)
  obtain⟨z,hd,xs,rel,dd⟩:=Bg I.au e;refine wpAny_in_heap (tupleKind_room_in1 hu) (Ad I.au eb) hd dd ?_;have q:=(rel.val k).Fm;rw [BV] at q;rw [← q,← l];exact h _ (I.tok _ (cK I.tk (jS _ _)))
theorem Hn {h':Heap}{t':Nat}{ob:HO}(I:Inv X pins σ H s)(mu:xS (H a))(hs:fQ a s.heap h')(he:∃q,h'.get? a=some q)(new:d5 X.prog X.w (upd H a ob) h' a ob)(ht:0<t':=by first | assumption | exact Inv.tk (by assumption) | exact cK (Inv.tk (by assumption)) (jS _ _)) :
  Inv X pins σ (upd H a ob) {s with heap:=h',toks:=t'}:=
 I.write (x:=a) (e:=a) mu (.inl rfl) (λb q hb z=>(hs.2 b hb).trans z) he new ht
theorem Bj {P:Program}{w:World}{H':Hp}{h':Heap}{kvs:List (Key×V)}{vs:List (Key×Value)}(z:kvs.length<=sizeLine)(hd:(a==sysModules)=false)(rel:KV kvs vs)(dd:h'.DictOf (bW P w) a vs) :
  d5 P w H' h' a (.dK kvs):=⟨z,hd,vs,rel,dd⟩
theorem aeD {H':Hp}{Q:Unit->Shared->Prop}(hu:A.units+1<cLine)(I:Inv X pins σ H s)(g:R4 H a y v H')(ry:RelV y u)(rv:RelV v r)(h:∀s',Inv X pins σ H' s'->Q () s') :
  wpAny (model X.prog X.w) A (setItem (.ref a) u r) Q E s:=by
 rcases g with ⟨kvs,k,e,ey,l,eH⟩ | ⟨kvs,k,b,e,ey,eb,l,eH⟩
 ·subst ey eH
  obtain⟨z,hd,vs,rel,dd⟩:=Ql I.au e;have hz:vs.length<=sizeLine:=by rw [← rel.length]; exact z
  have hl:(putK kvs k v).length<=sizeLine:=by have:=Aa kvs k v; omega
  refine wpAny_setItem_pairs (hsz:=hz) (wC ry) dd λh' mZ hs=>h _ ?_;have he:∃q,h'.get? a=some q:=let ⟨q,_,_,hq,_⟩:=mZ; ⟨q,hq⟩
  exact Hn I (by rw [e]; exact oM) hs he (Bj hl hd (rel.put k rv) mZ)
 ·subst ey eH
  cases (show u=bx b from ry)
  obtain⟨z,hd,xs,rel,dd⟩:=aep I.au e;have hz:xs.length<=sizeLine:=by rw [← yj rel]; exact z
  have hl:(putK kvs k v).length<=sizeLine:=by have:=Aa kvs k v; omega
  refine wpAny_setItem_heap (hsz:=hz) (tupleKind_room_in1 hu) (Ad I.au eb) dd λh' mZ hs=>h _ ?_;obtain⟨q,es,ep,hq,h2,h3,h4,_,h5⟩:=mZ;refine Hn I (by rw [e]; exact oM) hs ⟨q,hq⟩ ⟨hl,hd,_,(rel.put k eb rv).keeps λc ys ec=>?_,q,es,ep,hq,h2,h3,h4,h5⟩;rw [ba (ZZ ec e (λz=>nomatch z))];exact ec
end
noncomputable def IQ (i:Expr):Prop:=∀ov iv,subscripted i false ov iv=operate [ov,iv] (getItem ov iv)
theorem U3 {prog:Program}{w:World}{A:Around}{E:Value->Shared->Prop}{s:Shared}{env:Env}{value slice:Expr}{pos:Pos}{T id:String}{Q:Value->Shared->Prop}
  (hl:typeLookup (.type T) "__getitem__" = pure (some (.builtin id))) (hs:IQ slice)
  (h:wpAny (model prog w) A (eval value env) (λo aT=>wpAny (model prog w) A (eval slice env) (λi gx=>gx.TypeIs o T/\wpAny (model prog w) A (getItem o i) Q E gx) E aT) E s) :
  wpAny (model prog w) A (eval (.Subscript value slice pos) env) Q E s:=by
 refine Subscript_ (wpAny_mono h (λo aT eP=>wpAny_mono eP (λi gx pT=>?_) λ_ _ x=>x) λ_ _ x=>x);obtain⟨hT,pT⟩:=pT;unfold subscriptTail;refine wpAny_bind ?_;rw [getitemInPython_of_ne hT.not_modules];refine wpAny_bind (wpAny_specialOf hT hl ?_);have fin:wpAny (model prog w) A (subscripted slice false o i) (λr gu=>wpAny (model prog w) A (letTemporaryGo value o r >>= λ_=>pure r) Q E gu) E gx:=by
  rw [hs o i];exact wpAny_operating (wpAny_mono pT (λr gu kg=>wpAny_bind (wpAny_letTemporaryGo (wpAny_pure kg))) λ_ _ x=>x)
 first
  |exact wpAny_pure (wpAny_bind fin)
  |exact wpAny_bind (wpAny_pure (wpAny_bind fin))
  |exact wpAny_bind fin
theorem aeu {X:Cx}{pins:List (Addr×Obj)}{σ:St}{H:Hp}{s:Shared}{a:Addr}{y:V}{o:Option V}(I:Inv X pins σ H s)(g:qL H a y o):s.TypeIs (.ref a) "dict" := by
 rcases g with ⟨kvs,k,e,_,_⟩ | ⟨kvs,k,b,e,_,_,_⟩
 ·obtain⟨_,_,vs,_,dd⟩:=um I.au e
  exact dd.typeIs
 ·obtain⟨_,_,xs,_,dd⟩:=Bg I.au e
  exact dd.typeIs
noncomputable def UR (td ty:TE):TE:=λσ H Q=>td σ H λx H1=>ty σ H1 λy H2=>∃a v,x=.ref a/\qL H2 a y (some v)/\Q v H2
noncomputable def Wm (td ty tv:TE):TS:=λD σ H=>tv σ H λv H1=>td σ H1 λx H2=>ty σ H2 λy H3=>∃a H4,x=.ref a/\R4 H3 a y v H4/\D.nx σ H4
section
variable {X:Cx}{o i e value:Expr}{pos pos' dS:Pos}{td ty tv:TE}
theorem Yj (hu:X.A.units+1<cLine)(ho:PE X o td)(hi:PE X i ty)(hs:IQ i):PE X (.Subscript o i pos) (UR td ty):=by
 intro pins s σ H Q I h;refine U3 PySem.F.slot_dict_getitem.lookup hs (aB (ho pins s σ H _ I h) λu s1 ⟨x,H1,I1,rx,q1⟩=>aB (hi pins s1 σ H1 _ I1 q1) λiv s2 ⟨y,H2,I2,ry,a,v,ex,g,q2⟩=>?_);subst ex;obtain rfl:u=bx a:=rx;exact⟨aeu I2 g,aeF hu I2 g ry λw' s3 I3 gY=>(λht=>⟨v,H2,I3,gY,q2⟩)⟩
theorem XG (hu:X.A.units+1<cLine)(ho:PE X o td)(hi:PE X i ty)(hv:PE X value tv)(hs:swapsWith value (some (.Subscript o i pos')) pos.line X.env=pure false) :
  PS X (.Assign [.Subscript o i pos'] value pos) (Wm td ty tv):=by
 intro pins s σ H D I h;refine wpAny_Assign_Subscript (aB (hv pins s σ H _ I h) λr s1 ⟨v,H1,I1,rv,q1⟩=>aB (ho pins s1 σ H1 _ I1 q1) λu s2 ⟨x,H2,I2,rx,q2⟩=>aB (hi pins s2 σ H2 _ I2 q2) λiv s3 ⟨y,H3,I3,ry,a,H4,ex,g,q3⟩=>?_) hs;subst ex;obtain rfl:u=bx a:=rx;exact aeD hu I3 g ry rv λs4 I4=>(λht=>⟨σ,H4,I4,q3⟩)
end
theorem Qm {P:Program}{w:World}{H:Hp}(h:Heap)(hb:sysModules<h.objs.size):d5 P w H (h.push {cls:=.type "dict",data:=.dict #[]}) h.objs.size (.dK []):=
 ⟨fP _,beq_eq_false_iff_ne.mpr (cz (a9 hb)),[],.nil,Heap.DictOf.new h⟩
noncomputable def UQ:TE:=λ_ H Q=>∀p,H p=none->Q (.ref p) (upd H p (.dK []))
section
variable {X:Cx}{pos:Pos}
theorem L5:PE X (.Dict [] [] pos) UQ:=λpins s σ H Q I h=>
 wpAny_Dict_empty (λht=>⟨.ref s.heap.objs.size,_,I.laid (a:=s.heap.objs.size) (o:=.dK []) (t':=s.toks) (λ_ _ q=>aI _ q) (aN _) (Qm s.heap I.big),rfl,h _ (I.au.fresh (aN _))⟩)
end
noncomputable def zf:List (TE×TE)->St->Hp->(List (V×V)->Hp->Prop)->Prop
 | [],_,H,Q=>Q [] H
 | (tk,tv)::r,σ,H,Q=>tk σ H λx H1=>tv σ H1 λy H2=>zf r σ H2 λps H3=>Q ((x,y)::ps) H3
noncomputable abbrev VV:List (V×V)->List (Value×Value)->Prop:=Paired λp q=>RelV p.1 q.1/\RelV p.2 q.2
noncomputable def qG (X:Cx)(pos:Pos)(keys:List (Option Expr))(values:List Expr)(mm:List (TE×TE)):Prop:=
 ∀(pins:List (Addr×Obj)) (s:Shared) (σ:St) (H:Hp) (Q:List (V×V)->Hp->Prop),Inv X pins σ H s->zf mm σ H Q->
  wpAny (model X.prog X.w) X.A (evalPairs (pairTrees keys values X.env pos)) (Lz λvs s'=>∃ps H',Inv X pins σ H' s'/\VV ps vs/\Q ps H') X.xe s
theorem LR {X:Cx}{pos:Pos}:qG X pos [] [] []:=λpins s σ H Q I h=>pairTrees_nil_walk (λht=>⟨[],H,I,.nil,h⟩)
theorem XI {X:Cx}{pos:Pos}{k v:Expr}{ks:List (Option Expr)}{vs:List Expr}{tk tv:TE}{mm:List (TE×TE)}(hk:PE X k tk)(hv:PE X v tv)(hr:qG X pos ks vs mm) :
  qG X pos (some k::ks) (v::vs) ((tk,tv)::mm):=λpins s σ H Q I h=>
 pairTrees_cons_walk (aB (hk pins s σ H _ I h) λu s1 ⟨x,H1,I1,rx,q1⟩=>aB (hv pins s1 σ H1 _ I1 q1) λw2 s2 ⟨y,H2,I2,ry,q2⟩=>
  aB (hr pins s2 σ H2 _ I2 q2) λws s3 ⟨ps,H3,I3,rel,q3⟩=>(λht=>⟨(x,y)::ps,H3,I3,.cons ⟨rx,ry⟩ rel,q3⟩))
noncomputable def nY (kvs more:List (Key×V)):List (Key×V):=more.foldl (λacc kv=>putK acc kv.1 kv.2) kvs
theorem KV.merge:∀{more:List (Key×V)}{rs:List (Key×Value)}{kvs:List (Key×V)}{vs:List (Key×Value)},KV more rs->KV kvs vs->KV (nY kvs more) (merged vs rs):=by
 intro more rs kvs vs r;unfold KV at r
 induction r generalizing kvs vs with
 |nil=>intro q; exact q
 |@cons p q ps qs h t ih=>
  intro r0;have e:KV (putK kvs p.1 p.2) (stored vs q.1 q.2):=by
   have:=r0.put p.1 h.2;rw [← h.1]; exact this
  exact ih e
theorem EU:∀(more kvs:List (Key×V)),(nY kvs more).length<=kvs.length+more.length
 | [],kvs=>by show kvs.length<=kvs.length+0; omega
 |p::r,kvs=>by
  have h1:=EU r (putK kvs p.1 p.2);have h2:=Aa kvs p.1 p.2;show (nY (putK kvs p.1 p.2) r).length<=_;rw [cQ]; omega
theorem QT {P:Program}{w:World}:∀{kvs:List (Key×V)}{ws:List (Value×Value)},VV (kvs.map λkv=>(kV kv.1,kv.2)) ws->∃rs,Carries (bW P w) ws rs/\KV kvs rs
 | [],_,r=>by rw [kF] at r; cases r; exact⟨[],oM,.nil⟩
 |p::kvs,_,r=>by
  rw [a5] at r
  cases r with
  |@cons a b as bs h t=>
   obtain⟨rs,c,q⟩:=QT (P:=P) (w:=w) t;obtain⟨b1,b2⟩:=b;exact⟨(p.1,b2)::rs,⟨wC h.1,rfl,c⟩,.cons ⟨rfl,h.2⟩ q⟩
noncomputable def UO (mm:List (TE×TE)):TE:=λσ H Q=>∀p,H p=none->zf mm σ (upd H p (.dK [])) λps H2=>H2 p=some (.dK [])/\∃kvs:List (Key×V),ps=kvs.map (λkv=>(kV kv.1,kv.2))/\kvs.length<=15/\Q (.ref p) (upd H2 p (.dK (nY [] kvs)))
theorem Yi {X:Cx}{pos:Pos}{keys:List (Option Expr)}{values:List Expr}{mm:List (TE×TE)}(h:qG X pos keys values mm)(xc:keys.all (·.isSome)=true)(hl:keys.length=values.length)(h0:keys≠[])
  (Gy:keys.length<=15):PE X (.Dict keys values pos) (UO mm):=by
 intro pins s σ H Q I q;have hn:=I.au.fresh (aN s.heap.objs.size);have I1:=I.laid (a:=s.heap.objs.size) (o:=.dK []) (h':=s.heap.push {cls:=.type "dict",data:=.dict #[]}) (t':=s.toks) (λ_ _ q=>aI _ q) (aN _) (Qm s.heap I.big)
 refine wpAny_Dict_walk (knd:=bW X.prog X.w) xc hl h0 Gy (aB (h pins _ σ _ _ I1 (q _ hn)) λws s2 ⟨ps,H2,I2,rel,e,kvs,ep,lk,q2⟩=>?_);subst ep;obtain⟨rs,c,rk⟩:=QT (P:=X.prog) (w:=X.w) rel;obtain⟨z,hd,vs0,r0,dd⟩:=Ql I2.au e;cases r0;refine⟨rs,c,dd,λh' mZ hs=>(λht=>⟨.ref s.heap.objs.size,_,?_,rfl,q2⟩)⟩;have hz:(nY [] kvs).length<=sizeLine:=by
  have h1:=EU kvs [];rw [qY] at h1;rw [sizeLine_eq]; omega
 have he:∃q,h'.get? s.heap.objs.size=some q:=let ⟨q,_,_,hq,_⟩:=mZ; ⟨q,hq⟩
 exact Hn I2 (by rw [e]; exact oM) hs he (Bj hz hd (rk.merge .nil) mZ)
section
variable {X:Cx}{pins:List (Addr×Obj)}{σ:St}{H:Hp}{s:Shared}{a:Addr}{kvs:List (Key×V)}{A:Around}{E:Value->Shared->Prop}
theorem QD {Q:Value->Shared->Prop}(I:Inv X pins σ H s)(e:Rd H a (.dK kvs))(h:∀p s',H p=none->Inv X pins σ (upd H p (.dK kvs)) s'->Q (.ref p) s'):wpAny (model X.prog X.w) A (call (.type "dict") [.ref a]) Q E s:=by
 obtain⟨z,hd,vs,rel,dd⟩:=um I.au e;refine kt_call_dict hd dd (by rw [← rel.length]; exact z) λh' mZ hs=>?_;refine h _ _ (I.au.fresh (aN _)) (I.laid (a:=s.heap.objs.size) (o:=.dK kvs) (t':=s.toks) (λb q hq=>?_) (aN _) (Bj z (beq_eq_false_iff_ne.mpr (cz (a9 I.big))) rel mZ));exact(hs.2 b (a9 (aK hq))).trans (aI _ hq)
end
end L2
set_option maxHeartbeats 4000000
namespace L2
open PySem PySem.Spec PyProof.Rows
noncomputable def jK (names:List (Str×NameKind))(cells:List (Str×Addr)):List (Str×Addr):=
 names.foldl (λcs p=>if p.2 == .free then (p.1,(cells.lookup p.1).getD 0)::cs else cs) []
theorem QN {env:Env}:∀(names:List (Str×NameKind)) (cs:List (Str×Addr)),(∀x∈names,x.2=.free->∃c,env.cells.lookup x.1=some c)->
  (forIn names cs (fun(x:Str×NameKind) (cs:List (Str×Addr))=>match x with | (name,kind)=>if (kind==oQ)=true then do let a ← cellOf env name; pure (nq ((name,a)::cs)) else pure (nq cs)):Sem (List (Str×Addr)))
   = pure (names.foldl (λcs p=>if p.2 == .free then (p.1,(env.cells.lookup p.1).getD 0)::cs else cs) cs)
 | [],cs,_=>rfl
 | (n,k)::r,cs,h=>by
  rw [uU,kH];have ih:=λcs'=>QN (env:=env) r cs' λx hx=>h x (bR _ hx)
  cases hk:(k==oQ) with
  |false=>
   simp only [hk,cF,if_false,pure_bind];exact ih cs
  |true=>
   obtain⟨c,hc⟩:=h (n,k) bu (by simpa using hk);have e:cellOf env n=pure c:=by unfold cellOf; rw [hc]
   simp only [hk,if_true,e,pure_bind];rw [hc];exact ih _
theorem Hs {scope:Scope}{env:Env}(h:∀x∈scope.names,x.2=.free->∃c,env.cells.lookup x.1=some c):closureFor scope env=pure (jK scope.names env.cells):=by
 unfold closureFor;have:=QN (env:=env) scope.names [] h;simp only [bind_pure];exact this
theorem QM {cells:List (Str×Addr)}{x:Str}{c:Addr}:∀(names:List (Str×NameKind)) (cs:List (Str×Addr)),
  (∀y∈names,y.2=.free->∃c,cells.lookup y.1=some c)->(∀c,cs.lookup x=some c->cells.lookup x=some c)->
  (names.foldl (λcs p=>if p.2 == .free then (p.1,(cells.lookup p.1).getD 0)::cs else cs) cs).lookup x=some c->cells.lookup x=some c
 | [],cs,_,h2,h=>h2 c h
 | (n,k)::r,cs,h1,h2,h=>by
  rw [kH] at h;refine QM r _ (λy hy=>h1 y (bR _ hy)) (λd hd=>?_) h
  cases hk:(k==oQ) with
  |false=>
   simp only [hk,cF,if_false] at hd;exact h2 d hd
  |true=>
   obtain⟨e,he⟩:=h1 (n,k) bu (by simpa using hk);simp only [hk,if_true,kJ] at hd
   cases hx:x==n with
   |false=>rw [hx] at hd; exact h2 d hd
   |true=>
    rw [hx] at hd;have Fy:x=n:=by simpa using hx
    subst Fy;rw [he] at hd;simp at hd;rw [he,hd]
theorem uu {names:List (Str×NameKind)}{cells:List (Str×Addr)}{x:Str}{c:Addr}(h1:∀y∈names,y.2=.free->∃c,cells.lookup y.1=some c)(h:(jK names cells).lookup x=some c):cells.lookup x=some c:=
 QM names [] h1 (λ_ z=>by simp at z) h
theorem Ht {cells:List (Str×Addr)}{x:Str}:∀(names:List (Str×NameKind)) (cs:List (Str×Addr)),
  ((x,oQ)∈names∨∃c,cs.lookup x=some c)->∃c,(names.foldl (λcs p=>if p.2 == .free then (p.1,(cells.lookup p.1).getD 0)::cs else cs) cs).lookup x=some c
 | [],cs,h=>by
  rcases h with h | h
  ·cases h
  ·exact h
 | (n,k)::r,cs,h=>by
  rw [kH];refine Ht r _ ?_;rcases h with h | ⟨c,h⟩
  ·rcases aO.mp h with h | h
   ·right
    injection h with h1 h2;subst h1 h2;exact⟨(cells.lookup x).getD 0,by simp [kJ]⟩
   ·exact .inl h
  ·right
   cases hk:(k==oQ) with
   |false=>exact⟨c,by simp only [hk,cF,if_false]; exact h⟩
   |true=>
    simp only [hk,if_true,kJ]
    cases hx:x==n with
    |false=>exact⟨c,h⟩
    |true=>exact⟨_,rfl⟩
theorem lookup_mem {names:List (Str×NameKind)}{x:Str}{k:NameKind}(h:names.lookup x=some k):(x,k)∈names:=by
 induction names with
 |nil=>simp at h
 |cons p r ih=>
  obtain⟨n,l⟩:=p;rw [kJ] at h
  cases hx:x==n with
  |false=>rw [hx] at h; exact bR _ (ih h)
  |true=>
   rw [hx] at h;have Fy:x=n:=by simpa using hx
   subst Fy;cases h;exact bu
theorem z9 {env:Env}:∀{names:List (Str×NameKind)}{x:Str}{k:NameKind},
  (names.map fun(n,k)=>if (k==oQ&&env.scope.kind == .function&&env.kindOf n==some .cell) then (n,nI) else (n,k)).lookup x=some k->
   names.lookup x=some k∨(k=.cell/\names.lookup x=some .free)
 | [],_,_,h=>by simp at h
 | (n,l)::r,x,k,h=>by
  have ih:=@z9 env r x k;rw [a5] at h
  by_cases hc:(l==oQ&&env.scope.kind == .function&&env.kindOf n==some .cell)=true
  ·simp only [hc,if_true] at h
   rw [kJ] at h ⊢
   cases hx:x==n with
   |true=>
    rw [hx] at h;cases h;have hl:l=.free:=by
     have:=(yH.mp (yH.mp hc).1).1;simpa using this
    subst hl;exact .inr ⟨rfl,rfl⟩
   |false=>rw [hx] at h; exact ih h
  ·simp only [hc] at h
   simp only [cF,if_false] at h;rw [kJ] at h ⊢
   cases hx:x==n with
   |true=>rw [hx] at h; exact .inl h
   |false=>rw [hx] at h; exact ih h
theorem Hv {x:Str}{c:Addr}:∀(names:List (Str×NameKind)) (n:Nat) (acc:List (Str×Addr)),(cellsFrom n names acc).lookup x=some c->
  (n<=c/\(x,nI)∈names)∨(acc.lookup x=some c/\∀k,(x,k)∈names->k≠.cell)
 | [],n,acc,h=>.inr ⟨h,λ_ z=>nomatch z⟩
 | (y,k)::r,n,acc,h=>by
  unfold cellsFrom at h
  by_cases hk:(k==nI)=true
  ·rw [if_pos hk] at h
   have iC:k=.cell:=by simpa using hk
   subst iC;rcases Hv r _ _ h with ⟨a,b⟩ | ⟨a,b⟩
   ·exact .inl ⟨by omega,bR _ b⟩
   ·rw [kJ] at a
    cases hx:x==y with
    |true=>
     rw [hx] at a;have e:n=c:=by simpa using a
     have hxy:x=y:=by simpa using hx
     subst hxy;exact .inl ⟨by omega,bu⟩
    |false=>
     rw [hx] at a;refine .inr ⟨a,λk' z=>?_⟩;rcases aO.mp z with z | z
     ·injection z with z1 z2
      subst z1;simp at hx
     ·exact b k' z
  ·rw [if_neg hk] at h
   rcases Hv r _ _ h with ⟨a,b⟩ | ⟨a,b⟩
   ·exact .inl ⟨a,bR _ b⟩
   ·refine .inr ⟨a,λk' z=>?_⟩
    rcases aO.mp z with z | z
    ·injection z with z1 z2
     subst z2;intro e;exact hk (by rw [e]; rfl)
    ·exact b k' z
theorem Hw:∀(names:List (Str×NameKind)) (n:Nat) (acc:List (Str×Addr)),(∀z d,acc.lookup z=some d->d<n)->(∀x y c,acc.lookup x=some c->acc.lookup y=some c->x=y)->
  ∀x y c,(cellsFrom n names acc).lookup x=some c->(cellsFrom n names acc).lookup y=some c->x=y
 | [],_,_,_,h=>h
 | (y,k)::r,n,acc,hb,hi=>by
  unfold cellsFrom
  by_cases hk:(k==nI)=true
  ·rw [if_pos hk]
   refine Hw r _ _ (λz d e=>?_) λu v c e1 e2=>?_
   ·rw [kJ] at e
    cases hx:z==y with
    |true=>rw [hx] at e; have q:n=d:=(by simpa using e); rw [← q]; exact uW n
    |false=>rw [hx] at e; exact l8 (hb z d e)
   ·rw [kJ] at e1 e2
    cases hx:u==y with
    |true=>
     rw [hx] at e1;have q1:n=c:=by simpa using e1
     cases hy:v==y with
     |true=>rw [(by simpa using hx:u=y),(by simpa using hy:v=y)]
     |false=>rw [hy] at e2; exact absurd (hb v c e2) (by rw [← q1]; exact eI _)
    |false=>
     rw [hx] at e1
     cases hy:v==y with
     |true=>rw [hy] at e2; have q2:n=c:=(by simpa using e2); exact absurd (hb u c e1) (by rw [← q2]; exact eI _)
     |false=>rw [hy] at e2; exact hi u v c e1 e2
  ·rw [if_neg hk]
   exact Hw r _ _ hb hi
theorem Bm:∀(names:List (Str×NameKind)) (h:Heap) (acc:List (Str×Addr)),(∀z d,acc.lookup z=some d->∃v,h.IsCell d v)->
  ∀x c,(cellsFrom h.objs.size names acc).lookup x=some c->∃v,(pushCells h names).IsCell c v
 | [],_,_,h=>h
 | (y,k)::r,h,acc,hb=>by
  unfold cellsFrom pushCells
  by_cases hk:(k==nI)=true
  ·rw [if_pos hk,if_pos hk]
   have:=Bm r (h.push {cls:=.type "cell",data:=.cell none}) ((y,h.objs.size)::acc) λz d e=>by
    rw [kJ] at e
    cases hx:z==y with
    |true=>
     rw [hx] at e;have q:h.objs.size=d:=by simpa using e
     subst q;exact⟨none,_,bE _ rfl,rfl⟩
    |false=>
     rw [hx] at e;obtain⟨v,q⟩:=hb z d e;exact⟨v,q.keeps λb o e=>aI _ e⟩
   rwa [gk] at this
  ·rw [if_neg hk,if_neg hk]
   exact Bm r h acc hb
theorem Mx {M:Model}{A:Around}{E:Value->Shared->Prop}{s:Shared}{scope:Scope}{globals:Addr}{cl:List (Str×Addr)}{qual:Str}{env:Env}{Q:Env->Shared->Prop}
  (h:Q {scope:=scope,locals:=s.heap.objs.size,globals:=globals,cells:=cellsFrom (s.heap.objs.size+1) scope.names cl,qual:=qual,func:=none,code:=env.code,frame:=env.frame,builtins:=env.builtins}
   {s with heap:=pushCells (s.heap.push {cls:=.type "dict",data:=.dict #[]}) scope.names}):wpAny M A (newFunctionEnv scope globals cl [] qual none .none (some env)) Q E s:=by
 simp only [newFunctionEnv,rj,if_true];refine wpAny_bind (wpAny_alloc ?_);refine wpAny_bind (wpAny_layCells _ (λname kind cells=>by cases FZ:kind==nI <;> simp [FZ]) _ _ _ _ ?_);rw [show ({s with heap:=s.heap.push {cls:=.type "dict",data:=.dict #[]}}:Shared).heap.objs.size=s.heap.objs.size+1 from gk ..]
 exact wpAny_bind (wpAny_pure (wpAny_pure h))
noncomputable def bL (X:Cx)(scope:Scope)(N:List Str)(pins:List (Addr×Obj))(fp:List Addr)(s:Shared)(H:Hp):Cx where
 prog:=X.prog
 w:=X.w
 K:=X.K
 mg:=X.mg
 base:=X.base
 A:=X.A
 N:=N
 aQ:=s
 bQ:=H
 env:=compEnvC scope (cellsFrom (s.heap.objs.size+1) scope.names (jK scope.names X.env.cells)) s.heap.objs.size X.env
 outer:=X.stack
 stack:=X.stack
 ex:=fp
 fn:=λx=>scope.names.lookup x==some .cell
 calm:=X.calm
 pn:=X.pn++pins
 xe:=λ_ _=>False
structure eG (X:Cx) (scope:Scope) (N:List Str) (k:Nat) (fr:List Nat):Prop where
 kind:scope.kind=.function
 owned:(scope.names.all λy=>y.2 != .cell || scope.names.lookup y.1==some .cell)=true
 names:(scope.names.all λy=>y.2 != .local || scope.names.lookup y.1==some .local)=true
 free:(scope.names.all λy=>y.2 != .free || (X.env.kindOf y.1==some .cell || X.env.kindOf y.1==some .free))=true
 len:N.length=k+fr.length
 at_:((bf fr.length).all λi=>match N[k+i]?,fr[i]? with | some x,some j=>X.N[j]?==some x&&scope.names.lookup x==some .free | _,_=>false)=true
section
variable {X:Cx}{scope:Scope}{N:List Str}{k:Nat}{fr:List Nat}
theorem eG.frees (S:eG X scope N k fr):∀y∈scope.names,y.2=.free->X.env.kindOf y.1=some .cell∨X.env.kindOf y.1=some .free:=λy hy e=>by
 have h:=dR.mp S.free y hy;simp only [e] at h;simpa using h
theorem eG.cells (S:eG X scope N k fr)(ok:X.Ok):∀y∈scope.names,y.2=.free->∃c,X.env.cells.lookup y.1=some c:=λy hy e=>ok.has y.1 (S.frees y hy e)
theorem eG.locals (S:eG X scope N k fr):∀y∈scope.names,y.2=.local->scope.names.lookup y.1=some .local:=λy hy e=>by
 have h:=dR.mp S.names y hy;simp only [e] at h;simpa using h
theorem eG.own (S:eG X scope N k fr){x:Str}(h:(x,nI)∈scope.names):scope.names.lookup x=some .cell:=by
 have h:=dR.mp S.owned _ h;simpa using h
theorem eG.look (S:eG X scope N k fr)(ok:X.Ok){n:Nat}{x:Str}{c:Addr}(h:(cellsFrom n scope.names (jK scope.names X.env.cells)).lookup x=some c) :
  (n<=c/\scope.names.lookup x=some .cell)∨(X.env.cells.lookup x=some c/\scope.names.lookup x≠some .cell):=by
 rcases Hv _ _ _ h with ⟨a,b⟩ | ⟨a,b⟩
 ·exact .inl ⟨a,S.own b⟩
 ·exact .inr ⟨uu (S.cells ok) a,λz=>b _ (lookup_mem z) rfl⟩
noncomputable def fD (k:Nat)(fr:List Nat)(σ:St):St:=bM k none++fr.map λj=>(σ[j]?).getD none
variable {pins:List (Addr×Obj)}{σ:St}{H:Hp}{s:Shared}{fp:List Addr}
theorem Zn (S:eG X scope N k fr)(I:Inv X pins σ H s)(hf:∀b∈fp,fw X pins H b)(aF:∀b∈fp,b<s.heap.objs.size):(bL X scope N pins fp s H).Ok where
 mod:=I.ok.mod
 kind:=S.kind
 glob:=I.ok.glob
 blt:=I.ok.blt
 above:=aN _
 inj:=Hw _ _ _ (λz d e=>by
   obtain⟨v,q⟩:=I.cell z d (uu (S.cells I.ok) e);exact l8 q.lt) λx y c hx hy=>I.ok.inj x y c (uu (S.cells I.ok) hx) (uu (S.cells I.ok) hy)
 has:=λx hx=>by
  have pU:(relabel scope X.env).names.lookup x=some .cell∨(relabel scope X.env).names.lookup x=some .free:=hx;have key:scope.names.lookup x=some .cell∨scope.names.lookup x=some .free:=by
   rcases pU with h | h
   ·rcases z9 h with h | h
    ·exact .inl h
    ·exact .inr h.2
   ·rcases z9 h with h | h
    ·exact .inr h
    ·exact .inr h.2
  refine jn.mp (yK scope.names _ _ (key.imp id λe=>?_));obtain⟨c,hc⟩:=Ht (cells:=X.env.cells) scope.names [] (.inl (lookup_mem e));exact jn.mpr ⟨c,hc⟩
 ou:=λx c h hc=>by
  have h':scope.names.lookup x=some .cell:=by
   have h2:(scope.names.lookup x==some .cell)=true:=h;simpa using h2
  rcases S.look I.ok hc with ⟨a,_⟩ | ⟨_,b⟩
  ·exact bH (mh _) a
  ·exact absurd h' b
 hd:=I.ok.hd
 frames:=I.ok.frames
 o5:=.inl rfl
 xn:=λb hb=>⟨a9 (aF b hb),λx c hc=>by
  rcases S.look I.ok hc with ⟨a,_⟩ | ⟨a,_⟩
  ·intro z
   exact eI _ (cK (aF b hb) (z ▸ bH (mh _) a))
  ·exact(hf b hb).2.2.2.2.1 x c a⟩
 bs:=I.bs
 kB:=bH I.ok.kB I.sz
 cG:=λb o e hb=>by
  rcases(hf b hb).2.2.2.1 with z | z
  ·exact I.ok.cG b o e z
  ·exact absurd (cK (aK e) (bH I.ok.kB z)) (eI _)
 qv:=λb hb hs=>by
  rcases aO.mp (I.k7 b hs) with e | e
  ·exact(hf b hb).2.1 e
  ·exact(hf b hb).2.2.1 e
 fZ:=I.stack
 jI:=I.zp
theorem NW {h1:Heap}{t1:Nat}{m:Str->Option Value}(S:eG X scope N k fr)(I:Inv X pins σ H s)(hf:∀b∈fp,fw X pins H b)(aF:∀b∈fp,b<s.heap.objs.size)
  (tj:h1.Ns s.heap.objs.size m) (AJ:∀b o,s.heap.get? b=some o->h1.get? b=some o)
  (qh:∀x c,(cellsFrom (s.heap.objs.size+1) scope.names (jK scope.names X.env.cells)).lookup x=some c->∃v,h1.IsCell c v) (pV:0<t1:=by first | assumption | exact Inv.tk (by assumption)):Inv (bL X scope N pins fp s H) [] (fD k fr σ) H {s with heap:=h1,toks:=t1} where
 tk:=pV
 ok:=Zn S I hf aF
 os:=rfl
 bare:=I.bare
 base:=Un.kept AJ
 loc:=by
  refine⟨m,tj,λi x v e1 e2 e3=>?_⟩;have hk:k<=i:=by
   by_cases z:i<k
   ·unfold fD at e2
    rw [uJ (by simpa using z)] at e2;simp [z] at e2
   ·omega
  obtain⟨j,rfl⟩:∃j,i=k+j:=⟨i - k,by omega⟩
  unfold fD at e2;rw [uK (by simp)] at e2;simp only [qM,Nat.add_sub_cancel_left,gR] at e2;have hj:j<fr.length:=by
   cases q:fr[j]? with
   |none=>rw [q] at e2; cases e2
   |some _=>exact(cP.mp q).1
  have ha:=dR.mp S.at_ j (by simpa using hj);have e1':N[k+j]?=some x:=e1
  cases q:fr[j]? with
  |none=>rw [q] at e2; cases e2
  |some p=>
   rw [q] at e2;simp only [e1',q] at ha;obtain⟨a1,a2⟩:=yH.mp ha;have a1':X.N[p]?=some x:=by simpa using a1
   have Bu:scope.names.lookup x=some .free:=by simpa using a2
   have Be:(σ[p]?).getD none=some v:=by simpa using e2
   have aei:σ[p]?=some (some v):=by
    cases z:σ[p]? with
    |none=>rw [z] at Be; cases Be
    |some y=>rw [z] at Be; simpa using Be
   have c9:=S.frees (x,.free) (lookup_mem Bu) rfl;obtain⟨m0,hn0,FW⟩:=I.loc;have abU:xO X.env.scope x:=by
    rcases c9 with z | z
    ·exact .inr (.inl z)
    ·exact .inr (.inr z)
   obtain⟨u,r,l⟩:=FW p x v a1' aei abU;refine⟨u,r,.inr ⟨?_,?_⟩⟩
   ·show (relabel scope X.env).names.lookup x=some .cell∨(relabel scope X.env).names.lookup x=some .free
    rcases e3 with z | z | z
    ·rcases z9 z with z | z
     ·rw [Bu] at z; cases z
     ·cases z.1
    ·exact .inl z
    ·exact .inr z
   ·have hc:∃c,X.env.cells.lookup x=some c/\s.heap.IsCell c (some u):=by
     rcases l with ⟨z,_⟩ | ⟨_,c,hc,hv⟩
     ·rcases c9 with y | y
      ·have y':X.env.kindOf x=some .cell:=y
       rw [y'] at z; cases z
      ·have y':X.env.kindOf x=some .free:=y
       rw [y'] at z; cases z
     ·exact⟨c,hc,hv⟩
    obtain⟨c,hc,o,ho,hd⟩:=hc;obtain⟨c1,hc1⟩:=Ht (cells:=X.env.cells) scope.names [] (.inl (lookup_mem Bu));obtain⟨c',gG⟩:=jn.mp (yK scope.names (s.heap.objs.size+1) (jK scope.names X.env.cells) (.inr (jn.mpr ⟨c1,hc1⟩)));have xa:X.env.cells.lookup x=some c':=by
     rcases S.look I.ok gG with ⟨_,b⟩ | ⟨b,_⟩
     ·rw [Bu] at b; cases b
     ·exact b
    rw [hc] at xa;cases xa;exact⟨c,gG,o,AJ c o ho,hd⟩
 cell:=qh
 free:=I.au.fresh (aN _)
 ff:=λx c hc=>by
  rcases S.look I.ok hc with ⟨a,_⟩ | ⟨a,_⟩
  ·exact I.au.fresh (bH (mh _) a)
  ·exact I.ff x c a
 pin:=λp hp=>by
  have cU:p∈X.pn++pins:=by
   have fY:p∈(X.pn++pins)++[]:=hp;simpa using fY
  obtain⟨e,n,ne,nf,d⟩:=I.pin p cU;refine⟨AJ _ _ e,n,a9 (aK e),λz=>?_,d⟩;rcases aO.mp (I.k7 p.1 z) with q | q
  ·exact ne q
  ·exact nf q
 au:=I.au.kept AJ
 len:=by
  have:=S.len;show (fD k fr σ).length=N.length;unfold fD;simp [this]
theorem EA {aD:St}{H':Hp}{s':Shared}{h':Heap}{fU:List (Addr×Obj)}(I:Inv X pins σ H s)(hf:∀b∈fp,fw X pins H b)(I':Inv (bL X scope N pins fp s H) fU aD H' s')(sb:fQ s.heap.objs.size s'.heap h') :
  Inv X pins σ H' {s' with heap:=h'}:=by
 have kn:H' s.heap.objs.size=none:=I'.free;refine I.aff (s':={s' with heap:=h'}) (ch:=fp) I'.os ⟨λb o e n hb hx=>?_,λb o e n hb hx=>?_,I'.base.free,λb o e hx=>?_,I'.base.fR,I'.base.fJ,I'.base.fS⟩ ?_ I'.bare (λb hb=>⟨(hf b hb).2.2.2.1,(hf b hb).2.1,(hf b hb).2.2.2.2.1,(hf b hb).2.2.2.2.2⟩) I'.tk
 ·exact(sb.2 b (a9 (aK e))).trans (I'.base.keep b o e n hb hx)
 ·obtain⟨sl,q⟩:=I'.base.slot b o e n hb hx
  exact⟨sl,(sb.2 b (a9 (aK e))).trans q⟩
 ·obtain⟨o',q⟩:=I'.base.there b o e hx
  exact⟨o',(sb.2 b (a9 (aK e))).trans q⟩
 ·intro b u e
  refine(I'.au b u e).jq (λc v hc q=>(sb.2 c ?_).trans q) (λ_ q=>q) λ_ _ q=>q;rintro rfl;rcases hc with rfl | hc
  ·rw [kn] at e; cases e
  ·rw [kn] at hc; cases hc
end
noncomputable def jg (X:Cx)(ifs:List Expr)(t:TT):Prop:=
 ∀(pins:List (Addr×Obj)) (s:Shared) (σ:St) (H:Hp) (Q:Bool->Hp->Prop),Inv X pins σ H s->t σ H Q->
  wpAny (model X.prog X.w) X.A (forIn ifs true λc r=>if r=true then do let ok ← isTrue c X.env (eval c X.env); pure (nq ok) else pure (nq r)) (TP X pins σ Q) X.xe s
noncomputable def Uw:TT:=λ_ H Q=>Q true H
theorem XA {X:Cx}:jg X [] Uw:=λ_ _ _ H _ I h=>wpAny_tests_nil (λht=>⟨H,I,h⟩)
theorem Xz {X:Cx}{c:Expr}{t:TT}(h:PT X c t):jg X [c] t:=λpins s σ H Q I hw=>wpAny_tests_one (h pins s σ H Q I hw)
theorem aeT {prog:Program}{w:World}{A:Around}{R:Result->Shared->Prop}{s:Shared}{elt target iter:Expr}{ifs:List Expr}{scope:Scope}{pos:Pos}{it acc:Value}{env:Env}(I:Nat->Shared->Prop)
  (turn:∀n s,I n s->wpAny (model prog w) A (pyNext it) (λr aT=>match r with
   |none=>R (.ok .next) aT
   |some v=>wpAny (model prog w) A (letOwnedTupleGo target it v) (λ_ vA=>wpAny (model prog w) A (assign target env v) (λ_ gx=>
     wpAny (model prog w) A (forIn ifs true λc r=>if r=true then do let ok ← isTrue c env (eval c env); pure (nq ok) else pure (nq r)) (λok gu=>
      if ok=true then wpAny (model prog w) A (eval elt env) (λx mr=>
       wpAny (model prog w) A (call (.builtin "list.append") [acc,x]) (λ_ vz=>∃m,m<n/\I m vz) (λ_ _=>False) mr) (λ_ _=>False) gu
      else ∃m,m<n/\I m gu) (λ_ _=>False) gx) (λ_ _=>False) vA) (λ_ _=>False) aT) (λ_ _=>False) s)
  (n:Nat) (h:I n s) :
  codeAny (model prog w) A (.compLoop (.ListComp elt [⟨target,iter,ifs,0⟩] scope pos) 0 it acc env) R s:=by
 refine codeAny_loop rfl I (λn s hI=>?_) n h;show wpAny _ A ((compTurn (.ListComp elt [⟨target,iter,ifs,0⟩] scope pos) 0 it acc env).onRaise (λx=>do noteFrame x env; theTreesLotGoes x)) _ _ s;refine wpAny_noted ?_;rw [compTurn_list];refine wpAny_bind (wpAny_standAt (wpAny_bind (wpAny_mono (turn n s hI) (λr aT eP=>?_) λ_ _ h'=>h'.elim)))
 cases r with
 |none=>exact wpAny_pure eP
 |some v=>
  refine wpAny_bind (wpAny_mono eP (λ_ vA Fv=>?_) λ_ _ h'=>h'.elim);refine wpAny_bind (wpAny_mono Fv (λ_ gx pT=>wpAny_bind (wpAny_mono pT (λok gu kg=>?_) λ_ _ h'=>h'.elim)) λ_ _ h'=>h'.elim)
  cases ok with
  |false=>
   simp only [cF,if_false] at kg ⊢;exact wpAny_bind (wpAny_pure (wpAny_pure ⟨rfl,kg⟩))
  |true=>
   simp only [if_true] at kg ⊢;refine wpAny_bind (wpAny_bind (wpAny_mono kg (λx mr Fu=>wpAny_bind (wpAny_mono Fu (λ_ vz Fq=>wpAny_pure (wpAny_pure ⟨rfl,Fq⟩)) λ_ _ h'=>h'.elim)) λ_ _ h'=>h'.elim))
noncomputable def nO (k:Nat)(fr:List Nat)(g:TG)(tc:TT)(te:TE)(σ:St)(J:It)(H1:Hp)(Q:VK):Prop:=
 ∀D,H1 D=none->∃W:Nat->Nat->List V->St->Hp->Prop,(∃m,W 0 m [] (fD k fr σ) (upd H1 D (.lst [])))/\
  ∀i m ys aD H',W i m ys aD H'->H' D=some (.lst ys)/\
   ((J.stop i H'/\Q (.ref D) H')∨
    (J.go i H'/\∃m',m'<m/\∀x H2,J.vm i H' x H2->g x aD H2 λcW H3=>tc cW H3 λb H4=>
     if b=true then te cW H4 λv H5=>H5 D=some (.lst ys)/\ys.length<sizeLine/\W (i+1) m' (ys++[v]) cW (upd H5 D (.lst (ys++[v])))
     else W (i+1) m' ys cW H4))
noncomputable def si (k:Nat)(fr:List Nat)(wi:TI)(g:TG)(tc:TT)(te:TE):TE:=λσ H Q=>wi σ H λJ H1=>nO k fr g tc te σ J H1 Q
section
variable {X:Cx}{scope:Scope}{N:List Str}{k:Nat}{fr:List Nat}{tg iter elt:Expr}{ifs:List Expr}{wi:TI}{g:TG}{tc:TT}{te:TE}{pos:Pos}
theorem QW {pins:List (Addr×Obj)}{σ:St}{H:Hp}{s:Shared}{it:Addr}{fp:List Addr}{tn:Nat->Heap->Prop}{J:It}{Q:VK}{RR:Value->Addr->Result->Shared->Prop}{E:Value->Shared->Prop}
  (hc:X.calm=true) (S:eG X scope N k fr) (hg:∀pins fp s H,PG (bL X scope N pins fp s H) tg g) (ht:∀pins fp s H,jg (bL X scope N pins fp s H) ifs tc) (he:∀pins fp s H,PE (bL X scope N pins fp s H) elt te)
  (I:Inv X pins σ H s) (T:Turn X.prog X.w X.K tg J fp it tn) (st:tn 0 s.heap) (hf:∀b∈fp,fw X pins H b) (h:nO k fr g tc te σ J H Q)
  (hR:∀D C s' (H':Hp),Q (.ref D) H'->fw X pins H' C->(∃m,s'.heap.Ns C m)->(∀h',fQ C s'.heap h'->Inv X pins σ H' {s' with heap:=h'})->RR (.ref D) C (.ok .next) s') :
  wpAny (model X.prog X.w) X.A (newList []) (λacc gu=>wpAny (model X.prog X.w) X.A (newFunctionEnv scope X.env.globals (jK scope.names X.env.cells) [] X.env.qual none .none (some X.env)) (λjL mr=>
   codeAny (model X.prog X.w) X.A (.compStart (.ListComp elt [⟨tg,iter,ifs,0⟩] scope pos) 0 (.ref it) acc {jL with scope:=relabel scope X.env}) (RR acc jL.locals) mr) E gu) E s:=by
 refine wpAny_newObj_type (Mx ?_)
 dsimp only
 have I3:Inv X pins σ (upd H s.heap.objs.size (.lst [])) {s with heap:=s.heap.push {cls:=.type "list",dict:=none,data:=.seq ([]:List Value).toArray}}:=
  I.laid (t':=s.toks) (λb u e=>aI _ e) (aN _) ⟨by simp,[],_,.nil,bE _ rfl⟩
 generalize jG:({s with heap:=s.heap.push {cls:=.type "list",dict:=none,data:=.seq ([]:List Value).toArray}}:Shared)=s3 at I3
 have e3:s.heap.push {cls:=.type "list",dict:=none,data:=.seq ([]:List Value).toArray}=s3.heap:=by rw [← jG]
 rw [e3];generalize hD:s.heap.objs.size=D at I3 ⊢;have Gr:H D=none:=I.au.fresh (by omega);obtain⟨W,⟨m0,w0⟩,turn⟩:=h D Gr;have Gb:∀b∈fp,b≠D:=λb hb z=>by
  obtain⟨o,e,_⟩:=T.obj 0 _ st b hb;exact absurd (aK e) (by rw [z,← hD]; exact eI _)
 have og:∀b∈fp,fw X pins (upd H D (.lst [])) b:=λb hb=>⟨by rw [ba (Gb b hb)]; exact(hf b hb).1,(hf b hb).2⟩
 have vo:∀b o,s.heap.get? b=some o->s3.heap.get? b=some o:=λb o e=>by rw [← e3]; exact aI _ e
 have aF:∀b∈fp,b<s3.heap.objs.size:=λb hb=>by
  obtain⟨o,e,_⟩:=T.obj 0 _ st b hb;exact aK (vo b o e)
 have wB:∀b o,s3.heap.get? b=some o->(pushCells (s3.heap.push {cls:=.type "dict",data:=.dict #[]}) scope.names).get? b=some o:=λb o e=>pushCells_keeps _ _ b o (aI _ e)
 have v9:=(Heap.Ns.new s3.heap (.type "dict")).keeps (pushCells_keeps scope.names _)
 have xx:∀x c,(cellsFrom (s3.heap.objs.size+1) scope.names (jK scope.names X.env.cells)).lookup x=some c->∃v,(pushCells (s3.heap.push {cls:=.type "dict",data:=.dict #[]}) scope.names).IsCell c v:=by
  have q:=Bm scope.names (s3.heap.push {cls:=.type "dict",data:=.dict #[]}) (jK scope.names X.env.cells) λz d e=>by
   obtain⟨v,q⟩:=I3.cell z d (uu (S.cells I.ok) e);exact⟨v,q.keeps λb o e=>aI _ e⟩
  rwa [gk] at q
 generalize acJ:pushCells (s3.heap.push {cls:=.type "dict",data:=.dict #[]}) scope.names=eP at wB v9 xx ⊢
 have keep:∀b o,s3.heap.get? b=some o->eP.get? b=some o:=wB;have FP:=v9;have iw:tn 0 eP:=T.keep 0 _ _ st λb hb o e=>keep b o (vo b o e);have Ha:({s with heap:=eP,toks:=s.toks}:Shared)={s3 with heap:=eP,toks:=s.toks}:=by rw [← jG]
 have IC:Inv (bL X scope N pins fp s3 (upd H D (.lst []))) [] (fD k fr σ) (upd H D (.lst [])) {s3 with heap:=eP,toks:=s.toks}:=NW S I3 og aF FP keep xx;rw [← Ha] at IC;have o6:∀{H':Hp},(∀b∈fp,H' b=none)->∀b∈fp,fw (bL X scope N pins fp s3 (upd H D (.lst []))) [] H' b:=λhn b hb=>
  ⟨hn b hb,a9 (aF b hb),λz=>by
   rcases aO.mp (I3.k7 b z) with q | q
   ·exact(hf b hb).2.1 q
   ·exact(hf b hb).2.2.1 q,.inl hb,λx c lM=>by
   rcases S.look I.ok lM with ⟨a,_⟩ | ⟨a,_⟩
   ·intro z
    exact eI _ (cK (aF b hb) (z ▸ bH (mh _) a))
   ·exact(hf b hb).2.2.2.2.1 x c a,λp hp=>by
   have cU:p∈X.pn++pins:=by
    have fY:p∈(X.pn++pins)++[]:=hp;simpa using fY
   exact(hf b hb).2.2.2.2.2 p cU⟩
 have loop:∀s4:Shared,Inv (bL X scope N pins fp s3 (upd H D (.lst []))) [] (fD k fr σ) (upd H D (.lst [])) s4->tn 0 s4.heap->
   codeAny (model X.prog X.w) X.A (.compLoop (.ListComp elt [⟨tg,iter,ifs,0⟩] scope pos) 0 (.ref it) (.ref D) (bL X scope N pins fp s3 (upd H D (.lst []))).env) (RR (.ref D) s3.heap.objs.size) s4:=by
  intro s4 I4 Dv;refine aeT (λn s'=>∃i ys aD H',Inv (bL X scope N pins fp s3 (upd H D (.lst []))) [] aD H' s'/\tn i s'.heap/\(∀b∈fp,H' b=none)/\W i n ys aD H') ?_ m0 ⟨0,[],_,_,I4,Dv,λb hb=>(og b hb).1,w0⟩;rintro n s5 ⟨i,ys,l6,H5,I5,mv,qq,w5⟩;obtain⟨hD5,xb⟩:=turn i n ys l6 H5 w5;rcases xb with ⟨stop,q⟩ | ⟨go,m',hm,step⟩
  ·refine aB (T.done (bL X scope N pins fp s3 (upd H D (.lst []))) rfl rfl rfl hc i [] s5 l6 H5 _ I5 (o6 qq) mv stop) λr s6 ⟨hr,I6⟩=>?_
   subst hr;obtain⟨m6,FQ,_⟩:=I6.loc;exact hR D _ s6 H5 q (I3.i8 (aN _) I6.free) ⟨m6,FQ⟩ λh' sb=>EA I3 og I6 sb
  ·refine mn (T.item (bL X scope N pins fp s3 (upd H D (.lst []))) rfl rfl rfl hc i [] s5 l6 H5 _ I5 (o6 qq) mv go) λr s6 abY ⟨u,hr,h6⟩=>?_
   subst hr;refine aB h6 λ_ s7 h_=>?_;obtain⟨x,H7,I7,r7,y7,o7,GP⟩:=h_;have Ja:=I7.pinned (o6 GP) (T.obj _ _ o7);refine aB (hg pins fp s3 _ _ s7 l6 H7 x u _ Ja r7 (step x H7 y7)) λ_ s8 h_=>?_;obtain⟨dQ,H8,I8,q8⟩:=h_;refine aB (ht pins fp s3 _ _ s8 dQ H8 _ I8 q8) λb s9 h_=>?_;obtain⟨H9,I9,q9⟩:=h_;have again:∀{H':Hp} {s':Shared},Inv (bL X scope N pins fp s3 (upd H D (.lst []))) ([]++sG fp s7.heap) dQ H' s'->tn (i+1) s'.heap/\(∀b∈fp,H' b=none):=λ{H' s'} I'=>by
    refine⟨T.keep _ _ _ o7 λb hb o e=>(I'.pin (b,o) (d6 _ (d6 _ (sO hb e)))).1,λb hb=>?_⟩;obtain⟨o,e,d⟩:=T.obj _ _ o7 b hb;exact(I'.pin (b,o) (d6 _ (d6 _ (sO hb e)))).2.1
   cases b with
   |false=>
    simp only [cF,if_false] at q9 ⊢;obtain⟨a1,a2⟩:=again I9;exact⟨m',hm,i+1,ys,dQ,H9,I9.ml,a1,a2,q9⟩
   |true=>
    simp only [if_true] at q9 ⊢;refine aB (he pins fp s3 _ _ s9 dQ H9 _ I9 q9) λy vI h_=>?_;obtain⟨v,xY,Jb,Ef,Gv,FV,Eg⟩:=h_;refine aB (MH (X:=bL X scope N pins fp s3 (upd H D (.lst []))) _ vI dQ xY (.ref D) [v] (.ref D) [y] (λz H'=>z=.ax/\H'=upd xY D (.lst (ys++[v]))) Jb rfl (.cons Ef .nil) ⟨D,ys,v,rfl,rfl,Gv,FV,rfl,rfl⟩) λz Ww h_=>?_;obtain⟨v11,H11,xX,_,_,Hg⟩:=h_;subst Hg;obtain⟨a1,a2⟩:=again xX;exact⟨m',hm,i+1,ys++[v],dQ,_,xX.ml,a1,a2,Eg⟩
 exact codeAny_compStart_list (loop _ IC iw) (T.self X.A 0 _ _ _ iw (loop _ IC iw))
theorem L6 (hc:X.calm=true)(S:eG X scope N k fr)(hi:PI X tg iter wi)(hg:∀pins fp s H,PG (bL X scope N pins fp s H) tg g)(ht:∀pins fp s H,jg (bL X scope N pins fp s H) ifs tc)
  (he:∀pins fp s H,PE (bL X scope N pins fp s H) elt te) (hs:∀x,foldedSetIterable iter X.env x=pure x:=by intro _; rfl):PE X (.ListComp elt [⟨tg,iter,ifs,0⟩] scope pos) (si k fr wi g tc te):=by
 intro pins s σ H Q I h;rw [eval_ListComp];refine wpAny_comprehension_free (use:=none) rfl hs (Hs (S.cells I.ok)) S.kind S.locals (mn (hi pins s σ H _ I h) λv s1 t1 h1=>aB h1 λwH s2 h2=>?_);obtain⟨it,fp,tn,J,H2,e,I2,T,eM,f2,q⟩:=h2;subst e;refine QW (RR:=λacc C=>compPost (model X.prog X.w) X.A X.xe none (EP X pins σ Q) acc C) hc S hg ht he I2 T eM f2 q ?_;intro D C s' H' q' _ hn inv;obtain⟨m,hn⟩:=hn;exact⟨m,hn,λh' sb=>(λht=>⟨.ref D,H',inv h' sb,rfl,q'⟩)⟩
theorem XE {i:Nat}{x:Str}{pos' jr:Pos}(hc:X.calm=true)(S:eG X scope N k fr)(hi:PI X tg iter wi)(hg:∀pins fp s H,PG (bL X scope N pins fp s H) tg g)(ht:∀pins fp s H,jg (bL X scope N pins fp s H) ifs tc)
  (he:∀pins fp s H,PE (bL X scope N pins fp s H) elt te) (hN:X.N.Nodup) (qb:X.N[i]?=some x) (hx:X.env.scope.names.lookup x=some .local)
  (mI:swapsWith (.ListComp elt [⟨tg,iter,ifs,0⟩] scope pos) (some (.Name x pos')) jr.line X.env=pure true:=by rfl)
  (hs:∀x,foldedSetIterable iter X.env x=pure x:=by intro _; rfl):PS X (.Assign [.Name x pos'] (.ListComp elt [⟨tg,iter,ifs,0⟩] scope pos) jr) (zj (si k fr wi g tc te) (tK i)):=by
 intro pins s σ H D I h;rw [exec_Assign_Name_used _ _ _ _ mI];refine wpAny_bind (wpAny_standAt (wpAny_bind ?_));show wpAny _ X.A (do let _ ← comprehension (.ListComp elt [⟨tg,iter,ifs,0⟩] scope pos) scope X.env _ (newList []) false (eval iter X.env) (some (assign (.Name x pos') X.env))) _ _ s;refine wpAny_bind (wpAny_mono (wpAny_comprehension_free (use:=some (assign (.Name x pos') X.env)) (Q:=λ_ s'=>SP X pins D .next s') rfl hs (Hs (S.cells I.ok)) S.kind S.locals
  (mn (hi pins s σ H _ I h) λv s1 t1 h1=>aB h1 λwH s2 h2=>?_)) (λ_ s' hq=>wpAny_pure (wpAny_pure hq)) λ_ _ e=>e)
 obtain⟨it,fp,tn,J,H2,e,I2,T,eM,f2,q⟩:=h2;subst e;refine QW (RR:=λacc C=>compPost (model X.prog X.w) X.A X.xe (some (assign (.Name x pos') X.env)) (λ_ s'=>SP X pins D .next s') acc C) hc S hg ht he I2 T eM f2 q ?_;intro L C s' H' q' fC hn inv;obtain⟨m,hn⟩:=hn;show wpAny _ X.A (assign (.Name x pos') X.env (.ref L)) _ _ _;have I3:Inv X pins σ H' s':=inv s'.heap (.refl ..);obtain⟨f0,f1,f2',f3,f4,f5⟩:=fC;refine wpAny_assign_Name (Dq I3 hN qb (.inl hx) (v:=.ref L) rfl (λgX I4 hb=>?_) (.inr hx));obtain⟨a,sb,ha⟩:=hb;have Gw:C≠a:=by
  rcases ha with e | e
  ·rw [e]; exact f1
  ·exact λz=>f4 x a e z.symm
 refine⟨m,hn.sameBut sb Gw,λeQ DF=>(λht=>⟨_,H',I4.turned (t':=gX.toks) (λb o hb e=>(DF.2 b hb).trans e) f0 f1 f3 f4 f5,q'⟩)⟩
end
noncomputable abbrev S (l:List Nat):V:=.str ⟨l.toArray⟩
theorem Bx {a b:Str}(h:a.cps.toList=b.cps.toList):a=b:=by
 cases a; cases b
 simp at h;rw [h]
theorem IK {a b:List Nat}(h:S a=S b):a=b:=by
 injection h with h;injection h with h;simpa using congrArg mi h
section
variable {X:Cx}
theorem mD {l:List Nat}{x:Str}{j pos}(h:x=⟨l.toArray⟩:=by decide +kernel):PE X (.Constant (.str x) j pos) (tC (S l)):=by
 subst h;exact zR
theorem aiY (a b:List Nat):(⟨a.toArray⟩:Str)++(⟨b.toArray⟩:Str)=⟨(a++b).toArray⟩:=Bx (by show (a.toArray++b.toArray).toList=_; simp)
noncomputable def Xv:R2:=λx y H Q=>∃a b,x=S a/\y=S b/\a.length+b.length<=sizeLine/\Q (S (a++b)) H
theorem YV:bX X (binaryOp .Add) Xv:=by
 intro pins s σ H x y v u Q I rx ry ⟨a,b,ex,ey,hl,q⟩;subst ex ey;refine YU pins s σ H _ _ v u Q I rx ry ⟨_,_,rfl,rfl,?_,?_⟩
 ·show a.toArray.size+b.toArray.size<=sizeLine
  simpa using hl
 ·rw [aiY]; exact q
noncomputable def Xp:R2:=λx y H Q=>∃l i c,x=S l/\y=.int i/\l.length<=sizeLine/\jf l i=some c/\Q (S [c]) H
theorem abg:nh X Xp:=by
 intro value slice pins s σ H x y v u Q I rx ry ⟨l,i,c,ex,ey,hl,hc,q⟩ hs;subst ex ey;exact abf value slice pins s σ H _ _ v u Q I rx ry ⟨_,i,c,rfl,rfl,by simpa [gP] using hl,by simpa using hc,q⟩ hs
theorem afa:ik X (.builtin "len") (λxs H Q=>∃l,xs=[S l]/\l.length<=sizeLine/\Q (.int l.length) H):=by
 intro pins s σ H xs us Q I r ⟨l,e,hl,q⟩;subst e;exact ae8 pins s σ H _ us Q I r ⟨_,rfl,by simpa [gP] using hl,by simpa [gP] using q⟩
noncomputable def LB (neg:Bool):R2:=λx y H Q=>∃c l,x=S [c]/\y=S l/\Q (.bl (if neg then !decide (c∈l) else decide (c∈l))) H
theorem YE:bX X (compareOp .NotIn) (LB true):=by
 intro pins s σ H x y v u Q I rx ry ⟨c,l,ex,ey,q⟩;subst ex ey;refine YA pins s σ H _ _ v u Q I rx ry ⟨_,_,rfl,rfl,?_⟩;rw [StrLaws.found_one];simpa using q
noncomputable def ky (l:List Nat)(lo hi:Option Int):List Nat:=(l.drop (HT.cM l.length 0 lo)).take (HT.cM l.length l.length hi - HT.cM l.length 0 lo)
theorem XS (l:List Nat)(a b:Nat):((bf (b - a)).map fun(k:Nat)=>((a:Int)+1 * (k:Int)).toNat).filterMap (l.toArray[·]?)=(l.drop a).take (b - a):=by
 have key:∀(n a:Nat),((bf n).map fun(k:Nat)=>((a:Int)+1 * (k:Int)).toNat).filterMap (l.toArray[·]?)=(l.drop a).take n:=by
  intro n
  induction n with
  |zero=>intro a; simp
  |succ n ih=>
   intro a;rw [List.range_succ,nt,List.filterMap_append,ih a,yv]
   congr 1
   simp only [a5,kF,dG,List.filterMap_nil,List.getElem?_drop];have e:((a:Int)+1 * (n:Int)).toNat=a+n:=by omega
   rw [e]
   cases q:l[a+n]? with
   |none=>simp [q]
   |some v=>simp [q]
 exact key _ a
theorem Vm (l:List Nat)(lo hi:Option Int):Txt.slice ⟨l.toArray⟩ lo hi=⟨(ky l lo hi).toArray⟩:=by
 have hb:=KD lo hi l.length;have ei:Builtin.Str.strSliceIndices lo hi 1 l.length=(bf (HT.cM l.length l.length hi - HT.cM l.length 0 lo)).map fun(k:Nat)=>(((HT.cM l.length 0 lo:Nat):Int)+1 * (k:Int)).toNat:=by
  obtain⟨h1,h2,h3⟩:=hb;show sliceRange (sliceBounds lo hi none l.length).1 (sliceBounds lo hi none l.length).2.1 1=_;rw [h1,h2];unfold sliceRange;simp only [show (1:Int) > 0 by decide,if_true,Int.ediv_one]
  congr 2
  split <;> omega
 have hl:(⟨l.toArray⟩:Str).length=l.length:=by simp [gP]
 unfold Txt.slice;rw [hl,ei];have e2:=XS l (HT.cM l.length 0 lo) (HT.cM l.length l.length hi)
 split
 ·rename_i h
  simp only [cg,ri] at h;have h':HT.cM l.length l.length hi - HT.cM l.length 0 lo=l.length:=by simpa using h
  have h3:HT.cM l.length l.length hi<=l.length:=HT.Wk _ _ (aN _) _;have h4:HT.cM l.length 0 lo=0∨l.length=0:=by omega
  apply Bx
  simp only [ky,h'];rcases h4 with h4 | h4
  ·simp [h4]
  ·have:l=[]:=oH.mp h4
   subst this;simp
 ·apply Bx
  simp only [ky];exact e2
theorem aeM (l:List Nat)(lo hi:Option Int):(ky l lo hi).length<=l.length:=by
 simp only [ky,nv,uX];omega
noncomputable def Xh:V->Option Int->Option Int->Hp->VK->Prop:=λx lo hi H Q=>∃l,x=S l/\l.length<=sizeLine/\Q (S (ky l lo hi)) H
theorem L9 {v:Value}{o:Option Int}(p:IsPart v o):∃q:Option (Int×Tok),v=partValue q/\q.map (·.1)=o:=by
 cases p with
 |none=>exact⟨none,rfl,rfl⟩
 |int i t=>exact⟨some (i,t),rfl,rfl⟩
theorem Vp:qF X Xh:=by
 intro pins s σ H x v vl vu lo hi sl Q I rx hs pl pu ⟨l,ex,hl,q⟩;subst ex;obtain⟨t,rfl⟩:=rx;obtain⟨ql,rfl,rfl⟩:=L9 pl;obtain⟨qu,rfl,rfl⟩:=L9 pu;refine⟨"str",_,F.slot_str_getitem.lookup,typeIs_str _ _ _,wpAny_getItem_str_slice (l:=ql) (u:=qu) (st:=none) hs rfl ?_⟩
 have e:Txt.slice ⟨l.toArray⟩ (ql.map (·.1)) (qu.map (·.1))=⟨(ky l (ql.map (·.1)) (qu.map (·.1))).toArray⟩:=Vm _ _ _;have hz:(ky l (ql.map (·.1)) (qu.map (·.1))).length<=sizeLine:=bH (aeM _ _ _) hl;refine post_val_or_made (λ_=>?_) λt' k=>(λht=>⟨S (ky l (ql.map (·.1)) (qu.map (·.1))),H,I.tok k,⟨t',?_⟩,q⟩)
 ·refine bH ?_ hl
  have:=Txt.slice_le ⟨l.toArray⟩ (ql.map (·.1)) (qu.map (·.1));refine bH (List.length_filterMap_le _ _ |> λh=>(by simpa [gP] using h)) ?_;have h2:=sliceIndices_le (ql.map (·.1)) (qu.map (·.1)) l.length;simpa [slicePicked,gP] using h2
 ·rw [← e]
  rfl
theorem EH (l:List Nat)(c limit:Nat):∀(k a:Nat) (st:Array Nat×Nat),st.2<=a->st.1.size+k<=limit->
  (forIn (mf a k) st (yo ⟨l.toArray⟩ ⟨#[c]⟩ l.length limit)).run.fst.size=st.1.size+(mf a k).countP (λi=>l[i]?==some c)
 |0,a,st,_,_=>by simp
 |k+1,a,st,h1,h2=>by
  rw [oU,uU,yr];have one:=StrLaws.subAt_one ⟨l.toArray⟩ c a;have hlen:(⟨l.toArray⟩:Str).length=l.length:=by simp [gP]
  rw [hlen] at one;unfold yo
  by_cases hc:l[a]?=some c
  ·have ho:=one.mpr (by simpa using hc)
   rw [if_pos ⟨⟨⟨by omega,h1⟩,ho.1⟩,ho.2⟩];have ih:=EH l c limit k (a+1) (st.1.push a,a+(⟨#[c]⟩:Str).length) (by show a+1<=a+1; omega) (by simp; omega);simp only [hc,beq_self_eq_true,if_true];have Fp:=ih;simp only [Array.size_push] at Fp;unfold yo at Fp;refine Eq.trans ?_ (Fp.trans (by omega));rfl
  ·have lH:¬ (((st.1.size<limit/\st.2<=a)/\a+(⟨#[c]⟩:Str).length<=l.length)/\Builtin.Str.subAt ⟨l.toArray⟩ ⟨#[c]⟩ a=true):=λh=>hc (by simpa using one.mp ⟨h.1.2,h.2⟩)
   rw [if_neg lH];have ih:=EH l c limit k (a+1) (st.1,st.2) (by show st.2<=a+1; omega) (by show st.1.size+k<=limit; omega);have hb:(l[a]?==some c)=false:=by simpa using hc
   simp only [hb,cF,if_false,Nat.add_zero];unfold yo at ih;exact ih
theorem aeR (l:List Nat)(c:Nat):(mf 0 (l.length+1)).countP (λi=>l[i]?==some c)=l.count c:=by
 have key:∀(l:List Nat) (a:Nat) (f:Nat->Option Nat),(∀i,f (a+i)=l[i]?)->(mf a (l.length+1)).countP (λi=>f i==some c)=l.count c:=by
  intro l
  induction l with
  |nil=>
   intro a f hf;have h0:=hf 0;simp at h0;simp [oU,h0]
  |cons x r ih=>
   intro a f hf;rw [cQ,oU,yr,ih (a+1) f (λi=>by rw [show a+1+i=a+(i+1) by omega,hf]; simp),List.count_cons];have h0:=hf 0;simp only [Nat.add_zero,qO] at h0;rw [h0];rfl
 exact key l 0 (λi=>l[i]?) λi=>by simp
theorem ZA (l:List Nat)(c:Nat):(Builtin.Str.occurrences ⟨l.toArray⟩ ⟨#[c]⟩ 0 l.length (l.length+1)).length=l.count c:=by
 rw [StrLaws.occ_eq];have h:=EH l c (l.length+1) (l.length+1) 0 (#[],0) (aN _) (by simp);rw [aeR] at h;simp only [eZ];simpa using h
theorem aac:qH X "str.count" (λx vs H Q=>∃l c,x=S l/\vs=[S [c]]/\Q (.int (l.count c)) H):=by
 intro pins s σ H x xs v us Q I rx rv ⟨l,c,ex,ev,q⟩;subst ex ev;obtain⟨t,rfl⟩:=rx;obtain⟨u,rfl,ru⟩:=rv.one;obtain⟨t',rfl⟩:=ru;refine SC.count ?_;refine(λht=>⟨.int (l.count c),H,I.tok _,⟨s.toks,?_⟩,q⟩);have:Txt.count ⟨l.toArray⟩ ⟨#[c]⟩=((l.count c:Nat):Int):=by
  unfold Txt.count;rw [show (⟨l.toArray⟩:Str).length=l.length by simp [gP],ZA]
 rw [show (⟨[c].toArray⟩:Str)=⟨#[c]⟩ from rfl,this]
noncomputable def xV (vs:List V):It:=⟨λi _=>i<vs.length,λi H x H'=>H'=H/\vs[i]?=some x,λi _=>vs.length<=i⟩
noncomputable def dH (l:List Nat):List V:=l.map λc=>S [c]
theorem Vz (l:List Nat):(dH l).length=l.length:=by simp [dH]
theorem T1 {P:Program}{w:World}{K:ao}{tg:Expr}(it:Addr)(l:List Nat)(ty:String)(t:Tok)(jC:ty = "str_ascii_iterator" ∨ty = "str_iterator") :
  Turn P w K tg (xV (dH l)) [it] it (λi h=>h.IsStrIter it ty ⟨l.toArray⟩ t i):=by
 have WW:∀A:Around,A.handled=none->Walks P w A it [it] [it] l.length (SignAt ⟨l.toArray⟩) (λi h=>h.IsStrIter it ty ⟨l.toArray⟩ t i):=λA hh=>by
  rcases jC with rfl | rfl
  ·simpa using Walks.strAscii (prog:=P) (w:=w) hh it ⟨l.toArray⟩ t
  ·simpa using Walks.strWide (prog:=P) (w:=w) hh it ⟨l.toArray⟩ t
 refine⟨by simp,λi h st b hb=>?_,λi h h' st k=>?_,?_,?_,?_⟩
 ·have e:b=it:=by simpa using hb
  subst e;obtain⟨o,e,c,d⟩:=st;exact⟨o,e,λv z=>by rw [d] at z; cases z⟩
 ·obtain⟨o,e,r⟩:=st
  exact⟨o,k it (by simp) o e,r⟩
 ·intro X hP hw hK hc i pins s σ H E I hf st hg
  subst hP hw hK;obtain⟨f0,f1,f2,f3,f4,f5⟩:=hf it (by simp);have hi:i<l.length:=by simpa [dH] using (show i<(dH l).length from hg)
  refine(WW X.A (I.ok.hd hc)).item i s _ _ hi st λv h' tk hv cT kk ht=>?_;obtain⟨c,u,lM,rfl⟩:=hv;have I1:Inv X pins σ H {s with heap:=h',toks:=tk}:=I.turned (λb o hb e=>kk b o (by simpa using hb) e) f0 f1 f3 f4 f5;obtain⟨o,e,c',d⟩:=id cT;refine⟨_,rfl,qo (s:={s with heap:=h',toks:=tk}) (n:=ty) e c' d (by rcases jC with rfl | rfl <;> decide) λ_=>⟨S [c],H,I1,⟨u,rfl⟩,⟨rfl,?_⟩,cT,λb hb=>(hf b hb).1⟩⟩;have Gh:l[i]?=some c:=by simpa using lM
  simp [dH,Gh]
 ·intro X hP hw hK hc i pins s σ H E I hf st hg
  subst hP hw hK;obtain⟨f0,f1,f2,f3,f4,f5⟩:=hf it (by simp);have hi:l.length<=i:=by simpa [dH] using (show (dH l).length<=i from hg)
  have Mv:(⟨l.toArray⟩:Str).cps[i]?=none:=by simp [hi]
  rcases jC with rfl | rfl
  ·exact wpAny_pyNext_ascii_end (I.ok.hd hc) st Mv λh' eb=>(λht=>⟨rfl,I.turned (t':=s.toks) (λb o hb e=>eb b o hb e) f0 f1 f3 f4 f5⟩)
  ·exact wpAny_pyNext_wide_end (I.ok.hd hc) st Mv λh' eb=>(λht=>⟨rfl,I.turned (t':=s.toks) (λb o hb e=>eb b o hb e) f0 f1 f3 f4 f5⟩)
 ·intro A i s Q E st h
  rcases jC with rfl | rfl
  ·exact wpAny_pyIter_striter_ascii st h
  ·exact wpAny_pyIter_striter_wide st h
noncomputable def abE (tl:TE):TI:=λσ H R=>tl σ H λx H1=>∃l,x=S l/\R (xV (dH l)) H1
theorem XW {tg e:Expr}{tl:TE}(hl:PE X e tl):PI X tg e (abE tl):=by
 intro pins s σ H R I h;refine aB (hl pins s σ H _ I h) λv s1 h_=>?_;obtain⟨x,H1,I1,r1,l,ex,q⟩:=h_;subst ex;obtain⟨t,rfl⟩:=r1;refine λ_=>wpAny_pyIter_strU λ_=>?_;refine⟨s1.heap.objs.size,[s1.heap.objs.size],_,_,H1,rfl,I1.kept (t':=s1.toks) λb o e=>aI _ e,T1 _ l (strIterType ⟨l.toArray⟩) t ?_,⟨_,bE _ rfl,rfl,rfl⟩,λb hb=>?_,q⟩
 ·unfold strIterType
  split
  ·exact .inl rfl
  ·exact .inr rfl
 ·have e:b=s1.heap.objs.size:=by simpa using hb
  subst e;exact I1.i8 (aN _) (I1.au.fresh (aN _))
theorem range_all (bs:List Bool):(bf bs.length).all (λi=>bs[i]?.getD false)=bs.all id:=by
 rw [jR,dR,dR];constructor
 ·intro h b hb
  obtain⟨i,hi,rfl⟩:=vf.mp hb;have:=h i (by simpa using hi);simpa [hi] using this
 ·intro h i hi
  have c8:i<bs.length:=by simpa using hi
  have:=h bs[i] (rg c8);simpa [c8] using this
theorem afk {P:Program}{w:World}{A:Around}{bs:List Bool}{ak:List Value}(r:Vals (bs.map V.bl) ak):TruthOf P w A (λi v=>ak.toArray[i]?=some v) (λi=>bs[i]?.getD false):=by
 intro i v s Q E hP hQ;have OK:ak[i]?=some v:=by simpa using hP
 have hl:=r.length;have hi:i<ak.length:=(cP.mp OK).1;have hb:i<bs.length:=by simpa [← hl] using hi
 obtain⟨u,hu,ru⟩:=r.get (i:=i) (x:=.bl bs[i]) (by simp [hb]);rw [OK] at hu;cases hu;cases ru;have e:bs[i]?.getD false=bs[i]:=by simp [hb]
 have OJ:Q (bs[i]?.getD false) s:=hQ;rw [e] at OJ;exact wpAny_truthy_bool OJ
theorem afe (hc:X.calm=true):ik X (.builtin "all") (λxs H Q=>∃(p:Addr) (bs:List Bool),xs=[.ref p]/\bz X.K H p (bs.map V.bl)/\Q (.bl (bs.all id)) H):=by
 intro pins s σ H xs us Q I r ⟨p,bs,e,hq,q⟩;subst e;obtain⟨u,rfl,ru⟩:=r.one;cases ru;obtain⟨ak,rv,pl,hz⟩:=I.list hq;have aF:p<s.heap.objs.size:=by obtain⟨o,n,e,_⟩:=pl; exact aK e
 refine call_all_walk (wpAny_pyIter_list pl.isList ⟨_,_,_,_,_,_,λi=>bs[i]?.getD false,rfl,Walks.list (A:=X.A.in1) (I.ok.hd hc) s.heap.objs.size p (a9 aF) ak.toArray,⟨⟨_,bE _ rfl,rfl,rfl⟩,pl.isList.push _⟩,afk rv,λh' tk hk=>?_⟩);refine(λht=>⟨.bl (bs.all id),H,I.kept (t':=tk) (λb o e=>hk b o (by simpa using a9 (aK e)) (aI _ e)),?_,q⟩);have hl:ak.toArray.size=bs.length:=by have:=rv.length; simp at this; simp [this]
 rw [hl,range_all];rfl
theorem YM:bX X (compareOp .Is) (λx y H Q=>∃c d,x=.bl c/\y=.bl d/\Q (.bl (c==d)) H):=by
 intro pins s σ H x y v u Q I rx ry ⟨c,d,ex,ey,q⟩;subst ex ey;cases rx;cases ry;exact is_bool (λht=>⟨.bl _,H,I,rfl,q⟩)
theorem YK:bX X (compareOp .IsNot) (λx y H Q=>∃c d,x=.bl c/\y=.bl d/\Q (.bl (c != d)) H):=by
 intro pins s σ H x y v u Q I rx ry ⟨c,d,ex,ey,q⟩;subst ex ey;cases rx;cases ry;exact isnot_bool (λht=>⟨.bl _,H,I,rfl,q⟩)
end
noncomputable def uH (p:List Nat×List Nat)(e:DictEntry):Prop:=(∃t,e.key=.str ⟨p.1.toArray⟩ t)/\∃t,e.val=.str ⟨p.2.toArray⟩ t
noncomputable def de (h:Heap)(a:Addr)(kvs:List (List Nat×List Nat)):Prop:=
 (a==sysModules)=false/\∃o es ep,h.get? a=some o/\o.ExactDict/\o.data=.dict es ep/\Paired uH kvs es.toList/\(kvs.map (·.1)).Nodup
theorem abr (a b:List Nat)(t:Tok):(qP ⟨a.toArray⟩ t).isStr ⟨b.toArray⟩=(a==b):=by
 have z:(qP ⟨a.toArray⟩ t).isStr ⟨b.toArray⟩=((⟨a.toArray⟩:Str) == ⟨b.toArray⟩):=rfl;rw [z,jR];simp only [beq_iff_eq];constructor
 ·intro h
  injection h with h;simpa using congrArg mi h
 ·intro h; rw [h]
theorem P7 {kvs:List (List Nat×List Nat)}{es:Array DictEntry}(r:Paired uH kvs es.toList):kvs.length=es.size:=by
 rw [yj r]; simp
theorem Paired.at2 {α β:Type}{F:α->β->Prop}:∀{n4:List α}{nZ:List β}{i:Nat}{b:β},Paired F n4 nZ->nZ[i]?=some b->∃a,n4[i]?=some a/\F a b
 |_,_,_,_,.nil,e=>by simp at e
 |_,_,0,_,.cons r _,e=>by simp at e; subst e; exact⟨_,by simp,r⟩
 |_,_,i+1,b,.cons _ t,e=>by
  obtain⟨a,h1,h2⟩:=Paired.at2 (i:=i) (b:=b) t (by simpa using e);exact⟨a,by simpa using h1,h2⟩
theorem aef {kvs:List (List Nat×List Nat)}{es:Array DictEntry}(r:Paired uH kvs es.toList):(es.all λe=>isExactStrKey e.key)=true:=by
 rw [Array.all_eq_true];intro i hi;obtain⟨p,_,⟨t,hk⟩,_⟩:=Paired.at2 (i:=i) (b:=es[i]) r (by simp [hi]);rw [hk];rfl
theorem Hd {k:List Nat}:∀{kvs:List (List Nat×List Nat)}{l:List DictEntry},Paired uH kvs l->
  (l.findIdx? (λe=>e.key.isStr ⟨k.toArray⟩)=none/\aE kvs k=none)∨∃i e v t u,l.findIdx? (λe=>e.key.isStr ⟨k.toArray⟩)=some i/\l[i]?=some e/\e.key=.str ⟨k.toArray⟩ t/\e.val=.str ⟨v.toArray⟩ u/\aE kvs k=some v
 |_,_,.nil=>.inl ⟨rfl,rfl⟩
 |p::ps,e::l,.cons r t=>by
  obtain⟨⟨tk,hk⟩,⟨tv,hv⟩⟩:=id r;rw [List.findIdx?_cons];have hi:e.key.isStr ⟨k.toArray⟩=(p.1==k):=by rw [hk]; exact abr _ _ _
  rw [hi];unfold aE;rw [kI]
  cases hpk:(p.1==k) with
  |true=>
   right
   have e1:p.1=k:=by simpa using hpk
   exact⟨0,e,p.2,tk,tv,rfl,by simp,by rw [hk,e1],hv,rfl⟩
  |false=>
   rcases Hd (k:=k) t with ⟨h1,h2⟩ | ⟨i,e',v,t',u,h1,h2,h3,h4,h5⟩
   ·left
    unfold aE at h2;simp only [h1];exact⟨rfl,h2⟩
   ·right
    unfold aE at h5;simp only [h1];exact⟨i+1,e',v,t',u,rfl,by simpa using h2,h3,h4,h5⟩
theorem MQ:∀{kvs:List (List Nat×List Nat)}{p:List Nat×List Nat},(kvs.map (·.1)).Nodup->p∈kvs->aE kvs p.1=some p.2
 |q::r,p,hn,hp=>by
  have iB:(q.1::r.map (·.1)).Nodup:=hn;obtain⟨h1,h2⟩:=fz.mp iB;unfold aE;rw [kI];rcases aO.mp hp with e | e
  ·subst e; simp
  ·have bF:(q.1==p.1)=false:=by
    rw [beq_eq_false_iff_ne];intro z;exact h1 (aX.mpr ⟨p,e,z.symm⟩)
   rw [bF];exact MQ h2 e
theorem aea {ka kb:List (List Nat×List Nat)}(hn:(ka.map (·.1)).Nodup):fg ka kb=lQ ka kb:=by
 unfold fg
 cases ia:(ka==kb) with
 |false=>rfl
 |true=>
  have e:ka=kb:=by simpa using ia
  subst e;rw [Bool.true_or];unfold lQ;rw [beq_self_eq_true,l7];exact(dR.mpr λp hp=>by rw [MQ hn hp]; simp).symm
section
variable {prog:Program}{w:World}{A:Around}{E:Value->Shared->Prop}{s:Shared}
theorem aex {d:Addr}{o:Obj}{es:Array DictEntry}{ep:Nat}{kvs:List (List Nat×List Nat)}{k:List Nat}{t:Tok}{hs:Int}{Q:Option Nat->Shared->Prop}(ho:s.heap.get? d=some o)
  (hd:o.data=.dict es ep) (r:Paired uH kvs es.toList) (q:Q (es.toList.findIdx? λe=>e.key.isStr ⟨k.toArray⟩) s) :
  wpAny (model prog w) A (dictFind d (.str ⟨k.toArray⟩ t) hs) Q E s:=by
 unfold dictFind;refine wpAny_holding (wpAny_bind (wpAny_dictEntries ho hd ?_))
 dsimp only
 rw [if_pos (aef r)];unfold foundByValue;have e0:es.findIdx? (λe=>e.key.isStr ⟨k.toArray⟩)=es.toList.findIdx? (λe=>e.key.isStr ⟨k.toArray⟩):=by
  cases es; simp
 rw [e0];rcases Hd (k:=k) r with ⟨h1,_⟩ | ⟨i,e,v,t',u,h1,h2,h3,_,_⟩
 ·rw [h1] at q ⊢
  exact wpAny_pure q
 ·rw [h1] at q ⊢
  have ib:es[i]?=some e:=by simpa using h2
  simp only [ib];refine wpAny_bind (wpAny_dictEpoch ho hd (wpAny_bind ?_));rw [h3];refine wpAny_eqBool_str (wpAny_bind (wpAny_dictEpoch ho hd ?_));rw [if_neg (by simp),decide_eq_true rfl];exact wpAny_bind (wpAny_rule (wpAny_pure q))
theorem Qr {nm:String}{a b:Addr}{ka kb:List (List Nat×List Nat)}{Q:Bool->Shared->Prop}(da:de s.heap a ka)(db:de s.heap b kb)(q:Q (fg ka kb) s) :
  wpAny (model prog w) A (Builtin.Dict.samePairs nm a b) Q E s:=by
 have q:Q (lQ ka kb) s:=by rw [← aea (let ⟨_,_,_,_,_,_,_,_,n⟩:=da; n)]; exact q
 obtain⟨na,oa,ea,pa,ga,_,fa,ra,_⟩:=da;obtain⟨nb,ob,eb,pb,gb,_,fb,rb,_⟩:=db;have la:=P7 ra;have lb:=P7 rb;unfold Builtin.Dict.samePairs Builtin.Dict.showsAll;rw [if_neg (by rw [na]; simp),if_neg (by rw [nb]; simp)];refine wpAny_bind (wpAny_pure (wpAny_bind (wpAny_pure (wpAny_bind (wpAny_dictEntries ga fa ?_)))))
 dsimp only
 refine wpAny_bind (wpAny_dictEntries gb fb ?_);unfold lQ at q
 by_cases hl:ea.size=eb.size
 ·have q2:Q (ka.all λp=>aE kb p.1==some p.2) s:=by
   have z:(ka.length==kb.length)=true:=by simp; omega
   rw [z,l7] at q;exact q
  rw [if_neg (by rw [hl]; simp)];refine wpAny_bind (wpAny_dictEpoch ga fa (wpAny_bind ?_));rw [JM];simp only [Jz,Nat.sub_zero,Nat.add_sub_cancel,Nat.div_one];refine wpAny_forIn_list _
   (λl c s'=>s'=s/\c=(none,())/\∃i,l=mf i (ea.size - i)/\i<=ea.size/\Q ((ka.drop i).all λp=>aE kb p.1==some p.2) s)
   _ ?_ ?_ _ _ ⟨rfl,rfl,0,by simp,fP _,by simpa using q2⟩
  ·rintro x l c s' ⟨rfl,rfl,i,hr,hi,hq⟩
   have aF:i<ea.size:=by
    rcases Nat.lt_or_ge i ea.size with h | h
    ·exact h
    ·rw [Nat.sub_eq_zero_of_le h] at hr; simp at hr
   rw [show ea.size - i=(ea.size - (i+1))+1 by omega,oU] at hr;obtain⟨rfl,FG⟩:=List.cons.inj hr;refine wpAny_bind (wpAny_dictEntries ga fa ?_);have hx:ea[x]?=some ea[x]:=by simp [aF]
   rw [hx];obtain⟨p,hp,⟨tk,hk⟩,⟨tv,hv⟩⟩:=Paired.at2 (i:=x) (b:=ea[x]) ra (by simp [aF]);have bO:x<ka.length:=by omega
   have cU:ka[x]=p:=by simpa [bO] using hp
   rw [oJ bO,cU,mj] at hq;refine wpAny_bind (wpAny_holding ?_);rw [hk];refine wpAny_bind (aex gb fb rb ?_);rcases Hd (k:=p.1) rb with ⟨h1,h2⟩ | ⟨j,e,v,t',u,h1,h2,h3,h4,h5⟩
   ·rw [h1]
    rw [h2] at hq;refine wpAny_pure ?_;show wpAny _ _ (if (!false)=true then _ else _) _ _ _;rw [if_pos (by decide)];exact wpAny_pure (wpAny_pure (by simpa using hq))
   ·rw [h1]
    refine wpAny_bind (wpAny_dictEntries gb fb ?_);have ib:eb[j]?=some e:=by simpa using h2
    rw [ib];refine wpAny_holding ?_;rw [hv,h4];refine wpAny_eqBool_str ?_;rw [h5] at hq
    by_cases FE:p.2=v
    ·subst FE
     rw [decide_eq_true rfl];show wpAny _ _ (if (!true)=true then _ else _) _ _ _;rw [if_neg (by decide)];refine wpAny_bind (wpAny_dictEpoch ga fa ?_);rw [if_neg (by simp)];exact wpAny_pure ⟨rfl,rfl,x+1,FG,aF,by simpa using hq⟩
    ·have bF:¬ (⟨p.2.toArray⟩:Str)=⟨v.toArray⟩:=λz=>FE (by injection z with z; simpa using congrArg mi z)
     rw [decide_eq_false bF];show wpAny _ _ (if (!false)=true then _ else _) _ _ _;rw [if_pos (by decide)];have z:(some v==some p.2)=false:=by simp; exact λz=>FE z.symm
     rw [z] at hq;exact wpAny_pure (wpAny_pure (by simpa using hq))
  ·rintro c s' ⟨rfl,rfl,i,hr,hi,hq⟩
   have wV:i=ea.size:=by
    rcases Nat.lt_or_ge i ea.size with h | h
    ·rw [show ea.size - i=(ea.size - (i+1))+1 by omega,oU] at hr; exact nomatch hr
    ·exact Nat.le_antisymm hi h
   rw [wV,← la,qZ] at hq;exact wpAny_pure (by simpa using hq)
 ·rw [if_pos (by simpa using hl)]
  have z:(ka.length==kb.length)=false:=by simp; omega
  rw [z,qW] at q;exact wpAny_bind (wpAny_rule (wpAny_pure q))
theorem de.ty {s:Shared}{a:Addr}{ka:List (List Nat×List Nat)}(d:de s.heap a ka):s.TypeIs (.ref a) "dict" := let ⟨_,o,_,_,g,c,_⟩:=d; ⟨o,g,c.1⟩
end
end L2
namespace L2
open PySem PySem.Spec PyProof.Rows PySem.SeqAt PySem.MeetsSeq PySem.MeetsSeq2 PySem.MeetsSeq3
open AutoSeq1 (wpAny_loadPart')
section
variable {A:Around}{s:Shared}
theorem z0 {M:Model}{E:Value->Shared->Prop}{a b:Addr}{oa ob:Obj}{R:Bool->Shared->Prop}(ia:a≠b)(ga:s.heap.get? a=some oa)(gb:s.heap.get? b=some ob)(hc:oa.cls=.type "dict" ∨ob.cls=.type "dict")(q:R false s):wpAny M A (isSame (.ref a) (.ref b)) R E s:=by
 rcases hc with hc | hc
 ·exact wpAny_isSame_ref_other ia ga gb (by rw [hc]; decide) q
 ·exact wpAny_isSame_ref_other' ia ga gb (by rw [hc]; decide) q
theorem Lu {a b:Addr}{ka kb:List (List Nat×List Nat)}(da:de s.heap a ka)(db:de s.heap b kb)(hu:A.units<cLine):RcAt A s (.ref a) (.ref b) (fg ka kb):=λprog w E Q q=>by
 refine wpAny_richCompare_same_room (op:=.Eq) da.ty db.ty yD (wpAny_call_entry yD da.ty PySem.F.entry_dict_eq ?_ (PySem.F.args_dict_eq_2 _ _)) hu;show wpAny _ _ (nG "__eq__" ⟨[.ref a,.ref b],[]⟩ >>= _) _ _ s
 refine wpAny_bind ?_;unfold nG;refine wpAny_bind (wpAny_notOrdered_dict da.ty ?_);show wpAny _ _ (pure (bx a,bx b)) _ _ s;refine wpAny_pure (wpAny_bind (wpAny_isInstance (T:="dict") db.ty PySem.F.sub_dict_dict ?_))
 simp only [qT,cF,if_false];refine wpAny_bind (wpAny_pure (wpAny_bind (wpAny_pure (wpAny_bind (Qr da db (wpAny_pure ⟨_,rfl,(λx=>nomatch x),?_⟩))))))
 cases hz:fg ka kb <;> rw [hz] at q <;> exact q
theorem Qq {prog:Program}{w:World}{E:Value->Shared->Prop}{a:Addr}{ka:List (List Nat×List Nat)}{u:Value}{T:String}{Q:Value->Shared->Prop}(da:de s.heap a ka)(hT:s.TypeIs u T)(hs:isSubtype (.type T) (.type "dict")=pure false)(q:Q .notImplemented s) :
  wpAny (model prog w) A (call (.builtin "dict.__eq__") [.ref a,u]) Q E s:=by
 refine wpAny_call_entry yD da.ty PySem.F.entry_dict_eq ?_ (PySem.F.args_dict_eq_2 _ _);show wpAny _ _ (nG "__eq__" ⟨[.ref a,u],[]⟩ >>= _) _ _ s
 refine wpAny_bind ?_;unfold nG;refine wpAny_bind (wpAny_notOrdered_dict da.ty ?_);show wpAny _ _ (pure (bx a,u)) _ _ s;refine wpAny_pure (wpAny_bind (wpAny_isInstance (T:=T) hT hs ?_));simp only [uT,if_true];exact wpAny_bind (wpAny_rule (wpAny_pure ⟨_,rfl,q⟩))
theorem Xe {a b:Addr}{ka kb:List (List Nat×List Nat)}(da:de s.heap a ka)(db:de s.heap b kb)(hu:A.units<cLine):RcNeAt A s (.ref a) (.ref b) (!fg ka kb):=λprog w E Q q=>by
 refine wpAny_richCompare_same_room (op:=.NotEq) da.ty db.ty yC (wpAny_call_entry yC da.ty PySem.F.entry_dict_ne ?_ (PySem.F.args_dict_ne_2 _ _)) hu;show wpAny _ _ (nG "__ne__" ⟨[.ref a,.ref b],[]⟩ >>= _) _ _ s
 refine wpAny_bind ?_;unfold nG;refine wpAny_bind (wpAny_notOrdered_dict da.ty ?_);show wpAny _ _ (pure (bx a,bx b)) _ _ s;refine wpAny_pure (wpAny_bind (wpAny_isInstance (T:="dict") db.ty PySem.F.sub_dict_dict ?_))
 simp only [qT,cF,if_false];refine wpAny_bind (wpAny_pure (wpAny_bind (wpAny_pure (wpAny_bind (Qr da db (wpAny_pure ⟨_,rfl,(λx=>nomatch x),?_⟩))))))
 cases hz:fg ka kb <;> rw [hz] at q <;> exact q
theorem Qp {prog:Program}{w:World}{E:Value->Shared->Prop}{a:Addr}{ka:List (List Nat×List Nat)}{u:Value}{T:String}{Q:Value->Shared->Prop}(da:de s.heap a ka)(hT:s.TypeIs u T)(hs:isSubtype (.type T) (.type "dict")=pure false)(q:Q .notImplemented s) :
  wpAny (model prog w) A (call (.builtin "dict.__ne__") [.ref a,u]) Q E s:=by
 refine wpAny_call_entry yC da.ty PySem.F.entry_dict_ne ?_ (PySem.F.args_dict_ne_2 _ _);show wpAny _ _ (nG "__ne__" ⟨[.ref a,u],[]⟩ >>= _) _ _ s
 refine wpAny_bind ?_;unfold nG;refine wpAny_bind (wpAny_notOrdered_dict da.ty ?_);show wpAny _ _ (pure (bx a,u)) _ _ s;refine wpAny_pure (wpAny_bind (wpAny_isInstance (T:=T) hT hs ?_));simp only [uT,if_true];exact wpAny_bind (wpAny_rule (wpAny_pure ⟨_,rfl,q⟩))
noncomputable def Al (A:Around)(s:Shared)(u t:Value)(b:Bool):Prop:=EqAt A s u t b/\RcAt A s u t b/\RcNeAt A s u t (!b)
theorem PN {u t:Value}{a:Addr}{b:Bool}(ha:u=.ref a∨t=.ref a)(bF:u≠t)(h:RcAt A s u t b):EqAt A s u t b:=λprog w E Q q=>by
 unfold eqBool;refine wpAny_holding (wpAny_ite_split (λz=>absurd (eq_of_beq z) bF) λ_=>?_);rcases ha with rfl | rfl
 ·exact wpAny_bind (h prog w E _ (wpAny_truthy_bool q))
 ·cases u <;> exact wpAny_bind (h prog w E _ (wpAny_truthy_bool q))
noncomputable abbrev R3 (A:Around)(s:Shared)(id:String)(u t:Value):Prop:=∀(prog:Program) (w:World) (E:Value->Shared->Prop) (Q:Value->Shared->Prop),Q .notImplemented s->wpAny (model prog w) A (call (.builtin id) [u,t]) Q E s
noncomputable abbrev RM (A:Around)(s:Shared)(u t:Value):Prop:=∀(prog:Program) (w:World) (E:Value->Shared->Prop) (Q:Bool->Shared->Prop),Q false s->wpAny (model prog w) A (isSame u t) Q E s
theorem dk {a:Addr}{ka:List (List Nat×List Nat)}{u:Value}{T ie im:String}(da:de s.heap a ka)(hu:A.units<cLine)(ty:s.TypeIs u T)(bF:bx a≠u)(n1:(kO "dict" != kO T)=true)(n2:(kO T != kO "dict")=true)
  (s1:isSubtype (.type T) (.type "dict")=pure false) (s2:isSubtype (.type "dict") (.type T)=pure false) (e1:Slot T (cmpInfo .Eq).2.1 ie) (e2:Slot T (cmpInfo .Eq).2.2 ie) (m1:Slot T (cmpInfo .NotEq).2.1 im) (m2:Slot T (cmpInfo .NotEq).2.2 im)
  (c1:R3 A s ie u (.ref a)) (c2:R3 A s im u (.ref a)) (k1:RM A s (.ref a) u) (k2:RM A s u (.ref a)):Al A s (.ref a) u false/\Al A s u (.ref a) false:=by
 have r1:RcAt A s (.ref a) u false:=λprog w E Q q=>rc_eq_decline_or (k:=false) da.ty ty n1 s1 yD e2 (λ_ hq=>Qq da ty s1 hq) (λ_ hq=>c1 prog w E _ hq) (λ_ hq=>k1 prog w E _ hq) (.inr hu) q;have r2:RcAt A s u (.ref a) false:=λprog w E Q q=>rc_eq_decline_or (k:=false) ty da.ty n2 s2 e1 F.slot_dict_eq_refl (λ_ hq=>c1 prog w E _ hq) (λ_ hq=>Qq da ty s1 hq) (λ_ hq=>k2 prog w E _ hq) (.inr hu) q;exact⟨⟨PN (.inl rfl) bF r1,r1,λprog w E Q q=>rc_ne_decline_or (k:=false) da.ty ty n1 s1 yC m2 (λ_ hq=>Qp da ty s1 hq) (λ_ hq=>c2 prog w E _ hq) (λ_ hq=>k1 prog w E _ hq) (.inr hu) q⟩,
  PN (.inr rfl) bF.symm r2,r2,λprog w E Q q=>rc_ne_decline_or (k:=false) ty da.ty n2 s2 m1 F.slot_dict_ne_refl (λ_ hq=>c2 prog w E _ hq) (λ_ hq=>Qp da ty s1 hq) (λ_ hq=>k2 prog w E _ hq) (.inr hu) q⟩
noncomputable def Dn (a:Addr):PySem.Spec:=λ_ R s=>(∃c es ep dd sl,s.heap.get? a=some {cls:=c,dict:=dd,data:=.dict es ep,slots:=sl})/\R (.ok (.ret .notImplemented)) s
noncomputable def Dm (T:String)(l a:Addr):PySem.Spec:=λ_ R s=>(∃items n dl ll,s.heap.get? l=some {cls:=.type T,dict:=dl,data:=.seq items n,slots:=ll})/\(∃es ep dd sl,s.heap.get? a=some {cls:=.type "dict",dict:=dd,data:=.dict es ep,slots:=sl})/\R (.ok (.ret .notImplemented)) s
theorem U5 (b:Str)(u:Tok)(a:Addr):Meets (Builtin.«str.__eq__» ⟨[.str b u,.ref a],[]⟩) (Dn a):=.of_wp λprog w A R s h=>by obtain⟨hp,g,d,tk,os⟩:=s; obtain⟨⟨_,_,_,_,_,ga⟩,h⟩:=h; wp_walk using wpAny_loadPart' ga,wpAny_load ga; exact⟨_,rfl,h⟩
theorem U4 (b:Str)(u:Tok)(a:Addr):Meets (Builtin.«str.__ne__» ⟨[.str b u,.ref a],[]⟩) (Dn a):=.of_wp λprog w A R s h=>by obtain⟨hp,g,d,tk,os⟩:=s; obtain⟨⟨_,_,_,_,_,ga⟩,h⟩:=h; wp_walk using wpAny_loadPart' ga,wpAny_load ga; exact⟨_,rfl,h⟩
theorem aby (b:Int)(u:Tok)(a:Addr):Meets (Builtin.«int.__eq__» ⟨[.int b u,.ref a],[]⟩) (Dn a):=.of_wp λprog w A R s h=>by obtain⟨hp,g,d,tk,os⟩:=s; obtain⟨⟨_,_,_,_,_,ga⟩,h⟩:=h; wp_walk using wpAny_loadPart' ga,wpAny_load ga; exact⟨_,rfl,h⟩
theorem abx (b:Int)(u:Tok)(a:Addr):Meets (Builtin.«int.__ne__» ⟨[.int b u,.ref a],[]⟩) (Dn a):=.of_wp λprog w A R s h=>by obtain⟨hp,g,d,tk,os⟩:=s; obtain⟨⟨_,_,_,_,_,ga⟩,h⟩:=h; wp_walk using wpAny_loadPart' ga,wpAny_load ga; exact⟨_,rfl,h⟩
theorem afm (b:Bool)(a:Addr):Meets (Builtin.«int.__eq__» ⟨[.bool b,.ref a],[]⟩) (Dn a):=.of_wp λprog w A R s h=>by obtain⟨hp,g,d,tk,os⟩:=s; obtain⟨⟨_,_,_,_,_,ga⟩,h⟩:=h; wp_walk using wpAny_loadPart' ga,wpAny_load ga; exact⟨_,rfl,h⟩
theorem afl (b:Bool)(a:Addr):Meets (Builtin.«int.__ne__» ⟨[.bool b,.ref a],[]⟩) (Dn a):=.of_wp λprog w A R s h=>by obtain⟨hp,g,d,tk,os⟩:=s; obtain⟨⟨_,_,_,_,_,ga⟩,h⟩:=h; wp_walk using wpAny_loadPart' ga,wpAny_load ga; exact⟨_,rfl,h⟩
theorem aaw (l a:Addr):Meets (Builtin.«list.__eq__» ⟨[.ref l,.ref a],[]⟩) (Dm "list" l a):=.of_wp λprog w A R s h=>by obtain⟨hp,g,d,tk,os⟩:=s; obtain⟨⟨_,_,_,_,gl⟩,⟨_,_,_,_,ga⟩,h⟩:=h; have f1:=F.sub_dict_list; wp_walk using wpAny_loadPart' gl,wpAny_loadPart' ga; exact⟨_,rfl,h⟩
theorem aav (l a:Addr):Meets (Builtin.«list.__ne__» ⟨[.ref l,.ref a],[]⟩) (Dm "list" l a):=.of_wp λprog w A R s h=>by obtain⟨hp,g,d,tk,os⟩:=s; obtain⟨⟨_,_,_,_,gl⟩,⟨_,_,_,_,ga⟩,h⟩:=h; have f1:=F.sub_dict_list; wp_walk using wpAny_loadPart' gl,wpAny_loadPart' ga; exact⟨_,rfl,h⟩
theorem Uc (l a:Addr):Meets (Builtin.«tuple.__eq__» ⟨[.ref l,.ref a],[]⟩) (Dm "tuple" l a):=.of_wp λprog w A R s h=>by obtain⟨hp,g,d,tk,os⟩:=s; obtain⟨⟨_,_,_,_,gl⟩,⟨_,_,_,_,ga⟩,h⟩:=h; have f1:=F.sub_dict_tuple; wp_walk using wpAny_loadPart' gl,wpAny_loadPart' ga; exact⟨_,rfl,h⟩
theorem Ub (l a:Addr):Meets (Builtin.«tuple.__ne__» ⟨[.ref l,.ref a],[]⟩) (Dm "tuple" l a):=.of_wp λprog w A R s h=>by obtain⟨hp,g,d,tk,os⟩:=s; obtain⟨⟨_,_,_,_,gl⟩,⟨_,_,_,_,ga⟩,h⟩:=h; have f1:=F.sub_dict_tuple; wp_walk using wpAny_loadPart' gl,wpAny_loadPart' ga; exact⟨_,rfl,h⟩
theorem de.dn {a:Addr}{ka:List (List Nat×List Nat)}(da:de s.heap a ka):∃c es ep dd sl,s.heap.get? a=some {cls:=c,dict:=dd,data:=.dict es ep,slots:=sl}:=by
 obtain⟨_,⟨c,dd,data,sl⟩,es,ep,ga,_,hd,_⟩:=da
 simp only at hd
 subst hd;exact⟨c,es,ep,dd,sl,ga⟩
theorem de.dm {a:Addr}{ka:List (List Nat×List Nat)}(da:de s.heap a ka):∃es ep dd sl,s.heap.get? a=some {cls:=.type "dict",dict:=dd,data:=.dict es ep,slots:=sl}:=by
 obtain⟨_,⟨c,dd,data,sl⟩,es,ep,ga,hx,hd,_⟩:=da
 simp only at hd
 have hc:c=.type "dict" := hx.1
 subst hd hc;exact⟨es,ep,dd,sl,ga⟩
theorem QA {a:Addr}{ka:List (List Nat×List Nat)}(da:de s.heap a ka)(hu:A.units<cLine):Al A s (.ref a) .none false/\Al A s .none (.ref a) false:=
 dk da hu rfl nofun (by decide) (by decide) F.sub_NoneType_dict F.sub_dict_NoneType F.slot_NoneType_eq F.slot_NoneType_eq_refl F.slot_NoneType_ne F.slot_NoneType_ne_refl
  (λ_ _ _ _ q=>call_gives F.slot_NoneType_eq rfl F.entry_NoneType_eq (F.args_NoneType_eq_2 _ _) (NoneType___eq___none_ref_0 a) q) (λ_ _ _ _ q=>call_gives F.slot_NoneType_ne rfl F.entry_NoneType_ne (F.args_NoneType_ne_2 _ _) (NoneType___ne___none_ref_0 a) q) (λ_ _ _ _ q=>wpAny_of_eq rfl q) (λ_ _ _ _ q=>wpAny_of_eq rfl q)
theorem QE {a:Addr}{ka:List (List Nat×List Nat)}(b:Bool)(da:de s.heap a ka)(hu:A.units<cLine):Al A s (.ref a) (.bool b) false/\Al A s (.bool b) (.ref a) false:=
 dk da hu rfl nofun (by decide) (by decide) F.sub_bool_dict F.sub_dict_bool F.slot_bool_eq F.slot_bool_eq_refl F.slot_bool_ne F.slot_bool_ne_refl
  (λ_ _ _ _ q=>call_meets F.slot_bool_eq rfl F.entry_int_eq (F.args_int_eq_2 _ _) (afm b a) ⟨da.dn,q⟩) (λ_ _ _ _ q=>call_meets F.slot_bool_ne rfl F.entry_int_ne (F.args_int_ne_2 _ _) (afl b a) ⟨da.dn,q⟩) (λ_ _ _ _ q=>wpAny_of_eq rfl q) (λ_ _ _ _ q=>wpAny_of_eq rfl q)
theorem QC {a:Addr}{ka:List (List Nat×List Nat)}(b:Int)(u:Tok)(da:de s.heap a ka)(hu:A.units<cLine):Al A s (.ref a) (.int b u) false/\Al A s (.int b u) (.ref a) false:=
 dk da hu (typeIs_int s b u) nofun (by decide) (by decide) F.sub_int_dict F.sub_dict_int F.slot_int_eq F.slot_int_eq_refl F.slot_int_ne F.slot_int_ne_refl
  (λ_ _ _ _ q=>call_meets F.slot_int_eq (typeIs_int s b u) F.entry_int_eq (F.args_int_eq_2 _ _) (aby b u a) ⟨da.dn,q⟩) (λ_ _ _ _ q=>call_meets F.slot_int_ne (typeIs_int s b u) F.entry_int_ne (F.args_int_ne_2 _ _) (abx b u a) ⟨da.dn,q⟩) (λ_ _ _ _ q=>wpAny_of_eq rfl q) (λ_ _ _ _ q=>wpAny_of_eq rfl q)
theorem Qz {a:Addr}{ka:List (List Nat×List Nat)}(b:Str)(u:Tok)(da:de s.heap a ka)(hu:A.units<cLine):Al A s (.ref a) (.str b u) false/\Al A s (.str b u) (.ref a) false:=
 dk da hu (typeIs_str s b u) nofun (by decide) (by decide) F.sub_str_dict F.sub_dict_str F.slot_str_eq F.slot_str_eq_refl F.slot_str_ne F.slot_str_ne_refl
  (λ_ _ _ _ q=>call_meets F.slot_str_eq (typeIs_str s b u) F.entry_str_eq (F.args_str_eq_2 _ _) (U5 b u a) ⟨da.dn,q⟩) (λ_ _ _ _ q=>call_meets F.slot_str_ne (typeIs_str s b u) F.entry_str_ne (F.args_str_ne_2 _ _) (U4 b u a) ⟨da.dn,q⟩) (λ_ _ _ _ q=>wpAny_of_eq rfl q) (λ_ _ _ _ q=>wpAny_of_eq rfl q)
theorem Z3 {a l:Addr}{ka:List (List Nat×List Nat)}{items:Array Value}(da:de s.heap a ka)(hl:s.heap.IsList l items):a≠l:=λz=>by
 subst z;obtain⟨_,o,es,ep,ga,hx,hd,_⟩:=da;obtain⟨o',gl,hc,n,iF⟩:=hl;rw [ga] at gl;cases gl;rw [hx.1] at hc;exact absurd hc (by decide)
theorem Z2 {a l:Addr}{ka:List (List Nat×List Nat)}{items:Array Value}(da:de s.heap a ka)(hl:s.heap.IsTuple l items):a≠l:=λz=>by
 subst z;obtain⟨_,o,es,ep,ga,hx,hd,_⟩:=da;obtain⟨o',gl,hc,n,iF⟩:=hl;rw [ga] at gl;cases gl;rw [hx.1] at hc;exact absurd hc (by decide)
theorem QB {a l:Addr}{ka:List (List Nat×List Nat)}{items:Array Value}(da:de s.heap a ka)(hl:s.heap.IsList l items)(hu:A.units<cLine):Al A s (.ref a) (.ref l) false/\Al A s (.ref l) (.ref a) false:=by
 obtain⟨es,ep,dd,sl,ga⟩:=da.dm;obtain⟨⟨cl,dl,dal,ll⟩,gl,hc,n,iF⟩:=id hl
 simp only at hc iF
 subst hc iF;have bF:a≠l:=λz=>by subst z; rw [ga] at gl; exact absurd (congrArg (λo:Option Obj=>o.map (·.cls)) gl) (by simp)
 exact dk da hu ⟨_,gl,rfl⟩ (λz=>bF (by injection z)) (by decide) (by decide) F.sub_list_dict F.sub_dict_list F.slot_list_eq F.slot_list_eq_refl F.slot_list_ne F.slot_list_ne_refl
  (λ_ _ _ _ q=>call_meets F.slot_list_eq ⟨_,gl,rfl⟩ F.entry_list_eq (F.args_list_eq_2 _ _) (aaw l a) ⟨⟨_,_,_,_,gl⟩,⟨_,_,_,_,ga⟩,q⟩) (λ_ _ _ _ q=>call_meets F.slot_list_ne ⟨_,gl,rfl⟩ F.entry_list_ne (F.args_list_ne_2 _ _) (aav l a) ⟨⟨_,_,_,_,gl⟩,⟨_,_,_,_,ga⟩,q⟩)
  (λ_ _ _ _ q=>z0 bF ga gl (.inl rfl) q) (λ_ _ _ _ q=>z0 bF.symm gl ga (.inr rfl) q)
theorem Qy {a l:Addr}{ka:List (List Nat×List Nat)}{items:Array Value}(da:de s.heap a ka)(hl:s.heap.IsTuple l items)(hu:A.units<cLine):Al A s (.ref a) (.ref l) false/\Al A s (.ref l) (.ref a) false:=by
 obtain⟨es,ep,dd,sl,ga⟩:=da.dm;obtain⟨⟨cl,dl,dal,ll⟩,gl,hc,n,iF⟩:=id hl
 simp only at hc iF
 subst hc iF;have bF:a≠l:=λz=>by subst z; rw [ga] at gl; exact absurd (congrArg (λo:Option Obj=>o.map (·.cls)) gl) (by simp)
 exact dk da hu ⟨_,gl,rfl⟩ (λz=>bF (by injection z)) (by decide) (by decide) F.sub_tuple_dict F.sub_dict_tuple F.slot_tuple_eq F.slot_tuple_eq_refl F.slot_tuple_ne F.slot_tuple_ne_refl
  (λ_ _ _ _ q=>call_meets F.slot_tuple_eq ⟨_,gl,rfl⟩ F.entry_tuple_eq (F.args_tuple_eq_2 _ _) (Uc l a) ⟨⟨_,_,_,_,gl⟩,⟨_,_,_,_,ga⟩,q⟩) (λ_ _ _ _ q=>call_meets F.slot_tuple_ne ⟨_,gl,rfl⟩ F.entry_tuple_ne (F.args_tuple_ne_2 _ _) (Ub l a) ⟨⟨_,_,_,_,gl⟩,⟨_,_,_,_,ga⟩,q⟩)
  (λ_ _ _ _ q=>z0 bF ga gl (.inl rfl) q) (λ_ _ _ _ q=>z0 bF.symm gl ga (.inr rfl) q)
end
end L2
namespace L2
open PySem PySem.Spec PyProof.Rows
noncomputable def aJ (kvs:List (List Nat×List Nat)):List (Key×V):=kvs.map λp=>(.inr ⟨p.1.toArray⟩,S p.2)
noncomputable def FzD (H:Hp)(a:Addr)(kvs:List (List Nat×List Nat)):Prop:=∃o,H a=some (.bG o (.dK (aJ kvs)))
section
variable (K:ao)(H:Hp)
mutual
noncomputable def Rep:Dt->V->Prop
 |.ax,v=>v=.ax
 |.bl b,v=>v=.bl b
 |.int i,v=>v=.int i
 |.str l,v=>v=S l
 |.tup ds,v=>∃a xs,v=.ref a/\dP K H a xs/\aq ds xs
 |.lst ds,v=>∃a xs,v=.ref a/\bz K H a xs/\aq ds xs
 |.af kvs,v=>∃a ks,v=.ref a/\ks=kvs/\FzD H a ks
noncomputable def aq:List Dt->List V->Prop
 | [],xs=>xs=[]
 |d::ds,xs=>∃x r,xs=x::r/\Rep d x/\aq ds r
end
end
theorem az.j6 {K:ao}{H H':Hp}{a:Addr}{xs:List V}(e:az H H')(h:dP K H a xs):dP K H' a xs:=by
 rcases h with (h | ⟨o,h⟩) | h
 ·exact .inl (.inl (e _ _ h))
 ·exact .inl (.inr ⟨o,e _ _ h⟩)
 ·exact .inr h
mutual
theorem Rep.mono {K:ao}{H H':Hp}(e:az H H'):∀{d:Dt}{v:V},Rep K H d v->Rep K H' d v
 |.ax,_,h=>by simpa only [Rep] using h
 |.bl _,_,h=>by simpa only [Rep] using h
 |.int _,_,h=>by simpa only [Rep] using h
 |.str _,_,h=>by simpa only [Rep] using h
 |.tup ds,_,h=>by
  simp only [Rep] at h ⊢;obtain⟨a,xs,h1,h2,h3⟩:=h;exact⟨a,xs,h1,e.j6 h2,aq.mono e h3⟩
 |.lst ds,_,h=>by
  simp only [Rep] at h ⊢;obtain⟨a,xs,h1,h2,h3⟩:=h;exact⟨a,xs,h1,e.seq h2,aq.mono e h3⟩
 |.af kvs,_,h=>by
  simp only [Rep] at h ⊢;obtain⟨a,ks,h1,h3,o,h2⟩:=h;exact⟨a,ks,h1,h3,o,e _ _ h2⟩
theorem aq.mono {K:ao}{H H':Hp}(e:az H H'):∀{ds:List Dt}{xs:List V},aq K H ds xs->aq K H' ds xs
 | [],_,h=>by simpa only [aq] using h
 |d::ds,_,h=>by
  simp only [aq] at h ⊢;obtain⟨x,r,h1,h2,h3⟩:=h;exact⟨x,r,h1,Rep.mono e h2,aq.mono e h3⟩
end
theorem aq.nil {K:ao}{H:Hp}:aq K H [] []:=by simp only [aq]
theorem aq.cons {K:ao}{H:Hp}{d:Dt}{ds:List Dt}{x:V}{xs:List V}(h:Rep K H d x)(t:aq K H ds xs):aq K H (d::ds) (x::xs):=by
 simp only [aq];exact⟨x,xs,rfl,h,t⟩
theorem aq.length {K:ao}{H:Hp}:∀{ds:List Dt}{xs:List V},aq K H ds xs->ds.length=xs.length
 | [],_,h=>by simp only [aq] at h; subst h; rfl
 |d::ds,_,h=>by
  simp only [aq] at h;obtain⟨x,r,rfl,_,h3⟩:=h;simp [aq.length h3]
theorem aq.get {K:ao}{H:Hp}:∀{ds:List Dt}{xs:List V}{i:Nat}{x:V},aq K H ds xs->xs[i]?=some x->∃d,ds[i]?=some d/\Rep K H d x
 | [],_,i,x,h,e=>by simp only [aq] at h; subst h; simp at e
 |d::ds,_,0,x,h,e=>by
  simp only [aq] at h;obtain⟨y,r,rfl,h2,_⟩:=h;simp at e;subst e;exact⟨d,rfl,h2⟩
 |d::ds,_,i+1,x,h,e=>by
  simp only [aq] at h;obtain⟨y,r,rfl,_,h3⟩:=h;obtain⟨d',a,b⟩:=aq.get (i:=i) (x:=x) h3 (by simpa using e);exact⟨d',by simpa using a,b⟩
theorem aq.append {K:ao}{H:Hp}:∀{ds es:List Dt}{xs ys:List V},aq K H ds xs->aq K H es ys->aq K H (ds++es) (xs++ys)
 | [],es,xs,ys,h,t=>by simp only [aq] at h; subst h; simpa using t
 |d::ds,es,xs,ys,h,t=>by
  simp only [aq] at h;obtain⟨x,r,rfl,h2,h3⟩:=h;exact .cons h2 (aq.append h3 t)
theorem fT {K:ao}{H:Hp}{i:Int}:Rep K H (.int i) (.int i):=by simp only [Rep]
theorem iT {K:ao}{H:Hp}{l:List Nat}:Rep K H (.str l) (S l):=by simp only [Rep]
theorem gA {K:ao}{H:Hp}{b:Bool}:Rep K H (.bl b) (.bl b):=by simp only [Rep]
theorem zN {K:ao}{H:Hp}:Rep K H .ax .ax:=by simp only [Rep]
theorem vM {K:ao}{H:Hp}{a:Addr}{xs:List V}{ds:List Dt}(h:H a=some (.tup xs))(r:aq K H ds xs):Rep K H (.tup ds) (.ref a):=by
 simp only [Rep];exact⟨a,xs,rfl,.of h,r⟩
theorem su {K:ao}{H:Hp}{a:Addr}{xs:List V}{ds:List Dt}(h:H a=some (.lst xs))(r:aq K H ds xs):Rep K H (.lst ds) (.ref a):=by
 simp only [Rep];exact⟨a,xs,rfl,.of h,r⟩
theorem Inv.list_tuple {X:Cx}{pins:List (Addr×Obj)}{σ:St}{H:Hp}{s:Shared}{a:Addr}{xs ys:List V}(I:Inv X pins σ H s)(h:bz X.K H a xs)(h':dP X.K H a ys):False:=by
 obtain⟨ak,r,⟨o,n,e,c,_⟩,_⟩:=I.list h;obtain⟨its',r',⟨o',e',c',_⟩,_⟩:=I.tuple h';rw [e] at e';cases e';rw [c] at c';injection c' with c';exact absurd c' (by decide)
theorem vN {K:ao}{H:Hp}{a:Addr}{o:Obj}{kvs:List (List Nat×List Nat)}(h:H a=some (.bG o (.dK (aJ kvs)))):Rep K H (.af kvs) (.ref a):=by
 simp only [Rep];exact⟨a,_,rfl,rfl,o,h⟩
theorem Qk:∀{a b:List (List Nat×List Nat)},aJ a=aJ b->a=b
 | [],[],_=>rfl
 | [],_::_,h=>by simp [aJ] at h
 |_::_,[],h=>by simp [aJ] at h
 |p::a,q::b,h=>by
  simp only [aJ,a5] at h;injection h with h1 h2;have h3:=Qk (a:=a) (b:=b) h2;have e1:p.1=q.1:=by
   have z:=congrArg Prod.fst h1
   simp only at z
   injection z with z;injection z with z;simpa using congrArg mi z
  have e2:p.2=q.2:=IK (congrArg Prod.snd h1);rw [h3,Prod.ext e1 e2]
theorem P6 {P:Program}{w:World}:∀{kvs:List (List Nat×List Nat)}{vs:List (Key×Value)}{l:List DictEntry},KV (aJ kvs) vs->Pairs (bW P w) l vs->Paired uH kvs l
 | [],vs,l,r,p=>by
  unfold aJ KV at r;cases r;cases p;exact .nil
 |k::kvs,vs,l,r,p=>by
  unfold aJ KV at r;rw [a5] at r
  cases r with
  |cons h t=>
   cases p with
   |cons a b c=>
    refine .cons ⟨?_,?_⟩ (P6 t c)
    ·rw [← h.1] at a
     rcases ke (k:=.inr ⟨k.1.toArray⟩) a with ⟨i,u,z,_⟩ | ⟨x,u,z,e⟩
     ·exact nomatch z
     ·injection z with z; subst z; exact⟨u,e⟩
    ·obtain⟨u,e⟩:=h.2
     exact⟨u,b.trans e⟩
theorem MC:∀{kvs:List (List Nat×List Nat)},(kvs.map ((·.1) ∘ λp=>((.inr ⟨p.1.toArray⟩:Key),S p.2))).Nodup->(kvs.map (·.1)).Nodup
 | [],_=>by simp
 |p::r,h=>by
  rw [a5,fz] at h ⊢;refine⟨λm=>h.1 ?_,MC h.2⟩;obtain⟨q,hq,e⟩:=aX.mp m;exact aX.mpr ⟨q,hq,by simp only [uP]; rw [e]⟩
theorem Hk {P:Program}{w:World}{H:Hp}{h:Heap}{a:Addr}{ob:Obj}{kvs:List (List Nat×List Nat)}(ok:cc P w H h)(e:H a=some (.bG ob (.dK (aJ kvs)))):de h a kvs:=by
 obtain⟨_,_,na,vs,r,o,es,ep,g,x,d,_,pr,nd⟩:=ok a _ e;refine⟨na,o,es,ep,g,x,d,P6 r pr,?_⟩;rw [← KV.keys r] at nd;unfold aJ at nd;rw [dw] at nd;exact MC nd
theorem Inv.sv {X:Cx}{pins:List (Addr×Obj)}{σ:St}{H:Hp}{s:Shared}(I:Inv X pins σ H s){kvs:List (List Nat×List Nat)}{v:V}(h:Rep X.K H (.af kvs) v):∃a,v=.ref a/\(∃o,H a=some (.bG o (.dK (aJ kvs))))/\de s.heap a kvs:=by
 simp only [Rep] at h;obtain⟨a,ks,rfl,rfl,o,h2⟩:=h;exact⟨a,rfl,⟨o,h2⟩,Hk I.au h2⟩
theorem Inv.list_dict {X:Cx}{pins:List (Addr×Obj)}{σ:St}{H:Hp}{s:Shared}{a:Addr}{xs:List V}{o:Obj}{kvs:List (List Nat×List Nat)}(I:Inv X pins σ H s)(h:bz X.K H a xs)(h':H a=some (.bG o (.dK (aJ kvs)))):False:=by
 obtain⟨ak,r,p,_⟩:=I.list h;exact Z3 (Hk I.au h') p.isList rfl
theorem Inv.tuple_dict {X:Cx}{pins:List (Addr×Obj)}{σ:St}{H:Hp}{s:Shared}{a:Addr}{xs:List V}{o:Obj}{kvs:List (List Nat×List Nat)}(I:Inv X pins σ H s)(h:dP X.K H a xs)(h':H a=some (.bG o (.dK (aJ kvs)))):False:=by
 obtain⟨ak,r,p,_⟩:=I.tuple h;exact Z2 (Hk I.au h') p rfl
mutual
theorem Rep.inj {X:Cx}{pins:List (Addr×Obj)}{σ:St}{H:Hp}{s:Shared}(I:Inv X pins σ H s):∀{d e:Dt}{v:V},Rep X.K H d v->Rep X.K H e v->d=e
 |.ax,e,v,h,h'=>by
  simp only [Rep] at h;subst h
  cases e <;> simp only [Rep] at h' <;> first | rfl | (exfalso; first | exact nomatch h' | (obtain⟨_,_,z,_⟩:=h'; exact nomatch z))
 |.bl b,e,v,h,h'=>by
  simp only [Rep] at h;subst h
  cases e <;> simp only [Rep] at h' <;> first | (injection h' with h'; rw [h']) | (exfalso; first | exact nomatch h' | (obtain⟨_,_,z,_⟩:=h'; exact nomatch z))
 |.int i,e,v,h,h'=>by
  simp only [Rep] at h;subst h
  cases e <;> simp only [Rep] at h' <;> first | (injection h' with h'; rw [h']) | (exfalso; first | exact nomatch h' | (obtain⟨_,_,z,_⟩:=h'; exact nomatch z))
 |.str l,e,v,h,h'=>by
  simp only [Rep] at h;subst h
  cases e with
  |str l'=>simp only [Rep] at h'; rw [IK h']
  |_=>simp only [Rep] at h'; exfalso; first | exact nomatch h' | (obtain⟨_,_,z,_⟩:=h'; exact nomatch z)
 |.tup ds,e,v,h,h'=>by
  simp only [Rep] at h;obtain⟨a,xs,rfl,h2,h3⟩:=h
  cases e with
  |tup es=>
   simp only [Rep] at h';obtain⟨b,ys,hb,h4,h5⟩:=h';cases hb;rw [I.C3 h2 h4] at h3;rw [aq.inj I h3 h5]
  |lst es=>
   simp only [Rep] at h';obtain⟨b,ys,hb,h4,h5⟩:=h';cases hb;exact(I.list_tuple h4 h2).elim
  |af kvs=>
   simp only [Rep] at h';obtain⟨b,ys,hb,rfl,o',h4⟩:=h';cases hb;exact(I.tuple_dict h2 h4).elim
  |_=>simp only [Rep] at h'; exfalso; exact nomatch h'
 |.lst ds,e,v,h,h'=>by
  simp only [Rep] at h;obtain⟨a,xs,rfl,h2,h3⟩:=h
  cases e with
  |lst es=>
   simp only [Rep] at h';obtain⟨b,ys,hb,h4,h5⟩:=h';cases hb;rw [I.wq h2 h4] at h3;rw [aq.inj I h3 h5]
  |tup es=>
   simp only [Rep] at h';obtain⟨b,ys,hb,h4,h5⟩:=h';cases hb;exact(I.list_tuple h2 h4).elim
  |af kvs=>
   simp only [Rep] at h';obtain⟨b,ys,hb,rfl,o',h4⟩:=h';cases hb;exact(I.list_dict h2 h4).elim
  |_=>simp only [Rep] at h'; exfalso; exact nomatch h'
 |.af kvs,e,v,h,h'=>by
  simp only [Rep] at h;obtain⟨a,xs,rfl,rfl,o,h2⟩:=h
  cases e with
  |lst es=>
   simp only [Rep] at h';obtain⟨b,ys,hb,h4,h5⟩:=h';cases hb;exact(I.list_dict h4 h2).elim
  |tup es=>
   simp only [Rep] at h';obtain⟨b,ys,hb,h4,h5⟩:=h';cases hb;exact(I.tuple_dict h4 h2).elim
  |af ks=>
   simp only [Rep] at h';obtain⟨b,ys,hb,rfl,o',h4⟩:=h';cases hb;rw [h2] at h4;injection h4 with h4;injection h4 with _ h4;injection h4 with h4;rw [Qk h4]
  |_=>simp only [Rep] at h'; exfalso; exact nomatch h'
theorem aq.inj {X:Cx}{pins:List (Addr×Obj)}{σ:St}{H:Hp}{s:Shared}(I:Inv X pins σ H s):∀{ds es:List Dt}{xs:List V},aq X.K H ds xs->aq X.K H es xs->ds=es
 | [],es,xs,h,h'=>by
  simp only [aq] at h;subst h
  cases es with
  |nil=>rfl
  |cons e es=>simp only [aq] at h'; obtain⟨_,_,z,_⟩:=h'; cases z
 |d::ds,es,xs,h,h'=>by
  simp only [aq] at h;obtain⟨x,r,rfl,h2,h3⟩:=h
  cases es with
  |nil=>simp only [aq] at h'; cases h'
  |cons e es=>
   simp only [aq] at h';obtain⟨y,t,z,h4,h5⟩:=h';injection z with z1 z2;subst z1 z2;rw [Rep.inj I h2 h4,aq.inj I h3 h5]
end
mutual
theorem xt:∀d:Dt,bh d d=true
 |.ax=>rfl
 |.bl b=>beq_self_eq_true b
 |.int b=>beq_self_eq_true b
 |.str b=>beq_self_eq_true b
 |.tup b=>qx b
 |.lst b=>qx b
 |.af b=>(show (b==b || lQ b b)=true by rw [beq_self_eq_true b]; rfl)
theorem qx:∀d:List Dt,et d d=true
 | []=>rfl
 |a::r=>(show (bh a a&&et r r)=true by rw [xt a,qx r]; rfl)
end
theorem xq:∀{a b:List Dt},a.length≠b.length->et a b=false
 | [],[],h=>absurd rfl h
 | [],_::_,_=>rfl
 |_::_,[],_=>rfl
 |a::r,b::t,h=>by
  show (bh a b&&et r t)=false;rw [xq (a:=r) (b:=t) (λe=>h (congrArg Nat.succ e)),uR]
theorem xr:∀(a b:List Dt),a.length=b.length->(bf a.length).all (λi=>match a[i]?,b[i]? with | some x,some y=>bh x y | _,_=>true)=et a b
 | [],[],_=>rfl
 |x::r,y::t,h=>by
  have ih:=xr r t (Nat.succ.inj h);show _=(bh x y&&et r t);rw [cQ,Cd,mj,uN];rw [← ih]
  congr 1
theorem Dp (a b:List Nat):((⟨a.toArray⟩:Str) == ⟨b.toArray⟩)=(a==b):=by
 rw [jR];simp only [beq_iff_eq];constructor
 ·intro h
  injection h with h;simpa using congrArg mi h
 ·intro h; rw [h]
theorem Qv {d:Dt}:∀{ds:List Dt},d∈ds->dep d<=eU ds
 |e::ds,h=>by
  simp only [eU];rcases aO.mp h with h | h
  ·subst h; omega
  ·have:=Qv h; omega
section
variable {X:Cx}{pins:List (Addr×Obj)}{σ:St}{H:Hp}{s:Shared}
theorem Inv.dJ (I:Inv X pins σ H s){ds:List Dt}{v:V}(h:Rep X.K H (.lst ds) v):∃a xs,v=.ref a/\bz X.K H a xs/\aq X.K H ds xs/\∃ak:List Value,Vals xs ak/\s.heap.IsList a ak.toArray:=by
 simp only [Rep] at h;obtain⟨a,xs,rfl,h2,h3⟩:=h;obtain⟨ak,r,p,_⟩:=I.list h2;exact⟨a,xs,rfl,h2,h3,ak,r,p.isList⟩
theorem Inv.mw (I:Inv X pins σ H s){ds:List Dt}{v:V}(h:Rep X.K H (.tup ds) v):∃a xs,v=.ref a/\dP X.K H a xs/\aq X.K H ds xs/\∃ak:List Value,Vals xs ak/\s.heap.IsTuple a ak.toArray:=by
 simp only [Rep] at h;obtain⟨a,xs,rfl,h2,h3⟩:=h;obtain⟨ak,r,p,_⟩:=I.tuple h2;exact⟨a,xs,rfl,h2,h3,ak,r,p⟩
theorem Ao (A:Around)(I:Inv X pins σ H s){ds es:List Dt}{xs ys:List V}{us vs:List Value}(rx:aq X.K H ds xs)(ry:aq X.K H es ys)(ru:Vals xs us)(rv:Vals ys vs)
  (ih:∀d∈ds,∀e v w u t,Rep X.K H d v->Rep X.K H e w->RelV v u->RelV w t->kN A s u t (bh d e)) :
  ∀j (h1:j<us.toArray.size) (h2:j<vs.toArray.size),kN A s us.toArray[j] vs.toArray[j] ((λi=>match ds[i]?,es[i]? with | some x,some y=>bh x y | _,_=>true) j):=by
 intro j h1 h2;have iH:j<us.length:=by simpa using h1
 have ib:j<vs.length:=by simpa using h2
 have e1:=ru.length;have e2:=rv.length;have hx:j<xs.length:=by omega
 have hy:j<ys.length:=by omega
 obtain⟨d,hd,rd⟩:=rx.get (i:=j) (x:=xs[j]) (by simp [hx]);obtain⟨e,he,re⟩:=ry.get (i:=j) (x:=ys[j]) (by simp [hy]);obtain⟨u,hu,WT⟩:=ru.get (i:=j) (x:=xs[j]) (by simp [hx]);obtain⟨t,ht,WU⟩:=rv.get (i:=j) (x:=ys[j]) (by simp [hy]);have aH:us[j]=u:=by simpa [iH] using hu
 have pW:vs[j]=t:=by simpa [ib] using ht
 have hm:d∈ds:=jV hd;simp only [hd,he,B8,aH,pW];exact ih d hm e _ _ u t rd re WT WU
theorem aat (A:Around)(I:Inv X pins σ H s){a b:Addr}{ds es:List Dt}{xs ys:List V}{us vs:List Value}(rx:aq X.K H ds xs)(ry:aq X.K H es ys)(ru:Vals xs us)(rv:Vals ys vs)
  (pa:s.heap.IsList a us.toArray) (pb:s.heap.IsList b vs.toArray) (hu:A.units<cLine)
  (ih:∀d∈ds,∀e v w u t,Rep X.K H d v->Rep X.K H e w->RelV v u->RelV w t->kN A.in1 s u t (bh d e)):SeqAt.RcAt A s (.ref a) (.ref b) (bh (.lst ds) (.lst es)):=by
 have l1:=rx.length;have l2:=ry.length;have l3:=ru.length;have l4:=rv.length;show SeqAt.RcAt A s (.ref a) (.ref b) (et ds es)
 by_cases hl:ds.length=es.length
 ·have z:=SeqAt.RcAt.lists pa pb (by simp; omega) hu (Ao A.in1 I rx ry ru rv ih)
  rw [show us.toArray.size=ds.length by simp; omega] at z;rw [xr ds es hl] at z;exact z
 ·have z:=SeqAt.RcAt.lists_lengths pa pb (by simp; omega) hu
  rw [xq hl];exact z
theorem T9 (A:Around)(I:Inv X pins σ H s){a b:Addr}{ds es:List Dt}{xs ys:List V}{us vs:List Value}(rx:aq X.K H ds xs)(ry:aq X.K H es ys)(ru:Vals xs us)(rv:Vals ys vs)
  (pa:s.heap.IsTuple a us.toArray) (pb:s.heap.IsTuple b vs.toArray) (hu:A.units<cLine)
  (ih:∀d∈ds,∀e v w u t,Rep X.K H d v->Rep X.K H e w->RelV v u->RelV w t->kN A.in1 s u t (bh d e)):SeqAt.RcAt A s (.ref a) (.ref b) (bh (.tup ds) (.tup es)):=by
 have l1:=rx.length;have l2:=ry.length;have l3:=ru.length;have l4:=rv.length;show SeqAt.RcAt A s (.ref a) (.ref b) (et ds es);have z:=SeqAt.RcAt.tuples pa pb hu (Ao A.in1 I rx ry ru rv ih)
 by_cases hl:ds.length=es.length
 ·rw [show min us.toArray.size vs.toArray.size=ds.length by simp; omega,show (us.toArray.size==vs.toArray.size)=true by simp; omega,Bool.and_true] at z
  rw [xr ds es hl] at z;exact z
 ·rw [show (us.toArray.size==vs.toArray.size)=false by simp; omega,uR] at z
  rw [xq hl];exact z
theorem aau (A:Around)(I:Inv X pins σ H s){a b:Addr}{ds es:List Dt}{xs ys:List V}{us vs:List Value}(rx:aq X.K H ds xs)(ry:aq X.K H es ys)(ru:Vals xs us)(rv:Vals ys vs)
  (pa:s.heap.IsList a us.toArray) (pb:s.heap.IsList b vs.toArray) (hu:A.units<cLine)
  (ih:∀d∈ds,∀e v w u t,Rep X.K H d v->Rep X.K H e w->RelV v u->RelV w t->kN A.in1 s u t (bh d e)):yh A s (.ref a) (.ref b) (!bh (.lst ds) (.lst es)):=by
 have l1:=rx.length;have l2:=ry.length;have l3:=ru.length;have l4:=rv.length;show yh A s (.ref a) (.ref b) (!et ds es)
 by_cases hl:ds.length=es.length
 ·have z:=SeqAt.RcNeAt.lists pa pb (by simp; omega) hu (Ao A.in1 I rx ry ru rv ih)
  rw [show us.toArray.size=ds.length by simp; omega] at z;rw [xr ds es hl] at z;exact z
 ·have z:=SeqAt.RcNeAt.lists_lengths pa pb (by simp; omega) hu
  rw [xq hl];exact z
theorem Ua (A:Around)(I:Inv X pins σ H s){a b:Addr}{ds es:List Dt}{xs ys:List V}{us vs:List Value}(rx:aq X.K H ds xs)(ry:aq X.K H es ys)(ru:Vals xs us)(rv:Vals ys vs)
  (pa:s.heap.IsTuple a us.toArray) (pb:s.heap.IsTuple b vs.toArray) (hu:A.units<cLine)
  (ih:∀d∈ds,∀e v w u t,Rep X.K H d v->Rep X.K H e w->RelV v u->RelV w t->kN A.in1 s u t (bh d e)):yh A s (.ref a) (.ref b) (!bh (.tup ds) (.tup es)):=by
 have l1:=rx.length;have l2:=ry.length;have l3:=ru.length;have l4:=rv.length;show yh A s (.ref a) (.ref b) (!et ds es);have z:=SeqAt.RcNeAt.tuples pa pb hu (Ao A.in1 I rx ry ru rv ih)
 by_cases hl:ds.length=es.length
 ·rw [show min us.toArray.size vs.toArray.size=ds.length by simp; omega,show (us.toArray.size==vs.toArray.size)=true by simp; omega,Bool.and_true] at z
  rw [xr ds es hl] at z;exact z
 ·rw [show (us.toArray.size==vs.toArray.size)=false by simp; omega,uR] at z
  rw [xq hl];exact z
noncomputable def Sh (X:Cx)(H:Hp)(s:Shared)(u:Value):Dt->Prop
 |.ax=>u=.none
 |.bl b=>u=.bool b
 |.int i=>∃t,u=.int i t
 |.str l=>∃t,u=.str ⟨l.toArray⟩ t
 |.tup ds=>∃a xs ak,u=.ref a/\aq X.K H ds xs/\Vals xs ak/\s.heap.IsTuple a ak.toArray
 |.lst ds=>∃a xs ak,u=.ref a/\aq X.K H ds xs/\Vals xs ak/\s.heap.IsList a ak.toArray
 |.af ks=>∃a,u=.ref a/\de s.heap a ks
theorem KQ (I:Inv X pins σ H s){d:Dt}{v:V}{u:Value}(h:Rep X.K H d v)(r:RelV v u):Sh X H s u d:=by
 cases d with
 |tup ds=>
  obtain⟨a,xs,rfl,_,q,ak,v1,p⟩:=I.mw h;cases r;exact⟨a,xs,ak,rfl,q,v1,p⟩
 |lst ds=>
  obtain⟨a,xs,rfl,_,q,ak,v1,p⟩:=I.dJ h;cases r;exact⟨a,xs,ak,rfl,q,v1,p⟩
 |af ks=>
  obtain⟨a,rfl,_,p⟩:=I.sv h;cases r;exact⟨a,rfl,p⟩
 |_=>
  simp only [Rep] at h;subst h
  first
   |exact r
   | (cases r; rfl)
theorem afH {A:Around}(I:Inv X pins σ H s){d e:Dt}{v w:V}{u t:Value}(h:Rep X.K H d v)(h':Rep X.K H e w)(r:RelV v u)(r':RelV w t)(aH:A.units<cLine)
  (it:∀{ds:List Dt},(d=.lst ds∨d=.tup ds)->∀d'∈ds,∀e v w u t,Rep X.K H d' v->Rep X.K H e w->RelV v u->RelV w t->kN A.in1 s u t (bh d' e)):Al A s u t (bh d e):=by
 have nj:v=w->bh d e=true:=λz=>by
  subst z;rw [Rep.inj I h h',xt]
 have rr:∀{a:Addr},u=.ref a->t=.ref a->v=w:=λe1 e2=>by
  subst e1 e2
  cases v <;> cases w <;> simp [RelV] at r r' ⊢
  exact r.symm.trans r'
 have s1:=KQ I h r;have s2:=KQ I h' r'
 cases d with
 |ax=>
  obtain rfl:=s1
  cases e with
  |ax=>obtain rfl:=s2; exact⟨.same _,.none_none,.none_none⟩
  |bl b2=>obtain rfl:=s2; exact⟨.none_bool _,.none_bool _,.none_bool _⟩
  |int i2=>obtain⟨t2,rfl⟩:=s2; exact⟨.none_int _ _,.none_int _ _,.none_int _ _⟩
  |str lb=>obtain⟨t2,rfl⟩:=s2; exact⟨.none_str _ _,.none_str _ _,.none_str _ _⟩
  |tup es=>obtain⟨_,_,_,rfl,_,_,p⟩:=s2; exact⟨.none_tuple p aH,.none_tuple p aH,.none_tuple p aH⟩
  |lst es=>obtain⟨_,_,_,rfl,_,_,p⟩:=s2; exact⟨.none_list p aH,.none_list p aH,.none_list p aH⟩
  |af kb=>obtain⟨_,rfl,p⟩:=s2; exact(QA p aH).2
 |bl b1=>
  obtain rfl:=s1
  cases e with
  |ax=>obtain rfl:=s2; exact⟨.bool_none _,.bool_none _,.bool_none _⟩
  |bl b2=>obtain rfl:=s2; exact⟨.bool_bool _ _,.bool_bool _ _,.bool_bool _ _⟩
  |int i2=>obtain⟨t2,rfl⟩:=s2; exact⟨.bool_int _ _ _,.bool_int _ _ _,.bool_int _ _ _⟩
  |str lb=>obtain⟨t2,rfl⟩:=s2; exact⟨.bool_str _ _ _,.bool_str _ _ _,.bool_str _ _ _⟩
  |tup es=>obtain⟨_,_,_,rfl,_,_,p⟩:=s2; exact⟨.bool_tuple _ p aH,.bool_tuple _ p aH,.bool_tuple _ p aH⟩
  |lst es=>obtain⟨_,_,_,rfl,_,_,p⟩:=s2; exact⟨.bool_list _ p aH,.bool_list _ p aH,.bool_list _ p aH⟩
  |af kb=>obtain⟨_,rfl,p⟩:=s2; exact(QE _ p aH).2
 |int i1=>
  obtain⟨t1,rfl⟩:=s1
  cases e with
  |ax=>obtain rfl:=s2; exact⟨.int_none _ _,.int_none _ _,.int_none _ _⟩
  |bl b2=>obtain rfl:=s2; exact⟨.int_bool _ _ _,.int_bool _ _ _,.int_bool _ _ _⟩
  |int i2=>obtain⟨t2,rfl⟩:=s2; exact⟨.int_int _ _ _ _,.int_int _ _ _ _,.int_int _ _ _ _⟩
  |str lb=>obtain⟨t2,rfl⟩:=s2; exact⟨.int_str _ _ _ _,.int_str _ _ _ _,.int_str _ _ _ _⟩
  |tup es=>obtain⟨_,_,_,rfl,_,_,p⟩:=s2; exact⟨.int_tuple _ _ p aH,.int_tuple _ _ p aH,.int_tuple _ _ p aH⟩
  |lst es=>obtain⟨_,_,_,rfl,_,_,p⟩:=s2; exact⟨.int_list _ _ p aH,.int_list _ _ p aH,.int_list _ _ p aH⟩
  |af kb=>obtain⟨_,rfl,p⟩:=s2; exact(QC _ _ p aH).2
 |str la=>
  obtain⟨t1,rfl⟩:=s1
  cases e with
  |ax=>obtain rfl:=s2; exact⟨.str_none _ _,.str_none _ _,.str_none _ _⟩
  |bl b2=>obtain rfl:=s2; exact⟨.str_bool _ _ _,.str_bool _ _ _,.str_bool _ _ _⟩
  |int i2=>obtain⟨t2,rfl⟩:=s2; exact⟨.str_int _ _ _ _,.str_int _ _ _ _,.str_int _ _ _ _⟩
  |str lb=>
   obtain⟨t2,rfl⟩:=s2;show Al A s _ _ (la==lb);rw [← Dp];exact⟨.str_str _ _ _ _,.str_str _ _ _ _,.str_str _ _ _ _⟩
  |tup es=>obtain⟨_,_,_,rfl,_,_,p⟩:=s2; exact⟨.str_tuple _ _ p aH,.str_tuple _ _ p aH,.str_tuple _ _ p aH⟩
  |lst es=>obtain⟨_,_,_,rfl,_,_,p⟩:=s2; exact⟨.str_list _ _ p aH,.str_list _ _ p aH,.str_list _ _ p aH⟩
  |af kb=>obtain⟨_,rfl,p⟩:=s2; exact(Qz _ _ p aH).2
 |tup ds=>
  obtain⟨a1,_,_,rfl,q1,v1,p⟩:=s1
  cases e with
  |ax=>obtain rfl:=s2; exact⟨.tuple_none p aH,.tuple_none p aH,.tuple_none p aH⟩
  |bl b2=>obtain rfl:=s2; exact⟨.tuple_bool _ p aH,.tuple_bool _ p aH,.tuple_bool _ p aH⟩
  |int i2=>obtain⟨t2,rfl⟩:=s2; exact⟨.tuple_int _ _ p aH,.tuple_int _ _ p aH,.tuple_int _ _ p aH⟩
  |str lb=>obtain⟨t2,rfl⟩:=s2; exact⟨.tuple_str _ _ p aH,.tuple_str _ _ p aH,.tuple_str _ _ p aH⟩
  |tup es=>
   obtain⟨a2,_,_,rfl,q2,v2,p2⟩:=s2;have R:=T9 A I q1 q2 v1 v2 p p2 aH (it (.inr rfl));refine⟨?_,R,Ua A I q1 q2 v1 v2 p p2 aH (it (.inr rfl))⟩
   by_cases ia:a1=a2
   ·subst ia; rw [nj (rr rfl rfl)]; exact .same _
   ·exact .of_refs ia R
  |lst es=>obtain⟨a2,_,_,rfl,q2,v2,p2⟩:=s2; exact⟨.tuple_list p p2 aH,.tuple_list p p2 aH,.tuple_list p p2 aH⟩
  |af kb=>obtain⟨a2,rfl,p2⟩:=s2; exact(Qy p2 p aH).2
 |lst ds=>
  obtain⟨a1,_,_,rfl,q1,v1,p⟩:=s1
  cases e with
  |ax=>obtain rfl:=s2; exact⟨.list_none p aH,.list_none p aH,.list_none p aH⟩
  |bl b2=>obtain rfl:=s2; exact⟨.list_bool _ p aH,.list_bool _ p aH,.list_bool _ p aH⟩
  |int i2=>obtain⟨t2,rfl⟩:=s2; exact⟨.list_int _ _ p aH,.list_int _ _ p aH,.list_int _ _ p aH⟩
  |str lb=>obtain⟨t2,rfl⟩:=s2; exact⟨.list_str _ _ p aH,.list_str _ _ p aH,.list_str _ _ p aH⟩
  |tup es=>obtain⟨a2,_,_,rfl,q2,v2,p2⟩:=s2; exact⟨.list_tuple p p2 aH,.list_tuple p p2 aH,.list_tuple p p2 aH⟩
  |lst es=>
   obtain⟨a2,_,_,rfl,q2,v2,p2⟩:=s2;have R:=aat A I q1 q2 v1 v2 p p2 aH (it (.inl rfl));refine⟨?_,R,aau A I q1 q2 v1 v2 p p2 aH (it (.inl rfl))⟩
   by_cases ia:a1=a2
   ·subst ia; rw [nj (rr rfl rfl)]; exact .same _
   ·exact .of_refs ia R
  |af kb=>obtain⟨a2,rfl,p2⟩:=s2; exact(QB p2 p aH).2
 |af ka=>
  obtain⟨a1,rfl,p⟩:=s1
  cases e with
  |ax=>obtain rfl:=s2; exact(QA p aH).1
  |bl b2=>obtain rfl:=s2; exact(QE _ p aH).1
  |int i2=>obtain⟨t2,rfl⟩:=s2; exact(QC _ _ p aH).1
  |str lb=>obtain⟨t2,rfl⟩:=s2; exact(Qz _ _ p aH).1
  |tup es=>obtain⟨a2,_,_,rfl,q2,v2,p2⟩:=s2; exact(Qy p p2 aH).1
  |lst es=>obtain⟨a2,_,_,rfl,q2,v2,p2⟩:=s2; exact(QB p p2 aH).1
  |af kb=>
   obtain⟨a2,rfl,p2⟩:=s2;refine⟨?_,Lu p p2 aH,Xe p p2 aH⟩
   by_cases ia:a1=a2
   ·subst ia; rw [nj (rr rfl rfl)]; exact .same _
   ·exact .of_refs ia (Lu p p2 aH)
theorem Br {A:Around}(I:Inv X pins σ H s)(d e:Dt)(v w:V)(u t:Value)(h:Rep X.K H d v)(h':Rep X.K H e w)(r:RelV v u)(r':RelV w t)(hu:A.units+dep d<cLine):Al A s u t (bh d e):=
 afH I h h' r r' (by omega) λ{ds} lL d' hd e v w u t hv hw rv gY=>
  have hsz:sizeOf d'<sizeOf d:=by
   have:=List.sizeOf_lt_of_mem hd;rcases lL with z | z <;> rw [z] <;> simp <;> omega
  (Br (A:=A.in1) I d' e v w u t hv hw rv gY (by
   have:=Qv hd;rcases lL with z | z <;> rw [z] at hu <;> simp only [dep] at hu <;> (show A.units+1+dep d'<cLine) <;> omega)).1
termination_by sizeOf d
decreasing_by exact hsz
end
section
variable {X:Cx}
noncomputable def Xs (K:ao):R2:=λx y H Q=>∃d e,Rep K H d x/\Rep K H e y/\dep d<=50/\Q (.bl (bh d e)) H
noncomputable def Xk (K:ao):R2:=λx y H Q=>∃d e,Rep K H d x/\Rep K H e y/\dep d<=50/\Q (.bl (!bh d e)) H
theorem YS (hu:X.A.units+50<cLine):bX X (compareOp .Eq) (Xs X.K):=by
 intro pins s σ H x y v u Q I rx ry ⟨d,e,hd,he,hp,q⟩;exact(Br I d e x y v u hd he rx ry (by omega)).2.1 X.prog X.w X.xe _ (λht=>⟨.bl _,H,I,rfl,q⟩)
theorem YF (hu:X.A.units+50<cLine):bX X (compareOp .NotEq) (Xk X.K):=by
 intro pins s σ H x y v u Q I rx ry ⟨d,e,hd,he,hp,q⟩;exact(Br I d e x y v u hd he rx ry (by omega)).2.2 X.prog X.w X.xe _ (λht=>⟨.bl _,H,I,rfl,q⟩)
theorem bq {A:Around}{k:Nat}(hr:dF k A):A.units+50<cLine:=by have:=hr.un; omega
end
noncomputable def uv (ns:List Int)(k:Int):Int:=
 if k<ns.length then ns.getD k.toNat 0 else if ns=[] then 0 else ns.getD (k % (ns.length:Int)).toNat 0 * 31+k
noncomputable def lR (ns:List Int)(k:Int):Int:=(uv ns k+6151 * (k+1)) * 40692 % 2147483399
noncomputable def df (ns:List Int)(k many:Int):Int:=(lR ns k * lR ns k+lR ns k / 31) % 2147483629 % many
theorem j9 (ns:List Int)(k:Int){many:Int}(h:0<many):0<=df ns k many:=uV _ (by omega)
theorem mz (ns:List Int)(k:Int){many:Int}(h:0<many):df ns k many<many:=u7 _ h
noncomputable def j4 (ns:List Int)(k:Int)(sg:List Nat):Nat:=sg.getD (df ns k sg.length).toNat 0
theorem DC (ns:List Int)(k:Int){sg:List Nat}(h:sg≠[]):jf sg (df ns k sg.length)=some (j4 ns k sg):=by
 have hp:0<(sg.length:Int):=by
  have:=oE.mpr h;omega
 have h1:=j9 ns k hp;have h2:=mz ns k hp;have aF:(df ns k sg.length).toNat<sg.length:=by omega
 have e:df ns k sg.length=((df ns k sg.length).toNat:Int):=by omega
 rw [e];refine afB ?_;unfold j4;rw [Co,iq aF,u5]
noncomputable def d7 (ns:List Int)(a:Int)(sg:List Nat):Nat->List Nat
 |0=>[j4 ns a sg]
 |k+1=>if df ns (a+2 * ((k:Int)+1)) 2=0 then d7 ns a sg k++[(d7 ns a sg k).getLastD 0] else d7 ns a sg k++[j4 ns (a+2 * ((k:Int)+1)+1) sg]
noncomputable def rB (ns:List Int)(a many:Int)(sg:List Nat):List Nat:=d7 ns a sg (many - 1).toNat
theorem rA (ns:List Int)(a:Int)(sg:List Nat):∀k,(d7 ns a sg k).length=k+1
 |0=>rfl
 |k+1=>by
  unfold d7
  split <;> simp [rA ns a sg k]
section
variable (K:ao)
noncomputable abbrev Scr (H:Hp)(a:Addr)(ns:List Int):Prop:=bz K H a (ns.map V.int)/\ns.length<=63
end
theorem az.upd {H:Hp}{a:Addr}{o:HO}(h:H a=none):az H (L2.upd H a o):=λb u e=>by rw [ba (cZ e h)]; exact e
theorem big (n:Nat)(h:n<=10000:=by omega):n<=sizeLine:=bH h (by decide)
theorem Lm {K:ao}{H:Hp}:∀ns:List Int,aq K H (ns.map Dt.int) (ns.map V.int)
 | []=>.nil
 |n::ns=>.cons fT (Lm ns)
theorem W3 {K:ao}{H:Hp}{a:Addr}{ns:List Int}(h:bz K H a (ns.map V.int)):Rep K H (.lst (ns.map Dt.int)) (.ref a):=by
 simp only [Rep];exact⟨a,_,rfl,h,Lm ns⟩
theorem PU (ns:List Int):bh (.lst (ns.map Dt.int)) (.lst [])=decide (ns=[]):=by
 cases ns <;> rfl
noncomputable def isStar:Expr->Bool
 |.Starred ..=>true
 |_=>false
theorem gS {e:Expr}{es:List Expr}{env:Env}(h:isStar e=false):starEach (e::es) env=(false,eval e env)::starEach es env:=by
 cases e <;> first | rfl | exact absurd h (by simp [isStar])
theorem bV (X:Cx)(e:Expr)(es:List Expr)(te:TE)(t:TA)(h:isStar e=false)(ha:PE X e te)(hr:PA X es t):PA X (e::es) (Ke te t):=Ys ha hr (gS h)
end L2
namespace L2
open PySem PySem.Spec PyProof.Rows PySem.W
section
variable {prog:Program}{w:World}{A:Around}{E:Value->Shared->Prop}{s:Shared}{K:ao}{x C:Addr}{ox:Obj}
structure qK (K:ao) (C:Addr):Prop where
 cls:(clsIn K C).isSome=true
 ga:findIn K (.ref C) "__getattribute__" = some (some (.builtin "BaseException.__getattribute__"))
 na:findIn K (.ref C) "__getattr__" = some none
 ca:findIn K (.ref C) "__class__" = some (some (.builtin "object.__class__"))
 get:specialIn K (.builtin "object.__class__") "__get__" = some (some (.builtin "getset_descriptor.__get__"))
 tk:takesIn K (.builtin "object.__class__")=some true
 ob:mroIn K C (.type "object")=some true
 be:mroIn K C (.type "BaseException")=some true
noncomputable def ExcAt (h:Heap)(x C:Addr):Prop:=∃ox,h.get? x=some ox/\ox.cls=.ref C
theorem ExcAt.type {M:Model}{h:Heap}(I:ExcAt h x C):Looks M h (typeOf (.ref x)) (.ref C):=by
 obtain⟨ox,e,c⟩:=I;exact c ▸ (Looks.ld e).andThen .now
theorem adW {M:Model}{h:Heap}(Z:qK K C)(X:K.In h):Looks M h (JB (.ref x) (.ref C) "__class__") (.bind (.builtin "getset_descriptor.__get__") (.builtin "object.__class__")):=by
 have L1:=looks_findIn (M:=M) X Z.ca;have L2:Looks M h (Builtin.ObjectAttr.getOf (some (.builtin "object.__class__"))) (some (.builtin "getset_descriptor.__get__")):=looks_specialIn X Z.get
 unfold JB;refine L1.andThen (L2.andThen ?_);have L3:=looks_takesIn (M:=M) X Z.tk;exact(show Looks M h (Builtin.ObjectAttr.dataDescriptor? (some (.builtin "object.__class__")) (some (.builtin "getset_descriptor.__get__"))) (some ((.builtin "getset_descriptor.__get__"),(.builtin "object.__class__"))) from L3.andThen .now).andThen (Looks.tag .now)
theorem adV {R:Result->Shared->Prop}{tp:Value}(Z:qK K C)(X:K.In s.heap)(I:ExcAt s.heap x C)
  (h:R (.ok (.ret (.ref C))) s):codeAny (model prog w) A (.call (.builtin "getset_descriptor.__get__") ⟨[.builtin "object.__class__",.ref x,tp],[]⟩) R s:=by
 obtain⟨hh,g,dr,t,os⟩:=s;have L0:=I.type (M:=model prog w);have L1:=looks_mroIn (M:=model prog w) X Z.ob;refine codeAny_call_builtin KF.slot_gs.plain KF.entry_gs (KF.slot_gs.check _ _ _ _ _ _ _ _ KF.type_class (KF.args_gs _ _ _) ?_);unfold Builtin.«getset_descriptor.__get__» Builtin.Getset_descriptor.descrGet;rw [dga_obj];refine wpAny_bind (wpAny_pure ?_);unfold Builtin.Getset_descriptor.descrGetter Builtin.Getset_descriptor.descrCheckInstance Builtin.Getset_descriptor.descrNameAndClass isInstance;simp only [KF.owner_class]
 repeat lk
 refine⟨B2 _ (by decide +kernel),codeAny_builtin KF.entry_class ?_⟩;unfold Builtin.«object.__class__» shownTypeOf
 repeat lk
 exact h
theorem adY {MF:Value}{M:Model}{Q:Unit->Shared->Prop}(Z:qK K C)(X:K.In s.heap)(I:ExcAt s.heap x C)(hq:Q () s):wpAny M A (checkBuiltinCall "BaseException.__getattribute__" ⟨[.ref x,MF],[]⟩) Q E s:=by
 have hk:builtinKind "BaseException.__getattribute__" = some .slot:=by decide +kernel
 have ab4:splitId "BaseException.__getattribute__" = some ("BaseException","__getattribute__"):=by decide +kernel
 have L0:=I.type (M:=M);have L1:=looks_mroIn (M:=M) X Z.be;have ha:=F.args_bexc_ga (.ref x) MF;simp only [checkBuiltinCall,hk,ab4];refine wpAny_bind ?_;unfold isInstance;refine wpAny_bind (L0.at (L1.at ?_))
 repeat (first | wp_step)
 exact hq
theorem adX {Q:Option Value->Shared->Prop}(Z:qK K C)(X:K.In s.heap)(I:ExcAt s.heap x C)(h:Q (some (.ref C)) {s with toks:=s.toks+1}):wpAny (model prog w) A (getAttr? (.ref x) "__class__") Q E s:=by
 have L0:=I.type (M:=model prog w);have L1:=looks_findIn (M:=model prog w) X Z.ga;have L2:=looks_findIn (M:=model prog w) X Z.na;have L3:=adW (M:=model prog w) (x:=x) Z X;unfold getAttr? getAttrBy? getAttrBy;refine wpAny_bind (wpAny_mkText (wpAny_bind (wpAny_attempt (wpAny_holding (wpAny_bind (L0.at (wpAny_bind (L1.at ?_))))))));have Fz:(qR "BaseException.__getattribute__" == qR "object.__getattribute__")=false:=by decide +kernel
 have hx1:(onTheHeap (bx C)&&qR "BaseException.__getattribute__" == qR "object.__getattribute__")=false:=by rw [Fz]; rfl
 show wpAny _ _ (if (onTheHeap (bx C)&&qR "BaseException.__getattribute__" == qR "object.__getattribute__")=true then _ else _) _ _ _
 rw [hx1,if_neg (by decide)];unfold getAttrByItsOwn hookBefore;rw [show onTheHeap (bx C)=true from rfl,if_pos rfl];refine wpAny_bind (L2.at ?_);refine wpAny_bind (wpAny_attempt (wpAny_holding ?_));unfold callGetattribute;rw [if_neg (by decide)];unfold boundAndCalled;refine wpAny_bind (wpAny_of_eq (F.attr_ValueError.ga.bind (.ref x)) ?_);refine wpAny_call (codeAny_call_builtin F.attr_ValueError.ga.plain F.entry_bexc_ga (adY (s:={s with toks:=s.toks+1}) Z X I ?_));unfold Builtin.«object.__getattribute__»;refine wpAny_bind (wpAny_pure ?_);refine wpAny_bind (wpAny_pure (wpAny_bind (L0.at (wpAny_bind (L3.at ?_)))));show wpAny _ _ (JE (.builtin "getset_descriptor.__get__") (.builtin "object.__class__") (.ref x) (.ref C)) _ _ _
 unfold JE;show wpAny _ _ (holding [.builtin "object.__class__"] (call (.builtin "getset_descriptor.__get__") [.builtin "object.__class__",.ref x,.ref C]) >>= λv=>ret v) _ _ _
 refine wpAny_bind (wpAny_holding (wpAny_call (adV (s:={s with toks:=s.toks+1}) Z X I ?_)));exact wpAny_pure (handed_on rfl (wpAny_pure h))
theorem aaV (Z:qK K C):KitX K (.ref x) (.ref C) (λh=>ExcAt h x C) where
 ty:=λ_ _ _ I=>I.type
 it:=λ_ _ X _=>by
  obtain⟨cd,hc⟩:=jn.mp Z.cls;unfold clsIn at hc
  split at hc
  ·rename_i c' d' cd' fE ho
   intro A' Q' E' s' k q;unfold isType loadHead;exact wpAny_bind (wpAny_loadPart (k _ _ (X _ _ ho)) (wpAny_pure q))
  ·cases hc
 ne:=λh tp dd ak n sl X htp=>by
  obtain⟨cd,hc⟩:=jn.mp Z.cls;refine Bool.eq_false_iff.mpr λq=>?_;have e:C=tp:=Value.ref.inj (beq_iff_eq.mp q);subst e;unfold clsIn at hc
  split at hc
  ·rename_i c' d' cd' fE ho
   have z:=(X _ _ ho).symm.trans htp;cases z
  ·cases hc
 ca:=λX I k=>adX Z X I k
end
noncomputable def xo (C a:Addr):HO:=.ext λh=>ExcAt h a C
section
variable {X:Cx}
theorem oq:ik X (.builtin "isinstance") (λxs H Q=>∃a C D b,xs=[.ref a,D]/\H a=some (xo C a)/\qK X.K C/\(∀u,RelV D u->kitOne X.K (.ref C) u=some b)/\Q (.bl b) H):=by
 intro pins s σ H xs us Q I r ⟨a,C,D,b,e,hH,Z,hb,q⟩;subst e;obtain⟨u,t,rfl,ru,rt⟩:=r.two;cases ru;have hI:ExcAt s.heap a C:=(I.au a _ hH).1;exact kia_one (aaV (x:=a) Z) I.mG hI (hb t rt) (by intro z; cases z) λtk=>(λht=>⟨.bl b,H,I.tok tk,rfl,q⟩)
end
theorem d5.there {P:Program}{w:World}{H:Hp}{h:Heap}{a:Addr}{o:HO}(x:d5 P w H h a o):∃ob,h.get? a=some ob:=by
 cases o with
 |lst xs=>obtain⟨_,_,_,_,e⟩:=x; exact⟨_,e⟩
 |tup xs=>obtain⟨_,_,_,ob,e,_⟩:=x; exact⟨_,e⟩
 |dK kvs=>obtain⟨_,_,_,_,o,_,_,e,_⟩:=x; exact⟨_,e⟩
 |dT kvs=>obtain⟨_,_,_,_,o,_,_,e,_⟩:=x; exact⟨_,e⟩
 |set S n=>obtain⟨o,_,_,_,e,_⟩:=x; exact⟨_,e⟩
 |ins C dx fs=>obtain⟨_,_,_,e,_⟩:=x; exact⟨_,e⟩
 |own y=>exact x
 |xd fs=>obtain⟨_,⟨_,_,_,e,_⟩,_⟩:=x; exact⟨_,e⟩
 |zK lo hi=>obtain⟨_,_,_,e⟩:=x; exact⟨_,e⟩
 |bG ob u=>obtain⟨e,_⟩:=x; exact⟨_,e⟩
 |kX q=>obtain⟨ps,e,_⟩:=x; exact⟨_,e⟩
 |met f y=>exact⟨_,(show h.get? a=some _ from x)⟩
 |ext φ=>exact x.2.1
inductive bD (P:Program) (w:World) (outer:List Env) (H:Hp) (s:Shared) (E:XK) (e:Value) (s':Shared):Prop
 |mk (ea C:Addr) (H':Hp) (B:Heap) (a0:Value) (h1:e=.ref ea) (h2:s'.os=s.os) (h3:AllBare s'.gens) (h4:oN B outer ea (.ref C) a0 s'.heap) (h5:cc P w H' B) (h6:Un (aM outer) [] H H' s.heap s'.heap)
  (h7:∀b o,s.heap.get? b=some o->H b=none->b∉aM outer->B.get? b=some o) (h8:∀b o,s.heap.get? b=some o->b∉aM outer->∃o',B.get? b=some o') (h9:H' ea=none) (xk:E (.ref C) none H'):bD P w outer H s E e s'
structure Rz (X:Cx) (E:XK):Prop where
 made:∀(pins:List (Addr×Obj)) (σ:St) (H:Hp) (s:Shared) (h':Heap) (e C:Addr) (vs:List Value),Inv X pins σ H s->Heap.MadeExcOf s.heap h' e (.ref C) vs->E (.ref C) none H->X.xe (.ref e) {s with heap:=h'}
 pass:Passes (bD X.prog X.w) X E
section
variable {P:Program}{w:World}{K:ao}{mg:Str->Option Value}{base:Heap}{N:List Str}{qual:Str}{scope:Scope}{f:Addr}{cd:Value}{A:Around}{outer:List Env}{aQ:Shared}{bQ:Hp}{E:XK}
theorem Wx:Rz (cO (bD P w) P w K mg base N qual scope f cd A outer aQ bQ E) E where
 made:=by
  intro pins σ H s h' e C vs I hx hE;have c9:=I.ok.frames;have hF:=I.stack;have wV:∀env∈(cO (bD P w) P w K mg base N qual scope f cd A outer aQ bQ E).stack,∀b,env.frame=some b->b∈aM (cO (bD P w) P w K mg base N qual scope f cd A outer aQ bQ E).stack:=λenv he b hb=>B3.mpr ⟨env,he,hb⟩;refine wpAny_leaves_madeW (base:=hideAll s.heap (aM (cO (bD P w) P w K mg base N qual scope f cd A outer aQ bQ E).stack)) (h:=s.heap) c9 rfl (λb o q=>of_hideAll _ q) (funFrames_hide hF wV) hx λeQ t fl _ _ up=>?_;have sW:∀b o,s.heap.get? b=some o->b∉aM (cO (bD P w) P w K mg base N qual scope f cd A outer aQ bQ E).stack->(hideAll s.heap (aM (cO (bD P w) P w K mg base N qual scope f cd A outer aQ bQ E).stack)).get? b=some o:=λb o q hb=>hideAll_get _ q hb;have old:∀b o,aQ.heap.get? b=some o->b∉aM outer->b∉aM (cO (bD P w) P w K mg base N qual scope f cd A outer aQ bQ E).stack:=λb o q hb z=>by
   rcases aO.mp (I.k7 b z) with e | e
   ·exact absurd (aK q) (by have:=I.ok.above; rw [e]; exact md.mpr this)
   ·exact hb e
  have cG:∀b:Addr,b∉(cO (bD P w) P w K mg base N qual scope f cd A outer aQ bQ E).ex:=λb z=>nomatch z
  have wA:∀b o,aQ.heap.get? b=some o->bQ b=none->b∉aM outer->(hideAll s.heap (aM (cO (bD P w) P w K mg base N qual scope f cd A outer aQ bQ E).stack)).get? b=some o:=λb o q n hb=>sW b o (I.base.keep b o q n hb (cG b)) (old b o q hb);have vt:∀b o,aQ.heap.get? b=some o->b∉aM outer->∃o',(hideAll s.heap (aM (cO (bD P w) P w K mg base N qual scope f cd A outer aQ bQ E).stack)).get? b=some o':=λb o q hb=>by
   obtain⟨o',q'⟩:=I.base.there b o q (cG b);exact⟨o',sW b o' q' (old b o q hb)⟩
  have vF:∀b o,aQ.heap.get? b=some o->bQ b=none->b∈aM outer->∃sl,eQ.get? b=some {o with slots:=sl}:=λb o q n hb=>by
   obtain⟨sl,q'⟩:=I.base.slot b o q n hb (cG b);obtain⟨_,o2,q2,nf⟩:=I.ok.fZ.mem hb;have j8:aQ.heap.get? b=some o2:=q2;rw [q] at j8;cases j8;obtain⟨fE,q3⟩:=up b _ (hx.keeps b _ q') (by intro vs z; exact nf vs z);exact⟨fE,q3⟩
  refine⟨e,C,H,_,_,rfl,I.os,I.bare,fl,λa o q=>?_,⟨λb o q n hb _=>fl.1 b o (wA b o q n hb),λb o q n hb _=>vF b o q n hb,λb o q n _=>I.base.free b o q n (cG b),λb o q _=>?_,I.base.fR,I.base.fJ,I.base.fS⟩,wA,vt,?_,hE⟩
  ·have na:∀b u,H b=some u->b∉aM (cO (bD P w) P w K mg base N qual scope f cd A outer aQ bQ E).stack:=λb u q z=>by
    have:=I.zp b z;rw [q] at this;cases this
   refine(I.au a o q).jq (λc u hc r=>sW c u r ?_) (λ_ z=>z) λ_ _ z=>z;rcases hc with rfl | hc
   ·exact na _ _ q
   ·exact na _ _ hc
  ·by_cases hb:b∈aM outer
   ·have hn:bQ b=none:=I.ok.jI b hb
    obtain⟨sl,q'⟩:=vF b o q hn hb;exact⟨_,q'⟩
   ·obtain⟨o',q'⟩:=vt b o q hb
    exact⟨o',fl.1 b o' q'⟩
  ·cases q:H e with
   |none=>rfl
   |some u=>
    obtain⟨ob,z⟩:=(I.au e u q).there;rw [hx.new] at z;cases z
 pass:=by
  intro pins σ H s e s' I hc;obtain⟨ea,C,H',B,a0,rfl,pY,hb,fl,au,un,mF,oY,hW,hE⟩:=hc;have c9:=I.ok.frames;refine wpAny_leaves_onW c9 rfl fl λeQ mW up=>?_;have old:∀b o,aQ.heap.get? b=some o->b∉aM outer->b∉aM (cO (bD P w) P w K mg base N qual scope f cd A outer aQ bQ E).stack:=λb o q hb z=>by
   rcases aO.mp (I.k7 b z) with e | e
   ·exact absurd (aK q) (by have:=I.ok.above; rw [e]; exact md.mpr this)
   ·exact hb e
  have cG:∀b:Addr,b∉(cO (bD P w) P w K mg base N qual scope f cd A outer aQ bQ E).ex:=λb z=>nomatch z
  have wA:∀b o,aQ.heap.get? b=some o->bQ b=none->b∉aM outer->B.get? b=some o:=λb o q n hb=>mF b o (I.base.keep b o q n hb (cG b)) (I.base.free b o q n (cG b)) (old b o q hb);have vt:∀b o,aQ.heap.get? b=some o->b∉aM outer->∃o',B.get? b=some o':=λb o q hb=>by
   obtain⟨o',q'⟩:=I.base.there b o q (cG b);exact oY b o' q' (old b o q hb)
  have sub:∀b,b∈aM outer->b∈aM (cO (bD P w) P w K mg base N qual scope f cd A outer aQ bQ E).stack:=λb hb=>by
   show b∈aM (_::outer);unfold aM;rw [dG]
   split
   ·exact hb
   ·exact bR _ hb
  have vF:∀b o,aQ.heap.get? b=some o->bQ b=none->b∈aM outer->∃sl,eQ.get? b=some {o with slots:=sl}:=λb o q n hb=>by
   obtain⟨sl,q'⟩:=I.base.slot b o q n hb (cG b);obtain⟨zx,j8⟩:=un.slot b _ q' (I.base.free b o q n (cG b)) (sub b hb) (by simp);obtain⟨_,o2,q2,nf⟩:=I.ok.fZ.mem hb;have vO:aQ.heap.get? b=some o2:=q2;rw [q] at vO;cases vO;obtain⟨fE,q3⟩:=up b _ j8 (by intro vs z; exact nf vs z);exact⟨fE,q3⟩
  refine⟨ea,C,H',B,a0,rfl,pY.trans I.os,hb,mW,au,⟨λb o q n hb _=>mW.1 b o (wA b o q n hb),λb o q n hb _=>vF b o q n hb,λb o q n _=>?_,λb o q _=>?_,λb xs q=>un.fR b xs (I.base.fR b xs q),λb o u q=>un.fJ b o u (I.base.fJ b o u q),λb ps q=>?_⟩,wA,vt,hW,hE⟩
  ·obtain⟨o',q'⟩:=I.base.there b o q (cG b)
   exact un.free b o' q' (I.base.free b o q n (cG b)) (by simp)
  ·by_cases hb:b∈aM outer
   ·have hn:bQ b=none:=I.ok.jI b hb
    obtain⟨sl,q'⟩:=vF b o q hn hb;exact⟨_,q'⟩
   ·obtain⟨o',q'⟩:=vt b o q hb
    exact⟨o',mW.1 b o' q'⟩
  ·exact un.fS b ps (I.base.fS b ps q)
end
section
variable {P:Program}{w:World}{K:ao}{mg:Str->Option Value}{base:Heap}
theorem lZ.Zl {x qual:Str}{st:Stmt}{f:Addr}{fd:FuncData}{N ps:List Str}{k:Nat}{sp:Sp}(F:lZ K x qual st f fd)(S:cD N ps (aV st))(len:∀vs H Q E,sp vs H Q E->vs.length=ps.length)
  (mQ:∀(aR:Value) (A:Around) (outer:List Env) (s:Shared) (H:Hp) (vs:List V) (Q:VK) (E:XK),dF k (A.deeper (envOfC qual (aV st) s.heap.objs.size f aR))->sp vs H Q E->
   Rz (cO (bD P w) P w K mg base N qual (aV st) f aR A outer s H E) E->
   ∃t,fj (cO (bD P w) P w K mg base N qual (aV st) f aR A outer s H E) (fL st) t/\t {nx:=λ_ H'=>Q .ax H',rt:=Q} (start N vs) H) (hf:ps=[dZ]->(aV st).names.lookup dZ=some .local:=by first | assumption | decide +kernel):fN P w K mg base (bD P w) (k+1) f fd ps sp:=by
 obtain⟨oc,od,kV,doc,pm,an,aR,ct,lq,rfl,lk,i5⟩:=F.ex;refine O5 lk i5 S hf len λA outer s H vs Q E hr lC=>?_;exact mQ aR A outer s H vs Q E hr lC Wx
end
abbrev kS:List Value:=[.type "ValueError",.type "Exception",.type "BaseException",.type "object"]
theorem adU {K:ao}{h:Heap}{C:Addr}(X:K.In h)(q:excIn K C kS "ValueError.__new__" = true) :
  ∃nm qn N bs bm hdct sn sub ab col dd k0 k1 k2 k3 k5 mN,h.get? C=some (excClassObj nm qn C N bs bm hdct sn sub ab col dd k0 k1 k2 k3 k5 "ValueError.__new__")/\h.Ns N mN/\mN "__init__" = none/\OwnTail h kS bm:=by
 unfold excIn at q
 split at q
 ·rename_i dd cd sl ho
  split at q
  ·rename_i C' bm k0 k1 k2 k3 n k5 hm hs
   simp only [eY,beq_iff_eq,Bool.not_eq_true'] at q;obtain⟨⟨⟨⟨⟨rfl,rfl⟩,Ox⟩,ht⟩,au⟩,AG⟩:=q;obtain⟨nm,bs,mro,ns,qn,hd,sn,sub,ab,col,del⟩:=cd
   dsimp only at hm Ox au AG
   subst hm Ox;have N8:sl=#[k0,k1,k2,k3,some (.builtin "ValueError.__new__"),k5]:=by
    obtain⟨l⟩:=sl
    simp only at hs
    rw [hs]
   subst N8;exact⟨nm,qn,ns,bs,bm,hd,sn,sub,ab,col,dd,k0,k1,k2,k3,k5,_,X _ _ ho,.of_isNs (isNs_of_in X au),nsMap_none_of_in X au AG,tail_of_in X ht⟩
  ·cases q
 ·cases q
section
variable {X:Cx}{pos:Pos}
noncomputable def UB (C:Addr)(E:XK)(te:TE):TS:=λ_ σ H=>te σ H λ_ H1=>E (.ref C) none H1
theorem XF {x:Str}{np ij:Pos}{C:Addr}{E:XK}{e:Expr}{te:TE}(hc:X.calm=true)(R:Rz X E)(hg:Gl X x)(hm:X.mg x=some (.ref C))(hK:excIn X.K C kS "ValueError.__new__" = true)(he:PE X e te)(bB:isStar e=false:=by rfl)
  (hd:(x==("__debug__" : Str))=false:=by decide):PS X (.Raise (some (.Call (.Name x np) [e] [] ij)) none pos) (UB C E te):=by
 intro pins s σ H D I h;obtain⟨nm,qn,N,bs,bm,hdct,sn,sub,ab,col,dd,k0,k1,k2,k3,k5,mN,hC,hN,AG,T⟩:=adU I.mod.wz hK;have hs:starEach [e] X.env=[(false,eval e X.env)]:=by rw [gS bB]; rfl
 refine wpAny_Raise_call_subT F.excBase_ValueError (C:=C) (nm:=nm) (q:=qn) (N:=N) (bs:=bs) (bm:=bm) (hdct:=hdct) (sn:=sn) (sub:=sub) (ab:=ab) (col:=col) (dd:=dd) (k0:=k0) (k1:=k1) (k2:=k2) (k3:=k3) (k5:=k5) (mN:=mN)
  (T.hasType F.excBase_ValueError.hasBase) (I.ok.hd hc) (by rw [hs]; rfl) AG (EV I hg hm ⟨rfl,?_⟩ hd)
 rw [hs];refine Calls.evalArgs_plain (nA (aB (he pins s σ H _ I h) λv s1 ⟨x,H1,I1,r1,q1⟩=>ny ?_));exact⟨rfl,by show 1<=sizeLine; decide,I1.bk _ _ hC,hN.keeps I1.bk,T.keeps I1.bk,λh' ea FR=>R.made pins σ H1 s1 h' ea C _ I1 FR q1⟩
theorem Yh {a:Expr}{ta:TE}(ha:PE X a ta):PE X (.FormattedValue a (-1) none pos) (λσ H Q=>ta σ H λx H1=>∃i,x=.int i/\i.natAbs.log2<1920/\Q (.str (toString i)) H1):=by
 intro pins s σ H Q I h;refine wpAny_FormattedValue_plain (aB (ha pins s σ H _ I h) λv s1 ⟨x,H1,I1,r1,i,e,hl,q⟩=>?_);subst e;obtain⟨t,rfl⟩:=r1;exact wpAny_formatField_int hl (λht=>⟨.str (toString i),H1,I1.tok _,⟨_,rfl⟩,q⟩)
noncomputable def vy (t:TE)(k:Hp->Prop):St->Hp->Prop:=λσ H=>t σ H λx H1=>∃l:Str,x=.str l/\l.length<=1000/\k H1
theorem iz (a b:Str):(a++b).length=a.length+b.length:=strLen_append a b
theorem Yf {a b:Expr}{ta tb:TE}(ha:PE X a ta)(hb:PE X b tb):PE X (.JoinedStr [a,b] pos) (λσ H Q=>vy ta (λH1=>vy tb (λH2=>∀z,Q (.str z) H2) σ H1) σ H):=by
 intro pins s σ H Q I h;refine wpAny_JoinedStr ?_;have e0:Str.empty.length=0:=rfl;refine aB (ha pins s σ H _ I h) λv s1 h_=>?_;obtain⟨x,H1,I1,r1,l,ex,hl,q1⟩:=h_;subst ex;obtain⟨t,rfl⟩:=r1;refine⟨l,t,rfl,big _ (by rw [iz,e0]; omega),?_⟩;refine aB (hb pins s1 σ H1 _ I1 q1) λv s2 h_=>?_;obtain⟨y,H2,I2,r2,m,ey,hm,q2⟩:=h_;subst ey;obtain⟨t',rfl⟩:=r2;refine⟨m,t',rfl,big _ (by rw [iz,iz,e0]; omega),big _ (by rw [iz,iz,e0]; omega),?_⟩;exact(λht=>⟨.str _,H2,I2.tok _,⟨_,rfl⟩,q2 _⟩)
theorem Ye {a b c:Expr}{ta tb tc:TE}(ha:PE X a ta)(hb:PE X b tb)(hc:PE X c tc):PE X (.JoinedStr [a,b,c] pos) (λσ H Q=>vy ta (λH1=>vy tb (λH2=>vy tc (λH3=>∀z,Q (.str z) H3) σ H2) σ H1) σ H):=by
 intro pins s σ H Q I h;refine wpAny_JoinedStr ?_;have e0:Str.empty.length=0:=rfl;refine aB (ha pins s σ H _ I h) λv s1 h_=>?_;obtain⟨x,H1,I1,r1,l,ex,hl,q1⟩:=h_;subst ex;obtain⟨t,rfl⟩:=r1;refine⟨l,t,rfl,big _ (by rw [iz,e0]; omega),?_⟩;refine aB (hb pins s1 σ H1 _ I1 q1) λv s2 h_=>?_;obtain⟨y,H2,I2,r2,m,ey,hm,q2⟩:=h_;subst ey;obtain⟨t',rfl⟩:=r2;refine⟨m,t',rfl,big _ (by rw [iz,iz,e0]; omega),?_⟩;refine aB (hc pins s2 σ H2 _ I2 q2) λv s3 h_=>?_;obtain⟨z,H3,I3,r3,n,ez,hn,q3⟩:=h_;subst ez;obtain⟨UT,rfl⟩:=r3;refine⟨n,UT,rfl,big _ (by rw [iz,iz,iz,e0]; omega),big _ (by rw [iz,iz,iz,e0]; omega),?_⟩;exact(λht=>⟨.str _,H3,I3.tok _,⟨_,rfl⟩,q3 _⟩)
end
noncomputable abbrev Cx.kf (X:Cx)(pn:List (Addr×Obj))(W:Value->Shared->Prop):Cx:={X with pn:=pn,xe:=W}
noncomputable abbrev Cx.pS (X:Cx)(pn:List (Addr×Obj))(ea:Addr):Cx:={X with A:=X.A.mark (some (.ref ea)),calm:=false,pn:=pn,xe:=λ_ _=>False}
section
variable {X:Cx}{pins:List (Addr×Obj)}{σ:St}{H:Hp}{s:Shared}
theorem Zm (ok:X.Ok)(pn:List (Addr×Obj))(W:Value->Shared->Prop):(X.kf pn W).Ok:=
 ⟨ok.mod,ok.kind,ok.glob,ok.blt,ok.above,ok.inj,ok.has,ok.ou,ok.hd,ok.frames,ok.o5,ok.xn,ok.bs,ok.kB,ok.cG,ok.qv,ok.fZ,ok.jI⟩
theorem Inv.kf (I:Inv X pins σ H s)(W:Value->Shared->Prop):Inv (X.kf (X.pn++pins) W) [] σ H s:=
 ⟨Zm I.ok _ W,I.os,I.bare,I.base,I.loc,I.cell,I.free,I.ff,λp hp=>I.pin p (by
  have cU:p∈(X.pn++pins)++[]:=hp;simpa using cU),I.au,I.len,I.tk⟩
theorem Inv.zT {W:Value->Shared->Prop}{fU:List (Addr×Obj)}(ok:X.Ok)(I:Inv (X.kf (X.pn++pins) W) fU σ H s):Inv X pins σ H s:=
 ⟨ok,I.os,I.bare,I.base,I.loc,I.cell,I.free,I.ff,λp hp=>I.pin p (gq _ hp),I.au,I.len,I.tk⟩
theorem Inv.Yy {fU:List (Addr×Obj)}{ea:Addr}(ok:X.Ok)(I:Inv (X.pS (X.pn++pins) ea) fU σ H s):Inv X pins σ H s:=
 ⟨ok,I.os,I.bare,I.base,I.loc,I.cell,I.free,I.ff,λp hp=>I.pin p (gq _ hp),I.au,I.len,I.tk⟩
theorem Inv.ae6 {W:Value->Shared->Prop}{pn fU:List (Addr×Obj)}{H':Hp}{s':Shared}{ea C:Addr}{B h6:Heap}{a0:Value}(lB:X.stack=X.env::X.outer/\X.env.frame=some X.env.locals)(hex:X.ex=[])
  (I:Inv (X.kf pn W) fU σ H s) (pY:s'.os=s.os) (hb:AllBare s'.gens) (au:cc X.prog X.w H' B) (un:Un (aM X.stack) [] H H' s.heap s'.heap)
  (mF:∀b o,s.heap.get? b=some o->H b=none->b∉aM X.stack->B.get? b=some o) (oY:∀b o,s.heap.get? b=some o->b∉aM X.stack->∃o',B.get? b=some o') (hW:H' ea=none)
  (fl:oN B X.stack ea (.ref C) a0 h6) (up:s'.heap.UpToSlots h6) (ht:0<s'.toks) :
  Inv (X.pS pn ea) [] (bM σ.length none) (upd H' ea (xo C ea)) {s' with heap:=h6}:=by
 obtain⟨f1,f2,f3,oe,vs,T,oT,ts,e1,e2,e3,_⟩:=id fl;have AZ:aM X.stack=X.env.locals::X.fs:=by
  rw [lB.1];unfold aM;rw [dG,lB.2];rfl
 have frn:∀b,b∈aM X.stack->b≠ea:=λb bg z=>by
  obtain⟨_,o,q,nf⟩:=f3.mem bg;rw [z,e1] at q;cases q;exact nf vs e3
 have nB:∀b o,B.get? b=some o->b≠ea:=λb o q z=>by rw [z,f2] at q; cases q
 have nd:∀b o,s.heap.get? b=some o->b∈aM X.stack->∀vs,o.data≠.fields vs:=λb o q bg=>by
  obtain⟨_,o2,q2,nf⟩:=I.stack.mem bg;have j8:s.heap.get? b=some o2:=q2;rw [q] at j8;cases j8;exact nf
 have slot:∀b o,s.heap.get? b=some o->H b=none->b∈aM X.stack->∃sl,h6.get? b=some {o with slots:=sl}:=λb o q n bg=>by
  obtain⟨sl,q'⟩:=un.slot b o q n bg (by simp);obtain⟨fE,my⟩:=up b _ q' (by intro vs z; exact nd b o q bg vs z);exact⟨fE,my⟩
 have keep:∀b o,s.heap.get? b=some o->H b=none->b∉aM X.stack->h6.get? b=some o:=λb o q n bg=>f1 b o (mF b o q n bg);have A0:∀b o,s.heap.get? b=some o->H b=none->(upd H' ea (xo C ea)) b=none:=λb o q n=>by
  have bF:b≠ea:=by
   by_cases bg:b∈aM X.stack
   ·exact frn b bg
   ·exact nB b o (mF b o q n bg)
  rw [ba bF];exact un.free b o q n (by simp)
 have YY:∀b o,X.aQ.heap.get? b=some o->b∉X.fs->b∉aM X.stack:=λb o q bg z=>by
  rw [AZ] at z;rcases aO.mp z with e | e
  ·exact absurd (aK q) (by have:=I.ok.above; rw [e]; exact md.mpr this)
  ·exact bg e
 have U1:∀b,b∈X.fs->b∈aM X.stack:=λb bg=>by rw [AZ]; exact bR _ bg
 have cG:∀b:Addr,b∉X.ex:=λb z=>by rw [hex] at z; cases z
 obtain⟨m,⟨oL,es,ep,lG,FG⟩,_⟩:=I.loc;have aal:X.env.locals∈aM X.stack:=by rw [AZ]; exact bu
 obtain⟨slL,hL6⟩:=slot _ _ lG I.free aal;refine⟨⟨I.ok.mod,I.ok.kind,I.ok.glob,I.ok.blt,I.ok.above,I.ok.inj,I.ok.has,I.ok.ou,(λz=>nomatch z),I.ok.frames,I.ok.o5,I.ok.xn,I.ok.bs,I.ok.kB,I.ok.cG,I.ok.qv,I.ok.fZ,I.ok.jI⟩,pY.trans I.os,hb,
  ⟨λb o q n bg hx=>?_,λb o q n bg hx=>?_,λb o q n hx=>?_,λb o q hx=>?_,λb xs q=>?_,λb o u q=>?_,λb ps q=>?_⟩,⟨m,⟨_,es,ep,hL6,FG⟩,λi x v h1 h2 _=>?_⟩,λx c hc=>?_,?_,λx c hc=>?_,λp hp=>?_,λa o q=>?_,?_,ht⟩
 ·exact keep b o (I.base.keep b o q n bg hx) (I.base.free b o q n hx) (YY b o q bg)
 ·obtain⟨sl,q'⟩:=I.base.slot b o q n bg hx
  obtain⟨fE,my⟩:=slot b _ q' (I.base.free b o q n hx) (U1 b bg);exact⟨fE,my⟩
 ·obtain⟨o',q'⟩:=I.base.there b o q hx
  exact A0 b o' q' (I.base.free b o q n hx)
 ·obtain⟨o',q'⟩:=I.base.there b o q hx
  by_cases bg:b∈aM X.stack
  ·have hn:=I.zp b bg
   obtain⟨sl,my⟩:=slot b o' q' hn bg;exact⟨_,my⟩
  ·obtain⟨Ms,my⟩:=oY b o' q' bg
   exact⟨Ms,f1 b Ms my⟩
 ·have z:=un.fR b xs (I.base.fR b xs q)
  rw [ba (cZ z hW)];exact z
 ·have z:=un.fJ b o u (I.base.fJ b o u q)
  rw [ba (cZ z hW)];exact z
 ·have z:=un.fS b ps (I.base.fS b ps q)
  rw [ba (cZ z hW)];exact z
 ·rw [List.getElem?_replicate] at h2
  split at h2 <;> cases h2
 ·obtain⟨v,o,ho,hd⟩:=I.cell x c hc
  by_cases bg:c∈aM X.stack
  ·obtain⟨sl,my⟩:=slot c o ho (I.ff x c hc) bg
   exact⟨v,_,my,hd⟩
  ·exact⟨v,o,keep c o ho (I.ff x c hc) bg,hd⟩
 ·exact A0 _ _ lG I.free
 ·obtain⟨v,o,ho,hd⟩:=I.cell x c hc
  exact A0 c o ho (I.ff x c hc)
 ·have cU:p∈pn++fU:=by
   have fY:p∈pn++[]:=hp;exact gq _ (by simpa using fY)
  obtain⟨q,n,ne,nf,d⟩:=I.pin p cU;have bg:p.1∉aM X.stack:=λz=>by
   rw [AZ] at z;rcases aO.mp z with e | e
   ·exact ne e
   ·exact nf e
  exact⟨keep _ _ q n bg,A0 _ _ q n,ne,nf,d⟩
 ·by_cases ha:a=ea
  ·subst ha
   rw [bY] at q;cases q;exact⟨⟨oe,e1,e2.1⟩,⟨oe,e1⟩,λh1 h2 ⟨o,z1,z2⟩ k=>⟨o,k o z1,z2⟩⟩
  ·rw [ba ha] at q
   exact(au a o q).jq (λc u _ r=>f1 c u r) (λc r=>by rw [ba (cZ r hW)]; exact r) (λc xs r=>by rw [ba (cZ r hW)]; exact r) λc _ _ r=>by rw [ba (cZ r hW)]; exact r
 ·show (bM σ.length none).length=X.N.length
  rw [qM];exact I.len
theorem Inv.adq {h':Heap}{t':Nat}{v:Option Value}{i:Nat}{n:Str}{m:Str->Option Value}(I:Inv X pins σ H s)(hN:X.N.Nodup)(hi:X.N[i]?=some n)
  (hm:s.heap.Ns X.env.locals m) (FU:∀(i:Nat) (x:Str) (v:V),X.N[i]?=some x->σ[i]?=some (some v)->xO X.env.scope x->∃u,RelV v u/\Look X.env s.heap m x u)
  (hn:h'.Ns X.env.locals (λx=>if x=n then v else m x)) (sb:fQ X.env.locals s.heap h') (ht:0<t':=by first | assumption | exact Inv.tk (by assumption) | exact oP _):Inv X pins (σ.set i none) H {s with heap:=h',toks:=t'}:=by
 have kz:=I.kz;have AL:i<σ.length:=by rw [I.len]; exact(cP.mp hi).1
 have nL:∀b o,X.aQ.heap.get? b=some o->b≠X.env.locals:=λb o e=>a9 (cK (aK e) I.ok.above);refine⟨I.ok,I.os,I.bare,⟨λb o e n hb hx=>?_,λb o e n hb hx=>?_,I.base.free,λb o e hx=>?_,I.base.fR,I.base.fJ,I.base.fS⟩,⟨_,hn,λj y v' e1 e2 e3=>?_⟩,λy c e=>?_,I.free,I.ff,λp hp=>?_,λb ob e=>?_,by simpa using I.len,ht⟩
 ·exact(sb.2 b (nL b o e)).trans (I.base.keep b o e n hb hx)
 ·obtain⟨sl,q⟩:=I.base.slot b o e n hb hx
  exact⟨sl,(sb.2 b (nL b o e)).trans q⟩
 ·obtain⟨o',q⟩:=I.base.there b o e hx
  exact⟨o',(sb.2 b (nL b o e)).trans q⟩
 ·by_cases hj:j=i
  ·subst hj
   rw [nE AL] at e2;cases e2
  ·rw [kL (cz hj)] at e2
   obtain⟨u',r',q⟩:=FU j y v' e1 e2 e3;refine⟨u',r',?_⟩;rcases q with ⟨k,e⟩ | ⟨k,c,e,z⟩
   ·refine .inl ⟨k,?_⟩
    have:y≠n:=λe=>hj (EL hN e1 (e ▸ hi));simp [this,e]
   ·exact .inr ⟨k,c,e,z.sameBut sb (kz y c e)⟩
 ·obtain⟨w',z⟩:=I.cell y c e
  exact⟨w',z.sameBut sb (kz y c e)⟩
 ·obtain⟨e,n,ne,nf,d⟩:=I.pin p hp
  exact⟨(sb.2 p.1 ne).trans e,n,ne,nf,d⟩
 ·refine(I.au b ob e).jq (λc w' hc q=>(sb.2 c ?_).trans q) (λ_ q=>q) λ_ _ q=>q
  have wZ:=I.free;rintro rfl;rcases hc with rfl | hc
  ·rw [wZ] at e; cases e
  ·rw [wZ] at hc; cases hc
noncomputable def Qc (K:ao)(CT:Addr)(iN:Nat)(ts:TS)(D:Ends)(n:Nat):XK:=λcls _ H'=>∀ea C,cls=.ref C->H' ea=none->exmOne K (.ref C) (.ref CT)=some true/\
 ts {nx:=λcW H2=>D.nx (cW.set iN none) H2,rt:=D.rt,bk:=λcW H2=>D.bk (cW.set iN none) H2,ct:=λcW H2=>D.ct (cW.set iN none) H2} ((bM n none).set iN (some (.ref ea))) (upd H' ea (xo C ea))
noncomputable def Uz (K:ao)(CT:Addr)(iN:Nat)(tb:XK->TS)(ts:TS):TS:=λD σ H=>tb (Qc K CT iN ts D σ.length) D σ H
end
section
variable {X:Cx}{pos FK np:Pos}{T n:Str}{CT:Addr}{body Dh:List Stmt}{HA:Stmt}{tb:XK->TS}{ts:TS}{iN:Nat}
theorem XC (hc:X.calm=true)(lB:X.stack=X.env::X.outer/\X.env.frame=some X.env.locals)(hex:X.ex=[])(hN:X.N.Nodup)(hi:X.N[iN]?=some n)(hl:X.env.scope.names.lookup n=some .local)
  (hg:Gl X T) (hm:X.mg T=some (.ref CT)) (hb:∀pn W E',Passes (bD X.prog X.w) (X.kf pn W) E'->fj (X.kf pn W) body (tb E')) (hs:∀pn ea,fj (X.pS pn ea) (HA::Dh) ts)
  (hd:(T==("__debug__" : Str))=false:=by decide) :
  PS X (.Try body [.ExceptHandler (some (.Name T np)) (some n) (HA::Dh) FK] [] [] pos) (Uz X.K CT iN tb ts):=by
 intro pins s σ H D I h;have hp:(X.env.scope.kind == .class || (X.env.scope.kind == .module&&X.env.locals != X.env.globals))=false:=by rw [I.ok.kind]; rfl
 refine wpAny_Try_except ?_;have ace:Passes (bD X.prog X.w) (X.kf (X.pn++pins) (λe aT=>0<aT.toks->wpAny (model X.prog X.w) X.A (noteFrame e X.env) (λ_ gx=>wpAny (model X.prog X.w) X.A (setFlight e none) (λ_ gu=>wpAny (model X.prog X.w) X.A (handleBy e X.env [.ExceptHandler (some (.Name T np)) (some n) (HA::Dh) FK]) (SP X pins D) X.xe gu) X.xe gx) X.xe aT)) (Qc X.K CT iN ts D σ.length):=by
  intro fU aD H1 s1 e K7 I1 lM hts;obtain⟨ea,C,H',B,a0,rfl,pY,ac3,fl,au,un,mF,oY,hW,hE⟩:=lM;have c9:X.A.frames=some (X.env::X.outer):=by rw [← lB.1]; exact I1.ok.frames
  have mW:oN B (X.env::X.outer) ea (.ref C) a0 K7.heap:=by rw [← lB.1]; exact fl
  refine wpAny_looks_onW c9 lB.2 mW λh4 held TF=>?_;refine wpAny_landsW held λh5 A7 CS=>?_;have sW:∀b o,X.base.get? b=some o->B.get? b=some o:=λb o q=>by
   have q2:=I1.bs b o q;refine mF b o q2.1 q2.2 λz=>?_;have:=(I1.stack.mem z).1;rw [show X.base.get? b=some o from q] at this;cases this
  have K5:∀{h:Heap},oN B (X.env::X.outer) ea (.ref C) a0 h->X.K.In h:=λ{h} z=>I1.ok.mod.wz.keeps λb o q=>z.1 b o (sW b o q);refine wpAny_handleBy_cons (codeAny_handlers_test ?_) (by intro q; cases q);have g5:h5.Ns mainGlobals X.mg:=I1.ok.mod.glob.keeps λb o q=>A7.1 b o (sW b o q);refine Cn I1.ok.kind hg (Calls.loadGlobal_global (by rw [show X.env.globals=mainGlobals from I1.ok.glob]; exact g5) hm ?_) hd;obtain⟨acr,ab1⟩:=hE ea C rfl hW;obtain⟨ob,hob,ack⟩:=A7.there;have LT:Looks (model X.prog X.w) h5 (typeOf (.ref ea)) (.ref C):=ack ▸ (Looks.ld hob).andThen .now;refine(exm_one (M:=model X.prog X.w) (K5 A7) LT acr).at ?_;refine codeAny_handlers_suite_as ?_;refine lands_againW A7 λh6 fl6 TC=>?_;have TB:K7.heap.UpToSlots h6:=(TF.trans CS).trans TC;have adK:oN B X.stack ea (.ref C) a0 h6:=by rw [lB.1]; exact fl6
  have I6:=Inv.ae6 (X:=X) lB hex I1 pY ac3 au un mF oY hW adK TB hts;have hlen:aD.length=σ.length:=by rw [show aD.length=X.N.length from I1.len,show σ.length=X.N.length from I.len]
  rw [hlen] at I6;refine Dr (X:=X.pS (X.pn++pins) ea) I6 hN hi (.inl hl) (v:=.ref ea) rfl (λs7 I7=>?_) (.inr hl);refine Uj (hs (X.pn++pins) ea [] s7 _ _ _ I7 ab1) (λf s8 q8=>?_);have fin:∀{dQ:St} {H8:Hp},Inv (X.pS (X.pn++pins) ea) [] dQ H8 s8->∀(Q:Unit->Shared->Prop),(∀s9,Inv X pins (dQ.set iN none) H8 s9->Q () s9)->wpAny (model X.prog X.w) X.A (do bindName X.env n .none; unbindBehindTheSuite X.env n FK) Q X.xe s8:=λ{dQ H8} I8 Q k=>by
   have I9:Inv X pins dQ H8 s8:=I8.Yy I.ok;obtain⟨m,fc,FU⟩:=I9.loc;exact wpAny_nameGoes_keeps hl fc hp λh' v hn sb=>k _ (I9.adq hN hi fc FU hn sb)
  cases f with
  |next=>
   obtain⟨dQ,H8,I8,q⟩:=q8;exact fin I8 _ λs9 I9 _=>⟨_,H8,I9,q⟩
  |brk=>
   obtain⟨dQ,H8,I8,q⟩:=q8;exact fin I8 _ λs9 I9 _=>⟨_,H8,I9,q⟩
  |cont=>
   obtain⟨dQ,H8,I8,q⟩:=q8;exact fin I8 _ λs9 I9 _=>⟨_,H8,I9,q⟩
  |ret v=>
   obtain⟨x8,dQ,H8,I8,r8,q⟩:=q8;exact fin I8 _ λs9 I9 _=>⟨x8,_,H8,I9,r8,q⟩
 refine Ui (hb (X.pn++pins) _ _ ace [] s σ H D (I.kf _) h) λf s1 q1=>?_
 cases f with
 |next=>
  obtain⟨kE,H1,I1,q⟩:=q1;exact wpAny_execs_nil (λht=>⟨kE,H1,I1.zT I.ok,q⟩)
 |brk=>obtain⟨kE,H1,I1,q⟩:=q1; exact(λht=>⟨kE,H1,I1.zT I.ok,q⟩)
 |cont=>obtain⟨kE,H1,I1,q⟩:=q1; exact(λht=>⟨kE,H1,I1.zT I.ok,q⟩)
 |ret v=>obtain⟨x1,kE,H1,I1,r1,q⟩:=q1; exact(λht=>⟨x1,kE,H1,I1.zT I.ok,r1,q⟩)
end
theorem QJ {x:V}:∀{xs:List V}{us:List Value},Vals xs us->xs.all gH=true->us.countP (jc x)=xs.countP λy=>dq y x
 |_,_,.nil,_=>rfl
 |y::xs,u::us,.cons r t,f=>by
  rw [mj,eY] at f;rw [yr,yr,Bc r f.1,QJ t f.2]
section
variable {X:Cx}
theorem aab:qH X "list.count" (λx vs H Q=>∃p xs y,x=.ref p/\vs=[y]/\H p=some (.lst xs)/\gH y=true/\xs.all gH=true/\Q (.int (xs.countP λz=>dq z y)) H):=by
 intro pins s σ H x vs v us Q I rx rv ⟨p,xs,y,ex,ev,hH,fy,fx,q⟩;subst ex ev;cases rx;obtain⟨u,rfl,ru⟩:=rv.one;obtain⟨z,ak,n,r,hl,e⟩:=I.jy hH;refine call_meets F.slot_list_count ⟨_,e,rfl⟩ F.entry_list_count (F.args_list_count_2 _ _) (SeqAt.list_countAt p ak.toArray n none #[] u (jc y)) ⟨e,λw hw=>wm ru fy r fx w (by simpa using hw),?_⟩;refine(λht=>⟨.int (xs.countP λz=>dq z y),H,I.tok _,⟨s.toks,?_⟩,q⟩);rw [← QJ r fx]
theorem Z9:qH X "list.index" (λx vs H Q=>∃p xs y j,x=.ref p/\vs=[y]/\H p=some (.lst xs)/\gH y=true/\xs.all gH=true/\(∃z,xs[j]?=some z/\dq z y=true)/\(∀m z,m<j->xs[m]?=some z->dq z y=false)/\Q (.int (j:Nat)) H):=by
 intro pins s σ H x vs v us Q I rx rv ⟨p,xs,y,j,ex,ev,hH,fy,fx,⟨z,hz,hit⟩,lH,q⟩;subst ex ev;cases rx;obtain⟨u,rfl,ru⟩:=rv.one;obtain⟨zl,ak,n,r,hl,e⟩:=I.jy hH;have hj:j<ak.length:=by rw [← hl]; exact(cP.mp hz).1
 have fl:∀m zz,xs[m]?=some zz->gH zz=true:=λm zz h=>dR.mp fx zz (jV h);have at_:∀m zz,xs[m]?=some zz->∀(hm:m<ak.length),jc y ak[m]=dq zz y:=λm zz h hm=>by
  obtain⟨w,hw,gY⟩:=r.get h;have FC:ak[m]=w:=by simpa [hm] using hw
  rw [FC];exact Bc gY (fl m zz h)
 have sX:(j:Int)<2 ^ 63 - 1:=by
  have:=sizeLine_eq;have h24:sizeLine=2 ^ 24:=rfl;omega
 refine call_meets F.slot_list_index ⟨_,e,rfl⟩ F.entry_list_index (F.args_list_index_2 _ _) (SeqAt.list_indexAt p ak.toArray n none #[] u (jc y) j (by simpa using hj) sX ?_ ?_) ⟨e,λw hw=>wm ru fy r fx w (by simpa using hw),?_⟩
 ·simp only [B8]
  rw [at_ j z hz hj];exact hit
 ·intro m hm hmj
  have fc:m<ak.length:=by simpa using hm
  have hx:m<xs.length:=by omega
  simp only [B8];rw [at_ m xs[m] (by simp [hx]) fc];exact lH m _ hmj (by simp [hx])
 ·exact(λht=>⟨.int (j:Nat),H,I.tok _,⟨s.toks,rfl⟩,q⟩)
theorem adu (parts:List (List Nat)):(Txt.join ⟨([]:List Nat).toArray⟩ (parts.map λl=>(⟨l.toArray⟩:Str)))=⟨parts.flatten.toArray⟩:=by
 apply Bx
 unfold Txt.join Builtin.Str.glued;have key:∀(ps:List (List Nat)) (acc:Array Nat),(ps.map λl=>(⟨l.toArray⟩:Str)).foldl (λacc p=>acc++(⟨([]:List Nat).toArray⟩:Str).cps++p.cps) acc=acc++ps.flatten.toArray:=by
  intro ps
  induction ps with
  |nil=>intro acc; simp
  |cons l ps ih=>
   intro acc;rw [a5,kH,ih];simp
 cases parts with
 |nil=>rfl
 |cons l ps=>
  show (((l::ps).map λl=>(⟨l.toArray⟩:Str)).drop 1 |>.foldl (λacc p=>acc++(⟨([]:List Nat).toArray⟩:Str).cps++p.cps) (l.toArray)).toList=_;rw [a5,List.drop_one,List.tail_cons,key];simp
theorem Dl:∀{ls:List (List Nat)}{us:List Value},Vals (ls.map S) us->StrsAre us (ls.map λl=>(⟨l.toArray⟩:Str))
 | [],_,.nil=>.nil
 |l::ls,_,.cons r t=>by
  obtain⟨tk,rfl⟩:=r;exact .cons _ tk (Dl t)
theorem Z8:qH X "str.join" (λx vs H Q=>∃(p:Addr) (ls:List (List Nat)),x=S []/\vs=[.ref p]/\bz X.K H p (ls.map S)/\ls.flatten.length<=10000/\Q (S ls.flatten) H):=by
 intro pins s σ H x vs v us Q I rx rv ⟨p,ls,ex,ev,hq,hl,q⟩;subst ex ev;obtain⟨t,rfl⟩:=rx;obtain⟨u,rfl,ru⟩:=rv.one;cases ru;obtain⟨ak,r,pl,hz⟩:=I.list hq;have hs:((ls.map λl=>(⟨l.toArray⟩:Str)).map (·.length)).sum=ls.flatten.length:=by
  rw [List.length_flatten,dw];rfl
 refine join_list pl.isList (by simpa using Dl r) ?_ λt' k=>(λht=>⟨S ls.flatten,H,I.tok k,⟨t',?_⟩,q⟩)
 ·rw [hs]
  have e0:(⟨([]:List Nat).toArray⟩:Str).length=0:=rfl;rw [e0];omega
 ·rw [adu]
end
noncomputable def nk (P:Program)(w:World)(K:ao)(mg:Str->Option Value)(base:Heap)(CX:il)(k:Nat)(x:Str)(ps:List Str)(sp:Sp):Prop:=
 ∃(f:Addr) (fd:FuncData),fN P w K mg base CX k f fd ps sp/\mg x=some (.ref f)/\oR K (.ref f)=true/\Binds K fd ps []
section
variable {X:Cx}{CX:il}{k:Nat}{x:Str}{ps:List Str}{sp:Sp}{E:XK}{p pos:Pos}{e:Expr}{es:List Expr}{t:TA}
theorem L8 (C:nk X.prog X.w X.K X.mg X.base CX k x ps sp)(hr:dF k X.A)(hx:Passes CX X E)(ha:PA X (e::es) t)(bB:isStar e=false:=by rfl)(hg:Gl X x:=by rfl)(i4:(x==("__debug__" : Str))=false:=by decide)(bO:(backTo pos (starEach es X.env)).any (·.1)=false:=by rfl) :
  PE X (.Call (.Name x p) (e::es) [] pos) (Kf sp [] E t):=by
 obtain⟨f,fd,h1,h2,h3,h4⟩:=C;exact Yl h1 hr hg h2 h3 h4 .nil hx ha i4 (gS bB) bO
end
noncomputable def cw (K:ao)(mg:Str->Option Value)(x:Str)(st:Stmt)(ps:List Str):Prop:=∃f fd,lZ K x x st f fd/\mg x=some (.ref f)/\Binds K fd ps []
theorem abw:∀k:Fin 23,(iO (toString (((k:Nat):Int) - 2))).length<=1000/\(((k:Nat):Int) - 2).natAbs.log2<1920:=by decide +kernel
theorem NX {i:Int}(h1 : -2<=i)(h2:i<=20):(iO (toString i)).length<=1000/\i.natAbs.log2<1920:=by
 have h:=abw ⟨(i+2).toNat,by omega⟩;have e:((((i+2).toNat:Nat):Int) - 2)=i:=by omega
 simp only [e] at h;exact h
structure uy (K:ao) (C c0 c1 c2 c3 c4 c5 c6:Addr) (j:Nat):Prop where
 z:qK K C
 lt:j<7
 w0:kitOne K (.ref C) (.ref c0)=some (j==0)
 w1:kitOne K (.ref C) (.ref c1)=some (j==1)
 w2:kitOne K (.ref C) (.ref c2)=some (j==2)
 w3:kitOne K (.ref C) (.ref c3)=some (j==3)
 w4:kitOne K (.ref C) (.ref c4)=some (j==4)
 w5:kitOne K (.ref C) (.ref c5)=some (j==5)
 w6:kitOne K (.ref C) (.ref c6)=some (j==6)
 ve:kitOne K (.ref C) (.type "ValueError")=some true
noncomputable def CM (j:Nat):List Nat:=[[99,108,97,115,104],[110,111,32,110,97,109,101],[110,111,32,116,101,120,116],[110,111,32,116,105,99,107],[110,111,32,119,97,118,101],[116,111,111,32,108,111,110,103],[117,110,108,105,107,101]].getD j []
noncomputable def Ks (K:ao)(c0 c1 c2 c3 c4 c5 c6:Addr):Sp:=λvs H Q _=>∃a C j,vs=[.ref a]/\H a=some (xo C a)/\uy K C c0 c1 c2 c3 c4 c5 c6 j/\∀H',az H H'->Q (S (CM j)) H'
noncomputable def vD (K:ao):Sp:=λvs H Q _=>∃(a:Addr) (ns:List Int),vs=[.ref a]/\Scr K H a ns/\∀H',Q (.bl true) H'
theorem afj:bootBuiltins "ValueError" = some (.type "ValueError"):=by with_unfolding_all rfl
theorem A5:∀l:List Nat,(l.map λc=>[c]).flatten=l
 | []=>rfl
 |c::l=>by simp only [a5,B1,A5 l]; rfl
theorem O2 (l:List Nat):∀(k:Nat) (acc:List Nat),List.foldl (λx1 x2=>x1++x2) acc.toArray (bM k l.toArray)=(acc++(bM k l).flatten).toArray
 |0,acc=>by simp
 |k+1,acc=>by
  have e:acc.toArray++l.toArray=(acc++l).toArray:=by simp
  have e2:(acc++l)++(bM k l).flatten=acc++(bM (k+1) l).flatten:=by
   rw [vd,B1,rh]
  rw [← e2,← O2 l k (acc++l),← e,vd,kH]
section
variable {X:Cx}
noncomputable def Xj:R2:=λx y H Q=>∃l n,x=S l/\y=.int n/\-1000<=n/\n<=1000/\l.length<=1000/\Q (S (bM n.toNat l).flatten) H
theorem Yz:bX X (binaryOp .Mult) Xj:=by
 intro pins s σ H x y v u Q I rx ry ⟨l,n,ex,ey,n0,n1,hl,q⟩;subst ex ey;obtain⟨t,rfl⟩:=rx;obtain⟨t',rfl⟩:=ry;have hlen:(⟨l.toArray⟩:Str).length=l.length:=by simp [gP]
 refine P.mul_str ?_ ?_ ?_ ?_
 ·rw [decide_eq_false (by omega),decide_eq_false (by omega)]
  rfl
 ·intro h1 _
  rw [hlen];have:(1000:Int)<=(2 ^ 63 - 1) / n:=by
   rw [Int.le_ediv_iff_mul_le (by omega)];omega
  omega
 ·intro h1 _
  rw [hlen];have h2:l.length * n.toNat<=1000 * 1000:=Nat.mul_le_mul hl (by omega);unfold Builtin.Str.tooLong;exact decide_eq_false (by have:sizeLine=2 ^ 24:=rfl; omega)
 ·by_cases h1:n<1
  ·rw [if_pos h1]
   refine⟨by decide,λht=>⟨S (bM n.toNat l).flatten,H,I.tok _,⟨s.toks,?_⟩,q⟩⟩;have:n.toNat=0:=by omega
   rw [this];rfl
  ·rw [if_neg h1]
   by_cases h2:(n==1 || (⟨l.toArray⟩:Str).length==0)=true
   ·rw [if_pos h2]
    refine(λht=>⟨S (bM n.toNat l).flatten,H,I,⟨t,?_⟩,q⟩);have e:(bM n.toNat l).flatten=l:=by
     rw [hlen] at h2;simp only [Bool.or_eq_true,beq_iff_eq] at h2;rcases h2 with h2 | h2
     ·subst h2; simp
     ·have:l=[]:=oH.mp h2
      subst this; simp
    rw [e]
   ·rw [if_neg h2]
    have e:(⟨(bM n.toNat l.toArray).foldl (· ++ ·) #[]⟩:Str)=⟨(bM n.toNat l).flatten.toArray⟩:=by
     have:=O2 l n.toNat [];simp only [yq] at this;exact congrArg Str.mk this
    show _/\_;rw [e];refine⟨?_,λht=>⟨S (bM n.toNat l).flatten,H,I.tok _,⟨_,rfl⟩,q⟩⟩;show (bM n.toNat l).flatten.toArray.size<=sizeLine;have h3:n.toNat * l.length<=1000 * 1000:=Nat.mul_le_mul (by omega) hl;have:sizeLine=2 ^ 24:=rfl;simp;omega
end
section
variable {X:Cx}{pins:List (Addr×Obj)}{σ:St}{H:Hp}{s:Shared}
theorem Inv.za {ch:List Addr}{h':Heap}{t':Nat}{T:Addr}{o:HO}(I:Inv X pins σ H s)(hf:∀b∈ch,fw X pins H b)(k:∀b u,b∉ch->s.heap.get? b=some u->h'.get? b=some u)(hT:s.heap.objs.size<=T)(new:d5 X.prog X.w (upd H T o) h' T o)(ht:0<t':=by first | assumption | exact Inv.tk (by assumption)) :
  Inv X pins σ (upd H T o) {s with heap:=h',toks:=t'}:=by
 have hn:H T=none:=I.au.fresh hT;have nT:∀b u,s.heap.get? b=some u->b≠T:=λb u e z=>absurd (aK e) (by rw [z]; exact md.mpr hT);have nX:∀b u,H b=some u->b∉ch:=λb u e z=>by rw [(hf b z).1] at e; cases e
 have up:∀b u,H b=some u->upd H T o b=some u:=λb u e=>by rw [ba (cZ e hn)]; exact e
 refine I.step (g':=s.gens) (d':=s.drawn) (ch:=ch) (λb hb=>?_) (λb u _ _ hc e _=>k b u hc e) (λb u _ _ hc e _=>⟨u.slots,k b u hc e⟩) (λb u _ e n=>by rw [ba (nT b u e)]; exact n)
  (λb u hc e=>⟨u,k b u hc e⟩) (λb xs e=>up b _ e) (λb _ _ e=>up b _ e) (λb q e=>up b _ e) (λm hm=>?_) (λb u e=>?_) I.bare ht
 ·obtain⟨_,f1,_,f3,f4,f5⟩:=hf b hb
  exact⟨f3,f1,f4,f5⟩
 ·obtain⟨u,es,ep,ho,r⟩:=hm
  exact⟨u,es,ep,k _ u (λz=>(hf _ z).2.1 rfl) ho,r⟩
 ·by_cases hb:b=T
  ·subst hb
   rw [bY] at e;cases e;exact new
  ·rw [ba hb] at e
   refine(I.au b u e).jq (λc v hc q=>k c v ?_ q) (λc q=>up c _ q) (λc _ q=>up c _ q) λc _ _ q=>up c _ q;rcases hc with z | z
   ·rw [z]; exact nX b u e
   ·exact nX c _ z
theorem Inv.C2 {ch:List Addr}{h':Heap}{t':Nat}(I:Inv X pins σ H s)(hf:∀b∈ch,fw X pins H b)(k:∀b u,b∉ch->s.heap.get? b=some u->h'.get? b=some u)(ht:0<t':=by first | assumption | exact Inv.tk (by assumption)) :
  Inv X pins σ H {s with heap:=h',toks:=t'}:=by
 have nX:∀b u,H b=some u->b∉ch:=λb u e z=>by rw [(hf b z).1] at e; cases e
 refine I.step (g':=s.gens) (d':=s.drawn) (ch:=ch) (λb hb=>?_) (λb u _ _ hc e _=>k b u hc e) (λb u _ _ hc e _=>⟨u.slots,k b u hc e⟩) (λb u _ e n=>n)
  (λb u hc e=>⟨u,k b u hc e⟩) (λb xs e=>e) (λb _ _ e=>e) (λb q e=>e) (λm hm=>?_) (λb u e=>?_) I.bare ht
 ·obtain⟨_,f1,_,f3,f4,f5⟩:=hf b hb
  exact⟨f3,f1,f4,f5⟩
 ·obtain⟨u,es,ep,ho,r⟩:=hm
  exact⟨u,es,ep,k _ u (λz=>(hf _ z).2.1 rfl) ho,r⟩
 ·refine(I.au b u e).jq (λc v hc q=>k c v ?_ q) (λc q=>q) λc _ q=>q
  rcases hc with z | z
  ·rw [z]; exact nX b u e
  ·exact nX c _ z
end
noncomputable def RY (K:ao)(a:Addr):It:=
 ⟨λi H=>∃xs,bz K H a xs/\i<xs.length,
  λi H x H'=>∃T v,x=.ref T/\H T=none/\H'=upd H T (.tup [.int (i:Nat),v])/\∀xs,bz K H a xs->xs[i]?=some v,
  λi H=>∃xs,bz K H a xs/\i=xs.length⟩
noncomputable def RX (l:List Nat):It:=
 ⟨λi H=>i<l.length,
  λi H x H'=>∃T c,x=.ref T/\H T=none/\H'=upd H T (.tup [.int (i:Nat),S [c]])/\l[i]?=some c,
  λi H=>i=l.length⟩
theorem T8 {P:Program}{w:World}{K:ao}{elts:List Expr}{kk:Nat}{dS:Pos}{e it l:Addr}(qd:e≠it)(hle:l≠e)(tw:l≠it) :
  Turn P w K (.Tuple elts kk dS) (RY K l) [e,it] e (λi h=>(∃old,IsEnum h e it i old)/\h.IsListIter it l i) where
 mem:=by simp
 obj:=λi h st b hb=>by
  obtain⟨⟨old,he⟩,⟨o1,e1,c1,d1⟩⟩:=st;simp only [aO,eL,or_false] at hb;rcases hb with rfl | rfl
  ·exact⟨_,he,λv z=>nomatch z⟩
  ·exact⟨_,e1,λv z=>by rw [d1] at z; cases z⟩
 keep:=λi h h' st k=>by
  obtain⟨⟨old,he⟩,h1⟩:=st;exact⟨⟨old,k e (by simp) _ he⟩,h1.at λo q=>k it (by simp) o q⟩
 item:=by
  intro X hP hw hK hc i pins s σ H E I hf st hg;subst hP hw hK;obtain⟨xs,ki,hi⟩:=hg;obtain⟨us,vL,p1,_⟩:=I.list ki;have n8:=vL.length;have WW:=WalksT.enumerate (prog:=X.prog) (w:=X.w) (I.ok.hd hc) e it l qd hle tw us.toArray;obtain⟨he,h1⟩:=st;refine WW.item i s _ E (by simp; omega) ⟨he,h1,p1.isList⟩ λT vals h' tk Gp hT xg xi kk=>?_;refine(λht=>⟨_,rfl,WW.go elts _ dS i T _ _ E xi λeQ vC wy=>?_⟩);obtain⟨t,u,hu,rfl⟩:=Gp;obtain⟨u',aH,ru⟩:=vL.get (x:=xs[i]) (i:=i) (by simp [hi]);have eu:u=u':=by
   have:us[i]?=some u:=by simpa using hu
   rw [aH] at this;exact(gn this).symm
  subst eu;have pP:∀b o,b∉[e,it]->s.heap.get? b=some o->eQ.get? b=some o:=λb o hb q=>wy b o hb (kk b o hb q);have Gj:=WW.apart i T _ xi;obtain⟨oT,eT,rT⟩:=xg;have I2:Inv X pins σ (upd H T (.tup [.int (i:Nat),xs[i]])) {s with heap:=eQ,toks:=tk}:=
   I.za (ch:=[e,it]) hf pP hT ⟨by show 2<=sizeLine; decide,[.int i t,u],.cons ⟨t,rfl⟩ (.cons ru .nil),⟨oT,wy T oT Gj eT,rT⟩⟩
  obtain⟨z1,z2,_⟩:=vC;refine(λht=>⟨.ref T,_,I2,rfl,⟨T,xs[i],rfl,I.au.fresh hT,rfl,λxs' h=>by rw [I.wq h ki]; simp [hi]⟩,⟨z1,z2⟩,λb hb=>?_⟩);have bne:b≠T:=by
   rintro rfl;have eM:∃o,s.heap.get? b=some o:=by
    obtain⟨old,he⟩:=he;obtain⟨o1,e1,_⟩:=h1;simp only [aO,eL,or_false] at hb;rcases hb with h | h
    ·rw [h]; exact⟨_,he⟩
    ·rw [h]; exact⟨_,e1⟩
   obtain⟨o,q⟩:=eM;exact absurd (aK q) (md.mpr hT)
  rw [ba bne];exact(hf b hb).1
 done:=by
  intro X hP hw hK hc i pins s σ H E I hf st hg;subst hP hw hK;obtain⟨xs,ki,hi⟩:=hg;obtain⟨us,vL,p1,_⟩:=I.list ki;have n8:=vL.length;have WW:=WalksT.enumerate (prog:=X.prog) (w:=X.w) (I.ok.hd hc) e it l qd hle tw us.toArray;have ei:i=us.toArray.size:=by simp; omega
  rw [ei] at st;exact WW.done s _ E ⟨st.1,st.2,p1.isList⟩ λh' tk kk=>(λht=>⟨rfl,I.C2 (ch:=[e,it]) hf kk⟩)
 self:=λ_ _ _ _ _ st h=>by
  obtain⟨⟨old,he⟩,_⟩:=st;exact wpAny_pyIter_enum he h
theorem T7 {P:Program}{w:World}{K:ao}{elts:List Expr}{kk:Nat}{dS:Pos}{e it:Addr}(qd:e≠it)(l:List Nat)(ty:String)(t:Tok)(jC:ty = "str_ascii_iterator" ∨ty = "str_iterator") :
  Turn P w K (.Tuple elts kk dS) (RX l) [e,it] e (λi h=>(∃old,IsEnum h e it i old)/\h.IsStrIter it ty ⟨l.toArray⟩ t i):=by
 have WW:∀A:Around,A.handled=none->WalksT P w A e [e,it] [e,it] l.length (λi vals=>∃t x,(∃c,l[i]?=some c/\∃t1,x=qP ⟨#[c]⟩ t1)/\vals=#[.int i t,x]) (λi h=>(∃old,IsEnum h e it i old)/\h.IsStrIter it ty ⟨l.toArray⟩ t i)
   (λi T h=>(∃x,IsEnumOut h e it ((i:Int)+1) x T)/\h.IsStrIter it ty ⟨l.toArray⟩ t (i+1)/\T≠e/\T≠it):=λA hh=>by
  rcases jC with rfl | rfl
  ·simpa using WalksT.enumerateD (prog:=P) (w:=w) (A:=A) (Draws.strAscii (A:=A.in1) hh it ⟨l.toArray⟩ t) e qd (by simpa using qd) (by simp)
  ·simpa using WalksT.enumerateD (prog:=P) (w:=w) (A:=A) (Draws.strWide (A:=A.in1) hh it ⟨l.toArray⟩ t) e qd (by simpa using qd) (by simp)
 refine⟨by simp,λi h st b hb=>?_,λi h h' st k=>?_,?_,?_,?_⟩
 ·obtain⟨⟨old,he⟩,⟨o1,e1,c1,d1⟩⟩:=st
  simp only [aO,eL,or_false] at hb;rcases hb with rfl | rfl
  ·exact⟨_,he,λv z=>nomatch z⟩
  ·exact⟨_,e1,λv z=>by rw [d1] at z; cases z⟩
 ·obtain⟨⟨old,he⟩,⟨o,e1,r⟩⟩:=st
  exact⟨⟨old,k e (by simp) _ he⟩,⟨o,k it (by simp) o e1,r⟩⟩
 ·intro X hP hw hK hc i pins s σ H E I hf st hg
  subst hP hw hK;have W1:=WW X.A (I.ok.hd hc);refine W1.item i s _ E hg st λT vals h' tk Gp hT xg xi kk=>?_;refine(λht=>⟨_,rfl,W1.go elts _ dS i T _ _ E xi λeQ vC wy=>?_⟩);obtain⟨t2,u,hu,rfl⟩:=Gp;obtain⟨c,Gh,tu,rfl⟩:=hu;have pP:∀b o,b∉[e,it]->s.heap.get? b=some o->eQ.get? b=some o:=λb o hb q=>wy b o hb (kk b o hb q);have Gj:=W1.apart i T _ xi;obtain⟨oT,eT,rT⟩:=xg;have I2:Inv X pins σ (upd H T (.tup [.int (i:Nat),S [c]])) {s with heap:=eQ,toks:=tk}:=
   I.za (ch:=[e,it]) hf pP hT ⟨by show 2<=sizeLine; decide,[.int i t2,.str ⟨#[c]⟩ tu],.cons ⟨t2,rfl⟩ (.cons ⟨tu,rfl⟩ .nil),⟨oT,wy T oT Gj eT,rT⟩⟩
  refine(λht=>⟨.ref T,_,I2,rfl,⟨T,c,rfl,I.au.fresh hT,rfl,Gh⟩,vC,λb hb=>?_⟩);have bne:b≠T:=by
   rintro rfl;have eM:∃o,s.heap.get? b=some o:=by
    obtain⟨⟨old,he⟩,⟨o1,e1,_⟩⟩:=st;simp only [aO,eL,or_false] at hb;rcases hb with h | h
    ·rw [h]; exact⟨_,he⟩
    ·rw [h]; exact⟨_,e1⟩
   obtain⟨o,q⟩:=eM;exact absurd (aK q) (md.mpr hT)
  rw [ba bne];exact(hf b hb).1
 ·intro X hP hw hK hc i pins s σ H E I hf st hg
  subst hP hw hK;have ei:i=l.length:=hg;rw [ei] at st;exact(WW X.A (I.ok.hd hc)).done s _ E st λh' tk kk=>(λht=>⟨rfl,I.C2 (ch:=[e,it]) hf kk⟩)
 ·intro A i s Q E st h
  obtain⟨⟨old,he⟩,_⟩:=st;exact wpAny_pyIter_enum he h
section
variable {X:Cx}
theorem Z1 {n l:Nat}(h:l<n):l≠n+1/\l≠n/\n+1≠n:=⟨by omega,by omega,by omega⟩
noncomputable def abL (K:ao)(ta:TA):TI:=λσ H R=>ta σ H λvs H1=>∃a xs,vs=[.ref a]/\bz K H1 a xs/\R (RY K a) H1
theorem X2 {elts:List Expr}{kk:Nat}{dS:Pos}{a:Expr}{ta:TA}{p pos:Pos}(hg:Gl X "enumerate")(hm:X.mg "enumerate" = none)(ha:PA X [a] ta)(hs:starEach [a] X.env=[(false,eval a X.env)]:=by rfl) :
  PI X (.Tuple elts kk dS) (.Call (.Name "enumerate" p) [a] [] pos) (abL X.K ta):=by
 intro pins s σ H R I h;refine Call_ (g6 I hg hm boot_enumerate (jW (aB (ha pos pins s σ H _ I h) λus s1 ⟨vs,H1,I1,r1,q1⟩=>?_) hs rfl));obtain⟨l,xs,e,ki,q⟩:=q1;subst e
 cases r1 with
 |cons r rr=>
  cases rr;cases r;obtain⟨us,vL,p1,_⟩:=I1.list ki;have b1:l<s1.heap.objs.size:=by obtain⟨o,e,_⟩:=p1.isList; exact aK e
  obtain⟨n1,n2,n3⟩:=Z1 b1;refine call_enumerate_list p1.isList λh' he h1 hsz kk _=>?_;refine wpAny_pyIter_enum he λ_=>?_;refine⟨s1.heap.objs.size+1,[s1.heap.objs.size+1,s1.heap.objs.size],_,_,H1,rfl,I1.kept (t':=s1.toks) kk,T8 n3 n1 n2,⟨⟨_,he⟩,h1⟩,λb hb=>?_,q⟩;have bg:s1.heap.objs.size<=b:=by
   simp only [aO,eL,or_false] at hb;rcases hb with h | h <;> (rw [h]; first | exact aN _ | exact jS _ _)
  exact I1.i8 bg (I1.au.fresh bg)
noncomputable def abK (ta:TA):TI:=λσ H R=>ta σ H λvs H1=>∃l,vs=[S l]/\R (RX l) H1
theorem X1 {elts:List Expr}{kk:Nat}{dS:Pos}{a:Expr}{ta:TA}{p pos:Pos}(hg:Gl X "enumerate")(hm:X.mg "enumerate" = none)(ha:PA X [a] ta)(hs:starEach [a] X.env=[(false,eval a X.env)]:=by rfl) :
  PI X (.Tuple elts kk dS) (.Call (.Name "enumerate" p) [a] [] pos) (abK ta):=by
 intro pins s σ H R I h;refine Call_ (g6 I hg hm boot_enumerate (jW (aB (ha pos pins s σ H _ I h) λus s1 ⟨vs,H1,I1,r1,q1⟩=>?_) hs rfl));obtain⟨l,e,q⟩:=q1;subst e
 cases r1 with
 |cons r rr=>
  cases rr;obtain⟨t,rfl⟩:=r;have n3:s1.heap.objs.size+1≠s1.heap.objs.size:=by omega
  refine call_enumerate_str λh' he h1 hsz kk _=>?_;refine wpAny_pyIter_enum he λ_=>?_;refine⟨s1.heap.objs.size+1,[s1.heap.objs.size+1,s1.heap.objs.size],_,_,H1,rfl,I1.kept (t':=s1.toks) kk,T7 n3 l (strIterType ⟨l.toArray⟩) t ?_,⟨⟨_,he⟩,h1⟩,λb hb=>?_,q⟩
  ·unfold strIterType
   split
   ·exact .inl rfl
   ·exact .inr rfl
  have bg:s1.heap.objs.size<=b:=by
   simp only [aO,eL,or_false] at hb;rcases hb with h | h <;> (rw [h]; first | exact aN _ | exact jS _ _)
  exact I1.i8 bg (I1.au.fresh bg)
end
noncomputable def ar (H:Hp)(A:List Addr):Hp:=λb=>if b∈A then none else H b
theorem di {H:Hp}{A:List Addr}{b:Addr}(h:b∉A):ar H A b=H b:=by unfold ar; rw [if_neg h]
theorem F7 {H:Hp}{A:List Addr}{b:Addr}(h:b∈A):ar H A b=none:=by unfold ar; rw [if_pos h]
theorem gZ {H:Hp}{A:List Addr}{b:Addr}{o:HO}(h:ar H A b=some o):b∉A/\H b=some o:=by
 by_cases hb:b∈A
 ·rw [F7 hb] at h; cases h
 ·rw [di hb] at h; exact⟨hb,h⟩
theorem bw {H:Hp}{A:List Addr}:az (ar H A) H:=λb o e=>(gZ e).2
theorem az.ar {H H':Hp}(s:az H H')(A:List Addr):az (L2.ar H A) (L2.ar H' A):=λb o e=>by
 obtain⟨h1,h2⟩:=gZ e;rw [di h1];exact s b o h2
noncomputable abbrev cV (H:Hp)(A:List Addr):Prop:=∀a∈A,H a≠none
theorem cV.mono {H H':Hp}{A:List Addr}(h:cV H A)(s:az H H'):cV H' A:=λa ha z=>by
 cases q:H a with
 |none=>exact h a ha q
 |some o=>rw [s a o q] at z; cases z
theorem cV.fresh {H:Hp}{A:List Addr}(h:cV H A){p:Addr}(hp:H p=none):p∉A:=λz=>h p z hp
theorem kj {H:Hp}{A:List Addr}(h:cV H A){p:Addr}{o:HO}(hp:H p=none):ar (upd H p o) A p=some o:=by
 rw [di (h.fresh hp)];exact bY
noncomputable def ajd (K:ao)(C:Addr):Prop:=cX K mainGlobals "Board" = some (some (.ref C))/\Cls K C/\RS K C "done" /\RS K C "undone"
noncomputable abbrev QU (l m:Addr):List (Str×V):=[("done",.ref l),("undone",.ref m)]
noncomputable def g7:Bd->Bool
 |.own _=>true
 |.bP _=>true
 |.jd _ _=>true
 |_=>false
section
variable (K:ao)
noncomputable def jh (A:List Addr)(H:Hp)(v:V):Bd->Prop
 |.own ds=>∃a xs,v=.ref a/\H a=some (.lst xs)/\aq K (ar H A) ds xs/\bj ds/\ds.length<=10000
 |.bP ks=>∃a,v=.ref a/\H a=some (.dK (aJ ks))/\sm (.af ks)
 |.jd dn un=>∃a dx l m C xs ys,v=.ref a/\ajd K C/\H a=some (.ins C dx (QU l m))/\H dx=some (.own a)/\H l=some (.lst xs)/\H m=some (.lst ys)/\l≠m/\
   (aq K (ar H A) dn xs/\bj dn/\dn.length<=10000)/\aq K (ar H A) un ys/\bj un/\un.length<=10000
 |_=>False
noncomputable def cN (H:Hp):V->Bd->List Addr
 |.ref a,.jd _ _=>match H a with
  |some (.ins _ dx [(_,.ref l),(_,.ref m)])=>[a,dx,l,m]
  |_=>[a]
 |.ref a,_=>[a]
 |_,_=>[]
structure bC (O A:List Addr) (ρ:aa) (σ:St) (H:Hp):Prop where
 len:ρ.length=σ.length
 cB:cV H A
 sub:∀a∈O,a∈A
 val:∀(i:Nat) d,ρ[i]?=some (.val d)->∃v,σ[i]?=some (some v)/\Rep K (ar H A) d v/\sm d
 ow:∀(i:Nat) b,ρ[i]?=some b->g7 b=true->∃v,σ[i]?=some (some v)/\jh K A H v b/\∀a∈cN H v b,a∈O
 apart:∀(i j:Nat) b c v w,i≠j->ρ[i]?=some b->ρ[j]?=some c->g7 b=true->g7 c=true->σ[i]?=some (some v)->σ[j]?=some (some w)->∀a∈cN H v b,a∉cN H w c
 bo:∀(i:Nat) p dn un,ρ[i]?=some (.bor p dn un)->∃v,σ[i]?=some (some v)/\(∀a,p=some a->v=.ref a)/\jh K A H v (.jd dn un)/\∀a∈cN H v (.jd dn un),a∈A/\a∉O
end
section
variable {K:ao}{O A O' A':List Addr}{ρ:aa}{σ:St}{H H':Hp}{v:V}{b:Bd}
theorem jh.fst (h:jh K A H v b):∃a,v=.ref a/\a∈cN H v b:=by
 cases b with
 |own ds=>obtain⟨a,xs,rfl,_⟩:=h; exact⟨a,rfl,bu⟩
 |bP ks=>obtain⟨a,rfl,_⟩:=h; exact⟨a,rfl,bu⟩
 |jd dn un=>
  obtain⟨a,dx,l,m,C,xs,ys,rfl,_,h1,_⟩:=h;refine⟨a,rfl,?_⟩;show a∈(match H a with | some (.ins _ dx [(_,.ref l),(_,.ref m)])=>[a,dx,l,m] | _=>[a]);rw [h1];exact bu
 |_=>exact h.elim
theorem OZ {a dx l m C:Addr}{dn un:List Dt}(h:H a=some (.ins C dx (QU l m))):cN H (.ref a) (.jd dn un)=[a,dx,l,m]:=by
 show (match H a with | some (.ins _ dx [(_,.ref l),(_,.ref m)])=>[a,dx,l,m] | _=>[a])=_;rw [h]
theorem GQ (h:∀a,v=.ref a->H' a=H a):cN H' v b=cN H v b:=by
 cases v with
 |ref a=>
  cases b with
  |jd dn un=>
   show (match H' a with | some (.ins _ dx [(_,.ref l),(_,.ref m)])=>[a,dx,l,m] | _=>[a])=_;rw [h a rfl];rfl
  |_=>rfl
 |_=>rfl
theorem jh.off (h:jh K A H v b)(k:∀a∈cN H v b,H' a=H a)(s:az (ar H A) (ar H' A')):jh K A' H' v b:=by
 cases b with
 |own ds=>
  obtain⟨a,xs,rfl,h1,h2,h3⟩:=h;exact⟨a,xs,rfl,(k a bu).trans h1,h2.mono s,h3⟩
 |bP ks=>
  obtain⟨a,rfl,h1,h2⟩:=h;exact⟨a,rfl,(k a bu).trans h1,h2⟩
 |jd dn un=>
  obtain⟨a,dx,l,m,C,xs,ys,rfl,hC,h1,h2,h3,h4,h5,⟨h6,h7⟩,h8,h9⟩:=h;rw [OZ h1] at k;exact⟨a,dx,l,m,C,xs,ys,rfl,hC,(k a (by simp)).trans h1,(k dx (by simp)).trans h2,(k l (by simp)).trans h3,(k m (by simp)).trans h4,h5,⟨h6.mono s,h7⟩,h8.mono s,h9⟩
 |_=>exact h.elim
theorem jh.live (h:jh K A H v b){a:Addr}(ha:a∈cN H v b):H a≠none:=by
 cases b with
 |own ds=>
  obtain⟨p,xs,rfl,h1,_⟩:=h;obtain rfl:a=p:=by simpa [cN] using ha
  rw [h1]; simp
 |bP ks=>
  obtain⟨p,rfl,h1,_⟩:=h;obtain rfl:a=p:=by simpa [cN] using ha
  rw [h1]; simp
 |jd dn un=>
  obtain⟨p,dx,l,m,C,xs,ys,rfl,hC,h1,h2,h3,h4,_⟩:=h;rw [OZ h1] at ha;simp only [aO,eL,or_false] at ha;rcases ha with rfl | rfl | rfl | rfl <;> simp [*]
 |_=>exact h.elim
theorem DG {a:Addr}(s:az H H')(h:H a≠none):H' a=H a:=by
 cases e:H a with
 |none=>exact(h e).elim
 |some o=>exact s a o e
theorem bC.mono (F:bC K O A ρ σ H)(s:az H H'):bC K O A ρ σ H':=by
 have fe:∀{v b},jh K A H v b->cN H' v b=cN H v b:=λ{v b} w=>GQ λa e=>by
  obtain⟨a',e',ha⟩:=w.fst;rw [e] at e';cases e';exact DG s (w.live ha)
 refine⟨F.len,F.cB.mono s,F.sub,λi d e=>?_,λi b e o=>?_,λi j b c v w F4 e1 e2 o1 o2 e3 e4=>?_,λi p dn un e=>?_⟩
 ·obtain⟨v,h1,h2,h3⟩:=F.val i d e
  exact⟨v,h1,h2.mono (s.ar A),h3⟩
 ·obtain⟨v,h1,h2,h3⟩:=F.ow i b e o
  refine⟨v,h1,h2.off (λa ha=>DG s (h2.live ha)) (s.ar A),?_⟩;rw [fe h2];exact h3
 ·obtain⟨v',h1,h2,_⟩:=F.ow i b e1 o1
  obtain⟨w',iH,ib,_⟩:=F.ow j c e2 o2;rw [e3] at h1;cases h1;rw [e4] at iH;cases iH;rw [fe h2,fe ib];exact F.apart i j b c v w F4 e1 e2 o1 o2 e3 e4
 ·obtain⟨v,h1,hp,h2,h3⟩:=F.bo i p dn un e
  refine⟨v,h1,hp,h2.off (λa ha=>DG s (h2.live ha)) (s.ar A),?_⟩;rw [fe h2];exact h3
theorem bC.own (F:bC K O A ρ σ H)(i:Nat)(ds:List Dt)(e:ρ[i]?=some (.own ds)):∃a xs,σ[i]?=some (some (.ref a))/\a∈O/\H a=some (.lst xs)/\aq K (ar H A) ds xs/\bj ds/\ds.length<=10000:=by
 obtain⟨v,h1,⟨a,xs,rfl,h2⟩,h3⟩:=F.ow i _ e rfl;exact⟨a,xs,h1,h3 a bu,h2⟩
theorem bC.bP (F:bC K O A ρ σ H)(i:Nat)(ks:List (List Nat×List Nat))(e:ρ[i]?=some (.bP ks)):∃a,σ[i]?=some (some (.ref a))/\a∈O/\H a=some (.dK (aJ ks))/\sm (.af ks):=by
 obtain⟨v,h1,⟨a,rfl,h2⟩,h3⟩:=F.ow i _ e rfl;exact⟨a,h1,h3 a bu,h2⟩
noncomputable def mU (ρ:aa)(σ:St)(H:Hp)(i:Nat):List Addr:=match ρ[i]?,σ[i]? with
 |some b,some (some v)=>if g7 b=true then cN H v b else []
 |_,_=>[]
theorem O0 {i:Nat}(e:ρ[i]?=some b)(e':σ[i]?=some (some v))(o:g7 b=true):mU ρ σ H i=cN H v b:=by
 unfold mU;rw [e,e'];exact if_pos o
theorem bC.set {i:Nat}{v':V}{b':Bd}(F:bC K O A ρ σ H)(L:cV H' A')(sub:∀a∈O',a∈A')(hs:az (ar H A) (ar H' A'))(keep:∀a∈O,a∉mU ρ σ H i->a∈O'/\H' a=H a)(kb:∀a∈A,a∉O->a∈A'/\a∉O'/\H' a=H a)
  (new:(∃d,b'=.val d/\Rep K (ar H' A') d v'/\sm d)∨(jh K A' H' v' b'/\∀a∈cN H' v' b',a∈O'/\(a∉O∨a∈mU ρ σ H i))):bC K O' A' (ρ.set i b') (σ.set i (some v')) H':=by
 have Bp:∀{b},(ρ.set i b')[i]?=some b->b=b'/\(σ.set i (some v'))[i]?=some (some v'):=λ{b} e=>by
  have aF:i<ρ.length:=by simpa using (cP.mp e).1
  rw [nE aF] at e;exact⟨(gn e).symm,nE (by rw [← F.len]; exact aF)⟩
 have off:∀{j b v},j≠i->ρ[j]?=some b->g7 b=true->σ[j]?=some (some v)->∀a∈cN H v b,a∈O/\a∉mU ρ σ H i:=λ{j b v} hj e o e' a ha=>by
  obtain⟨v1,q1,_,q3⟩:=F.ow j b e o;rw [e'] at q1;cases q1;refine⟨q3 a ha,λz=>?_⟩;unfold mU at z
  split at z
  ·rename_i c w e1 e2
   split at z
   ·rename_i oc
    exact F.apart j i b c v w hj e e1 o oc e' e2 a ha z
   ·cases z
  ·cases z
 have fe:∀{j b v},j≠i->ρ[j]?=some b->g7 b=true->σ[j]?=some (some v)->cN H' v b=cN H v b:=λ{j b v} hj e o e'=>GQ λa ea=>by
  obtain⟨v1,q1,q2,_⟩:=F.ow j b e o;rw [e'] at q1;cases q1;obtain⟨a',z,ha⟩:=q2.fst;rw [ea] at z;cases z;obtain⟨k1,k2⟩:=off hj e o e' a ha;exact(keep a k1 k2).2
 refine⟨by simp [F.len],L,sub,λj d e=>?_,λj b e o=>?_,λj k b c v w AK e1 e2 o1 o2 e3 e4=>?_,λj p dn un e=>?_⟩
 ·by_cases hj:j=i
  ·subst hj
   obtain⟨z,e'⟩:=Bp e;rcases new with ⟨d',y,q⟩ | ⟨q,_⟩
   ·rw [y] at z; cases z; exact⟨v',e',q⟩
   ·rw [← z] at q; exact q.elim
  ·rw [kL (cz hj)] at e ⊢
   obtain⟨v,q1,q2,q3⟩:=F.val j d e;exact⟨v,q1,q2.mono hs,q3⟩
 ·by_cases hj:j=i
  ·subst hj
   obtain⟨z,e'⟩:=Bp e;rcases new with ⟨d',y,q⟩ | ⟨q,q'⟩
   ·rw [z,y] at o; cases o
   ·rw [z]; exact⟨v',e',q,λa ha=>(q' a ha).1⟩
  ·rw [kL (cz hj)] at e ⊢
   obtain⟨v,q1,q2,q3⟩:=F.ow j b e o;have kk:∀a∈cN H v b,a∈O'/\H' a=H a:=λa ha=>let ⟨k1,k2⟩:=off hj e o q1 a ha; keep a k1 k2
   refine⟨v,q1,q2.off (λa ha=>(kk a ha).2) hs,?_⟩;rw [fe hj e o q1];exact λa ha=>(kk a ha).1
 ·have no:∀{m b v},m≠i->(ρ.set i b')[m]?=some b->(σ.set i (some v'))[m]?=some (some v)->ρ[m]?=some b/\σ[m]?=some (some v):=λ{m b v} hm e e'=>by
   rw [kL (cz hm)] at e e';exact⟨e,e'⟩
  have nw:∀{b v},(ρ.set i b')[i]?=some b->(σ.set i (some v'))[i]?=some (some v)->g7 b=true->∀a∈cN H' v b,a∉O∨a∈mU ρ σ H i:=λ{b v} e e' o a ha=>by
   obtain⟨z,y⟩:=Bp e;rw [e'] at y;cases y;rw [z] at ha o;rcases new with ⟨d',y,q⟩ | ⟨q,q'⟩
   ·rw [y] at o; cases o
   ·exact(q' a ha).2
  by_cases hj:j=i
  ·subst hj
   obtain⟨k1,k2⟩:=no (cz AK) e2 e4;intro a ha z;rw [fe (cz AK) k1 o2 k2] at z;obtain⟨m1,m2⟩:=off (cz AK) k1 o2 k2 a z;rcases nw e1 e3 o1 a ha with y | y
   ·exact y m1
   ·exact m2 y
  ·obtain⟨j1,j2⟩:=no hj e1 e3
   by_cases hk:k=i
   ·subst hk
    intro a ha z;rw [fe hj j1 o1 j2] at ha;obtain⟨m1,m2⟩:=off hj j1 o1 j2 a ha;rcases nw e2 e4 o2 a z with y | y
    ·exact y m1
    ·exact m2 y
   ·obtain⟨k1,k2⟩:=no hk e2 e4
    rw [fe hj j1 o1 j2,fe hk k1 o2 k2];exact F.apart j k b c v w AK j1 k1 o1 o2 j2 k2
 ·by_cases hj:j=i
  ·subst hj
   obtain⟨z,_⟩:=Bp e;rcases new with ⟨d',y,q⟩ | ⟨q,_⟩
   ·rw [y] at z; cases z
   ·rw [← z] at q; exact q.elim
  ·rw [kL (cz hj)] at e ⊢
   obtain⟨v,q1,qp,q2,q3⟩:=F.bo j p dn un e;have kk:∀a∈cN H v (.jd dn un),a∈A'/\a∉O'/\H' a=H a:=λa ha=>kb a (q3 a ha).1 (q3 a ha).2;refine⟨v,q1,qp,q2.off (λa ha=>(kk a ha).2.2) hs,?_⟩;have fq:cN H' v (.jd dn un)=cN H v (.jd dn un):=GQ λa ea=>by
    obtain⟨a',z,ha⟩:=q2.fst;rw [ea] at z;cases z;exact(kk a ha).2.2
   rw [fq];exact λa ha=>⟨(kk a ha).1,(kk a ha).2.1⟩
theorem set_same {σ:St}{i:Nat}(h:σ[i]?=some (some v)):σ.set i (some v)=σ:=by
 apply nz
 intro j
 by_cases hj:i=j
 ·subst hj
  rw [nE (cP.mp h).1,h]
 ·rw [kL hj]
end
noncomputable def Rg {α:Type}(cls:Nat->Addr)(E:XK)(m:M α)(H:Hp)(P:α->Prop):Prop:=match m with
 |.ok a=>P a
 |.ex c=>∀H',az H H'->E (.ref (cls c)) none H'
 |.bad=>False
theorem Rg.bind {α β:Type}{cls:Nat->Addr}{E:XK}{m:M α}{k:α->M β}{H:Hp}{P:β->Prop}{P':α->Prop}(h:Rg cls E (m.bd k) H P)(f:∀a,m=.ok a->Rg cls E (k a) H P->P' a):Rg cls E m H P':=by
 cases m with
 |ok a=>exact f a rfl h
 |ex c=>exact h
 |bad=>exact h
theorem Rg.ok {α:Type}{cls:Nat->Addr}{E:XK}{m:M α}{H:Hp}{P P':α->Prop}(h:Rg cls E m H P)(f:∀a,m=.ok a->P a->P' a):Rg cls E m H P':=by
 cases m with
 |ok a=>exact f a rfl h
 |ex c=>exact h
 |bad=>exact h
theorem Rg.heap {α:Type}{cls:Nat->Addr}{E:XK}{m:M α}{H H':Hp}{P P':α->Prop}(h:Rg cls E m H P)(s:az H H')(f:∀a,m=.ok a->P a->P' a):Rg cls E m H' P':=by
 cases m with
 |ok a=>exact f a rfl h
 |ex c=>exact λH2 s2=>h H2 (s.trans s2)
 |bad=>exact h
section
variable (K:ao)(cls:Nat->Addr)(A:List Addr)(E:XK)
noncomputable def Res (m:M Dt)(H:Hp)(Q:VK):Prop:=Rg cls E m H λd=>∀v H',az H H'->Rep K (ar H' A) d v->sm d->Q v H'
noncomputable def oy (m:M Bool)(H:Hp)(Q:Bool->Hp->Prop):Prop:=Rg cls E m H λb=>∀H',az H H'->Q b H'
noncomputable def xQ (m:M (List Dt))(H:Hp)(Q:List V->Hp->Prop):Prop:=Rg cls E m H λds=>∀vs H',az H H'->aq K (ar H' A) ds vs->bj ds->Q vs H'
noncomputable def ai1 (m:M (Option Int))(H:Hp)(Q:Option Int->Hp->Prop):Prop:=Rg cls E m H λo=>∀H',az H H'->Q o H'
end
section
variable {K:ao}{cls:Nat->Addr}{A:List Addr}{E:XK}{H H':Hp}
theorem Res.mono {m:M Dt}{Q:VK}(h:Res K cls A E m H Q)(s:az H H'):Res K cls A E m H' Q:=Rg.heap h s λd _ p v H2 s2=>p v H2 (s.trans s2)
theorem oy.mono {m:M Bool}{Q:Bool->Hp->Prop}(h:oy cls E m H Q)(s:az H H'):oy cls E m H' Q:=Rg.heap h s λd _ p H2 s2=>p H2 (s.trans s2)
theorem xQ.mono {m:M (List Dt)}{Q:List V->Hp->Prop}(h:xQ K cls A E m H Q)(s:az H H'):xQ K cls A E m H' Q:=Rg.heap h s λd _ p v H2 s2=>p v H2 (s.trans s2)
end
section
variable (K:ao)(cls:Nat->Addr)(E:XK)
inductive tM (f:aa->M Dt) (σ:St) (H:Hp) (Q:VK):Prop
 |mk (O A:List Addr) (ρ:aa) (F:bC K O A ρ σ H) (q:Res K cls A E (f ρ) H Q):tM f σ H Q
inductive dW (f:aa->M Bool) (σ:St) (H:Hp) (Q:Bool->Hp->Prop):Prop
 |mk (O A:List Addr) (ρ:aa) (F:bC K O A ρ σ H) (q:oy cls E (f ρ) H Q):dW f σ H Q
inductive zh (f:aa->M (List Dt)) (σ:St) (H:Hp) (Q:List V->Hp->Prop):Prop
 |mk (O A:List Addr) (ρ:aa) (F:bC K O A ρ σ H) (q:xQ K cls A E (f ρ) H Q):zh f σ H Q
inductive vx (f:aa->M (Option Int)) (σ:St) (H:Hp) (Q:Option Int->Hp->Prop):Prop
 |mk (O A:List Addr) (ρ:aa) (F:bC K O A ρ σ H) (q:ai1 cls E (f ρ) H Q):vx f σ H Q
inductive Kd (f:aa->M Unit) (σ:St) (H:Hp) (Q:VK):Prop
 |mk (O A:List Addr) (ρ:aa) (F:bC K O A ρ σ H) (q:Rg cls E (f ρ) H λ_=>∀v H',az H H'->Q v H'):Kd f σ H Q
end
noncomputable abbrev Ev (X:Cx)(cls:Nat->Addr)(E:XK)(e:Expr)(f:aa->M Dt):Prop:=PE X e (tM X.K cls E f)
noncomputable abbrev Tv (X:Cx)(cls:Nat->Addr)(E:XK)(e:Expr)(f:aa->M Bool):Prop:=PT X e (dW X.K cls E f)
noncomputable abbrev Wv (X:Cx)(cls:Nat->Addr)(E:XK)(e:Expr)(f:aa->M Bool):Prop:=PW X e (dW X.K cls E f)
noncomputable abbrev Av (X:Cx)(cls:Nat->Addr)(E:XK)(es:List Expr)(f:aa->M (List Dt)):Prop:=PA X es (zh X.K cls E f)
theorem PE.imp {X:Cx}{e:Expr}{t t':TE}(h:PE X e t')(i:∀σ H Q,t σ H Q->t' σ H Q):PE X e t:=λpins s σ H Q I hw=>h pins s σ H Q I (i σ H Q hw)
theorem PT.imp {X:Cx}{e:Expr}{t t':TT}(h:PT X e t')(i:∀σ H Q,t σ H Q->t' σ H Q):PT X e t:=λpins s σ H Q I hw=>h pins s σ H Q I (i σ H Q hw)
theorem PW.imp {X:Cx}{e:Expr}{t t':TT}(h:PW X e t')(i:∀σ H Q,t σ H Q->t' σ H Q):PW X e t:=λwh pins s σ H Q I hw=>h wh pins s σ H Q I (i σ H Q hw)
theorem PA.imp {X:Cx}{es:List Expr}{t t':TA}(h:PA X es t')(i:∀σ H Q,t σ H Q->t' σ H Q):PA X es t:=λpos pins s σ H Q I hw=>h pos pins s σ H Q I (i σ H Q hw)
theorem PO.imp {X:Cx}{e:Option Expr}{t t':TO}(h:PO X e t')(i:∀σ H Q,t σ H Q->t' σ H Q):PO X e t:=λpins s σ H Q I hw=>h pins s σ H Q I (i σ H Q hw)
section
variable {X:Cx}{cls:Nat->Addr}{E:XK}{a b c:Expr}{f g h:aa->M Dt}{pos:Pos}
theorem tN {e:Expr}{d:Dt}{v:V}(h:PE X e (tC v))(r:∀H,Rep X.K H d v)(z:sm d):Ev X cls E e (pC d):=h.imp λσ H Q ⟨O,A,ρ,F,q⟩=>q v H (.refl _) (r _) z
theorem ag {i:Nat}{x:Str}(h:PE X (.Name x pos) (oZ i)):Ev X cls E (.Name x pos) (ae i):=h.imp λσ H Q h_=>by
 obtain⟨O,A,ρ,F,q⟩:=h_;unfold ae gv at q
 split at q
 ·rename_i d e
  obtain⟨v,h1,h2,h3⟩:=F.val i d e;exact⟨v,h1,q v H (.refl _) h2 h3⟩
 ·exact q.elim
theorem bA {i j}:Ev X cls E (.Constant (.int i) j pos) (pC (.int i)):=tN L4 (λ_=>fT) trivial
theorem jb {i j}:Ev X cls E (.Constant (.bool i) j pos) (pC (.bl i)):=tN Eu (λ_=>gA) trivial
theorem PH {j}:Ev X cls E (.Constant .none j pos) (pC .ax):=tN Et (λ_=>zN) trivial
theorem bK {l:List Nat}{x:Str}{j}(h:x=⟨l.toArray⟩:=by decide +kernel)(z:l.length<=10000:=by decide):Ev X cls E (.Constant (.str x) j pos) (pC (.str l)):=tN (mD h) (λ_=>iT) z
noncomputable def fm (X:Cx)(cls:Nat->Addr)(E:XK)(F:Value->Value->Sem Value)(op:Dt->Dt->M Dt):Prop:=
 ∃r,bX X F r/\∀A H Q d1 d2 x y,cV H A->Rep X.K (ar H A) d1 x->Rep X.K (ar H A) d2 y->sm d1->sm d2->Res X.K cls A E (op d1 d2) H Q->r x y H Q
theorem t2 {r:R2}{op:Dt->Dt->M Dt}(ho:∀A H Q d1 d2 x y,cV H A->Rep X.K (ar H A) d1 x->Rep X.K (ar H A) d2 y->sm d1->sm d2->Res X.K cls A E (op d1 d2) H Q->r x y H Q)(σ:St)(H:Hp)(Q:VK)
  (h:tM X.K cls E (p2 op f g) σ H Q):vv r (tM X.K cls E f) (tM X.K cls E g) σ H Q:=by
 obtain⟨O,A,ρ,F,q⟩:=h;refine⟨O,A,ρ,F,Rg.bind q λd1 _ q1=>?_⟩;intro v H1 s1 r1 z1;refine⟨O,A,ρ,F.mono s1,Rg.bind (Res.mono (Q:=Q) q1 s1) λd2 _ q2=>?_⟩;intro u H2 s2 r2 z2;exact ho A H2 Q d1 d2 v u ((F.cB.mono s1).mono s2) (r1.mono (s2.ar A)) r2 z1 z2 (Res.mono q2 s2)
theorem bb {o:Operator}{op:Dt->Dt->M Dt}(ho:fm X cls E (binaryOp o) op)(ha:Ev X cls E a f)(hb:Ev X cls E b g):Ev X cls E (.BinOp a o b pos) (p2 op f g):=by
 obtain⟨r,h1,h2⟩:=ho;exact(Yb h1 ha hb).imp (t2 h2)
theorem ja {o:CmpOp}{op:Dt->Dt->M Dt}(ho:fm X cls E (compareOp o) op)(ha:Ev X cls E a f)(hb:Ev X cls E b g)(hm:behindInMarks o b=false):Ev X cls E (.Compare a [o] [b] pos) (p2 op f g):=by
 obtain⟨r,h1,h2⟩:=ho;exact(Yk h1 ha hb hm).imp (t2 h2)
theorem J3 {t:TE}{f:aa->M Dt}(h:∀σ H Q,tM X.K cls E f σ H Q->t σ H Q)(σ:St)(H:Hp)(Q:Bool->Hp->Prop)(q:dW X.K cls E (a6 f) σ H Q):J8 t σ H Q:=by
 obtain⟨O,A,ρ,F,q⟩:=q;refine h σ H _ ⟨O,A,ρ,F,Rg.bind q λd _ q1=>?_⟩;intro v H1 s1 r1 z1
 cases d with
 |bl k=>
  simp only [Rep] at r1;exact⟨k,r1,q1 H1 s1⟩
 |_=>exact zF q1
theorem cj {o:CmpOp}{op:Dt->Dt->M Dt}(ho:fm X cls E (compareOp o) op)(ha:Ev X cls E a f)(hb:Ev X cls E b g)(hm:behindInMarks o b=false):Tv X cls E (.Compare a [o] [b] pos) (a6 (p2 op f g)):=by
 obtain⟨r,h1,h2⟩:=ho;exact(LI h1 ha hb hm).imp (J3 (t2 h2))
theorem y9 (ha:Ev X cls E a f)(he:∀whole,isTrue a X.env whole=(do let v ← whole; standAt a.pos; holding [v] (truthy v)):=by intro _; rfl):Tv X cls E a (a6 f):=
 (LG ha he).imp (J3 λ_ _ _ q=>q)
variable {F G:aa->M Bool}
theorem Ul {σ:St}{H:Hp}{Q:Bool->Hp->Prop}(q:dW X.K cls E (mq F G) σ H Q):Kh (dW X.K cls E F) (dW X.K cls E G) σ H Q:=by
 obtain⟨O,A,ρ,Ft,q⟩:=q;refine⟨O,A,ρ,Ft,Rg.bind q λb _ q1=>?_⟩;intro H1 s1
 cases b with
 |false=>
  simp only [cF,if_false] at q1 ⊢;exact q1 H1 s1
 |true=>
  simp only [if_true] at q1 ⊢;exact⟨O,A,ρ,Ft.mono s1,oy.mono q1 s1⟩
theorem Uk {σ:St}{H:Hp}{Q:Bool->Hp->Prop}(q:dW X.K cls E (kY F G) σ H Q):Kb (dW X.K cls E F) (dW X.K cls E G) σ H Q:=by
 obtain⟨O,A,ρ,Ft,q⟩:=q;refine⟨O,A,ρ,Ft,Rg.bind q λb _ q1=>?_⟩;intro H1 s1
 cases b with
 |false=>
  simp only [cF,if_false] at q1 ⊢;exact⟨O,A,ρ,Ft.mono s1,oy.mono q1 s1⟩
 |true=>
  simp only [if_true] at q1 ⊢;exact q1 H1 s1
theorem yT (ha:Tv X cls E a F):Wv X cls E (.BoolOp .And [a] pos) F:=pw_and1 ha
theorem yS (ha:Tv X cls E a F):Wv X cls E (.BoolOp .Or [a] pos) F:=pw_or1 ha
theorem yU {rest:List Expr}(ha:Tv X cls E a F)(hb:Wv X cls E (.BoolOp .And (b::rest) pos) G):Wv X cls E (.BoolOp .And (a::b::rest) pos) (mq F G):=(pw_and ha hb).imp λ_ _ _ q=>Ul q
theorem vn {rest:List Expr}(ha:Tv X cls E a F)(hb:Wv X cls E (.BoolOp .Or (b::rest) pos) G):Wv X cls E (.BoolOp .Or (a::b::rest) pos) (kY F G):=(pw_or ha hb).imp λ_ _ _ q=>Uk q
theorem TV (ha:Tv X cls E a F):Tv X cls E (.UnaryOp .Not a pos) (C6 F):=(LH ha).imp λσ H Q ⟨O,A,ρ,Ft,q⟩=>⟨O,A,ρ,Ft,Rg.bind q λb _ q1 H1 s1=>q1 H1 s1⟩
theorem G3 {o}(ha:Ev X cls E a f):Ev X cls E (.BoolOp o [a] pos) f:=Yc ha
theorem J0 {d:Dt}{k:Bool->M Dt}{A:List Addr}{H:Hp}{Q:VK}(q:Res X.K cls A E ((kW d).bd k) H Q){v:V}{H0:Hp}(r:Rep X.K H0 d v):∃b,d=.bl b/\v=.bl b/\Res X.K cls A E (k b) H Q:=by
 cases d with
 |bl b=>
  simp only [Rep] at r;exact⟨b,rfl,r,q⟩
 |_=>exact zF q
theorem G6 {rest:List Expr}(ha:Ev X cls E a f)(hb:Ev X cls E (.BoolOp .And (b::rest) pos) g):Ev X cls E (.BoolOp .And (a::b::rest) pos) (vX f g):=(Yn ha hb).imp λσ H Q h_=>by
 obtain⟨O,A,ρ,Ft,q⟩:=h_;refine⟨O,A,ρ,Ft,Rg.bind q λd _ q1=>?_⟩;intro v H1 s1 r1 z1;obtain⟨b,rfl,rfl,q2⟩:=J0 (Q:=Q) q1 r1;refine⟨b,rfl,?_⟩
 cases b with
 |false=>
  simp only [cF,if_false] at q2 ⊢;exact q2 _ H1 s1 gA trivial
 |true=>
  simp only [if_true] at q2 ⊢;exact⟨O,A,ρ,Ft.mono s1,Res.mono q2 s1⟩
theorem ad0 {rest:List Expr}(ha:Ev X cls E a f)(hb:Ev X cls E (.BoolOp .Or (b::rest) pos) g):Ev X cls E (.BoolOp .Or (a::b::rest) pos) (Ez f g):=(Ya ha hb).imp λσ H Q h_=>by
 obtain⟨O,A,ρ,Ft,q⟩:=h_;refine⟨O,A,ρ,Ft,Rg.bind q λd _ q1=>?_⟩;intro v H1 s1 r1 z1;obtain⟨b,rfl,rfl,q2⟩:=J0 (Q:=Q) q1 r1;refine⟨b,rfl,?_⟩
 cases b with
 |false=>
  simp only [cF,if_false] at q2 ⊢;exact⟨O,A,ρ,Ft.mono s1,Res.mono q2 s1⟩
 |true=>
  simp only [if_true] at q2 ⊢;exact q2 _ H1 s1 gA trivial
theorem G4 (hc:Tv X cls E c F)(ha:Ev X cls E a f)(hb:Ev X cls E b g):Ev X cls E (.IfExp c a b pos) (vV F f g):=(Yd hc ha hb).imp λσ H Q h_=>by
 obtain⟨O,A,ρ,Ft,q⟩:=h_;refine⟨O,A,ρ,Ft,Rg.bind q λb _ q1=>?_⟩;intro H1 s1
 cases b with
 |false=>
  simp only [cF,if_false] at q1 ⊢;exact⟨O,A,ρ,Ft.mono s1,Res.mono q1 s1⟩
 |true=>
  simp only [if_true] at q1 ⊢;exact⟨O,A,ρ,Ft.mono s1,Res.mono q1 s1⟩
theorem ad1 (ha:Ev X cls E a f):Ev X cls E (.UnaryOp .USub a pos) (p1 EJ f):=(X7 TK ha).imp λσ H Q h_=>by
 obtain⟨O,A,ρ,Ft,q⟩:=h_;refine⟨O,A,ρ,Ft,Rg.bind q λd _ q1=>?_⟩;intro v H1 s1 r1 z1
 cases d with
 |int b=>
  simp only [Rep] at r1;exact⟨b,r1,q1 _ H1 s1 fT trivial⟩
 |_=>exact zF q1
theorem dB {H:Hp}{i:Int}{v:V}(h:Rep X.K H (.int i) v):v=.int i:=by simpa only [Rep] using h
theorem cE {H:Hp}{l:List Nat}{v:V}(h:Rep X.K H (.str l) v):v=S l:=by simpa only [Rep] using h
theorem j7 {H:Hp}{b:Bool}{v:V}(h:Rep X.K H (.bl b) v):v=.bl b:=by simpa only [Rep] using h
theorem mx {H:Hp}{v:V}(h:Rep X.K H .ax v):v=.ax:=by simpa only [Rep] using h
inductive LstAt (K:ao) (H:Hp) (ds:List Dt) (v:V):Prop
 |mk (a:Addr) (xs:List V) (e:v=.ref a) (h1:bz K H a xs) (h2:aq K H ds xs):LstAt K H ds v
inductive TupAt (K:ao) (H:Hp) (ds:List Dt) (v:V):Prop
 |mk (a:Addr) (xs:List V) (e:v=.ref a) (h1:dP K H a xs) (h2:aq K H ds xs):TupAt K H ds v
theorem dJ {K:ao}{H:Hp}{ds:List Dt}{v:V}(h:Rep K H (.lst ds) v):LstAt K H ds v:=by
 simp only [Rep] at h;obtain⟨a,xs,h1,h2,h3⟩:=h;exact⟨a,xs,h1,h2,h3⟩
theorem mw {K:ao}{H:Hp}{ds:List Dt}{v:V}(h:Rep K H (.tup ds) v):TupAt K H ds v:=by
 simp only [Rep] at h;obtain⟨a,xs,h1,h2,h3⟩:=h;exact⟨a,xs,h1,h2,h3⟩
theorem C9 {A:List Addr}{H:Hp}{Q:VK}{l:List Nat}(q:Res X.K cls A E (kZ l) H Q):l.length<=10000/\Q (S l) H:=by
 unfold kZ at q
 split at q
 ·rename_i h
  exact⟨h,q (S l) H (.refl _) iT h⟩
 ·exact zF q
theorem nK {n:Nat}(h:n<=10000):n<=sizeLine:=bH h (by decide)
theorem Ki {A:List Addr}{H:Hp}{Q:VK}{l:List Dt}{xs:List V}(q:Res X.K cls A E (fB l) H Q)(L:cV H A)(r:aq X.K (ar H A) l xs)(z:bj l):l.length<=10000/\∀p,H p=none->Q (.ref p) (upd H p (.lst xs)):=by
 unfold fB at q
 split at q
 ·rename_i h
  refine⟨h,λp hp=>q (.ref p) _ (.upd hp) (su (kj L hp) (r.mono ((az.upd hp).ar A))) ⟨h,z⟩⟩
 ·exact zF q
noncomputable def Xt (K:ao):R2:=λx y H Q=>∃l b xs zs,x=.ref l/\y=.ref b/\bz K H l xs/\bz K H b zs/\xs.length+zs.length<=sizeLine/\∀p,H p=none->Q (.ref p) (upd H p (.lst (xs++zs)))
theorem YT:bX X (binaryOp .Add) (Xt X.K):=by
 intro pins s σ H x y v u Q I rx ry h;obtain⟨l,b,xs,zs,rfl,rfl,hH,hB,hz,q⟩:=h;cases rx;cases ry;obtain⟨vs,r,pl,_⟩:=I.list hH;obtain⟨ws,r2,XR,_⟩:=I.list hB;have hl:=r.length;have lI:=r2.length;obtain⟨⟨cl,dd,data,sl⟩,n,ho,hc,hd,qe⟩:=pl;obtain⟨⟨cl2,dd2,data2,zx⟩,n2,Og,Oz,hd2,Ov⟩:=XR
 simp only at hc hd qe Oz hd2 Ov
 subst hc hd qe Oz hd2 Ov;have e:vs.toArray++ws.toArray=(vs++ws).toArray:=by simp
 refine concat_meets ⟨_,ho,rfl⟩ ⟨_,Og,rfl⟩ noFill_list_add seq_list_add PySem.F.slot_list_add PySem.F.entry_list_add (PySem.F.args_list_add_2 _ _) (list_addW l b vs.toArray ws.toArray n n2 none none sl zx (by simp; omega)) ⟨ho,Og,?_⟩;rw [e];exact(λht=>⟨.ref _,_,I.aam (t':=s.toks) (r.append r2) (by rw [jU]; omega),rfl,q _ I.fresh⟩)
theorem cq:fm X cls E (binaryOp .Add) bI:=by
 refine⟨_,YW.or (YV.or YT),λA H Q d1 d2 x y L r1 r2 z1 z2 q=>?_⟩
 cases d1 with
 |int i=>
  cases d2 with
  |int j=>exact .inl ⟨i,j,dB r1,dB r2,q _ H (.refl _) fT trivial⟩
  |_=>exact zF q
 |str l=>
  cases d2 with
  |str m=>
   obtain⟨h,q⟩:=C9 q;exact .inr (.inl ⟨l,m,cE r1,cE r2,nK (by simpa using h),q⟩)
  |_=>exact zF q
 |lst l=>
  cases d2 with
  |lst m=>
   obtain⟨p,xs,rfl,h1,h2⟩:=dJ r1;obtain⟨p',ys,rfl,iH,ib⟩:=dJ r2;have e1:=h2.length;have e2:=ib.length;obtain⟨h,q⟩:=Ki q L (h2.append ib) (zv z1.2 z2.2);exact .inr (.inr ⟨p,p',xs,ys,rfl,rfl,bw.seq h1,bw.seq iH,nK (by simp at h; omega),q⟩)
  |_=>exact zF q
 |_=>cases d2 <;> exact zF q
theorem Mq {F:Value->Value->Sem Value}{C:Int->Int->Prop}[∀i j,Decidable (C i j)]{k:Int->Int->V}{kd:Int->Int->Dt}{op:Dt->Dt->M Dt}(h:bX X F (rI C k))(hk:∀i j H,Rep X.K H (kd i j) (k i j)/\sm (kd i j))(h1:∀i j,op (.int i) (.int j)=if C i j then .ok (kd i j) else .bad)
  (h2:∀d1 d2,(∀i j,¬ (d1=.int i/\d2=.int j))->op d1 d2=.bad):fm X cls E F op:=by
 refine⟨_,h,λA H Q d1 d2 x y L r1 r2 z1 z2 q=>?_⟩
 by_cases hh:∃i j,d1=.int i/\d2=.int j
 ·obtain⟨i,j,rfl,rfl⟩:=hh
  rw [h1] at q
  split at q
  ·rename_i hc
   exact⟨i,j,dB r1,dB r2,hc,q _ H (.refl _) (hk i j _).1 (hk i j H).2⟩
  ·exact zF q
 ·rw [h2 d1 d2 λi j z=>hh ⟨i,j,z⟩] at q
  exact zF q
theorem Mp {F:Value->Value->Sem Value}{k:Int->Int->V}{kd:Int->Int->Dt}{op:Dt->Dt->M Dt}(h:bX X F (sx k))(hk:∀i j H,Rep X.K H (kd i j) (k i j)/\sm (kd i j))(h1:∀i j,op (.int i) (.int j)=.ok (kd i j))
  (h2:∀d1 d2,(∀i j,¬ (d1=.int i/\d2=.int j))->op d1 d2=.bad):fm X cls E F op:=by
 refine⟨_,h,λA H Q d1 d2 x y L r1 r2 z1 z2 q=>?_⟩
 by_cases hh:∃i j,d1=.int i/\d2=.int j
 ·obtain⟨i,j,rfl,rfl⟩:=hh
  rw [h1] at q;exact⟨i,j,dB r1,dB r2,q _ H (.refl _) (hk i j _).1 (hk i j H).2⟩
 ·rw [h2 d1 d2 λi j z=>hh ⟨i,j,z⟩] at q
  exact zF q
theorem z6 {op:Dt->Dt->M Dt}(h:∀d1 d2,op d1 d2=.bad∨∃i j,d1=.int i/\d2=.int j)(d1 d2:Dt)(hn:∀i j,¬ (d1=.int i/\d2=.int j)):op d1 d2=.bad:=by
 rcases h d1 d2 with h | ⟨i,j,h⟩
 ·exact h
 ·exact(hn i j h).elim
theorem zX:fm X cls E (binaryOp .Mod) oMod:=Mq YI (λ_ _ _=>⟨fT,trivial⟩) (λ_ _=>rfl) (z6 λd1 d2=>by unfold oMod; split; exact .inr ⟨_,_,rfl,rfl⟩; exact .inl rfl)
theorem Zv:fm X cls E (compareOp .Lt) oLt:=Mp YJ (λ_ _ _=>⟨gA,trivial⟩) (λ_ _=>rfl) (z6 λd1 d2=>by unfold oLt; split; exact .inr ⟨_,_,rfl,rfl⟩; exact .inl rfl)
theorem Mo:fm X cls E (compareOp .Gt) v7:=Mp YQ (λ_ _ _=>⟨gA,trivial⟩) (λ_ _=>rfl) (z6 λd1 d2=>by unfold v7; split; exact .inr ⟨_,_,rfl,rfl⟩; exact .inl rfl)
noncomputable instance (i j:Int):Decidable (Je i j):=by unfold Je; infer_instance
theorem Zy:fm X cls E (binaryOp .FloorDiv) oDiv:=Mq YR (λ_ _ _=>⟨fT,trivial⟩) (λ_ _=>rfl) (z6 λd1 d2=>by unfold oDiv; split; exact .inr ⟨_,_,rfl,rfl⟩; exact .inl rfl)
theorem iW:fm X cls E (binaryOp .Mult) dY:=by
 refine⟨_,YH.or Yz,λA H Q d1 d2 x y L r1 r2 z1 z2 q=>?_⟩
 cases d1 with
 |int i=>
  cases d2 with
  |int j=>
   simp only [dY] at q
   split at q
   ·rename_i h
    exact .inl ⟨i,j,dB r1,dB r2,h,q _ H (.refl _) fT trivial⟩
   ·exact zF q
  |_=>exact zF q
 |str l=>
  cases d2 with
  |int j=>
   simp only [dY] at q
   split at q
   ·rename_i h
    exact .inr ⟨l,j,cE r1,dB r2,h.1,h.2.1,h.2.2,(C9 q).2⟩
   ·exact zF q
  |_=>exact zF q
 |_=>cases d2 <;> exact zF q
theorem iX (hu:X.A.units+50<cLine):fm X cls E (compareOp .Eq) oEq:=by
 refine⟨_,YS hu,λA H Q d1 d2 x y L r1 r2 z1 z2 q=>?_⟩;unfold oEq at q
 split at q
 ·rename_i h
  exact⟨d1,d2,r1.mono bw,r2.mono bw,h,q _ H (.refl _) gA trivial⟩
 ·exact zF q
theorem eO (hu:X.A.units+50<cLine):fm X cls E (compareOp .NotEq) cA:=by
 refine⟨_,YF hu,λA H Q d1 d2 x y L r1 r2 z1 z2 q=>?_⟩;unfold cA at q
 split at q
 ·rename_i h
  exact⟨d1,d2,r1.mono bw,r2.mono bw,h,q _ H (.refl _) gA trivial⟩
 ·exact zF q
end
section
variable {X:Cx}{cls:Nat->Addr}{E:XK}{a b c:Expr}{f g h:aa->M Dt}{pos:Pos}
theorem tL {H:Hp}{d:Dt}{v:V}(h:lP d=true)(r:Rep X.K H d v):gH v=true:=by
 cases d with
 |ax=>cases mx r; rfl
 |bl b=>cases j7 r; rfl
 |int i=>cases dB r; rfl
 |str l=>cases cE r; rfl
 |_=>cases h
theorem ad7 {H H':Hp}{d e:Dt}{v w:V}(h1:lP d=true)(h2:lP e=true)(r1:Rep X.K H d v)(r2:Rep X.K H' e w):dq v w=bh d e:=by
 cases d with
 |ax=>
  cases mx r1
  cases e with
  |ax=>cases mx r2; rfl
  |bl b=>cases j7 r2; rfl
  |int i=>cases dB r2; rfl
  |str l=>cases cE r2; rfl
  |_=>cases h2
 |bl b=>
  cases j7 r1
  cases e with
  |ax=>cases mx r2; rfl
  |bl b'=>cases j7 r2; cases b <;> cases b' <;> rfl
  |int i=>cases dB r2; first | rfl | (cases b <;> simp [dq,bh,b2i])
  |str l=>cases cE r2; rfl
  |_=>cases h2
 |int i=>
  cases dB r1
  cases e with
  |ax=>cases mx r2; rfl
  |bl b=>cases j7 r2; first | rfl | (cases b <;> simp [dq,bh,b2i])
  |int j=>cases dB r2; first | rfl | simp [dq,bh]
  |str l=>cases cE r2; rfl
  |_=>cases h2
 |str l=>
  cases cE r1
  cases e with
  |ax=>cases mx r2; rfl
  |bl b=>cases j7 r2; rfl
  |int j=>cases dB r2; rfl
  |str m=>cases cE r2; first | exact Dp l m | simp [dq,bh,Dp]
  |_=>cases h2
 |_=>cases h1
theorem GW {H:Hp}:∀{ds:List Dt}{xs:List V},ds.all lP=true->aq X.K H ds xs->xs.all gH=true
 | [],_,_,r=>by simp only [aq] at r; subst r; rfl
 |d::ds,_,h,r=>by
  simp only [aq] at r;obtain⟨x,t,rfl,r1,r2⟩:=r;rw [mj,eY] at h ⊢;exact⟨tL h.1 r1,GW h.2 r2⟩
theorem Fo {H H':Hp}{e:Dt}{w:V}(he:lP e=true)(re:Rep X.K H' e w):∀{ds:List Dt}{xs:List V},ds.all lP=true->aq X.K H ds xs->wI w xs=ds.any λd=>bh d e
 | [],_,_,r=>by simp only [aq] at r; subst r; rfl
 |d::ds,_,h,r=>by
  simp only [aq] at r;obtain⟨x,t,rfl,r1,r2⟩:=r;rw [mj,eY] at h;unfold wI;rw [kG,kG,ad7 h.1 he r1 re];have:=Fo he re h.2 r2;unfold wI at this;rw [this]
theorem Xg {A:List Addr}{H:Hp}{Q:Bool->Prop}{d1 d2:Dt}{x y:V}{neg:Bool}{QQ:VK}(r1:Rep X.K (ar H A) d1 x)(r2:Rep X.K (ar H A) d2 y)(hq:∀k,jw d1 d2=.ok (.bl k)->QQ (.bl (if neg then !k else k)) H)(hb:∃k,jw d1 d2=.ok (.bl k)) :
  LB neg x y H QQ∨LC X.K neg x y H QQ:=by
 obtain⟨k,hk⟩:=hb;have q:=hq k hk;unfold jw at hk
 split at hk
 ·rename_i c l
  injection hk with hk;injection hk with hk;subst hk;exact .inl ⟨c,l,cE r1,cE r2,q⟩
 ·rename_i ds _
  split at hk
  ·rename_i hc
   injection hk with hk;injection hk with hk;obtain⟨p,xs,rfl,h1,h2⟩:=dJ r2;refine .inr ⟨p,xs,rfl,.inl (bw.seq h1),tL hc.1 r1,GW hc.2 h2,?_⟩;rw [Fo hc.1 r1 hc.2 h2,hk];exact q
  ·cases hk
 ·rename_i ds _
  split at hk
  ·rename_i hc
   injection hk with hk;injection hk with hk;obtain⟨p,xs,rfl,h1,h2⟩:=mw r2;refine .inr ⟨p,xs,rfl,.inr (bw.j6 h1),tL hc.1 r1,GW hc.2 h2,?_⟩;rw [Fo hc.1 r1 hc.2 h2,hk];exact q
  ·cases hk
 ·cases hk
theorem ZJ {d1 d2 d:Dt}(h:jw d1 d2=.ok d):∃k,d=.bl k:=by
 unfold jw at h
 split at h
 ·injection h with h; exact⟨_,h.symm⟩
 ·split at h
  ·injection h with h; exact⟨_,h.symm⟩
  ·cases h
 ·split at h
  ·injection h with h; exact⟨_,h.symm⟩
  ·cases h
 ·cases h
theorem ZI {d1 d2:Dt}{c:Nat}(h:jw d1 d2=.ex c):False:=by
 unfold jw at h
 split at h
 ·cases h
 ·split at h <;> cases h
 ·split at h <;> cases h
 ·cases h
theorem Zu:fm X cls E (compareOp .NotIn) v3:=by
 refine⟨_,YE.or YC,λA H Q d1 d2 x y L r1 r2 z1 z2 q=>?_⟩;unfold v3 at q
 cases hm:jw d1 d2 with
 |ok d=>
  obtain⟨k,rfl⟩:=ZJ hm;rw [hm] at q;refine Xg (Q:=λ_=>True) (neg:=true) r1 r2 (λk' iC=>?_) ⟨k,hm⟩;rw [hm] at iC;cases iC;exact q _ H (.refl _) gA trivial
 |ex c=>exact(ZI hm).elim
 |bad=>rw [hm] at q; exact zF q
theorem NV {H:Hp}{d:Dt}{x:V}(r:Rep X.K H d x):As d=decide (x=.ax):=by
 cases d with
 |ax=>cases mx r; rfl
 |bl b=>cases j7 r; rfl
 |int b=>cases dB r; rfl
 |str b=>cases cE r; rfl
 |lst b=>obtain⟨a,xs,rfl,_⟩:=dJ r; rfl
 |tup b=>obtain⟨a,xs,rfl,_⟩:=mw r; rfl
 |af b=>simp only [Rep] at r; obtain⟨a,xs,rfl,_⟩:=r; rfl
theorem Zw:fm X cls E (compareOp .Is) sN:=by
 refine⟨_,YM.or YL,λA H Q d1 d2 x y L r1 r2 z1 z2 q=>?_⟩
 cases d2 with
 |bl j=>
  cases d1 with
  |bl i=>exact .inl ⟨i,j,j7 r1,j7 r2,q _ H (.refl _) gA trivial⟩
  |_=>exact zF q
 |ax=>
  refine .inr ⟨mx r2,?_⟩;rw [← NV r1];exact q _ H (.refl _) gA trivial
 |_=>exact zF q
theorem zY:fm X cls E (compareOp .IsNot) lx:=by
 refine⟨_,YK.or YB,λA H Q d1 d2 x y L r1 r2 z1 z2 q=>?_⟩
 cases d2 with
 |bl j=>
  cases d1 with
  |bl i=>exact .inl ⟨i,j,j7 r1,j7 r2,q _ H (.refl _) gA trivial⟩
  |_=>exact zF q
 |ax=>
  refine .inr ⟨mx r2,?_⟩;rw [← NV r1];exact q _ H (.refl _) gA trivial
 |_=>exact zF q
theorem Lo {K:ao}{H:Hp}{ds:List Dt}{xs:List V}(r:aq K H ds xs){i:Int}{d:Dt}(h:d4 ds i=some d):∃x,jf xs i=some x/\Rep K H d x:=by
 have hl:=r.length;unfold d4 at h;have e:sU ds.length i=pQ xs.length i:=by rw [hl]; rfl
 unfold jf;rw [← e]
 cases hj:sU ds.length i with
 |none=>rw [hj] at h; cases h
 |some j=>
  rw [hj] at h;simp only [Option.bind_some] at h ⊢;have aF:j<ds.length:=(cP.mp h).1;have hx:xs[j]?=some (xs[j]'(by omega)):=by simp
  obtain⟨d',h1,h2⟩:=r.get hx;rw [h] at h1;cases h1;exact⟨_,hx,h2⟩
theorem Q7 {α:Type}{l:List α}{i:Int}{x:α}(h:d4 l i=some x):x∈l:=by
 unfold d4 at h
 cases hj:sU l.length i with
 |none=>rw [hj] at h; cases h
 |some j=>rw [hj] at h; exact jV h
theorem iI (ha:Ev X cls E a f)(hb:Ev X cls E b g)(hs:RK b):Ev X cls E (.Subscript a b pos) (p2 dh f g):=by
 refine(LZ (abg.or (NL.or abe)) ha hb hs).imp (t2 λA H Q d1 d2 x y L r1 r2 z1 z2 q=>?_)
 cases d1 with
 |str l=>
  cases d2 with
  |int i=>
   simp only [dh,Ak] at q
   split at q
   ·rename_i c hc
    exact .inl ⟨l,i,c,cE r1,dB r2,nK z1,hc,q _ H (.refl _) iT (by show 1<=10000; decide)⟩
   ·exact zF q
  |_=>exact zF q
 |lst l=>
  cases d2 with
  |int i=>
   simp only [dh,pR] at q
   split at q
   ·rename_i d hd
    obtain⟨p,xs,rfl,h1,h2⟩:=dJ r1;obtain⟨v,hv,rv⟩:=Lo h2 hd;exact .inr (.inl ⟨p,xs,i,v,rfl,dB r2,bw.seq h1,hv,q v H (.refl _) rv (iy z1.2 (Q7 hd))⟩)
   ·exact zF q
  |_=>exact zF q
 |tup l=>
  cases d2 with
  |int i=>
   simp only [dh,pR] at q
   split at q
   ·rename_i d hd
    obtain⟨p,xs,rfl,h1,h2⟩:=mw r1;obtain⟨v,hv,rv⟩:=Lo h2 hd;exact .inr (.inr ⟨p,xs,i,v,rfl,dB r2,bw.j6 h1,hv,q v H (.refl _) rv (iy z1.2 (Q7 hd))⟩)
   ·exact zF q
  |_=>exact zF q
 |_=>cases d2 <;> exact zF q
theorem zG (n d:Nat)(o:Option Int):HT.cM n d o=sr n d o:=by cases o <;> rfl
theorem aeN (l:List Nat)(lo hi:Option Int):ky l lo hi=ig l lo hi:=by
 unfold ky ig;rw [zG,zG]
theorem Ln {K:ao}{H:Hp}:∀(n:Nat){ds:List Dt}{xs:List V},aq K H ds xs->aq K H (ds.drop n) (xs.drop n)
 |0,_,_,r=>r
 |n+1,[],_,r=>by simp only [aq] at r; subst r; exact .nil
 |n+1,d::ds,_,r=>by
  simp only [aq] at r;obtain⟨x,t,rfl,_,r2⟩:=r;exact Ln n r2
theorem Lj {K:ao}{H:Hp}:∀(n:Nat){ds:List Dt}{xs:List V},aq K H ds xs->aq K H (ds.take n) (xs.take n)
 |0,_,_,_=>.nil
 |n+1,[],_,r=>by simp only [aq] at r; subst r; exact .nil
 |n+1,d::ds,_,r=>by
  simp only [aq] at r;obtain⟨x,t,rfl,r1,r2⟩:=r;exact .cons r1 (Lj n r2)
theorem aeK {α:Type}{l:List α}{lo hi:Option Int}{x:α}(h:x∈ig l lo hi):x∈l:=B9 (nD h)
theorem QG {α:Type}(l:List α)(lo hi:Option Int):(ig l lo hi).length<=l.length:=by
 unfold ig;simp only [nv,uX];omega
theorem pF:PO X none (vx X.K cls E (dX none)):=XN.imp λσ H Q ⟨O,A,ρ,F,q⟩=>q H (.refl _)
theorem pE {e:Expr}(he:Ev X cls E e f):PO X (some e) (vx X.K cls E (dX (some f))):=(XM he).imp λσ H Q h_=>by
 obtain⟨O,A,ρ,F,q⟩:=h_;refine⟨O,A,ρ,F,Rg.bind q λd _ q1=>?_⟩;intro v H1 s1 r1 z1
 cases d with
 |int i=>exact⟨i,dB r1,q1 H1 s1⟩
 |_=>exact zF q1
theorem qw {lo hi:Option Expr}{fl fh:aa->M (Option Int)}{Yx:Pos}(he:Ev X cls E a f)(hl:PO X lo (vx X.K cls E fl))(hh:PO X hi (vx X.K cls E fh)):Ev X cls E (.Subscript a (.Slice lo hi none Yx) pos) (kc f fl fh):=
 (X9 (Vp.or Vo) he hl hh).imp λσ H Q ⟨O,A,ρ,F,q⟩=>by
 refine⟨O,A,ρ,F,Rg.bind q λd _ q1=>?_⟩;intro v H1 s1 r1 z1;refine⟨O,A,ρ,F.mono s1,Rg.bind (Res.mono (Q:=Q) q1 s1) λo1 _ q2=>?_⟩;intro H2 s2;refine⟨O,A,ρ,(F.mono s1).mono s2,Rg.bind (Res.mono (Q:=Q) q2 s2) λo2 _ q3=>?_⟩;intro H3 s3;have r3:=r1.mono ((s2.trans s3).ar A)
 cases d with
 |str l=>
  refine .inl ⟨l,cE r3,nK z1,?_⟩;rw [aeN];exact q3 _ H3 s3 iT (bH (QG l o1 o2) z1)
 |lst l=>
  obtain⟨p,xs,rfl,h1,h2⟩:=dJ r3;refine .inr ⟨p,xs,rfl,bw.seq h1,λp' hp=>?_⟩;have L3:cV H3 A:=((F.cB.mono s1).mono s2).mono s3;have hl:=h2.length;have hr:aq X.K (ar H3 A) (ig l o1 o2) (ur xs o1 o2):=by
   unfold ig ur;rw [zG,zG,← hl];exact Lj _ (Ln _ h2)
  exact q3 (.ref p') _ (s3.trans (.upd hp)) (su (kj L3 hp) (hr.mono ((az.upd hp).ar A))) ⟨bH (QG l o1 o2) z1.1,js λd hd=>iy z1.2 (aeK hd)⟩
 |_=>exact zF q3
variable {fs:aa->M (List Dt)}{es:List Expr}
theorem ay:Av X cls E [] av:=fF.imp λσ H Q ⟨O,A,ρ,F,q⟩=>q [] H (.refl _) .nil trivial
theorem ai (bB:isStar a=false)(ha:Ev X cls E a f)(hr:Av X cls E es fs):Av X cls E (a::es) (ah f fs):=(bV _ _ _ _ _ bB ha hr).imp λσ H Q h_=>by
 obtain⟨O,A,ρ,F,q⟩:=h_;refine⟨O,A,ρ,F,Rg.bind q λd _ q1=>?_⟩;intro v H1 s1 r1 z1;refine⟨O,A,ρ,F.mono s1,Rg.bind (xQ.mono (Q:=Q) q1 s1) λds _ q2=>?_⟩;intro vs H2 s2 r2 z2;exact q2 (v::vs) H2 s2 (.cons (r1.mono (s2.ar A)) r2) ⟨z1,z2⟩
theorem i9 (h:Av X cls E es fs):Ev X cls E (.List es pos) (gC fs):=(vS h).imp λσ H Q h_=>by
 obtain⟨O,A,ρ,F,q⟩:=h_;refine⟨O,A,ρ,F,Rg.bind q λds _ q1=>?_⟩;intro vs H1 s1 r1 z1;obtain⟨h1,h2⟩:=Ki (Res.mono (Q:=Q) q1 s1) (F.cB.mono s1) r1 z1;exact⟨nK (by rw [← r1.length]; exact h1),h2⟩
theorem G1 {k}(h:Av X cls E es fs):Ev X cls E (.Tuple es k pos) (nS fs):=(X8 h).imp λσ H Q h_=>by
 obtain⟨O,A,ρ,F,q⟩:=h_;refine⟨O,A,ρ,F,Rg.bind q λds _ q1=>?_⟩;intro vs H1 s1 r1 z1;have nP:=Res.mono (Q:=Q) q1 s1
 split at nP
 ·rename_i hl
  refine⟨nK (by rw [← r1.length]; exact hl),λp hp=>nP (.ref p) _ (.upd hp) (vM (kj (F.cB.mono s1) hp) (r1.mono ((az.upd hp).ar A))) ⟨hl,z1⟩⟩
 ·exact zF nP
noncomputable def uI (X:Cx)(cls:Nat->Addr)(E:XK)(fv:Value)(F:List Dt->M Dt):Prop:=
 ∃r,ik X fv r/\∀A H Q ds vs,cV H A->aq X.K (ar H A) ds vs->bj ds->Res X.K cls A E (F ds) H Q->r vs H Q
variable {F':List Dt->M Dt}
theorem J6 {r:List V->Hp->VK->Prop}(h:∀A H Q ds vs,cV H A->aq X.K (ar H A) ds vs->bj ds->Res X.K cls A E (F' ds) H Q->r vs H Q)(σ:St)(H:Hp)(Q:VK)(q:tM X.K cls E (aG F' fs) σ H Q):C8 r (zh X.K cls E fs) σ H Q:=by
 obtain⟨O,A,ρ,F,q⟩:=q;refine⟨O,A,ρ,F,Rg.bind q λds _ q1=>?_⟩;intro vs H1 s1 r1 z1;exact h A H1 Q ds vs (F.cB.mono s1) r1 z1 (Res.mono q1 s1)
theorem eR {x:Str}{id:String}{p:Pos}(hc:uI X cls E (.builtin id) F')(hg:Gl X x)(hm:X.mg x=none)(hv:bootBuiltins x=some (.builtin id))(ha:Av X cls E (a::es) fs)(hn:x≠"__name__" := by decide)(i4:(x==("__debug__" : Str))=false:=by decide)
  (he:starEach (a::es) X.env=(false,eval a X.env)::starEach es X.env:=by rfl) (bO:(backTo pos (starEach es X.env)).any (·.1)=false:=by rfl):Ev X cls E (.Call (.Name x p) (a::es) [] pos) (aG F' fs):=by
 obtain⟨r,h1,h2⟩:=hc;exact(mC h1 hg hm hv ha hn i4 he bO).imp (J6 h2)
theorem PL {x:Str}{T:String}{p:Pos}(hc:uI X cls E (.type T) F')(hg:Gl X x)(hm:X.mg x=none)(hv:bootBuiltins x=some (.type T))(ha:Av X cls E (a::es) fs)(hn:x≠"__name__" := by decide)(i4:(x==("__debug__" : Str))=false:=by decide)
  (he:starEach (a::es) X.env=(false,eval a X.env)::starEach es X.env:=by rfl) (bO:(backTo pos (starEach es X.env)).any (·.1)=false:=by rfl):Ev X cls E (.Call (.Name x p) (a::es) [] pos) (aG F' fs):=by
 obtain⟨r,h1,h2⟩:=hc;exact(L7 h1 hg hm hv ha hn i4 he bO).imp (J6 h2)
theorem iS {K:ao}{H:Hp}{d:Dt}{vs:List V}(h:aq K H [d] vs):∃v,vs=[v]/\Rep K H d v:=by
 simp only [aq] at h;obtain⟨x,r,rfl,h1,rfl⟩:=h;exact⟨x,rfl,h1⟩
theorem Ed {K:ao}{H:Hp}{d e:Dt}{vs:List V}(h:aq K H [d,e] vs):∃v w,vs=[v,w]/\Rep K H d v/\Rep K H e w:=by
 simp only [aq] at h;obtain⟨x,r,rfl,h1,y,t,rfl,h2,rfl⟩:=h;exact⟨x,y,rfl,h1,h2⟩
theorem gJ:uI X cls E (.builtin "len") eF:=by
 refine⟨_,afa.or ae9,λA H Q ds vs L r z q=>?_⟩;unfold eF at q
 split at q
 ·rename_i l
  obtain⟨v,rfl,rv⟩:=iS r;exact .inl ⟨l,by rw [cE rv],nK z.1,q _ H (.refl _) fT trivial⟩
 ·rename_i l
  obtain⟨v,rfl,rv⟩:=iS r;obtain⟨p,xs,rfl,h1,h2⟩:=dJ rv;refine .inr ⟨p,xs,rfl,.inl (bw.seq h1),?_⟩;rw [← h2.length];exact q _ H (.refl _) fT trivial
 ·rename_i l
  obtain⟨v,rfl,rv⟩:=iS r;obtain⟨p,xs,rfl,h1,h2⟩:=mw rv;refine .inr ⟨p,xs,rfl,.inr (bw.j6 h1),?_⟩;rw [← h2.length];exact q _ H (.refl _) fT trivial
 ·exact zF q
theorem QV {K:ao}{H:Hp}:∀{ds:List Dt}{bs:List Bool}{xs:List V},bools ds=some bs->aq K H ds xs->xs=bs.map V.bl
 | [],bs,xs,h,r=>by
  simp only [aq] at r;simp only [bools,jT] at h;subst r h;rfl
 |d::ds,bs,xs,h,r=>by
  simp only [aq] at r;obtain⟨x,t,rfl,r1,r2⟩:=r
  cases d with
  |bl b=>
   simp only [bools,gr] at h;obtain⟨cs,hc,rfl⟩:=h;rw [QV hc r2,a5];simp only [Rep] at r1;rw [r1]
  |_=>simp [bools] at h
theorem Hx (hc:X.calm=true):uI X cls E (.builtin "all") ux:=by
 refine⟨_,afe hc,λA H Q ds vs L r z q=>?_⟩;unfold ux at q
 split at q
 ·rename_i l
  obtain⟨v,rfl,rv⟩:=iS r;obtain⟨p,xs,rfl,h1,h2⟩:=dJ rv;unfold uw at q
  split at q
  ·rename_i bs hb
   rw [QV hb h2] at h1;exact⟨p,bs,rfl,bw.seq h1,q _ H (.refl _) gA trivial⟩
  ·exact zF q
 ·exact zF q
theorem zM {K:ao}{H:Hp}:∀l:List Nat,aq K H (cL l) (dH l)
 | []=>.nil
 |c::l=>.cons iT (zM l)
theorem zt (l:List Nat):bj (cL l):=js λd hd=>by
 obtain⟨c,_,rfl⟩:=aX.mp hd;show 1<=10000
 decide
inductive k8 (K:ao) (cls:Nat->Addr) (F:List Dt->M Dt) (vs:List V) (H:Hp) (Q:VK) (E:XK):Prop
 |mk (A:List Addr) (ds:List Dt) (L:cV H A) (r:aq K (ar H A) ds vs) (z:bj ds) (q:Res K cls A E (F ds) H Q):k8 K cls F vs H Q E
theorem bc {k:Nat}{x:Str}{ps:List Str}{p:Pos}{CX:il}(C:nk X.prog X.w X.K X.mg X.base CX k x ps (k8 X.K cls F'))(hr:dF k X.A)(hx:Passes CX X E)(ha:Av X cls E (a::es) fs)(bB:isStar a=false:=by rfl)(hg:Gl X x:=by rfl)
  (i4:(x==("__debug__" : Str))=false:=by decide) (bO:(backTo pos (starEach es X.env)).any (·.1)=false:=by rfl):Ev X cls E (.Call (.Name x p) (a::es) [] pos) (aG F' fs):=
 (L8 C hr hx ha bB hg i4 bO).imp λσ H Q ⟨O,A,ρ,F,q⟩=>by
 refine⟨O,A,ρ,F,Rg.bind q λds _ q1=>?_⟩;intro vs H1 s1 r1 z1;rw [nu];exact⟨A,ds,F.cB.mono s1,r1,z1,Res.mono q1 s1⟩
noncomputable def IS (X:Cx)(cls:Nat->Addr)(E:XK)(T id:String)(m:Sel):Prop:=
 ∃r,qH X id r/\(∀H d k x,m d=some k->Rep X.K H d x->y6 X.K T x H)/\∀A H Q d k x ds vs,m d=some k->cV H A->Rep X.K (ar H A) d x->sm d->aq X.K (ar H A) ds vs->bj ds->Res X.K cls A E (k ds) H Q->r x vs H Q
theorem Uu {T:String}{m:Sel}{r:V->List V->Hp->VK->Prop}(h1:∀H d k x,m d=some k->Rep X.K H d x->y6 X.K T x H)
  (h2:∀A H Q d k x ds vs,m d=some k->cV H A->Rep X.K (ar H A) d x->sm d->aq X.K (ar H A) ds vs->bj ds->Res X.K cls A E (k ds) H Q->r x vs H Q) (σ:St) (H:Hp) (Q:VK) (q:tM X.K cls E (nU m f fs) σ H Q) :
  Kg X.K T r (tM X.K cls E f) (zh X.K cls E fs) σ H Q:=by
 obtain⟨O,A,ρ,F,q⟩:=q;refine⟨O,A,ρ,F,Rg.bind q λd _ q1=>?_⟩;intro v H1 s1 r1 z1;have nP:=Res.mono (Q:=Q) q1 s1
 cases hk:m d with
 |none=>rw [hk] at nP; exact zF nP
 |some k=>
  rw [hk] at nP;have j8:Res X.K cls A E ((fs ρ).bd k) H1 Q:=nP;refine⟨h1 H1 d k v hk (r1.mono bw),O,A,ρ,F.mono s1,Rg.bind j8 λds _ q2=>?_⟩;intro vs H2 s2 r2 z2;exact h2 A H2 Q d k v ds vs hk ((F.cB.mono s1).mono s2) (r1.mono (s2.ar A)) z1 r2 z2 (Res.mono q2 s2)
theorem PM {T name id:String}{m:Sel}{apos:Pos}{o:Expr}(pa:PlainAttrs T)(slot:Slot T name id)(jC:typeOf (.builtin id)=pure (.type "method_descriptor"))(hm:IS X cls E T id m)(ho:Ev X cls E o f)(ha:Av X cls E (a::es) fs)
  (i6:attributeBase o name X.env (eval o X.env)=eval o X.env:=by rfl)
  (Ga:((backTo pos (starEach (a::es) X.env)).all (λx=>!x.1)&&(backToKw pos (keywordEach [] X.env)).all (λx=>x.1.isSome)
   && decide ((a::es).length+([]:List Keyword).length+(if ([]:List Keyword).isEmpty then 0 else 1)<30))=true:=by rfl)
  (g9:(apos.endLine==pos.line)=true:=by rfl) (hs:starEach (a::es) X.env=(false,eval a X.env)::starEach es X.env:=by rfl) (FL:(backTo pos (starEach es X.env)).any (·.1)=false:=by rfl) :
  Ev X cls E (.Call (.Attribute o name apos) (a::es) [] pos) (nU m f fs):=by
 obtain⟨r,h0,h1,h2⟩:=hm;exact(vT pa slot jC h0 ho ha i6 Ga g9 hs FL).imp (Uu h1 h2)
theorem zo {K:ao}{H:Hp}:∀{ds:List Dt}{ls:List (List Nat)}{xs:List V},e9 ds=some ls->aq K H ds xs->xs=ls.map S
 | [],bs,xs,h,r=>by
  simp only [aq] at r;simp only [e9,jT] at h;subst r h;rfl
 |d::ds,bs,xs,h,r=>by
  simp only [aq] at r;obtain⟨x,t,rfl,r1,r2⟩:=r
  cases d with
  |str l=>
   simp only [e9,gr] at h;obtain⟨cs,hc,rfl⟩:=h;rw [zo hc r2,a5];simp only [Rep] at r1;rw [r1]
  |_=>simp [e9] at h
theorem aaf:IS X cls E "str" "str.join" sS:=by
 refine⟨_,Z8,λH d k x hk r=>?_,λA H Q d k x ds vs hk L r z rs zs q=>?_⟩
 ·unfold sS at hk
  split at hk
  ·rw [cE r]; rfl
  ·cases hk
 ·unfold sS at hk
  split at hk
  ·injection hk with hk
   subst hk;unfold joinM at q
   split at q
   ·rename_i l
    obtain⟨v,rfl,rv⟩:=iS rs;obtain⟨p,xs,rfl,h1,h2⟩:=dJ rv;unfold Aj at q
    split at q
    ·rename_i ls hls
     rw [zo hls h2] at h1;obtain⟨h,q⟩:=C9 q;exact⟨p,ls,cE r,rfl,bw.seq h1,h,q⟩
    ·exact zF q
   ·exact zF q
  ·cases hk
theorem aag:IS X cls E "str" "str.count" pL:=by
 refine⟨_,aac,λH d k x hk r=>?_,λA H Q d k x ds vs hk L r z rs zs q=>?_⟩
 ·unfold pL at hk
  split at hk
  ·rw [cE r]; rfl
  ·cases hk
 ·unfold pL at hk
  split at hk
  ·rename_i l
   injection hk with hk;subst hk;unfold Bl at q
   split at q
   ·rename_i c
    obtain⟨v,rfl,rv⟩:=iS rs;exact⟨l,c,cE r,by rw [cE rv],q _ H (.refl _) fT trivial⟩
   ·exact zF q
  ·cases hk
structure jP (K:ao) (A:List Addr) (J:It) (ds:List Dt) (H1:Hp):Prop where
 go:∀i H,i<ds.length->az (ar H1 A) H->J.go i H
 stop:∀H,az (ar H1 A) H->J.stop ds.length H
 yl:∀i H x H' A',i<ds.length->cV H A'->az (ar H1 A) (ar H A')->J.vm i H x H'->az H H'/\∃d,ds[i]?=some d/\Rep K (ar H' A') d x
 small:bj ds
 kq:ds.length<=10000
inductive iM (K:ao) (cls:Nat->Addr) (E:XK) (ι:IM) (σ:St) (H:Hp) (R:It->Hp->Prop):Prop
 |mk (O A:List Addr) (ρ:aa) (F:bC K O A ρ σ H) (q:Rg cls E (ι ρ) H λds=>∀J H',az H H'->jP K A J ds H'->R J H'):iM K cls E ι σ H R
noncomputable abbrev Iv (X:Cx)(cls:Nat->Addr)(E:XK)(tg e:Expr)(ι:IM):Prop:=PI X tg e (iM X.K cls E ι)
theorem PI.imp {tg e:Expr}{t t':TI}(h:PI X tg e t')(i:∀σ H R,t σ H R->t' σ H R):PI X tg e t:=λpins s σ H R I hw=>h pins s σ H R I (i σ H R hw)
theorem PI.or {tg e:Expr}{t t':TI}(h:PI X tg e t)(h':PI X tg e t'):PI X tg e (λσ H R=>t σ H R∨t' σ H R):=λpins s σ H R I hw=>by
 rcases hw with hw | hw
 ·exact h pins s σ H R I hw
 ·exact h' pins s σ H R I hw
theorem abq {K:ao}{A:List Addr}{a:Addr}{ds:List Dt}{xs:List V}{H1:Hp}(h1:bz K (ar H1 A) a xs)(h2:aq K (ar H1 A) ds xs)(z:bj ds)(zl:ds.length<=10000):jP K A (uC K a) ds H1:=by
 have hl:=h2.length;refine⟨λi H hi s=>⟨xs,xs[i]'(by omega),s.seq h1,by simp⟩,λH s=>⟨xs,s.seq h1,by omega⟩,λi H x H' A' hi L s y=>?_,z,zl⟩;obtain⟨e,hx⟩:=y;subst e;have pU:=hx xs ((s.trans bw).seq h1);obtain⟨d,hd,rd⟩:=h2.get pU;exact⟨.refl _,d,hd,rd.mono s⟩
theorem abo {K:ao}{A:List Addr}{a:Addr}{ds:List Dt}{xs:List V}{H1:Hp}(h1:dP K (ar H1 A) a xs)(h2:aq K (ar H1 A) ds xs)(z:bj ds)(zl:ds.length<=10000):jP K A (IZ K a) ds H1:=by
 have hl:=h2.length;refine⟨λi H hi s=>⟨xs,xs[i]'(by omega),s.j6 h1,by simp⟩,λH s=>⟨xs,s.j6 h1,by omega⟩,λi H x H' A' hi L s y=>?_,z,zl⟩;obtain⟨e,hx⟩:=y;subst e;have pU:=hx xs ((s.trans bw).j6 h1);obtain⟨d,hd,rd⟩:=h2.get pU;exact⟨.refl _,d,hd,rd.mono s⟩
theorem NR {K:ao}{A:List Addr}{ds:List Dt}{xs:List V}{H1:Hp}(h2:aq K (ar H1 A) ds xs)(z:bj ds)(zl:ds.length<=10000):jP K A (xV xs) ds H1:=by
 have hl:=h2.length;refine⟨λi H hi s=>by show i<xs.length; omega,λH s=>by show xs.length<=ds.length; omega,λi H x H' A' hi L s y=>?_,z,zl⟩;obtain⟨e,hx⟩:=y;subst e;obtain⟨d,hd,rd⟩:=h2.get hx;exact⟨.refl _,d,hd,rd.mono s⟩
theorem mH {tg e:Expr}(he:Ev X cls E e f):Iv X cls E tg e (g8 f):=by
 refine((X0 he).or ((XU he).or (XW he))).imp λσ H R h_=>?_;obtain⟨O,A,ρ,F,q⟩:=h_
 cases hm:f ρ with
 |bad=>
  unfold g8 at q;rw [hm] at q;exact zF q
 |ex c=>
  refine .inl ⟨O,A,ρ,F,?_⟩;unfold g8 at q;rw [hm] at q ⊢;exact q
 |ok d=>
  have q':Rg cls E (dI d) H λds=>∀J H',az H H'->jP X.K A J ds H'->R J H':=by
   unfold g8 at q;rw [hm] at q;exact q
  cases d with
  |lst l=>
   refine .inl ⟨O,A,ρ,F,?_⟩;rw [hm];intro v H1 s1 r1 z1;obtain⟨p,xs,rfl,h1,h2⟩:=dJ r1;exact⟨p,rfl,⟨xs,bw.seq h1⟩,q' _ H1 s1 (abq h1 h2 z1.2 z1.1)⟩
  |tup l=>
   refine .inr (.inl ⟨O,A,ρ,F,?_⟩);rw [hm];intro v H1 s1 r1 z1;obtain⟨p,xs,rfl,h1,h2⟩:=mw r1;exact⟨p,rfl,⟨xs,bw.j6 h1⟩,q' _ H1 s1 (abo h1 h2 z1.2 z1.1)⟩
  |str l=>
   refine .inr (.inr ⟨O,A,ρ,F,?_⟩);rw [hm];intro v H1 s1 r1 z1;exact⟨l,cE r1,q' _ H1 s1 (NR (zM l) (zt l) (by rw [cL,cg]; exact z1))⟩
  |_=>exact zF q'
theorem NQ {K:ao}{A:List Addr}{lo hi:Int}{H1:Hp}(zl:(hi - lo).toNat<=10000):jP K A (xU lo (hi - lo).toNat) (dz lo hi) H1:=by
 have hl:(dz lo hi).length=(hi - lo).toNat:=by simp [dz]
 refine⟨λi H hi s=>by show i<(_:Nat); omega,λH s=>by show (_:Nat)<=_; omega,λi H x H' A' c8 L s y=>?_,js λd hd=>?_,by omega⟩
 ·obtain⟨e,hx⟩:=y
  subst e hx;refine⟨.refl _,.int (lo+(i:Nat)),?_,fT⟩;rw [hl] at c8;simp [dz,c8]
 ·obtain⟨k,_,rfl⟩:=aX.mp hd
  trivial
theorem Am {tg:Expr}{p:Pos}(hg:Gl X "range")(hm:X.mg "range" = none)(ha:Av X cls E [a] fs)(hs:starEach [a] X.env=[(false,eval a X.env)]:=by rfl):Iv X cls E tg (.Call (.Name "range" p) [a] [] pos) (fH pq fs):=
 (XZ hg hm ha hs).imp λσ H R ⟨O,A,ρ,F,q⟩=>by
 refine⟨O,A,ρ,F,Rg.bind q λds lL q1=>?_⟩
 clear lL
 intro vs H1 s1 r1 z1;unfold pq at q1
 split at q1
 ·rename_i n
  split at q1
  ·rename_i hn
   obtain⟨v,rfl,rv⟩:=iS r1;refine⟨n,by rw [dB rv],by omega,by omega,?_⟩;have e:n.toNat=(n - 0).toNat:=by omega
   rw [e];exact q1 _ H1 s1 (NQ (by omega))
  ·exact zF q1
 ·exact zF q1
theorem abk {tg:Expr}{p:Pos}(hg:Gl X "range")(hm:X.mg "range" = none)(ha:Av X cls E [a,b] fs)(hs:starEach [a,b] X.env=[(false,eval a X.env),(false,eval b X.env)]:=by rfl)(en:starEach [b] X.env=[(false,eval b X.env)]:=by rfl) :
  Iv X cls E tg (.Call (.Name "range" p) [a,b] [] pos) (fH zJ fs):=
 (XY hg hm ha hs en).imp λσ H R ⟨O,A,ρ,F,q⟩=>by
 refine⟨O,A,ρ,F,Rg.bind q λds lL q1=>?_⟩
 clear lL
 intro vs H1 s1 r1 z1;unfold zJ at q1
 split at q1
 ·rename_i i j
  split at q1
  ·rename_i hn
   obtain⟨v,w,rfl,rv,gY⟩:=Ed r1;refine⟨i,j,by rw [dB rv,dB gY],⟨by omega,by omega,by omega,by omega⟩,?_⟩;exact q1 _ H1 s1 (NQ (by omega))
  ·exact zF q1
 ·exact zF q1
end
inductive gM (K:ao) (g:GM) (v:V) (σ:St) (H:Hp) (Q:St->Hp->Prop):Prop
 |mk (O A:List Addr) (ρ:aa) (d:Dt) (F:bC K O A ρ σ H) (r:Rep K (ar H A) d v) (z:sm d) (aW:aa) (e:g d ρ=.ok aW) (q:∀aD,bC K O A aW aD H->Q aD H):gM K g v σ H Q
inductive xl (K:ao) (g:List Dt->aa->M aa) (vs:List V) (σ:St) (H:Hp) (Q:St->Hp->Prop):Prop
 |mk (O A:List Addr) (ρ:aa) (ds:List Dt) (F:bC K O A ρ σ H) (r:aq K (ar H A) ds vs) (z:bj ds) (aW:aa) (e:g ds ρ=.ok aW) (q:∀aD,bC K O A aW aD H->Q aD H):xl K g vs σ H Q
theorem PG.imp {X:Cx}{e:Expr}{t t':TG}(h:PG X e t')(i:∀v σ H Q,t v σ H Q->t' v σ H Q):PG X e t:=λpins s σ H v u Q I r hw=>h pins s σ H v u Q I r (i v σ H Q hw)
theorem jN.imp {X:Cx}{e:List Expr}{t t':lW}(h:jN X e t')(i:∀v σ H Q,t v σ H Q->t' v σ H Q):jN X e t:=λpins s σ H v u Q I r hw=>h pins s σ H v u Q I r (i v σ H Q hw)
theorem bC.put {K:ao}{O A:List Addr}{ρ:aa}{σ:St}{H:Hp}(F:bC K O A ρ σ H)(i:Nat){d:Dt}{v:V}(r:Rep K (ar H A) d v)(z:sm d):bC K O A (gB i d ρ) (σ.set i (some v)) H:=
 F.set F.cB F.sub (.refl _) (λ_ h _=>⟨h,rfl⟩) (λ_ h h'=>⟨h,h',rfl⟩) (.inl ⟨d,rfl,r,z⟩)
section
variable {X:Cx}{cls:Nat->Addr}{E:XK}{a b c:Expr}{f g h:aa->M Dt}{pos:Pos}{fs:aa->M (List Dt)}{es:List Expr}
theorem cb {i:Nat}{x:Str}(h:PG X (.Name x pos) (tK i)):PG X (.Name x pos) (gM X.K (aw i)):=h.imp λv σ H Q h_=>by
 obtain⟨O,A,ρ,d,F,r,z,aW,e,q⟩:=h_;cases e;exact q _ (F.put i r z)
theorem mS:jN X [] (xl X.K dj):=X3.imp λv σ H Q h_=>by
 obtain⟨O,A,ρ,ds,F,r,z,aW,e,q⟩:=h_
 cases ds with
 |nil=>
  cases e;simp only [aq] at r;exact⟨r,q _ F⟩
 |cons d ds=>cases e
theorem fI {g:GM}{gs:List Dt->aa->M aa}(h1:PG X a (gM X.K g))(h2:jN X es (xl X.K gs))(hs:(assignEach (a::es) X.env).map (·.2)=assign a X.env::(assignEach es X.env).map (·.2):=by rfl):jN X (a::es) (xl X.K (bp g gs)):=(X4 h1 h2 hs).imp λv σ H Q h_=>by
 obtain⟨O,A,ρ,ds,F,r,z,aW,e,q⟩:=h_
 cases ds with
 |nil=>cases e
 |cons d ds=>
  simp only [aq] at r;obtain⟨x,t,rfl,r1,r2⟩:=r;simp only [bp] at e
  cases hg:g d ρ with
  |ok aP=>
   rw [hg] at e;exact⟨x,t,rfl,O,A,ρ,d,F,r1,z.1,aP,hg,λkE F1=>⟨O,A,aP,ds,F1,r2,z.2,aW,e,q⟩⟩
  |ex c=>rw [hg] at e; cases e
  |bad=>rw [hg] at e; cases e
noncomputable def adx (K:ao)(n:Nat)(t:lW):TG:=λv σ H Q=>∃a xs,v=.ref a/\bz K H a xs/\xs.length=n/\t xs σ H Q
theorem X5 {k:Nat}{t:lW}{n:Nat}(hc:X.calm=true)(h:jN X es t)(hn:(assignEach es X.env).length=n)(bB:(assignEach es X.env).findIdx? (·.1)=none):PG X (.Tuple es k pos) (adx X.K n t):=by
 intro pins s σ H v u Q I r hw;obtain⟨a,xs,e1,hq,hl,hw⟩:=hw;subst e1;cases r;obtain⟨ak,rv,pl,hz⟩:=I.list hq;rw [assign_Tuple];refine wpAny_bind (wpAny_standAt ?_);unfold unpack;rw [bB,show (assignEach es X.env).length=ak.toArray.size by simp [hn,← hl,rv.length]];refine wpAny_bind (wpAny_holding (kun_itemsOf (I.ok.hd hc) pl.isList λh' hx=>?_));have I1:Inv X pins σ H {s with heap:=h'}:=I.kept (t':=s.toks) λb o e=>hx b o (a9 (aK e)) e;exact h pins _ σ H xs _ Q I1 (by simpa using rv) hw
theorem PG.or {e:Expr}{t t':TG}(h:PG X e t)(h':PG X e t'):PG X e (λv σ H Q=>t v σ H Q∨t' v σ H Q):=λpins s σ H v u Q I r hw=>by
 rcases hw with hw | hw
 ·exact h pins s σ H v u Q I r hw
 ·exact h' pins s σ H v u Q I r hw
theorem mT {k n:Nat}{gs:List Dt->aa->M aa}(hc:X.calm=true)(h:jN X es (xl X.K gs))(hn:(assignEach es X.env).length=n:=by rfl)(bB:(assignEach es X.env).findIdx? (·.1)=none:=by rfl):PG X (.Tuple es k pos) (gM X.K (cH n gs)):=by
 refine((X6 hc h hn bB).or (X5 hc h hn bB)).imp λv σ H Q h_=>?_;obtain⟨O,A,ρ,d,F,r,z,aW,e,q⟩:=h_
 cases d with
 |tup ds=>
  simp only [cH] at e
  split at e
  ·rename_i hl
   obtain⟨p,xs,rfl,h1,h2⟩:=mw r;exact .inl ⟨p,xs,rfl,bw.j6 h1,by rw [← h2.length]; exact hl,O,A,ρ,ds,F,h2,z.2,aW,e,q⟩
  ·cases e
 |lst ds=>
  simp only [cH] at e
  split at e
  ·rename_i hl
   obtain⟨p,xs,rfl,h1,h2⟩:=dJ r;exact .inr ⟨p,xs,rfl,bw.seq h1,by rw [← h2.length]; exact hl,O,A,ρ,ds,F,h2,z.2,aW,e,q⟩
  ·cases e
 |_=>cases e
end
noncomputable def GK (k:Nat)(g:GM):Prop:=∀d ρ aW,g d ρ=.ok aW->aW.length=ρ.length/\∀i,k<=i->aW[i]?=ρ[i]?
noncomputable def BB (k:Nat)(g:List Dt->aa->M aa):Prop:=∀d ρ aW,g d ρ=.ok aW->aW.length=ρ.length/\∀i,k<=i->aW[i]?=ρ[i]?
theorem dD {k i:Nat}(h:i<k):GK k (aw i):=λd ρ aW e=>by
 cases e;refine⟨by simp [gB],λj hj=>?_⟩;unfold gB;rw [kL (by omega)]
theorem tI {k:Nat}:BB k dj:=λds ρ aW e=>by
 cases ds with
 |nil=>cases e; exact⟨rfl,λ_ _=>rfl⟩
 |cons d ds=>cases e
theorem jH {k:Nat}{g:GM}{gs:List Dt->aa->M aa}(h1:GK k g)(h2:BB k gs):BB k (bp g gs):=λds ρ aW e=>by
 cases ds with
 |nil=>cases e
 |cons d ds=>
  simp only [bp] at e
  cases hg:g d ρ with
  |ok aP=>
   rw [hg] at e;obtain⟨a1,a2⟩:=h1 d ρ aP hg;obtain⟨b1,b2⟩:=h2 ds aP aW e;exact⟨b1.trans a1,λi hi=>(b2 i hi).trans (a2 i hi)⟩
  |ex c=>rw [hg] at e; cases e
  |bad=>rw [hg] at e; cases e
theorem tJ {k n:Nat}{gs:List Dt->aa->M aa}(h:BB k gs):GK k (cH n gs):=λd ρ aW e=>by
 cases d with
 |tup ds=>
  simp only [cH] at e
  split at e
  ·exact h ds ρ aW e
  ·cases e
 |lst ds=>
  simp only [cH] at e
  split at e
  ·exact h ds ρ aW e
  ·cases e
 |_=>cases e
theorem U7 (k:Nat)(fr:List Nat)(ρ:aa):(bT k fr ρ).length=k+fr.length:=by simp [bT]
theorem Du {k:Nat}{fr:List Nat}{ρ:aa}{i:Nat}(h:i<k):(bT k fr ρ)[i]?=some .no:=by
 unfold bT;rw [uJ (by simpa using h)];simp [h]
theorem vB {k:Nat}{fr:List Nat}{ρ:aa}{i:Nat}{b:Bd}(h:(bT k fr ρ)[i]?=some b):b=.no∨∃j m d,i=k+j/\fr[j]?=some m/\ρ[m]?=some (.val d)/\b=.val d:=by
 by_cases hi:i<k
 ·rw [Du hi] at h
  cases h;exact .inl rfl
 ·unfold bT at h
  rw [uK (by simp; omega)] at h;simp only [qM,gR,gr] at h;obtain⟨m,hm,hb⟩:=h;unfold CO at hb
  split at hb
  ·rename_i d hd
   exact .inr ⟨i - k,m,d,by omega,hm,hd,hb.symm⟩
  ·exact .inl hb.symm
theorem bC.fD {K:ao}{O A:List Addr}{ρ:aa}{σ:St}{H:Hp}(F:bC K O A ρ σ H)(k:Nat)(fr:List Nat):bC K O A (bT k fr ρ) (L2.fD k fr σ) H:=by
 have no:∀{i b},(bT k fr ρ)[i]?=some b->g7 b=true->False:=λ{i b} h o=>by
  rcases vB h with z | ⟨j,m,d',_,_,_,z⟩ <;> rw [z] at o <;> cases o
 refine⟨by rw [U7]; simp [L2.fD],F.cB,F.sub,λi d h=>?_,λi b h o=>(no h o).elim,λi j b c v w _ h _ o=>(no h o).elim,λi p x y h=>?_⟩
 rotate_left
 ·rcases vB h with z | ⟨j,m,d',_,_,_,z⟩ <;> cases z
 ·rcases vB h with z | ⟨j,m,d',rfl,hm,hd,z⟩
  ·cases z
  ·cases z
   obtain⟨v,h1,h2,h3⟩:=F.val m d hd;refine⟨v,?_,h2,h3⟩;unfold L2.fD;rw [uK (by simp)];simp [hm,h1]
theorem bC.back {K:ao}{O A:List Addr}{ρ ρ0:aa}{σ:St}{H:Hp}(F:bC K O A ρ σ H)(hl:ρ.length=ρ0.length)(hv:∀(i:Nat) d,ρ0[i]?=some (.val d)->ρ[i]?=some (.val d))(ho:∀(i:Nat) b,ρ0[i]?=some b->g7 b=true∨(∃p x y,b=.bor p x y)->False):bC K O A ρ0 σ H:=
 ⟨by rw [← hl]; exact F.len,F.cB,F.sub,λi d h=>F.val i d (hv i d h),λi b h o=>(ho i b h (.inl o)).elim,λi _ b _ _ _ _ h _ o=>(ho i b h (.inl o)).elim,λi p x y h=>(ho i _ h (.inr ⟨p,x,y,rfl⟩)).elim⟩
theorem cV.cons {H:Hp}{A:List Addr}{D:Addr}{o:HO}(h:cV H A)(hD:H D=some o):cV H (D::A):=λa ha=>by
 rcases aO.mp ha with z | z
 ·subst z; rw [hD]; simp
 ·exact h a z
theorem wW {H:Hp}{A:List Addr}{D:Addr}{o:HO}(h:D∈A):ar (upd H D o) A=ar H A:=by
 funext b
 unfold ar
 by_cases hb:b∈A
 ·rw [if_pos hb,if_pos hb]
 ·rw [if_neg hb,if_neg hb]
  exact ba λz=>hb (z ▸ h)
theorem aeW {g:GM}{tc:aa->M Bool}{te:aa->M Dt}{ρ0:aa}{d:Dt}{ds:List Dt}{xs:List Dt}(h:fi g tc te ρ0 (d::ds)=.ok xs) :
  ∃aP,g d ρ0=.ok aP/\((tc aP=.ok false/\fi g tc te ρ0 ds=.ok xs)∨(tc aP=.ok true/\∃x ys,te aP=.ok x/\fi g tc te ρ0 ds=.ok ys/\xs=x::ys)):=by
 simp only [fi] at h
 cases hg:g d ρ0 with
 |ok aP=>
  rw [hg] at h;simp only [bt] at h;refine⟨aP,rfl,?_⟩
  cases ht:tc aP with
  |ok b=>
   rw [ht] at h;simp only [bt] at h
   cases b with
   |false=>exact .inl ⟨rfl,h⟩
   |true=>
    simp only [if_true] at h
    cases hx:te aP with
    |ok x=>
     rw [hx] at h;simp only [bt] at h
     cases hr:fi g tc te ρ0 ds with
     |ok ys=>rw [hr] at h; simp only [bt] at h; cases h; exact .inr ⟨rfl,x,ys,rfl,rfl,rfl⟩
     |ex c=>rw [hr] at h; cases h
     |bad=>rw [hr] at h; cases h
    |ex c=>rw [hx] at h; cases h
    |bad=>rw [hx] at h; cases h
  |ex c=>rw [ht] at h; cases h
  |bad=>rw [ht] at h; cases h
 |ex c=>rw [hg] at h; cases h
 |bad=>rw [hg] at h; cases h
theorem Xd {K:ao}{cls:Nat->Addr}{k:Nat}{fr:List Nat}{g:GM}{tc:aa->M Bool}{te:aa->M Dt}{O A:List Addr}{ρ:aa}{σ:St}{J:It}{H1:Hp}{Q:VK}{ds xs:List Dt}(F:bC K O A ρ σ H1)(hk:GK k g)(hJ:jP K A J ds H1)
  (hx:fi g tc te (bT k fr ρ) ds=.ok xs) (fin:∀D ys H',az H1 H'->H1 D=none->H' D=some (.lst ys)->aq K (ar H' (D::A)) xs ys->bj xs->xs.length<=10000->Q (.ref D) H'):nO k fr (gM K g) (dW K cls E0 tc) (tM K cls E0 te) σ J H1 Q:=by
 intro D hD;have OO:D∉A:=F.cB.fresh hD;have ho:∀(i:Nat) b,(bT k fr ρ)[i]?=some b->g7 b=true∨(∃p x y,b=.bor p x y)->False:=λi b h o=>by
  rcases vB h with z | ⟨j,m,d',_,_,_,z⟩ <;> rw [z] at o <;> rcases o with o | ⟨p,x,y,o⟩ <;> cases o
 have s0:az H1 (upd H1 D (.lst [])):=.upd hD;have sD:∀{H'},az H1 H'->az (ar H1 A) (ar H' (D::A)):=λ{H'} s b o e=>by
  obtain⟨h1,h2⟩:=gZ e;have hb:b∉D::A:=λz=>by
   rcases aO.mp z with z | z
   ·subst z; rw [hD] at h2; cases h2
   ·exact h1 z
  rw [di hb];exact s b o h2
 have FD:bC K [] (D::A) (bT k fr ρ) (fD k fr σ) (upd H1 D (.lst [])):=by
  have F1:=F.fD k fr;refine⟨F1.len,(F.cB.mono s0).cons bY,(λa z=>nomatch z),λi d h=>?_,λi b h o=>(ho i b h (.inl o)).elim,λi _ b _ _ _ _ h _ o=>(ho i b h (.inl o)).elim,λi p x y h=>(ho i _ h (.inr ⟨p,x,y,rfl⟩)).elim⟩;obtain⟨v,h1,h2,h3⟩:=F1.val i d h;exact⟨v,h1,h2.mono (sD s0),h3⟩
 refine⟨λi m ys aD H'=>i<=ds.length/\m=ds.length - i/\H' D=some (.lst ys)/\az H1 H'/\bC K [] (D::A) (bT k fr ρ) aD H'/\∃us ws,fi g tc te (bT k fr ρ) (ds.drop i)=.ok ws/\xs=us++ws/\aq K (ar H' (D::A)) us ys/\bj us/\us.length<=i,
  ⟨ds.length,fP _,rfl,bY,s0,FD,[],xs,hx,rfl,.nil,trivial,fP _⟩,?_⟩
 rintro i m ys aD H' ⟨hi,rfl,km,gV,F',us,ws,hw,rfl,ru,zu,lu⟩;refine⟨km,?_⟩;have kq:=hJ.kq
 by_cases aF:i<ds.length
 ·refine .inr ⟨hJ.go i H' aF (bw.trans gV),ds.length - (i+1),by omega,λx H2 y=>?_⟩
  obtain⟨sy,d,hd,rd⟩:=hJ.yl i H' x H2 (D::A) aF F'.cB (sD gV) y;have qg:ds.drop i=d::ds.drop (i+1):=by
   rw [oJ aF]
   congr 1
   have:=iq aF;rw [hd] at this;exact(gn this).symm
  rw [qg] at hw;obtain⟨aP,hg,xb⟩:=aeW hw;refine⟨[],D::A,_,d,F'.mono sy,rd,iy hJ.small (jV hd),aP,hg,λcW F2=>?_⟩;obtain⟨k1,k2⟩:=hk d _ _ hg;have bk:∀{eW H3},bC K [] (D::A) aP eW H3->bC K [] (D::A) (bT k fr ρ) eW H3:=λF3=>F3.back k1 (λj e hj=>by
   have FY:k<=j:=by
    by_cases z:j<k
    ·rw [Du z] at hj; cases hj
    ·omega
   rw [k2 j FY];exact hj) ho
  rcases xb with ⟨ht,hr⟩ | ⟨ht,x',yR,wM,hr,rfl⟩
  ·refine⟨[],D::A,aP,F2,?_⟩
   rw [ht];intro H4 s4;simp only [cF,if_false];have pj:=sy.trans s4;exact⟨aF,trivial,pj _ _ km,gV.trans pj,bk (F2.mono s4),us,ws,hr,rfl,ru.mono (pj.ar _),zu,by omega⟩
  ·refine⟨[],D::A,aP,F2,?_⟩
   rw [ht];intro H4 s4;simp only [if_true];refine⟨[],D::A,aP,F2.mono s4,?_⟩;rw [wM];intro v H5 s5 r5 z5;have ph:=(sy.trans s4).trans s5;have hl:=ru.length;refine⟨ph _ _ km,yA (by omega:ys.length<=10000) (by decide),aF,trivial,bY,λb o e=>?_,?_,us++[x'],yR,hr,by simp,?_,zv zu ⟨z5,trivial⟩,by simp; omega⟩
   ·rw [ba (cZ e hD)]
    exact ph b o (gV b o e)
   ·have F5:=bk ((F2.mono s4).mono s5)
    refine⟨F5.len,λa' ha=>?_,(λa z=>nomatch z),λj e h=>?_,λj b h o=>(ho j b h (.inl o)).elim,λj _ b _ _ _ _ h _ o=>(ho j b h (.inl o)).elim,λj p x y h=>(ho j _ h (.inr ⟨p,x,y,rfl⟩)).elim⟩
    ·by_cases hz:a'=D
     ·rw [hz,bY]; simp
     ·rw [ba hz]; exact F5.cB a' ha
    ·rw [wW bu]
     exact F5.val j e h
   ·rw [wW bu]
    exact(ru.mono (ph.ar _)).append (.cons r5 .nil)
 ·have e:i=ds.length:=by omega
  subst e;rw [qZ] at hw;cases hw;rw [nu] at fin;have hl:=ru.length;exact .inl ⟨hJ.stop H' (bw.trans gV),fin D ys H' gV hD km ru zu (by omega)⟩
theorem Ls {K:ao}{cls:Nat->Addr}{k:Nat}{fr:List Nat}{g:GM}{tc:aa->M Bool}{te:aa->M Dt}{O A:List Addr}{ρ:aa}{σ:St}{J:It}{H1:Hp}{Q:VK}{ds xs:List Dt}(F:bC K O A ρ σ H1)(hk:GK k g)(hJ:jP K A J ds H1)
  (hx:fi g tc te (bT k fr ρ) ds=.ok xs) (fin:∀v H',az H1 H'->Rep K (ar H' A) (.lst xs) v->bj xs->xs.length<=10000->Q v H'):nO k fr (gM K g) (dW K cls E0 tc) (tM K cls E0 te) σ J H1 Q:=
 Xd F hk hJ hx λD ys H' s' hD km ru zu l=>fin (.ref D) H' s' (su (by rw [di (F.cB.fresh hD)]; exact km) (ru.mono λb o e=>by
  obtain⟨h1,h2⟩:=gZ e;rw [di λz=>h1 (bR _ z)];exact h2)) zu l
section
variable {X:Cx}{cls:Nat->Addr}{E:XK}{a b c:Expr}{f:aa->M Dt}{pos:Pos}{scope:Scope}{N:List Str}{k:Nat}{fr:List Nat}{tg iter elt:Expr}{ifs:List Expr}{ι:IM}{g:GM}{tc:aa->M Bool}{te:aa->M Dt}
theorem J5 (hk:GK k g)(σ:St)(H:Hp)(Q:VK)(q:tM X.K cls E (dg k fr ι g tc te) σ H Q):si k fr (iM X.K cls E ι) (gM X.K g) (dW X.K cls E0 tc) (tM X.K cls E0 te) σ H Q:=by
 obtain⟨O,A,ρ,F,q⟩:=q;refine⟨O,A,ρ,F,Rg.bind q λds _ q1=>?_⟩;intro J H1 s1 hJ
 cases hm:fi g tc te (bT k fr ρ) ds with
 |ok xs=>
  have q2:Res X.K cls A E (fB xs) H Q:=by rw [hm] at q1; exact q1
  refine Ls (F.mono s1) hk hJ hm λv H' s' r z zl=>?_;unfold fB at q2;rw [if_pos zl] at q2;exact q2 v H' (s1.trans s') r ⟨zl,z⟩
 |ex c=>rw [hm] at q1; exact zF q1
 |bad=>rw [hm] at q1; exact zF q1
theorem jZ:jg X [] (dW X.K cls E dU):=λpins s σ H Q I ⟨O,A,ρ,F,q⟩=>XA pins s σ H Q I (q H (.refl _))
theorem oX (h:Tv X cls E c tc):jg X [c] (dW X.K cls E tc):=Xz h
theorem iJ (hk:GK k g)(hc:X.calm=true)(S:eG X scope N k fr)(hi:Iv X cls E tg iter ι)(hg:∀pins fp s H,PG (bL X scope N pins fp s H) tg (gM X.K g))(ht:∀pins fp s H,jg (bL X scope N pins fp s H) ifs (dW X.K cls E0 tc))
  (he:∀pins fp s H,PE (bL X scope N pins fp s H) elt (tM X.K cls E0 te)) (hs:∀x,foldedSetIterable iter X.env x=pure x:=by intro _; rfl):Ev X cls E (.ListComp elt [⟨tg,iter,ifs,0⟩] scope pos) (dg k fr ι g tc te):=
 (L6 hc S hi hg ht he hs).imp (J5 hk)
end
noncomputable def cJ (K:ao)(aC:Hp)(A₀:List Addr)(os:List Addr)(ρ:aa)(σ:St)(H:Hp):Prop:=az aC H/\cV aC A₀/\(∀a∈os,aC a=none)/\bC K os (os++A₀) ρ σ H
inductive gg (K:ao) (aC:Hp) (A₀:List Addr) (ρ:aa) (σ:St) (H:Hp):Prop
 |mk (os:List Addr) (S:cJ K aC A₀ os ρ σ H):gg K aC A₀ ρ σ H
noncomputable def jM (K:ao)(cls:Nat->Addr)(E:XK)(aC:Hp)(A₀:List Addr)(m:M Fl)(D:Ends):Prop:=match m with
 |.ok (.nx ρ)=>∀σ H,gg K aC A₀ ρ σ H->D.nx σ H
 |.ok (.bk ρ)=>∀σ H,gg K aC A₀ ρ σ H->D.bk σ H
 |.ok (.ct ρ)=>∀σ H,gg K aC A₀ ρ σ H->D.ct σ H
 |.ok (.rt d)=>∀v H,az aC H->Rep K (ar H A₀) d v->sm d->D.rt v H
 |.ex c=>∀H,az aC H->E (.ref (cls c)) none H
 |.bad=>False
inductive sM (K:ao) (cls:Nat->Addr) (E:XK) (f:SM) (D:Ends) (σ:St) (H:Hp):Prop
 |mk (aC:Hp) (A₀:List Addr) (ρ:aa) (S:gg K aC A₀ ρ σ H) (q:jM K cls E aC A₀ (f ρ) D):sM K cls E f D σ H
noncomputable abbrev Sv (X:Cx)(cls:Nat->Addr)(E:XK)(st:Stmt)(f:SM):Prop:=PS X st (sM X.K cls E f)
noncomputable abbrev Bv (X:Cx)(cls:Nat->Addr)(E:XK)(st:List Stmt)(f:SM):Prop:=fj X st (sM X.K cls E f)
theorem PS.imp {X:Cx}{e:Stmt}{t t':TS}(h:PS X e t')(i:∀D σ H,t D σ H->t' D σ H):PS X e t:=λpins s σ H D I hw=>h pins s σ H D I (i D σ H hw)
theorem fj.imp {X:Cx}{e:List Stmt}{t t':TS}(h:fj X e t')(i:∀D σ H,t D σ H->t' D σ H):fj X e t:=λpins s σ H D I hw=>h pins s σ H D I (i D σ H hw)
theorem PS.jx {X:Cx}{st:Stmt}{t:TS}(h:PS X.jx st t):PS X st t:=λpins s σ H D I hw=>
 wpAny_mono (h pins s σ H D (I.iR _) hw) (λ_ _ q=>q.jo) λ_ _ z=>jX z
section
variable {K:ao}{cls:Nat->Addr}{E:XK}{aC:Hp}{A₀:List Addr}{ρ:aa}{σ:St}{H:Hp}{D:Ends}
theorem Ot {H:Hp}{A B:List Addr}:az (ar H (A++B)) (ar H B):=λb o e=>by
 obtain⟨h1,h2⟩:=gZ e;rw [di λz=>h1 (d6 _ z)];exact h2
theorem px {m:M Dt}{k:Dt->M Fl}{os:List Addr}{Q:VK}(s0:az aC H)(h:jM K cls E aC A₀ (m.bd k) D)
  (f:∀d v H',m=.ok d->jM K cls E aC A₀ (k d) D->az H H'->Rep K (ar H' (os++A₀)) d v->sm d->Q v H'):Res K cls (os++A₀) E m H Q:=by
 cases m with
 |ok d=>exact λv H' s r z=>f d v H' rfl h s r z
 |ex c=>exact λH' s=>h H' (s0.trans s)
 |bad=>exact h
theorem W2 {m:M Bool}{k:Bool->M Fl}{Q:Bool->Hp->Prop}(s0:az aC H)(h:jM K cls E aC A₀ (m.bd k) D)
  (f:∀d H',m=.ok d->jM K cls E aC A₀ (k d) D->az H H'->Q d H'):oy cls E m H Q:=by
 cases m with
 |ok d=>exact λH' s=>f d H' rfl h s
 |ex c=>exact λH' s=>h H' (s0.trans s)
 |bad=>exact h
end
section
variable {X:Cx}{cls:Nat->Addr}{E:XK}{a b c:Expr}{f g h:aa->M Dt}{pos:Pos}{st:Stmt}{rest:List Stmt}{s t:SM}
theorem fM:Bv X cls E [] eN:=Eh.imp λD σ H ⟨aC,A₀,ρ,S,q⟩=>q σ H S
theorem Uo {D:Ends}{σ:St}{H:Hp}(q:sM X.K cls E (aU s t) D σ H):J9 (sM X.K cls E s) (sM X.K cls E t) D σ H:=by
 obtain⟨aC,A₀,ρ,S,q⟩:=q;refine⟨aC,A₀,ρ,S,?_⟩;unfold aU at q
 cases hm:s ρ with
 |ok fl=>
  rw [hm] at q
  cases fl with
  |nx aW=>exact λaD H' S'=>⟨aC,A₀,aW,S',q⟩
  |bk aW=>exact q
  |ct aW=>exact q
  |rt d=>exact q
 |ex c=>rw [hm] at q; exact q
 |bad=>rw [hm] at q; exact q
theorem aZ (h1:Sv X cls E st s)(h2:Bv X cls E rest t):Bv X cls E (st::rest) (aU s t):=(nQ h1 h2).imp λD σ H q=>Uo q
theorem a8 (h1:Sv X cls E st s):Bv X cls E [st] s:=sF h1
theorem GY {os A₀:List Addr}{p:Addr->Bool}:∀b,b∈os.filter p++A₀->b∈os++A₀:=λb z=>by
 rcases eJ.mp z with z | z
 ·exact gq _ (oS.mp z).1
 ·exact d6 _ z
theorem cJ.let {K:ao}{aC:Hp}{A₀ os:List Addr}{ρ:aa}{σ:St}{H H':Hp}{i:Nat}{a:Addr}{b:Bd}{d:Dt}(S:cJ K aC A₀ os ρ σ H)(hi:ρ[i]?=some b)(hv:σ[i]?=some (some (.ref a)))(ho:g7 b=true)(hf:cN H (.ref a) b=[a])
  (hH:∀x,x≠a->H' x=H x) (ha:H' a≠none) (r:∀B,a∉B->(∀x,x∈B->x∈os++A₀)->Rep K (ar H' B) d (.ref a)) (z:sm d):gg K aC A₀ (ρ.set i (.val d)) σ H':=by
 obtain⟨s0,L0,fr,F⟩:=S;obtain⟨v,h1,h2,h3⟩:=F.ow i b hi ho;rw [hv] at h1;cases h1;have AQ:a∈os:=h3 a (by rw [hf]; exact bu);have haA:a∉A₀:=λz=>L0 a z (fr a AQ);have AM:mU ρ σ H i=[a]:=by rw [O0 hi hv ho]; exact hf
 refine⟨os.filter λb=>decide (b≠a),λb o e=>?_,L0,λb hb=>fr b (oS.mp hb).1,?_⟩
 ·rw [hH b (cZ e (fr a AQ))]
  exact s0 b o e
 ·have F2:=F.set (i:=i) (v':=.ref a) (b':=.val d) (O':=os.filter λb=>decide (b≠a)) (A':=(os.filter λb=>decide (b≠a))++A₀) (H':=H') (λb hb=>?_) (λb hb=>gq _ hb) (λb o e=>?_) (λb hb hn=>?_) (λb hb hn=>⟨?_,λz=>hn (oS.mp z).1,hH b λz=>hn (z ▸ AQ)⟩) (.inl ⟨d,rfl,r _ ?_ GY,z⟩)
  ·rwa [set_same hv] at F2
  ·by_cases hz:b=a
   ·rw [hz]; exact ha
   ·rw [hH b hz]; exact F.cB b (GY b hb)
  ·obtain⟨e1,e2⟩:=gZ e
   have AO:b≠a:=λz=>e1 (by rw [z]; exact gq _ AQ);rw [di λz=>e1 (GY b z),hH b AO];exact e2
  ·rw [AM] at hn
   have AO:b≠a:=by simpa using hn
   exact⟨oS.mpr ⟨hb,by simpa using AO⟩,hH b AO⟩
  ·rcases eJ.mp hb with z | z
   ·exact(hn z).elim
   ·exact d6 _ z
  ·intro z
   rcases eJ.mp z with z | z
   ·simp at z
   ·exact haA z
theorem gg.rel {K:ao}{aC:Hp}{A₀:List Addr}{ρ:aa}{σ:St}{H:Hp}(S:gg K aC A₀ ρ σ H)(i:Nat)(lH:∀ks,ρ[i]?≠some (.bP ks)):gg K aC A₀ (L2.rel i ρ) σ H:=by
 unfold L2.rel pA
 split
 ·rename_i ds hd
  obtain⟨os,S⟩:=S;obtain⟨a,xs,h1,h2,h3,h4,h5,h6⟩:=S.2.2.2.own i ds hd;refine S.let hd h1 rfl rfl (λ_ _=>rfl) (by rw [h3]; simp) (λB hB hs=>su (by rw [di hB]; exact h3) (h4.mono λb o e=>?_)) ⟨h6,h5⟩
  obtain⟨e1,e2⟩:=gZ e;rw [di λz=>e1 (hs b z)];exact e2
 ·rename_i ks hd
  exact(lH ks hd).elim
 ·exact S
theorem Inv.freeze {X:Cx}{pins:List (Addr×Obj)}{σ:St}{H:Hp}{s:Shared}{a:Addr}{kvs:List (Key×V)}(I:Inv X pins σ H s)(h:H a=some (.dK kvs)):∃o,Inv X pins σ (upd H a (.bG o (.dK kvs))) s:=by
 have ok:=I.au a _ h;obtain⟨z,na,vs,r,o,es,ep,g,x⟩:=id ok;refine⟨o,?_⟩;have:=I.write (x:=a) (e:=a) (o:=.bG o (.dK kvs)) (h':=s.heap) (t':=s.toks) (by rw [h]; exact oM) (.inl rfl) (λ_ _ _ q=>q) ⟨o,g⟩ ⟨g,z,na,vs,r,o,es,ep,g,x⟩;exact this
theorem gg.W9 {K:ao}{aC:Hp}{A₀:List Addr}{ρ:aa}{σ:St}{H:Hp}{i:Nat}{ds:List (List Nat×List Nat)}(S:gg K aC A₀ ρ σ H)(hd:ρ[i]?=some (.bP ds)) :
  ∃a,H a=some (.dK (aJ ds))/\∀o,gg K aC A₀ (ρ.set i (.val (.af ds))) σ (upd H a (.bG o (.dK (aJ ds)))):=by
 obtain⟨os,S⟩:=S;obtain⟨a,h1,h2,h3,h4⟩:=S.2.2.2.bP i ds hd;exact⟨a,h3,λob=>S.let hd h1 rfl rfl (λ_ hx=>ba hx) (by rw [bY]; simp) (λB hB _=>vN (o:=ob) (by rw [di hB]; exact bY)) h4⟩
theorem xH (i:Nat)(h:Bv X cls E rest s):Bv X cls E rest (nM i s):=λpins sh σ H D I h_=>by
 obtain⟨aC,A₀,ρ,S,q⟩:=h_
 by_cases hz:∃ks,ρ[i]?=some (.bP ks)
 ·obtain⟨ks,hk⟩:=hz
  obtain⟨a,h1,h2⟩:=S.W9 hk;obtain⟨o,I'⟩:=I.freeze h1;refine h pins sh σ _ D I' ⟨aC,A₀,_,h2 o,?_⟩;unfold nM L2.rel pA at q;rw [hk] at q;exact q
 ·exact h pins sh σ H D I ⟨aC,A₀,L2.rel i ρ,S.rel i (λks e=>hz ⟨ks,e⟩),q⟩
theorem bS (he:Ev X cls E a f):Sv X cls E (.Return (some a) pos) (bN f):=(vP he).imp λD σ H ⟨aC,A₀,ρ,⟨os,s0,L0,fr,F⟩,q⟩=>
 ⟨os,os++A₀,ρ,F,px s0 q λd v H' _ q1 s' r z=>q1 v H' (s0.trans s') (r.mono Ot) z⟩
theorem De (he:Ev X cls E a f)(hs:swapsWith a none pos.line X.env=pure false:=by rfl):Sv X cls E (.Expr a pos) (vH f):=(Ej he hs).imp λD σ H ⟨aC,A₀,ρ,⟨os,s0,L0,fr,F⟩,q⟩=>
 ⟨os,os++A₀,ρ,F,px s0 q λd v H' _ q1 s' r z=>q1 σ H' ⟨os,s0.trans s',L0,fr,F.mono s'⟩⟩
theorem C4 {i:Nat}{te:TE}(ht:∀σ H Q,tM X.K cls E f σ H Q->te σ H Q){D:Ends}{σ:St}{H:Hp}(q:sM X.K cls E (bU f (aw i)) D σ H):zj te (tK i) D σ H:=by
 obtain⟨aC,A₀,ρ,⟨os,s0,L0,fr,F⟩,q⟩:=q;refine ht σ H _ ⟨os,os++A₀,ρ,F,px s0 q λd v H' _ q1 s' r z=>?_⟩;exact q1 _ H' ⟨os,s0.trans s',L0,fr,(F.mono s').put i r z⟩
theorem cS {i:Nat}{x:Str}{pos':Pos}(hN:X.N.Nodup)(hi:X.N[i]?=some x)(hx:Loc X.env.scope x)(he:Ev X cls E a f)(hs:swapsWith a (some (.Name x pos')) pos.line X.env=pure false:=by rfl)
  (hf:X.fn x=true∨X.env.scope.names.lookup x=some .local:=by first | exact .inl rfl | exact .inr rfl | assumption):Sv X cls E (.Assign [.Name x pos'] a pos) (bU f (aw i)):=(nR hN hi hx he hs hf).imp λD σ H q=>C4 (λ_ _ _ z=>z) q
theorem Kj {i:Nat}{x:Str}{pos' jr:Pos}{scope:Scope}{N:List Str}{k:Nat}{fr:List Nat}{tg iter elt:Expr}{ifs:List Expr}{ι:IM}{g:GM}{tc:aa->M Bool}{te:aa->M Dt}(hk:GK k g)(hc:X.calm=true)(S:eG X scope N k fr)(hi:Iv X cls E tg iter ι)
  (hg:∀pins fp s H,PG (bL X scope N pins fp s H) tg (gM X.K g)) (ht:∀pins fp s H,jg (bL X scope N pins fp s H) ifs (dW X.K cls E0 tc))
  (he:∀pins fp s H,PE (bL X scope N pins fp s H) elt (tM X.K cls E0 te)) (hN:X.N.Nodup) (qb:X.N[i]?=some x) (hx:X.env.scope.names.lookup x=some .local)
  (mI:swapsWith (.ListComp elt [⟨tg,iter,ifs,0⟩] scope pos) (some (.Name x pos')) jr.line X.env=pure true:=by rfl)
  (hs:∀x,foldedSetIterable iter X.env x=pure x:=by intro _; rfl):Sv X cls E (.Assign [.Name x pos'] (.ListComp elt [⟨tg,iter,ifs,0⟩] scope pos) jr) (bU (dg k fr ι g tc te) (aw i)):=
 (XE hc S hi hg ht he hN qb hx mI hs).imp λD σ H q=>C4 (J5 hk) q
theorem e8 {F G:SM}{tc:aa->M Bool}{sa sb:List Stmt}(hc:Tv X cls E c tc)(ha:Bv X cls E sa F)(hb:Bv X cls E sb G):Sv X cls E (.If c sa sb pos) (d8 tc F G):=(Ei hc ha hb).imp λD σ H ⟨aC,A₀,ρ,⟨os,s0,L0,fr,Ft⟩,q⟩=>
 ⟨os,os++A₀,ρ,Ft,W2 s0 q λb H' _ q1 s'=>by
  have S':gg X.K aC A₀ ρ σ H':=⟨os,s0.trans s',L0,fr,Ft.mono s'⟩
  cases b with
  |false=>
   simp only [cF,if_false] at q1 ⊢;exact⟨aC,A₀,ρ,S',q1⟩
  |true=>
   simp only [if_true] at q1 ⊢;exact⟨aC,A₀,ρ,S',q1⟩⟩
theorem UY {st:Stmt}(h:Sv X.jx cls E0 st s):Sv X cls E st (λρ=>(s ρ).calm):=(PS.jx h).imp λD σ H ⟨aC,A₀,ρ,S,q⟩=>⟨aC,A₀,ρ,S,by
 have q:jM X.K cls E aC A₀ (s ρ).calm D:=q
 cases hm:s ρ with
 |ok fl=>rw [hm] at q; cases fl <;> exact q
 |ex c=>rw [hm] at q; exact zF q
 |bad=>rw [hm] at q; exact zF q⟩
noncomputable abbrev Uv (X:Cx)(cls:Nat->Addr)(E:XK)(e:Expr)(f:aa->M Unit):Prop:=PE X e (Kd X.K cls E f)
theorem Tq (h:Ev X cls E a f):Uv X cls E a (CV f):=PE.imp h λσ H Q ⟨O,A,ρ,F,q⟩=>⟨O,A,ρ,F,Rg.bind q λd _ q1 v H' s' _ _=>q1 v H' s'⟩
theorem Tr {x y:Str}{j p p' j2 p2}(h:Ev X cls E a f)(hx:x.length<=1000:=by decide +kernel)(hy:y.length<=1000:=by decide +kernel):Uv X cls E (.JoinedStr [.Constant (.str x) j p,.FormattedValue a (-1) none p',.Constant (.str y) j2 p2] pos) (CY f):=
 (Ye (zR (x:=x)) (Yh h) (zR (x:=y))).imp λσ H Q ⟨O,A,ρ,F,q⟩=>by
 refine⟨_,rfl,hx,O,A,ρ,F,Rg.bind q λd _ q1=>?_⟩;intro v H' s' r z
 cases d with
 |int i=>
  simp only [y4] at q1
  split at q1
  ·rename_i hi
   obtain⟨i1,i2⟩:=NX hi.1 hi.2;exact⟨i,dB r,i2,_,rfl,i1,_,rfl,hy,λz=>q1 _ H' s'⟩
  ·exact zF q1
 |_=>exact zF q1
theorem Dc {x:Str}{np ij:Pos}{cn:Nat}{fu:aa->M Unit}(hc:X.calm=true)(R:Rz X E)(hg:Gl X x)(hm:X.mg x=some (.ref (cls cn)))(hK:excIn X.K (cls cn) kS "ValueError.__new__" = true)(he:Uv X cls E a fu)(bB:isStar a=false:=by rfl)
  (hd:(x==("__debug__" : Str))=false:=by decide):Sv X cls E (.Raise (some (.Call (.Name x np) [a] [] ij)) none pos) (so cn fu):=(XF hc R hg hm hK he bB hd).imp λD σ H ⟨aC,A₀,ρ,⟨os,s0,L0,fr,F⟩,q⟩=>by
 refine⟨os,os++A₀,ρ,F,?_⟩;unfold so at q
 cases fc:fu ρ with
 |ok u=>
  rw [fc] at q;exact λv H' s'=>q H' (s0.trans s')
 |ex c=>rw [fc] at q; exact λH' s'=>q H' (s0.trans s')
 |bad=>rw [fc] at q; exact q
theorem cJ.weak {K:ao}{aC R0:Hp}{A₀ os:List Addr}{ρ:aa}{σ:St}{H:Hp}(h:cJ K R0 A₀ os ρ σ H)(s:az aC R0)(L:cV aC A₀):cJ K aC A₀ os ρ σ H:=by
 refine⟨s.trans h.1,L,λa ha=>?_,h.2.2.2⟩
 cases q:aC a with
 |none=>rfl
 |some o=>
  have e:=s a o q;rw [h.2.2.1 a ha] at e;exact nomatch e
theorem Ur {ι:IM}{g:GM}{D:Ends}{σ:St}{H:Hp}(q:sM X.K cls E0 (D9 ι g s) D σ H):C7 (iM X.K cls E0 ι) (gM X.K g) (sM X.K cls E0 s) D σ H:=by
 obtain⟨aC,A₀,ρ,⟨os,s0,L0,fr,F⟩,q⟩:=q;refine⟨os,os++A₀,ρ,F,?_⟩;unfold D9 at q
 cases hm:ι ρ with
 |ex c=>rw [hm] at q; exact λH' s'=>q H' (s0.trans s')
 |bad=>rw [hm] at q; exact q
 |ok ds=>
  rw [hm] at q;simp only [bt] at q;intro J H1 s1 hJ;have sI:az aC (ar H1 os):=λb o e=>by
   rw [di λz=>by rw [fr b z] at e; cases e];exact s1 b o (s0 b o e)
  have L1:cV (ar H1 os) A₀:=L0.mono sI;have sJ:∀{H2},az (ar H1 os) H2->az (ar H1 (os++A₀)) H2:=λs2 b o e=>by
   obtain⟨e1,e2⟩:=gZ e;refine s2 b o ?_;rw [di λz=>e1 (gq _ z)];exact e2
  refine⟨λi m aD H'=>i<=ds.length/\m=ds.length - i/\∃aW,gg X.K (ar H1 os) A₀ aW aD H'/\jM X.K cls E0 aC A₀ (d3 g s (ds.drop i) aW) D,
   ⟨ds.length,fP _,rfl,ρ,⟨os,bw,L1,λa ha=>F7 ha,F.mono s1⟩,q⟩,?_⟩
  rintro i m aD H' ⟨hi,rfl,aW,⟨gD,s',L',kn,F'⟩,q'⟩
  by_cases aF:i<ds.length
  ·refine .inr ⟨hJ.go i H' aF (sJ s'),λcW H2=>i+1<=ds.length/\∃fO,gg X.K (ar H1 os) A₀ fO cW H2/\jM X.K cls E0 aC A₀ (d3 g s (ds.drop (i+1)) fO) D,λcW H2 ⟨h1,h2⟩=>⟨ds.length - (i+1),by omega,h1,rfl,h2⟩,λx H2 y=>?_⟩
   have sA:az (ar H1 (os++A₀)) (ar H' (gD++A₀)):=λb o e=>by
    obtain⟨e1,e2⟩:=gZ e;have e3:ar H1 os b=some o:=by rw [di λz=>e1 (gq _ z)]; exact e2
    rw [di]
    ·exact s' b o e3
    ·intro z
     rcases eJ.mp z with z | z
     ·rw [kn b z] at e3; cases e3
     ·exact e1 (d6 _ z)
   obtain⟨sy,d,hd,rd⟩:=hJ.yl i H' x H2 (gD++A₀) aF F'.cB sA y;have qg:ds.drop i=d::ds.drop (i+1):=by
    rw [oJ aF]
    congr 1
    have:=iq aF;rw [hd] at this;exact(gn this).symm
   rw [qg] at q';simp only [d3] at q'
   cases hg:g d aW with
   |ex c=>rw [hg] at q'; exact zF q'
   |bad=>rw [hg] at q'; exact zF q'
   |ok aP=>
    rw [hg] at q';simp only [gK,bt] at q';refine⟨gD,gD++A₀,aW,d,F'.mono sy,rd,iy hJ.small (jV hd),aP,hg,λcW F2=>?_⟩;refine⟨ar H1 os,A₀,aP,⟨gD,s'.trans sy,L',kn,F2⟩,?_⟩
    cases hs:s aP with
    |ex c=>rw [hs] at q'; exact zF q'
    |bad=>rw [hs] at q'; exact zF q'
    |ok fl=>
     rw [hs] at q';simp only [gK,bt] at q'
     cases fl with
     |nx fO=>exact λeW H3 S3=>⟨aF,fO,S3,q'⟩
     |ct fO=>exact λeW H3 S3=>⟨aF,fO,S3,q'⟩
     |bk fO=>exact λeW H3 ⟨EB,S3⟩=>q' eW H3 ⟨EB,S3.weak sI L0⟩
     |rt d=>exact λv H3 s3 r z=>q' v H3 (sI.trans s3) r z
  ·have e:i=ds.length:=by omega
   subst e;rw [qZ] at q';exact .inl ⟨hJ.stop H' (sJ s'),q' aD H' ⟨gD,cJ.weak ⟨s',L',kn,F'⟩ sI L0⟩⟩
theorem o4 {iter tg:Expr}{body:List Stmt}{ι:IM}{g:GM}(hc:X.calm=true)(hi:Iv X.jx cls E0 tg iter ι)(hg:PG X.jx tg (gM X.K g))(hb:Bv X.jx cls E0 body s)
  (hs:∀x,foldedSetIterable iter X.env x=pure x:=by intro _; rfl):Sv X cls E (.For tg iter body [] pos) (lg ι g s):=
 UY (X:=X) ((LJ (X:=X.jx) PassesOwn.never hc hi hg hb hs).imp λD σ H q=>Ur q)
theorem adI {K:ao}{A:List Addr}{ds:List Dt}{vs:List V}{H:Hp}(L:cV H A)(r:aq K (ar H A) ds vs)(z:bj ds)(n:Nat):bC K [] A (ds.map Bd.val++bM n .no) (vs.map some++bM n none) H:=by
 have hl:=r.length;have key:∀(i:Nat) b,(ds.map Bd.val++bM n .no)[i]?=some b->b=.no∨∃d,b=.val d/\ds[i]?=some d:=λi b h=>by
  by_cases hi:i<ds.length
  ·rw [uJ (by simpa using hi)] at h
   simp only [gR,gr] at h;obtain⟨d,h1,h2⟩:=h;exact .inr ⟨d,h2.symm,h1⟩
  ·rw [uK (by simp; omega)] at h
   exact .inl (List.eq_of_mem_replicate (jV h))
 have no:∀{i b},(ds.map Bd.val++bM n .no)[i]?=some b->g7 b=true->False:=λ{i b} h o=>by
  rcases key i b h with e | ⟨d',e,hd⟩ <;> rw [e] at o <;> cases o
 refine⟨by simp [hl],L,(λa z=>nomatch z),λi d h=>?_,λi b h o=>(no h o).elim,λi j b c v w _ h _ o=>(no h o).elim,λi p x y h=>?_⟩
 ·rcases key i _ h with e | ⟨d',e,hd⟩
  ·cases e
  ·cases e
   have hi:i<ds.length:=(cP.mp hd).1;have hx:vs[i]?=some (vs[i]'(by omega)):=by simp
   obtain⟨d2,h1,h2⟩:=r.get hx;rw [hd] at h1;cases h1;refine⟨_,?_,h2,iy z (jV hd)⟩;rw [uJ (by simp; omega)];simp
 ·rcases key i _ h with e | ⟨d',e,hd⟩ <;> cases e
end
section
variable {P:Program}{w:World}{K:ao}{mg:Str->Option Value}{base:Heap}{cls:Nat->Addr}
theorem A2 {x qual:Str}{st:Stmt}{f:Addr}{fd:FuncData}{N ps:List Str}{k np n:Nat}{b:SM}(F:lZ K x qual st f fd)(S:cD N ps (aV st))(hp:ps.length=np)(hn:N.length=np+n)
  (mQ:∀(aR:Value) (A:Around) (outer:List Env) (s:Shared) (H:Hp) (E:XK),dF k (A.deeper (envOfC qual (aV st) s.heap.objs.size f aR))->
   Rz (cO (bD P w) P w K mg base N qual (aV st) f aR A outer s H E) E->Bv (cO (bD P w) P w K mg base N qual (aV st) f aR A outer s H E) cls E (fL st) b) (hf:ps=[dZ]->(aV st).names.lookup dZ=some .local:=by first | assumption | decide +kernel) :
  fN P w K mg base (bD P w) (k+1) f fd ps (k8 K cls (cu np n b)):=by
 have len:∀vs H Q E,k8 K cls (cu np n b) vs H Q E->vs.length=np:=λvs H Q E h_=>by
  obtain⟨A,ds,L,r,z,q⟩:=h_;unfold cu at q
  split at q
  ·rename_i hl
   rw [← r.length];exact hl
  ·exact zF q
 refine F.Zl S (λvs H Q E h=>by rw [hp]; exact len vs H Q E h) λaR A outer s H vs Q E hr h R=>?_;have hv:=len vs H Q E h;refine⟨_,mQ aR A outer s H E hr R,?_⟩;obtain⟨B,ds,L,r,z,q⟩:=h;refine⟨H,B,ds.map Bd.val++bM n .no,⟨[],.refl _,L,(λa z=>nomatch z),?_⟩,?_⟩
 ·have e:start N vs=vs.map some++bM n none:=by
   unfold start;rw [hn,hv,Nat.add_sub_cancel_left]
  rw [e];exact adI L r z n
 ·unfold cu at q
  split at q
  ·cases hm:b (ds.map Bd.val++bM n .no) with
   |ok fl=>
    rw [hm] at q
    cases fl with
    |nx ρ=>exact λσ H' ⟨os,s',_,_,_⟩=>q .ax H' s' zN trivial
    |rt d=>exact λv H' s' r' z'=>q v H' s' r' z'
    |bk ρ=>exact zF q
    |ct ρ=>exact zF q
   |ex c=>rw [hm] at q; exact q
   |bad=>rw [hm] at q; exact q
  ·exact zF q
theorem aaK {f:Addr}{fd:FuncData}{k:Nat}{x:Str}{G:List Dt->M Dt}(h:fN P w K mg base (bD P w) k f fd [x] (k8 K cls G))(hG:∀ns:List Int,ns.length<=63->G [.lst (ns.map Dt.int)]=.ok (.bl true)):fN P w K mg base (bD P w) k f fd [x] (vD K):=by
 refine h.imp ?_;intro vs H Q E ⟨a,ns,e,hS,q⟩;subst e;refine⟨[],[.lst (ns.map Dt.int)],(λa z=>nomatch z),.cons (W3 ?_) .nil,⟨⟨by simpa using (show ns.length<=10000 by have:=hS.2; omega),js λd hd=>?_⟩,trivial⟩,?_⟩
 ·have e:ar H []=H:=by funext b; unfold ar; simp
  rw [e];exact hS.1
 ·obtain⟨n,_,rfl⟩:=aX.mp hd
  trivial
 ·rw [hG ns hS.2]
  intro v H' _ r _;simp only [Rep] at r;rw [r];exact q H'
end
theorem fV {P:Program}{w:World}{X:Cx}:Passes (bD P w) X E0:=λpins σ H s e s' I hc=>by
 obtain⟨ea,C,H',B,a0,_,_,_,_,_,_,_,_,_,hE⟩:=hc;exact hE.elim
section
variable {X:Cx}{cls:Nat->Addr}{E:XK}{a b c:Expr}{f g h:aa->M Dt}{pos:Pos}{st:Stmt}{rest:List Stmt}{s t:SM}{fs:aa->M (List Dt)}{es:List Expr}
theorem cJ.anew {K:ao}{aC:Hp}{A₀ os:List Addr}{ρ:aa}{σ:St}{H:Hp}{i:Nat}{p:Addr}{o:HO}{b:Bd}(S:cJ K aC A₀ os ρ σ H)(hp:H p=none)(hf:cN (upd H p o) (.ref p) b=[p])
  (w:∀B,az (ar H (os++A₀)) (ar (upd H p o) B)->jh K B (upd H p o) (.ref p) b):cJ K aC A₀ (p::os) (ρ.set i b) (σ.set i (some (.ref p))) (upd H p o):=by
 obtain⟨s0,L0,fr,F⟩:=S;have AD:p∉os++A₀:=F.cB.fresh hp;have s2:az H (upd H p o):=.upd hp;have sh:az (ar H (os++A₀)) (ar (upd H p o) ((p::os)++A₀)):=λb o' e=>by
  obtain⟨e1,e2⟩:=gZ e;have hb:b∉(p::os)++A₀:=λz=>(aO.mp z).elim (cZ e2 hp) e1;rw [di hb];exact s2 b o' e2
 refine⟨s0.trans s2,L0,λa ha=>?_,F.set (λa ha=>?_) (λa ha=>gq _ ha) sh (λa ha _=>⟨bR _ ha,ba λz=>AD (z ▸ gq _ ha)⟩) (λa ha hn=>⟨bR _ ha,λz=>(aO.mp z).elim (λy=>AD (y ▸ ha)) hn,ba λz=>AD (z ▸ ha)⟩) (.inr ⟨w _ sh,λa ha=>?_⟩)⟩
 ·rcases aO.mp ha with z | z
  ·subst z
   cases e:aC a with
   |none=>rfl
   |some q=>have:=s0 a q e; rw [hp] at this; cases this
  ·exact fr a z
 ·rcases aO.mp ha with z | z
  ·subst z; rw [bY]; simp
  ·exact(F.cB.mono s2) a z
 ·rw [hf] at ha
  obtain rfl:a=p:=by simpa using ha
  exact⟨bu,.inl λz=>AD (gq _ z)⟩
theorem cJ.fresh {K:ao}{aC:Hp}{A₀ os:List Addr}{ρ:aa}{σ:St}{H:Hp}{i:Nat}{ds:List Dt}{vs:List V}{p:Addr}(S:cJ K aC A₀ os ρ σ H)(hp:H p=none)(r:aq K (ar H (os++A₀)) ds vs)(z:bj ds)(hl:ds.length<=10000) :
  cJ K aC A₀ (p::os) (ρ.set i (.own ds)) (σ.set i (some (.ref p))) (upd H p (.lst vs)):=S.anew hp rfl λB s=>⟨p,vs,rfl,bY,r.mono s,z,hl⟩
theorem cJ.turn {K:ao}{aC:Hp}{A₀ os:List Addr}{ρ:aa}{σ:St}{H:Hp}{i:Nat}{p:Addr}{o:HO}{b b':Bd}(S:cJ K aC A₀ os ρ σ H)(hi:ρ[i]?=some b)(hp:σ[i]?=some (some (.ref p)))(ho:g7 b=true)(hf:cN H (.ref p) b=[p])(hf':cN (upd H p o) (.ref p) b'=[p])
  (w:ar (upd H p o) (os++A₀)=ar H (os++A₀)->jh K (os++A₀) (upd H p o) (.ref p) b'):cJ K aC A₀ os (ρ.set i b') σ (upd H p o):=by
 obtain⟨s0,L0,fr,F⟩:=S;obtain⟨v,h1,h2,h3⟩:=F.ow i b hi ho;rw [hp] at h1;cases h1;have ib:p∈os:=h3 p (by rw [hf]; exact bu);have e:=wW (H:=H) (o:=o) (gq A₀ ib);have AM:mU ρ σ H i=[p]:=by rw [O0 hi hp ho]; exact hf
 refine⟨λb o q=>?_,L0,fr,?_⟩
 ·rw [ba (cZ q (fr p ib))]
  exact s0 b o q
 ·have F2:=F.set (i:=i) (v':=.ref p) (b':=b') (O':=os) (A':=os++A₀) (H':=upd H p o) (λa ha=>?_) F.sub (by rw [e]; exact .refl _) (λa ha hn=>⟨ha,ba λz=>hn (by rw [AM,z]; exact bu)⟩) (λa ha hn=>⟨ha,hn,ba λz=>hn (z ▸ ib)⟩) (.inr ⟨w e,λa ha=>?_⟩)
  ·rwa [set_same hp] at F2
  ·by_cases hz:a=p
   ·rw [hz,bY]; simp
   ·rw [ba hz]; exact F.cB a ha
  ·rw [hf'] at ha
   obtain rfl:a=p:=by simpa using ha
   exact⟨ib,.inr (by rw [AM]; exact bu)⟩
theorem cJ.grow {K:ao}{aC:Hp}{A₀ os:List Addr}{ρ:aa}{σ:St}{H:Hp}{i:Nat}{ds ns:List Dt}{p:Addr}{ys:List V}(S:cJ K aC A₀ os ρ σ H)(hi:ρ[i]?=some (.own ds))(hp:σ[i]?=some (some (.ref p)))
  (r:aq K (ar H (os++A₀)) ns ys) (z:bj ns) (zl:ns.length<=10000):cJ K aC A₀ os (ρ.set i (.own ns)) σ (upd H p (.lst ys)):=
 S.turn hi hp rfl rfl rfl λe=>⟨p,ys,rfl,bY,by rw [e]; exact r,z,zl⟩
theorem UX {i:Nat}{x:Str}{pos' lp:Pos}(hN:X.N.Nodup)(hi:X.N[i]?=some x)(hx:Loc X.env.scope x)(he:Av X cls E es fs)(hs:swapsWith (.List es lp) (some (.Name x pos')) pos.line X.env=pure false:=by rfl)
  (hf:X.fn x=true∨X.env.scope.names.lookup x=some .local:=by first | exact .inl rfl | exact .inr rfl | assumption):Sv X cls E (.Assign [.Name x pos'] (.List es lp) pos) (zE i fs):=(nR hN hi hx (vS he) hs hf).imp λD σ H ⟨aC,A₀,ρ,⟨os,s0,L0,fr,F⟩,q⟩=>by
 refine⟨os,os++A₀,ρ,F,?_⟩;unfold zE at q
 cases hm:fs ρ with
 |ex c=>rw [hm] at q; exact λH' s'=>q H' (s0.trans s')
 |bad=>rw [hm] at q; exact q
 |ok ds=>
  rw [hm] at q;simp only [bt] at q;intro vs H' s' r z
  split at q
  ·rename_i hl
   have hlen:=r.length;refine⟨nK (by omega),λp hp=>q _ _ ?_⟩;exact⟨p::os,cJ.fresh ⟨s0.trans s',L0,fr,F.mono s'⟩ hp r z hl⟩
  ·exact q.elim
theorem cJ.mono {K:ao}{aC:Hp}{A₀ os:List Addr}{ρ:aa}{σ:St}{H H':Hp}(S:cJ K aC A₀ os ρ σ H)(s:az H H'):cJ K aC A₀ os ρ σ H':=⟨S.1.trans s,S.2.1,S.2.2.1,S.2.2.2.mono s⟩
end
section
variable {X:Cx}{cls:Nat->Addr}{E:XK}{a b c:Expr}{f g h:aa->M Dt}{pos:Pos}{fs:aa->M (List Dt)}{es:List Expr}
theorem ad2 {x:Str}{j p apos}(ha:Av X cls E [a] fs)(bB:isStar a=false)(hx:x=⟨([]:List Nat).toArray⟩:=by decide +kernel)(g9:(apos.endLine==pos.line)=true:=by rfl):Ev X cls E (.Call (.Attribute (.Constant (.str x) j p) "join" apos) [a] [] pos) (nU sS (pC (.str [])) fs):=by
 have hs:starEach [a] X.env=(false,eval a X.env)::starEach [] X.env:=gS bB;exact PM PySem.F.plainAttrs_str PySem.F.slot_str_join PySem.F.type_str_join aaf (bK (l:=[]) hx) ha rfl (by rw [hs]; rfl) g9 hs rfl
theorem PK {o:Expr}{apos}(ho:Ev X cls E o f)(ha:Av X cls E [a] fs)(bB:isStar a=false)(i6:attributeBase o "count" X.env (eval o X.env)=eval o X.env:=by rfl)(g9:(apos.endLine==pos.line)=true:=by rfl):Ev X cls E (.Call (.Attribute o "count" apos) [a] [] pos) (nU pL f fs):=by
 have hs:starEach [a] X.env=(false,eval a X.env)::starEach [] X.env:=gS bB;exact PM PySem.F.plainAttrs_str PySem.F.slot_str_count PySem.F.type_str_count aag ho ha i6 (by rw [hs]; rfl) g9 hs rfl
end
noncomputable abbrev fo (h:Heap)(T:Addr)(xs:Array Value):Prop:=h.get? T=some {cls:=.type "tuple",data:=.seq xs}
theorem CP {prog:Program}{w:World}{A:Around}{E:Value->Shared->Prop}{s:Shared}{T:Addr}{xs:Array Value}{x:Value}{k:Nat}{Q:Unit->Shared->Prop}(hT:fo s.heap T xs)
  (h:∀h',fo h' T (xs.setIfInBounds k x)->fQ T s.heap h'->Q () {s with heap:=h'}) (hx:xs.size<=100:=by simp) :
  wpAny (model prog w) A (updateSeq T (·.setIfInBounds k x)) Q E s:=by
 refine wpAny_updateSeq hT rfl (h _ ?_ (rm ..)) (hz:=bH hx (by decide)) (_hz':=by rw [Array.size_setIfInBounds]; exact bH hx (by decide));show Heap.get? _ _=_;rw [ma _ hT rfl];simp [me]
structure Bw (z TI TO i1 i2:Addr) (f1:List Addr) (f2:List Addr):Prop where
 TIz:TI≠z
 TOz:TO≠z
 TITO:TI≠TO
 z1:i1≠z
 TI1:TI≠i1
 Rv:TO≠i1
 GN:z∉f1
 G0:TO∉f1
 i12:i1≠i2
 f12:i2∉f1
 z2:i2≠z
 TI2:TI≠i2
 TO2:TO≠i2
 GL:z∉f2
 GZ:TO∉f2
 i21:i2≠i1
 PB:i1∉f2
section
variable {prog:Program}{w:World}{A:Around}{E:Value->Shared->Prop}{s:Shared}{z TI TO i1 i2:Addr}{f1:List Addr}{n1:Nat}{P1:Nat->Value->Prop}{S1:Nat->Heap->Prop}{f2:List Addr}{n2:Nat}{P2:Nat->Value->Prop}{S2:Nat->Heap->Prop}
theorem R8 (L:Bw z TI TO i1 i2 f1 f2)(D1:Draws prog w A i1 f1 n1 P1 S1)(D2:Draws prog w A i2 f2 n2 P2 S2){m:Nat}{a1 a2:Value}(hz:IsZip s.heap z TI TO .none)(i7:fo s.heap TI #[.ref i1,.ref i2])(jF:fo s.heap TO #[a1,a2])(iw:S1 m s.heap)(eM:S2 m s.heap)(h1:m<n1)(h2:m<n2){Q:Value->Shared->Prop}
  (hQ:∀x1 x2 h' tk,P1 m x1->P2 m x2->IsZip h' z TI TO (rawInt s.heap.objs.size)->fo h' TO #[x1,x2]->S1 (m+1) h'->S2 (m+1) h'->fo h' s.heap.objs.size #[x1,x2]->(∀c o,c≠z->c≠TO->c≠i1->c≠i2->s.heap.get? c=some o->h'.get? c=some o)->Q (.ref s.heap.objs.size) {s with heap:=h',toks:=tk}) :
  wpAny (model prog w) A (Builtin.«zip.__next__» ⟨[.ref z],[]⟩) (λfin s'=>∃v,fin=.done (.ret v)/\Q v s') E s:=by
 show wpAny _ _ (field (.ref z) 2 >>= _) _ _ _;refine wpAny_bind (wpAny_field hz rfl (x:=.bool false) rfl ?_);show wpAny _ _ (field (.ref z) 3 >>= _) _ _ _;refine wpAny_bind (wpAny_field hz rfl (x:=.ref TI) rfl ?_);refine wpAny_bind (wpAny_seqItems i7 rfl ?_);show wpAny _ _ (yg (.ref z) >>= _) _ _ _;refine wpAny_bind ?_;unfold yg;refine wpAny_bind (wpAny_field hz rfl (x:=.none) rfl (wpAny_pure ?_));simp only [if_true];refine wpAny_bind (wpAny_rule ?_);refine wpAny_bind (wpAny_field hz rfl (x:=.ref TO) rfl ?_);refine wpAny_bind (wpAny_setField_rec hz (by simp) λg0 n6 lF=>?_)
 replace n6:IsZip g0 z TI TO .ellipsis:=n6
 refine wpAny_bind ?_;simp only [List.zipIdx_cons,List.zipIdx_nil,uU,List.forIn_nil];have C5:fo g0 TO #[a1,a2]:=lF.extBut _ _ L.TOz jF;have vJ:=D1.frame _ _ _ iw λb hb o e=>lF.extBut b o (λq=>L.GN (q ▸ hb)) e;have Ec:=D2.frame _ _ _ eM λb hb o e=>lF.extBut b o (λq=>L.GL (q ▸ hb)) e;refine wpAny_bind (wpAny_bind (wpAny_onRaise ?_));show wpAny _ _ (nF (.ref i1) >>= _) _ _ _;refine wpAny_bind (D1.item m _ _ _ h1 vJ λx1 GJ J2 LD Ea lD=>wpAny_pure ?_);have vw:fo GJ TO #[a1,a2]:=lD.extBut _ _ L.Rv C5;refine wpAny_bind (wpAny_seqItems vw rfl ?_);refine wpAny_bind (CP vw λg1 sf fX=>?_)
 replace sf:fo g1 TO #[x1,a2]:=sf
 refine wpAny_bind (wpAny_letGo (wpAny_pure ?_));have K4:=D1.frame _ _ _ Ea λb hb o e=>fX.extBut b o (λq=>L.G0 (q ▸ hb)) e;have zI:=D2.frame _ _ _ (D2.frame _ _ _ Ec λb hb o e=>lD.extBut b o (λq=>L.PB (q ▸ hb)) e) λb hb o e=>fX.extBut b o (λq=>L.GZ (q ▸ hb)) e;have Fx:IsZip g1 z TI TO .ellipsis:=fX.extBut _ _ L.TOz.symm (lD.extBut _ _ L.z1.symm n6);refine wpAny_bind (wpAny_bind (wpAny_onRaise ?_));show wpAny _ _ (nF (.ref i2) >>= _) _ _ _;refine wpAny_bind (D2.item m _ _ _ h2 zI λx2 g2a Uh Xx Wq wQ=>wpAny_pure ?_);have Kc:fo g2a TO #[x1,a2]:=wQ.extBut _ _ L.TO2 sf;refine wpAny_bind (wpAny_seqItems Kc rfl ?_);refine wpAny_bind (CP Kc λg2 zg en=>?_)
 replace zg:fo g2 TO #[x1,x2]:=zg
 refine wpAny_bind (wpAny_letGo (wpAny_pure (wpAny_pure ?_)));have Ws:=D1.frame _ _ _ (D1.frame _ _ _ K4 λb hb o e=>wQ.extBut b o (λq=>L.f12 (q ▸ hb)) e) λb hb o e=>en.extBut b o (λq=>L.G0 (q ▸ hb)) e;have Wr:=D2.frame _ _ _ Wq λb hb o e=>en.extBut b o (λq=>L.GZ (q ▸ hb)) e;have N5:IsZip g2 z TI TO .ellipsis:=en.extBut _ _ L.TOz.symm (wQ.extBut _ _ L.z2.symm Fx);refine wpAny_bind (wpAny_seqItems zg rfl ?_);refine wpAny_bind (wpAny_newTuple ?_);have hsz:g2.objs.size=s.heap.objs.size:=by rw [en.1,wQ.1,fX.1,lD.1,lF.1]
 have F0:∀c o,c≠z->c≠TO->c≠i1->c≠i2->s.heap.get? c=some o->g2.get? c=some o:=λc o c1 c2 d1 d2 e=>en.extBut _ _ c2 (wQ.extBut _ _ d2 (fX.extBut _ _ c2 (lD.extBut _ _ d1 (lF.extBut _ _ c1 e))));have N4:z<g2.objs.size:=aK N5;show wpAny _ _ (JL (.ref z) (.ref g2.objs.size) >>= _) _ _ _;refine wpAny_bind ?_;unfold JL;have hz6:IsZip (g2.push {cls:=.type "tuple",data:=.seq #[x1,x2]}) z TI TO .ellipsis:=aI _ N5
 refine wpAny_bind (wpAny_setField_rec hz6 (by simp) λh7 Fw Ob=>?_)
 replace Fw:IsZip h7 z TI TO (rawInt g2.objs.size):=Fw
 refine wpAny_setField_rec Fw (by simp) λh8 Aw Oa=>?_
 replace Aw:IsZip h8 z TI TO (rawInt g2.objs.size):=Aw
 have up:∀c o,c≠z->g2.get? c=some o->h8.get? c=some o:=λc o c1 e=>Oa.extBut _ _ c1 (Ob.extBut _ _ c1 (aI _ e));have OE:fo h8 g2.objs.size #[x1,x2]:=Oa.extBut _ _ (oO N4) (Ob.extBut _ _ (oO N4) (bE _ rfl));rw [hsz] at Aw OE;refine wpAny_pure ⟨_,rfl,?_⟩;show Q (.ref g2.objs.size) _;rw [hsz];exact hQ x1 x2 h8 _ LD Xx Aw (up _ _ L.TOz zg) (D1.frame _ _ _ Ws λb hb o e=>up b o (λq=>L.GN (q ▸ hb)) e) (D2.frame _ _ _ Wr λb hb o e=>up b o (λq=>L.GL (q ▸ hb)) e) OE λc o c1 c2 d1 d2 e=>up c o c1 (F0 c o c1 c2 d1 d2 e)
end
section
variable {prog:Program}{w:World}{A:Around}{E:Value->Shared->Prop}{s:Shared}{z TI TO i1 i2:Addr}{f1:List Addr}{n1:Nat}{P1:Nat->Value->Prop}{S1:Nat->Heap->Prop}{f2:List Addr}{n2:Nat}{P2:Nat->Value->Prop}{S2:Nat->Heap->Prop}
theorem R9 (L:Bw z TI TO i1 i2 f1 f2)(D1:Draws prog w A i1 f1 n1 P1 S1)(D2:Draws prog w A i2 f2 n2 P2 S2){a1 a2:Value}(hz:IsZip s.heap z TI TO .none)(i7:fo s.heap TI #[.ref i1,.ref i2])(jF:fo s.heap TO #[a1,a2])(iw:S1 (min (n1) n2) s.heap)(eM:S2 (min (n1) n2) s.heap){Q:Fin->Shared->Prop}
  (hE:∀h' e tk,(∀c o,c≠z->c≠TO->c≠i1->c≠i2->s.heap.get? c=some o->h'.get? c=some o)->(∃o,h'.get? e=some o/\o.cls=.type "StopIteration")->E (.ref e) {s with heap:=h',toks:=tk}) :
  wpAny (model prog w) A (Builtin.«zip.__next__» ⟨[.ref z],[]⟩) Q E s:=by
 generalize hm:min (n1) n2=m at iw eM;show wpAny _ _ (field (.ref z) 2 >>= _) _ _ _;refine wpAny_bind (wpAny_field hz rfl (x:=.bool false) rfl ?_);show wpAny _ _ (field (.ref z) 3 >>= _) _ _ _;refine wpAny_bind (wpAny_field hz rfl (x:=.ref TI) rfl ?_);refine wpAny_bind (wpAny_seqItems i7 rfl ?_);show wpAny _ _ (yg (.ref z) >>= _) _ _ _;refine wpAny_bind ?_;unfold yg;refine wpAny_bind (wpAny_field hz rfl (x:=.none) rfl (wpAny_pure ?_));simp only [if_true];refine wpAny_bind (wpAny_rule ?_);refine wpAny_bind (wpAny_field hz rfl (x:=.ref TO) rfl ?_);refine wpAny_bind (wpAny_setField_rec hz (by simp) λg0 n6 lF=>?_)
 replace n6:IsZip g0 z TI TO .ellipsis:=n6
 refine wpAny_bind ?_;simp only [List.zipIdx_cons,List.zipIdx_nil,uU,List.forIn_nil];have C5:fo g0 TO #[a1,a2]:=lF.extBut _ _ L.TOz jF;have vJ:=D1.frame _ _ _ iw λb hb o e=>lF.extBut b o (λq=>L.GN (q ▸ hb)) e;have Ec:=D2.frame _ _ _ eM λb hb o e=>lF.extBut b o (λq=>L.GL (q ▸ hb)) e;have k0:∀c o,c≠z->c≠TO->c≠i1->c≠i2->s.heap.get? c=some o->g0.get? c=some o:=λc o c1 c2 d1 d2 e=>lF.extBut _ _ c1 e;refine wpAny_bind (wpAny_bind (wpAny_onRaise ?_));show wpAny _ _ (nF (.ref i1) >>= _) _ _ _
 by_cases q1:n1<=m
 ·have e1:n1=m:=by omega
  rw [← e1] at vJ;refine wpAny_bind (D1.done _ _ _ vJ λg e he hS=>?_);obtain⟨oe,pZ,mP⟩:=hS;have wK:IsZip g z TI TO .ellipsis:=he _ _ L.z1.symm n6;have Gd:e≠z:=λq=>by subst q; rw [wK] at pZ; cases pZ; simp at mP
  refine wpAny_setField_rec wK (by simp) λh3 _ wO=>hE h3 e _ (λc o c1 c2 d1 d2 x=>wO.extBut _ _ c1 (he _ _ d1 (k0 c o c1 c2 d1 d2 x))) ⟨oe,wO.extBut _ _ Gd pZ,mP⟩
 ·refine wpAny_bind (D1.item m _ _ _ (by omega) vJ λx1 GJ J2 LD Ea lD=>wpAny_pure ?_)
  have vw:fo GJ TO #[a1,a2]:=lD.extBut _ _ L.Rv C5;refine wpAny_bind (wpAny_seqItems vw rfl ?_);refine wpAny_bind (CP vw λg1 sf fX=>?_)
  replace sf:fo g1 TO #[x1,a2]:=sf
  refine wpAny_bind (wpAny_letGo (wpAny_pure ?_));have K4:=D1.frame _ _ _ Ea λb hb o e=>fX.extBut b o (λq=>L.G0 (q ▸ hb)) e;have zI:=D2.frame _ _ _ (D2.frame _ _ _ Ec λb hb o e=>lD.extBut b o (λq=>L.PB (q ▸ hb)) e) λb hb o e=>fX.extBut b o (λq=>L.GZ (q ▸ hb)) e;have Fx:IsZip g1 z TI TO .ellipsis:=fX.extBut _ _ L.TOz.symm (lD.extBut _ _ L.z1.symm n6);have k1:∀c o,c≠z->c≠TO->c≠i1->c≠i2->s.heap.get? c=some o->g1.get? c=some o:=λc o c1 c2 d1 d2 e=>fX.extBut _ _ c2 (lD.extBut _ _ d1 (k0 c o c1 c2 d1 d2 e));refine wpAny_bind (wpAny_bind (wpAny_onRaise ?_));show wpAny _ _ (nF (.ref i2) >>= _) _ _ _;have e2:n2=m:=by omega
  rw [← e2] at zI;refine wpAny_bind (D2.done _ _ _ zI λg e he hS=>?_);obtain⟨oe,pZ,mP⟩:=hS;have wK:IsZip g z TI TO .ellipsis:=he _ _ L.z2.symm Fx;have Gd:e≠z:=λq=>by subst q; rw [wK] at pZ; cases pZ; simp at mP
  refine wpAny_setField_rec wK (by simp) λh3 _ wO=>hE h3 e _ (λc o c1 c2 d1 d2 x=>wO.extBut _ _ c1 (he _ _ d2 (k1 c o c1 c2 d1 d2 x))) ⟨oe,wO.extBut _ _ Gd pZ,mP⟩
end
section
variable {prog:Program}{w:World}{A:Around}{E:Value->Shared->Prop}{s:Shared}
theorem ZV {it l:Addr}{i:Nat}{items}{x:Value}{Q:Value->Shared->Prop}(hit:s.heap.IsTupleIter it l i)(hl:s.heap.IsTuple l items)(hx:items[i]?=some x)
  (hQ:∀h',h'.IsTupleIter it l (i+1)->fQ it s.heap h'->Q x {s with heap:=h'}) :
  wpAny (model prog w) A (nF (.ref it)) Q E s:=by
 obtain⟨o,ho,hc,hd⟩:=id hit;obtain⟨ol,ti,_,nl,iF⟩:=hl;unfold nF;refine wpAny_bind (wpAny_callSpecial?_slot (name:=iO "__next__") hit.typeIs yQ (wpAny_call_entry yQ hit.typeIs F.entry_tuple_iterator_next ?_ (F.args_tuple_iterator_next_1 _)))
 show wpAny _ _ (field (.ref it) 0 >>= _) _ _ s;refine wpAny_bind (wpAny_field ho hd (x:=.ref l) rfl ?_);show wpAny _ _ (if (bx l==eX)=true then _ else _) _ _ s;rw [if_neg (show ¬ ((bx l==eX)=true) from fA)];show wpAny _ _ (field (.ref it) 1 >>= _) _ _ s;refine wpAny_bind (wpAny_field ho hd (x:=.int i 0) rfl ?_);show wpAny _ _ (seqItems? (.ref l) >>= _) _ _ s;refine wpAny_bind (wpAny_seqItems ti iF ?_);simp only [yy,hx];refine wpAny_bind (wpAny_setField ho hd (by simp) (wpAny_pure ⟨x,rfl,wpAny_pure (hQ _ ?_ (rm ..))⟩));exact⟨_,ma _ ho (Obj.isFreed_of_fields (yz hd _)),(Obj.cls_mapFields ..).trans hc,by rw [yz hd]; simp [rawInt]⟩
theorem ZW {it l:Addr}{i:Nat}{items}{Q:Value->Shared->Prop}(hh:A.handled=none)(hit:s.heap.IsTupleIter it l i)(hl:s.heap.IsTuple l items)(hx:items[i]?=none)
  (hE:∀h' e,Heap.ExtBut it s.heap h'->(∃o,h'.get? e=some o/\o.cls=.type "StopIteration")->E (.ref e) {s with heap:=h'}) :
  wpAny (model prog w) A (nF (.ref it)) Q E s:=by
 obtain⟨o,ho,hc,hd⟩:=id hit;obtain⟨ol,ti,_,nl,iF⟩:=hl;unfold nF;refine wpAny_bind (wpAny_callSpecial?_slot (name:=iO "__next__") hit.typeIs yQ (wpAny_call_entry yQ hit.typeIs F.entry_tuple_iterator_next ?_ (F.args_tuple_iterator_next_1 _)))
 show wpAny _ _ (field (.ref it) 0 >>= _) _ _ s;refine wpAny_bind (wpAny_field ho hd (x:=.ref l) rfl ?_);show wpAny _ _ (if (bx l==eX)=true then _ else _) _ _ s;rw [if_neg (show ¬ ((bx l==eX)=true) from fA)];show wpAny _ _ (field (.ref it) 1 >>= _) _ _ s;refine wpAny_bind (wpAny_field ho hd (x:=.int i 0) rfl ?_);show wpAny _ _ (seqItems? (.ref l) >>= _) _ _ s;refine wpAny_bind (wpAny_seqItems ti iF ?_);simp only [yy,hx];refine wpAny_bind (wpAny_rule (wpAny_bind (wpAny_setField ho hd (by simp) ?_)));show wpAny _ _ (newExc (.type "StopIteration") [] >>= _) _ _ _
 refine wpAny_bind ?_;simp only [newExc,newTuple];refine wpAny_bind (wpAny_newObj_type ?_ (by size_fits));refine wpAny_bind (m:=firstArgMember _ _) (wpAny_of_eq (a:=eX) (by first | rfl | (simp only [firstArgMember]; rfl)) ?_);refine wpAny_newObj_type ?_ (by size_fits);simp only [raiseNew];refine wpAny_bind (wpAny_handled ?_)
 first | rw [show A.in1.handled=none from hh] | rw [hh]
 refine wpAny_bind (wpAny_pure (wpAny_throw ?_));exact hE _ _ (((rm ..).extBut.push _).push _) ⟨_,bE _ rfl,rfl⟩
theorem aeq (hh:A.handled=none)(it l:Addr)(bF:l≠it)(items:Array Value):Draws prog w A it [it,l] items.size (λi v=>items[i]?=some v) (λi h=>h.IsTupleIter it l i/\h.IsTuple l items) where
 live:=λ_ _ st=>let ⟨o,ho,_⟩:=st.1; ⟨o,ho⟩
 frame:=λ_ _ _ st hk=>⟨let ⟨o,ho,r⟩:=st.1; ⟨o,hk it (by simp) o ho,r⟩,let ⟨o,ho,r⟩:=st.2; ⟨o,hk l (by simp) o ho,r⟩⟩
 item:=λi s Q E hi st hQ=>by
  refine ZV st.1 st.2 (x:=items[i]) (by simp [hi]) λh' acF mK=>?_;exact hQ _ h' s.toks (by simp [hi]) ⟨acF,st.2.extBut mK.extBut bF⟩ mK
 done:=λs Q E st hE=>ZW hh st.1 st.2 (by simp) hE
end
inductive Src where
 |L (a:Addr) | T (l:List Nat) (t:Tok) | U (a:Addr)
noncomputable def Src.it:Src->Addr->Nat->Heap->Prop
 |.L a,j,i,h=>h.IsListIter j a i
 |.T l t,j,i,h=>h.IsStrIter j (strIterType ⟨l.toArray⟩) ⟨l.toArray⟩ t i
 |.U a,j,i,h=>h.IsTupleIter j a i
noncomputable def Src.vals (K:ao)(H:Hp):Src->List V->Prop
 |.L a,xs=>bz K H a xs
 |.T l _,xs=>xs=dH l
 |.U a,xs=>dP K H a xs
noncomputable def Src.fp:Src->Addr->List Addr
 |.L a,j=>[j,a]
 |.T _ _,j=>[j]
 |.U a,j=>[j,a]
noncomputable def Src.con:Src->List Value->Heap->Prop
 |.L a,us,h=>h.IsList a us.toArray
 |.T _ _,_,_=>True
 |.U a,us,h=>h.IsTuple a us.toArray
noncomputable def Src.num:Src->List Value->Nat
 |.L _,us=>us.length
 |.T l _,_=>l.length
 |.U _,us=>us.length
noncomputable def Src.P:Src->List Value->Nat->Value->Prop
 |.L _,us,i,v=>us.toArray[i]?=some v
 |.T l _,_,i,v=>∃c u,l[i]?=some c/\v=.str ⟨#[c]⟩ u
 |.U _,us,i,v=>us.toArray[i]?=some v
noncomputable def Src.lt:Src->Nat->Prop
 |.L a,n=>a<n
 |.T _ _,_=>True
 |.U a,n=>a<n
noncomputable def Src.val:Src->Value
 |.L a=>.ref a
 |.T l t=>.str ⟨l.toArray⟩ t
 |.U a=>.ref a
noncomputable def Src.obj:Src->Obj
 |.L a=>{cls:=.type "list_iterator",data:=.fields #[.ref a,.int 0 0]}
 |.T l t=>{cls:=.type (strIterType ⟨l.toArray⟩),data:=.fields #[.str ⟨l.toArray⟩ t,.int 0 0]}
 |.U a=>{cls:=.type "tuple_iterator",data:=.fields #[.ref a,.int 0 0]}
theorem Src.draws {prog:Program}{w:World}{A:Around}(hh:A.handled=none)(sc:Src){j:Addr}(hj:sc.lt j)(us:List Value):Draws prog w A j (sc.fp j) (sc.num us) (sc.P us) (λi h=>sc.it j i h/\sc.con us h):=by
 cases sc with
 |L a=>exact Draws.list hh j a (a9 hj) us.toArray
 |U a=>exact aeq hh j a (a9 hj) us.toArray
 |T l t=>
  have go:∀ty,ty=strIterType ⟨l.toArray⟩->Draws prog w A j [j] l.length (λi v=>∃c u,l[i]?=some c/\v=.str ⟨#[c]⟩ u) (λi h=>h.IsStrIter j ty ⟨l.toArray⟩ t i):=λty jC=>by
   have ht:ty = "str_ascii_iterator" ∨ty = "str_iterator" := by
    rw [jC];unfold strIterType
    split
    ·exact .inl rfl
    ·exact .inr rfl
   rcases ht with h | h
   ·rw [h]; simpa using Draws.strAscii (prog:=prog) (w:=w) hh j ⟨l.toArray⟩ t
   ·rw [h]; simpa using Draws.strWide (prog:=prog) (w:=w) hh j ⟨l.toArray⟩ t
  have D:=go _ rfl;exact⟨λi h st=>D.live i h st.1,λi h h' st k=>⟨D.frame i h h' st.1 k,trivial⟩,λi s Q E hi st hQ=>D.item i s Q E hi st.1 λx h' tk p cT sb=>hQ x h' tk p ⟨cT,trivial⟩ sb,λs Q E st hE=>D.done s Q E st.1 hE⟩
theorem Src.use {X:Cx}{pins:List (Addr×Obj)}{σ:St}{H:Hp}{s:Shared}(I:Inv X pins σ H s){sc:Src}{xs:List V}(hv:sc.vals X.K H xs):∃us,sc.con us s.heap/\sc.num us=xs.length/\∀i v,sc.P us i v->∃x,xs[i]?=some x/\RelV x v:=by
 cases sc with
 |L a=>
  obtain⟨us,rv,p,_⟩:=I.list hv;refine⟨us,p.isList,rv.length.symm,λi v h=>?_⟩;have h':us[i]?=some v:=by simpa using (show us.toArray[i]?=some v from h)
  have hi:i<us.length:=(cP.mp h').1;have hx:i<xs.length:=by rw [rv.length]; exact hi
  obtain⟨u,hu,ru⟩:=rv.get (x:=xs[i]) (i:=i) (by simp [hx]);rw [h'] at hu;cases hu;exact⟨xs[i],by simp [hx],ru⟩
 |U a=>
  obtain⟨us,rv,p,_⟩:=I.tuple hv;refine⟨us,p,rv.length.symm,λi v h=>?_⟩;have h':us[i]?=some v:=by simpa using (show us.toArray[i]?=some v from h)
  have hi:i<us.length:=(cP.mp h').1;have hx:i<xs.length:=by rw [rv.length]; exact hi
  obtain⟨u,hu,ru⟩:=rv.get (x:=xs[i]) (i:=i) (by simp [hx]);rw [h'] at hu;cases hu;exact⟨xs[i],by simp [hx],ru⟩
 |T l t=>
  have e:xs=dH l:=hv;subst e;refine⟨[],trivial,(Vz l).symm,λi v h=>?_⟩;obtain⟨c,u,hc,rfl⟩:=h;exact⟨S [c],by simp [dH,hc],⟨u,rfl⟩⟩
theorem Src.inj {X:Cx}{pins:List (Addr×Obj)}{σ:St}{H:Hp}{s:Shared}(I:Inv X pins σ H s){sc:Src}{xs ys:List V}(h:sc.vals X.K H xs)(h':sc.vals X.K H ys):xs=ys:=by
 cases sc with
 |L a=>exact I.wq h h'
 |U a=>exact I.C3 h h'
 |T l t=>exact(show xs=dH l from h).trans (show ys=dH l from h').symm
theorem Src.Aq {sc:Src}{j:Addr}{i:Nat}{h h':Heap}(x:sc.it j i h)(k:∀o,h.get? j=some o->h'.get? j=some o):sc.it j i h':=by
 cases sc with
 |L a=>exact Heap.IsListIter.at x k
 |U a=>obtain⟨o,e,r⟩:=x; exact⟨o,k o e,r⟩
 |T l t=>obtain⟨o,e,r⟩:=x; exact⟨o,k o e,r⟩
theorem Src.Ap {sc:Src}{j:Addr}{i:Nat}{h:Heap}(x:sc.it j i h):∃o,h.get? j=some o/\∀v,o.data≠.cell v:=by
 cases sc with
 |L a=>obtain⟨o,e,c,d⟩:=x; exact⟨o,e,λv z=>by rw [d] at z; cases z⟩
 |U a=>obtain⟨o,e,c,d⟩:=x; exact⟨o,e,λv z=>by rw [d] at z; cases z⟩
 |T l t=>obtain⟨o,e,c,d⟩:=x; exact⟨o,e,λv z=>by rw [d] at z; cases z⟩
theorem Src.NT {sc:Src}{j:Addr}{h:Heap}(e:h.get? j=some sc.obj):sc.it j 0 h:=by
 cases sc with
 |L a=>exact⟨_,e,rfl,rfl⟩
 |U a=>exact⟨_,e,rfl,rfl⟩
 |T l t=>exact⟨_,e,rfl,rfl⟩
noncomputable def Src.ok:Src->Heap->Prop
 |.L a,h=>∃items,h.IsList a items
 |.T _ _,_=>True
 |.U a,h=>∃items,h.IsTuple a items
theorem Src.iter {prog:Program}{w:World}{A:Around}{E:Value->Shared->Prop}{s:Shared}{sc:Src}{Q:Value->Shared->Prop}(ok:sc.ok s.heap)(hQ:Q (.ref s.heap.objs.size) {s with heap:=s.heap.push sc.obj}):wpAny (model prog w) A (pyIter sc.val) Q E s:=by
 cases sc with
 |L a=>obtain⟨items,hl⟩:=ok; exact wpAny_pyIter_list hl hQ
 |U a=>obtain⟨items,hl⟩:=ok; exact wpAny_pyIter_tuple hl hQ
 |T l t=>exact wpAny_pyIter_strU hQ
theorem Src.Y5 {sc:Src}{h:Heap}{o:Obj}(x:sc.ok h):sc.ok (h.push o):=by
 cases sc with
 |L a=>obtain⟨items,hl⟩:=x; exact⟨items,hl.push _⟩
 |U a=>obtain⟨items,hl⟩:=x; exact⟨items,hl.push _⟩
 |T l t=>trivial
noncomputable def IY (K:ao)(s1 s2:Src):It:=
 ⟨λi H=>∃iu ir,s1.vals K H iu/\s2.vals K H ir/\i<min (iu.length) ir.length,
  λi H x H'=>∃T x1 x2,x=.ref T/\H T=none/\H'=upd H T (.tup [x1,x2])/\(∀xs,s1.vals K H xs->xs[i]?=some x1)/\(∀xs,s2.vals K H xs->xs[i]?=some x2),
  λi H=>∃iu ir,s1.vals K H iu/\s2.vals K H ir/\i=min (iu.length) ir.length⟩
theorem TX {P:Program}{w:World}{K:ao}{elts:List Expr}{kk:Nat}{dS:Pos}{z TI TO i1 i2:Addr}{s1 s2:Src}(L:Bw z TI TO i1 i2 (s1.fp i1) (s2.fp i2))(l1:s1.lt i1)(l2:s2.lt i2) :
  Turn P w K (.Tuple elts kk dS) (IY K s1 s2) [z,TI,TO,i1,i2] z (λi h=>IsZip h z TI TO .none/\fo h TI #[.ref i1,.ref i2]/\(∃a1 a2,fo h TO #[a1,a2])/\s1.it i1 i h/\s2.it i2 i h) where
 mem:=by simp
 obj:=λi h st b hb=>by
  obtain⟨hz,i7,⟨a1,a2,jF⟩,t1,t2⟩:=st;simp only [aO,eL,or_false] at hb;rcases hb with rfl | rfl | rfl | rfl | rfl
  ·exact⟨_,hz,λv z=>nomatch z⟩
  ·exact⟨_,i7,λv z=>nomatch z⟩
  ·exact⟨_,jF,λv z=>nomatch z⟩
  ·exact(Src.Ap t1)
  ·exact(Src.Ap t2)
 keep:=λi h h' st k=>by
  obtain⟨hz,i7,⟨a1,a2,jF⟩,t1,t2⟩:=st;exact⟨k z (by simp) _ hz,k TI (by simp) _ i7,⟨a1,a2,k TO (by simp) _ jF⟩,(Src.Aq t1 λo e=>k i1 (by simp) o e),(Src.Aq t2 λo e=>k i2 (by simp) o e)⟩
 item:=by
  intro X hP hw hK hc i pins s σ H E I hf st hg;subst hP hw hK;obtain⟨iu,ir,ki,Ay,hi⟩:=hg;obtain⟨yZ,c1,m1,r1⟩:=Src.use I ki;obtain⟨yY,c2,m2,r2⟩:=Src.use I Ay;obtain⟨hz,i7,⟨a1,a2,jF⟩,t1,t2⟩:=st;have hT:s.TypeIs (.ref z) "zip" := ⟨_,hz,rfl⟩
  have D1:=Src.draws (prog:=X.prog) (w:=X.w) (A:=X.A.in1) (I.ok.hd hc) s1 l1 yZ;have D2:=Src.draws (prog:=X.prog) (w:=X.w) (A:=X.A.in1) (I.ok.hd hc) s2 l2 yY;unfold pyNext;refine wpAny_bind (wpAny_attempt (wpAny_callSpecial?_slot (name:=iO "__next__") hT yn (wpAny_call_entry yn hT F.entry_zip_next (R8 L D1 D2 hz i7 jF ⟨t1,c1⟩ ⟨t2,c2⟩ (by rw [m1]; omega) (by rw [m2]; omega) λv1 v2 h' tk p1 p2 y1 y2 w1 w2 y3 hk=>wpAny_pure ?_) (F.args_zip_next_1 _))))
  refine(λht=>⟨_,rfl,wpAny_letOwnedTupleGo_zip y1 λeQ abO sY=>?_⟩);obtain⟨x1,gx1,WA⟩:=r1 i v1 p1;obtain⟨x2,gx2,Wz⟩:=r2 i v2 p2;have lt:∀{c o},s.heap.get? c=some o->s.heap.objs.size≠c:=λe=>oO (aK e);have hTz:s.heap.objs.size≠z:=lt hz;have pP:∀b o,b∉[z,TO,i1,i2]->s.heap.get? b=some o->eQ.get? b=some o:=λb o hb e=>sY.extBut _ _ (λq=>hb (by simp [q])) (hk b o (λq=>hb (by simp [q])) (λq=>hb (by simp [q])) (λq=>hb (by simp [q])) (λq=>hb (by simp [q])) e);have I2:Inv X pins σ (upd H s.heap.objs.size (.tup [x1,x2])) {s with heap:=eQ,toks:=tk}:=
   I.za (ch:=[z,TO,i1,i2]) (λb hb=>hf b (by simp only [aO,eL,or_false] at hb ⊢; rcases hb with h | h | h | h <;> simp [h])) pP (aN _)
    ⟨by show 2<=sizeLine; decide,[v1,v2],(.cons WA (.cons Wz .nil)),⟨_,sY.extBut _ _ hTz y3,rfl,_,rfl⟩⟩
  refine(λht=>⟨.ref s.heap.objs.size,_,I2,rfl,⟨s.heap.objs.size,x1,x2,rfl,I.au.fresh (aN _),rfl,(λxs h=>by rw [Src.inj I h ki]; exact gx1),(λxs h=>by rw [Src.inj I h Ay]; exact gx2)⟩,⟨abO,sY.extBut _ _ L.TIz (hk _ _ L.TIz L.TITO L.TI1 L.TI2 i7),⟨_,_,sY.extBut _ _ L.TOz y2⟩,(Src.Aq w1.1 λo e=>sY.extBut _ _ L.z1 e),(Src.Aq w2.1 λo e=>sY.extBut _ _ L.z2 e)⟩,λb hb=>?_⟩);have bne:b≠s.heap.objs.size:=by
   rintro rfl;have eM:∃o,s.heap.get? s.heap.objs.size=some o:=by
    simp only [aO,eL,or_false] at hb;rcases hb with h | h | h | h | h
    ·rw [h]; exact⟨_,hz⟩
    ·rw [h]; exact⟨_,i7⟩
    ·rw [h]; exact⟨_,jF⟩
    ·rw [h]; obtain⟨o,e,_⟩:=(Src.Ap t1); exact⟨o,e⟩
    ·rw [h]; obtain⟨o,e,_⟩:=(Src.Ap t2); exact⟨o,e⟩
   obtain⟨o,e⟩:=eM;exact absurd (aK e) (eI _)
  rw [ba bne];exact(hf b hb).1
 done:=by
  intro X hP hw hK hc i pins s σ H E I hf st hg;subst hP hw hK;obtain⟨iu,ir,ki,Ay,hi⟩:=hg;obtain⟨yZ,c1,m1,r1⟩:=Src.use I ki;obtain⟨yY,c2,m2,r2⟩:=Src.use I Ay;obtain⟨hz,i7,⟨a1,a2,jF⟩,t1,t2⟩:=st;have hT:s.TypeIs (.ref z) "zip" := ⟨_,hz,rfl⟩
  have D1:=Src.draws (prog:=X.prog) (w:=X.w) (A:=X.A.in1) (I.ok.hd hc) s1 l1 yZ;have D2:=Src.draws (prog:=X.prog) (w:=X.w) (A:=X.A.in1) (I.ok.hd hc) s2 l2 yY;have ei:i=min (s1.num yZ) (s2.num yY):=by rw [m1,m2]; exact hi
  rw [ei] at t1 t2;unfold pyNext;refine wpAny_bind (wpAny_attempt (wpAny_callSpecial?_slot (name:=iO "__next__") hT yn (wpAny_call_entry yn hT F.entry_zip_next (R9 L D1 D2 hz i7 jF ⟨t1,c1⟩ ⟨t2,c2⟩ λh' e tk hk he=>?_) (F.args_zip_next_1 _))))
  obtain⟨o,ho,gG⟩:=he;refine wpAny_bind (wpAny_isInstance (T:="StopIteration") (b:=true) ⟨o,ho,gG⟩ isSubtype_stop ?_)
  exact wpAny_pure (λht=>⟨rfl,I.C2 (ch:=[z,TO,i1,i2]) (λb hb=>hf b (by simp only [aO,eL,or_false] at hb ⊢; rcases hb with h | h | h | h <;> simp [h])) λb u hb e=>hk b u (λq=>hb (by simp [q])) (λq=>hb (by simp [q])) (λq=>hb (by simp [q])) (λq=>hb (by simp [q])) e⟩)
 self:=λ_ _ _ _ _ st h=>wpAny_pyIter_zip st.1 h
noncomputable def Src.Ar:Src->Nat->V->Prop
 |.L a,k,v=>k=0/\v=.ref a
 |.T l _,k,v=>k=1/\v=S l
 |.U a,k,v=>k=2/\v=.ref a
noncomputable def lX (k:Nat)(K:ao)(H:Hp)(v:V):Prop:=(k=0/\∃a xs,v=.ref a/\bz K H a xs)∨(k=1/\∃l,v=S l)∨(k=2/\∃a xs,v=.ref a/\dP K H a xs)
theorem lX.mono {k:Nat}{K:ao}{H H':Hp}{v:V}(h:lX k K H v)(s:az H H'):lX k K H' v:=by
 rcases h with ⟨e,a,xs,rfl,hq⟩ | h | ⟨e,a,xs,rfl,hq⟩
 ·exact .inl ⟨e,a,xs,rfl,s.seq hq⟩
 ·exact .inr (.inl h)
 ·exact .inr (.inr ⟨e,a,xs,rfl,s.j6 hq⟩)
theorem lX.src {X:Cx}{pins:List (Addr×Obj)}{σ:St}{H:Hp}{s:Shared}(I:Inv X pins σ H s){v:V}{u:Value}{k:Nat}(h:lX k X.K H v)(r:RelV v u):∃sc:Src,sc.Ar k v/\u=sc.val/\sc.ok s.heap/\sc.lt s.heap.objs.size:=by
 rcases h with ⟨rfl,a,xs,rfl,hq⟩ | ⟨rfl,l,rfl⟩ | ⟨rfl,a,xs,rfl,hq⟩
 ·cases r
  obtain⟨ak,_,p,_⟩:=I.list hq;obtain⟨o,e,_⟩:=id p.isList;exact⟨.L a,⟨rfl,rfl⟩,rfl,⟨_,p.isList⟩,aK e⟩
 ·obtain⟨t,rfl⟩:=r
  exact⟨.T l t,⟨rfl,rfl⟩,rfl,trivial,trivial⟩
 ·cases r
  obtain⟨ak,_,p,_⟩:=I.tuple hq;obtain⟨o,e,_⟩:=id p;exact⟨.U a,⟨rfl,rfl⟩,rfl,⟨_,p⟩,aK e⟩
theorem Src.mono {K:ao}{H H':Hp}{sc:Src}{xs:List V}(h:sc.vals K H xs)(s:az H H'):sc.vals K H' xs:=by
 cases sc with
 |L a=>exact s.seq h
 |U a=>exact s.j6 h
 |T l t=>exact h
theorem Src.MK {sc:Src}{m n:Nat}(h:sc.lt m)(k:m<=n):sc.lt n:=by
 cases sc with
 |L a=>exact cK h k
 |U a=>exact cK h k
 |T l t=>trivial
theorem Src.z4 {sc:Src}{m:Nat}{j b:Addr}(h:sc.lt m)(hb:m<=b)(hj:b≠j):b∉sc.fp j:=by
 cases sc with
 |L a=>
  intro z;rcases aO.mp z with z | z
  ·exact hj z
  ·have:b=a:=by simpa using z
   subst this;exact absurd (cK (show b<m from h) hb) (eI _)
 |U a=>
  intro z;rcases aO.mp z with z | z
  ·exact hj z
  ·have:b=a:=by simpa using z
   subst this;exact absurd (cK (show b<m from h) hb) (eI _)
 |T l t=>intro z; exact hj (by simpa [Src.fp] using z)
theorem K0 {K:ao}{H:Hp}{d:Dt}{ds:List Dt}{v:V}(h:ix d=.ok ds)(r:Rep K H d v):∃k,lX k K H v/\∀sc:Src,sc.Ar k v->∃xs,sc.vals K H xs/\aq K H ds xs:=by
 cases d with
 |lst l=>
  cases h;obtain⟨a,xs,rfl,h1,h2⟩:=dJ r;refine⟨0,.inl ⟨rfl,a,xs,rfl,h1⟩,λsc hs=>?_⟩
  cases sc with
  |L b=>cases (show V.ref a=.ref b from hs.2); exact⟨xs,h1,h2⟩
  |T m t=>exact nomatch hs.1
  |U b=>exact nomatch hs.1
 |str l=>
  cases h;have e:v=S l:=by simpa only [Rep] using r
  subst e;refine⟨1,.inr (.inl ⟨rfl,l,rfl⟩),λsc hs=>?_⟩
  cases sc with
  |L b=>exact nomatch hs.1
  |U b=>exact nomatch hs.1
  |T m t=>
   have:=IK (show S l=S m from hs.2);subst this;exact⟨dH l,rfl,zM l⟩
 |_=>cases h
noncomputable def vk (hp:Heap)(s1 s2:Src):Heap:=((hp.push s1.obj).push s2.obj).push {cls:=.type "tuple",data:=.seq #[.ref (hp).objs.size,.ref ((hp.push s1.obj)).objs.size]}
noncomputable def vj (hp:Heap)(s1 s2:Src):Heap:=(vk hp s1 s2).push {cls:=.type "tuple",data:=.seq #[.none,.none]}
noncomputable def oW (hp:Heap)(s1 s2:Src):Heap:=(vj hp s1 s2).push {cls:=.type "zip",data:=.fields #[.none,.bool false,.bool false,.ref (((hp.push s1.obj).push s2.obj)).objs.size,.ref (vk hp s1 s2).objs.size]}
theorem Z7 (s1 s2:Src):Meets (Builtin.«zip.__new__» ⟨[.type "zip",s1.val,s2.val],[]⟩) (λ_ R s=>s1.ok s.heap/\s2.ok s.heap/\R (.ok (.ret (.ref (vj s.heap s1 s2).objs.size))) {s with heap:=oW s.heap s1 s2}):=
 .of_wp λprog w A R s h=>by
  obtain⟨hp,g,d,tk,os⟩:=s;obtain⟨o1,o2,h⟩:=h;have wN:=sub_zip;have hI1:∀{A:Around} {E:Value->Shared->Prop} {Q:Value->Shared->Prop},Q (.ref (hp).objs.size) ⟨(hp.push s1.obj),g,d,tk,os⟩->wpAny (model prog w) A (pyIter s1.val) Q E ⟨hp,g,d,tk,os⟩:=λq=>Src.iter (s:=⟨hp,g,d,tk,os⟩) o1 q;have hI2:∀{A:Around} {E:Value->Shared->Prop} {Q:Value->Shared->Prop},Q (.ref ((hp.push s1.obj)).objs.size) ⟨((hp.push s1.obj).push s2.obj),g,d,tk,os⟩->wpAny (model prog w) A (pyIter s2.val) Q E ⟨(hp.push s1.obj),g,d,tk,os⟩:=λq=>Src.iter (s:=⟨(hp.push s1.obj),g,d,tk,os⟩) (Src.Y5 o2) q
  wp_walk using hI1,hI2
  exact⟨_,rfl,h⟩
theorem aax (hp:Heap)(s1 s2:Src):(vk hp s1 s2).objs.size=hp.objs.size+3/\(vj hp s1 s2).objs.size=hp.objs.size+4/\((hp.push s1.obj)).objs.size=hp.objs.size+1/\(((hp.push s1.obj).push s2.obj)).objs.size=hp.objs.size+2:=by
 simp [vk,vj,gk]
theorem XT {X:Cx}{tl:List Expr}{kk:Nat}{dS p pos:Pos}{a b:Expr}{ta:TA}(hg:Gl X "zip")(hm:X.mg "zip" = none)(ha:PA X [a,b] ta)(hs:starEach [a,b] X.env=(false,eval a X.env)::starEach [b] X.env)(en:(backTo pos (starEach [b] X.env)).any (·.1)=false) :
  PI X (.Tuple tl kk dS) (.Call (.Name "zip" p) [a,b] [] pos) (λσ H R=>ta σ H λvs H1=>∃v1 v2 k1 k2,vs=[v1,v2]/\lX k1 X.K H1 v1/\lX k2 X.K H1 v2/\∀s1 s2:Src,s1.Ar k1 v1->s2.Ar k2 v2->R (IY X.K s1 s2) H1):=by
 intro pins s σ H R I h;refine Call_ (g6 I hg hm boot_zip (jW (aB (ha pos pins s σ H _ I h) λus s' ⟨vs,H1,I1,r1,q1⟩=>?_) hs en));obtain⟨v1,v2,k1,k2,e,w1,w2,q⟩:=q1;subst e;obtain⟨u1,u2,rfl,r1,r2⟩:∃u1 u2,us=[u1,u2]/\RelV v1 u1/\RelV v2 u2:=by
  cases r1 with | cons g1 r2=>cases r2 with | cons g2 r3=>cases r3; exact⟨_,_,rfl,g1,g2⟩
 obtain⟨s1,iv1,rfl,Zp,ES⟩:=w1.src I1 r1;obtain⟨s2,iv2,rfl,Zo,ER⟩:=w2.src I1 r2;refine callType_new F.called_zip (by decide) (F.typeCall_zip_2 _ _) (F.newCall_zip_2 _ _) (λobj=>F.args_object_init_3 obj _ _) F.entry_zip_new (Z7 s1 s2) ⟨Zp,Zo,?_⟩;obtain⟨zA,zB,z1,z2⟩:=aax s'.heap s1 s2;have gz:(oW s'.heap s1 s2).get? (vj s'.heap s1 s2).objs.size=some _:=bE _ rfl;have gO:(oW s'.heap s1 s2).get? (vk s'.heap s1 s2).objs.size=some _:=aI _ (bE _ rfl);have gI:(oW s'.heap s1 s2).get? (((s'.heap.push s1.obj).push s2.obj)).objs.size=some _:=aI _ (aI _ (bE _ rfl));have g1:(oW s'.heap s1 s2).get? (s'.heap).objs.size=some s1.obj:=(aI _ (aI _ (aI _ (aI _ (bE _ (by cases s1 <;> rfl))))))
 have g2:(oW s'.heap s1 s2).get? ((s'.heap.push s1.obj)).objs.size=some s2.obj:=(aI _ (aI _ (aI _ (bE _ (by cases s2 <;> rfl)))))
 have kk':∀c o,s'.heap.get? c=some o->(oW s'.heap s1 s2).get? c=some o:=λc o x=>(aI _ (aI _ (aI _ (aI _ (aI _ x)))))
 show _/\_;rw [zB,zA,z2] at gz;rw [zA] at gO;rw [z2,z1] at gI;rw [z1] at g2;rw [zB];refine⟨⟨_,gz,rfl⟩,λ_=>wpAny_pyIter_zip gz λ_=>?_⟩;have L:Bw (s'.heap.objs.size+4) (s'.heap.objs.size+2) (s'.heap.objs.size+3) (s'.heap.objs.size) (s'.heap.objs.size+1) (s1.fp (s'.heap.objs.size)) (s2.fp (s'.heap.objs.size+1)):=by
  have ne:∀i j:Nat,i≠j->s'.heap.objs.size+i≠s'.heap.objs.size+j:=λi j h z=>h (Nat.add_left_cancel z);constructor
  all_goals first | exact ne _ _ (by decide) | exact ne 0 _ (by decide) | exact ne _ 0 (by decide) | exact Src.z4 ES (jS _ _) (by first | exact ne _ _ (by decide) | exact ne 0 _ (by decide) | exact ne _ 0 (by decide)) | exact Src.z4 ES (aN _) (ne 0 _ (by decide)) | exact Src.z4 ER (jS _ _) (by first | exact ne _ _ (by decide) | exact ne 0 _ (by decide) | exact ne _ 0 (by decide)) | exact Src.z4 ER (aN _) (ne 0 _ (by decide))
 refine⟨s'.heap.objs.size+4,[s'.heap.objs.size+4,s'.heap.objs.size+2,s'.heap.objs.size+3,s'.heap.objs.size,s'.heap.objs.size+1],_,_,H1,rfl,I1.kept (t':=s'.toks) kk',TX (s1:=s1) (s2:=s2) L (Src.MK ES (by first | exact aN _ | exact jS _ _)) (Src.MK ER (by first | exact aN _ | exact jS _ _)),⟨gz,gI,⟨_,_,gO⟩,Src.NT g1,Src.NT g2⟩,λb hb=>?_,q s1 s2 iv1 iv2⟩;have bg:s'.heap.objs.size<=b:=by
  simp only [aO,eL,or_false] at hb;rcases hb with h | h | h | h | h <;> (rw [h]; first | exact aN _ | exact jS _ _)
 exact I1.i8 bg (I1.au.fresh bg)
theorem Kr {d:Dt}{c:Nat}(h:ix d=.ex c):False:=by cases d <;> cases h
theorem abn {K:ao}{A:List Addr}{s1 s2:Src}{d1 d2:List Dt}{iu ir:List V}{H1:Hp}(h1:s1.vals K (ar H1 A) iu)(r1:aq K (ar H1 A) d1 iu)(z1:bj d1)(l1:d1.length<=10000)(h2:s2.vals K (ar H1 A) ir)(r2:aq K (ar H1 A) d2 ir)(z2:bj d2)(l2:d2.length<=10000):jP K A (IY K s1 s2) (iQ d1 d2) H1:=by
 have e1:=r1.length;have e2:=r2.length;have hz:(iQ d1 d2).length=min (d1.length) d2.length:=by simp [iQ]
 refine⟨λi H hi s=>⟨iu,ir,Src.mono h1 s,Src.mono h2 s,by omega⟩,λH s=>⟨iu,ir,Src.mono h1 s,Src.mono h2 s,by omega⟩,λi H x H' A' hi L s y=>?_,js λd hd=>?_,by omega⟩
 ·obtain⟨T,x1,x2,rfl,hT,rfl,y1,y2⟩:=y
  have g1:=y1 iu (Src.mono h1 (s.trans bw));obtain⟨c1,k1,q1⟩:=r1.get g1;have g2:=y2 ir (Src.mono h2 (s.trans bw));obtain⟨c2,k2,q2⟩:=r2.get g2;have s2:az H (upd H T (.tup [x1,x2])):=.upd hT;refine⟨s2,.tup [c1,c2],?_,vM (kj L hT) (.cons ((q1.mono s).mono (s2.ar _)) (.cons ((q2.mono s).mono (s2.ar _)) .nil))⟩;simp [iQ,List.getElem?_zip_eq_some,k1,k2]
 ·obtain⟨p,hp,rfl⟩:=aX.mp hd
  have m1:=yp hp;exact⟨by show 2<=10000; decide,iy z1 m1.1,iy z2 m1.2,trivial⟩
theorem Kq {d:Dt}{ds:List Dt}(h:ix d=.ok ds)(z:sm d):bj ds/\ds.length<=10000:=by
 cases d with
 |lst l=>cases h; exact⟨z.2,z.1⟩
 |str l=>cases h; exact⟨zt l,by rw [cL,cg]; exact z⟩
 |_=>cases h
theorem NM {X:Cx}{cls:Nat->Addr}{E:XK}{tl:List Expr}{kk:Nat}{dS p pos:Pos}{a b:Expr}{fs:aa->M (List Dt)}(hg:Gl X "zip")(hm:X.mg "zip" = none)(ha:Av X cls E [a,b] fs)(hs:starEach [a,b] X.env=(false,eval a X.env)::starEach [b] X.env:=by rfl)(en:(backTo pos (starEach [b] X.env)).any (·.1)=false:=by rfl) :
  Iv X cls E (.Tuple tl kk dS) (.Call (.Name "zip" p) [a,b] [] pos) (fH vi fs):=(XT hg hm ha hs en).imp λσ H R ⟨O,A,ρ,F,q⟩=>by
 refine⟨O,A,ρ,F,Rg.bind q λds lL q1=>?_⟩
 clear lL
 intro vs H1 s1 r1 z1;unfold vi at q1
 split at q1
 ·rename_i e1 e2
  obtain⟨v1,v2,rfl,t1,t2⟩:=Ed r1
  cases g1:ix e1 with
  |ex c=>exact(Kr g1).elim
  |bad=>rw [g1] at q1; exact zF q1
  |ok d1=>
   rw [g1] at q1;simp only [bt] at q1
   cases g2:ix e2 with
   |ex c=>exact(Kr g2).elim
   |bad=>rw [g2] at q1; exact zF q1
   |ok d2=>
    rw [g2] at q1;simp only [bt] at q1;obtain⟨k1,a1,b1⟩:=K0 g1 t1;obtain⟨gU,ln1⟩:=Kq g1 z1.1;have aa1:lX k1 X.K H1 v1:=a1.mono bw;obtain⟨k2,a2,b2⟩:=K0 g2 t2;obtain⟨DB,ln2⟩:=Kq g2 z1.2.1;have aa2:lX k2 X.K H1 v2:=a2.mono bw;refine⟨v1,v2,k1,k2,rfl,aa1,aa2,λc1 c2 i1 i2=>?_⟩;obtain⟨iu,m1,n1⟩:=b1 c1 i1;obtain⟨ir,m2,n2⟩:=b2 c2 i2;exact q1 _ H1 s1 (abn m1 n1 gU ln1 m2 n2 DB ln2)
 ·exact zF q1
theorem Hc {ds:List Dt}{i:Nat}{d:Dt}(h:ds[i]?=some d):(f9 ds)[i]?=some (.tup [.int (i:Nat),d]):=by
 have hi:i<ds.length:=(cP.mp h).1;unfold f9;rw [yJ,vc hi,h]
theorem qy (ds:List Dt):(f9 ds).length=ds.length:=by simp [f9]
theorem PZ {ds:List Dt}(z:bj ds):bj (f9 ds):=js λd hd=>by
 obtain⟨i,hi⟩:=List.getElem?_of_mem hd;have aF:i<ds.length:=by
  have:=(cP.mp hi).1
  rwa [qy] at this
 have e:=Hc (ds:=ds) (i:=i) (d:=ds[i]) (by simp [aF]);rw [hi] at e;cases e;exact⟨by show 2<=10000; decide,trivial,iy z (rg aF),trivial⟩
theorem Fj {X:Cx}{cls:Nat->Addr}{E:XK}{tl:List Expr}{kk:Nat}{dS p pos:Pos}{a:Expr}{fs:aa->M (List Dt)}(hg:Gl X "enumerate")(hm:X.mg "enumerate" = none)(ha:Av X cls E [a] fs)(hs:starEach [a] X.env=[(false,eval a X.env)]:=by rfl) :
  Iv X cls E (.Tuple tl kk dS) (.Call (.Name "enumerate" p) [a] [] pos) (fH tR fs):=by
 refine((X2 hg hm ha hs).or (X1 hg hm ha hs)).imp λσ H R h_=>?_;obtain⟨O,A,ρ,F,q⟩:=h_;unfold fH at q
 cases fc:fs ρ with
 |bad=>rw [fc] at q; exact zF q
 |ex c=>refine .inl ⟨O,A,ρ,F,?_⟩; rw [fc] at q ⊢; exact q
 |ok ds=>
  rw [fc] at q;simp only [bt] at q;unfold tR at q
  split at q
  ·rename_i e
   cases e with
   |lst l=>
    refine .inl ⟨O,A,ρ,F,?_⟩;rw [fc];intro vs H1 s1 r1 z1;obtain⟨v,rfl,t⟩:=iS r1;obtain⟨p,xs,rfl,h1,h2⟩:=dJ t;have hl:=h2.length;refine⟨p,xs,rfl,bw.seq h1,q _ H1 s1 ⟨λi H hi s=>⟨xs,s.seq h1,by rw [qy] at hi; omega⟩,λH s=>⟨xs,s.seq h1,by rw [qy]; exact hl⟩,λi H x H' A' hi L s y=>?_,PZ z1.1.2,by rw [qy]; exact z1.1.1⟩⟩;obtain⟨T,w,rfl,hT,rfl,hw⟩:=y;obtain⟨d,hd,rd⟩:=h2.get (hw xs ((s.trans bw).seq h1));have s2:az H (upd H T (.tup [.int (i:Nat),w])):=.upd hT;exact⟨s2,_,Hc hd,vM (kj L hT) (.cons fT (.cons ((rd.mono s).mono (s2.ar _)) .nil))⟩
   |str l=>
    refine .inr ⟨O,A,ρ,F,?_⟩;rw [fc];intro vs H1 s1 r1 z1;obtain⟨v,rfl,t⟩:=iS r1;have hl:(cL l).length=l.length:=by simp [cL]
    refine⟨l,by rw [cE t],q _ H1 s1 ⟨λi H hi s=>by show i<l.length; rw [qy] at hi; omega,λH s=>by show _=l.length; rw [qy]; exact hl,λi H x H' A' hi L s y=>?_,PZ (zt l),by rw [qy,hl]; exact z1.1⟩⟩;obtain⟨T,c,rfl,hT,rfl,hc⟩:=y;have s2:az H (upd H T (.tup [.int (i:Nat),S [c]])):=.upd hT;exact⟨s2,_,Hc (d:=.str [c]) (by simp [cL,hc]),vM (kj L hT) (.cons fT (.cons iT .nil))⟩
   |_=>exact zF q
  ·exact zF q
theorem OR {o:Option Bd}{d:Dt}(h:gv o=.ok d):o=some (.val d):=by
 unfold gv at h
 split at h
 ·injection h with h; rw [h]
 ·cases h
theorem S8 (c:Nat):(kQ c).length<=8:=by
 unfold kQ
 match c with
 |0=>decide
 |1=>decide
 |2=>decide
 |3=>decide
 |4=>decide
 |5=>decide
 |6=>decide
 |n+7=>simp
section
variable {X:Cx}{cls:Nat->Addr}{E:XK}{body:List Stmt}{B:SM}
theorem afg {iK iA iE:Nat}{cs:List Nat}{xK xA xE T:Str}{c0 c1 c2 c3 c4 c5 c6 CT:Addr}{kw:Nat}{ps:List Str}{p1 p2 p3 p4 p5 p6 p7 p8 p9 q1 q2 q3 q4 q5 q6 q7 q8 q9 r1 r2 r3 r4:Pos}{j1 j2 j3:Nat}
  (hc:X.calm=true) (lB:X.stack=X.env::X.outer/\X.env.frame=some X.env.locals) (hex:X.ex=[]) (hN:X.N.Nodup) (hK:X.N[iK]?=some xK) (hA:X.N[iA]?=some xA) (hE:X.N[iE]?=some xE)
  (lK:X.env.scope.names.lookup xK=some .local) (lA:X.env.scope.names.lookup xA=some .local) (lE:X.env.scope.names.lookup xE=some .local) (Z6:iK≠iE) (nKA:iK≠iA)
  (hg:Gl X T) (hm:X.mg T=some (.ref CT)) (C:nk X.prog X.w X.K X.mg X.base yc kw "_law_word" ps (Ks X.K c0 c1 c2 c3 c4 c5 c6)) (hr:dF kw X.A)
  (hw:∀c∈cs,uy X.K (cls c) c0 c1 c2 c3 c4 c5 c6 c/\exmOne X.K (.ref (cls c)) (.ref CT)=some true)
  (hb:∀pn W E',Passes (bD X.prog X.w) (X.kf pn W) E'->Bv (X.kf pn W) cls E' body B)
  (dK:(xK==("__debug__" : Str))=false:=by decide) (dA:(xA==("__debug__" : Str))=false:=by decide) (dE:(xE==("__debug__" : Str))=false:=by decide)
  (eK:(xK==("__classdict__" : Str))=false:=by decide) (eA:(xA==("__classdict__" : Str))=false:=by decide) (eE:(xE==("__classdict__" : Str))=false:=by decide)
  (s1:swapsWith (.Constant .none j1 p2) (some (.Name xK p1)) p3.line X.env=pure false:=by rfl) (s2:swapsWith (.Constant .none j2 p5) (some (.Name xA p4)) p6.line X.env=pure false:=by rfl)
  (s3:swapsWith (.Name xE q2) (some (.Name xK q1)) q3.line X.env=pure false:=by rfl) (gw:Gl X "_law_word" := by rfl) (dT:(T==("__debug__" : Str))=false:=by decide) :
  Bv X cls E [.Assign [.Name xK p1] (.Constant .none j1 p2) p3,.Assign [.Name xA p4] (.Constant .none j2 p5) p6,
   .Try body [.ExceptHandler (some (.Name T p7)) (some xE) [.Assign [.Name xK q1] (.Name xE q2) q3] p8] [] [] p9,
   .If (.Compare (.Name xK q4) [.Is] [.Constant .none j3 q5] q6) [.Return (some (.Name xA q7)) q8] [] q9,
   .Return (some (.Call (.Name "_law_word" r1) [.Name xK r2] [] r3)) r4] (zD cs iK iA B):=by
 have P1:PS X (.Assign [.Name xK p1] (.Constant .none j1 p2) p3) _:=nR (i:=iK) hN hK (.inl lK) Et s1 (.inr lK);have P2:PS X (.Assign [.Name xA p4] (.Constant .none j2 p5) p6) _:=nR (i:=iA) hN hA (.inl lA) Et s2 (.inr lA);have P3:PS X (.Try body [.ExceptHandler (some (.Name T p7)) (some xE) [.Assign [.Name xK q1] (.Name xE q2) q3] p8] [] [] p9) _:=
  XC (iN:=iE) (tb:=λE'=>sM X.K cls E' B) hc lB hex hN hE lE hg hm hb (λpn ea=>sF (nR (X:=X.pS pn ea) (i:=iK) hN hK (.inl lK) (vR (X:=X.pS pn ea) (i:=iE) hE (.inl lE) dE eE) s3 (.inr lK))) dT
 have P4:PS X (.If (.Compare (.Name xK q4) [.Is] [.Constant .none j3 q5] q6) [.Return (some (.Name xA q7)) q8] [] q9) _:=Ei (XB (Yo (vR (i:=iK) hK (.inl lK) dK eK))) (sF (vP (vR (i:=iA) hA (.inl lA) dA eA))) Eh;have P5:PS X (.Return (some (.Call (.Name "_law_word" r1) [.Name xK r2] [] r3)) r4) _:=vP (L8 C hr Yr (bV _ _ _ _ _ rfl (vR (i:=iK) hK (.inl lK) dK eK) fF) rfl gw)
 intro pins s σ H D I ⟨aC,A₀,ρ,⟨os,s0,L0,fr,F⟩,q⟩;refine(nQ P1 (nQ P2 (nQ P3 (nQ P4 (sF P5))))) pins s σ H D I ?_;have iKn:iK<X.N.length:=(cP.mp hK).1;have iEn:iE<X.N.length:=(cP.mp hE).1;unfold zD at q;refine⟨aC,A₀,gB iA .ax (gB iK .ax ρ),⟨os,s0,L0,fr,(F.put iK zN trivial).put iA zN trivial⟩,?_⟩
 cases hB:B (gB iA .ax (gB iK .ax ρ)) with
 |bad=>rw [hB] at q; exact q
 |ok fl=>
  rw [hB] at q
  cases fl with
  |bk aW=>exact zF q
  |ct aW=>exact zF q
  |rt d=>exact zF q
  |nx aW=>
   intro aD H' ⟨gD,s',L',kn,F'⟩;have q':jM X.K cls E aC A₀ (match gv aW[iK]? with | .ok .ax=>(ae iA aW).bd (λd=>.ok (.rt d)) | _=>.bad) D:=q
   split at q'
   ·rename_i hk
    obtain⟨v,h1,h2,_⟩:=F'.val iK _ (OR hk);have hv:v=.ax:=by simpa only [Rep] using h2
    subst hv;refine⟨.ax,h1,true,rfl,?_⟩;show Ka (oZ iA) D aD H'
    cases tE:ae iA aW with
    |ok d=>
     rw [tE] at q';obtain⟨u,g1,g2,g3⟩:=F'.val iA _ (OR tE);exact⟨u,g1,q' u H' s' (g2.mono Ot) g3⟩
    |ex c=>unfold ae gv at tE; split at tE <;> cases tE
    |bad=>rw [tE] at q'; exact zF q'
   ·exact zF q'
 |ex c=>
  rw [hB] at q;have q':jM X.K cls E aC A₀ (if c∈cs then .ok (.rt (.str (kQ c))) else .bad) D:=q
  split at q'
  ·rename_i hcs
   obtain⟨w1,w2⟩:=hw c hcs;intro H' s';intro ea C' e hW;cases e;refine⟨w2,?_⟩;have hlen:((σ.set iK (some .ax)).set iA (some .ax)).length=X.N.length:=by rw [List.length_set,List.length_set]; exact I.len
   rw [hlen];have l1:((bM X.N.length (none:Option V)).set iE (some (.ref ea)))[iE]?=some (some (.ref ea)):=by
    rw [nE (by rw [qM]; exact iEn)]
   have l2:((((bM X.N.length (none:Option V)).set iE (some (.ref ea))).set iK (some (.ref ea))).set iE none)[iK]?=some (some (.ref ea)):=by
    rw [kL (cz Z6),nE (by rw [List.length_set,qM]; exact iKn)]
   refine⟨.ref ea,l1,?_⟩;refine⟨.ref ea,l2,false,rfl,?_⟩;refine⟨.ref ea,l2,?_⟩;refine⟨ea,cls c,c,rfl,bY,w1,λH'' gX=>?_⟩;exact q' _ _ ((s'.trans (az.upd hW)).trans gX) iT (by have:=S8 c; simp only [sm]; omega)
  ·exact zF q'
end
end L2
namespace L2
open PySem PySem.Spec
theorem K8:BP.lookup (String.ofList ['d','e','s','r','e','v','e','r'].reverse)
  = some Manifest.sig_reversed:=by kernel_rfl
theorem vK:Slot "reversed" "__next__" "reversed.__next__" := by
 refine .of (owner:="reversed") (n:="__next__") ?_ ?_ ?_ ?_ ?_ ?_
 ·rw [typeLookup_type,builtinLookup_eq_fast]
  kernel_rfl
 ·decide +kernel
 ·decide +kernel
 ·decide +kernel
 ·first
  |exact .inl (by decide +kernel)
  |exact .inr (by decide +kernel)
 ·rw [isSubtype_type]
  kernel_rfl
theorem Ld:Slot "reversed" "__iter__" "reversed.__iter__" := by
 refine .of (owner:="reversed") (n:="__iter__") ?_ ?_ ?_ ?_ ?_ ?_
 ·rw [typeLookup_type,builtinLookup_eq_fast]
  kernel_rfl
 ·decide +kernel
 ·decide +kernel
 ·decide +kernel
 ·first
  |exact .inl (by decide +kernel)
  |exact .inr (by decide +kernel)
 ·rw [isSubtype_type]
  kernel_rfl
theorem WM:Slot "reversed" "__init__" "object.__init__" := by
 refine .of (owner:="object") (n:="__init__") ?_ ?_ ?_ ?_ ?_ ?_
 ·rw [typeLookup_type,builtinLookup_eq_fast]
  kernel_rfl
 ·decide +kernel
 ·decide +kernel
 ·decide +kernel
 ·first
  |exact .inl (by decide +kernel)
  |exact .inr (by decide +kernel)
 ·rw [isSubtype_type]
  kernel_rfl
theorem K9:entryFor table "reversed.__next__" = some Builtin.«reversed.__next__» := by
 apply entryFor_of_tree
 kernel_rfl
theorem WE:entryFor table "reversed.__new__" = some Builtin.«reversed.__new__» := by
 apply entryFor_of_tree
 kernel_rfl
theorem WI:entryFor table "reversed.__iter__" = some Builtin.«dict_keyiterator.__iter__» := by
 apply entryFor_alias (id':="dict_keyiterator.__iter__")
 ·kernel_rfl
 ·first
  |rfl
  |decide +kernel
  | (unfold yk; simp +decide [yu])
 ·decide +kernel
 ·kernel_rfl
theorem La (a:Value):argsOk "reversed.__next__" ⟨[a],[]⟩:=by
 unfold argsOk;rw [signature?_of (id:="reversed.__next__") (n:=['_','_','t','x','e','n','_','_']) (o:=['d','e','s','r','e','v','e','r']) (by kernel_rfl) K8]
 kernel_rfl
theorem WJ (a:Value):argsOk "reversed.__iter__" ⟨[a],[]⟩:=by
 unfold argsOk;rw [signature?_of (id:="reversed.__iter__") (n:=['_','_','r','e','t','i','_','_']) (o:=['d','e','s','r','e','v','e','r']) (by kernel_rfl) K8]
 kernel_rfl
theorem Lb:mroOf (.type "reversed")=pure [.type "reversed",.type "object"]:=by
 rw [mroOf_type]
 kernel_rfl
theorem WH:typeLookup (.type "reversed") "__new__" = pure (some (.builtin "reversed.__new__")):=by
 rw [typeLookup_type,builtinLookup_eq_fast]
 kernel_rfl
theorem WQ:TypeCalled "reversed" "reversed.__new__" "object.__init__" := by
 refine⟨?_,?_,⟨_,_,Lb⟩,madeBy_type Lb WH ?_,?_,?_,WM⟩
 ·decide +kernel
 ·decide +kernel
 ·decide +kernel
 ·decide +kernel
 ·rw [isSubtype_type]
  kernel_rfl
theorem WB (a:Value):checkTypeCall "reversed" ⟨[a],[]⟩=pure ():=by kernel_rfl
theorem WG (a:Value):checkBuiltinCall "reversed.__new__" ⟨[.type "reversed",a],[]⟩=pure ():=by kernel_rfl
noncomputable def nN (l:List Nat)(t:Tok)(i:Int):Obj:={cls:=.type "reversed",data:=.fields #[.str ⟨l.toArray⟩ t,rawInt i]}
theorem WC:isSubtype (.type "reversed") (.type "reversed")=pure true:=by
 rw [isSubtype_type]
 kernel_rfl
theorem WD:typeLookup (.type "str") (iO "__reversed__")=pure none:=by
 rw [typeLookup_type,builtinLookup_eq_fast]
 kernel_rfl
theorem WO:isSubtype (.type "str") (.type "dict")=pure false:=by
 rw [isSubtype_type]
 kernel_rfl
theorem Le:typeLookup (.type "str") (iO "__getitem__")=pure (some (.builtin "str.__getitem__")):=by
 rw [typeLookup_type,builtinLookup_eq_fast]
 kernel_rfl
theorem aah (l:List Nat)(t:Tok):Meets (Builtin.«reversed.__new__» ⟨[.type "reversed",.str ⟨l.toArray⟩ t],[]⟩) (λ_ R s=>l.length<=100000/\R (.ok (.ret (.ref s.heap.objs.size))) {s with heap:=s.heap.push (nN l t ((l.length:Int) - 1)),toks:=s.toks+1+1}):=
 .of_wp λprog w A R s h=>by
  obtain⟨hp,g,d,tk,os⟩:=s;obtain⟨hl,h⟩:=h;have wN:=WC
  wp_walk
  refine wpAny_of_eq WD ?_
  dsimp only
  refine wpAny_bind ?_;show wpAny _ _ (isInstance (.str ⟨l.toArray⟩ t) (.type "dict") >>= _) _ _ _
  wp_walk
  refine wpAny_of_eq WO ?_;rw [if_neg fA]
  wp_walk
  refine wpAny_of_eq Le ?_
  try dsimp only
  rw [if_pos (by decide +kernel)];refine wpAny_pure ?_;rw [if_neg (by decide)];refine wpAny_bind (PyProof.Rows.len_str (by show ¬ ((l.toArray.size:Nat):Int)≥2 ^ 63; simp; omega) ?_)
  wp_walk
  refine⟨_,rfl,?_⟩;have hz:(gP ⟨l.toArray⟩)=l.length:=by simp [gP]
  rw [hz];exact h
theorem Lc {prog:Program}{w:World}{A:Around}{E:Value->Shared->Prop}{s:Shared}{a:Addr}{l:List Nat}{t:Tok}{i:Int}{Q:Value->Shared->Prop}(h:s.heap.get? a=some (nN l t i))(q:Q (.ref a) s):wpAny (model prog w) A (pyIter (.ref a)) Q E s:=by
 have hT:s.TypeIs (.ref a) "reversed" := ⟨_,h,rfl⟩
 refine wpAny_pyIter_slot hT Ld (wpAny_call_entry Ld hT WI ?_ (WJ _));show wpAny _ _ (ret (.ref a)) _ _ s;exact wpAny_pure ⟨_,rfl,"reversed",_,hT,vK.lookup,q⟩
theorem WK {prog:Program}{w:World}{A:Around}{E:Value->Shared->Prop}{s:Shared}{a:Addr}{l:List Nat}{t:Tok}{i c:Nat}{Q:Option Value->Shared->Prop}(h:s.heap.get? a=some (nN l t (i:Nat)))(hc:l[i]?=some c)(hl:l.length<=100000)
  (hQ:∀h' u tk,h'.get? a=some (nN l t ((i:Int) - 1))->fQ a s.heap h'->Q (some (.str ⟨#[c]⟩ u)) {s with heap:=h',toks:=tk}):wpAny (model prog w) A (pyNext (.ref a)) Q E s:=by
 have hT:s.TypeIs (.ref a) "reversed" := ⟨_,h,rfl⟩
 unfold pyNext;refine wpAny_bind (wpAny_attempt (wpAny_callSpecial?_slot (name:=iO "__next__") hT vK (wpAny_call_entry vK hT K9 ?_ (La _))))
 unfold Builtin.«reversed.__next__»;refine wpAny_bind (wpAny_of_eq (a:=(bx a,[])) rfl ?_)
 dsimp only
 refine wpAny_bind (wpAny_field h rfl (x:=.str ⟨l.toArray⟩ t) rfl ?_);refine wpAny_bind (wpAny_field h rfl (x:=rawInt (i:Int)) rfl ?_);show wpAny _ _ (if (i:Int)<0 then _ else _) _ _ _;rw [if_neg (by omega)];refine wpAny_bind (wpAny_specialOf (typeIs_str s _ t) Le ?_);rw [if_neg (by decide)];refine wpAny_bind (wpAny_mkInt ?_);have hi:i<l.length:=(cP.mp hc).1;have hx:(seqIndex? (i:Int) (gP ⟨l.toArray⟩)).bind ((⟨l.toArray⟩:Str).cps[·]?)=some c:=by
  have:seqIndex? (i:Int) (gP ⟨l.toArray⟩)=some i:=by
   unfold seqIndex?;simp [gP];omega
  rw [this];simpa using hc
 refine wpAny_bind (wpAny_attempt (PyProof.Rows.getItem_str (by simp; omega) hx ?_))
 try dsimp only
 refine wpAny_bind (wpAny_field h rfl (x:=rawInt (i:Int)) rfl ?_);show wpAny _ _ (setField (.ref a) 1 (rawInt ((i:Int) - 1)) >>= _) _ _ _;refine wpAny_bind (wpAny_setField_rec h (by simp) λg0 h0 s0=>wpAny_pure ⟨_,rfl,wpAny_pure ?_⟩);exact hQ g0 _ _ h0 s0
theorem WN {prog:Program}{w:World}{A:Around}{E:Value->Shared->Prop}{s:Shared}{a:Addr}{l:List Nat}{t:Tok}{Q:Option Value->Shared->Prop}(hh:A.handled=none)(h:s.heap.get? a=some (nN l t (-1)))
  (hQ:∀h' tk,Heap.ExtBut a s.heap h'->Q none {s with heap:=h',toks:=tk}):wpAny (model prog w) A (pyNext (.ref a)) Q E s:=by
 have hT:s.TypeIs (.ref a) "reversed" := ⟨_,h,rfl⟩
 unfold pyNext;refine wpAny_bind (wpAny_attempt (wpAny_callSpecial?_slot (name:=iO "__next__") hT vK (wpAny_call_entry vK hT K9 ?_ (La _))))
 unfold Builtin.«reversed.__next__»;refine wpAny_bind (wpAny_of_eq (a:=(bx a,[])) rfl ?_)
 dsimp only
 refine wpAny_bind (wpAny_field h rfl (x:=.str ⟨l.toArray⟩ t) rfl ?_);refine wpAny_bind (wpAny_field h rfl (x:=rawInt (-1)) rfl ?_);show wpAny _ _ (if (-1:Int)<0 then _ else _) _ _ _;rw [if_pos (by decide)];refine wpAny_bind (wpAny_rule ?_);refine wpAny_bind ?_;show wpAny _ _ (setField (.ref a) 1 (rawInt (-1)) >>= λ_=>setField (.ref a) 0 .none) _ _ _;refine wpAny_bind (wpAny_setField_rec h (by simp) λg0 h0 s0=>?_);refine wpAny_setField_rec h0 (by simp) λg1 h1 s1=>?_;refine wpAny_bind ?_;have wX:A.in1.handled=none:=hh
 wp_walk using wX
 simp only [raiseNew];refine wpAny_bind (wpAny_handled ?_);rw [wX];refine wpAny_bind (wpAny_pure (wpAny_throw ?_));refine wpAny_bind (wpAny_isInstance (b:=true) (T:="StopIteration") ⟨_,bE _ rfl,rfl⟩ isSubtype_stop ?_)
 refine wpAny_pure (hQ _ _ λb o hb e=>?_);refine aI _ (aI _ ?_);exact s1.extBut b o hb (s0.extBut b o hb e)
end L2
namespace L2
open PySem PySem.Spec PyProof.Rows PySem.W
theorem WZ {l:List Nat}{i:Nat}(h:i<l.length):l.reverse[i]?=l[l.length - 1 - i]?:=List.getElem?_reverse h
theorem T2 {P:Program}{w:World}{K:ao}{tg:Expr}(it:Addr)(l:List Nat)(t:Tok)(hl:l.length<=100000) :
  Turn P w K tg (xV (dH l.reverse)) [it] it (λi h=>i<=l.length/\h.get? it=some (nN l t ((l.length:Int) - 1 - (i:Nat)))):=by
 refine⟨by simp,λi h st b hb=>?_,λi h h' st k=>?_,?_,?_,?_⟩
 ·have e:b=it:=by simpa using hb
  subst e;exact⟨_,st.2,λv z=>nomatch z⟩
 ·exact⟨st.1,k it (by simp) _ st.2⟩
 ·intro X hP hw hK hc i pins s σ H E I hf st hg
  subst hP hw hK;obtain⟨f0,f1,f2,f3,f4,f5⟩:=hf it (by simp);have hi:i<l.length:=by simpa [dH] using (show i<(dH l.reverse).length from hg)
  have aF:l.length - 1 - i<l.length:=by omega
  have lM:l[l.length - 1 - i]?=some l[l.length - 1 - i]:=by simp [aF]
  have e1:(l.length:Int) - 1 - (i:Nat)=((l.length - 1 - i:Nat):Int):=by omega
  have e2:((l.length - 1 - i:Nat):Int) - 1=(l.length:Int) - 1 - ((i+1:Nat):Nat):=by omega
  obtain⟨hle,st⟩:=st;rw [e1] at st;refine WK st lM hl λh' u tk cT kk ht=>?_;rw [e2] at cT;have I1:Inv X pins σ H {s with heap:=h',toks:=tk}:=I.turned (λb o hb e=>kk.extBut b o (by simpa using hb) e) f0 f1 f3 f4 f5;refine⟨_,rfl,qo (s:={s with heap:=h',toks:=tk}) (n:="reversed") cT rfl rfl (by decide) (λ_=>⟨S [l[l.length - 1 - i]],H,I1,⟨u,rfl⟩,⟨rfl,?_⟩,⟨by omega,cT⟩,λb hb=>(hf b hb).1⟩)⟩
  have:l.reverse[i]?=some l[l.length - 1 - i]:=by rw [WZ hi,lM]
  simp only [dH,gR,this];rfl
 ·intro X hP hw hK hc i pins s σ H E I hf st hg
  subst hP hw hK;obtain⟨f0,f1,f2,f3,f4,f5⟩:=hf it (by simp);have hi:l.length<=i:=by simpa [dH] using (show (dH l.reverse).length<=i from hg)
  obtain⟨hle,st⟩:=st;have e:i=l.length:=by omega
  subst e;rw [show (l.length:Int) - 1 - (l.length:Nat) = -1 by omega] at st;exact WN (I.ok.hd hc) st λh' tk eb=>(λht=>⟨rfl,I.turned (t':=tk) (λb o hb e=>eb b o hb e) f0 f1 f3 f4 f5⟩)
 ·intro A i s Q E st h
  exact Lc st.2 h
theorem WL (a b:Value):argsOk "object.__init__" ⟨[a,b],[]⟩:=by
 unfold argsOk;rw [signature?_of (id:="object.__init__") (n:=['_','_','t','i','n','i','_','_']) (o:=['t','c','e','j','b','o']) (by kernel_rfl) F.owner_object]
 kernel_rfl
noncomputable def abH (ta:TA):TI:=λσ H R=>ta σ H λvs H1=>∃l,vs=[S l]/\l.length<=100000/\R (xV (dH l.reverse)) H1
theorem XX {X:Cx}{tg:Expr}{a:Expr}{ta:TA}{p pos:Pos}(hg:Gl X "reversed")(hm:X.mg "reversed" = none)(ha:PA X [a] ta)(hs:starEach [a] X.env=[(false,eval a X.env)]:=by rfl) :
  PI X tg (.Call (.Name "reversed" p) [a] [] pos) (abH ta):=by
 intro pins s σ H R I h;refine Call_ (g6 I hg hm boot_reversed (jW (aB (ha pos pins s σ H _ I h) λus s1 ⟨vs,H1,I1,r1,q1⟩=>?_) hs rfl));obtain⟨l,e,hl,q⟩:=q1;subst e
 cases r1 with
 |cons r rr=>
  cases rr;obtain⟨t,rfl⟩:=r;refine callType_new WQ (by decide) (WB _) (WG _) (λobj=>WL obj _) WE (aah l t) ⟨hl,?_⟩;have gz:(s1.heap.push (nN l t ((l.length:Int) - 1))).get? s1.heap.objs.size=some (nN l t ((l.length:Int) - 1)):=bE _ rfl;refine⟨⟨_,gz,rfl⟩,λ_=>Lc gz λ_=>?_⟩;refine⟨s1.heap.objs.size,[s1.heap.objs.size],_,_,H1,rfl,I1.kept (t':=s1.toks+1+1) λb o e=>aI _ e,T2 _ l t hl,⟨fP _,?_⟩,λb hb=>?_,q⟩
  ·rw [show (l.length:Int) - 1 - ((0:Nat):Nat)=(l.length:Int) - 1 by omega]
   exact gz
  ·have e:b=s1.heap.objs.size:=by simpa using hb
   subst e;exact I1.i8 (aN _) (I1.au.fresh (aN _))
theorem abj {X:Cx}{cls:Nat->Addr}{E:XK}{tg:Expr}{p pos:Pos}{a:Expr}{fs:aa->M (List Dt)}(hg:Gl X "reversed")(hm:X.mg "reversed" = none)(ha:Av X cls E [a] fs)(hs:starEach [a] X.env=[(false,eval a X.env)]:=by rfl) :
  Iv X cls E tg (.Call (.Name "reversed" p) [a] [] pos) (fH zL fs):=
 (XX hg hm ha hs).imp λσ H R ⟨O,A,ρ,F,q⟩=>by
 refine⟨O,A,ρ,F,Rg.bind q λds lL q1=>?_⟩
 clear lL
 intro vs H1 s1 r1 z1;unfold zL at q1
 split at q1
 ·rename_i l
  obtain⟨v,rfl,rv⟩:=iS r1;have hl:l.length<=10000:=z1.1;have e:(cL l).reverse=cL l.reverse:=by simp [cL]
  rw [e] at q1;exact⟨l,by rw [cE rv],by omega,q1 _ H1 s1 (NR (zM l.reverse) (zt l.reverse) (by rw [cL,cg,List.length_reverse]; exact hl))⟩
 ·exact zF q1
theorem Zd {P:Program}{w:World}{K:ao}{mg:Str->Option Value}{base:Heap}{CX:il}{k:Nat}{f:Addr}{fd:FuncData}{ps:List Str}{cls:Nat->Addr}:fN P w K mg base CX k f fd ps (k8 K cls (λ_=>.bad)):=by
 refine⟨λvs H Q E h=>?_,λA outer s H args us vs Q E hr=>?_⟩
 ·obtain⟨_,_,_,_,_,z⟩:=h
  exact zF z
 ·intro _ _ _ _ h
  obtain⟨_,_,_,_,_,z⟩:=h;exact zF z
theorem Lq {h:Heap}:∀{ns:List Int}{us:List Value},Vals (ns.map V.int) us->ReadsAll h us (ns.map ip) []
 | [],us,r=>by cases r; exact .nil
 |n::ns,us,r=>by
  cases r with
  |cons r1 r2=>
   obtain⟨t,rfl⟩:=r1;exact ReadsAll.cons (as:=[]) (bs:=[]) (.int n t) (Lq r2)
theorem KP:∀{ns:List Int},(∀n∈ns,-2<=n/\n<=20)->PyData.showableAll (ns.map ip)=true/\BU (ns.map ip)=false/\((qX (ns.map ip)).map (·.length)).sum<=13 * ns.length/\(qX (ns.map ip)).length=ns.length/\ym (ns.map ip)<=5
 | [],_=>⟨rfl,rfl,by simp [qX],rfl,by simp [ym]⟩
 |n::ns,h=>by
  obtain⟨h1,h2,h3,h4,h5⟩:=KP (ns:=ns) λm hm=>h m (bR _ hm);obtain⟨b1,b2⟩:=h n bu;obtain⟨_,i2⟩:=NX b1 b2;have i3:=PyData.shown_int_le (i:=n) (by omega);refine⟨?_,?_,?_,?_,?_⟩
  ·simp only [a5,PyData.showableAll,PyData.showable,h1,Bool.and_true,decide_eq_true_eq]
   exact i2
  ·simp only [a5,BU,PyData.hasDict,h2]
   rfl
  ·simp only [a5,qX,qS,cQ]
   omega
  ·simp only [a5,qX,cQ,h4]
  ·simp only [a5,ym,PyData.depth]
   omega
theorem Yg {X:Cx}{k:Nat}{a:Expr}{ta:TE}{pos:Pos}(hr:dF k X.A)(ha:PE X a ta):PE X (.FormattedValue a (-1) none pos) (λσ H Q=>ta σ H λv H1=>∃(p:Addr) (ns:List Int),v=.ref p/\bz X.K H1 p (ns.map V.int)/\ns.length<=50/\(∀n∈ns,-2<=n/\n<=20)/\∀l:Str,l.length<=1000->Q (.str l) H1):=by
 intro pins s σ H Q I h;refine wpAny_FormattedValue_plain (aB (ha pins s σ H _ I h) λv s1 ⟨x,H1,I1,r1,p,ns,e,hq,hl,hn,q⟩=>?_);subst e;obtain rfl:v=bx p:=r1;obtain⟨ak,r,pl,hz⟩:=I1.list hq;obtain⟨o,ho,hc,n,hd⟩:=pl.isList;obtain⟨h1,h2,h3,h4,h5⟩:=KP hn;have rd:Reads s1.heap (.ref p) (.list (ns.map ip)) (p::[]):=.list ho hc hd (by simpa using Lq r);have hlen:=listText_len_le (qX (ns.map ip));have hs:(PyData.shown (.list (ns.map ip))).length<=1000:=by
  show (listText _).length<=1000;rw [h4] at hlen;omega
 have hsz:(PyData.shown (.list (ns.map ip))).length<=sizeLine:=bH hs (by decide);have hu:=hr.un;refine formatField_of_reads rd h1 (λz=>by rw [show PyData.hasDict (.list (ns.map ip))=BU (ns.map ip) from rfl,h2] at z; cases z) hr.gd (by
  have:PyData.depth (.list (ns.map ip))=ym (ns.map ip)+1:=rfl
  omega) (λ_ _ e=>e) (λh' u tk hk=>(λht=>⟨.str _,H1,I1.kept (t':=tk) hk,⟨u,rfl⟩,q _ hs⟩)) hsz
theorem KC:∀{ds:List Dt},ds.all vE=true->∃ns:List Int,ds=ns.map Dt.int/\∀n∈ns,-2<=n/\n<=20
 | [],_=>⟨[],rfl,λn hn=>by cases hn⟩
 |d::ds,h=>by
  rw [mj,eY] at h;obtain⟨ns,e,hn⟩:=KC h.2
  cases d with
  |int i=>
   simp only [vE,eY,decide_eq_true_eq] at h;refine⟨i::ns,by rw [e]; rfl,λn hm=>?_⟩;rcases aO.mp hm with z | z
   ·subst z; exact h.1
   ·exact hn n z
  |_=>exact(fA h.1).elim
theorem Ll {K:ao}{H:Hp}:∀{ns:List Int}{xs:List V},aq K H (ns.map Dt.int) xs->xs=ns.map V.int
 | [],_,h=>by simpa only [kF,aq] using h
 |n::ns,_,h=>by
  simp only [a5,aq,Rep] at h;obtain⟨x,r,rfl,rfl,h⟩:=h;rw [Ll h];rfl
theorem Ts {X:Cx}{cls:Nat->Addr}{E:XK}{k:Nat}{x:Str}{j}{p p' pos:Pos}{a:Expr}{f:aa->M Dt}(hr:dF k X.A)(h:Ev X cls E a f)(hx:x.length<=1000:=by decide +kernel):Uv X cls E (.JoinedStr [.Constant (.str x) j p,.FormattedValue a (-1) none p'] pos) (CW f):=
 (Yf (zR (x:=x)) (Yg hr h)).imp λσ H Q ⟨O,A,ρ,F,q⟩=>by
 refine⟨_,rfl,hx,O,A,ρ,F,Rg.bind q λd _ q1=>?_⟩;intro v H' s' r z
 cases d with
 |lst ds=>
  simp only [y0] at q1
  split at q1
  ·rename_i hi
   obtain⟨ns,rfl,hn⟩:=KC hi.2;obtain⟨pp,xs,rfl,hq,rr⟩:=dJ r;have:=Ll rr;subst this;refine⟨pp,ns,rfl,bw.seq hq,by simpa using hi.1,hn,λl hl=>⟨l,rfl,hl,λz=>q1 _ H' s'⟩⟩
  ·exact zF q1
 |_=>exact zF q1
theorem aek {α:Type}[DecidableEq α](l:List α)(k:α):(l++[k]).eraseDups.length=if k∈l then l.eraseDups.length else l.eraseDups.length+1:=by
 rw [vg,jU]
 by_cases h:k∈l
 ·have:[k].removeAll l=[]:=by simp [qU,h]
  rw [if_pos h,this];rfl
 ·have:[k].removeAll l=[k]:=by simp [qU,h]
  rw [if_neg h,this];rfl
theorem Qg {α:Type}[DecidableEq α]:∀(n:Nat) (l:List α),l.length=n->l.eraseDups.length<=n
 |0,l,h=>by rw [oH.mp h]; exact aN _
 |n+1,l,h=>by
  have bF:l≠[]:=λe=>by rw [e] at h; cases h
  have e:=List.dropLast_concat_getLast bF;have hl:l.dropLast.length=n:=by rw [List.length_dropLast,h]; rfl
  have:=Qg n l.dropLast hl;rw [← e,aek]
  split <;> omega
section
variable {prog:Program}{w:World}{A:Around}{E:Value->Shared->Prop}{s:Shared}{Kt:Type}[DecidableEq Kt]{knd:KeyKind prog w Kt}
noncomputable abbrev gW (led:Bool):Obj:={cls:=.type "set",dict:=none,data:=.set #[] 0 (.fresh 0 0 led)}
end
noncomputable def txt (l:List Nat):Str:=⟨l.toArray⟩
theorem JZ (a b:List Nat)(h:txt a=txt b):a=b:=by
 injection h with h;simpa using congrArg mi h
theorem Q1 {α:Type}[DecidableEq α](i:BEq α)[LawfulBEq α]:(instBEqOfDecidableEq:BEq α)=i:=by
 cases i with
 |mk g=>
  have:(λa b:α=>decide (a=b))=g:=by
   funext a b
   have h:(g a b=true)↔a=b:=@beq_iff_eq α ⟨g⟩ _ a b;rw [jR,h,decide_eq_true_eq]
  exact congrArg BEq.mk this
section
variable {X:Cx}{cls:Nat->Addr}{E:XK}{a b e dE o:Expr}{f g:aa->M Dt}{fs:aa->M (List Dt)}{pos p kp:Pos}
theorem ints_rep {K:ao}{H:Hp}:∀{ds:List Dt}{ns:List Int}{xs:List V},lz ds=some ns->aq K H ds xs->xs=ns.map V.int
 | [],ns,xs,h,r=>by
  simp only [aq] at r;simp only [lz,jT] at h;subst r h;rfl
 |d::ds,ns,xs,h,r=>by
  simp only [aq] at r;obtain⟨x,t,rfl,r1,r2⟩:=r
  cases d with
  |int i=>
   simp only [lz,gr] at h;obtain⟨cs,hc,rfl⟩:=h;simp only [Rep] at r1;rw [ints_rep hc r2,a5,r1]
  |_=>simp [lz] at h
noncomputable def iv (ns:List Int)(i:Nat):Int:=ns.getD i 0
theorem pre_take (ns:List Int):∀k,k<=ns.length->preSum (iv ns) k=(ns.take k).sum
 |0,_=>by simp [preSum]
 |k+1,h=>by
  have hk:k<ns.length:=by omega
  simp only [preSum,pre_take ns k (by omega)];rw [yv,List.sum_append];simp [iv,hk]
theorem sum_bound:∀(ns:List Int),(∀n∈ns,-1000000<=n/\n<=1000000)->-(1000000 * (ns.length:Int))<=ns.sum/\ns.sum<=1000000 * (ns.length:Int)
 | [],_=>by simp
 |n::ns,h=>by
  have ih:=sum_bound ns λx hx=>h x (bR _ hx);have hn:=h n (bu ..);rw [qS,cQ]
  push_cast
  omega
theorem ae4 (hc:X.calm=true):uI X cls E (.builtin "sum") Bo:=by
 refine⟨λxs H Q=>∃(p:Addr) (ns:List Int),xs=[.ref p]/\bz X.K H p (ns.map V.int)/\ns.length<=1000/\(∀n∈ns,-1000000<=n/\n<=1000000)/\Q (.int ns.sum) H,?_,λA H Q ds vs L r z q=>?_⟩
 ·intro pins s σ H xs us Q I r ⟨p,ns,e,hq,hl,hb,q⟩
  subst e;obtain⟨u,rfl,ru⟩:=r.one;cases ru;obtain⟨ak,rv,pl,hz⟩:=I.list hq;have aF:p<s.heap.objs.size:=by obtain⟨o,n,e,_⟩:=pl; exact aK e
  have hlen:ak.length=ns.length:=by have:=rv.length; simpa using this.symm
  refine call_sum_walk (wpAny_pyIter_list pl.isList ⟨_,_,_,_,_,_,iv ns,rfl,Walks.list (A:=X.A.in1) (I.ok.hd hc) s.heap.objs.size p (a9 aF) ak.toArray,⟨⟨_,bE _ rfl,rfl,rfl⟩,pl.isList.push _⟩,?_,λi v hv=>?_,λj hj=>?_,λh' tk t' hk=>?_⟩)
  ·intro b bg
   have tG:b=s.heap.objs.size∨b=p:=by simpa using bg
   rw [gk];rcases tG with rfl | rfl
   ·exact uW _
   ·exact l8 aF
  ·have wL:ak[i]?=some v:=by simpa using hv
   have hi:i<ak.length:=(cP.mp wL).1;have n9:i<ns.length:=by omega
   obtain⟨u,hu,ru⟩:=rv.get (i:=i) (x:=.int ns[i]) (by simp [n9]);rw [wL] at hu;cases hu;obtain⟨t,rfl⟩:=ru;exact⟨t,by simp [iv,n9]⟩
  ·have Om:j<ns.length:=by simp at hj; omega
   have h1:=hb (iv ns j) (by simp [iv,Om]);rw [pre_take ns (j+1) (by omega)];have h2:=sum_bound (ns.take (j+1)) λn hn=>hb n (nD hn);rw [nv] at h2;unfold InLong;omega
  ·have e:preSum (iv ns) ak.toArray.size=ns.sum:=by
    rw [show ak.toArray.size=ns.length by simp [hlen],pre_take ns _ (aN _),uY]
   rw [e];exact(λht=>⟨.int ns.sum,H,I.kept (t':=tk) (λb o e=>hk b o (by simpa using a9 (aK e)) (aI _ e)),⟨t',rfl⟩,q⟩)
 ·unfold Bo at q
  split at q
  ·rename_i l
   obtain⟨v,rfl,rv⟩:=iS r;obtain⟨p,xs,rfl,h1,h2⟩:=dJ rv;unfold Dg at q
   split at q
   ·rename_i ns tj
    split at q
    ·rename_i h
     rw [ints_rep tj h2] at h1;refine⟨p,ns,rfl,bw.seq h1,h.1,λn hn=>?_,q _ H (.refl _) fT trivial⟩;have:=dR.mp h.2 n hn;simp at this;exact this
    ·exact zF q
   ·exact zF q
  ·exact zF q
end
section
variable {X:Cx}{cls:Nat->Addr}{E:XK}{a b c o:Expr}{f g:aa->M Dt}{fs:aa->M (List Dt)}{pos:Pos}
theorem Xb {k:Nat}{fr:List Nat}{g:TG}{tc:TT}{te:TE}{σ:St}{J:It}{H1:Hp}{Q:VK}(h:nO k fr g tc te σ J H1 (λv H'=>(∃D ys,v=.ref D/\H' D=some (.lst ys))->Q v H')):nO k fr g tc te σ J H1 Q:=by
 intro D hD;obtain⟨W,w0,turn⟩:=h D hD;refine⟨W,w0,λi m ys aD H' w=>?_⟩;obtain⟨a,b⟩:=turn i m ys aD H' w;exact⟨a,b.imp (fun⟨s,q⟩=>⟨s,q ⟨D,ys,rfl,a⟩⟩) id⟩
variable {scope:Scope}{N:List Str}{k:Nat}{fr:List Nat}{tg iter elt:Expr}{ifs:List Expr}{ι:IM}{gm:GM}{tc:aa->M Bool}{te:aa->M Dt}
theorem Ut (hk:GK k gm)(σ:St)(H:Hp)(Q:VK)(q:tM X.K cls E (dg k fr ι gm tc te) σ H (λv H'=>(∃D ys,v=.ref D/\H' D=some (.lst ys))->Q v H')):si k fr (iM X.K cls E ι) (gM X.K gm) (dW X.K cls E0 tc) (tM X.K cls E0 te) σ H Q:=by
 obtain⟨O,A,ρ,F,q⟩:=q;refine⟨O,A,ρ,F,Rg.bind q λds _ q1=>?_⟩;intro J H1 s1 hJ
 cases hm:fi gm tc te (bT k fr ρ) ds with
 |ok xs=>
  have q2:Res X.K cls A E (fB xs) H (λv H'=>(∃D ys,v=.ref D/\H' D=some (.lst ys))->Q v H'):=by rw [hm] at q1; exact q1
  refine Xb (Ls (F.mono s1) hk hJ hm λv H' s' r z zl=>?_);unfold fB at q2;rw [if_pos zl] at q2;exact q2 v H' (s1.trans s') r ⟨zl,z⟩
 |ex c=>rw [hm] at q1; exact zF q1
 |bad=>rw [hm] at q1; exact zF q1
noncomputable def Xr (K:ao):V->List V->Hp->VK->Prop:=λx vs H Q=>∃l b xs zs ys,x=.ref l/\vs=[.ref b]/\H l=some (.lst xs)/\H b=some (.lst zs)/\bz K H b ys/\xs.length+ys.length<=sizeLine/\Q .ax (upd H l (.lst (xs++ys)))
theorem aaa:qH X "list.extend" (Xr X.K):=by
 intro pins s σ H x vs v us Q I rx rv ⟨l,b,xs,zs,ys,e1,e2,e3,e4,e5,e6,q⟩;have e:=I.wq (bz.of e4) e5;subst e;exact MG pins s σ H x vs v us Q I rx rv ⟨l,b,xs,zs,e1,e2,e3,e4,e6,q⟩
theorem U0 {i:Nat}{x:Str}{np apos ij sT:Pos}(hv:PE X (.Name x np) (oZ i))(hk:GK k gm)(hc:X.calm=true)(S:eG X scope N k fr)(hi:Iv X cls E tg iter ι)(hg:∀pins fp s H,PG (bL X scope N pins fp s H) tg (gM X.K gm))(ht:∀pins fp s H,jg (bL X scope N pins fp s H) ifs (dW X.K cls E0 tc))
  (he:∀pins fp s H,PE (bL X scope N pins fp s H) elt (tM X.K cls E0 te)) (hs:∀x,foldedSetIterable iter X.env x=pure x:=by intro _; rfl)
  (mI:swapsWith (.Call (.Attribute (.Name x np) "extend" apos) [.ListComp elt [⟨tg,iter,ifs,0⟩] scope sT] [] ij) none pos.line X.env=pure false:=by rfl)
  (i6:attributeBase (.Name x np) "extend" X.env (eval (.Name x np) X.env)=eval (.Name x np) X.env:=by rfl)
  (g9:(apos.endLine==ij.line)=true:=by rfl) :
  Sv X cls E (.Expr (.Call (.Attribute (.Name x np) "extend" apos) [.ListComp elt [⟨tg,iter,ifs,0⟩] scope sT] [] ij) pos) (zH i (dg k fr ι gm tc te)):=by
 have hE:PE X (.ListComp elt [⟨tg,iter,ifs,0⟩] scope sT) (λσ H Q=>tM X.K cls E (dg k fr ι gm tc te) σ H (λv H'=>(∃D ys,v=.ref D/\H' D=some (.lst ys))->Q v H')):=(L6 hc S hi hg ht he hs).imp (Ut hk);have bB:isStar (.ListComp elt [⟨tg,iter,ifs,0⟩] scope sT)=false:=rfl;have fX:starEach [.ListComp elt [⟨tg,iter,ifs,0⟩] scope sT] X.env=(false,eval (.ListComp elt [⟨tg,iter,ifs,0⟩] scope sT) X.env)::starEach [] X.env:=gS bB;refine(Ej (vT yM Cb PySem.F.type_list_extend aaa hv (bV _ _ _ _ _ bB hE fF) i6 (by rw [fX]; rfl) g9 fX rfl) mI).imp λD σ H h_=>?_;obtain⟨aC,A₀,ρ,⟨os,S⟩,q⟩:=h_;unfold zH Ba at q
 split at q
 ·rename_i ds N3
  have F:=S.2.2.2;obtain⟨p,xs,h1,h2,h3,h4,h5,h6⟩:=F.own i ds N3;refine⟨.ref p,h1,.inl ⟨rfl,xs,bz.of h3⟩,os,os++A₀,ρ,F,px S.1 q λd v H' _ q1 s' r z=>?_⟩;rintro⟨B,ys,rfl,hB⟩
  cases d with
  |lst es=>
   simp only [Bb] at q1
   split at q1
   ·rename_i hl
    obtain⟨B',yR,e1,e2,e3⟩:=dJ r;cases e1;have hlen:=h4.length;have ajA:=e3.length;refine⟨p,B,xs,ys,yR,rfl,rfl,s' _ _ h3,hB,bw.seq e2,bH (by omega:xs.length+yR.length<=10000) (by decide),q1 _ _ ⟨os,?_⟩⟩;exact(S.mono s').grow N3 h1 ((h4.mono (s'.ar _)).append e3) (zv h5 z.2) (by simp; omega)
   ·exact zF q1
  |_=>exact zF q1
 ·exact q.elim
end
section
variable {X:Cx}{cls:Nat->Addr}{E:XK}{s:SM}{pos:Pos}
theorem Uq {ι:IM}{g:GM}{D:Ends}{σ:St}{H:Hp}(q:sM X.K cls E (vG ι g s) D σ H):C7 (iM X.K cls E ι) (gM X.K g) (sM X.K cls E s) D σ H:=by
 obtain⟨aC,A₀,ρ,⟨os,s0,L0,fr,F⟩,q⟩:=q;refine⟨os,os++A₀,ρ,F,?_⟩;unfold vG at q
 cases hm:ι ρ with
 |ex c=>rw [hm] at q; exact λH' s'=>q H' (s0.trans s')
 |bad=>rw [hm] at q; exact q
 |ok ds=>
  rw [hm] at q;simp only [bt] at q;intro J H1 s1 hJ;have sI:az aC (ar H1 os):=λb o e=>by
   rw [di λz=>by rw [fr b z] at e; cases e];exact s1 b o (s0 b o e)
  have L1:cV (ar H1 os) A₀:=L0.mono sI;have sJ:∀{H2},az (ar H1 os) H2->az (ar H1 (os++A₀)) H2:=λs2 b o e=>by
   obtain⟨e1,e2⟩:=gZ e;refine s2 b o ?_;rw [di λz=>e1 (gq _ z)];exact e2
  refine⟨λi m aD H'=>i<=ds.length/\m=ds.length - i/\∃aW,gg X.K (ar H1 os) A₀ aW aD H'/\jM X.K cls E aC A₀ (ic g s (ds.drop i) aW) D,
   ⟨ds.length,fP _,rfl,ρ,⟨os,bw,L1,λa ha=>F7 ha,F.mono s1⟩,q⟩,?_⟩
  rintro i m aD H' ⟨hi,rfl,aW,⟨gD,s',L',kn,F'⟩,q'⟩
  by_cases aF:i<ds.length
  ·refine .inr ⟨hJ.go i H' aF (sJ s'),λcW H2=>i+1<=ds.length/\∃fO,gg X.K (ar H1 os) A₀ fO cW H2/\jM X.K cls E aC A₀ (ic g s (ds.drop (i+1)) fO) D,λcW H2 ⟨h1,h2⟩=>⟨ds.length - (i+1),by omega,h1,rfl,h2⟩,λx H2 y=>?_⟩
   have sA:az (ar H1 (os++A₀)) (ar H' (gD++A₀)):=λb o e=>by
    obtain⟨e1,e2⟩:=gZ e;have e3:ar H1 os b=some o:=by rw [di λz=>e1 (gq _ z)]; exact e2
    rw [di]
    ·exact s' b o e3
    ·intro z
     rcases eJ.mp z with z | z
     ·rw [kn b z] at e3; cases e3
     ·exact e1 (d6 _ z)
   obtain⟨sy,d,hd,rd⟩:=hJ.yl i H' x H2 (gD++A₀) aF F'.cB sA y;have qg:ds.drop i=d::ds.drop (i+1):=by
    rw [oJ aF]
    congr 1
    have:=iq aF;rw [hd] at this;exact(gn this).symm
   rw [qg] at q';simp only [ic] at q'
   cases hg:g d aW with
   |ex c=>rw [hg] at q'; exact zF q'
   |bad=>rw [hg] at q'; exact zF q'
   |ok aP=>
    rw [hg] at q';simp only [gK,bt] at q';refine⟨gD,gD++A₀,aW,d,F'.mono sy,rd,iy hJ.small (jV hd),aP,hg,λcW F2=>?_⟩;refine⟨ar H1 os,A₀,aP,⟨gD,s'.trans sy,L',kn,F2⟩,?_⟩
    cases hs:s aP with
    |ex c=>rw [hs] at q'; exact λH' s'=>q' H' (sI.trans s')
    |bad=>rw [hs] at q'; exact zF q'
    |ok fl=>
     rw [hs] at q';simp only [bt] at q'
     cases fl with
     |nx fO=>exact λeW H3 S3=>⟨aF,fO,S3,q'⟩
     |ct fO=>exact λeW H3 S3=>⟨aF,fO,S3,q'⟩
     |bk fO=>exact λeW H3 ⟨EB,S3⟩=>q' eW H3 ⟨EB,S3.weak sI L0⟩
     |rt d=>exact λv H3 s3 r z=>q' v H3 (sI.trans s3) r z
  ·have e:i=ds.length:=by omega
   subst e;rw [qZ] at q';exact .inl ⟨hJ.stop H' (sJ s'),q' aD H' ⟨gD,cJ.weak ⟨s',L',kn,F'⟩ sI L0⟩⟩
theorem UZ {iter tg:Expr}{body:List Stmt}{ι:IM}{g:GM}(hp:PassesOwn (model X.prog X.w) X.A X.env X.xe)(hc:X.calm=true)(hi:Iv X cls E tg iter ι)(hg:PG X tg (gM X.K g))(hb:Bv X cls E body s)
  (hs:∀x,foldedSetIterable iter X.env x=pure x:=by intro _; rfl):Sv X cls E (.For tg iter body [] pos) (vG ι g s):=
 (LJ hp hc hi hg hb hs).imp λD σ H q=>Uq q
end
noncomputable def FH (K:ao)(f:Str)(st:Stmt):Prop:=∃(a:Addr) (oc:Value) (od an:Option Addr) (sl:Array (Option Value)) (kV dc pm cd ct:Value),cX K mainGlobals f=some (some (.ref a))/\
 K.lookup a=some ⟨oc,od,.func (gi f f (iL st) (fL st) (aV st) .none kV dc pm an cd ct),sl⟩/\qV K cd f=true/\oR K (.ref a)=true
theorem FH.mk {K:ao}{f:Str}{st:Stmt}{a:Addr}{oc:Value}{od an:Option Addr}{sl:Array (Option Value)}{kV dc pm cd ct:Value}(h1:cX K mainGlobals f=some (some (.ref a)))
  (h2:K.lookup a=some ⟨oc,od,.func (gi f f (iL st) (fL st) (aV st) .none kV dc pm an cd ct),sl⟩) (h3:qV K cd f=true) (h4:oR K (.ref a)=true):FH K f st:=⟨a,oc,od,an,sl,kV,dc,pm,cd,ct,h1,h2,h3,h4⟩
theorem FH.fn {K:ao}{h:Heap}{mg:Str->Option Value}{f:Str}{st:Stmt}{ps:List Str}(H:FH K f st)(X:K.In h)(G:h.Ns mainGlobals mg)
  (hb:∀(kV dc pm:Value) (an:Option Addr) (cd ct:Value) (us:List Value),us.length=ps.length->bindArgs (gi f f (iL st) (fL st) (aV st) .none kV dc pm an cd ct) ⟨us,[]⟩=pure (ps.zip us)):cw K mg f st ps:=by
 obtain⟨a,oc,od,an,sl,kV,dc,pm,cd,ct,h1,h2,h3,h4⟩:=H;exact⟨a,_,AY (st:=st) h2 h3 h4,jl X G h1,.all λus hl=>hb kV dc pm an cd ct us hl⟩
theorem Ab {α:Type}:∀{n:Nat}{us:List α},us.length=n+1->∃a r,us=a::r/\r.length=n
 |n,a::r,h=>⟨a,r,rfl,by simpa using h⟩
theorem MW {α:Type}{us:List α}(h:us.length=1):∃u0,us=[u0]:=List.length_eq_one_iff.mp h
theorem FH.qr {K:ao}{h:Heap}{mg:Str->Option Value}{f p0:Str}{st:Stmt}(H:FH K f st)(X:K.In h)(G:h.Ns mainGlobals mg)
  (hb:∀(kV dc pm:Value) (an:Option Addr) (cd ct u0:Value),bindArgs (gi f f (iL st) (fL st) (aV st) .none kV dc pm an cd ct) ⟨[u0],[]⟩=pure ([p0].zip [u0])):cw K mg f st [p0]:=H.fn X G λkV dc pm an cd ct us hl=>by
 obtain⟨u0,rfl⟩:=MW hl;exact hb ..
theorem MV {α:Type}{us:List α}(h:us.length=2):∃u0 u1,us=[u0,u1]:=by
 obtain⟨u0,r,rfl,h1⟩:=Ab h;obtain⟨u1,rfl⟩:=MW h1;exact⟨u0,u1,rfl⟩
theorem FH.ko {K:ao}{h:Heap}{mg:Str->Option Value}{f p0 p1:Str}{st:Stmt}(H:FH K f st)(X:K.In h)(G:h.Ns mainGlobals mg)
  (hb:∀(kV dc pm:Value) (an:Option Addr) (cd ct u0 u1:Value),bindArgs (gi f f (iL st) (fL st) (aV st) .none kV dc pm an cd ct) ⟨[u0,u1],[]⟩=pure ([p0,p1].zip [u0,u1])):cw K mg f st [p0,p1]:=H.fn X G λkV dc pm an cd ct us hl=>by
 obtain⟨u0,u1,rfl⟩:=MV hl;exact hb ..
theorem MU {α:Type}{us:List α}(h:us.length=3):∃u0 u1 u2,us=[u0,u1,u2]:=by
 obtain⟨u0,r,rfl,h1⟩:=Ab h;obtain⟨u1,u2,rfl⟩:=MV h1;exact⟨u0,u1,u2,rfl⟩
theorem FH.GU {K:ao}{h:Heap}{mg:Str->Option Value}{f p0 p1 p2:Str}{st:Stmt}(H:FH K f st)(X:K.In h)(G:h.Ns mainGlobals mg)
  (hb:∀(kV dc pm:Value) (an:Option Addr) (cd ct u0 u1 u2:Value),bindArgs (gi f f (iL st) (fL st) (aV st) .none kV dc pm an cd ct) ⟨[u0,u1,u2],[]⟩=pure ([p0,p1,p2].zip [u0,u1,u2])):cw K mg f st [p0,p1,p2]:=H.fn X G λkV dc pm an cd ct us hl=>by
 obtain⟨u0,u1,u2,rfl⟩:=MU hl;exact hb ..
theorem MT {α:Type}{us:List α}(h:us.length=4):∃u0 u1 u2 u3,us=[u0,u1,u2,u3]:=by
 obtain⟨u0,r,rfl,h1⟩:=Ab h;obtain⟨u1,u2,u3,rfl⟩:=MU h1;exact⟨u0,u1,u2,u3,rfl⟩
theorem FH.GS {K:ao}{h:Heap}{mg:Str->Option Value}{f p0 p1 p2 p3:Str}{st:Stmt}(H:FH K f st)(X:K.In h)(G:h.Ns mainGlobals mg)
  (hb:∀(kV dc pm:Value) (an:Option Addr) (cd ct u0 u1 u2 u3:Value),bindArgs (gi f f (iL st) (fL st) (aV st) .none kV dc pm an cd ct) ⟨[u0,u1,u2,u3],[]⟩=pure ([p0,p1,p2,p3].zip [u0,u1,u2,u3])):cw K mg f st [p0,p1,p2,p3]:=H.fn X G λkV dc pm an cd ct us hl=>by
 obtain⟨u0,u1,u2,u3,rfl⟩:=MT hl;exact hb ..
theorem aaz {α:Type}{us:List α}(h:us.length=5):∃u0 u1 u2 u3 u4,us=[u0,u1,u2,u3,u4]:=by
 obtain⟨u0,r,rfl,h1⟩:=Ab h;obtain⟨u1,u2,u3,u4,rfl⟩:=MT h1;exact⟨u0,u1,u2,u3,u4,rfl⟩
theorem FH.fn5 {K:ao}{h:Heap}{mg:Str->Option Value}{f p0 p1 p2 p3 p4:Str}{st:Stmt}(H:FH K f st)(X:K.In h)(G:h.Ns mainGlobals mg)
  (hb:∀(kV dc pm:Value) (an:Option Addr) (cd ct u0 u1 u2 u3 u4:Value),bindArgs (gi f f (iL st) (fL st) (aV st) .none kV dc pm an cd ct) ⟨[u0,u1,u2,u3,u4],[]⟩=pure ([p0,p1,p2,p3,p4].zip [u0,u1,u2,u3,u4])):cw K mg f st [p0,p1,p2,p3,p4]:=H.fn X G λkV dc pm an cd ct us hl=>by
 obtain⟨u0,u1,u2,u3,u4,rfl⟩:=aaz hl;exact hb ..
theorem EO {Q:Nat->Prop}(h0:Q 0)(h1:Q 1)(h2:Q 2)(h3:Q 3)(h4:Q 4)(h5:Q 5)(h6:Q 6)(j:Nat)(h:j<7):Q j:=by
 rcases Nat.lt_or_ge j 1 with z | z
 ·obtain rfl:j=0:=by omega
  exact h0
 obtain⟨j,rfl⟩:∃k,j=k+1:=⟨j - 1,by omega⟩
 rcases(by omega:j=0∨j=1∨j=2∨j=3∨j=4∨j=5) with z | z | z | z | z | z <;> subst z <;> assumption
section
variable {P:Program}{w:World}{K:ao}{mg:Str->Option Value}{base:Heap}{cls:Nat->Addr}
noncomputable abbrev Cq (P:Program)(w:World)(K:ao)(mg:Str->Option Value)(base:Heap)(cls:Nat->Addr)(k:Nat)(x:Str)(ps:List Str)(F:List Dt->M Dt):Prop:=nk P w K mg base (bD P w) k x ps (k8 K cls F)
theorem nk.of {x:Str}{st:Stmt}{N ps:List Str}{k np n:Nat}{b:SM}(t:cw K mg x st ps)(S:cD N ps (aV st))(hp:ps.length=np)(hn:N.length=np+n)
  (mQ:∀(f:Addr) (aR:Value) (A:Around) (outer:List Env) (s:Shared) (H:Hp) (E:XK),dF k (A.deeper (envOfC x (aV st) s.heap.objs.size f aR))->
   Rz (cO (bD P w) P w K mg base N x (aV st) f aR A outer s H E) E->Bv (cO (bD P w) P w K mg base N x (aV st) f aR A outer s H E) cls E (fL st) b) (hf:ps=[dZ]->(aV st).names.lookup dZ=some .local:=by first | assumption | decide +kernel) :
  Cq P w K mg base cls (k+1) x ps (cu np n b):=by
 obtain⟨f,fd,F,hm,hb⟩:=t;exact⟨f,fd,A2 F S hp hn (mQ f) hf,hm,F.kp,hb⟩
end
end L2
namespace L2
open PySem PySem.Spec
theorem KI:BP.lookup (String.ofList ['r','o','t','a','r','e','t','i','_','t','e','s'].reverse)=some Manifest.sig_set_iterator:=by kernel_rfl
theorem VJ:BP.lookup (String.ofList ['t','e','s'].reverse)=some Manifest.sig_set:=by kernel_rfl
theorem o9:Slot "set_iterator" "__next__" "set_iterator.__next__" := by
 refine .of (owner:="set_iterator") (n:="__next__") ?_ ?_ ?_ ?_ ?_ ?_
 ·rw [typeLookup_type,builtinLookup_eq_fast]
  kernel_rfl
 ·decide +kernel
 ·decide +kernel
 ·decide +kernel
 ·first
  |exact .inl (by decide +kernel)
  |exact .inr (by decide +kernel)
 ·rw [isSubtype_type]
  kernel_rfl
theorem K1:Slot "set" "__iter__" "set.__iter__" := by
 refine .of (owner:="set") (n:="__iter__") ?_ ?_ ?_ ?_ ?_ ?_
 ·rw [typeLookup_type,builtinLookup_eq_fast]
  kernel_rfl
 ·decide +kernel
 ·decide +kernel
 ·decide +kernel
 ·first
  |exact .inl (by decide +kernel)
  |exact .inr (by decide +kernel)
 ·rw [isSubtype_type]
  kernel_rfl
theorem KL:entryFor table "set_iterator.__next__" = some Builtin.«set_iterator.__next__» := by
 apply entryFor_of_tree
 kernel_rfl
theorem VO:entryFor table "set.__iter__" = some Builtin.«frozenset.__iter__» := by
 apply entryFor_alias (id':="frozenset.__iter__")
 ·kernel_rfl
 ·first
  |rfl
  |decide +kernel
  | (unfold yk; simp +decide [yu])
 ·decide +kernel
 ·kernel_rfl
theorem KN (a:Value):argsOk "set_iterator.__next__" ⟨[a],[]⟩:=by
 unfold argsOk;rw [signature?_of (id:="set_iterator.__next__") (n:=['_','_','t','x','e','n','_','_']) (o:=['r','o','t','a','r','e','t','i','_','t','e','s']) (by kernel_rfl) KI]
 kernel_rfl
theorem VP (a:Value):argsOk "set.__iter__" ⟨[a],[]⟩:=by
 unfold argsOk;rw [signature?_of (id:="set.__iter__") (n:=['_','_','r','e','t','i','_','_']) (o:=['t','e','s']) (by kernel_rfl) VJ]
 kernel_rfl
theorem KO:Slot "set_iterator" "__iter__" "set_iterator.__iter__" := by
 refine .of (owner:="set_iterator") (n:="__iter__") ?_ ?_ ?_ ?_ ?_ ?_
 ·rw [typeLookup_type,builtinLookup_eq_fast]
  kernel_rfl
 ·decide +kernel
 ·decide +kernel
 ·decide +kernel
 ·first
  |exact .inl (by decide +kernel)
  |exact .inr (by decide +kernel)
 ·rw [isSubtype_type]
  kernel_rfl
theorem Vt:entryFor table "set_iterator.__iter__" = some Builtin.«dict_keyiterator.__iter__» := by
 apply entryFor_alias (id':="dict_keyiterator.__iter__")
 ·kernel_rfl
 ·first
  |rfl
  |decide +kernel
  | (unfold yk; simp +decide [yu])
 ·decide +kernel
 ·kernel_rfl
theorem Vu (a:Value):argsOk "set_iterator.__iter__" ⟨[a],[]⟩:=by
 unfold argsOk;rw [signature?_of (id:="set_iterator.__iter__") (n:=['_','_','r','e','t','i','_','_']) (o:=['r','o','t','a','r','e','t','i','_','t','e','s']) (by kernel_rfl) KI]
 kernel_rfl
theorem VM:typeLookup (.type "set") "__len__" = pure (some (.builtin "set.__len__")):=by
 rw [typeLookup_type,builtinLookup_eq_fast]
 kernel_rfl
theorem DE:isSubtype (.type "set") (.type "set")=pure true:=by
 rw [isSubtype_type]
 kernel_rfl
theorem G7 {α:Type}:∀{l:List α}{i:Nat} (h:i<l.length),(l[i]::l.eraseIdx i).Perm l
 |x::l,0,_=>.refl _
 |x::l,i+1,h=>by
  have hi:i<l.length:=by simpa using h
  rw [List.getElem_cons_succ,List.eraseIdx_cons_succ];exact(List.Perm.swap ..).trans ((G7 hi).cons x)
theorem LY {α:Type}(next:Nat->Nat):∀(n k:Nat) (left:List α) (out:Array α),left.length=n->(pickOrder.go next n k left out).toList.Perm (out.toList++left)
 |0,k,left,out,h=>by
  rw [oH.mp h,nu];exact .refl _
 |n+1,k,left,out,h=>by
  unfold pickOrder.go;have aF:next k % left.length<left.length:=uL _ (by omega);rw [iq aF]
  dsimp only
  refine(LY next n (k+1) _ _ (by rw [List.length_eraseIdx,if_pos aF]; omega)).trans ?_;rw [BS,rh];refine List.Perm.append_left _ ?_;exact G7 aF
theorem LX {α:Type}(next:Nat->Nat)(xs:Array α):(pickOrder next xs).toList.Perm xs.toList:=by
 have:=LY next xs.size 0 xs.toList #[] (by simp);simpa [pickOrder] using this
theorem S4 {M:Model}{A:Around}{E:Value->Shared->Prop}{src:Source}{n:Nat}{s:Shared}{Q:Nat->Shared->Prop}(hn:0<n)(h:∀i,i<n->∀d,Q i {s with drawn:=d}):wpAny M A (choose src n) Q E s:=
 λ_ _ _=>⟨by omega,h _ (uL _ hn) _⟩
theorem Qj {α:Type}{M:Model}{A:Around}{E:Value->Shared->Prop}:∀(n:Nat) (xs:List α) (s:Shared) (Q:List α->Shared->Prop),xs.length=n->(∀ys d,ys.Perm xs->Q ys {s with drawn:=d})->wpAny M A (drawOrder n xs) Q E s
 |0,xs,s,Q,h,q=>by
  rw [oH.mp h] at q ⊢;exact wpAny_pure (q [] s.drawn (.refl _))
 |n+1,[],s,Q,h,q=>by cases h
 |n+1,x::xs,s,Q,h,q=>by
  unfold drawOrder;refine wpAny_bind (S4 (by simp) λi hi d=>?_);rw [iq hi]
  dsimp only
  refine wpAny_bind (Qj n _ _ _ (by rw [List.length_eraseIdx,if_pos hi]; simp at h ⊢; omega) λys d' hp=>wpAny_pure ?_);exact q _ d' ((hp.cons _).trans (G7 hi))
end L2
namespace L2
open PySem PySem.Spec PySem.SetTable
noncomputable abbrev Up (l:List Nat):Prop:=l.Pairwise (· < ·)
noncomputable def gf (t:SetTable):Prop:=Up t.place.toList/\t.dummies=#[]
theorem CQ {l:List Nat}(h:Up l){i j:Nat}(F4:i<j)(hj:j<l.length):l[i]'(by omega)<l[j]:=(List.pairwise_iff_getElem.mp h) i j (by omega) hj F4
theorem HD (xs:Array Nat)(h:Up xs.toList)(j:Nat):∀(f lo hi:Nat),hi - lo<=f->lo<=hi->hi<=xs.size->(∀i (h1:i<xs.size),i<lo->xs[i]<j)->(∀i (h2:i<xs.size),hi<=i->j<=xs[i])->
  below.go xs j f lo hi<=xs.size/\(∀i (h1:i<xs.size),i<below.go xs j f lo hi->xs[i]<j)/\∀i (h2:i<xs.size),below.go xs j f lo hi<=i->j<=xs[i]
 |0,lo,hi,hf,h1,h2,a,b=>by
  have:lo=hi:=by omega
  subst this;unfold below.go;exact⟨h2,a,b⟩
 |f+1,lo,hi,hf,h1,h2,a,b=>by
  unfold below.go
  split
  ·rename_i aF
   have hm:(lo+hi) / 2<xs.size:=by omega
   dsimp only
   have e:xs.getD ((lo+hi) / 2) j=xs[(lo+hi) / 2]:=by rw [oK,oI hm]; rfl
   rw [e];have mono:∀p q (hp:p<xs.size) (hq:q<xs.size),p<=q->xs[p]<=xs[q]:=λp q hp hq hpq=>by
    by_cases z:p=q
    ·subst z; exact aN _
    ·have:=CQ h (i:=p) (j:=q) (by omega) (by simpa using hq)
     simpa using nH this
   split
   ·rename_i hc
    exact HD xs h j f _ _ (by omega) (by omega) h2 (λi c8 hl=>yA (mono i _ c8 hm (by omega)) hc) b
   ·rename_i hc
    exact HD xs h j f _ _ (by omega) (by omega) (by omega) a (λi c8 hl=>bH (by omega) (mono _ i hm c8 hl))
  ·have:lo=hi:=by omega
   subst this;exact⟨h2,a,b⟩
theorem HC {xs:Array Nat}(h:Up xs.toList)(j:Nat):below xs j<=xs.size/\(∀i (hi:i<xs.size),i<below xs j->xs[i]<j)/\∀i (h2:i<xs.size),below xs j<=i->j<=xs[i]:=
 HD xs h j xs.size 0 xs.size (by omega) (fP _) (aN _) (λi _ z=>by omega) λi h2 z=>by omega
theorem afo {xs:Array Nat}(h:Up xs.toList){i:Nat}(hi:i<xs.size):below xs (xs[i]+1)=i+1:=by
 obtain⟨h1,h2,h3⟩:=HC h (xs[i]+1)
 apply Nat.le_antisymm
 ·apply Nat.le_of_not_lt
  intro z;have hs:i+1<xs.size:=by omega
  have a:=h2 (i+1) hs z;have b:=CQ h (i:=i) (j:=i+1) (by omega) (by simpa using hs);simp only [yG] at b;omega
 ·apply Nat.le_of_not_lt
  intro z;have a:=h3 i hi (by omega);omega
theorem afp {xs:Array Nat}(h:Up xs.toList):below xs 0=0:=by
 obtain⟨h1,h2,h3⟩:=HC h 0
 apply Nat.eq_zero_of_not_pos
 intro z;exact absurd (h2 0 (by omega) z) (Nat.not_lt_zero _)
theorem abA {α:Type}(xs:Array α)(p:Nat)(x:α)(hp:p<=xs.size):(insertAt xs p x).toList=xs.toList.take p++x::xs.toList.drop p:=by
 unfold insertAt;simp only [Array.toList_append,BS,Array.toList_extract];simp [List.extract,yL]
theorem abz {xs:Array Nat}(h:Up xs.toList){j:Nat}(hn:xs[below xs j]?≠some j):Up (insertAt xs (below xs j) j).toList:=by
 obtain⟨h1,h2,h3⟩:=HC h j;rw [abA _ _ _ h1];have nj:∀i (hi:i<xs.size),below xs j<=i->j<xs[i]:=λi hi hb=>by
  have a:=h3 i hi hb
  by_cases z:i=below xs j
  ·subst z
   rw [oI hi] at hn;have:xs[below xs j]≠j:=λe=>hn (by rw [e]);omega
  ·have b:=CQ h (i:=below xs j) (j:=i) (by omega) (by simpa using hi)
   simp only [yG] at b;have c:=h3 (below xs j) (by omega) (aN _);omega
 rw [Up,List.pairwise_append];refine⟨h.sublist (u6 _ _),?_,λa ha b hb=>?_⟩
 ·rw [kK]
  refine⟨λb hb=>?_,h.sublist (yx _ _)⟩;obtain⟨i,hi,rfl⟩:=vf.mp hb;rw [List.getElem_drop];simp only [uX,eZ] at hi;have:=nj (below xs j+i) (by omega) (by omega);simpa using this
 ·obtain⟨i,hi,rfl⟩:=vf.mp ha
  rw [nv,eZ] at hi;rw [BY];have l1:=h2 i (by omega) (by omega);simp only [yG];rcases aO.mp hb with rfl | hb
  ·exact l1
  ·obtain⟨k,hk,rfl⟩:=vf.mp hb
   rw [List.getElem_drop];simp only [uX,eZ] at hk;have:=nj (below xs j+k) (by omega) (by omega);simp only [yG];omega
theorem Vl {t:SetTable}(h:t.dummies=#[])(j:Nat):t.slot j=.empty∨∃i,t.slot j=.live i:=by
 unfold SetTable.slot
 dsimp only
 split
 ·exact .inr ⟨_,rfl⟩
 ·rw [h]
  have:has #[] j=false:=by unfold has; simp
  rw [this];exact .inl rfl
theorem LL {t:SetTable}(h:t.dummies=#[])(f:Nat->Int)(hh:Int):∀(n:Nat) (p:Probe),p.dummy=none->∀j d,probe.go t f hh n p=some (.empty j d)->d=none/\t.slot j=.empty
 |0,p,hp,j,d,e=>by cases e
 |n+1,p,hp,j,d,e=>by
  unfold probe.go at e;have adv:(t.advance p).dummy=none:=by unfold advance; split <;> exact hp
  rcases Vl h p.j with z | ⟨i,z⟩
  ·rw [z] at e
   simp only [jT,Met.empty.injEq] at e;obtain⟨rfl,rfl⟩:=e;exact⟨hp,z⟩
  ·rw [z] at e
   dsimp only at e
   split at e
   ·cases e
   ·exact LL h f hh n _ adv j d e
theorem adE {t:SetTable}(h:t.dummies=#[]){hh:Int}{j:Nat}{b:Bool}(e:t.freeSlot hh=some (j,b)):t.slot j=.empty:=by
 unfold SetTable.freeSlot at e
 cases hp:t.probe (λ_=>hh+1) hh (t.probeStart hh) with
 |none=>rw [hp] at e; cases e
 |some m=>
  rw [hp] at e
  cases m with
  |candidate a b c=>cases e
  |empty k d=>
   obtain⟨rfl,h2⟩:=LL h _ hh _ _ rfl k d hp;simp only [BR,jT,Prod.mk.injEq] at e;rw [← e.1];exact h2
theorem zq (t:SetTable)(n:Nat):gf (t.standIn n):=by
 refine⟨?_,rfl⟩;show Up (Array.range n).toList;rw [Array.toList_range];exact List.pairwise_lt_range
theorem U8 {t:SetTable}(h:gf t)(n:Nat):gf (t.orStandIn n):=by
 unfold SetTable.orStandIn
 split
 ·exact h
 ·exact zq t n
theorem Xy {t:SetTable}(h:gf t){j:Nat}(hj:t.slot j=.empty):gf (t.put j).1:=by
 have hn:t.place[below t.place j]?≠some j:=by
  intro z;unfold SetTable.slot at hj
  dsimp only at hj
  rw [z] at hj;simp at hj
 refine⟨abz h.1 hn,?_⟩;show (if has t.dummies j=true then eraseAt t.dummies (below t.dummies j) else t.dummies)=#[];rw [h.2];have:has #[] j=false:=by unfold has; simp
 rw [this];rfl
theorem aaG {t:SetTable}(h:gf t)(es:Array (Int×Value))(hh:Int)(x:Value):gf (layNew t es hh x).2.1:=by
 unfold layNew
 split
 ·rename_i slot wd e
  exact U8 (Xy h (adE h.2 e)) _
 ·exact zq _ _
theorem aaM {mask finger moves:Nat}{led plain:Bool}{hs:Array Int}{t:SetTable}{o:Array Nat}(e:laid mask finger moves led plain hs=some (t,o)):gf t:=by
 unfold laid at e
 cases hl:layClean mask hs with
 |none=>rw [hl] at e; cases e
 |some ow=>
  rw [hl] at e;have e:=(gn e)
  have e1:=congrArg Prod.fst e
  dsimp only at e1
  rw [← e1];refine⟨?_,rfl⟩;show Up (((bf (mask+1)).filterMap λj=>(ow.getD j none).map (j,·)).map (·.1));have key:∀l:List Nat,Up l->Up ((l.filterMap λj=>(ow.getD j none).map (j,·)).map (·.1))/\∀x∈((l.filterMap λj=>(ow.getD j none).map (j,·)).map (·.1)),x∈l:=by
   intro l
   induction l with
   |nil=>intro _; exact⟨.nil,λx hx=>by simp at hx⟩
   |cons a l ih=>
    intro hu;obtain⟨u1,u2⟩:=kK.mp hu;obtain⟨i1,i2⟩:=ih u2;rw [dG]
    cases ow.getD a none with
    |none=>exact⟨i1,λx hx=>bR _ (i2 x hx)⟩
    |some b=>
     refine⟨kK.mpr ⟨λx hx=>u1 x (i2 x hx),i1⟩,λx hx=>?_⟩;rcases aO.mp hx with rfl | hx
     ·exact bu
     ·exact bR _ (i2 x hx)
  exact(key _ List.pairwise_lt_range).1
theorem W4 {t:SetTable}(es:Array (Int×Value))(n:Nat):gf (relayAll t es n).2.1:=by
 unfold relayAll
 split
 ·rename_i t' o e
  dsimp only
  split
  ·exact aaM e
  ·exact zq _ _
 ·exact zq _ _
end L2
namespace L2
open PySem PySem.Spec
theorem aaI (t:SetTable)(es:Array (Int×Value))(h:Int)(x:Value):(layNew t es h x).2.1.led=t.led/\((layNew t es h x).2.1.plain=true->t.plain=true):=by
 unfold layNew
 split
 ·dsimp only
  unfold SetTable.orStandIn
  split
  ·exact⟨rfl,id⟩
  ·exact⟨rfl,λz=>by cases z⟩
 ·exact⟨rfl,λz=>by cases z⟩
theorem W5 (t:SetTable)(es:Array (Int×Value))(n:Nat):(relayAll t es n).2.1.led=t.led/\((relayAll t es n).2.1.plain=true->t.plain=true):=by
 unfold relayAll
 split
 ·rename_i t' order e
  dsimp only
  split
  ·dsimp only
   unfold SetTable.relaid SetTable.laid at e;simp only [Option.bind_eq_bind,Option.bind_eq_some_iff,Option.pure_def,jT] at e;obtain⟨_,_,e⟩:=e;injection e with e1 e2;subst e1;exact⟨rfl,id⟩
  ·exact⟨rfl,λz=>by cases z⟩
 ·exact⟨rfl,λz=>by cases z⟩
noncomputable abbrev dy (es:Array (Int×Value))(ep:Nat)(t:SetTable):Obj:={cls:=.type "set",dict:=none,data:=.set es ep t}
section
variable {prog:Program}{w:World}{A:Around}{E:Value->Shared->Prop}{s:Shared}{K:Type}[DecidableEq K]{knd:KeyKind prog w K}
theorem afK {a:Addr}{es:Array (Int×Value)}{ep:Nat}{t:SetTable}{k:K}{x:Value}{Q:Bool->Shared->Prop}(mL:knd.is k x=true)(mJ:x.scannable=true)
  (ho:s.heap.get? a=some (dy es ep t)) (qc:ElemsOf knd es.toList) (hb:es.size+1<scanBound) (hf:t.fits es.size=true) (bO:gf t)
  (h:∀(r:Bool) (h':Heap) (eS:Array (Int×Value)) (ku:Nat) (t':SetTable),fQ a s.heap h'->h'.get? a=some (dy eS ku t')->((eS=es/\∃e∈es.toList,knd.is k e.2=true)∨(eS.toList.Perm (es.toList++[(knd.hash k,x)])/\∀e∈es.toList,knd.is k e.2=false))->
   ElemsOf knd eS.toList->t'.fits eS.size=true->t'.led=t.led->gf t'->Q r {s with heap:=h'}) :
  wpAny (model prog w) A (setAddHashed a x (knd.hash k)) Q E s:=by
 have hd:(dy es ep t).data=.set es ep t:=rfl;unfold setAddHashed;refine wpAny_holding ?_;unfold setAddHashedIn;refine wpAny_bind (wpAny_setState_of ho hd hf ?_)
 dsimp only
 rw [if_pos (byScan_of mJ (by omega) qc)];refine wpAny_bind ?_;unfold setAddByScan;refine wpAny_bind (wpAny_rule (wpAny_bind (wpAny_setScan_of mL ho hd hf qc ?_)))
 cases hr:es.toList.findIdx? (λe=>knd.is k e.2) with
 |some j=>
  obtain⟨hj,hpj,_⟩:=List.findIdx?_eq_some_iff_getElem.mp hr;refine wpAny_pure (wpAny_pure ?_);exact h _ s.heap es ep t (.refl ..) ho (.inl ⟨rfl,_,rg hj,hpj⟩) qc hf rfl bO
 |none=>
  have lH:∀e∈es.toList,knd.is k e.2=false:=λe he=>by simpa using List.findIdx?_eq_none_iff.mp hr e he
  have gw:∀(b:Bool) {aT:Shared} {Q':Unit->Shared->Prop},Q' () aT->wpAny (model prog w) A (match b with | true=>rule "set.scan.the-table-gave-way" |false=>pure ()) Q' E aT:=λb aT Q' q=>by
   cases b
   ·exact wpAny_pure q
   ·exact wpAny_rule q
  have pm:=layNew_perm t es (knd.hash k) x;have ft:=layNew_fits t es (knd.hash k) x;have ld:=aaI t es (knd.hash k) x;have tb:=aaG bO es (knd.hash k) x;generalize layNew t es (knd.hash k) x=L at pm ft ld tb ⊢;obtain⟨cf,t1,wd,gv⟩:=L
  dsimp only at pm ft ld tb ⊢
  rw [BS] at pm;have sz:cf.size=es.size+1:=by rw [← eZ,pm.length_eq]; simp
  have P8:ElemsOf knd cf.toList:=(qc.push mL mJ).perm pm;refine wpAny_bind (gw _ ?_);have tail:∀t2:SetTable,t2.fits cf.size=true->t2.led=t.led->gf t2->wpAny (model prog w) A (do
    storeSet a cf t2
    if (!wd&&t2.tooFull)=true then do
      (match (relayAll t2 cf (nJ cf.size)).2.2 with | true=>rule "set.scan.the-table-gave-way" |false=>pure ())
      storeSet a (relayAll t2 cf (nJ cf.size)).1 (relayAll t2 cf (nJ cf.size)).2.1
      pure (some true)
     else pure (some true)) (λr s'=>wpAny (model prog w) A (match r with | some added=>pure added | none=>setAddHashedIn a x (knd.hash k) 99999) Q E s') E s:=by
   intro t2 f2 l2 p2;have pb:cf.size<scanBound:=by omega
   refine wpAny_bind (wpAny_storeSet_of ho hd ?_ (fits_of_scanBound pb));have o1:∃tQ,(s.heap.update a (Obj.putSet cf t2)).get? a=some (dy cf tQ t2):=⟨_,ma _ ho rfl⟩
   obtain⟨tQ,o1⟩:=o1;have pd:=rm s.heap a (Obj.putSet cf t2)
   split
   ·have rp:=relayAll_perm t2 cf (nJ cf.size)
    have rf:=relayAll_fits t2 cf (nJ cf.size);have rl:=W5 t2 cf (nJ cf.size);have rt:=W4 (t:=t2) cf (nJ cf.size);generalize relayAll t2 cf (nJ cf.size)=Rl at rp rf rl rt ⊢;obtain⟨tP,t3,gv2⟩:=Rl
    dsimp only at rp rf rl rt ⊢
    have sz2:tP.size=cf.size:=by rw [← eZ,rp.length_eq,eZ]
    refine wpAny_bind (gw _ ?_);refine wpAny_bind (wpAny_storeSet_of o1 rfl ?_ (fits_of_scanBound (by omega)));obtain⟨mY,o2⟩:∃mY,((s.heap.update a (Obj.putSet cf t2)).update a (Obj.putSet tP t3)).get? a=some (dy tP mY t3):=⟨_,ma _ o1 rfl⟩
    refine wpAny_pure (wpAny_pure ?_);refine h _ _ tP mY t3 (pd.trans (rm _ a _)) o2 (.inr ⟨rp.trans pm,lH⟩) (P8.perm rp) rf (rl.1.trans l2) rt
   ·refine wpAny_pure (wpAny_pure ?_)
    exact h _ _ cf tQ t2 pd o1 (.inr ⟨pm,lH⟩) P8 f2 l2 p2
  obtain⟨bv,hbv⟩:∃b,hashByValue 8 x=pure b:=by
   cases x <;> first | exact⟨_,rfl⟩ | cases mJ
  split
  ·refine wpAny_bind ?_
   rw [hbv];refine wpAny_pure ?_;cases bv
   ·exact tail {t1 with plain:=false} (SetTable.fits_plain_off ft) ld.1 tb
   ·exact tail t1 ft ld.1 tb
  ·refine wpAny_bind (wpAny_pure ?_)
   exact tail t1 ft ld.1 tb
end
end L2
namespace L2
open PySem PySem.Spec PyProof.Rows PySem.W
theorem Hi {α:Type}[DecidableEq α](l:List α)(n:Nat)(h:l.length<=n):l.eraseDups.length<=n:=bH (Qg l.length l rfl) h
theorem vU {α β:Type}{R:α->β->Prop}:∀{l l':List β},l.Perm l'->∀{ks:List α},Paired R ks l->∃EY,Paired R EY l'/\EY.Perm ks
 |_,_,.nil,_,p=>⟨_,p,.refl _⟩
 |_,_,.cons x h,_,.cons r t=>by
  obtain⟨EY,h1,h2⟩:=vU h t;exact⟨_,.cons r h1,h2.cons _⟩
 |_,_,.swap x y l,_,.cons r1 (.cons r2 t)=>⟨_,.cons r2 (.cons r1 t),.swap ..⟩
 |_,_,.trans h1 h2,_,p=>by
  obtain⟨ks1,a1,a2⟩:=vU h1 p;obtain⟨ks2,b1,b2⟩:=vU h2 a1;exact⟨ks2,b1,b2.trans a2⟩
theorem Mb {α β:Type}{R:α->β->Prop}:∀{ks:List α}{l:List β},Paired R ks l->∀{k:α}{x:β},R k x->Paired R (ks++[k]) (l++[x])
 |_,_,.nil,_,_,r=>.cons r .nil
 |_,_,.cons r t,_,_,r'=>.cons r (Mb t r')
theorem Ey {α β:Type}{R:α->β->Prop}:∀{ks:List α}{l:List β},Paired R ks l->∀{x:β},x∈l->∃k∈ks,R k x
 |_,_,.cons r t,x,h=>by
  rcases aO.mp h with rfl | h
  ·exact⟨_,bu,r⟩
  ·obtain⟨k,hk,rk⟩:=Ey t h
   exact⟨k,bR _ hk,rk⟩
theorem Ex {α β:Type}{R:α->β->Prop}:∀{ks:List α}{l:List β},Paired R ks l->∀{k:α},k∈ks->∃x∈l,R k x
 |_,_,.cons r t,x,h=>by
  rcases aO.mp h with rfl | h
  ·exact⟨_,bu,r⟩
  ·obtain⟨k,hk,rk⟩:=Ex t h
   exact⟨k,bR _ hk,rk⟩
section
variable {prog:Program}{w:World}{K:Type}[DecidableEq K](knd:KeyKind prog w K)
noncomputable def cC (h:Heap)(a:Addr)(ks:List K)(led:Bool):Prop:=
 ∃es ep t kl,h.get? a=some (dy es ep t)/\ElemsOf knd es.toList/\Paired (λk (e:Int×Value)=>knd.is k e.2=true) kl es.toList/\kl.Perm ks.eraseDups/\es.size<scanBound/\t.fits es.size=true/\t.led=led/\gf t
end
section
variable {prog:Program}{w:World}{A:Around}{E:Value->Shared->Prop}{s:Shared}{K:Type}[DecidableEq K]{knd:KeyKind prog w K}
theorem cC.at {h h':Heap}{a:Addr}{ks:List K}{led:Bool}(x:cC knd h a ks led)(k:∀o,h.get? a=some o->h'.get? a=some o):cC knd h' a ks led:=by
 obtain⟨es,ep,t,kl,ho,r⟩:=x;exact⟨es,ep,t,kl,k _ ho,r⟩
theorem Ri {a:Addr}{ks:List K}{led:Bool}{k:K}{x:Value}{Q:Bool->Shared->Prop}(mL:knd.is k x=true)(mJ:x.scannable=true)(hS:cC knd s.heap a ks led)(hb:ks.eraseDups.length+1<scanBound)
  (h:∀(r:Bool) (h':Heap),fQ a s.heap h'->cC knd h' a (ks++[k]) led->Q r {s with heap:=h'}):wpAny (model prog w) A (setAddHashed a x (knd.hash k)) Q E s:=by
 obtain⟨es,ep,t,kl,ho,qc,hp,pm,hsz,hf,hl,bO⟩:=hS;have len:es.size=ks.eraseDups.length:=by
  rw [← pm.length_eq,← eZ];exact hp.length.symm
 refine afK mL mJ ho qc (by omega) hf bO λr h' eS ku t' sb gE cs P9 OU MZ Ep=>h r h' sb ?_;rcases cs with ⟨rfl,e,he,hk⟩ | ⟨pe,lH⟩
 ·obtain⟨k',iC,r'⟩:=Ey hp he
  have:=knd.inj _ _ _ hk r';subst this;have hm:k∈ks:=by
   have:=pm.mem_iff.mp iC;simpa using this
  have ed:(ks++[k]).eraseDups=ks.eraseDups:=by
   rw [vg];have:[k].removeAll ks=[]:=by simp [qU,hm]
   rw [this];simp
  exact⟨eS,ku,t',kl,gE,P9,hp,by rw [ed]; exact pm,hsz,OU,MZ.trans hl,Ep⟩
 ·have hm:k∉ks:=λz=>by
   have:k∈kl:=pm.mem_iff.mpr (by simpa using z);obtain⟨e,he,hk⟩:=Ex hp this;rw [lH e he] at hk;cases hk
  have ed:(ks++[k]).eraseDups=ks.eraseDups++[k]:=by
   rw [vg];have:[k].removeAll ks=[k]:=by simp [qU,hm]
   rw [this];rfl
  have fY:Paired (λk (e:Int×Value)=>knd.is k e.2=true) (kl++[k]) (es.toList++[(knd.hash k,x)]):=Mb hp mL;obtain⟨M5,a1,a2⟩:=vU pe.symm fY;have sz':eS.size=es.size+1:=by rw [← eZ,pe.length_eq]; simp
  exact⟨eS,ku,t',M5,gE,P9,a1,by rw [ed]; exact a2.trans (pm.append_right _),by omega,OU,MZ.trans hl,Ep⟩
end
section
variable {prog:Program}{w:World}{A:Around}{R:Result->Shared->Prop}{I S:Addr}{fp wr:List Addr}{St:Nat->Heap->Prop}{Kt:Type}[DecidableEq Kt]{knd:KeyKind prog w Kt}{led:Bool}
theorem VG {items:Array Value}{ks0 ks:List Kt}(hk:∀(i:Nat) (v:Value),items[i]?=some v->∃k,ks[i]?=some k/\knd.is k v=true/\v.scannable=true)
  (W:Walks prog w A.in1 I fp wr items.size (λi v=>items[i]?=some v) St) (OH:S∉fp) (hn:ks.length=items.size) (hb:ks0.length+items.size+1<scanBound) :
  ∀(m i:Nat) (s:Shared),items.size - i=m->i<=items.size->St i s.heap->cC knd s.heap S (ks0++ks.take i) led->
   (∀h' tk,(∀b o,b≠S->b∉wr->s.heap.get? b=some o->h'.get? b=some o)->cC knd h' S (ks0++ks) led->R (.ok (.ret .none)) {s with heap:=h',toks:=tk})->
   codeAny (model prog w) A (.builtin "set.update.loop" ⟨[.ref S,.ref I],[]⟩) R s:=by
 have OG:S∉wr:=λh=>OH (W.sub _ h);intro m
 induction m with
 |zero=>
  intro i s hm hi bB hS hR;obtain rfl:i=items.size:=by omega
  refine codeAny_builtin JK ?_;rw [oF Cs _];show wpAny _ A.in1 (pyNext (.ref I) >>= _) _ _ s;refine wpAny_bind (W.done s _ _ bB λh' tk k'=>?_);rw [← hn,uY] at hS;exact wpAny_pure (hR h' tk (λb o _ hb e=>k' b o hb e) (hS.at λo e=>k' S _ OG e))
 |succ m ih=>
  intro i s hm hi bB hS hR;have aF:i<items.size:=by omega
  refine codeAny_builtin JK ?_;rw [oF Cs _];show wpAny _ A.in1 (pyNext (.ref I) >>= _) _ _ s;refine wpAny_bind (W.item i s _ _ aF bB λv h1 J2 hP ab2 k1=>?_);obtain⟨k,hki,Ol,mJ⟩:=hk i v hP;have xh:cC knd h1 S (ks0++ks.take i) led:=hS.at λo e=>k1 S _ OG e;show wpAny _ A.in1 (holding [v] (setAdd S v) >>= _) _ _ _;refine wpAny_bind (wpAny_holding ?_);unfold setAdd;refine wpAny_holding (wpAny_bind (knd.pyHash Ol ?_));have hl:(ks0++ks.take i).eraseDups.length<=ks0.length+i:=Hi _ _ (by rw [jU,nv]; omega);refine Ri (s:={s with heap:=h1,toks:=_}) Ol mJ xh (by omega) λ_ h2 en AU=>?_;have ht:ks.take (i+1)=ks.take i++[k]:=by rw [yv,hki]; rfl
  rw [rh,← ht] at AU;refine wpAny_pure ⟨plainId_quiet Cs _,ih (i+1) _ (by omega) aF (W.frame _ _ _ ab2 λb hb o e=>?_) AU λh3 vq k3 Gn=>?_⟩
  ·exact(en.2 b (λz=>OH (z ▸ hb))).trans e
  ·exact hR h3 vq (λb o OC OA e=>k3 b o OC OA ((en.2 b OC).trans (k1 b o OA e))) Gn
end
noncomputable abbrev c7 (w:World):Bool:=!w.params.followText "set-order"
section
variable {prog:Program}{w:World}{A:Around}{E:Value->Shared->Prop}{s:Shared}{Kt:Type}[DecidableEq Kt]{knd:KeyKind prog w Kt}
theorem KY (a:Value){Q₁:Value->Shared->Prop}(h:Q₁ (.ref s.heap.objs.size) {s with heap:=s.heap.push (gW (c7 w))}) :
  codeAny (model prog w) A (.call (.builtin "set.__new__") ⟨[.type "set",a],[]⟩) (wants Q₁ E) s:=by
 refine codeAny_of_tree ?_;show wpAny _ A.in1 (do checkBuiltinCall "set.__new__" ⟨[.type "set",a],[]⟩; again (.builtin "set.__new__" ⟨[.type "set",a],[]⟩)) _ _ s
 refine wpAny_bind (wpAny_of_eq (PySem.F.newCall_set_1 a) (wpAny_pure ⟨plainId_quiet PySem.F.plain_set_new _,?_⟩));refine codeAny_builtin PySem.F.entry_set_new ?_;rw [oF PySem.F.plain_set_new _];unfold Builtin.«set.__new__»;unfold Builtin.Frozenset.newClass;have wN:=DE;obtain⟨hp,g,d,tk,os⟩:=s
 dsimp only
 wp_walk
 refine wpAny_askSetting (wpAny_pure ?_)
 dsimp only
 simp only [newObj];refine wpAny_bind (wpAny_alloc (wpAny_pure ?_));exact wpAny_pure h
theorem VE {l:Addr}{items:Array Value}{ks:List Kt}{Q:Value->Shared->Prop}(hh:A.handled=none)(hl:s.heap.IsList l items)
  (hk:∀(i:Nat) (v:Value),items[i]?=some v->∃k,ks[i]?=some k/\knd.is k v=true/\v.scannable=true) (hn:ks.length=items.size) (hb:items.size+1<scanBound)
  (h:∀(h':Heap) (tk:Nat),cC knd h' s.heap.objs.size ks (c7 w)->(∀b o,s.heap.get? b=some o->h'.get? b=some o)->Q (.ref s.heap.objs.size) {s with heap:=h',toks:=tk}) :
  wpAny (model prog w) A (call (.type "set") [.ref l]) Q E s:=by
 obtain⟨c,tl,acp⟩:=gp.mro;have FR:=gp.made;have wN:=gp.sub;refine wpAny_call (codeAny_of_tree ?_);show wpAny _ _ (callAny (.type "set") _) _ _ _
 refine wpAny_pure ⟨B2 _ (by decide +kernel),codeAny_builtin PySem.F.entry_type_call ?_⟩;rw [Around.under_plain (weight_type_call_type "set" [.ref l] []) rfl]
 have h1:=gp.notType;have h2:=gp.canCreate;have hct:=PySem.F.typeCall_set_1 (.ref l)
 repeat (any_goals (first | assumption | wp_step))
 refine codeAny_mono (KY (.ref l) (E:=E) (Q₁:=λobj s1=>obj=.ref s.heap.objs.size/\s1={s with heap:=s.heap.push (gW (c7 w))}) ⟨rfl,rfl⟩) λr s1 hr=>?_
 match r,hr with
 |.error e,hr=>exact hr
 |.ok (.ret obj),hr=>
  obtain⟨rfl,rfl⟩:=hr;have hS:(s.heap.push (gW (c7 w))).get? s.heap.objs.size=some (gW (c7 w)):=bE _ rfl;have hT:Shared.TypeIs {s with heap:=s.heap.push (gW (c7 w))} (.ref s.heap.objs.size) "set" := ⟨_,hS,rfl⟩
  have tw:=gp.init.lookup;have hbi:=gp.init.bind (.ref s.heap.objs.size)
  repeat (any_goals (first | assumption | wp_step))
  refine codeAny_mono (codeAny_call_builtin (R:=wants (λr s2=>r=.none/\∃h' tk,s2={s with heap:=h',toks:=tk}/\cC knd h' s.heap.objs.size ks (c7 w)/\∀b o,s.heap.get? b=some o->h'.get? b=some o) E)
   gp.init.plain PySem.F.entry_set_init (check_set_init_1 hT ?_)) λr2 s2 kh=>?_
  ·obtain⟨⟨oc,od,Mm,os⟩,ti,qh,nl,iF⟩:=hl
   simp only at qh iF
   subst qh iF;have FN:(s.heap.push (gW (c7 w))).get? l=some {cls:=.type "list",dict:=od,data:=.seq items nl,slots:=os}:=aI _ ti
   have n8:(s.heap.push (gW (c7 w))).IsList l items:=⟨_,FN,rfl,nl,rfl⟩
   have ab5:=PySem.F.sub_list_set;have ab6:=PySem.F.sub_list_frozenset;have bF:(kO "list" == kO "dict")=false:=by decide
   have AH:l<s.heap.objs.size:=aK ti;unfold Builtin.«set.__init__» noKeywords JJ;generalize Gq:pyIter=PI
   wp_walk
   subst Gq;refine wpAny_pyIter_list n8 (wpAny_bind (wpAny_runValue ?_));have hz:(s.heap.push (gW (c7 w))).objs.size=s.heap.objs.size+1:=gk _ _;refine VG (knd:=knd) (ks0:=[]) (led:=c7 w) hk (Walks.list (by simp [hh]) (s.heap.push (gW (c7 w))).objs.size l (by rw [hz]; exact a9 (l8 AH)) items) (S:=s.heap.objs.size) (by rw [hz]; simp only [aO,eL,or_false,not_or]; exact⟨a9 (uW _),(a9 AH).symm⟩) hn (by simpa using hb) (items.size - 0) 0 _ rfl (fP _) ⟨⟨_,bE _ rfl,rfl,rfl⟩,n8.push _⟩ ?_ λh' tk iC oh=>?_
   ·exact⟨#[],0,_,[],aI _ hS,(λe he=>by simp at he),.nil,.nil,by decide,rfl,rfl,BW,rfl⟩
   ·refine wpAny_pure (wpAny_pure ⟨rfl,h',tk,rfl,oh,λb o e=>?_⟩)
    have bg:=aK e;exact iC b o (a9 bg) (by rw [hz]; simp only [aO,eL,or_false]; exact a9 (l8 bg)) (aI _ (aI _ e))
  ·match r2,kh with
   |.error e,kh=>exact kh
   |.ok (.ret r),kh=>
    obtain⟨rfl,h',tk,rfl,oh,iC⟩:=kh
    repeat (any_goals (first | assumption | wp_step))
    exact h _ _ oh iC
end
noncomputable def KJ (first:Value)(i:Nat)(S:Addr)(n ep:Nat):Obj:={cls:=.type "set_iterator",data:=.fields #[first,rawInt i,.ref S,rawInt n,rawInt ep]}
noncomputable def v8 (xs:Array Nat):Nat->Nat
 |0=>0
 |i+1=>xs.getD i 0+1
theorem Q2 {xs:Array Nat}(h:Up xs.toList):∀{i:Nat},i<=xs.size->uQ xs (v8 xs i)=i
 |0,_=>afp h
 |i+1,hi=>by
  have e:xs.getD i 0=xs[i]:=by rw [oK,oI hi]; rfl
  show uQ xs (xs.getD i 0+1)=_;rw [e];exact afo h hi
inductive uD (w:World) (S:Addr) (es:Array (Int×Value)) (ep:Nat) (t:SetTable) (h:Heap) (T:Addr):Value->Nat->List Value->Prop where
 |text (k i:Nat) (e:w.params.followText "set-order" = true):uD w S es ep t h T (rawInt k) i ((pickOrder (w.params.setOrder S ep) es).toList.map (·.2))
 |drawn (i:Nat) (pl:List Nat) (e:w.params.followText "set-order" = false) (np:t.plain=false) (h1:1<es.size) (hT:h.get? T=some {cls:=.type "tuple",data:=.seq (pl.map fun(p:Nat)=>rawInt p).toArray}) (hp:pl.Perm (bf es.size)):uD w S es ep t h T (.ref T) i (pl.map λp=>(es[p]?.map (·.2)).getD .none)
 |kq (i:Nat) (e:w.params.followText "set-order" = false) (hl:t.led=true) (hd:(!t.plain&&decide (es.size > 1))=false) (hu:Up t.place.toList):uD w S es ep t h T (rawInt ((v8 t.place i:Nat):Int)) i (es.toList.map (·.2))
structure jO (w:World) (S:Addr) (es:Array (Int×Value)) (ep:Nat) (t:SetTable) (I T:Addr) (vs:List Value) (i:Nat) (h:Heap):Prop where
 set:h.get? S=some (dy es ep t)
 fits:t.fits es.size=true
 it:∃first,h.get? I=some (KJ first i S es.size ep)/\uD w S es ep t h T first i vs
 ne:S≠I/\T≠I
 len:vs.length=es.size
theorem jO.keep {w:World}{S:Addr}{es:Array (Int×Value)}{ep:Nat}{t:SetTable}{I T:Addr}{vs:List Value}{i:Nat}{h h':Heap}(x:jO w S es ep t I T vs i h)(k:∀b∈[S,I,T],∀o,h.get? b=some o->h'.get? b=some o):jO w S es ep t I T vs i h':=by
 obtain⟨h1,h2,⟨first,h3,h4⟩,h5,h6⟩:=x;refine⟨k S (by simp) _ h1,h2,⟨first,k I (by simp) _ h3,?_⟩,h5,h6⟩
 cases h4 with
 |text k' i e=>exact .text k' i e
 |drawn i pl e np hs hT hp=>exact .drawn i pl e np hs (k T (by simp) _ hT) hp
 |kq i e hl hd hu=>exact .kq i e hl hd hu
theorem jO.step {w:World}{S:Addr}{es:Array (Int×Value)}{ep:Nat}{t:SetTable}{I T:Addr}{vs:List Value}{i j:Nat}{h h':Heap}{first:Value}(x:jO w S es ep t I T vs i h)(sb:∀b o,b≠I->h.get? b=some o->h'.get? b=some o)(hI:h'.get? I=some (KJ first j S es.size ep))(m:∀hT:(∀o,h.get? T=some o->h'.get? T=some o),uD w S es ep t h' T first j vs):jO w S es ep t I T vs j h':=
 ⟨sb _ _ x.ne.1 x.set,x.fits,⟨first,hI,m λo e=>sb _ _ x.ne.2 e⟩,x.ne,x.len⟩
section
variable {prog:Program}{w:World}{A:Around}{E:Value->Shared->Prop}{s:Shared}{S I T:Addr}{es:Array (Int×Value)}{ep:Nat}{t:SetTable}{vs:List Value}{i:Nat}
theorem qC {Q:Bool->Shared->Prop}(q:Q (w.params.followText "set-order") s):wpAny (model prog w) A setsByText Q E s:=by
 unfold setsByText;exact wpAny_bind (wpAny_askSetting (wpAny_pure q))
theorem LW (hf:t.fits es.size=true):t.place.size=es.size:=by
 unfold yi at hf;simp only [eY,beq_iff_eq] at hf;exact hf.1
theorem Vv {Q:Option Value->Shared->Prop}{v:Value}(x:jO w S es ep t I T vs i s.heap)(hv:vs[i]?=some v)
  (hQ:∀h',jO w S es ep t I T vs (i+1) h'->(∀b o,b≠I->s.heap.get? b=some o->h'.get? b=some o)->Q (some v) {s with heap:=h'}):wpAny (model prog w) A (pyNext (.ref I)) Q E s:=by
 obtain⟨h1,h2,⟨first,h3,h4⟩,h5,h6⟩:=id x;have hT:s.TypeIs (.ref I) "set_iterator" := ⟨_,h3,rfl⟩
 unfold pyNext;refine wpAny_bind (wpAny_attempt (wpAny_callSpecial?_slot (name:=iO "__next__") hT o9 (wpAny_call_entry o9 hT KL ?_ (KN _))))
 unfold Builtin.«set_iterator.__next__»;refine wpAny_bind (wpAny_of_eq (a:=(bx I,[])) rfl ?_)
 dsimp only
 have hi:i<vs.length:=(cP.mp hv).1;refine wpAny_bind (wpAny_fieldsOf h3 rfl ?_)
 dsimp only [rawInt]
 refine wpAny_bind (wpAny_setEntries_of h1 rfl h2 ?_);rw [if_neg (by simp)];refine wpAny_bind (wpAny_pure ?_)
 cases h4 with
 |text k _ e=>
  dsimp only [rawInt]
  unfold setNext;refine wpAny_bind ?_;refine wpAny_bind (wpAny_setState_of h1 rfl h2 ?_)
  dsimp only
  refine wpAny_bind (qC ?_);rw [e,if_pos rfl];rw [if_neg (by simp)];refine wpAny_bind ?_;unfold setWalk;refine wpAny_bind (wpAny_setState_of h1 rfl h2 ?_)
  dsimp only
  refine wpAny_bind (qC ?_);rw [e,if_pos rfl];refine wpAny_bind (wpAny_askSetting (wpAny_pure (wpAny_pure ?_)));have hx:∃ee:Int×Value,(pickOrder (w.params.setOrder S ep) es)[i]?=some ee/\ee.2=v:=by
   rw [gR,gr] at hv;obtain⟨ee,z1,z2⟩:=hv;exact⟨ee,by simpa using z1,z2⟩
  obtain⟨ee,hx,rfl⟩:=hx;have pU:(pickOrder (w.params.setOrder S ep) es)[((i:Nat):Int).toNat]?=some ee:=hx;show wpAny _ _ (match (Option.map (λe:Int×Value=>(e.2,((k:Nat):Int).toNat)) (pickOrder (w.params.setOrder S ep) es)[((i:Nat):Int).toNat]?) with | some (x,next)=>_ | none=>_) _ _ _;rw [pU]
  dsimp only [Option.map]
  refine wpAny_bind (wpAny_setField_rec h3 (by simp) λg0 q0 s0=>?_);refine wpAny_bind (wpAny_setField_rec q0 (by simp) λg1 q1 s1=>wpAny_pure ⟨_,rfl,wpAny_pure ?_⟩);exact hQ g1 (x.step (λb o hb e=>s1.extBut b o hb (s0.extBut b o hb e)) (first:=rawInt k) q1 λ_=>.text k (i+1) e) λb o hb e=>s1.extBut b o hb (s0.extBut b o hb e)
 |drawn _ pl e np hs AR hp=>
  dsimp only [rawInt]
  have hvp:∃p,pl[i]?=some p/\(es[p]?.map (·.2)).getD .none=v:=by
   rw [gR,gr] at hv;exact hv
  obtain⟨p,Od,fY⟩:=hvp;have bO:p<es.size:=by
   have:=hp.mem_iff.mp (jV Od);simpa using this
  have Ou:es[p]?=some es[p]:=by simp [bO]
  rw [Ou] at fY;unfold seqItems?;refine wpAny_bind (wpAny_bind (wpAny_load AR (wpAny_pure ?_)));have sZ:(pl.map fun(p:Nat)=>rawInt p).toArray[((i:Nat):Int).toNat]?=some (rawInt p):=by
   show (pl.map fun(p:Nat)=>rawInt p).toArray[i]?=_;simp [Od]
  dsimp only
  rw [sZ]
  dsimp only [rawInt]
  unfold setNextDrawn;refine wpAny_bind (wpAny_bind (wpAny_setState_of h1 rfl h2 ?_))
  dsimp only
  rw [if_neg (by simp)];have acR:es[((p:Nat):Int).toNat]?=some es[p]:=Ou;rw [acR];refine wpAny_pure ?_;refine wpAny_bind (wpAny_setField_rec h3 (by simp) λg1 q1 s1=>wpAny_pure ⟨_,rfl,wpAny_pure ?_⟩);have acf:es[p].2=v:=fY;show Q (some es[p].2) _;rw [acf];exact hQ g1 (x.step (λb o hb e=>s1.extBut b o hb e) (first:=.ref T) q1 λkT=>.drawn (i+1) pl e np hs (kT _ AR) hp) λb o hb e=>s1.extBut b o hb e
 |kq _ e hl hd hu=>
  dsimp only [rawInt]
  have hie:i<es.size:=by
   rw [cg,eZ] at hi;exact hi
  unfold setNext;refine wpAny_bind ?_;refine wpAny_bind (wpAny_setState_of h1 rfl h2 ?_)
  dsimp only
  refine wpAny_bind (qC ?_);rw [e,if_neg (by simp)]
  split
  ·rename_i hZ
   have hZ:(!t.plain&&decide (es.size > 1))=true:=hZ;rw [hd] at hZ;cases hZ
  ·refine wpAny_bind (show wpAny (model prog w) A.in1 (if (!t.led&&!es.isEmpty)=true then unsupported "set:maker-not-led" else pure ()) _ _ _ from ?_)
   rw [hl,if_neg (by simp)];refine wpAny_pure (wpAny_pure ?_);have hx:∃ee:Int×Value,es[i]?=some ee/\ee.2=v:=by
    rw [gR,gr] at hv;obtain⟨ee,z1,z2⟩:=hv;exact⟨ee,by simpa using z1,z2⟩
   obtain⟨⟨eh,ev⟩,hx,rfl⟩:=hx;have Az:=LW h2;have b0:uQ t.place ((v8 t.place i:Nat):Int).toNat=i:=Q2 hu (by omega);have hj:t.place[i]?=some (t.place.getD i 0):=by
    rw [oK,oI (by omega)];rfl
   rw [b0,hx,hj];show wpAny _ _ (do
    setField (bx I) 0 (Value.int ((t.place.getD i 0+1:Nat):Int) 0)
    setField (bx I) 1 (Value.int (((i:Nat):Int)+1) 0)
    ret ev) _ _ _
   refine wpAny_bind (wpAny_setField_rec h3 (by simp) λg0 q0 s0=>?_);refine wpAny_bind (wpAny_setField_rec q0 (by simp) λg1 q1 s1=>wpAny_pure ⟨_,rfl,wpAny_pure ?_⟩);exact hQ g1 (x.step (λb o hb e=>s1.extBut b o hb (s0.extBut b o hb e)) (first:=rawInt (t.place.getD i 0+1:Nat)) q1 λ_=>.kq (i+1) e hl hd hu) λb o hb e=>s1.extBut b o hb (s0.extBut b o hb e)
theorem Vw {Q:Option Value->Shared->Prop}(hh:A.handled=none)(x:jO w S es ep t I T vs es.size s.heap)
  (hQ:∀h' tk,(∀b o,b≠I->s.heap.get? b=some o->h'.get? b=some o)->Q none {s with heap:=h',toks:=tk}):wpAny (model prog w) A (pyNext (.ref I)) Q E s:=by
 obtain⟨h1,h2,⟨first,h3,h4⟩,h5,h6⟩:=id x;have hT:s.TypeIs (.ref I) "set_iterator" := ⟨_,h3,rfl⟩
 have wX:A.in1.handled=none:=hh;have fin:∀(g:Heap) (q:g.get? I=s.heap.get? I∨True) (sb:∀b o,b≠I->s.heap.get? b=some o->g.get? b=some o) {CN:Array Value},g.get? I=some {cls:=.type "set_iterator",dict:=none,data:=.fields CN,slots:=#[]}->2<CN.size->
   wpAny (model prog w) A.in1 (do
    setField (bx I) 2 eX
    let e ← newExc (kO "StopIteration") []
    raiseNew e:Sem Fin) (λfin s'=>∃v,fin=Fin.done (Flow.ret v)/\wpAny (model prog w) A (pure (some v)) Q E s')
    (λe s'=>wpAny (model prog w) A (do
     let b ← isInstance e (kO "StopIteration")
     if b=true then pure none else throw e) Q E s') {s with heap:=g}:=by
  intro g _ sb CN ho hz;refine wpAny_bind (wpAny_setField_rec ho hz λg1 q1 s1=>?_)
  wp_walk using wX
  simp only [raiseNew];refine wpAny_bind (wpAny_handled ?_);rw [wX];refine wpAny_bind (wpAny_pure (wpAny_throw ?_));refine wpAny_bind (wpAny_isInstance (b:=true) (T:="StopIteration") ⟨_,bE _ rfl,rfl⟩ isSubtype_stop ?_)
  refine wpAny_pure (hQ _ _ λb o hb e=>?_);refine aI _ (aI _ ?_);exact s1.extBut b o hb (sb b o hb e)
 unfold pyNext;refine wpAny_bind (wpAny_attempt (wpAny_callSpecial?_slot (name:=iO "__next__") hT o9 (wpAny_call_entry o9 hT KL ?_ (KN _))))
 unfold Builtin.«set_iterator.__next__»;refine wpAny_bind (wpAny_of_eq (a:=(bx I,[])) rfl ?_)
 dsimp only
 refine wpAny_bind (wpAny_fieldsOf h3 rfl ?_)
 dsimp only [rawInt]
 refine wpAny_bind (wpAny_setEntries_of h1 rfl h2 ?_);rw [if_neg (by simp)];refine wpAny_bind (wpAny_pure ?_)
 cases h4 with
 |text k _ e=>
  dsimp only [rawInt]
  unfold setNext;refine wpAny_bind ?_;refine wpAny_bind (wpAny_setState_of h1 rfl h2 ?_)
  dsimp only
  refine wpAny_bind (qC ?_);rw [e,if_pos rfl];rw [if_neg (by simp)];refine wpAny_bind ?_;unfold setWalk;refine wpAny_bind (wpAny_setState_of h1 rfl h2 ?_)
  dsimp only
  refine wpAny_bind (qC ?_);rw [e,if_pos rfl];refine wpAny_bind (wpAny_askSetting (wpAny_pure (wpAny_pure ?_)));have hn:(pickOrder (w.params.setOrder S ep) es)[((es.size:Nat):Int).toNat]?=none:=by
   rw [Ck];have:=(LX (w.params.setOrder S ep) es).length_eq;simp only [eZ] at this;show _<=es.size;exact Nat.le_of_eq this
  show wpAny _ _ (match (Option.map (λe:Int×Value=>(e.2,((k:Nat):Int).toNat)) (pickOrder (w.params.setOrder S ep) es)[((es.size:Nat):Int).toNat]?) with | some (x,next)=>_ | none=>_) _ _ _;rw [hn];exact fin s.heap (.inr trivial) (λb o _ e=>e) h3 (by simp)
 |drawn _ pl e np hs AR hp=>
  dsimp only [rawInt]
  unfold seqItems?;refine wpAny_bind (wpAny_bind (wpAny_load AR (wpAny_pure ?_)));have sZ:(pl.map fun(p:Nat)=>rawInt p).toArray[((es.size:Nat):Int).toNat]?=none:=by
   rw [Ck];have:=hp.length_eq;simp at this;show _<=es.size;simp [this]
  dsimp only
  rw [sZ]
  dsimp only
  refine wpAny_bind (wpAny_setField_rec h3 (by simp) λg0 q0 s0=>?_);exact fin g0 (.inr trivial) (λb o hb e=>s0.extBut b o hb e) q0 (by simp)
 |kq _ e hl hd hu=>
  dsimp only [rawInt]
  unfold setNext;refine wpAny_bind ?_;refine wpAny_bind (wpAny_setState_of h1 rfl h2 ?_)
  dsimp only
  refine wpAny_bind (qC ?_);rw [e,if_neg (by simp)]
  split
  ·rename_i hZ
   have hZ:(!t.plain&&decide (es.size > 1))=true:=hZ;rw [hd] at hZ;cases hZ
  ·refine wpAny_bind (show wpAny (model prog w) A.in1 (if (!t.led&&!es.isEmpty)=true then unsupported "set:maker-not-led" else pure ()) _ _ _ from ?_)
   rw [hl,if_neg (by simp)];refine wpAny_pure (wpAny_pure ?_);have Az:=LW h2;have b0:uQ t.place ((v8 t.place es.size:Nat):Int).toNat=es.size:=Q2 hu (by omega);have b1:es[uQ t.place ((v8 t.place es.size:Nat):Int).toNat]?=none:=by
    rw [b0,Ck];exact aN _
   rw [b1];exact fin s.heap (.inr trivial) (λb o _ e=>e) h3 (by simp)
end
section
variable {prog:Program}{w:World}{A:Around}{E:Value->Shared->Prop}{s:Shared}{S I T:Addr}{es:Array (Int×Value)}{ep:Nat}{t:SetTable}{vs:List Value}{i:Nat}
theorem PV {Q:Nat->Shared->Prop}(h1:s.heap.get? S=some (dy es ep t))(h2:t.fits es.size=true)(q:Q ep s):wpAny (model prog w) A (setEpoch S) Q E s:=by
 unfold setEpoch;exact wpAny_bind (wpAny_setState_of h1 rfl h2 (wpAny_pure q))
theorem VN {Q:Value->Shared->Prop}(h1:s.heap.get? S=some (dy es ep t))(h2:t.fits es.size=true)(hz:es.size<scanBound)(hl:w.params.followText "set-order" = false->t.led=true)(hp:gf t)
  (q:∀(I T:Addr) (vs:List Value) (h':Heap) (d:Drawn),vs.Perm (es.toList.map (·.2))->jO w S es ep t I T vs 0 h'->s.heap.objs.size<=I->(T=S∨s.heap.objs.size<=T)->T<h'.objs.size->(∀b o,s.heap.get? b=some o->h'.get? b=some o)->Q (.ref I) {s with heap:=h',drawn:=d}) :
  wpAny (model prog w) A (pyIter (.ref S)) Q E s:=by
 have hT:s.TypeIs (.ref S) "set" := ⟨_,h1,rfl⟩
 have hS:S<s.heap.objs.size:=aK h1;refine wpAny_pyIter_slot hT K1 (wpAny_call_entry K1 hT VO ?_ (VP _));unfold Builtin.«frozenset.__iter__»;unfold Builtin.Frozenset.slot0;refine wpAny_bind (wpAny_bind (wpAny_of_eq (a:=(bx S,[])) rfl ?_))
 dsimp only
 refine wpAny_pure ?_;unfold Cg;refine wpAny_bind (wpAny_bind (wpAny_setEntries_of h1 rfl h2 (wpAny_pure ?_)));refine wpAny_bind ?_;unfold setDrawn;refine wpAny_bind (wpAny_setState_of h1 rfl h2 ?_)
 dsimp only
 refine wpAny_bind (qC (wpAny_pure ?_));have Qa:∀vs:List Value,vs.Perm (es.toList.map (·.2))->(∀h:Heap,uD w S es ep t h S (rawInt ((0:Nat):Int)) 0 vs)->wpAny (model prog w) A.in1 (do
       let first ← pure (rawInt 0)
       let e ← setEpoch S
       let f ← newFields "set_iterator" [first,rawInt 0,bx S,rawInt es.size,rawInt e]
       ret f:Sem Fin) (λfin s'=>∃v,fin=Fin.done (Flow.ret v)/\∃T' r,s'.TypeIs v T'/\typeLookup (kO T') (iO "__next__")=pure (some r)/\Q v s') E s:=by
  intro vs pv im;refine wpAny_bind (wpAny_pure (wpAny_bind (PV h1 h2 (wpAny_bind ?_))));unfold newFields;refine wpAny_newObj_type (wpAny_pure ⟨_,rfl,"set_iterator",_,⟨_,bE _ rfl,rfl⟩,o9.lookup,?_⟩)
  have e:s={s with heap:=s.heap,drawn:=s.drawn}:=by cases s; rfl
  refine q s.heap.objs.size S vs _ s.drawn pv ⟨aI _ h1,h2,⟨_,bE _ rfl,im _⟩,⟨a9 hS,a9 hS⟩,by rw [pv.length_eq]; simp⟩ (aN _) (.inl rfl) (by rw [gk]; exact l8 hS) λb o e=>aI _ e
 cases hb:w.params.followText "set-order" with
 |true=>
  rw [if_neg (by simp)];exact Qa _ ((LX _ es).map _) λh=>.text 0 0 hb
 |false=>
  by_cases mO:(!t.plain&&decide (es.size > 1))=true
  ·have bO:t.plain=false:=by
    cases z:t.plain with
    |false=>rfl
    |true=>rw [z] at mO; cases mO
   have hd:1<es.size:=by
    rw [bO] at mO;simpa using mO
   split
   case isFalse hc=>exact absurd (show (!false&&(!t.plain&&decide (es.size > 1)))=true by rw [mO]; rfl) hc
   refine wpAny_bind (Qj es.size _ _ _ (by simp) λys d py=>?_);refine wpAny_bind (wpAny_newTuple ?_ (by rw [cg,py.length_eq,ri]; exact bH (nH hz) (by decide)));have iH:(s.heap.push {cls:=.type "tuple",data:=.seq (ys.map fun(p:Nat)=>rawInt p).toArray}).get? S=some (dy es ep t):=aI _ h1
   refine wpAny_bind (PV (s:={s with heap:=s.heap.push {cls:=.type "tuple",data:=.seq (ys.map fun(p:Nat)=>rawInt p).toArray},drawn:=d}) iH h2 (wpAny_bind ?_))
   unfold newFields;refine wpAny_newObj_type (wpAny_pure ⟨_,rfl,"set_iterator",_,⟨_,bE _ rfl,rfl⟩,o9.lookup,?_⟩)
   have sz:(s.heap.push {cls:=.type "tuple",data:=.seq (ys.map fun(p:Nat)=>rawInt p).toArray}).objs.size=s.heap.objs.size+1:=gk ..
   have pv:(ys.map λp=>(es[p]?.map (·.2)).getD .none).Perm (es.toList.map (·.2)):=by
    refine(py.map _).trans ?_;have:(bf es.size).map (λp=>(es[p]?.map (·.2)).getD .none)=es.toList.map (·.2):=by
     apply List.ext_getElem (by simp)
     intro n a1 a2;simp at a1 a2;simp [a1]
    rw [this]
   refine q _ s.heap.objs.size (ys.map λp=>(es[p]?.map (·.2)).getD .none) _ d pv ⟨aI _ iH,h2,⟨_,bE _ rfl,.drawn 0 ys hb bO hd (aI _ (bE _ rfl)) py⟩,⟨?_,?_⟩,by rw [pv.length_eq]; simp⟩ ?_ (.inr (aN _)) ?_ λb o e=>aI _ (aI _ e)
   ·rw [sz]; exact a9 (l8 hS)
   ·rw [sz]; exact a9 (uW _)
   ·rw [sz]; exact mh _
   ·rw [gk,sz]; exact l8 (uW _)
  ·have mO:(!t.plain&&decide (es.size > 1))=false:=by simpa using mO
   split
   case isTrue hc=>
    have gG:(!false&&(!t.plain&&decide (es.size > 1)))=true:=hc;rw [mO] at gG;cases gG
   exact Qa _ (.refl _) λh=>.kq 0 hb (hl hb) mO hp.1
end
section
variable {prog:Program}{w:World}{A:Around}{E:Value->Shared->Prop}{S I T:Addr}{es:Array (Int×Value)}{ep:Nat}{t:SetTable}{vs:List Value}
theorem Vs (hh:A.handled=none):Walks prog w A I [S,I,T] [I] es.size (λi v=>vs[i]?=some v) (λi h=>jO w S es ep t I T vs i h/\i<=es.size) where
 sub:=λb hb=>by
  have:b=I:=by simpa using hb
  simp [this]
 frame:=λi h h' ⟨x,hi⟩ k=>⟨x.keep k,hi⟩
 item:=λi s Q E hi ⟨x,_⟩ hQ=>by
  have hl:i<vs.length:=by rw [x.len]; exact hi
  refine Vv (v:=vs[i]) x (by simp [hl]) λh' x' k=>?_;exact hQ _ h' s.toks (by simp [hl]) ⟨x',hi⟩ λb o hb e=>k b o (by simpa using hb) e
 done:=λs Q E ⟨x,_⟩ hQ=>Vw hh x λh' tk k=>hQ h' tk λb o hb e=>k b o (by simpa using hb) e
 self:=λi s Q E ⟨x,_⟩ q=>by
  obtain⟨first,h3,_⟩:=x.it;have hT:s.TypeIs (.ref I) "set_iterator" := ⟨_,h3,rfl⟩
  refine wpAny_pyIter_slot hT KO (wpAny_call_entry KO hT Vt ?_ (Vu _));show wpAny _ _ (ret (.ref I)) _ _ s;exact wpAny_pure ⟨_,rfl,"set_iterator",_,hT,o9.lookup,q⟩
end
section
variable {prog:Program}{w:World}{A:Around}{E:Value->Shared->Prop}{s:Shared}{S:Addr}{es:Array (Int×Value)}{ep:Nat}{t:SetTable}
theorem aeX {Q:List Value->Shared->Prop}(hh:A.handled=none)(h1:s.heap.get? S=some (dy es ep t))(h2:t.fits es.size=true)(hz:es.size<scanBound)(hl:w.params.followText "set-order" = false->t.led=true)(hp:gf t)
  (q:∀(vs:List Value) (h':Heap) (tk:Nat) (d:Drawn),vs.Perm (es.toList.map (·.2))->s.heap.objs.size<h'.objs.size->(∀b o,s.heap.get? b=some o->h'.get? b=some o)->Q vs {s with heap:=h',toks:=tk,drawn:=d}) :
  wpAny (model prog w) A (collect (.ref S)) Q E s:=by
 have hS:S<s.heap.objs.size:=aK h1;have AS:s.heap.objs.size≠S:=oO hS;unfold collect;refine wpAny_bind (wpAny_runValue (codeAny_builtin PySem.F.entry_proto_collect ?_));rw [oF PySem.F.plain_proto_collect _];show wpAny _ A.in1 (newList [] >>= λl=>again (.builtin "list.__iadd__" ⟨[l,.ref S],[]⟩)) _ _ s
 refine wpAny_bind (wpAny_newObj_type (wpAny_pure ⟨plainId_quiet PySem.F.plain_list_iadd _,codeAny_builtin PySem.F.entry_list_iadd ?_⟩));rw [oF PySem.F.plain_list_iadd _];show wpAny _ A.in1 (JH (.ref s.heap.objs.size) (.ref S) (.ref s.heap.objs.size)) _ _ _;have iH:(s.heap.push {cls:=.type "list",data:=.seq ([]:List Value).toArray}).get? S=some (dy es ep t):=aI _ h1
 unfold JH;refine wpAny_bind (wpAny_typeOf (T:="set") ⟨_,iH,rfl⟩ ?_)
 have e1:JC (.ref s.heap.objs.size) (.ref S)=false:=by simp [JC,AS]
 rw [if_neg (by rw [e1]; decide)];refine wpAny_bind (VN (s:={s with heap:=s.heap.push {cls:=.type "list",data:=.seq ([]:List Value).toArray}}) iH h2 hz hl hp λI T vs h' d pv x hI hT hTl k=>?_)
 have Gk:({s with heap:=h',drawn:=d}:Shared).TypeIs (.ref S) "set" := ⟨_,x.set,rfl⟩
 refine wpAny_bind (wpAny_holding ?_);unfold Builtin.List.listLengthHint;refine wpAny_bind (wpAny_specialOf Gk VM ?_);have sp:splitId "set.__len__" = some ("set","__len__"):=by decide +kernel
 dsimp only
 rw [sp]
 dsimp only
 refine wpAny_bind (wpAny_isInstance (b:=true) Gk DE ?_);rw [if_neg (by simp)];rw [if_pos (by decide +kernel)];refine wpAny_bind (wpAny_typeOf Gk ?_)
 dsimp only
 refine wpAny_pure ?_;rw [if_pos (by decide +kernel)];refine wpAny_bind (wpAny_rule ?_);have o1:h'.get? s.heap.objs.size=some {cls:=.type "list",data:=.seq ([]:List Value).toArray}:=k _ _ (bE _ rfl)
 have sz:(s.heap.push {cls:=.type "list",data:=.seq ([]:List Value).toArray}).objs.size=s.heap.objs.size+1:=gk ..
 have OM:s.heap.objs.size+1<=I:=by rw [← sz]; exact hI
 have Oi:s.heap.objs.size≠I:=a9 OM;have jE:s.heap.objs.size≠T:=by
  rcases hT with z | z
  ·rw [z]; exact AS
  ·exact a9 (show s.heap.objs.size+1<=T by rw [← sz]; exact z)
 refine wpAny_bind ?_;show wpAny _ A.in1 (updateSeq s.heap.objs.size (·.push .none) >>= λ_=>updateSeq s.heap.objs.size (·.pop)) _ _ _;refine wpAny_bind (wpAny_updateSeq o1 rfl ?_);have o2:=ma (me (·.push eX)) o1 rfl;refine wpAny_updateSeq o2 rfl ?_;have o3:=ma (me (·.pop)) o2 rfl;have Mg:∀b o,b≠s.heap.objs.size->h'.get? b=some o->((h'.update s.heap.objs.size (me (·.push eX))).update s.heap.objs.size (me (·.pop))).get? b=some o:=
  λb o hb e=>(vh _ _ (cz hb)).trans ((vh _ _ (cz hb)).trans e)
 have x3:jO w S es ep t I T vs 0 ((h'.update s.heap.objs.size (me (·.push eX))).update s.heap.objs.size (me (·.pop))):=x.keep λb hb o e=>Mg b o (by
  rintro rfl;simp only [aO,eL,or_false] at hb;rcases hb with z | z | z
  ·exact AS z
  ·exact Oi z
  ·exact jE z) e
 have hlv:vs.length=es.size:=x.len;refine wpAny_pure ⟨plainId_quiet PySem.F.plain_extend_loop _,codeAny_extend_loopS (Vs (prog:=prog) (w:=w) (A:=A.in1) (I:=I) (S:=S) (T:=T) (es:=es) (ep:=ep) (t:=t) (vs:=vs) hh).toS (bH (nH hz) (by decide)) _ (by simp; exact⟨AS,Oi,jE⟩) _ es.size 0 _ _ _ rfl (fP _) ⟨x3,fP _⟩ o3 (ItemsOf.nil _) λs' lU c' hm oh xf=>?_⟩;show wpAny _ A (load s.heap.objs.size >>= _) _ _ s';refine wpAny_bind (wpAny_load oh (wpAny_pure ?_));have ev:lU.toList=vs:=by
  obtain⟨z1,z2⟩:=xf
  apply List.ext_getElem (by simp [z1,hlv])
  intro n a1 a2;have:vs[n]?=some lU[n]:=z2 n lU[n] (by simp at a1; simp [a1]);rw [iq a2] at this;simpa using (gn this).symm
 obtain⟨m1,m2,m3,m4,m5⟩:=hm;have eS:s'={s with heap:=s'.heap,toks:=s'.toks,drawn:=d}:=by
  obtain⟨g1,g2,g3,g4,g5⟩:=s'
  simp only at m2 m3 m4 ⊢
  rw [m2,m3,m4]
 show Q lU.toList s';rw [ev,eS];refine q vs _ _ _ pv (aK oh) λb o e=>m1 b o ?_ (Mg b o (a9 (aK e)) (k b o (aI _ e)));have hb:=aK e;simp only [aO,eL,or_false,not_or];exact⟨a9 hb,a9 (cK hb (bH (mh _) OM))⟩
theorem Vd {Q:Value->Shared->Prop}{ss:List Str}(hh:A.handled=none)(h1:s.heap.get? S=some (dy es ep t))(h2:t.fits es.size=true)(hz:es.size<64)(hl:w.params.followText "set-order" = false->t.led=true)(hp:gf t)
  (hk:Paired (λk (e:Int×Value)=>(jk prog w).is k e.2=true) ss es.toList)
  (q:∀(L:Addr) (out:List Value) (o8:List Str) (n:Nat) (h':Heap) (tk:Nat) (d:Drawn),StrsAre out o8->o8.Perm ss->sortedS o8=true->s.heap.objs.size<=L->h'.get? L=some {cls:=.type "list",data:=.seq out.toArray n}->(∀b o,s.heap.get? b=some o->h'.get? b=some o)->Q (.ref L) {s with heap:=h',toks:=tk,drawn:=d}) :
  wpAny (model prog w) A (call (.builtin "sorted") [.ref S]) Q E s:=by
 refine Calls.call_function_entry kind_sorted plain_sorted entry_sorted (args_sorted1 _) ?_;unfold Builtin.«sorted»;refine wpAny_bind (m:=checkCount "sorted" 1 1 _) (wpAny_pure ?_)
 have N6:es.size<scanBound:=qQ hz (by decide);refine wpAny_bind (aeX (A:=A.in1) hh h1 h2 N6 hl hp λvs h' tk d pv aF k=>?_);refine wpAny_bind (wpAny_newList ?_ (by rw [pv.length_eq]; simp; exact bH (nH N6) (by decide)));have hlen:vs.length<64:=by rw [pv.length_eq]; simpa using hz
 have F0:Paired (λk (v:Value)=>(jk prog w).is k v=true) ss (es.toList.map (·.2)):=by
  have key:∀{a:List Str} {b:List (Int×Value)},Paired (λk (e:Int×Value)=>(jk prog w).is k e.2=true) a b->Paired (λk (v:Value)=>(jk prog w).is k v=true) a (b.map (·.2)):=by
   intro a b h
   induction h with
   |nil=>exact .nil
   |cons r t ih=>exact .cons r ih
  exact key hk
 obtain⟨Vc,p1,p2⟩:=vU pv.symm F0;have xh:StrsAre vs Vc:=by
  have key:∀{a:List Str} {b:List Value},Paired (λk (v:Value)=>(jk prog w).is k v=true) a b->StrsAre b a:=by
   intro a b h
   induction h with
   |nil=>exact .nil
   |cons r t ih=>
    obtain⟨tk,rfl⟩:=u9 r;exact .cons _ tk ih
  exact key p1
 have lG:(h'.push (seqObj "list" vs.toArray 0)).get? h'.objs.size=some (seqObj "list" vs.toArray 0):=bE _ rfl
 refine wpAny_bind (wpAny_holding (wpAny_call_entry slot_list_sort ⟨_,lG,rfl⟩ entry_list_sort (list_sort_treeK strKind_oneLt lG xh.keysOf (λajg ajf rest e=>keyKind_strs (by rw [← e]; exact xh)) hlen λcT a1 a2=>⟨_,rfl,?_⟩) (args_list_sort _)));obtain⟨o8,b1,b2,b3⟩:=sorted_out_str xh a1 a2;obtain⟨e,he⟩:=sortedHeap_at (out:=(arrOf cT).map (·.2)) lG;refine wpAny_pure ⟨_,rfl,q h'.objs.size ((arrOf cT).map (·.2)).toList o8 e _ tk d b1 (b2.trans p2) b3 (nH aF) (by rw [yF]; exact he) λb o eb=>?_⟩;have hb:=aK (k b o eb);show (sortedHeap (h'.push (seqObj "list" vs.toArray 0)) h'.objs.size vs ((arrOf cT).map (·.2))).get? b=some o
 rw [sortedHeap_old (a9 hb) (by rw [gk]; exact l8 hb)];exact aI _ (k b o eb)
end
theorem Lg:∀{l:List Str}{p:Str},risingS p l=true->(p::l).Pairwise λa b=>kC a.cps.toList b.cps.toList
 | [],p,_=>List.pairwise_singleton ..
 |x::l,p,h=>by
  have h':(!ltCps x.cps.toList p.cps.toList&&risingS x l)=true:=h;obtain⟨h1,h2⟩:=yH.mp h';have ih:=Lg h2;have sZ:kC p.cps.toList x.cps.toList:=by
   rw [ltCps_eq] at h1;simpa using h1
  refine kK.mpr ⟨λz hz=>?_,ih⟩;rcases aO.mp hz with rfl | hz
  ·exact sZ
  ·exact MY sZ ((kK.mp ih).1 z hz)
theorem Ve:∀{l:List Str},sortedS l=true->l.Pairwise λa b=>kC a.cps.toList b.cps.toList
 | [],_=>.nil
 |x::l,h=>Lg h
theorem Kv {ls:List (List Nat)}{ss:List Str}(hp:ss.Perm (ls.map txt))(hs:sortedS ss=true):ss=(gT ls).map txt:=by
 have e1:ss=(ss.map λx=>x.cps.toList).map txt:=by
  rw [dw]
  conv=>lhs; rw [← List.map_id ss]
  refine nC λx _=>?_;cases x;simp [txt]
 have e2:(ss.map λx=>x.cps.toList)=gT ls:=by
  refine Dw (List.pairwise_map.mpr (Ve hs)) (zr ls) ?_;refine(hp.map _).trans ?_;rw [dw];have:ls.map ((λx:Str=>x.cps.toList) ∘ txt)=ls:=by
   conv=>rhs; rw [← List.map_id ls]
   refine nC λx _=>?_;simp [txt]
  rw [this];exact(k9 ls).symm
 rw [← e2];exact e1
theorem Kk:∀{out:List Value}{ls:List (List Nat)},StrsAre out (ls.map txt)->Vals (ls.map S) out
 |_,[],.nil=>.nil
 |_,l::ls,.cons _ t r=>.cons ⟨t,rfl⟩ (Kk r)
theorem Ly {α:Type}[DecidableEq α]{x:α}{l:List α}(h:x∈l):[x].removeAll l=[]:=by simp [qU,h]
theorem Lx {α:Type}[DecidableEq α]{x:α}{l:List α}(h:x∉l):[x].removeAll l=[x]:=by simp [qU,h]
theorem Qe {α β:Type}[DecidableEq α][DecidableEq β](h:α->β)(hi:∀a b,h a=h b->a=b):∀(n:Nat) (l:List α),l.length=n->(l.map h).eraseDups=l.eraseDups.map h
 |0,l,e=>by rw [oH.mp e]; rfl
 |n+1,l,e=>by
  have bF:l≠[]:=λz=>by rw [z] at e; cases e
  have hl:l.dropLast.length=n:=by rw [List.length_dropLast,e]; rfl
  have ih:=Qe h hi n l.dropLast hl;rw [← List.dropLast_concat_getLast bF,nt,a5,kF,vg,vg,ih,nt]
  congr 1
  by_cases z:l.getLast bF∈l.dropLast
  ·have z':h (l.getLast bF)∈l.dropLast.map h:=aX.mpr ⟨_,z,rfl⟩
   rw [Ly z',Ly z];rfl
  ·have z':h (l.getLast bF)∉l.dropLast.map h:=λq=>by
    obtain⟨a,ha,e⟩:=aX.mp q;exact z (hi _ _ e ▸ ha)
   rw [Lx z',Lx z];rfl
theorem Hh (ls:List (List Nat)):(ls.map txt).eraseDups=ls.eraseDups.map txt:=by
 rw [Qe txt JZ _ ls rfl];rw [Q1 (α:=List Nat) _]
theorem Qf (ls:List (List Nat)){n:Nat}(h:ls.length<=n):ls.eraseDups.length<=n:=by
 have:=Hi ls n h
 rwa [Q1 (α:=List Nat) _] at this
theorem Dy:∀{ds:List Dt}{ls:List (List Nat)},e9 ds=some ls->bj ds->∀l∈ls,l.length<=10000
 | [],ls,h,_,l,hl=>by cases h; cases hl
 |.str a::ds,ls,h,z,l,hl=>by
  have h':(e9 ds).map (a :: ·)=some ls:=h;obtain⟨ls',e1,e2⟩:=gr.mp h';subst e2;rcases aO.mp hl with rfl | hl
  ·exact z.1
  ·exact Dy e1 z.2 l hl
 |.ax::ds,ls,h,_,_,_=>by cases h
 |.bl _::ds,ls,h,_,_,_=>by cases h
 |.int _::ds,ls,h,_,_,_=>by cases h
 |.tup _::ds,ls,h,_,_,_=>by cases h
 |.lst _::ds,ls,h,_,_,_=>by cases h
theorem Inv.aet {X:Cx}{pins:List (Addr×Obj)}{σ:St}{H:Hp}{s:Shared}(I:Inv X pins σ H s)(d:Drawn):Inv X pins σ H {s with drawn:=d}:=
 ⟨I.ok,I.os,I.bare,I.base,I.loc,I.cell,I.free,I.ff,I.pin,I.au,I.len,I.tk⟩
section
variable {X:Cx}{cls:Nat->Addr}{E:XK}{e:Expr}{f:aa->M Dt}{pos iV p p2:Pos}
theorem y8 {pins:List (Addr×Obj)}{σ:St}{H:Hp}{s:Shared}{A:List Addr}{Q:VK}{L:Addr}{out:List Value}{n:Nat}{h':Heap}{tk:Nat}{d:Drawn}{ls:List (List Nat)}(I:Inv X pins σ H s)(Lv:cV H A)(hL:s.heap.objs.size<=L)(ho:h'.get? L=some {cls:=.type "list",data:=.seq out.toArray n})(k:∀b o,s.heap.get? b=some o->h'.get? b=some o)
  (hv:StrsAre out (ls.map txt)) (hl:ls.length<=10000) (hz:∀l∈ls,l.length<=10000) (q:Res X.K cls A E (.ok (.lst (ls.map Dt.str))) H Q):EP X pins σ Q (.ref L) {s with heap:=h',toks:=tk,drawn:=d}:=by
 have c9:H L=none:=I.au.fresh hL;refine(λht=>⟨.ref L,upd H L (.lst (ls.map S)),(I.laid (o:=.lst (ls.map S)) (t':=tk) k hL ⟨by rw [cg]; exact big _ hl,out,n,Kk hv,ho⟩).aet d,rfl,?_⟩);refine q (.ref L) _ (.upd c9) (su (kj Lv c9) ?_) ⟨by simpa using hl,js λx hx=>?_⟩
 ·have:∀l:List (List Nat),aq X.K (ar (upd H L (.lst (ls.map S))) A) (l.map Dt.str) (l.map S):=λl=>by
   induction l with
   |nil=>exact .nil
   |cons a l ih=>exact .cons iT ih
  exact this ls
 ·obtain⟨l,gF,rfl⟩:=aX.mp hx
  exact hz l gF
theorem adZ (hc:X.calm=true)(F8:Gl X "sorted")(tq:X.mg "sorted" = none)(tx:Gl X "set")(tm:X.mg "set" = none)(ha:Ev X cls E e f)(bB:isStar e=false) :
  Ev X cls E (.Call (.Name "sorted" p) [.Call (.Name "set" p2) [e] [] iV] [] pos) (p1 vZ f):=by
 intro pins s σ H Q I ⟨O,A,ρ,F,q⟩;refine wpAny_Call_Name_kw (g6 I F8 tq boot_sorted ?_ (by decide) (by decide));refine Cp (e:=.Call (.Name "set" p2) [e] [] iV) (rest:=[]) ?_ rfl rfl
 refine nA (x:=eval (.Call (.Name "set" p2) [e] [] iV) X.env) ?_
 refine wpAny_Call_Name_kw (g6 I tx tm (show bootBuiltins "set" = some (.type "set") from by decide +kernel) ?_ (by decide) (by decide))
 refine jW (e:=e) (rest:=[]) ?_ (gS bB) rfl;rw [gS bB];refine nA (x:=eval e X.env) (aB (ha pins s σ H (λx H1=>∃d,az H H1/\Rep X.K (ar H1 A) d x/\sm d/\Res X.K cls A E (vZ d) H1 Q) I ⟨O,A,ρ,F,Rg.bind q λd _ q1=>?_⟩) λu s1 ⟨x,H1,I1,r1,d,gU,rp,zd,q1⟩=>?_)
 ·intro x H1 s1 r1 z1
  exact⟨d,s1,r1,z1,Res.mono q1 s1⟩
 refine ny ?_
 cases d with
 |lst ds=>
  simp only [vZ] at q1
  split at q1
  ·rename_i hlen
   cases hs:e9 ds with
   |none=>rw [hs] at q1; exact zF q1
   |some ls=>
    rw [hs] at q1;obtain⟨pl,xs,rfl,h1,h2⟩:=dJ rp;cases r1;have hx:=zo hs h2;subst hx;obtain⟨ak,rv,Eo,hz⟩:=I1.list (bw.seq h1);have hl:ak.length=ls.length:=by have:=rv.length; simpa using this.symm
    have lI:ls.length<=60:=by have:=h2.length; simp at this; omega
    refine wpAny_with_toks (n:=1) I1.tk ?_;refine VE (knd:=jk X.prog X.w) (ks:=ls.map txt) (I1.ok.hd hc) Eo.isList (λi v hv=>?_) (by simp [hl]) (by simp [scanBound]; omega) λh' tk hS hk htk=>?_
    ·have wL:ak[i]?=some v:=by simpa using hv
     have hi:i<ak.length:=(cP.mp wL).1;have n9:i<ls.length:=by omega
     obtain⟨u,hu,ru⟩:=rv.get (i:=i) (x:=S ls[i]) (by simp [n9]);rw [wL] at hu;cases hu;obtain⟨t,rfl⟩:=ru;exact⟨txt ls[i],by simp [n9],strKind_is X.prog X.w _ _,rfl⟩
    ·refine ny ?_
     obtain⟨es,ep,t,kl,ho,qc,hp,pm,hb,hf,hld,bO⟩:=hS;rw [Hh] at pm;have hes:es.size<64:=by
      have e1:kl.length=es.size:=by have:=hp.length; simpa using this
      have e2:=pm.length_eq;have e3:(ls.eraseDups.map txt).length<=60:=by rw [cg]; exact Qf ls lI
      omega
     have acy:X.w.params.followText "set-order" = false->t.led=true:=λz=>by rw [hld]; simp [c7,z]
     have I2:=I1.kept (t':=tk) hk;refine Vd (s:={s1 with heap:=h',toks:=tk}) (I1.ok.hd hc) ho hf hes acy bO hp λL out o8 n h2 Uh d2 b1 b2 b3 hL lG k2=>?_;have e:=Kv (b2.trans pm) b3;subst e;refine y8 (cls:=cls) (E:=E) I2 (F.cB.mono gU) hL lG k2 b1 ?_ ?_ ?_
     ·have e1:=(k9 ls.eraseDups).length_eq
      have e3:=Qf ls lI;omega
     ·intro l gF
      have m1:=(k9 ls.eraseDups).mem_iff.mp gF;have m2:l∈ls:=by simpa using m1
      exact Dy hs zd.2 l m2
     ·exact q1
  ·exact zF q1
 |_=>exact zF q1
theorem G2 (hc:X.calm=true)(F8:Gl X "sorted")(tq:X.mg "sorted" = none)(ha:Ev X cls E e f)(bB:isStar e=false):Ev X cls E (.Call (.Name "sorted" p) [e] [] pos) (p1 pG f):=by
 intro pins s σ H Q I ⟨O,A,ρ,F,q⟩;refine wpAny_Call_Name_kw (g6 I F8 tq boot_sorted ?_ (by decide) (by decide));refine Cp (e:=e) (rest:=[]) ?_ (gS bB) rfl;rw [gS bB];refine nA (x:=eval e X.env) (aB (ha pins s σ H (λx H1=>∃d,az H H1/\Rep X.K (ar H1 A) d x/\sm d/\Res X.K cls A E (pG d) H1 Q) I ⟨O,A,ρ,F,Rg.bind q λd _ q1=>?_⟩) λu s1 ⟨x,H1,I1,r1,d,gU,rp,zd,q1⟩=>?_)
 ·intro x H1 s1 r1 z1
  exact⟨d,s1,r1,z1,Res.mono q1 s1⟩
 refine ny ?_
 cases d with
 |lst ds=>
  simp only [pG] at q1
  split at q1
  ·rename_i hlen
   cases hs:e9 ds with
   |none=>rw [hs] at q1; exact zF q1
   |some ls=>
    rw [hs] at q1;obtain⟨pl,xs,rfl,h1,h2⟩:=dJ rp;cases r1;have hx:=zo hs h2;subst hx;obtain⟨ak,rv,Eo,hz⟩:=I1.list (bw.seq h1);have hl:ak.length=ls.length:=by have:=rv.length; simpa using this.symm
    have lI:ls.length<=60:=by have:=h2.length; simp at this; omega
    refine sorted_strs (vs:=ak) (ss:=ls.map txt) Eo.isList (Dl rv) (by omega) λout o8 b1 b2 b3=>?_;have e:=Kv b2 b3;subst e;obtain⟨n,he⟩:=sortedAll_at s1.heap ak out;have cf:({s1 with heap:=sortedAll s1.heap ak out}:Shared)={s1 with heap:=sortedAll s1.heap ak out,toks:=s1.toks,drawn:=s1.drawn}:=rfl;rw [cf];refine y8 (cls:=cls) (E:=E) I1 (F.cB.mono gU) (mh _) (n:=n) (out:=out.toList) (by rw [yF]; exact he) (λb o eb=>sortedAll_old eb) b1 ?_ ?_ q1
    ·have e1:=(k9 ls).length_eq
     omega
    ·intro l gF
     exact Dy hs zd.2 l ((k9 ls).mem_iff.mp gF)
  ·exact zF q1
 |_=>exact zF q1
end
noncomputable abbrev Kt (l:List Nat):Key:=.inr ⟨l.toArray⟩
theorem wx {a b:List Nat}:(Kt a=Kt b)↔a=b:=by
 constructor
 ·intro h
  injection h with h;injection h with h;simpa using congrArg mi h
 ·intro h; rw [h]
theorem aaP (a b:List Nat):decide (Kt a=Kt b)=(a==b):=by
 rw [jR];simp only [decide_eq_true_eq,beq_iff_eq];exact wx
theorem JU (l:List Nat):∀kvs:aj,jY (aJ kvs) (Kt l)=(aE kvs l).map S
 | []=>rfl
 |p::r=>by
  have ih:=JU l r;unfold aJ aE;rw [a5,kI]
  by_cases h:p.1=l
  ·rw [yW (wx.mpr h)]
   simp [h]
  ·rw [yX (λz=>h (wx.mp z))]
   have:(p.1==l)=false:=by simpa using h
   rw [this];exact ih
theorem Bi (kvs:aj)(k v:List Nat):putK (aJ kvs) (Kt k) (S v)=aJ (a7 kvs k v):=by
 unfold putK a7 aJ;have e:((kvs.map λp=>(Kt p.1,S p.2)).any λkv=>decide (kv.1=Kt k))=kvs.any λp=>p.1==k:=by
  rw [List.any_map]
  congr 1
  funext p
  exact aaP p.1 k
 rw [e]
 split
 ·rw [dw,dw]
  congr 1
  funext p
  simp only [uP]
  by_cases h:p.1=k
  ·rw [if_pos (wx.mpr h)]; simp [h]
  ·rw [if_neg (λz=>h (wx.mp z))]; simp [h]
 ·rw [nt]; rfl
theorem qz (kvs:aj):(aJ kvs).length=kvs.length:=by simp [aJ]
theorem jA {kvs:aj}{l v:List Nat}(h:aE kvs l=some v):∃p∈kvs,p.1=l/\p.2=v:=by
 unfold aE at h;rw [gr] at h;obtain⟨p,h1,h2⟩:=h;exact⟨p,List.mem_of_find?_eq_some h1,by simpa using List.find?_some h1,h2⟩
theorem Vi {kvs:aj}{l v:List Nat}(z:sm (.af kvs))(h:aE kvs l=some v):sm (.str v):=by
 obtain⟨p,h1,_,rfl⟩:=jA h;exact(z.2 p h1).2
theorem Dz {kvs:aj}{k v:List Nat}(z:sm (.af kvs))(hk:sm (.str k))(hv:sm (.str v))(hl:kvs.length<10000):sm (.af (a7 kvs k v)):=by
 unfold a7
 split
 ·refine⟨by rw [cg]; exact z.1,λp hp=>?_⟩
  obtain⟨q,hq,rfl⟩:=aX.mp hp;have:=z.2 q hq
  split
  ·exact⟨this.1,hv⟩
  ·exact this
 ·refine⟨by rw [jU]; exact hl,λp hp=>?_⟩
  rcases eJ.mp hp with h | h
  ·exact z.2 p h
  ·have:p=(k,v):=by simpa using h
   subst this;exact⟨hk,hv⟩
section
variable {X:Cx}{cls:Nat->Addr}{E:XK}{a b c o e:Expr}{f g h:aa->M Dt}{pos p:Pos}{rest:List Stmt}{s:SM}
theorem lh {K:ao}{H:Hp}{A:List Addr}{kvs:aj}{v:V}(r:Rep K (ar H A) (.af kvs) v):∃a o,v=.ref a/\a∉A/\H a=some (.bG o (.dK (aJ kvs))):=by
 simp only [Rep] at r;obtain⟨a,ks,rfl,rfl,o,h⟩:=r;obtain⟨h1,h2⟩:=gZ h;exact⟨a,o,rfl,h1,h2⟩
theorem Qs {H:Hp}{a:Addr}{ob:Obj}{kvs:aj}{l:List Nat}(h:H a=some (.bG ob (.dK (aJ kvs)))):qL H a (S l) ((aE kvs l).map S):=.inl ⟨aJ kvs,Kt l,.inr ⟨ob,h⟩,rfl,(JU l kvs).symm⟩
theorem tO (hu:X.A.units+50<cLine)(ha:Ev X cls E a f)(hb:Ev X cls E b g)(hs:IQ b):Ev X cls E (.Subscript a b pos) (p2 iY f g):=by
 refine(Yj (by omega) ha hb hs).imp (t2 (r:=λx y H Q=>∃a v,x=.ref a/\qL H a y (some v)/\Q v H) λA H Q d1 d2 x y L r1 r2 z1 z2 q=>?_)
 cases d1 with
 |af kvs=>
  cases d2 with
  |str l=>
   obtain⟨p,ob,rfl,hp,hH⟩:=lh r1;simp only [iY,qB] at q
   split at q
   ·rename_i v hv
    refine⟨p,S v,rfl,?_,q _ H (.refl _) iT (Vi z1 hv)⟩;have:=Qs (l:=l) hH;rw [hv] at this;rw [cE r2];exact this
   ·exact zF q
  |_=>exact zF q
 |_=>exact zF q
theorem YO (hu:X.A.units+50<cLine):bX X (compareOp .In) (λy x H Q=>∃a o,x=.ref a/\qL H a y o/\Q (.bl o.isSome) H):=by
 intro pins s σ H y x v u Q I ry rx h;obtain⟨a,ov,rfl,gd,q⟩:=h;obtain rfl:u=bx a:=rx;exact aeE (by omega) I gd ry λs3 I3=>λ_=>⟨.bl ov.isSome,H,I3,rfl,q⟩
theorem Mn (hu:X.A.units+50<cLine):fm X cls E (compareOp .In) v5:=by
 refine⟨_,YO hu,λA H Q d1 d2 x y L r1 r2 z1 z2 q=>?_⟩
 cases d1 with
 |str l=>
  cases d2 with
  |af kvs=>
   obtain⟨p,ob,rfl,hp,hH⟩:=lh r2;refine⟨p,(aE kvs l).map S,rfl,by rw [cE r1]; exact Qs hH,?_⟩;rw [BV];exact q _ H (.refl _) gA trivial
  |_=>exact zF q
 |_=>exact zF q
theorem cJ.freshD {K:ao}{aC:Hp}{A₀ os:List Addr}{ρ:aa}{σ:St}{H:Hp}{i:Nat}{ds:aj}{p:Addr}(S:cJ K aC A₀ os ρ σ H)(hp:H p=none)(z:sm (.af ds)) :
  cJ K aC A₀ (p::os) (ρ.set i (.bP ds)) (σ.set i (some (.ref p))) (upd H p (.dK (aJ ds))):=S.anew hp rfl λB s=>⟨p,rfl,bY,z⟩
theorem cJ.adp {K:ao}{aC:Hp}{A₀ os:List Addr}{ρ:aa}{σ:St}{H:Hp}{i:Nat}{ds ns:aj}{p:Addr}(S:cJ K aC A₀ os ρ σ H)(hi:ρ[i]?=some (.bP ds))(hp:σ[i]?=some (some (.ref p)))
  (z:sm (.af ns)):cJ K aC A₀ os (ρ.set i (.bP ns)) σ (upd H p (.dK (aJ ns))):=S.turn hi hp rfl rfl rfl λe=>⟨p,rfl,bY,z⟩
theorem GO {pins:List (Addr×Obj)}{σ:St}{H:Hp}{s':Shared}{p:Addr}{kvs:List (Key×V)}(I:Inv X pins σ (upd H p (.dK kvs)) s'):∃ob,Inv X pins σ (upd H p (.bG ob (.dK kvs))) s':=by
 obtain⟨ob,I'⟩:=I.freeze bY;rw [Tt] at I';exact⟨ob,I'⟩
theorem afd:ik X (.type "dict") (λxs H Q=>∃a kvs,xs=[V.ref a]/\Rd H a (.dK kvs)/\∀p,H p=none->Q (.ref p) (upd H p (.dK kvs))):=by
 intro pins s σ H xs us Q I r h;obtain⟨a,kvs,rfl,hd,q⟩:=h;obtain⟨u,rfl,ru⟩:=vals1 r;obtain rfl:u=bx a:=ru;exact QD I hd λp s' hp I'=>λ_=>⟨.ref p,_,I',rfl,q p hp⟩
theorem afc:ik X (.type "dict") (λxs H Q=>∃a kvs,xs=[V.ref a]/\Rd H a (.dK kvs)/\∀p ob,H p=none->Q (.ref p) (upd H p (.bG ob (.dK kvs)))):=by
 intro pins s σ H xs us Q I r h;obtain⟨a,kvs,rfl,hd,q⟩:=h;obtain⟨u,rfl,ru⟩:=vals1 r;obtain rfl:u=bx a:=ru;exact QD I hd λp s' hp I'=>by
  obtain⟨ob,I2⟩:=GO I';exact λ_=>⟨.ref p,_,I2,rfl,q p ob hp⟩
theorem boot_dict:bootBuiltins "dict" = some (.type "dict"):=by decide +kernel
theorem G5:Ev X cls E (.Dict [] [] pos) sH:=λpins s σ H Q I ⟨O,A,ρ,F,q⟩=>by
 refine wpAny_mono (L5 (X:=X) pins s σ H (λv H'=>∃p,v=.ref p/\H p=none/\H'=upd H p (.dK [])) I λp hp=>⟨p,rfl,hp,rfl⟩) (λu s1 hz ht=>?_) λ_ _ x=>x;obtain⟨v,H',I',rv,p,rfl,hp,rfl⟩:=hz ht;obtain⟨ob,I2⟩:=GO I';exact⟨.ref p,_,I2,rv,q _ _ (.upd hp) (vN (kvs:=[]) (o:=ob) (kj F.cB hp)) ⟨by simp,λ_ z=>nomatch z⟩⟩
theorem Dd {i:Nat}{x:Str}{pos' dp cp:Pos}(hN:X.N.Nodup)(hi:X.N[i]?=some x)(hx:Loc X.env.scope x)(hg:Gl X "dict")(hm:X.mg "dict" = none)(he:Ev X cls E a f)(bB:isStar a=false)
  (hs:swapsWith (.Call (.Name "dict" dp) [a] [] cp) (some (.Name x pos')) pos.line X.env=pure false:=by rfl)
  (hf:X.fn x=true∨X.env.scope.names.lookup x=some .local:=by first | exact .inl rfl | exact .inr rfl | assumption):Sv X cls E (.Assign [.Name x pos'] (.Call (.Name "dict" dp) [a] [] cp) pos) (sq i f):=
 (nR hN hi hx (L7 afd hg hm boot_dict (@bV _ _ _ _ _ bB he fF) (by decide) (by decide) (gS bB) rfl) hs hf).imp λD σ H ⟨aC,A₀,ρ,⟨os,S⟩,q⟩=>by
 have F:=S.2.2.2;refine⟨os,os++A₀,ρ,F,px S.1 q λd v H' _ q1 s' r z=>?_⟩
 cases d with
 |af kvs=>
  obtain⟨p,ob,rfl,hp,hH⟩:=lh r;exact⟨p,aJ kvs,rfl,.inr ⟨ob,hH⟩,λp' cU=>q1 _ _ ⟨p'::os,(S.mono s').freshD cU z⟩⟩
 |_=>exact zF q1
theorem UW {i:Nat}{x:Str}{pos' lp:Pos}(hN:X.N.Nodup)(hi:X.N[i]?=some x)(hx:Loc X.env.scope x)(hs:swapsWith (.Dict [] [] lp) (some (.Name x pos')) pos.line X.env=pure false:=by rfl)
  (hf:X.fn x=true∨X.env.scope.names.lookup x=some .local:=by first | exact .inl rfl | exact .inr rfl | assumption):Sv X cls E (.Assign [.Name x pos'] (.Dict [] [] lp) pos) (D8 i):=
 (nR hN hi hx L5 hs hf).imp λD σ H ⟨aC,A₀,ρ,⟨os,S⟩,q⟩=>λp hp=>q _ _ ⟨p::os,S.freshD (ds:=[]) hp ⟨by simp,λ_ z=>nomatch z⟩⟩
theorem zm {i:Nat}{x:Str}{np pos':Pos}(hu:X.A.units+50<cLine)(hv:PE X (.Name x np) (oZ i))(hk:Ev X cls E b g)(he:Ev X cls E a f)
  (hs:swapsWith a (some (.Subscript (.Name x np) b pos')) pos.line X.env=pure false:=by rfl):Sv X cls E (.Assign [.Subscript (.Name x np) b pos'] a pos) (pf i g f):=
 (XG (by omega) hv hk he hs).imp λD σ H ⟨aC,A₀,ρ,⟨os,S⟩,q⟩=>by
 unfold pf Bh at q
 split at q
 ·rename_i kvs hi
  have F:=S.2.2.2;refine⟨os,os++A₀,ρ,F,px S.1 q λd v H' _ q1 s' r z=>?_⟩
  cases d with
  |str l=>
   have S':=S.mono s';have F':=S'.2.2.2;obtain⟨p,h1,h2,h3,h4⟩:=F'.bP i kvs hi;refine⟨.ref p,h1,os,os++A₀,ρ,F',px S'.1 q1 λd2 v2 H2 _ q2 s2 r2 z2=>?_⟩
   cases d2 with
   |str k=>
    simp only [uk] at q2
    split at q2
    ·rename_i hl
     refine⟨p,_,rfl,.inl ⟨aJ kvs,Kt k,s2 _ _ h3,cE r2,by rw [qz]; exact cK hl (by decide),rfl⟩,q2 _ _ ⟨os,?_⟩⟩;rw [cE r,Bi];exact(S'.mono s2).adp hi h1 (Dz h4 z2 z hl)
    ·exact zF q2
   |_=>exact zF q2
  |_=>exact zF q1
 ·exact zF q
end
noncomputable def xW (d:Addr)(ob:Obj)(u:HO)(xs:List V):It:=
 ⟨λi H=>H d=some (.bG ob u)/\i<xs.length,λi H x H'=>H'=H/\xs[i]?=some x,λi H=>H d=some (.bG ob u)/\xs.length<=i⟩
noncomputable def I0 (d:Addr)(ob:Obj)(u:HO)(ps:List (V×V)):It:=
 ⟨λi H=>H d=some (.bG ob u)/\i<ps.length,λi H x H'=>∃T p,x=.ref T/\H T=none/\H'=upd H T (.tup [p.1,p.2])/\ps[i]?=some p,λi H=>H d=some (.bG ob u)/\ps.length<=i⟩
theorem om {P:Program}{w:World}{H:Hp}{h:Heap}{d:Addr}{ob:Obj}{kvs:List (Key×V)}(ok:cc P w H h)(e:H d=some (.bG ob (.dK kvs))) :
  ∃es ep,ob.data=.dict es ep/\(d==sysModules)=false/\h.get? d=some ob/\kvs.length<=sizeLine/\∃vs,KV kvs vs/\h.DictAt (bW P w) d vs ep:=by
 obtain⟨g,z,na,vs,r,o,es,ep,g',x,dt,k,p,n⟩:=ok d _ e;rw [g] at g';cases g';exact⟨es,ep,dt,na,g,z,vs,r,ob,es,g,x,dt,k,p,n⟩
theorem uo {P:Program}{w:World}{H:Hp}{h:Heap}{d:Addr}{ob:Obj}{kvs:List (Key×V)}{es0:Array DictEntry}{ep:Nat}(hd:ob.data=.dict es0 ep)(ok:cc P w H h)(e:H d=some (.bG ob (.dK kvs))) :
  ∃vs,KV kvs vs/\h.DictAt (bW P w) d vs ep:=by
 obtain⟨es,ku,h1,_,_,_,vs,r,a⟩:=om ok e;rw [hd] at h1;cases h1;exact⟨vs,r,a⟩
theorem NU {P:Program}{w:World}{k:Key}{u:Value}(h:(bW P w).is k u=true):RelV (kV k) u:=by
 rcases ke (k:=k) (v:=u) h with ⟨i,t,rfl,rfl⟩ | ⟨x,t,rfl,rfl⟩
 ·exact⟨t,rfl⟩
 ·exact⟨t,rfl⟩
theorem KV.at {kvs:List (Key×V)}{vs:List (Key×Value)}(r:KV kvs vs):∀{i:Nat}{p:Key×V},kvs[i]?=some p->∃q,vs[i]?=some q/\p.1=q.1/\RelV p.2 q.2:=by
 unfold KV at r
 induction r with
 |nil=>intro i p e; simp at e
 |cons h t ih=>
  intro i p e
  cases i with
  |zero=>simp at e; subst e; exact⟨_,by simp,h.1,h.2⟩
  |succ i=>obtain⟨q,h1,h2⟩:=ih (i:=i) (p:=p) (by simpa using e); exact⟨q,by simpa using h1,h2⟩
theorem T5 {P:Program}{w:World}{K:ao}{tg:Expr}(d it:Addr)(ob:Obj)(kvs:List (Key×V))(es:Array DictEntry)(ep:Nat)(hd:ob.data=.dict es ep) :
  Turn P w K tg (xW d ob (.dK kvs) (kvs.map λp=>kV p.1)) [it] it (λi h=>h.IsKeyIter it d i kvs.length ep) where
 mem:=by simp
 obj:=λi h st b hb=>by
  have e:b=it:=by simpa using hb
  subst e;obtain⟨o,e,c,dd⟩:=st;exact⟨o,e,λv z=>by rw [dd] at z; cases z⟩
 keep:=λi h h' st k=>st.at λo e=>k it (by simp) o e
 item:=by
  intro X hP hw hK hc i pins s σ H E I hf st hg;subst hP hw hK;obtain⟨hH,hi⟩:=hg;rw [cg] at hi;obtain⟨vs,r,da⟩:=uo hd I.au hH;obtain⟨q,hq,h1,h2⟩:=r.at (i:=i) (p:=kvs[i]) (by simp [hi]);obtain⟨f0,f1,f2,f3,f4,f5⟩:=hf it (by simp);have hl:=KV.length r;rw [hl] at st;refine wpAny_pyNext_dict_item (k:=q.1) (v:=q.2) st da (by rw [hq]) λkey h' mL cT sb=>?_;have I1:Inv X pins σ H {s with heap:=h'}:=I.turned (t':=s.toks) (λb o hb e=>(sb.2 b hb).trans e) f0 f1 f3 f4 f5;obtain⟨o,e,c,dd⟩:=id cT;refine(λht=>⟨key,rfl,qo (s:={s with heap:=h'}) e c dd (by decide) (λht=>⟨kV kvs[i].1,H,I1,?_,⟨rfl,by simp [hi]⟩,by rw [hl]; exact cT,λb hb=>(hf b hb).1⟩)⟩);rw [h1];exact NU mL
 done:=by
  intro X hP hw hK hc i pins s σ H E I hf st hg;subst hP hw hK;obtain⟨hH,hi⟩:=hg;rw [cg] at hi;obtain⟨vs,r,da⟩:=uo hd I.au hH;obtain⟨f0,f1,f2,f3,f4,f5⟩:=hf it (by simp);have hl:=KV.length r;rw [hl] at st hi;exact wpAny_pyNext_dict_end (I.ok.hd hc) st da (by simp [hi]) λh' eb=>(λht=>⟨rfl,I.turned (t':=s.toks) (λb o hb e=>eb b o hb e) f0 f1 f3 f4 f5⟩)
 self:=λ_ _ _ _ _ st h=>wpAny_pyIter_keyiter st h
theorem TY {P:Program}{w:World}{K:ao}{tg:Expr}(d it:Addr)(ob:Obj)(kvs:List (Key×V))(es:Array DictEntry)(ep:Nat)(hd:ob.data=.dict es ep) :
  Turn P w K tg (xW d ob (.dK kvs) (kvs.map λp=>p.2)) [it] it (λi h=>h.IsValIter it d i kvs.length ep) where
 mem:=by simp
 obj:=λi h st b hb=>by
  have e:b=it:=by simpa using hb
  subst e;obtain⟨o,e,c,dd⟩:=st;exact⟨o,e,λv z=>by rw [dd] at z; cases z⟩
 keep:=λi h h' st k=>st.at λo e=>k it (by simp) o e
 item:=by
  intro X hP hw hK hc i pins s σ H E I hf st hg;subst hP hw hK;obtain⟨hH,hi⟩:=hg;rw [cg] at hi;obtain⟨vs,r,da⟩:=uo hd I.au hH;obtain⟨q,hq,h1,h2⟩:=r.at (i:=i) (p:=kvs[i]) (by simp [hi]);obtain⟨f0,f1,f2,f3,f4,f5⟩:=hf it (by simp);have hl:=KV.length r;rw [hl] at st;refine wpAny_pyNext_values_item (k:=q.1) (v:=q.2) st da (by rw [hq]) λh' cT sb=>?_;have I1:Inv X pins σ H {s with heap:=h'}:=I.turned (t':=s.toks) (λb o hb e=>(sb.2 b hb).trans e) f0 f1 f3 f4 f5;obtain⟨o,e,c,dd⟩:=id cT;exact(λht=>⟨q.2,rfl,qo (s:={s with heap:=h'}) e c dd (by decide) (λht=>⟨kvs[i].2,H,I1,h2,⟨rfl,by simp [hi]⟩,by rw [hl]; exact cT,λb hb=>(hf b hb).1⟩)⟩)
 done:=by
  intro X hP hw hK hc i pins s σ H E I hf st hg;subst hP hw hK;obtain⟨hH,hi⟩:=hg;rw [cg] at hi;obtain⟨vs,r,da⟩:=uo hd I.au hH;obtain⟨f0,f1,f2,f3,f4,f5⟩:=hf it (by simp);have hl:=KV.length r;rw [hl] at st hi;exact wpAny_pyNext_values_end (I.ok.hd hc) st da (by simp [hi]) λh' eb=>(λht=>⟨rfl,I.turned (t':=s.toks) (λb o hb e=>eb b o hb e) f0 f1 f3 f4 f5⟩)
 self:=λ_ _ _ _ _ st h=>wpAny_pyIter_valiter st h
theorem T6 {P:Program}{w:World}{K:ao}{elts:List Expr}{kk:Nat}{dS:Pos}(d it:Addr)(ob:Obj)(kvs:List (Key×V))(es:Array DictEntry)(ep:Nat)(hd:ob.data=.dict es ep) :
  Turn P w K (.Tuple elts kk dS) (I0 d ob (.dK kvs) (kvs.map λp=>(kV p.1,p.2))) [it] it (λi h=>∃ok ov,IsItemIter h it d i kvs.length ep ok ov) where
 mem:=by simp
 obj:=λi h st b hb=>by
  have e:b=it:=by simpa using hb
  subst e;obtain⟨ok,ov,st⟩:=st;exact⟨_,st,λv z=>by cases z⟩
 keep:=λi h h' ⟨ok,ov,st⟩ k=>⟨ok,ov,k it (by simp) _ st⟩
 item:=by
  intro X hP hw hK hc i pins s σ H E I hf st hg;subst hP hw hK;obtain⟨ok,ov,st⟩:=st;obtain⟨hH,hi⟩:=hg;rw [cg] at hi;obtain⟨vs,r,da⟩:=uo hd I.au hH;obtain⟨q,hq,h1,h2⟩:=r.at (i:=i) (p:=kvs[i]) (by simp [hi]);have hl:=KV.length r;rw [hl] at st;refine wpAny_pyNext_items_item (k:=q.1) (v:=q.2) st da (by rw [hq]) λkey h' mL acg xg hsz keep=>?_;refine(λht=>⟨_,rfl,wpAny_letOwnedTupleGo_items (s:={s with heap:=h'}) acg λeQ vC sb=>?_⟩);have bF:s.heap.objs.size≠it:=λz=>absurd (aK st) (by rw [← z]; exact eI _);have pP:∀b o,b∉[it]->s.heap.get? b=some o->eQ.get? b=some o:=λb o hb e=>by
   have bg:b≠it:=by simpa using hb
   exact(sb.2 b bg).trans (keep b o bg e)
  have I2:Inv X pins σ (upd H s.heap.objs.size (.tup [kV kvs[i].1,kvs[i].2])) {s with heap:=eQ,toks:=s.toks}:=
   I.za (ch:=[it]) hf pP (aN _) ⟨by show 2<=sizeLine; decide,[key,q.2],.cons (by rw [h1]; exact NU mL) (.cons h2 .nil),⟨_,(sb.2 _ bF).trans xg,rfl,_,rfl⟩⟩
  refine(λht=>⟨.ref s.heap.objs.size,_,I2,rfl,⟨_,(kV kvs[i].1,kvs[i].2),rfl,I.au.fresh (aN _),rfl,by simp [hi]⟩,⟨_,_,by rw [hl]; exact vC⟩,λb hb=>?_⟩);have e:b=it:=by simpa using hb
  subst e;rw [ba (cz bF)];exact(hf b hb).1
 done:=by
  intro X hP hw hK hc i pins s σ H E I hf st hg;subst hP hw hK;obtain⟨ok,ov,st⟩:=st;obtain⟨hH,hi⟩:=hg;rw [cg] at hi;obtain⟨vs,r,da⟩:=uo hd I.au hH;obtain⟨f0,f1,f2,f3,f4,f5⟩:=hf it (by simp);have hl:=KV.length r;rw [hl] at st hi;exact wpAny_pyNext_items_end (I.ok.hd hc) st da (by simp [hi]) λh' eb=>(λht=>⟨rfl,I.turned (t':=s.toks) (λb o hb e=>eb b o hb e) f0 f1 f3 f4 f5⟩)
 self:=λ_ _ _ _ _ ⟨_,_,st⟩ h=>kcp_self st h
section
variable {X:Cx}{cls:Nat->Addr}{E:XK}{a b c o e tg:Expr}{f g h:aa->M Dt}{pos p apos:Pos}
theorem NS {K:ao}{A:List Addr}{d:Addr}{ob:Obj}{u:HO}{ds:List Dt}{xs:List V}{H1:Hp}(hd:ar H1 A d=some (.bG ob u))(h2:aq K (ar H1 A) ds xs)(z:bj ds)(zl:ds.length<=10000):jP K A (xW d ob u xs) ds H1:=by
 have hl:=h2.length;refine⟨λi H hi s=>⟨s _ _ hd,by omega⟩,λH s=>⟨s _ _ hd,by omega⟩,λi H x H' A' hi L s y=>?_,z,zl⟩;obtain⟨rfl,hx⟩:=y;obtain⟨d',hZ,rd⟩:=h2.get hx;exact⟨.refl _,d',hZ,rd.mono s⟩
theorem abp {K:ao}{A:List Addr}{d:Addr}{ob:Obj}{u:HO}{kvs:aj}{H1:Hp}(hd:ar H1 A d=some (.bG ob u))(z:sm (.af kvs)):jP K A (I0 d ob u ((aJ kvs).map λp=>(kV p.1,p.2))) (fW kvs) H1:=by
 have hl:((aJ kvs).map λp=>(kV p.1,p.2)).length=(fW kvs).length:=by simp [aJ,fW]
 refine⟨λi H hi s=>⟨s _ _ hd,by omega⟩,λH s=>⟨s _ _ hd,by omega⟩,λi H x H' A' hi L s y=>?_,js λd' hZ=>?_,by simp [fW]; exact z.1⟩
 ·obtain⟨T,p,rfl,hT,rfl,hp⟩:=y
  have c8:i<kvs.length:=by simpa [fW] using hi
  have cU:p=(S kvs[i].1,S kvs[i].2):=by
   simp only [aJ,dw,gR,iq c8,Option.map_some,jT] at hp;exact hp.symm
  subst cU;refine⟨.upd hT,.tup [.str kvs[i].1,.str kvs[i].2],by simp [fW,c8],vM (kj L hT) (.cons iT (.cons iT .nil))⟩
 ·obtain⟨p,hp,rfl⟩:=aX.mp hZ
  have:=z.2 p hp;exact⟨by show 2<=10000; decide,this.1,this.2,trivial⟩
theorem Lk {K:ao}{H:Hp}:∀kvs:aj,aq K H (jB kvs) ((aJ kvs).map λp=>kV p.1)
 | []=>.nil
 |p::r=>.cons iT (Lk r)
theorem Li {K:ao}{H:Hp}:∀kvs:aj,aq K H (e7 kvs) ((aJ kvs).map λp=>p.2)
 | []=>.nil
 |p::r=>.cons iT (Li r)
theorem Vk {kvs:aj}(z:sm (.af kvs)):bj (jB kvs):=js λd hd=>by
 obtain⟨p,hp,rfl⟩:=aX.mp hd;exact(z.2 p hp).1
theorem Vh {kvs:aj}(z:sm (.af kvs)):bj (e7 kvs):=js λd hd=>by
 obtain⟨p,hp,rfl⟩:=aX.mp hd;exact(z.2 p hp).2
theorem F6 {H:Hp}{A:List Addr}{d:Addr}{u:HO}(h:H d=some u)(hA:d∉A):ar H A d=some u:=by rw [di hA]; exact h
theorem NN (he:Ev X cls E e f):Iv X cls E tg e (wJ f):=by
 intro pins s σ H R I ⟨O,A,ρ,F,q⟩;refine aB (he pins s σ H (λx H1=>∃d ob kvs,x=.ref d/\H1 d=some (.bG ob (.dK (aJ kvs)))/\R (xW d ob (.dK (aJ kvs)) ((aJ kvs).map λp=>kV p.1)) H1) I ⟨O,A,ρ,F,Rg.bind q λd _ q1=>?_⟩) λv s1 hz=>?_
 ·intro v H1 s1 r1 z1
  cases d with
  |af kvs=>
   obtain⟨p,ob,rfl,hp,hH⟩:=lh r1;exact⟨p,ob,kvs,rfl,hH,q1 _ H1 s1 (NS (F6 hH hp) (Lk kvs) (Vk z1) (by simp [jB]; exact z1.1))⟩
  |_=>exact zF q1
 ·obtain⟨x,H1,I1,r1,d,ob,kvs,rfl,hH,q1⟩:=hz
  obtain rfl:v=bx d:=r1;obtain⟨es,ep,qf,na,g0,_,vs,r,da⟩:=om I1.au hH;refine λ_=>wpAny_pyIter_dict na da λ_=>?_;refine⟨s1.heap.objs.size,[s1.heap.objs.size],_,_,H1,rfl,I1.kept (t':=s1.toks) λb o e=>aI _ e,T5 d _ ob (aJ kvs) es ep qf,?_,λb hb=>?_,q1⟩
  ·rw [KV.length r]
   exact⟨_,bE _ rfl,rfl,rfl⟩
  ·have e:b=s1.heap.objs.size:=by simpa using hb
   subst e;exact I1.i8 (aN _) (I1.au.fresh (aN _))
theorem abi (he:Ev X cls E e f)(i6:attributeBase e "values" X.env (eval e X.env)=eval e X.env:=by rfl)(g9:(apos.endLine==pos.line)=true:=by rfl):Iv X cls E tg (.Call (.Attribute e "values" apos) [] [] pos) (Au f):=by
 intro pins s σ H R I ⟨O,A,ρ,F,q⟩;refine wpAny_Call_method (T:="dict") (id:="dict.values") i6 rfl g9 Cf yP PySem.F.type_dict_values (aB (he pins s σ H (λx H1=>∃d ob kvs,x=.ref d/\H1 d=some (.bG ob (.dK (aJ kvs)))/\R (xW d ob (.dK (aJ kvs)) ((aJ kvs).map λp=>p.2)) H1) I ⟨O,A,ρ,F,Rg.bind q λd _ q1=>?_⟩) λv s1 hz=>?_)
 ·intro v H1 s1 r1 z1
  cases d with
  |af kvs=>
   obtain⟨p,ob,rfl,hp,hH⟩:=lh r1;exact⟨p,ob,kvs,rfl,hH,q1 _ H1 s1 (NS (F6 hH hp) (Li kvs) (Vh z1) (by simp [e7]; exact z1.1))⟩
  |_=>exact zF q1
 ·obtain⟨x,H1,I1,r1,d,ob,kvs,rfl,hH,q1⟩:=hz
  obtain rfl:v=bx d:=r1;obtain⟨es,ep,qf,na,g0,_,vs,r,da⟩:=om I1.au hH;refine⟨da.dictOf.typeIs,da.dictOf.mapOf.noDict,?_⟩;show wpAny _ _ (callWith pos (.builtin "dict.values") [.ref d] [] []) _ _ s1
  refine method_meetsIn yP PySem.F.entry_dict_values rfl (B7 ⟨rfl,da.dictOf.typeIs,PySem.F.args_dict_values_1 _,_,meets_dict_values (bW X.prog X.w) d na,⟨vs,da.dictOf⟩,λht=>?_⟩);have I2:Inv X pins σ H1 {s1 with heap:=s1.heap.push {cls:=.type "dict_values",data:=.fields #[.ref d]}}:=I1.kept (t':=s1.toks) λb o e=>aI _ e
  obtain⟨tP,mY,w9,_,_,_,Tp,r2,Hm⟩:=om I2.au hH;have Ge:mY=ep:=by rw [qf] at w9; cases w9; rfl
  subst Ge;refine wpAny_pyIter_values ⟨_,bE _ rfl,rfl,rfl⟩ Hm λFF=>?_;refine⟨_,[_],_,_,H1,rfl,I2.kept (t':=s1.toks) λb o e=>aI _ e,TY d _ ob (aJ kvs) es mY qf,?_,λb hb=>?_,q1⟩
  ·rw [KV.length r2]
   exact⟨_,bE _ rfl,rfl,rfl⟩
  ·have e:=jm.mp hb
   subst e;exact I2.i8 (aN _) (I2.au.fresh (aN _))
theorem Fi {elts:List Expr}{kk:Nat}{dS:Pos}(he:Ev X cls E e f)(i6:attributeBase e "items" X.env (eval e X.env)=eval e X.env:=by rfl)(g9:(apos.endLine==pos.line)=true:=by rfl):Iv X cls E (.Tuple elts kk dS) (.Call (.Attribute e "items" apos) [] [] pos) (n5 f):=by
 intro pins s σ H R I ⟨O,A,ρ,F,q⟩;refine wpAny_Call_method (T:="dict") (id:="dict.items") i6 rfl g9 Cf PySem.F.slot_dict_items PySem.F.type_dict_items (aB (he pins s σ H (λx H1=>∃d ob kvs,x=.ref d/\H1 d=some (.bG ob (.dK (aJ kvs)))/\R (I0 d ob (.dK (aJ kvs)) ((aJ kvs).map λp=>(kV p.1,p.2))) H1) I ⟨O,A,ρ,F,Rg.bind q λd _ q1=>?_⟩) λv s1 hz=>?_)
 ·intro v H1 s1 r1 z1
  cases d with
  |af kvs=>
   obtain⟨p,ob,rfl,hp,hH⟩:=lh r1;exact⟨p,ob,kvs,rfl,hH,q1 _ H1 s1 (abp (F6 hH hp) z1)⟩
  |_=>exact zF q1
 ·obtain⟨x,H1,I1,r1,d,ob,kvs,rfl,hH,q1⟩:=hz
  obtain rfl:v=bx d:=r1;obtain⟨es,ep,qf,na,g0,_,vs,r,da⟩:=om I1.au hH;refine⟨da.dictOf.typeIs,da.dictOf.mapOf.noDict,?_⟩;show wpAny _ _ (callWith pos (.builtin "dict.items") [.ref d] [] []) _ _ s1
  refine method_meetsIn PySem.F.slot_dict_items PySem.F.entry_dict_items rfl (B7 ⟨rfl,da.dictOf.typeIs,PySem.F.args_dict_items_1 _,_,meets_dict_items (bW X.prog X.w) d na,⟨vs,da.dictOf⟩,λht=>?_⟩);have I2:Inv X pins σ H1 {s1 with heap:=s1.heap.push {cls:=.type "dict_items",data:=.fields #[.ref d]}}:=I1.kept (t':=s1.toks) λb o e=>aI _ e
  obtain⟨tP,mY,w9,_,_,_,Tp,r2,Hm⟩:=om I2.au hH;have Ge:mY=ep:=by rw [qf] at w9; cases w9; rfl
  subst Ge;refine wpAny_pyIter_items ⟨_,bE _ rfl,rfl,rfl⟩ Hm λFF=>?_;refine⟨_,[_],_,_,H1,rfl,I2.kept (t':=s1.toks) λb o e=>aI _ e,T6 d _ ob (aJ kvs) es mY qf,?_,λb hb=>?_,q1⟩
  ·rw [KV.length r2]
   exact⟨_,_,bE _ rfl⟩
  ·have e:=jm.mp hb
   subst e;exact I2.i8 (aN _) (I2.au.fresh (aN _))
end
end L2
namespace L2
open PySem PySem.Spec PyProof.Rows
open Sem (wp)
theorem aar:typeLookup (.type "list") "keys" = pure none:=by rw [typeLookup_type,builtinLookup_eq_fast]; kernel_rfl
theorem aas:typeLookup (.type "list") "__getattr__" = pure none:=by rw [typeLookup_type,builtinLookup_eq_fast]; kernel_rfl
theorem Di:isSubtype (.type "AttributeError") (.type "AttributeError")=pure true:=by rw [isSubtype_type]; kernel_rfl
section
variable {prog:Program}{w:World}{A:Around}{E:Value->Shared->Prop}{s:Shared}
theorem ZN {e:Addr}{vs:Array Value}{o nm:Value}{Q:Unit->Shared->Prop}(he:s.heap.get? e=some {cls:=.type "AttributeError",data:=.fields vs})(h6:vs[6]?=some (rawInt 0))(h7:vs[7]?=some (rawInt 0))
  (q:∀h',(∀b,b≠e->h'.get? b=s.heap.get? b)->(∃oe,h'.get? e=some oe/\oe.cls=.type "AttributeError")->Q () {s with heap:=h'}):wpAny (model prog w) A (noteAttr (.ref e) o nm) Q E s:=by
 have hT:s.TypeIs (.ref e) "AttributeError" := ⟨_,he,rfl⟩
 unfold noteAttr;refine wpAny_bind ?_;unfold lacksNameAndObj;refine wpAny_bind (wpAny_isInstance hT Di ?_);simp only [qT,cF,if_false];refine wpAny_bind (wpAny_load he ?_);simp only [h6,h7,rawInt];rw [if_neg (by decide),if_neg (by decide)];refine wpAny_pure ?_;rw [if_pos rfl];refine wpAny_bind (wpAny_rule (wpAny_bind (wpAny_typeOf hT ?_)));unfold layMembers;refine wpAny_bind (wpAny_load he (wpAny_update he (q _ (λb hb=>Heap.get?_update_ne _ _ _ _ hb) ?_)));exact⟨_,ma _ he rfl,rfl⟩
theorem Xf {α:Type}{o:Value}{nm msg:Str}{Q:α->Shared->Prop}(hh:A.handled=none)(hm:msg.length<=sizeLine)
  (q:∀h' t' e oe,(∀b ob,s.heap.get? b=some ob->h'.get? b=some ob)->h'.get? e=some oe->oe.cls=.type "AttributeError" ->E (.ref e) {s with heap:=h',toks:=t'}) :
  wpAny (model prog w) A (raiseAttrError o nm msg:Sem α) Q E s:=by
 unfold raiseAttrError;refine wpAny_bind (wpAny_mkStr (wpAny_bind ?_) hm);unfold newExc newTuple;refine wpAny_bind (wpAny_newObj_type ?_);refine wpAny_bind (m:=firstArgMember _ _) (wpAny_of_eq (a:=eX) (by kernel_rfl) ?_);refine wpAny_newObj_type (wpAny_bind (wpAny_mkText (wpAny_bind (ZN (bE _ rfl) rfl rfl λh' k ⟨oe,h1,h2⟩=>wpAny_raiseNew_none hh (q _ _ _ oe (λb ob hb=>?_) h1 h2)))));have h3:(s.heap.push {cls:=.type "tuple",data:=.seq #[.str msg s.toks]}).get? b=some ob:=aI _ hb
 have h4:=aI {cls:=.type "AttributeError",data:=.fields (#[.ref s.heap.objs.size,.none,.none,.none,.bool false,.none]++ownMembersOf (.type "AttributeError") [.str msg s.toks])} h3
 refine(k b ?_).trans h4;exact a9 (aK h3)
end
section
variable {prog:Program}{w:World}{A:Around}{E:Value->Shared->Prop}{h:Heap}{g:Array GenState}{d:Drawn}{t:Nat}{os:OsState}{a:Addr}{items:Array Value}{n:Nat}{sl:Array (Option Value)}
theorem aaY {tk:Tok}{Q:Fin->Shared->Prop}(hh:A.handled=none)(hx:h.get? a=some {cls:=.type "list",data:=.seq items n,slots:=sl})
  (q:∀h' t' e oe,(∀b ob,h.get? b=some ob->h'.get? b=some ob)->h'.get? e=some oe->oe.cls=.type "AttributeError" ->E (.ref e) ⟨h',g,d,t',os⟩) :
  wpAny (model prog w) A (Builtin.«object.__getattribute__» ⟨[.ref a,.str "keys" tk],[]⟩) Q E ⟨h,g,d,t,os⟩:=by
 have hT:(⟨h,g,d,t,os⟩:Shared).TypeIs (.ref a) "list" := ⟨_,hx,rfl⟩
 have f4:=aar
 repeat (any_goals (first | assumption | wp_step))
 all_goals exact Xf hh (by decide +kernel) q
theorem aaZ {tk:Tok}{R:Result->Shared->Prop}(hh:A.handled=none)(hx:h.get? a=some {cls:=.type "list",data:=.seq items n,slots:=sl})
  (q:∀h' t' e oe,(∀b ob,h.get? b=some ob->h'.get? b=some ob)->h'.get? e=some oe->oe.cls=.type "AttributeError" ->R (.error (.ref e)) ⟨h',g,d,t',os⟩) :
  codeAny (model prog w) A (.call (.builtin "list.__getattribute__") ⟨[.ref a,.str "keys" tk],[]⟩) R ⟨h,g,d,t,os⟩:=
 codeAny_call_builtin yO.plain F.entry_list_ga (yO.check _ _ _ _ _ _ _ _ (show (⟨h,g,d,t,os⟩:Shared).TypeIs (.ref a) "list" from⟨_,hx,rfl⟩) (F.args_list_getattribute_2 _ _) (aaY (by simpa using hh) hx q))
theorem aa0 {tk:Tok}{Q:Value->Shared->Prop}(hh:A.handled=none)(hx:h.get? a=some {cls:=.type "list",data:=.seq items n,slots:=sl})
  (q:∀h' t' e oe,(∀b ob,h.get? b=some ob->h'.get? b=some ob)->h'.get? e=some oe->oe.cls=.type "AttributeError" ->E (.ref e) ⟨h',g,d,t',os⟩):wpAny (model prog w) A (getAttrBy (.ref a) (.str "keys" tk) false) Q E ⟨h,g,d,t,os⟩:=by
 have hT:(⟨h,g,d,t,os⟩:Shared).TypeIs (.ref a) "list" := ⟨_,hx,rfl⟩
 have f2:=yO.lookup;have f3:=yO.bind (.ref a)
 repeat (any_goals (first | assumption | wp_step))
 refine aaZ hh hx λh' t' e oe k he hc=>?_;show wpAny _ _ (getattributeRaised _ _ _ _ _ _ _) _ _ _;unfold getattributeRaised;have OF:(⟨h',g,d,t',os⟩:Shared).TypeIs (.ref e) "AttributeError" := ⟨_,he,hc⟩
 have f6:=Di;have f7:=aas
 repeat (any_goals (first | assumption | wp_step))
 exact q h' t' e oe k he hc
theorem aaX {Q:Option Value->Shared->Prop}(hh:A.handled=none)(hx:h.get? a=some {cls:=.type "list",data:=.seq items n,slots:=sl})
  (q:∀h' t',(∀b ob,h.get? b=some ob->h'.get? b=some ob)->Q none ⟨h',g,d,t',os⟩):wpAny (model prog w) A (getAttr? (.ref a) "keys") Q E ⟨h,g,d,t,os⟩:=by
 unfold getAttr? getAttrBy?;refine wpAny_bind (wpAny_mkText (wpAny_bind (wpAny_attempt (aa0 hh hx λh' t' e oe k he hc=>?_))));have OF:(⟨h',g,d,t',os⟩:Shared).TypeIs (.ref e) "AttributeError" := ⟨_,he,hc⟩
 refine wpAny_bind (wpAny_isInstance OF Di ?_);rw [if_pos rfl];exact wpAny_pure (q h' t' k)
end
end L2
namespace L2
open PySem PySem.Spec PyProof.Rows
theorem Qh:entryFor table "dict.update.loop" = some Builtin.«dict.update.loop» := entryFor_of_tree (by kernel_rfl)
theorem Bf:plainId "dict.update.loop" = true:=by decide +kernel
theorem U6 {K:Type}[DecidableEq K](kvs:List (K×Value))(k:K)(v:Value):(stored kvs k v).length<=kvs.length+1:=by
 unfold stored
 split
 ·simp
 ·simp
noncomputable def IL (prog:Program)(w:World)(h:Heap)(v:Value)(r:Key×Value):Prop:=∃T k,v=.ref T/\h.IsTuple T #[k,r.2]/\(bW prog w).is r.1 k=true
section
variable {prog:Program}{w:World}{A:Around}{E:Value->Shared->Prop}{s:Shared}
theorem pair_items {T:Addr}{k x:Value}{Q:List Value->Shared->Prop}(ht:s.heap.IsTuple T #[k,x])(q:Q [k,x] s):wpAny (model prog w) A (Builtin.Dict.pairItems (.ref T)) Q E s:=by
 obtain⟨o,ho,hc,n,hd⟩:=ht;unfold Builtin.Dict.pairItems;refine wpAny_bind (wpAny_typeOf (show s.TypeIs (.ref T) "tuple" from⟨o,ho,hc⟩) ?_)
 rw [if_pos (by decide)];exact wpAny_bind (wpAny_seqItems ho hd (wpAny_pure q))
theorem Tu {R:Result->Shared->Prop}{l it D:Addr}{items:Array Value}{rs:List (Key×Value)}(hh:A.handled=none)(Gs:D≠it)(hDl:D≠l)(tw:l≠it)(hn:rs.length=items.size)(hz:rs.length<=10000) :
  ∀(m i:Nat) (s:Shared) (acc:List (Key×Value)),items.size - i=m->i<=items.size->s.heap.IsListIter it l i->s.heap.IsList l items->s.heap.DictOf (bW prog w) D acc->acc.length<=i->
   (∀(j:Nat) v,items[j]?=some v->∃r,rs[j]?=some r/\IL prog w s.heap v r/\v≠.ref it/\v≠.ref D)->
   (∀h' tk,h'.DictOf (bW prog w) D (merged acc (rs.drop i))->(∀b o,b≠it->b≠D->s.heap.get? b=some o->h'.get? b=some o)->R (.ok (.ret .none)) {s with heap:=h',toks:=tk})->
   codeAny (model prog w) A (.builtin "dict.update.loop" ⟨[.ref D,.ref it,rawInt i,.none],[]⟩) R s:=by
 intro m
 induction m with
 |zero=>
  intro i s acc hm hi st hl hD ha hp q;obtain rfl:i=items.size:=by omega
  refine codeAny_builtin Qh ?_;rw [oF Bf _];show wpAny _ A.in1 (pyNext (.ref it) >>= _) _ _ s;refine wpAny_bind (wpAny_pyNext_list_end (by simp [hh]) st hl (by simp) λh' eb=>?_);rw [← hn,qZ] at q;refine wpAny_bind (wpAny_pure (wpAny_pure (q h' s.toks ?_ λb o hb _ e=>eb b o hb e)));obtain⟨o,es,ep,ho,rr⟩:=hD;exact⟨o,es,ep,eb D o Gs ho,rr⟩
 |succ m ih=>
  intro i s acc hm hi st hl hD ha hp q;have aF:i<items.size:=by omega
  have hx:items[i]?=some items[i]:=by simp [aF]
  obtain⟨r,hr,⟨T,k,hT,ht,hk⟩,n1,n2⟩:=hp i _ hx;have hTi:T≠it:=λz=>n1 (by rw [hT,z]);refine codeAny_builtin Qh ?_;rw [oF Bf _];show wpAny _ A.in1 (pyNext (.ref it) >>= _) _ _ s;refine wpAny_bind (wpAny_pyNext_list_item st hl hx λh1 iw pd=>?_);have k1:∀b o,b≠it->s.heap.get? b=some o->h1.get? b=some o:=λb o hb e=>(pd.2 b hb).trans e;show wpAny _ A.in1 (holding [items[i]] _ >>= _) _ _ _;refine wpAny_bind (wpAny_holding (wpAny_bind (wpAny_tryCatch ?_)));rw [hT];obtain⟨ot,hot,rt⟩:=ht;refine pair_items (s:={s with heap:=h1}) ⟨ot,k1 T ot hTi hot,rt⟩ ?_;refine wpAny_holding ?_;have hD1:h1.DictOf (bW prog w) D acc:=by
   obtain⟨o,es,ep,ho,rr⟩:=hD;exact⟨o,es,ep,k1 D o Gs ho,rr⟩
  have hlen:rs.length=items.size:=hn;refine wpAny_dictSet_pairs (s:={s with heap:=h1}) hk hD1 (λh2 hD2 zC=>?_) (bH ha (by have:sizeLine≥10000:=(by decide); omega));have k2:∀b o,b≠it->b≠D->s.heap.get? b=some o->h2.get? b=some o:=λb o hb tG e=>(zC.2 b tG).trans (k1 b o hb e);have hlo:∃o,s.heap.get? l=some o:=let ⟨o,e,_⟩:=hl; ⟨o,e⟩
  have eM:h2.IsListIter it l (i+1):=iw.at λo e=>(zC.2 it (cz Gs)).trans e;have lI:h2.IsList l items:=by
   obtain⟨o,e,rr⟩:=hl;exact⟨o,k2 l o tw (cz hDl) e,rr⟩
  have e1:rawInt ((i:Int)+1)=rawInt ((i+1:Nat):Int):=by push_cast; rfl
  show wpAny _ _ (again (.builtin "dict.update.loop" ⟨[.ref D,.ref it,rawInt ((i:Int)+1),.none],[]⟩)) _ _ _
  rw [e1];refine wpAny_pure ⟨plainId_quiet Bf _,ih (i+1) _ (stored acc r.1 r.2) (by omega) aF eM lI hD2 (bH (U6 _ _ _) (by omega)) (λj v hj=>?_) λh3 vq Gu k3=>?_⟩
  ·obtain⟨r',FI,⟨T',k',Gm,⟨o',gE,WV⟩,iC⟩,m1,m2⟩:=hp j v hj
   exact⟨r',FI,⟨T',k',Gm,⟨o',k2 T' o' (λz=>m1 (by rw [Gm,z])) (λz=>m2 (by rw [Gm,z])) gE,WV⟩,iC⟩,m1,m2⟩
  ·refine q h3 vq ?_ λb o hb tG e=>k3 b o hb tG (k2 b o hb tG e)
   have n9:i<rs.length:=by omega
   have hri:rs[i]=r:=by simpa [n9] using hr
   rw [oJ n9,hri];exact Gu
theorem aev {l:Addr}{items:Array Value}{nn:Nat}{sl:Array (Option Value)}{rs:List (Key×Value)}{Q:Value->Shared->Prop}(hh:A.handled=none)(hl:s.heap.get? l=some {cls:=.type "list",data:=.seq items nn,slots:=sl})(hn:rs.length=items.size)(hz:rs.length<=10000)
  (hp:∀(j:Nat) v,items[j]?=some v->∃r,rs[j]?=some r/\IL prog w s.heap v r)
  (q:∀h' tk,h'.DictOf (bW prog w) s.heap.objs.size (merged [] rs)->(∀b o,s.heap.get? b=some o->h'.get? b=some o)->Q (.ref s.heap.objs.size) {s with heap:=h',toks:=tk}) :
  wpAny (model prog w) A (call (.type "dict") [.ref l]) Q E s:=by
 refine callType_codes (Q₁:=λobj aT=>obj=.ref s.heap.objs.size/\aT={s with heap:=s.heap.push {cls:=.type "dict",data:=.dict #[]}}) F.kt_called_dict (F.kt_typeCall_dict_1 _) F.entry_dict_init (kt_code_dict_new _ ⟨rfl,rfl⟩) ?_
 rintro obj aT ⟨rfl,rfl⟩;have wR:(s.heap.push {cls:=.type "dict",data:=.dict #[]}).DictOf (bW prog w) s.heap.objs.size []:=Heap.DictOf.new s.heap
 have n8:(s.heap.push {cls:=.type "dict",data:=.dict #[]}).get? l=some {cls:=.type "list",data:=.seq items nn,slots:=sl}:=aI _ hl
 refine⟨wR.typeIs,F.args_dict_init_2 _ _,?_⟩;unfold Builtin.«dict.__init__»;refine wpAny_bind ?_;unfold Builtin.Dict.selfAndRest;refine wpAny_bind (wpAny_notOrdered_dict wR.typeIs ?_);show wpAny _ _ (pure (s.heap.objs.size,[bx l])) _ _ _;refine wpAny_pure ?_;show wpAny _ _ (Builtin.Dict.updateFrom "dict.__init__" s.heap.objs.size (.ref l) [] .none) _ _ _
 unfold Builtin.Dict.updateFrom;refine wpAny_bind (wpAny_typeOf (show Shared.TypeIs {s with heap:=s.heap.push {cls:=.type "dict",data:=.dict #[]}} (.ref l) "list" from⟨_,n8,rfl⟩) ?_)
 rw [if_pos (by decide)];refine wpAny_bind (aaX (by simpa using hh) n8 λh2 t2 k2=>?_);rw [if_pos (by rfl)];have lI:=k2 l _ n8;refine wpAny_bind (wpAny_rule (wpAny_bind (wpAny_pyIter_list (s:={s with heap:=h2,toks:=t2}) ⟨_,lI,rfl,nn,rfl⟩ (wpAny_bind (wpAny_pure ?_)))));have hDs:h2.get? s.heap.objs.size=some {cls:=.type "dict",data:=.dict #[]}:=k2 _ _ (bE _ rfl)
 have AV:s.heap.objs.size<h2.objs.size:=aK hDs;have Oj:l<s.heap.objs.size:=aK hl;have k3:∀b o,s.heap.get? b=some o->(h2.push {cls:=.type "list_iterator",data:=.fields #[.ref l,.int 0 0]}).get? b=some o:=λb o e=>aI _ (k2 b o (aI _ e))
 refine wpAny_pure ⟨plainId_quiet Bf _,Tu (A:=A.in1) (l:=l) (it:=h2.objs.size) (D:=s.heap.objs.size) (rs:=rs) (by simpa using hh) (a9 AV) (cz (a9 Oj)) (a9 (qQ Oj AV)) hn hz items.size 0 _ [] (by omega) (fP _)
  ⟨_,bE _ rfl,rfl,rfl⟩ ⟨_,aI _ lI,rfl,nn,rfl⟩ ?_ (fP _) (λj v hj=>?_) λh3 vq Gu k4=>⟨rfl,q h3 vq Gu λb o e=>k4 b o ?_ ?_ (k3 b o e)⟩⟩
 ·obtain⟨o,es,ep,ho,rr⟩:=wR
  exact⟨o,es,ep,aI _ (k2 _ _ ho),rr⟩
 ·obtain⟨r,hr,T,k,hT,⟨o,ho,rr⟩,hk⟩:=hp j v hj
  have OD:=aK ho;refine⟨r,hr,⟨T,k,hT,⟨o,k3 T o ho,rr⟩,hk⟩,?_,?_⟩
  ·rw [hT]; intro z; injection z with z; exact absurd (qQ OD AV) (by rw [z]; exact eI _)
  ·rw [hT]; intro z; injection z with z; exact absurd OD (by rw [z]; exact eI _)
 ·exact a9 (qQ (aK e) AV)
 ·exact a9 (aK e)
end
end L2
namespace L2
open PySem PySem.Spec PyProof.Rows PySem.W
theorem Hj:∀(ps kvs:aj),nY (aJ kvs) (aJ ps)=aJ (ly kvs ps)
 | [],kvs=>rfl
 |p::ps,kvs=>by
  have ih:=Hj ps (a7 kvs p.1 p.2);show nY (putK (aJ kvs) (Kt p.1) (S p.2)) (aJ ps)=_;rw [Bi,ih];rfl
theorem sE (kvs:aj)(k v:List Nat):(a7 kvs k v).length<=kvs.length+1:=by
 unfold a7
 split
 ·simp
 ·simp
theorem Kz:∀(ps kvs:aj),sm (.af kvs)->(∀p∈ps,p.1.length<=10000/\p.2.length<=10000)->kvs.length+ps.length<=10000->sm (.af (ly kvs ps))
 | [],kvs,z,_,_=>z
 |p::ps,kvs,z,hp,hl=>by
  have h1:=hp p bu;have h2:=sE kvs p.1 p.2;rw [cQ] at hl;exact Kz ps (a7 kvs p.1 p.2) (Dz z h1.1 h1.2 (by omega)) (λq hq=>hp q (bR _ hq)) (by omega)
theorem LQ {d:Dt}{ds:List Dt}{ps:aj}(h:iU (d::ds)=some ps):∃k v r,d=.tup [.str k,.str v]/\iU ds=some r/\ps=(k,v)::r:=by
 unfold iU at h
 split at h
 ·rename_i he; cases he
 ·rename_i k v r he
  injection he with h1 h2;subst h1 h2;rw [gr] at h;obtain⟨r',h3,h4⟩:=h;exact⟨k,v,r',rfl,h3,h4.symm⟩
 ·cases h
theorem LO:∀{ds:List Dt}{ps:aj},iU ds=some ps->bj ds->ps.length=ds.length/\∀p∈ps,p.1.length<=10000/\p.2.length<=10000
 | [],ps,h,_=>by
  simp only [iU,jT] at h;subst h;exact⟨rfl,λ_ z=>nomatch z⟩
 |d::ds,ps,h,z=>by
  obtain⟨k,v,r,rfl,h1,rfl⟩:=LQ h;obtain⟨i1,i2⟩:=LO h1 z.2;refine⟨by simp [i1],λp hp=>?_⟩;rcases aO.mp hp with e | e
  ·subst e; exact⟨z.1.2.1,z.1.2.2.1⟩
  ·exact i2 p e
section
variable {X:Cx}{cls:Nat->Addr}{E:XK}{a b c o e:Expr}{f g h:aa->M Dt}{pos p:Pos}
theorem Ma {pins:List (Addr×Obj)}{σ:St}{H:Hp}{s:Shared}(I:Inv X pins σ H s):∀{ds:List Dt}{ts:List V}{ak:List Value}{ps:aj},aq X.K H ds ts->iU ds=some ps->Vals ts ak->
  ∃rs:List (Key×Value),KV (aJ ps) rs/\rs.length=ak.length/\∀(j:Nat) v,ak[j]?=some v->∃r,rs[j]?=some r/\IL X.prog X.w s.heap v r
 | [],ts,ak,ps,r,hp,rv=>by
  simp only [aq] at r;subst r;cases rv;simp only [iU,jT] at hp;subst hp;exact⟨[],.nil,rfl,λj v e=>by simp at e⟩
 |d::ds,ts,ak,ps,r,hp,rv=>by
  obtain⟨k,v,r',rfl,h1,rfl⟩:=LQ hp;simp only [aq] at r;obtain⟨x,xs,rfl,rx,Wy⟩:=r
  cases rv with
  |@cons _ u _ us ru WR=>
   obtain⟨rs,i1,i2,i3⟩:=Ma I Wy h1 WR;obtain⟨T,ys,rfl,hT,hys,vs,hv,ht⟩:=I.mw rx;obtain rfl:u=bx T:=ru;obtain⟨y1,y2,rfl,g1,g2⟩:=Ed hys;rw [cE g1,cE g2] at hv
   cases hv with
   |cons a1 a2=>
    cases a2 with
    |cons a3 a4=>
     cases a4;obtain⟨t1,rfl⟩:=a1;refine⟨(Kt k,_)::rs,.cons ⟨rfl,a3⟩ i1,by simp [i2],λj w hw=>?_⟩
     cases j with
     |zero=>
      simp at hw;subst hw;exact⟨_,qO,T,_,rfl,ht,MI X.prog X.w _ t1⟩
     |succ j=>obtain⟨r,h2,h3⟩:=i3 j w (by simpa using hw); exact⟨r,by simpa using h2,h3⟩
theorem afb (hc:X.calm=true):ik X (.type "dict") (λxs H Q=>∃a ts ds ps,xs=[V.ref a]/\bz X.K H a ts/\aq X.K H ds ts/\iU ds=some ps/\ps.length<=10000/\∀p ob,H p=none->Q (.ref p) (upd H p (.bG ob (.dK (aJ (ly [] ps)))))):=by
 intro pins s σ H xs us Q I r h;obtain⟨a,ts,ds,ps,rfl,hs,hr,hp,hl,q⟩:=h;obtain⟨u,rfl,ru⟩:=vals1 r;obtain rfl:u=bx a:=ru;obtain⟨ak,rv,⟨⟨oc,od,Mm,lq⟩,n,e,c1,c2,c3⟩,_⟩:=I.list hs
 simp only at c1 c2 c3
 subst c1 c2 c3;obtain⟨rs,h1,h2,h3⟩:=Ma I hr hp rv;have hlen:=KV.length h1;rw [qz] at hlen;refine aev (I.ok.hd hc) e (rs:=rs) (by simp [h2]) (by omega) (λj v hj=>h3 j v (by simpa using hj)) λh' tk hD k=>?_;intro ht;have rel:KV (aJ (ly [] ps)) (merged [] rs):=by
  rw [← Hj];exact KV.merge h1 .nil
 have tq:=EU (aJ ps) (aJ []);rw [Hj,qz ps] at tq;have hz:(aJ (ly [] ps)).length<=sizeLine:=by
  have:sizeLine≥10000:=by decide
  simp only [aJ,kF,qY] at tq ⊢;omega
 have I1:=I.laid (a:=s.heap.objs.size) (o:=.dK (aJ (ly [] ps))) (h':=h') (t':=tk) k (aN _) (Bj hz (beq_eq_false_iff_ne.mpr (cz (a9 I.big))) rel hD) ht;obtain⟨ob,I2⟩:=GO I1;exact⟨.ref s.heap.objs.size,_,I2,rfl,q _ ob (I.au.fresh (aN _))⟩
theorem QS (hc:X.calm=true):uI X cls E (.type "dict") qD:=by
 refine⟨_,afc.or (afb hc),λA H Q ds vs L r z q=>?_⟩;unfold qD at q
 split at q
 ·rename_i kvs
  obtain⟨v,rfl,rv⟩:=iS r;obtain⟨p,ob,rfl,hp,hH⟩:=lh rv;exact .inl ⟨p,aJ kvs,rfl,.inr ⟨ob,hH⟩,λp' EI cU=>q _ _ (.upd cU) (vN (o:=EI) (kj L cU)) z.1⟩
 ·rename_i ds
  obtain⟨v,rfl,rv⟩:=iS r;obtain⟨p,xs,rfl,h1,h2⟩:=dJ rv;unfold zP at q
  split at q
  ·rename_i ps Az
   obtain⟨e1,e2⟩:=LO Az z.1.2;have:=z.1.1;refine .inr ⟨p,xs,ds,ps,rfl,bw.seq h1,h2.mono bw,Az,by omega,λp' EI cU=>q _ _ (.upd cU) (vN (o:=EI) (kj L cU)) (Kz ps [] ⟨by simp,λ_ z=>nomatch z⟩ e2 (by simp; omega))⟩
  ·exact zF q
 ·exact zF q
end
end L2
namespace L2
open PySem PySem.SetTable
noncomputable def wk (m:Nat):Nat->Nat->Nat
 |0,i=>i
 |n+1,i=>wk m n ((i * 5+1) % m)
theorem yV (m:Nat):∀a b i,wk m (a+b) i=wk m b (wk m a i)
 |0,b,i=>by rw [uO]; rfl
 |a+1,b,i=>by
  rw [Nat.add_right_comm];exact yV m a b _
noncomputable def zU (m:Nat):Nat->Nat->List Nat
 |0,_=>[]
 |n+1,i=>i::zU m n ((i * 5+1) % m)
theorem EC (m:Nat):∀n i j,j∈zU m n i->∃b,b<n/\wk m b i=j
 |0,_,_,h=>nomatch h
 |n+1,i,j,h=>by
  rcases aO.mp h with e | e
  ·exact⟨0,oP _,e.symm⟩
  ·obtain⟨b,h1,h2⟩:=EC m n _ j e
   exact⟨b+1,Nat.succ_lt_succ h1,h2⟩
noncomputable def gN (m:Nat):Prop:=0<m/\(∀j,j<m->j∈zU m m 0)/\wk m m 0=0
theorem xv {m:Nat}(h:(decide (0<m)&&(bf m).all (λj=>(zU m m 0).contains j)&&decide (wk m m 0=0))=true):gN m:=by
 simp only [eY,decide_eq_true_eq,dR] at h;refine⟨h.1.1,λj hj=>?_,h.2⟩;have:=h.1.2 j (uS.mpr hj);simpa using this
theorem QF:gN 8:=xv (by decide +kernel)
theorem aeI:gN 16:=xv (by decide +kernel)
theorem aeH:gN 32:=xv (by decide +kernel)
theorem aeG:gN 64:=xv (by decide +kernel)
theorem aeJ:gN 128:=xv (by decide +kernel)
theorem gN.meets {m:Nat}(c:gN m){i j:Nat}(hi:i<m)(hj:j<m):∃n,n<m/\wk m n i=j:=by
 obtain⟨a,ha,ea⟩:=EC m m 0 i (c.2.1 i hi);obtain⟨b,hb,eb⟩:=EC m m 0 j (c.2.1 j hj)
 by_cases h:a<=b
 ·refine⟨b - a,by omega,?_⟩
  rw [← ea,← yV,show a+(b - a)=b by omega,eb]
 ·refine⟨m - a+b,by omega,?_⟩
  rw [← ea,← yV,show a+(m - a+b)=m+b by omega,yV,c.2.2,eb]
noncomputable def lp (mask:Nat):Nat->Nat->Nat->Nat×Nat
 |0,i,p=>(i,p)
 |n+1,i,p=>lp mask n (leap mask i p).1 (leap mask i p).2
theorem MO (mask:Nat):∀a b i p,lp mask (a+b) i p=lp mask b (lp mask a i p).1 (lp mask a i p).2
 |0,b,i,p=>by rw [uO]; rfl
 |a+1,b,i,p=>by
  rw [Nat.add_right_comm];exact MO mask a b _ _
theorem MM (mask:Nat):∀n i p,(lp mask n i p).2=p / 32 ^ n
 |0,i,p=>by simp [lp]
 |n+1,i,p=>by
  show (lp mask n _ _).2=_;rw [MM mask n,Nat.pow_succ',← Nat.div_div_eq_div_mul];rfl
theorem MN (mask:Nat):∀n i p,i<=mask->(lp mask n i p).1<=mask
 |0,i,p,h=>h
 |n+1,i,p,h=>MN mask n _ _ (by have:=uL (i * 5+1+p / 32) (show 0<mask+1 from oP mask); show (i * 5+1+p / 32) % (mask+1)<=mask; omega)
theorem MP (mask:Nat):∀n i,(lp mask n i 0).1=wk (mask+1) n i
 |0,i=>rfl
 |n+1,i=>by
  show (lp mask n (leap mask i 0).1 (leap mask i 0).2).1=wk (mask+1) n ((i * 5+1) % (mask+1));have e:(leap mask i 0).2=0:=by show 0 / 32=0; rfl
  have e1:(leap mask i 0).1=(i * 5+1) % (mask+1):=by show (i * 5+1+0 / 32) % (mask+1)=_; simp
  rw [e,e1];exact MP mask n _
theorem Xa {mask:Nat}(c:gN (mask+1)){i p j:Nat}(hi:i<=mask)(hp:p<2 ^ 64)(hj:j<=mask):∃n,n<mask+14/\(lp mask n i p).1=j:=by
 have h13:(lp mask 13 i p).2=0:=by
  rw [MM];exact Nat.div_eq_of_lt (qQ hp (by decide))
 obtain⟨n,hn,e⟩:=c.meets (i:=(lp mask 13 i p).1) (j:=j) (by have:=MN mask 13 i p hi; omega) (by omega);refine⟨13+n,by omega,?_⟩;rw [MO,h13,MP,e]
theorem OW {mask:Nat}{owner:Array (Option Nat)}{j:Nat}(ho:(owner.getD j (some 0)).isNone=true):∀n fuel i p,n<fuel->(lp mask n i p).1=j->∃q,layClean.free mask owner fuel i p=some q
 |n,0,i,p,h,_=>absurd h (Nat.not_lt_zero _)
 |0,fuel+1,i,p,_,e=>by
  have e:i=j:=e;subst e;unfold layClean.free
  cases hf:(bf (runEnd mask i+1 - i)).find? (λk=>(owner.getD (i+k) (some 0)).isNone) with
  |some k=>exact⟨_,rfl⟩
  |none=>
   have:=List.find?_eq_none.mp hf 0 (by simp only [uS]; unfold runEnd; split <;> omega);exact absurd ho this
 |n+1,fuel+1,i,p,h,e=>by
  unfold layClean.free
  cases hf:(bf (runEnd mask i+1 - i)).find? (λk=>(owner.getD (i+k) (some 0)).isNone) with
  |some k=>exact⟨_,rfl⟩
  |none=>exact OW ho n fuel _ _ (by omega) e
theorem OV {mask:Nat}{owner:Array (Option Nat)}:∀fuel i p q,i<=mask->layClean.free mask owner fuel i p=some q->q<=mask/\(owner.getD q (some 0)).isNone=true
 |0,i,p,q,_,h=>by unfold layClean.free at h; cases h
 |fuel+1,i,p,q,hi,h=>by
  unfold layClean.free at h
  cases hf:(bf (runEnd mask i+1 - i)).find? (λk=>(owner.getD (i+k) (some 0)).isNone) with
  |some k=>
   rw [hf] at h;injection h with h;subst h;have h1:=List.mem_of_find?_eq_some hf;have h2:=List.find?_some hf;refine⟨?_,h2⟩;simp only [uS] at h1;unfold runEnd at h1
   split at h1 <;> omega
  |none=>
   rw [hf] at h;exact OV fuel _ _ q (by have:=uL (i * 5+1+p / 32) (show 0<mask+1 from oP mask); show (i * 5+1+p / 32) % (mask+1)<=mask; omega) h
theorem adD {mask:Nat}(c:gN (mask+1)){owner:Array (Option Nat)}{h:Int}(hf:∃j,j<=mask/\(owner.getD j (some 0)).isNone=true) :
  ∃q,layClean.free mask owner (turns mask) (bits h % (mask+1)) (bits h)=some q/\q<=mask/\(owner.getD q (some 0)).isNone=true:=by
 obtain⟨j,hj,ho⟩:=hf;have hi:bits h % (mask+1)<=mask:=by have:=uL (bits h) (show 0<mask+1 from oP mask); omega
 have hp:bits h<2 ^ 64:=by
  unfold bits;have:=u7 h (show (0:Int)<2 ^ 64 by decide);have:=uV h (show (2 ^ 64:Int)≠0 by decide);omega
 obtain⟨n,hn,e⟩:=Xa c hi hp hj;obtain⟨q,hq⟩:=OW (mask:=mask) ho n (turns mask) _ _ (by unfold turns; omega) e;exact⟨q,hq,OV _ _ _ _ hi hq⟩
theorem KW {k:Nat}:∀{l:List (Option Nat)}{q:Nat},l[q]?=some none->((l.set q (some k)).filterMap id).Perm (k::l.filterMap id)
 | [],q,h=>by simp at h
 |x::l,0,h=>by
  simp only [qO,jT] at h;subst h;simp
 |x::l,q+1,h=>by
  simp only [yN] at h;have ih:=KW (k:=k) h;rw [List.set_cons_succ]
  cases x with
  |none=>simpa using ih
  |some y=>
   simp only [dG,id];exact(List.Perm.cons y ih).trans (.swap ..)
theorem all_some:∀{l:List (Option Nat)},(∀x∈l,x≠none)->(l.filterMap id).length=l.length
 | [],_=>rfl
 |none::l,h=>absurd rfl (h none bu)
 |some y::l,h=>by
  simp only [dG,id,cQ];rw [all_some λx hx=>h x (bR _ hx)]
structure uz (mask:Nat) (owner:Array (Option Nat)) (k:Nat):Prop where
 size:owner.size=mask+1
 perm:(owner.toList.filterMap id).Perm (bf k)
theorem uz.room {mask k:Nat}{owner:Array (Option Nat)}(o:uz mask owner k)(h:k<=mask):∃j,j<=mask/\owner[j]?=some none:=by
 by_cases q:∃x∈owner.toList,x=none
 ·obtain⟨x,hx,rfl⟩:=q
  obtain⟨j,hj⟩:=List.getElem?_of_mem hx;have aF:j<owner.size:=by have:=(cP.mp hj).1; simpa using this
  exact⟨j,by have:=o.size; omega,by rw [← hj,oG]⟩
 ·have:=all_some (l:=owner.toList) λx hx e=>q ⟨x,hx,e⟩
  rw [o.perm.length_eq,ri,eZ,o.size] at this;omega
theorem getD_none {owner:Array (Option Nat)}{j:Nat}(h:(owner.getD j (some 0)).isNone=true):owner[j]?=some none:=by
 rw [oK] at h
 cases hj:owner[j]? with
 |none=>rw [hj] at h; cases h
 |some x=>
  rw [hj] at h
  cases x with
  |none=>rfl
  |some y=>cases h
theorem getD_some {owner:Array (Option Nat)}{j:Nat}(h:owner[j]?=some none):(owner.getD j (some 0)).isNone=true:=by
 rw [oK,h];rfl
noncomputable def Ac (mask:Nat)(acc:Option (Array (Option Nat)×Nat))(h:Int):Option (Array (Option Nat)×Nat):=do
 let (owner,k) ← acc
 let j ← layClean.free mask owner (turns mask) (bits h % (mask+1)) (bits h)
 pure (owner.setIfInBounds j (some k),k+1)
theorem M0 {mask:Nat}(c:gN (mask+1)):∀(hs:List Int) (owner:Array (Option Nat)) (k:Nat),uz mask owner k->k+hs.length<=mask+1->∃Mf,hs.foldl (Ac mask) (some (owner,k))=some (Mf,k+hs.length)/\uz mask Mf (k+hs.length)
 | [],owner,k,o,_=>⟨owner,rfl,o⟩
 |h::hs,owner,k,o,hl=>by
  simp only [cQ] at hl;obtain⟨j,h1,h2⟩:=o.room (by omega);obtain⟨q,e,q1,q2⟩:=adD c (owner:=owner) (h:=h) ⟨j,h1,getD_some h2⟩;have hq:=getD_none q2;have hqs:q<owner.size:=by rw [o.size]; omega
  have st:Ac mask (some (owner,k)) h=some (owner.setIfInBounds q (some k),k+1):=by
   show (layClean.free mask owner (turns mask) (bits h % (mask+1)) (bits h)).bind _=_;rw [e];rfl
  have o':uz mask (owner.setIfInBounds q (some k)) (k+1):=by
   refine⟨by rw [Array.size_setIfInBounds]; exact o.size,?_⟩;rw [Array.toList_setIfInBounds,List.range_succ];refine(KW (by rw [oG]; exact hq)).trans ?_;exact(List.Perm.cons k o.perm).trans (List.perm_append_singleton k _).symm
  obtain⟨ow,h3,h4⟩:=M0 c hs _ (k+1) o' (by omega);refine⟨ow,?_,?_⟩
  ·rw [kH,st,h3]
   simp only [cQ]
   congr 2
   omega
  ·rw [cQ,show k+(hs.length+1)=k+1+hs.length by omega]
   exact h4
theorem aaH {mask:Nat}(c:gN (mask+1))(hs:Array Int)(hl:hs.size<=mask+1):∃owner,layClean mask hs=some owner/\uz mask owner hs.size:=by
 obtain⟨ow,h1,h2⟩:=M0 c hs.toList (Array.replicate (mask+1) none) 0 ⟨by simp,by simp [List.filterMap_replicate]⟩ (by simpa using hl);refine⟨ow,?_,by simpa using h2⟩;unfold layClean;rw [← Array.foldl_toList];have e:hs.toList.foldl (Ac mask) (some (Array.replicate (mask+1) none,0))=some (ow,0+hs.toList.length):=h1;show (hs.toList.foldl (Ac mask) (some (Array.replicate (mask+1) none,0))).map (·.1)=some ow;rw [e];rfl
end L2
namespace L2
open PySem PySem.Spec PySem.SetTable
theorem A3 {α β:Type}{f g:α->Option β}:∀{l:List α},(∀x∈l,f x=g x)->l.filterMap f=l.filterMap g
 | [],_=>rfl
 |x::l,h=>by
  rw [dG,dG,h x bu,A3 λy hy=>h y (bR _ hy)]
theorem O6 {α β:Type}(g:Nat->α->β):∀(l:List (Option α)) (n:Nat),((mf n l.length).filterMap λj=>((l[j - n]?).getD none).map (g j)).length=(l.filterMap id).length
 | [],n=>rfl
 |x::l,n=>by
  rw [cQ,oU,dG];have ih:=O6 g l (n+1);have e:(mf (n+1) l.length).filterMap (λj=>(((x::l)[j - n]?).getD none).map (g j))=(mf (n+1) l.length).filterMap (λj=>((l[j - (n+1)]?).getD none).map (g j)):=by
   apply A3
   intro j hj;have:=List.mem_range'_1.mp hj;have e2:j - n=(j - (n+1))+1:=by omega
   rw [e2,yN]
  rw [e];simp only [Nat.sub_self,qO,u5]
  cases x with
  |none=>simpa using ih
  |some y=>simpa using ih
theorem aaN {mask finger moves:Nat}{led plain:Bool}(c:gN (mask+1))(hs:Array Int)(hl:hs.size<=mask) :
  ∃t order,laid mask finger moves led plain hs=some (t,order)/\order.toList.Perm (bf hs.size)/\t.fits hs.size=true/\t.led=led/\t.plain=plain/\t.mask=mask/\t.dummies=#[]:=by
 obtain⟨ow,h1,h2⟩:=aaH c hs (by omega);have live:∀{β:Type} (g:Nat->Nat->β),((bf (mask+1)).filterMap λj=>(ow.getD j none).map (g j)).length=hs.size:=λg=>by
  have:=O6 g ow.toList 0;rw [h2.perm.length_eq,ri,eZ (xs:=ow),h2.size] at this;rw [← this,List.range_eq_range']
  congr 1
  apply A3
  intro j _;rw [oK,Nat.sub_zero,oG]
 have snd:((bf (mask+1)).filterMap λj=>(ow.getD j none).map (j,·)).map (·.2)=ow.toList.filterMap id:=by
  rw [List.map_filterMap];have e:ow.toList=(bf (mask+1)).map λj=>ow.getD j none:=by
   apply nz
   intro i
   by_cases hi:i<mask+1
   ·rw [gR,vc hi,Option.map_some,oK,oG,oI (by rw [h2.size]; exact hi)]
    rfl
   ·rw [qN (by rw [eZ,h2.size]; omega),qN (by simp; omega)]
  rw [e,List.filterMap_map]
  apply A3
  intro j _;show ((ow.getD j none).map (j,·)).map (·.2)=ow.getD j none
  cases ow.getD j none <;> rfl
 refine⟨_,_,by unfold laid; rw [h1]; rfl,?_,?_,rfl,rfl,rfl,rfl⟩
 ·show (((bf (mask+1)).filterMap λj=>(ow.getD j none).map (j,·)).map (·.2)).Perm _
  rw [snd];exact h2.perm
 ·unfold yi SetTable.fill
  simp only [gQ,cg,eY,beq_iff_eq,decide_eq_true_eq];have:=live (β:=Nat×Nat) (λj k=>(j,k));refine⟨this,?_⟩;rw [this];simp;exact hl
theorem Vr {n:Nat}(h:n<128):gN (sizeAbove n)/\n<sizeAbove n/\sizeAbove n<=128:=by
 have key:∀k:Fin 128,(sizeAbove k=8∨sizeAbove k=16∨sizeAbove k=32∨sizeAbove k=64∨sizeAbove k=128)/\k.1<sizeAbove k:=by decide +kernel
 obtain⟨k,h1⟩:=key ⟨n,h⟩
 simp only at k h1
 refine⟨?_,h1,by omega⟩;rcases k with e | e | e | e | e <;> rw [e]
 ·exact QF
 ·exact aeI
 ·exact aeH
 ·exact aeG
 ·exact aeJ
noncomputable def Lp (es:Array (Int×Value))(laid:Option (SetTable×Array Nat)):Sem (Array (Int×Value)×SetTable):=do
 let some (t,order):=laid | unsupported "internal:set-table-without-room"
 let eS:=order.filterMap (es[·]?)
 if eS.size != es.size then unsupported "internal:set-table-lost-an-element"
 pure (eS,t)
noncomputable def KZ (a:Addr)(wanted:Nat):Sem Unit:=do
 let (es,_,t) ← setState a
 if SetTable.sizeAbove wanted > sizeLine then unsupported "set:memory"
 let (es,t) ← Lp es (t.relaid (es.map (·.1)) wanted)
 storeSet a es t
theorem W6:setRelay=KZ:=rfl
section
variable {prog:Program}{w:World}{A:Around}{E:Value->Shared->Prop}{s:Shared}{K:Type}[DecidableEq K]{knd:KeyKind prog w K}
noncomputable def xP (h:Heap)(a:Addr)(led:Bool):Prop:=∃ep t,h.get? a=some (dy #[] ep t)/\t.fits 0=true/\t.led=led/\t.dummies=#[]/\gN (t.mask+1)
theorem Tw {t:SetTable}(hf:t.fits 0=true)(hd:t.dummies=#[]):gf t:=by
 have h:t.place.size=0:=by
  unfold yi at hf;simp only [eY,beq_iff_eq] at hf;exact hf.1
 refine⟨?_,hd⟩;have:t.place.toList=[]:=by simpa using h
 rw [this];exact .nil
theorem xP.Ug {h:Heap}{a:Addr}{led:Bool}(x:xP h a led):cC knd h a [] led:=by
 obtain⟨ep,t,ho,hf,hl,hd,_⟩:=x;refine⟨#[],ep,t,[],ho,?_,.nil,?_,?_,hf,hl,Tw hf hd⟩
 ·intro e he
  simp at he
 ·simp
 ·decide
theorem WX {a:Addr}{led:Bool}{more:Nat}{Q:Unit->Shared->Prop}(hS:xP s.heap a led)(hn:more<64)
  (h:∀h',fQ a s.heap h'->(∃ep t,h'.get? a=some (dy #[] ep t)/\t.fits 0=true/\t.led=led/\t.dummies=#[]/\gN (t.mask+1)/\more<=t.mask)->Q () {s with heap:=h'}):wpAny (model prog w) A (setRoomFor a more) Q E s:=by
 obtain⟨ep,t,ho,hf,hl,Ow,hc⟩:=hS;have pl:t.place.size=0:=by
  unfold yi at hf;simp only [eY,beq_iff_eq] at hf;exact hf.1
 have hd:(dy #[] ep t).data=.set #[] ep t:=rfl;have fl:t.fill=0:=by unfold SetTable.fill; rw [pl,Ow]; rfl
 unfold setRoomFor;refine wpAny_bind (wpAny_setState_of ho hd hf ?_)
 dsimp only
 unfold SetTable.roomFor;rw [fl,pl,uO]
 by_cases q:more * 5≥t.mask * 3
 ·rw [if_pos q]
  dsimp only
  obtain⟨cy,lo,hi⟩:=Vr (n:=more * 2) (by omega);have ajG:(128:Nat)<=sizeLine:=by decide
  rw [W6];unfold KZ;refine wpAny_bind (wpAny_setState_of ho hd hf ?_)
  dsimp only
  rw [if_neg (by omega)];have hm:sizeAbove (more * 2) - 1+1=sizeAbove (more * 2):=by omega
  obtain⟨t',order,e,po,ft,ld,Ep,mk,dm⟩:=aaN (mask:=sizeAbove (more * 2) - 1) (finger:=t.finger) (moves:=t.movedTo (sizeAbove (more * 2) - 1)) (led:=t.led) (plain:=t.plain) (by rw [hm]; exact cy) ((#[]:Array (Int×Value)).map (·.1)) (by simp);have e':t.relaid ((#[]:Array (Int×Value)).map (·.1)) (more * 2)=some (t',order):=e;rw [e'];have on:order=#[]:=by
   have:=po.length_eq;simp at this;exact this
  subst on;unfold Lp
  dsimp only
  rw [if_neg (by decide)];refine wpAny_bind (wpAny_pure ?_);refine wpAny_storeSet_of ho hd ?_ (by dsimp only; simp);refine h _ (rm s.heap a _) ⟨_,t',ma _ ho rfl,by simpa using ft,by rw [ld]; exact hl,dm,by rw [mk,hm]; exact cy,by rw [mk]; omega⟩
 ·rw [if_neg q]
  exact wpAny_pure (h s.heap (.refl ..) ⟨ep,t,ho,hf,hl,Ow,hc,by omega⟩)
end
end L2
namespace L2
open PySem PySem.Spec PyProof.Rows PySem.W PySem.SetTable
section
variable {prog:Program}{w:World}{A:Around}{E:Value->Shared->Prop}{s:Shared}{K:Type}[DecidableEq K]{knd:KeyKind prog w K}
theorem abt {a:Addr}{es:Array (Int×Value)}{ep:Nat}{t:SetTable}{Q:Bool->Shared->Prop}(ho:s.heap.get? a=some (dy es ep t))(h:Q true s):wpAny (model prog w) A (isInstance (.ref a) (.type "set")) Q E s:=by
 unfold isInstance;have wN:=DE
 wp_walk
 exact h
theorem ZX {h:Heap}(led:Bool):xP (h.push (gW led)) h.objs.size led:=⟨0,_,bE _ rfl,by cases led <;> decide,rfl,rfl,QF⟩
end
section
variable {prog:Program}{w:World}{A:Around}{E:Value->Shared->Prop}{s:Shared}{K:Type}[DecidableEq K]{knd:KeyKind prog w K}
theorem afD {a:Addr}{es:Array (Int×Value)}{ep:Nat}{t:SetTable}{A':Around}{Q:Bool->Shared->Prop}(ho:s.heap.get? a=some (dy es ep t))(h:Q true s):wpAny (model prog w) A' (JG (.ref a)) Q E s:=by
 unfold JG orM;refine wpAny_bind (abt ho ?_);exact wpAny_pure h
end
theorem Mc {α β:Type}{F:α->β->Prop}:∀{n4:List α}{nZ:List β},Paired F n4 nZ->∀{i:Nat}{a:α}{b:β},n4[i]?=some a->nZ[i]?=some b->F a b
 |_,_,.nil,i,a,b,h,_=>by simp at h
 |_,_,.cons p t,0,a,b,h,h'=>by
  simp only [qO,jT] at h h';subst h h';exact p
 |_,_,.cons p t,i+1,a,b,h,h'=>by
  simp only [yN] at h h';exact Mc t h h'
section
variable {prog:Program}{w:World}{A:Around}{E:Value->Shared->Prop}{s:Shared}{K:Type}[DecidableEq K]{knd:KeyKind prog w K}
theorem aew {R d:Addr}{od:Obj}{es:Array DictEntry}{ep:Nat}{ks:List K}{nm:String}{Q:Unit->Shared->Prop}(x1:cC knd s.heap R [] (c7 w))(ho:s.heap.get? d=some od)(hd:od.data=.dict es ep)(bF:R≠d)
  (hk:Paired (λk (e:DictEntry)=>knd.is k e.key=true/\e.hash=knd.hash k/\e.key.scannable=true) ks es.toList) (hn:ks.length<64)
  (h:∀h',fQ R s.heap h'->cC knd h' R ks (c7 w)->Q () {s with heap:=h'}) :
  wpAny (model prog w) A (do
   for i in [0:(← dictEntries d).size] do
    let some e:=(← dictEntries d)[i]? | unsupported "internal:set-from-dict"
    let _ ← holding [e.key] (setAddHashed R e.key e.hash)
    if (← dictEpoch d) != ep then unsupported s!"{nm}:changed-during-callback") Q E s:=by
 have hlen:ks.length=es.size:=by rw [hk.length,eZ]
 refine wpAny_bind (wpAny_dictEntries ho hd ?_);refine wpAny_bind ?_;rw [JM];simp only [Jz,Nat.sub_zero,Nat.add_sub_cancel,Nat.div_one];refine wpAny_mono (wpAny_forIn_list _ (λrest _ s'=>∃i h3,rest=mf i (es.size - i)/\i<=es.size/\s'={s with heap:=h3}/\fQ R s.heap h3/\cC knd h3 R (ks.take i) (c7 w)) (λ_ s'=>∃h3,s'={s with heap:=h3}/\fQ R s.heap h3/\cC knd h3 R ks (c7 w)) ?_ ?_ _ _ ⟨0,s.heap,by simp,fP _,rfl,.refl ..,by simpa using x1⟩) (λ_ s' hq=>?_) λ_ _ x=>x
 ·rintro x rest _ s' ⟨i,h3,hr,hi,rfl,sk,jG⟩
  have aF:i<es.size:=by
   by_cases z:i<es.size
   ·exact z
   ·rw [show es.size - i=0 by omega] at hr
    cases hr
  rw [show es.size - i=(es.size - (i+1))+1 by omega,oU] at hr;injection hr with hx hr;have Fz:=hx.symm;subst Fz hr;have Of:h3.get? d=some od:=by rw [sk.2 d (cz bF)]; exact ho
  have hie:i<es.toList.length:=by simpa using aF
  have Oo:i<ks.length:=by omega
  obtain⟨p1,p2,p3⟩:knd.is ks[i] es[i].key=true/\es[i].hash=knd.hash ks[i]/\es[i].key.scannable=true:=by
   have:=Mc hk (i:=i) (a:=ks[i]) (b:=es[i]) (iq Oo) (by rw [oG,oI aF]);exact this
  refine wpAny_bind (wpAny_dictEntries (s:={s with heap:=h3}) Of hd ?_);rw [oI aF]
  dsimp only
  rw [p2];have l0:(ks.take i).eraseDups.length<=(ks.take i).length:=Hi _ _ (aN _);have l1:(ks.take i).length<=ks.length:=by rw [nv]; omega
  refine wpAny_bind (wpAny_holding (Ri (s:={s with heap:=h3}) p1 p3 jG (by have:(4096:Nat)=scanBound:=rfl; omega) λb h4 K3 Gn=>?_));have ho4:h4.get? d=some od:=by rw [K3.2 d (cz bF)]; exact Of
  refine wpAny_bind (wpAny_dictEpoch (s:={s with heap:=h4}) ho4 hd ?_);rw [if_neg (by simp)];refine wpAny_pure ⟨i+1,h4,rfl,aF,rfl,sk.trans K3,?_⟩;rw [List.take_succ,iq Oo];exact Gn
 ·rintro _ s' ⟨i,h3,hr,hi,rfl,sk,jG⟩
  have:i=es.size:=by
   have:=congrArg uM hr;simp at this;omega
  subst this;rw [← hlen,uY] at jG;exact⟨h3,rfl,sk,jG⟩
 ·obtain⟨h3,rfl,sk,jG⟩:=hq
  exact wpAny_pure (h h3 sk jG)
end
end L2
namespace L2
open PySem PySem.Spec PyProof.Rows PySem.W
section
variable {prog:Program}{w:World}{A:Around}{E:Value->Shared->Prop}{s:Shared}{Kt:Type}[DecidableEq Kt]{knd:KeyKind prog w Kt}
theorem VF {l:Addr}{es:Array DictEntry}{ep:Nat}{od:Obj}{ks:List Kt}{Q:Value->Shared->Prop}(ho:s.heap.get? l=some od)(qe:od.data=.dict es ep)(qh:od.cls=.type "dict")(sX:(l==sysModules)=false)
  (hk:Paired (λk (e:DictEntry)=>knd.is k e.key=true/\e.hash=knd.hash k/\e.key.scannable=true) ks es.toList) (hn:ks.length<64)
  (h:∀(h':Heap) (tk:Nat),cC knd h' s.heap.objs.size ks (c7 w)->(∀b o,s.heap.get? b=some o->h'.get? b=some o)->Q (.ref s.heap.objs.size) {s with heap:=h',toks:=tk}) :
  wpAny (model prog w) A (call (.type "set") [.ref l]) Q E s:=by
 obtain⟨c,tl,acp⟩:=gp.mro;have FR:=gp.made;have wN:=gp.sub;refine wpAny_call (codeAny_of_tree ?_);show wpAny _ _ (callAny (.type "set") _) _ _ _
 refine wpAny_pure ⟨B2 _ (by decide +kernel),codeAny_builtin PySem.F.entry_type_call ?_⟩;rw [Around.under_plain (weight_type_call_type "set" [.ref l] []) rfl]
 have h1:=gp.notType;have h2:=gp.canCreate;have hct:=PySem.F.typeCall_set_1 (.ref l)
 repeat (any_goals (first | assumption | wp_step))
 refine codeAny_mono (KY (.ref l) (E:=E) (Q₁:=λobj s1=>obj=.ref s.heap.objs.size/\s1={s with heap:=s.heap.push (gW (c7 w))}) ⟨rfl,rfl⟩) λr s1 hr=>?_
 match r,hr with
 |.error e,hr=>exact hr
 |.ok (.ret obj),hr=>
  obtain⟨rfl,rfl⟩:=hr;have hS:(s.heap.push (gW (c7 w))).get? s.heap.objs.size=some (gW (c7 w)):=bE _ rfl;have hT:Shared.TypeIs {s with heap:=s.heap.push (gW (c7 w))} (.ref s.heap.objs.size) "set" := ⟨_,hS,rfl⟩
  have tw:=gp.init.lookup;have hbi:=gp.init.bind (.ref s.heap.objs.size)
  repeat (any_goals (first | assumption | wp_step))
  refine codeAny_mono (codeAny_call_builtin (R:=wants (λr s2=>r=.none/\∃h' tk,s2={s with heap:=h',toks:=tk}/\cC knd h' s.heap.objs.size ks (c7 w)/\∀b o,s.heap.get? b=some o->h'.get? b=some o) E)
   gp.init.plain PySem.F.entry_set_init (check_set_init_1 hT ?_)) λr2 s2 kh=>?_
  ·obtain⟨oc,odd,Mm,os⟩:=od
   simp only at qh qe
   subst qh qe;have FN:(s.heap.push (gW (c7 w))).get? l=some {cls:=.type "dict",dict:=odd,data:=.dict es ep,slots:=os}:=aI _ ho
   have ab5:=PySem.F.sub_dict_set;have ab6:=PySem.F.sub_dict_frozenset;have AH:l<s.heap.objs.size:=aK ho;unfold Builtin.«set.__init__» noKeywords JJ;generalize Gq:pyIter=PI;generalize hRF:setRoomFor=RF
   wp_walk
   subst Gq hRF;have OI:s.heap.objs.size≠l:=oO AH;have hlen:ks.length=es.size:=by rw [hk.length,eZ]
   refine WX (ZX _) (by omega) λh1 pd hx=>?_;obtain⟨tQ,t1,g1,g2,g3,g4,g5,_⟩:=hx;have Oh:h1.get? l=some {cls:=.type "dict",dict:=odd,data:=.dict es ep,slots:=os}:=by rw [pd.2 l (cz OI)]; exact FN
   refine aew (s:={s with heap:=h1}) (knd:=knd) (xP.Ug ⟨tQ,t1,g1,g2,g3,g4,g5⟩) Oh rfl OI hk hn λh2 zC AU=>?_;refine wpAny_pure ⟨rfl,h2,s.toks,rfl,AU,λb o e=>?_⟩;rw [(pd.trans zC).2 b (a9 (aK e))];exact aI _ e
  ·match r2,kh with
   |.error e,kh=>exact kh
   |.ok (.ret r),kh=>
    obtain⟨rfl,h',tk,rfl,oh,iC⟩:=kh
    repeat (any_goals (first | assumption | wp_step))
    exact h _ _ oh iC
end
theorem aaO {p:Key×V}{q:Key×Value}{ps:List (Key×V)}{qs:List (Key×Value)}(h:KV (p::ps) (q::qs)):p.1=q.1/\KV ps qs:=by
 cases h with
 |cons r t=>exact⟨r.1,t⟩
section
variable {prog:Program}{w:World}
noncomputable abbrev IW (prog:Program)(w:World)(k:Str)(e:DictEntry):Prop:=(jk prog w).is k e.key=true/\e.hash=(jk prog w).hash k/\e.key.scannable=true
theorem aa6 {k:Key}{l:List Nat}{e:DictEntry}(hk:(.inr ⟨l.toArray⟩:Key)=k)(h1:(bW prog w).is k e.key=true)(h3:e.hash=(bW prog w).hash k):IW prog w ⟨l.toArray⟩ e:=by
 subst hk;have iH:mE (.inr ⟨l.toArray⟩) e.key=true:=h1;obtain⟨u,e2⟩:=u9 iH;exact⟨by rw [e2]; exact strKind_is _ _ _ _,h3,by rw [e2]; rfl⟩
theorem aaW {es:List DictEntry}{vs:List (Key×Value)}(p:Pairs (bW prog w) es vs):∀{kvs:List (List Nat×List Nat)},KV (aJ kvs) vs->(∀e∈es,∀k,(bW prog w).is k e.key=true->e.hash=(bW prog w).hash k)->Paired (IW prog w) (kvs.map λp=>(⟨p.1.toArray⟩:Str)) es:=by
 induction p with
 |nil=>
  intro kvs r _;have h:(aJ kvs).length=0:=by rw [KV.length r]; rfl
  have:kvs=[]:=oH.mp (by simpa [aJ] using h);subst this;exact .nil
 |cons h1 h2 t ih=>
  intro kvs r hh
  cases kvs with
  |nil=>exact absurd (KV.length r) (by simp [aJ])
  |cons p kvs=>
   obtain⟨r1,r2⟩:=aaO r;exact .cons (aa6 r1 h1 (hh _ bu _ h1)) (ih r2 λe he=>hh e (bR _ he))
end
end L2
namespace L2
open PySem PySem.Spec PyProof.Rows PySem.W PySem.SetTable
section
variable {X:Cx}{cls:Nat->Addr}{E:XK}{e e':Expr}{f g:aa->M Dt}{pos iV LS ajl p p2 p3:Pos}
noncomputable abbrev pN (kvs:aj):List Str:=kvs.map λp=>(⟨p.1.toArray⟩:Str)
theorem PF (tx:Gl X "set")(tm:X.mg "set" = none)(ha:Ev X cls E e f)(bB:isStar e=false){pins:List (Addr×Obj)}{s:Shared}{σ:St}{H:Hp}(I:Inv X pins σ H s){O A:List Addr}{ρ:aa}(F:bC X.K O A ρ σ H)
  (q:Rg cls E (f ρ) H λd=>∃kvs,d=.af kvs/\kvs.length<=30) :
  wpAny (model X.prog X.w) X.A (eval (.Call (.Name "set" p2) [e] [] iV) X.env) (Lz λv s'=>∃q o H' kvs,v=.ref q/\(∀x∈pins,x.1≠q)/\f ρ=.ok (.af kvs)/\kvs.length<=30/\sm (.af kvs)/\Inv X (pins++[(q,o)]) σ H' s'/\az H H'/\cC (jk X.prog X.w) s'.heap q (pN kvs) (c7 X.w)) X.xe s:=by
 refine wpAny_Call_Name_kw (g6 I tx tm (show bootBuiltins "set" = some (.type "set") from by decide +kernel) ?_ (by decide) (by decide))
 refine jW (e:=e) (rest:=[]) ?_ (gS bB) rfl;rw [gS bB];refine nA (x:=eval e X.env) (aB (ha pins s σ H (λx H1=>∃kvs,az H H1/\Rep X.K (ar H1 A) (.af kvs) x/\f ρ=.ok (.af kvs)/\kvs.length<=30/\sm (.af kvs)) I ⟨O,A,ρ,F,?_⟩) λu s1 ⟨x,H1,I1,r1,kvs,gU,rp,ef,hl,hz⟩=>?_)
 ·refine Rg.ok q λd ed hd=>?_
  obtain⟨kvs,rfl,hl⟩:=hd;intro v H' s' r z;exact⟨kvs,s',r,ed,hl,z⟩
 refine ny ?_;obtain⟨a,ob,rfl,hnA,hH⟩:=lh rp;cases r1;obtain⟨z1,hsy,vs,rel,⟨o,es,ep,ho,hex,hd,hko,prs,hnd⟩⟩:=um I1.au (.inr ⟨ob,hH⟩);have hkp:Paired (IW X.prog X.w) (pN kvs) es.toList:=by
  refine aaW prs rel λe he k hk=>?_;obtain⟨k',h1,h2⟩:=hko e (by simpa using he);rw [(bW X.prog X.w).inj _ _ _ hk h1];exact h2
 refine wpAny_with_toks (n:=1) I1.tk ?_;refine VF (knd:=jk X.prog X.w) (ks:=pN kvs) ho hd hex.1 hsy hkp (by simp [pN]; omega) λh' tk hS hk htk=>?_;intro _;obtain⟨eS,ku,t',M5,gE,r'⟩:=id hS;refine⟨s1.heap.objs.size,dy eS ku t',H1,kvs,rfl,λx hx=>?_,ef,hl,hz,?_,gU,hS⟩
 ·exact a9 (aK (I1.pin x (d6 _ hx)).1)
 ·have I2:=I1.kept (t':=tk) hk
  refine I2.Es λp hp=>?_;rcases eJ.mp hp with z | z
  ·exact I2.pin p (d6 _ z)
  ·obtain rfl:p=_:=by simpa using z
   exact⟨gE,I1.fresh,(a9 I1.lt).symm,I1.EK (aN _),by intro v e; cases e⟩
theorem M8 (kvs:aj):pN kvs=(kvs.map (·.1)).map txt:=by simp [pN,txt,dw]
end
end L2
namespace L2
open PySem PySem.Spec PyProof.Rows PySem.W
section
variable {X:Cx}{cls:Nat->Addr}{E:XK}{a b c o e:Expr}{f g h:aa->M Dt}{pos apos jr:Pos}{i j k:Nat}{m:Str}{ps:List Str}{es:List Expr}{fs:aa->M (List Dt)}
noncomputable def DA (ks:List (List Nat×List Nat)):Prop:=∀p∈ks,p.1.length<=10000/\p.2.length<=10000
theorem J4 {O A:List Addr}{ρ:aa}{σ:St}:∀{prs:List ((aa->M Dt)×(aa->M Dt))}{H:Hp}{Q:List (V×V)->Hp->Prop},bC X.K O A ρ σ H->Rg cls E (pPairs prs ρ) H (λks=>∀H',az H H'->DA ks->Q (ks.map λp=>(S p.1,S p.2)) H')->
  zf (prs.map λp=>(tM X.K cls E p.1,tM X.K cls E p.2)) σ H Q
 | [],H,Q,F,q=>q H (.refl _) (λ_ z=>nomatch z)
 |p::r,H,Q,F,q=>by
  have q:Rg cls E ((p.1 ρ).bd λa=>(p.2 ρ).bd λb=>(pPairs r ρ).bd λks=>El a b ks) H _:=q;refine⟨O,A,ρ,F,Rg.bind q λd1 _ q1=>?_⟩;intro v1 H1 s1 r1 z1;refine⟨O,A,ρ,F.mono s1,Rg.heap (Rg.bind q1 λd2 _ q2=>q2) s1 λd2 _ q2=>?_⟩;intro v2 H2 s2 r2 z2;refine J4 ((F.mono s1).mono s2) (Rg.heap (Rg.bind q2 λks _ q3=>q3) (s1.trans s2) λks _ q3=>?_);intro H3 s3 zk;unfold El at q3
  split at q3
  ·cases cE r1
   cases cE r2
   refine q3 H3 ((s1.trans s2).trans s3) λq hq=>?_;rcases aO.mp hq with rfl | hq
   ·exact⟨z1,z2⟩
   ·exact zk q hq
  ·exact zF q3
theorem MJ:∀(ks acc:List (List Nat×List Nat)),nY (aJ acc) (ks.map λp=>(Kt p.1,S p.2))=aJ (ks.foldl (λacc p=>a7 acc p.1 p.2) acc)
 | [],acc=>rfl
 |p::r,acc=>by
  have ih:=MJ r (a7 acc p.1 p.2);rw [← Bi] at ih;exact ih
theorem KA:∀(ks acc:List (List Nat×List Nat)),DA ks->sm (.af acc)->acc.length+ks.length<10000->sm (.af (ks.foldl (λacc p=>a7 acc p.1 p.2) acc))
 | [],acc,_,z,_=>z
 |p::r,acc,h,z,hl=>by
  have hp:=h p bu;have e:(a7 acc p.1 p.2).length<=acc.length+1:=by
   have:=Aa (aJ acc) (Kt p.1) (S p.2);rw [Bi,qz,qz] at this;exact this
  simp only [cQ] at hl;exact KA r (a7 acc p.1 p.2) (λq hq=>h q (bR _ hq)) (Dz z hp.1 hp.2 (by omega)) (by omega)
theorem LF {keys:List (Option Expr)}{values:List Expr}{prs:List ((aa->M Dt)×(aa->M Dt))}(ha:Ev X cls E a f)(hb:Ev X cls E b g)(hr:qG X pos keys values (prs.map λp=>(tM X.K cls E p.1,tM X.K cls E p.2))) :
  qG X pos (some a::keys) (b::values) (((f,g)::prs).map λp=>(tM X.K cls E p.1,tM X.K cls E p.2)):=XI ha hb hr
theorem PJ {keys:List (Option Expr)}{values:List Expr}{prs:List ((aa->M Dt)×(aa->M Dt))}(h:qG X pos keys values (prs.map λp=>(tM X.K cls E p.1,tM X.K cls E p.2)))(xc:keys.all (·.isSome)=true)(hl:keys.length=values.length)(h0:keys≠[])(Gy:keys.length<=15) :
  Ev X cls E (.Dict keys values pos) (vW prs):=λpins s σ H Q I ⟨O,A,ρ,F,q⟩=>by
 refine wpAny_mono (Yi h xc hl h0 Gy pins s σ H (λv H'=>∃p ks,v=.ref p/\H p=none/\az H H'/\H' p=some (.dK (aJ (ks.foldl (λacc p=>a7 acc p.1 p.2) [])))/\pPairs prs ρ=.ok ks/\ks.length<=15/\DA ks) I ?_) (λu s1 hz hT=>?_) λ_ _ z=>z
 ·intro p hp
  refine J4 (F.mono (.upd hp)) (Rg.heap (Rg.bind q λks _ q1=>q1) (.upd hp) λks Hf q1=>?_);intro H' s' zk;unfold xu at q1
  split at q1
  ·rename_i gF
   refine⟨s' _ _ bY,ks.map λp=>(Kt p.1,S p.2),by rw [dw]; rfl,by rw [cg]; exact gF,p,ks,rfl,hp,λb o e=>?_,?_,Hf,gF,zk⟩
   ·rw [ba (cZ e hp)]
    exact s' b o (by rw [ba (cZ e hp)]; exact e)
   ·rw [bY]
    exact congrArg (λz=>some (HO.dK z)) (MJ ks [])
  ·exact zF q1
 ·obtain⟨v,H',I',rv,p,ks,rfl,hp,s',cU,Hf,gF,zk⟩:=hz hT
  obtain⟨ob,I2⟩:=I'.freeze cU;unfold vW at q;rw [Hf] at q;have q:Res X.K cls A E (xu ks) H Q:=q;unfold xu at q;rw [if_pos gF] at q;have s2:az H (upd H' p (.bG ob (.dK (aJ (ks.foldl (λacc p=>a7 acc p.1 p.2) []))))):=λb o e=>by
   rw [ba (cZ e hp)];exact s' b o e
  exact⟨.ref p,_,I2,rv,q _ _ s2 (vN (o:=ob) (by rw [di (F.cB.fresh hp)]; exact bY)) (KA ks [] zk ⟨by simp,λ_ z=>nomatch z⟩ (by simp; omega))⟩
end
section
variable {M:Model}{A:Around}{E:Value->Shared->Prop}{s:Shared}{base:Heap}{l outer:List Env}{env PY:Env}{e L:Addr}{cls a0:Value}{h h':Heap}
noncomputable def eV (base:Heap)(l:List Env)(e:Addr)(cls a0:Value)(h:Heap):Prop:=base.StaysIn h/\base.get? e=none/\h.FunFrames base l/\∃fl,h.TracedAtW base e cls a0 fl
theorem eV.of (x:oN base l e cls a0 h):eV base l e cls a0 h:=⟨x.1,x.2.1,x.2.2.1,.none,x.2.2.2⟩
theorem eV.held (x:Heap.HeldW base l e cls a0 L h):eV base l e cls a0 h:=⟨x.1,x.2.1,x.2.2.1,_,x.2.2.2⟩
theorem ZO (h:PY.frame=env.frame)(v:Value):noteFrame v PY=noteFrame v env:=by
 unfold noteFrame PySem.frameOf;rw [h]
theorem VH {fr:Option Addr}{Q:Unit->Shared->Prop}(x:eV base l e cls a0 s.heap)
  (hQ:∀h',(eV base l e cls a0 h'/\h'.TracedAtW base e cls a0 (fr.elim .none λf=>rawInt f))->s.heap.UpToSlots h'->Q () {s with heap:=h'}):wpAny M A (setFlight (.ref e) fr) Q E s:=by
 obtain⟨lJ,iZ,hl,fl,oe,vs,T,oT,ts,he,lN,hd,h1,jE,mR,hT,iG,h3⟩:=x;have N7:3<ts.size:=(Cj.mp h3).1;have other:∀b,b≠T->(s.heap.update T (Obj.mapFields (·.setIfInBounds 3 (fr.elim eX λf=>rawInt f)))).get? b=s.heap.get? b:=
  λb hb=>vh _ _ (cz hb)
 have wb:∀b o,s.heap.get? b=some o->(∀vs,o.data≠.fields vs)->b≠T:=λb o hb jD q=>by
  rw [q,hT] at hb; injection hb with hb; subst hb; exact jD ts iG
 have tr:(s.heap.update T (Obj.mapFields (·.setIfInBounds 3 (fr.elim eX λf=>rawInt f)))).TracedAtW base e cls a0 (fr.elim .none λf=>rawInt f):=
  ⟨oe,vs,T,_,_,(other e (cz mR)).trans he,lN,hd,h1,jE,mR,ma _ hT (Obj.isFreed_of_fields (yz iG _)),yz iG _,by simp [N7]⟩
 unfold setFlight;refine wpAny_bind (wpAny_field he hd h1 ?_);rw [if_pos (show (bx T != eX)=true from by simp)];refine wpAny_setField hT iG N7 (hQ _ ⟨⟨λb o qi=>(other b λq=>by rw [q,jE] at qi; cases qi).trans (lJ b o qi),iZ,hl.of_keeps λb o hb jD=>⟨o,(other b (wb b o hb jD)).trans hb,rfl⟩,_,tr⟩,tr⟩
  λb o hb jD=>⟨o.slots,(other b (wb b o hb jD)).trans hb⟩)
theorem Mu {Q:Unit->Shared->Prop}(c9:A.frames=some (env::outer))(hf:env.frame=some L)(x:eV base (env::outer) e cls a0 s.heap)
  (hQ:∀h',Heap.HeldW base (env::outer) e cls a0 L h'->s.heap.UpToSlots h'->Q () {s with heap:=h'}):wpAny M A (noteFrame (.ref e) env) Q E s:=by
 obtain⟨lJ,iZ,hl,fl,ht⟩:=x
 by_cases hU:(fl==rawInt L)=true
 ·have e1:fl=rawInt L:=by simpa using hU
  subst e1;exact wpAny_noteFrame_againW hf ht (hQ s.heap ⟨lJ,iZ,hl,ht⟩ (.refl _))
 ·obtain⟨oe,vs,T,oT,ts,he,⟨lN,h0⟩,hd,h1,jE,mR,hT,iG,h3⟩:=ht
  subst lN;unfold noteFrame;simp only [hf];refine wpAny_bind (wpAny_field he hd h1 ?_);rw [if_pos (show (bx T != eX)=true from by simp)];refine wpAny_bind (wpAny_field hT iG h3 ?_);rw [if_neg hU];refine wpAny_bind (wpAny_setField hT iG (Cj.mp h3).1 ?_);have other:∀b,b≠T->(s.heap.update T (Obj.mapFields (·.setIfInBounds 3 eX))).get? b=s.heap.get? b:=λb hb=>vh _ _ (cz hb);have wb:∀b o,s.heap.get? b=some o->(∀vs,o.data≠.fields vs)->b≠T:=λb o hb jD q=>by
   rw [q,hT] at hb; injection hb with hb; subst hb; exact jD ts iG
  refine wpAny_entryW c9 (hl.of_keeps λb o hb jD=>⟨o,(other b (wb b o hb jD)).trans hb,rfl⟩) hf ((other e (cz mR)).trans he)
   (λb o qi=>(other b λq=>by rw [q,jE] at qi; cases qi).trans (lJ b o qi)) iZ hd (Cj.mp h1).1 h0
   λh' ⟨x1,x2,x3,x4⟩=>hQ h' ⟨x1,iZ,x2,x3⟩ λb o hb jD=>x4 b o ((other b (wb b o hb jD)).trans hb) jD
theorem aaC {Q:Unit->Shared->Prop}(c9:A.frames=some (env::outer))(hf:env.frame=some L)(x:eV base (env::outer) e cls a0 s.heap)
  (hQ:∀h',oN base outer e cls a0 h'->s.heap.UpToSlots h'->Q () {s with heap:=h'}):wpAny M A (leaving env (.ref e)) Q E s:=by
 unfold leaving;refine wpAny_bind (Mu c9 hf x λh' hh up=>?_);refine wpAny_landsW hh λeQ hU TH=>?_;obtain⟨k1,k2,⟨_,_,k3⟩,k4⟩:=hU;exact hQ eQ ⟨k1,k2,k3,k4⟩ (up.trans TH)
theorem Yp {α:Type}{Tc:String}{Q:α->Shared->Prop}(x:eV base l e cls a0 s.heap)(hE:∀h',eV base l e cls a0 h'->s.heap.UpToSlots h'->E (.ref e) {s with heap:=h'}):wpAny M A (PySem.passOn Tc (.ref e) env:Sem α) Q E s:=by
 have x':=x;obtain⟨lJ,iZ,hl,fl,oe,vs,T,oT,ts,he,lN,hd,h1,jE,mR,hT,iG,h3⟩:=x;unfold PySem.passOn;refine wpAny_bind (wpAny_field he hd h1 ?_);rw [if_neg (show ¬ (bx T==eX)=true from by simp)];refine wpAny_bind (VH x' λh' hh up=>?_);exact wpAny_throw (hE h' hh.1 up)
theorem eV.off {C:Addr}{oC:Obj}(x:eV base l e cls a0 h)(hC:base.get? C=none)(hl:C∉aM l)(ho:h.get? C=some oC)(hd:∀vs,oC.data≠.fields vs)(sb:fQ C h h'):eV base l e cls a0 h':=by
 obtain⟨lJ,iZ,hU,fl,oe,vs,T,oT,ts,he,lN,AN,h1,jE,mR,hT,iG,h3⟩:=x;have ne:e≠C:=λz=>by rw [z,ho] at he; injection he with he; subst he; exact hd vs AN
 have nT:T≠C:=λz=>by rw [z,ho] at hT; injection hT with hT; subst hT; exact hd ts iG
 refine⟨λb o q=>(sb.2 b λz=>by rw [z,hC] at q; cases q).trans (lJ b o q),iZ,?_,fl,oe,vs,T,oT,ts,(sb.2 e ne).trans he,lN,AN,h1,jE,mR,(sb.2 T nT).trans hT,iG,h3⟩
 clear lJ he hT
 induction l with
 |nil=>trivial
 |cons v r ih=>
  obtain⟨k1,⟨L,o,k2,k3,k4,k5⟩,k6⟩:=hU;have hm:aM (v::r)=L::aM r:=by unfold aM; rw [dG,k2]
  rw [hm] at hl;exact⟨k1,⟨L,o,k2,k3,(sb.2 L λz=>hl (z ▸ bu)).trans k4,k5⟩,ih (λz=>hl (bR _ z)) k6⟩
end
inductive lV (X:Cx) (E:XK) (ea Cc:Addr) (H':Hp) (B:Heap) (s':Shared):Prop
 |mk (h1:s'.os=X.aQ.os) (h2:AllBare s'.gens) (h3:cc X.prog X.w H' B)
  (h4:∀b o,X.aQ.heap.get? b=some o->X.bQ b=none->b∉aM X.outer->B.get? b=some o) (h5:∀b o,X.aQ.heap.get? b=some o->b∉aM X.outer->∃o',B.get? b=some o')
  (h6:∀b o,X.aQ.heap.get? b=some o->X.bQ b=none->H' b=none) (h7:∀b xs,X.bQ b=some (.tup xs)->H' b=some (.tup xs)) (h8:∀b o u,X.bQ b=some (.bG o u)->H' b=some (.bG o u)) (h9:∀b q,X.bQ b=some (.kX q)->H' b=some (.kX q))
  (xk:H' ea=none) (AX:E (.ref Cc) none H')
  (xj:∀b o,X.aQ.heap.get? b=some o->X.bQ b=none->b∈aM X.outer->(∀vs,o.data≠.fields vs)/\∃sl,s'.heap.get? b=some {o with slots:=sl}):lV X E ea Cc H' B s'
inductive xN (X:Cx) (E:XK) (C:Addr) (e:Value) (s':Shared):Prop
 |mk (ea Cc:Addr) (H':Hp) (B:Heap) (a0:Value) (e1:e=.ref ea) (f:eV B X.stack ea (.ref Cc) a0 s'.heap) (n:B.get? C=none) (r:lV X E ea Cc H' B s'):xN X E C e s'
structure Plain (X:Cx) (E:XK):Prop where
 ex:X.ex=[]
 st:X.stack=X.env::X.outer
 fr:∃L,X.env.frame=some L
 held:∀C e s',xN X E C e s'->X.xe e s'
section
variable {X:Cx}{E:XK}{pins:List (Addr×Obj)}{σ:St}{H:Hp}{s s':Shared}{C:Addr}{e:Value}
theorem less_none {B B':Heap}(k:∀b o,B'.get? b=some o->B.get? b=some o){b:Addr}(h:B.get? b=none):B'.get? b=none:=by
 cases q:B'.get? b with
 |none=>rfl
 |some o=>rw [k b o q] at h; cases h
theorem OX {B B' h:Heap}(k:∀b o,B'.get? b=some o->B.get? b=some o):∀{l:List Env},h.FunFrames B l->h.FunFrames B' l
 | [],_=>trivial
 |v::r,⟨k1,⟨L,o,k2,k3,k4,k5⟩,k6⟩=>⟨k1,⟨L,o,k2,less_none k k3,k4,k5⟩,OX k k6⟩
theorem eV.less {B B' h:Heap}{l:List Env}{e:Addr}{cls a0:Value}(x:eV B l e cls a0 h)(k:∀b o,B'.get? b=some o->B.get? b=some o):eV B' l e cls a0 h:=by
 obtain⟨lJ,iZ,hU,fl,oe,vs,T,oT,ts,he,lN,AN,h1,jE,mR,hT,iG,h3⟩:=x;exact⟨λb o q=>lJ b o (k b o q),less_none k iZ,OX k hU,fl,oe,vs,T,oT,ts,he,lN,AN,h1,less_none k jE,mR,hT,iG,h3⟩
theorem acQ (hX:Plain X E)(I:Inv X pins σ H s)(hc:bD X.prog X.w X.stack H s E e s'){oC:Obj}(hC:s.heap.get? C=some oC)(hn:H C=none)(wY:X.aQ.heap.objs.size<=C):xN X E C e s':=by
 obtain⟨ea,Cc,H',B,a0,rfl,pY,hb,fl,au,un,mF,oY,hW,hE⟩:=hc;have cG:∀b:Addr,b∉X.ex:=λb z=>by rw [hX.ex] at z; exact nomatch z
 have AW:H' C=none:=un.free C oC hC hn (by simp);have sub:∀b o,(hideAll B [C]).get? b=some o->B.get? b=some o:=λb o q=>of_hideAll [C] q;have pJ:∀{b o},X.aQ.heap.get? b=some o->b∉[C]:=λ{b o} q z=>by
  rw [jm] at z;rw [z] at q;exact absurd (aK q) (md.mpr wY)
 have old:∀b o,X.aQ.heap.get? b=some o->b∉aM X.outer->b∉aM X.stack:=λb o q hb z=>by
  rcases aO.mp (I.k7 b z) with e | e
  ·exact absurd (aK q) (by have:=I.ok.above; rw [e]; exact md.mpr this)
  ·exact hb e
 have up:∀b,b∈aM X.outer->b∈aM X.stack:=λb hb=>by
  rw [hX.st];unfold aM;rw [dG]
  split
  ·exact hb
  ·exact bR _ hb
 refine⟨ea,Cc,H',hideAll B [C],a0,rfl,(eV.of fl).less sub,hideAll_none [C] (jm.mpr rfl),pY.trans I.os,hb,λa o q=>?_,λb o q n hb=>?_,λb o q hb=>?_,λb o q n=>?_,λb xs q=>un.fR b xs (I.base.fR b xs q),λb o u q=>un.fJ b o u (I.base.fJ b o u q),λb q z=>un.fS b q (I.base.fS b q z),hW,hE,λb o q n hb=>?_⟩
 ·refine(au a o q).jq (λb u hb r=>hideAll_get [C] r λz=>?_) (λ_ z=>z) λ_ _ z=>z
  rw [jm] at z;subst z;rcases hb with hb | hb
  ·rw [hb,q] at AW; cases AW
  ·rw [hb] at AW; cases AW
 ·exact hideAll_get [C] (mF b o (I.base.keep b o q n hb (cG b)) (I.base.free b o q n (cG b)) (old b o q hb)) (pJ q)
 ·obtain⟨o',q'⟩:=I.base.there b o q (cG b)
  obtain⟨o2,q2⟩:=oY b o' q' (old b o q hb);exact⟨o2,hideAll_get [C] q2 (pJ q)⟩
 ·obtain⟨o',q'⟩:=I.base.there b o q (cG b)
  exact un.free b o' q' (I.base.free b o q n (cG b)) (by simp)
 ·obtain⟨sl,q'⟩:=I.base.slot b o q n hb (cG b)
  obtain⟨zx,j8⟩:=un.slot b _ q' (I.base.free b o q n (cG b)) (up b hb) (by simp);obtain⟨_,o2,q2,nf⟩:=I.ok.fZ.mem hb;have vO:X.aQ.heap.get? b=some o2:=q2;rw [q] at vO;cases vO;exact⟨nf,zx,j8⟩
theorem lV.up {ea Cc:Addr}{H':Hp}{B h':Heap}(x:lV X E ea Cc H' B s')(hu:∀b o,X.aQ.heap.get? b=some o->(∀vs,o.data≠.fields vs)->∀sl,s'.heap.get? b=some {o with slots:=sl}->∃fE,h'.get? b=some {o with slots:=fE}):lV X E ea Cc H' B {s' with heap:=h'}:=by
 obtain⟨h1,h2,h3,h4,h5,h6,h7,h8,h9,xk,AX,xj⟩:=x;refine⟨h1,h2,h3,h4,h5,h6,h7,h8,h9,xk,AX,λb o q n hb=>?_⟩;obtain⟨nf,sl,q2⟩:=xj b o q n hb;exact⟨nf,hu b o q nf sl q2⟩
theorem lV.slots {ea Cc:Addr}{H':Hp}{B h':Heap}(x:lV X E ea Cc H' B s')(up:s'.heap.UpToSlots h'):lV X E ea Cc H' B {s' with heap:=h'}:=x.up λb o q nf sl q2=>by
 obtain⟨fE,q3⟩:=up b _ q2 nf;exact⟨fE,q3⟩
theorem acP {C:Addr}{m:Str->Option Value}(hX:Plain X E)(c9:X.A.frames=some X.stack)(x:xN X E C e s')(wY:X.aQ.heap.objs.size<=C)(tH:C∉aM X.stack)(hm:s'.heap.Ns C m){jL:Env}(mP:jL.frame=X.env.frame){acc:Value}{use:Option (Value->Sem Unit)}{Q:Value->Shared->Prop} :
  notedBy (model X.prog X.w) X.A jL (λe gX=>compPost (model X.prog X.w) X.A X.xe use Q acc C (.error e) gX) e s':=by
 obtain⟨L,hL⟩:=hX.fr;obtain⟨ea,Cc,H',B,a0,rfl,h3,h4,hr⟩:=x;unfold notedBy;rw [ZO mP];have OQ:=h3;rw [hX.st] at c9 OQ;refine Mu c9 hL OQ λh' hh up=>?_;have fc:=up.ns hm;refine⟨m,fc,λh2 sb ajM hl=>?_⟩;have f1:eV B X.stack ea (.ref Cc) a0 h':=by rw [hX.st]; exact eV.held hh
 obtain⟨oC,es,ep,AE,hdC,_⟩:=fc;have f2:=f1.off h4 tH AE (λvs z=>by rw [hdC] at z; cases z) sb;have r1:lV X E ea Cc H' B {s' with heap:=h'}:=hr.slots up;have r2:lV X E ea Cc H' B {s' with heap:=h2}:=r1.up λb o q nf sl q2=>⟨sl,(sb.2 b λz=>by
  rw [z] at q;exact absurd (aK q) (md.mpr wY)).trans q2⟩
 refine Yp f2 λh5 f5 CS=>hX.held C _ _ ⟨ea,Cc,H',B,a0,rfl,f5,h4,r2.slots CS⟩
end
section
variable {P:Program}{w:World}{K:ao}{mg:Str->Option Value}{base:Heap}{N:List Str}{qual:Str}{scope:Scope}{f:Addr}{cd:Value}{A:Around}{outer:List Env}{aQ:Shared}{bQ:Hp}{E:XK}
theorem XQ (c9:(cO (bD P w) P w K mg base N qual scope f cd A outer aQ bQ E).A.frames=some (cO (bD P w) P w K mg base N qual scope f cd A outer aQ bQ E).stack)(acL:∀b∈aM outer,bQ b=none):Plain (cO (bD P w) P w K mg base N qual scope f cd A outer aQ bQ E) E where
 ex:=rfl
 st:=rfl
 fr:=⟨_,rfl⟩
 held:=by
  intro C e s' ⟨ea,Cc,H',B,a0,e1,fl,_,h1,h2,h3,h4,h5,h6,h7,h8,h9,xk,AX,xj⟩;subst e1;refine aaC c9 rfl fl λeQ mW up=>?_;refine⟨ea,Cc,H',B,a0,rfl,h1,h2,mW,h3,⟨λb o q n hb _=>mW.1 b o (h4 b o q n hb),λb o q n hb _=>?_,λb o q n _=>h6 b o q n,λb o q _=>?_,h7,h8,h9⟩,h4,h5,xk,AX⟩
  ·obtain⟨nf,sl,q2⟩:=xj b o q n hb
   obtain⟨fE,q3⟩:=up b _ q2 nf;exact⟨fE,q3⟩
  ·by_cases hb:b∈aM outer
   ·obtain⟨nf,sl,q2⟩:=xj b o q (acL b hb) hb
    obtain⟨fE,q3⟩:=up b _ q2 nf;exact⟨_,q3⟩
   ·obtain⟨o',q'⟩:=h5 b o q hb
    exact⟨o',mW.1 b o' q'⟩
end
theorem aeS {prog:Program}{w:World}{A:Around}{R:Result->Shared->Prop}{s:Shared}{elt target iter:Expr}{ifs:List Expr}{scope:Scope}{pos:Pos}{it acc:Value}{env:Env}(I:Nat->Shared->Prop)
  (turn:∀n s,I n s->wpAny (model prog w) A (pyNext it) (λr aT=>match r with
   |none=>R (.ok .next) aT
   |some v=>wpAny (model prog w) A (letOwnedTupleGo target it v) (λ_ vA=>wpAny (model prog w) A (assign target env v) (λ_ gx=>
     wpAny (model prog w) A (forIn ifs true λc r=>if r=true then do let ok ← isTrue c env (eval c env); pure (nq ok) else pure (nq r)) (λok gu=>
      if ok=true then wpAny (model prog w) A (eval elt env) (λx mr=>
       wpAny (model prog w) A (call (.builtin "list.append") [acc,x]) (λ_ vz=>∃m,m<n/\I m vz) (notedBy (model prog w) A env λx s'=>R (.error x) s') mr) (notedBy (model prog w) A env λx s'=>R (.error x) s') gu
      else ∃m,m<n/\I m gu) (notedBy (model prog w) A env λx s'=>R (.error x) s') gx) (notedBy (model prog w) A env λx s'=>R (.error x) s') vA) (notedBy (model prog w) A env λx s'=>R (.error x) s') aT) (notedBy (model prog w) A env λx s'=>R (.error x) s') s)
  (n:Nat) (h:I n s) :
  codeAny (model prog w) A (.compLoop (.ListComp elt [⟨target,iter,ifs,0⟩] scope pos) 0 it acc env) R s:=by
 refine codeAny_loop rfl I (λn s hI=>?_) n h;show wpAny _ A ((compTurn (.ListComp elt [⟨target,iter,ifs,0⟩] scope pos) 0 it acc env).onRaise (λx=>do noteFrame x env; theTreesLotGoes x)) _ _ s;refine wpAny_noted ?_;rw [compTurn_list];refine wpAny_bind (wpAny_standAt (wpAny_bind (wpAny_mono (turn n s hI) (λr aT eP=>?_) λ_ _ h'=>h')))
 cases r with
 |none=>exact wpAny_pure eP
 |some v=>
  refine wpAny_bind (wpAny_mono eP (λ_ vA Fv=>?_) λ_ _ h'=>h');refine wpAny_bind (wpAny_mono Fv (λ_ gx pT=>wpAny_bind (wpAny_mono pT (λok gu kg=>?_) λ_ _ h'=>h')) λ_ _ h'=>h')
  cases ok with
  |false=>
   simp only [cF,if_false] at kg ⊢;exact wpAny_bind (wpAny_pure (wpAny_pure ⟨rfl,kg⟩))
  |true=>
   simp only [if_true] at kg ⊢;refine wpAny_bind (wpAny_bind (wpAny_mono kg (λx mr Fu=>wpAny_bind (wpAny_mono Fu (λ_ vz Fq=>wpAny_pure (wpAny_pure ⟨rfl,Fq⟩)) λ_ _ h'=>h')) λ_ _ h'=>h'))
noncomputable def kx (X:Cx)(E:XK)(scope:Scope)(N:List Str)(pins:List (Addr×Obj))(fp:List Addr)(s:Shared)(H:Hp):Cx:=
 (bL X scope N pins fp s H).iR λe s'=>∃fU aD H' s1,Inv (bL X scope N pins fp s H) fU aD H' s1/\bD X.prog X.w X.stack H' s1 E e s'
theorem Yq {X:Cx}{E:XK}{scope:Scope}{N:List Str}{pins:List (Addr×Obj)}{fp:List Addr}{s:Shared}{H:Hp}:Passes (bD X.prog X.w) (kx X E scope N pins fp s H) E:=λfU aD H' s1 e s' I hc=>⟨fU,aD,H',s1,I.jo,hc⟩
section
variable {X:Cx}{scope:Scope}{N:List Str}{k:Nat}{fr:List Nat}{tg iter elt:Expr}{ifs:List Expr}{wi:TI}{g:TG}{tc:TT}{te:TE}{pos:Pos}
theorem afn {EX:XK}{pins:List (Addr×Obj)}{σ:St}{H:Hp}{s:Shared}{it:Addr}{fp:List Addr}{tn:Nat->Heap->Prop}{J:It}{Q:VK}{RR:Value->Addr->Result->Shared->Prop}{E:Value->Shared->Prop}
  (hc:X.calm=true) (S:eG X scope N k fr) (hg:∀pins fp s H,PG (kx X EX scope N pins fp s H) tg g) (ht:∀pins fp s H,jg (kx X EX scope N pins fp s H) ifs tc) (he:∀pins fp s H,PE (kx X EX scope N pins fp s H) elt te) (hX:Plain X EX)
  (hRE:∀acc C e s' m,xN X EX C e s'->X.aQ.heap.objs.size<=C->C∉aM X.stack->s'.heap.Ns C m->∀jL:Env,jL.frame=X.env.frame->notedBy (model X.prog X.w) X.A jL (λx gX=>RR acc C (.error x) gX) e s')
  (I:Inv X pins σ H s) (T:Turn X.prog X.w X.K tg J fp it tn) (st:tn 0 s.heap) (hf:∀b∈fp,fw X pins H b) (h:nO k fr g tc te σ J H Q)
  (hR:∀D C s' (H':Hp),Q (.ref D) H'->fw X pins H' C->(∃m,s'.heap.Ns C m)->(∀h',fQ C s'.heap h'->Inv X pins σ H' {s' with heap:=h'})->RR (.ref D) C (.ok .next) s') :
  wpAny (model X.prog X.w) X.A (newList []) (λacc gu=>wpAny (model X.prog X.w) X.A (newFunctionEnv scope X.env.globals (jK scope.names X.env.cells) [] X.env.qual none .none (some X.env)) (λjL mr=>
   codeAny (model X.prog X.w) X.A (.compStart (.ListComp elt [⟨tg,iter,ifs,0⟩] scope pos) 0 (.ref it) acc {jL with scope:=relabel scope X.env}) (RR acc jL.locals) mr) E gu) E s:=by
 refine wpAny_newObj_type (Mx ?_)
 dsimp only
 have I3:Inv X pins σ (upd H s.heap.objs.size (.lst [])) {s with heap:=s.heap.push {cls:=.type "list",dict:=none,data:=.seq ([]:List Value).toArray}}:=
  I.laid (t':=s.toks) (λb u e=>aI _ e) (aN _) ⟨by simp,[],_,.nil,bE _ rfl⟩
 generalize jG:({s with heap:=s.heap.push {cls:=.type "list",dict:=none,data:=.seq ([]:List Value).toArray}}:Shared)=s3 at I3
 have e3:s.heap.push {cls:=.type "list",dict:=none,data:=.seq ([]:List Value).toArray}=s3.heap:=by rw [← jG]
 rw [e3];generalize hD:s.heap.objs.size=D at I3 ⊢;have Gr:H D=none:=I.au.fresh (by omega);obtain⟨W,⟨m0,w0⟩,turn⟩:=h D Gr;have Gb:∀b∈fp,b≠D:=λb hb z=>by
  obtain⟨o,e,_⟩:=T.obj 0 _ st b hb;exact absurd (aK e) (by rw [z,← hD]; exact eI _)
 have og:∀b∈fp,fw X pins (upd H D (.lst [])) b:=λb hb=>⟨by rw [ba (Gb b hb)]; exact(hf b hb).1,(hf b hb).2⟩
 have vo:∀b o,s.heap.get? b=some o->s3.heap.get? b=some o:=λb o e=>by rw [← e3]; exact aI _ e
 have aF:∀b∈fp,b<s3.heap.objs.size:=λb hb=>by
  obtain⟨o,e,_⟩:=T.obj 0 _ st b hb;exact aK (vo b o e)
 have wB:∀b o,s3.heap.get? b=some o->(pushCells (s3.heap.push {cls:=.type "dict",data:=.dict #[]}) scope.names).get? b=some o:=λb o e=>pushCells_keeps _ _ b o (aI _ e)
 have v9:=(Heap.Ns.new s3.heap (.type "dict")).keeps (pushCells_keeps scope.names _)
 have xx:∀x c,(cellsFrom (s3.heap.objs.size+1) scope.names (jK scope.names X.env.cells)).lookup x=some c->∃v,(pushCells (s3.heap.push {cls:=.type "dict",data:=.dict #[]}) scope.names).IsCell c v:=by
  have q:=Bm scope.names (s3.heap.push {cls:=.type "dict",data:=.dict #[]}) (jK scope.names X.env.cells) λz d e=>by
   obtain⟨v,q⟩:=I3.cell z d (uu (S.cells I.ok) e);exact⟨v,q.keeps λb o e=>aI _ e⟩
  rwa [gk] at q
 generalize acJ:pushCells (s3.heap.push {cls:=.type "dict",data:=.dict #[]}) scope.names=eP at wB v9 xx ⊢
 have keep:∀b o,s3.heap.get? b=some o->eP.get? b=some o:=wB;have FP:=v9;have iw:tn 0 eP:=T.keep 0 _ _ st λb hb o e=>keep b o (vo b o e);have Ha:({s with heap:=eP,toks:=s.toks}:Shared)={s3 with heap:=eP,toks:=s.toks}:=by rw [← jG]
 have IC:Inv (bL X scope N pins fp s3 (upd H D (.lst []))) [] (fD k fr σ) (upd H D (.lst [])) {s3 with heap:=eP,toks:=s.toks}:=NW S I3 og aF FP keep xx;rw [← Ha] at IC;have o6:∀{H':Hp},(∀b∈fp,H' b=none)->∀b∈fp,fw (bL X scope N pins fp s3 (upd H D (.lst []))) [] H' b:=λhn b hb=>
  ⟨hn b hb,a9 (aF b hb),λz=>by
   rcases aO.mp (I3.k7 b z) with q | q
   ·exact(hf b hb).2.1 q
   ·exact(hf b hb).2.2.1 q,.inl hb,λx c lM=>by
   rcases S.look I.ok lM with ⟨a,_⟩ | ⟨a,_⟩
   ·intro z
    exact eI _ (cK (aF b hb) (z ▸ bH (mh _) a))
   ·exact(hf b hb).2.2.2.2.1 x c a,λp hp=>by
   have cU:p∈X.pn++pins:=by
    have fY:p∈(X.pn++pins)++[]:=hp;simpa using fY
   exact(hf b hb).2.2.2.2.2 p cU⟩
 have tH:s3.heap.objs.size∉aM X.stack:=λz=>by
  rcases aO.mp (I3.k7 _ z) with e | e
  ·exact absurd I3.lt (by rw [← e]; exact eI _)
  ·exact I3.EK (aN _) e
 have Gi:∀e s',(kx X EX scope N pins fp s3 (upd H D (.lst []))).xe e s'->notedBy (model X.prog X.w) X.A (bL X scope N pins fp s3 (upd H D (.lst []))).env (λx gX=>RR (.ref D) s3.heap.objs.size (.error x) gX) e s':=by
  rintro e s' ⟨fU,aD,H',s1,I',gG⟩;have IX:=EA I3 og I' (.refl ..);obtain⟨m,⟨oC,es,ep,AE,rC⟩,_⟩:=I'.loc;have hu:=gG;obtain⟨_,_,_,_,_,_,_,_,_,_,un,_⟩:=hu;have hk:=un.keep _ oC AE I'.free tH (by simp);exact hRE (.ref D) _ e s' m (acQ hX IX gG AE I'.free I3.sz) I3.sz tH ⟨oC,es,ep,hk,rC⟩ _ rfl
 have loop:∀s4:Shared,Inv (bL X scope N pins fp s3 (upd H D (.lst []))) [] (fD k fr σ) (upd H D (.lst [])) s4->tn 0 s4.heap->
   codeAny (model X.prog X.w) X.A (.compLoop (.ListComp elt [⟨tg,iter,ifs,0⟩] scope pos) 0 (.ref it) (.ref D) (bL X scope N pins fp s3 (upd H D (.lst []))).env) (RR (.ref D) s3.heap.objs.size) s4:=by
  intro s4 I4 Dv;refine aeS (λn s'=>∃i ys aD H',Inv (bL X scope N pins fp s3 (upd H D (.lst []))) [] aD H' s'/\tn i s'.heap/\(∀b∈fp,H' b=none)/\W i n ys aD H') ?_ m0 ⟨0,[],_,_,I4,Dv,λb hb=>(og b hb).1,w0⟩;rintro n s5 ⟨i,ys,l6,H5,I5,mv,qq,w5⟩;obtain⟨hD5,xb⟩:=turn i n ys l6 H5 w5;rcases xb with ⟨stop,q⟩ | ⟨go,m',hm,step⟩
  ·refine aB (T.done (bL X scope N pins fp s3 (upd H D (.lst []))) rfl rfl rfl hc i [] s5 l6 H5 _ I5 (o6 qq) mv stop) λr s6 ⟨hr,I6⟩=>?_
   subst hr;obtain⟨m6,FQ,_⟩:=I6.loc;exact hR D _ s6 H5 q (I3.i8 (aN _) I6.free) ⟨m6,FQ⟩ λh' sb=>EA I3 og I6 sb
  ·refine mn (T.item (bL X scope N pins fp s3 (upd H D (.lst []))) rfl rfl rfl hc i [] s5 l6 H5 _ I5 (o6 qq) mv go) λr s6 abY ⟨u,hr,h6⟩=>?_
   subst hr;refine aB h6 λ_ s7 h_=>?_;obtain⟨x,H7,I7,r7,y7,o7,GP⟩:=h_;have Ja:=I7.pinned (o6 GP) (T.obj _ _ o7);refine aB (wpAny_mono (hg pins fp s3 _ _ s7 l6 H7 x u _ (Ja.iR _) r7 (step x H7 y7)) (λ_ _ z=>z) Gi) λ_ s8 h_=>?_;obtain⟨dQ,H8,I8,q8⟩:=h_;refine aB (wpAny_mono (ht pins fp s3 _ _ s8 dQ H8 _ I8 q8) (λ_ _ z=>z) Gi) λb s9 h_=>?_;obtain⟨H9,RZ,q9⟩:=h_;have I9:=RZ.jo;have again:∀{H':Hp} {s':Shared},Inv (bL X scope N pins fp s3 (upd H D (.lst []))) ([]++sG fp s7.heap) dQ H' s'->tn (i+1) s'.heap/\(∀b∈fp,H' b=none):=λ{H' s'} I'=>by
    refine⟨T.keep _ _ _ o7 λb hb o e=>(I'.pin (b,o) (d6 _ (d6 _ (sO hb e)))).1,λb hb=>?_⟩;obtain⟨o,e,d⟩:=T.obj _ _ o7 b hb;exact(I'.pin (b,o) (d6 _ (d6 _ (sO hb e)))).2.1
   cases b with
   |false=>
    simp only [cF,if_false] at q9 ⊢;obtain⟨a1,a2⟩:=again I9;exact⟨m',hm,i+1,ys,dQ,H9,I9.ml,a1,a2,q9⟩
   |true=>
    simp only [if_true] at q9 ⊢;refine aB (wpAny_mono (he pins fp s3 _ _ s9 dQ H9 _ RZ q9) (λ_ _ z=>z) Gi) λy vI h_=>?_;obtain⟨v,xY,ai9,Ef,Gv,FV,Eg⟩:=h_;have Jb:=ai9.jo;refine aB (wpAny_mono (MH (X:=bL X scope N pins fp s3 (upd H D (.lst []))) _ vI dQ xY (.ref D) [v] (.ref D) [y] (λz H'=>z=.ax/\H'=upd xY D (.lst (ys++[v]))) Jb rfl (.cons Ef .nil) ⟨D,ys,v,rfl,rfl,Gv,FV,rfl,rfl⟩) (λ_ _ z=>z) λ_ _ z=>z.elim) λz Ww h_=>?_;obtain⟨v11,H11,xX,_,_,Hg⟩:=h_;subst Hg;obtain⟨a1,a2⟩:=again xX;exact⟨m',hm,i+1,ys++[v],dQ,_,xX.ml,a1,a2,Eg⟩
 exact codeAny_compStart_list (loop _ IC iw) (T.self X.A 0 _ _ _ iw (loop _ IC iw))
end
noncomputable def xR (K:ao)(cls:Nat->Addr)(A:List Addr)(E:XK)(H1:Hp)(Q:VK)(us:List Dt):M (List Dt)->Prop
 |.ok ws=>∀v H',az H1 H'->Rep K (ar H' A) (.lst (us++ws)) v->bj (us++ws)->(us++ws).length<=10000->Q v H'
 |.ex c=>∀H',az H1 H'->E (.ref (cls c)) none H'
 |.bad=>False
theorem xR.cons {K:ao}{cls:Nat->Addr}{A:List Addr}{E:XK}{H1:Hp}{Q:VK}{us:List Dt}{x:Dt}{m:M (List Dt)}(h:xR K cls A E H1 Q us (m.bd λxs=>.ok (x::xs))):xR K cls A E H1 Q (us++[x]) m:=by
 cases m with
 |ok ws=>
  have h:∀v H',az H1 H'->Rep K (ar H' A) (.lst (us++(x::ws))) v->bj (us++(x::ws))->(us++(x::ws)).length<=10000->Q v H':=h;show ∀v H',az H1 H'->Rep K (ar H' A) (.lst ((us++[x])++ws)) v->bj ((us++[x])++ws)->((us++[x])++ws).length<=10000->Q v H';rw [rh];exact h
 |ex c=>exact h
 |bad=>exact h
theorem Xc {K:ao}{cls:Nat->Addr}{E:XK}{k:Nat}{fr:List Nat}{g:GM}{tc:aa->M Bool}{te:aa->M Dt}{O A:List Addr}{ρ:aa}{σ:St}{J:It}{H1:Hp}{Q:VK}{ds:List Dt}(F:bC K O A ρ σ H1)(hk:GK k g)(hJ:jP K A J ds H1)
  (hx:xR K cls A E H1 Q [] (jJ g tc te (bT k fr ρ) ds)):nO k fr (gM K g) (dW K cls E tc) (tM K cls E te) σ J H1 Q:=by
 intro D hD;have OO:D∉A:=F.cB.fresh hD;have ho:∀(i:Nat) b,(bT k fr ρ)[i]?=some b->g7 b=true∨(∃p x y,b=.bor p x y)->False:=λi b h o=>by
  rcases vB h with z | ⟨j,m,d',_,_,_,z⟩ <;> rw [z] at o <;> rcases o with o | ⟨p,x,y,o⟩ <;> cases o
 have s0:az H1 (upd H1 D (.lst [])):=.upd hD;have sD:∀{H'},az H1 H'->az (ar H1 A) (ar H' (D::A)):=λ{H'} s b o e=>by
  obtain⟨h1,h2⟩:=gZ e;have hb:b∉D::A:=λz=>by
   rcases aO.mp z with z | z
   ·subst z; rw [hD] at h2; cases h2
   ·exact h1 z
  rw [di hb];exact s b o h2
 have FD:bC K [] (D::A) (bT k fr ρ) (fD k fr σ) (upd H1 D (.lst [])):=by
  have F1:=F.fD k fr;refine⟨F1.len,(F.cB.mono s0).cons bY,(λa z=>nomatch z),λi d h=>?_,λi b h o=>(ho i b h (.inl o)).elim,λi _ b _ _ _ _ h _ o=>(ho i b h (.inl o)).elim,λi p x y h=>(ho i _ h (.inr ⟨p,x,y,rfl⟩)).elim⟩;obtain⟨v,h1,h2,h3⟩:=F1.val i d h;exact⟨v,h1,h2.mono (sD s0),h3⟩
 refine⟨λi m ys aD H'=>i<=ds.length/\m=ds.length - i/\H' D=some (.lst ys)/\az H1 H'/\bC K [] (D::A) (bT k fr ρ) aD H'/\∃us,xR K cls A E H1 Q us (jJ g tc te (bT k fr ρ) (ds.drop i))/\aq K (ar H' (D::A)) us ys/\bj us/\us.length<=i,
  ⟨ds.length,fP _,rfl,bY,s0,FD,[],hx,.nil,trivial,fP _⟩,?_⟩
 rintro i m ys aD H' ⟨hi,rfl,km,gV,F',us,hw,ru,zu,lu⟩;refine⟨km,?_⟩;have kq:=hJ.kq
 by_cases aF:i<ds.length
 ·refine .inr ⟨hJ.go i H' aF (bw.trans gV),ds.length - (i+1),by omega,λx H2 y=>?_⟩
  obtain⟨sy,d,hd,rd⟩:=hJ.yl i H' x H2 (D::A) aF F'.cB (sD gV) y;have qg:ds.drop i=d::ds.drop (i+1):=by
   rw [oJ aF]
   congr 1
   have:=iq aF;rw [hd] at this;exact(gn this).symm
  rw [qg] at hw;unfold jJ at hw
  cases hg:g d (bT k fr ρ) with
  |ex c=>rw [hg] at hw; exact zF hw
  |bad=>rw [hg] at hw; exact zF hw
  |ok aP=>
   rw [hg] at hw;simp only [gK,bt] at hw;refine⟨[],D::A,_,d,F'.mono sy,rd,iy hJ.small (jV hd),aP,hg,λcW F2=>?_⟩;obtain⟨k1,k2⟩:=hk d _ _ hg;have bk:∀{eW H3},bC K [] (D::A) aP eW H3->bC K [] (D::A) (bT k fr ρ) eW H3:=λF3=>F3.back k1 (λj e hj=>by
    have FY:k<=j:=by
     by_cases z:j<k
     ·rw [Du z] at hj; cases hj
     ·omega
    rw [k2 j FY];exact hj) ho
   refine⟨[],D::A,aP,F2,?_⟩
   cases ht:tc aP with
   |ex c=>rw [ht] at hw; exact λH4 s4=>hw H4 ((gV.trans sy).trans s4)
   |bad=>rw [ht] at hw; exact zF hw
   |ok b=>
    rw [ht] at hw;simp only [bt] at hw;intro H4 s4
    cases b with
    |false=>
     simp only [cF,if_false] at hw ⊢;have pj:=sy.trans s4;exact⟨aF,trivial,pj _ _ km,gV.trans pj,bk (F2.mono s4),us,hw,ru.mono (pj.ar _),zu,by omega⟩
    |true=>
     simp only [if_true] at hw ⊢;refine⟨[],D::A,aP,F2.mono s4,?_⟩
     cases wM:te aP with
     |ex c=>rw [wM] at hw; exact λH5 s5=>hw H5 (((gV.trans sy).trans s4).trans s5)
     |bad=>rw [wM] at hw; exact zF hw
     |ok x'=>
      rw [wM] at hw;simp only [bt] at hw;intro v H5 s5 r5 z5;have ph:=(sy.trans s4).trans s5;have hl:=ru.length;refine⟨ph _ _ km,yA (by omega:ys.length<=10000) (by decide),aF,trivial,bY,λb o e=>?_,?_,us++[x'],hw.cons,?_,zv zu ⟨z5,trivial⟩,by simp; omega⟩
      ·rw [ba (cZ e hD)]
       exact ph b o (gV b o e)
      ·have F5:=bk ((F2.mono s4).mono s5)
       refine⟨F5.len,λa' ha=>?_,(λa z=>nomatch z),λj e h=>?_,λj b h o=>(ho j b h (.inl o)).elim,λj _ b _ _ _ _ h _ o=>(ho j b h (.inl o)).elim,λj p x y h=>(ho j _ h (.inr ⟨p,x,y,rfl⟩)).elim⟩
       ·by_cases hz:a'=D
        ·rw [hz,bY]; simp
        ·rw [ba hz]; exact F5.cB a' ha
       ·rw [wW bu]
        exact F5.val j e h
      ·rw [wW bu]
       exact(ru.mono (ph.ar _)).append (.cons r5 .nil)
 ·have e:i=ds.length:=by omega
  subst e;rw [qZ] at hw;have hw:∀v H',az H1 H'->Rep K (ar H' A) (.lst (us++[])) v->bj (us++[])->(us++[]).length<=10000->Q v H':=hw;rw [nu] at hw;have hl:=ru.length;refine .inl ⟨hJ.stop H' (bw.trans gV),hw (.ref D) H' gV (su (by rw [di OO]; exact km) (ru.mono λb o e=>?_)) zu (by omega)⟩;obtain⟨h1,h2⟩:=gZ e;rw [di λz=>h1 (bR _ z)];exact h2
section
variable {X:Cx}{cls:Nat->Addr}{E:XK}{a b c:Expr}{f:aa->M Dt}{pos:Pos}{scope:Scope}{N:List Str}{k:Nat}{fr:List Nat}{tg iter elt:Expr}{ifs:List Expr}{ι:IM}{g:GM}{tc:aa->M Bool}{te:aa->M Dt}
theorem Us (hk:GK k g)(σ:St)(H:Hp)(Q:VK)(q:tM X.K cls E (zS k fr ι g tc te) σ H Q):si k fr (iM X.K cls E ι) (gM X.K g) (dW X.K cls E tc) (tM X.K cls E te) σ H Q:=by
 obtain⟨O,A,ρ,F,q⟩:=q;refine⟨O,A,ρ,F,Rg.bind q λds _ q1=>?_⟩;intro J H1 s1 hJ;refine Xc (F.mono s1) hk hJ ?_
 cases hm:jJ g tc te (bT k fr ρ) ds with
 |ok xs=>
  have q2:Res X.K cls A E (fB xs) H Q:=by rw [hm] at q1; exact q1
  intro v H' s' r z zl;rw [yq] at r z zl;unfold fB at q2;rw [if_pos zl] at q2;exact q2 v H' (s1.trans s') r ⟨zl,z⟩
 |ex c=>rw [hm] at q1; exact λH' s'=>q1 H' (s1.trans s')
 |bad=>rw [hm] at q1; exact zF q1
end
theorem aa3 {P:Program}{w:World}{l:List Nat}{v:Value}(h:(bW P w).is (.inr ⟨l.toArray⟩) v=true):∃t,v=.str (txt l) t:=u9 (show mE (.inr ⟨l.toArray⟩) v=true from h)
theorem Dj:∀{out:List Value}{ls:List (List Nat)},out.length=ls.length->(∀(j:Nat) (v:Value),out[j]?=some v->∀l,ls[j]?=some l->∃t,v=.str (txt l) t)->StrsAre out (ls.map txt)
 | [],[],_,_=>.nil
 | [],_::_,h,_=>by simp at h
 |_::_,[],h,_=>by simp at h
 |v::out,l::ls,h,hv=>by
  obtain⟨t,rfl⟩:=hv 0 v rfl l rfl;exact .cons _ t (Dj (by simpa using h) λj u hu m hm=>hv (j+1) u (by simpa using hu) m (by simpa using hm))
theorem M3 {kvs:aj}{vs:List (Key×Value)}(r:KV (aJ kvs) vs){j:Nat}{p:List Nat×List Nat}(h:kvs[j]?=some p):∃v,vs[j]?=some (.inr ⟨p.1.toArray⟩,v)/\RelV (S p.2) v:=by
 obtain⟨q,h1,h2,h3⟩:=r.at (i:=j) (p:=(.inr ⟨p.1.toArray⟩,S p.2)) (by simp [aJ,h]);obtain⟨q1,q2⟩:=q;cases h2;exact⟨q2,h1,h3⟩
theorem Vj {kvs:aj}(z:sm (.af kvs)):∀l∈kvs.map (·.1),l.length<=10000:=λl hl=>by
 obtain⟨p,hp,rfl⟩:=aX.mp hl;exact(z.2 p hp).1
theorem Vg {kvs:aj}(z:sm (.af kvs)):∀l∈kvs.map (·.2),l.length<=10000:=λl hl=>by
 obtain⟨p,hp,rfl⟩:=aX.mp hl;exact(z.2 p hp).2
section
variable {X:Cx}{cls:Nat->Addr}{E:XK}{e:Expr}{f:aa->M Dt}{pos iV p p2 apos:Pos}
theorem xp (hc:X.calm=true)(hg:Gl X "list")(hm:X.mg "list" = none)(ha:Ev X cls E e f)(bB:isStar e=false):Ev X cls E (.Call (.Name "list" p) [e] [] pos) (p1 nV f):=by
 intro pins s σ H Q I ⟨O,A,ρ,F,q⟩;refine wpAny_Call_Name_kw (g6 I hg hm boot_list ?_ (by decide) (by decide));refine jW (e:=e) (rest:=[]) ?_ (gS bB) rfl;rw [gS bB];refine nA (x:=eval e X.env) (aB (ha pins s σ H (λx H1=>∃d,az H H1/\Rep X.K (ar H1 A) d x/\sm d/\Res X.K cls A E (nV d) H1 Q) I ⟨O,A,ρ,F,Rg.bind q λd _ q1=>?_⟩) λu s1 ⟨x,H1,I1,r1,d,gU,rp,zd,q1⟩=>?_)
 ·intro x H1 s1 r1 z1
  exact⟨d,s1,r1,z1,Res.mono q1 s1⟩
 refine ny ?_
 cases d with
 |af kvs=>
  obtain⟨a,o,rfl,ha',hH⟩:=lh rp;cases r1;obtain⟨es,ep,qe,sX,acK,hlen,vs,kv,qk⟩:=om I1.au hH;have hl:kvs.length=vs.length:=by have:=KV.length kv; rwa [qz] at this
  refine kdl_call (kdl_dict (knd:=bW X.prog X.w) (kvs:=vs) (ep:=ep) sX) (I1.ok.hd hc) qk (by rw [← hl]; exact bH zd.1 (by decide)) λh' tk lU c' hk hL xf=>?_;obtain⟨fX,en⟩:=xf;have hv:StrsAre lU.toList ((kvs.map (·.1)).map txt):=Dj (by simp [fX,hl]) λj v hv l gF=>by
   obtain⟨k,y,e1,e2⟩:=en j v (by rw [← oG]; exact hv);rw [gR] at gF;obtain⟨p',cU,rfl⟩:=gr.mp gF;obtain⟨y',e3,_⟩:=M3 kv cU;rw [e1] at e3;cases e3;exact aa3 e2
  have cf:({s1 with heap:=h',toks:=tk}:Shared)={s1 with heap:=h',toks:=tk,drawn:=s1.drawn}:=rfl;rw [cf];refine y8 (cls:=cls) (E:=E) (ls:=kvs.map (·.1)) I1 (F.cB.mono gU) (aN _) (n:=c') (out:=lU.toList) (by rw [yF]; exact hL) (λb o eb=>hk b o eb) hv (by simpa using zd.1) (Vj zd) ?_;have q1:Res X.K cls A E (.ok (.lst (jB kvs))) H1 Q:=q1;rw [dw];exact q1
 |_=>exact zF q1
theorem PD (hc:X.calm=true)(hg:Gl X "list")(hm:X.mg "list" = none)(ha:Ev X cls E e f)(i6:attributeBase e "values" X.env (eval e X.env)=eval e X.env:=by rfl)(g9:(apos.endLine==iV.line)=true:=by rfl):Ev X cls E (.Call (.Name "list" p) [.Call (.Attribute e "values" apos) [] [] iV] [] pos) (p1 vY f):=by
 intro pins s σ H Q I ⟨O,A,ρ,F,q⟩;refine wpAny_Call_Name_kw (g6 I hg hm boot_list ?_ (by decide) (by decide));refine jW (e:=.Call (.Attribute e "values" apos) [] [] iV) (rest:=[]) ?_ rfl rfl
 refine nA (x:=eval (.Call (.Attribute e "values" apos) [] [] iV) X.env) ?_
 refine wpAny_Call_method (T:="dict") (id:="dict.values") i6 rfl g9 Cf yP PySem.F.type_dict_values (aB (ha pins s σ H (λx H1=>∃d,az H H1/\Rep X.K (ar H1 A) d x/\sm d/\Res X.K cls A E (vY d) H1 Q) I ⟨O,A,ρ,F,Rg.bind q λd _ q1=>?_⟩) λu s1 ⟨x,H1,I1,r1,d,gU,rp,zd,q1⟩=>?_)
 ·intro x H1 s1 r1 z1
  exact⟨d,s1,r1,z1,Res.mono q1 s1⟩
 cases d with
 |af kvs=>
  obtain⟨a,o,rfl,ha',hH⟩:=lh rp;obtain rfl:u=bx a:=r1;obtain⟨es,ep,qe,sX,acK,hlen,vs,kv,qk⟩:=om I1.au hH;have hl:kvs.length=vs.length:=by have:=KV.length kv; rwa [qz] at this
  refine⟨qk.dictOf.typeIs,qk.dictOf.mapOf.noDict,?_⟩;show wpAny _ _ (callWith iV (.builtin "dict.values") [.ref a] [] []) _ _ s1
  refine method_meetsIn yP PySem.F.entry_dict_values rfl (B7 ⟨rfl,qk.dictOf.typeIs,PySem.F.args_dict_values_1 _,_,meets_dict_values (bW X.prog X.w) a sX,⟨vs,qk.dictOf⟩,?_⟩);refine ny ?_;have hV:(s1.heap.push {cls:=.type "dict_values",data:=.fields #[.ref a]}).IsValuesView s1.heap.objs.size a:=⟨_,bE _ rfl,rfl,rfl⟩
  refine kdl_call (s:={s1 with heap:=s1.heap.push {cls:=.type "dict_values",data:=.fields #[.ref a]}}) (kdl_values (knd:=bW X.prog X.w) (r:=s1.heap.objs.size) (d:=a) (kvs:=vs) (ep:=ep)) (I1.ok.hd hc) ⟨hV,qk.push _⟩ (by rw [← hl]; exact bH zd.1 (by decide)) λh' tk lU c' hk hL xf=>?_
  obtain⟨fX,en⟩:=xf;have hv:StrsAre lU.toList ((kvs.map (·.2)).map txt):=Dj (by simp [fX,hl]) λj v hv l gF=>by
   obtain⟨k,e1⟩:=en j v (by rw [← oG]; exact hv);rw [gR] at gF;obtain⟨p',cU,rfl⟩:=gr.mp gF;obtain⟨y',e3,e4⟩:=M3 kv cU;rw [e1] at e3;cases e3;exact e4
  have cf:({s1 with heap:=h',toks:=tk}:Shared)={s1 with heap:=h',toks:=tk,drawn:=s1.drawn}:=rfl;show EP X pins σ Q _ ({s1 with heap:=h',toks:=tk}:Shared);rw [cf];refine y8 (cls:=cls) (E:=E) (ls:=kvs.map (·.2)) I1 (F.cB.mono gU) (L:=(s1.heap.push {cls:=.type "dict_values",data:=.fields #[.ref a]}).objs.size) (by rw [gk]; exact mh _) (n:=c') (out:=lU.toList) (by rw [yF]; exact hL) (λb o eb=>hk b o (aI _ eb)) hv (by simpa using zd.1) (Vg zd) ?_
  have q1:Res X.K cls A E (.ok (.lst (e7 kvs))) H1 Q:=q1;rw [dw];exact q1
 |_=>exact zF q1
end
section
variable {X:Cx}{cls:Nat->Addr}{E:XK}{a:Expr}{f:aa->M Dt}{pos:Pos}
theorem W8 {v w:V}{u:Value}(r:RelV v u)(r':RelV w u):v=w:=by
 cases v <;> cases w <;> simp_all [RelV] <;> (obtain⟨_,rfl⟩:=r; obtain⟨_,h⟩:=r'; cases h) <;> rfl
noncomputable def LA (K:ao)(neg:Bool):R2:=λx y H Q=>∃p xs d ds,y=.ref p/\bz K H p xs/\aq K H ds xs/\Rep K H d x/\eU ds<=40/\Q (.bl (if neg then !(ds.any λe=>bh e d) else ds.any λe=>bh e d)) H
open Classical in
theorem N0 {pins:List (Addr×Obj)}{s:Shared}{σ:St}{H:Hp}(I:Inv X pins σ H s)(hu:X.A.units+50<cLine){d:Dt}{x:V}{v:Value}(hd:Rep X.K H d x)(rx:RelV x v){ds:List Dt}{xs:List V}{ak:List Value}(h:aq X.K H ds xs)(r:Vals xs ak)(hp:eU ds<=40) :
  ∃e:Value->Bool,(∀y∈ak,kN X.A.in1 s y v (e y))/\ak.any e=ds.any λe=>bh e d:=by
 let e:Value->Bool:=λy=>decide (∃d' w,Rep X.K H d' w/\RelV w y/\bh d' d=true)
 have key:∀{d' w y},Rep X.K H d' w->RelV w y->e y=bh d' d:=λ{d' w y} h1 h2=>by
  show decide _=_
  by_cases z:bh d' d=true
  ·rw [z]; exact decide_eq_true ⟨d',w,h1,h2,z⟩
  ·have z':bh d' d=false:=by simpa using z
   rw [z'];refine decide_eq_false ?_;rintro⟨d2,w2,g1,g2,g3⟩;have:=W8 g2 h2;subst this;rw [Rep.inj I g1 h1] at g3;exact z g3
 refine⟨e,?_⟩
 induction ak generalizing ds xs with
 |nil=>
  cases r
  cases ds with
  |nil=>exact⟨(λy hy=>nomatch hy),rfl⟩
  |cons a l=>have:=h.length; simp at this
 |cons u us ih=>
  cases r with
  |cons r1 r2=>
   cases ds with
   |nil=>have:=h.length; simp at this
   |cons d1 ds=>
    simp only [aq] at h;simp only [eU] at hp;obtain⟨v1,r',e1,g1,g2⟩:=h;cases e1;obtain⟨i1,i2⟩:=ih g2 r2 (by omega);refine⟨λy hy=>?_,?_⟩
    ·rcases aO.mp hy with rfl | hy
     ·rw [key g1 r1]
      exact(Br (A:=X.A.in1) I d1 d _ x _ v g1 hd r1 rx (by show X.A.units+1+dep d1<cLine; omega)).1
     ·exact i1 y hy
    ·rw [kG,kG,key g1 r1,i2]
theorem YN (hu:X.A.units+50<cLine):bX X (compareOp .In) (LA X.K false):=by
 intro pins s σ H x y v u Q I rx ry ⟨p,xs,d,ds,e1,hq,hr,hd,hp,q⟩;subst e1;cases ry;obtain⟨ak,r,pl,hz⟩:=I.list hq;obtain⟨e,g1,g2⟩:=N0 I hu hd rx hr r hp;refine SeqAt.in_listAt e pl.isList (λw hw=>g1 w (by simpa using hw)) (λht=>⟨.bl _,H,I,rfl,?_⟩);rw [show ak.toArray.any e=ak.any e by simp,g2];exact q
theorem YD (hu:X.A.units+50<cLine):bX X (compareOp .NotIn) (LA X.K true):=by
 intro pins s σ H x y v u Q I rx ry ⟨p,xs,d,ds,e1,hq,hr,hd,hp,q⟩;subst e1;cases ry;obtain⟨ak,r,pl,hz⟩:=I.list hq;obtain⟨e,g1,g2⟩:=N0 I hu hd rx hr r hp;refine SeqAt.notIn_listAt e pl.isList (λw hw=>g1 w (by simpa using hw)) (λht=>⟨.bl _,H,I,rfl,?_⟩);rw [show ak.toArray.any e=ak.any e by simp,g2];exact q
theorem Zx (hu:X.A.units+50<cLine):fm X cls E (compareOp .In) nW:=by
 refine⟨_,YN hu,λA H Q d1 d2 x y L r1 r2 z1 z2 q=>?_⟩
 cases d2 with
 |lst ds=>
  simp only [nW] at q
  split at q
  ·rename_i hp
   obtain⟨p,xs,rfl,h1,h2⟩:=dJ r2;exact⟨p,xs,d1,ds,rfl,bw.seq h1,h2.mono bw,r1.mono bw,hp,q _ H (.refl _) gA trivial⟩
  ·exact zF q
 |_=>exact zF q
theorem Zt (hu:X.A.units+50<cLine):fm X cls E (compareOp .NotIn) pH:=by
 refine⟨_,YD hu,λA H Q d1 d2 x y L r1 r2 z1 z2 q=>?_⟩;unfold pH at q
 cases d2 with
 |lst ds=>
  simp only [nW] at q
  split at q
  ·rename_i hp
   obtain⟨p,xs,rfl,h1,h2⟩:=dJ r2;exact⟨p,xs,d1,ds,rfl,bw.seq h1,h2.mono bw,r1.mono bw,hp,q _ H (.refl _) gA trivial⟩
  ·exact zF q
 |_=>exact zF q
end
end L2
namespace L2
open PySem PySem.Spec PyProof.Rows PySem.W PySem.SetTable
theorem VL:entryFor table "set.__ne__" = some Builtin.«frozenset.__ne__» := by
 apply entryFor_alias (id':="frozenset.__ne__")
 ·kernel_rfl
 ·first
  |rfl
  |decide +kernel
  | (unfold yk; simp +decide [yu])
 ·decide +kernel
 ·kernel_rfl
section
variable {prog:Program}{w:World}{A:Around}{E:Value->Shared->Prop}{s:Shared}{K:Type}[DecidableEq K]{knd:KeyKind prog w K}
theorem He {a:Addr}{es:Array (Int×Value)}{ep:Nat}{t:SetTable}{Q:Array (Int×Value)->Shared->Prop}(ho:s.heap.get? a=some (dy es ep t))(hf:t.fits es.size=true)(h:Q es s):wpAny (model prog w) A (setEntries a) Q E s:=by
 unfold setEntries;exact wpAny_bind (wpAny_setState_of ho rfl hf (wpAny_pure h))
theorem PX {a:Addr}{es:Array (Int×Value)}{ep:Nat}{t:SetTable}{Q:Nat->Shared->Prop}(ho:s.heap.get? a=some (dy es ep t))(hf:t.fits es.size=true)(h:Q ep s):wpAny (model prog w) A (setEpoch a) Q E s:=by
 unfold setEpoch;exact wpAny_bind (wpAny_setState_of ho rfl hf (wpAny_pure h))
theorem zy {a:Addr}{es:Array (Int×Value)}{ep:Nat}{t:SetTable}{Q:Nat->Shared->Prop}(ho:s.heap.get? a=some (dy es ep t))(hf:t.fits es.size=true)(h:Q es.size s):wpAny (model prog w) A (Cg a) Q E s:=by
 unfold Cg;exact wpAny_bind (He ho hf (wpAny_pure h))
theorem Xw {x:Value}(hx:∀r,x≠.ref r){Q:Bool->Shared->Prop}(h:Q true s):wpAny (model prog w) A (JD x) Q E s:=by
 unfold JD
 split
 ·rename_i r; exact absurd rfl (hx r)
 ·exact wpAny_pure h
theorem S0 {l r:Addr}{el er:Array (Int×Value)}{G9 G8:Nat}{tl tr:SetTable}(hl:s.heap.get? l=some (dy el G9 tl))(hr:s.heap.get? r=some (dy er G8 tr))(fl:tl.fits el.size=true)(fr:tr.fits er.size=true)
  (nl:∀e∈el.toList,∀q,e.2≠.ref q) (nr:∀e∈er.toList,∀q,e.2≠.ref q) {Q:List (Int×Value)->Shared->Prop} (h:Q el.toList s):wpAny (model prog w) A (JI l r) Q E s:=by
 unfold JI;refine wpAny_bind (He hl fl ?_);refine wpAny_bind (He hr fr ?_);refine wpAny_bind (wpAny_mono (wpAny_forIn_list _ (λrest b s'=>b.1=none/\s'=s/\∀e∈rest,∀q,e.2≠.ref q) (λb s'=>b.1=none/\s'=s) ?_ ?_ _ _ ⟨rfl,rfl,λe he=>?_⟩) (λb s' hb=>?_) λ_ _ x=>x)
 ·rintro a rest ⟨b1,b2⟩ s' ⟨e1,e2,hx⟩
  dsimp only at e1
  subst e1 e2;refine wpAny_bind (Xw (hx a bu) ?_);simp only [qT,cF,if_false];refine wpAny_bind (wpAny_pure ?_);exact wpAny_pure ⟨rfl,rfl,λe he=>hx e (bR _ he)⟩
 ·rintro b s' ⟨e1,e2,_⟩
  exact⟨e1,e2⟩
 ·rcases eJ.mp he with z | z
  ·exact nl e z
  ·exact nr e z
 ·obtain⟨e1,e2⟩:=hb
  obtain⟨b1,b2⟩:=b
  dsimp only at e1
  subst e1 e2;exact wpAny_pure h
theorem cC.mem {h:Heap}{a:Addr}{ks kl:List K}{es:Array (Int×Value)}(hp:Paired (λk (e:Int×Value)=>knd.is k e.2=true) kl es.toList)(pm:kl.Perm ks.eraseDups)(k:K):k∈ks↔∃e∈es.toList,knd.is k e.2=true:=by
 rw [← B4,← pm.mem_iff];constructor
 ·exact λz=>by obtain⟨e,he,q⟩:=Ex hp z; exact⟨e,he,q⟩
 ·rintro⟨e,he,q⟩
  obtain⟨k',hk,q'⟩:=Ey hp he;rw [knd.inj _ _ _ q q'];exact hk
theorem cC.len {ks kl:List K}{es:Array (Int×Value)}(hp:Paired (λk (e:Int×Value)=>knd.is k e.2=true) kl es.toList)(pm:kl.Perm ks.eraseDups):es.size=ks.eraseDups.length:=by
 rw [← pm.length_eq,← eZ];exact hp.length.symm
theorem U2 {nm:String}{l r:Addr}{ks ls:List K}{b1 b2:Bool}(AF:∀k v,knd.is k v=true->∀q,v≠.ref q)(hl:cC knd s.heap l ks b1)(hr:cC knd s.heap r ls b2)(hsz:ks.eraseDups.length<=ls.eraseDups.length)
  {Q:Bool->Shared->Prop} (h:Q (ks.all λk=>decide (k∈ls)) s):wpAny (model prog w) A (JF nm l r) Q E s:=by
 obtain⟨el,G9,tl,kl,qa,Gg,bO,vQ,hbl,hU,_,_⟩:=id hl;obtain⟨er,G8,tr,kr,pX,Gf,AB,zQ,OB,c9,_,_⟩:=id hr;have nl:∀e∈el.toList,∀q,e.2≠.ref q:=λe he=>by obtain⟨⟨k,h1,_⟩,_⟩:=Gg e he; exact AF k e.2 h1
 have nr:∀e∈er.toList,∀q,e.2≠.ref q:=λe he=>by obtain⟨⟨k,h1,_⟩,_⟩:=Gf e he; exact AF k e.2 h1
 unfold JF;refine wpAny_bind (zy qa hU (wpAny_bind (zy pX c9 ?_)));rw [if_neg (by rw [cC.len bO vQ,cC.len AB zQ]; omega)];refine wpAny_bind (PX qa hU ?_);refine wpAny_bind (S0 qa pX hU c9 nl nr ?_);refine wpAny_bind (wpAny_mono (wpAny_forIn_list _ (λrest b s'=>b.1=none/\s'=s/\(∀e∈rest,e∈el.toList)/\∀e∈el.toList,e∈rest∨∀k,knd.is k e.2=true->k∈ls)
  (λb s'=>s'=s/\(b.1=none/\(∀e∈el.toList,∀k,knd.is k e.2=true->k∈ls)∨b.1=some false/\∃e∈el.toList,∃k,knd.is k e.2=true/\k∉ls)) ?_ ?_ _ _ ⟨rfl,rfl,λe he=>he,λe he=>.inl he⟩) (λb s' hb=>?_) λ_ _ x=>x)
 ·rintro a rest ⟨b1,b2⟩ s' ⟨e1,e2,h1,h2⟩
  dsimp only at e1
  subst e1 e2;obtain⟨⟨k,hk,ek⟩,mJ⟩:=Gg a (h1 a bu)
  dsimp only
  rw [ek];refine wpAny_bind (wpAny_holding (setFind_any (S:=λk=>decide (k∈ls)) hk mJ pX rfl Gf (λk=>by rw [decide_eq_true_iff]; exact cC.mem (h:=s'.heap) (a:=r) AB zQ k) OB c9 λo ho=>?_))
  by_cases hm:k∈ls
  ·have hn:o.isNone=false:=by
    rw [decide_eq_true hm] at ho
    cases o with
    |none=>cases ho
    |some _=>rfl
   rw [hn];simp only [cF,if_false];refine wpAny_bind ?_;unfold Builtin.Frozenset.unchanged;refine wpAny_bind (PX qa hU ?_);simp only [bne_self_eq_false,cF,if_false];refine wpAny_pure (wpAny_pure ⟨rfl,rfl,λe he=>h1 e (bR _ he),λe he=>?_⟩);rcases h2 e he with z | z
   ·rcases aO.mp z with rfl | z
    ·exact .inr λk' q'=>by rw [knd.inj _ _ _ q' hk]; exact hm
    ·exact .inl z
   ·exact .inr z
  ·have hn:o.isNone=true:=by
    rw [decide_eq_false hm] at ho
    cases o with
    |none=>rfl
    |some _=>cases ho
   rw [hn];simp only [if_true];exact wpAny_pure ⟨rfl,.inr ⟨rfl,a,h1 a bu,k,hk,hm⟩⟩
 ·rintro b s' ⟨e1,e2,_,h2⟩
  exact⟨e2,.inl ⟨e1,λe he=>(h2 e he).resolve_left (λz=>nomatch z)⟩⟩
 ·obtain⟨rfl,hb⟩:=hb
  obtain⟨b1,b2⟩:=b;rcases hb with ⟨e1,hb⟩ | ⟨e1,e,he,k,hk,hn⟩
  ·dsimp only at e1
   subst e1;have:(ks.all λk=>decide (k∈ls))=true:=dR.mpr λk hk=>by
    obtain⟨e,he,q⟩:=(cC.mem (h:=s'.heap) (a:=l) bO vQ k).mp hk;exact decide_eq_true (hb e he k q)
   rw [this] at h;exact wpAny_pure h
  ·dsimp only at e1
   subst e1;have:(ks.all λk=>decide (k∈ls))=false:=by
    rw [← Bool.not_eq_true,dR];intro z;exact hn (of_decide_eq_true (z k ((cC.mem (h:=s'.heap) (a:=l) bO vQ k).mpr ⟨e,he,hk⟩)))
   rw [this] at h;exact wpAny_pure h
noncomputable def pI (ks ls:List K):Bool:=!(decide (ks.eraseDups.length=ls.eraseDups.length)&&ks.all λk=>decide (k∈ls))
theorem Z4 {l r:Addr}{ks ls:List K}{b1 b2:Bool}{Q:Value->Shared->Prop}(AF:∀k v,knd.is k v=true->∀q,v≠.ref q)(hl:cC knd s.heap l ks b1)(hr:cC knd s.heap r ls b2)(hu:A.units<cLine)
  (h:Q (.bool (pI ks ls)) s):wpAny (model prog w) A (compareOp .NotEq (.ref l) (.ref r)) Q E s:=by
 obtain⟨el,G9,tl,kl,qa,Gg,bO,vQ,hbl,hU,_,_⟩:=id hl;obtain⟨er,G8,tr,kr,pX,Gf,AB,zQ,OB,c9,_,_⟩:=id hr;have C1:s.TypeIs (.ref l) "set" := ⟨_,qa,rfl⟩
 have TN:s.TypeIs (.ref r) "set" := ⟨_,pX,rfl⟩
 show wpAny _ _ (richCompare .NotEq (.ref l) (.ref r)) _ _ _;refine wpAny_richCompare_same_room (op:=.NotEq) C1 TN PySem.F.slot_set_ne (wpAny_call_entry PySem.F.slot_set_ne C1 VL ?_ (PySem.F.args_set_ne_2 _ _)) hu;show wpAny _ _ (JA "__ne__" ⟨[.ref l,.ref r],[]⟩ >>= _) _ _ s
 refine wpAny_bind ?_;unfold JA;refine wpAny_bind (wpAny_of_eq (a:=(bx l,[bx r])) rfl ?_);refine wpAny_pure ?_;refine wpAny_bind (afD pX ?_);simp only [qT,cF,if_false];refine wpAny_bind (wpAny_pure (wpAny_bind (wpAny_pure ?_)));refine wpAny_bind (zy qa hU (wpAny_bind (zy pX c9 ?_)));have h1:=cC.len bO vQ;have h2:=cC.len AB zQ
 by_cases bF:el.size=er.size
 ·rw [if_neg (by simp [bF])]
  unfold andM;refine wpAny_bind (wpAny_bind (wpAny_bind (wpAny_isInstance (T:="set") C1 PySem.F.sub_set_frozenset ?_)))
  refine wpAny_pure ?_;simp only [cF,if_false];refine U2 AF hl hr (by omega) ?_;refine wpAny_pure ⟨_,rfl,(λz=>by cases z),?_⟩;have:pI ks ls=!(ks.all λk=>decide (k∈ls)):=by
   unfold pI;rw [decide_eq_true (by omega),l7]
  rw [this] at h;exact h
 ·rw [if_pos (by simpa using bF)]
  refine wpAny_bind (wpAny_pure (wpAny_pure ⟨_,rfl,(λz=>by cases z),?_⟩));have:pI ks ls=true:=by
   unfold pI;rw [decide_eq_false (by omega),qW];rfl
  rw [this] at h;exact h
end
theorem TR {l:List Nat}{b:List (List Nat)}:txt l∈b.map txt↔l∈b:=by
 constructor
 ·intro z
  obtain⟨x,hx,e⟩:=aX.mp z;rw [← JZ _ _ e]; exact hx
 ·exact λz=>aX.mpr ⟨l,z,rfl⟩
theorem Z5 (a b:List (List Nat)):pI (a.map txt) (b.map txt)=neT a b:=by
 unfold pI neT;rw [Hh,Hh,cg,cg,uN];have:((λk=>decide (k∈b.map txt)) ∘ txt)=λk=>decide (k∈b):=by
  funext k
  simp only [uP,TR]
 rw [this]
section
variable {X:Cx}{cls:Nat->Addr}{E:XK}{e e':Expr}{f g:aa->M Dt}{pos iV LS p2 p3:Pos}
theorem Lh {m:M Dt}{k:aj->M Bool}{H:Hp}{Q:Bool->Prop}(q:Rg cls E (m.bd λx=>(lS x).bd k) H Q):Rg cls E m H λd=>∃kvs,d=.af kvs/\kvs.length<=30:=Rg.bind q λd _ q1=>by
 cases d with
 |af kvs=>
  by_cases h:kvs.length<=30
  ·exact⟨kvs,rfl,h⟩
  ·simp only [lS,if_neg h] at q1
   exact zF q1
 |_=>exact zF q1
theorem TU (hu:X.A.units<cLine)(tx:Gl X "set")(tm:X.mg "set" = none)(ha:Ev X cls E e f)(bB:isStar e=false)(hb:Ev X cls E e' g)(ab3:isStar e'=false) :
  Tv X cls E (.Compare (.Call (.Name "set" p2) [e] [] iV) [.NotEq] [.Call (.Name "set" p3) [e'] [] LS] pos) (ze f g):=by
 intro pins s σ H Q I ⟨O,A,ρ,F,q⟩;refine wpAny_isTrue_Compare1 ?_ rfl;refine aB (PF tx tm ha bB I F (Lh q)) λv s1 h_=>?_;obtain⟨b1,o1,H1,ka,ev1,_,ef,hla,hza,I1,gU,S1⟩:=h_;subst ev1;have q1:oy cls E ((g ρ).bd λy=>(lS y).bd λb=>.ok (neT (ka.map (·.1)) (b.map (·.1)))) H1 Q:=by
  have q':=q;unfold ze at q';rw [ef] at q';simp only [bt,lS,if_pos hla] at q';exact Rg.heap q' gU λa _ p H' s'=>p H' (gU.trans s')
 refine aB (PF tx tm hb ab3 I1 (F.mono gU) (Lh q1)) λv s2 h_=>?_;obtain⟨b2,o2,H2,kb,ev2,bF,eg,hlb,hzb,I2,DB,S2⟩:=h_;subst ev2;have q2:Q (neT (ka.map (·.1)) (kb.map (·.1))) H2:=by
  have q':=q1;rw [eg] at q';simp only [bt,lS,if_pos hlb] at q';exact q' H2 DB
 have P1:=I2.pin (b1,o1) (by simp);have P0:=I1.pin (b1,o1) (by simp);obtain⟨cf,tQ,t1,kl1,Oh,r1⟩:=id S1;have S1':cC (jk X.prog X.w) s2.heap b1 (pN ka) (c7 X.w):=S1.at λo eo=>by
  rw [P0.1] at eo;cases eo;exact P1.1
 refine Z4 (knd:=jk X.prog X.w) (λk v hv q=>?_) S1' S2 hu ?_
 ·obtain⟨u,rfl⟩:=u9 (show mE (.inr k) v=true from hv)
  exact λz=>by cases z
 refine wpAny_truthy_bool λht=>?_;rw [M8,M8,Z5];exact⟨H2,(I2.ml.ml),q2⟩
end
end L2
namespace L2
open PySem PySem.Spec PyProof.Rows PySem.W
section
variable {X:Cx}{scope:Scope}{N:List Str}{k:Nat}{fr:List Nat}{tg iter elt:Expr}{ifs:List Expr}{wi:TI}{g:TG}{tc:TT}{te:TE}{pos:Pos}
theorem XD {EX:XK}{i:Nat}{x:Str}{pos' jr:Pos}(hX:X.A.frames=some X.stack->(∀b∈aM X.outer,X.bQ b=none)->Plain X EX)(hc:X.calm=true)(S:eG X scope N k fr)(hi:PI X tg iter wi)(hg:∀pins fp s H,PG (kx X EX scope N pins fp s H) tg g)(ht:∀pins fp s H,jg (kx X EX scope N pins fp s H) ifs tc)
  (he:∀pins fp s H,PE (kx X EX scope N pins fp s H) elt te) (hN:X.N.Nodup) (qb:X.N[i]?=some x) (hx:X.env.scope.names.lookup x=some .local)
  (mI:swapsWith (.ListComp elt [⟨tg,iter,ifs,0⟩] scope pos) (some (.Name x pos')) jr.line X.env=pure true:=by rfl)
  (hs:∀x,foldedSetIterable iter X.env x=pure x:=by intro _; rfl):PS X (.Assign [.Name x pos'] (.ListComp elt [⟨tg,iter,ifs,0⟩] scope pos) jr) (zj (si k fr wi g tc te) (tK i)):=by
 intro pins s σ H D I h;have hP:=hX I.ok.frames I.ok.jI;rw [exec_Assign_Name_used _ _ _ _ mI];refine wpAny_bind (wpAny_standAt (wpAny_bind ?_));show wpAny _ X.A (do let _ ← comprehension (.ListComp elt [⟨tg,iter,ifs,0⟩] scope pos) scope X.env _ (newList []) false (eval iter X.env) (some (assign (.Name x pos') X.env))) _ _ s;refine wpAny_bind (wpAny_mono (wpAny_comprehension_free (use:=some (assign (.Name x pos') X.env)) (Q:=λ_ s'=>SP X pins D .next s') rfl hs (Hs (S.cells I.ok)) S.kind S.locals
  (mn (hi pins s σ H _ I h) λv s1 t1 h1=>aB h1 λwH s2 h2=>?_)) (λ_ s' hq=>wpAny_pure (wpAny_pure hq)) λ_ _ e=>e)
 obtain⟨it,fp,tn,J,H2,e,I2,T,eM,f2,q⟩:=h2;subst e;refine afn (RR:=λacc C=>compPost (model X.prog X.w) X.A X.xe (some (assign (.Name x pos') X.env)) (λ_ s'=>SP X pins D .next s') acc C) hc S hg ht he hP (λacc C e s' m x wY tH hm jL mP=>acP hP I.ok.frames x wY tH hm mP) I2 T eM f2 q ?_;intro L C s' H' q' fC hn inv;obtain⟨m,hn⟩:=hn;show wpAny _ X.A (assign (.Name x pos') X.env (.ref L)) _ _ _;have I3:Inv X pins σ H' s':=inv s'.heap (.refl ..);obtain⟨f0,f1,f2',f3,f4,f5⟩:=fC;refine wpAny_assign_Name (Dq I3 hN qb (.inl hx) (v:=.ref L) rfl (λgX I4 hb=>?_) (.inr hx));obtain⟨a,sb,ha⟩:=hb;have Gw:C≠a:=by
  rcases ha with e | e
  ·rw [e]; exact f1
  ·exact λz=>f4 x a e z.symm
 refine⟨m,hn.sameBut sb Gw,λeQ DF=>(λht=>⟨_,H',I4.turned (t':=gX.toks) (λb o hb e=>(DF.2 b hb).trans e) f0 f1 f3 f4 f5,q'⟩)⟩
end
section
variable {X:Cx}{cls:Nat->Addr}{E:XK}
theorem UU {i:Nat}{x:Str}{pos pos' jr:Pos}{scope:Scope}{N:List Str}{k:Nat}{fr:List Nat}{tg iter elt:Expr}{ifs:List Expr}{ι:IM}{g:GM}{tc:aa->M Bool}{te:aa->M Dt}(hX:X.A.frames=some X.stack->(∀b∈aM X.outer,X.bQ b=none)->Plain X E)(hk:GK k g)(hc:X.calm=true)(S:eG X scope N k fr)(hi:Iv X cls E tg iter ι)
  (hg:∀pins fp s H,PG (kx X E scope N pins fp s H) tg (gM X.K g)) (ht:∀pins fp s H,jg (kx X E scope N pins fp s H) ifs (dW X.K cls E tc))
  (he:∀pins fp s H,PE (kx X E scope N pins fp s H) elt (tM X.K cls E te)) (hN:X.N.Nodup) (qb:X.N[i]?=some x) (hx:X.env.scope.names.lookup x=some .local)
  (mI:swapsWith (.ListComp elt [⟨tg,iter,ifs,0⟩] scope pos) (some (.Name x pos')) jr.line X.env=pure true:=by rfl)
  (hs:∀x,foldedSetIterable iter X.env x=pure x:=by intro _; rfl):Sv X cls E (.Assign [.Name x pos'] (.ListComp elt [⟨tg,iter,ifs,0⟩] scope pos) jr) (bU (zS k fr ι g tc te) (aw i)):=
 (XD hX hc S hi hg ht he hN qb hx mI hs).imp λD σ H q=>C4 (Us hk) q
end
end L2
namespace uB
open PySem L2 Pg PyProof.Rows PySem.W
local macro_rules
 | `(tactic| exists cY) => `(tactic| exact ⟨rfl, rfl, rfl, by decide +kernel, rfl, by decide +kernel, by decide +kernel, by decide +kernel⟩)
noncomputable def top (i:Nat):Stmt:=PySem.Challenge.pw_tickrows_k51_whole_sheets_together.main.body.getD i (.Pass ⟨0,0,0,0⟩)
noncomputable abbrev DZ:Stmt:=top 30
noncomputable abbrev DV:Stmt:=top 31
noncomputable abbrev DS:Stmt:=top 32
noncomputable abbrev DU:Stmt:=top 33
noncomputable abbrev DT:Stmt:=top 35
noncomputable abbrev DX:Stmt:=top 38
noncomputable abbrev DH:Stmt:=top 21
noncomputable abbrev DJ:Stmt:=top 28
noncomputable abbrev DI:Stmt:=top 16
noncomputable abbrev D7:Stmt:=top 15
noncomputable abbrev D6:Stmt:=top 27
noncomputable abbrev DR:Stmt:=top 36
noncomputable abbrev DP:Stmt:=top 10
noncomputable abbrev DO:Stmt:=top 11
noncomputable abbrev D5:Stmt:=top 18
noncomputable abbrev D4:Stmt:=top 17
noncomputable abbrev DQ:Stmt:=top 19
noncomputable abbrev DL:Stmt:=top 26
noncomputable abbrev DW:Stmt:=top 37
noncomputable abbrev DK:Stmt:=top 22
noncomputable abbrev D3:Stmt:=top 14
noncomputable abbrev D0:Stmt:=top 25
noncomputable abbrev DN:Stmt:=top 24
noncomputable abbrev DM:Stmt:=top 23
noncomputable abbrev DY:Stmt:=top 39
noncomputable abbrev jt:Stmt:=top 40
structure Tx (K:ao) (mg:Str->Option Value) (z:Nat->Addr):Prop where
 len:mg "len" = none
 range:mg "range" = none
 all:mg "all" = none
 list:mg "list" = none
 zip:mg "zip" = none
 enumerate:mg "enumerate" = none
 reversed:mg "reversed" = none
 isinstance:mg "isinstance" = none
 ValueError:mg "ValueError" = none
 set:mg "set" = none
 sorted:mg "sorted" = none
 sum:mg "sum" = none
 dict:mg "dict" = none
 Rt:mg "TickError" = some (.ref (z 8))
 Jc:mg "Clash" = some (.ref (z 0))
 RQ:mg "NoName" = some (.ref (z 1))
 RP:mg "NoText" = some (.ref (z 2))
 RO:mg "NoTick" = some (.ref (z 3))
 RN:mg "NoWave" = some (.ref (z 4))
 IA:mg "TooLong" = some (.ref (z 5))
 Iy:mg "Unlike" = some (.ref (z 6))
 IT:∃t,mg "MOST_UNKNOWN" = some (.int 6 t)
 Pz:cw K mg "_law_cell" DZ ["_law_script","_law_k"]
 Pu:cw K mg "_law_pick" DV ["_law_script","_law_k","_law_many"]
 Pq:cw K mg "_law_wave" DS ["_law_script","_law_at","_law_many","_law_signs"]
 Pt:cw K mg "_law_seldom" DU ["_law_script","_law_at","_law_many","_law_most"]
 Pr:cw K mg "_law_sheet" DT ["_law_script","_law_at","_law_names","_law_many","_law_most"]
 Px:cw K mg "_law_hidden" DX ["_law_script","_law_at","_law_sheet_here","_law_names"]
 O8:cw K mg "with_name" DH ["sheet","name","wave"]
 O9:cw K mg "with_each_wave" DJ ["sheets","name","waves"]
 A9:cw K mg "with_level_ahead" DI ["level","ends"]
 Po:cw K mg "all_known" D7 ["wave"]
 Pn:cw K mg "all_sheets" D6 ["sheet"]
 Pp:cw K mg "_law_word" DR ["_law_kept"]
 Pf:cw K mg "of_one_length" DP ["waves"]
 Pe:cw K mg "refuse_unlike" DO ["waves"]
 Pm:cw K mg "clash_at" D5 ["first","second"]
 Pl:cw K mg "clashing" D4 ["one","other"]
 Ph:cw K mg "led_together" DQ ["one","other"]
 Pb:cw K mg "sheets_joined" DL ["one","other"]
 Pw:cw K mg "_law_joined" DW ["_law_one","_law_other"]
 Pa:cw K mg "unknown_of" DK ["sheet"]
 Pk:cw K mg "fits" D3 ["wave","known"]
 Pj:cw K mg "fits_at_length" D0 ["wave","known"]
 Pd:cw K mg "sheet_fits" DN ["sheet","known"]
 Pc:cw K mg "sheet_is_known" DM ["sheet"]
 Py:cw K mg "_law_clashes" DY ["_law_mine","_law_yours"]
 adR:cw K mg "law" jt ["_law_script"]
 rz:excIn K (z 0) kS "ValueError.__new__" = true
 rq:excIn K (z 5) kS "ValueError.__new__" = true
 ro:excIn K (z 6) kS "ValueError.__new__" = true
 uj:isClsIn K (z 0)=true
 ug:findIn K (.ref (z 0)) "__getattribute__" = some (some (.builtin "BaseException.__getattribute__"))
 ud:findIn K (.ref (z 0)) "__getattr__" = some none
 ua:findIn K (.ref (z 0)) "__class__" = some (some (.builtin "object.__class__"))
 t7:specialIn K (.builtin "object.__class__") "__get__" = some (some (.builtin "getset_descriptor.__get__"))
 t4:takesIn K (.builtin "object.__class__")=some true
 tX:mroIn K (z 0) (.type "object")=some true
 tU:mroIn K (z 0) (.type "BaseException")=some true
 sR:exmOne K (.ref (z 0)) (.ref (z 8))=some true
 r6:kitOne K (.ref (z 0)) (.ref (z 0))=some true
 rX:kitOne K (.ref (z 0)) (.ref (z 1))=some false
 rS:kitOne K (.ref (z 0)) (.ref (z 2))=some false
 rP:kitOne K (.ref (z 0)) (.ref (z 3))=some false
 rM:kitOne K (.ref (z 0)) (.ref (z 4))=some false
 rJ:kitOne K (.ref (z 0)) (.ref (z 5))=some false
 rF:kitOne K (.ref (z 0)) (.ref (z 6))=some false
 se:kitOne K (.ref (z 0)) (.type "ValueError")=some true
 ui:isClsIn K (z 5)=true
 uf:findIn K (.ref (z 5)) "__getattribute__" = some (some (.builtin "BaseException.__getattribute__"))
 uc:findIn K (.ref (z 5)) "__getattr__" = some none
 t9:findIn K (.ref (z 5)) "__class__" = some (some (.builtin "object.__class__"))
 t6:specialIn K (.builtin "object.__class__") "__get__" = some (some (.builtin "getset_descriptor.__get__"))
 tZ:takesIn K (.builtin "object.__class__")=some true
 tW:mroIn K (z 5) (.type "object")=some true
 tT:mroIn K (z 5) (.type "BaseException")=some true
 sQ:exmOne K (.ref (z 5)) (.ref (z 8))=some true
 rZ:kitOne K (.ref (z 5)) (.ref (z 0))=some false
 rW:kitOne K (.ref (z 5)) (.ref (z 1))=some false
 rR:kitOne K (.ref (z 5)) (.ref (z 2))=some false
 rO:kitOne K (.ref (z 5)) (.ref (z 3))=some false
 rL:kitOne K (.ref (z 5)) (.ref (z 4))=some false
 rH:kitOne K (.ref (z 5)) (.ref (z 5))=some true
 rE:kitOne K (.ref (z 5)) (.ref (z 6))=some false
 sd:kitOne K (.ref (z 5)) (.type "ValueError")=some true
 uh:isClsIn K (z 6)=true
 ue:findIn K (.ref (z 6)) "__getattribute__" = some (some (.builtin "BaseException.__getattribute__"))
 ub:findIn K (.ref (z 6)) "__getattr__" = some none
 t8:findIn K (.ref (z 6)) "__class__" = some (some (.builtin "object.__class__"))
 t5:specialIn K (.builtin "object.__class__") "__get__" = some (some (.builtin "getset_descriptor.__get__"))
 tY:takesIn K (.builtin "object.__class__")=some true
 tV:mroIn K (z 6) (.type "object")=some true
 tS:mroIn K (z 6) (.type "BaseException")=some true
 sP:exmOne K (.ref (z 6)) (.ref (z 8))=some true
 rY:kitOne K (.ref (z 6)) (.ref (z 0))=some false
 rV:kitOne K (.ref (z 6)) (.ref (z 1))=some false
 rQ:kitOne K (.ref (z 6)) (.ref (z 2))=some false
 rN:kitOne K (.ref (z 6)) (.ref (z 3))=some false
 rK:kitOne K (.ref (z 6)) (.ref (z 4))=some false
 rG:kitOne K (.ref (z 6)) (.ref (z 5))=some false
 rD:kitOne K (.ref (z 6)) (.ref (z 6))=some true
 r9:kitOne K (.ref (z 6)) (.type "ValueError")=some true
section
variable {P:Program}{w:World}{K:ao}{mg:Str->Option Value}{base:Heap}{z:Nat->Addr}
theorem Wa:cD ["_law_script","_law_k"] ["_law_script","_law_k"] (aV DZ):=by exists cY
theorem Zk (T:Tx K mg z):Cq P w K mg base z 1 "_law_cell" ["_law_script","_law_k"] BJ:=
 have SC:=Wa
 .of (b:=Jy) T.Pz SC rfl rfl λf aR A outer s H E hr R=>(aZ (e8 (cj Zv (ag (pv 1)) (eR gJ (by rfl) T.len gj (ai rfl (ag (pv 0)) ay)) (bJ _)) (a8 (bS (iI (ag (pv 0)) (ag (pv 1)) (λ_ _=>rfl)))) fM)
   (aZ (e8 (cj (iX (bq hr)) (ag (pv 0)) (i9 ay) (bJ _)) (a8 (bS bA)) fM)
   (a8 (bS (bb cq (bb iW (iI (ag (pv 0)) (bb zX (ag (pv 1)) (eR gJ (by rfl) T.len gj (ai rfl (ag (pv 0)) ay))) (λ_ _=>rfl)) bA) (ag (pv 1)))))))
theorem V6:cD ["_law_script","_law_k","_law_many","_law_drawn"] ["_law_script","_law_k","_law_many"] (aV DV):=by exists cY
theorem lr (T:Tx K mg z):Cq P w K mg base z 2 "_law_pick" ["_law_script","_law_k","_law_many"] jj:=
 have SC:=V6
 .of (b:=Jv) T.Pu SC rfl rfl λf aR A outer s H E hr R=>(aZ (cS (i:=3) SC.nd rfl (aS rfl) (bb zX (bb iW (bb cq (bc (Zk T) (hr.mono (by decide)) R.pass (ai rfl (ag (pv 0)) (ai rfl (ag (pv 1)) ay))) (bb iW bA (bb cq (ag (pv 1)) bA))) bA) bA))
   (a8 (bS (bb zX (bb zX (bb cq (bb iW (ag (pv 3)) (ag (pv 3))) (bb Zy (ag (pv 3)) bA)) bA) (ag (pv 2))))))
theorem V3:cD ["_law_script","_law_at","_law_many","_law_signs","_law_made","_law_k"] ["_law_script","_law_at","_law_many","_law_signs"] (aV DS):=by exists cY
theorem Zg (T:Tx K mg z):Cq P w K mg base z 3 "_law_wave" ["_law_script","_law_at","_law_many","_law_signs"] BH:=
 have SC:=V3
 .of (b:=Js) T.Pq SC rfl rfl λf aR A outer s H E hr R=>(aZ (cS (i:=4) SC.nd rfl (aS rfl) (iI (ag (pv 3)) (bc (lr T) (hr.mono (by decide)) R.pass (ai rfl (ag (pv 0)) (ai rfl (ag (pv 1)) (ai rfl (eR gJ (by rfl) T.len gj (ai rfl (ag (pv 3)) ay)) ay)))) (λ_ _=>rfl)))
   (aZ (o4 rfl (abk (by rfl) T.range (ai rfl bA (ai rfl (ag (pv 2)) ay))) (cb (bZ (i:=5) SC.nd rfl (aS rfl))) (a8 (e8 (cj (iX (bq hr)) (bc (lr T) (hr.mono (by decide)) fV (ai rfl (ag (pv 0)) (ai rfl (bb cq (ag (pv 1)) (bb iW bA (ag (pv 5)))) (ai rfl bA ay)))) bA (bJ _)) (a8 (cS (i:=4) SC.nd rfl (aS rfl) (bb cq (ag (pv 4)) (iI (ag (pv 4)) (ad1 bA) (λ_ _=>rfl))))) (a8 (cS (i:=4) SC.nd rfl (aS rfl) (bb cq (ag (pv 4)) (iI (ag (pv 3)) (bc (lr T) (hr.mono (by decide)) fV (ai rfl (ag (pv 0)) (ai rfl (bb cq (bb cq (ag (pv 1)) (bb iW bA (ag (pv 5)))) bA) (ai rfl (eR gJ (by rfl) T.len gj (ai rfl (ag (pv 3)) ay)) ay)))) (λ_ _=>rfl))))))))
   (a8 (bS (ag (pv 4))))))
theorem V5:cD ["_law_script","_law_at","_law_many","_law_most","_law_made","_law_k","_law_tick"] ["_law_script","_law_at","_law_many","_law_most"] (aV DU):=by exists cY
theorem Zi (T:Tx K mg z):Cq P w K mg base z 4 "_law_seldom" ["_law_script","_law_at","_law_many","_law_most"] BI:=
 have SC:=V5
 .of (b:=Ju) T.Pt SC rfl rfl λf aR A outer s H E hr R=>(aZ (cS (i:=4) SC.nd rfl (aS rfl) (bc (Zg T) (hr.mono (by decide)) R.pass (ai rfl (ag (pv 0)) (ai rfl (ag (pv 1)) (ai rfl (ag (pv 2)) (ai rfl (bK (l:=[48,49])) ay))))))
   (aZ (o4 rfl (Am (by rfl) T.range (ai rfl (bc (lr T) (hr.mono (by decide)) fV (ai rfl (ag (pv 0)) (ai rfl (bb cq (ag (pv 1)) bA) (ai rfl (bb cq (ag (pv 3)) bA) ay)))) ay)) (cb (bZ (i:=5) SC.nd rfl (aS rfl))) (aZ (cS (i:=6) SC.nd rfl (aS rfl) (bc (lr T) (hr.mono (by decide)) fV (ai rfl (ag (pv 0)) (ai rfl (bb cq (bb cq (ag (pv 1)) bA) (ag (pv 5))) (ai rfl (ag (pv 2)) ay)))))
   (a8 (cS (i:=4) SC.nd rfl (aS rfl) (bb cq (bb cq (qw (ag (pv 4)) pF (pE (ag (pv 6)))) (bK (l:=[120]))) (qw (ag (pv 4)) (pE (bb cq (ag (pv 6)) bA)) pF))))))
   (a8 (bS (ag (pv 4))))))
theorem V4:cD ["_law_script","_law_at","_law_names","_law_many","_law_most"] ["_law_script","_law_at","_law_names","_law_many","_law_most"] (aV DT):=by exists cY
theorem Zh (T:Tx K mg z):Cq P w K mg base z 5 "_law_sheet" ["_law_script","_law_at","_law_names","_law_many","_law_most"] ya:=
 have SC:=V4
 .of (b:=Jt) T.Pr SC rfl rfl λf aR A outer s H E hr R=>(a8 (bS (PL (QS rfl) (by rfl) T.dict L2.boot_dict (ai rfl (iJ (N:=["_law_k","_law_name","_law_script","_law_at","_law_many","_law_most"]) (k:=2) (fr:=[0,1,3,4]) (tJ (jH (dD (by decide)) (jH (dD (by decide)) tI))) rfl ⟨rfl,rfl,rfl,rfl,rfl,rfl⟩ (Fj (by rfl) T.enumerate (ai rfl (ag (pv 2)) ay)) (λ_ _ _ _=>(mT (n:=2) rfl (fI (cb (bZ (i:=0) (show du (α:=Str) ["_law_k","_law_name","_law_script","_law_at","_law_many","_law_most"] from by decide +kernel) rfl (aS rfl) (cx rfl))) (fI (cb (bZ (i:=1) (show du (α:=Str) ["_law_k","_law_name","_law_script","_law_at","_law_many","_law_most"] from by decide +kernel) rfl (aS rfl) (cx rfl))) mS)))) (λ_ _ _ _=>jZ) (λ_ _ _ _=>(G1 (ai rfl (ag (pv 1)) (ai rfl (bc (Zi T) (hr.mono (by decide)) fV (ai rfl (ag (pv 2)) (ai rfl (bb cq (ag (pv 3)) (bb iW bA (ag (pv 0)))) (ai rfl (ag (pv 4)) (ai rfl (ag (pv 5)) ay))))) ay))))) ay))))
theorem V8:cD ["_law_script","_law_at","_law_sheet_here","_law_names","_law_made","_law_k","_law_name","_law_wave_here","_law_tick","_law_level"] ["_law_script","_law_at","_law_sheet_here","_law_names"] (aV DX):=by exists cY
theorem Mk (T:Tx K mg z):Cq P w K mg base z 3 "_law_hidden" ["_law_script","_law_at","_law_sheet_here","_law_names"] qJ:=
 have SC:=V8
 .of (b:=Jw) T.Px SC rfl rfl λf aR A outer s H E hr R=>(aZ (UW (i:=4) SC.nd rfl (aS rfl))
   (aZ (o4 rfl (Fj (by rfl) T.enumerate (ai rfl (ag (pv 3)) ay)) (mT (n:=2) rfl (fI (cb (bZ (i:=5) SC.nd rfl (aS rfl))) (fI (cb (bZ (i:=6) SC.nd rfl (aS rfl))) mS))) (aZ (cS (i:=7) SC.nd rfl (aS rfl) (tO (bq hr) (ag (pv 2)) (ag (pv 6)) (λ_ _=>rfl)))
   (aZ (cS (i:=8) SC.nd rfl (aS rfl) (bc (lr T) (hr.mono (by decide)) fV (ai rfl (ag (pv 0)) (ai rfl (bb cq (ag (pv 1)) (bb iW bA (ag (pv 5)))) (ai rfl (eR gJ (by rfl) T.len gj (ai rfl (ag (pv 7)) ay)) ay)))))
   (aZ (cS (i:=9) SC.nd rfl (aS rfl) (iI (i9 (ai rfl (bK (l:=[120])) (ai rfl (bK (l:=[120])) (ai rfl (bK (l:=[120])) (ai rfl (bK (l:=[48])) (ai rfl (iI (ag (pv 7)) (ag (pv 8)) (λ_ _=>rfl)) ay)))))) (bc (lr T) (hr.mono (by decide)) fV (ai rfl (ag (pv 0)) (ai rfl (bb cq (bb cq (ag (pv 1)) (bb iW bA (ag (pv 5)))) bA) (ai rfl bA ay)))) (λ_ _=>rfl)))
   (a8 (zm (bq hr) (pv 4) (ag (pv 6)) (bb cq (bb cq (qw (ag (pv 7)) pF (pE (ag (pv 8)))) (ag (pv 9))) (qw (ag (pv 7)) (pE (bb cq (ag (pv 8)) bA)) pF))))))))
   (xH 4 (a8 (bS (ag (pv 4)))))))
theorem VS:cD ["sheet","name","wave","told"] ["sheet","name","wave"] (aV DH):=by exists cY
theorem YZ (T:Tx K mg z):Cq P w K mg base z 1 "with_name" ["sheet","name","wave"] xZ:=
 have SC:=VS
 .of (b:=Jf) T.O8 SC rfl rfl λf aR A outer s H E hr R=>(aZ (Dd (i:=3) SC.nd rfl (aS rfl) (by rfl) T.dict (ag (pv 0)) rfl)
   (aZ (zm (bq hr) (pv 3) (ag (pv 1)) (ag (pv 2)))
   (xH 3 (a8 (bS (ag (pv 3)))))))
theorem VT:cD ["sheets","name","waves","told","sheet"] ["sheets","name","waves"] (aV DJ):=by exists cY
theorem Y3 (T:Tx K mg z):Cq P w K mg base z 2 "with_each_wave" ["sheets","name","waves"] x6:=
 have SC:=VT
 .of (b:=Ji) T.O9 SC rfl rfl λf aR A outer s H E hr R=>(aZ (UX (i:=3) SC.nd rfl (aS rfl) ay)
   (aZ (o4 rfl (mH (ag (pv 0))) (cb (bZ (i:=4) SC.nd rfl (cx rfl))) (a8 (U0 (pv 3) (N:=["wave","name","sheet"]) (k:=1) (fr:=[1,4]) (dD (by decide)) rfl ⟨rfl,rfl,rfl,rfl,rfl,rfl⟩ (mH (ag (pv 2))) (λ_ _ _ _=>(cb (bZ (i:=0) (show du (α:=Str) ["wave","name","sheet"] from by decide +kernel) rfl (aS rfl) (cx rfl)))) (λ_ _ _ _=>jZ) (λ_ _ _ _=>(bc (YZ T) (hr.mono (by decide)) fV (ai rfl (ag (pv 2)) (ai rfl (ag (pv 1)) (ai rfl (ag (pv 0)) ay))))))))
   (xH 3 (a8 (bS (ag (pv 3)))))))
theorem K2:cD ["level","ends"] ["level","ends"] (aV DI):=by exists cY
theorem Y0 (T:Tx K mg z):nk P w K mg base (bD P w) 1 "with_level_ahead" ["level","ends"] (k8 K z (λ_=>.bad)):=by
 obtain⟨f,fd,F,hm,hb⟩:=T.A9;exact⟨f,fd,Zd,hm,F.kp,hb⟩
theorem Y1 (T:Tx K mg z):nk P w K mg base (bD P w) 2 "with_level_ahead" ["level","ends"] (k8 K z x5):=by
 obtain⟨f,fd,F,hm,hb⟩:=T.A9;have SC:=K2;have Cr:=Y0 (P:=P) (w:=w) (base:=base) T;refine⟨f,fd,?_,hm,F.kp,hb⟩;refine A2 (b:=Jg) F SC rfl rfl λaR A outer s H E hr R=>?_;exact(aZ (e8 (cj (iX (bq hr)) (ag (pv 0)) (bK (l:=[120])) (bJ _)) (a8 (bS (bb cq (bc Cr (hr.mono (by decide)) R.pass (ai rfl (bK (l:=[48])) (ai rfl (ag (pv 1)) ay))) (bc Cr (hr.mono (by decide)) R.pass (ai rfl (bK (l:=[49])) (ai rfl (ag (pv 1)) ay)))))) fM)
   (a8 (bS (iJ (N:=["end","level"]) (k:=1) (fr:=[0]) (dD (by decide)) rfl ⟨rfl,rfl,rfl,rfl,rfl,rfl⟩ (mH (ag (pv 1))) (λ_ _ _ _=>(cb (bZ (i:=0) (show du (α:=Str) ["end","level"] from by decide +kernel) rfl (aS rfl) (cx rfl)))) (λ_ _ _ _=>jZ) (λ_ _ _ _=>(bb cq (ag (pv 1)) (ag (pv 0))))))))
theorem Y2 (T:Tx K mg z):nk P w K mg base (bD P w) 3 "with_level_ahead" ["level","ends"] (k8 K z BC):=by
 obtain⟨f,fd,F,hm,hb⟩:=T.A9;have SC:=K2;have C0:=Y1 (P:=P) (w:=w) (base:=base) T;refine⟨f,fd,?_,hm,F.kp,hb⟩;refine A2 (b:=Jh) F SC rfl rfl λaR A outer s H E hr R=>?_;exact(aZ (e8 (cj (iX (bq hr)) (ag (pv 0)) (bK (l:=[120])) (bJ _)) (a8 (bS (bb cq (bc C0 (hr.mono (by decide)) R.pass (ai rfl (bK (l:=[48])) (ai rfl (ag (pv 1)) ay))) (bc C0 (hr.mono (by decide)) R.pass (ai rfl (bK (l:=[49])) (ai rfl (ag (pv 1)) ay)))))) fM)
   (a8 (bS (iJ (N:=["end","level"]) (k:=1) (fr:=[0]) (dD (by decide)) rfl ⟨rfl,rfl,rfl,rfl,rfl,rfl⟩ (mH (ag (pv 1))) (λ_ _ _ _=>(cb (bZ (i:=0) (show du (α:=Str) ["end","level"] from by decide +kernel) rfl (aS rfl) (cx rfl)))) (λ_ _ _ _=>jZ) (λ_ _ _ _=>(bb cq (ag (pv 1)) (ag (pv 0))))))))
theorem Wh:cD ["wave","ends","level"] ["wave"] (aV D7):=by exists cY
theorem Ze (T:Tx K mg z):Cq P w K mg base z 4 "all_known" ["wave"] uG:=
 have SC:=Wh
 .of (b:=Jr) T.Po SC rfl rfl λf aR A outer s H E hr R=>(aZ (e8 (cj Mo (PK (ag (pv 0)) (ai rfl (bK (l:=[120])) ay) rfl) (tN (mB (by rfl) T.IT.choose_spec (v:=.int 6) ⟨_,rfl⟩) (λ_=>fT) trivial) (bJ _)) (a8 (Dc (cn:=5) rfl R (by rfl) (by exact T.IA) (by exact T.rq) (Tr (tN (mB (by rfl) T.IT.choose_spec (v:=.int 6) ⟨_,rfl⟩) (λ_=>fT) trivial)))) fM)
   (aZ (cS (i:=1) SC.nd rfl (aS rfl) (i9 (ai rfl (bK (l:=[])) ay)))
   (aZ (o4 rfl (abj (by rfl) T.reversed (ai rfl (ag (pv 0)) ay)) (cb (bZ (i:=2) SC.nd rfl (aS rfl))) (a8 (cS (i:=1) SC.nd rfl (aS rfl) (bc (Y2 T) (hr.mono (by decide)) fV (ai rfl (ag (pv 2)) (ai rfl (ag (pv 1)) ay))))))
   (a8 (bS (ag (pv 1)))))))
theorem Wg:cD ["sheet","choices","sheets","name","waves"] ["sheet"] (aV D6):=by exists cY
theorem EG (T:Tx K mg z):Cq P w K mg base z 5 "all_sheets" ["sheet"] oB:=
 have SC:=Wg
 .of (b:=ye) T.Pn SC rfl rfl λf aR A outer s H E hr R=>(aZ (UU (i:=1) XQ (N:=["name","wave"]) (k:=2) (fr:=[]) (tJ (jH (dD (by decide)) (jH (dD (by decide)) tI))) rfl ⟨rfl,rfl,rfl,rfl,rfl,rfl⟩ (Fi (ag (pv 0))) (λ_ _ _ _=>(mT (n:=2) rfl (fI (cb (bZ (i:=0) (show du (α:=Str) ["name","wave"] from by decide +kernel) rfl (aS rfl) (cx rfl))) (fI (cb (bZ (i:=1) (show du (α:=Str) ["name","wave"] from by decide +kernel) rfl (aS rfl) (cx rfl))) mS)))) (λ_ _ _ _=>jZ) (λ_ _ _ _=>(G1 (ai rfl (ag (pv 0)) (ai rfl (bc (Ze T) (hr.mono (by decide)) Yq (ai rfl (ag (pv 1)) ay)) ay)))) SC.nd rfl rfl)
   (aZ (cS (i:=2) SC.nd rfl (aS rfl) (i9 (ai rfl G5 ay)))
   (aZ (o4 rfl (mH (ag (pv 1))) (mT (n:=2) rfl (fI (cb (bZ (i:=3) SC.nd rfl (aS rfl))) (fI (cb (bZ (i:=4) SC.nd rfl (aS rfl))) mS))) (a8 (cS (i:=2) SC.nd rfl (aS rfl) (bc (Y3 T) (hr.mono (by decide)) fV (ai rfl (ag (pv 2)) (ai rfl (ag (pv 3)) (ai rfl (ag (pv 4)) ay)))))))
   (a8 (bS (ag (pv 2)))))))
theorem pz {c:Addr}{K:ao}{C:Addr}{b:Bool}(h:kitOne K (.ref C) (.ref c)=some b):∀u,RelV (.ref c) u->kitOne K (.ref C) u=some b:=λu r=>by
 cases r;exact h
theorem W7 {n:String}{K:ao}{C:Addr}{b:Bool}(h:kitOne K (.ref C) (.type n)=some b):∀u,RelV (.ty n) u->kitOne K (.ref C) u=some b:=λu r=>by
 cases r;exact h
theorem V2:cD ["_law_kept","_law_kinds"] ["_law_kept"] (aV DR):=by exists cY
theorem Zf (T:Tx K mg z):nk P w K mg base yc 1 "_law_word" ["_law_kept"] (Ks K (z 0) (z 1) (z 2) (z 3) (z 4) (z 5) (z 6)):=by
 obtain⟨f,fd,F,hm,hb⟩:=T.Pp;have SC:=V2;refine⟨f,fd,?_,hm,F.kp,hb⟩;refine F.ok SC (λvs H Q E h=>?_) (λaR A outer s H vs Q E hr h=>?_)
 ·obtain⟨a,C,j,rfl,_⟩:=h
  rfl
 ·obtain⟨a,C,j,rfl,hH,W,q⟩:=h
  have s0:az H H:=.refl _;refine⟨_,(nQ (nR (i:=1) SC.nd rfl (aS rfl) (vS (@bV _ _ _ _ _ rfl (mC oq (by rfl) T.isinstance boot_isinstance (@bV _ _ _ _ _ rfl (pv 0) (@bV _ _ _ _ _ rfl (mB (by rfl) T.Jc (v:=.ref (z 0)) rfl) fF))) (@bV _ _ _ _ _ rfl (mC oq (by rfl) T.isinstance boot_isinstance (@bV _ _ _ _ _ rfl (pv 0) (@bV _ _ _ _ _ rfl (mB (by rfl) T.RQ (v:=.ref (z 1)) rfl) fF))) (@bV _ _ _ _ _ rfl (mC oq (by rfl) T.isinstance boot_isinstance (@bV _ _ _ _ _ rfl (pv 0) (@bV _ _ _ _ _ rfl (mB (by rfl) T.RP (v:=.ref (z 2)) rfl) fF))) (@bV _ _ _ _ _ rfl (mC oq (by rfl) T.isinstance boot_isinstance (@bV _ _ _ _ _ rfl (pv 0) (@bV _ _ _ _ _ rfl (mB (by rfl) T.RO (v:=.ref (z 3)) rfl) fF))) fF))))))
   (nQ (Ej (vT yM Cb PySem.F.type_list_extend MG (pv 1) (@bV _ _ _ _ _ rfl (vS (@bV _ _ _ _ _ rfl (mC oq (by rfl) T.isinstance boot_isinstance (@bV _ _ _ _ _ rfl (pv 0) (@bV _ _ _ _ _ rfl (mB (by rfl) T.RN (v:=.ref (z 4)) rfl) fF))) (@bV _ _ _ _ _ rfl (mC oq (by rfl) T.isinstance boot_isinstance (@bV _ _ _ _ _ rfl (pv 0) (@bV _ _ _ _ _ rfl (mB (by rfl) T.IA (v:=.ref (z 5)) rfl) fF))) (@bV _ _ _ _ _ rfl (mC oq (by rfl) T.isinstance boot_isinstance (@bV _ _ _ _ _ rfl (pv 0) (@bV _ _ _ _ _ rfl (mB (by rfl) T.Iy (v:=.ref (z 6)) rfl) fF))) fF)))) fF)))
   (nQ (Ei (PW.pt (pw_or (LI YG (vT yM PySem.F.slot_list_count PySem.F.type_list_count aab (pv 1) (@bV _ _ _ _ _ rfl Eu fF)) L4 (bJ _)) (pw_or1 (LH (LG (mC oq (by rfl) T.isinstance boot_isinstance (@bV _ _ _ _ _ rfl (pv 0) (@bV _ _ _ _ _ rfl (Ym (by rfl) T.ValueError afj (v:=.ty "ValueError") rfl) fF)))))))) (sF (vP (mD (l:=[119,114,111,110,103])))) Eh)
   (sF (vP (LZ NL (vS (@bV _ _ _ _ _ rfl (mD (l:=[99,108,97,115,104])) (@bV _ _ _ _ _ rfl (mD (l:=[110,111,32,110,97,109,101])) (@bV _ _ _ _ _ rfl (mD (l:=[110,111,32,116,101,120,116])) (@bV _ _ _ _ _ rfl (mD (l:=[110,111,32,116,105,99,107])) (@bV _ _ _ _ _ rfl (mD (l:=[110,111,32,119,97,118,101])) (@bV _ _ _ _ _ rfl (mD (l:=[116,111,111,32,108,111,110,103])) (@bV _ _ _ _ _ rfl (mD (l:=[117,110,108,105,107,101])) fF)))))))) (vT yM PySem.F.slot_list_index PySem.F.type_list_index Z9 (pv 1) (@bV _ _ _ _ _ rfl Eu fF)) (λ_ _=>rfl))))))),?_⟩
  have w0:=pz W.w0;have w1:=pz W.w1;have w2:=pz W.w2;have w3:=pz W.w3;have w4:=pz W.w4;have w5:=pz W.w5;have w6:=pz W.w6;have wv:=W7 W.ve;refine⟨_,rfl,a,C,_,_,rfl,hH,W.z,w0,_,rfl,a,C,_,_,rfl,hH,W.z,w1,_,rfl,a,C,_,_,rfl,hH,W.z,w2,_,rfl,a,C,_,_,rfl,hH,W.z,w3,big 4,λp hp=>?_⟩;have h1:az H (upd H p (.lst [V.bl (j==0),V.bl (j==1),V.bl (j==2),V.bl (j==3)])):=.upd hp;refine⟨_,rfl,.inl ⟨rfl,_,.of bY⟩,_,rfl,a,C,_,_,rfl,h1 _ _ hH,W.z,w4,_,rfl,a,C,_,_,rfl,h1 _ _ hH,W.z,w5,_,rfl,a,C,_,_,rfl,h1 _ _ hH,W.z,w6,big 3,λp2 fY=>?_⟩;have np:p≠p2:=cZ bY fY;have e1:upd (upd H p (.lst [V.bl (j==0),V.bl (j==1),V.bl (j==2),V.bl (j==3)])) p2 (.lst [V.bl (j==4),V.bl (j==5),V.bl (j==6)]) p=some (.lst [V.bl (j==0),V.bl (j==1),V.bl (j==2),V.bl (j==3)]):=by rw [ba np]; exact bY
  refine⟨p,p2,_,_,rfl,rfl,e1,bY,big 7,?_⟩;have hap:a≠p:=cZ hH hp;have s2:az H (upd (upd (upd H p (.lst [V.bl (j==0),V.bl (j==1),V.bl (j==2),V.bl (j==3)])) p2 (.lst [V.bl (j==4),V.bl (j==5),V.bl (j==6)])) p (.lst ([V.bl (j==0),V.bl (j==1),V.bl (j==2),V.bl (j==3)]++[V.bl (j==4),V.bl (j==5),V.bl (j==6)]))):=λb o e=>by
   rw [ba (cZ e hp)];exact h1.trans (.upd fY) b o e
  have c1:([V.bl (j==0),V.bl (j==1),V.bl (j==2),V.bl (j==3)]++[V.bl (j==4),V.bl (j==5),V.bl (j==6)]).countP (λz=>dq z (.bl true))=1:=
   EO (Q:=λj=>([V.bl (j==0),V.bl (j==1),V.bl (j==2),V.bl (j==3)]++[V.bl (j==4),V.bl (j==5),V.bl (j==6)]).countP (λz=>dq z (.bl true))=1) rfl rfl rfl rfl rfl rfl rfl j W.lt
  have c2:(∃z,([V.bl (j==0),V.bl (j==1),V.bl (j==2),V.bl (j==3)]++[V.bl (j==4),V.bl (j==5),V.bl (j==6)])[j]?=some z/\dq z (.bl true)=true)/\(∀m z,m<j->([V.bl (j==0),V.bl (j==1),V.bl (j==2),V.bl (j==3)]++[V.bl (j==4),V.bl (j==5),V.bl (j==6)])[m]?=some z->dq z (.bl true)=false):=by
   have hj:=W.lt;have key:∀(m:Nat),m<7->([V.bl (j==0),V.bl (j==1),V.bl (j==2),V.bl (j==3)]++[V.bl (j==4),V.bl (j==5),V.bl (j==6)])[m]?=some (V.bl (j==m)):=λm hm=>EO (Q:=λm=>([V.bl (j==0),V.bl (j==1),V.bl (j==2),V.bl (j==3)]++[V.bl (j==4),V.bl (j==5),V.bl (j==6)])[m]?=some (V.bl (j==m))) rfl rfl rfl rfl rfl rfl rfl m hm;refine⟨⟨_,key j hj,by simp [dq]⟩,λm z hm hz=>?_⟩;rw [key m (by omega)] at hz;cases hz;simp [dq];omega
  have c3:jf [S [99,108,97,115,104],S [110,111,32,110,97,109,101],S [110,111,32,116,101,120,116],S [110,111,32,116,105,99,107],S [110,111,32,119,97,118,101],S [116,111,111,32,108,111,110,103],S [117,110,108,105,107,101]] ((j:Nat):Int)=some (S (CM j)):=
   EO (Q:=λj=>jf [S [99,108,97,115,104],S [110,111,32,110,97,109,101],S [110,111,32,116,101,120,116],S [110,111,32,116,105,99,107],S [110,111,32,119,97,118,101],S [116,111,111,32,108,111,110,103],S [117,110,108,105,107,101]] ((j:Nat):Int)=some (S (CM j))) rfl rfl rfl rfl rfl rfl rfl j W.lt
  refine⟨_,rfl,.inl ⟨rfl,_,.of bY⟩,p,_,_,rfl,rfl,bY,rfl,rfl,rfl,_,rfl,?_⟩;rw [c1];refine NP ?_;refine⟨_,rfl,a,C,_,_,rfl,s2 _ _ hH,W.z,wv,_,rfl,NP ?_⟩;refine⟨big 7,λp3 Oc=>?_⟩;have e3:∀o,upd (upd (upd (upd H p (.lst [V.bl (j==0),V.bl (j==1),V.bl (j==2),V.bl (j==3)])) p2 (.lst [V.bl (j==4),V.bl (j==5),V.bl (j==6)])) p (.lst ([V.bl (j==0),V.bl (j==1),V.bl (j==2),V.bl (j==3)]++[V.bl (j==4),V.bl (j==5),V.bl (j==6)]))) p3 o p=some (.lst ([V.bl (j==0),V.bl (j==1),V.bl (j==2),V.bl (j==3)]++[V.bl (j==4),V.bl (j==5),V.bl (j==6)])):=λo=>by
   rw [ba (cZ bY Oc)];exact bY
  refine⟨_,rfl,.inl ⟨rfl,_,.of (e3 _)⟩,p,_,_,j,rfl,rfl,e3 _,rfl,rfl,c2.1,c2.2,p3,_,_,_,rfl,rfl,.of bY,c3,?_⟩;exact q _ (s2.trans (.upd Oc))
theorem S7 (T:Tx K mg z):uy K (z 0) (z 0) (z 1) (z 2) (z 3) (z 4) (z 5) (z 6) 0:=⟨⟨T.uj,T.ug,T.ud,T.ua,T.t7,T.t4,T.tX,T.tU⟩,by decide,T.r6,T.rX,T.rS,T.rP,T.rM,T.rJ,T.rF,T.se⟩
theorem S6 (T:Tx K mg z):uy K (z 5) (z 0) (z 1) (z 2) (z 3) (z 4) (z 5) (z 6) 5:=⟨⟨T.ui,T.uf,T.uc,T.t9,T.t6,T.tZ,T.tW,T.tT⟩,by decide,T.rZ,T.rW,T.rR,T.rO,T.rL,T.rH,T.rE,T.sd⟩
theorem S5 (T:Tx K mg z):uy K (z 6) (z 0) (z 1) (z 2) (z 3) (z 4) (z 5) (z 6) 6:=⟨⟨T.uh,T.ue,T.ub,T.t8,T.t5,T.tY,T.tV,T.tS⟩,by decide,T.rY,T.rV,T.rQ,T.rN,T.rK,T.rG,T.rD,T.r9⟩
theorem S9 (T:Tx K mg z):∀c∈[0,5,6],uy K (z c) (z 0) (z 1) (z 2) (z 3) (z 4) (z 5) (z 6) c/\exmOne K (.ref (z c)) (.ref (z 8))=some true:=by
 intro c h;simp only [aO,eL,or_false] at h;rcases h with rfl | rfl | rfl
 ·exact⟨S7 T,T.sR⟩
 ·exact⟨S6 T,T.sQ⟩
 ·exact⟨S5 T,T.sP⟩
theorem V0:cD ["waves"] ["waves"] (aV DP):=by exists cY
theorem Y6 (T:Tx K mg z):Cq P w K mg base z 1 "of_one_length" ["waves"] BD:=
 have SC:=V0
 .of (b:=Jl) T.Pf SC rfl rfl λf aR A outer s H E hr R=>(a8 (bS (eR (Hx rfl) (by rfl) T.all boot_all (ai rfl (iJ (N:=["wave","waves"]) (k:=1) (fr:=[0]) (dD (by decide)) rfl ⟨rfl,rfl,rfl,rfl,rfl,rfl⟩ (mH (ag (pv 0))) (λ_ _ _ _=>(cb (bZ (i:=0) (show du (α:=Str) ["wave","waves"] from by decide +kernel) rfl (aS rfl) (cx rfl)))) (λ_ _ _ _=>jZ) (λ_ _ _ _=>(ja (iX (bq hr)) (eR gJ (by rfl) T.len gj (ai rfl (ag (pv 0)) ay)) (eR gJ (by rfl) T.len gj (ai rfl (iI (ag (pv 1)) bA (λ_ _=>rfl)) ay)) (bJ _)))) ay))))
theorem VZ:cD ["waves"] ["waves"] (aV DO):=by exists cY
theorem EF (T:Tx K mg z):Cq P w K mg base z 2 "refuse_unlike" ["waves"] kD:=
 have SC:=VZ
 .of (b:=BM) T.Pe SC rfl rfl λf aR A outer s H E hr R=>(a8 (e8 (TV (y9 (bc (Y6 T) (hr.mono (by decide)) R.pass (ai rfl (ag (pv 0)) ay)))) (a8 (Dc (cn:=6) rfl R (by rfl) (by exact T.Iy) (by exact T.ro) (Tq (bK (l:=[116,104,101,32,119,97,118,101,115,32,104,97,118,101,32,117,110,108,105,107,101,32,108,101,110,103,116,104,115]))))) fM))
theorem Wf:cD ["first","second"] ["first","second"] (aV D5):=by exists cY
theorem Zc (T:Tx K mg z):Cq P w K mg base z 1 "clash_at" ["first","second"] BG:=
 have SC:=Wf
 .of (b:=Jq) T.Pm SC rfl rfl λf aR A outer s H E hr R=>(a8 (bS (G6 (ja (eO (bq hr)) (ag (pv 0)) (ag (pv 1)) (bJ _)) (G6 (ja (eO (bq hr)) (ag (pv 0)) (bK (l:=[120])) (bJ _)) (G3 (ja (eO (bq hr)) (ag (pv 1)) (bK (l:=[120])) (bJ _)))))))
theorem We:cD ["one","other"] ["one","other"] (aV D4):=by exists cY
theorem Zb (T:Tx K mg z):Cq P w K mg base z 3 "clashing" ["one","other"] BF:=
 have SC:=We
 .of (b:=Jp) T.Pl SC rfl rfl λf aR A outer s H E hr R=>(aZ (De (bc (EF T) (hr.mono (by decide)) R.pass (ai rfl (i9 (ai rfl (ag (pv 0)) (ai rfl (ag (pv 1)) ay))) ay)))
   (a8 (bS (iJ (N:=["tick","one","other"]) (k:=1) (fr:=[0,1]) (dD (by decide)) rfl ⟨rfl,rfl,rfl,rfl,rfl,rfl⟩ (Am (by rfl) T.range (ai rfl (eR gJ (by rfl) T.len gj (ai rfl (ag (pv 0)) ay)) ay)) (λ_ _ _ _=>(cb (bZ (i:=0) (show du (α:=Str) ["tick","one","other"] from by decide +kernel) rfl (aS rfl) (cx rfl)))) (λ_ _ _ _=>(oX (y9 (bc (Zc T) (hr.mono (by decide)) fV (ai rfl (iI (ag (pv 1)) (ag (pv 0)) (λ_ _=>rfl)) (ai rfl (iI (ag (pv 2)) (ag (pv 0)) (λ_ _=>rfl)) ay)))))) (λ_ _ _ _=>(ag (pv 0)))))))
theorem V1:cD ["one","other","ticks"] ["one","other"] (aV DQ):=by exists cY
theorem Y7 (T:Tx K mg z):Cq P w K mg base z 4 "led_together" ["one","other"] uE:=
 have SC:=V1
 .of (b:=BN) T.Ph SC rfl rfl λf aR A outer s H E hr R=>(aZ (cS (i:=2) SC.nd rfl (aS rfl) (bc (Zb T) (hr.mono (by decide)) R.pass (ai rfl (ag (pv 0)) (ai rfl (ag (pv 1)) ay))))
   (aZ (e8 (cj Mo (eR gJ (by rfl) T.len gj (ai rfl (ag (pv 2)) ay)) bA (bJ _)) (a8 (Dc (cn:=0) rfl R (by rfl) (by exact T.Jc) (by exact T.rz) (Ts hr (ag (pv 2))))) fM)
   (a8 (bS (ad2 (ai rfl (iJ (N:=["first","second"]) (k:=2) (fr:=[]) (tJ (jH (dD (by decide)) (jH (dD (by decide)) tI))) rfl ⟨rfl,rfl,rfl,rfl,rfl,rfl⟩ (NM (by rfl) T.zip (ai rfl (ag (pv 0)) (ai rfl (ag (pv 1)) ay))) (λ_ _ _ _=>(mT (n:=2) rfl (fI (cb (bZ (i:=0) (show du (α:=Str) ["first","second"] from by decide +kernel) rfl (aS rfl) (cx rfl))) (fI (cb (bZ (i:=1) (show du (α:=Str) ["first","second"] from by decide +kernel) rfl (aS rfl) (cx rfl))) mS)))) (λ_ _ _ _=>jZ) (λ_ _ _ _=>(G4 (cj (iX (bq hr)) (ag (pv 0)) (bK (l:=[120])) (bJ _)) (ag (pv 1)) (ag (pv 0))))) ay) rfl)))))
theorem VW:cD ["one","other","told","name","wave"] ["one","other"] (aV DL):=by exists cY
theorem Y4 (T:Tx K mg z):Cq P w K mg base z 5 "sheets_joined" ["one","other"] oA:=
 have SC:=VW
 .of (b:=yd) T.Pb SC rfl rfl λf aR A outer s H E hr R=>(aZ (De (bc (EF T) (hr.mono (by decide)) R.pass (ai rfl (bb cq (PD rfl (by rfl) T.list (ag (pv 0))) (PD rfl (by rfl) T.list (ag (pv 1)))) ay)))
   (aZ (Dd (i:=2) SC.nd rfl (aS rfl) (by rfl) T.dict (ag (pv 0)) rfl)
   (aZ (UZ PassesOwn.leaving rfl (Fi (ag (pv 1))) (mT (n:=2) rfl (fI (cb (bZ (i:=3) SC.nd rfl (aS rfl))) (fI (cb (bZ (i:=4) SC.nd rfl (aS rfl))) mS))) (a8 (zm (bq hr) (pv 2) (ag (pv 3)) (G4 (cj (Mn (bq hr)) (ag (pv 3)) (ag (pv 0)) (by with_unfolding_all rfl)) (bc (Y7 T) (hr.mono (by decide)) R.pass (ai rfl (tO (bq hr) (ag (pv 0)) (ag (pv 3)) (λ_ _=>rfl)) (ai rfl (ag (pv 4)) ay))) (ag (pv 4))))))
   (xH 2 (a8 (bS (ag (pv 2))))))))
theorem V7:cD ["_law_one","_law_other","_law_kept","_law_answer","e"] ["_law_one","_law_other"] (aV DW):=by exists cY
theorem zW (T:Tx K mg z):Cq P w K mg base z 6 "_law_joined" ["_law_one","_law_other"] l5:=
 have SC:=V7
 .of (b:=BO) T.Pw SC rfl rfl λf aR A outer s H E hr R=>(afg (iK:=2) (iA:=3) (iE:=4) (cs:=[0,5,6]) rfl ⟨rfl,rfl⟩ rfl SC.nd rfl rfl rfl rfl rfl rfl (by decide) (by decide) (by rfl) T.Rt (Zf T) (hr.mono (by decide)) (S9 T) (λ_ _ _ hp=>(a8 (cS (i:=3) SC.nd rfl (aS rfl) (G4 (cj zY (ag (pv 1)) PH (bJ _)) (bc (Y4 T) (hr.mono (by decide)) hp (ai rfl (ag (pv 0)) (ai rfl (ag (pv 1)) ay))) (bc (EG T) (hr.mono (by decide)) hp (ai rfl (ag (pv 0)) ay)))))))
theorem VU:cD ["sheet"] ["sheet"] (aV DK):=by exists cY
theorem EE (T:Tx K mg z):Cq P w K mg base z 1 "unknown_of" ["sheet"] qI:=
 have SC:=VU
 .of (b:=Jj) T.Pa SC rfl rfl λf aR A outer s H E hr R=>(a8 (bS (eR (ae4 rfl) (by rfl) T.sum (show PySem.bootBuiltins "sum" = some (.builtin "sum") from by decide +kernel) (ai rfl (iJ (N:=["wave"]) (k:=1) (fr:=[]) (dD (by decide)) rfl ⟨rfl,rfl,rfl,rfl,rfl,rfl⟩ (abi (ag (pv 0))) (λ_ _ _ _=>(cb (bZ (i:=0) (show du (α:=Str) ["wave"] from by decide +kernel) rfl (aS rfl) (cx rfl)))) (λ_ _ _ _=>jZ) (λ_ _ _ _=>(PK (ag (pv 0)) (ai rfl (bK (l:=[120])) ay) rfl))) ay))))
theorem Wd:cD ["wave","known"] ["wave","known"] (aV D3):=by exists cY
theorem Za (T:Tx K mg z):Cq P w K mg base z 3 "fits" ["wave","known"] BE:=
 have SC:=Wd
 .of (b:=Jo) T.Pk SC rfl rfl λf aR A outer s H E hr R=>(aZ (De (bc (EF T) (hr.mono (by decide)) R.pass (ai rfl (i9 (ai rfl (ag (pv 0)) (ai rfl (ag (pv 1)) ay))) ay)))
   (a8 (bS (eR (Hx rfl) (by rfl) T.all boot_all (ai rfl (iJ (N:=["level","other"]) (k:=2) (fr:=[]) (tJ (jH (dD (by decide)) (jH (dD (by decide)) tI))) rfl ⟨rfl,rfl,rfl,rfl,rfl,rfl⟩ (NM (by rfl) T.zip (ai rfl (ag (pv 0)) (ai rfl (ag (pv 1)) ay))) (λ_ _ _ _=>(mT (n:=2) rfl (fI (cb (bZ (i:=0) (show du (α:=Str) ["level","other"] from by decide +kernel) rfl (aS rfl) (cx rfl))) (fI (cb (bZ (i:=1) (show du (α:=Str) ["level","other"] from by decide +kernel) rfl (aS rfl) (cx rfl))) mS)))) (λ_ _ _ _=>jZ) (λ_ _ _ _=>(ad0 (ja (iX (bq hr)) (ag (pv 0)) (bK (l:=[120])) (bJ _)) (G3 (ja (iX (bq hr)) (ag (pv 0)) (ag (pv 1)) (bJ _)))))) ay)))))
theorem Wc:cD ["wave","known"] ["wave","known"] (aV D0):=by exists cY
theorem Y9 (T:Tx K mg z):Cq P w K mg base z 4 "fits_at_length" ["wave","known"] x9:=
 have SC:=Wc
 .of (b:=Jn) T.Pj SC rfl rfl λf aR A outer s H E hr R=>(a8 (bS (G6 (ja (iX (bq hr)) (eR gJ (by rfl) T.len gj (ai rfl (ag (pv 0)) ay)) (eR gJ (by rfl) T.len gj (ai rfl (ag (pv 1)) ay)) (bJ _)) (G3 (bc (Za T) (hr.mono (by decide)) R.pass (ai rfl (ag (pv 0)) (ai rfl (ag (pv 1)) ay)))))))
theorem VY:cD ["sheet","known"] ["sheet","known"] (aV DN):=by exists cY
theorem zV (T:Tx K mg z):Cq P w K mg base z 5 "sheet_fits" ["sheet","known"] ji:=
 have SC:=VY
 .of (b:=Jk) T.Pd SC rfl rfl λf aR A outer s H E hr R=>(aZ (e8 (TU (yA (jS _ _) (bq hr)) (by rfl) T.set (ag (pv 0)) rfl (ag (pv 1)) rfl) (a8 (bS jb)) fM)
   (a8 (bS (eR (Hx rfl) (by rfl) T.all boot_all (ai rfl (iJ (N:=["name","wave","known"]) (k:=2) (fr:=[1]) (tJ (jH (dD (by decide)) (jH (dD (by decide)) tI))) rfl ⟨rfl,rfl,rfl,rfl,rfl,rfl⟩ (Fi (ag (pv 0))) (λ_ _ _ _=>(mT (n:=2) rfl (fI (cb (bZ (i:=0) (show du (α:=Str) ["name","wave","known"] from by decide +kernel) rfl (aS rfl) (cx rfl))) (fI (cb (bZ (i:=1) (show du (α:=Str) ["name","wave","known"] from by decide +kernel) rfl (aS rfl) (cx rfl))) mS)))) (λ_ _ _ _=>jZ) (λ_ _ _ _=>(bc (Y9 T) (hr.mono (by decide)) fV (ai rfl (ag (pv 1)) (ai rfl (tO (bq hr) (ag (pv 2)) (ag (pv 0)) (λ_ _=>rfl)) ay))))) ay)))))
theorem VX:cD ["sheet"] ["sheet"] (aV DM):=by exists cY
theorem Mj (T:Tx K mg z):Cq P w K mg base z 2 "sheet_is_known" ["sheet"] ni:=
 have SC:=VX
 .of (b:=BL) T.Pc SC rfl rfl λf aR A outer s H E hr R=>(a8 (bS (ja (iX (bq hr)) (bc (EE T) (hr.mono (by decide)) R.pass (ai rfl (ag (pv 0)) ay)) bA (bJ _))))
theorem V9:cD ["_law_mine","_law_yours"] ["_law_mine","_law_yours"] (aV DY):=by exists cY
theorem Zj (T:Tx K mg z):Cq P w K mg base z 1 "_law_clashes" ["_law_mine","_law_yours"] yb:=
 have SC:=V9
 .of (b:=Jx) T.Py SC rfl rfl λf aR A outer s H E hr R=>(a8 (bS (ja (eO (bq hr)) (iJ (N:=["_law_k","_law_mine","_law_yours"]) (k:=1) (fr:=[0,1]) (dD (by decide)) rfl ⟨rfl,rfl,rfl,rfl,rfl,rfl⟩ (Am (by rfl) T.range (ai rfl (eR gJ (by rfl) T.len gj (ai rfl (ag (pv 0)) ay)) ay)) (λ_ _ _ _=>(cb (bZ (i:=0) (show du (α:=Str) ["_law_k","_law_mine","_law_yours"] from by decide +kernel) rfl (aS rfl) (cx rfl)))) (λ_ _ _ _=>(oX (PW.pt (yU (cj Zu (bK (l:=[120])) (bb cq (iI (ag (pv 1)) (ag (pv 0)) (λ_ _=>rfl)) (iI (ag (pv 2)) (ag (pv 0)) (λ_ _=>rfl))) (by with_unfolding_all rfl)) (yT (cj (eO (bq hr)) (iI (ag (pv 1)) (ag (pv 0)) (λ_ _=>rfl)) (iI (ag (pv 2)) (ag (pv 0)) (λ_ _=>rfl)) (bJ _))))))) (λ_ _ _ _=>(ag (pv 0)))) (i9 ay) (bJ _))))
theorem Wb:cD ["_law_script","_law_many","_law_plain","_law_one","_law_other","_law_every","_law_size","_law_again","_law_bad","_law_off","_law_told","_law_due","_law_some","_law_wide","_law_more"] ["_law_script"] (aV jt):=by exists cY
theorem Y8 (hG:∀ns:List Int,ns.length<=63->uF [.lst (ns.map Dt.int)]=.ok (.bl true))(T:Tx K mg z){f:Addr}{fd:FuncData}(F:lZ K "law" "law" jt f fd):fN P w K mg base (bD P w) 7 f fd ["_law_script"] (vD K):=by
 have SC:=Wb;refine aaK (cls:=z) (G:=uF) ?_ hG;refine A2 (b:=Jm) F SC rfl rfl λaR A outer s H E hr R=>?_;refine aZ (cS (i:=1) SC.nd rfl (aS rfl) (bb cq bA (bc (lr T) (hr.mono (by decide)) R.pass (ai rfl (ag (pv 0)) (ai rfl bA (ai rfl bA ay)))))) ?_;refine aZ (cS (i:=2) SC.nd rfl (aS rfl) (bc (Zh T) (hr.mono (by decide)) R.pass (ai rfl (ag (pv 0)) (ai rfl bA (ai rfl (i9 (ai rfl (bK (l:=[97])) (ai rfl (bK (l:=[98])) (ai rfl (bK (l:=[99])) ay)))) (ai rfl (ag (pv 1)) (ai rfl bA ay))))))) ?_;refine aZ (cS (i:=3) SC.nd rfl (cx rfl) (bc (Mk T) (hr.mono (by decide)) R.pass (ai rfl (ag (pv 0)) (ai rfl bA (ai rfl (ag (pv 2)) (ai rfl (qw (i9 (ai rfl (bK (l:=[97])) (ai rfl (bK (l:=[98])) (ai rfl (bK (l:=[99])) ay)))) pF (pE (bc (lr T) (hr.mono (by decide)) R.pass (ai rfl (ag (pv 0)) (ai rfl bA (ai rfl bA ay)))))) ay)))))) ?_;refine aZ (cS (i:=4) SC.nd rfl (cx rfl) (bc (Mk T) (hr.mono (by decide)) R.pass (ai rfl (ag (pv 0)) (ai rfl bA (ai rfl (ag (pv 2)) (ai rfl (qw (i9 (ai rfl (bK (l:=[99])) (ai rfl (bK (l:=[98])) (ai rfl (bK (l:=[97])) ay)))) pF (pE (bc (lr T) (hr.mono (by decide)) R.pass (ai rfl (ag (pv 0)) (ai rfl bA (ai rfl bA ay)))))) ay)))))) ?_;refine aZ (cS (i:=5) SC.nd rfl (cx rfl) (bc (EG T) (hr.mono (by decide)) R.pass (ai rfl (ag (pv 3)) ay))) ?_;refine aZ (cS (i:=6) SC.nd rfl (aS rfl) bA) ?_;refine aZ (o4 rfl (Am (by rfl) T.range (ai rfl (bc (EE T) (hr.mono (by decide)) fV (ai rfl (ag (pv 3)) ay)) ay)) (cb (bZ (i:=7) SC.nd rfl (aS rfl))) (a8 (cS (i:=6) SC.nd rfl (aS rfl) (bb iW bA (ag (pv 6)))))) ?_;refine aZ (Kj (i:=8) (N:=["_law_sheet_here","_law_one"]) (k:=1) (fr:=[3]) (dD (by decide)) rfl ⟨rfl,rfl,rfl,rfl,rfl,rfl⟩ (mH (ag (pv 5))) (λ_ _ _ _=>(cb (bZ (i:=0) (show du (α:=Str) ["_law_sheet_here","_law_one"] from by decide +kernel) rfl (aS rfl) (cx rfl)))) (λ_ _ _ _=>(oX (PW.pt (vn (cj zY (bc (zV T) (hr.mono (by decide)) fV (ai rfl (ag (pv 1)) (ai rfl (ag (pv 0)) ay))) jb (bJ _)) (yS (cj zY (bc (Mj T) (hr.mono (by decide)) fV (ai rfl (ag (pv 0)) ay)) jb (bJ _))))))) (λ_ _ _ _=>(ag (pv 0))) SC.nd rfl rfl) ?_
 refine aZ (e8 (PW.pt (vn (cj (eO (bq hr)) (eR gJ (by rfl) T.len gj (ai rfl (ag (pv 5)) ay)) (ag (pv 6)) (bJ _)) (vn (cj (eO (bq hr)) (ag (pv 8)) (i9 ay) (bJ _)) (yS (cj (eO (bq hr)) (bc (Mj T) (hr.mono (by decide)) R.pass (ai rfl (ag (pv 3)) ay)) (ja (iX (bq hr)) (bc (EE T) (hr.mono (by decide)) R.pass (ai rfl (ag (pv 3)) ay)) bA (bJ _)) (bJ _)))))) (a8 (bS jb)) fM) ?_;refine aZ (e8 (cj (eO (bq hr)) (eR gJ (by rfl) T.len gj (ai rfl (iJ (N:=["_law_k","_law_sheet_here","_law_every"]) (k:=2) (fr:=[5]) (tJ (jH (dD (by decide)) (jH (dD (by decide)) tI))) rfl ⟨rfl,rfl,rfl,rfl,rfl,rfl⟩ (Fj (by rfl) T.enumerate (ai rfl (ag (pv 5)) ay)) (λ_ _ _ _=>(mT (n:=2) rfl (fI (cb (bZ (i:=0) (show du (α:=Str) ["_law_k","_law_sheet_here","_law_every"] from by decide +kernel) rfl (aS rfl) (cx rfl))) (fI (cb (bZ (i:=1) (show du (α:=Str) ["_law_k","_law_sheet_here","_law_every"] from by decide +kernel) rfl (aS rfl) (cx rfl))) mS)))) (λ_ _ _ _=>(oX (cj (Zx (bq hr)) (ag (pv 1)) (qw (ag (pv 2)) pF (pE (ag (pv 0)))) (by with_unfolding_all rfl)))) (λ_ _ _ _=>(ag (pv 1)))) ay)) bA (bJ _)) (a8 (bS jb)) fM) ?_
 refine aZ (Kj (i:=9) (N:=["_law_name","_law_one","_law_other"]) (k:=1) (fr:=[3,4]) (dD (by decide)) rfl ⟨rfl,rfl,rfl,rfl,rfl,rfl⟩ (NN (ag (pv 3))) (λ_ _ _ _=>(cb (bZ (i:=0) (show du (α:=Str) ["_law_name","_law_one","_law_other"] from by decide +kernel) rfl (aS rfl) (cx rfl)))) (λ_ _ _ _=>(oX (PW.pt (yU (cj (Mn (bq hr)) (ag (pv 0)) (ag (pv 2)) (by with_unfolding_all rfl)) (yT (y9 (bc (Zj T) (hr.mono (by decide)) fV (ai rfl (tO (bq hr) (ag (pv 1)) (ag (pv 0)) (λ_ _=>rfl)) (ai rfl (tO (bq hr) (ag (pv 2)) (ag (pv 0)) (λ_ _=>rfl)) ay))))))))) (λ_ _ _ _=>(ag (pv 0))) SC.nd rfl rfl) ?_
 refine aZ (cS (i:=10) SC.nd rfl (aS rfl) (bc (zW T) (hr.mono (by decide)) R.pass (ai rfl (ag (pv 3)) (ai rfl (ag (pv 4)) ay)))) ?_;refine aZ (e8 (PW.pt (vn (cj (eO (bq hr)) (ag (pv 10)) (bc (zW T) (hr.mono (by decide)) R.pass (ai rfl (ag (pv 4)) (ai rfl (ag (pv 3)) ay))) (bJ _)) (yS (cj (eO (bq hr)) (ja (iX (bq hr)) (ag (pv 10)) (bK (l:=[99,108,97,115,104])) (bJ _)) (ja (eO (bq hr)) (ag (pv 9)) (i9 ay) (bJ _)) (bJ _))))) (a8 (bS jb)) fM) ?_;refine aZ (e8 (cj (eO (bq hr)) (ag (pv 10)) (bK (l:=[99,108,97,115,104])) (bJ _)) (aZ (e8 (cj (eO (bq hr)) (G2 rfl (by rfl) T.sorted (xp rfl (by rfl) T.list (ag (pv 10)) rfl) rfl) (adZ rfl (by rfl) T.sorted (by rfl) T.set (bb cq (xp rfl (by rfl) T.list (ag (pv 3)) rfl) (xp rfl (by rfl) T.list (ag (pv 4)) rfl)) rfl) (bJ _)) (a8 (bS jb)) fM)
   (a8 (e8 (cj (iX (bq hr)) (G2 rfl (by rfl) T.sorted (xp rfl (by rfl) T.list (ag (pv 3)) rfl) rfl) (G2 rfl (by rfl) T.sorted (xp rfl (by rfl) T.list (ag (pv 4)) rfl) rfl) (bJ _)) (aZ (cS (i:=11) SC.nd rfl (cx rfl) (iJ (N:=["_law_sheet_here","_law_other"]) (k:=1) (fr:=[4]) (dD (by decide)) rfl ⟨rfl,rfl,rfl,rfl,rfl,rfl⟩ (mH (ag (pv 5))) (λ_ _ _ _=>(cb (bZ (i:=0) (show du (α:=Str) ["_law_sheet_here","_law_other"] from by decide +kernel) rfl (aS rfl) (cx rfl)))) (λ_ _ _ _=>(oX (y9 (bc (zV T) (hr.mono (by decide)) fV (ai rfl (ag (pv 1)) (ai rfl (ag (pv 0)) ay)))))) (λ_ _ _ _=>(ag (pv 0)))))
   (aZ (cS (i:=12) SC.nd rfl (aS rfl) (bc (EG T) (hr.mono (by decide)) R.pass (ai rfl (ag (pv 10)) ay)))
   (a8 (e8 (PW.pt (vn (cj (eO (bq hr)) (iJ (N:=["_law_sheet_here","_law_due"]) (k:=1) (fr:=[11]) (dD (by decide)) rfl ⟨rfl,rfl,rfl,rfl,rfl,rfl⟩ (mH (ag (pv 12))) (λ_ _ _ _=>(cb (bZ (i:=0) (show du (α:=Str) ["_law_sheet_here","_law_due"] from by decide +kernel) rfl (aS rfl) (cx rfl)))) (λ_ _ _ _=>(oX (cj (Zt (bq hr)) (ag (pv 0)) (ag (pv 1)) (by with_unfolding_all rfl)))) (λ_ _ _ _=>(ag (pv 0)))) (i9 ay) (bJ _)) (yS (cj (eO (bq hr)) (eR gJ (by rfl) T.len gj (ai rfl (ag (pv 11)) ay)) (eR gJ (by rfl) T.len gj (ai rfl (ag (pv 12)) ay)) (bJ _))))) (a8 (bS jb)) fM)))) fM))) fM) ?_
 refine aZ (e8 (PW.pt (yU (cj (eO (bq hr)) (ag (pv 3)) G5 (bJ _)) (yT (cj (eO (bq hr)) (bc (zW T) (hr.mono (by decide)) R.pass (ai rfl (ag (pv 3)) (ai rfl (PJ (prs:=[((pC (.str [122])),(p2 dY (pC (.str [48])) (p2 bI (ae 1) (pC (.int 1)))))]) (LF (bK (l:=[122])) (bb iW (bK (l:=[48])) (bb cq (ag (pv 1)) bA)) (LR)) rfl rfl (by simp) (by decide)) ay))) (bK (l:=[117,110,108,105,107,101])) (bJ _))))) (a8 (bS jb)) fM) ?_;refine aZ (e8 (cj (eO (bq hr)) (bc (zW T) (hr.mono (by decide)) R.pass (ai rfl (PJ (prs:=[((pC (.str [97])),(p2 dY (pC (.str [120])) (pC (.int 7))))]) (LF (bK (l:=[97])) (bb iW (bK (l:=[120])) bA) (LR)) rfl rfl (by simp) (by decide)) (ai rfl PH ay))) (bK (l:=[116,111,111,32,108,111,110,103])) (bJ _)) (a8 (bS jb)) fM) ?_;refine aZ (cS (i:=13) SC.nd rfl (aS rfl) (PL (QS rfl) (by rfl) T.dict L2.boot_dict (ai rfl (iJ (N:=["_law_name","_law_one"]) (k:=1) (fr:=[3]) (dD (by decide)) rfl ⟨rfl,rfl,rfl,rfl,rfl,rfl⟩ (NN (ag (pv 3))) (λ_ _ _ _=>(cb (bZ (i:=0) (show du (α:=Str) ["_law_name","_law_one"] from by decide +kernel) rfl (aS rfl) (cx rfl)))) (λ_ _ _ _=>jZ) (λ_ _ _ _=>(G1 (ai rfl (ag (pv 0)) (ai rfl (bb cq (tO (bq hr) (ag (pv 1)) (ag (pv 0)) (λ_ _=>rfl)) (bK (l:=[48]))) ay))))) ay))) ?_
 refine aZ (e8 (PW.pt (yU (cj (eO (bq hr)) (ag (pv 3)) G5 (bJ _)) (yT (cj zY (bc (zV T) (hr.mono (by decide)) R.pass (ai rfl (ag (pv 3)) (ai rfl (ag (pv 13)) ay))) jb (bJ _))))) (a8 (bS jb)) fM) ?_;refine aZ (Dd (i:=14) SC.nd rfl (aS rfl) (by rfl) T.dict (ag (pv 3)) rfl) ?_;refine aZ (zm (bq hr) (pv 14) (bK (l:=[100])) (bb iW (bK (l:=[48])) (ag (pv 1)))) ?_;refine xH 14 ?_;exact(a8 (bS (ja Zw (bc (zV T) (hr.mono (by decide)) R.pass (ai rfl (ag (pv 3)) (ai rfl (ag (pv 14)) ay))) jb (bJ _))))
end
theorem all_mk (hG:∀ns:List Int,ns.length<=63->uF [.lst (ns.map Dt.int)]=.ok (.bl true)){l:PySem.W.OpenLaw}{w:World}{K:ao}{h:Heap}{mg:Str->Option Value}{fa:Addr}(X:K.In h)(G:h.Ns mainGlobals mg)(hfa:mg "law" = some (.ref fa))
  {Zz Ra:Option Addr} {Vq:Array (Option Value)} {ZC Nc Qx LU Hy QI:Value} {Bt:Addr}
  {xy:Addr}
  {eD:Addr}
  {xF:Addr}
  {xD:Addr}
  {xC:Addr}
  {xB:Addr}
  {eC:Addr}
  {eB:Addr}
  {J7:Tok}
  (Iw:FH K "_law_cell" DZ)
  (Ih:FH K "_law_pick" DV)
  (HZ:FH K "_law_wave" DS)
  (HY:FH K "_law_seldom" DU)
  (HX:FH K "_law_sheet" DT)
  (HW:FH K "_law_hidden" DX)
  (HV:FH K "with_name" DH)
  (HU:FH K "with_each_wave" DJ)
  (HS:FH K "with_level_ahead" DI)
  (HR:FH K "all_known" D7)
  (Iu:FH K "all_sheets" D6)
  (Ir:FH K "_law_word" DR)
  (Iq:FH K "of_one_length" DP)
  (Ip:FH K "refuse_unlike" DO)
  (Io:FH K "clash_at" D5)
  (Im:FH K "clashing" D4)
  (Il:FH K "led_together" DQ)
  (Ik:FH K "sheets_joined" DL)
  (Ij:FH K "_law_joined" DW)
  (Ii:FH K "unknown_of" DK)
  (Ig:FH K "fits" D3)
  (Ie:FH K "fits_at_length" D0)
  (Ic:FH K "sheet_fits" DN)
  (Ib:FH K "sheet_is_known" DM)
  (Ia:FH K "_law_clashes" DY)
  (Bs:cX K mainGlobals "law" = some (some (.ref Bt))) (wu:K.lookup Bt=some ⟨ZC,Zz,.func (gi "law" "law" (iL jt) (fL jt) (aV jt) .none Nc Qx LU Ra Hy QI),Vq⟩) (xG:qV K Hy "law" = true) (wF:oR K (.ref Bt)=true)
  (CC:cX K mainGlobals "len" = some none)
  (CA:cX K mainGlobals "range" = some none)
  (CH:cX K mainGlobals "all" = some none)
  (CB:cX K mainGlobals "list" = some none)
  (Cu:cX K mainGlobals "zip" = some none)
  (CF:cX K mainGlobals "enumerate" = some none)
  (Cz:cX K mainGlobals "reversed" = some none)
  (CD:cX K mainGlobals "isinstance" = some none)
  (CI:cX K mainGlobals "ValueError" = some none)
  (Cy:cX K mainGlobals "set" = some none)
  (Cw:cX K mainGlobals "sorted" = some none)
  (Cv:cX K mainGlobals "sum" = some none)
  (CG:cX K mainGlobals "dict" = some none)
  (GB:cX K mainGlobals "TickError" = some (some (.ref xy)))
  (GI:cX K mainGlobals "Clash" = some (some (.ref eD)))
  (GG:cX K mainGlobals "NoName" = some (some (.ref xF)))
  (GF:cX K mainGlobals "NoText" = some (some (.ref xD)))
  (GD:cX K mainGlobals "NoTick" = some (some (.ref xC)))
  (GC:cX K mainGlobals "NoWave" = some (some (.ref xB)))
  (GA:cX K mainGlobals "TooLong" = some (some (.ref eC)))
  (Gz:cX K mainGlobals "Unlike" = some (some (.ref eB)))
  (GH:cX K mainGlobals "MOST_UNKNOWN" = some (some (.int 6 J7)))
  (rz:excIn K eD kS "ValueError.__new__" = true)
  (rq:excIn K eC kS "ValueError.__new__" = true)
  (ro:excIn K eB kS "ValueError.__new__" = true)
  (uj:isClsIn K eD=true)
  (ug:findIn K (.ref eD) "__getattribute__" = some (some (.builtin "BaseException.__getattribute__")))
  (ud:findIn K (.ref eD) "__getattr__" = some none)
  (ua:findIn K (.ref eD) "__class__" = some (some (.builtin "object.__class__")))
  (t7:specialIn K (.builtin "object.__class__") "__get__" = some (some (.builtin "getset_descriptor.__get__")))
  (t4:takesIn K (.builtin "object.__class__")=some true)
  (tX:mroIn K eD (.type "object")=some true)
  (tU:mroIn K eD (.type "BaseException")=some true)
  (sR:exmOne K (.ref eD) (.ref xy)=some true)
  (r6:kitOne K (.ref eD) (.ref eD)=some true)
  (rX:kitOne K (.ref eD) (.ref xF)=some false)
  (rS:kitOne K (.ref eD) (.ref xD)=some false)
  (rP:kitOne K (.ref eD) (.ref xC)=some false)
  (rM:kitOne K (.ref eD) (.ref xB)=some false)
  (rJ:kitOne K (.ref eD) (.ref eC)=some false)
  (rF:kitOne K (.ref eD) (.ref eB)=some false)
  (se:kitOne K (.ref eD) (.type "ValueError")=some true)
  (ui:isClsIn K eC=true)
  (uf:findIn K (.ref eC) "__getattribute__" = some (some (.builtin "BaseException.__getattribute__")))
  (uc:findIn K (.ref eC) "__getattr__" = some none)
  (t9:findIn K (.ref eC) "__class__" = some (some (.builtin "object.__class__")))
  (t6:specialIn K (.builtin "object.__class__") "__get__" = some (some (.builtin "getset_descriptor.__get__")))
  (tZ:takesIn K (.builtin "object.__class__")=some true)
  (tW:mroIn K eC (.type "object")=some true)
  (tT:mroIn K eC (.type "BaseException")=some true)
  (sQ:exmOne K (.ref eC) (.ref xy)=some true)
  (rZ:kitOne K (.ref eC) (.ref eD)=some false)
  (rW:kitOne K (.ref eC) (.ref xF)=some false)
  (rR:kitOne K (.ref eC) (.ref xD)=some false)
  (rO:kitOne K (.ref eC) (.ref xC)=some false)
  (rL:kitOne K (.ref eC) (.ref xB)=some false)
  (rH:kitOne K (.ref eC) (.ref eC)=some true)
  (rE:kitOne K (.ref eC) (.ref eB)=some false)
  (sd:kitOne K (.ref eC) (.type "ValueError")=some true)
  (uh:isClsIn K eB=true)
  (ue:findIn K (.ref eB) "__getattribute__" = some (some (.builtin "BaseException.__getattribute__")))
  (ub:findIn K (.ref eB) "__getattr__" = some none)
  (t8:findIn K (.ref eB) "__class__" = some (some (.builtin "object.__class__")))
  (t5:specialIn K (.builtin "object.__class__") "__get__" = some (some (.builtin "getset_descriptor.__get__")))
  (tY:takesIn K (.builtin "object.__class__")=some true)
  (tV:mroIn K eB (.type "object")=some true)
  (tS:mroIn K eB (.type "BaseException")=some true)
  (sP:exmOne K (.ref eB) (.ref xy)=some true)
  (rY:kitOne K (.ref eB) (.ref eD)=some false)
  (rV:kitOne K (.ref eB) (.ref xF)=some false)
  (rQ:kitOne K (.ref eB) (.ref xD)=some false)
  (rN:kitOne K (.ref eB) (.ref xC)=some false)
  (rK:kitOne K (.ref eB) (.ref xB)=some false)
  (rG:kitOne K (.ref eB) (.ref eC)=some false)
  (rD:kitOne K (.ref eB) (.ref eB)=some true)
  (r9:kitOne K (.ref eB) (.type "ValueError")=some true) :
  ∃fd:FuncData,(∀(s:Shared) (v:Value),BindsTo s fd ⟨[v],[]⟩ [("_law_script",v)])/\∀base:Heap,K.In base->base.Ns mainGlobals mg->fN l.prog w K mg base (bD l.prog w) 7 fa fd ["_law_script"] (vD K):=by
 have T:Tx K mg (λn=>match n with | 8=>xy | 0=>eD | 1=>xF | 2=>xD | 3=>xC | 4=>xB | 5=>eC | 6=>eB | _=>0):={
  len:=iP X G CC
  range:=iP X G CA
  all:=iP X G CH
  list:=iP X G CB
  zip:=iP X G Cu
  enumerate:=iP X G CF
  reversed:=iP X G Cz
  isinstance:=iP X G CD
  ValueError:=iP X G CI
  set:=iP X G Cy
  sorted:=iP X G Cw
  sum:=iP X G Cv
  dict:=iP X G CG
  Rt:=jl X G GB
  Jc:=jl X G GI
  RQ:=jl X G GG
  RP:=jl X G GF
  RO:=jl X G GD
  RN:=jl X G GC
  IA:=jl X G GA
  Iy:=jl X G Gz
  IT:=⟨J7,jl X G GH⟩
  Pz:=Iw.ko X G λ_ _ _ _ _ _ _ _=>rfl
  Pu:=Ih.GU X G λ_ _ _ _ _ _ _ _ _=>rfl
  Pq:=HZ.GS X G λ_ _ _ _ _ _ _ _ _ _=>rfl
  Pt:=HY.GS X G λ_ _ _ _ _ _ _ _ _ _=>rfl
  Pr:=HX.fn5 X G λ_ _ _ _ _ _ _ _ _ _ _=>rfl
  Px:=HW.GS X G λ_ _ _ _ _ _ _ _ _ _=>rfl
  O8:=HV.GU X G λ_ _ _ _ _ _ _ _ _=>rfl
  O9:=HU.GU X G λ_ _ _ _ _ _ _ _ _=>rfl
  A9:=HS.ko X G λ_ _ _ _ _ _ _ _=>rfl
  Po:=HR.qr X G λ_ _ _ _ _ _ _=>rfl
  Pn:=Iu.qr X G λ_ _ _ _ _ _ _=>rfl
  Pp:=Ir.qr X G λ_ _ _ _ _ _ _=>rfl
  Pf:=Iq.qr X G λ_ _ _ _ _ _ _=>rfl
  Pe:=Ip.qr X G λ_ _ _ _ _ _ _=>rfl
  Pm:=Io.ko X G λ_ _ _ _ _ _ _ _=>rfl
  Pl:=Im.ko X G λ_ _ _ _ _ _ _ _=>rfl
  Ph:=Il.ko X G λ_ _ _ _ _ _ _ _=>rfl
  Pb:=Ik.ko X G λ_ _ _ _ _ _ _ _=>rfl
  Pw:=Ij.ko X G λ_ _ _ _ _ _ _ _=>rfl
  Pa:=Ii.qr X G λ_ _ _ _ _ _ _=>rfl
  Pk:=Ig.ko X G λ_ _ _ _ _ _ _ _=>rfl
  Pj:=Ie.ko X G λ_ _ _ _ _ _ _ _=>rfl
  Pd:=Ic.ko X G λ_ _ _ _ _ _ _ _=>rfl
  Pc:=Ib.qr X G λ_ _ _ _ _ _ _=>rfl
  Py:=Ia.ko X G λ_ _ _ _ _ _ _ _=>rfl
  adR:=⟨Bt,_,AY (st:=jt) wu xG wF,jl X G Bs,(AY (st:=jt) wu xG wF).binds (ps:=["_law_script"]) λ_ _ _ _ _ _ us hl=>match us,hl with | [_],_=>rfl⟩
  rz:=rz
  rq:=rq
  ro:=ro
  uj:=uj
  ug:=ug
  ud:=ud
  ua:=ua
  t7:=t7
  t4:=t4
  tX:=tX
  tU:=tU
  sR:=sR
  r6:=r6
  rX:=rX
  rS:=rS
  rP:=rP
  rM:=rM
  rJ:=rJ
  rF:=rF
  se:=se
  ui:=ui
  uf:=uf
  uc:=uc
  t9:=t9
  t6:=t6
  tZ:=tZ
  tW:=tW
  tT:=tT
  sQ:=sQ
  rZ:=rZ
  rW:=rW
  rR:=rR
  rO:=rO
  rL:=rL
  rH:=rH
  rE:=rE
  sd:=sd
  uh:=uh
  ue:=ue
  ub:=ub
  t8:=t8
  t5:=t5
  tY:=tY
  tV:=tV
  tS:=tS
  sP:=sP
  rY:=rY
  rV:=rV
  rQ:=rQ
  rN:=rN
  rK:=rK
  rG:=rG
  rD:=rD
  r9:=r9
 }
 refine⟨gi "law" "law" (iL jt) (fL jt) (aV jt) .none Nc Qx LU Ra Hy QI,λs v=>.of_eq rfl,λbase _ _=>?_⟩
 have e:=hfa.symm.trans (jl X G Bs);cases e;exact Y8 (P:=l.prog) (w:=w) (base:=base) hG T (AY (st:=jt) wu xG wF)
theorem walk {l:PySem.W.OpenLaw}{q:Program}{loose:List Str}{XP:(Str->Option Value)->Heap->Prop}{YP:World->Heap->Prop}{d:DefRec}{K:Params->ao}(hn:l.most=some 63)(w8:d.params.defaults=[])
  (hY:∀(w:World) (h:Heap),YP w h->(K w.params).In h)
  (F:∀(w:World) (mg:Str->Option Value) (fa:Addr) (h:Heap),(K w.params).In h->h.Ns mainGlobals mg->mg d.name=some (.ref fa)->
   ∃fd:FuncData,(∀(s:Shared) (u:Value),BindsTo s fd ⟨[u],[]⟩ [("_law_script",u)])/\∀base:Heap,(K w.params).In base->base.Ns mainGlobals mg->fN l.prog w (K w.params) mg base (bD l.prog w) 7 fa fd ["_law_script"] (vD (K w.params))) :
  PySem.W.WalkO q loose XP YP l.row.toRowW d [] (λf vs=>PySem.call f vs):=
 L2.Th (n:=63) (k:=7) (x:="_law_script") (CX:=λw=>bD l.prog w) (sp:=λw=>vD (K w.params)) hn (by decide) w8 ⟨rfl,by decide,by decide,rfl⟩ hY F (λ_ _ a ns hl _ hS=>⟨a,ns,rfl,⟨hS,hl⟩,λ_=>rfl⟩) λ_ _ _ _ _ z=>by
  obtain⟨ea,C,H',B,a0,_,_,_,_,_,_,_,_,_,hE⟩:=z;exact hE
end uB
open PySem PySem.W PyProof.Rows
local macro_rules
 | `(tactic| exists fh_) => `(tactic| (refine' L2.FH.mk ?x1 ?x2 ?x3 ?x4; (case x1 => k_is); (case x2 => k_is); (case x3 => k_is); (case x4 => k_is)))
local macro_rules
 | `(tactic| exists kk_) => `(tactic| first | k_is | kit_is | kts_exm | k_exc)
def PySem.W.Fast.tw8458902818587587325:Unit:=()
def PySem.W.Fast.tw15129961020715551196:Unit:=()
def PySem.W.Fast.tw14697051904323170374:Unit:=()
def PySem.W.Fast.tw4146381931937285088:Unit:=()
def PySem.W.Fast.tw8164467275790281886:Unit:=()
def PySem.W.Fast.tw18383075501873469375:Unit:=()
def PySem.W.Fast.tw5172826296738873089:Unit:=()
def PySem.W.Fast.tw13210282722645601260:Unit:=()
def PySem.W.Fast.tw3082476475657788328:Unit:=()
def PySem.W.Fast.tw6514240827886160486:Unit:=()
def PySem.W.Fast.tw7331860109666747949:Unit:=()
def PySem.W.Fast.tw2976072168447110996:Unit:=()
def PySem.W.Fast.tw5494437556737314891:Unit:=()
def PySem.W.Fast.tw12511417118250813606:Unit:=()
def PySem.W.Fast.tw12957481520949827116:Unit:=()
def PySem.W.Fast.tw12851832380797167918:Unit:=()
def PySem.W.Fast.tw13255415488398460085:Unit:=()
def PySem.W.Fast.tw8673043743504493241:Unit:=()
def PySem.W.Fast.tw15488456093392880501:Unit:=()
def PySem.W.Fast.tw11952791645812653746:Unit:=()
def PySem.W.Fast.tw7951333535859731343:Unit:=()
def PySem.W.Fast.tw5828798136165851010:Unit:=()
def PySem.W.Fast.tw13981456593708601975:Unit:=()
def PySem.W.Fast.tw2861029761824109112:Unit:=()
def PySem.W.Fast.tw7680709074701716780:Unit:=()
def PySem.W.Fast.tw3007139131995211543:Unit:=()
def PySem.W.Fast.tw13819680664788833310:Unit:=()
def PySem.W.Fast.tw4497205246351152489:Unit:=()
def PySem.W.Fast.tw18372572194918145696:Unit:=()
def PySem.W.Fast.tw13302395657608118886:Unit:=()
def PySem.W.Fast.tw13929679940142364596:Unit:=()
def PySem.W.Fast.tw163376160871520874:Unit:=()
def PySem.W.Fast.tw14113953827984551151:Unit:=()
def PySem.W.Fast.tw15007645904534963195:Unit:=()
def PySem.W.Fast.tw5579727788253149858:Unit:=()
def PySem.W.Fast.tw17816198826586108503:Unit:=()
set_option maxRecDepth 100000 in
set_option maxHeartbeats 0 in
theorem PySem.Challenge.cw_tickrows_k51_whole_sheets_together_holds : PySem.Challenge.rw_tickrows_k51_whole_sheets_together.Holds := by
 w_on; o_law; k_head; (case hw=>w_witness2)
 k_fill
 refine uB.walk (l:=PySem.Challenge.rw_tickrows_k51_whole_sheets_together) rfl rfl (λw h Y=>PySem.W.kIn_of Y) ?F
 case F=>
  intro w mg fa h KX G wU
  refine' uB.all_mk uB.aaJ KX G wU ?Iw ?Ih ?HZ ?HY ?HX ?HW ?HV ?HU ?HS ?HR ?Iu ?Ir ?Iq ?Ip ?Io ?Im ?Il ?Ik ?Ij ?Ii ?Ig ?Ie ?Ic ?Ib ?Ia ?Bs ?wu ?xG ?wF ?CC ?CA ?CH ?CB ?Cu ?CF ?Cz ?CD ?CI ?Cy ?Cw ?Cv ?CG ?GB ?GI ?GG ?GF ?GD ?GC ?GA ?Gz ?GH ?rz ?rq ?ro ?uj ?ug ?ud ?ua ?t7 ?t4 ?tX ?tU ?sR ?r6 ?rX ?rS ?rP ?rM ?rJ ?rF ?se ?ui ?uf ?uc ?t9 ?t6 ?tZ ?tW ?tT ?sQ ?rZ ?rW ?rR ?rO ?rL ?rH ?rE ?sd ?uh ?ue ?ub ?t8 ?t5 ?tY ?tV ?tS ?sP ?rY ?rV ?rQ ?rN ?rK ?rG ?rD ?r9
  (case Iw|Ih|HZ|HY|HX|HW|HV|HU|HS|HR|Iu|Ir|Iq|Ip|Io|Im|Il|Ik|Ij|Ii|Ig|Ie|Ic|Ib|Ia=>exists fh_)
  (case Bs|wu|xG|wF|CC|CA|CH|CB|Cu|CF|Cz|CD|CI|Cy|Cw|Cv|CG|GB|GI|GG|GF|GD|GC|GA|Gz|GH|rz|rq|ro|uj|ug|ud|ua|t7|t4|tX|tU|sR|r6|rX|rS|rP|rM|rJ|rF|se|ui|uf|uc|t9|t6|tZ|tW|tT|sQ|rZ|rW|rR|rO|rL|rH|rE|sd|uh|ue|ub|t8|t5|tY|tV|tS|sP|rY|rV|rQ|rN|rK|rG|rD|r9=>exists kk_)
