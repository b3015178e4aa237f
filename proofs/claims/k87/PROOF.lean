import PyProof.Rows.All
import Wide.All
import OpenK.AllK
import Wide.FinOn
import Lean
import PyProof.EqAt
import PyProof.EqKinds
import PyProof.TupleCall
import PyProof.ConsumeWalk
import PyProof.StrWalks
import PyProof.IsiPairs
import PyProof.IsiHeapPairs
import KE.KEqDict
import PyProof.NeKinds
import PyProof.FactsAll.dict
import KE.KIsAll
import KE.KTryMore
import PyProof.FString
import PyProof.ExcBaseAll.ValueError
import PyProof.NsDelKeeps
import PyProof.ListStr
import PyProof.Rows.StrJoin2
import KE.RegKIsAll
import KE.RegKTryMore
import PyProof.StrOps2
import PyProof.ZipIter
import PyProof.Rows.FactsT2
import PyProof.WalksEnum
import PyProof.EnumMake
import PyProof.Draws
import KE.KUnpack
import PyProof.CallType
import PyProof.CollectIter
import PyProof.JoinWalk
import PyProof.Rows.StrJoinStr
import PyProof.DictRoads
import PyProof.DictKinds
import PyProof.DictStraight
import PyProof.DictDisplay
import PyProof.ReprRoads
import PyProof.ReprLen
import PyProof.SetRoads
import PyProof.Rows.SetFrom
import PyProof.MinMaxWalk
import PyProof.Rows.CallKwBuiltin
import KE.KMinKey
import PyProof.StrLawsChain
import PyProof.StrLawsTight
import PyProof.Rows.StrNews
import PyProof.Rows.StrSplitCount
import PyProof.DictCalls
import PyProof.SliceSyntax
import PyProof.SumWalk
import PyProof.ReprStr
import PyProof.StrLawsRepr
import KE.KLam
import PyProof.SetKind
import PyProof.CollectWalk
import PyProof.Rows.SortStr
import PyProof.StrLawsReplace
import PyProof.DictWalks
import PyProof.DictItems
import PyProof.DictItemsLoops
import KE.KPairComp
import PyProof.IsiH_list
import KE.KDictOf
import KE.KItemsList
import PyProof.ListNew
import PyProof.SetScanFacts
import PyProof.MeetsSeq2
import PyProof.FactsAll.subtypes_5
import PyProof.ReprHeadsTuple
import PyProof.FString4
import PySem.Challenge.RW_tickrows_k87_whole_boards_back
open PySem.W renaming Frag→ah,nsIn→cV,mg_of→eS,mg_none_of→jn,fnOf→gc,emptyDict→nJ,keepIn→l9,findIn→nG,instObj→oX,codeIn→oV,cellsFrom_some→wz,callWith_K→zM,plainGet→zF,plainGet_of→Dl,lookIn→zx,methodObj→Di,hasDictIn→Dh
open PySem.Heap renaming get?_push_of_some→aZ,lt_size→a6,get?_push_size→cS,size_push→kH,SameBut→kG,FlyingW→qD,get?_update_self→zV,get?_update_other→Dz
open List renaming mem_cons_self→bN,mem_cons→bf,mem_cons_of_mem→cG,replicate→bM,map_cons→bI,getElem?_eq_some_iff→eF,mem_append_right→eE,mem_append_left→ej,length_cons→eh,all_eq_true→eg,length_map→ef,filterMap_cons→gf,mem_append→eD,mem_map→dF,size_toArray→fN,not_mem_nil→fw,getElem?_eq_getElem→kN,length_append→iO,getElem?_set_ne→jW,mem_of_getElem?→jV,mem_singleton→jo,find?_cons→iL,length_pos_iff→kL,getElem?_map→jT,range→fm,lookup_cons→jS,Nodup→fL,mem_filter→jR,map_nil→iK,length_filter_le→o5,append_nil→kJ,forall_mem_cons→o4,getElem?_append_right→sY,getElem?_set_self→qz,append_assoc→nK,length_nil→ma,getElem?_append_left→sX,length_eq_zero_iff→sW,nil_append→nH,drop_eq_getElem_cons→wB,nodup_cons→oY,all_cons→nF,map_map→nE,length_replicate→wy,getD_eq_getElem?_getD→zo,any_cons→oU,length_take→tE,foldl_cons→tD,map_append→tw,set→kO,filter_eq_nil_iff→zY,filter_cons→wI,length_drop→wH,drop_length→wG,lookup→qC,getLastD_eq_getLast?→DF,getLast?_eq_getElem?→DE,of_mem_zip→wF,mem_filterMap→zN,eq_of_mem_replicate→DD,getElem?_replicate→DB,cons_append→zH,getElem_mem→zG,length_singleton→Dy,mem_of_getLast?→Dx,forIn_cons→zC,length_dropLast→Dv,getElem_toArray→Du,replicate_succ→Ds,replicate_zero→Dr,getElem?_range→Dq,eraseDups_cons→Dp,ext_getElem?→Dj
open Nat renaming le_refl→bb,lt_of_lt_of_le→cH,ne_of_lt→bQ,le_trans→cK,lt_irrefl→fM,zero_le→gX,le_add_right→kK,add_sub_cancel_left→wA,not_lt→nM,le_of_lt→tm,lt_trans→tj,lt_of_le_of_lt→zL,lt_succ_of_lt→zI,le_succ→ti,lt_succ_self→zE,ne_of_gt→wC
open Bool renaming false_eq_true→du,false_ne_true→gy,eq_iff_iff→kI,and_eq_true→oZ,and_eq_true_iff→zT,not_true→tu,not_false→wD,true_and→zw
open PySem.Value renaming ref→bO,isStrOf→fo,none→gW,type→o8,builtin→tq,str→qB
open Or renaming inl→bq,inr→dD
open Option renaming isSome_iff_exists→jr,map_eq_some_iff→jq,getD_some→tF,isSome_some→wL,isSome_map→wK,isSome_none→zO
open Ne renaming symm→cb
open PySem renaming boot_len→ft,mem_of_lookup→jU
open False renaming elim→dN
open Option.some renaming inj→iu,injEq→wJ
open PySem.Builtin.Dict renaming dictSlotArgs→o7
open PySem.Builtin.SmallTypes renaming nextOf→o6,ownedTupleIsFree→zp,ownedTupleHandOut→LA
open PySem.Calls renaming spliced_cons→md,spliced_nil→nI,callWith_builtin→zX,evalArgs_plain→zU,Name_function_global→DH
open PyProof.Rows renaming callWith_type1→sZ,callWith_builtin1→DI
open PySem.F renaming plainAttrs_list→qA,called_set→o3,slot_tuple_iterator_next→zm,slot_list_getattribute→z0,slot_list_append→zZ,slot_dict_get→zW,slot_dict_eq→zR,slot_dict_ne→zQ,type_list_append→DC,plainAttrs_dict→DA,slot_zip_next→zy
open Array renaming toList→jm,getElem?_eq_some_iff→DG
open PySem.PyData renaming keyHash→l7
open ForInStep renaming yield→oW
open PyProof.Rows.F renaming plain_set_update_loop→Dg,entry_set_update_loop→Ly
open PySem.NameKind renaming cell→oS,free→qE
open True renaming intro→me
open PySem.Str renaming length→nO
open PySem.SeqAt renaming EqAt→nN,RcNeAt→zq
open PySem.Around renaming under_plainId→zS,frames_deeper→Dw,under→zr
open Int renaming emod_lt_of_pos→zP,toNat_natCast→zJ,emod_nonneg→zD
open PySem.Obj renaming data_mapFields→zK
open List.Nodup renaming length_le_of_subset→Lx
open PySem.Heap.SameBut renaming update→Dk
open PySem.Paired renaming length→zt
open PySem.Builtin.ObjectAttr renaming bindTo→Lw,find→Lv
section
set_option Elab.async false
set_option compiler.extract_closed false
set_option linter.all false
set_option maxRecDepth 100000
namespace L2
inductive Dt where
 |aK | bl (b:Bool) | int (i:Int) | str (l:List Nat) | tup (ds:List Dt) | lst (ds:List Dt)
 |aj (kvs:List (List Nat×List Nat))
def az {α β:Type}[BEq α](kvs:List (α×β))(k:α):Option β:=(kvs.find? fun p=>p.1==k).map (·.2)
def oH (ka kb:List (List Nat×List Nat)):Bool:=ka.length==kb.length&&ka.all fun p=>az kb p.1==some p.2
def qh (ka kb:List (List Nat×List Nat)):Bool:=ka==kb || oH ka kb
mutual
def bZ:Dt->Dt->Bool
 |.aK,.aK=>true
 |.bl a,.bl b=>a==b
 |.int a,.int b=>a==b
 |.bl a,.int b=>(if a then 1 else 0)==b
 |.int a,.bl b=>a==(if b then 1 else 0)
 |.str a,.str b=>a==b
 |.tup a,.tup b=>iI a b
 |.lst a,.lst b=>iI a b
 |.aj a,.aj b=>qh a b
 |_,_=>false
def iI:List Dt->List Dt->Bool
 | [],[]=>true
 |a::r,b::t=>bZ a b&&iI r t
 |_,_=>false
end
mutual
def dep:Dt->Nat
 |.tup ds=>fG ds+1
 |.lst ds=>fG ds+1
 |.aj _=>1
 |_=>0
def fG:List Dt->Nat
 | []=>0
 |d::ds=>max (dep d) (fG ds)
end
mutual
def sm:Dt->Prop
 |.str l=>l.length<=10000
 |.tup ds=>ds.length<=10000/\bw ds
 |.lst ds=>ds.length<=10000/\bw ds
 |.aj kvs=>kvs.length<=10000/\∀p∈kvs,p.1.length<=10000/\p.2.length<=10000
 |_=>True
def bw:List Dt->Prop
 | []=>True
 |d::ds=>sm d/\bw ds
end
theorem hV {d:Dt}:∀{ds:List Dt},bw ds->d∈ds->sm d
 |e::ds,h,hd=>by
  simp only [bw] at h;rcases bf.mp hd with z | z
  ·subst z; exact h.1
  ·exact hV h.2 z
theorem mr:∀{ds:List Dt},(∀d∈ds,sm d)->bw ds
 | [],_=>by simp only [bw]
 |d::ds,h=>by
  simp only [bw];exact⟨h d bN,mr fun e he=>h e (cG _ he)⟩
theorem qU {a b:List Dt}(ha:bw a)(hb:bw b):bw (a++b):=mr fun d hd=>by
 rcases eD.mp hd with h | h
 ·exact hV ha h
 ·exact hV hb h
inductive M (α:Type) where
 |ok (a:α) | ex (c:Nat) | bad
def M.bd {α β:Type}:M α->(α->M β)->M β
 |.ok a,k=>k a
 |.ex c,_=>.ex c
 |.bad,_=>.bad
def M.calm {α:Type}:M α->M α
 |.ex _=>.bad
 |m=>m
@[simp] theorem bG {α β:Type}(a:α)(k:α->M β):(M.ok a).bd k=k a:=.trans rfl rfl
@[simp] theorem agM {α β:Type}(c:Nat)(k:α->M β):(M.ex c).bd k=.ex c:=.trans rfl rfl
@[simp] theorem agN {α β:Type}(k:α->M β):(M.bad).bd k=.bad:=.trans rfl rfl
@[simp] theorem jc {α:Type}(a:α):(M.ok a).calm=.ok a:=.trans rfl rfl
@[simp] theorem agi {α:Type}:(M.bad:M α).calm=.bad:=.trans rfl rfl
theorem akL {α β:Type}(c:Prop)[Decidable c](a b:M α)(k:α->M β):(if c then a else b).bd k=if c then a.bd k else b.bd k:=by split <;> rfl
theorem agO {α β γ:Type}(m:M α)(f:α->M β)(g:β->M γ):(m.bd f).bd g=m.bd fun a=>(f a).bd g:=by cases m <;> rfl
inductive Bd where
 |no | val (d:Dt) | own (ds:List Dt) | cg (kvs:List (List Nat×List Nat))
 |aW (dn un:List Dt)
 |bor (p:Option Nat) (dn un:List Dt)
abbrev aa:=List Bd
def gv:Option Bd->M Dt
 |some (.val d)=>.ok d
 |_=>.bad
def ae (i:Nat)(ρ:aa):M Dt:=gv ρ[i]?
def nZ (i:Nat)(d:Dt)(ρ:aa):aa:=ρ.set i (.val d)
def D8:Option Bd->Bd
 |some (.val d)=>.val d
 |_=>.no
def cf (k:Nat)(fr:List Nat)(ρ:aa):aa:=bM k .no++fr.map fun j=>D8 ρ[j]?
def pC (d:Dt):aa->M Dt:=fun _=>.ok d
def p2 (op:Dt->Dt->M Dt)(f g:aa->M Dt):aa->M Dt:=fun ρ=>(f ρ).bd fun x=>(g ρ).bd fun y=>op x y
def p1 (op:Dt->M Dt)(f:aa->M Dt):aa->M Dt:=fun ρ=>(f ρ).bd op
def mq (l:List Nat):M Dt:=if l.length<=10000 then .ok (.str l) else .bad
def g7 (l:List Dt):M Dt:=if l.length<=10000 then .ok (.lst l) else .bad
def bR:Dt->Dt->M Dt
 |.int a,.int b=>.ok (.int (a+b))
 |.str a,.str b=>mq (a++b)
 |.lst a,.lst b=>g7 (a++b)
 |_,_=>.bad
def n8:Dt->Dt->M Dt
 |.int a,.int b=>.ok (.int (a - b))
 |_,_=>.bad
def Aq (a:Int):Prop:=-(2 ^ 64)<a/\a<2 ^ 64
instance (a:Int):Decidable (Aq a):=by unfold Aq; infer_instance
def jD:Dt->Dt->M Dt
 |.int a,.int b=>if Aq a∨Aq b then .ok (.int (a * b)) else .bad
 |.str a,.int n=>if -1000<=n/\n<=1000/\a.length<=1000 then mq (bM n.toNat a).flatten else .bad
 |_,_=>.bad
def oMod:Dt->Dt->M Dt
 |.int a,.int b=>if 0<b then .ok (.int (a % b)) else .bad
 |_,_=>.bad
def oDiv:Dt->Dt->M Dt
 |.int a,.int b=>if 0<b/\b<1073741824 then .ok (.int (a / b)) else .bad
 |_,_=>.bad
def aay:Dt->Dt->M Dt
 |.int a,.int b=>if 0<=b/\b<=1000/\a.natAbs<2 ^ 64 then .ok (.int (a ^ b.toNat)) else .bad
 |_,_=>.bad
def aaw:Dt->Dt->M Dt
 |.int a,.int b=>if 0<=b then .ok (.int (a / 2 ^ b.toNat)) else .bad
 |_,_=>.bad
def aaC:Dt->M Dt
 |.int a=>if 0<=a then .ok (.int (a % 2)) else .bad
 |_=>.bad
def xC:Dt->M Dt
 |.int a=>.ok (.int (-a))
 |_=>.bad
def oLt:Dt->Dt->M Dt
 |.int a,.int b=>.ok (.bl (decide (a<b)))
 |_,_=>.bad
def oLe:Dt->Dt->M Dt
 |.int a,.int b=>.ok (.bl (decide (a<=b)))
 |_,_=>.bad
def mG:Dt->Dt->M Dt
 |.int a,.int b=>.ok (.bl (decide (b<a)))
 |_,_=>.bad
def oGe:Dt->Dt->M Dt
 |.int a,.int b=>.ok (.bl (decide (b<=a)))
 |_,_=>.bad
def oEq (a b:Dt):M Dt:=if dep a<=50 then .ok (.bl (bZ a b)) else .bad
def c8 (a b:Dt):M Dt:=if dep a<=50 then .ok (.bl (!bZ a b)) else .bad
def m9:Dt->Bool
 |.aK=>true
 |.bl _=>true
 |.int _=>true
 |.str _=>true
 |_=>false
def gi:Dt->Dt->M Dt
 |.str [c],.str l=>.ok (.bl (decide (c∈l)))
 |a,.lst ds=>if m9 a=true/\ds.all m9=true then .ok (.bl (ds.any fun d=>bZ d a)) else .bad
 |a,.tup ds=>if m9 a=true/\ds.all m9=true then .ok (.bl (ds.any fun d=>bZ d a)) else .bad
 |_,_=>.bad
def xB:Dt->M Dt
 |.bl b=>.ok (.bl (!b))
 |_=>.bad
def xA (a b:Dt):M Dt:=(gi a b).bd xB
def PF:Dt->Bool
 |.aK=>true
 |_=>false
def A4 (a b:Dt):M Dt:=match b with
 |.aK=>.ok (.bl (PF a))
 |.bl y=>(match a with | .bl x=>.ok (.bl (x==y)) | _=>.bad)
 |_=>.bad
def aaz (a b:Dt):M Dt:=(A4 a b).bd xB
def uW (n:Nat)(i:Int):Option Nat:=if 0<=i then (if i<n then some i.toNat else none) else if -(n:Int)<=i then some (i+n).toNat else none
def cy {α:Type}(xs:List α)(i:Int):Option α:=(uW xs.length i).bind fun j=>xs[j]?
def Bq:Option Nat->M Dt
 |some c=>.ok (.str [c])
 |none=>.bad
def rJ:Option Dt->M Dt
 |some d=>.ok d
 |none=>.bad
def aO:Dt->Dt->M Dt
 |.str l,.int i=>Bq (cy l i)
 |.lst l,.int i=>rJ (cy l i)
 |.tup l,.int i=>rJ (cy l i)
 |_,_=>.bad
def xm (n d:Nat):Option Int->Nat
 |none=>d
 |some i=>if i<0 then (i+n).toNat else min i.toNat n
def jL {α:Type}(l:List α)(lo hi:Option Int):List α:=(l.drop (xm l.length 0 lo)).take (xm l.length l.length hi - xm l.length 0 lo)
def N6 (lo hi:Option Int):Dt->M Dt
 |.str l=>.ok (.str (jL l lo hi))
 |.lst l=>.ok (.lst (jL l lo hi))
 |_=>.bad
def PL:Dt->M Int
 |.int i=>.ok i
 |_=>.bad
def gG:Option (aa->M Dt)->aa->M (Option Int)
 |none,_=>.ok none
 |some f,ρ=>(f ρ).bd fun d=>(PL d).bd fun i=>.ok (some i)
def pG (f:aa->M Dt)(lo hi:aa->M (Option Int)):aa->M Dt:=fun ρ=>(f ρ).bd fun d=>(lo ρ).bd fun a=>(hi ρ).bd fun b=>N6 a b d
def jx:Dt->M Bool
 |.bl b=>.ok b
 |_=>.bad
def aU (f:aa->M Dt):aa->M Bool:=fun ρ=>(f ρ).bd jx
def ur (f:aa->M Bool):aa->M Bool:=fun ρ=>(f ρ).bd fun b=>.ok (!b)
def Wg (f g:aa->M Bool):aa->M Bool:=fun ρ=>(f ρ).bd fun b=>if b=true then g ρ else .ok false
def iS (f g:aa->M Bool):aa->M Bool:=fun ρ=>(f ρ).bd fun b=>if b=true then .ok true else g ρ
def Zg (f g:aa->M Dt):aa->M Dt:=fun ρ=>(f ρ).bd fun d=>(jx d).bd fun b=>if b=true then g ρ else .ok (.bl false)
def Ze (f g:aa->M Dt):aa->M Dt:=fun ρ=>(f ρ).bd fun d=>(jx d).bd fun b=>if b=true then .ok (.bl true) else g ρ
def ig (c:aa->M Bool)(f g:aa->M Dt):aa->M Dt:=fun ρ=>(c ρ).bd fun b=>if b=true then f ρ else g ρ
def AV (op cU:Dt->Dt->M Dt)(f g h:aa->M Dt):aa->M Dt:=fun ρ=>(f ρ).bd fun x=>(g ρ).bd fun y=>(op x y).bd fun d=>(jx d).bd fun b=>if b=true then (h ρ).bd fun z=>cU y z else .ok (.bl false)
def aq:aa->M (List Dt):=fun _=>.ok []
def af (f:aa->M Dt)(g:aa->M (List Dt)):aa->M (List Dt):=fun ρ=>(f ρ).bd fun d=>(g ρ).bd fun ds=>.ok (d::ds)
def er (f:aa->M (List Dt)):aa->M Dt:=fun ρ=>(f ρ).bd fun ds=>g7 ds
def eZ (f:aa->M (List Dt)):aa->M Dt:=fun ρ=>(f ρ).bd fun ds=>if ds.length<=10000 then .ok (.tup ds) else .bad
def uF (ds:List Dt):Dt->M Dt
 |.int n=>if -1000<=n/\n<=1000/\ds.length * n.toNat<=10000 then .ok (.lst (bM n.toNat ds).flatten) else .bad
 |_=>.bad
def Zc (f:aa->M (List Dt))(g:aa->M Dt):aa->M Dt:=fun ρ=>(f ρ).bd fun ds=>if ds.length<=10000 then (g ρ).bd (uF ds) else .bad
def aP (F:List Dt->M Dt)(f:aa->M (List Dt)):aa->M Dt:=fun ρ=>(f ρ).bd F
def dM:List Dt->M Dt
 | [.str l]=>.ok (.int l.length)
 | [.lst l]=>.ok (.int l.length)
 | [.tup l]=>.ok (.int l.length)
 |_=>.bad
def wg:List Dt->M Dt
 | [.int i,.int j]=>.ok (.int (if j<i then j else i))
 |_=>.bad
def yQ:List Dt->M Dt
 | [.int i,.int j]=>.ok (.int (if j > i then j else i))
 |_=>.bad
def bools:List Dt->Option (List Bool)
 | []=>some []
 |.bl b::r=>(bools r).map (b :: ·)
 |_=>none
def wc (k:List Bool->Bool):Option (List Bool)->M Dt
 |some bs=>.ok (.bl (k bs))
 |none=>.bad
def yR:List Dt->M Dt
 | [.lst l]=>wc (fun bs=>bs.all id) (bools l)
 |_=>.bad
def agT:List Dt->M Dt
 | [.lst l]=>wc (fun bs=>bs.any id) (bools l)
 |_=>.bad
def eV (l:List Nat):List Dt:=l.map fun c=>.str [c]
def SK:List Dt->M Dt
 | [.lst l]=>.ok (.lst l)
 | [.tup l]=>.ok (.lst l)
 | [.str l]=>.ok (.lst (eV l))
 |_=>.bad
def SN:List Dt->M Dt
 | [.int i]=>.ok (.int i)
 | [.bl b]=>.ok (.int (if b then 1 else 0))
 | [.str [c]]=>if 48<=c/\c<=57 then .ok (.int ((c:Int) - 48)) else .bad
 |_=>.bad
def agS:List Dt->M Dt
 | [.int i]=>if 0<=i/\i<=9 then .ok (.str [48+i.toNat]) else .bad
 |_=>.bad
def kY:List Dt->Option (List (List Nat))
 | []=>some []
 |.str l::r=>(kY r).map (l :: ·)
 |_=>none
abbrev Sel:=Dt->Option (List Dt->M Dt)
def Bo:Option (List (List Nat))->M Dt
 |some ls=>mq ls.flatten
 |none=>.bad
def joinM:List Dt->M Dt
 | [.lst ds]=>Bo (kY ds)
 |_=>.bad
def oh:Sel
 |.str []=>some joinM
 |_=>none
def JC (l:List Nat):List Dt->M Dt
 | [.str [c]]=>.ok (.int (l.count c))
 |_=>.bad
def abj:Sel
 |.str l=>some (JC l)
 |_=>none
def rA:Option (List Dt->M Dt)->M (List Dt)->M Dt
 |some k,m=>m.bd k
 |none,_=>.bad
def pH (m:Sel)(f:aa->M Dt)(g:aa->M (List Dt)):aa->M Dt:=fun ρ=>(f ρ).bd fun d=>rA (m d) (g ρ)
abbrev IM:=aa->M (List Dt)
def en:Dt->M (List Dt)
 |.lst l=>.ok l
 |.tup l=>.ok l
 |.str l=>.ok (eV l)
 |_=>.bad
def gk (f:aa->M Dt):IM:=fun ρ=>(f ρ).bd en
def eX (lo hi:Int):List Dt:=(fm (hi - lo).toNat).map fun(k:Nat)=>.int (lo+(k:Nat))
def uC:List Dt->M (List Dt)
 | [.int n]=>if -1000000<=n/\n<=10000 then .ok (eX 0 n) else .bad
 |_=>.bad
def AA:List Dt->M (List Dt)
 | [.int a,.int b]=>if -1000000<=a/\a<=1000000/\-1000000<=b/\b<=1000000/\b - a<=10000 then .ok (eX a b) else .bad
 |_=>.bad
def js (a b:List Dt):List Dt:=(a.zip b).map fun p=>.tup [p.1,p.2]
def Ui:List Dt->M (List Dt)
 | [x,y]=>(en x).bd fun a=>(en y).bd fun b=>.ok (js a b)
 |_=>.bad
def DL (a b c:List Dt):List Dt:=(a.zip (b.zip c)).map fun p=>.tup [p.1,p.2.1,p.2.2]
def Uh:List Dt->M (List Dt)
 | [x,y,z]=>(en x).bd fun a=>(en y).bd fun b=>(en z).bd fun c=>.ok (DL a b c)
 |_=>.bad
def Jn (a:List Dt):List Dt:=(fm a.length).zipWith (fun(i:Nat) d=>.tup [.int (i:Nat),d]) a
def ae4:List Dt->M (List Dt)
 | [x]=>(en x).bd fun a=>.ok (Jn a)
 |_=>.bad
def X9:List Dt->M (List Dt)
 | [x]=>(en x).bd fun a=>.ok a.reverse
 |_=>.bad
def lK (k:List Dt->M (List Dt))(f:aa->M (List Dt)):IM:=fun ρ=>(f ρ).bd k
abbrev GM:=Dt->aa->M aa
def aI (i:Nat):GM:=fun d ρ=>.ok (nZ i d ρ)
def ku:List Dt->aa->M aa
 | [],ρ=>.ok ρ
 |_,_=>.bad
def dJ (g:GM)(gs:List Dt->aa->M aa):List Dt->aa->M aa
 |d::ds,ρ=>(g d ρ).bd fun a7=>gs ds a7
 |_,_=>.bad
def iG (n:Nat)(gs:List Dt->aa->M aa):GM
 |.tup ds,ρ=>if ds.length=n then gs ds ρ else .bad
 |.lst ds,ρ=>if ds.length=n then gs ds ρ else .bad
 |_,_=>.bad
def fI (g:GM)(tc:aa->M Bool)(te:aa->M Dt)(ρ0:aa):List Dt->M (List Dt)
 | []=>.ok []
 |d::ds=>(g d ρ0).bd fun a7=>(tc a7).bd fun b=>if b=true then (te a7).bd fun x=>(fI g tc te ρ0 ds).bd fun xs=>.ok (x::xs) else fI g tc te ρ0 ds
def cW:aa->M Bool:=fun _=>.ok true
def dQ (k:Nat)(fr:List Nat)(it:IM)(g:GM)(tc:aa->M Bool)(te:aa->M Dt):aa->M Dt:=fun ρ=>(it ρ).bd fun ds=>(fI g tc te (cf k fr ρ) ds).calm.bd g7
inductive Fl where
 |nx (ρ:aa) | rt (d:Dt) | bk (ρ:aa) | ct (ρ:aa)
abbrev SM:=aa->M Fl
def cI:SM:=fun ρ=>.ok (.nx ρ)
def uy (t:SM):Fl->M Fl
 |.nx ρ=>t ρ
 |f=>.ok f
def aR (s t:SM):SM:=fun ρ=>(s ρ).bd (uy t)
def bJ (f:aa->M Dt):SM:=fun ρ=>(f ρ).bd fun d=>.ok (.rt d)
def iW (f:aa->M Dt):SM:=fun ρ=>(f ρ).bd fun _=>.ok (.nx ρ)
def bV (f:aa->M Dt)(g:GM):SM:=fun ρ=>(f ρ).bd fun d=>(g d ρ).calm.bd fun aQ=>.ok (.nx aQ)
def JZ (i:Nat)(ρ:aa)(n:Int):Dt->M Fl
 |.int k=>.ok (.nx (nZ i (.int (n+k)) ρ))
 |_=>.bad
def JY (i:Nat)(f:aa->M Dt)(ρ:aa):Option Bd->M Fl
 |some (.val (.int n))=>(f ρ).bd (JZ i ρ n)
 |_=>.bad
def XT (i:Nat)(f:aa->M Dt):SM:=fun ρ=>JY i f ρ ρ[i]?
def cY (c:aa->M Bool)(s t:SM):SM:=fun ρ=>(c ρ).bd fun b=>if b=true then s ρ else t ρ
def fork (k:SM):Fl->M Fl
 |.nx ρ=>k ρ
 |.ct ρ=>k ρ
 |.bk ρ=>.ok (.nx ρ)
 |.rt d=>.ok (.rt d)
def i9 (g:GM)(b:SM):List Dt->SM
 | [],ρ=>.ok (.nx ρ)
 |d::ds,ρ=>(g d ρ).calm.bd fun a7=>(b a7).calm.bd (fork (i9 g b ds))
def Ff (it:IM)(g:GM)(b:SM):SM:=fun ρ=>(it ρ).bd fun ds=>i9 g b ds ρ
def XN (i:Nat)(f:aa->M (List Dt)):SM:=fun ρ=>(f ρ).bd fun ds=>if ds.length<=10000 then .ok (.nx (ρ.set i (.own ds))) else .bad
def pk (i:Nat)(ρ:aa):Option Bd->aa
 |some (.own ds)=>ρ.set i (.val (.lst ds))
 |some (.cg kvs)=>ρ.set i (.val (.aj kvs))
 |_=>ρ
def rel (i:Nat)(ρ:aa):aa:=pk i ρ ρ[i]?
def mw (i:Nat)(s:SM):SM:=fun ρ=>s (rel i ρ)
def CB (i:Nat)(f:aa->M Dt)(ρ:aa):Option Bd->M Fl
 |some (.own ds)=>(f ρ).bd fun d=>if ds.length<10000 then .ok (.nx (ρ.set i (.own (ds++[d])))) else .bad
 |_=>.bad
def Ay (i:Nat)(f:aa->M Dt):SM:=fun ρ=>CB i f ρ ρ[i]?
def ph (it:IM)(g:GM)(b:SM):SM:=fun ρ=>(Ff it g b ρ).calm
def AS (i j:Nat)(ρ:aa):List Dt->M Fl
 | [d,e]=>.ok (.nx (nZ j e (nZ i d ρ)))
 |_=>.bad
def As (i j:Nat)(f:aa->M (List Dt)):SM:=fun ρ=>(f ρ).bd (AS i j ρ)
def Ad (f:aa->M Dt):aa->M Unit:=fun ρ=>(f ρ).bd fun _=>.ok ()
def Ec:Dt->M Unit
 |.int i=>if -2<=i/\i<=20 then .ok () else .bad
 |_=>.bad
def Vn (f:aa->M Dt):aa->M Unit:=fun ρ=>(f ρ).bd Ec
def pf (c:Nat)(f:aa->M Unit):SM:=fun ρ=>(f ρ).bd fun _=>.ex c
def LC (j:Nat):List Nat:=[[99,108,97,115,104],[110,111,32,110,97,109,101],[110,111,32,116,101,120,116],[110,111,32,116,105,99,107],[110,111,32,119,97,118,101],[116,111,111,32,108,111,110,103],[117,110,108,105,107,101]].getD j []
def Ag (cs:List Nat)(i:Nat):M Fl->M Fl
 |.ok (.nx ρ)=>(ae i ρ).bd fun d=>.ok (.rt d)
 |.ex c=>if c∈cs then .ok (.rt (.str (LC c))) else .bad
 |_=>.bad
def XJ (cs:List Nat)(i:Nat)(b:SM):SM:=fun ρ=>Ag cs i (b ρ)
def ng:List (List Nat×Dt)->Dt->M Dt
 | [],_=>.bad
 | (k,v)::r,d=>match d with | .str l=>if l=k then .ok v else ng r d | _=>.bad
def Zf (ks:List (List Nat))(f:aa->M (List Dt))(g:aa->M Dt):aa->M Dt:=fun ρ=>(f ρ).bd fun vs=>(g ρ).bd fun d=>ng (ks.zip vs) d
def aax:Dt->M Dt
 |.str l=>.ok (.str l.reverse)
 |_=>.bad
def Gd:Dt->M Dt
 |.str _=>.ok (.bl true)
 |.aj _=>.bad
 |_=>.ok (.bl false)
def FP (Fs:List (List Dt->M Dt)):Dt->Option (List Dt->M Dt)
 |.int k=>if 0<=k then Fs[k.toNat]? else none
 |_=>none
def Zd (Fs:List (List Dt->M Dt))(i:aa->M Dt)(f:aa->M (List Dt)):aa->M Dt:=fun ρ=>(i ρ).bd fun d=>rA (FP Fs d) (f ρ)
def B6:Fl->M Dt
 |.nx _=>.ok .aK
 |.rt d=>.ok d
 |_=>.bad
def cO (np n:Nat)(b:SM):List Dt->M Dt:=fun ds=>if ds.length=np then (b (ds.map Bd.val++bM n .no)).bd B6 else .bad
def kg:Dt->M (List Dt)
 |.lst l=>.ok l
 |_=>.bad
def Ug:List Dt->M (List Dt)
 | [x,y]=>(kg x).bd fun a=>(kg y).bd fun b=>.ok (js a b)
 |_=>.bad
def kZ:Dt->M (List Dt)
 |.lst l=>.ok l
 |.str l=>.ok (eV l)
 |_=>.bad
def tG:List Dt->M (List Dt)
 | [x,y]=>(kZ x).bd fun a=>(kZ y).bd fun b=>.ok (js a b)
 |_=>.bad
def oO:List Dt->M Dt
 | [.int i]=>.ok (.int i)
 | [.bl b]=>.ok (.int (if b then 1 else 0))
 | [.str [48]]=>.ok (.int 0)
 | [.str [49]]=>.ok (.int 1)
 |_=>.bad
end L2
namespace Pg
open L2
def Lu:SM:=(aR (cY (aU (p2 oLt (ae 1) (aP dM (af (ae 0) aq)))) (bJ (p2 aO (ae 0) (ae 1))) cI)
 (aR (cY (aU (p2 oEq (ae 0) (er aq))) (bJ (pC (.int 0))) cI)
 (bJ (p2 bR (p2 jD (p2 aO (ae 0) (p2 oMod (ae 1) (aP dM (af (ae 0) aq)))) (pC (.int 31))) (ae 1)))))
def C5:List Dt->M Dt:=cO 2 0 Lu
def Lq:SM:=(aR (bV (p2 oMod (p2 jD (p2 bR (aP C5 (af (ae 0) (af (ae 1) aq))) (p2 jD (pC (.int 6151)) (p2 bR (ae 1) (pC (.int 1))))) (pC (.int 40692))) (pC (.int 2147483399))) (aI 3))
 (bJ (p2 oMod (p2 oMod (p2 bR (p2 jD (ae 3) (ae 3)) (p2 oDiv (ae 3) (pC (.int 31)))) (pC (.int 2147483629))) (ae 2))))
def gS:List Dt->M Dt:=cO 3 1 Lq
def TK:SM:=(cY (aU (p2 oEq (aP gS (af (ae 0) (af (p2 bR (ae 1) (p2 jD (pC (.int 2)) (ae 5))) (af (pC (.int 2)) aq)))) (pC (.int 0)))) (bV (p2 bR (ae 4) (p2 aO (ae 4) (p1 xC (pC (.int 1))))) (aI 4)) (bV (p2 bR (ae 4) (p2 aO (ae 3) (aP gS (af (ae 0) (af (p2 bR (p2 bR (ae 1) (p2 jD (pC (.int 2)) (ae 5))) (pC (.int 1))) (af (aP dM (af (ae 3) aq)) aq)))))) (aI 4)))
def Lp:SM:=(aR (bV (p2 aO (ae 3) (aP gS (af (ae 0) (af (ae 1) (af (aP dM (af (ae 3) aq)) aq))))) (aI 4))
 (aR (ph (lK AA (af (pC (.int 1)) (af (ae 2) aq))) (aI 5) TK)
 (bJ (ae 4))))
def zh:List Dt->M Dt:=cO 4 2 Lp
def Lh:SM:=(bJ (aP yR (af (dQ 1 [0] (gk (ae 0)) (aI 0) cW (p2 oEq (aP dM (af (ae 0) aq)) (aP dM (af (p2 aO (ae 1) (pC (.int 0))) aq)))) aq)))
def CW:List Dt->M Dt:=cO 1 0 Lh
def De:SM:=(cY (ur (aU (aP CW (af (ae 0) aq)))) (pf 6 (Ad (pC (.str [116,104,101,32,119,97,118,101,115,32,104,97,118,101,32,117,110,108,105,107,101,32,108,101,110,103,116,104,115])))) cI)
def ny:List Dt->M Dt:=cO 1 0 De
def Ln:SM:=(aR (cY (iS (aU (p2 oEq (ae 0) (pC (.str [48])))) (aU (p2 oEq (ae 1) (pC (.str [48]))))) (bJ (pC (.str [48]))) cI)
 (aR (cY (iS (aU (p2 oEq (ae 0) (pC (.str [120])))) (aU (p2 oEq (ae 1) (pC (.str [120]))))) (bJ (pC (.str [120]))) cI)
 (bJ (pC (.str [49])))))
def C3:List Dt->M Dt:=cO 2 0 Ln
def Lo:SM:=(aR (iW (aP ny (af (er (af (ae 0) (af (ae 1) aq))) aq)))
 (bJ (pH oh (pC (.str [])) (af (dQ 2 [] (lK tG (af (ae 0) (af (ae 1) aq))) (iG 2 (dJ (aI 0) (dJ (aI 1) ku))) cW (aP C3 (af (ae 0) (af (ae 1) aq)))) aq))))
def C4:List Dt->M Dt:=cO 2 0 Lo
def Ll:SM:=(aR (cY (iS (aU (p2 oEq (ae 0) (pC (.str [49])))) (aU (p2 oEq (ae 1) (pC (.str [49]))))) (bJ (pC (.str [49]))) cI)
 (aR (cY (iS (aU (p2 oEq (ae 0) (pC (.str [120])))) (aU (p2 oEq (ae 1) (pC (.str [120]))))) (bJ (pC (.str [120]))) cI)
 (bJ (pC (.str [48])))))
def C0:List Dt->M Dt:=cO 2 0 Ll
def Lm:SM:=(aR (iW (aP ny (af (er (af (ae 0) (af (ae 1) aq))) aq)))
 (bJ (pH oh (pC (.str [])) (af (dQ 2 [] (lK tG (af (ae 0) (af (ae 1) aq))) (iG 2 (dJ (aI 0) (dJ (aI 1) ku))) cW (aP C0 (af (ae 0) (af (ae 1) aq)))) aq))))
def C1:List Dt->M Dt:=cO 2 0 Lm
def Le:SM:=(aR (cY (iS (aU (p2 oEq (ae 0) (pC (.str [120])))) (aU (p2 oEq (ae 1) (pC (.str [120]))))) (bJ (pC (.str [120]))) cI)
 (bJ (ig (aU (p2 oEq (ae 0) (ae 1))) (pC (.str [48])) (pC (.str [49])))))
def CU:List Dt->M Dt:=cO 2 0 Le
def Lf:SM:=(aR (iW (aP ny (af (er (af (ae 0) (af (ae 1) aq))) aq)))
 (bJ (pH oh (pC (.str [])) (af (dQ 2 [] (lK tG (af (ae 0) (af (ae 1) aq))) (iG 2 (dJ (aI 0) (dJ (aI 1) ku))) cW (aP CU (af (ae 0) (af (ae 1) aq)))) aq))))
def CV:List Dt->M Dt:=cO 2 0 Lf
end Pg
namespace L2
def br {α:Type}(b:Bool)(x y:M α):M α:=if b=true then x else y
theorem agx {α:Type}{x y:M α}:br true x y=x:=.trans rfl rfl
theorem agy {α:Type}{x y:M α}:br false x y=y:=.trans rfl rfl
def ck {α:Type}(p:Prop)[Decidable p](x:M α):M α:=if p then x else .bad
theorem agd {α:Type}{x:M α}{i:Decidable True}:@ck α True i x=x:=if_pos trivial
theorem c9 {α:Type}{p:Prop}[Decidable p]{x:M α}(h:p):ck p x=x:=if_pos h
def k2 (op:Dt->Dt->M Dt)(g:aa->M Dt)(ρ:aa)(x:Dt):M Dt:=(g ρ).bd (op x)
def Bj (d:Dt)(a b:Option Int):M Dt:=N6 a b d
def GZ (hi:aa->M (Option Int))(ρ:aa)(d:Dt)(a:Option Int):M Dt:=(hi ρ).bd (Bj d a)
def O1 (lo hi:aa->M (Option Int))(ρ:aa)(d:Dt):M Dt:=(lo ρ).bd (GZ hi ρ d)
def O9 (b:Bool):M Bool:=.ok (!b)
def G7 (g:aa->M Bool)(ρ:aa)(b:Bool):M Bool:=if b=true then g ρ else .ok false
def xS (g:aa->M Bool)(ρ:aa)(b:Bool):M Bool:=if b=true then .ok true else g ρ
def Bl (g:aa->M Dt)(ρ:aa)(b:Bool):M Dt:=if b=true then g ρ else .ok (.bl false)
def O6 (g:aa->M Dt)(ρ:aa)(d:Dt):M Dt:=(jx d).bd (Bl g ρ)
def Bk (g:aa->M Dt)(ρ:aa)(b:Bool):M Dt:=if b=true then .ok (.bl true) else g ρ
def O5 (g:aa->M Dt)(ρ:aa)(d:Dt):M Dt:=(jx d).bd (Bk g ρ)
def Bm (f g:aa->M Dt)(ρ:aa)(b:Bool):M Dt:=if b=true then f ρ else g ρ
def Bn (cU:Dt->Dt->M Dt)(h:aa->M Dt)(ρ:aa)(y:Dt)(b:Bool):M Dt:=if b=true then (h ρ).bd (cU y) else .ok (.bl false)
def G5 (cU:Dt->Dt->M Dt)(h:aa->M Dt)(ρ:aa)(y d:Dt):M Dt:=(jx d).bd (Bn cU h ρ y)
def G6 (op cU:Dt->Dt->M Dt)(h:aa->M Dt)(ρ:aa)(x y:Dt):M Dt:=(op x y).bd (G5 cU h ρ y)
def Pp (op cU:Dt->Dt->M Dt)(g h:aa->M Dt)(ρ:aa)(x:Dt):M Dt:=(g ρ).bd (G6 op cU h ρ x)
def G8 (d:Dt)(ds:List Dt):M (List Dt):=.ok (d::ds)
def Pt (fs:aa->M (List Dt))(ρ:aa)(d:Dt):M (List Dt):=(fs ρ).bd (G8 d)
def kT (ds:List Dt):M Dt:=ck (ds.length<=10000) (.ok (.tup ds))
def kR (g:aa->M Dt)(ρ:aa)(ds:List Dt):M Dt:=ck (ds.length<=10000) ((g ρ).bd (uF ds))
def kM (m:Sel)(fs:aa->M (List Dt))(ρ:aa)(d:Dt):M Dt:=rA (m d) (fs ρ)
def kP (Fs:List (List Dt->M Dt))(fs:aa->M (List Dt))(ρ:aa)(d:Dt):M Dt:=rA (FP Fs d) (fs ρ)
def gH (k:Nat)(fr:List Nat)(g:GM)(tc:aa->M Bool)(te:aa->M Dt)(ρ:aa)(ds:List Dt):M Dt:=(fI g tc te (cf k fr ρ) ds).calm.bd g7
def G0 (d:Dt):M Fl:=.ok (.rt d)
def Pm (ρ:aa)(_:Dt):M Fl:=.ok (.nx ρ)
def G1 (ρ:aa):M Fl:=.ok (.nx ρ)
def Pq (g:GM)(ρ:aa)(d:Dt):M Fl:=(g d ρ).calm.bd G1
def GY (s t:SM)(ρ:aa)(b:Bool):M Fl:=if b=true then s ρ else t ρ
def Pj (g:GM)(s:SM)(ρ:aa)(ds:List Dt):M Fl:=i9 g s ds ρ
def O7 (i:Nat)(ρ:aa)(ds:List Dt):M Fl:=ck (ds.length<=10000) (.ok (.nx (ρ.set i (.own ds))))
def Pr (i:Nat)(ρ:aa)(ds:List Dt)(d:Dt):M Fl:=ck (ds.length<10000) (.ok (.nx (ρ.set i (.own (ds++[d])))))
def kU (_:Dt):M Unit:=.ok ()
def O2 (c:Nat)(_:Unit):M Fl:=.ex c
def Pk (s k:SM)(ρ:aa):M Fl:=(s ρ).calm.bd (fork k)
def e8 (i:Int):M (Option Int):=.ok (some i)
def O4 (d:Dt):M (Option Int):=(PL d).bd e8
def rH (a b:List Dt):M (List Dt):=.ok (js a b)
def OX (y:Dt)(a:List Dt):M (List Dt):=(en y).bd (rH a)
def GU (a b c:List Dt):M (List Dt):=.ok (DL a b c)
def GV (z:Dt)(a b:List Dt):M (List Dt):=(en z).bd (GU a b)
def OY (y z:Dt)(a:List Dt):M (List Dt):=(en y).bd (GV z a)
def Pb (y:Dt)(a:List Dt):M (List Dt):=(kg y).bd (rH a)
def Pl (a:List Dt):M (List Dt):=.ok (Jn a)
def O3 (a:List Dt):M (List Dt):=.ok a.reverse
def G4 (ks:List (List Nat))(vs:List Dt)(d:Dt):M Dt:=ng (ks.zip vs) d
def Po (ks:List (List Nat))(g:aa->M Dt)(ρ:aa)(vs:List Dt):M Dt:=(g ρ).bd (G4 ks vs)
section
variable {ρ:aa}{f g h:aa->M Dt}{tf tg:aa->M Bool}{fs:aa->M (List Dt)}{s t:SM}{d e x y z:Dt}{ds es QK:List Dt}{i j n k np c:Nat}{a b:Int}{l m:List Nat}{p q:Bool}{op cU:Dt->Dt->M Dt}{lo hi:aa->M (Option Int)}{gm:GM}{gs:List Dt->aa->M aa}{o o':Option Int}{F:List Dt->M Dt}{it:IM}{kk:List Dt->M (List Dt)}{sl:Sel}
theorem ajw:ae i ρ=gv ρ[i]?:=.trans rfl rfl
theorem aju:gv (some (.val d))=.ok d:=.trans rfl rfl
theorem ah5:pC d ρ=.ok d:=.trans rfl rfl
theorem CF:p2 op f g ρ=(f ρ).bd (k2 op g ρ):=.trans rfl rfl
theorem J9:k2 op g ρ x=(g ρ).bd (op x):=.trans rfl rfl
theorem S4 {op:Dt->M Dt}:p1 op f ρ=(f ρ).bd op:=.trans rfl rfl
theorem ahU:pG f lo hi ρ=(f ρ).bd (O1 lo hi ρ):=.trans rfl rfl
theorem aiE:O1 lo hi ρ d=(lo ρ).bd (GZ hi ρ d):=.trans rfl rfl
theorem aiD:GZ hi ρ d o=(hi ρ).bd (Bj d o):=.trans rfl rfl
theorem aiC:Bj (.str l) o o'=.ok (.str (jL l o o')):=.trans rfl rfl
theorem aiB:Bj (.lst ds) o o'=.ok (.lst (jL ds o o')):=.trans rfl rfl
theorem ahR:gG none ρ=.ok none:=.trans rfl rfl
theorem ahQ:gG (some f) ρ=(f ρ).bd O4:=.trans rfl rfl
theorem aiJ:O4 (.int a)=.ok (some a):=.trans rfl rfl
theorem SX:aU f ρ=(f ρ).bd jx:=.trans rfl rfl
theorem ahi:jx (.bl p)=.ok p:=.trans rfl rfl
theorem ahl:ur tf ρ=(tf ρ).bd O9:=.trans rfl rfl
theorem aiV:O9 p=.ok (!p):=.trans rfl rfl
theorem ahm:Wg tf tg ρ=(tf ρ).bd (G7 tg ρ):=.trans rfl rfl
theorem ajc:G7 tg ρ true=tg ρ:=.trans rfl rfl
theorem ajd:G7 tg ρ false=.ok false:=.trans rfl rfl
theorem ahk:iS tf tg ρ=(tf ρ).bd (xS tg ρ):=.trans rfl rfl
theorem aiS:xS tg ρ true=.ok true:=.trans rfl rfl
theorem aiT:xS tg ρ false=tg ρ:=.trans rfl rfl
theorem ah6:Zg f g ρ=(f ρ).bd (O6 g ρ):=.trans rfl rfl
theorem aiP:O6 g ρ (.bl p)=Bl g ρ p:=.trans rfl rfl
theorem aiN:Bl g ρ true=g ρ:=.trans rfl rfl
theorem aiO:Bl g ρ false=.ok (.bl false):=.trans rfl rfl
theorem ahX:Ze f g ρ=(f ρ).bd (O5 g ρ):=.trans rfl rfl
theorem aiM:O5 g ρ (.bl p)=Bk g ρ p:=.trans rfl rfl
theorem aiK:Bk g ρ true=.ok (.bl true):=.trans rfl rfl
theorem aiL:Bk g ρ false=g ρ:=.trans rfl rfl
theorem ah0:ig tf f g ρ=(tf ρ).bd (Bm f g ρ):=.trans rfl rfl
theorem aiY:Bm f g ρ true=f ρ:=.trans rfl rfl
theorem aiZ:Bm f g ρ false=g ρ:=.trans rfl rfl
theorem ah3:AV op cU f g h ρ=(f ρ).bd (Pp op cU g h ρ):=.trans rfl rfl
theorem ai9:Pp op cU g h ρ x=(g ρ).bd (G6 op cU h ρ x):=.trans rfl rfl
theorem ai8:G6 op cU h ρ x y=(op x y).bd (G5 cU h ρ y):=.trans rfl rfl
theorem ai7:G5 cU h ρ y (.bl p)=Bn cU h ρ y p:=.trans rfl rfl
theorem ai5:Bn cU h ρ y true=(h ρ).bd (cU y):=.trans rfl rfl
theorem ai6:Bn cU h ρ y false=.ok (.bl false):=.trans rfl rfl
theorem ajY:aq ρ=.ok []:=.trans rfl rfl
theorem ajZ:af f fs ρ=(f ρ).bd (Pt fs ρ):=.trans rfl rfl
theorem ajf:Pt fs ρ d=(fs ρ).bd (G8 d):=.trans rfl rfl
theorem aje:G8 d ds=.ok (d::ds):=.trans rfl rfl
theorem ahZ:er fs ρ=(fs ρ).bd g7:=.trans rfl rfl
theorem ahT:eZ fs ρ=(fs ρ).bd kT:=.trans rfl rfl
theorem aiy:kT ds=ck (ds.length<=10000) (.ok (.tup ds)):=.trans rfl rfl
theorem ahV:Zc fs g ρ=(fs ρ).bd (kR g ρ):=.trans rfl rfl
theorem aiI:kR g ρ ds=ck (ds.length<=10000) ((g ρ).bd (uF ds)):=.trans rfl rfl
theorem ahL:uF ds (.int a)=ck (-1000<=a/\a<=1000/\ds.length * a.toNat<=10000) (.ok (.lst (bM a.toNat ds).flatten)):=.trans rfl rfl
theorem ah4:aP F fs ρ=(fs ρ).bd F:=.trans rfl rfl
theorem ahY:pH sl f fs ρ=(f ρ).bd (kM sl fs ρ):=.trans rfl rfl
theorem aiW:kM sl fs ρ d=rA (sl d) (fs ρ):=.trans rfl rfl
theorem ahW {Fs:List (List Dt->M Dt)}:Zd Fs f fs ρ=(f ρ).bd (kP Fs fs ρ):=.trans rfl rfl
theorem aiQ {Fs:List (List Dt->M Dt)}:kP Fs fs ρ d=rA (FP Fs d) (fs ρ):=.trans rfl rfl
theorem aid {k:List Dt->M Dt}{m:M (List Dt)}:rA (some k) m=m.bd k:=.trans rfl rfl
theorem ajs:gk f ρ=(f ρ).bd en:=.trans rfl rfl
theorem ajt:lK kk fs ρ=(fs ρ).bd kk:=.trans rfl rfl
theorem Ka:aI i d ρ=.ok (ρ.set i (.val d)):=.trans rfl rfl
theorem ajy:ku [] ρ=.ok ρ:=.trans rfl rfl
theorem ajz:dJ gm gs (d::ds) ρ=(gm d ρ).bd (gs ds):=.trans rfl rfl
theorem ajB:iG n gs (.tup ds) ρ=ck (ds.length=n) (gs ds ρ):=.trans rfl rfl
theorem ajA:iG n gs (.lst ds) ρ=ck (ds.length=n) (gs ds ρ):=.trans rfl rfl
theorem ah2 {fr:List Nat}{tc:aa->M Bool}{te:aa->M Dt}:dQ k fr it gm tc te ρ=(it ρ).bd (gH k fr gm tc te ρ):=.trans rfl rfl
theorem ahj:cW ρ=.ok true:=.trans rfl rfl
theorem ahx:cI ρ=.ok (.nx ρ):=.trans rfl rfl
theorem J6:aR s t ρ=(s ρ).bd (uy t):=.trans rfl rfl
theorem J4:uy s (.nx ρ)=s ρ:=.trans rfl rfl
theorem ahr:uy s (.rt d)=.ok (.rt d):=.trans rfl rfl
theorem ahq:uy s (.bk ρ)=.ok (.bk ρ):=.trans rfl rfl
theorem ahp:uy s (.ct ρ)=.ok (.ct ρ):=.trans rfl rfl
theorem ahz:bJ f ρ=(f ρ).bd G0:=.trans rfl rfl
theorem aiH:G0 d=.ok (.rt d):=.trans rfl rfl
theorem ahE:iW f ρ=(f ρ).bd (Pm ρ):=.trans rfl rfl
theorem ai2:Pm ρ d=.ok (.nx ρ):=.trans rfl rfl
theorem S0:bV f gm ρ=(f ρ).bd (Pq gm ρ):=.trans rfl rfl
theorem aja:Pq gm ρ d=(gm d ρ).calm.bd G1:=.trans rfl rfl
theorem aiU:G1 ρ=.ok (.nx ρ):=.trans rfl rfl
theorem ahF:XT i f ρ=JY i f ρ ρ[i]?:=.trans rfl rfl
theorem ajP:JY i f ρ (some (.val (.int a)))=(f ρ).bd (JZ i ρ a):=.trans rfl rfl
theorem ajQ:JZ i ρ a (.int b)=.ok (.nx (ρ.set i (.val (.int (a+b))))):=.trans rfl rfl
theorem ahC:cY tf s t ρ=(tf ρ).bd (GY s t ρ):=.trans rfl rfl
theorem aiz:GY s t ρ true=s ρ:=.trans rfl rfl
theorem aiA:GY s t ρ false=t ρ:=.trans rfl rfl
theorem ahD:ph it gm s ρ=((it ρ).bd (Pj gm s ρ)).calm:=.trans rfl rfl
theorem ai0:Pj gm s ρ ds=i9 gm s ds ρ:=.trans rfl rfl
theorem ajG:i9 gm s [] ρ=.ok (.nx ρ):=.trans rfl rfl
theorem Kb:i9 gm s (d::ds) ρ=(gm d ρ).calm.bd (Pk s (i9 gm s ds)):=.trans rfl rfl
theorem J8 {k:SM}:Pk s k ρ=(s ρ).calm.bd (fork k):=.trans rfl rfl
theorem ajF:fork s (.nx ρ)=s ρ:=.trans rfl rfl
theorem ajE:fork s (.ct ρ)=s ρ:=.trans rfl rfl
theorem ajD:fork s (.bk ρ)=.ok (.nx ρ):=.trans rfl rfl
theorem ajC:fork s (.rt d)=.ok (.rt d):=.trans rfl rfl
theorem ahB:XN i fs ρ=(fs ρ).bd (O7 i ρ):=.trans rfl rfl
theorem aiR:O7 i ρ ds=ck (ds.length<=10000) (.ok (.nx (ρ.set i (.own ds)))):=.trans rfl rfl
theorem SY:mw i s ρ=s (pk i ρ ρ[i]?):=.trans rfl rfl
theorem ahN:pk i ρ (some (.own ds))=ρ.set i (.val (.lst ds)):=.trans rfl rfl
theorem ahM:pk i ρ (some (.val d))=ρ:=.trans rfl rfl
theorem ahG:Ay i f ρ=CB i f ρ ρ[i]?:=.trans rfl rfl
theorem ajR:CB i f ρ (some (.own ds))=(f ρ).bd (Pr i ρ ds):=.trans rfl rfl
theorem ajb:Pr i ρ ds d=ck (ds.length<10000) (.ok (.nx (ρ.set i (.own (ds++[d]))))):=.trans rfl rfl
theorem ahA:As i j fs ρ=(fs ρ).bd (AS i j ρ):=.trans rfl rfl
theorem ahS:AS i j ρ [d,e]=.ok (.nx ((ρ.set i (.val d)).set j (.val e))):=.trans rfl rfl
theorem ahd:Ad f ρ=(f ρ).bd kU:=.trans rfl rfl
theorem aix:kU d=.ok ():=.trans rfl rfl
theorem ahe:Vn f ρ=(f ρ).bd Ec:=.trans rfl rfl
theorem ahf:Ec (.int a)=ck (-2<=a/\a<=20) (.ok ()):=.trans rfl rfl
theorem ahy {fu:aa->M Unit}:pf k fu ρ=(fu ρ).bd (O2 k):=.trans rfl rfl
theorem aiF {u:Unit}:O2 c u=.ex c:=.trans rfl rfl
theorem ahw {cs:List Nat}:XJ cs i s ρ=Ag cs i (s ρ):=.trans rfl rfl
theorem ahh {cs:List Nat}:Ag cs i (.ok (.nx ρ))=(ae i ρ).bd G0:=.trans rfl rfl
theorem ahg {cs:List Nat}:Ag cs i (.ex k)=ck (k∈cs) (.ok (.rt (.str (LC k)))):=.trans rfl rfl
theorem ajH:cO np n s ds=ck (ds.length=np) ((s (ds.map Bd.val++bM n .no)).bd B6):=.trans rfl rfl
theorem ajJ:B6 (.nx ρ)=.ok .aK:=.trans rfl rfl
theorem ajI:B6 (.rt d)=.ok d:=.trans rfl rfl
theorem ah1 {ks:List (List Nat)}:Zf ks fs g ρ=(fs ρ).bd (Po ks g ρ):=.trans rfl rfl
theorem ai4 {ks:List (List Nat)}:Po ks g ρ ds=(g ρ).bd (G4 ks ds):=.trans rfl rfl
theorem ai3 {ks:List (List Nat)}:G4 ks ds d=ng (ks.zip ds) d:=.trans rfl rfl
theorem ajX:bR (.int a) (.int b)=.ok (.int (a+b)):=.trans rfl rfl
theorem ajV:bR (.str l) (.str m)=mq (l++m):=.trans rfl rfl
theorem ajW:bR (.lst ds) (.lst es)=g7 (ds++es):=.trans rfl rfl
theorem ahn:n8 (.int a) (.int b)=.ok (.int (a - b)):=.trans rfl rfl
theorem aic:jD (.int a) (.int b)=ck ((-(2 ^ 64)<a/\a<2 ^ 64)∨(-(2 ^ 64)<b/\b<2 ^ 64)) (.ok (.int (a * b))):=.trans rfl rfl
theorem aib:jD (.str l) (.int b)=ck (-1000<=b/\b<=1000/\l.length<=1000) (mq (bM b.toNat l).flatten):=.trans rfl rfl
theorem aie:oMod (.int a) (.int b)=ck (0<b) (.ok (.int (a % b))):=.trans rfl rfl
theorem ajM:oDiv (.int a) (.int b)=ck (0<b/\b<1073741824) (.ok (.int (a / b))):=.trans rfl rfl
theorem ahs:aaw (.int a) (.int b)=ck (0<=b) (.ok (.int (a / 2 ^ b.toNat))):=.trans rfl rfl
theorem ahP:aay (.int a) (.int b)=ck (0<=b/\b<=1000/\a.natAbs<2 ^ 64) (.ok (.int (a ^ b.toNat))):=.trans rfl rfl
theorem ajT:aaC (.int a)=ck (0<=a) (.ok (.int (a % 2))):=.trans rfl rfl
theorem ah9:xC (.int a)=.ok (.int (-a)):=.trans rfl rfl
theorem aik:oLt (.int a) (.int b)=.ok (.bl (decide (a<b))):=.trans rfl rfl
theorem air:oLe (.int a) (.int b)=.ok (.bl (decide (a<=b))):=.trans rfl rfl
theorem ajv:mG (.int a) (.int b)=.ok (.bl (decide (b<a))):=.trans rfl rfl
theorem ajx:oGe (.int a) (.int b)=.ok (.bl (decide (b<=a))):=.trans rfl rfl
theorem S6:oEq d e=ck (dep d<=50) (.ok (.bl (bZ d e))):=.trans rfl rfl
theorem yX:c8 d e=ck (dep d<=50) (.ok (.bl (!bZ d e))):=.trans rfl rfl
theorem ajK:oEq (.int a) (.int b)=.ok (.bl (decide (a=b))):=.trans rfl rfl
theorem aia:c8 (.int a) (.int b)=.ok (.bl (!decide (a=b))):=.trans rfl rfl
theorem ah8:xB (.bl p)=.ok (.bl (!p)):=.trans rfl rfl
theorem ah7:xA d e=(gi d e).bd xB:=.trans rfl rfl
theorem ajo:A4 (.bl p) (.bl q)=.ok (.bl (p==q)):=.trans rfl rfl
theorem ajn:A4 d .aK=.ok (.bl (PF d)):=.trans rfl rfl
theorem ajm:aaz d e=(A4 d e).bd xB:=.trans rfl rfl
theorem aji:aO (.str l) (.int a)=Bq (cy l a):=.trans rfl rfl
theorem ajj:aO (.lst ds) (.int a)=rJ (cy ds a):=.trans rfl rfl
theorem yY:aO (.tup ds) (.int a)=rJ (cy ds a):=.trans rfl rfl
theorem ajl:Bq (some c)=.ok (.str [c]):=.trans rfl rfl
theorem ajk:rJ (some d)=.ok d:=.trans rfl rfl
theorem aip:dM [.str l]=.ok (.int l.length):=.trans rfl rfl
theorem aiq:dM [.lst ds]=.ok (.int ds.length):=.trans rfl rfl
theorem aio:dM [.tup ds]=.ok (.int ds.length):=.trans rfl rfl
theorem aif:wg [.int a,.int b]=.ok (.int (if b<a then b else a)):=.trans rfl rfl
theorem aih:yQ [.int a,.int b]=.ok (.int (if b > a then b else a)):=.trans rfl rfl
theorem ajU:yR [.lst ds]=wc (fun bs=>bs.all id) (bools ds):=.trans rfl rfl
theorem ajS:agT [.lst ds]=wc (fun bs=>bs.any id) (bools ds):=.trans rfl rfl
theorem ain:SK [.lst ds]=.ok (.lst ds):=.trans rfl rfl
theorem aim:SK [.str l]=.ok (.lst (eV l)):=.trans rfl rfl
theorem ajq:SN [.int a]=.ok (.int a):=.trans rfl rfl
theorem ajp:SN [.bl p]=.ok (.int (if p then 1 else 0)):=.trans rfl rfl
theorem ahv:en (.lst ds)=.ok ds:=.trans rfl rfl
theorem aht:en (.tup ds)=.ok ds:=.trans rfl rfl
theorem ahu:en (.str l)=.ok (eV l):=.trans rfl rfl
theorem aii:oh (.str [])=some joinM:=.trans rfl rfl
theorem ajg:joinM [.lst ds]=Bo (kY ds):=.trans rfl rfl
theorem aij:abj (.str l)=some (JC l):=.trans rfl rfl
theorem ajN:JC l [.str [c]]=.ok (.int (l.count c)):=.trans rfl rfl
theorem ahO:nZ i d ρ=ρ.set i (.val d):=.trans rfl rfl
theorem ahc:D8 (some (.val d))=.val d:=.trans rfl rfl
theorem ahJ:aax (.str l)=.ok (.str l.reverse):=.trans rfl rfl
theorem ahb:Ui [x,y]=(en x).bd (OX y):=.trans rfl rfl
theorem ait:OX y ds=(en y).bd (rH ds):=.trans rfl rfl
theorem ais:rH ds es=.ok (js ds es):=.trans rfl rfl
theorem aha:Uh [x,y,z]=(en x).bd (OY y z):=.trans rfl rfl
theorem aiw:OY y z ds=(en y).bd (GV z ds):=.trans rfl rfl
theorem aiv:GV z ds es=(en z).bd (GU ds es):=.trans rfl rfl
theorem aiu:GU ds es QK=.ok (DL ds es QK):=.trans rfl rfl
theorem ag9:Ug [x,y]=(kg x).bd (Pb y):=.trans rfl rfl
theorem aiX:Pb y ds=(kg y).bd (rH ds):=.trans rfl rfl
theorem ail:kg (.lst ds)=.ok ds:=.trans rfl rfl
theorem ajL:ae4 [x]=(en x).bd Pl:=.trans rfl rfl
theorem ai1:Pl ds=.ok (Jn ds):=.trans rfl rfl
theorem ahK:X9 [x]=(en x).bd O3:=.trans rfl rfl
theorem aiG:O3 ds=.ok ds.reverse:=.trans rfl rfl
theorem ahI:uC [.int a]=ck (-1000000<=a/\a<=10000) (.ok (eX 0 a)):=.trans rfl rfl
theorem ahH:AA [.int a,.int b]=ck (-1000000<=a/\a<=1000000/\-1000000<=b/\b<=1000000/\b - a<=10000) (.ok (eX a b)):=.trans rfl rfl
theorem aho:agS [.int a]=ck (0<=a/\a<=9) (.ok (.str [48+a.toNat])):=.trans rfl rfl
theorem ajO {k:List Bool->Bool}{bs:List Bool}:wc k (some bs)=.ok (.bl (k bs)):=.trans rfl rfl
theorem ajh {ls:List (List Nat)}:Bo (some ls)=mq ls.flatten:=.trans rfl rfl
theorem Kc:oEq (.str l) (.str m)=.ok (.bl (decide (l=m))):=by
 show M.ok (Dt.bl (l==m))=_
 congr 2
 by_cases h:l=m <;> simp [h]
theorem S5:c8 (.str l) (.str m)=.ok (.bl (!decide (l=m))):=by
 show M.ok (Dt.bl (!(l==m)))=_
 congr 2
 by_cases h:l=m <;> simp [h]
theorem ajr:gi (.str [c]) (.str l)=.ok (.bl (decide (c∈l))):=by simp only [gi]
theorem ux (h:l.length<=10000):mq l=.ok (.str l):=by unfold mq; rw [if_pos h]
theorem cX (h:ds.length<=10000):g7 ds=.ok (.lst ds):=by unfold g7; rw [if_pos h]
end
end L2
section aka
open L2
local macro_rules
 | `(tactic| exists aS, $xs:term,*) => `(tactic| simp only [ajw, aju, ah5, CF, J9, S4, ahU, aiE, aiD, aiC, aiB, ahR, ahQ, aiJ, SX, ahi, ahl, aiV, ahm, ajc, ajd, ahk, aiS, aiT, ah6, aiP, aiN, aiO, ahX, aiM, aiK, aiL, ah0, aiY, aiZ, ah3, ai9, ai8, ai7, ai5, ai6, ajY, ajZ, ajf, aje, ahZ, ahT, aiy, ahV, aiI, ahL, ah4, ahY, aiW, ahW, aiQ, aid, ajs, ajt, Ka, ajy, ajz, ajB, ajA, ah2, ahj, ahx, J6, J4, ahr, ahq, ahp, ahz, aiH, ahE, ai2, S0, aja, aiU, ahF, ajP, ajQ, ahC, aiz, aiA, ahD, ai0, ajG, Kb, J8, ajF, ajE, ajD, ajC, ahB, aiR, SY, ahN, ahM, ahG, ajR, ajb, ahA, ahS, ahd, aix, ahe, ahf, ahy, aiF, ahw, ahh, ahg, ajH, ajJ, ajI, ah1, ai4, ai3, ajX, ajV, ajW, ahn, aic, aib, aie, ajM, ahs, ahP, ajT, ah9, aik, air, ajv, ajx, ajK, aia, ah8, ah7, ajo, ajn, ajm, aji, ajj, yY, ajl, ajk, aip, aiq, aio, aif, aih, ajU, ajS, ain, aim, ajq, ajp, ahv, aht, ahu, aii, ajg, aij, ajN, ahO, ahc, ahJ, ahb, ait, ais, aha, aiw, aiv, aiu, ag9, aiX, ail, ajL, ai1, ahK, aiG, ahI, ahH, aho, ajO, ajh, Kc, S5, ajr, agx, agy, bG, agM, agN, jc, agi, eh, ma, bI, iK, Ds, Dr, zH, nH, kJ, List.getElem?_cons_zero, List.getElem?_cons_succ, List.set_cons_succ, List.set_cons_zero, ef, Nat.reduceAdd, Nat.zero_add, tu, wD, decide_true, decide_false, agd, eq_self, $[$xs:term],*])
local macro_rules
 | `(tactic| exists ev) => `(tactic| try exists aS, eq_self)
 | `(tactic| exists go) => `(tactic| repeat (first | rw [c9 (by omega)] | rw [ux (by (try simp only [iO, eh, ma]); omega)] | rw [cX (by (try simp only [iO, eh, ma]); omega)] | exists aS, eq_self))
namespace Pg
open L2
def wa (ns:List Int)(k:Int):Int:=
 if k<ns.length then ns.getD k.toNat 0 else if ns=[] then 0 else ns.getD (k % (ns.length:Int)).toNat 0 * 31+k
def nc (ns:List Int)(k:Int):Int:=(wa ns k+6151 * (k+1)) * 40692 % 2147483399
def bx (ns:List Int)(k many:Int):Int:=(nc ns k * nc ns k+nc ns k / 31) % 2147483629 % many
theorem afi (ns:List Int)(k:Int):0<=nc ns k:=zD _ (by decide)
theorem afj (ns:List Int)(k:Int):nc ns k<2147483399:=zP _ (by decide)
theorem n5 (ns:List Int)(k:Int){many:Int}(h:0<many):0<=bx ns k many:=zD _ (by omega)
theorem n6 (ns:List Int)(k:Int){many:Int}(h:0<many):bx ns k many<many:=zP _ h
abbrev gh (ns:List Int):Dt:=.lst (ns.map Dt.int)
theorem l0 {α:Type}{l:List α}{n:Nat}{x:α}(h:l[n]?=some x):cy l (n:Int)=some x:=by
 have aT:n<l.length:=(eF.mp h).1;unfold cy uW;rw [if_pos (by omega),if_pos (by omega)];simpa using h
theorem SU {α:Type}{l:List α}{i:Int}(h0:0<=i)(h1:i<l.length):cy l i=some (l[i.toNat]'(by omega)):=by
 obtain⟨n,rfl⟩:∃n:Nat,i=n:=⟨i.toNat,by omega⟩
 refine l0 ?_;simp
theorem SS {ns:List Int}{k:Int}(h0:0<=k)(h1:k<ns.length):cy (ns.map Dt.int) k=some (.int (ns.getD k.toNat 0)):=by
 rw [SU h0 (by simpa using h1)];have aT:k.toNat<ns.length:=by omega
 simp [aT]
theorem R7:∀ns:List Int,fG (ns.map Dt.int)=0
 | []=>rfl
 |n::ns=>by simp only [bI,fG,dep,R7 ns]; omega
theorem RB (ns:List Int):bZ (gh ns) (.lst [])=decide (ns=[]):=by
 cases ns <;> rfl
theorem cell_eq {ns:List Int}{k:Int}(hk:0<=k):C5 [gh ns,.int k]=.ok (.int (wa ns k)):=by
 unfold C5 Lu wa
 exists go
 by_cases h1:k<ns.length
 ·simp only [h1,decide_true,if_true]
  exists go
  rw [SS hk h1]
  exists go
 ·simp only [h1,decide_false,if_false]
  exists go
  rw [S6,c9 (by simp only [dep,R7]; omega),RB]
  by_cases h2:ns=[]
  ·simp only [h2,decide_true,if_true]
   exists go
  ·have hp:0<(ns.length:Int):=by have:=kL.mpr h2; omega
   have m0:0<=k % (ns.length:Int):=zD _ (by omega);have m1:k % (ns.length:Int)<ns.length:=zP _ hp;simp only [h2,decide_false,if_false]
   exists go
   rw [SS m0 m1]
   exists go
theorem mC {ns:List Int}{k many:Int}(hk:0<=k)(hm:0<many):gS [gh ns,.int k,.int many]=.ok (.int (bx ns k many)):=by
 have d0:=afi ns k;have d1:=afj ns k;unfold gS Lq
 exists go
 rw [cell_eq hk]
 exists go
 rw [show (wa ns k+6151 * (k+1)) * 40692 % 2147483399=nc ns k from rfl]
 exists go
 rfl
mutual
theorem sF:∀d:Dt,bZ d d=true
 |.aK=>rfl
 |.bl b=>beq_self_eq_true b
 |.int b=>beq_self_eq_true b
 |.str b=>beq_self_eq_true b
 |.tup b=>sE b
 |.lst b=>sE b
 |.aj b=>(show (b==b || oH b b)=true by rw [beq_self_eq_true b]; rfl)
theorem sE:∀d:List Dt,iI d d=true
 | []=>rfl
 |a::r=>(show (bZ a a&&iI r r)=true by rw [sF a,sE r]; rfl)
end
theorem IV {g:GM}{b:SM}:∀(ds:List Dt) (st:Nat->aa),(∀i d,ds[i]?=some d->((g d (st i)).calm.bd fun a7=>(b a7).calm)=.ok (.nx (st (i+1))))->i9 g b ds (st 0)=.ok (.nx (st ds.length))
 | [],st,_=>rfl
 |d::ds,st,h=>by
  have h0:=h 0 d rfl;have ih:=IV ds (fun i=>st (i+1)) fun i e he=>h (i+1) e (by simpa using he);rw [Kb]
  cases hg:g d (st 0) with
  |ok a7=>
   rw [hg] at h0;simp only [jc,bG] at h0 ⊢;rw [J8,h0];exact ih
  |ex c=>rw [hg] at h0; cases h0
  |bad=>rw [hg] at h0; cases h0
theorem aex {g:GM}{b:SM}(lo hi:Int)(st:Nat->aa)(h:∀i:Nat,i<(hi - lo).toNat->((g (.int (lo+i)) (st i)).calm.bd fun a7=>(b a7).calm)=.ok (.nx (st (i+1)))):i9 g b (eX lo hi) (st 0)=.ok (.nx (st (hi - lo).toNat)):=by
 have e:(eX lo hi).length=(hi - lo).toNat:=by simp [eX]
 rw [← e];refine IV _ st fun i d hd=>?_;unfold eX at hd;simp only [jT,jq] at hd;obtain⟨j,hj,rfl⟩:=hd;have mT:i<(hi - lo).toNat:=by
  have:=(eF.mp hj).1;simpa using this
 rw [Dq mT] at hj;cases hj;exact h i mT
theorem aew {g:GM}{b:SM}{lo hi:Int}{ρ0:aa}(st:Nat->aa)(h0:ρ0=st 0)(h:∀i:Nat,i<(hi - lo).toNat->((g (.int (lo+i)) (st i)).calm.bd fun a7=>(b a7).calm)=.ok (.nx (st (i+1)))):i9 g b (eX lo hi) ρ0=.ok (.nx (st (hi - lo).toNat)):=by
 subst h0;exact aex lo hi st h
def jA (ns:List Int)(k:Int)(sg:List Nat):Nat:=sg.getD (bx ns k sg.length).toNat 0
theorem xk (ns:List Int)(k:Int){sg:List Nat}(h:sg≠[]):jA ns k sg∈sg:=by
 have hp:0<(sg.length:Int):=by
  have:=kL.mpr h;omega
 have h1:=n5 ns k hp;have h2:=n6 ns k hp;unfold jA;have aT:(bx ns k sg.length).toNat<sg.length:=by omega
 rw [zo,kN aT,tF];exact zG aT
theorem EJ (ns:List Int)(k:Int){sg:List Nat}(h:sg≠[]):cy sg (bx ns k sg.length)=some (jA ns k sg):=by
 have hp:0<(sg.length:Int):=by
  have:=kL.mpr h;omega
 have h1:=n5 ns k hp;have h2:=n6 ns k hp;rw [SU h1 h2];have aT:(bx ns k sg.length).toNat<sg.length:=by omega
 unfold jA;rw [zo,kN aT,tF]
def dZ (ns:List Int)(a:Int)(sg:List Nat):Nat->List Nat
 |0=>[jA ns a sg]
 |k+1=>if bx ns (a+2 * ((k:Int)+1)) 2=0 then dZ ns a sg k++[(dZ ns a sg k).getLastD 0] else dZ ns a sg k++[jA ns (a+2 * ((k:Int)+1)+1) sg]
def qH (ns:List Int)(a many:Int)(sg:List Nat):List Nat:=dZ ns a sg (many - 1).toNat
theorem qG (ns:List Int)(a:Int)(sg:List Nat):∀k,(dZ ns a sg k).length=k+1
 |0=>rfl
 |k+1=>by
  unfold dZ
  split <;> simp [qG ns a sg k]
theorem wR (ns:List Int)(a:Int){sg:List Nat}(h:sg≠[]):∀k,∀c∈dZ ns a sg k,c∈sg
 |0=>by
  intro c hc;simp [dZ] at hc;rw [hc];exact xk ns a h
 |k+1=>by
  intro c hc;have ih:=wR ns a h k;unfold dZ at hc
  split at hc
  ·rcases eD.mp hc with hc | hc
   ·exact ih c hc
   ·simp only [jo] at hc
    have bS:dZ ns a sg k≠[]:=by
     intro z;have:=qG ns a sg k;rw [z] at this;simp at this
    rw [hc,DF,List.getLast?_eq_some_getLast bS,tF];exact ih _ (List.getLast_mem bS)
  ·rcases eD.mp hc with hc | hc
   ·exact ih c hc
   ·simp only [jo] at hc
    rw [hc];exact xk ns _ h
theorem U6 (ns:List Int)(a:Int){many:Int}(sg:List Nat)(h:1<=many):((qH ns a many sg).length:Int)=many:=by
 unfold qH;rw [qG];omega
theorem LH (ns:List Int)(a many:Int){sg:List Nat}(h:sg≠[]):∀c∈qH ns a many sg,c∈sg:=wR ns a h _
theorem agZ {l:List Nat}(h:l≠[]):cy l (-1)=some (l.getLastD 0):=by
 have hp:=kL.mpr h;unfold cy uW;rw [if_neg (by omega),if_pos (by omega)];have e:((-1:Int)+(l.length:Nat)).toNat=l.length - 1:=by omega
 simp only [Option.bind_some,e];rw [DF,DE,kN (by omega)];rfl
theorem U5 {ns:List Int}{a many:Int}{sg:List Nat}(ha:0<=a)(h1:1<=many)(h2:many<=1000)(hs:sg≠[])(hz:sg.length<=1000):zh [gh ns,.int a,.int many,.str sg]=.ok (.str (qH ns a many sg)):=by
 have hp:0<(sg.length:Int):=by
  have:=kL.mpr hs;omega
 unfold zh Lp TK
 exists go
 rw [mC ha hp]
 exists go
 rw [EJ ns a hs]
 exists go
 rw [aew (st:=fun i=>[.val (gh ns),.val (.int a),.val (.int many),.val (.str sg),.val (.str (dZ ns a sg i)),match i with | 0=>.no | j+1=>.val (.int (1+(j:Nat)))])]
 ·exists go
  rfl
 ·rfl
 ·intro i hi
  have wl:=qG ns a sg i;have UZ:dZ ns a sg i≠[]:=by
   intro z;rw [z] at wl;simp at wl
  exists go
  rw [mC (by omega) (by decide)]
  exists go
  have e0:a+2 * (1+(i:Int))=a+2 * ((i:Int)+1):=by omega
  by_cases hq:bx ns (a+2 * ((i:Int)+1)) 2=0
  ·rw [e0]
   simp only [hq,decide_true]
   exists go
   rw [agZ UZ]
   exists go
   simp only [dZ,hq,if_true]
  ·rw [e0]
   simp only [hq,decide_false]
   exists go
   rw [mC (by omega) hp]
   exists go
   rw [EJ ns _ hs]
   exists go
   simp only [dZ,hq,if_false];rw [e0]
def GX (x:Dt):M (Option Dt):=.ok (some x)
def Bi (te:aa->M Dt)(ρ:aa)(b:Bool):M (Option Dt):=if b=true then (te ρ).bd GX else .ok none
def GW (tc:aa->M Bool)(te:aa->M Dt)(ρ:aa):M (Option Dt):=(tc ρ).bd (Bi te ρ)
def stC (g:GM)(tc:aa->M Bool)(te:aa->M Dt)(ρ0:aa)(d:Dt):M (Option Dt):=(g d ρ0).bd (GW tc te)
theorem kB {x:Dt}:GX x=.ok (some x):=.trans rfl rfl
theorem kA {te:aa->M Dt}{ρ:aa}:Bi te ρ true=(te ρ).bd GX:=.trans rfl rfl
theorem Cp {te:aa->M Dt}{ρ:aa}:Bi te ρ false=.ok none:=.trans rfl rfl
theorem jd {tc:aa->M Bool}{te:aa->M Dt}{ρ:aa}:GW tc te ρ=(tc ρ).bd (Bi te ρ):=.trans rfl rfl
theorem je {g:GM}{tc:aa->M Bool}{te:aa->M Dt}{ρ:aa}{d:Dt}:stC g tc te ρ d=(g d ρ).bd (GW tc te):=.trans rfl rfl
theorem Sq {g:GM}{tc:aa->M Bool}{te:aa->M Dt}{ρ0:aa}(f:Dt->Option Dt):∀(ds:List Dt),(∀d∈ds,stC g tc te ρ0 d=.ok (f d))->fI g tc te ρ0 ds=.ok (ds.filterMap f)
 | [],_=>rfl
 |d::ds,h=>by
  have h0:=h d bN;have ih:=Sq f ds fun e he=>h e (cG _ he);simp only [fI];rw [je] at h0
  cases hg:g d ρ0 with
  |ok a7=>
   rw [hg] at h0;simp only [bG,jd] at h0 ⊢
   cases ht:tc a7 with
   |ok b=>
    rw [ht] at h0;simp only [bG] at h0 ⊢
    cases b with
    |false=>
     rw [Cp] at h0
     cases hf:f d with
     |none=>simp only [du,if_false,ih,gf,hf]
     |some x=>rw [hf] at h0; cases h0
    |true=>
     rw [kA] at h0;simp only [if_true]
     cases hx:te a7 with
     |ok x=>
      rw [hx] at h0;simp only [bG,kB] at h0 ⊢;injection h0 with h0;simp only [ih,bG,gf,← h0]
     |ex c=>rw [hx] at h0; cases h0
     |bad=>rw [hx] at h0; cases h0
   |ex c=>rw [ht] at h0; cases h0
   |bad=>rw [ht] at h0; cases h0
  |ex c=>rw [hg] at h0; cases h0
  |bad=>rw [hg] at h0; cases h0
theorem lV {α:Type}{g:GM}{tc:aa->M Bool}{te:aa->M Dt}{ρ0:aa}(e:α->Dt)(f:α->Option Dt):∀(xs:List α),(∀x∈xs,stC g tc te ρ0 (e x)=.ok (f x))->fI g tc te ρ0 (xs.map e)=.ok (xs.filterMap f)
 | [],_=>rfl
 |x::xs,h=>by
  have h1:=Sq (g:=g) (tc:=tc) (te:=te) (ρ0:=ρ0) (fun _=>f x) [e x] (fun d hd=>by
   have:d=e x:=by simpa using hd
   rw [this];exact h x bN)
  have ih:=lV e f xs fun y hy=>h y (cG _ hy);rw [bI];simp only [fI] at h1 ⊢
  cases hg:g (e x) ρ0 with
  |ok a7=>
   rw [hg] at h1;simp only [bG] at h1 ⊢
   cases ht:tc a7 with
   |ok b=>
    rw [ht] at h1;simp only [bG] at h1 ⊢
    cases b with
    |false=>
     simp only [du,if_false] at h1 ⊢;rw [ih]
     cases hf:f x with
     |none=>simp only [gf,hf]
     |some y=>rw [gf,hf] at h1; cases h1
    |true=>
     simp only [if_true] at h1 ⊢
     cases hx:te a7 with
     |ok y=>
      rw [hx] at h1;simp only [bG] at h1 ⊢;rw [ih]
      cases hf:f x with
      |none=>rw [gf,hf] at h1; cases h1
      |some z=>
       rw [gf,hf] at h1;simp only [bG,gf,hf];cases h1;rfl
     |ex c=>rw [hx] at h1; cases h1
     |bad=>rw [hx] at h1; cases h1
   |ex c=>rw [ht] at h1; cases h1
   |bad=>rw [ht] at h1; cases h1
  |ex c=>rw [hg] at h1; cases h1
  |bad=>rw [hg] at h1; cases h1
theorem af4 {g:GM}{tc:aa->M Bool}{te:aa->M Dt}{ρ0:aa}{lo hi:Int}(f:Nat->Option Dt)(h:∀i,i<(hi - lo).toNat->stC g tc te ρ0 (.int (lo+(i:Nat)))=.ok (f i)):fI g tc te ρ0 (eX lo hi)=.ok ((fm (hi - lo).toNat).filterMap f):=
 lV (fun(i:Nat)=>.int (lo+(i:Nat))) f _ fun i mT=>h i (by simpa using mT)
theorem So {g:GM}{tc:aa->M Bool}{te:aa->M Dt}{ρ0:aa}{l:List Nat}(f:Nat->Option Dt)(h:∀c∈l,stC g tc te ρ0 (.str [c])=.ok (f c)):fI g tc te ρ0 (eV l)=.ok (l.filterMap f):=lV (fun c=>.str [c]) f l h
theorem B4 {α β:Type}(p:α->Bool)(e:α->β):∀l:List α,(l.filterMap fun a=>if p a=true then some (e a) else none)=(l.filter p).map e
 | []=>rfl
 |a::l=>by
  rw [gf,wI]
  cases h:p a <;> simp [h,B4 p e l]
theorem oF {α β:Type}(e:α->β):∀l:List α,(l.filterMap fun a=>some (e a))=l.map e
 | []=>rfl
 |a::l=>by rw [gf,bI,oF e l]
def lv (l:List Nat)(i:Nat):Nat:=l.getD i 0
theorem agY {l:List Nat}{i:Nat}(h:i<l.length):cy l (i:Int)=some (lv l i):=by
 refine l0 ?_;simp [lv,h]
def up (l:List Nat)(i:Nat):Bool:=decide (lv l i=48)&&decide (lv l (i+1)=49)
theorem JI {α:Type}(f:α->Bool):∀l:List α,bools (l.map fun a=>Dt.bl (f a))=some (l.map f)
 | []=>rfl
 |a::l=>by simp [bools,JI f l]
theorem NS {ls:List (List Nat)}(hl:ls.length<=1000):CW [.lst (ls.map Dt.str)]=.ok (.bl (ls.all fun l=>decide (l.length=(ls.headD []).length))):=by
 unfold CW Lh
 exists ev
 simp only [gH];rw [lV Dt.str (fun l=>some (.bl (decide (l.length=(ls.headD []).length))))]
 ·rw [oF,jc,bG,cX (by simp; omega)]
  exists ev
  rw [JI]
  exists ev
  rw [List.all_map];rfl
 ·intro l hm
  have a0:cy (ls.map Dt.str) 0=some (.str (ls.headD [])):=by
   cases ls with
   |nil=>cases hm
   |cons x xs=>exact l0 (n:=0) rfl
  exists aS,je,jd,cf,a0,kA,kB
  have e:decide (((l.length:Nat):Int)=(((ls.headD []).length:Nat):Int))=decide (l.length=(ls.headD []).length):=by
   exact decide_eq_decide.mpr ⟨fun z=>by omega,fun z=>by omega⟩
  rw [e]
theorem LV {ls:List (List Nat)}(hl:ls.length<=1000)(h:∀l∈ls,l.length=(ls.headD []).length):ny [.lst (ls.map Dt.str)]=.ok .aK:=by
 unfold ny De
 exists ev
 rw [NS hl];have:(ls.all fun l=>decide (l.length=(ls.headD []).length))=true:=by
  rw [eg];intro l hm;simpa using h l hm
 rw [this]
 exists ev
theorem Vi {ls:List (List Nat)}(hl:ls.length<=1000)(h:¬ ∀l∈ls,l.length=(ls.headD []).length):ny [.lst (ls.map Dt.str)]=.ex 6:=by
 unfold ny De
 exists ev
 rw [NS hl];have:(ls.all fun l=>decide (l.length=(ls.headD []).length))=false:=by
  rw [Bool.eq_false_iff];intro z;rw [eg] at z;exact h fun l hm=>by simpa using z l hm
 rw [this]
 exists ev
theorem Eb {a b:List Nat}(h:a.length=b.length):ny [.lst [.str a,.str b]]=.ok .aK:=LV (ls:=[a,b]) (by simp) (by simp [h])
theorem xc {α:Type}(f:α->Nat):∀l:List α,kY (l.map fun i=>Dt.str [f i])=some (l.map fun i=>[f i])
 | []=>rfl
 |a::l=>by simp [kY,xc f l]
theorem sx {α:Type}(f:α->Nat):∀l:List α,(l.map fun i=>[f i]).flatten=l.map f
 | []=>rfl
 |a::l=>by simp [sx f l]
def hN (w b:List Nat)(c:Nat):Nat->Nat
 |0=>c
 |t+1=>if up b t=true then lv w t else hN w b c t
def hL (w b:List Nat)(c:Nat):List Nat:=(fm b.length).map (hN w b c)
theorem R5 {α:Type}(f:α->List Nat):∀l:List α,fG (l.map fun a=>Dt.str (f a))=0
 | []=>rfl
 |a::l=>by simp only [bI,fG,dep,R5 f l]; rfl
theorem VJ {α:Type}(l:List α)(j:Nat):l.take (min j l.length)=l.take j:=by
 by_cases h:j<=l.length
 ·rw [Nat.min_eq_left h]
 ·rw [Nat.min_eq_right (by omega),List.take_of_length_le (bb _),List.take_of_length_le (by omega)]
theorem JB {α:Type}(l:List α){k:Int}{j:Nat}(e:k=j):jL l none (some k)=l.take j:=by
 subst e;unfold jL;simp only [xm];rw [if_neg (by omega),Nat.sub_zero,List.drop_zero,zJ,VJ]
end Pg
namespace L2
def Cj (kvs:List (List Nat×List Nat)):Dt->M Dt:=ng (kvs.map fun q=>(q.1,Dt.str q.2))
def abE:Option (List (List Nat))->M Dt
 |some ls=>.ok (.int (ls.eraseDups.length:Nat))
 |none=>.bad
def uJ:Dt->M Dt
 |.lst ds=>if ds.length<=1000 then abE (kY ds) else .bad
 |_=>.bad
def yO:List Dt->M Dt
 | [.lst ds]=>.ok (.tup ds)
 | [.tup ds]=>.ok (.tup ds)
 |_=>.bad
def mL:List Dt->Option (List Int)
 | []=>some []
 |.int i::r=>(mL r).map (i :: ·)
 |_=>none
def wV:Dt->M Unit
 |.str l=>if l.length<=50/\(l.all fun c=>decide (c<1000))=true then .ok () else .bad
 |_=>.bad
def uk (f:aa->M Dt):aa->M Unit:=fun ρ=>(f ρ).bd wV
def YM (i j:Nat)(ρ:aa)(d:Dt):M Fl:=.ok (.nx ((nZ i d ρ).set j (.own [])))
def Ar (i j:Nat)(f:aa->M Dt):SM:=fun ρ=>(f ρ).bd (YM i j ρ)
def Jg (i:Nat)(ρ:aa)(ds:List Dt):Dt->M Fl
 |.lst es=>if ds.length+es.length<=10000 then .ok (.nx (ρ.set i (.own (ds++es)))) else .bad
 |_=>.bad
def Jf (i:Nat)(f:aa->M Dt)(ρ:aa):Option Bd->M Fl
 |some (.own ds)=>(f ρ).bd (Jg i ρ ds)
 |_=>.bad
def XR (i:Nat)(f:aa->M Dt):SM:=fun ρ=>Jf i f ρ ρ[i]?
def iw (j:Nat):List Nat:=[[99,108,97,115,104],[110,111,32,110,97,109,101],[110,111,32,116,101,120,116],[110,111,32,116,105,99,107],[110,111,32,119,97,118,101],[116,111,111,32,108,111,110,103],[117,110,108,105,107,101],[110,111,32,98,97,99,107]].getD j []
def B3 (g:GM)(b:SM):List Dt->SM
 | [],ρ=>.ok (.nx ρ)
 |d::ds,ρ=>(g d ρ).calm.bd fun a7=>(b a7).bd (fork (B3 g b ds))
def XQ (it:IM)(g:GM)(b:SM):SM:=fun ρ=>(it ρ).bd fun ds=>B3 g b ds ρ
abbrev av:=List (List Nat×List Nat)
def vU:Dt->M av
 |.aj kvs=>.ok kvs
 |_=>.bad
def MD:Dt->M (List Nat)
 |.str l=>.ok l
 |_=>.bad
def oJ (kvs:av)(l:List Nat):M Dt:=match az kvs l with | some v=>.ok (.str v) | none=>.bad
def gj:Dt->Dt->M Dt
 |.aj kvs,.str l=>oJ kvs l
 |_,_=>.bad
def xD:Dt->Dt->M Dt
 |.str l,.aj kvs=>.ok (.bl (az kvs l).isSome)
 |_,_=>.bad
def xy:Dt->Dt->M Dt
 |.str l,.aj kvs=>.ok (.bl (!(az kvs l).isSome))
 |_,_=>.bad
def sk (kvs:av)(e:Dt):Dt->M Dt
 |.str l=>.ok (match az kvs l with | some v=>.str v | none=>e)
 |_=>.bad
def NL (f g:aa->M Dt):aa->M Dt:=fun ρ=>(f ρ).bd fun d=>(vU d).bd fun kvs=>(g ρ).bd fun k=>sk kvs .aK k
def NK (f g h:aa->M Dt):aa->M Dt:=fun ρ=>(f ρ).bd fun d=>(vU d).bd fun kvs=>(g ρ).bd fun k=>(h ρ).bd fun e=>sk kvs e k
def dI (kvs:av)(k v:List Nat):av:=if (kvs.any fun p=>p.1==k)=true then kvs.map (fun p=>if p.1==k then (p.1,v) else p) else kvs++[(k,v)]
def cE (kvs:av)(k:List Nat):av:=kvs.filter fun p=>!(p.1==k)
def pI:aa->M Dt:=fun _=>.ok (.aj [])
def xl (i:Nat)(f:aa->M Dt):SM:=fun ρ=>(f ρ).bd fun d=>(vU d).bd fun kvs=>.ok (.nx (ρ.set i (.cg kvs)))
def XM (i:Nat):SM:=fun ρ=>.ok (.nx (ρ.set i (.cg [])))
def vT (i:Nat)(ρ:aa)(kvs:av)(v:List Nat):Dt->M Fl
 |.str k=>if kvs.length<10000 then .ok (.nx (ρ.set i (.cg (dI kvs k v)))) else .bad
 |_=>.bad
def Ci (i:Nat)(fk fv:aa->M Dt)(ρ:aa):Option Bd->M Fl
 |some (.cg kvs)=>(fv ρ).bd fun d=>(MD d).bd fun v=>(fk ρ).bd (vT i ρ kvs v)
 |_=>.bad
def uB (i:Nat)(fk fv:aa->M Dt):SM:=fun ρ=>Ci i fk fv ρ ρ[i]?
def AK (i:Nat)(ρ:aa)(kvs:av):Dt->M Fl
 |.str k=>if (az kvs k).isSome=true then .ok (.nx (ρ.set i (.cg (cE kvs k)))) else .bad
 |_=>.bad
def AJ (i:Nat)(fk:aa->M Dt)(ρ:aa):Option Bd->M Fl
 |some (.cg kvs)=>(fk ρ).bd (AK i ρ kvs)
 |_=>.bad
def Ax (i:Nat)(fk:aa->M Dt):SM:=fun ρ=>AJ i fk ρ ρ[i]?
def mJ (kvs:av):List Dt:=kvs.map fun p=>.str p.1
def D6 (kvs:av):List Dt:=kvs.map fun p=>.str p.2
def Hd (kvs:av):List Dt:=kvs.map fun p=>.tup [.str p.1,.str p.2]
def lJ (f:aa->M Dt):IM:=fun ρ=>(f ρ).bd fun d=>(vU d).bd fun kvs=>.ok (mJ kvs)
def PM (f:aa->M Dt):IM:=fun ρ=>(f ρ).bd fun d=>(vU d).bd fun kvs=>.ok (D6 kvs)
def PQ (f:aa->M Dt):IM:=fun ρ=>(f ρ).bd fun d=>(vU d).bd fun kvs=>.ok (Hd kvs)
def iA:List Dt->Option av
 | []=>some []
 |.tup [.str k,.str v]::r=>(iA r).map ((k,v) :: ·)
 |_=>none
def jE (kvs more:av):av:=more.foldl (fun a p=>dI a p.1 p.2) kvs
def FL:Option av->M Dt
 |some ps=>.ok (.aj (jE [] ps))
 |none=>.bad
def SO:List Dt->M Dt
 | [.aj kvs]=>.ok (.aj kvs)
 | [.lst ds]=>FL (iA ds)
 |_=>.bad
def qI:Option Bd->Bd
 |some (.val d)=>.val d
 |some (.aW x y)=>.bor none x y
 |some (.bor p x y)=>.bor p x y
 |_=>.no
def jz (fr:List Nat)(ρ:aa):aa:=fr.map fun j=>qI ρ[j]?
mutual
def rm:Dt->Bool
 |.lst _=>false
 |.tup ds=>kf ds
 |_=>true
def kf:List Dt->Bool
 | []=>true
 |d::r=>rm d&&kf r
end
def oM:Option Bd->Option (List Dt×List Dt)
 |some (.aW x y)=>some (x,y)
 |some (.bor _ x y)=>some (x,y)
 |_=>none
def sr:List Dt->Option (List Dt)
 | []=>some []
 |.tup [s,_]::r=>(sr r).map (s :: ·)
 |_=>none
def qo (x _:List Dt):M Dt:=match sr x with
 |some ds=>if kf ds=true/\ds.length<=10000 then .ok (.lst ds) else .bad
 |none=>.bad
def fO:Option Dt->M Dt
 |none=>.ok (.aj [])
 |some (.tup [_,.aj ks])=>.ok (.aj ks)
 |_=>.bad
def oN (x _:List Dt):M Dt:=fO x.getLast?
def yP (x y:List Dt):M Dt:=.ok (.tup [.int x.length,.int y.length])
def Fz (F:List Dt->List Dt->M Dt):Option (List Dt×List Dt)->M Dt
 |some p=>F p.1 p.2
 |none=>.bad
def fR (i:Nat)(F:List Dt->List Dt->M Dt):aa->M Dt:=fun ρ=>Fz F (oM ρ[i]?)
def g8 (x:List Dt)(s b:Dt):M (List Dt):=if x.length<10000 then .ok (x++[.tup [s,b]]) else .bad
abbrev BM:=List Dt->List Dt->List Dt->M (Dt×List Dt×List Dt)
def lZ:BM:=fun x _ ds=>match ds with
 | [s,b]=>(g8 x s b).bd fun x'=>.ok (.aK,x',[])
 |_=>.bad
abbrev TB:=aa->M (Bool×aa)
def Cs (ρ:aa):Dt->M (Bool×aa)
 |.bl b=>.ok (b,ρ)
 |_=>.bad
def mx (F:TB)(s t:SM):SM:=fun ρ=>(F ρ).bd fun r=>if r.1=true then s r.2 else t r.2
def rq (x y:List Dt):Option Dt->M (Dt×List Dt×List Dt)
 |none=>.ex 7
 |some (.tup [.tup (w::r),b])=>if y.length<10000 then .ok (w,x.dropLast,y++[.tup [.tup (w::r),b]]) else .bad
 |_=>.bad
def qr:BM:=fun x y ds=>match ds with
 | []=>rq x y x.getLast?
 |_=>.bad
def qq:BM:=fun x y ds=>match ds with
 | []=>(rq y x y.getLast?).bd fun r=>.ok (r.1,r.2.2,r.2.1)
 |_=>.bad
def eW:List SM->SM
 | []=>cI
 |a::r=>aR a (eW r)
def vY (fs:aa->M (List Dt))(e:aa->M Dt)(ρ:aa):Option Bd->M (Dt×List Dt×List Dt)
 |some (.bor _ x y)=>(fs ρ).bd fun ds=>(lZ x y ds).bd fun r=>(e (ρ.set 0 .no)).calm.bd fun d=>.ok (d,r.2.1,r.2.2)
 |_=>.bad
def qk (fs:aa->M (List Dt))(e:aa->M Dt):M Fl->M (Dt×List Dt×List Dt)
 |.ok (.nx ρ)=>vY fs e ρ ρ[0]?
 |.ex c=>.ex c
 |_=>.bad
theorem vV {fs:aa->M (List Dt)}{e:aa->M Dt}{ρ:aa}:qk fs e (eW [] ρ)=vY fs e ρ ρ[0]?:=rfl
theorem vW {fs:aa->M (List Dt)}{e f:aa->M Dt}{r:List SM}{ρ:aa}:qk fs e (eW (iW f::r) ρ)=(f ρ).bd fun _=>qk fs e (eW r ρ):=by
 show qk fs e (aR (iW f) (eW r) ρ)=_;unfold aR iW
 cases f ρ <;> rfl
theorem vX {fs:aa->M (List Dt)}{e f:aa->M Dt}{i:Nat}{r:List SM}{ρ:aa}:qk fs e (eW (bV f (aI i)::r) ρ)=(f ρ).bd fun d=>qk fs e (eW r (ρ.set i (.val d))):=by
 show qk fs e (aR (bV f (aI i)) (eW r) ρ)=_;unfold aR bV
 cases f ρ <;> rfl
def ij (np n:Nat)(pre:SM)(fs:aa->M (List Dt))(e:aa->M Dt)(p:Nat):BM:=fun x y ds=>if ds.length=np then qk fs e (pre (.bor (some p) x y::(ds.map Bd.val++bM n .no))) else .bad
def il (g:GM)(tc:aa->M Bool)(te:aa->M Dt)(ρ0:aa):List Dt->M (List Dt)
 | []=>.ok []
 |d::ds=>(g d ρ0).calm.bd fun a7=>(tc a7).bd fun b=>if b=true then (te a7).bd fun x=>(il g tc te ρ0 ds).bd fun xs=>.ok (x::xs) else il g tc te ρ0 ds
def xw (k:Nat)(fr:List Nat)(it:IM)(g:GM)(tc:aa->M Bool)(te:aa->M Dt):aa->M Dt:=fun ρ=>(it ρ).bd fun ds=>(il g tc te (cf k fr ρ) ds).bd g7
def rl:Dt->Dt->M Dt
 |.tup (a::r),.tup b=>if (a::r).length+b.length<=10000 then .ok (.tup ((a::r)++b)) else .bad
 |_,_=>.bad
def pQ:List (List Nat×Int)->List Nat->Option Int
 | [],_=>none
 | (k,v)::r,l=>if l=k then some v else pQ r l
def PJ:Option Int->Dt
 |some i=>.int i
 |none=>.aK
def sN (kvs:List (List Nat×Int)):Dt->M Dt
 |.str l=>.ok (PJ (pQ kvs l))
 |_=>.bad
abbrev GB:=aa->M (Dt×List Dt×List Dt)
def BY (F:BM)(m:M (List Dt)):Option (List Dt×List Dt)->M (Dt×List Dt×List Dt)
 |some p=>m.bd fun ds=>F p.1 p.2 ds
 |none=>.bad
def ff (i:Nat)(F:BM)(fs:aa->M (List Dt)):GB:=fun ρ=>BY F (fs ρ) (oM ρ[i]?)
def so (t:aa->M Bool)(g h:GB):GB:=fun ρ=>(t ρ).bd fun b=>if b=true then g ρ else h ρ
def j4 (cs:List Nat)(o:Option (List Dt×List Dt)):M (Dt×List Dt×List Dt)->M (Dt×List Dt×List Dt)
 |.ok r=>.ok r
 |.ex c=>match o with
  |some p=>if c∈cs then .ok (.str (iw c),p.1,p.2) else .bad
  |none=>.bad
 |.bad=>.bad
def kr (i:Nat)(cs fr:List Nat)(g:GB):GB:=fun ρ=>j4 cs (oM ρ[i]?) (g (jz fr ρ))
def qe (np n:Nat)(G:GB):BM:=fun x y ds=>if ds.length=np then G (.bor none x y::(ds.map Bd.val++bM n .no)) else .bad
def xK (i:Nat)(ρ:aa)(m:M (Dt×List Dt×List Dt)):Option Bd->M (Dt×aa)
 |some (.aW x y)=>m.bd fun r=>.ok (r.1,ρ.set i (.aW r.2.1 r.2.2))
 |_=>.bad
def mi (i:Nat)(G:GB)(op:Dt->Dt->M Dt)(g:aa->M Dt):TB:=fun ρ=>(xK i ρ (G ρ) ρ[i]?).bd fun r=>(g r.2).bd fun d=>(op r.1 d).bd (Cs r.2)
def lend (i:Nat)(ρ:aa):aa:=match ρ[i]? with
 |some (.cg ks)=>ρ.set i (.val (.aj ks))
 |_=>ρ
def uA (i:Nat)(t:aa->M Bool)(s u:SM):SM:=fun ρ=>(t (lend i ρ)).bd fun b=>if b=true then s ρ else u ρ
def NM (i:Nat)(ρ:aa):Dt->M Fl
 |.lst ds=>match iA ds with
  |some ps=>.ok (.nx (ρ.set i (.cg (jE [] ps))))
  |none=>.bad
 |_=>.bad
def Au (i:Nat)(f:aa->M Dt):SM:=fun ρ=>(f ρ).bd (NM i ρ)
def pJ (a:Nat):Dt->M Dt
 |.tup ds=>if a<=ds.length then .ok (.tup (ds.drop a)) else .bad
 |_=>.bad
def R1 (k1 k2 k3:List Nat)(b1 b2 b3:Bool)(e:Dt):Dt->M Dt
 |.str l=>.ok (if l=k1 then .bl b1 else if l=k2 then .bl b2 else if l=k3 then .bl b3 else e)
 |_=>.bad
def AU (k1 k2 k3:List Nat)(f1 f2 f3 g h:aa->M Dt):aa->M Dt:=fun ρ=>(f1 ρ).bd fun d1=>(f2 ρ).bd fun d2=>(f3 ρ).bd fun d3=>(g ρ).bd fun k=>(h ρ).bd fun e=>(jx d1).bd fun b1=>(jx d2).bd fun b2=>(jx d3).bd fun b3=>R1 k1 k2 k3 b1 b2 b3 e k
def qW (i:Nat)(g:List Dt->aa->M aa)(fs:aa->M (List Dt)):SM:=fun ρ=>(fs ρ).bd fun ds=>(g ds (ρ.set i (.aW [] []))).calm.bd fun aQ=>.ok (.nx aQ)
def OO:Option (List Int)->M Dt
 |some ls=>.ok (.int (ls.eraseDups.length:Nat))
 |none=>.bad
def rj:Dt->M Dt
 |.lst ds=>if ds.length<=1000 then OO (mL ds) else .bad
 |_=>.bad
end L2
namespace Pg
open L2
section
variable {x y z:Dt}{ds:List Dt}{l:List Nat}{ρ:aa}{s:SM}{cs:List Nat}{i k:Nat}
def Pa (y:Dt)(a:List Dt):M (List Dt):=(kZ y).bd (rH a)
theorem J3:tG [x,y]=(kZ x).bd (Pa y):=.trans rfl rfl
theorem J7:Pa y ds=(kZ y).bd (rH ds):=.trans rfl rfl
theorem J5:kZ (.str l)=.ok (eV l):=.trans rfl rfl
end
theorem e1 (a b:Nat):([a]=[b])=(a=b):=by simp
theorem abk (l:List Nat):(fm l.length).map (lv l)=l:=by
 apply Dj
 intro i;unfold lv
 by_cases h:i<l.length
 ·simp [h]
 ·simp [h]
theorem IW {g:GM}{b:SM}:∀(ds:List Dt) (P:Nat->aa->Prop) (ρ:aa),P 0 ρ->(∀j d ρ,ds[j]?=some d->P j ρ->∃aQ,((g d ρ).calm.bd fun a7=>(b a7).calm)=.ok (.nx aQ)/\P (j+1) aQ)->∃aQ,i9 g b ds ρ=.ok (.nx aQ)/\P ds.length aQ
 | [],P,ρ,h0,_=>⟨ρ,rfl,h0⟩
 |d::ds,P,ρ,h0,h=>by
  obtain⟨a7,e1,p1⟩:=h 0 d ρ rfl h0;obtain⟨nD,e2,p2⟩:=IW ds (fun i=>P (i+1)) a7 p1 fun j e ρ he hp=>h (j+1) e ρ (by simpa using he) hp;refine⟨nD,?_,p2⟩;rw [Kb]
  cases hg:g d ρ with
  |ok aQ=>
   rw [hg] at e1;simp only [jc,bG] at e1 ⊢;rw [J8,e1];exact e2
  |ex c=>rw [hg] at e1; cases e1
  |bad=>rw [hg] at e1; cases e1
def opts (c:Nat):List Nat:=if c=120 then [48,49] else [c]
theorem Zo (c:Nat):(opts c).length<=2:=by unfold opts; split <;> simp
theorem Ue {w o:List Nat}(h:w.length=o.length):js (eV w) (eV o)=(fm w.length).map fun i=>Dt.tup [.str [lv w i],.str [lv o i]]:=by
 apply Dj
 intro i
 by_cases hi:i<w.length
 ·have ho:i<o.length:=by omega
  simp [js,eV,lv,hi,ho,List.getElem?_zip_eq_some]
 ·rw [List.getElem?_eq_none (by simp [js,eV]; omega),List.getElem?_eq_none (by simp; omega)]
def gw (l:List Nat):Prop:=∀c∈l,c=48∨c=49∨c=120
def Cr (c d:Nat):Nat:=if c=48∨d=48 then 48 else if c=120∨d=120 then 120 else 49
def Ce (c d:Nat):Nat:=if c=49∨d=49 then 49 else if c=120∨d=120 then 120 else 48
def Ac (c d:Nat):Nat:=if c=120∨d=120 then 120 else if c=d then 48 else 49
theorem Bc:((120:Nat)=48)=False:=by simp
theorem Bb:((120:Nat)=49)=False:=by simp
theorem agA (c d:Nat):C3 [.str [c],.str [d]]=.ok (.str [Cr c d]):=by
 unfold C3 Ln Cr
 by_cases h1:c=48 <;> by_cases h2:d=48 <;> by_cases h3:c=120 <;> by_cases h4:d=120 <;> first | omega | (simp only [h1,h2,h3,h4,Bc,Bb,true_or,or_true,or_self,or_false,false_or,if_true,if_false]; exists aS,e1,h1,h2,h3,h4,Bc,Bb)
theorem ae7 (c d:Nat):C0 [.str [c],.str [d]]=.ok (.str [Ce c d]):=by
 unfold C0 Ll Ce
 by_cases h1:c=49 <;> by_cases h2:d=49 <;> by_cases h3:c=120 <;> by_cases h4:d=120 <;> first | omega | (simp only [h1,h2,h3,h4,Bc,Bb,true_or,or_true,or_self,or_false,false_or,if_true,if_false]; exists aS,e1,h1,h2,h3,h4,Bc,Bb)
theorem Vk (c d:Nat):CU [.str [c],.str [d]]=.ok (.str [Ac c d]):=by
 unfold CU Le Ac
 by_cases h3:c=120 <;> by_cases h4:d=120 <;> by_cases h5:c=d <;> first | omega | (simp only [h3,h4,h5,true_or,or_true,or_self,if_true,if_false]; exists aS,e1,h3,h4,h5)
def gm (g:Nat->Nat->Nat)(a b:List Nat):List Nat:=(fm a.length).map fun i=>g (lv a i) (lv b i)
theorem aee (g:Nat->Nat->Nat)(a b:List Nat):(gm g a b).length=a.length:=by simp [gm]
theorem Iu {F:List Dt->M Dt}{g:Nat->Nat->Nat}(hF:∀c d,F [.str [c],.str [d]]=.ok (.str [g c d])){a b:List Nat}{ρ:aa}(h:a.length=b.length)(ha:a.length<=1000):gH 2 [] (iG 2 (dJ (aI 0) (dJ (aI 1) ku))) cW (aP F (af (ae 0) (af (ae 1) aq))) ρ (js (eV a) (eV b))=.ok (.lst ((fm a.length).map fun i=>.str [g (lv a i) (lv b i)])):=by
 rw [Ue h];simp only [gH];rw [lV (fun(i:Nat)=>Dt.tup [.str [lv a i],.str [lv b i]]) (fun i=>some (.str [g (lv a i) (lv b i)]))]
 ·rw [oF,jc,bG,cX (by simp; omega)]
 ·intro i hi
  exists aS,je,jd,cf,kA,hF,kB
theorem agz {a b:List Nat}(h:a.length=b.length)(ha:a.length<=1000):C4 [.str a,.str b]=.ok (.str (gm Cr a b)):=by
 unfold C4 Lo
 exists ev
 rw [cX (by simp)]
 exists aS,Eb h,J3,J7,J5
 rw [Iu agA h ha]
 exists aS,xc,sx
 rw [ux (by simp; omega)]
 exists ev
 rfl
theorem ae6 {a b:List Nat}(h:a.length=b.length)(ha:a.length<=1000):C1 [.str a,.str b]=.ok (.str (gm Ce a b)):=by
 unfold C1 Lm
 exists ev
 rw [cX (by simp)]
 exists aS,Eb h,J3,J7,J5
 rw [Iu ae7 h ha]
 exists aS,xc,sx
 rw [ux (by simp; omega)]
 exists ev
 rfl
theorem Vj {a b:List Nat}(h:a.length=b.length)(ha:a.length<=1000):CV [.str a,.str b]=.ok (.str (gm Ac a b)):=by
 unfold CV Lf
 exists ev
 rw [cX (by simp)]
 exists aS,Eb h,J3,J7,J5
 rw [Iu Vk h ha]
 exists aS,xc,sx
 rw [ux (by simp; omega)]
 exists ev
 rfl
theorem uP {l:List Nat}(h:gw l){i:Nat}(hi:i<l.length):lv l i=48∨lv l i=49∨lv l i=120:=h _ (by simp [lv,hi])
theorem abm {g:Nat->Nat->Nat}{a b:List Nat}(hg:∀{c d:Nat},(c=48∨c=49∨c=120)->(d=48∨d=49∨d=120)->g c d=48∨g c d=49∨g c d=120)(ha:gw a)(hb:gw b)(h:a.length=b.length):gw (gm g a b):=by
 intro c hc;simp only [gm,dF,List.mem_range] at hc;obtain⟨i,hi,rfl⟩:=hc;exact hg (uP ha hi) (uP hb (by omega))
def Ld:SM:=(aR (xl 3 (ae 0))
 (aR (uB 3 (ae 1) (ae 2))
 (mw 3 (bJ (ae 3)))))
def CS:List Dt->M Dt:=cO 3 1 Ld
def C9:SM:=(aR (iW (aP ny (af (p2 bR (er (af (ae 2) aq)) (dQ 1 [0,1] (lJ (ae 0)) (aI 0) (aU (p2 c8 (ae 0) (ae 2))) (p2 gj (ae 1) (ae 0)))) aq)))
 (bJ (aP CS (af (ae 0) (af (ae 1) (af (ae 2) aq))))))
def ji:List Dt->M Dt:=cO 3 0 C9
def Dc:SM:=(aR (cY (aU (p2 xy (ae 1) (ae 0))) (pf 1 (uk (ae 1))) cI)
 (bJ (p2 gj (ae 0) (ae 1))))
def jj:List Dt->M Dt:=cO 2 0 Dc
def C8:SM:=(aR (iW (aP jj (af (ae 0) (af (ae 1) aq))))
 (aR (xl 2 (ae 0))
 (aR (Ax 2 (ae 1))
 (mw 2 (bJ (ae 2))))))
def oQ:List Dt->M Dt:=cO 2 1 C8
def Lk:SM:=(aR (cY (iS (ur (aU (p1 Gd (ae 0)))) (ur (aU (AV oLe oLe (pC (.int 1)) (aP dM (af (ae 0) aq)) (pC (.int 4)))))) (bJ (pC (.bl false))) cI)
 (bJ (aP yR (af (dQ 1 [] (gk (ae 0)) (aI 0) cW (p2 gi (ae 0) (pC (.str [97,98,99,100,101,102,103,104,105,106,107,108,109,110,111,112,113,114,115,116,117,118,119,120,121,122])))) aq))))
def CZ:List Dt->M Dt:=cO 1 0 Lk
def Lg:SM:=(cY (ur (aU (aP CZ (af (ae 0) aq)))) (pf 1 (uk (ae 0))) cI)
def oR:List Dt->M Dt:=cO 1 0 Lg
def Li:SM:=(bJ (pH oh (pC (.str [])) (af (dQ 1 [] (gk (ae 0)) (aI 0) cW (p1 (Cj [([48],[49]),([49],[48]),([120],[120])]) (ae 0))) aq)))
def CY:List Dt->M Dt:=cO 1 0 Li
def Df:SM:=(aR (cY (aU (p2 c8 (aP dM (af (ae 1) aq)) (p1 (sN [([110,111],1),([98,111,116,104],2),([101,105,116,104,101,114],2),([117,110,108,105,107,101],2)]) (ae 0)))) (pf 1 (uk (ae 0))) cI)
 (aR (cY (aU (p2 oEq (ae 0) (pC (.str [110,111])))) (bJ (aP CY (af (p2 aO (ae 1) (pC (.int 0))) aq))) cI)
 (aR (cY (aU (p2 oEq (ae 0) (pC (.str [98,111,116,104])))) (bJ (aP C4 (af (p2 aO (ae 1) (pC (.int 0))) (af (p2 aO (ae 1) (pC (.int 1))) aq)))) cI)
 (aR (cY (aU (p2 oEq (ae 0) (pC (.str [101,105,116,104,101,114])))) (bJ (aP C1 (af (p2 aO (ae 1) (pC (.int 0))) (af (p2 aO (ae 1) (pC (.int 1))) aq)))) cI)
 (bJ (aP CV (af (p2 aO (ae 1) (pC (.int 0))) (af (p2 aO (ae 1) (pC (.int 1))) aq))))))))
def jQ:List Dt->M Dt:=cO 2 0 Df
def Ls:SM:=(aR (bV (er (af (pC (.str [97])) (af (pC (.str [98])) (af (pC (.str [99,100])) (af (pC (.str [119,120,121,122])) aq))))) (aI 4))
 (aR (As 5 6 (af (p2 aO (ae 4) (aP gS (af (ae 0) (af (ae 1) (af (pC (.int 4)) aq))))) (af (aP gS (af (ae 0) (af (p2 bR (ae 1) (pC (.int 1))) (af (pC (.int 7)) aq)))) aq)))
 (aR (cY (iS (aU (p2 oLt (ae 6) (pC (.int 3)))) (aU (p2 oEq (ae 2) pI))) (aR (bV (p2 bR (ae 3) (aP oO (af (p2 oEq (aP gS (af (ae 0) (af (p2 bR (ae 1) (pC (.int 2))) (af (pC (.int 8)) aq)))) (pC (.int 0))) aq))) (aI 7))
 (bJ (eZ (af (pC (.str [112,117,116])) (af (ae 5) (af (aP zh (af (ae 0) (af (p2 bR (ae 1) (pC (.int 10))) (af (aP wg (af (pC (.int 12)) (af (ae 7) aq))) (af (pC (.str [48,49,120])) aq))))) aq)))))) cI)
 (aR (cY (aU (p2 oEq (ae 6) (pC (.int 3)))) (bJ (eZ (af (pC (.str [116,97,107,101])) (af (ae 5) aq)))) cI)
 (aR (bV (p2 aO (er (af (pC (.str [110,111])) (af (pC (.str [98,111,116,104])) (af (pC (.str [101,105,116,104,101,114])) (af (pC (.str [117,110,108,105,107,101])) aq))))) (aP gS (af (ae 0) (af (p2 bR (ae 1) (pC (.int 3))) (af (pC (.int 4)) aq))))) (aI 8))
 (aR (bV (dQ 1 [0,1,4] (lK uC (af (ig (aU (p2 oEq (ae 8) (pC (.str [110,111])))) (pC (.int 1)) (pC (.int 2))) aq)) (aI 0) cW (p2 aO (ae 3) (aP gS (af (ae 1) (af (p2 bR (p2 bR (ae 2) (pC (.int 4))) (ae 0)) (af (pC (.int 4)) aq)))))) (aI 9))
 (bJ (p2 rl (eZ (af (pC (.str [103,97,116,101])) (af (ae 5) (af (ae 8) aq)))) (aP yO (af (ae 9) aq))))))))))
def zj:List Dt->M Dt:=cO 4 6 Ls
def KW:SM:=(aR (bV (p2 bR (aP oO (af (p2 oEq (ae 6) (pC (.str [49]))) aq)) (aP oO (af (p2 oEq (ae 7) (pC (.str [49]))) aq))) (aI 8))
 (aR (bV (AU [98,111,116,104] [101,105,116,104,101,114] [117,110,108,105,107,101] (p2 oEq (ae 8) (pC (.int 2))) (p2 mG (ae 8) (pC (.int 0))) (p2 oEq (ae 8) (pC (.int 1))) (ae 0) (p2 oEq (ae 6) (pC (.str [48])))) (aI 9))
 (Ay 5 (ig (aU (ae 9)) (pC (.str [49])) (pC (.str [48]))))))
def CO:SM:=(ph (gk (ig (aU (p2 oEq (p2 aO (ae 4) (p1 xC (pC (.int 1)))) (pC (.str [120])))) (pC (.str [48,49])) (p2 aO (ae 4) (p1 xC (pC (.int 1)))))) (aI 7) KW)
def CN:SM:=(aR (Ar 4 5 (dQ 1 [3] (gk (ae 1)) (aI 0) cW (p2 aO (ae 0) (ae 1))))
 (aR (ph (gk (ig (aU (p2 oEq (p2 aO (ae 4) (pC (.int 0))) (pC (.str [120])))) (pC (.str [48,49])) (p2 aO (ae 4) (pC (.int 0))))) (aI 6) CO)
 (mw 5 (bV (p2 bR (ae 2) (ig (aU (p2 oEq (p1 uJ (ae 5)) (pC (.int 1)))) (p2 aO (ae 5) (pC (.int 0))) (pC (.str [120])))) (aI 2)))))
def Lr:SM:=(aR (bV (pC (.str [])) (aI 2))
 (mw 5 (aR (ph (lK uC (af (aP dM (af (p2 aO (ae 1) (pC (.int 0))) aq)) aq)) (aI 3) CN)
 (bJ (ae 2)))))
def wt:List Dt->M Dt:=cO 2 8 Lr
def zk:SM:=(aR (Au 2 (dQ 1 [0,1] (lJ (ae 0)) (aI 0) (aU (p2 c8 (ae 0) (p2 aO (ae 2) (pC (.int 1))))) (eZ (af (ae 0) (af (p2 gj (ae 1) (ae 0)) aq)))))
 (aR (cY (aU (p2 oEq (p2 aO (ae 1) (pC (.int 0))) (pC (.str [116,97,107,101])))) (mw 2 (bJ (ig (aU (p2 xD (p2 aO (ae 1) (pC (.int 1))) (ae 0))) (eZ (af (ae 2) (af (p2 gj (ae 0) (p2 aO (ae 1) (pC (.int 1)))) aq))) (eZ (af (ae 0) (af (pC (.str [110,111,32,110,97,109,101])) aq)))))) cI)
 (aR (cY (aU (p2 oEq (p2 aO (ae 1) (pC (.int 0))) (pC (.str [112,117,116])))) (aR (uA 2 (aU (p2 mG (p1 rj (p2 bR (dQ 1 [2] (lJ (ae 2)) (aI 0) cW (aP dM (af (p2 gj (ae 1) (ae 0)) aq))) (er (af (aP dM (af (p2 aO (ae 1) (pC (.int 2))) aq)) aq)))) (pC (.int 1)))) (bJ (eZ (af (ae 0) (af (pC (.str [117,110,108,105,107,101])) aq)))) cI)
 (aR (uB 2 (p2 aO (ae 1) (pC (.int 1))) (p2 aO (ae 1) (pC (.int 2))))
 (mw 2 (bJ (eZ (af (ae 2) (af (p2 xD (p2 aO (ae 1) (pC (.int 1))) (ae 0)) aq))))))) cI)
 (aR (cY (aU (p2 c8 (dQ 1 [0] (gk (p1 (pJ 3) (ae 1))) (aI 0) (aU (p2 xy (ae 0) (ae 1))) (ae 0)) (er aq))) (bJ (eZ (af (ae 0) (af (pC (.str [110,111,32,110,97,109,101])) aq)))) cI)
 (aR (uB 2 (p2 aO (ae 1) (pC (.int 1))) (aP wt (af (p2 aO (ae 1) (pC (.int 2))) (af (dQ 1 [0] (gk (p1 (pJ 3) (ae 1))) (aI 0) cW (p2 gj (ae 1) (ae 0))) aq))))
 (mw 2 (bJ (eZ (af (ae 2) (af (p2 gj (ae 2) (p2 aO (ae 1) (pC (.int 1)))) aq))))))))))
def nz:List Dt->M Dt:=cO 2 1 zk
def xu:List SM:=[(iW (aP oR (af (ae 1) aq))),(bV (fR 0 oN) (aI 3))]
def Cz:aa->M (List Dt):=(af (eZ (af (pC (.str [112,117,116])) (af (ae 1) (af (ae 2) aq)))) (af (aP ji (af (ae 3) (af (ae 1) (af (ae 2) aq)))) aq))
def AF:aa->M Dt:=(p2 xD (ae 1) (ae 3))
def lY:BM:=ij 2 1 (eW xu) Cz AF 0
def xv:List SM:=[(iW (aP oR (af (ae 1) aq))),(bV (fR 0 oN) (aI 4)),(bV (aP jQ (af (ae 2) (af (xw 1 [4] (gk (ae 3)) (aI 0) cW (aP jj (af (ae 1) (af (ae 0) aq)))) aq))) (aI 5))]
def CA:aa->M (List Dt):=(af (p2 rl (eZ (af (pC (.str [103,97,116,101])) (af (ae 1) (af (ae 2) aq)))) (aP yO (af (ae 3) aq))) (af (aP ji (af (ae 4) (af (ae 1) (af (ae 5) aq)))) aq))
def AG:aa->M Dt:=(ae 5)
def jM:BM:=ij 3 2 (eW xv) CA AG 0
def xt:List SM:=[(bV (fR 0 oN) (aI 2))]
def Cy:aa->M (List Dt):=(af (eZ (af (pC (.str [116,97,107,101])) (af (ae 1) aq))) (af (aP oQ (af (ae 2) (af (ae 1) aq))) aq))
def AE:aa->M Dt:=(p2 gj (ae 2) (ae 1))
def lX:BM:=ij 1 1 (eW xt) Cy AE 0
end Pg
namespace L2
section
variable {f g h fk fv:aa->M Dt}{ρ:aa}{kvs:av}{l v:List Nat}{d e k:Dt}{i:Nat}{it:IM}{gm:GM}{s:SM}{ds:List Dt}
def Pc:Dt->M (List Dt)
 |.aj kvs=>.ok (mJ kvs)
 |_=>.bad
def OZ:Dt->M (List Dt)
 |.aj kvs=>.ok (D6 kvs)
 |_=>.bad
def Pd:Dt->M (List Dt)
 |.aj kvs=>.ok (Hd kvs)
 |_=>.bad
theorem UJ:lJ f ρ=(f ρ).bd Pc:=by
 unfold lJ
 congr 1
 funext d
 cases d <;> rfl
theorem UI:PM f ρ=(f ρ).bd OZ:=by
 unfold PM
 congr 1
 funext d
 cases d <;> rfl
theorem UK:PQ f ρ=(f ρ).bd Pd:=by
 unfold PQ
 congr 1
 funext d
 cases d <;> rfl
theorem Uy:Pc (.aj kvs)=.ok (mJ kvs):=.trans rfl rfl
theorem Uw:OZ (.aj kvs)=.ok (D6 kvs):=.trans rfl rfl
theorem Uz:Pd (.aj kvs)=.ok (Hd kvs):=.trans rfl rfl
theorem UU:gj (.aj kvs) (.str l)=oJ kvs l:=.trans rfl rfl
theorem qj (h:az kvs l=some v):oJ kvs l=.ok (.str v):=by unfold oJ; rw [h]
theorem UH:xD (.str l) (.aj kvs)=.ok (.bl (az kvs l).isSome):=.trans rfl rfl
theorem Uu:xy (.str l) (.aj kvs)=.ok (.bl (!(az kvs l).isSome)):=.trans rfl rfl
def gtD (e:Dt):Option (List Nat)->Dt
 |some v=>.str v
 |none=>e
theorem UL:sk kvs e (.str l)=.ok (gtD e (az kvs l)):=by
 show M.ok (match az kvs l with | some v=>Dt.str v | none=>e)=_
 cases az kvs l <;> rfl
def Pf (g:aa->M Dt)(ρ:aa):Dt->M Dt
 |.aj kvs=>(g ρ).bd (sk kvs .aK)
 |_=>.bad
theorem UN:NL f g ρ=(f ρ).bd (Pf g ρ):=by
 unfold NL
 congr 1
 funext d
 cases d <;> rfl
theorem UD:Pf g ρ (.aj kvs)=(g ρ).bd (sk kvs .aK):=.trans rfl rfl
def G2 (kvs:av)(k e:Dt):M Dt:=sk kvs e k
def G3 (h:aa->M Dt)(ρ:aa)(kvs:av)(k:Dt):M Dt:=(h ρ).bd (G2 kvs k)
def Pe (g h:aa->M Dt)(ρ:aa):Dt->M Dt
 |.aj kvs=>(g ρ).bd (G3 h ρ kvs)
 |_=>.bad
theorem UM:NK f g h ρ=(f ρ).bd (Pe g h ρ):=by
 unfold NK
 congr 1
 funext d
 cases d <;> rfl
theorem UC:Pe g h ρ (.aj kvs)=(g ρ).bd (G3 h ρ kvs):=.trans rfl rfl
theorem UB:G3 h ρ kvs k=(h ρ).bd (G2 kvs k):=.trans rfl rfl
theorem UA:G2 kvs k e=sk kvs e k:=.trans rfl rfl
def O8 (i:Nat)(ρ:aa):Dt->M Fl
 |.aj kvs=>.ok (.nx (ρ.set i (.cg kvs)))
 |_=>.bad
theorem Us:xl i f ρ=(f ρ).bd (O8 i ρ):=by
 unfold xl
 congr 1
 funext d
 cases d <;> rfl
theorem Ux:O8 i ρ (.aj kvs)=.ok (.nx (ρ.set i (.cg kvs))):=.trans rfl rfl
theorem Ut:XM i ρ=.ok (.nx (ρ.set i (.cg []))):=.trans rfl rfl
theorem Um:uB i fk fv ρ=Ci i fk fv ρ ρ[i]?:=.trans rfl rfl
def Pn (i:Nat)(fk:aa->M Dt)(ρ:aa)(kvs:av):Dt->M Fl
 |.str v=>(fk ρ).bd (vT i ρ kvs v)
 |_=>.bad
theorem US:Ci i fk fv ρ (some (.cg kvs))=(fv ρ).bd (Pn i fk ρ kvs):=by
 show ((fv ρ).bd fun d=>(MD d).bd fun v=>(fk ρ).bd (vT i ρ kvs v))=_
 congr 1
 funext d
 cases d <;> rfl
theorem UG:Pn i fk ρ kvs (.str v)=(fk ρ).bd (vT i ρ kvs v):=.trans rfl rfl
theorem UT:vT i ρ kvs v (.str l)=ck (kvs.length<10000) (.ok (.nx (ρ.set i (.cg (dI kvs l v))))):=.trans rfl rfl
theorem Up:Ax i fk ρ=AJ i fk ρ ρ[i]?:=.trans rfl rfl
theorem Uq:AJ i fk ρ (some (.cg kvs))=(fk ρ).bd (AK i ρ kvs):=.trans rfl rfl
theorem Ur:AK i ρ kvs (.str l)=ck ((az kvs l).isSome=true) (.ok (.nx (ρ.set i (.cg (cE kvs l))))):=.trans rfl rfl
theorem Ul:pk i ρ (some (.cg kvs))=ρ.set i (.val (.aj kvs)):=.trans rfl rfl
theorem UX:SO [.aj kvs]=.ok (.aj kvs):=.trans rfl rfl
theorem UW:SO [.lst ds]=FL (iA ds):=.trans rfl rfl
theorem Uo:FL (some kvs)=.ok (.aj (jE [] kvs)):=.trans rfl rfl
theorem DZ:pI ρ=.ok (.aj []):=.trans rfl rfl
theorem Uk:uk f ρ=(f ρ).bd wV:=.trans rfl rfl
theorem Uj:wV (.str l)=ck (l.length<=50/\(l.all fun c=>decide (c<1000))=true) (.ok ()):=.trans rfl rfl
def Ph (gm:GM)(s:SM)(ρ:aa)(ds:List Dt):M Fl:=B3 gm s ds ρ
theorem UO:XQ it gm s ρ=(it ρ).bd (Ph gm s ρ):=.trans rfl rfl
theorem UE:Ph gm s ρ ds=B3 gm s ds ρ:=.trans rfl rfl
theorem ints_map {α:Type}(f:α->Int):∀l:List α,mL (l.map fun a=>Dt.int (f a))=some (l.map f)
 | []=>rfl
 |a::l=>by
  show (mL (l.map fun a=>Dt.int (f a))).map (f a :: ·)=_;rw [ints_map f l];rfl
theorem UP:XR i f ρ=Jf i f ρ ρ[i]?:=.trans rfl rfl
theorem UQ:Jf i f ρ (some (.own ds))=(f ρ).bd (Jg i ρ ds):=.trans rfl rfl
theorem UR {es:List Dt}:Jg i ρ ds (.lst es)=ck (ds.length+es.length<=10000) (.ok (.nx (ρ.set i (.own (ds++es))))):=.trans rfl rfl
end
end L2
local macro_rules
 | `(tactic| exists dU, $xs:term,*) => `(tactic| exists aS, UJ, UI, UK, Uy, Uw, Uz, UU, UH, Uu, UL, UN, UD, UM, UC, UB, UA, Us, Ux, Ut, Um, US, UG, UT, Up, Uq, Ur, Ul, UX, UW, Uo, DZ, Uk, Uj, UO, UE, UP, UQ, UR, $xs,*)
 | `(tactic| exists dv) => `(tactic| try exists dU, eq_self)
namespace Pg
open L2
theorem xN (k:List Nat):az ([]:av) k=none:=rfl
theorem fS (p:List Nat×List Nat)(r:av)(k:List Nat):az (p::r) k=if p.1=k then some p.2 else az r k:=by
 unfold az;rw [iL]
 by_cases h:p.1=k
 ·have:(p.1==k)=true:=by simpa using h
  rw [this,if_pos h]; rfl
 ·have:(p.1==k)=false:=by simpa using h
  rw [this,if_neg h]
abbrev PW:=List Nat×List Nat
abbrev Nd (kvs:av):Prop:=(kvs.map (·.1)).Nodup
theorem rD:∀{kvs:av}{p:List Nat×List Nat},Nd kvs->p∈kvs->az kvs p.1=some p.2
 |q::r,p,hn,hp=>by
  obtain⟨h1,h2⟩:=oY.mp (show (q.1::r.map (·.1)).Nodup from hn);rw [fS];rcases bf.mp hp with e | e
  ·rw [← e,if_pos rfl]
  ·rw [if_neg fun z=>h1 (dF.mpr ⟨p,e,z.symm⟩)]
   exact rD h2 e
abbrev qV (l:List Nat):Prop:=l.length<=50/\(l.all fun c=>decide (c<1000))=true
theorem U3 {kvs:av}{n w:List Nat}(h:kvs.length<10000):CS [.aj kvs,.str n,.str w]=.ok (.aj (dI kvs n w)):=by
 unfold CS Ld
 exists dv
 rw [c9 h]
 exists dv
theorem D3 {kvs:av}{n v:List Nat}(h:az kvs n=some v):jj [.aj kvs,.str n]=.ok (.str v):=by
 have e:(az kvs n).isSome=true:=by rw [h]; rfl
 unfold jj Dc
 exists dU,e,qj h
theorem LG {kvs:av}{n:List Nat}(h:az kvs n=none)(hn:qV n):jj [.aj kvs,.str n]=.ex 1:=by
 have e:(az kvs n).isSome=false:=by rw [h]; rfl
 unfold jj Dc
 exists dU,e
 rw [c9 hn]
 exists ev
theorem U1 {kvs:av}{n v:List Nat}(h:az kvs n=some v):oQ [.aj kvs,.str n]=.ok (.aj (cE kvs n)):=by
 have e:(az kvs n).isSome=true:=by rw [h]; rfl
 unfold oQ C8
 exists dU,D3 h,e
theorem U0 {kvs:av}{n:List Nat}(h:az kvs n=none)(hn:qV n):oQ [.aj kvs,.str n]=.ex 1:=by
 unfold oQ C8
 exists dU,LG h hn
theorem LF {kvs:av}{n w:List Nat}(hd:Nd kvs)(hl:kvs.length<=1000):gH 1 [0,1] (aI 0) (aU (p2 c8 (ae 0) (ae 2))) (p2 gj (ae 1) (ae 0)) [.val (.aj kvs),.val (.str n),.val (.str w)] (mJ kvs)=.ok (.lst (((kvs.filter fun p=>!decide (p.1=n)).map (·.2)).map Dt.str)):=by
 simp only [gH];rw [show mJ kvs=kvs.map (fun p=>Dt.str p.1) from rfl,lV (fun p:PW=>Dt.str p.1) (fun p=>if (!decide (p.1=n))=true then some (.str p.2) else none)]
 ·rw [B4 (fun p:List Nat×List Nat=>!decide (p.1=n)) (fun p=>Dt.str p.2),jc,bG,cX,nE]
  ·rfl
  ·rw [ef]
   exact cK (o5 _ _) (by omega)
 ·intro p hp
  have e:=rD hd hp
  by_cases P6:p.1=n
  ·have e2:decide (p.1=n)=true:=decide_eq_true P6
   exists aS,je,jd,cf,e2,Cp
   rfl
  ·have e2:decide (p.1=n)=false:=decide_eq_false P6
   exists dU,je,jd,cf,e2,kA,qj e,kB
   rfl
theorem LD {kvs:av}{n w:List Nat}(hd:Nd kvs)(hl:kvs.length<=900)(h:∀p∈kvs,p.1≠n->p.2.length=w.length):ji [.aj kvs,.str n,.str w]=.ok (.aj (dI kvs n w)):=by
 have hf:(kvs.filter fun p=>!decide (p.1=n)).length<=kvs.length:=o5 _ _;have u:=LV (ls:=w::(kvs.filter fun p=>!decide (p.1=n)).map (·.2)) (by simp; omega) (by
  intro l hm;rcases bf.mp hm with rfl | hm
  ·rfl
  ·obtain⟨p,hp,rfl⟩:=dF.mp hm
   obtain⟨h1,h2⟩:=jR.mp hp;exact h p h1 (by simpa using h2))
 rw [bI] at u;unfold ji C9
 exists dv
 rw [cX (by simp)]
 exists dU,LF hd (by omega)
 rw [cX (by simp; omega)]
 exists aS,u,U3 (kvs:=kvs) (n:=n) (w:=w) (by omega)
theorem U2 {kvs:av}{n w:List Nat}(hd:Nd kvs)(hl:kvs.length<=900)(h:¬ ∀p∈kvs,p.1≠n->p.2.length=w.length):ji [.aj kvs,.str n,.str w]=.ex 6:=by
 have hf:(kvs.filter fun p=>!decide (p.1=n)).length<=kvs.length:=o5 _ _;have u:=Vi (ls:=w::(kvs.filter fun p=>!decide (p.1=n)).map (·.2)) (by simp; omega) (by
  intro z;refine h fun p hp hn=>z p.2 (cG _ (dF.mpr ⟨p,jR.mpr ⟨hp,by simpa using hn⟩,rfl⟩)))
 rw [bI] at u;unfold ji C9
 exists dv
 rw [cX (by simp)]
 exists dU,LF hd (by omega)
 rw [cX (by simp; omega)]
 exists aS,u
theorem FK {kvs:av}{k v:List Nat}(h:∀p∈kvs,p.1≠k):dI kvs k v=kvs++[(k,v)]:=by
 unfold dI;rw [if_neg];intro z;obtain⟨p,hp,e⟩:=List.any_eq_true.mp z;exact h p hp (by simpa using e)
theorem QV (f:PW->List Nat):∀(r acc:av),(∀p∈r,∀q∈acc,q.1≠p.1)->Nd r->r.foldl (fun a p=>dI a p.1 (f p)) acc=acc++r.map fun p=>(p.1,f p)
 | [],acc,_,_=>by simp
 |p::r,acc,h,hn=>by
  obtain⟨h1,h2⟩:=oY.mp (show (p.1::r.map (·.1)).Nodup from hn);rw [tD,FK (h p bN),QV f r _ _ h2,bI,nK]
  ·rfl
  ·intro q hq a ha z
   rcases eD.mp ha with ha | ha
   ·exact h q (cG _ hq) a ha z
   ·have:a=(p.1,f p):=by simpa using ha
    subst this;exact h1 (dF.mpr ⟨q,hq,z.symm⟩)
def MT (a:List Nat)(t:Nat):List Nat:=(a.drop t).take 1
def dT (a b:List Nat):List Nat:=(fm (max a.length b.length)).filter fun t=>!decide (MT a t=MT b t)
def gd (a:av)(n:List Nat):List Nat:=(az a n).getD []
theorem Nr {α:Type}(f g:α->List Nat):∀l:List α,iA (l.map fun a=>Dt.tup [.str (f a),.str (g a)])=some (l.map fun a=>(f a,g a))
 | []=>rfl
 |a::l=>by
  show (iA (l.map fun a=>Dt.tup [.str (f a),.str (g a)])).map ((f a,g a) :: ·)=_;rw [Nr f g l];rfl
theorem aa7 {kvs:av}(h:Nd kvs):jE [] kvs=kvs:=by
 unfold jE;rw [QV (fun p=>p.2) kvs [] (by simp) h];simp
theorem mem_keys {kvs:av}{n:List Nat}:n∈kvs.map (·.1)↔(az kvs n).isSome=true:=by
 induction kvs with
 |nil=>simp [xN]
 |cons p r ih=>
  rw [fS,bI,bf,ih]
  by_cases h:p.1=n
  ·simp [h]
  ·simp [h,cb h]
theorem afD (l:List (List Nat)):dep (.lst (l.map Dt.str))<=50:=by
 have:fG (l.map Dt.str)=0:=R5 (fun a=>a) l;simp [dep,this]
theorem GL (a b:av)(m:List Nat):az (a++b) m=match az a m with | some v=>some v | none=>az b m:=by
 induction a with
 |nil=>rfl
 |cons p r ih=>
  show az (p::(r++b)) m=_;rw [fS,fS]
  by_cases h:p.1=m
  ·rw [if_pos h,if_pos h]
  ·rw [if_neg h,if_neg h]; exact ih
theorem OM {kvs:av}{n:List Nat}:az kvs n=none↔∀p∈kvs,p.1≠n:=by
 constructor
 ·intro h p hp e
  have h1:n∈kvs.map (·.1):=dF.mpr ⟨p,hp,e⟩;rw [mem_keys,h] at h1;cases h1
 ·intro h
  cases e:az kvs n with
  |none=>rfl
  |some v=>
   have h1:(az kvs n).isSome=true:=by rw [e]; rfl
   rw [← mem_keys] at h1;obtain⟨p,hp,e1⟩:=dF.mp h1;exact absurd e1 (h p hp)
theorem xO:∀{kvs:av}{n v:List Nat},az kvs n=some v->(n,v)∈kvs
 | [],_,_,h=>nomatch h
 |p::r,n,v,h=>by
  rw [fS] at h
  by_cases e:p.1=n
  ·rw [if_pos e] at h
   cases h;subst e;exact bN
  ·rw [if_neg e] at h
   exact cG _ (xO h)
theorem SV (kvs:av)(n:List Nat):(kvs.any fun p=>p.1==n)=(az kvs n).isSome:=by
 induction kvs with
 |nil=>rfl
 |cons p r ih=>
  rw [oU,fS,ih]
  by_cases h:p.1=n
  ·rw [if_pos h,h,beq_self_eq_true]; rfl
  ·rw [if_neg h,beq_eq_false_iff_ne.mpr h]; rfl
theorem abt (kvs:av)(n w m:List Nat):az (kvs.map fun p=>if (p.1==n)=true then (p.1,w) else p) m=if m=n then (az kvs n).map fun _=>w else az kvs m:=by
 induction kvs with
 |nil=>by_cases h:m=n <;> simp [xN,h]
 |cons p r ih=>
  rw [bI,fS,ih]
  by_cases h:p.1=n
  ·simp only [h,beq_self_eq_true,if_true]
   by_cases h2:m=n
   ·subst h2; simp [fS,h]
   ·rw [if_neg (fun z=>h2 z.symm),if_neg h2,if_neg h2,fS,if_neg (fun z=>h2 (by rw [← z,h]))]
  ·simp only [beq_eq_false_iff_ne.mpr h,if_false,du]
   by_cases h2:m=n
   ·subst h2
    rw [if_neg h,if_pos rfl,if_pos rfl,fS,if_neg h]
   ·rw [if_neg h2,if_neg h2,fS]
theorem GJ (kvs:av)(n w m:List Nat):az (dI kvs n w) m=if m=n then some w else az kvs m:=by
 unfold dI;rw [SV]
 cases e:az kvs n with
 |some v=>
  simp only [wL,if_true];rw [abt,e];rfl
 |none=>
  simp only [zO,du,if_false];rw [GL]
  by_cases h:m=n
  ·subst h; rw [e,if_pos rfl]; simp [fS]
  ·rw [if_neg h]
   cases az kvs m with
   |some v=>rfl
   |none=>simp [fS,xN]; exact fun z=>h z.symm
theorem rE (kvs:av)(n m:List Nat):az (cE kvs n) m=if m=n then none else az kvs m:=by
 unfold cE
 induction kvs with
 |nil=>simp [xN]
 |cons p r ih=>
  rw [wI]
  by_cases h:p.1=n
  ·rw [h,beq_self_eq_true]
   simp only [tu,du,if_false];rw [ih,fS]
   by_cases h2:m=n
   ·rw [if_pos h2,if_pos h2]
   ·rw [if_neg h2,if_neg h2,if_neg (fun z=>h2 (by rw [← z,h]))]
  ·rw [beq_eq_false_iff_ne.mpr h]
   simp only [wD,if_true];rw [fS,ih,fS]
   by_cases h3:p.1=m
   ·rw [if_pos h3,if_pos h3,if_neg (fun z=>h (by rw [h3,z]))]
   ·rw [if_neg h3,if_neg h3]
theorem xG {kvs:av}(n:List Nat)(h:Nd kvs):Nd (cE kvs n):=List.Nodup.sublist (List.Sublist.map _ (List.filter_sublist)) h
theorem Oy {kvs:av}{n w:List Nat}(h:Nd kvs)(h1:az kvs n=none):Nd (kvs++[(n,w)]):=by
 show ((kvs++[(n,w)]).map (·.1)).Nodup;rw [tw,List.nodup_append];refine⟨h,by simp,fun a ha b hb e=>?_⟩;obtain⟨p,hp,rfl⟩:=dF.mp ha;simp only [bI,iK,jo] at hb;exact OM.mp h1 p hp (e.trans hb)
theorem Ox {kvs:av}(n w:List Nat)(h:Nd kvs):Nd (dI kvs n w):=by
 unfold dI;rw [SV]
 cases e:az kvs n with
 |some v=>
  simp only [wL,if_true];show (List.map (fun x:PW=>x.1) (kvs.map _)).Nodup;rw [nE];have:((fun x:PW=>x.1) ∘ fun p:PW=>if (p.1==n)=true then (p.1,w) else p)=fun p=>p.1:=by
   funext p
   show (if (p.1==n)=true then (p.1,w) else p).1=p.1
   split <;> rfl
  rw [this];exact h
 |none=>
  simp only [zO,du,if_false];exact Oy h e
def Sm (s k:av):Prop:=∀n,az s n=az k n
theorem WI {s k:av}(hs:Nd s)(hk:Nd k)(h:Sm s k):s.length=k.length:=by
 have f:∀{a b:av},Nd a->Sm a b->a.length<=b.length:=fun {a b} ha fU=>by
  have:=Lx ha (l₂:=b.map (·.1)) fun n hn=>by
   rw [mem_keys] at hn ⊢;rw [← fU n];exact hn
  simpa using this
 exact Nat.le_antisymm (f hs h) (f hk fun n=>(h n).symm)
theorem WK {s k:av}(hs:Nd s)(hk:Nd k)(h:Sm s k):bZ (.aj s) (.aj k)=true:=by
 show (s==k || oH s k)=true;rw [Bool.or_eq_true];refine .inr ?_;unfold oH;rw [oZ];refine⟨by rw [WI hs hk h]; exact beq_self_eq_true _,eg.mpr fun p hp=>?_⟩;rw [← h,rD hs hp];exact beq_self_eq_true _
theorem xj {s k:av}{n w:List Nat}(h:Sm s k):Sm (dI s n w) (cE k n++[(n,w)]):=fun m=>by
 rw [GJ,GL,rE]
 by_cases e:m=n
 ·subst e; simp [fS]
 ·rw [if_neg e,if_neg e,h m]
  cases az k m with
  |some v=>rfl
  |none=>simp [fS,xN]; exact fun z=>e z.symm
theorem EH {s k:av}{n:List Nat}(h:Sm s k):Sm (cE s n) (cE k n):=fun m=>by
 rw [rE,rE,h m]
theorem Oz {k:av}{n w:List Nat}(h:Nd k):Nd (cE k n++[(n,w)]):=Oy (xG n h) (by rw [rE,if_pos rfl])
def GO:List Nat:=[97,98,99,100,101,102,103,104,105,106,107,108,109,110,111,112,113,114,115,116,117,118,119,120,121,122]
def pP (l:List Nat):Bool:=(decide (1<=l.length)&&decide (l.length<=4))&&l.all fun c=>decide (c∈GO)
theorem ach (l:List Nat):CZ [.str l]=.ok (.bl (pP l)):=by
 have e0:Gd (.str l)=.ok (.bl true):=rfl;unfold CZ Lk pP
 by_cases h1:1<=l.length
 ·by_cases h2:l.length<=4
  ·have e1:((1:Int)<=(l.length:Nat)):=by omega
   have e2:((l.length:Nat):Int)<=4:=by omega
   exists aS,e0,e1,e2,h1,h2
   simp only [gH];rw [So (fun c=>some (.bl (decide (c∈GO))))]
   ·rw [oF]
    exists ev
    rw [cX (by simp; omega)]
    exists ev
    rw [JI]
    exists ev
    simp [List.all_map]
   ·intro c hc
    exists aS,je,jd,cf,kA,kB,GO
    rfl
  ·have e1:((1:Int)<=(l.length:Nat)):=by omega
   have e2:¬ ((l.length:Nat):Int)<=4:=by omega
   exists aS,e0,e1,e2,h1,h2
   rfl
 ·have e1:¬ ((1:Int)<=(l.length:Nat)):=by omega
  exists aS,e0,e1,h1
  rfl
theorem A8 {l:List Nat}(h:pP l=true):oR [.str l]=.ok .aK:=by
 unfold oR Lg
 exists aS,ach,h
def ke (c:Nat):Nat:=if c=48 then 49 else if c=49 then 48 else 120
theorem afC {c:Nat}(h:c=48∨c=49∨c=120):Cj [([48],[49]),([49],[48]),([120],[120])] (.str [c])=.ok (.str [ke c]):=by
 rcases h with rfl | rfl | rfl <;> rfl
theorem aaH {a:List Nat}(h:gw a)(ha:a.length<=1000):CY [.str a]=.ok (.str (a.map ke)):=by
 unfold CY Li
 exists ev
 simp only [gH];rw [So (fun c=>some (.str [ke c]))]
 ·rw [oF]
  exists ev
  rw [cX (by simp; omega)]
  exists ev
  rw [show (a.map fun c=>Dt.str [ke c])=a.map fun c=>Dt.str [(ke c)] from rfl,xc]
  exists ev
  rw [sx,ux (by simp; omega)]
  exists ev
 ·intro c hc
  exists aS,je,jd,cf,kA,kB,afC (h c hc)
abbrev iR:List Nat:=[110,111]
abbrev jZ:List Nat:=[98,111,116,104]
abbrev jw:List Nat:=[101,105,116,104,101,114]
abbrev ju:List Nat:=[117,110,108,105,107,101]
def lP (g:List Nat):Nat->Nat->Nat:=if g=jZ then Cr else if g=jw then Ce else Ac
def fg (g:List Nat):List (List Nat)->List Nat
 | [a]=>a.map ke
 | [a,b]=>gm (lP g) a b
 |_=>[]
def m5 (g:List Nat)(n:Nat):Prop:=(g=iR/\n=1)∨((g=jZ∨g=jw∨g=ju)/\n=2)
instance (g:List Nat) (n:Nat):Decidable (m5 g n):=by unfold m5; infer_instance
abbrev CP:List (List Nat×Int):=[([110,111],1),([98,111,116,104],2),([101,105,116,104,101,114],2),([117,110,108,105,107,101],2)]
theorem aek {a:List Nat}(h:gw a)(ha:a.length<=1000):jQ [.str iR,.lst [.str a]]=.ok (.str (fg iR [a])):=by
 have e:sN CP (.str iR)=.ok (.int 1):=rfl;have e1:cy [Dt.str a] 0=some (.str a):=rfl;unfold jQ Df
 exists dU,e
 exists dU,aaH h ha,e1,show ((1:Nat):Int)=1 from rfl
 rfl
theorem aej {g a b:List Nat}(hg:g=jZ∨g=jw∨g=ju)(h:a.length=b.length)(ha:a.length<=1000):jQ [.str g,.lst [.str a,.str b]]=.ok (.str (fg g [a,b])):=by
 have e1:cy [Dt.str a,.str b] 0=some (.str a):=rfl;have e2:cy [Dt.str a,.str b] 1=some (.str b):=rfl;have e3:((2:Nat):Int)=2:=rfl;unfold jQ Df;rcases hg with rfl | rfl | rfl
 ·exists dU,show sN CP (.str jZ)=.ok (.int 2) from rfl,e1,e2,e3,agz h ha,show decide (jZ=[110,111])=false from rfl
  rfl
 ·exists dU,show sN CP (.str jw)=.ok (.int 2) from rfl,e1,e2,e3,ae6 h ha,show decide (jw=[110,111])=false from rfl,show decide (jw=[98,111,116,104])=false from rfl
  rfl
 ·exists dU,show sN CP (.str ju)=.ok (.int 2) from rfl,e1,e2,e3,Vj h ha,show decide (ju=[110,111])=false from rfl,show decide (ju=[98,111,116,104])=false from rfl,show decide (ju=[101,105,116,104,101,114])=false from rfl
  rfl
abbrev jv:List Nat:=[112,117,116]
abbrev jY:List Nat:=[116,97,107,101]
abbrev eT:List Nat:=[103,97,116,101]
theorem Nj {x y:List Dt}{n w:List Nat}{s:av}(hs:fO x.getLast?=.ok (.aj s)):lY x y [.str n,.str w]=(oR [.str n]).bd fun _=>(ji [.aj s,.str n,.str w]).bd fun b=>(g8 x (.tup [.str jv,.str n,.str w]) b).bd fun x'=>.ok (.bl (az s n).isSome,x',[]):=by
 unfold lY ij xu;rw [if_pos (by simp only [eh,ma])];simp only [vW,vX,vV];show ((oR [.str n]).bd fun _=>(fO x.getLast?).bd fun d=>vY Cz AF [.bor (some 0) x y,.val (.str n),.val (.str w),.val d] (some (.bor (some 0) x y)))=_;rw [hs]
 congr 1
 funext _
 show ((((ji [.aj s,.str n,.str w]).bd fun d=>M.ok [d]).bd fun ds=>M.ok (Dt.tup [.str jv,.str n,.str w]::ds)).bd fun ds=>(lZ x y ds).bd fun r=>M.ok (Dt.bl (az s n).isSome,r.2.1,r.2.2))=_
 cases ji [.aj s,.str n,.str w] with
 |ok b=>
  show (((g8 x (.tup [.str jv,.str n,.str w]) b).bd fun x'=>M.ok (Dt.aK,x',([]:List Dt))).bd fun r=>M.ok (Dt.bl (az s n).isSome,r.2.1,r.2.2))=(g8 x (.tup [.str jv,.str n,.str w]) b).bd fun x'=>.ok (.bl (az s n).isSome,x',[])
  cases g8 x (.tup [.str jv,.str n,.str w]) b <;> rfl
 |ex c=>rfl
 |bad=>rfl
theorem Mb {x y:List Dt}{n:List Nat}{s:av}(hs:fO x.getLast?=.ok (.aj s)):lX x y [.str n]=(oQ [.aj s,.str n]).bd fun b=>(g8 x (.tup [.str jY,.str n]) b).bd fun x'=>(oJ s n).calm.bd fun d=>.ok (d,x',[]):=by
 unfold lX ij xt;rw [if_pos (by simp only [eh,ma])];simp only [vW,vX,vV];show ((fO x.getLast?).bd fun d=>vY Cy AE [.bor (some 0) x y,.val (.str n),.val d] (some (.bor (some 0) x y)))=_;rw [hs];show ((((oQ [.aj s,.str n]).bd fun d=>M.ok [d]).bd fun ds=>M.ok (Dt.tup [.str jY,.str n]::ds)).bd fun ds=>(lZ x y ds).bd fun r=>(oJ s n).calm.bd fun d=>M.ok (d,r.2.1,r.2.2))=_
 cases oQ [.aj s,.str n] with
 |ok b=>
  show (((g8 x (.tup [.str jY,.str n]) b).bd fun x'=>M.ok (Dt.aK,x',([]:List Dt))).bd fun r=>(oJ s n).calm.bd fun d=>M.ok (d,r.2.1,r.2.2))=(g8 x (.tup [.str jY,.str n]) b).bd fun x'=>(oJ s n).calm.bd fun d=>.ok (d,x',[])
  cases g8 x (.tup [.str jY,.str n]) b <;> rfl
 |ex c=>rfl
 |bad=>rfl
def sq (s:av)(ns:List (List Nat)):M Dt:=(il (aI 0) cW (aP jj (af (ae 1) (af (ae 0) aq))) [.no,.val (.aj s)] (ns.map Dt.str)).bd g7
theorem QP {x y:List Dt}{n g:List Nat}{ns:List (List Nat)}{s:av}(hs:fO x.getLast?=.ok (.aj s))(hl:ns.length<=1000):jM x y [.str n,.str g,.tup (ns.map Dt.str)]=(oR [.str n]).bd fun _=>(sq s ns).bd fun ws=>(jQ [.str g,ws]).bd fun w=>(ji [.aj s,.str n,w]).bd fun b=>(g8 x (.tup (.str eT :: .str n :: .str g::ns.map Dt.str)) b).bd fun x'=>.ok (w,x',[]):=by
 unfold jM ij xv;rw [if_pos (by simp only [eh,ma])];simp only [vW,vX,vV];show ((oR [.str n]).bd fun _=>(fO x.getLast?).bd fun d=>((aP jQ (af (ae 2) (af (xw 1 [4] (gk (ae 3)) (aI 0) cW (aP jj (af (ae 1) (af (ae 0) aq)))) aq)) [.bor (some 0) x y,.val (.str n),.val (.str g),.val (.tup (ns.map Dt.str)),.val d,.no]).bd fun e=>vY CA AG [.bor (some 0) x y,.val (.str n),.val (.str g),.val (.tup (ns.map Dt.str)),.val d,.val e] (some (.bor (some 0) x y))))=_;rw [hs]
 congr 1
 funext _
 show ((((sq s ns).bd fun ws=>M.ok [ws]).bd fun r=>M.ok (Dt.str g::r)).bd jQ).bd _=_
 cases hw:sq s ns with
 |ok ws=>
  show (jQ [.str g,ws]).bd _=(jQ [.str g,ws]).bd _
  cases jQ [.str g,ws] with
  |ok w=>
   have ht:rl (.tup [.str eT,.str n,.str g]) (.tup (ns.map Dt.str))=.ok (.tup (.str eT :: .str n :: .str g::ns.map Dt.str)):=by
    show (if _ then _ else _)=_;rw [if_pos (by simp; omega)];rfl
   show (((rl (.tup [.str eT,.str n,.str g]) (.tup (ns.map Dt.str))).bd fun t=>((ji [.aj s,.str n,w]).bd fun d=>M.ok [d]).bd fun ds=>M.ok (t::ds)).bd fun ds=>(lZ x y ds).bd fun r=>M.ok (w,r.2.1,r.2.2))=(ji [.aj s,.str n,w]).bd fun b=>(g8 x (.tup (.str eT :: .str n :: .str g::ns.map Dt.str)) b).bd fun x'=>.ok (w,x',[]);rw [ht]
   cases ji [.aj s,.str n,w] with
   |ok b=>
    show (((g8 x (.tup (.str eT :: .str n :: .str g::ns.map Dt.str)) b).bd fun x'=>M.ok (Dt.aK,x',([]:List Dt))).bd fun r=>M.ok (w,r.2.1,r.2.2))=_;show _=(g8 x (.tup (.str eT :: .str n :: .str g::ns.map Dt.str)) b).bd fun x'=>.ok (w,x',[])
    cases g8 x (.tup (.str eT :: .str n :: .str g::ns.map Dt.str)) b <;> rfl
   |ex c=>rfl
   |bad=>rfl
  |ex c=>rfl
  |bad=>rfl
 |ex c=>rfl
 |bad=>rfl
theorem EC {x:List Dt}{s b:Dt}(h:x.length<10000):g8 x s b=.ok (x++[.tup [s,b]]):=if_pos h
theorem Yw {x y:List Dt}{n w:List Nat}{s:av}(hs:fO x.getLast?=.ok (.aj s))(hx:x.length<10000)(hn:pP n=true)(hd:Nd s)(hl:s.length<=900)(h:∀p∈s,p.1≠n->p.2.length=w.length):lY x y [.str n,.str w]=.ok (.bl (az s n).isSome,x++[.tup [.tup [.str jv,.str n,.str w],.aj (dI s n w)]],[]):=by
 rw [Nj hs,A8 hn,bG,LD hd hl h,bG,EC hx];rfl
theorem Yx {x y:List Dt}{n w:List Nat}{s:av}(hs:fO x.getLast?=.ok (.aj s))(hn:pP n=true)(hd:Nd s)(hl:s.length<=900)(h:¬ ∀p∈s,p.1≠n->p.2.length=w.length):lY x y [.str n,.str w]=.ex 6:=by
 rw [Nj hs,A8 hn,bG,U2 hd hl h];rfl
theorem VH {x y:List Dt}{n v:List Nat}{s:av}(hs:fO x.getLast?=.ok (.aj s))(hx:x.length<10000)(h:az s n=some v):lX x y [.str n]=.ok (.str v,x++[.tup [.tup [.str jY,.str n],.aj (cE s n)]],[]):=by
 rw [Mb hs,U1 h,bG,EC hx,qj h];rfl
theorem VI {x y:List Dt}{n:List Nat}{s:av}(hs:fO x.getLast?=.ok (.aj s))(h:az s n=none)(hh:qV n):lX x y [.str n]=.ex 1:=by
 rw [Mb hs,U0 h hh];rfl
theorem QG {s:av}{m:List Nat}{ds:List Dt}:il (aI 0) cW (aP jj (af (ae 1) (af (ae 0) aq))) [.no,.val (.aj s)] (.str m::ds)=(jj [.aj s,.str m]).bd fun x=>(il (aI 0) cW (aP jj (af (ae 1) (af (ae 0) aq))) [.no,.val (.aj s)] ds).bd fun xs=>.ok (x::xs):=rfl
theorem QH {s:av}:∀{ns:List (List Nat)},(∀m∈ns,(az s m).isSome=true)->il (aI 0) cW (aP jj (af (ae 1) (af (ae 0) aq))) [.no,.val (.aj s)] (ns.map Dt.str)=.ok ((ns.map (gd s)).map Dt.str)
 | [],_=>rfl
 |m::ns,h=>by
  obtain⟨v,hv⟩:=jr.mp (h m bN);rw [bI,QG,D3 hv,bG,QH fun k hk=>h k (cG _ hk)];show M.ok (Dt.str v::_)=M.ok (Dt.str (gd s m)::_);rw [show gd s m=v from by unfold gd; rw [hv]; rfl]
theorem QF {s:av}:∀{ns:List (List Nat)},(∀m∈ns,qV m)->(¬ ∀m∈ns,(az s m).isSome=true)->il (aI 0) cW (aP jj (af (ae 1) (af (ae 0) aq))) [.no,.val (.aj s)] (ns.map Dt.str)=.ex 1
 | [],_,h=>absurd (fun m hm=>nomatch hm) h
 |m::ns,hh,h=>by
  rw [bI,QG]
  cases hv:az s m with
  |none=>rw [LG hv (hh m bN)]; rfl
  |some v=>
   rw [D3 hv,bG,QF (fun k hk=>hh k (cG _ hk)) fun z=>h fun k hk=>?_]
   ·rfl
   ·rcases bf.mp hk with e | e
    ·rw [e,hv]; rfl
    ·exact z k e
theorem ad7 {s:av}{ns:List (List Nat)}(hl:ns.length<=1000)(h:∀m∈ns,(az s m).isSome=true):sq s ns=.ok (.lst ((ns.map (gd s)).map Dt.str)):=by
 unfold sq;rw [QH h,bG,cX (by simp; omega)]
theorem ad8 {s:av}{ns:List (List Nat)}(hh:∀m∈ns,qV m)(h:¬ ∀m∈ns,(az s m).isSome=true):sq s ns=.ex 1:=by
 unfold sq;rw [QF hh h];rfl
theorem aem {x y:List Dt}{n g:List Nat}{ns:List (List Nat)}{s:av}(hs:fO x.getLast?=.ok (.aj s))(hl:ns.length<=1000)(hn:pP n=true)(hh:∀m∈ns,qV m)(h:¬ ∀m∈ns,(az s m).isSome=true):jM x y [.str n,.str g,.tup (ns.map Dt.str)]=.ex 1:=by
 rw [QP hs hl,A8 hn,bG,ad8 hh h];rfl
theorem aei {g:List Nat}{ws:List (List Nat)}{L:Nat}(hg:m5 g ws.length)(hL:L<=1000)(h:∀w∈ws,w.length=L/\gw w):jQ [.str g,.lst (ws.map Dt.str)]=.ok (.str (fg g ws)):=by
 rcases hg with ⟨rfl,h1⟩ | ⟨hg,h2⟩
 ·match ws,h1 with
  | [a],_=>
   obtain⟨h3,h4⟩:=h a bN;exact aek h4 (by omega)
 ·match ws,h2 with
  | [a,b],_=>
   obtain⟨h3,h4⟩:=h a bN;obtain⟨h5,h6⟩:=h b (cG _ bN);exact aej hg (by omega) (by omega)
theorem ad9 {g:List Nat}{c d:Nat}(hc:c=48∨c=49∨c=120)(hd:d=48∨d=49∨d=120):lP g c d=48∨lP g c d=49∨lP g c d=120:=by
 unfold lP
 split
 ·rcases hc with rfl | rfl | rfl <;> rcases hd with rfl | rfl | rfl <;> decide
 ·split <;> rcases hc with rfl | rfl | rfl <;> rcases hd with rfl | rfl | rfl <;> decide
theorem Ir {g:List Nat}{ws:List (List Nat)}{L:Nat}(hg:m5 g ws.length)(h:∀w∈ws,w.length=L/\gw w):(fg g ws).length=L/\gw (fg g ws):=by
 rcases hg with ⟨rfl,h1⟩ | ⟨hg,h2⟩
 ·match ws,h1 with
  | [a],_=>
   obtain⟨h3,h4⟩:=h a bN;refine⟨by simp [fg,h3],fun c hc=>?_⟩;obtain⟨d,hd,rfl⟩:=dF.mp hc;rcases h4 d hd with rfl | rfl | rfl <;> decide
 ·match ws,h2 with
  | [a,b],_=>
   obtain⟨h3,h4⟩:=h a bN;obtain⟨h5,h6⟩:=h b (cG _ bN);exact⟨by simp [fg,aee,h3],abm ad9 h4 h6 (by omega)⟩
theorem ael {x y:List Dt}{n g:List Nat}{ns:List (List Nat)}{s:av}{L:Nat}(hs:fO x.getLast?=.ok (.aj s))(hx:x.length<10000)(hl:ns.length<=1000)(hn:pP n=true)(h:∀m∈ns,(az s m).isSome=true)(hg:m5 g ns.length)(hL:L<=1000)(hw:∀p∈s,p.2.length=L/\gw p.2)(hd:Nd s)(Hv:s.length<=900):jM x y [.str n,.str g,.tup (ns.map Dt.str)]=.ok (.str (fg g (ns.map (gd s))),x++[.tup [.tup (.str eT :: .str n :: .str g::ns.map Dt.str),.aj (dI s n (fg g (ns.map (gd s))))]],[]):=by
 have PV:∀w∈ns.map (gd s),w.length=L/\gw w:=fun w rM=>by
  obtain⟨m,hm,rfl⟩:=dF.mp rM;obtain⟨v,hv⟩:=jr.mp (h m hm);rw [show gd s m=v from by unfold gd; rw [hv]; rfl];exact hw _ (xO hv)
 have rV:m5 g (ns.map (gd s)).length:=by rw [ef]; exact hg
 rw [QP hs hl,A8 hn,bG,ad7 hl h,bG,aei rV hL PV,bG,LD hd Hv fun p hp _=>?_,bG,EC hx]
 ·rfl
 ·rw [(hw p hp).1,(Ir rV PV).1]
inductive Dd where
 |put (n w:List Nat) | take (n:List Nat) | gate (n g:List Nat) (ns:List (List Nat))
def Dd.dt:Dd->Dt
 |.put n w=>.tup [.str jv,.str n,.str w]
 |.take n=>.tup [.str jY,.str n]
 |.gate n g ns=>.tup (.str eT :: .str n :: .str g::ns.map Dt.str)
abbrev N4:List (List Nat):=[[97],[98],[99,100],[119,120,121,122]]
def D0 (w:List Nat):Prop:=1<=w.length/\w.length<=12/\gw w
def GD:Dd->Prop
 |.put n w=>n∈N4/\D0 w
 |.take n=>n∈N4
 |.gate n g ns=>n∈N4/\(∀m∈ns,m∈N4)/\m5 g ns.length
theorem SQ {l:List (List Nat)}{k:Int}(h0:0<=k)(h1:k<l.length):∃d∈l,cy (l.map Dt.str) k=some (.str d):=by
 obtain⟨n,rfl⟩:∃n:Nat,k=n:=⟨k.toNat,by omega⟩
 have hn:n<l.length:=by omega
 exact⟨l[n],zG hn,l0 (by simp [hn])⟩
theorem abl {ns:List Int}{a many:Int}(h:1<=many)(h':many<=12):D0 (qH ns a many [48,49,120]):=by
 have hl:=U6 ns a [48,49,120] h;refine⟨by omega,by omega,fun c hc=>?_⟩;have:=LH ns a many (by simp) c hc;simpa using this
theorem To {k:Int}(h0:0<=k)(h1:k<4):∃d∈N4,cy [Dt.str [97],.str [98],.str [99,100],.str [119,120,121,122]] k=some (.str d):=SQ (l:=N4) h0 h1
theorem aj0 {k:Int}(h0:0<=k)(h1:k<4):∃d∈[iR,jZ,jw,ju],cy [Dt.str [110,111],.str [98,111,116,104],.str [101,105,116,104,101,114],.str [117,110,108,105,107,101]] k=some (.str d):=SQ (l:=[iR,jZ,jw,ju]) h0 h1
theorem RA (k:av):oEq (.aj k) (.aj [])=.ok (.bl (decide (k=[]))):=by
 rw [S6,c9 (by simp only [dep]; omega)]
 cases k with
 |nil=>rfl
 |cons p r=>rfl
def n9:Dt:=.lst [Dt.str [97],.str [98],.str [99,100],.str [119,120,121,122]]
theorem afF {ns:List Int}{a:Int}{ρ:aa}{m:Nat}(ha:0<=a)(hm:m<=100)(h0:ρ[0]?=some (.val (gh ns)))(h1:ρ[1]?=some (.val (.int a)))(h4:ρ[4]?=some (.val n9)):∃l:List (List Nat),l.length=m/\(∀n∈l,n∈N4)/\gH 1 [0,1,4] (aI 0) cW (p2 aO (ae 3) (aP gS (af (ae 1) (af (p2 bR (p2 bR (ae 2) (pC (.int 4))) (ae 0)) (af (pC (.int 4)) aq))))) ρ (eX 0 (m:Nat))=.ok (.lst (l.map Dt.str)):=by
 have hx:∀i:Nat,∃d∈N4,cy [Dt.str [97],.str [98],.str [99,100],.str [119,120,121,122]] (bx ns (a+4+(0+(i:Int))) 4)=some (.str d):=fun i=>To (n5 _ _ (by decide)) (n6 _ _ (by decide));obtain⟨f,hf⟩:∃f:Nat->List Nat,∀i,f i∈N4/\cy [Dt.str [97],.str [98],.str [99,100],.str [119,120,121,122]] (bx ns (a+4+(0+(i:Int))) 4)=some (.str (f i)):=⟨fun i=>(hx i).choose,fun i=>(hx i).choose_spec⟩
 refine⟨(fm m).map f,by simp,fun n hn=>?_,?_⟩
 ·obtain⟨i,_,rfl⟩:=dF.mp hn
  exact(hf i).1
 ·simp only [gH]
  rw [af4 (fun i=>some (.str (f i)))]
  ·rw [oF]
   exists ev
   rw [show ((m:Nat):Int) - 0=m by omega,zJ,cX (by simp; omega)];rw [nE];rfl
  ·intro i hi
   exists aS,je,jd,cf,h0,h1,h4,n9,kA
   rw [mC (by omega) (by decide)]
   exists aS,(hf i).2,kB
theorem afG {ns:List Int}{a many:Int}{k:av}(ha:0<=a)(h1:1<=many)(h2:many<=12):∃D,GD D/\zj [gh ns,.int a,.aj k,.int many]=.ok D.dt:=by
 obtain⟨n,hn,oq⟩:=To (k:=bx ns a 4) (n5 _ _ (by decide)) (n6 _ _ (by decide));obtain⟨g,hg,rV⟩:=aj0 (k:=bx ns (a+3) 4) (n5 _ _ (by decide)) (n6 _ _ (by decide));have q1:=mC (ns:=ns) (k:=a) (many:=4) ha (by decide);have q2:=mC (ns:=ns) (k:=a+1) (many:=7) (by omega) (by decide);have q3:=mC (ns:=ns) (k:=a+2) (many:=8) (by omega) (by decide);have q4:=mC (ns:=ns) (k:=a+3) (many:=4) (by omega) (by decide);unfold zj Ls
 exists ev
 rw [cX (by decide)]
 exists aS,q1,oq,q2
 by_cases hc:bx ns (a+1) 7<3∨k=[]
 ·have acS:∃w,D0 w/\zh [gh ns,.int (a+10),.int (if many+(if decide (bx ns (a+2) 8=0)=true then 1 else 0)<12 then many+(if decide (bx ns (a+2) 8=0)=true then 1 else 0) else 12),.str [48,49,120]]=.ok (.str w):=by
   have hb:1<=(if many+(if decide (bx ns (a+2) 8=0)=true then 1 else 0)<12 then many+(if decide (bx ns (a+2) 8=0)=true then 1 else 0) else 12)/\(if many+(if decide (bx ns (a+2) 8=0)=true then 1 else 0)<12 then many+(if decide (bx ns (a+2) 8=0)=true then (1:Int) else 0) else 12)<=12:=by
    split <;> split <;> omega
   exact⟨_,abl hb.1 hb.2,U5 (by omega) hb.1 (by omega) (by simp) (by simp)⟩
  obtain⟨w,hw,rM⟩:=acS;refine⟨.put n w,⟨hn,hw⟩,?_⟩;have e:xS (aU (p2 oEq (ae 2) pI)) [.val (gh ns),.val (.int a),.val (.aj k),.val (.int many),.val n9,.val (.str n),.val (.int (bx ns (a+1) 7)),.no,.no,.no] (decide (bx ns (a+1) 7<3))=.ok true:=by
   by_cases h3:bx ns (a+1) 7<3
   ·exists aS,h3
   ·exists aS,h3,DZ,RA,hc.resolve_left h3
  unfold n9 at e
  exists aS,e,q3,show ∀b,oO [.bl b]=.ok (.int (if b then 1 else 0)) from fun _=>rfl
  rw [rM]
  exists ev
  rw [c9 (by decide)]
  exists ev
  rfl
 ·have e:xS (aU (p2 oEq (ae 2) pI)) [.val (gh ns),.val (.int a),.val (.aj k),.val (.int many),.val n9,.val (.str n),.val (.int (bx ns (a+1) 7)),.no,.no,.no] (decide (bx ns (a+1) 7<3))=.ok false:=by
   have h3:¬ bx ns (a+1) 7<3:=fun z=>hc (.inl z);have h4:¬ k=[]:=fun z=>hc (.inr z)
   exists aS,h3,DZ,RA,h4
  unfold n9 at e
  exists aS,e
  by_cases h3:bx ns (a+1) 7=3
  ·refine⟨.take n,hn,?_⟩
   exists aS,h3
   rw [c9 (by decide)]
   exists ev
   rfl
  ·exists aS,h3
   rw [cX (by decide)]
   exists aS,q4,rV
   have hm:∃m:Nat,m5 g m/\m<=2/\Bm (pC (.int 1)) (pC (.int 2)) [.val (gh ns),.val (.int a),.val (.aj k),.val (.int many),.val n9,.val (.str n),.val (.int (bx ns (a+1) 7)),.no,.val (.str g),.no] (decide (g=[110,111]))=.ok (.int (m:Nat)):=by
    simp only [bf,fw,or_false] at hg;rcases hg with rfl | rfl | rfl | rfl
    ·exact⟨1,.inl ⟨rfl,rfl⟩,by decide,rfl⟩
    ·exact⟨2,.inr ⟨.inl rfl,rfl⟩,by decide,rfl⟩
    ·exact⟨2,.inr ⟨.inr (.inl rfl),rfl⟩,by decide,rfl⟩
    ·exact⟨2,.inr ⟨.inr (.inr rfl),rfl⟩,by decide,rfl⟩
   obtain⟨m,gK,gn,Qa⟩:=hm;obtain⟨l,pV,i4,BH⟩:=afF (ns:=ns) (a:=a) (m:=m) (ρ:=[.val (gh ns),.val (.int a),.val (.aj k),.val (.int many),.val n9,.val (.str n),.val (.int (bx ns (a+1) 7)),.no,.val (.str g),.no]) ha (by omega) rfl rfl rfl;refine⟨.gate n g l,⟨hn,i4,by rw [pV]; exact gK⟩,?_⟩;unfold n9 at Qa BH;rw [Qa]
   exists ev
   rw [c9 (by omega)]
   exists aS,BH
   rw [c9 (by decide)]
   exists aS,show yO [.lst (l.map Dt.str)]=.ok (.tup (l.map Dt.str)) from rfl
   rw [show rl (.tup [.str [103,97,116,101],.str n,.str g]) (.tup (l.map Dt.str))=.ok (Dd.gate n g l).dt from by
    show (if _ then _ else _)=_;rw [if_pos (by simp; omega)]
    rfl]
   exists ev
def L3 (c:Nat):Prop:=c=48∨c=49∨c=120
def lU (o p:Nat):Int:=(if o=49 then 1 else 0)+(if p=49 then 1 else 0)
def pN (g:List Nat)(o p:Nat):Bool:=if g=jZ then decide (lU o p=2) else if g=jw then decide (0<lU o p) else if g=ju then decide (lU o p=1) else decide (o=48)
def MU (b:Bool):Dt:=if b=true then .str [49] else .str [48]
theorem Gq {g:List Nat}{o p:Nat}(a1 a2 a3 a4 b8 b9:Bd){os:List Dt}(ho:os.length<=100):KW [.val (.str g),a1,a2,a3,a4,.own os,.val (.str [o]),.val (.str [p]),b8,b9]=.ok (.nx [.val (.str g),a1,a2,a3,a4,.own (os++[MU (pN g o p)]),.val (.str [o]),.val (.str [p]),.val (.int (lU o p)),.val (.bl (pN g o p))]):=by
 have e:∀q:Nat,aP oO (af (p2 oEq (pC (.str [q])) (pC (.str [49]))) aq) []=.ok (.int (if q=49 then 1 else 0)):=fun q=>by
  exists aS,show ∀b,oO [.bl b]=.ok (.int (if b then 1 else 0)) from fun _=>rfl
  simp [e1]
 have e2:∀q:Nat,oEq (.str [q]) (.str [49])=.ok (.bl (decide (q=49))):=fun q=>by rw [Kc]; simp
 have e3:∀q:Nat,oEq (.str [q]) (.str [48])=.ok (.bl (decide (q=48))):=fun q=>by rw [Kc]; simp
 unfold KW
 exists aS,show ∀b,oO [.bl b]=.ok (.int (if b then 1 else 0)) from fun _=>rfl,e2
 have hd:AU [98,111,116,104] [101,105,116,104,101,114] [117,110,108,105,107,101] (p2 oEq (ae 8) (pC (.int 2))) (p2 mG (ae 8) (pC (.int 0))) (p2 oEq (ae 8) (pC (.int 1))) (ae 0) (p2 oEq (ae 6) (pC (.str [48]))) [.val (.str g),a1,a2,a3,a4,.own os,.val (.str [o]),.val (.str [p]),.val (.int (lU o p)),b9]=.ok (.bl (pN g o p)):=by
  unfold AU
  exists aS,e3
  show M.ok (if g=jZ then Dt.bl (decide (lU o p=2)) else if g=jw then Dt.bl (decide (0<lU o p)) else if g=ju then Dt.bl (decide (lU o p=1)) else Dt.bl (decide (o=48)))=_;unfold pN
  split
  ·rfl
  ·split
   ·rfl
   ·split <;> rfl
 unfold lU at hd;simp only [decide_eq_true_eq];rw [hd]
 exists ev
 cases hl:pN g o p
 ·exists ev
  rw [c9 (by omega)];rfl
 ·exists ev
  rw [c9 (by omega)];rfl
def ly (g:List Nat)(o d:Nat):List Dt:=(opts d).map fun p=>MU (pN g o p)
theorem Zm (g:List Nat)(o d:Nat):(ly g o d).length<=2:=by unfold ly; rw [ef]; exact Zo d
theorem Gp {g:List Nat}{o d:Nat}{L:List Dt}(h4:cy L (-1)=some (.str [d]))(a1 a2 a3 b7 b8 b9:Bd){os:List Dt}(ho:os.length<=50):∃yU yT yS,CO [.val (.str g),a1,a2,a3,.val (.lst L),.own os,.val (.str [o]),b7,b8,b9]=.ok (.nx [.val (.str g),a1,a2,a3,.val (.lst L),.own (os++ly g o d),.val (.str [o]),yU,yT,yS]):=by
 unfold CO ly opts
 by_cases hd:d=120
 ·subst hd
  refine⟨.val (.str [49]),.val (.int (lU o 49)),.val (.bl (pN g o 49)),?_⟩
  exists aS,h4
  rw [show eV [48,49]=[.str [48],.str [49]] from rfl]
  exists ev
  rw [Gq a1 a2 a3 _ _ _ (by omega)]
  exists ev
  rw [Gq a1 a2 a3 _ _ _ (by simp; omega)]
  exists ev
  simp only [nK,if_true,bI,iK,zH,nH]
 ·refine⟨.val (.str [d]),.val (.int (lU o d)),.val (.bl (pN g o d)),?_⟩
  have:¬ [d]=[120]:=by simp [hd]
  exists aS,h4,this
  rw [show eV [d]=[.str [d]] from rfl]
  exists ev
  rw [Gq a1 a2 a3 _ _ _ (by omega)]
  exists aS,hd,if_false
theorem abg {g:List Nat}{c d:Nat}{L:List Dt}(h0:cy L 0=some (.str [c]))(h4:cy L (-1)=some (.str [d]))(a1 a2 a3 b6 b7 b8 b9:Bd):∃JX yU yT yS,
  ph (gk (ig (aU (p2 oEq (p2 aO (ae 4) (pC (.int 0))) (pC (.str [120])))) (pC (.str [48,49])) (p2 aO (ae 4) (pC (.int 0))))) (aI 6) CO [.val (.str g),a1,a2,a3,.val (.lst L),.own [],b6,b7,b8,b9]=.ok (.nx [.val (.str g),a1,a2,a3,.val (.lst L),.own ((opts c).flatMap fun o=>ly g o d),JX,yU,yT,yS]):=by
 unfold opts
 by_cases hc:c=120
 ·subst hc
  obtain⟨u7,u8,u9,hu⟩:=Gp (g:=g) (o:=48) h4 a1 a2 a3 b7 b8 b9 (os:=[]) (by simp);obtain⟨v7,v8,v9,hv⟩:=Gp (g:=g) (o:=49) h4 a1 a2 a3 u7 u8 u9 (os:=ly g 48 d) (by have:=Zm g 48 d; omega);refine⟨.val (.str [49]),v7,v8,v9,?_⟩
  exists aS,h0
  rw [show eV [48,49]=[.str [48],.str [49]] from rfl];rw [nH] at hu
  exists aS,hu,hv
  simp
 ·obtain⟨u7,u8,u9,hu⟩:=Gp (g:=g) (o:=c) h4 a1 a2 a3 b7 b8 b9 (os:=[]) (by simp)
  refine⟨.val (.str [c]),u7,u8,u9,?_⟩;have:¬ [c]=[120]:=by simp [hc]
  exists aS,h0,this
  rw [show eV [c]=[.str [c]] from rfl];rw [nH] at hu
  exists aS,hu
  simp [hc]
def NO (g:List Nat)(c d:Nat):List Dt:=(opts c).flatMap fun o=>ly g o d
def Sj (os:List Dt):M Dt:=(uJ (.lst os)).bd fun n=>(oEq n (.int 1)).bd fun t=>(jx t).bd fun b=>if b=true then aO (.lst os) (.int 0) else .ok (.str [120])
theorem abh {g:List Nat}{c d:Nat}(hg:(g=iR/\d=c)∨(g=jZ∨g=jw∨g=ju))(hc:L3 c)(hd:L3 d):Sj (NO g c d)=.ok (.str [if g=iR then ke c else lP g c d]):=by
 rcases hg with ⟨rfl,rfl⟩ | hg
 ·rcases hc with rfl | rfl | rfl <;> rfl
 ·rcases hg with rfl | rfl | rfl <;> rcases hc with rfl | rfl | rfl <;> rcases hd with rfl | rfl | rfl <;> rfl
theorem abi {g:List Nat}{ws:List (List Nat)}{k c d:Nat}{m:List Nat}(hk:∀w∈ws,k<w.length)(hl:ws.length<=10)(h0:cy (ws.map fun w=>Dt.str [lv w k]) 0=some (.str [c]))(h1:cy (ws.map fun w=>Dt.str [lv w k]) (-1)=some (.str [d]))(hg:(g=iR/\d=c)∨(g=jZ∨g=jw∨g=ju))(hc:L3 c)(hd:L3 d)(hm:m.length<=1000)(b4 b5 b6 b7 b8 b9:Bd):∃b4' b5' JX yU yT yS,
  CN [.val (.str g),.val (.lst (ws.map Dt.str)),.val (.str m),.val (.int (k:Nat)),b4,b5,b6,b7,b8,b9]=.ok (.nx [.val (.str g),.val (.lst (ws.map Dt.str)),.val (.str (m++[if g=iR then ke c else lP g c d])),.val (.int (k:Nat)),b4',b5',JX,yU,yT,yS]):=by
 have hC:dQ 1 [3] (gk (ae 1)) (aI 0) cW (p2 aO (ae 0) (ae 1)) [.val (.str g),.val (.lst (ws.map Dt.str)),.val (.str m),.val (.int (k:Nat)),b4,b5,b6,b7,b8,b9]=.ok (.lst (ws.map fun w=>Dt.str [lv w k])):=by
  exists ev
  simp only [gH];rw [lV Dt.str (fun w=>some (.str [lv w k]))]
  ·rw [oF]
   exists ev
   rw [cX (by simp; omega)]
  ·intro w hw
   exists aS,je,jd,cf,kA,kB,agY (hk w hw)
 obtain⟨u6,u7,u8,u9,hu⟩:=abg (g:=g) h0 h1 (.val (.lst (ws.map Dt.str))) (.val (.str m)) (.val (.int (k:Nat))) b6 b7 b8 b9;have ht:=abh hg hc hd;unfold Sj NO at ht;have hp:ig (aU (p2 oEq (p1 uJ (ae 5)) (pC (.int 1)))) (p2 aO (ae 5) (pC (.int 0))) (pC (.str [120])) [.val (.str g),.val (.lst (ws.map Dt.str)),.val (.str m),.val (.int (k:Nat)),.val (.lst (ws.map fun w=>Dt.str [lv w k])),.val (.lst ((opts c).flatMap fun o=>ly g o d)),u6,u7,u8,u9]=.ok (.str [if g=iR then ke c else lP g c d]):=by
  rw [← ht];unfold ig aU p2 p1;simp only [agO];rfl
 refine⟨.val (.lst (ws.map fun w=>Dt.str [lv w k])),.val (.lst ((opts c).flatMap fun o=>ly g o d)),u6,u7,u8,u9,?_⟩;unfold CN;rw [J6];rw [show Ar 4 5 (dQ 1 [3] (gk (ae 1)) (aI 0) cW (p2 aO (ae 0) (ae 1))) [.val (.str g),.val (.lst (ws.map Dt.str)),.val (.str m),.val (.int (k:Nat)),b4,b5,b6,b7,b8,b9]=.ok (.nx [.val (.str g),.val (.lst (ws.map Dt.str)),.val (.str m),.val (.int (k:Nat)),.val (.lst (ws.map fun w=>Dt.str [lv w k])),.own [],b6,b7,b8,b9]) from by
  unfold Ar;rw [hC]
  rfl]
 rw [bG,J4,J6,hu,bG,J4,SY];show bV _ _ [.val (.str g),.val (.lst (ws.map Dt.str)),.val (.str m),.val (.int (k:Nat)),.val (.lst (ws.map fun w=>Dt.str [lv w k])),.val (.lst ((opts c).flatMap fun o=>ly g o d)),u6,u7,u8,u9]=_;rw [S0,CF,show ae 2 [.val (.str g),.val (.lst (ws.map Dt.str)),.val (.str m),.val (.int (k:Nat)),.val (.lst (ws.map fun w=>Dt.str [lv w k])),.val (.lst ((opts c).flatMap fun o=>ly g o d)),u6,u7,u8,u9]=.ok (.str m) from rfl,bG,J9,hp]
 exists ev
 rw [ux (by simp; omega)]
 exists ev
theorem OI {g:List Nat}{ws:List (List Nat)}{L:Nat}{f:Nat->Nat}(hL:L<=1000)(bS:ws≠[])(hl:ws.length<=10)(hw:∀w∈ws,w.length=L)(hs:∀k,k<L->∃c d,cy (ws.map fun w=>Dt.str [lv w k]) 0=some (.str [c])/\cy (ws.map fun w=>Dt.str [lv w k]) (-1)=some (.str [d])/\((g=iR/\d=c)∨(g=jZ∨g=jw∨g=ju))/\L3 c/\L3 d/\(if g=iR then ke c else lP g c d)=f k):wt [.str g,.lst (ws.map Dt.str)]=.ok (.str ((fm L).map f)):=by
 match ws,bS with
 |w0::r,_=>
  have h0:w0.length=L:=hw w0 bN;obtain⟨aQ,h1,h2⟩:=IW (g:=aI 3) (b:=CN) (eX 0 (L:Nat)) (fun j ρ=>∃b3 b4 b5 b6 b7 b8 b9,ρ=[.val (.str g),.val (.lst ((w0::r).map Dt.str)),.val (.str ((fm j).map f)),b3,b4,b5,b6,b7,b8,b9]) [.val (.str g),.val (.lst ((w0::r).map Dt.str)),.val (.str []),.no,.no,.no,.no,.no,.no,.no] ⟨_,_,_,_,_,_,_,rfl⟩ (fun j d ρ hd fB=>by
   obtain⟨b3,b4,b5,b6,b7,b8,b9,rfl⟩:=fB;unfold eX at hd;simp only [jT,jq] at hd;obtain⟨i,hi,rfl⟩:=hd;have hj:j<L:=by
    have:=(eF.mp hi).1;simpa using this
   rw [Dq (by omega)] at hi;cases hi;obtain⟨c,d,e1,e2,e3,e4,e5,e6⟩:=hs j hj;obtain⟨u4,u5,u6,u7,u8,u9,hu⟩:=abi (g:=g) (ws:=w0::r) (k:=j) (m:=(fm j).map f) (fun w rM=>by rw [hw w rM]; exact hj) hl e1 e2 e3 e4 e5 (by simp; omega) b4 b5 b6 b7 b8 b9;refine⟨_,?_,.val (.int (j:Nat)),u4,u5,u6,u7,u8,u9,rfl⟩;rw [show (0:Int)+((j:Nat):Int)=(j:Nat) by omega,Ka,jc,bG];simp only [kO];rw [hu,jc,e6,List.range_succ,tw]
   rfl)
  obtain⟨b3,b4,b5,b6,b7,b8,b9,rfl⟩:=h2;unfold wt Lr
  exists ev
  rw [show pk 5 [Bd.val (.str g),.val (.lst (.str w0::r.map Dt.str)),.val (.str []),.no,.no,.no,.no,.no,.no,.no] (some .no)=[Bd.val (.str g),.val (.lst (.str w0::r.map Dt.str)),.val (.str []),.no,.no,.no,.no,.no,.no,.no] from rfl]
  exists aS,show cy (Dt.str w0::r.map Dt.str) 0=some (.str w0) from l0 (n:=0) rfl,h0
  rw [c9 (by omega)];rw [bI] at h1
  exists aS,h1
  rw [show (eX 0 (L:Nat)).length=L by simp [eX]]
theorem abf {g:List Nat}{ws:List (List Nat)}{L:Nat}(hL:L<=1000)(hg:m5 g ws.length)(h:∀w∈ws,w.length=L/\gw w):wt [.str g,.lst (ws.map Dt.str)]=.ok (.str (fg g ws)):=by
 rcases hg with ⟨rfl,h1⟩ | ⟨hg,h2⟩
 ·match ws,h1 with
  | [a],_=>
   obtain⟨h3,h4⟩:=h a bN;rw [OI (L:=L) (f:=fun k=>ke (lv a k)) hL (by simp) (by simp) (fun w hw=>(h w hw).1) fun k hk=>?_]
   ·rw [show fg iR [a]=a.map ke from rfl]
    conv=>rhs; rw [← abk a,nE,h3]
    rfl
   ·exact⟨lv a k,lv a k,rfl,rfl,.inl ⟨rfl,rfl⟩,uP h4 (by omega),uP h4 (by omega),rfl⟩
 ·match ws,h2 with
  | [a,b],_=>
   obtain⟨h3,h4⟩:=h a bN;obtain⟨h5,h6⟩:=h b (cG _ bN);rw [OI (L:=L) (f:=fun k=>lP g (lv a k) (lv b k)) hL (by simp) (by simp) (fun w hw=>(h w hw).1) fun k hk=>?_]
   ·rw [show fg g [a,b]=gm (lP g) a b from rfl,gm,h3]
   ·refine⟨lv a k,lv b k,rfl,rfl,.inr hg,uP h4 (by omega),uP h6 (by omega),?_⟩
    rw [if_neg];rcases hg with rfl | rfl | rfl <;> decide
inductive Out where
 |no (c:Nat) | ok (t:Dt)
def iZ (s:av)(n w:List Nat):Out:=if (s.all fun p=>decide (p.1=n) || decide (p.2.length=w.length))=true then .ok (.bl (az s n).isSome) else .no 6
def rh:Option (List Nat)->Out
 |some v=>.ok (.str v)
 |none=>.no 1
def i0 (s:av)(g:List Nat)(ns:List (List Nat)):Out:=if (ns.all fun m=>(az s m).isSome)=true then .ok (.str (fg g (ns.map (gd s)))) else .no 1
def outD (s:av):Dd->Out
 |.put n w=>iZ s n w
 |.take n=>rh (az s n)
 |.gate _ g ns=>i0 s g ns
def gE (s:av):Dd->av
 |.put n w=>dI s n w
 |.take n=>cE s n
 |.gate n g ns=>dI s n (fg g (ns.map (gd s)))
def ip (k:av):Dd->av
 |.put n w=>cE k n++[(n,w)]
 |.take n=>cE k n
 |.gate n g ns=>cE k n++[(n,fg g (ns.map (gd k)))]
def Gs (s:av):Prop:=Nd s/\∃L,1<=L/\L<=12/\∀n v,az s n=some v->n∈N4/\v.length=L/\gw v
theorem QN {s k:av}(h:Sm s k):gd s=gd k:=by
 funext n
 unfold gd;rw [h n]
theorem yW {s:av}{n w:List Nat}:(s.all fun p=>decide (p.1=n) || decide (p.2.length=w.length))=true↔∀p∈s,p.1≠n->p.2.length=w.length:=by
 rw [eg];refine forall_congr' fun p=>forall_congr' fun hp=>?_
 by_cases h:p.1=n <;> simp [h]
theorem J1 {s:av}(hd:Nd s){n w:List Nat}:(∀p∈s,p.1≠n->p.2.length=w.length)↔∀m v,az s m=some v->m≠n->v.length=w.length:=
 ⟨fun h m v hv hm=>h _ (xO hv) hm,fun h p hp hn=>h _ _ (rD hd hp) hn⟩
theorem Zi {s k:av}(hs:Nd s)(hk:Nd k)(h:Sm s k)(D:Dd):outD s D=outD k D:=by
 cases D with
 |put n w=>
  show iZ s n w=iZ k n w;unfold iZ;have e:(s.all fun p=>decide (p.1=n) || decide (p.2.length=w.length))=(k.all fun p=>decide (p.1=n) || decide (p.2.length=w.length)):=by
   rw [kI,yW,yW,J1 hs,J1 hk];simp only [h _]
  simp only [e,h n]
 |take n=>
  show rh (az s n)=rh (az k n);rw [h n]
 |gate n g ns=>
  show i0 s g ns=i0 k g ns;unfold i0;rw [QN h];simp only [h _]
theorem MG {s k:av}(h:Sm s k)(D:Dd):Sm (gE s D) (ip k D):=by
 cases D with
 |put n w=>exact xj h
 |take n=>exact EH h
 |gate n g ns=>
  unfold gE ip;rw [QN h];exact xj h
theorem YH {s:av}(h:Nd s)(D:Dd):Nd (gE s D):=by
 cases D with
 |put n w=>exact Ox n w h
 |take n=>exact xG n h
 |gate n g ns=>exact Ox n _ h
theorem agG {s:av}(h:Nd s)(D:Dd):Nd (ip s D):=by
 cases D with
 |put n w=>exact Oz h
 |take n=>exact xG n h
 |gate n g ns=>exact Oz h
theorem aeb {s k:av}(hk:Nd k)(h:Sm s k)(g:Gs s):Gs k:=by
 obtain⟨_,L,h1,h2,h3⟩:=g;exact⟨hk,L,h1,h2,fun n v hv=>h3 n v (by rw [h n]; exact hv)⟩
theorem Ip {s:av}{L:Nat}(h3:∀n v,az s n=some v->n∈N4/\v.length=L/\gw v){ns:List (List Nat)}(h:∀m∈ns,(az s m).isSome=true):∀w∈ns.map (gd s),w.length=L/\gw w:=fun w hw=>by
 obtain⟨m,hm,rfl⟩:=dF.mp hw;obtain⟨v,hv⟩:=jr.mp (h m hm);rw [show gd s m=v from by unfold gd; rw [hv]; rfl];exact(h3 m v hv).2
theorem QI {s:av}{D:Dd}{t:Dt}(g:Gs s)(hD:GD D)(ho:outD s D=.ok t):Gs (gE s D):=by
 obtain⟨hd,L,h1,h2,h3⟩:=g;refine⟨YH hd D,?_⟩
 cases D with
 |put n w=>
  obtain⟨hn,hw1,By,hw3⟩:=hD;change iZ s n w=_ at ho;unfold iZ at ho
  split at ho
  ·rename_i hc
   rw [yW,J1 hd] at hc;refine⟨w.length,hw1,By,fun m v hv=>?_⟩;rw [show gE s (.put n w)=dI s n w from rfl,GJ] at hv
   by_cases e:m=n
   ·rw [if_pos e] at hv
    cases hv;exact⟨by rw [e]; exact hn,rfl,hw3⟩
   ·rw [if_neg e] at hv
    exact⟨(h3 m v hv).1,hc m v hv e,(h3 m v hv).2.2⟩
  ·cases ho
 |take n=>
  refine⟨L,h1,h2,fun m v hv=>?_⟩;rw [show gE s (.take n)=cE s n from rfl,rE] at hv
  by_cases e:m=n
  ·rw [if_pos e] at hv; cases hv
  ·rw [if_neg e] at hv; exact h3 m v hv
 |gate n g ns=>
  obtain⟨hn,om,hg⟩:=hD;change i0 s g ns=_ at ho;unfold i0 at ho
  split at ho
  ·rename_i hc
   rw [eg] at hc;have hw:=Ir (g:=g) (by rw [ef]; exact hg) (Ip h3 hc);refine⟨L,h1,h2,fun m v hv=>?_⟩;rw [show gE s (.gate n g ns)=dI s n (fg g (ns.map (gd s))) from rfl,GJ] at hv
   by_cases e:m=n
   ·rw [if_pos e] at hv
    cases hv;exact⟨by rw [e]; exact hn,hw.1,hw.2⟩
   ·rw [if_neg e] at hv
    exact h3 m v hv
  ·cases ho
theorem aec {k:av}{D:Dd}{t:Dt}(g:Gs k)(hD:GD D)(ho:outD k D=.ok t):Gs (ip k D):=aeb (agG g.1 D) (MG (fun _=>rfl) D) (QI g hD ho)
theorem Iq {s:av}(g:Gs s):s.length<=4:=by
 obtain⟨hd,L,h1,h2,h3⟩:=g;have:=Lx hd (l₂:=N4) fun n hn=>by
  rw [mem_keys] at hn;obtain⟨v,hv⟩:=jr.mp hn;exact(h3 n v hv).1
 simpa using this
theorem Ba {n:List Nat}(h:n∈N4):pP n=true:=by
 simp only [bf,fw,or_false] at h;rcases h with rfl | rfl | rfl | rfl <;> decide
theorem OE {n:List Nat}(h:n∈N4):qV n:=by
 simp only [bf,fw,or_false] at h;rcases h with rfl | rfl | rfl | rfl <;> decide
def Cu (x:List Dt)(s:av)(D:Dd):Out->M (Dt×List Dt×List Dt)
 |.ok t=>.ok (t,x++[.tup [D.dt,.aj (gE s D)]],[])
 |.no c=>.ex c
theorem agQ {x y:List Dt}{s:av}{n w:List Nat}(g:Gs s)(hs:fO x.getLast?=.ok (.aj s))(hx:x.length<10000)(hD:GD (.put n w)):lY x y [.str n,.str w]=Cu x s (.put n w) (iZ s n w):=by
 have hl:=Iq g;unfold iZ
 by_cases hc:(s.all fun p=>decide (p.1=n) || decide (p.2.length=w.length))=true
 ·simp only [hc,if_true]
  exact Yw hs hx (Ba hD.1) g.1 (by omega) (yW.mp hc)
 ·simp only [hc,if_false]
  exact Yx hs (Ba hD.1) g.1 (by omega) (fun z=>hc (yW.mpr z))
theorem agP {x y:List Dt}{s:av}{n:List Nat}(g:Gs s)(hs:fO x.getLast?=.ok (.aj s))(hx:x.length<10000)(hD:GD (.take n)):lX x y [.str n]=Cu x s (.take n) (rh (az s n)):=by
 cases hv:az s n with
 |some v=>exact VH hs hx hv
 |none=>exact VI hs hv (OE hD)
theorem agR {x y:List Dt}{s:av}{n g:List Nat}{ns:List (List Nat)}(G:Gs s)(hs:fO x.getLast?=.ok (.aj s))(hx:x.length<10000)(hD:GD (.gate n g ns)):jM x y [.str n,.str g,.tup (ns.map Dt.str)]=Cu x s (.gate n g ns) (i0 s g ns):=by
 have hl:=Iq G;have yc:ns.length<=1000:=by
  rcases hD.2.2 with ⟨_,h⟩ | ⟨_,h⟩ <;> omega
 unfold i0
 by_cases hc:(ns.all fun m=>(az s m).isSome)=true
 ·simp only [hc,if_true]
  obtain⟨hd,L,h1,h2,h3⟩:=G;exact ael (L:=L) hs hx yc (Ba hD.1) (eg.mp hc) hD.2.2 (by omega) (fun p hp=>(h3 p.1 p.2 (rD hd hp)).2) hd (by omega)
 ·simp only [hc,if_false]
  exact aem hs yc (Ba hD.1) (fun m hm=>OE (hD.2.1 m hm)) (fun z=>hc (eg.mpr z))
def zg (bp bg bt:BM)(cs:List Nat):GB:=so (aU (p2 oEq (p2 aO (ae 1) (pC (.int 0))) (pC (.str [103,97,116,101])))) (kr 0 cs [0,1] (ff 0 bg (af (p2 aO (ae 1) (pC (.int 1))) (af (p2 aO (ae 1) (pC (.int 2))) (af (p1 (pJ 3) (ae 1)) aq))))) (kr 0 cs [0,1] (so (aU (p2 oEq (p2 aO (ae 1) (pC (.int 0))) (pC (.str [112,117,116])))) (ff 0 bp (af (p2 aO (ae 1) (pC (.int 1))) (af (p2 aO (ae 1) (pC (.int 2))) aq))) (ff 0 bt (af (p2 aO (ae 1) (pC (.int 1))) aq))))
def l5 (cs:List Nat):GB:=zg lY jM lX cs
def L9 (x y:List Dt)(s:av)(D:Dd):Out->M (Dt×List Dt×List Dt)
 |.ok t=>.ok (t,x++[.tup [D.dt,.aj (gE s D)]],[])
 |.no c=>.ok (.str (iw c),x,y)
theorem Eg {cs:List Nat}{x y:List Dt}{s:av}{D:Dd}(h1:1∈cs)(h6:6∈cs)(o:Out)(ho:∀c,o=.no c->c=1∨c=6):j4 cs (some (x,y)) (Cu x s D o)=L9 x y s D o:=by
 cases o with
 |ok t=>rfl
 |no c=>
  show (if c∈cs then _ else _)=_;rw [if_pos]
  ·rfl
  ·rcases ho c rfl with rfl | rfl
   ·exact h1
   ·exact h6
theorem AY {s:av}{D:Dd}{c:Nat}(h:outD s D=.no c):c=1∨c=6:=by
 cases D with
 |put n w=>
  change iZ s n w=_ at h;unfold iZ at h
  split at h
  ·cases h
  ·cases h; exact .inr rfl
 |take n=>
  change rh (az s n)=_ at h
  cases hv:az s n with
  |some v=>rw [hv] at h; cases h
  |none=>rw [hv] at h; cases h; exact .inl rfl
 |gate n g ns=>
  change i0 s g ns=_ at h;unfold i0 at h
  split at h
  ·cases h
  ·cases h; exact .inl rfl
theorem afu {bp bg bt:BM}{cs:List Nat}{x y:List Dt}{n w:List Nat}:zg bp bg bt cs [.bor none x y,.val (.tup [.str jv,.str n,.str w])]=j4 cs (some (x,y)) (bp x y [.str n,.str w]):=rfl
theorem aft {bp bg bt:BM}{cs:List Nat}{x y:List Dt}{n:List Nat}:zg bp bg bt cs [.bor none x y,.val (.tup [.str jY,.str n])]=j4 cs (some (x,y)) (bt x y [.str n]):=rfl
theorem afw {bp bg bt:BM}{cs:List Nat}{x y:List Dt}{n g a:List Nat}:zg bp bg bt cs [.bor none x y,.val (.tup [.str eT,.str n,.str g,.str a])]=j4 cs (some (x,y)) (bg x y [.str n,.str g,.tup [.str a]]):=rfl
theorem afv {bp bg bt:BM}{cs:List Nat}{x y:List Dt}{n g a b:List Nat}:zg bp bg bt cs [.bor none x y,.val (.tup [.str eT,.str n,.str g,.str a,.str b])]=j4 cs (some (x,y)) (bg x y [.str n,.str g,.tup [.str a,.str b]]):=rfl
theorem afo {cs:List Nat}{x y:List Dt}{n w:List Nat}:l5 cs [.bor none x y,.val (.tup [.str jv,.str n,.str w])]=j4 cs (some (x,y)) (lY x y [.str n,.str w]):=afu
theorem afm {cs:List Nat}{x y:List Dt}{n:List Nat}:l5 cs [.bor none x y,.val (.tup [.str jY,.str n])]=j4 cs (some (x,y)) (lX x y [.str n]):=aft
theorem afs {cs:List Nat}{x y:List Dt}{n g a:List Nat}:l5 cs [.bor none x y,.val (.tup [.str eT,.str n,.str g,.str a])]=j4 cs (some (x,y)) (jM x y [.str n,.str g,.tup [.str a]]):=afw
theorem afr {cs:List Nat}{x y:List Dt}{n g a b:List Nat}:l5 cs [.bor none x y,.val (.tup [.str eT,.str n,.str g,.str a,.str b])]=j4 cs (some (x,y)) (jM x y [.str n,.str g,.tup [.str a,.str b]]):=afv
theorem afq {cs:List Nat}{x y:List Dt}{s:av}{D:Dd}(h1:1∈cs)(h6:6∈cs)(g:Gs s)(hs:fO x.getLast?=.ok (.aj s))(hx:x.length<10000)(hD:GD D):qe 1 0 (l5 cs) x y [D.dt]=L9 x y s D (outD s D):=by
 show l5 cs [.bor none x y,.val D.dt]=_
 cases D with
 |put n w=>
  show l5 cs [.bor none x y,.val (.tup [.str jv,.str n,.str w])]=_;rw [afo,agQ g hs hx hD];exact Eg h1 h6 _ fun c h=>AY (D:=.put n w) h
 |take n=>
  show l5 cs [.bor none x y,.val (.tup [.str jY,.str n])]=_;rw [afm,agP g hs hx hD];exact Eg h1 h6 _ fun c h=>AY (D:=.take n) h
 |gate n g' ns=>
  have e:l5 cs [.bor none x y,.val (Dd.gate n g' ns).dt]=j4 cs (some (x,y)) (jM x y [.str n,.str g',.tup (ns.map Dt.str)]):=by
   rcases hD.2.2 with ⟨_,h⟩ | ⟨_,h⟩
   ·match ns,h with
    | [a],_=>exact afs
   ·match ns,h with
    | [a,b],_=>exact afr
  rw [e,agR g hs hx hD];exact Eg h1 h6 _ fun c h=>AY (D:=.gate n g' ns) h
theorem afb {α:Type}[BEq α][LawfulBEq α]{l:List α}(h:l≠[]):0<l.eraseDups.length:=by
 match l,h with
 |a::r,_=>rw [Dp]; simp
theorem afc (ls:List Int)(a:Int):(1<(ls++[a]).eraseDups.length)↔¬ ∀l∈ls,l=a:=by
 cases ls with
 |nil=>simp [Dp]
 |cons b r=>
  rw [zH,Dp,eh];constructor
  ·intro h z
   have e:(r++[a]).filter (fun c=>!(c==b))=[]:=by
    rw [zY];intro c hc;have hb:=z b bN;rcases eD.mp hc with h1 | h1
    ·rw [z c (cG _ h1),hb]; simp
    ·rw [jo.mp h1,hb]; simp
   rw [e] at h;simp at h
  ·intro h
   have:(r++[a]).filter (fun c=>!(c==b))≠[]:=fun e=>h fun l hl=>by
    rw [zY] at e;have e1:=e a (by simp);have ea:a=b:=by simpa using e1
    rcases bf.mp hl with h1 | h1
    ·rw [h1,ea]
    ·have:=e l (by simp [h1])
     rw [ea]; simpa using this
   have:=afb this;omega
theorem Fp {k:av}{d:Dt}{n:List Nat}(h1:aO d (.int 1)=.ok (.str n))(hd:Nd k)(hl:k.length<=1000):Au 2 (dQ 1 [0,1] (lJ (ae 0)) (aI 0) (aU (p2 c8 (ae 0) (p2 aO (ae 2) (pC (.int 1))))) (eZ (af (ae 0) (af (p2 gj (ae 1) (ae 0)) aq)))) [.val (.aj k),.val d,.no]=.ok (.nx [.val (.aj k),.val d,.cg (cE k n)]):=by
 have e:dQ 1 [0,1] (lJ (ae 0)) (aI 0) (aU (p2 c8 (ae 0) (p2 aO (ae 2) (pC (.int 1))))) (eZ (af (ae 0) (af (p2 gj (ae 1) (ae 0)) aq))) [.val (.aj k),.val d,.no]=.ok (.lst ((cE k n).map fun p=>Dt.tup [.str p.1,.str p.2])):=by
  exists dv
  simp only [gH];unfold mJ;rw [lV (fun p:PW=>Dt.str p.1) (fun p=>if (!(p.1==n))=true then some (.tup [.str p.1,.str p.2]) else none)]
  ·rw [B4]
   exists ev
   rw [cX (by simp only [ef]; exact cK (o5 _ _) (by omega))];rfl
  ·intro p hp
   have hv:=qj (rD hd hp)
   by_cases hn:p.1=n
   ·exists dU,je,jd,cf,h1,hn,Cp
    simp
   ·exists dU,je,jd,cf,h1,hn,kA,hv
    rw [c9 (by decide)]
    exists aS,kB
    simp [hn]
 unfold Au;rw [e];show (match iA ((cE k n).map fun p=>Dt.tup [.str p.1,.str p.2]) with | some ps=>M.ok (Fl.nx ([Bd.val (.aj k),.val d,.no].set 2 (.cg (jE [] ps)))) | none=>.bad)=_;rw [Nr (fun p:PW=>p.1) (fun p=>p.2)];show M.ok (Fl.nx [Bd.val (.aj k),.val d,.cg (jE [] ((cE k n).map fun p=>(p.1,p.2)))])=_;rw [show ((cE k n).map fun p=>(p.1,p.2))=cE k n from List.map_id' _,aa7 (xG n hd)]
abbrev LI:List Nat:=[110,111,32,110,97,109,101]
theorem agJ {k:av}{d:Dt}{n:List Nat}(h0:aO d (.int 0)=.ok (.str jY))(h1:aO d (.int 1)=.ok (.str n))(hd:Nd k)(hl:k.length<=1000):nz [.aj k,d]=match az k n with
  |some v=>.ok (.tup [.aj (cE k n),.str v])
  |none=>.ok (.tup [.aj k,.str LI]):=by
 unfold nz zk
 exists aS,Fp h1 hd hl
 exists dU,h0,h1
 cases hv:az k n with
 |some v=>
  exists dU,h1,qj hv,wL
  rw [c9 (by decide)]
  exists ev
 |none=>
  exists dU,zO
  rw [c9 (by decide)]
  exists ev
abbrev U8:List Nat:=[117,110,108,105,107,101]
theorem abA {k:av}{d:Dt}{w:List Nat}{s:av}(h2:aO d (.int 2)=.ok (.str w))(hd:Nd s)(hl:s.length<=900):aU (p2 mG (p1 rj (p2 bR (dQ 1 [2] (lJ (ae 2)) (aI 0) cW (aP dM (af (p2 gj (ae 1) (ae 0)) aq))) (er (af (aP dM (af (p2 aO (ae 1) (pC (.int 2))) aq)) aq)))) (pC (.int 1))) [.val (.aj k),.val d,.val (.aj s)]=.ok (!(s.all fun p=>decide (p.2.length=w.length))):=by
 have e:dQ 1 [2] (lJ (ae 2)) (aI 0) cW (aP dM (af (p2 gj (ae 1) (ae 0)) aq)) [.val (.aj k),.val d,.val (.aj s)]=.ok (.lst (s.map fun p=>Dt.int (p.2.length:Nat))):=by
  exists dv
  simp only [gH];unfold mJ;rw [lV (fun p:PW=>Dt.str p.1) (fun p=>some (.int (p.2.length:Nat)))]
  ·rw [oF]
   exists ev
   rw [cX (by simp only [ef]; omega)]
  ·intro p hp
   exists dU,je,jd,cf,kA,qj (rD hd hp),kB
 have e2:(s.map fun p=>Dt.int (p.2.length:Nat))++[Dt.int (w.length:Nat)]=((s.map fun p=>((p.2.length:Nat):Int))++[((w.length:Nat):Int)]).map fun i=>Dt.int i:=by simp
 rw [SX,CF,S4,CF,e,bG,J9]
 exists aS,h2
 rw [cX (by simp)]
 exists ev
 rw [cX (by simp; omega)];rw [e2,bG];rw [show rj (.lst (((s.map fun p=>((p.2.length:Nat):Int))++[((w.length:Nat):Int)]).map fun i=>Dt.int i))=.ok (.int ((((s.map fun p=>((p.2.length:Nat):Int))++[((w.length:Nat):Int)]).eraseDups.length:Nat):Int)) from by
  show (if _ then OO (mL _) else _)=_;rw [if_pos (by simp; omega),ints_map (fun i:Int=>i),List.map_id']
  rfl]
 exists ev
 congr 1
 rw [kI];simp only [decide_eq_true_eq,Bool.not_eq_true',← Bool.not_eq_true,eg];rw [show ((1:Int)<(((s.map fun p=>((p.2.length:Nat):Int))++[((w.length:Nat):Int)]).eraseDups.length:Nat))↔1<((s.map fun p=>((p.2.length:Nat):Int))++[((w.length:Nat):Int)]).eraseDups.length from by omega,afc];constructor
 ·intro h z
  refine h fun l hl=>?_;obtain⟨p,hp,rfl⟩:=dF.mp hl;have:=z p hp;omega
 ·intro h z
  refine h fun p hp=>?_;have:=z _ (dF.mpr ⟨p,hp,rfl⟩);omega
theorem abB {k:av}{d:Dt}{s:av}:lend 2 [.val (.aj k),.val d,.cg s]=[.val (.aj k),.val d,.val (.aj s)]:=rfl
theorem drop_new {k:av}{n:List Nat}:∀p∈cE k n,p.1≠n:=OM.mp (by rw [rE,if_pos rfl])
theorem RO (k:av)(n:List Nat):(cE k n).length<=k.length:=o5 _ _
theorem afe {k:av}{n w:List Nat}:((cE k n).all fun p=>decide (p.2.length=w.length))=(k.all fun p=>decide (p.1=n) || decide (p.2.length=w.length)):=by
 unfold cE
 induction k with
 |nil=>rfl
 |cons p r ih=>
  rw [wI,nF]
  by_cases h:p.1=n
  ·simp only [h,beq_self_eq_true,tu,du,if_false,decide_true,Bool.true_or,zw]
   exact ih
  ·simp only [beq_eq_false_iff_ne.mpr h,wD,if_true,h,decide_false,Bool.false_or,nF]
   rw [ih]
theorem agK {k:av}{d:Dt}{n w:List Nat}(h0:aO d (.int 0)=.ok (.str jv))(h1:aO d (.int 1)=.ok (.str n))(h2:aO d (.int 2)=.ok (.str w))(hd:Nd k)(hl:k.length<=900):nz [.aj k,d]=if (k.all fun p=>decide (p.1=n) || decide (p.2.length=w.length))=true then .ok (.tup [.aj (cE k n++[(n,w)]),.bl (az k n).isSome]) else .ok (.tup [.aj k,.str U8]):=by
 have rT:=RO k n;unfold nz zk
 exists aS,Fp h1 hd (by omega)
 exists aS,h0,show decide (jv=[116,97,107,101])=false from rfl
 have e:∀s u,uA 2 (aU (p2 mG (p1 rj (p2 bR (dQ 1 [2] (lJ (ae 2)) (aI 0) cW (aP dM (af (p2 gj (ae 1) (ae 0)) aq))) (er (af (aP dM (af (p2 aO (ae 1) (pC (.int 2))) aq)) aq)))) (pC (.int 1)))) s u [.val (.aj k),.val d,.cg (cE k n)]=if (k.all fun p=>decide (p.1=n) || decide (p.2.length=w.length))=true then u [.val (.aj k),.val d,.cg (cE k n)] else s [.val (.aj k),.val d,.cg (cE k n)]:=fun s u=>by
  unfold uA;rw [abB,abA h2 (xG n hd) (by omega),afe]
  cases (k.all fun p=>decide (p.1=n) || decide (p.2.length=w.length)) <;> rfl
 rw [e]
 by_cases hc:(k.all fun p=>decide (p.1=n) || decide (p.2.length=w.length))=true
 ·rw [if_pos hc,if_pos hc]
  exists dU,h1,h2
  rw [c9 (by omega)]
  exists dU,h1
  rw [c9 (by decide),FK drop_new]
  exists ev
 ·rw [if_neg hc,if_neg hc]
  exists ev
  rw [c9 (by decide)]
  exists ev
theorem afA {k:av}(ns:List (List Nat))(hl:ns.length<=1000)(d:Dt)(b:Bd):gH 1 [0] (aI 0) (aU (p2 xy (ae 0) (ae 1))) (ae 0) [.val (.aj k),.val d,b] (ns.map Dt.str)=.ok (.lst ((ns.filter fun m=>!(az k m).isSome).map Dt.str)):=by
 simp only [gH];rw [lV Dt.str (fun m=>if (!(az k m).isSome)=true then some (.str m) else none)]
 ·rw [B4]
  exists ev
  rw [cX (by simp only [ef]; exact cK (o5 _ _) (by omega))]
 ·intro m hm
  exists dU,je,jd,cf
  cases hv:(az k m).isSome
  ·exists aS,kA,kB
   simp
  ·exists aS,Cp
   simp
theorem afz {k:av}(ns:List (List Nat))(hl:ns.length<=1000)(d:Dt)(b:Bd)(h:∀m∈ns,(az k m).isSome=true):gH 1 [0] (aI 0) cW (p2 gj (ae 1) (ae 0)) [.val (.aj k),.val d,b] (ns.map Dt.str)=.ok (.lst ((ns.map (gd k)).map Dt.str)):=by
 simp only [gH];rw [lV Dt.str (fun m=>some (.str (gd k m)))]
 ·rw [oF]
  exists ev
  rw [cX (by simp only [ef]; omega),nE];rfl
 ·intro m hm
  obtain⟨v,hv⟩:=jr.mp (h m hm)
  exists dU,je,jd,cf,kA,qj hv,kB
  rw [show gd k m=v from by unfold gd; rw [hv]; rfl]
theorem ne_nil (l:List (List Nat)):c8 (.lst (l.map Dt.str)) (.lst [])=.ok (.bl (!decide (l=[]))):=by
 rw [yX,c9 (afD l)]
 cases l <;> rfl
theorem agL {k:av}{d:Dt}{n g:List Nat}{ns:List (List Nat)}{L:Nat}(h0:aO d (.int 0)=.ok (.str eT))(h1:aO d (.int 1)=.ok (.str n))(h2:aO d (.int 2)=.ok (.str g))(h3:pJ 3 d=.ok (.tup (ns.map Dt.str)))(hd:Nd k)(hl:k.length<=900)(hg:m5 g ns.length)(hL:L<=1000)(hw:∀m v,az k m=some v->m∈N4/\v.length=L/\gw v):nz [.aj k,d]=if (ns.all fun m=>(az k m).isSome)=true then .ok (.tup [.aj (cE k n++[(n,fg g (ns.map (gd k)))]),.str (fg g (ns.map (gd k)))]) else .ok (.tup [.aj k,.str LI]):=by
 have rT:=RO k n;have yc:ns.length<=1000:=by
  rcases hg with ⟨_,h⟩ | ⟨_,h⟩ <;> omega
 unfold nz zk
 exists aS,Fp h1 hd (by omega)
 exists aS,h0,show decide (eT=[116,97,107,101])=false from rfl,show decide (eT=[112,117,116])=false from rfl
 exists aS,h3,afA ns yc d _
 rw [cX (by decide),bG,ne_nil]
 by_cases hc:(ns.all fun m=>(az k m).isSome)=true
 ·have fT:=eg.mp hc
  have e:(ns.filter fun m=>!(az k m).isSome)=[]:=by
   rw [zY];intro m hm;rw [fT m hm];simp
  rw [if_pos hc]
  exists aS,e
  have em:wt [.str g,.lst ((ns.map (gd k)).map Dt.str)]=.ok (.str (fg g (ns.map (gd k)))):=abf hL (by rw [ef]; exact hg) (Ip hw fT)
  exists dU,h1,h2,h3,afz ns yc d _ fT,em
  rw [c9 (by omega),FK drop_new];have ev2:az (cE k n++[(n,fg g (ns.map (gd k)))]) n=some (fg g (ns.map (gd k))):=by
   rw [GL,rE,if_pos rfl];simp [fS]
  exists dU,h1,qj ev2
  rw [c9 (by decide)]
  exists ev
 ·have e:¬ (ns.filter fun m=>!(az k m).isSome)=[]:=by
   rw [zY];intro z;refine hc (eg.mpr fun m hm=>?_);have:=z m hm
   cases hv:(az k m).isSome
   ·rw [hv] at this; simp at this
   ·rfl
  rw [if_neg hc]
  exists aS,e
  rw [c9 (by decide)]
  exists ev
theorem aaB {a:Nat}{ds:List Dt}(h:a<=ds.length):pJ a (.tup ds)=.ok (.tup (ds.drop a)):=if_pos h
def we (k:av)(D:Dd):Out->M Dt
 |.ok t=>.ok (.tup [.aj (ip k D),t])
 |.no c=>.ok (.tup [.aj k,.str (iw c)])
theorem agI {k:av}{D:Dd}(g:Gs k)(hD:GD D):nz [.aj k,D.dt]=we k D (outD k D):=by
 have hl:=Iq g
 cases D with
 |put n w=>
  rw [agK (n:=n) (w:=w) rfl rfl rfl g.1 (by omega)];show _=we k _ (iZ k n w);unfold iZ
  split <;> rfl
 |take n=>
  rw [agJ (n:=n) rfl rfl g.1 (by omega)];show _=we k _ (rh (az k n))
  cases az k n <;> rfl
 |gate n g' ns=>
  obtain⟨hd,L,h1,h2,h3⟩:=g;rw [agL (n:=n) (g:=g') (ns:=ns) (L:=L) (by rw [show (Dd.gate n g' ns).dt=.tup (.str eT :: .str n :: .str g'::ns.map Dt.str) from rfl,yY,show (0:Int)=((0:Nat):Int) from rfl,l0 (n:=0) rfl]; rfl) (by rw [show (Dd.gate n g' ns).dt=.tup (.str eT :: .str n :: .str g'::ns.map Dt.str) from rfl,yY,show (1:Int)=((1:Nat):Int) from rfl,l0 (n:=1) rfl]; rfl) (by rw [show (Dd.gate n g' ns).dt=.tup (.str eT :: .str n :: .str g'::ns.map Dt.str) from rfl,yY,show (2:Int)=((2:Nat):Int) from rfl,l0 (n:=2) rfl]; rfl) (by
   exact aaB (by simp only [eh]; omega)) hd (by omega) hD.2.2 (by omega) h3]
  show _=we k _ (i0 k g' ns);unfold i0
  split <;> rfl
abbrev Rw:=Dd×av
def dH (r:Rw):Dt:=.tup [r.1.dt,.aj r.2]
abbrev iT (rows:List Rw):List Dt:=rows.map fun r=>r.1.dt
def gg (rows:List Rw):av:=match rows.getLast? with
 |some r=>r.2
 |none=>[]
theorem MS (rows:List Rw):fO (rows.map dH).getLast?=.ok (.aj (gg rows)):=by
 rw [List.getLast?_map];unfold gg
 cases rows.getLast? <;> rfl
theorem QR:∀rows:List Rw,sr (rows.map dH)=some (iT rows)
 | []=>rfl
 |r::rows=>by
  show (sr (rows.map dH)).map (r.1.dt :: ·)=_;rw [QR rows];rfl
theorem Og:∀l:List (List Nat),kf (l.map Dt.str)=true
 | []=>by simp only [iK,kf]
 |a::l=>by simp only [bI,kf,rm,Og l,Bool.and_self]
theorem aaJ (D:Dd):rm D.dt=true:=by
 cases D with
 |put n w=>rfl
 |take n=>rfl
 |gate n g ns=>simp only [Dd.dt,rm,kf,Og,Bool.and_self]
theorem Oh:∀rows:List Rw,kf (iT rows)=true
 | []=>by simp only [iK,kf]
 |r::rows=>by
  have:=Oh rows;simp only [bI,kf,aaJ,zw];exact this
theorem WA {rows:List Rw}{y:List Dt}(h:rows.length<=1000):qo (rows.map dH) y=.ok (.lst (iT rows)):=by
 unfold qo;rw [QR];exact if_pos ⟨Oh rows,by simp; omega⟩
theorem R3:∀l:List (List Nat),fG (l.map Dt.str)=0
 | []=>by simp only [iK,fG]
 |a::l=>by simp only [bI,fG,dep,R3 l]; rfl
theorem afE (D:Dd):dep D.dt<=1:=by
 cases D with
 |put n w=>simp only [Dd.dt,dep,fG]; decide
 |take n=>simp only [Dd.dt,dep,fG]; decide
 |gate n g ns=>simp only [Dd.dt,dep,fG,R3]; decide
theorem R4:∀rows:List Rw,fG (iT rows)<=1
 | []=>by simp only [iK,fG]; omega
 |r::rows=>by
  have h1:=R4 rows;have h2:=afE r.1;simp only [bI,fG];exact Nat.max_le.mpr ⟨h2,h1⟩
theorem aaR (rows:List Rw):c8 (.lst (iT rows)) (.lst (iT rows))=.ok (.bl false):=by
 rw [yX,c9,sF]
 ·rfl
 ·have:=R4 rows
  simp only [dep];omega
theorem aaS {s k:av}(hs:Nd s)(hk:Nd k)(h:Sm s k):c8 (.aj s) (.aj k)=.ok (.bl false):=by
 rw [yX,c9 (by simp only [dep]; omega),WK hs hk h];rfl
theorem NN {s:av}{D:Dd}{t:Dt}(g:Gs s)(hD:GD D)(h:outD s D=.ok t):(∃b,t=.bl b)∨∃v,t=.str v/\gw v:=by
 obtain⟨hd,L,h1,h2,h3⟩:=g
 cases D with
 |put n w=>
  change iZ s n w=_ at h;unfold iZ at h
  split at h
  ·cases h; exact .inl ⟨_,rfl⟩
  ·cases h
 |take n=>
  change rh (az s n)=_ at h
  cases hv:az s n with
  |some v=>rw [hv] at h; cases h; exact .inr ⟨v,rfl,(h3 n v hv).2.2⟩
  |none=>rw [hv] at h; cases h
 |gate n g ns=>
  change i0 s g ns=_ at h;unfold i0 at h
  split at h
  ·rename_i hc
   cases h;exact .inr ⟨_,rfl,(Ir (g:=g) (by rw [ef]; exact hD.2.2) (Ip h3 (eg.mp hc))).2⟩
  ·cases h
theorem Zj {s:av}{D:Dd}{t:Dt}(g:Gs s)(hD:GD D)(h:outD s D=.ok t):c8 t t=.ok (.bl false):=by
 rw [yX,c9,sF]
 ·rfl
 ·rcases NN g hD h with ⟨b,rfl⟩ | ⟨v,rfl,_⟩ <;> simp only [dep] <;> omega
abbrev Gf:Dt:=.tup [.str [110,111,32,110,97,109,101],.str [117,110,108,105,107,101]]
theorem Zk {s:av}{D:Dd}{t:Dt}(g:Gs s)(hD:GD D)(h:outD s D=.ok t):gi t Gf=.ok (.bl false):=by
 rcases NN g hD h with ⟨b,rfl⟩ | ⟨v,rfl,hv⟩
 ·rfl
 ·have e:gi (.str v) Gf=.ok (.bl ([Dt.str [110,111,32,110,97,109,101],.str [117,110,108,105,107,101]].any fun d=>bZ d (.str v))):=by
   rcases v with _ | ⟨c,_ | ⟨d,r⟩⟩ <;> rfl
  rw [e];have h1:¬ [110,111,32,110,97,109,101]=v:=by
   rintro rfl;have:=hv 110 (by simp);omega
  have h2:¬ [117,110,108,105,107,101]=v:=by
   rintro rfl;have:=hv 110 (by simp);omega
  simp [bZ,h1,h2]
theorem aaI {s:av}{D:Dd}{c:Nat}(h:outD s D=.no c):gi (.str (iw c)) Gf=.ok (.bl true)/\c8 (.str (iw c)) (.str (iw c))=.ok (.bl false):=by
 rcases AY h with rfl | rfl <;> exact⟨rfl,rfl⟩
theorem uo {i:Nat}{G:GB}{op:Dt->Dt->M Dt}{g:aa->M Dt}{ρ:aa}{x y x' y':List Dt}{t d:Dt}{b:Bool}(h1:ρ[i]?=some (.aW x y))(h2:G ρ=.ok (t,x',y'))(h3:g (ρ.set i (.aW x' y'))=.ok d)(h4:op t d=.ok (.bl b)):mi i G op g ρ=.ok (b,ρ.set i (.aW x' y')):=by
 unfold mi xK;rw [h1,h2];show ((g (ρ.set i (.aW x' y'))).bd fun d=>(op t d).bd (Cs (ρ.set i (.aW x' y'))))=_;rw [h3,bG,h4];rfl
theorem QO {i:Nat}{F:BM}{fs:aa->M (List Dt)}{ρ:aa}{x y ds:List Dt}(h:ρ[i]?=some (.aW x y))(h1:fs ρ=.ok ds):ff i F fs ρ=F x y ds:=by
 unfold ff BY;rw [h,h1];rfl
theorem uX {F:TB}{s t:SM}{ρ aQ:aa}(h:F ρ=.ok (false,aQ)):mx F s t ρ=t aQ:=by
 unfold mx;rw [h];rfl
theorem Fy {i:Nat}{F:List Dt->List Dt->M Dt}{ρ:aa}{x y:List Dt}(h:ρ[i]?=some (.aW x y)):fR i F ρ=F x y:=by
 unfold fR Fz;rw [h];rfl
theorem Yf {i:Nat}{ρ:aa}{rows:List Rw}{y:List Dt}(h:ρ[i]?=some (.aW (rows.map dH) y)):fR i oN ρ=.ok (.aj (gg rows)):=by
 rw [Fy h];exact MS rows
theorem Ye {i:Nat}{ρ:aa}{rows:List Rw}{y:List Dt}(h:ρ[i]?=some (.aW (rows.map dH) y))(hl:rows.length<=1000):fR i qo ρ=.ok (.lst (iT rows)):=by
 rw [Fy h];exact WA hl
theorem afn {cs:List Nat}{rows:List Rw}{y:List Dt}{D:Dd}(h1:1∈cs)(h6:6∈cs)(g:Gs (gg rows))(hx:rows.length<1000)(hD:GD D):qe 1 0 (l5 cs) (rows.map dH) y [D.dt]=match outD (gg rows) D with
  |.ok t=>.ok (t,(rows++[(D,gE (gg rows) D)]).map dH,[])
  |.no c=>.ok (.str (iw c),rows.map dH,y):=by
 rw [afq h1 h6 g (MS rows) (by simp; omega) hD]
 cases outD (gg rows) D with
 |ok t=>
  rw [tw];rfl
 |no c=>rfl
theorem QJ:Gs []:=⟨List.nodup_nil,1,by omega,by omega,fun n v h=>nomatch h⟩
def Dd.wd:Dd->List Nat
 |.put _ _=>jv
 |.take _=>jY
 |.gate _ _ _=>eT
theorem RL (D:Dd):∃r,D.dt=.tup (.str D.wd::r):=by
 cases D <;> exact⟨_,rfl⟩
theorem RM (D:Dd):aO D.dt (.int 0)=.ok (.str D.wd):=by
 obtain⟨r,h⟩:=RL D;rw [h,yY,show (0:Int)=((0:Nat):Int) from rfl,l0 (n:=0) rfl];rfl
theorem OF {x y:List Dt}{r:Rw}(h:x.getLast?=some (dH r))(hy:y.length<10000):rq x y x.getLast?=.ok (.str r.1.wd,x.dropLast,y++[dH r]):=by
 rw [h];obtain⟨t,ht⟩:=RL r.1;unfold dH;rw [ht];exact if_pos hy
theorem JM {A B:List Rw}{r:Rw}(hl:B.length<1000):qr ((A++[r]).map dH) (B.reverse.map dH) []=.ok (.str r.1.wd,A.map dH,(r::B).reverse.map dH):=by
 show rq _ _ _=_;rw [OF (r:=r) (by simp) (by simp; omega)];simp
theorem IU {A B:List Rw}{r:Rw}(hl:A.length<1000):qq (A.map dH) ((r::B).reverse.map dH) []=.ok (.str r.1.wd,(A++[r]).map dH,B.reverse.map dH):=by
 show (rq _ _ _).bd _=_;rw [OF (r:=r) (by simp) (by simp; omega)];simp
theorem Ai {i:Nat}{cs:List Nat}{F:BM}{ρ:aa}{x y:List Dt}(h:ρ[i]?=some (.aW x y)):kr i cs [i] (ff 0 F aq) ρ=j4 cs (some (x,y)) (F x y []):=by
 unfold kr jz;simp only [bI,iK,h];rfl
abbrev T3:=Rw×av
abbrev ro (A:List T3):List Rw:=A.map (·.1)
def kn (A:List T3):av:=match A.getLast? with
 |some t=>t.2
 |none=>[]
def sR (t:T3):Prop:=Gs t.1.2/\Gs t.2/\Sm t.1.2 t.2
theorem Fo (A:List T3)(t:T3):ro (A++[t])=ro A++[t.1]:=by simp
theorem NY {A:List T3}(h:∀t∈A,sR t):Gs (gg (ro A))/\Gs (kn A)/\Sm (gg (ro A)) (kn A):=by
 unfold gg kn;rw [List.getLast?_map]
 cases e:A.getLast? with
 |none=>exact⟨QJ,QJ,fun _=>rfl⟩
 |some t=>exact h t (Dx e)
def rG (A:List T3):List Dt:=.aj []::A.map fun t=>.aj t.2
theorem OT (A B:List T3):cy (rG (A++B)) ((A.length:Nat):Int)=some (.aj (kn A)):=by
 refine l0 ?_;unfold rG kn;rcases List.eq_nil_or_concat A with rfl | ⟨A',t,rfl⟩
 ·rfl
 ·simp
theorem ME (A:List T3)(t:T3)(B:List T3):cy (iT (ro (A++t::B))) ((A.length:Nat):Int)=some t.1.1.dt:=by
 refine l0 ?_;simp
end Pg
namespace wo
open L2 Pg
def TU:GB:=so (aU (p2 oEq (p2 aO (ae 1) (pC (.int 0))) (pC (.str [103,97,116,101])))) (kr 0 [1,6,7] [0,1] (ff 0 jM (af (p2 aO (ae 1) (pC (.int 1))) (af (p2 aO (ae 1) (pC (.int 2))) (af (p1 (pJ 3) (ae 1)) aq))))) (kr 0 [1,6,7] [0,1] (so (aU (p2 oEq (p2 aO (ae 1) (pC (.int 0))) (pC (.str [112,117,116])))) (ff 0 lY (af (p2 aO (ae 1) (pC (.int 1))) (af (p2 aO (ae 1) (pC (.int 2))) aq))) (ff 0 lX (af (p2 aO (ae 1) (pC (.int 1))) aq))))
def zi:BM:=qe 1 0 TU
def CM:SM:=(aR (bV (aP gS (af (ae 0) (af (p2 bR (pC (.int 2000)) (ae 6)) (af (pC (.int 7)) aq)))) (aI 7))
 (aR (cY (aU (p2 oLt (ae 7) (pC (.int 4)))) (aR (bV (aP zj (af (ae 0) (af (p2 bR (pC (.int 100)) (p2 jD (pC (.int 60)) (ae 6))) (af (p2 aO (ae 2) (ae 4)) (af (ae 5) aq))))) (aI 8))
 (aR (bV (aP nz (af (p2 aO (ae 2) (ae 4)) (af (ae 8) aq))) (iG 2 (dJ (aI 9) (dJ (aI 10) ku))))
 (aR (mx (mi 1 (ff 1 zi (af (ae 8) aq)) c8 (ae 10)) (bJ (pC (.bl false))) cI)
 (cY (aU (p2 xA (ae 10) (eZ (af (pC (.str [110,111,32,110,97,109,101])) (af (pC (.str [117,110,108,105,107,101])) aq))))) (aR (bV (p2 bR (pG (ae 2) (gG none) (gG (some (p2 bR (ae 4) (pC (.int 1)))))) (er (af (ae 9) aq))) (aI 2))
 (aR (bV (p2 bR (pG (ae 3) (gG none) (gG (some (ae 4)))) (er (af (ae 8) aq))) (aI 3))
 (bV (p2 bR (ae 4) (pC (.int 1))) (aI 4)))) cI)))) (cY (aU (p2 oLt (ae 7) (pC (.int 6)))) (aR (mx (mi 1 (kr 1 [1,6,7] [1] (ff 0 qr aq)) c8 (ig (aU (p2 mG (ae 4) (pC (.int 0)))) (p2 aO (p2 aO (ae 3) (p2 n8 (ae 4) (pC (.int 1)))) (pC (.int 0))) (pC (.str [110,111,32,98,97,99,107])))) (bJ (pC (.bl false))) cI)
 (bV (aP yQ (af (pC (.int 0)) (af (p2 n8 (ae 4) (pC (.int 1))) aq))) (aI 4))) (aR (mx (mi 1 (kr 1 [1,6,7] [1] (ff 0 qq aq)) c8 (ig (aU (p2 oLt (ae 4) (aP dM (af (ae 3) aq)))) (p2 aO (p2 aO (ae 3) (ae 4)) (pC (.int 0))) (pC (.str [110,111,32,98,97,99,107])))) (bJ (pC (.bl false))) cI)
 (bV (aP wg (af (aP dM (af (ae 3) aq)) (af (p2 bR (ae 4) (pC (.int 1))) aq))) (aI 4)))))
 (cY (iS (aU (p2 c8 (fR 1 oN) (p2 aO (ae 2) (ae 4)))) (iS (aU (p2 c8 (fR 1 yP) (eZ (af (ae 4) (af (p2 n8 (aP dM (af (ae 3) aq)) (ae 4)) aq))))) (aU (p2 c8 (fR 1 qo) (pG (ae 3) (gG none) (gG (some (ae 4)))))))) (bJ (pC (.bl false))) cI)))
def Tc:SM:=(bJ (pC (.bl true)))
def Td:SM:=(aR (ph (lK uC (af (pC (.int 18)) aq)) (aI 6) CM) Tc)
def Lj:SM:=(aR (qW 1 (dJ (aI 2) (dJ (aI 3) (dJ (aI 4) (dJ (aI 5) ku)))) (af (er (af pI aq)) (af (er aq) (af (pC (.int 0)) (af (p2 bR (pC (.int 1)) (aP gS (af (ae 0) (af (pC (.int 0)) (af (pC (.int 12)) aq))))) aq))))) Td)
def wq:List Dt->M Dt:=cO 1 10 Lj
theorem RT:zi=qe 1 0 (l5 [1,6,7]):=rfl
abbrev st (ns:List Int)(many:Int)(A B:List T3)(b6 b7 b8 b9 b10:Bd):aa:=[.val (gh ns),.aW ((ro A).map dH) ((ro B).reverse.map dH),.val (.lst (rG (A++B))),.val (.lst (iT (ro (A++B)))),.val (.int (A.length:Nat)),.val (.int many),b6,b7,b8,b9,b10]
def Inv (ns:List Int)(many:Int)(j:Nat)(ρ:aa):Prop:=∃A B b6 b7 b8 b9 b10,ρ=st ns many A B b6 b7 b8 b9 b10/\(A++B).length<=j/\∀t∈A++B,sR t
def Ef:SM:=cY (iS (aU (p2 c8 (fR 1 oN) (p2 aO (ae 2) (ae 4)))) (iS (aU (p2 c8 (fR 1 yP) (eZ (af (ae 4) (af (p2 n8 (aP dM (af (ae 3) aq)) (ae 4)) aq))))) (aU (p2 c8 (fR 1 qo) (pG (ae 3) (gG none) (gG (some (ae 4)))))))) (bJ (pC (.bl false))) cI
theorem um {ns:List Int}{many:Int}{A B:List T3}{b6 b7 b8 b9 b10:Bd}(hl:(A++B).length<=100)(h:∀t∈A++B,sR t):Ef (st ns many A B b6 b7 b8 b9 b10)=.ok (.nx (st ns many A B b6 b7 b8 b9 b10)):=by
 obtain⟨g,g',hs⟩:=NY (A:=A) fun t ht=>h t (ej _ ht);have i4:A.length+B.length<=100:=by simpa using hl
 unfold Ef
 exists ev
 rw [Yf rfl]
 exists aS,OT A B,aaS g.1 g'.1 hs
 rw [Fy rfl,show yP ((ro A).map dH) ((ro B).reverse.map dH)=.ok (.tup [.int ((ro A).map dH).length,.int ((ro B).reverse.map dH).length]) from rfl]
 exists ev
 rw [c9 (by decide)];have e1:((A++B).length:Int) - (A.length:Nat)=((ro B).reverse.length:Nat):=by simp; omega
 rw [e1];have e2:c8 (.tup [.int (A.length:Nat),.int ((ro B).reverse.length:Nat)]) (.tup [.int (A.length:Nat),.int ((ro B).reverse.length:Nat)])=.ok (.bl false):=by
  rw [yX,c9 (by simp only [dep,fG]; decide),sF];rfl
 exists aS,e2
 rw [Ye rfl (by simp; omega)]
 exists ev
 rw [JB (j:=A.length) _ rfl,show (iT (ro (A++B))).take A.length=iT (ro A) from by simp]
 exists aS,aaR
theorem abK:CM=aR (bV (aP gS (af (ae 0) (af (p2 bR (pC (.int 2000)) (ae 6)) (af (pC (.int 7)) aq)))) (aI 7)) (aR (cY (aU (p2 oLt (ae 7) (pC (.int 4)))) (aR (bV (aP zj (af (ae 0) (af (p2 bR (pC (.int 100)) (p2 jD (pC (.int 60)) (ae 6))) (af (p2 aO (ae 2) (ae 4)) (af (ae 5) aq))))) (aI 8))
 (aR (bV (aP nz (af (p2 aO (ae 2) (ae 4)) (af (ae 8) aq))) (iG 2 (dJ (aI 9) (dJ (aI 10) ku))))
 (aR (mx (mi 1 (ff 1 zi (af (ae 8) aq)) c8 (ae 10)) (bJ (pC (.bl false))) cI)
 (cY (aU (p2 xA (ae 10) (eZ (af (pC (.str [110,111,32,110,97,109,101])) (af (pC (.str [117,110,108,105,107,101])) aq))))) (aR (bV (p2 bR (pG (ae 2) (gG none) (gG (some (p2 bR (ae 4) (pC (.int 1)))))) (er (af (ae 9) aq))) (aI 2))
 (aR (bV (p2 bR (pG (ae 3) (gG none) (gG (some (ae 4)))) (er (af (ae 8) aq))) (aI 3))
 (bV (p2 bR (ae 4) (pC (.int 1))) (aI 4)))) cI)))) (cY (aU (p2 oLt (ae 7) (pC (.int 6)))) (aR (mx (mi 1 (kr 1 [1,6,7] [1] (ff 0 qr aq)) c8 (ig (aU (p2 mG (ae 4) (pC (.int 0)))) (p2 aO (p2 aO (ae 3) (p2 n8 (ae 4) (pC (.int 1)))) (pC (.int 0))) (pC (.str [110,111,32,98,97,99,107])))) (bJ (pC (.bl false))) cI)
 (bV (aP yQ (af (pC (.int 0)) (af (p2 n8 (ae 4) (pC (.int 1))) aq))) (aI 4))) (aR (mx (mi 1 (kr 1 [1,6,7] [1] (ff 0 qq aq)) c8 (ig (aU (p2 oLt (ae 4) (aP dM (af (ae 3) aq)))) (p2 aO (p2 aO (ae 3) (ae 4)) (pC (.int 0))) (pC (.str [110,111,32,98,97,99,107])))) (bJ (pC (.bl false))) cI)
 (bV (aP wg (af (aP dM (af (ae 3) aq)) (af (p2 bR (ae 4) (pC (.int 1))) aq))) (aI 4)))))
 Ef):=rfl
theorem ne_str (l:List Nat):c8 (.str l) (.str l)=.ok (.bl false):=by rw [S5]; simp
theorem turn {ns:List Int}{many:Int}{j:Nat}{A B:List T3}(h1:1<=many)(h2:many<=12)(hj:j<18)(hr:(A++B).length<=j)(h:∀t∈A++B,sR t)(b7 b8 b9 b10:Bd):∃aQ,CM (st ns many A B (.val (.int (j:Nat))) b7 b8 b9 b10)=.ok (.nx aQ)/\Inv ns many (j+1) aQ:=by
 obtain⟨g,g',hs⟩:=NY (A:=A) fun t ht=>h t (ej _ ht);have i4:A.length+B.length<=j:=by simpa using hr
 have p0:=mC (ns:=ns) (k:=2000+(j:Nat)) (many:=7) (by omega) (by decide);rw [abK]
 exists aS,p0
 by_cases hw:bx ns (2000+(j:Nat)) 7<4
 ·obtain⟨D,hD,hd⟩:=afG (ns:=ns) (a:=100+60 * (j:Nat)) (many:=many) (k:=kn A) (by omega) h1 h2
  have hb:=agI g' hD;have vg:=afn (cs:=[1,6,7]) (rows:=ro A) (y:=(ro B).reverse.map dH) (D:=D) (by decide) (by decide) g (by simp; omega) hD;have ho:=Zi g.1 g'.1 hs D
  exists aS,hw
  rw [c9 (by omega)]
  exists aS,OT A B,hd,hb
  rw [← ho]
  cases e:outD (gg (ro A)) D with
  |ok t=>
   rw [e] at vg
   simp only at vg
   have e':outD (kn A) D=.ok t:=by rw [← ho]; exact e
   have Hu:=MG hs D;have g1:=QI g hD e;have g1':=aec g' hD e';have au:∀t'∈(A++[((D,gE (gg (ro A)) D),ip (kn A) D)])++[],sR t':=fun t' ht=>by
    rw [kJ] at ht;rcases eD.mp ht with z | z
    ·exact h t' (ej _ z)
    ·rw [jo.mp z]
     exact⟨g1,g1',Hu⟩
   refine⟨st ns many (A++[((D,gE (gg (ro A)) D),ip (kn A) D)]) [] (.val (.int (j:Nat))) (.val (.int (bx ns (2000+(j:Nat)) 7))) (.val D.dt) (.val (.aj (ip (kn A) D))) (.val t),?_,_,_,_,_,_,_,_,rfl,by simp; omega,au⟩;rw [show we (kn A) D (.ok t)=.ok (.tup [.aj (ip (kn A) D),t]) from rfl]
   exists ev
   rw [uX (uo (b:=false) rfl (by rw [RT,QO rfl rfl]; exact vg) rfl (Zj g hD e))];simp only [kO]
   exists ev
   rw [c9 (by decide)]
   exists aS,Zk g hD e
   rw [cX (by simp)]
   exists ev
   rw [JB (j:=A.length+1) _ (by omega),show (rG (A++B)).take (A.length+1)++[Dt.aj (ip (kn A) D)]=rG (A++[((D,gE (gg (ro A)) D),ip (kn A) D)]++[]) from by simp [rG],cX (by simp [rG]; omega)]
   exists ev
   rw [cX (by simp)]
   exists ev
   rw [JB (j:=A.length) _ rfl,show (iT (ro (A++B))).take A.length++[D.dt]=iT (ro (A++[((D,gE (gg (ro A)) D),ip (kn A) D)]++[])) from by simp,cX (by simp; omega)]
   exists ev
   rw [show ((A.length:Nat):Int)+1=(((A++[((D,gE (gg (ro A)) D),ip (kn A) D)]).length:Nat):Int) from by simp];have ht:=um (ns:=ns) (many:=many) (A:=A++[((D,gE (gg (ro A)) D),ip (kn A) D)]) (B:=[]) (b6:=.val (.int (j:Nat))) (b7:=.val (.int (bx ns (2000+(j:Nat)) 7))) (b8:=.val D.dt) (b9:=.val (.aj (ip (kn A) D))) (b10:=.val t) (by simp; omega) au;rw [← Fo A ((D,gE (gg (ro A)) D),ip (kn A) D)];unfold st at ht ⊢;simp only [kJ] at ht ⊢;exact ht
  |no c=>
   rw [e] at vg
   simp only at vg
   have hq:=aaI e;refine⟨st ns many A B (.val (.int (j:Nat))) (.val (.int (bx ns (2000+(j:Nat)) 7))) (.val D.dt) (.val (.aj (kn A))) (.val (.str (iw c))),?_,_,_,_,_,_,_,_,rfl,by omega,h⟩;rw [show we (kn A) D (.no c)=.ok (.tup [.aj (kn A),.str (iw c)]) from rfl]
   exists ev
   rw [uX (uo (b:=false) rfl (by rw [RT,QO rfl rfl]; exact vg) rfl hq.2)];simp only [kO]
   exists ev
   rw [c9 (by decide)]
   exists aS,hq.1
   exact um (by simp; omega) h
 ·exists aS,hw
  by_cases By:bx ns (2000+(j:Nat)) 7<6
  ·exists aS,By
   rcases List.eq_nil_or_concat A with rfl | ⟨A',t,hA⟩
   ·refine⟨st ns many [] B (.val (.int (j:Nat))) (.val (.int (bx ns (2000+(j:Nat)) 7))) b8 b9 b10,?_,_,_,_,_,_,_,_,rfl,by omega,h⟩
    rw [uX (uo (b:=false) (t:=.str [110,111,32,98,97,99,107]) (d:=.str [110,111,32,98,97,99,107]) rfl (by rw [Ai rfl]; rfl) (by rfl) (ne_str _))];simp only [kO]
    exists ev
    exact um (A:=[]) (by simp; omega) h
   ·rw [List.concat_eq_append] at hA
    subst hA;have BH:A'.length+1+B.length<=j:=by simpa using i4
    have hh:∀t'∈A'++(t::B),sR t':=fun t' ht=>h t' (by simpa using ht);refine⟨st ns many A' (t::B) (.val (.int (j:Nat))) (.val (.int (bx ns (2000+(j:Nat)) 7))) b8 b9 b10,?_,_,_,_,_,_,_,_,rfl,by simp; omega,hh⟩;have e1:cy (iT (ro (A'++[t]++B))) (((A'++[t]).length:Nat) - 1)=some t.1.1.dt:=by
     rw [show (((A'++[t]).length:Nat):Int) - 1=(A'.length:Nat) by simp,nK];exact ME A' t B
    have e2:((((A'++[t]).length:Nat):Int) > 0):=by rw [iO,Dy]; omega
    rw [uX (uo (b:=false) (t:=.str t.1.1.wd) (d:=.str t.1.1.wd) rfl (by rw [Ai rfl,Fo,JM (by simp; omega)]; rfl) (by
     simp only [kO]
     exists aS,e2,e1,RM) (ne_str _))]
    simp only [kO]
    exists ev
    rw [show (if (((A'++[t]).length:Nat):Int) - 1 > 0 then (((A'++[t]).length:Nat):Int) - 1 else 0)=(A'.length:Nat) from by
     rw [iO,Dy]
     split <;> omega]
    have ht:=um (ns:=ns) (many:=many) (A:=A') (B:=t::B) (b6:=.val (.int (j:Nat))) (b7:=.val (.int (bx ns (2000+(j:Nat)) 7))) (b8:=b8) (b9:=b9) (b10:=b10) (by simp; omega) hh;unfold st at ht ⊢;rw [show A'++[t]++B=A'++t::B by simp];exact ht
  ·exists aS,By
   rcases B with _ | ⟨t,B'⟩
   ·refine⟨st ns many A [] (.val (.int (j:Nat))) (.val (.int (bx ns (2000+(j:Nat)) 7))) b8 b9 b10,?_,_,_,_,_,_,_,_,rfl,by omega,h⟩
    have e2:¬ (((A.length:Nat):Int)<(A.length:Nat)):=by omega
    rw [uX (uo (b:=false) (t:=.str [110,111,32,98,97,99,107]) (d:=.str [110,111,32,98,97,99,107]) rfl (by rw [Ai rfl]; rfl) (by
     simp only [kO]
     exists aS,e2) (ne_str _))]
    simp only [kO]
    exists ev
    rw [show (if ((A.length:Nat):Int)+1<(A.length:Nat) then ((A.length:Nat):Int)+1 else (A.length:Nat))=(A.length:Nat) from by
     split <;> omega]
    have ht:=um (ns:=ns) (many:=many) (A:=A) (B:=[]) (b6:=.val (.int (j:Nat))) (b7:=.val (.int (bx ns (2000+(j:Nat)) 7))) (b8:=b8) (b9:=b9) (b10:=b10) (by simp; omega) h;unfold st at ht ⊢;simp only [kJ] at ht ⊢;exact ht
   ·have BH:A.length+(B'.length+1)<=j:=by simpa using i4
    have hh:∀t'∈(A++[t])++B',sR t':=fun t' ht=>h t' (by simpa using ht);refine⟨st ns many (A++[t]) B' (.val (.int (j:Nat))) (.val (.int (bx ns (2000+(j:Nat)) 7))) b8 b9 b10,?_,_,_,_,_,_,_,_,rfl,by simp; omega,hh⟩;have e1:=ME A t B';have e2:(((A.length:Nat):Int)<((A++t::B').length:Nat)):=by simp; omega
    rw [uX (uo (b:=false) (t:=.str t.1.1.wd) (d:=.str t.1.1.wd) rfl (by rw [Ai rfl,show ro (t::B')=t.1::ro B' from rfl,IU (by simp; omega)]; rfl) (by
     simp only [kO]
     exists aS,e2,e1,RM) (ne_str _))]
    simp only [kO]
    exists ev
    rw [show (if ((A.length:Nat):Int)+1<((A++t::B').length:Nat) then ((A.length:Nat):Int)+1 else ((A++t::B').length:Nat))=((A++[t]).length:Nat) from by
     simp only [iO,eh,ma]
     split <;> omega]
    have ht:=um (ns:=ns) (many:=many) (A:=A++[t]) (B:=B') (b6:=.val (.int (j:Nat))) (b7:=.val (.int (bx ns (2000+(j:Nat)) 7))) (b8:=b8) (b9:=b9) (b10:=b10) (by simp; omega) hh;unfold st at ht ⊢;rw [Fo,show A++t::B'=A++[t]++B' by simp] at *;exact ht
theorem abH (ns:List Int)(_:ns.length<=63):wq [.lst (ns.map Dt.int)]=.ok (.bl true):=by
 have p0:=mC (ns:=ns) (k:=0) (many:=12) (by decide) (by decide);have q0:=n5 ns 0 (show (0:Int)<12 by decide);have q1:=n6 ns 0 (show (0:Int)<12 by decide);show wq [gh ns]=_;obtain⟨aQ,h1,h2⟩:=IW (g:=aI 6) (b:=CM) (eX 0 18) (Inv ns (1+bx ns 0 12)) [.val (gh ns),.aW [] [],.val (.lst [.aj []]),.val (.lst []),.val (.int 0),.val (.int (1+bx ns 0 12)),.no,.no,.no,.no,.no] ⟨[],[],_,_,_,_,_,rfl,bb 0,fun _ z=>nomatch z⟩ (fun j d ρ hd fB=>by
  obtain⟨A,B,b6,b7,b8,b9,b10,rfl,h2,h3⟩:=fB;unfold eX at hd;simp only [jT,jq] at hd;obtain⟨i,hi,rfl⟩:=hd;have hj:j<18:=by
   have:=(eF.mp hi).1;simpa using this
  rw [Dq (by omega)] at hi;cases hi;obtain⟨aQ,h6,h7⟩:=turn (ns:=ns) (many:=1+bx ns 0 12) (by omega) (by omega) hj h2 h3 b7 b8 b9 b10;refine⟨aQ,?_,h7⟩;rw [show (0:Int)+((j:Nat):Int)=(j:Nat) by omega,Ka,jc,bG];simp only [kO];rw [h6,jc])
 have e0:qW 1 (dJ (aI 2) (dJ (aI 3) (dJ (aI 4) (dJ (aI 5) ku)))) (af (er (af pI aq)) (af (er aq) (af (pC (.int 0)) (af (p2 bR (pC (.int 1)) (aP gS (af (ae 0) (af (pC (.int 0)) (af (pC (.int 12)) aq))))) aq)))) [.val (gh ns),.no,.no,.no,.no,.no,.no,.no,.no,.no,.no]=.ok (.nx [.val (gh ns),.aW [] [],.val (.lst [.aj []]),.val (.lst []),.val (.int 0),.val (.int (1+bx ns 0 12)),.no,.no,.no,.no,.no]):=by
  unfold qW;have:(af (er (af pI aq)) (af (er aq) (af (pC (.int 0)) (af (p2 bR (pC (.int 1)) (aP gS (af (ae 0) (af (pC (.int 0)) (af (pC (.int 12)) aq))))) aq)))) [.val (gh ns),.no,.no,.no,.no,.no,.no,.no,.no,.no,.no]=.ok [.lst [.aj []],.lst [],.int 0,.int (1+bx ns 0 12)]:=by
   exists dU,p0
   rw [cX (by decide)]
   exists ev
   rw [cX (by decide)]
   exists aS,p0
  rw [this];rfl
 unfold wq Lj
 exists aS,e0
 unfold Td
 exists ev
 rw [c9 (by decide)]
 exists aS,h1
 unfold Tc
 exists ev
end wo
end aka
namespace L2
open PySem PySem.Spec PyProof.Rows
abbrev Key:=Sum Int Str
def uU:Key->Value->Bool
 |.inl k,v=>Value.isInt k v
 |.inr x,v=>fo x v
def ab1 (w:World):Key->Int
 |.inl k=>hashInt k
 |.inr x=>hashStr w x
theorem lG:∀{k:Key}{v:Value},uU k v=true->(∃i t,k=Sum.inl i/\v=Value.int i t)∨(∃x t,k=Sum.inr x/\v=qB x t)
 |.inl i,v,h=>by
  obtain⟨t,e⟩:=Value.isInt_shape (k:=i) (v:=v) h;exact .inl ⟨i,t,rfl,e⟩
 |.inr x,v,h=>by
  obtain⟨t,e⟩:=Value.isStrOf_shape (x:=x) (v:=v) h;exact .inr ⟨x,t,rfl,e⟩
theorem ab0 (i:Int)(t:Tok):uU (.inl i) (.int i t)=true:=by simp [uU,Value.isInt]
theorem abZ (x:Str)(t:Tok):uU (.inr x) (.str x t)=true:=by simp [uU,fo]
theorem abY (a b:Int):decide ((Sum.inl a:Key)=Sum.inl b)=(a==b):=by
 by_cases e:a=b
 ·subst e; simp
 ·have h:¬ (Sum.inl a:Key)=Sum.inl b:=fun q=>e (Sum.inl.inj q)
  rw [decide_eq_false h];exact(beq_eq_false_iff_ne.mpr e).symm
theorem abV (a b:Str):decide ((Sum.inr a:Key)=Sum.inr b)=decide (a=b):=by
 by_cases e:a=b
 ·subst e; simp
 ·have h:¬ (Sum.inr a:Key)=Sum.inr b:=fun q=>e (Sum.inr.inj q)
  rw [decide_eq_false h,decide_eq_false e]
theorem abX (a:Int)(b:Str):decide ((Sum.inl a:Key)=Sum.inr b)=false:=decide_eq_false (fun q=>nomatch q)
theorem abW (a:Str)(b:Int):decide ((Sum.inr a:Key)=Sum.inl b)=false:=decide_eq_false (fun q=>nomatch q)
def dz (prog:Program)(w:World):PySem.KeyKind prog w Key where
 is:=uU
 hash:=ab1 w
 inj:=fun v a b ha hb=>by
  rcases lG ha with ⟨i,t,rfl,rfl⟩ | ⟨x,t,rfl,rfl⟩
  ·rcases lG hb with ⟨j,u,rfl,e⟩ | ⟨y,u,rfl,e⟩
   ·injection e with e1 _; rw [e1]
   ·exact nomatch e
  ·rcases lG hb with ⟨j,u,rfl,e⟩ | ⟨y,u,rfl,e⟩
   ·exact nomatch e
   ·injection e with e1 _; rw [e1]
 byValue:=fun k v h=>by
  rcases lG h with ⟨i,t,rfl,rfl⟩ | ⟨x,t,rfl,rfl⟩ <;> rfl
 pyHash:=fun hv h=>by
  rcases lG hv with ⟨i,t,rfl,rfl⟩ | ⟨x,t,rfl,rfl⟩
  ·exact wpAny_pyHash_int h
  ·exact wpAny_pyHash_str h
 eqBool:=fun hu hv h=>by
  rcases lG hu with ⟨i,t,rfl,rfl⟩ | ⟨x,t,rfl,rfl⟩
  ·rcases lG hv with ⟨j,u,rfl,rfl⟩ | ⟨y,u,rfl,rfl⟩
   ·rw [abY] at h; exact wpAny_eqBool_int h
   ·rw [abX] at h; exact SeqAt.EqAt.int_str i t y u _ _ _ _ h
  ·rcases lG hv with ⟨j,u,rfl,rfl⟩ | ⟨y,u,rfl,rfl⟩
   ·rw [abW] at h; exact SeqAt.EqAt.str_int x t j u _ _ _ _ h
   ·rw [abV] at h; exact wpAny_eqBool_str h
 «strs» := fun k x t v h=>by
  rcases lG h with ⟨i,u,rfl,e⟩ | ⟨y,u,rfl,e⟩
  ·exact nomatch e
  ·injection e with e1 _
   subst e1
   cases v <;> rfl
theorem aa6 (prog:Program)(w:World)(i:Int)(t:Tok):(dz prog w).is (.inl i) (.int i t)=true:=ab0 i t
theorem OH (prog:Program)(w:World)(x:Str)(t:Tok):(dz prog w).is (.inr x) (.str x t)=true:=abZ x t
inductive V where
 |aK | bl (b:Bool) | int (i:Int) | str (x:Str) | nh (b:Array UInt8) | B5 (b:UInt64) | ref (a:Addr) | ty (n:String)
 deriving DecidableEq
def RelV:V->Value->Prop
 |.aK,u=>u=gW
 |.bl b,u=>u=Value.bool b
 |.int i,u=>∃t,u=Value.int i t
 |.str x,u=>∃t,u=qB x t
 |.nh b,u=>∃t,u=Value.bytes b t
 |.B5 b,u=>∃t,u=Value.float b t
 |.ref a,u=>u=bO a
 |.ty n,u=>u=o8 n
abbrev Vals:List V->List Value->Prop:=Paired RelV
theorem Vals.length {xs:List V}{us:List Value}(r:Vals xs us):xs.length=us.length:=zt r
theorem Vals.get:∀{xs:List V}{us:List Value}{i:Nat}{x:V},Vals xs us->xs[i]?=some x->∃u,us[i]?=some u/\RelV x u
 |_,_,_,_,.nil,e=>by simp at e
 |_,_,0,_,.cons r _,e=>by simp at e; subst e; exact⟨_,rfl,r⟩
 |_,_,i+1,x,.cons _ t,e=>by
  obtain⟨u,h1,h2⟩:=Vals.get (i:=i) (x:=x) t (by simpa using e);exact⟨u,by simpa using h1,h2⟩
theorem Vals.append:∀{xs ys:List V}{us ws:List Value},Vals xs us->Vals ys ws->Vals (xs++ys) (us++ws)
 |_,_,_,_,.nil,s=>s
 |_,_,_,_,.cons r t,s=>.cons r (Vals.append t s)
theorem Vals.take:∀{xs:List V}{us:List Value} (n:Nat),Vals xs us->Vals (xs.take n) (us.take n)
 |_,_,0,_=>.nil
 |_,_,_+1,.nil=>.nil
 |_,_,n+1,.cons r t=>.cons r (Vals.take n t)
theorem Vals.drop:∀{xs:List V}{us:List Value} (n:Nat),Vals xs us->Vals (xs.drop n) (us.drop n)
 |_,_,0,r=>r
 |_,_,_+1,.nil=>.nil
 |_,_,n+1,.cons _ t=>Vals.drop n t
def fY:Option V->Option Value->Prop
 |some v,some u=>RelV v u
 |none,none=>True
 |_,_=>False
def KV {κ:Type}:List (κ×V)->List (κ×Value)->Prop:=Paired fun(p:κ×V) (q:κ×Value)=>p.1=q.1/\RelV p.2 q.2
def kV:Key->V
 |.inl i=>.int i
 |.inr x=>.str x
inductive HO where
 |lst (xs:List V)
 |tup (xs:List V)
 |dK (kvs:List (Key×V)) | dT (kvs:List (List Key×V))
 |set (S:Int->Bool) (n:Nat)
 |ins (C dx:Addr) (fs:List (Str×V))
 |own (x:Addr)
 |xd (fs:List (Str×V))
 |met (f x:Addr)
 |AB (lo hi:Int)
 |bE (o:Obj) (u:HO)
 |dG (q:Str)
 |ext (φ:Heap->Prop)
abbrev Hp:=Addr->Option HO
def upd (H:Hp)(a:Addr)(o:HO):Hp:=fun b=>if b=a then some o else H b
theorem aX {H:Hp}{a:Addr}{o:HO}:upd H a o a=some o:=by unfold upd; rw [if_pos rfl]
theorem aF {H:Hp}{a b:Addr}{o:HO}(h:b≠a):upd H a o b=H b:=by unfold upd; rw [if_neg h]
theorem Vc {H:Hp}{a:Addr}{o u:HO}:upd (upd H a o) a u=upd H a u:=by
 funext b; unfold upd; split <;> rfl
theorem lE {H:Hp}{a b:Addr}{o u:HO}(h:H a=some o)(h':H b=some u)(d:o≠u):a≠b:=by
 intro e; subst e; rw [h] at h'; exact d (iu h')
theorem cN {H:Hp}{a b:Addr}{o:HO}(h:H a=some o)(h':H b=none):a≠b:=by
 intro e; subst e; rw [h] at h'; cases h'
section
variable (P:Program)(w:World)
def dC (H:Hp)(h:Heap)(a:Addr):HO->Prop
 |.lst xs=>xs.length<=sizeLine/\∃(ao:List Value) (n:Nat),Vals xs ao/\h.get? a=some {cls:=.type "list",data:=.seq ao.toArray n}
 |.tup xs=>xs.length<=sizeLine/\∃ao:List Value,Vals xs ao/\IsTup h a ao.toArray
 |.dK kvs=>kvs.length<=sizeLine/\(a==sysModules)=false/\∃vs,KV kvs vs/\h.DictOf (dz P w) a vs
 |.dT kvs=>kvs.length<=sizeLine/\(a==sysModules)=false/\∃xs:List (List Key×Addr×Value),
   Paired (fun(p:List Key×V) (q:List Key×Addr×Value)=>p.1=q.1/\H q.2.1=some (.tup (p.1.map kV))/\RelV p.2 q.2.2) kvs xs/\
   ∃o es ep,h.get? a=some o/\o.ExactDict/\o.data=.dict es ep/\es.toList=xs.map (entryOfKey (tupleKind (dz P w)))/\(xs.map (·.1)).Nodup
 |.set S n=>h.SetOf (intKind P w) a S n
 |.ins C dx fs=>H dx=some (.own a)/\fs.length<=1000/\dx≠a/\h.get? a=some (oX C dx)/\
   ∃mA,h.Ns1 dx mA/\(∀f,fY (fs.lookup f) (mA f))/\PySem.Within mA (fs.map (·.1))
 |.own _=>∃o,h.get? a=some o
 |.xd fs=>∃mA,h.Ns1 a mA/\∀f,fY (fs.lookup f) (mA f)
 |.AB lo hi=>∃t u v,h.get? a=some {cls:=.type "range",data:=.fields #[.int lo t,.int hi u,.int 1 v]}
 |.bE o u=>h.get? a=some o/\dC H h a u
 |.dG q=>∃ps:Array Value,h.get? a=some {cls:=.none,data:=.fields ps}/\TriplesOk ps.toList/\∀pos cv,codeAmong pos ps.toList=some cv->∃c oc u,cv=.ref c/\H c=some (.bE oc u)/\∃vs t,oc.data=.fields vs/\vs[1]?=some (.str q t)
 |.met f x=>h.get? a=some (Di (.ref f) (.ref x))
 |.ext φ=>φ h/\(∃o,h.get? a=some o)/\∀h1 h2:Heap,φ h1->(∀o,h1.get? a=some o->h2.get? a=some o)->φ h2
def cB (H:Hp)(h:Heap):Prop:=∀a o,H a=some o->dC P w H h a o
end
section
variable {P:Program}{w:World}{H H':Hp}{h h':Heap}{a:Addr}{o:HO}
theorem dC.lt (x:dC P w H h a o):a<h.objs.size:=by
 cases o with
 |lst xs=>obtain⟨_,_,_,_,e⟩:=x; exact a6 e
 |tup xs=>obtain⟨_,_,_,p⟩:=x; exact p.lt
 |dK kvs=>obtain⟨_,_,_,_,o,_,_,e,_⟩:=x; exact a6 e
 |dT kvs=>obtain⟨_,_,_,_,o,_,_,e,_⟩:=x; exact a6 e
 |set S n=>obtain⟨o,_,_,_,e,_⟩:=x; exact a6 e
 |ins C dx fs=>obtain⟨_,_,_,e,_⟩:=x; exact a6 e
 |own y=>obtain⟨_,e⟩:=x; exact a6 e
 |xd fs=>obtain⟨_,⟨_,_,_,e,_⟩,_⟩:=x; exact a6 e
 |AB lo hi=>obtain⟨_,_,_,e⟩:=x; exact a6 e
 |bE ob u=>obtain⟨e,_⟩:=x; exact a6 e
 |dG q=>obtain⟨ps,e,_⟩:=x; exact a6 e
 |met f y=>exact a6 (show h.get? a=some _ from x)
 |ext φ=>obtain⟨_,⟨_,e⟩,_⟩:=x; exact a6 e
theorem Paired.Bf {α β:Type}{F G:α->β->Prop}:∀{xM:List α}{l₂:List β},Paired F xM l₂->(∀a b,F a b->G a b)->Paired G xM l₂
 |_,_,.nil,_=>.nil
 |_,_,.cons r t,f=>.cons (f _ _ r) (Paired.Bf t f)
theorem dC.iU (x:dC P w H h a o)(k:∀b u,(b=a∨H b=some (.own a))->h.get? b=some u->h'.get? b=some u)
  (ho:∀b,H b=some (.own a)->H' b=some (.own a)) (ht:∀b xs,H b=some (.tup xs)->H' b=some (.tup xs)) (hf:∀b ob u,H b=some (.bE ob u)->H' b=some (.bE ob u):=by exact fun _ _ _ q=>q):dC P w H' h' a o:=by
 induction o with
 |lst xs=>obtain⟨z,ao,n,r,e⟩:=x; exact⟨z,ao,n,r,k _ _ (.inl rfl) e⟩
 |tup xs=>obtain⟨z,ao,r,ob,e,c⟩:=x; exact⟨z,ao,r,ob,k _ _ (.inl rfl) e,c⟩
 |dK kvs=>obtain⟨z,y,vs,r,ob,es,ep,e,c⟩:=x; exact⟨z,y,vs,r,ob,es,ep,k _ _ (.inl rfl) e,c⟩
 |dT kvs=>
  obtain⟨z,y,xs,r,ob,es,ep,e,c⟩:=x;exact⟨z,y,xs,Paired.Bf r fun p q z=>⟨z.1,ht _ _ z.2.1,z.2.2⟩,ob,es,ep,k _ _ (.inl rfl) e,c⟩
 |set S n=>obtain⟨ob,es,ep,t,e,c⟩:=x; exact⟨ob,es,ep,t,k _ _ (.inl rfl) e,c⟩
 |ins C dx fs=>
  obtain⟨d,z,ne,e,mA,⟨od,es,ep,e2,c⟩,r⟩:=x;exact⟨ho _ d,z,ne,k _ _ (.inl rfl) e,mA,⟨od,es,ep,k _ _ (.inr d) e2,c⟩,r⟩
 |own y=>obtain⟨ob,e⟩:=x; exact⟨ob,k _ _ (.inl rfl) e⟩
 |xd fs=>obtain⟨mA,⟨od,es,ep,e,c⟩,r⟩:=x; exact⟨mA,⟨od,es,ep,k _ _ (.inl rfl) e,c⟩,r⟩
 |AB lo hi=>obtain⟨t,u,v,e⟩:=x; exact⟨t,u,v,k _ _ (.inl rfl) e⟩
 |bE ob u ih=>obtain⟨e,q⟩:=x; exact⟨k _ _ (.inl rfl) e,ih q⟩
 |dG q=>
  obtain⟨ps,e,t,g⟩:=x;exact⟨ps,k a _ (.inl rfl) e,t,fun pos cv z=>by
   obtain⟨c,oc,u,z1,z2,z3⟩:=g pos cv z;exact⟨c,oc,u,z1,hf _ _ _ z2,z3⟩⟩
 |met f y=>
  have e:h.get? a=some (Di (.ref f) (.ref y)):=x;show h'.get? a=some (Di (.ref f) (.ref y));exact k a _ (.inl rfl) e
 |ext φ=>obtain⟨p,⟨o,e⟩,st⟩:=x; exact⟨st _ _ p fun o q=>k _ _ (.inl rfl) q,⟨o,k _ _ (.inl rfl) e⟩,st⟩
theorem cB.lt (x:cB P w H h)(e:H a=some o):a<h.objs.size:=(x a o e).lt
theorem cB.fresh (x:cB P w H h)(e:h.objs.size<=a):H a=none:=by
 cases q:H a with
 |none=>rfl
 |some u=>exact absurd (cH (x.lt q) e) (fM _)
theorem cB.kept (x:cB P w H h)(k:∀b u,h.get? b=some u->h'.get? b=some u):cB P w H h':=fun a o e=>
 (x a o e).iU (fun b u _ q=>k b u q) (fun _ q=>q) fun _ _ q=>q
theorem cB.laid (x:cB P w H h)(k:∀b u,h.get? b=some u->h'.get? b=some u)(hp:h.objs.size<=a)(new:dC P w (upd H a o) h' a o):cB P w (upd H a o) h':=fun b u e=>by
 have hn:=x.fresh hp
 by_cases hb:b=a
 ·subst hb; rw [aX] at e; cases e; exact new
 ·rw [aF hb] at e
  exact(x b u e).iU (fun c v _ q=>k c v q) (fun c q=>by rw [aF (cN q hn)]; exact q) (fun c xs q=>by rw [aF (cN q hn)]; exact q) fun c _ _ q=>by rw [aF (cN q hn)]; exact q
end
def Rd (H:Hp)(a:Addr)(u:HO):Prop:=H a=some u∨∃o,H a=some (.bE o u)
theorem Rd.ok {P:Program}{w:World}{H:Hp}{h:Heap}{a:Addr}{u:HO}(r:Rd H a u)(x:cB P w H h):dC P w H h a u:=by
 rcases r with r | ⟨o,r⟩
 ·exact x a u r
 ·obtain⟨_,q⟩:=x a _ r
  exact q
def za:Option HO->Prop
 |some (.lst _)=>True
 |some (.dK _)=>True
 |some (.dT _)=>True
 |some (.set _ _)=>True
 |some (.ins _ _ _)=>True
 |some (.ext _)=>True
 |_=>False
section
variable {P:Program}{w:World}{H:Hp}{h h':Heap}{x e:Addr}{o':HO}
theorem cB.write (ok:cB P w H h)(mu:za (H x))(he:e=x∨H e=some (.own x))(k:∀b u,b≠e->h.get? b=some u->h'.get? b=some u)(vf:∃u,h'.get? e=some u)
  (new:dC P w (upd H x o') h' x o'):cB P w (upd H x o') h':=fun b u q=>by
 have N8:∀c y,H c=some (.own y)->c≠x:=fun c y r z=>by subst z; rw [r] at mu; exact mu
 have aaD:∀c xs,H c=some (.tup xs)->c≠x:=fun c xs r z=>by subst z; rw [r] at mu; exact mu
 have aaL:∀c ob v,H c=some (.bE ob v)->c≠x:=fun c ob v r z=>by subst z; rw [r] at mu; exact mu
 by_cases hb:b=x
 ·subst hb; rw [aX] at q; cases q; exact new
 ·rw [aF hb] at q
  by_cases sf:b=e
  ·have q':H b=some (.own x):=by
    rcases he with z | z
    ·exact absurd (sf.trans z) hb
    ·rw [sf]; exact z
   rw [q] at q'; cases q';obtain⟨v,hv⟩:=vf;exact⟨v,by rw [sf]; exact hv⟩
  ·refine(ok b u q).iU (fun c v hc r=>k c v ?_ r) (fun c r=>by rw [aF (N8 c b r)]; exact r) (fun c xs r=>by rw [aF (aaD c xs r)]; exact r) fun c ob v r=>by rw [aF (aaL c ob v r)]; exact r
   rcases hc with rfl | hc
   ·exact sf
   ·rintro rfl
    rcases he with z | z
    ·exact N8 c b hc z
    ·rw [hc] at z; cases z; exact hb rfl
end
structure Un (fs ex:List Addr) (H H':Hp) (h h':Heap):Prop where
 keep:∀b o,h.get? b=some o->H b=none->b∉fs->b∉ex->h'.get? b=some o
 slot:∀b o,h.get? b=some o->H b=none->b∈fs->b∉ex->∃sl,h'.get? b=some {o with slots:=sl}
 free:∀b o,h.get? b=some o->H b=none->b∉ex->H' b=none
 there:∀b o,h.get? b=some o->b∉ex->∃o',h'.get? b=some o'
 eU:∀b xs,H b=some (.tup xs)->H' b=some (.tup xs)
 et:∀b o u,H b=some (.bE o u)->H' b=some (.bE o u)
 d8:∀b q,H b=some (.dG q)->H' b=some (.dG q)
section
variable {fs oE ex ex':List Addr}{H H1 H2:Hp}{h h1 h2 h':Heap}{a x e:Addr}{o:HO}
theorem Un.any (u:Un fs ex H H1 h h1){b:Addr}{ob:Obj}(q:h.get? b=some ob)(n:H b=none)(hx:b∉ex):∃sl,h1.get? b=some {ob with slots:=sl}:=by
 by_cases hb:b∈fs
 ·exact u.slot b ob q n hb hx
 ·exact⟨ob.slots,u.keep b ob q n hb hx⟩
theorem Un.kept (k:∀b u,h.get? b=some u->h'.get? b=some u):Un fs ex H H h h':=
 ⟨fun b ob q _ _ _=>k b ob q,fun b ob q _ _ _=>⟨ob.slots,k b ob q⟩,fun _ _ _ n _=>n,fun b ob q _=>⟨ob,k b ob q⟩,fun _ _ q=>q,fun _ _ _ q=>q,fun _ _ q=>q⟩
theorem Un.refl:Un fs ex H H h h:=Un.kept fun _ _ q=>q
theorem Un.laid (k:∀b u,h.get? b=some u->h'.get? b=some u)(hp:h.objs.size<=a)(hn:H a=none):Un fs ex H (upd H a o) h h' where
 keep:=fun b u q _ _ _=>k b u q
 slot:=fun b u q _ _ _=>⟨u.slots,k b u q⟩
 free:=fun b u q n _=>by rw [aF (bQ (cH (a6 q) hp))]; exact n
 there:=fun b u q _=>⟨u,k b u q⟩
 eU:=fun b xs q=>by rw [aF (cN q hn)]; exact q
 et:=fun b u xs q=>by rw [aF (cN q hn)]; exact q
 d8:=fun b n q=>by rw [aF (cN q hn)]; exact q
theorem Un.write (mu:za (H x))(he:e=x∨H e=some (.own x))(k:∀b u,b≠e->h.get? b=some u->h'.get? b=some u)(vf:∃u,h'.get? e=some u):Un fs ex H (upd H x o) h h':=by
 have hx:∀b,H b=none->b≠x:=fun b n z=>by subst z; rw [n] at mu; exact mu
 have hb:∀b,H b=none->b≠e:=fun b n z=>by
  subst z;rcases he with r | r
  ·exact hx b n r
  ·rw [n] at r; cases r
 have hm:∀b u,H b=some u->¬ za (some u)->b≠x:=fun b u q nm z=>by subst z; rw [q] at mu; exact nm mu
 refine⟨fun b u q n _ _=>k b u (hb b n) q,fun b u q n _ _=>⟨u.slots,k b u (hb b n) q⟩,fun b u q n _=>by rw [aF (hx b n)]; exact n,fun b u q _=>?_,
  fun b xs q=>by rw [aF (hm b _ q fun z=>z)]; exact q,fun b u xs q=>by rw [aF (hm b _ q fun z=>z)]; exact q,fun b n q=>by rw [aF (hm b _ q fun z=>z)]; exact q⟩
 by_cases sf:b=e
 ·subst sf; exact vf
 ·exact⟨u,k b u sf q⟩
end
def Ah (h:Heap)(H:Hp):List Addr:=(fm h.objs.size).filter fun a=>(H a).isSome
def mS (h:Heap)(H:Hp):Heap:=PySem.W.hideAll h (Ah h H)
theorem adl (h:Heap)(H:Hp):(mS h H).objs.size=h.objs.size:=PySem.W.hideAll_size _ _
theorem adm {h:Heap}{H:Hp}{b:Addr}{o:Obj}(e:h.get? b=some o)(n:H b=none):(mS h H).get? b=some o:=
 PySem.W.hideAll_get _ e fun hm=>by
  have q:(H b).isSome=true:=(jR.mp hm).2;rw [n] at q; simp at q
theorem aam {h:Heap}{H:Hp}{b:Addr}{o:Obj}(e:(mS h H).get? b=some o):h.get? b=some o/\H b=none:=by
 have e':h.get? b=some o:=PySem.W.of_hideAll (Ah h H) e;refine⟨e',?_⟩
 cases q:H b with
 |none=>rfl
 |some x=>
  have hm:b∈Ah h H:=jR.mpr ⟨List.mem_range.mpr (a6 e'),by simp [q]⟩;have z:(mS h H).get? b=none:=PySem.W.hideAll_none (Ah h H) hm;rw [z] at e; cases e
structure Mod (K:ah) (mg:Str->Option Value) (base:Heap):Prop where
 lF:K.In base
 glob:base.Ns mainGlobals mg
 blt:∃mb,base.Ns builtinsNs mb/\∀x:Str,x≠"__name__" ->mb x=bootBuiltins x
 nolimit:base.NoLimit
structure Cx where
 prog:Program
 w:World
 K:ah
 mg:Str->Option Value
 base:Heap
 A:Around
 N:List Str
 aJ:Shared
 a8:Hp
 env:Env
 outer:List Env
 stack:List Env
 ex:List Addr
 fn:Str->Bool
 calm:Bool
 pn:List (Addr×Obj)
 xe:Value->Shared->Prop
def aH (l:List Env):List Addr:=l.filterMap (·.frame)
abbrev Cx.fs (X:Cx):List Addr:=aH X.outer
def wj (sc:Scope)(x:Str):Prop:=sc.names.lookup x=some .local∨sc.names.lookup x=some .cell∨sc.names.lookup x=some .free
def Loc (sc:Scope)(x:Str):Prop:=sc.names.lookup x=some .local∨sc.names.lookup x=some .cell
def Look (env:Env)(h:Heap)(m:Str->Option Value)(x:Str)(u:Value):Prop:=
 (env.kindOf x=some .local/\m x=some u)∨((env.kindOf x=some .cell∨env.kindOf x=some .free)/\∃c,env.cells.lookup x=some c/\h.IsCell c (some u))
structure Cx.Ok (X:Cx):Prop where
 mod:Mod X.K X.mg X.base
 kind:X.env.scope.kind=.function
 glob:X.env.globals=mainGlobals
 blt:X.env.builtins=builtinsNs
 above:X.aJ.heap.objs.size<=X.env.locals
 inj:∀x y c,X.env.cells.lookup x=some c->X.env.cells.lookup y=some c->x=y
 has:∀x,(X.env.kindOf x=some .cell∨X.env.kindOf x=some .free)->∃c,X.env.cells.lookup x=some c
 qm:∀x c,X.fn x=true->X.env.cells.lookup x=some c->X.aJ.heap.objs.size<=c
 hd:X.calm=true->X.A.handled=none
 frames:X.A.frames=some X.stack
 qQ:X.stack=X.outer∨(X.stack=X.env::X.outer/\X.env.frame=some X.env.locals)
 yw:∀b∈X.ex,b≠X.env.locals/\∀x c,X.env.cells.lookup x=some c->c≠b
 bs:∀b o,X.base.get? b=some o->X.aJ.heap.get? b=some o/\X.a8 b=none
 jf:X.base.objs.size<=X.aJ.heap.objs.size
 bY:∀b o,X.base.get? b=some o->b∉X.ex
 sC:∀b∈X.ex,b∉X.fs
 eL:X.aJ.heap.FunFrames X.base X.outer
 gQ:∀b∈X.fs,X.a8 b=none
structure Inv (X:Cx) (pins:List (Addr×Obj)) (σ:List (Option V)) (H:Hp) (s:Shared):Prop where
 ok:X.Ok
 os:s.os=X.aJ.os
 bare:AllBare s.gens
 base:Un X.fs X.ex X.a8 H X.aJ.heap s.heap
 loc:∃m,s.heap.Ns X.env.locals m/\∀(i:Nat) (x:Str) (v:V),X.N[i]?=some x->σ[i]?=some (some v)->wj X.env.scope x->∃u,RelV v u/\Look X.env s.heap m x u
 cell:∀x c,X.env.cells.lookup x=some c->∃v,s.heap.IsCell c v
 free:H X.env.locals=none
 fi:∀x c,X.env.cells.lookup x=some c->H c=none
 pin:∀p∈X.pn++pins,s.heap.get? p.1=some p.2/\H p.1=none/\p.1≠X.env.locals/\p.1∉X.fs/\∀v,p.2.data≠.cell v
 au:cB X.prog X.w H s.heap
 len:σ.length=X.N.length
 tk:0<s.toks
section
variable {X:Cx}{pins:List (Addr×Obj)}{σ:List (Option V)}{H H':Hp}{s:Shared}{h':Heap}
theorem Cx.Ok.aaG (ok:X.Ok){b:Addr}{o:Obj}(e:X.base.get? b=some o):b∉X.fs:=fun hb=>by
 have:=(ok.eL.mem hb).1;rw [e] at this; cases this
theorem Inv.bs (I:Inv X pins σ H s):∀b o,X.base.get? b=some o->s.heap.get? b=some o/\H b=none:=fun b o e=>
 ⟨I.base.keep b o (I.ok.bs b o e).1 (I.ok.bs b o e).2 (I.ok.aaG e) (I.ok.bY b o e),I.base.free b o (I.ok.bs b o e).1 (I.ok.bs b o e).2 (I.ok.bY b o e)⟩
theorem Inv.bk (I:Inv X pins σ H s):∀b o,X.base.get? b=some o->s.heap.get? b=some o:=fun b o e=>(I.bs b o e).1
theorem Inv.mod (I:Inv X pins σ H s):Mod X.K X.mg X.base:=I.ok.mod
theorem Inv.e8 (I:Inv X pins σ H s):X.K.In s.heap:=I.ok.mod.lF.keeps I.bk
theorem Inv.lt (I:Inv X pins σ H s):X.env.locals<s.heap.objs.size:=let ⟨_,hn,_⟩:=I.loc; hn.lt
theorem Inv.sz (I:Inv X pins σ H s):X.aJ.heap.objs.size<=s.heap.objs.size:=cK I.ok.above (tm I.lt)
theorem Inv.Ob (I:Inv X pins σ H s){a:Addr}(h:s.heap.objs.size<=a):a∉X.fs:=fun hb=>by
 obtain⟨_,o,ho,_⟩:=I.ok.eL.mem hb;exact absurd (cH (a6 ho) (cK I.sz h)) (fM _)
theorem Inv.lW (I:Inv X pins σ H s):∀x c,X.env.cells.lookup x=some c->c≠X.env.locals:=fun x c e z=>by
 obtain⟨v,o,ho,hd⟩:=I.cell x c e;obtain⟨m,⟨o',es,ep,iF,qa,_⟩,_⟩:=I.loc;rw [z,iF] at ho; cases ho; rw [qa] at hd; cases hd
theorem Inv.eL (I:Inv X pins σ H s):s.heap.FunFrames X.base X.outer:=by
 have all:∀(l:List Env),(∀b∈aH l,b∈X.fs)->X.aJ.heap.FunFrames X.base l->s.heap.FunFrames X.base l:=by
  intro l
  induction l with
  |nil=>intro _ _; trivial
  |cons env r ih=>
   intro hs hl;obtain⟨hk,⟨L,o,hf,hn,ho,hd⟩,hr⟩:=hl;have hL:L∈X.fs:=hs L (by unfold aH; rw [gf,hf]; exact bN);obtain⟨sl,e⟩:=I.base.slot L o ho (I.ok.gQ L hL) hL fun z=>I.ok.sC L z hL;exact⟨hk,⟨L,_,hf,hn,e,hd⟩,ih (fun b hb=>hs b (by unfold aH; rw [gf,hf]; exact cG _ hb)) hr⟩
 exact all X.outer (fun _ hb=>hb) I.ok.eL
theorem Inv.stack (I:Inv X pins σ H s):s.heap.FunFrames X.base X.stack:=by
 rcases I.ok.qQ with e | ⟨e,hf⟩
 ·rw [e]; exact I.eL
 ·rw [e]
  obtain⟨m,hn,_⟩:=I.loc;refine .cons (by rw [I.ok.kind]; decide) hf hn ?_ I.eL;exact Heap.get?_none_of_le (cK I.ok.jf I.ok.above)
theorem Inv.j5 (I:Inv X pins σ H s):∀b∈aH X.stack,b∈X.env.locals::X.fs:=fun b hb=>by
 rcases I.ok.qQ with e | ⟨e,hf⟩
 ·rw [e] at hb; exact cG _ hb
 ·rw [e] at hb
  unfold aH at hb;rw [gf,hf] at hb;exact hb
theorem Inv.xg (I:Inv X pins σ H s):∀b∈aH X.stack,H b=none:=fun b hb=>by
 rcases bf.mp (I.j5 b hb) with e | hb
 ·rw [e]; exact I.free
 ·obtain⟨_,o,ho,_⟩:=I.ok.eL.mem hb
  exact I.base.free b o ho (I.ok.gQ b hb) fun z=>I.ok.sC b z hb
theorem Inv.step {g':Array GenState}{t':Nat}{d':Drawn}{ch:List Addr}(I:Inv X pins σ H s)
  (mX:∀b∈ch,(b∈X.ex∨X.aJ.heap.objs.size<=b)/\b≠X.env.locals/\(∀x c,X.env.cells.lookup x=some c->c≠b)/\∀p∈X.pn++pins,p.1≠b)
  (keep:∀b o,b≠X.env.locals->b∉X.fs->b∉ch->s.heap.get? b=some o->H b=none->h'.get? b=some o)
  (slot:∀b o,b≠X.env.locals->b∈X.fs->b∉ch->s.heap.get? b=some o->H b=none->∃sl,h'.get? b=some {o with slots:=sl}) (free:∀b o,b∉ch->s.heap.get? b=some o->H b=none->H' b=none)
  (there:∀b o,b∉ch->s.heap.get? b=some o->∃o',h'.get? b=some o')
  (eU:∀b xs,H b=some (.tup xs)->H' b=some (.tup xs)) (et:∀b o u,H b=some (.bE o u)->H' b=some (.bE o u)) (d8:∀b q,H b=some (.dG q)->H' b=some (.dG q))
  (ns:∀m,s.heap.Ns X.env.locals m->h'.Ns X.env.locals m) (au:cB X.prog X.w H' h') (hg:AllBare g') (ht:0<t':=by first | assumption | exact Inv.tk (by assumption)) :
  Inv X pins σ H' {s with heap:=h',gens:=g',drawn:=d',toks:=t'}:=by
 have Ow:∀b o,X.aJ.heap.get? b=some o->b≠X.env.locals:=fun b o e=>bQ (cH (a6 e) I.ok.above);have rn:∀b o,X.aJ.heap.get? b=some o->b∉X.ex->b∉ch:=fun b o e hx hb=>by
  rcases(mX b hb).1 with z | z
  ·exact hx z
  ·exact absurd (cH (a6 e) z) (fM _)
 have cellK:∀x c,X.env.cells.lookup x=some c->∀v,s.heap.IsCell c v->h'.IsCell c v:=fun x c e v h_=>by
  obtain⟨o,ho,hd⟩:=h_;have xI:c∉ch:=fun z=>(mX c z).2.2.1 x c e rfl
  by_cases hc:c∈X.fs
  ·obtain⟨sl,q⟩:=slot c o (I.lW x c e) hc xI ho (I.fi x c e)
   exact⟨_,q,hd⟩
  ·exact⟨o,keep c o (I.lW x c e) hc xI ho (I.fi x c e),hd⟩
 refine⟨I.ok,I.os,hg,⟨fun b o e n hb hx=>?_,fun b o e n hb hx=>?_,fun b o e n hx=>?_,fun b o e hx=>?_,fun b xs e=>eU b xs (I.base.eU b xs e),fun b o xs e=>et b o xs (I.base.et b o xs e),fun b ps e=>?_⟩,?_,fun x c e=>?_,?_,fun x c e=>?_,fun p hp=>?_,au,I.len,ht⟩
 ·exact keep b o (Ow b o e) hb (rn b o e hx) (I.base.keep b o e n hb hx) (I.base.free b o e n hx)
 ·obtain⟨sl,e1⟩:=I.base.slot b o e n hb hx
  obtain⟨el,e2⟩:=slot b _ (Ow b o e) hb (rn b o e hx) e1 (I.base.free b o e n hx);exact⟨el,e2⟩
 ·obtain⟨o',e1⟩:=I.base.there b o e hx
  exact free b o' (rn b o e hx) e1 (I.base.free b o e n hx)
 ·obtain⟨o',e1⟩:=I.base.there b o e hx
  exact there b o' (rn b o e hx) e1
 ·exact d8 b ps (I.base.d8 b ps e)
 ·obtain⟨m,hn,hl⟩:=I.loc
  refine⟨m,ns m hn,fun i x v e1 e2 e3=>?_⟩;obtain⟨u,r,l⟩:=hl i x v e1 e2 e3;refine⟨u,r,?_⟩;rcases l with l | ⟨k,c,e,z⟩
  ·exact .inl l
  ·exact .inr ⟨k,c,e,cellK x c e _ z⟩
 ·obtain⟨v,z⟩:=I.cell x c e
  exact⟨v,cellK x c e v z⟩
 ·obtain⟨m,⟨o,_,_,ho,_⟩,_⟩:=I.loc
  exact free _ o (fun z=>(mX _ z).2.1 rfl) ho I.free
 ·obtain⟨v,o,ho,hd⟩:=I.cell x c e
  exact free c o (fun z=>(mX c z).2.2.1 x c e rfl) ho (I.fi x c e)
 ·obtain⟨e,n,ne,nf,d⟩:=I.pin p hp
  have xI:p.1∉ch:=fun z=>(mX p.1 z).2.2.2 p hp rfl;exact⟨keep p.1 p.2 ne nf xI e n,free p.1 p.2 xI e n,ne,nf,d⟩
theorem Inv.un {t':Nat}(I:Inv X pins σ H s)(u:Un X.fs [] H H' s.heap h')(au:cB X.prog X.w H' h')(ht:0<t':=by first | assumption | exact Inv.tk (by assumption)):Inv X pins σ H' {s with heap:=h',toks:=t'}:=by
 obtain⟨m,⟨o,es,ep,ho,r⟩,_⟩:=id I.loc;obtain⟨sl,hL⟩:=u.any ho I.free (by simp);exact I.step (g':=s.gens) (d':=s.drawn) (ch:=[]) (fun _ z=>nomatch z) (fun b o _ hb _ e n=>u.keep b o e n hb (by simp)) (fun b o _ hb _ e n=>u.slot b o e n hb (by simp)) (fun b o _ e n=>u.free b o e n (by simp)) (fun b o _ e=>u.there b o e (by simp)) u.eU u.et u.d8 (fun m' hm=>by
  obtain⟨o',Jl,Cd,iF,r'⟩:=hm;rw [ho] at iF; cases iF;exact⟨_,Jl,Cd,hL,r'⟩) au I.bare
theorem Inv.call {g':Array GenState}{t':Nat}{d':Drawn}{ch:List Addr}(I:Inv X pins σ H s)(u:Un (aH X.stack) ch H H' s.heap h')(au:cB X.prog X.w H' h')(hg:AllBare g')
  (mX:∀b∈ch,(b∈X.ex∨X.aJ.heap.objs.size<=b)/\b≠X.env.locals/\(∀x c,X.env.cells.lookup x=some c->c≠b)/\∀p∈X.pn++pins,p.1≠b) (ht:0<t':=by first | assumption | exact Inv.tk (by assumption)) :
  Inv X pins σ H' {s with heap:=h',gens:=g',drawn:=d',toks:=t'}:=by
 obtain⟨m,⟨o,es,ep,ho,r⟩,_⟩:=id I.loc;obtain⟨sl,hL⟩:=u.any ho I.free fun z=>(mX _ z).2.1 rfl;exact I.step (ch:=ch) mX (fun b o hL hb hc e n=>u.keep b o e n (fun z=>(bf.mp (I.j5 b z)).elim hL hb) hc) (fun b o _ _ hc e n=>u.any e n hc) (fun b o hc e n=>u.free b o e n hc) (fun b o hc e=>u.there b o e hc) u.eU u.et u.d8 (fun m' hm=>by
  obtain⟨o',Jl,Cd,iF,r'⟩:=hm;rw [ho] at iF; cases iF;exact⟨_,Jl,Cd,hL,r'⟩) au hg
theorem Inv.turned {t':Nat}{it:Addr}(I:Inv X pins σ H s)(k:∀b o,b≠it->s.heap.get? b=some o->h'.get? b=some o)(hn:H it=none)(hL:it≠X.env.locals)
  (h1:it∈X.ex∨X.aJ.heap.objs.size<=it) (h2:∀x c,X.env.cells.lookup x=some c->c≠it) (h3:∀p∈X.pn++pins,p.1≠it) (ht:0<t':=by first | assumption | exact Inv.tk (by assumption)):Inv X pins σ H {s with heap:=h',toks:=t'}:=by
 have pL:∀b u,H b=some u->b≠it:=fun b u e z=>by rw [z,hn] at e; cases e
 refine I.step (g':=s.gens) (d':=s.drawn) (ch:=[it]) (fun b hb=>?_) (fun b o _ _ hc e _=>k b o (fun z=>hc (by simp [z])) e) (fun b o _ _ hc e _=>⟨o.slots,k b o (fun z=>hc (by simp [z])) e⟩) (fun _ _ _ _ n=>n)
  (fun b o hc e=>⟨o,k b o (fun z=>hc (by simp [z])) e⟩) (fun _ _ e=>e) (fun _ _ _ e=>e) (fun b q e=>e) (fun m hm=>?_) (fun b u e=>?_) I.bare
 ·have e:b=it:=by simpa using hb
  subst e;exact⟨h1,hL,h2,h3⟩
 ·obtain⟨o,es,ep,ho,r⟩:=hm
  exact⟨o,es,ep,k _ o (cb hL) ho,r⟩
 ·refine(I.au b u e).iU (fun c v hc q=>k c v ?_ q) (fun _ q=>q) fun _ _ q=>q
  rcases hc with z | z
  ·rw [z]; exact pL b u e
  ·exact pL c _ z
theorem Inv.tok (I:Inv X pins σ H s)(t:Nat)(ht:0<t:=by first | assumption | omega):Inv X pins σ H {s with toks:=t}:=I.un (h':=s.heap) (t':=t) Un.refl I.au
theorem Inv.kept {t':Nat}(I:Inv X pins σ H s)(k:∀b u,s.heap.get? b=some u->h'.get? b=some u)(ht:0<t':=by first | assumption | exact Inv.tk (by assumption)):Inv X pins σ H {s with heap:=h',toks:=t'}:=I.un (Un.kept k) (I.au.kept k)
theorem Inv.laid {a:Addr}{o:HO}{t':Nat}(I:Inv X pins σ H s)(k:∀b u,s.heap.get? b=some u->h'.get? b=some u)(hp:s.heap.objs.size<=a)(new:dC X.prog X.w (upd H a o) h' a o)(ht:0<t':=by first | assumption | exact Inv.tk (by assumption)) :
  Inv X pins σ (upd H a o) {s with heap:=h',toks:=t'}:=I.un (Un.laid k hp (I.au.fresh hp)) (I.au.laid k hp new)
theorem Inv.write {x e:Addr}{o:HO}{t':Nat}(I:Inv X pins σ H s)(mu:za (H x))(he:e=x∨H e=some (.own x))(k:∀b u,b≠e->s.heap.get? b=some u->h'.get? b=some u)(vf:∃u,h'.get? e=some u)
  (new:dC X.prog X.w (upd H x o) h' x o) (ht:0<t':=by first | assumption | exact Inv.tk (by assumption)):Inv X pins σ (upd H x o) {s with heap:=h',toks:=t'}:=I.un (Un.write mu he k vf) (I.au.write mu he k vf new)
theorem Inv.Nv {gF:List (Addr×Obj)}(I:Inv X pins σ H s)(h:∀p∈gF,s.heap.get? p.1=some p.2/\H p.1=none/\p.1≠X.env.locals/\p.1∉X.fs/\∀v,p.2.data≠.cell v):Inv X gF σ H s:=
 ⟨I.ok,I.os,I.bare,I.base,I.loc,I.cell,I.free,I.fi,fun p hp=>(eD.mp hp).elim (fun z=>I.pin p (ej _ z)) (h p),I.au,I.len,I.tk⟩
theorem Ge {N:List Str}(hN:N.Nodup){i j:Nat}{x:Str}(a:N[i]?=some x)(b:N[j]?=some x):i=j:=by
 obtain⟨h1,e1⟩:=eF.mp a;obtain⟨h2,e2⟩:=eF.mp b;exact(List.getElem_inj hN).mp (e1.trans e2.symm)
theorem MF {M:Model}{A:Around}{E:Value->Shared->Prop}{i:Nat}{x:Str}{v:V}{u:Value}{Q:Unit->Shared->Prop}(I:Inv X pins σ H s)(hN:X.N.Nodup)(hi:X.N[i]?=some x)(hx:Loc X.env.scope x)(r:RelV v u)
  (h:∀s',Inv X pins (σ.set i (some v)) H s'->(∃a,kG a s.heap s'.heap/\(a=X.env.locals∨X.env.cells.lookup x=some a))->Q () s') (hf:X.fn x=true∨X.env.scope.names.lookup x=some .local:=by first | exact .inl rfl | exact .inr rfl | assumption):wpAny M A (storeName X.env x u) Q E s:=by
 obtain⟨m,hn,hl⟩:=id I.loc;have mW:(X.env.scope.kind == .class || (X.env.scope.kind == .module&&X.env.locals != X.env.globals))=false:=by rw [I.ok.kind]; rfl
 have BJ:i<σ.length:=by rw [I.len]; exact(eF.mp hi).1
 have lW:=I.lW;have tracked:∀{a:Addr} {h':Heap},(∃o,s.heap.get? a=some o/\H a=none)->kG a s.heap h'->cB X.prog X.w H h':=fun {a h'} ha hs b ob e=>by
  obtain⟨_,_,rW⟩:=ha;refine(I.au b ob e).iU (fun c w' hc q=>(hs.2 c ?_).trans q) (fun _ q=>q) fun _ _ q=>q;rintro rfl;rcases hc with rfl | hc
  ·rw [rW] at e; cases e
  ·rw [rW] at hc; cases hc
 rcases hx with hk | hk
 ·refine wpAny_storeName_local hk hn (fun h' oq hs=>?_) mW
  obtain⟨oL,_,_,BE,_⟩:=id hn;refine h {s with heap:=h',toks:=s.toks+1} ⟨I.ok,I.os,I.bare,⟨fun b o e n hb hx=>?_,fun b o e n hb hx=>?_,I.base.free,fun b o e hx=>?_,I.base.eU,I.base.et,I.base.d8⟩,⟨_,oq,fun j y v' e1 e2 e3=>?_⟩,fun y c e=>?_,I.free,I.fi,fun p hp=>?_,tracked ⟨oL,BE,I.free⟩ hs,by simpa using I.len,Nat.succ_pos _⟩ ⟨_,hs,.inl rfl⟩
  ·exact(hs.2 b (bQ (cH (a6 e) I.ok.above))).trans (I.base.keep b o e n hb hx)
  ·obtain⟨sl,e1⟩:=I.base.slot b o e n hb hx
   exact⟨sl,(hs.2 b (bQ (cH (a6 e) I.ok.above))).trans e1⟩
  ·obtain⟨o',e1⟩:=I.base.there b o e hx
   exact⟨o',(hs.2 b (bQ (cH (a6 e) I.ok.above))).trans e1⟩
  ·by_cases hj:j=i
   ·subst hj
    rw [hi] at e1; cases e1;rw [qz BJ] at e2;cases e2;exact⟨u,r,.inl ⟨hk,by simp⟩⟩
   ·rw [jW (cb hj)] at e2
    obtain⟨u',r',q⟩:=hl j y v' e1 e2 e3;refine⟨u',r',?_⟩;rcases q with ⟨k,e⟩ | ⟨k,c,e,z⟩
    ·refine .inl ⟨k,?_⟩
     have:y≠x:=fun e=>hj (Ge hN e1 (e ▸ hi));simp [this,e]
    ·exact .inr ⟨k,c,e,z.sameBut hs (lW y c e)⟩
  ·obtain⟨w',z⟩:=I.cell y c e
   exact⟨w',z.sameBut hs (lW y c e)⟩
  ·obtain⟨e,n,ne,nf,d⟩:=I.pin p hp
   exact⟨(hs.2 p.1 ne).trans e,n,ne,nf,d⟩
 ·have HR:X.fn x=true:=by
   rcases hf with z | z
   ·exact z
   ·rw [z] at hk; cases hk
  obtain⟨c,hc⟩:=I.ok.has x (.inl hk);obtain⟨w',z⟩:=I.cell x c hc;refine wpAny_storeName_cell I.ok.kind hk hc z (fun h' fT hs=>?_);obtain⟨oc,yb,acY⟩:=id z;refine h {s with heap:=h'} ⟨I.ok,I.os,I.bare,⟨fun b o e n hb hx=>?_,fun b o e n hb hx=>?_,I.base.free,fun b o e hx=>?_,I.base.eU,I.base.et,I.base.d8⟩,⟨m,hn.sameBut hs (cb (lW x c hc)),fun j y v' e1 e2 e3=>?_⟩,fun y c' e=>?_,I.free,I.fi,fun p hp=>?_,tracked ⟨oc,yb,I.fi x c hc⟩ hs,by simpa using I.len,I.tk⟩ ⟨c,hs,.inr hc⟩
  ·exact(hs.2 b (bQ (cH (a6 e) (I.ok.qm x c HR hc)))).trans (I.base.keep b o e n hb hx)
  ·obtain⟨sl,e1⟩:=I.base.slot b o e n hb hx
   exact⟨sl,(hs.2 b (bQ (cH (a6 e) (I.ok.qm x c HR hc)))).trans e1⟩
  ·obtain⟨o',e1⟩:=I.base.there b o e hx
   exact⟨o',(hs.2 b (bQ (cH (a6 e) (I.ok.qm x c HR hc)))).trans e1⟩
  ·by_cases hj:j=i
   ·subst hj
    rw [hi] at e1; cases e1;rw [qz BJ] at e2;cases e2;exact⟨u,r,.inr ⟨.inl hk,c,hc,fT⟩⟩
   ·rw [jW (cb hj)] at e2
    obtain⟨u',r',q⟩:=hl j y v' e1 e2 e3;refine⟨u',r',?_⟩;rcases q with q | ⟨k,c',e,z'⟩
    ·exact .inl q
    ·refine .inr ⟨k,c',e,z'.sameBut hs ?_⟩
     rintro rfl;exact hj (Ge hN e1 (I.ok.inj _ _ _ e hc ▸ hi))
  ·by_cases mY:c'=c
   ·subst mY; exact⟨_,fT⟩
   ·obtain⟨w2,z2⟩:=I.cell y c' e
    exact⟨w2,z2.sameBut hs mY⟩
  ·obtain⟨e,n,ne,nf,d⟩:=I.pin p hp
   refine⟨(hs.2 p.1 ?_).trans e,n,ne,nf,d⟩;intro q;rw [q,yb] at e;have q':oc=p.2:=iu e;exact d w' (by rw [← q']; exact acY)
theorem xf {M:Model}{A:Around}{E:Value->Shared->Prop}{i:Nat}{x:Str}{v:V}{u:Value}{Q:Unit->Shared->Prop}(I:Inv X pins σ H s)(hN:X.N.Nodup)(hi:X.N[i]?=some x)(hx:Loc X.env.scope x)(r:RelV v u)
  (h:∀s',Inv X pins (σ.set i (some v)) H s'->Q () s') (hf:X.fn x=true∨X.env.scope.names.lookup x=some .local:=by first | exact .inl rfl | exact .inr rfl | assumption):wpAny M A (storeName X.env x u) Q E s:=
 MF I hN hi hx r (fun s' I' _=>h s' I') hf
theorem Inv.agu {s':Shared}{ch:List Addr}(I:Inv X pins σ H s)(ho:s'.os=s.os)(u:Un (aH X.stack) ch H H' s.heap s'.heap)(au:cB X.prog X.w H' s'.heap)(hg:AllBare s'.gens)
  (mX:∀b∈ch,(b∈X.ex∨X.aJ.heap.objs.size<=b)/\b≠X.env.locals/\(∀x c,X.env.cells.lookup x=some c->c≠b)/\∀p∈X.pn++pins,p.1≠b) (ht:0<s'.toks:=by first | assumption | exact Inv.tk (by assumption)):Inv X pins σ H' s':=by
 obtain⟨h',g',d',t',o'⟩:=s';have e:o'=s.os:=ho;subst e;exact I.call (g':=g') (t':=t') (d':=d') u au hg mX
end
abbrev XK:=Value->Option Addr->Hp->Prop
abbrev St:=List (Option V)
abbrev VK:=V->Hp->Prop
abbrev TE:=St->Hp->VK->Prop
abbrev TT:=St->Hp->(Bool->Hp->Prop)->Prop
abbrev TA:=St->Hp->(List V->Hp->Prop)->Prop
structure Ends where
 nx:St->Hp->Prop
 rt:VK
 bk:St->Hp->Prop:=fun _ _=>False
 ct:St->Hp->Prop:=fun _ _=>False
abbrev TS:=Ends->St->Hp->Prop
def Lz {α:Type}(P:α->Shared->Prop)(a:α)(s':Shared):Prop:=0<s'.toks->P a s'
inductive TY (X:Cx) (pins:List (Addr×Obj)) (σ:St) (Q:VK) (u:Value) (s':Shared):Prop
 |mk (v:V) (H':Hp) (I:Inv X pins σ H' s') (r:RelV v u) (q:Q v H'):TY X pins σ Q u s'
abbrev EP (X:Cx)(pins:List (Addr×Obj))(σ:St)(Q:VK):Value->Shared->Prop:=Lz (TY X pins σ Q)
inductive S9 (X:Cx) (pins:List (Addr×Obj)) (σ:St) (Q:Bool->Hp->Prop) (b:Bool) (s':Shared):Prop
 |mk (H':Hp) (I:Inv X pins σ H' s') (q:Q b H'):S9 X pins σ Q b s'
abbrev TP (X:Cx)(pins:List (Addr×Obj))(σ:St)(Q:Bool->Hp->Prop):Bool->Shared->Prop:=Lz (S9 X pins σ Q)
inductive T9 (X:Cx) (pins:List (Addr×Obj)) (σ:St) (Q:List V->Hp->Prop) (us:List Value) (s':Shared):Prop
 |mk (vs:List V) (H':Hp) (I:Inv X pins σ H' s') (r:Vals vs us) (q:Q vs H'):T9 X pins σ Q us s'
abbrev AP (X:Cx)(pins:List (Addr×Obj))(σ:St)(Q:List V->Hp->Prop):List Value->Shared->Prop:=Lz (T9 X pins σ Q)
def SPI (X:Cx)(pins:List (Addr×Obj))(D:Ends)(f:Flow)(s':Shared):Prop:=
 match f with
 |.next=>∃aL H',Inv X pins aL H' s'/\D.nx aL H'
 |.brk=>∃aL H',Inv X pins aL H' s'/\D.bk aL H'
 |.cont=>∃aL H',Inv X pins aL H' s'/\D.ct aL H'
 |.ret u=>∃v aL H',Inv X pins aL H' s'/\RelV v u/\D.rt v H'
abbrev SP (X:Cx)(pins:List (Addr×Obj))(D:Ends):Flow->Shared->Prop:=Lz (SPI X pins D)
def PE (X:Cx)(e:Expr)(t:TE):Prop:=
 ∀(pins:List (Addr×Obj)) (s:Shared) (σ:St) (H:Hp) (Q:VK),Inv X pins σ H s->t σ H Q->wpAny (model X.prog X.w) X.A (eval e X.env) (EP X pins σ Q) X.xe s
def PT (X:Cx)(e:Expr)(t:TT):Prop:=
 ∀(pins:List (Addr×Obj)) (s:Shared) (σ:St) (H:Hp) (Q:Bool->Hp->Prop),Inv X pins σ H s->t σ H Q->wpAny (model X.prog X.w) X.A (isTrue e X.env (eval e X.env)) (TP X pins σ Q) X.xe s
def PW (X:Cx)(e:Expr)(t:TT):Prop:=
 ∀(whole:Sem Value) (pins:List (Addr×Obj)) (s:Shared) (σ:St) (H:Hp) (Q:Bool->Hp->Prop),Inv X pins σ H s->t σ H Q->wpAny (model X.prog X.w) X.A (isTrue e X.env whole) (TP X pins σ Q) X.xe s
theorem PW.pt {X:Cx}{e:Expr}{t:TT}(h:PW X e t):PT X e t:=h _
def PA (X:Cx)(es:List Expr)(t:TA):Prop:=
 ∀(pos:Pos) (pins:List (Addr×Obj)) (s:Shared) (σ:St) (H:Hp) (Q:List V->Hp->Prop),Inv X pins σ H s->t σ H Q->wpAny (model X.prog X.w) X.A (spliced (backTo pos (starEach es X.env))) (AP X pins σ Q) X.xe s
def PS (X:Cx)(st:Stmt)(t:TS):Prop:=
 ∀(pins:List (Addr×Obj)) (s:Shared) (σ:St) (H:Hp) (D:Ends),Inv X pins σ H s->t D σ H->wpAny (model X.prog X.w) X.A (exec st X.env) (SP X pins D) X.xe s
def ed (X:Cx)(st:List Stmt)(t:TS):Prop:=
 ∀(pins:List (Addr×Obj)) (s:Shared) (σ:St) (H:Hp) (D:Ends),Inv X pins σ H s->t D σ H->wpAny (model X.prog X.w) X.A (execs st X.env) (SP X pins D) X.xe s
theorem qM {α:Type}{t:Sem α}{P Q':α->Shared->Prop}{prog:Program}{w:World}{A:Around}{E:Value->Shared->Prop}{s:Shared}(h:wpAny (model prog w) A t (Lz P) E s)(hQ:∀a s,0<s.toks->P a s->Q' a s)(ht:0<s.toks:=by first | assumption | exact Inv.tk (by assumption)):wpAny (model prog w) A t Q' E s:=
 wpAny_with_toks (n:=1) ht (wpAny_mono h (fun a s1 hp h1=>hQ a s1 h1 (hp h1)) fun _ _ x _=>x)
theorem VD {α:Type}{t:Sem α}{P Q':α->Shared->Prop}{prog:Program}{w:World}{A:Around}{E:Value->Shared->Prop}{s:Shared}(h:wpAny (model prog w) A t (Lz P) (fun e s=>0<s.toks->E e s) s)(hQ:∀a s,P a s->Q' a s)(ht:0<s.toks:=by first | assumption | exact Inv.tk (by assumption)):wpAny (model prog w) A t Q' E s:=
 wpAny_with_toks (n:=1) ht (wpAny_mono h (fun a s1 hp h1=>hQ a s1 (hp h1)) fun _ _ x=>x)
theorem VE {α:Type}{t:Sem α}{P Q':α->Shared->Prop}{prog:Program}{w:World}{A:Around}{E:Value->Shared->Prop}{s:Shared}(h:wpAny (model prog w) A t (Lz P) (fun _ _=>False) s)(hQ:∀a s,P a s->Q' a s)(ht:0<s.toks:=by first | assumption | exact Inv.tk (by assumption)):wpAny (model prog w) A t Q' E s:=
 wpAny_with_toks (n:=1) ht (wpAny_mono h (fun a s1 hp h1=>hQ a s1 (hp h1)) fun _ _ x=>x.elim)
theorem aG {α:Type}{t:Sem α}{P Q':α->Shared->Prop}{prog:Program}{w:World}{A:Around}{E:Value->Shared->Prop}{s:Shared}(h:wpAny (model prog w) A t (Lz P) E s)(hQ:∀a s,P a s->Q' a s)(ht:0<s.toks:=by first | assumption | exact Inv.tk (by assumption)):wpAny (model prog w) A t Q' E s:=
 wpAny_with_toks (n:=1) ht (wpAny_mono h (fun a s1 hp h1=>hQ a s1 (hp h1)) fun _ _ x _=>x)
section
variable {X:Cx}
inductive dh (i:Nat) (σ:St) (H:Hp) (Q:VK):Prop
 |mk (v:V) (e:σ[i]?=some (some v)) (q:Q v H):dh i σ H Q
def tC (v:V):TE:=fun _ H Q=>Q v H
theorem FQ {i:Nat}{x:Str}{pos:Pos}(hN:X.N[i]?=some x)(hv:wj X.env.scope x)(hd:(x==("__debug__" : Str))=false:=by decide)(e9:(x==("__classdict__" : Str))=false:=by decide):PE X (.Name x pos) (dh i):=by
 intro pins s σ H Q I h;obtain⟨v,e,h⟩:=h;obtain⟨m,hn,hl⟩:=I.loc;obtain⟨u,r,l⟩:=hl i x v hN e hv;have fin:EP X pins σ Q u s:=(fun ht=>⟨v,H,I,r,h⟩)
 rcases l with ⟨hk,hm⟩ | ⟨hk,c,hc,Qn⟩
 ·exact wpAny_Name (wpAny_loadName_local I.ok.kind hk hn hm fin) hd
 ·rcases hk with hk | hk
  ·exact wpAny_Name (wpAny_loadName_cell I.ok.kind hk hc Qn fin) hd
  ·exact wpAny_Name (wpAny_loadName_free I.ok.kind hk hc Qn fin e9) hd
theorem pF {i j pos}:PE X (.Constant (.int i) j pos) (tC (.int i)):=fun _ _ _ H _ I h=>wpAny_Constant_int (fun ht=>⟨.int i,H,I.tok _,⟨_,rfl⟩,h⟩)
theorem FW {b j pos}:PE X (.Constant (.bool b) j pos) (tC (.bl b)):=fun _ _ _ H _ I h=>Constant_bool (fun ht=>⟨.bl b,H,I,rfl,h⟩)
theorem FR {x j pos}:PE X (.Constant (.str x) j pos) (tC (.str x)):=fun _ _ _ H _ I h=>Calls.Constant_str (fun ht=>⟨.str x,H,I.tok _,⟨_,rfl⟩,h⟩)
def Gl (X:Cx)(x:Str):Prop:=X.env.kindOf x=some .globalImplicit
theorem uQ {E:Value->Shared->Prop}{pins:List (Addr×Obj)}{s:Shared}{σ:St}{H:Hp}{x:Str}{u:Value}{pos:Pos}{Q:Value->Shared->Prop}(I:Inv X pins σ H s)(hg:Gl X x)(hm:X.mg x=some u)(h:Q u s)
  (hd:(x==("__debug__" : Str))=false:=by decide):wpAny (model X.prog X.w) X.A (eval (.Name x pos) X.env) Q E s:=
 DH I.ok.kind hg (Calls.loadGlobal_global (by rw [I.ok.glob]; exact I.mod.glob.keeps I.bk) hm h) hd
theorem mH {E:Value->Shared->Prop}{pins:List (Addr×Obj)}{s:Shared}{σ:St}{H:Hp}{x:Str}{u:Value}{pos:Pos}{Q:Value->Shared->Prop}(I:Inv X pins σ H s)(hg:Gl X x)(hm:X.mg x=none)(hv:bootBuiltins x=some u)(h:Q u s)
  (hn:x≠"__name__" := by decide) (hd:(x==("__debug__" : Str))=false:=by decide):wpAny (model X.prog X.w) X.A (eval (.Name x pos) X.env) Q E s:=by
 obtain⟨mb,h1,h2⟩:=I.mod.blt;exact DH I.ok.kind hg (Calls.loadGlobal_builtin (by rw [I.ok.glob]; exact I.mod.glob.keeps I.bk) hm (by rw [I.ok.blt]; exact h1.keeps I.bk) ((h2 x hn).trans hv) h) hd
theorem j9 {x:Str}{v:V}{u:Value}{pos:Pos}(hg:Gl X x)(hm:X.mg x=some u)(r:RelV v u)(hd:(x==("__debug__" : Str))=false:=by decide):PE X (.Name x pos) (tC v):=
 fun _ _ _ H _ I h=>uQ I hg hm (fun ht=>⟨v,H,I,r,h⟩) hd
theorem NH {x:Str}{v:V}{u:Value}{pos:Pos}(hg:Gl X x)(hm:X.mg x=none)(hv:bootBuiltins x=some u)(r:RelV v u)(hn:x≠"__name__" := by decide)(hd:(x==("__debug__" : Str))=false:=by decide):PE X (.Name x pos) (tC v):=
 fun _ _ _ H _ I h=>mH I hg hm hv (fun ht=>⟨v,H,I,r,h⟩) hn hd
variable {a b:Expr}{ta tb:TE}{pos:Pos}
def PC (X:Cx)(op:CmpOp)(a b:Expr)(t:TE):Prop:=
 ∀(pins:List (Addr×Obj)) (s:Shared) (σ:St) (H:Hp) (Q:VK),Inv X pins σ H s->t σ H Q->
  wpAny (model X.prog X.w) X.A (eval a X.env) (Lz fun v aY=>wpAny (model X.prog X.w) X.A (eval b X.env) (Lz fun u g6=>wpAny (model X.prog X.w) X.A (compareOp op v u) (EP X pins σ Q) X.xe g6) X.xe aY) X.xe s
def tB (t:TE):TT:=fun σ H Q=>t σ H fun x H1=>∃c,x=.bl c/\Q c H1
theorem Nk {e:Expr}{t:TE}(h:PE X e t)(he:∀whole,isTrue e X.env whole=(do let v ← whole; standAt e.pos; holding [v] (truthy v)):=by intro _; rfl):PT X e (tB t):=by
 intro pins s σ H Q I hw;refine isTrue_plain (aG (h pins s σ H _ I hw) fun v s1 ⟨x,H1,I1,r1,q1⟩=>?_) (he _);obtain⟨d,rfl,q⟩:=q1;cases r1;exact wpAny_truthy_bool (fun ht=>⟨H1,I1,q⟩)
variable {tA Mz:TT}{rest:List Expr}
def Mm (t u:TT):TT:=fun σ H Q=>t σ H fun c H1=>if c=true then Q true H1 else u σ H1 Q
def V2 (t:TT):TT:=fun σ H Q=>t σ H fun c H1=>Q (!c) H1
theorem pw_or1 (ha:PT X a tA):PW X (.BoolOp .Or [a] pos) tA:=by
 intro wh pins s σ H Q I h;refine isTrue_or (aG (ha pins s σ H Q I h) fun c s1 e=>?_)
 cases c with
 |false=>exact isTrue_or_nil (fun _=>e)
 |true=>exact fun _=>e
theorem pw_or (ha:PT X a tA)(hb:PW X (.BoolOp .Or (b::rest) pos) Mz):PW X (.BoolOp .Or (a::b::rest) pos) (Mm tA Mz):=by
 intro wh pins s σ H Q I h;refine isTrue_or (aG (ha pins s σ H _ I h) fun c s1 ⟨H1,I1,q1⟩=>?_)
 cases c with
 |true=>exact(fun ht=>⟨H1,I1,q1⟩)
 |false=>exact hb wh pins s1 σ H1 Q I1 q1
theorem Nl (ha:PT X a tA):PT X (.UnaryOp .Not a pos) (V2 tA):=by
 intro pins s σ H Q I h;exact isTrue_not (wpAny_mono (ha pins s σ H (fun c H1=>Q (!c) H1) I h) (fun c s' h ht=>by obtain⟨H',I',q⟩:=h ht; exact⟨H',I',q⟩) fun _ _ x=>x)
def Ms (t:TT)(ta tb:TE):TE:=fun σ H Q=>t σ H fun c H1=>if c=true then ta σ H1 Q else tb σ H1 Q
theorem FV {c:Expr}(hc:PT X c tA)(ha:PE X a ta)(hb:PE X b tb):PE X (.IfExp c a b pos) (Ms tA ta tb):=by
 intro pins s σ H Q I h;refine wpAny_IfExp (aG (hc pins s σ H _ I h) fun d s1 ⟨H1,I1,q1⟩=>?_)
 cases d with
 |true=>exact ha pins s1 σ H1 Q I1 q1
 |false=>exact hb pins s1 σ H1 Q I1 q1
end
def bX (K:ah)(H:Hp)(a:Addr)(xs:List V):Prop:=
 Rd H a (.lst xs)∨
  ∃(o:Obj) (ao:Array Value) (n:Nat),K.lookup a=some o/\o.cls=.type "list" /\o.dict=none/\o.data=.seq ao n/\ao.size<=sizeLine/\Vals xs ao.toList
def cP (K:ah)(H:Hp)(a:Addr)(xs:List V):Prop:=
 Rd H a (.tup xs)∨
  ∃(o:Obj) (ao:Array Value) (n:Nat),K.lookup a=some o/\o.cls=.type "tuple" /\o.data=.seq ao n/\ao.size<=sizeLine/\Vals xs ao.toList
def ag6:Value->Option V
 |.none=>some .aK
 |.bool b=>some (.bl b)
 |.int i _=>some (.int i)
 |.str x _=>some (.str x)
 |.bytes b _=>some (.nh b)
 |.float b _=>some (.B5 b)
 |.ref a=>some (.ref a)
 |.type n=>some (.ty n)
 |_=>none
theorem RelV.abs {x:V}{u:Value}(r:RelV x u):ag6 u=some x:=by
 cases x with
 |aK=>cases r; rfl
 |bl _=>cases r; rfl
 |int _=>obtain⟨t,rfl⟩:=r; rfl
 |str _=>obtain⟨t,rfl⟩:=r; rfl
 |nh _=>obtain⟨t,rfl⟩:=r; rfl
 |B5 _=>obtain⟨t,rfl⟩:=r; rfl
 |ref _=>cases r; rfl
 |ty _=>cases r; rfl
theorem RelV.inj {x y:V}{u:Value}(r:RelV x u)(q:RelV y u):x=y:=iu (r.abs.symm.trans q.abs)
theorem Vals.inj:∀{xs ys:List V}{us:List Value},Vals xs us->Vals ys us->xs=ys
 |_,_,_,.nil,.nil=>rfl
 |_,_,_,.cons r t,.cons r' t'=>by rw [r.inj r',Vals.inj t t']
section
variable {X:Cx}{pins:List (Addr×Obj)}{σ:St}{H:Hp}{s:Shared}{a:Addr}{xs ys:List V}
theorem bX.of {K:ah}(h:H a=some (.lst xs)):bX K H a xs:=.inl (.inl h)
theorem cP.of {K:ah}(h:H a=some (.tup xs)):cP K H a xs:=.inl (.inl h)
theorem Inv.list (I:Inv X pins σ H s)(h:bX X.K H a xs):∃ao:List Value,Vals xs ao/\PlainL s.heap a ao.toArray/\xs.length<=sizeLine:=by
 rcases h with h | ⟨o,ao,n,hk,hc,hd,hs,hz,r⟩
 ·obtain⟨z,ao,n,r,e⟩:=h.ok I.au
  exact⟨ao,r,⟨_,n,e,rfl,rfl,rfl⟩,z⟩
 ·refine⟨ao.toList,r,⟨o,n,I.e8 a o hk,hc,hd,by simpa using hs⟩,?_⟩
  have e:=r.length;simp only [Array.length_toList] at e;omega
theorem Inv.tuple (I:Inv X pins σ H s)(h:cP X.K H a xs):∃ao:List Value,Vals xs ao/\IsTup s.heap a ao.toArray/\xs.length<=sizeLine:=by
 rcases h with h | ⟨o,ao,n,hk,hc,hs,hz,r⟩
 ·obtain⟨z,ao,r,p⟩:=h.ok I.au
  exact⟨ao,r,p,z⟩
 ·refine⟨ao.toList,r,⟨o,I.e8 a o hk,hc,n,by simpa using hs⟩,?_⟩
  have e:=r.length;simp only [Array.length_toList] at e;omega
theorem Inv.GN (I:Inv X pins σ H s)(h:bX X.K H a xs)(h':bX X.K H a ys):xs=ys:=by
 obtain⟨ao,r,⟨o,n,e,_,_,d⟩,_⟩:=I.list h;obtain⟨its',r',⟨o',n',e',_,_,d'⟩,_⟩:=I.list h';rw [e] at e'; cases e';rw [d] at d';injection d' with d1 _;have:ao=its':=by simpa using congrArg jm d1
 subst this;exact r.inj r'
theorem Inv.Ee (I:Inv X pins σ H s)(h:cP X.K H a xs)(h':cP X.K H a ys):xs=ys:=by
 obtain⟨ao,r,⟨o,e,_,n,d⟩,_⟩:=I.tuple h;obtain⟨its',r',⟨o',e',_,n',d'⟩,_⟩:=I.tuple h';rw [e] at e'; cases e';rw [d] at d';injection d' with d1 _;have:ao=its':=by simpa using congrArg jm d1
 subst this;exact r.inj r'
end
abbrev Cx.jX (X:Cx)(E:Value->Shared->Prop):Cx:={X with xe:=E}
abbrev Cx.pK (X:Cx):Cx:=X.jX fun _ _=>False
theorem Cx.Ok.jX {X:Cx}(ok:X.Ok)(E:Value->Shared->Prop):(X.jX E).Ok:=
 ⟨ok.mod,ok.kind,ok.glob,ok.blt,ok.above,ok.inj,ok.has,ok.qm,ok.hd,ok.frames,ok.qQ,ok.yw,ok.bs,ok.jf,ok.bY,ok.sC,ok.eL,ok.gQ⟩
theorem Cx.Ok.kQ {X:Cx}{E:Value->Shared->Prop}(ok:(X.jX E).Ok):X.Ok:=
 ⟨ok.mod,ok.kind,ok.glob,ok.blt,ok.above,ok.inj,ok.has,ok.qm,ok.hd,ok.frames,ok.qQ,ok.yw,ok.bs,ok.jf,ok.bY,ok.sC,ok.eL,ok.gQ⟩
section
variable {X:Cx}{pins:List (Addr×Obj)}{σ:St}{H:Hp}{s:Shared}{E:Value->Shared->Prop}
theorem Inv.jX (I:Inv X pins σ H s)(E:Value->Shared->Prop):Inv (X.jX E) pins σ H s:=⟨I.ok.jX E,I.os,I.bare,I.base,I.loc,I.cell,I.free,I.fi,I.pin,I.au,I.len,I.tk⟩
theorem Inv.kQ (I:Inv (X.jX E) pins σ H s):Inv X pins σ H s:=⟨I.ok.kQ,I.os,I.bare,I.base,I.loc,I.cell,I.free,I.fi,I.pin,I.au,I.len,I.tk⟩
theorem SP.kQ {D:Ends}{f:Flow}{s':Shared}(h:SP (X.jX E) pins D f s'):SP X pins D f s':=fun ht=>by
 have h:=h ht
 cases f with
 |next=>obtain⟨aL,H',I,q⟩:=h; exact⟨aL,H',I.kQ,q⟩
 |brk=>obtain⟨aL,H',I,q⟩:=h; exact⟨aL,H',I.kQ,q⟩
 |cont=>obtain⟨aL,H',I,q⟩:=h; exact⟨aL,H',I.kQ,q⟩
 |ret u=>obtain⟨v,aL,H',I,r,q⟩:=h; exact⟨v,aL,H',I.kQ,r,q⟩
end
section
variable {X:Cx}{st:Stmt}{rest:List Stmt}{t u:TS}{e:Expr}{te:TE}{pos:Pos}
def Mo:TS:=fun D σ H=>D.nx σ H
def mj (t u:TS):TS:=fun D σ H=>t {D with nx:=u D} σ H
theorem AI:ed X [] Mo:=fun _ _ σ H _ I h=>wpAny_execs_nil (fun ht=>⟨σ,H,I,h⟩)
theorem eI (h1:PS X st t)(h2:ed X rest u):ed X (st::rest) (mj t u):=by
 intro pins s σ H D I h;refine wpAny_execs_cons (aG (h1 pins s σ H {D with nx:=u D} I h) fun f s1 q=>?_)
 cases f with
 |next=>
  obtain⟨aL,H',I',q⟩:=q;exact h2 pins s1 aL H' D I' q
 |ret v=>exact fun _=>q
 |brk=>exact fun _=>q
 |cont=>exact fun _=>q
theorem fA (h1:PS X st t):ed X [st] t:=by
 intro pins s σ H D I h;refine wpAny_execs_cons (aG (h1 pins s σ H D I h) fun f s1 q=>?_)
 cases f with
 |next=>exact wpAny_execs_nil fun _=>q
 |ret v=>exact fun _=>q
 |brk=>exact fun _=>q
 |cont=>exact fun _=>q
theorem Inv.quiet {pins:List (Addr×Obj)}{σ:St}{H:Hp}{s:Shared}(I:Inv X pins σ H s):interactive X.env=false:=by simp [interactive,I.ok.kind]
def wZ (te:TE):TS:=fun D σ H=>te σ H fun _ H1=>D.nx σ H1
theorem n4 (he:PE X e te)(hs:swapsWith e none pos.line X.env=pure false:=by rfl):PS X (.Expr e pos) (wZ te):=by
 intro pins s σ H D I h;exact wpAny_Expr_any (aG (he pins s σ H _ I h) fun v s1 ⟨x,H1,I1,r1,q1⟩=>(fun ht=>⟨σ,H1,I1,q1⟩)) I.quiet hs
def ml (te:TE):TS:=fun D σ H=>te σ H D.rt
theorem ic (he:PE X e te):PS X (.Return (some e) pos) (ml te):=by
 intro pins s σ H D I h;exact wpAny_Return_some (aG (he pins s σ H _ I h) fun v s1 ⟨x,H1,I1,r1,q1⟩=>(fun ht=>⟨x,σ,H1,I1,r1,q1⟩))
def Mr (c:TT)(t u:TS):TS:=fun D σ H=>c σ H fun b H1=>if b=true then t D σ H1 else u D σ H1
theorem xr {c:Expr}{a b:List Stmt}{tc:TT}(hc:PT X c tc)(ha:ed X a t)(hb:ed X b u):PS X (.If c a b pos) (Mr tc t u):=by
 intro pins s σ H D I h;refine wpAny_If (aG (hc pins s σ H _ I h) fun d s1 ⟨H1,I1,q1⟩=>?_)
 cases d with
 |true=>exact ha pins s1 σ H1 D I1 q1
 |false=>exact hb pins s1 σ H1 D I1 q1
end
abbrev TG:=V->St->Hp->(St->Hp->Prop)->Prop
abbrev nq:=List V->St->Hp->(St->Hp->Prop)->Prop
def PG (X:Cx)(target:Expr)(t:TG):Prop:=
 ∀(pins:List (Addr×Obj)) (s:Shared) (σ:St) (H:Hp) (v:V) (u:Value) (Q:St->Hp->Prop),Inv X pins σ H s->RelV v u->t v σ H Q->
  wpAny (model X.prog X.w) X.A (assign target X.env u) (Lz fun _ s'=>∃aL H',Inv X pins aL H' s'/\Q aL H') X.xe s
def jP (X:Cx)(ts:List Expr)(t:nq):Prop:=
 ∀(pins:List (Addr×Obj)) (s:Shared) (σ:St) (H:Hp) (vs:List V) (us:List Value) (Q:St->Hp->Prop),Inv X pins σ H s->Vals vs us->t vs σ H Q->
  wpAny (model X.prog X.w) X.A (assignInOrder ((assignEach ts X.env).map (·.2)) us) (Lz fun _ s'=>∃aL H',Inv X pins aL H' s'/\Q aL H') X.xe s
section
variable {X:Cx}{pos:Pos}
def qc (i:Nat):TG:=fun v σ H Q=>Q (σ.set i (some v)) H
theorem cZ {i:Nat}{x:Str}(hN:X.N.Nodup)(hi:X.N[i]?=some x)(hx:Loc X.env.scope x)(hf:X.fn x=true∨X.env.scope.names.lookup x=some .local:=by first | exact .inl rfl | exact .inr rfl | assumption):PG X (.Name x pos) (qc i):=by
 intro pins s σ H v u Q I r h;exact wpAny_assign_Name (xf I hN hi hx r (fun s' I'=>(fun ht=>⟨_,H,I',h⟩)) hf)
def aep:nq:=fun vs σ H Q=>vs=[]/\Q σ H
def aeq (t:TG)(u:nq):nq:=fun vs σ H Q=>∃v r,vs=v::r/\t v σ H fun aL H'=>u r aL H' Q
theorem YW:jP X [] aep:=by
 intro pins s σ H vs us Q I r h;obtain⟨e,h⟩:=h;subst e;cases r;exact assignInOrder_nil (fun ht=>⟨σ,H,I,h⟩)
theorem Nx {e:Expr}{es:List Expr}{t:TG}{u:nq}(h1:PG X e t)(h2:jP X es u)
  (hs:(assignEach (e::es) X.env).map (·.2)=assign e X.env::(assignEach es X.env).map (·.2):=by rfl):jP X (e::es) (aeq t u):=by
 intro pins s σ H vs us Q I r h;obtain⟨v,vr,e1,h⟩:=h;subst e1
 cases r with
 |cons r rr=>
  rw [hs];refine assignInOrder_cons (aG (h1 pins s σ H _ _ _ I r h) fun _ s1 ⟨kF,H1,I1,q1⟩=>?_);exact h2 pins s1 kF H1 _ _ Q I1 rr q1
def aeo (K:ah)(n:Nat)(t:nq):TG:=fun v σ H Q=>∃a xs,v=.ref a/\cP K H a xs/\xs.length=n/\t xs σ H Q
theorem Ny {es:List Expr}{k:Nat}{t:nq}{n:Nat}(hc:X.calm=true)(h:jP X es t)
  (hn:(assignEach es X.env).length=n:=by rfl) (bz:(assignEach es X.env).findIdx? (·.1)=none:=by rfl):PG X (.Tuple es k pos) (aeo X.K n t):=by
 intro pins s σ H v u Q I r hw;obtain⟨a,xs,e1,hq,hl,hw⟩:=hw;subst e1;cases r;obtain⟨ao,rv,ht,hz⟩:=I.tuple hq;refine assign_Tuple_tuple (I.ok.hd hc) ht (by simp [hn,← hl,rv.length]) bz fun h' hx=>?_;have I1:Inv X pins σ H {s with heap:=h'}:=I.kept (t':=s.toks) fun b o e=>hx b o (bQ (a6 e)) e;exact h pins _ σ H xs _ Q I1 (by simpa using rv) hw
def qO (te:TE)(g:TG):TS:=fun D σ H=>te σ H fun x H1=>g x σ H1 D.nx
theorem Np {tg e:Expr}{te:TE}{g:TG}(he:PE X e te)(hg:PG X tg g)(hs:swapsWithSole [tg] e pos.line X.env=pure false:=by rfl)(hw:swappedStores [tg] e X.env=pure none:=by rfl)
  (h1:(assignEach [tg] X.env).map (·.2)=[assign tg X.env]:=by rfl):PS X (.Assign [tg] e pos) (qO te g):=by
 intro pins s σ H D I h;refine wpAny_Assign_stores (aG (he pins s σ H _ I h) fun v s1 ⟨x,H1,I1,r1,q1⟩=>?_) hs hw;rw [h1];exact aG (hg pins s1 σ H1 x v _ I1 r1 q1) fun _ s2 q _=>q
theorem n3 {i:Nat}{x:Str}{e:Expr}{te:TE}{pos':Pos}(hN:X.N.Nodup)(hi:X.N[i]?=some x)(hx:Loc X.env.scope x)(he:PE X e te)(hs:swapsWith e (some (.Name x pos')) pos.line X.env=pure false:=by rfl)(hf:X.fn x=true∨X.env.scope.names.lookup x=some .local:=by first | exact .inl rfl | exact .inr rfl | assumption) :
  PS X (.Assign [.Name x pos'] e pos) (qO te (qc i)):=by
 intro pins s σ H D I h;refine wpAny_Assign_Name (aG (he pins s σ H _ I h) fun v s1 ⟨y,H1,I1,r1,q1⟩=>?_) hs;exact xf I1 hN hi hx r1 (fun s2 I2=>(fun ht=>⟨_,H1,I2,q1⟩)) hf
def V1 (i j:Nat)(ta:TA):TS:=fun D σ H=>ta σ H fun vs H1=>∃v w,vs=[v,w]/\D.nx ((σ.set i (some v)).set j (some w)) H1
theorem Nm {i j:Nat}{x y:Str}{a b:Expr}{ta:TA}{px py pt:Pos}{kt k2 iz}(hc:X.calm=true)(hN:X.N.Nodup)(hi:X.N[i]?=some x)(hj:X.N[j]?=some y)(mR:i≠j)
  (hx:X.env.scope.names.lookup x=some .local) (hy:X.env.scope.names.lookup y=some .local) (ha:PA X [a,b] ta)
  (hw:swappedStores [.Tuple [.Name x px,.Name y py] kt pt] (.Tuple [a,b] k2 iz) X.env=pure (some [x,y]))
  (hs:swapsWithSole [.Tuple [.Name x px,.Name y py] kt pt] (.Tuple [a,b] k2 iz) pos.line X.env=pure false:=by rfl) :
  PS X (.Assign [.Tuple [.Name x px,.Name y py] kt pt] (.Tuple [a,b] k2 iz) pos) (V1 i j ta):=by
 intro pins s σ H D I h;rw [exec_Assign_arm];refine wpAny_bind (wpAny_standAt ?_);rw [hs];refine wpAny_bind (wpAny_pure ?_);rw [if_neg (by decide)];refine wpAny_bind (Tuple_ (aG (ha _ pins s σ H _ I h) fun us s1 ⟨vs,H1,I1,r1,q1⟩=>?_));obtain⟨v,w,e1,q1⟩:=q1;subst e1;obtain⟨u1,u2,rfl,rv,eo⟩:∃u1 u2,us=[u1,u2]/\RelV v u1/\RelV w u2:=by
  cases r1 with
  |cons p q=>
   cases q with
   |cons p' q'=>
    cases q';exact⟨_,_,rfl,p,p'⟩
 refine wpAny_newObj_type ?_ (by show 2<=sizeLine; decide);have I2:Inv X pins σ H1 {s1 with heap:=s1.heap.push {cls:=.type "tuple",data:=.seq [u1,u2].toArray}}:=I1.kept (t':=s1.toks) fun b o e=>aZ _ e
 rw [hw];refine wpAny_bind (wpAny_pure ?_);show wpAny (model X.prog X.w) X.A (do rule "assign.swapped-stores"; let items ← unpackItems (.ref s1.heap.objs.size) 2 none; assignInOrder [fun v=>bindName X.env y v,fun v=>bindName X.env x v] items.reverse; pure Flow.next) _ _ _
 refine wpAny_bind (wpAny_rule (wpAny_bind (unpackItems_tuple (items:=#[u1,u2]) (I.ok.hd hc) (IsTup.new s1.heap _) fun h' pS=>?_)));have I3:=I2.kept (h':=h') (t':=s1.toks) fun b o e=>pS b o (bQ (a6 e)) e;show wpAny _ _ (assignInOrder [fun v=>bindName X.env y v,fun v=>bindName X.env x v] [u2,u1] >>= fun _=>pure Flow.next) _ _ _;refine wpAny_bind (assignInOrder_cons (wpAny_bindName (xf I3 hN hj (.inl hy) eo (fun s2 I4=>?_) (.inr hy))));refine assignInOrder_cons (wpAny_bindName (xf I4 hN hi (.inl hx) rv (fun s3 I5=>assignInOrder_nil (wpAny_pure ?_)) (.inr hx)));rw [List.set_comm _ _ (cb mR)] at I5;exact(fun ht=>⟨_,H1,I5,q1⟩)
end
structure It where
 go:Nat->Hp->Prop
 wO:Nat->Hp->V->Hp->Prop
 stop:Nat->Hp->Prop
def f9 (X:Cx)(pins:List (Addr×Obj))(H:Hp)(b:Addr):Prop:=
 H b=none/\b≠X.env.locals/\b∉X.fs/\(b∈X.ex∨X.aJ.heap.objs.size<=b)/\(∀x c,X.env.cells.lookup x=some c->c≠b)/\∀p∈X.pn++pins,p.1≠b
theorem Inv.qd {X:Cx}{pins:List (Addr×Obj)}{σ:St}{H H':Hp}{s:Shared}{b:Addr}(I:Inv X pins σ H s)(hb:s.heap.objs.size<=b)(hn:H' b=none):f9 X pins H' b:=by
 refine⟨hn,wC (cH I.lt hb),I.Ob hb,.inr (cK I.sz hb),fun x c e z=>?_,fun p hp z=>?_⟩
 ·obtain⟨v,q⟩:=I.cell x c e
  exact absurd (cH q.lt (by rw [z]; exact hb)) (fM _)
 ·exact absurd (cH (a6 (I.pin p hp).1) (by rw [z]; exact hb)) (fM _)
structure Turn (P:Program) (w:World) (K:ah) (tg:Expr) (J:It) (fp:List Addr) (it:Addr) (tn:Nat->Heap->Prop):Prop where
 mem:it∈fp
 obj:∀i h,tn i h->∀b∈fp,∃o,h.get? b=some o/\∀v,o.data≠.cell v
 keep:∀i h h',tn i h->(∀b∈fp,∀o,h.get? b=some o->h'.get? b=some o)->tn i h'
 item:∀(X:Cx),X.prog=P->X.w=w->X.K=K->X.calm=true->∀(i:Nat) (pins:List (Addr×Obj)) (s:Shared) (σ:St) (H:Hp) (E:Value->Shared->Prop),Inv X pins σ H s->(∀b∈fp,f9 X pins H b)->tn i s.heap->J.go i H->
  wpAny (model P w) X.A (pyNext (.ref it)) (Lz fun r s1=>∃u,r=some u/\
   wpAny (model P w) X.A (letOwnedTupleGo tg (.ref it) u) (Lz fun _ s2=>∃x H',Inv X pins σ H' s2/\RelV x u/\J.wO i H x H'/\tn (i+1) s2.heap/\∀b∈fp,H' b=none) E s1) E s
 done:∀(X:Cx),X.prog=P->X.w=w->X.K=K->X.calm=true->∀(i:Nat) (pins:List (Addr×Obj)) (s:Shared) (σ:St) (H:Hp) (E:Value->Shared->Prop),Inv X pins σ H s->(∀b∈fp,f9 X pins H b)->tn i s.heap->J.stop i H->
  wpAny (model P w) X.A (pyNext (.ref it)) (Lz fun r s1=>r=none/\Inv X pins σ H s1) E s
 self:∀(A:Around) (i:Nat) (s:Shared) (Q:Value->Shared->Prop) (E:Value->Shared->Prop),tn i s.heap->Q (.ref it) s->wpAny (model P w) A (pyIter (.ref it)) Q E s
abbrev TI:=St->Hp->(It->Hp->Prop)->Prop
def Tf (X:Cx)(pins:List (Addr×Obj))(σ:St)(tg:Expr)(R:It->Hp->Prop)(xU:Value)(s2:Shared):Prop:=
 ∃(it:Addr) (fp:List Addr) (tn:Nat->Heap->Prop) (J:It) (H':Hp),xU=.ref it/\Inv X pins σ H' s2/\Turn X.prog X.w X.K tg J fp it tn/\tn 0 s2.heap/\(∀b∈fp,f9 X pins H' b)/\R J H'
def PI (X:Cx)(tg iter:Expr)(wi:TI):Prop:=
 ∀(pins:List (Addr×Obj)) (s:Shared) (σ:St) (H:Hp) (R:It->Hp->Prop),Inv X pins σ H s->wi σ H R->
  wpAny (model X.prog X.w) X.A (eval iter X.env) (Lz fun v s1=>wpAny (model X.prog X.w) X.A (pyIter v) (Lz (Tf X pins σ tg R)) X.xe s1) X.xe s
theorem yv {M:Model}{A:Around}{E:Value->Shared->Prop}{s:Shared}{tg:Expr}{it:Addr}{u:Value}{o:Obj}{n:String}{vs:Array Value}{Q:Unit->Shared->Prop}(ho:s.heap.get? it=some o)(hc:o.cls=.type n)(hd:o.data=.fields vs)
  (hn:["enumerate","zip","dict_itemiterator","dict_reverseitemiterator","odict_iterator","itertools.zip_longest","itertools.pairwise"].contains n=false) (hQ:Q () s):wpAny M A (letOwnedTupleGo tg (.ref it) u) Q E s:=by
 unfold letOwnedTupleGo
 cases tg <;> first
  |exact wpAny_pure hQ
  | (cases u <;> first
    |exact wpAny_pure hQ
    | (refine wpAny_bind (wpAny_load ho ?_)
       rw [hc,hd];show wpAny M A (if (["enumerate","zip","dict_itemiterator","dict_reverseitemiterator","odict_iterator","itertools.zip_longest","itertools.pairwise"].contains n&&vs[0]?==some (rawInt _))=true then _ else _) Q E s
       rw [if_neg (by intro h; rw [hn,Bool.false_and] at h; cases h)];exact wpAny_pure hQ))
def sT (K:ah)(a:Addr):It:=
 ⟨fun i H=>∃xs x,bX K H a xs/\xs[i]?=some x,fun i H x H'=>H'=H/\∀xs,bX K H a xs->xs[i]?=some x,fun i H=>∃xs,bX K H a xs/\xs.length<=i⟩
def K0 (K:ah)(a:Addr):It:=
 ⟨fun i H=>∃xs x,cP K H a xs/\xs[i]?=some x,fun i H x H'=>H'=H/\∀xs,cP K H a xs->xs[i]?=some x,fun i H=>∃xs,cP K H a xs/\xs.length<=i⟩
def zc (lo:Int)(n:Nat):It:=⟨fun i _=>i<n,fun i H x H'=>H'=H/\x=.int (lo+i),fun i _=>n<=i⟩
theorem Vw {P:Program}{w:World}{K:ah}{tg:Expr}(a it:Addr):Turn P w K tg (sT K a) [it] it (fun i h=>h.IsListIter it a i) where
 mem:=by simp
 obj:=fun i h st b hb=>by
  have e:b=it:=by simpa using hb
  subst e;obtain⟨o,e,c,d⟩:=st;exact⟨o,e,fun v z=>by rw [d] at z; cases z⟩
 keep:=fun i h h' st k=>st.at fun o e=>k it (by simp) o e
 item:=by
  intro X hP hw hK hc i pins s σ H E I hf st hg;subst hP hw hK;obtain⟨xs,x,hq,hx⟩:=hg;obtain⟨ao,rv,p,hz⟩:=I.list hq;obtain⟨u,hu,ru⟩:=rv.get hx;obtain⟨f0,f1,f2,f3,f4,f5⟩:=hf it (by simp);refine wpAny_pyNext_list_item st p.isList (x:=u) (by simpa using hu) fun h' hU sb=>?_;have I1:Inv X pins σ H {s with heap:=h'}:=I.turned (t':=s.toks) (fun b o hb e=>(sb.2 b hb).trans e) f0 f1 f3 f4 f5;obtain⟨o,e,c,d⟩:=id hU;exact(fun ht=>⟨u,rfl,yv (s:={s with heap:=h'}) e c d (by decide) (fun ht=>⟨x,H,I1,ru,⟨rfl,fun ys hy=>by rw [I.GN hy hq]; exact hx⟩,hU,fun b hb=>(hf b hb).1⟩)⟩)
 done:=by
  intro X hP hw hK hc i pins s σ H E I hf st hg;subst hP hw hK;obtain⟨xs,hq,hx⟩:=hg;obtain⟨ao,rv,p,hz⟩:=I.list hq;obtain⟨f0,f1,f2,f3,f4,f5⟩:=hf it (by simp);have hl:=rv.length;exact wpAny_pyNext_list_end (I.ok.hd hc) st p.isList (by simp; omega) fun h' eb=>(fun ht=>⟨rfl,I.turned (t':=s.toks) (fun b o hb e=>eb b o hb e) f0 f1 f3 f4 f5⟩)
 self:=fun _ _ _ _ _ st h=>wpAny_pyIter_listiter st h
theorem Vt {P:Program}{w:World}{K:ah}{tg:Expr}(a it:Addr):Turn P w K tg (K0 K a) [it] it (fun i h=>h.IsTupleIter it a i) where
 mem:=by simp
 obj:=fun i h st b hb=>by
  have e:b=it:=by simpa using hb
  subst e;obtain⟨o,e,c,d⟩:=st;exact⟨o,e,fun v z=>by rw [d] at z; cases z⟩
 keep:=fun i h h' st k=>st.at fun o e=>k it (by simp) o e
 item:=by
  intro X hP hw hK hc i pins s σ H E I hf st hg;subst hP hw hK;obtain⟨xs,x,hq,hx⟩:=hg;obtain⟨ao,rv,p,hz⟩:=I.tuple hq;obtain⟨u,hu,ru⟩:=rv.get hx;obtain⟨f0,f1,f2,f3,f4,f5⟩:=hf it (by simp);refine wpAny_pyNext_tuple_item st (show s.heap.IsTuple a ao.toArray from p) (x:=u) (by simpa using hu) fun h' hU sb=>?_;have I1:Inv X pins σ H {s with heap:=h'}:=I.turned (t':=s.toks) (fun b o hb e=>(sb.2 b hb).trans e) f0 f1 f3 f4 f5;obtain⟨o,e,c,d⟩:=id hU;exact(fun ht=>⟨u,rfl,yv (s:={s with heap:=h'}) e c d (by decide) (fun ht=>⟨x,H,I1,ru,⟨rfl,fun ys hy=>by rw [I.Ee hy hq]; exact hx⟩,hU,fun b hb=>(hf b hb).1⟩)⟩)
 done:=by
  intro X hP hw hK hc i pins s σ H E I hf st hg;subst hP hw hK;obtain⟨xs,hq,hx⟩:=hg;obtain⟨ao,rv,p,hz⟩:=I.tuple hq;obtain⟨f0,f1,f2,f3,f4,f5⟩:=hf it (by simp);have hl:=rv.length;exact wpAny_pyNext_tuple_end (I.ok.hd hc) st (show s.heap.IsTuple a ao.toArray from p) (by simp; omega) fun h' eb=>(fun ht=>⟨rfl,I.turned (t':=s.toks) (fun b o hb e=>eb b o hb e) f0 f1 f3 f4 f5⟩)
 self:=fun _ _ _ _ _ st h=>wpAny_pyIter_tupleiter st h
theorem Vv {P:Program}{w:World}{K:ah}{tg:Expr}(it:Addr)(lo:Int)(n:Nat):Turn P w K tg (zc lo n) [it] it (fun i h=>IsRangeIter h it (lo+(i:Nat) * 1) ((n:Int) - (i:Nat)) 1) where
 mem:=by simp
 obj:=fun i h st b hb=>by
  have e:b=it:=by simpa using hb
  subst e;exact⟨_,st,fun v z=>by
   have z':Data.fields _=Data.cell v:=z
   cases z'⟩
 keep:=fun i h h' st k=>k it (by simp) _ st
 item:=by
  intro X hP hw hK hc i pins s σ H E I hf st hg;subst hP hw hK;obtain⟨f0,f1,f2,f3,f4,f5⟩:=hf it (by simp);have W:=Walks.range (prog:=X.prog) (w:=X.w) (I.ok.hd hc) it lo 1 n;refine W.item i s _ _ hg st fun v h' tk hv hU kk ht=>?_;obtain⟨t,rfl⟩:=hv;have I1:Inv X pins σ H {s with heap:=h',toks:=tk}:=I.turned (fun b o hb e=>kk b o (by simpa using hb) e) f0 f1 f3 f4 f5;refine⟨_,rfl,yv (s:={s with heap:=h',toks:=tk}) (n:="range_iterator") hU rfl rfl (by decide) (fun ht=>⟨.int (lo+i),H,I1,⟨t,by rw [Int.mul_one]⟩,⟨rfl,rfl⟩,hU,fun b hb=>(hf b hb).1⟩)⟩
 done:=by
  intro X hP hw hK hc i pins s σ H E I hf st hg;subst hP hw hK;obtain⟨f0,f1,f2,f3,f4,f5⟩:=hf it (by simp);exact wpAny_pyNext_range_end (I.ok.hd hc) st (by have:n<=i:=hg; omega) fun h' eb=>(fun ht=>⟨rfl,I.turned (t':=s.toks) (fun b o hb e=>eb b o hb e) f0 f1 f3 f4 f5⟩)
 self:=fun _ _ _ _ _ st h=>wpAny_pyIter_rangeiter st h
section
variable {X:Cx}{tg:Expr}
def PN (K:ah)(tl:TE):TI:=fun σ H R=>tl σ H fun x H1=>∃a,x=.ref a/\(∃xs,bX K H1 a xs)/\R (sT K a) H1
def acs (K:ah)(tl:TE):TI:=fun σ H R=>tl σ H fun x H1=>∃a,x=.ref a/\(∃xs,cP K H1 a xs)/\R (K0 K a) H1
theorem Nw {l:Expr}{tl:TE}(hl:PE X l tl):PI X tg l (PN X.K tl):=by
 intro pins s σ H R I h;refine aG (hl pins s σ H _ I h) fun v s1 h_=>?_;obtain⟨x,H1,I1,r1,q1⟩:=h_;obtain⟨a,e,⟨xs,hq⟩,q⟩:=q1;subst e;cases r1;obtain⟨ao,rv,p,hz⟩:=I1.list hq;refine fun _=>wpAny_pyIter_list p.isList fun _=>?_;refine⟨s1.heap.objs.size,[s1.heap.objs.size],_,_,H1,rfl,I1.kept (t':=s1.toks) fun b o e=>aZ _ e,Vw a _,⟨_,cS _ rfl,rfl,rfl⟩,fun b hb=>?_,q⟩;have e:b=s1.heap.objs.size:=by simpa using hb
 subst e;exact I1.qd (bb _) (I1.au.fresh (bb _))
theorem YS {l:Expr}{tl:TE}(hl:PE X l tl):PI X tg l (acs X.K tl):=by
 intro pins s σ H R I h;refine aG (hl pins s σ H _ I h) fun v s1 h_=>?_;obtain⟨x,H1,I1,r1,q1⟩:=h_;obtain⟨a,e,⟨xs,hq⟩,q⟩:=q1;subst e;cases r1;obtain⟨ao,rv,p,hz⟩:=I1.tuple hq;refine fun _=>wpAny_pyIter_tuple (show s1.heap.IsTuple a ao.toArray from p) fun _=>?_;refine⟨s1.heap.objs.size,[s1.heap.objs.size],_,_,H1,rfl,I1.kept (t':=s1.toks) fun b o e=>aZ _ e,Vt a _,⟨_,cS _ rfl,rfl,rfl⟩,fun b hb=>?_,q⟩;have e:b=s1.heap.objs.size:=by simpa using hb
 subst e;exact I1.qd (bb _) (I1.au.fresh (bb _))
theorem Na {pins:List (Addr×Obj)}{σ:St}{H:Hp}{s:Shared}{R:It->Hp->Prop}{E:Value->Shared->Prop}{lo hi:Int}{t u v:Tok}{tk:Nat}(I:Inv X pins σ H s)(h1 : -(2 ^ 62)<=lo)(h2:lo<2 ^ 62)(h3 : -(2 ^ 62)<=hi)(h4:hi<2 ^ 62)
  (q:R (zc lo (hi - lo).toNat) H):wpAny (model X.prog X.w) X.A (pyIter (.ref s.heap.objs.size)) (Lz (Tf X pins σ tg R)) E {s with heap:=s.heap.push {cls:=.type "range",data:=.fields #[.int lo t,.int hi u,.int 1 v]},toks:=tk}:=by
 refine wpAny_pyIter_range (IsRange.new ..) (small_one h1 h2 h3 h4) fun ht=>?_;have I1:Inv X pins σ H {s with heap:=s.heap.push {cls:=.type "range",data:=.fields #[.int lo t,.int hi u,.int 1 v]},toks:=tk}:=I.kept fun b o e=>aZ _ e
 refine⟨(s.heap.push {cls:=.type "range",data:=.fields #[.int lo t,.int hi u,.int 1 v]}).objs.size,[(s.heap.push {cls:=.type "range",data:=.fields #[.int lo t,.int hi u,.int 1 v]}).objs.size],_,_,H,rfl,
  I1.kept (t':=tk) fun b o e=>aZ _ e,Vv _ lo (hi - lo).toNat,?_,fun b hb=>?_,q⟩
 ·have e1:lo+((0:Nat):Int) * 1=lo:=by simp
  have e2:(((hi - lo).toNat:Nat):Int) - ((0:Nat):Int)=Builtin.Range.rangeSize lo hi 1:=by rw [rangeSize_one]; split <;> omega
  show IsRangeIter _ _ (lo+((0:Nat):Int) * 1) ((((hi - lo).toNat:Nat):Int) - ((0:Nat):Int)) 1;rw [e1,e2];exact cS _ rfl
 ·have e:b=(s.heap.push {cls:=.type "range",data:=.fields #[.int lo t,.int hi u,.int 1 v]}).objs.size:=by simpa using hb
  subst e;exact I1.qd (bb _) (I1.au.fresh (bb _))
def acw (ta:TA):TI:=fun σ H R=>ta σ H fun vs H1=>∃j:Int,vs=[.int j]/\-(2 ^ 62)<=j/\j<2 ^ 62/\R (zc 0 j.toNat) H1
def acv (ta:TA):TI:=fun σ H R=>ta σ H fun vs H1=>∃i j:Int,vs=[.int i,.int j]/\(-(2 ^ 62)<=i/\i<2 ^ 62/\-(2 ^ 62)<=j/\j<2 ^ 62)/\R (zc i (j - i).toNat) H1
theorem YV {a:Expr}{ta:TA}{p pos:Pos}(hg:Gl X "range")(hm:X.mg "range" = none)(ha:PA X [a] ta)(hs:starEach [a] X.env=[(false,eval a X.env)]:=by rfl):PI X tg (.Call (.Name "range" p) [a] [] pos) (acw ta):=by
 intro pins s σ H R I h;refine Call_ (mH I hg hm boot_range (sZ (aG (ha pos pins s σ H _ I h) fun us s1 ⟨vs,H1,I1,r1,q1⟩=>?_) hs rfl));obtain⟨j,e,q1,q2,q⟩:=q1;subst e
 cases r1 with
 |cons r rr=>
  cases rr;obtain⟨t,rfl⟩:=r;exact call_range_1 (fun _=>Na I1 (by omega) (by omega) q1 q2 (by simpa using q))
theorem YU {a b:Expr}{ta:TA}{p pos:Pos}(hg:Gl X "range")(hm:X.mg "range" = none)(ha:PA X [a,b] ta)(hs:starEach [a,b] X.env=[(false,eval a X.env),(false,eval b X.env)]:=by rfl)(fD:starEach [b] X.env=[(false,eval b X.env)]:=by rfl) :
  PI X tg (.Call (.Name "range" p) [a,b] [] pos) (acv ta):=by
 intro pins s σ H R I h;refine Call_ (mH I hg hm boot_range (sZ (aG (ha pos pins s σ H _ I h) fun us s1 ⟨vs,H1,I1,r1,q1⟩=>?_) (by rw [hs,fD]) (by rw [fD]; rfl)));obtain⟨i,j,e,⟨q1,q2,q3,q4⟩,q⟩:=q1;subst e
 cases r1 with
 |cons r rr=>
  cases rr with
  |cons r' rr=>
   cases rr;obtain⟨t,rfl⟩:=r;obtain⟨t',rfl⟩:=r';exact call_range_2 (fun _=>Na I1 q1 q2 q3 q4 q)
def Mt (wi:TI)(g:TG)(tb:TS):TS:=fun D σ H=>wi σ H fun J H1=>∃W:Nat->Nat->St->Hp->Prop,(∃m,W 0 m σ H1)/\∀i m σ H,W i m σ H->
 (J.stop i H/\D.nx σ H)∨(J.go i H/\∃N:St->Hp->Prop,(∀aL H',N aL H'->∃m',m'<m/\W (i+1) m' aL H')/\∀x H',J.wO i H x H'->g x σ H' fun eC H2=>tb {D with nx:=N,ct:=N,bk:=D.nx} eC H2)
def uG (fp:List Addr)(h:Heap):List (Addr×Obj):=fp.filterMap fun b=>(h.get? b).map fun o=>(b,o)
theorem uL {fp:List Addr}{h:Heap}{b:Addr}{o:Obj}(hb:b∈fp)(e:h.get? b=some o):(b,o)∈uG fp h:=zN.mpr ⟨b,hb,by rw [e]; rfl⟩
theorem aal {fp:List Addr}{h:Heap}{p:Addr×Obj}(hp:p∈uG fp h):p.1∈fp/\h.get? p.1=some p.2:=by
 obtain⟨b,hb,e⟩:=zN.mp hp
 cases q:h.get? b with
 |none=>rw [q] at e; cases e
 |some o=>
  rw [q] at e;have e':(b,o)=p:=iu e;subst e';exact⟨hb,q⟩
theorem Inv.pinned {pins:List (Addr×Obj)}{σ:St}{H:Hp}{s:Shared}{fp:List Addr}(I:Inv X pins σ H s)(hf:∀b∈fp,f9 X pins H b)(ho:∀b∈fp,∃o,s.heap.get? b=some o/\∀v,o.data≠.cell v):Inv X (pins++uG fp s.heap) σ H s:=
 I.Nv fun p hp=>(eD.mp hp).elim (fun z=>I.pin p (eE _ z)) fun z=>by
  obtain⟨hb,e⟩:=aal z;obtain⟨f0,f1,f2,_⟩:=hf p.1 hb;obtain⟨o,e',d⟩:=ho p.1 hb;rw [e] at e'; cases e';exact⟨e,f0,f1,f2,d⟩
theorem Inv.qJ {pins pl:List (Addr×Obj)}{σ:St}{H:Hp}{s:Shared}(I:Inv X (pins++pl) σ H s):Inv X pins σ H s:=I.Nv fun p hp=>I.pin p (eE _ (ej _ hp))
theorem YF {iter:Expr}{body:List Stmt}{wi:TI}{g:TG}{tb:TS}{pos:Pos}(hp:PassesOwn (model X.prog X.w) X.A X.env X.xe)(hc:X.calm=true)(hi:PI X tg iter wi)(hg:PG X tg g)(hb:ed X body tb)
  (hs:∀x,foldedSetIterable iter X.env x=pure x:=by intro _; rfl):PS X (.For tg iter body [] pos) (Mt wi g tb):=by
 intro pins s σ H D I h;refine wpAny_For (qM (hi pins s σ H _ I h) fun v s1 t1 h1=>aG h1 fun xU s2 h2=>?_) hs;obtain⟨it,fp,tn,J,H2,e,I2,T,g9,f2,W,⟨m0,w0⟩,turn⟩:=h2;subst e;have ED:∀{H':Hp},(∀b∈fp,H' b=none)->∀b∈fp,f9 X pins H' b:=fun hn b hb=>⟨hn b hb,(f2 b hb).2⟩
 refine codeAny_forLoop_any (fun n s'=>∃i aL H',Inv X pins aL H' s'/\tn i s'.heap/\(∀b∈fp,H' b=none)/\W i n aL H') ?_ m0 ⟨0,σ,H2,I2,g9,fun b hb=>(f2 b hb).1,w0⟩;rintro n s3 ⟨i,ir,H3,I3,MH,QT,w3⟩;rcases turn i n ir H3 w3 with ⟨stop,qn⟩ | ⟨go,N,hN,step⟩
 ·refine wpAny_passesOwn hp (aG (T.done X rfl rfl rfl hc i pins s3 ir H3 X.xe I3 (ED QT) MH stop) fun r s4 ⟨hr,I4⟩=>?_)
  subst hr;exact wpAny_execs_nil (fun ht=>⟨ir,H3,I4,qn⟩)
 ·refine wpAny_passesOwn hp (qM (T.item X rfl rfl rfl hc i pins s3 ir H3 X.xe I3 (ED QT) MH go) fun r s4 ht4 ⟨u,hr,h4⟩=>?_)
  subst hr;refine wpAny_passesOwn hp (aG h4 fun _ s5 ⟨x,H5,I5,r5,y5,nV,su⟩=>?_);have I5':=I5.pinned (ED su) (T.obj _ _ nV);refine wpAny_passesOwn hp (aG (hg _ s5 ir H5 x u _ I5' r5 (step x H5 y5)) fun _ s6 ⟨Ua,H6,I6,q6⟩=>?_);refine wpAny_passesOwn hp (aG (hb _ s6 Ua H6 _ I6 q6) fun f s7 q7=>?_);have again:∀{kE:St} {H7:Hp},Inv X (pins++uG fp s5.heap) kE H7 s7->N kE H7->∃m,m<n/\∃i aL H',Inv X pins aL H' s7/\tn i s7.heap/\(∀b∈fp,H' b=none)/\W i m aL H':=fun {kE H7} I7 n7=>by
   obtain⟨m',hm,w7⟩:=hN kE H7 n7;refine⟨m',hm,i+1,kE,H7,I7.qJ,T.keep _ _ _ nV fun b hb o e=>(I7.pin (b,o) (eE _ (eE _ (uL hb e)))).1,fun b hb=>?_,w7⟩;obtain⟨o,e,d⟩:=T.obj _ _ nV b hb;exact(I7.pin (b,o) (eE _ (eE _ (uL hb e)))).2.1
  cases f with
  |next=>obtain⟨kE,H7,I7,n7⟩:=q7; exact again I7 n7
  |cont=>obtain⟨kE,H7,I7,n7⟩:=q7; exact again I7 n7
  |brk=>obtain⟨kE,H7,I7,q7⟩:=q7; exact fun _=>⟨kE,H7,I7.qJ,q7⟩
  |ret v=>obtain⟨x7,kE,H7,I7,r7,q7⟩:=q7; exact fun _=>⟨x7,kE,H7,I7.qJ,r7,q7⟩
end
theorem IV {K:ah}{a:Addr}{xs:List V}{g:TG}{tb:TS}{D:Ends}{σ:St}{H:Hp}(Pv:Nat->St->Hp->Prop)(h0:Pv 0 σ H)(hl:∀i σ H,i<=xs.length->Pv i σ H->bX K H a xs)
  (hs:∀i x σ H,xs[i]?=some x->Pv i σ H->g x σ H fun eC H2=>tb {D with nx:=Pv (i+1),ct:=Pv (i+1),bk:=D.nx} eC H2) (hd:∀σ H,Pv xs.length σ H->D.nx σ H) :
  ∃W:Nat->Nat->St->Hp->Prop,(∃m,W 0 m σ H)/\∀i m σ H,W i m σ H->
   ((sT K a).stop i H/\D.nx σ H)∨((sT K a).go i H/\∃N:St->Hp->Prop,(∀aL H',N aL H'->∃m',m'<m/\W (i+1) m' aL H')/\∀x H',(sT K a).wO i H x H'->g x σ H' fun eC H2=>tb {D with nx:=N,ct:=N,bk:=D.nx} eC H2):=by
 refine⟨fun i m σ H=>m=xs.length - i/\i<=xs.length/\Pv i σ H,⟨xs.length,by simp,gX _,h0⟩,?_⟩;rintro i m σ H ⟨rfl,hi,p⟩;have q:=hl i σ H hi p
 by_cases aT:i<xs.length
 ·refine .inr ⟨⟨xs,xs[i],q,by simp [aT]⟩,Pv (i+1),fun aL H' p'=>⟨xs.length - (i+1),by omega,rfl,aT,p'⟩,fun x H' y=>?_⟩
  obtain⟨e,y⟩:=y;subst e;exact hs i x σ _ (y xs q) p
 ·have e:i=xs.length:=by omega
  subst e;exact .inl ⟨⟨xs,q,bb _⟩,hd σ H p⟩
abbrev R2:=V->V->Hp->VK->Prop
def cx (X:Cx)(f:Value->Value->Sem Value)(r:R2):Prop:=
 ∀(pins:List (Addr×Obj)) (s:Shared) (σ:St) (H:Hp) (x y:V) (v u:Value) (Q:VK),Inv X pins σ H s->RelV x v->RelV y u->r x y H Q->
  wpAny (model X.prog X.w) X.A (f v u) (EP X pins σ Q) X.xe s
def KJ (X:Cx)(f:Value->Sem Value)(r:V->Hp->VK->Prop):Prop:=
 ∀(pins:List (Addr×Obj)) (s:Shared) (σ:St) (H:Hp) (x:V) (v:Value) (Q:VK),Inv X pins σ H s->RelV x v->r x H Q->
  wpAny (model X.prog X.w) X.A (f v) (EP X pins σ Q) X.xe s
def fj (X:Cx)(f:Value)(r:List V->Hp->VK->Prop):Prop:=
 ∀(pins:List (Addr×Obj)) (s:Shared) (σ:St) (H:Hp) (xs:List V) (us:List Value) (Q:VK),Inv X pins σ H s->Vals xs us->r xs H Q->
  wpAny (model X.prog X.w) X.A (call f us) (EP X pins σ Q) X.xe s
def kX (r:R2)(ta tb:TE):TE:=fun σ H Q=>ta σ H fun x H1=>tb σ H1 fun y H2=>r x y H2 Q
def Ml (r:V->Hp->VK->Prop)(ta:TE):TE:=fun σ H Q=>ta σ H fun x H1=>r x H1 Q
def rI (C:Int->Int->Prop)(g:Int->Int->V):R2:=fun x y H Q=>∃i j,x=.int i/\y=.int j/\C i j/\Q (g i j) H
def nX (g:Int->Int->V):R2:=fun x y H Q=>∃i j,x=.int i/\y=.int j/\Q (g i j) H
def rU (g:Int->V):V->Hp->VK->Prop:=fun x H Q=>∃i,x=.int i/\Q (g i) H
section
variable {X:Cx}{a b c:Expr}{ta tb tc:TE}{pos:Pos}
theorem JL (ha:PE X a ta)(hb:PE X b tb){pins:List (Addr×Obj)}{s:Shared}{σ:St}{H:Hp}{R:V->V->Hp->Prop}(I:Inv X pins σ H s)
  (h:ta σ H fun x H1=>tb σ H1 fun y H2=>R x y H2) {Q:Value->Shared->Prop} {f:Value->Value->Sem Value}
  (hf:∀v u s2 x y H2,Inv X pins σ H2 s2->RelV x v->RelV y u->R x y H2->wpAny (model X.prog X.w) X.A (f v u) Q X.xe s2) :
  wpAny (model X.prog X.w) X.A (eval a X.env) (fun v aY=>wpAny (model X.prog X.w) X.A (eval b X.env) (fun u g6=>wpAny (model X.prog X.w) X.A (f v u) Q X.xe g6) X.xe aY) X.xe s:=by
 refine aG (ha pins s σ H _ I h) fun v s1 h_=>?_;obtain⟨x,H1,I1,r1,q1⟩:=h_;refine aG (hb pins s1 σ H1 _ I1 q1) fun u s2 h_=>?_;obtain⟨y,H2,I2,r2,q2⟩:=h_;exact hf v u s2 x y H2 I2 r1 r2 q2
theorem FU {op:Operator}{r:R2}(ho:cx X (binaryOp op) r)(ha:PE X a ta)(hb:PE X b tb):PE X (.BinOp a op b pos) (kX r ta tb):=by
 intro pins s σ H Q I h;exact wpAny_BinOp (JL ha hb I h fun v u s2 x y H2 I2 rx ry q=>ho pins s2 σ H2 x y v u Q I2 rx ry q)
theorem Nz {op:UnaryOp}{r:V->Hp->VK->Prop}(ho:KJ X (unaryOp op) r)(ha:PE X a ta):PE X (.UnaryOp op a pos) (Ml r ta):=by
 intro pins s σ H Q I h;exact UnaryOp_ (aG (ha pins s σ H _ I h) fun v s1 ⟨x,H1,I1,r1,q1⟩=>ho pins s1 σ H1 x v Q I1 r1 q1)
theorem F6 {f:Value->Value->Sem Value}{C:Int->Int->Prop}{g:Int->Int->Int}
  (rule:∀(i j:Int) (t u:Tok) (s:Shared) (Q:Value->Shared->Prop) (E:Value->Shared->Prop),C i j->Q (.int (g i j) s.toks) {s with toks:=s.toks+1}->wpAny (model X.prog X.w) X.A (f (.int i t) (.int j u)) Q E s) :
  cx X f (rI C fun i j=>.int (g i j)):=by
 intro pins s σ H x y v u Q I rx ry h;obtain⟨i,j,rfl,rfl,hc,q⟩:=h;obtain⟨t,rfl⟩:=rx;obtain⟨t',rfl⟩:=ry;exact rule i j t t' s _ _ hc (fun ht=>⟨.int (g i j),H,I.tok _,⟨_,rfl⟩,q⟩)
theorem NR {f:Value->Value->Sem Value}{g:Int->Int->Int}
  (rule:∀(i j:Int) (t u:Tok) (s:Shared) (Q:Value->Shared->Prop) (E:Value->Shared->Prop),Q (.int (g i j) s.toks) {s with toks:=s.toks+1}->wpAny (model X.prog X.w) X.A (f (.int i t) (.int j u)) Q E s) :
  cx X f (nX fun i j=>.int (g i j)):=by
 intro pins s σ H x y v u Q I rx ry h;obtain⟨i,j,rfl,rfl,q⟩:=h;obtain⟨t,rfl⟩:=rx;obtain⟨t',rfl⟩:=ry;exact rule i j t t' s _ _ (fun ht=>⟨.int (g i j),H,I.tok _,⟨_,rfl⟩,q⟩)
theorem F7 {f:Value->Value->Sem Value}{g:Int->Int->Bool}
  (rule:∀(i j:Int) (t u:Tok) (s:Shared) (Q:Value->Shared->Prop) (E:Value->Shared->Prop),Q (.bool (g i j)) s->wpAny (model X.prog X.w) X.A (f (.int i t) (.int j u)) Q E s) :
  cx X f (nX fun i j=>.bl (g i j)):=by
 intro pins s σ H x y v u Q I rx ry h;obtain⟨i,j,rfl,rfl,q⟩:=h;obtain⟨t,rfl⟩:=rx;obtain⟨t',rfl⟩:=ry;exact rule i j t t' s _ _ (fun ht=>⟨.bl (g i j),H,I,rfl,q⟩)
def Lc (i j:Int):Prop:=0<j/\j<1073741824
def Lb (i j:Int):Prop:=(-(2 ^ 64)<i/\i<2 ^ 64)∨(-(2 ^ 64)<j/\j<2 ^ 64)
theorem Lb.ok {i j:Int}(h:Lb i j):IntMulOk i j:=by
 rcases h with ⟨h1,h2⟩ | ⟨h1,h2⟩
 ·exact .of_left (intBits_le_64 h1 h2)
 ·exact .of_right (intBits_le_64 h1 h2)
theorem ZK:cx X (binaryOp .Add) (nX fun i j=>.int (i+j)):=NR fun _ _ _ _ _ _ _ q=>add_int q
theorem Zp:cx X (binaryOp .Sub) (nX fun i j=>.int (i - j)):=NR fun _ _ _ _ _ _ _ q=>sub_int q
theorem Zx:cx X (binaryOp .Mult) (rI Lb fun i j=>.int (i * j)):=F6 fun _ _ _ _ _ _ _ hc q=>mul_int q hc.ok
theorem ZG:cx X (binaryOp .FloorDiv) (rI Lc fun i j=>.int (i / j)):=F6 fun i j _ _ _ _ _ hc q=>by
 have h1:(0:Int)<j:=hc.1;have h2:j<1073741824:=hc.2;exact floordiv_int (by omega) (by rw [Int.fdiv_eq_ediv_of_nonneg i (by omega)]; exact q) (.inl (PyProof.noPylong_small (by omega)))
theorem Zy:cx X (binaryOp .Mod) (rI (fun _ j=>0<j) fun i j=>.int (i % j)):=F6 fun i j _ _ _ _ _ hc q=>by
 have h1:(0:Int)<j:=hc;exact mod_int' (by omega) (by rw [Int.fmod_eq_emod_of_nonneg i (by omega)]; exact q)
theorem Vl {f:Value->Sem Value}{g:Int->Int}
  (rule:∀(i:Int) (t:Tok) (s:Shared) (Q:Value->Shared->Prop) (E:Value->Shared->Prop),Q (.int (g i) s.toks) {s with toks:=s.toks+1}->wpAny (model X.prog X.w) X.A (f (.int i t)) Q E s) :
  KJ X f (rU fun i=>.int (g i)):=by
 intro pins s σ H x v Q I rx h;obtain⟨i,rfl,q⟩:=h;obtain⟨t,rfl⟩:=rx;exact rule i t s _ _ (fun ht=>⟨.int (g i),H,I.tok _,⟨_,rfl⟩,q⟩)
theorem LW:KJ X (unaryOp .USub) (rU fun i=>.int (-i)):=Vl fun _ _ _ _ _ q=>neg_int q
end
def W5:V->V->Bool
 |.aK,.aK=>true | .aK,.int _=>true | .int _,.aK=>true | .aK,.bl _=>true | .bl _,.aK=>true | .aK,.str _=>true | .str _,.aK=>true
 |.int _,.int _=>true | .bl _,.bl _=>true | .str _,.str _=>true | .nh _,.nh _=>true
 |.int _,.str _=>true | .str _,.int _=>true | .bl _,.str _=>true | .str _,.bl _=>true
 |_,_=>false
def Yo:R2:=fun x y H Q=>W5 x y=true/\Q (.bl (!decide (x=y))) H
theorem afI {i j:Int}:decide (V.int i=V.int j)=(i==j):=by
 rw [kI];simp
theorem afK {i j:Bool}:decide (V.bl i=V.bl j)=(i==j):=by
 rw [kI];simp
theorem afH {i j:Str}:decide (V.str i=V.str j)=(i==j):=by
 rw [kI];simp
theorem afJ {i j:Array UInt8}:decide (V.nh i=V.nh j)=(i.toList==j.toList):=by
 rw [kI];cases i;cases j;simp
section
variable {X:Cx}{a b c:Expr}{ta tb tc:TE}{pos:Pos}
theorem gR {pins:List (Addr×Obj)}{σ:St}{H:Hp}{s:Shared}{Q:VK}{k k':Bool}(I:Inv X pins σ H s)(q:Q (.bl k) H)(e:k=k'):EP X pins σ Q (.bool k') s:=by
 subst e;exact(fun ht=>⟨.bl k,H,I,rfl,q⟩)
theorem Zw:cx X (compareOp .NotEq) Yo:=by
 intro pins s σ H x y v u Q I rx ry h;obtain⟨hs,q⟩:=h
 cases x with
 |aK=>
  cases rx
  cases y with
  |aK=>cases ry; exact PySem.EqNone.ne_none_none (gR I q (by simp))
  |bl j=>cases ry; exact PySem.EqNone.ne_none_bool (gR I q (by simp))
  |int j=>obtain⟨t',rfl⟩:=ry; exact PySem.EqNone.ne_none_int (gR I q (by simp))
  |str j=>obtain⟨t',rfl⟩:=ry; exact PySem.EqNone.ne_none_str (gR I q (by simp))
  |_=>exact absurd (show false=true from hs) gy
 |bl i=>
  cases rx
  cases y with
  |aK=>cases ry; exact PySem.EqNone.ne_bool_none (gR I q (by simp))
  |bl j=>cases ry; exact ne_bool (gR I q (congrArg not afK))
  |str j=>obtain⟨t',rfl⟩:=ry; exact PySem.EqMixed.ne_bool_str (gR I q (by simp))
  |_=>exact absurd (show false=true from hs) gy
 |int i=>
  obtain⟨t,rfl⟩:=rx
  cases y with
  |aK=>cases ry; exact PySem.EqNone.ne_int_none (gR I q (by simp))
  |int j=>obtain⟨t',rfl⟩:=ry; exact ne_int (gR I q (congrArg not afI))
  |str j=>obtain⟨t',rfl⟩:=ry; exact PySem.EqMixed.ne_int_str (gR I q (by simp))
  |_=>exact absurd (show false=true from hs) gy
 |str i=>
  obtain⟨t,rfl⟩:=rx
  cases y with
  |aK=>cases ry; exact PySem.EqNone.ne_str_none (gR I q (by simp))
  |bl j=>cases ry; exact PySem.EqMixed.ne_str_bool (gR I q (by simp))
  |int j=>obtain⟨t',rfl⟩:=ry; exact PySem.EqMixed.ne_str_int (gR I q (by simp))
  |str j=>obtain⟨t',rfl⟩:=ry; exact ne_str (gR I q (congrArg not afH))
  |_=>exact absurd (show false=true from hs) gy
 |nh i=>
  obtain⟨t,rfl⟩:=rx
  cases y with
  |nh j=>obtain⟨t',rfl⟩:=ry; exact PySem.W.ne_bytes (gR I q (congrArg not afJ))
  |_=>exact absurd (show false=true from hs) gy
 |_=>cases y <;> exact absurd (show false=true from hs) gy
theorem Zz:cx X (compareOp .Lt) (nX fun i j=>.bl (decide (i<j))):=F7 fun _ _ _ _ _ _ _ q=>lt_int q
theorem ZA:cx X (compareOp .LtE) (nX fun i j=>.bl (decide (i<=j))):=F7 fun _ _ _ _ _ _ _ q=>le_int q
theorem NP:cx X (compareOp .Gt) (nX fun i j=>.bl (decide (j<i))):=F7 fun _ _ _ _ _ _ _ q=>gt_int q
theorem ZC:cx X (compareOp .In) (fun x y H Q=>∃i j,x=.str i/\y=.str j/\Q (.bl (!(Builtin.Str.occurrences j i 0 j.length 1).isEmpty)) H):=by
 intro pins s σ H x y v u Q I rx ry h;obtain⟨i,j,rfl,rfl,q⟩:=h;obtain⟨t,rfl⟩:=rx;obtain⟨t',rfl⟩:=ry;exact in_str (gR I q rfl)
theorem Zr:cx X (compareOp .NotIn) (fun x y H Q=>∃i j,x=.str i/\y=.str j/\Q (.bl (!(!(Builtin.Str.occurrences j i 0 j.length 1).isEmpty))) H):=by
 intro pins s σ H x y v u Q I rx ry h;obtain⟨i,j,rfl,rfl,q⟩:=h;obtain⟨t,rfl⟩:=rx;obtain⟨t',rfl⟩:=ry;exact notIn_str (gR I q rfl)
theorem cx.or {f:Value->Value->Sem Value}{r r':R2}(h:cx X f r)(h':cx X f r'):cx X f (fun x y H Q=>r x y H Q∨r' x y H Q):=by
 intro pins s σ H x y v u Q I rx ry q;rcases q with q | q
 ·exact h pins s σ H x y v u Q I rx ry q
 ·exact h' pins s σ H x y v u Q I rx ry q
theorem bD (b:Expr){op:CmpOp}(h:op≠.In:=by decide)(h2:op≠.NotIn:=by decide):behindInMarks op b=false:=by
 have e1:(op==CmpOp.In)=false:=by cases op <;> first | rfl | exact absurd rfl h
 have e2:(op==CmpOp.NotIn)=false:=by cases op <;> first | rfl | exact absurd rfl h2
 cases b <;> simp [behindInMarks,e1,e2]
theorem Y8 {op:CmpOp}{r:R2}(ho:cx X (compareOp op) r)(ha:PE X a ta)(hb:PE X b tb)(hm:behindInMarks op b=false):PE X (.Compare a [op] [b] pos) (kX r ta tb):=by
 intro pins s σ H Q I h;exact wpAny_Compare1 (JL ha hb I h fun v u s2 x y H2 I2 rx ry q=>ho pins s2 σ H2 x y v u Q I2 rx ry q) hm
def wX (t:TE):TT:=fun σ H Q=>t σ H fun x H'=>∃k,x=.bl k/\Q k H'
theorem xq {op:CmpOp}{r:R2}(ho:cx X (compareOp op) r)(ha:PE X a ta)(hb:PE X b tb)(hm:behindInMarks op b=false):PT X (.Compare a [op] [b] pos) (wX (kX r ta tb)):=by
 intro pins s σ H Q I h;refine wpAny_isTrue_Compare1 (aG (ha pins s σ H _ I h) fun v s1 ⟨x,H1,I1,r1,q1⟩=>aG (hb pins s1 σ H1 _ I1 q1) fun u s2 ⟨y,H2,I2,r2,q2⟩=>
  aG (ho pins s2 σ H2 x y v u _ I2 r1 r2 q2) fun c s3 ⟨z,H3,I3,r3,k,e,q3⟩=>?_) hm
 subst e;cases r3;exact wpAny_truthy_bool (fun ht=>⟨H3,I3,q3⟩)
def Mw (r r':R2)(ta tb tc:TE):TE:=fun σ H Q=>ta σ H fun x H1=>tb σ H1 fun y H2=>r x y H2 fun z H3=>∃k,z=.bl k/\
 (if k=true then tc σ H3 fun w' H4=>r' y w' H4 Q else Q (.bl false) H3)
theorem YB {op cU:CmpOp}{r r':R2}(ho:cx X (compareOp op) r)(iF:cx X (compareOp cU) r')(ha:PE X a ta)(hb:PE X b tb)(hc:PE X c tc)
  (hm:lastMarks [op,cU] [b,c]=false:=by with_unfolding_all rfl):PT X (.Compare a [op,cU] [b,c] pos) (wX (Mw r r' ta tb tc)):=by
 intro pins s σ H Q I h;refine isTrue_chain (aG (ha pins s σ H _ I h) fun v s1 ⟨x,H1,I1,r1,q1⟩=>test_link (aG (hb pins s1 σ H1 _ I1 q1) fun u s2 ⟨y,H2,I2,r2,q2⟩=>
  aG (ho pins s2 σ H2 x y v u _ I2 r1 r2 q2) fun d s3 ⟨z,H3,I3,r3,k,e,q3⟩=>?_)) hm
 subst e;cases r3;refine wpAny_truthy_bool ?_
 cases k with
 |false=>
  obtain⟨k',e',q'⟩:=q3;cases e';exact ite_ff (fun ht=>⟨H3,I3,q'⟩)
 |true=>
  refine ite_tt (test_last (aG (hc pins s3 σ H3 _ I3 q3) fun w' s4 ⟨z',H4,I4,r4,q4⟩=>aG (iF pins s4 σ H4 y z' u w' _ I4 r2 r4 q4) fun d' s5 ⟨z2,H5,I5,r5,k2,e2,q5⟩=>?_));subst e2;cases r5;exact wpAny_truthy_bool (fun ht=>⟨H5,I5,q5⟩)
theorem xP:(sizeLine:Nat)<2 ^ 63:=by rw [sizeLine_eq]; decide
theorem ZI:cx X (binaryOp .Add) (fun x y H Q=>∃i j,x=.str i/\y=.str j/\i.length+j.length<=sizeLine/\Q (.str (i++j)) H):=by
 intro pins s σ H x y v u Q I rx ry h;obtain⟨i,j,rfl,rfl,hz,q⟩:=h;obtain⟨t,rfl⟩:=rx;obtain⟨t',rfl⟩:=ry;exact add_str (fun t' tk=>(fun ht=>⟨.str (i++j),H,I.tok _,⟨_,rfl⟩,q⟩)) hz
theorem vals1 {x:V}{us:List Value}(r:Vals [x] us):∃u,us=[u]/\RelV x u:=by
 cases r with
 |cons r1 r2=>cases r2; exact⟨_,rfl,r1⟩
theorem vals2 {x y:V}{us:List Value}(r:Vals [x,y] us):∃u w',us=[u,w']/\RelV x u/\RelV y w':=by
 cases r with
 |cons r1 r2=>
  cases r2 with
  |cons r3 r4=>cases r4; exact⟨_,_,rfl,r1,r3⟩
theorem agl (hc:X.calm=true):fj X (.builtin "max") (fun xs H Q=>∃i j,xs=[.int i,.int j]/\Q (.int (if j > i then j else i)) H):=by
 intro pins s σ H xs us Q I r h;obtain⟨i,j,rfl,q⟩:=h;obtain⟨u,w',rfl,⟨t,rfl⟩,⟨t',rfl⟩⟩:=vals2 r;refine max_two_ints (I.ok.hd hc) fun h' tk k=>(fun ht=>⟨_,H,I.kept k,?_,q⟩)
 by_cases hj:j > i
 ·rw [if_pos hj,if_pos hj]; exact⟨_,rfl⟩
 ·rw [if_neg hj,if_neg hj]; exact⟨_,rfl⟩
theorem agk (hc:X.calm=true):fj X (.builtin "min") (fun xs H Q=>∃i j,xs=[.int i,.int j]/\Q (.int (if j<i then j else i)) H):=by
 intro pins s σ H xs us Q I r h;obtain⟨i,j,rfl,q⟩:=h;obtain⟨u,w',rfl,⟨t,rfl⟩,⟨t',rfl⟩⟩:=vals2 r;refine min_two_ints (I.ok.hd hc) fun h' tk k=>(fun ht=>⟨_,H,I.kept k,?_,q⟩)
 by_cases hj:j<i
 ·rw [if_pos hj,if_pos hj]; exact⟨_,rfl⟩
 ·rw [if_neg hj,if_neg hj]; exact⟨_,rfl⟩
theorem agq:fj X (.type "int") (fun xs H Q=>(∃i,xs=[.int i]/\Q (.int i) H)∨∃k,xs=[.bl k]/\Q (.int (if k then 1 else 0)) H):=by
 intro pins s σ H xs us Q I r h;rcases h with ⟨i,rfl,q⟩ | ⟨k,rfl,q⟩
 ·obtain⟨u,rfl,t,rfl⟩:=vals1 r
  exact call_int_int (fun ht=>⟨.int i,H,I,⟨_,rfl⟩,q⟩)
 ·obtain⟨u,rfl,r1⟩:=vals1 r
  cases r1;exact call_int_bool (fun ht=>⟨.int (if k then 1 else 0),H,I.tok _,⟨_,rfl⟩,q⟩)
end
structure sS (h:Heap) (x dx C:Addr) (mA:Str->Option Value):Prop where
 obj:h.get? x=some (oX C dx)
 ns:h.Ns1 dx mA
 ne:dx≠x
theorem abo {h:Heap}{dx:Addr}{mA:Str->Option Value}(n:h.Ns1 dx mA):∃od,h.get? dx=some od/\∀name,zx name od=some (mA name):=by
 obtain⟨o,es,ep,ho,hd,hk,_,hm⟩:=n;refine⟨o,ho,fun name=>?_⟩;have e:=hm name;unfold nsFind findBy at e;rw [← Array.find?_toList] at e;unfold zx;rw [hd]
 dsimp only
 split
 ·rename_i y q
  rw [q] at e;exact congrArg some e
 ·rename_i q
  rw [q] at e;have a:es.toList.any (·.refKey)=false:=by
   rw [List.any_eq_false];intro y hy;obtain⟨z,t,HL⟩:=hk y (Array.mem_toList_iff.mp hy);simp [DictEntry.refKey,HL]
  have a':¬ es.toList.any (·.refKey)=true:=by rw [a]; exact gy
  rw [if_neg a'];exact congrArg some e
theorem sS.look {h:Heap}{x dx C:Addr}{mA:Str->Option Value}(I:sS h x dx C mA):∃od,PySem.W.InstAt h x (oX C dx) C (some od)/\∀name,zx name od=some (mA name):=
 let ⟨od,ho,hl⟩:=abo I.ns
 ⟨od,⟨I.obj,rfl,rfl,ho⟩,hl⟩
section
variable {prog:Program}{w:World}{A:Around}{E:Value->Shared->Prop}{s:Shared}{K:ah}{x dx C f:Addr}{mA:Str->Option Value}{name:Str}{v:Value}
theorem get_map {expr:Bool}{Q:Value->Shared->Prop}(X:K.In s.heap)(I:sS s.heap x dx C mA)(hg:zF K C name=true)(hh:Dh K C=true)
  (ha:nG K (.ref C) name=some none) (hv:mA name=some v) (rN:PySem.W.handedIn v=true) (h:Q v {s with toks:=s.toks+1}) :
  wpAny (model prog w) A (getAttr (.ref x) name expr) Q E s:=by
 obtain⟨od,J,hl⟩:=I.look;exact PySem.W.get_value X J (Dl hg).1 (PySem.W.findObj_own hh ha rfl (by rw [hl,hv])) rN h
theorem aeh {pl:Sem Bool}{Q:Value×List Value->Shared->Prop}(X:K.In s.heap)(I:sS s.heap x dx C mA)(hg:zF K C name=true)
  (hf:nG K (.ref C) name=some (some (.ref f))) (ht:PySem.W.isFn K (.ref f)=true) (hv:mA name=none) (h:Q (.ref f,[.ref x]) s) :
  wpAny (model prog w) A (getMethod (.ref x) name pl) Q E s:=by
 obtain⟨od,J,hl⟩:=I.look;exact PySem.W.method_fn X J (Dl hg).1 (Dl hg).2 hf (beq_iff_eq.mp ht) (by show (zx name od).map (·.isSome)=some false; rw [hl,hv]; rfl) h
theorem WZ {ns:List Str}{Q:Unit->Shared->Prop}(X:K.In s.heap)(I:sS s.heap x dx C mA)
  (hs:nG K (.ref C) "__setattr__" = some (some (.builtin "object.__setattr__"))) (hp:PySem.W.plainOver K C=true) (ht:PySem.W.takerIn K C name=some none) (hh:Dh K C=true)
  (hw:PySem.Within mA ns) (hsz:ns.length<=sizeLine)
  (h:∀h',sS h' x dx C (fun y=>if y=name then some v else mA y)->kG dx s.heap h'->Q () {s with heap:=h',toks:=s.toks+2}) :
  wpAny (model prog w) A (setAttr (.ref x) name v) Q E s:=by
 obtain⟨od,J,hl⟩:=I.look;refine PySem.W.set_plain X J hs (PySem.W.osa_open (s:={s with toks:=s.toks+1}) (r:=none) X J hp ht fun b=>?_);obtain⟨cd,hc,qa⟩:=PySem.W.any_some hh;have hx:s.heap.get? x=some ⟨.ref C,some dx,.plain,#[]⟩:=I.obj;refine wpAny_bind (wpAny_pure (wpAny_bind (wpAny_bind (wpAny_loadPart hx (wpAny_bind (PySem.W.Looks.here (s:={s with toks:=s.toks+1}) (PySem.W.looks_clsIn X hc) ?_))))));rw [qa];refine wpAny_pure (a:=some dx) (wpAny_bind (wpAny_pure (wpAny_bind ?_)));refine wpAny_nsSet1 (s:={s with toks:=s.toks+1}) I.ns fun h' ye fD=>?_;obtain⟨oD,esD,epD,hoD,hdD,hcD⟩:=ye.count (PySem.Within.cons name v hw);refine wpAny_bind (wpAny_lookBehind hoD (by rw [hdD]; exact pastItsLine_dict (cK hcD (by rw [eh]; omega))) ?_);exact wpAny_pure (h _ ⟨(fD.2 _ (cb I.ne)).trans I.obj,ye,I.ne⟩ fD)
theorem abd {R:Result->Shared->Prop}{vs:List Value}{kw:List (Str×Value)}(X:K.In s.heap)(hm:PySem.W.makesIn K C=true)
  (hi:nG K (.ref C) "__init__" = some (some (.ref f))) (hf:PySem.W.typeIn K (.ref f)=some (.type "function"))
  (h:codeAny (model prog w) (A.under (.builtin "type.__call__" ⟨.ref C::vs,kw⟩)) (.call (.ref f) ⟨.ref (s.heap.objs.size+1)::vs,kw⟩) (PySem.W.InitBack (s.heap.objs.size+1) R)
   {s with heap:=(s.heap.push nJ).push (oX C s.heap.objs.size)}) :
  codeAny (model prog w) A (.call (.ref C) ⟨vs,kw⟩) R s:=by
 obtain⟨hh,g,d,t,os⟩:=s;exact PySem.W.make_core (PySem.W.makes_of X hm) (PySem.W.looks_findIn X hi) (fun self=>PySem.W.bind_fn X self hf) (.inl rfl) h
end
def ib (f:Str)(v:V):List (Str×V)->List (Str×V)
 | []=>[(f,v)]
 | (g,x)::r=>if g=f then (g,v)::r else (g,x)::ib f v r
theorem OK (f g:Str)(v:V):∀fs:List (Str×V),(ib f v fs).lookup g=if g=f then some v else fs.lookup g
 | []=>by
  show qC g [(f,v)]=_
  by_cases h:g=f
  ·have hb:(g==f)=true:=beq_iff_eq.mpr h
   simp only [qC,hb,if_pos h]
  ·have hb:(g==f)=false:=beq_eq_false_iff_ne.mpr h
   simp only [qC,hb,if_neg h]
 | (k,x)::r=>by
  have ih:=OK f g v r;rw [show ib f v ((k,x)::r)=(if k=f then (k,v)::r else (k,x)::ib f v r) from rfl]
  by_cases hk:k=f
  ·rw [if_pos hk]
   by_cases h:g=k
   ·have hb:(g==k)=true:=beq_iff_eq.mpr h
    simp only [qC,hb,if_pos (h.trans hk)]
   ·have hb:(g==k)=false:=beq_eq_false_iff_ne.mpr h
    simp only [qC,hb,if_neg (fun e:g=f=>h (e.trans hk.symm))]
  ·rw [if_neg hk]
   by_cases h:g=k
   ·have hb:(g==k)=true:=beq_iff_eq.mpr h
    simp only [qC,hb,if_neg (fun e:g=f=>hk (h.symm.trans e))]
   ·have hb:(g==k)=false:=beq_eq_false_iff_ne.mpr h
    simp only [qC,hb];exact ih
theorem GS (f:Str)(v:V):∀fs:List (Str×V),f∈(ib f v fs).map (·.1)/\∀g,g∈fs.map (·.1)->g∈(ib f v fs).map (·.1)
 | []=>⟨by simp [ib],fun g h=>by simp at h⟩
 | (k,x)::r=>by
  obtain⟨i1,i2⟩:=GS f v r;rw [show ib f v ((k,x)::r)=(if k=f then (k,v)::r else (k,x)::ib f v r) from rfl]
  by_cases hk:k=f
  ·rw [if_pos hk]
   subst hk;exact⟨by simp,fun g h=>by simpa using h⟩
  ·rw [if_neg hk]
   refine⟨?_,fun g h=>?_⟩
   ·rw [bI]
    exact cG _ i1
   ·rw [bI] at h ⊢
    rcases bf.mp h with e | e
    ·exact bf.mpr (.inl e)
    ·exact cG _ (i2 g e)
theorem ON (f:Str)(v:V):∀fs:List (Str×V),(ib f v fs).length<=fs.length+1
 | []=>by simp [ib]
 | (k,x)::r=>by
  have ih:=ON f v r;rw [show ib f v ((k,x)::r)=(if k=f then (k,v)::r else (k,x)::ib f v r) from rfl]
  by_cases hk:k=f
  ·rw [if_pos hk,eh,eh]; omega
  ·rw [if_neg hk,eh,eh]; omega
theorem fY.some_of {v:V}{o:Option Value}(r:fY (some v) o):∃u,o=some u/\RelV v u:=by
 cases o with
 |none=>exact(show False from r).elim
 |some u=>exact⟨u,rfl,r⟩
theorem fY.none_of {o:Option Value}(r:fY none o):o=none:=by
 cases o with
 |none=>rfl
 |some u=>exact(show False from r).elim
theorem adK {v:V}{u:Value}(r:RelV v u):PySem.W.handedIn u=true:=by
 cases v with
 |aK=>cases (show u=gW from r); rfl
 |bl b=>cases (show u=Value.bool b from r); rfl
 |int i=>obtain⟨t,e⟩:=(show ∃t,u=Value.int i t from r); cases e; rfl
 |str x=>obtain⟨t,e⟩:=(show ∃t,u=qB x t from r); cases e; rfl
 |nh b=>obtain⟨t,e⟩:=(show ∃t,u=Value.bytes b t from r); cases e; rfl
 |B5 b=>obtain⟨t,e⟩:=(show ∃t,u=Value.float b t from r); cases e; rfl
 |ref a=>cases (show u=bO a from r); rfl
 |ty n=>cases (show u=o8 n from r); rfl
section
variable {P:Program}{w:World}{H H':Hp}{h h':Heap}{a C dx:Addr}{fs oE:List (Str×V)}
theorem He (au:cB P w H h)(e:H a=some (.ins C dx fs)):∃mA,sS h a dx C mA/\(∀f,fY (fs.lookup f) (mA f))/\PySem.Within mA (fs.map (·.1))/\fs.length<=1000/\H dx=some (.own a):=by
 obtain⟨d,z,ne,ob,mA,n,r,q⟩:=(show dC P w H h a (.ins C dx fs) from au a _ e)
 exact⟨mA,⟨ob,n,ne⟩,r,q,z,d⟩
end
structure nA (K:ah) (C:Addr):Prop where
 pg:zF K C Str.empty=true
 hd:Dh K C=true
 po:PySem.W.plainOver K C=true
 sa:nG K (.ref C) "__setattr__" = some (some (.builtin "object.__setattr__"))
theorem nA.get {K:ah}{C:Addr}(c:nA K C)(f:Str):zF K C f=true:=c.pg
def qw (K:ah)(C:Addr)(f:Str):Prop:=nG K (.ref C) f=some none
theorem qw.VG {K:ah}{C:Addr}{f:Str}(n:qw K C f):PySem.W.takerIn K C f=some none:=by
 unfold PySem.W.takerIn;rw [show nG K (.ref C) f=some none from n];rfl
structure Meth (K:ah) (C:Addr) (m:Str) (f:Addr):Prop where
 at_:nG K (.ref C) m=some (some (.ref f))
 fn:PySem.W.isFn K (.ref f)=true
 kp:l9 K (.ref f)=true
section
variable {X:Cx}{pins:List (Addr×Obj)}{σ:St}{H:Hp}{s:Shared}{a C dx:Addr}{fs:List (Str×V)}{f:Str}{v:V}{A:Around}{E:Value->Shared->Prop}
theorem aeg {b:Bool}{Q:Value->Shared->Prop}(I:Inv X pins σ H s)(e:H a=some (.ins C dx fs))(c:nA X.K C)(n:qw X.K C f)(l:fs.lookup f=some v)
  (h:∀u s',Inv X pins σ H s'->RelV v u->Q u s'):wpAny (model X.prog X.w) A (getAttr (.ref a) f b) Q E s:=by
 obtain⟨mA,O,r,_,_,_⟩:=He I.au e;obtain⟨u,hu,ru⟩:=fY.some_of (v:=v) (o:=mA f) (by rw [← l]; exact r f);exact get_map I.e8 O (c.get f) c.hd n hu (adK ru) (h u _ (I.tok _) ru)
theorem QM {m:Str}{g:Addr}{pl:Sem Bool}{Q:Value×List Value->Shared->Prop}(I:Inv X pins σ H s)(e:H a=some (.ins C dx fs))(c:nA X.K C)(k:Meth X.K C m g)(l:fs.lookup m=none)
  (h:Q (.ref g,[.ref a]) s):wpAny (model X.prog X.w) A (getMethod (.ref a) m pl) Q E s:=by
 obtain⟨mA,O,r,_,_,_⟩:=He I.au e;have hn:mA m=none:=fY.none_of (by rw [← l]; exact r m);exact aeh I.e8 O (c.get m) k.at_ k.fn hn h
theorem WY {y:V}{u:Value}{Q:Unit->Shared->Prop}(I:Inv X pins σ H s)(e:H a=some (.ins C dx fs))(c:nA X.K C)(n:qw X.K C f)(hl:fs.length<1000)(ry:RelV y u)
  (h:∀s',Inv X pins σ (upd H a (.ins C dx (ib f y fs))) s'->Q () s'):wpAny (model X.prog X.w) A (setAttr (.ref a) f u) Q E s:=by
 obtain⟨mA,O,r,wi,_,ho⟩:=He I.au e;have hz:(fs.map (·.1)).length<=sizeLine:=by rw [ef,sizeLine_eq]; omega
 refine WZ I.e8 O c.sa c.po n.VG c.hd wi hz fun h' O' sb=>h _ ?_;have hd:∃o,h'.get? dx=some o:=let ⟨o,_,_,e',_⟩:=O'.ns; ⟨o,e'⟩
 refine I.write (x:=a) (e:=dx) (by rw [e]; exact me) (.inr ho) (fun b q hb z=>(sb.2 b hb).trans z) hd ?_ (by first | exact I.tk | exact Nat.succ_pos _);refine⟨by rw [aF O.ne]; exact ho,?_,O.ne,O'.obj,_,O'.ns,fun g=>?_,fun g hg=>?_⟩
 ·have:=ON f y fs; omega
 ·show fY ((ib f y fs).lookup g) (if g=f then some u else mA g)
  rw [OK]
  by_cases q:g=f
  ·rw [if_pos q,if_pos q]; exact ry
  ·rw [if_neg q,if_neg q]; exact r g
 ·by_cases q:g=f
  ·rw [q]; exact(GS f y fs).1
  ·refine(GS f y fs).2 g (wi g fun z=>hg ?_)
   show (if g=f then some u else mA g)=none;rw [if_neg q]; exact z
theorem Inv.made (I:Inv X pins σ H s):Inv X pins σ (upd (upd H s.heap.objs.size (.own (s.heap.objs.size+1))) (s.heap.objs.size+1) (.ins C s.heap.objs.size []))
  {s with heap:=(s.heap.push nJ).push (oX C s.heap.objs.size)}:=by
 have e1:(s.heap.push nJ).get? s.heap.objs.size=some nJ:=cS s.heap rfl;have e2:((s.heap.push nJ).push (oX C s.heap.objs.size)).get? (s.heap.objs.size+1)=some (oX C s.heap.objs.size):=by
  have:=cS (s.heap.push nJ) (o:=oX C s.heap.objs.size) rfl
  rwa [kH] at this
 have e3:(s.heap.push nJ).Ns s.heap.objs.size (fun _=>none):=⟨nJ,#[],_,e1,rfl,(fun e he=>absurd he (by simp)),fun _=>rfl⟩
 have I1:=I.laid (a:=s.heap.objs.size) (o:=.own (s.heap.objs.size+1)) (h':=s.heap.push nJ) (t':=s.toks) (fun b u q=>aZ _ q) (bb _) ⟨_,e1⟩;refine I1.laid (a:=s.heap.objs.size+1) (o:=.ins C s.heap.objs.size []) (t':=s.toks) (fun b u q=>aZ _ q) (Nat.le_of_eq (kH _ _)) ?_;have ne:s.heap.objs.size≠s.heap.objs.size+1:=bQ (zE _);refine⟨by rw [aF ne,aX],gX _,ne,e2,fun _=>none,(Heap.Ns1.of_empty e3).at fun o q=>aZ _ q,fun _=>me,fun y hy=>absurd rfl hy⟩
theorem agW {prog:Program}{w:World}{env:Env}{e:Expr}{f:Str}{pos:Pos}{s:Shared}{Q:Value->Shared->Prop}(hb:attributeBase e f env (eval e env)=eval e env)
  (h:wpAny (model prog w) A (eval e env) (fun o aY=>wpAny (model prog w) A (getAttr o f true) Q E aY) E s):wpAny (model prog w) A (eval (.Attribute e f pos) env) Q E s:=
 Attribute_any_ h (by rw [arm_eval_Attribute,hb])
end
def Mu (K:ah)(ta:TE)(f:Str):TE:=fun σ H Q=>ta σ H fun x H1=>∃a C dx fs v,x=.ref a/\H1 a=some (.ins C dx fs)/\nA K C/\qw K C f/\fs.lookup f=some v/\Q v H1
def Fg (K:ah)(ta tv:TE)(f:Str):TS:=fun D σ H=>tv σ H fun y H1=>ta σ H1 fun x H2=>∃a C dx fs,x=.ref a/\H2 a=some (.ins C dx fs)/\nA K C/\qw K C f/\fs.length<1000/\
 D.nx σ (upd H2 a (.ins C dx (ib f y fs)))
section
variable {X:Cx}{o e value:Expr}{f:Str}{pos pos' qL:Pos}{ta tv:TE}
theorem lr (he:PE X e ta)(hb:attributeBase e f X.env (eval e X.env)=eval e X.env):PE X (.Attribute e f pos) (Mu X.K ta f):=by
 intro pins s σ H Q I h;refine agW hb (aG (he pins s σ H _ I h) fun u s1 ⟨x,H1,I1,rx,a,C,dx,fs,v,ex,ea,c,n,l,q⟩=>?_);subst ex;obtain rfl:u=bO a:=rx;exact aeg I1 ea c n l fun u' s2 I2 ru=>(fun ht=>⟨v,H1,I2,ru,q⟩)
theorem Nn (ha:PE X o ta)(hv:PE X value tv)(hs:swapsWith value (some (.Attribute o f pos')) pos.line X.env=pure false):PS X (.Assign [.Attribute o f pos'] value pos) (Fg X.K ta tv f):=by
 intro pins s σ H D I h;refine plainObj_wpAny_Assign_Attribute (aG (hv pins s σ H _ I h) fun u s1 ⟨y,H1,I1,ry,q⟩=>aG (ha pins s1 σ H1 _ I1 q) fun ov s2 ⟨x,H2,I2,rx,a,C,dx,fs,ex,ea,c,n,l,q2⟩=>?_) hs;subst ex;obtain rfl:ov=bO a:=rx;exact WY I2 ea c n l ry fun s3 I3=>(fun ht=>⟨σ,_,I3,q2⟩)
end
structure bF (k:Nat) (A:Around):Prop where
 hd:A.handled=none
 dp:A.depth+3 * k+5<recursionLimit
 un:A.units+16 * k+200<cLine
 gd:A.guards=some []
theorem bF.mono {j k:Nat}{A:Around}(r:bF k A)(h:j<=k):bF j A:=⟨r.hd,by have:=r.dp; omega,by have:=r.un; omega,r.gd⟩
theorem bF.deeper {k:Nat}{A:Around}(r:bF (k+1) A)(env:Env):bF k (A.deeper env):=
 ⟨r.hd,by have:=r.dp; show A.depth+1+3 * k+5<_; omega,by have:=r.un; show A.units+3+16 * k+200<_; omega,r.gd⟩
theorem abe {A:Around}{C:Addr}{us:List Value}{kw:List (Str×Value)}:(A.under (.builtin "type.__call__" ⟨.ref C::us,kw⟩)).depth=A.depth+1:=by
 first | rfl | simp [zr,Code.weight,Code.isCreation,Code.isGuard,Code.isCaller,Code.frames,Code.isFrame,guardIds]
theorem abc {A:Around}{C:Addr}{us:List Value}{kw:List (Str×Value)}:(A.under (.builtin "type.__call__" ⟨.ref C::us,kw⟩)).units=A.units+1:=by
 first | rfl | simp [zr,Code.cUnits,Code.frames,Code.isFrame]
theorem bF.make {k:Nat}{A:Around}(r:bF (k+1) A)(C:Addr)(us:List Value)(kw:List (Str×Value)):bF k (A.under (.builtin "type.__call__" ⟨.ref C::us,kw⟩)):=
 ⟨r.hd,by have:=r.dp; rw [abe]; omega,by have:=r.un; rw [abc]; omega,by have g:=r.gd; simp [zr,Code.guards,Code.isGuard,guardIds,pushGuards,g]⟩
theorem bF.depth {k:Nat}{A:Around}(r:bF k A):A.depth<recursionLimit:=by have:=r.dp; omega
def ix:TA:=fun _ H Q=>Q [] H
def jy (ta:TE)(tr:TA):TA:=fun σ H Q=>ta σ H fun x H1=>tr σ H1 fun xs H2=>Q (x::xs) H2
section
variable {X:Cx}{e:Expr}{es:List Expr}{te:TE}{t:TA}{pos:Pos}
theorem cC:PA X [] ix:=fun _ _ _ _ H Q I h=>nI (fun ht=>⟨[],H,I,.nil,h⟩)
theorem Zb (ha:PE X e te)(hr:PA X es t)(hs:starEach (e::es) X.env=(false,eval e X.env)::starEach es X.env:=by rfl):PA X (e::es) (jy te t):=by
 intro pos pins s σ H Q I h;rw [hs];show wpAny _ _ (spliced ((false,eval e X.env)::backTo pos (starEach es X.env))) _ _ s;refine md (aG (ha pins s σ H _ I h) fun u s1 ⟨x,H1,I1,r1,q1⟩=>?_);exact aG (hr pos pins s1 σ H1 _ I1 q1) fun us s2 ⟨xs,H2,I2,r2,q2⟩=>(fun ht=>⟨x::xs,H2,I2,.cons r1 r2,q2⟩)
def El (t:TA):TE:=fun σ H Q=>t σ H fun xs H1=>xs.length<=sizeLine/\∀p,H1 p=none->Q (.ref p) (upd H1 p (.tup xs))
def Ep (t:TA):TE:=fun σ H Q=>t σ H fun xs H1=>xs.length<=sizeLine/\∀p,H1 p=none->Q (.ref p) (upd H1 p (.lst xs))
theorem AL {x1}(h:PA X es t):PE X (.Tuple es x1 pos) (El t):=by
 intro pins s σ H Q I hq;refine wpAny_Tuple_spliced (aG (h pos pins s σ H _ I hq) fun us s1 ⟨xs,H1,I1,r,z,q⟩=>⟨by rw [← r.length]; exact z,?_⟩);have hf:H1 s1.heap.objs.size=none:=I1.au.fresh (bb _);refine(fun ht=>⟨.ref s1.heap.objs.size,upd H1 s1.heap.objs.size (.tup xs),I1.laid (t':=s1.toks) (fun b u e=>aZ _ e) (bb _) ?_,rfl,q _ hf⟩);exact⟨z,us,r,⟨_,cS _ rfl,rfl,_,rfl⟩⟩
theorem pE (h:PA X es t):PE X (.List es pos) (Ep t):=by
 intro pins s σ H Q I hq;refine wpAny_List_spliced (aG (h pos pins s σ H _ I hq) fun us s1 ⟨xs,H1,I1,r,z,q⟩=>⟨by rw [← r.length]; exact z,?_⟩);have hf:H1 s1.heap.objs.size=none:=I1.au.fresh (bb _);refine(fun ht=>⟨.ref s1.heap.objs.size,upd H1 s1.heap.objs.size (.lst xs),I1.laid (t':=s1.toks) (fun b u e=>aZ _ e) (bb _) ?_,rfl,q _ hf⟩);exact⟨z,us,0,r,cS _ rfl⟩
end
abbrev Sp:=List V->Hp->VK->XK->Prop
abbrev gx:=List Env->Hp->Shared->XK->Value->Shared->Prop
structure jk (P:Program) (w:World) (K:ah) (mg:Str->Option Value) (base:Heap) (A:Around) (outer:List Env) (s:Shared) (H:Hp):Prop where
 frames:A.frames=some outer
 mod:Mod K mg base
 bs:∀b o,base.get? b=some o->s.heap.get? b=some o/\H b=none
 jf:base.objs.size<=s.heap.objs.size
 eL:s.heap.FunFrames base outer
 gQ:∀b∈aH outer,H b=none
 au:cB P w H s.heap
 bare:AllBare s.gens
def CE (outer:List Env)(P:Program)(w:World)(H:Hp)(s:Shared)(Q:VK)(u:Value)(s':Shared):Prop:=
 ∃v H',s'.os=s.os/\AllBare s'.gens/\Un (aH outer) [] H H' s.heap s'.heap/\cB P w H' s'.heap/\RelV v u/\Q v H'
def CR (CX:gx)(outer:List Env)(P:Program)(w:World)(H:Hp)(s:Shared)(Q:VK)(E:XK)(r:Result)(s':Shared):Prop:=
 match r with
 |.ok (.ret u)=>CE outer P w H s Q u s'
 |.ok _=>False
 |.error e=>CX outer H s E e s'
abbrev dR:Str:="_law_script"
structure cR (P:Program) (w:World) (K:ah) (mg:Str->Option Value) (base:Heap) (CX:gx) (k:Nat) (f:Addr) (fd:FuncData) (ps:List Str) (sp:Sp):Prop where
 len:∀vs H Q E,sp vs H Q E->vs.length=ps.length
 run:∀(A:Around) (outer:List Env) (s:Shared) (H:Hp) (args:Args) (us:List Value) (vs:List V) (Q:VK) (E:XK),bF k A->jk P w K mg base A outer s H->(0<s.toks∨ps=[dR])->BindsTo s fd args (ps.zip us)->Vals vs us->sp vs H Q E->
  codeAny (model P w) A (.call (.ref f) args) (CR CX outer P w H s Q E) s
theorem cR.imp {P:Program}{w:World}{K:ah}{mg:Str->Option Value}{base:Heap}{CX:gx}{k:Nat}{f:Addr}{fd:FuncData}{ps:List Str}{sp MM:Sp}(F:cR P w K mg base CX k f fd ps sp)
  (h:∀vs H Q E,MM vs H Q E->sp vs H Q E):cR P w K mg base CX k f fd ps MM:=
 ⟨fun vs H Q E q=>F.len vs H Q E (h _ _ _ _ q),fun A outer s H args us vs Q E hr he ht hb hv hs=>F.run A outer s H args us vs Q E hr he ht hb hv (h _ _ _ _ hs)⟩
theorem jk.make {P:Program}{w:World}{K:ah}{mg:Str->Option Value}{base:Heap}{A:Around}{outer:List Env}{s:Shared}{H:Hp}(e:jk P w K mg base A outer s H)(C:Addr)(us:List Value)(kw:List (Str×Value)) :
  jk P w K mg base (A.under (.builtin "type.__call__" ⟨.ref C::us,kw⟩)) outer s H:=⟨by first | exact e.frames | (simpa [zr,Code.envs,Code.isFrame,pushEnvs] using e.frames),e.mod,e.bs,e.jf,e.eL,e.gQ,e.au,e.bare⟩
section
variable {X:Cx}{pins:List (Addr×Obj)}{σ:St}{H:Hp}{s s':Shared}
theorem Inv.yB (I:Inv X pins σ H s):jk X.prog X.w X.K X.mg X.base X.A X.stack s H:=
 ⟨I.ok.frames,I.ok.mod,I.bs,cK I.ok.jf I.sz,I.stack,I.xg,I.au,I.bare⟩
theorem Inv.after {Q:VK}{u:Value}(I:Inv X pins σ H s)(h:CE X.stack X.prog X.w H s Q u s'):EP X pins σ Q u s':=by
 obtain⟨v,H',os,bare,un,au,r,q⟩:=h;obtain⟨hh,g,d,t,lC⟩:=s';obtain rfl:lC=s.os:=os;exact(fun ht=>⟨v,H',I.call (h':=hh) (g':=g) (d':=d) (t':=t) (ch:=[]) un au bare (fun b z=>absurd z (by simp)),r,q⟩)
end
def Es (sp:Sp)(dvs:List V)(E:XK)(t:TA):TE:=fun σ H Q=>t σ H fun vs H1=>sp (vs++dvs) H1 Q E
def Mp (C:Addr)(m:Str)(sp:Sp)(dvs:List V)(E:XK)(ta:TE)(t:TA):TE:=fun σ H Q=>ta σ H fun x H1=>∃a dx fs,x=.ref a/\H1 a=some (.ins C dx fs)/\fs.lookup m=none/\
 t σ H1 fun vs H2=>sp (x::(vs++dvs)) H2 Q E
def V6 (C:Addr)(sp:Sp)(dvs:List V)(E:XK)(t:TA):TE:=fun σ H Q=>t σ H fun vs H1=>∀x dx,H1 x=none->H1 dx=none->dx≠x->
 sp (.ref x::(vs++dvs)) (upd (upd H1 dx (.own x)) x (.ins C dx [])) (fun v H2=>v=.aK/\Q (.ref x) H2) E
def Binds (K:ah)(fd:FuncData)(ps:List Str)(ds:List Value):Prop:=
 ∀(s:Shared) (us:List Value),K.In s.heap->(us++ds).length=ps.length->BindsTo s fd ⟨us,[]⟩ (ps.zip (us++ds))
theorem Binds.all {K:ah}{fd:FuncData}{ps:List Str}(h:∀us:List Value,us.length=ps.length->bindArgs fd ⟨us,[]⟩=pure (ps.zip us)):Binds K fd ps []:=fun s us _ hl=>by
 rw [kJ] at hl ⊢;exact .of_eq (h us hl)
def Passes (CX:gx)(X:Cx)(E:XK):Prop:=∀(pins:List (Addr×Obj)) (σ:St) (H:Hp) (s:Shared) (e:Value) (s':Shared),Inv X pins σ H s->CX X.stack H s E e s'->X.xe e s'
section
variable {X:Cx}{CX:gx}{k:Nat}{f C:Addr}{fd:FuncData}{ps:List Str}{sp:Sp}{dvs:List V}{ds:List Value}{E:XK}{x m:Str}{p pos apos:Pos}{e o:Expr}{es:List Expr}{ta:TE}{t:TA}
theorem Fn {pins:List (Addr×Obj)}{σ:St}{H:Hp}{s:Shared}{Q:VK}{us:List Value}{vs:List V}(F:cR X.prog X.w X.K X.mg X.base CX k f fd ps sp)(hr:bF k X.A)(hb:Binds X.K fd ps ds)(hd:Vals dvs ds)(hx:Passes CX X E)
  (I:Inv X pins σ H s) (r:Vals vs us) (h:sp (vs++dvs) H Q E):wpAny (model X.prog X.w) X.A (call (.ref f) us) (EP X pins σ Q) X.xe s:=by
 have r2:Vals (vs++dvs) (us++ds):=r.append hd;have hl:(us++ds).length=ps.length:=by rw [← r2.length]; exact F.len _ _ _ _ h
 refine wpAny_call (codeAny_mono (F.run X.A X.stack s H ⟨us,[]⟩ (us++ds) (vs++dvs) Q E hr I.yB (.inl I.tk) (hb s us I.e8 hl) r2 h) fun r s' hq=>?_)
 cases r with
 |error e=>exact hx pins σ H s e s' I hq
 |ok fl=>
  cases fl with
  |ret u=>exact I.after hq
  |next=>exact dN hq
  |brk=>exact dN hq
  |cont=>exact dN hq
theorem Y9 (F:cR X.prog X.w X.K X.mg X.base CX k f fd ps sp)(hr:bF k X.A)(hg:Gl X x)(hm:X.mg x=some (.ref f))(hk:l9 X.K (.ref f)=true)(hb:Binds X.K fd ps ds)(hd:Vals dvs ds)(hx:Passes CX X E)
  (ha:PA X (e::es) t) (gN:(x==("__debug__" : Str))=false:=by decide) (he:starEach (e::es) X.env=(false,eval e X.env)::starEach es X.env:=by rfl) (dS:(backTo pos (starEach es X.env)).any (·.1)=false:=by rfl) :
  PE X (.Call (.Name x p) (e::es) [] pos) (Es sp dvs E t):=by
 intro pins s σ H Q I h;refine wpAny_Call_Name_kw (uQ I hg hm ?_ gN);refine zM (h₀:=X.base) I.ok.mod.lF hk (aG (ha pos pins s σ H _ I h) fun us s1 ⟨vs,H1,I1,r,q⟩=>⟨I1.e8,?_⟩) he dS;exact Fn F hr hb hd hx I1 r q
theorem Y1 {pl:Sem Bool}(he:PE X o ta)(c:nA X.K C)(hm:Meth X.K C m f)(F:cR X.prog X.w X.K X.mg X.base CX k f fd ps sp)(hr:bF k X.A)(hb:Binds X.K fd ps ds)(hd:Vals dvs ds)(hx:Passes CX X E)(ha:PA X (e::es) t)
  (bz:starEach (e::es) X.env=(false,eval e X.env)::starEach es X.env:=by rfl) (dS:(backTo pos (starEach es X.env)).any (·.1)=false:=by rfl)
  (ht:eval (.Call (.Attribute o m apos) (e::es) [] pos) X.env=(do
   let ov ← eval o X.env
   standAt apos.atName
   let (f,first) ← holding [ov] (getMethod ov m pl)
   callWith pos f first (backTo pos (starEach (e::es) X.env)) (backToKw pos (keywordEach [] X.env))):=by rfl) :
  PE X (.Call (.Attribute o m apos) (e::es) [] pos) (Mp C m sp dvs E ta t):=by
 intro pins s σ H Q I h;refine PySem.W.methodCall_KW (pl:=pl) (aG (he pins s σ H _ I h) fun u s1 ⟨x,H1,I1,rx,a,dx,fs,ex,ea,l,q⟩=>?_) ht;subst ex;obtain rfl:u=bO a:=rx;refine QM I1 ea c hm l ?_;refine zM (first:=[.ref a]) (h₀:=X.base) I.ok.mod.lF hm.kp (aG (ha pos pins s1 σ H1 _ I1 q) fun us s2 ⟨vs,H2,I2,r,q2⟩=>⟨I2.e8,?_⟩) bz dS;exact Fn (us:=.ref a::us) (vs:=.ref a::vs) F hr hb hd hx I2 (.cons rfl r) q2
theorem Y0 {pl:Sem Bool}(he:PE X o ta)(c:nA X.K C)(hm:Meth X.K C m f)(F:cR X.prog X.w X.K X.mg X.base CX k f fd ps sp)(hr:bF k X.A)(hb:Binds X.K fd ps ds)(hd:Vals dvs ds)(hx:Passes CX X E)
  (ht:eval (.Call (.Attribute o m apos) [] [] pos) X.env=(do
   let ov ← eval o X.env
   standAt apos.atName
   let (f,first) ← holding [ov] (getMethod ov m pl)
   callWith pos f first (backTo pos (starEach [] X.env)) (backToKw pos (keywordEach [] X.env))):=by rfl) :
  PE X (.Call (.Attribute o m apos) [] [] pos) (Mp C m sp dvs E ta ix):=by
 intro pins s σ H Q I h;refine PySem.W.methodCall_KW (pl:=pl) (aG (he pins s σ H _ I h) fun u s1 ⟨x,H1,I1,rx,a,dx,fs,ex,ea,l,q⟩=>?_) ht;subst ex;obtain rfl:u=bO a:=rx;refine QM I1 ea c hm l ?_;exact PySem.W.callWith_K0 (first:=[.ref a]) I1.e8 hm.kp (Fn (us:=[.ref a]) (vs:=[.ref a]) F hr hb hd hx I1 (.cons rfl .nil) q)
structure Mk (K:ah) (C f:Addr):Prop where
 makes:PySem.W.makesIn K C=true
 init:nG K (.ref C) "__init__" = some (some (.ref f))
 fn:PySem.W.isFn K (.ref f)=true
 kp:l9 K (.ref C)=true
theorem X5 {pins:List (Addr×Obj)}{σ:St}{H:Hp}{s:Shared}{Q:VK}{us:List Value}{vs:List V}(M:Mk X.K C f)(F:cR X.prog X.w X.K X.mg X.base CX k f fd ps sp)(hr:bF (k+1) X.A)(hb:Binds X.K fd ps ds)(hd:Vals dvs ds)
  (hx:Passes CX X E) (I:Inv X pins σ H s) (r:Vals vs us)
  (h:∀x dx,H x=none->H dx=none->dx≠x->sp (.ref x::(vs++dvs)) (upd (upd H dx (.own x)) x (.ins C dx [])) (fun v H2=>v=.aK/\Q (.ref x) H2) E) :
  wpAny (model X.prog X.w) X.A (call (.ref C) us) (EP X pins σ Q) X.xe s:=by
 have hq:=h (s.heap.objs.size+1) s.heap.objs.size (I.au.fresh (ti _)) (I.au.fresh (bb _)) (bQ (zE _));have I2:=Inv.made (C:=C) I;have r2:Vals (V.ref (s.heap.objs.size+1)::(vs++dvs)) (bO (s.heap.objs.size+1)::(us++ds)):=.cons rfl (r.append hd);have hl:(bO (s.heap.objs.size+1)::us++ds).length=ps.length:=by
  have e:=r2.length;rw [F.len _ _ _ _ hq] at e;exact e.symm
 refine wpAny_call (abd (f:=f) I.e8 M.makes M.init (beq_iff_eq.mp M.fn) (codeAny_mono (F.run _ X.stack _ _ ⟨bO (s.heap.objs.size+1)::us,[]⟩ (bO (s.heap.objs.size+1)::(us++ds)) _ _ E (hr.make C us [])
  (I2.yB.make C us []) (.inl I2.tk) (hb _ (bO (s.heap.objs.size+1)::us) I2.e8 hl) r2 hq) fun r s' va=>?_))
 cases r with
 |error e=>exact hx pins σ _ _ e s' I2 va
 |ok fl=>
  cases fl with
  |ret u=>
   obtain⟨v0,_,_,_,_,_,X3,ev0,_⟩:=id va;subst ev0;exact⟨X3,fun ht=>by
    obtain⟨v,H',I3,rv,ev,q3⟩:=I2.after va ht;exact⟨V.ref (s.heap.objs.size+1),H',I3,rfl,q3⟩⟩
  |next=>exact dN va
  |brk=>exact dN va
  |cont=>exact dN va
theorem Y2 (M:Mk X.K C f)(F:cR X.prog X.w X.K X.mg X.base CX k f fd ps sp)(hr:bF (k+1) X.A)(hg:Gl X x)(hm:X.mg x=some (.ref C))(hb:Binds X.K fd ps ds)(hd:Vals dvs ds)(hx:Passes CX X E)
  (gN:(x==("__debug__" : Str))=false:=by decide):PE X (.Call (.Name x p) [] [] pos) (V6 C sp dvs E ix):=by
 intro pins s σ H Q I h;refine wpAny_Call_Name_kw (uQ I hg hm ?_ gN);exact PySem.W.callWith_K0 I.e8 M.kp (X5 (us:=[]) M F hr hb hd hx I .nil h)
end
structure bC (N P:List Str) (sc:Scope):Prop where
 kind:sc.kind=.function
 co:sc.isCoroutine=false
 gen:sc.isGenerator=false
 nd:N.Nodup
 pre:N.take P.length=P
 par:∀x∈P,sc.names.lookup x=some .local∨sc.names.lookup x=some .cell
 fst:P=[dR]->sc.names.lookup dR=some .local∨sc.names.lookup dR=some .cell
 Oc:∀y∈sc.names,y.2≠.free
theorem SI {kindOf:Str->Option NameKind}{x:Str}:∀{binds:List (Str×Value)}{m:Str->Option Value},(∀v,(x,v)∉binds)->bindL kindOf binds m x=m x
 | [],_,_=>rfl
 | (n,v)::r,m,h=>by
  unfold bindL;rw [SI fun w hw=>h w (cG _ hw)]
  split
  ·have:x≠n:=by rintro rfl; exact h v bN
   simp [this]
  ·rfl
theorem SJ {kindOf:Str->Option NameKind}{x:Str}:∀{binds:List (Str×Value)}{m:Str->Option Value},(∀v,(x,v)∉binds)->bindC kindOf binds m x=m x
 | [],_,_=>rfl
 | (n,v)::r,m,h=>by
  unfold bindC;rw [SJ fun w hw=>h w (cG _ hw)]
  split
  ·rfl
  ·have:x≠n:=by rintro rfl; exact h v bN
   simp [this]
theorem JJ {kindOf:Str->Option NameKind}{x:Str}{v:Value}:∀{P:List Str}{vs:List Value}{i:Nat}{m:Str->Option Value},P.Nodup->P[i]?=some x->vs[i]?=some v->kindOf x=some .local->
  bindL kindOf (P.zip vs) m x=some v
 | [],_,_,_,_,h,_,_=>by simp at h
 |_::_,[],_,_,_,_,h,_=>by simp at h
 |p::P,w::vs,0,m,nd,h1,h2,hk=>by
  simp at h1 h2; subst h1; subst h2;show bindL kindOf ((p,w)::P.zip vs) m p=_;unfold bindL;rw [SI fun v hv=>(oY.mp nd).1 (wF hv).1,if_pos hk];simp
 |p::P,w::vs,i+1,m,nd,h1,h2,hk=>by
  show bindL kindOf ((p,w)::P.zip vs) m x=_;unfold bindL;exact JJ (i:=i) (oY.mp nd).2 (by simpa using h1) (by simpa using h2) hk
theorem JK {kindOf:Str->Option NameKind}{x:Str}{v:Value}:∀{P:List Str}{vs:List Value}{i:Nat}{m:Str->Option Value},P.Nodup->P[i]?=some x->vs[i]?=some v->kindOf x≠some .local->
  bindC kindOf (P.zip vs) m x=some v
 | [],_,_,_,_,h,_,_=>by simp at h
 |_::_,[],_,_,_,_,h,_=>by simp at h
 |p::P,w::vs,0,m,nd,h1,h2,hk=>by
  simp at h1 h2; subst h1; subst h2;show bindC kindOf ((p,w)::P.zip vs) m p=_;unfold bindC;rw [SJ fun v hv=>(oY.mp nd).1 (wF hv).1,if_neg hk];simp
 |p::P,w::vs,i+1,m,nd,h1,h2,hk=>by
  show bindC kindOf ((p,w)::P.zip vs) m x=_;unfold bindC;exact JK (i:=i) (oY.mp nd).2 (by simpa using h1) (by simpa using h2) hk
def start (N:List Str)(vs:List V):St:=vs.map some++bM (N.length - vs.length) none
def bW (CX:gx)(P:Program)(w:World)(K:ah)(mg:Str->Option Value)(base:Heap)(N:List Str)(qual:Str)(scope:Scope)(f:Addr)(cd:Value)(A:Around)(outer:List Env)(s:Shared)(H:Hp)(E:XK):Cx where
 prog:=P
 w:=w
 K:=K
 mg:=mg
 base:=base
 A:=A.deeper (envOfC qual scope s.heap.objs.size f cd)
 N:=N
 aJ:=s
 a8:=H
 env:=envOfC qual scope s.heap.objs.size f cd
 outer:=outer
 stack:=envOfC qual scope s.heap.objs.size f cd::outer
 ex:=[]
 calm:=true
 fn:=fun _=>true
 pn:=[]
 xe:=fun e s'=>wpAny (model P w) (A.deeper (envOfC qual scope s.heap.objs.size f cd)) (leaving (envOfC qual scope s.heap.objs.size f cd) e) (fun _ gD=>CX outer H s E e gD) (fun e' gD=>CX outer H s E e' gD) s'
theorem Co {sc:Scope}{n:Nat}{x:Str}(h:sc.names.lookup x=some .cell):∃c,(cellsFrom n sc.names []).lookup x=some c:=by
 have q:=wz sc.names n [] (.inl h);exact jr.mp q
theorem ack {CX:gx}{P:Program}{w:World}{K:ah}{mg:Str->Option Value}{base:Heap}{N ps:List Str}{qual:Str}{scope:Scope}{f:Addr}{cd:Value}{A:Around}{outer:List Env}{s s1:Shared}{H:Hp}{E:XK}{us:List Value}{vs:List V}
  (S:bC N ps scope) (hd:A.handled=none) (e0:jk P w K mg base A outer s H) (hl:vs.length=ps.length) (r:Vals vs us)
  (x:InCallC s s.heap.objs.size (bindL (envOfC qual scope s.heap.objs.size f cd).kindOf (ps.zip us) fun _=>none) (cellsFrom (s.heap.objs.size+1) scope.names []) (bindC (envOfC qual scope s.heap.objs.size f cd).kindOf (ps.zip us) fun _=>none) s1) (lM:0<s1.toks) :
  Inv (bW CX P w K mg base N qual scope f cd A outer s H E) [] (start N vs) H s1:=by
 have dS:ps.length<=N.length:=by have:=congrArg List.length S.pre; rw [tE] at this; omega
 obtain⟨h1,tk,rfl,hk⟩:=x.done;have lD:∀b:Addr,b∉(bW CX P w K mg base N qual scope f cd A outer s H E).ex:=fun b z=>absurd (show b∈([]:List Addr) from z) (by simp);refine⟨⟨e0.mod,S.kind,rfl,rfl,bb _,fun y z c h1 h2=>?_,fun y hy=>?_,fun y c _ h=>?_,fun _=>hd,Dw e0.frames,.inr ⟨rfl,rfl⟩,fun b z=>absurd z (lD b),e0.bs,e0.jf,fun b _ _=>lD b,fun b z=>absurd z (lD b),e0.eL,e0.gQ⟩,
  rfl,e0.bare,Un.kept hk,⟨_,x.toInCall.ns,fun i y v h1 h2 h3=>?_⟩,fun y c h=>⟨_,x.cell y c h⟩,e0.au.fresh (bb _),fun y c h=>?_,fun p hp=>absurd (show p∈([]:List (Addr×Obj)) from hp) (by simp),e0.au.kept hk,?_,lM⟩
 ·exact name_of_addr x.apart (jU h1) (jU h2)
 ·have hy:scope.names.lookup y=some .cell∨scope.names.lookup y=some .free:=hy
  rcases hy with hy | hy
  ·exact Co hy
  ·exact absurd rfl (S.Oc _ (jU hy))
 ·exact tm (x.above y c (jU h))
 ·have hi:i<vs.length:=by
   unfold start at h2
   by_cases hi:i<vs.length
   ·exact hi
   ·rw [sY (by simpa using hi)] at h2
    rw [DB] at h2
    split at h2 <;> cases h2
  have ha:vs[i]?=some v:=by
   unfold start at h2;rw [sX (by simpa using hi),jT] at h2
   cases e:vs[i]? with
   |none=>rw [e] at h2; cases h2
   |some a=>rw [e] at h2; cases h2; rfl
  obtain⟨u,hu,rv⟩:=r.get ha;have hp:ps[i]?=some y:=by
   rw [← S.pre,List.getElem?_take_of_lt (by omega)]; exact h1
  have xH:ps.Nodup:=by rw [← S.pre]; exact S.nd.sublist (List.take_sublist _ _)
  refine⟨u,rv,?_⟩;rcases S.par y (jV hp) with k | k
  ·exact .inl ⟨k,JJ xH hp hu k⟩
  ·obtain⟨c,e⟩:=Co (n:=s.heap.objs.size+1) k
   refine .inr ⟨.inl k,c,e,?_⟩;have q:=x.cell y c e;rw [JK xH hp hu (by show scope.names.lookup y≠_; rw [k]; decide)] at q;exact q
 ·exact e0.au.fresh (tm (x.above y c (jU h)))
 ·unfold start
  show _=N.length;rw [iO,ef,wy];omega
theorem WD {M:Model}{A:Around}{E:Value->Shared->Prop}{aJ s:Shared}{m cm:Str->Option Value}{env:Env}{n:Str}{v:Value}{Q:Unit->Shared->Prop}(x:InCallC aJ env.locals m env.cells cm s)(hk:env.scope.kind=.function)(hl:env.kindOf n=some .local)
  (h:∀s',InCallC aJ env.locals (fun y=>if y=n then some v else m y) env.cells cm s'->0<s'.toks->Q () s'):wpAny M A (storeName env n v) Q E s:=by
 refine wpAny_storeName_local hl x.toInCall.ns (fun h' oq xZ=>h _ ⟨⟨?_,oq,fun b o e=>?_,x.toInCall.fresh⟩,fun k c hc=>?_,x.apart,x.above⟩ (Nat.succ_pos _)) (by rw [hk]; rfl)
 ·obtain⟨eJ,tk,rfl⟩:=x.toInCall.same
  exact⟨h',_,rfl⟩
 ·exact xZ.extBut b o (bQ (cH (a6 e) x.toInCall.fresh)) (x.toInCall.keep b o e)
 ·exact(x.cell k c hc).sameBut xZ (wC (x.above k c (jU hc)))
theorem aaO {prog:Program}{w:World}{A:Around}{E:Value->Shared->Prop}{s:Shared}{scope:Scope}{globals:Addr}{ps:List Str}{us:List Value}{qual:Str}{func:Option Addr}{code:Value}{builtins:Addr}{Q:Env->Shared->Prop}
  (hk:scope.kind=.function) (ht:0<s.toks∨ps=[dR]) (hl:us.length=ps.length) (hf:ps=[dR]->scope.names.lookup dR=some .local)
  (vd:∀x∈ps.zip us,scope.names.lookup x.1=some .local∨(scope.names.lookup x.1=some .cell/\((cellsFrom (s.heap.objs.size+1) scope.names []).lookup x.1).isSome=true))
  (hQ:∀env,env=newEnv scope s.heap.objs.size globals (cellsFrom (s.heap.objs.size+1) scope.names []) qual func code none builtins->
   ∀s',InCallC s env.locals (bindL env.kindOf (ps.zip us) fun _=>none) env.cells (bindC env.kindOf (ps.zip us) fun _=>none) s'->0<s'.toks->Q env s') :
  wpAny (model prog w) A (newFunctionEnv scope globals [] (ps.zip us) qual func code none builtins) Q E s:=by
 rcases ht with ht | ht
 ·exact wpAny_with_toks (n:=1) ht (wpAny_newFunctionEnv_cells hk vd fun env he s' x h=>hQ env he s' x h)
 ·have hF:=hf ht
  clear hf
  subst ht;obtain⟨u,rfl⟩:∃u,us=[u]:=by
   match us,hl with
   | [u],_=>exact⟨u,rfl⟩
  have hz:([dR]:List Str).zip [u]=[(dR,u)]:=rfl;rw [hz] at hQ vd ⊢;simp only [newFunctionEnv,zO,du,if_false];refine wpAny_bind (wpAny_alloc ?_);refine wpAny_bind (wpAny_layCells _ (fun name kind cells=>by cases HM:kind==oS <;> simp [HM]) _ _ _ _ ?_);have ok:=cellsFrom_ok scope.names (s.heap.push {cls:=.type "frame",data:=.dict #[]}) (s.heap.objs.size+1) [] ⟨fun _ _ hm=>(nomatch hm),List.Pairwise.nil⟩ (by rw [kH]; exact bb _)
  rw [kH] at ok;rw [show ({s with heap:=s.heap.push {cls:=.type "frame",data:=.dict #[]}}:Shared).heap.objs.size=s.heap.objs.size+1 from kH ..]
  have x0:InCallC s (newEnv scope s.heap.objs.size globals (cellsFrom (s.heap.objs.size+1) scope.names []) qual func code none builtins).locals (fun _=>none) (newEnv scope s.heap.objs.size globals (cellsFrom (s.heap.objs.size+1) scope.names []) qual func code none builtins).cells (fun _=>none) {s with heap:=pushCells (s.heap.push {cls:=.type "frame",data:=.dict #[]}) scope.names}:=
   ⟨⟨⟨_,_,rfl⟩,(Heap.Ns.new s.heap (.type "frame")).keeps (pushCells_keeps _ _),fun b o e=>pushCells_keeps _ _ b o (aZ _ e),bb _⟩,fun n c hc=>(ok.empty n c (jU hc)).1,ok.apart,fun n c hm=>(ok.empty n c hm).2⟩
  rw [zC];refine wpAny_bind (wpAny_bind (wpAny_bind (WD x0 hk hF fun s' x' Hs=>wpAny_pure ?_)));show wpAny _ _ (forIn [] _ _) _ _ _;rw [List.forIn_nil];refine wpAny_pure (wpAny_pure (hQ _ rfl s' ?_ Hs));unfold bindL bindC;have QC:(newEnv scope s.heap.objs.size globals (cellsFrom (s.heap.objs.size+1) scope.names []) qual func code none builtins).kindOf dR=some .local:=hF;rw [if_pos QC,if_pos QC];exact x'
theorem IZ {CX:gx}{P:Program}{w:World}{K:ah}{mg:Str->Option Value}{base:Heap}{k:Nat}{f:Addr}{name qual:Str}{params:Arguments}{body:List Stmt}{scope:Scope}{dV kV doc pm aw ct oc:Value}{an od:Option Addr}
  {iC:Array (Option Value)} {N ps:List Str} {sp:Sp} (lk:K.lookup f=some ⟨oc,od,.func (gc name qual params body scope dV kV doc pm an aw ct),iC⟩) (e9:oV K aw qual=true) (S:bC N ps scope)
  (hf:ps=[dR]->scope.names.lookup dR=some .local)
  (len:∀vs H Q E,sp vs H Q E->vs.length=ps.length)
  (gP:∀(A:Around) (outer:List Env) (s:Shared) (H:Hp) (vs:List V) (Q:VK) (E:XK),bF k (A.deeper (envOfC qual scope s.heap.objs.size f aw))->sp vs H Q E->
   ∃t,ed (bW CX P w K mg base N qual scope f aw A outer s H E) body t/\t {nx:=fun _ H'=>Q .aK H',rt:=Q} (start N vs) H) :
  cR P w K mg base CX (k+1) f (gc name qual params body scope dV kV doc pm an aw ct) ps sp:=by
 refine⟨len,fun A outer s H args us vs Q E hr e0 rP hb r pU=>?_⟩;have hl:=len _ _ _ _ pU;have KX:K.In s.heap:=e0.mod.lF.keeps fun b o e=>(e0.bs b o e).1;have lim:s.heap.NoLimit:=e0.mod.nolimit.keeps fun b o e=>(e0.bs b o e).1;have vd:∀y∈ps.zip us,scope.names.lookup y.1=some .local∨(scope.names.lookup y.1=some .cell/\((cellsFrom (s.heap.objs.size+1) scope.names []).lookup y.1).isSome=true):=fun⟨n,v⟩ hy=>by
  rcases S.par n (wF hy).1 with q | q
  ·exact .inl q
  ·exact .inr ⟨q,wz _ _ _ (.inl q)⟩
 refine codeAny_call_function hr.depth (KX _ _ lk) rfl S.co S.gen rfl (PySem.W.codeRec_of KX e9) (hb _ _ _ _ ?_);refine aaO S.kind rP (by rw [← r.length]; exact hl) hf vd fun env he s1 x lM=>?_;subst he;refine⟨lim.keeps x.toInCall.keep,codeAny_func ?_⟩;obtain⟨t,ht,hq⟩:=gP A outer s H vs Q E (hr.deeper _) pU;have I:Inv (bW CX P w K mg base N qual scope f aw A outer s H E) [] (start N vs) H s1:=ack S hr.hd e0 hl r x lM;refine aG (ht [] s1 (start N vs) H _ I hq) fun fl s' hs=>?_;have fin:∀{aL:St} {H':Hp} {v:V} {u:Value},Inv (bW CX P w K mg base N qual scope f aw A outer s H E) [] aL H' s'->RelV v u->Q v H'->CE outer P w H s Q u s':=
  fun {aL H' v u} J rv q=>⟨v,H',J.os,J.bare,J.base,J.au,rv,q⟩
 cases fl with
 |ret u=>
  obtain⟨v,aL,H',J,rv,q⟩:=hs;exact fin J rv q
 |next=>
  obtain⟨aL,H',J,q⟩:=hs;exact fin (v:=V.aK) (u:=gW) J rfl q
 |brk=>
  obtain⟨_,_,_,q⟩:=hs;exact dN q
 |cont=>
  obtain⟨_,_,_,q⟩:=hs;exact dN q
section
variable {X:Cx}{x:Str}{p pos:Pos}{e:Expr}{es:List Expr}{t:TA}{id T:String}{r:List V->Hp->VK->Prop}
def uw (r:List V->Hp->VK->Prop)(t:TA):TE:=fun σ H Q=>t σ H fun vs H1=>r vs H1 Q
theorem iB (hc:fj X (.builtin id) r)(hg:Gl X x)(hm:X.mg x=none)(hv:bootBuiltins x=some (.builtin id))(ha:PA X (e::es) t)(hn:x≠"__name__" := by decide)(gN:(x==("__debug__" : Str))=false:=by decide)
  (he:starEach (e::es) X.env=(false,eval e X.env)::starEach es X.env:=by rfl) (dS:(backTo pos (starEach es X.env)).any (·.1)=false:=by rfl):PE X (.Call (.Name x p) (e::es) [] pos) (uw r t):=by
 intro pins s σ H Q I h;refine wpAny_Call_Name_kw (mH I hg hm hv ?_ hn gN);exact DI (aG (ha pos pins s σ H _ I h) fun us s1 ⟨vs,H1,I1,r1,q1⟩=>hc pins s1 σ H1 vs us Q I1 r1 q1) he dS
theorem AO (hc:fj X (.type T) r)(hg:Gl X x)(hm:X.mg x=none)(hv:bootBuiltins x=some (.type T))(ha:PA X (e::es) t)(hn:x≠"__name__" := by decide)(gN:(x==("__debug__" : Str))=false:=by decide)
  (he:starEach (e::es) X.env=(false,eval e X.env)::starEach es X.env:=by rfl) (dS:(backTo pos (starEach es X.env)).any (·.1)=false:=by rfl):PE X (.Call (.Name x p) (e::es) [] pos) (uw r t):=by
 intro pins s σ H Q I h;refine wpAny_Call_Name_kw (mH I hg hm hv ?_ hn gN);exact sZ (aG (ha pos pins s σ H _ I h) fun us s1 ⟨vs,H1,I1,r1,q1⟩=>hc pins s1 σ H1 vs us Q I1 r1 q1) he dS
end
end L2
namespace HT
open PySem PyProof.Rows
section
variable {prog:Program}{w:World}{A:Around}{E:Value->Shared->Prop}{s:Shared}
theorem agh {t b:Addr}{vs ws:List Value}{Q:Value->Shared->Prop}(ht:IsTup s.heap t vs.toArray)(hb:IsTup s.heap b ws.toArray)(hv:vs≠[])
  (h1:ws=[]->Q (.ref t) s) (h2:ws≠[]->Q (.ref s.heap.objs.size) {s with heap:=s.heap.push {cls:=.type "tuple",data:=.seq (vs++ws).toArray}})
  (hsz:vs.length+ws.length<=sizeLine):wpAny (model prog w) A (binaryOp .Add (.ref t) (.ref b)) Q E s:=by
 obtain⟨⟨cls,dd,data,sl⟩,ho,hc,n,hd⟩:=id ht;obtain⟨⟨akI,Jy,data2,pe⟩,rS,yp,n2,hd2⟩:=id hb
 simp only at hc hd yp hd2
 subst hc hd yp hd2;have e:vs.toArray++ws.toArray=(vs++ws).toArray:=by simp
 by_cases hw:ws=[]
 ·exact concat_meets ⟨_,ho,rfl⟩ ⟨_,rS,rfl⟩ noFill_tuple_add seq_tuple_add PySem.F.slot_tuple_add PySem.F.entry_tuple_add (PySem.F.args_tuple_add_2 _ _)
   (tuple_addW1 t b vs.toArray ws.toArray n n2 dd Jy sl pe (by simpa using hv) (by simp [hw])) ⟨ho,rS,h1 hw⟩
 ·refine concat_meets ⟨_,ho,rfl⟩ ⟨_,rS,rfl⟩ noFill_tuple_add seq_tuple_add PySem.F.slot_tuple_add PySem.F.entry_tuple_add (PySem.F.args_tuple_add_2 _ _)
   (tuple_addW2 t b vs.toArray ws.toArray n n2 dd Jy sl pe (by simpa using hv) (by simpa using hw) (by rw [fN,fN]; exact hsz)) ⟨ho,rS,?_⟩
  rw [e];exact h2 hw
def dj (n d:Nat):Option Int->Nat
 |none=>d
 |some v=>if v<0 then (v+(n:Int)).toNat else min v.toNat n
theorem XO (n d:Nat)(hd:d<=n)(o:Option Int):dj n d o<=n:=by
 cases o with
 |none=>exact hd
 |some v=>
  show (if v<0 then (v+(n:Int)).toNat else min v.toNat n)<=n
  by_cases hv:v<0
  ·rw [if_pos hv]; omega
  ·rw [if_neg hv]; exact Nat.min_le_right _ _
end
end HT
namespace L2
open PySem PySem.Spec PyProof.Rows
abbrev TO:=St->Hp->(Option Int->Hp->Prop)->Prop
def PO (X:Cx)(e:Option Expr)(t:TO):Prop:=
 ∀(pins:List (Addr×Obj)) (s:Shared) (σ:St) (H:Hp) (Q:Option Int->Hp->Prop),Inv X pins σ H s->t σ H Q->
  wpAny (model X.prog X.w) X.A (evalPart e X.env) (Lz fun u s'=>∃o H',Inv X pins σ H' s'/\IsPart u o/\Q o H') X.xe s
def V3:TO:=fun _ H Q=>Q none H
def V0 (t:TE):TO:=fun σ H Q=>t σ H fun x H1=>∃i,x=.int i/\Q (some i) H1
section
variable {X:Cx}{e:Expr}{te:TE}{lo hi:Option Expr}{tl th:TO}{pos p2:Pos}
theorem YL:PO X none V3:=by
 intro pins s σ H Q I h;rw [evalPart_none];exact wpAny_pure (fun ht=>⟨none,H,I,.none,h⟩)
theorem YK (h:PE X e te):PO X (some e) (V0 te):=by
 intro pins s σ H Q I hw;rw [evalPart_some];refine aG (h pins s σ H _ I hw) fun u s1 h_=>?_;obtain⟨x,H1,I1,r1,q1⟩:=h_;obtain⟨i,rfl,q⟩:=q1;obtain⟨t,rfl⟩:=r1;exact(fun ht=>⟨some i,H1,I1,.int i t,q⟩)
def qv (X:Cx)(r:V->Option Int->Option Int->Hp->VK->Prop):Prop:=
 ∀(pins:List (Addr×Obj)) (s:Shared) (σ:St) (H:Hp) (x:V) (v vl vu:Value) (lo hi:Option Int) (sl:Addr) (Q:VK),Inv X pins σ H s->RelV x v->s.heap.IsSliceOf sl vl vu .none->IsPart vl lo->IsPart vu hi->r x lo hi H Q->
  ∃T id,typeLookup (.type T) "__getitem__" = pure (some (.builtin id))/\s.TypeIs v T/\wpAny (model X.prog X.w) X.A (getItem v (.ref sl)) (EP X pins σ Q) X.xe s
theorem qv.or {r r':V->Option Int->Option Int->Hp->VK->Prop}(h:qv X r)(h':qv X r'):qv X (fun x lo hi H Q=>r x lo hi H Q∨r' x lo hi H Q):=by
 intro pins s σ H x v vl vu lo hi sl Q I rx hs pl pu q;rcases q with q | q
 ·exact h pins s σ H x v vl vu lo hi sl Q I rx hs pl pu q
 ·exact h' pins s σ H x v vl vu lo hi sl Q I rx hs pl pu q
def VW (r:V->Option Int->Option Int->Hp->VK->Prop)(te:TE)(tl th:TO):TE:=fun σ H Q=>te σ H fun x H1=>tl σ H1 fun l H2=>th σ H2 fun u H3=>r x l u H3 Q
theorem NA {r:V->Option Int->Option Int->Hp->VK->Prop}(hr:qv X r)(he:PE X e te)(hl:PO X lo tl)(hu:PO X hi th):PE X (.Subscript e (.Slice lo hi none p2) pos) (VW r te tl th):=by
 intro pins s σ H Q I h;refine Subscript_ (aG (he pins s σ H _ I h) fun v s1 ⟨x,H1,I1,r1,q1⟩=>?_);refine wpAny_Slice (aG (hl pins s1 σ H1 _ I1 q1) fun vl s2 ⟨l,H2,I2,pl,q2⟩=>aG (hu pins s2 σ H2 _ I2 q2) fun vu s3 ⟨u,H3,I3,pu,q3⟩=>?_);rw [evalPart_none];refine wpAny_pure ?_;have I4:Inv X pins σ H3 {s3 with heap:=s3.heap.push {cls:=.type "slice",data:=.fields #[vl,vu,.none]}}:=I3.kept (t':=s3.toks) fun b ob q=>aZ _ q
 obtain⟨T,id,hT,ht,hg⟩:=hr pins {s3 with heap:=s3.heap.push {cls:=.type "slice",data:=.fields #[vl,vu,.none]}} σ H3 x v vl vu l u s3.heap.objs.size Q I4 r1 (Heap.IsSliceOf.new ..) pl pu q3
 show wpAny (model X.prog X.w) X.A (subscriptTail e (.Slice lo hi none p2) v (.ref s3.heap.objs.size)) (EP X pins σ Q) X.xe {s3 with heap:=s3.heap.push {cls:=.type "slice",data:=.fields #[vl,vu,.none]}}
 exact tail_any (ops:=[.ref s3.heap.objs.size,v]) ht hT hg (by with_unfolding_all rfl)
def v5 (xs:List V)(lo hi:Option Int):List V:=(xs.drop (HT.dj xs.length 0 lo)).take (HT.dj xs.length xs.length hi - HT.dj xs.length 0 lo)
theorem afX (xs:List V)(lo hi:Option Int):(v5 xs lo hi).length<=xs.length:=by
 unfold v5;rw [tE,wH];omega
def Yr (K:ah):R2:=fun x y H Q=>∃a b xs ys,x=.ref a/\y=.ref b/\cP K H a xs/\cP K H b ys/\xs≠[]/\xs.length+ys.length<=sizeLine/\
 (ys=[]->Q (.ref a) H)/\(ys≠[]->∀p,H p=none->Q (.ref p) (upd H p (.tup (xs++ys))))
theorem Vals.Gj {xs:List V}{us:List Value}(r:Vals xs us):us=[]↔xs=[]:=by
 cases r with
 |nil=>simp
 |cons _ _=>simp
theorem ZH:cx X (binaryOp .Add) (Yr X.K):=by
 intro pins s σ H x y v u Q I rx ry h;obtain⟨a,b,xs,ys,rfl,rfl,ha,hb,hx,hz,q1,q2⟩:=h;cases rx;cases ry;obtain⟨ao,r1,p1,_⟩:=I.tuple ha;obtain⟨ako,r2,p2,_⟩:=I.tuple hb;refine HT.agh p1 p2 (fun z=>hx (r1.Gj.mp z)) (fun z=>(fun ht=>⟨.ref a,H,I,rfl,q1 (r2.Gj.mp z)⟩)) (fun z=>?_) (by rw [← r1.length,← r2.length]; exact hz);refine(fun ht=>⟨.ref s.heap.objs.size,_,I.laid (t':=s.toks) (o:=.tup (xs++ys)) (fun b ob q=>aZ _ q) (bb _) ?_,rfl,q2 (fun w=>z (r2.Gj.mpr w)) _ (I.au.fresh (bb _))⟩);exact⟨by rw [iO]; exact hz,_,r1.append r2,IsTup.new _ _⟩
end
def mK (n:Nat)(i:Int):Option Nat:=if 0<=i then (if i<n then some i.toNat else none) else if -(n:Int)<=i then some (i+n).toNat else none
def iq {α:Type}(xs:List α)(i:Int):Option α:=(mK xs.length i).bind fun j=>xs[j]?
theorem ab7 {n:Nat}{i:Int}{j:Nat}(h:mK n i=some j):seqIndex? i n=some j/\j<n/\-(n:Int)<=i/\i<n:=by
 unfold mK at h
 by_cases h0:0<=i
 ·rw [if_pos h0] at h
  by_cases h1:i<n
  ·rw [if_pos h1] at h
   have e:i.toNat=j:=iu h;exact⟨by rw [seqIndex_of h0 h1,e],by omega,by omega,h1⟩
  ·rw [if_neg h1] at h; cases h
 ·rw [if_neg h0] at h
  by_cases h1 : -(n:Int)<=i
  ·rw [if_pos h1] at h
   have e:(i+n).toNat=j:=iu h;exact⟨by rw [seqIndex_neg (by omega) h1,e],by omega,h1,by omega⟩
  ·rw [if_neg h1] at h; cases h
theorem J0 {α:Type}{xs:List α}{i:Int}{v:α}(h:iq xs i=some v):∃j,seqIndex? i xs.length=some j/\xs[j]?=some v/\j<xs.length/\-(xs.length:Int)<=i/\i<xs.length:=by
 unfold iq at h
 cases e:mK xs.length i with
 |none=>rw [e] at h; cases h
 |some j=>
  rw [e] at h;obtain⟨h1,h2,h3,h4⟩:=ab7 e;exact⟨j,h1,h,h2,h3,h4⟩
theorem ag0 {α:Type}{xs:List α}{j:Nat}{v:α}(h:xs[j]?=some v):iq xs (j:Int)=some v:=by
 have hj:j<xs.length:=(eF.mp h).1;have e:mK xs.length (j:Int)=some j:=by
  unfold mK;rw [if_pos (by omega),if_pos (by omega)]; simp
 unfold iq; rw [e]; exact h
def KP (b:Expr):Prop:=∀o i,subscripted b false o i=operate [o,i] (getItem o i)
def nt (X:Cx)(r:R2):Prop:=
 ∀(value slice:Expr) (pins:List (Addr×Obj)) (s:Shared) (σ:St) (H:Hp) (x y:V) (v u:Value) (Q:VK),Inv X pins σ H s->RelV x v->RelV y u->r x y H Q->
  subscripted slice false v u=operate [v,u] (getItem v u)->wpAny (model X.prog X.w) X.A (subscriptTail value slice v u) (EP X pins σ Q) X.xe s
def wm (X:Cx)(id:String)(r:V->List V->Hp->VK->Prop):Prop:=
 ∀(pins:List (Addr×Obj)) (s:Shared) (σ:St) (H:Hp) (x:V) (xs:List V) (v:Value) (us:List Value) (Q:VK),Inv X pins σ H s->RelV x v->Vals xs us->r x xs H Q->
  wpAny (model X.prog X.w) X.A (call (.builtin id) (v::us)) (EP X pins σ Q) X.xe s
section
variable {X:Cx}{a b:Expr}{ta tb:TE}{pos:Pos}
theorem nt.or {r r':R2}(h:nt X r)(h':nt X r'):nt X (fun x y H Q=>r x y H Q∨r' x y H Q):=by
 intro value slice pins s σ H x y v u Q I rx ry q hs;rcases q with q | q
 ·exact h value slice pins s σ H x y v u Q I rx ry q hs
 ·exact h' value slice pins s σ H x y v u Q I rx ry q hs
theorem rg {r:R2}(hr:nt X r)(ha:PE X a ta)(hb:PE X b tb)(hs:KP b):PE X (.Subscript a b pos) (kX r ta tb):=by
 intro pins s σ H Q I h;exact Subscript_ (JL ha hb I h fun v u s2 x y H2 I2 rx ry q=>hr a b pins s2 σ H2 x y v u Q I2 rx ry q (hs _ _))
def FA (K:ah):R2:=fun x y H Q=>∃p xs i v,x=.ref p/\y=.int i/\bX K H p xs/\iq xs i=some v/\Q v H
def xp (K:ah):R2:=fun x y H Q=>∃p xs i v,x=.ref p/\y=.int i/\cP K H p xs/\iq xs i=some v/\Q v H
def Yp:R2:=fun x y H Q=>∃z i c,x=.str z/\y=.int i/\z.length<=sizeLine/\iq z.cps.toList i=some c/\Q (.str ⟨#[c]⟩) H
theorem G9:nt X (FA X.K):=by
 intro value slice pins s σ H x y v u Q I rx ry h hs;obtain⟨p,xs,i,z,rfl,rfl,hq,he,q⟩:=h;cases rx;obtain⟨t,rfl⟩:=ry;obtain⟨ao,r,pl,hz⟩:=I.list hq;obtain⟨j,h1,h2,h3,h4,h5⟩:=J0 he;obtain⟨w,ew,eo⟩:=r.get h2;have hl:=r.length;have hn:=xP;have fin:EP X pins σ Q w s:=(fun ht=>⟨z,H,I,eo,q⟩)
 by_cases h0:0<=i
 ·have hj:i.toNat=j:=by
   rw [seqIndex_of h0 h5] at h1;exact iu h1
  exact item_listR pl.isList h0 (by omega) (by rw [hj]; simpa using ew) fin hs
 ·have hj:(i+(ao.toArray.size:Int)).toNat=j:=by
   rw [seqIndex_neg (by omega) h4] at h1;rw [fN,← hl];exact iu h1
  exact subscriptTail_builtinR (x:=w) pl.isList.typeIs slot_list_getitem.lookup
   (wpAny_getItem_list_neg (Q:=fun r s'=>r=w/\EP X pins σ Q r s') pl.isList (by omega) (by rw [fN] <;> omega) (by omega) (by rw [hj]; simpa using ew) ⟨rfl,fin⟩) hs
theorem Bp:nt X (xp X.K):=by
 intro value slice pins s σ H x y v u Q I rx ry h hs;obtain⟨p,xs,i,z,rfl,rfl,hq,he,q⟩:=h;cases rx;obtain⟨t,rfl⟩:=ry;obtain⟨ao,r,pl,hz⟩:=I.tuple hq;obtain⟨j,h1,h2,h3,h4,h5⟩:=J0 he;obtain⟨w,ew,eo⟩:=r.get h2;have hl:=r.length;have hn:=xP;have fin:EP X pins σ Q w s:=(fun ht=>⟨z,H,I,eo,q⟩)
 exact subscriptTail_builtinR (x:=w) pl.typeIs slot_tuple_getitem.lookup
  (getItem_tuple (j:=j) (Q:=fun r s'=>r=w/\EP X pins σ Q r s') pl (by omega) (by omega) (by rw [fN,← hl]; exact h1) (by simpa using ew) ⟨rfl,fin⟩) hs
theorem ab4:nt X Yp:=by
 intro value slice pins s σ H x y v u Q I rx ry h hs;obtain⟨z,i,c,rfl,rfl,hz,he,q⟩:=h;obtain⟨t,rfl⟩:=rx;obtain⟨t',rfl⟩:=ry;obtain⟨j,h1,h2,h3,h4,h5⟩:=J0 he;have hl:z.cps.toList.length=z.length:=by simp [nO]
 rw [hl] at h1 h4 h5;have hn:=xP;exact tail_any (typeIs_str s z t) slot_str_getitem.lookup (getItem_str (c:=c) (by
  have e1:decide (i < -(2 ^ 63:Int))=false:=decide_eq_false (by omega);have e2:decide (i≥2 ^ 63)=false:=decide_eq_false (by omega);rw [e1,e2,Bool.or_false]) (by rw [h1]; simpa using h2) (fun ht=>⟨.str ⟨#[c]⟩,H,I.tok _,⟨_,rfl⟩,q⟩)) hs
theorem MQ (lo hi:Option Int)(n:Nat):(sliceBounds lo hi none n).1=((HT.dj n 0 lo:Nat):Int)/\(sliceBounds lo hi none n).2.1=((HT.dj n n hi:Nat):Int)/\(sliceBounds lo hi none n).2.2=1:=by
 refine⟨?_,?_,rfl⟩
 ·cases lo with
  |none=>simp [sliceBounds,HT.dj]
  |some i=>
   simp only [sliceBounds,HT.dj,Option.getD_none,show (1:Int) > 0 by decide,if_true]
   by_cases h:i<0
   ·simp only [h,if_true] <;> omega
   ·simp only [h,if_false] <;> omega
 ·cases hi with
  |none=>simp [sliceBounds,HT.dj]
  |some i=>
   simp only [sliceBounds,HT.dj,Option.getD_none,show (1:Int) > 0 by decide,if_true]
   by_cases h:i<0
   ·simp only [h,if_true] <;> omega
   ·simp only [h,if_false] <;> omega
theorem WM (ao:List Value)(lo hi:Option Int):slicePick ao.toArray lo hi none=((ao.drop (HT.dj ao.length 0 lo)).take (HT.dj ao.length ao.length hi - HT.dj ao.length 0 lo)).toArray:=by
 obtain⟨h1,h2,h3⟩:=MQ lo hi ao.toArray.size;unfold slicePick;rw [h1,h2,h3];simp only [sliceRange_one,pick_run,fN] <;> rfl
def Yl (K:ah):V->Option Int->Option Int->Hp->VK->Prop:=fun x lo hi H Q=>∃a xs,x=.ref a/\bX K H a xs/\∀p,H p=none->Q (.ref p) (upd H p (.lst (v5 xs lo hi)))
theorem WO:qv X (Yl X.K):=by
 intro pins s σ H x v vl vu lo hi sl Q I rx hs pl pu h;obtain⟨a,xs,rfl,hx,q⟩:=h;cases rx;obtain⟨ao,r,ht,hz⟩:=I.list hx;have hlen:=r.length;refine⟨"list",_,slot_list_getitem.lookup,ht.isList.typeIs,?_⟩
 refine wpAny_getItem_list_slice ht.isList hs pl pu .none (by simp) ?_ (by rw [fN] <;> omega);rw [WM,← hlen];refine(fun ht=>⟨.ref s.heap.objs.size,_,I.laid (t':=s.toks) (o:=.lst (v5 xs lo hi)) (fun b ob q=>aZ _ q) (bb _) ?_,rfl,q _ (I.au.fresh (bb _))⟩);exact⟨cK (afX xs lo hi) hz,_,0,(r.drop (HT.dj xs.length 0 lo)).take (HT.dj xs.length xs.length hi - HT.dj xs.length 0 lo),cS _ rfl⟩
def ik:V->Bool
 |.aK=>true
 |.bl _=>true
 |.int _=>true
 |.str _=>true
 |_=>false
def d9:V->V->Bool
 |.aK,.aK=>true
 |.bl a,.bl b=>a==b
 |.bl a,.int b=>(if a then 1 else 0)==b
 |.int a,.bl b=>a==(if b then 1 else 0)
 |.int a,.int b=>a==b
 |.str a,.str b=>a==b
 |_,_=>false
theorem ae3 {A:Around}{s:Shared}{y x:V}{u v:Value}(ry:RelV y u)(rx:RelV x v)(fy:ik y=true)(fx:ik x=true):nN A s u v (d9 y x):=by
 cases y with
 |aK=>
  cases ry
  cases x with
  |aK=>cases rx; exact SeqAt.EqAt.same _
  |bl b=>cases rx; exact SeqAt.EqAt.none_bool b
  |int b=>obtain⟨t,rfl⟩:=rx; exact SeqAt.EqAt.none_int b t
  |str b=>obtain⟨t,rfl⟩:=rx; exact SeqAt.EqAt.none_str b t
  |_=>exact absurd (show false=true from fx) gy
 |bl a=>
  cases ry
  cases x with
  |aK=>cases rx; exact SeqAt.EqAt.bool_none a
  |bl b=>cases rx; exact SeqAt.EqAt.bool_bool a b
  |int b=>obtain⟨t,rfl⟩:=rx; exact SeqAt.EqAt.bool_int a b t
  |str b=>obtain⟨t,rfl⟩:=rx; exact SeqAt.EqAt.bool_str a b t
  |_=>exact absurd (show false=true from fx) gy
 |int a=>
  obtain⟨t',rfl⟩:=ry
  cases x with
  |aK=>cases rx; exact SeqAt.EqAt.int_none a t'
  |bl b=>cases rx; exact SeqAt.EqAt.int_bool a t' b
  |int b=>obtain⟨t,rfl⟩:=rx; exact SeqAt.EqAt.int_int a t' b t
  |str b=>obtain⟨t,rfl⟩:=rx; exact SeqAt.EqAt.int_str a t' b t
  |_=>exact absurd (show false=true from fx) gy
 |str a=>
  obtain⟨t',rfl⟩:=ry
  cases x with
  |aK=>cases rx; exact SeqAt.EqAt.str_none a t'
  |bl b=>cases rx; exact SeqAt.EqAt.str_bool a t' b
  |int b=>obtain⟨t,rfl⟩:=rx; exact SeqAt.EqAt.str_int a t' b t
  |str b=>obtain⟨t,rfl⟩:=rx; exact SeqAt.EqAt.str_str a t' b t
  |_=>exact absurd (show false=true from fx) gy
 |_=>exact absurd (show false=true from fy) gy
def fX (x:V)(u:Value):Bool:=match u with
 |.none=>d9 .aK x
 |.bool b=>d9 (.bl b) x
 |.int i _=>d9 (.int i) x
 |.str z _=>d9 (.str z) x
 |_=>false
theorem Cb {x y:V}{u:Value}(r:RelV y u)(f:ik y=true):fX x u=d9 y x:=by
 cases y with
 |aK=>cases r; rfl
 |bl b=>cases r; rfl
 |int i=>obtain⟨t,rfl⟩:=r; rfl
 |str z=>obtain⟨t,rfl⟩:=r; rfl
 |_=>exact absurd (show false=true from f) gy
theorem yV {x:V}:∀{xs:List V}{us:List Value},Vals xs us->xs.all ik=true->us.any (fX x)=xs.any fun y=>d9 y x
 |_,_,.nil,_=>rfl
 |y::xs,u::us,.cons r t,f=>by
  rw [nF,oZ] at f;rw [oU,oU,Cb r f.1,yV t f.2]
theorem rB {A:Around}{s:Shared}{x:V}{v:Value}(rx:RelV x v)(fx:ik x=true):∀{xs:List V}{us:List Value},Vals xs us->xs.all ik=true->∀u∈us,nN A s u v (fX x u)
 |_,_,.nil,_=>fun u hu=>by cases hu
 |y::xs,u::us,.cons r t,f=>fun u' hu=>by
  rw [nF,oZ] at f;rcases bf.mp hu with rfl | hu
  ·rw [Cb r f.1]; exact ae3 r rx f.1 fx
  ·exact rB rx fx t f.2 u' hu
def xW (x:V)(xs:List V):Bool:=xs.any fun y=>d9 y x
def FE (K:ah)(neg:Bool):R2:=fun x y H Q=>∃p xs,y=.ref p/\(bX K H p xs∨cP K H p xs)/\ik x=true/\xs.all ik=true/\Q (.bl (if neg then !xW x xs else xW x xs)) H
theorem ZD:cx X (compareOp .In) (FE X.K false):=by
 intro pins s σ H x y v u Q I rx ry h;obtain⟨p,xs,rfl,hq,fx,fs,q⟩:=h;cases ry;rcases hq with hq | hq
 ·obtain⟨ao,r,pl,hz⟩:=I.list hq
  refine SeqAt.in_listAt (fX x) pl.isList (fun w hw=>rB rx fx r fs w (by simpa using hw)) (fun ht=>⟨.bl _,H,I,rfl,?_⟩);rw [show ao.toArray.any (fX x)=ao.any (fX x) by simp,yV r fs];exact q
 ·obtain⟨ao,r,pl,hz⟩:=I.tuple hq
  refine SeqAt.in_tupleAt (fX x) pl (fun w hw=>rB rx fx r fs w (by simpa using hw)) (fun ht=>⟨.bl _,H,I,rfl,?_⟩);rw [show ao.toArray.any (fX x)=ao.any (fX x) by simp,yV r fs];exact q
theorem Zs:cx X (compareOp .NotIn) (FE X.K true):=by
 intro pins s σ H x y v u Q I rx ry h;obtain⟨p,xs,rfl,hq,fx,fs,q⟩:=h;cases ry;rcases hq with hq | hq
 ·obtain⟨ao,r,pl,hz⟩:=I.list hq
  refine SeqAt.notIn_listAt (fX x) pl.isList (fun w hw=>rB rx fx r fs w (by simpa using hw)) (fun ht=>⟨.bl _,H,I,rfl,?_⟩);rw [show ao.toArray.any (fX x)=ao.any (fX x) by simp,yV r fs];exact q
 ·obtain⟨ao,r,pl,hz⟩:=I.tuple hq
  refine SeqAt.notIn_tupleAt (fX x) pl (fun w hw=>rB rx fx r fs w (by simpa using hw)) (fun ht=>⟨.bl _,H,I,rfl,?_⟩);rw [show ao.toArray.any (fX x)=ao.any (fX x) by simp,yV r fs];exact q
theorem yG:fj X (.builtin "len") (fun xs H Q=>∃p ys,xs=[.ref p]/\(bX X.K H p ys∨cP X.K H p ys)/\Q (.int ys.length) H):=by
 intro pins s σ H xs us Q I r h;obtain⟨p,ys,rfl,hq,q⟩:=h;obtain⟨u,rfl,rx⟩:=vals1 r;cases rx;have hn:=xP;rcases hq with hq | hq
 ·obtain⟨ao,r',pl,hz⟩:=I.list hq
  have hlen:=r'.length;exact Calls.call_len_list pl.isList (by simp only [fN] <;> omega) (fun ht=>⟨.int ys.length,H,I.tok _,⟨s.toks+1,by rw [fN,hlen]⟩,q⟩)
 ·obtain⟨ao,r',pl,hz⟩:=I.tuple hq
  have hlen:=r'.length;exact len_tuple pl (by simp only [fN] <;> omega) (fun ht=>⟨.int ys.length,H,I.tok _,⟨s.toks+1,by rw [fN,hlen]⟩,q⟩)
theorem agm:fj X (.builtin "len") (fun xs H Q=>∃z,xs=[.str z]/\z.length<=sizeLine/\Q (.int z.length) H):=by
 intro pins s σ H xs us Q I r h;obtain⟨z,rfl,hz,q⟩:=h;obtain⟨u,rfl,t,rfl⟩:=vals1 r;have hn:=xP;exact len_str (by omega) (fun ht=>⟨.int z.length,H,I.tok _,⟨_,rfl⟩,q⟩)
theorem fj.or {f:Value}{r r':List V->Hp->VK->Prop}(h:fj X f r)(h':fj X f r'):fj X f (fun xs H Q=>r xs H Q∨r' xs H Q):=by
 intro pins s σ H xs us Q I rs q;rcases q with q | q
 ·exact h pins s σ H xs us Q I rs q
 ·exact h' pins s σ H xs us Q I rs q
theorem agj:fj X (.type "tuple") (fun xs H Q=>∃p ys,xs=[.ref p]/\((bX X.K H p ys/\∀l,H l=none->Q (.ref l) (upd H l (.tup ys)))∨(cP X.K H p ys/\Q (.ref p) H))):=by
 intro pins s σ H xs us Q I r h;obtain⟨p,ys,rfl,h⟩:=h;obtain⟨u,rfl,rx⟩:=vals1 r;cases rx;rcases h with ⟨hq,q⟩ | ⟨hq,q⟩
 ·obtain⟨ao,r',pl,hz⟩:=I.list hq
  have hlen:=r'.length;refine call_tuple_list pl.isList (fun h' kp=>?_) (by simp only [fN] <;> omega);have I1:Inv X pins σ H {s with heap:=h'}:=I.kept (t':=s.toks) kp;have I2:Inv X pins σ (upd H h'.objs.size (.tup ys)) {s with heap:=h'.push {cls:=.type "tuple",data:=.seq ao.toArray}}:=
   I1.laid (t':=s.toks) (fun b o e=>aZ _ e) (bb _) (show dC X.prog X.w _ _ _ (.tup ys) from⟨hz,ao,r',IsTup.new _ _⟩)
  exact(fun ht=>⟨.ref h'.objs.size,_,I2,rfl,q _ (I1.au.fresh (bb _))⟩)
 ·obtain⟨ao,r',pl,hz⟩:=I.tuple hq
  exact call_tuple_same pl (fun ht=>⟨.ref p,H,I,rfl,q⟩)
def qK (K:ah)(T:String)(x:V)(H:Hp):Prop:=match x with
 |.str _=>T = "str"
 |.int _=>T = "int"
 |.ref p=>(T = "list" /\∃xs,bX K H p xs)∨(T = "tuple" /\∃o,K.lookup p=some o/\o.cls=.type "tuple" /\o.dict=none)∨
   (T = "dict" /\((∃kvs,H p=some (.dK kvs))∨∃kvs,H p=some (.dT kvs)))∨(T = "set" /\∃S n,H p=some (.set S n))
 |_=>False
theorem L8 {pins:List (Addr×Obj)}{σ:St}{H:Hp}{s:Shared}{T:String}{x:V}{v:Value}(I:Inv X pins σ H s)(r:RelV x v)(ty:qK X.K T x H) :
  s.TypeIs v T/\∀a,v=.ref a->∃ob,s.heap.get? a=some ob/\ob.dict=none:=by
 cases x with
 |str z=>
  obtain⟨t,rfl⟩:=r
  cases (show T = "str" from ty)
  exact⟨typeIs_str s z t,fun _ e=>nomatch e⟩
 |int i=>
  obtain⟨t,rfl⟩:=r
  cases (show T = "int" from ty)
  exact⟨typeIs_int s i t,fun _ e=>nomatch e⟩
 |ref p=>
  cases r;rcases ty with ⟨rfl,xs,hq⟩ | ⟨rfl,o,hk,hc,hd⟩ | ⟨rfl,hk⟩ | ⟨rfl,S,n,hk⟩
  ·obtain⟨ao,_,pl,_⟩:=I.list hq
   refine⟨pl.isList.typeIs,fun a e=>?_⟩;cases e;obtain⟨o,n,e,c,hd,_⟩:=pl;exact⟨o,e,hd⟩
  ·refine⟨⟨o,I.e8 p o hk,hc⟩,fun a e=>?_⟩
   cases e;exact⟨o,I.e8 _ o hk,hd⟩
  ·have z:∃o,s.heap.get? p=some o/\o.ExactDict:=by
    rcases hk with ⟨kvs,hk⟩ | ⟨kvs,hk⟩
    ·obtain⟨_,_,_,_,o,_,_,e,ex,_⟩:=I.au p _ hk
     exact⟨o,e,ex⟩
    ·obtain⟨_,_,_,_,o,_,_,e,ex,_⟩:=I.au p _ hk
     exact⟨o,e,ex⟩
   obtain⟨o,e,ex⟩:=z;refine⟨⟨o,e,ex.1⟩,fun a e2=>?_⟩;cases e2;exact⟨o,e,ex.2.1⟩
  ·obtain⟨o,_,_,_,e,ex,_⟩:=I.au p _ hk
   refine⟨⟨o,e,ex.1⟩,fun a e2=>?_⟩;cases e2;exact⟨o,e,ex.2.1⟩
 |_=>exact dN ty
def Et (K:ah)(T:String)(r:V->List V->Hp->VK->Prop)(to:TE):TE:=fun σ H Q=>to σ H fun x H1=>qK K T x H1/\r x [] H1 Q
def An (K:ah)(T:String)(r:V->List V->Hp->VK->Prop)(to:TE)(t:TA):TE:=fun σ H Q=>to σ H fun x H1=>qK K T x H1/\t σ H1 fun xs H2=>r x xs H2 Q
variable {o e:Expr}{es:List Expr}{to:TE}{t:TA}{name:Str}{apos cq:Pos}{T id:String}{r:V->List V->Hp->VK->Prop}
theorem NG (pa:PlainAttrs T)(slot:Slot T name id)(ki:typeOf (.builtin id)=pure (.type "method_descriptor"))(hm:wm X id r)(ho:PE X o to)
  (oz:attributeBase o name X.env (eval o X.env)=eval o X.env:=by rfl) (lN:(apos.endLine==cq.line)=true:=by rfl):PE X (.Call (.Attribute o name apos) [] [] cq) (Et X.K T r to):=by
 intro pins s σ H Q I h;refine wpAny_Call_method0_late oz lN (aG (ho pins s σ H _ I h) fun v s1 ⟨x,H1,I1,r1,ty,q1⟩=>?_);obtain⟨h1,h2⟩:=L8 I1 r1 ty;exact⟨T,id,pa,slot,ki,h1,h2,zX rfl (PySem.evalArgs_none (hm pins s1 σ H1 x [] v [] Q I1 r1 .nil q1))⟩
theorem uH (pa:PlainAttrs T)(slot:Slot T name id)(ki:typeOf (.builtin id)=pure (.type "method_descriptor"))(hm:wm X id r)(ho:PE X o to)(ha:PA X (e::es) t)
  (oz:attributeBase o name X.env (eval o X.env)=eval o X.env:=by rfl)
  (yj:((backTo cq (starEach (e::es) X.env)).all (fun x=>!x.1)&&(backToKw cq (keywordEach [] X.env)).all (fun x=>x.1.isSome)
   && decide ((e::es).length+([]:List Keyword).length+(if ([]:List Keyword).isEmpty then 0 else 1)<30))=true:=by rfl)
  (lN:(apos.endLine==cq.line)=true:=by rfl) (hs:starEach (e::es) X.env=(false,eval e X.env)::starEach es X.env:=by rfl) (x9:(backTo cq (starEach es X.env)).any (·.1)=false:=by rfl) :
  PE X (.Call (.Attribute o name apos) (e::es) [] cq) (An X.K T r to t):=by
 intro pins s σ H Q I h;refine wpAny_Call_method_late oz yj lN rfl (aG (ho pins s σ H _ I h) fun v s1 ⟨x,H1,I1,r1,ty,q1⟩=>?_);obtain⟨h1,h2⟩:=L8 I1 r1 ty;refine⟨T,id,pa,slot,ki,h1,h2,?_⟩;have hA:=ha cq pins s1 σ H1 _ I1 q1;rw [hs] at hA ⊢;refine zX (by show (false || (backTo cq (starEach es X.env)).any (·.1))=false; rw [x9] <;> rfl) (zU ?_);exact aG hA fun us s2 ⟨vs,H2,I2,r2,q2⟩=>hm pins s2 σ H2 x vs v us Q I2 r1 r2 q2
end
def KU (X:Cx)(id:String)(r:V->List V->Hp->VK->Prop):Prop:=
 ∀(pins:List (Addr×Obj)) (s:Shared) (σ:St) (H:Hp) (x:V) (xs:List V) (v:Value) (us:List Value) (Q:VK),Inv X pins σ H s->RelV x v->Vals xs us->r x xs H Q->
  wpAny (model X.prog X.w) X.A (call (.builtin id) (v::us)) (EP X pins σ Q) X.xe s
theorem Vals.one:∀{x:V}{us:List Value},Vals [x] us->∃u,us=[u]/\RelV x u
 |_,_,.cons r .nil=>⟨_,rfl,r⟩
theorem Vals.two:∀{x y:V}{us:List Value},Vals [x,y] us->∃u v,us=[u,v]/\RelV x u/\RelV y v
 |_,_,_,.cons r (.cons q .nil)=>⟨_,_,rfl,r,q⟩
theorem Vals.zero:∀{us:List Value},Vals [] us->us=[]
 |_,.nil=>rfl
theorem Vals.dropLast {xs:List V}{us:List Value}(h:Vals xs us):Vals xs.dropLast us.dropLast:=by
 induction h with
 |nil=>exact .nil
 |cons r t ih=>
  cases t with
  |nil=>exact .nil
  |cons q t'=>exact .cons r ih
theorem ae0 {α:Type}(l:List α):l.eraseIdx (l.length - 1)=l.dropLast:=by
 induction l with
 |nil=>rfl
 |cons a r ih=>
  cases r with
  |nil=>rfl
  |cons b r=>
   have e:(a::b::r).length - 1=((b::r).length - 1)+1:=by
    have h1:(a::b::r).length=r.length+2:=rfl;have h2:(b::r).length=r.length+1:=rfl;omega
   rw [e,List.eraseIdx_cons_succ,ih]
   all_goals rfl
section
variable {X:Cx}{pins:List (Addr×Obj)}{σ:St}{H:Hp}{s:Shared}{l b:Addr}{xs ys zs:List V}
theorem Inv.GI {ao its':List Value}{n:Nat}{f:Array Value->Array Value}{t':Nat}(I:Inv X pins σ H s)(hH:H l=some (.lst xs))
  (e:s.heap.get? l=some {cls:=.type "list",data:=.seq ao.toArray n}) (hf:f ao.toArray=its'.toArray) (hv:Vals ys its') (hz:ys.length<=sizeLine) (ht:0<t':=by first | assumption | exact Inv.tk (by assumption)) :
  Inv X pins σ (upd H l (.lst ys)) {s with heap:=s.heap.update l (Obj.mapSeq f),toks:=t'}:=by
 have q:=PySem.IsL.update e f;rw [hf] at q;refine I.write (x:=l) (e:=l) (by rw [hH]; exact trivial) (.inl rfl) (fun b' u hb hu=>(Dz s.heap (Obj.mapSeq f) (cb hb)).trans hu) ⟨_,q⟩ ?_ ht;exact⟨hz,its',_,hv,q⟩
theorem Inv.abq {ao:List Value}{t':Nat}(I:Inv X pins σ H s)(hv:Vals ys ao)(hz:ys.length<=sizeLine)(ht:0<t':=by first | assumption | exact Inv.tk (by assumption)) :
  Inv X pins σ (upd H s.heap.objs.size (.lst ys)) {s with heap:=s.heap.push {cls:=.type "list",data:=.seq ao.toArray},toks:=t'}:=
 I.laid (fun _ _ q=>aZ _ q) (bb _) ⟨hz,ao,0,hv,cS _ rfl⟩ ht
theorem Inv.fresh (I:Inv X pins σ H s):H s.heap.objs.size=none:=I.au.fresh (bb _)
theorem Inv.kg (I:Inv X pins σ H s)(hH:H l=some (.lst xs)):xs.length<=sizeLine/\∃(ao:List Value) (n:Nat),Vals xs ao/\xs.length=ao.length/\s.heap.get? l=some {cls:=.type "list",data:=.seq ao.toArray n}:=by
 obtain⟨z,ao,n,r,e⟩:=I.au l _ hH;exact⟨z,ao,n,r,r.length,e⟩
end
section
variable {X:Cx}
def AH:V->List V->Hp->VK->Prop:=fun x vs H Q=>∃l xs y,x=.ref l/\vs=[y]/\H l=some (.lst xs)/\xs.length<sizeLine/\Q .aK (upd H l (.lst (xs++[y])))
theorem xJ:KU X "list.append" AH:=by
 intro pins s σ H x vs v us Q I rx rv h;obtain⟨l,xs,y,rfl,rfl,hH,hz,q⟩:=h;cases rx;obtain⟨u,rfl,ru⟩:=rv.one;obtain⟨z,ao,n,r,hl,e⟩:=I.kg hH;refine call_meets zZ ⟨_,e,rfl⟩ F.entry_list_append (F.args_list_append_2 _ _) (PySem.list_append l ao.toArray n u (by rw [fN]; omega)) ⟨e,?_⟩;refine(fun ht=>⟨.aK,_,I.GI (its':=ao++[u]) hH e (by simp) (r.append (.cons ru .nil)) ?_,rfl,q⟩);rw [iO,Dy];omega
def Nc:V->List V->Hp->VK->Prop:=fun x vs H Q=>∃l xs y,x=.ref l/\vs=[]/\H l=some (.lst xs)/\xs[xs.length - 1]?=some y/\Q y (upd H l (.lst xs.dropLast))
theorem aaX:KU X "list.pop" Nc:=by
 intro pins s σ H x vs v us Q I rx rv h;obtain⟨l,xs,y,rfl,rfl,hH,hy,q⟩:=h;cases rx;have Hq:=rv.zero;subst Hq;obtain⟨z,ao,n,r,hl,e⟩:=I.kg hH;obtain⟨u,hu,ru⟩:=r.get hy;have hy':ao.toArray[ao.toArray.size - 1]?=some u:=by
  show ao.toArray[ao.length - 1]?=some u;rw [← Array.getElem?_toList,← hl];exact hu
 refine call_meets F.slot_list_pop ⟨_,e,rfl⟩ F.entry_list_pop (F.args_list_pop_1 _) (MeetsSeq.list_pop_last l ao.toArray n u hy' (by rw [fN]; omega)) ⟨e,?_⟩;refine(fun ht=>⟨y,_,I.GI (its':=ao.dropLast) hH e ?_ r.dropLast ?_,ru,q⟩)
 ·show ao.toArray.eraseIdxIfInBounds (ao.toArray.size - 1)=ao.dropLast.toArray
  rw [fN,List.eraseIdxIfInBounds_toArray,ae0]
 ·rw [Dv]
  omega
def FF:V->List V->Hp->VK->Prop:=fun x vs H Q=>∃l xs,x=.ref l/\vs=[]/\H l=some (.lst xs)/\Q .aK (upd H l (.lst []))
theorem aa3:KU X "list.clear" FF:=by
 intro pins s σ H x vs v us Q I rx rv h;obtain⟨l,xs,rfl,rfl,hH,q⟩:=h;cases rx;have Hq:=rv.zero;subst Hq;obtain⟨z,ao,n,r,hl,e⟩:=I.kg hH;refine call_meets F.slot_list_clear ⟨_,e,rfl⟩ F.entry_list_clear (F.args_list_clear_1 _) (AutoSeq1.list_clear_list_0 l ao.toArray n (by rw [fN]; omega)) ⟨e,?_⟩;exact(fun ht=>⟨.aK,_,I.GI (its':=[]) (ys:=[]) hH e rfl .nil (gX _),rfl,q⟩)
end
end L2
namespace T8
open PySem PySem.W PySem.Calls PyProof.Rows
theorem acn {P:Params}{h:Heap}:∀(ns:List Int) (vs:List Value),WellAll P h vs (ns.map WData.int)->IntsAre vs ns:=by
 intro ns
 induction ns with
 |nil=>
  intro vs w;rw [iK] at w;cases w;exact .nil
 |cons n ns ih=>
  intro vs w;rw [bI] at w
  cases w with
  |cons a b=>
   cases a;exact .cons _ _ (ih _ b)
theorem W4 {l:OpenLaw}{n:Nat}(hn:l.most=some n){P:Params}{h:Heap}{args:List WData}{vals:List Value}
  (BB:l.row.toRowW.claim.pre args=true) (Hm:WellAll P h vals args) :
  ∃a vs ns,vals=[bO a]/\args=[WData.list (ns.map WData.int)]/\h.get? a=some {cls:=.type "list",data:=.seq vs.toArray}/\IntsAre vs ns/\ns.length<=n:=by
 have hsh:WShape.hasAll [] args [.list .int]=true:=(pre_splitW BB).1;have hc:l.pre.holds [] {args:=args}=true:=(pre_splitW BB).2;obtain⟨d,r,rfl,h1,h2⟩:=hasAllW_cons hsh;obtain rfl:=hasAllW_nil h2;obtain⟨xs,rfl,h3⟩:=hasW_list h1;obtain⟨ns,rfl⟩:=items_int h3;have hlen:ns.length<=n:=by
  unfold OpenLaw.pre at hc;have h4:(WTm.not (.lt (.lit (.int (n:Int))) (.len (.arg 0)))).holds [] {args:=[.list (ns.map .int)]}=true:=by
   have h4:=(holds_andW hc).1;rw [hn] at h4;exact h4
  have h5:=condW_of h4 (w_not (w_lt w_lit (w_len_list (w_arg rfl))));rw [ef] at h5;refine Nat.le_of_not_lt fun q=>?_;have q':(n:Int)<((ns.length:Nat):Int):=by omega
  first
   | (rw [decide_eq_true q'] at h5; exact absurd h5 (by decide))
   | (simp at h5; omega)
 cases Hm with
 |cons w1 w2=>
  cases w2
  cases w1 with
  |list ho Ia=>exact⟨_,_,ns,rfl,rfl,ho,acn ns _ Ia,hlen⟩
theorem YJ (l:OpenLaw)(args:List WData):l.row.toRowW.claim.post args (.bool true) args=true:=
 postW_of (r:=l.row.toRowW) (X:=(true==true))
  (show WShape.has [] (.bool true) .bool=true by first | rfl | decide | simp [WShape.has,WShape.arms,WShape.armsAll])
  (show (WTm.eq .res (.lit (.bool true))).value [] {args:=args,res:=some (.bool true),after:=args}=some (.bool (true==true)) from w_eq_bool (w_res rfl) w_lit) rfl
theorem agX {l:OpenLaw}{n:Nat}{q:Program}{loose:List Str}{XP:(Str->Option Value)->Heap->Prop}{YP:World->Heap->Prop}{d:DefRec}
  (hn:l.most=some n) (yk:d.params.defaults=[])
  (call:∀(w:World) (aJ aY:Shared) (mg mb:Str->Option Value) (fa:Addr) (o:Obj) (pm cd doc:Value) (a:Addr) (vs:List Value) (ns:List Int),
   Ground q loose [] XP w aJ mg mb aY.heap->YP w aY.heap->
   aY.heap.get? fa=some o->o.data=.func (docDef d.name d.params d.body d.scope pm cd doc)->aY.heap.CodeRec cd d.name->mg d.name=some (.ref fa)->
   aY.heap.get? a=some {cls:=.type "list",data:=.seq vs.toArray}->IntsAre vs ns->ns.length<=n->aY.gens=#[]->
   codeAny (model l.prog w) callerA (.call (.ref fa) ⟨[.ref a],[]⟩) (fun r s'=>r=.ok (.ret (.bool true))/\OldK aY.heap s'.heap/\s'.os=aY.os/\AllBare s'.gens) aY) :
  WalkO q loose XP YP l.row.toRowW d [] (fun f vs=>PySem.call f vs):=by
 intro w aJ aY mg mb G Y fa o pm cd doc dV kV ho hd e9 hD yf hg args vals as BB akx hrd Hm hlo;obtain rfl:dV=.none:=Dflts.none hD yk;obtain rfl:kV=.none:=Dflts.noKw hD;obtain⟨a,vs,ns,rfl,rfl,HA,hints,hlen⟩:=W4 hn BB Hm;refine enter_call (codeAny_mono (call w aJ aY mg mb fa o pm cd doc a vs ns G Y ho (fd_plain hd) e9 yf HA hints hlen hg) fun r s' hq=>?_);obtain⟨rfl,h2,h3,h4⟩:=hq;exact⟨.inl ⟨.bool true,.bool true,[],rfl,fun _=>rfl,.bool true,YJ l _,fun _=>⟨List.Pairwise.nil,fun _ hm=>(nomatch hm)⟩⟩,h2,h3,h4⟩
end T8
namespace L2
open PySem PySem.Spec PyProof.Rows
theorem LJ:∀{vs:List Value}{ns:List Int},IntsAre vs ns->Vals (ns.map V.int) vs
 |_,_,.nil=>.nil
 |_,_,.cons n t h=>.cons ⟨t,rfl⟩ (LJ h)
def gr (s:Stmt):Arguments:=match s with
 |.FunctionDef _ a _ _ _ _ _ _ _ _=>a
 |_=>{posonlyargs:=[],args:=[],vararg:=none,kwonlyargs:=[],kw_defaults:=[],kwarg:=none,defaults:=[]}
def dg (s:Stmt):List Stmt:=match s with
 |.FunctionDef _ _ b _ _ _ _ _ _ _=>b
 |_=>[]
def ay (s:Stmt):Scope:=match s with
 |.FunctionDef _ _ _ _ _ _ sc _ _ _=>sc
 |_=>{kind:=.function,names:=[],isGenerator:=false,isCoroutine:=false}
abbrev CX0:gx:=fun _ _ _ _ _ _=>False
abbrev E0:XK:=fun _ _ _=>False
structure eP (K:ah) (x qual:Str) (st:Stmt) (f:Addr) (fd:FuncData):Prop where
 ex:∃(oc:Value) (od:Option Addr) (kV doc pm:Value) (an:Option Addr) (aw ct:Value) (iC:Array (Option Value)),
  fd=gc x qual (gr st) (dg st) (ay st) .none kV doc pm an aw ct/\K.lookup f=some ⟨oc,od,.func fd,iC⟩/\oV K aw qual=true
 kp:l9 K (.ref f)=true
section
variable {P:Program}{w:World}{K:ah}{mg:Str->Option Value}{base:Heap}
theorem eP.binds {x qual:Str}{st:Stmt}{f:Addr}{fd:FuncData}{ps:List Str}(F:eP K x qual st f fd)
  (h:∀(kV doc pm:Value) (an:Option Addr) (aw ct:Value) (us:List Value),us.length=ps.length->bindArgs (gc x qual (gr st) (dg st) (ay st) .none kV doc pm an aw ct) ⟨us,[]⟩=pure (ps.zip us)):Binds K fd ps []:=by
 obtain⟨oc,od,kV,doc,pm,an,aw,ct,iC,rfl,lk,e9⟩:=F.ex;exact .all (h kV doc pm an aw ct)
theorem m7 {x qual:Str}{st:Stmt}{f:Addr}{oc:Value}{od an:Option Addr}{iC:Array (Option Value)}{kV doc pm aw ct:Value}(l:K.lookup f=some ⟨oc,od,.func (gc x qual (gr st) (dg st) (ay st) .none kV doc pm an aw ct),iC⟩)
  (c:oV K aw qual=true) (k:l9 K (.ref f)=true):eP K x qual st f (gc x qual (gr st) (dg st) (ay st) .none kV doc pm an aw ct):=⟨⟨oc,od,kV,doc,pm,an,aw,ct,iC,rfl,l,c⟩,k⟩
end
section
variable {X:Cx}
theorem pv (i:Nat){x:Str}{pos:Pos}(hN:X.N[i]?=some x:=by rfl)(hv:wj X.env.scope x:=by first | exact bq rfl | exact dD (bq rfl) | exact dD (dD rfl))(hd:(x==("__debug__" : Str))=false:=by decide)
  (e9:(x==("__classdict__" : Str))=false:=by decide):PE X (.Name x pos) (dh i):=FQ hN hv hd e9
end
theorem Pw {A B:Prop}(h:B):if false=true then A else B:=by
 rw [if_neg gy];exact h
def ax (H H':Hp):Prop:=∀b o,H b=some o->H' b=some o
theorem ax.refl (H:Hp):ax H H:=fun _ _ h=>h
theorem ax.trans {H H1 H2:Hp}(a:ax H H1)(b:ax H1 H2):ax H H2:=fun c o h=>b c o (a c o h)
theorem ax.seq {K:ah}{H H':Hp}{a:Addr}{xs:List V}(e:ax H H')(h:bX K H a xs):bX K H' a xs:=by
 rcases h with (h | ⟨o,h⟩) | h
 ·exact .inl (.inl (e _ _ h))
 ·exact .inl (.inr ⟨o,e _ _ h⟩)
 ·exact .inr h
section
variable {κ:Type}[DecidableEq κ]
def gB (kvs:List (κ×V))(k:κ):Option V:=(kvs.find? fun kv=>decide (kv.1=k)).map (·.2)
def putK (kvs:List (κ×V))(k:κ)(v:V):List (κ×V):=
 if (kvs.any fun kv=>decide (kv.1=k))=true then kvs.map (fun kv=>if kv.1=k then (kv.1,v) else kv) else kvs++[(k,v)]
def sL (kvs:List (κ×V))(k:κ):List (κ×V):=kvs.filter fun kv=>decide (kv.1≠k)
theorem z8 {p:κ×V}{r:List (κ×V)}{k:κ}(e:p.1=k):gB (p::r) k=some p.2:=by simp [gB,iL,e]
theorem z9 {p:κ×V}{r:List (κ×V)}{k:κ}(e:¬ p.1=k):gB (p::r) k=gB r k:=by simp [gB,iL,e]
theorem LK (k:κ):∀kvs:List (κ×V),(kvs.any fun kv=>decide (kv.1=k))=(gB kvs k).isSome
 | []=>rfl
 |p::r=>by
  rw [oU]
  by_cases e:p.1=k
  ·simp only [z8 e,decide_eq_true e,Bool.true_or,wL]
  ·rw [z9 e,decide_eq_false e,Bool.false_or]; exact LK k r
theorem GP (kvs:List (κ×V))(k:κ)(v:V):(putK kvs k v).length<=kvs.length+1:=by
 unfold putK
 split
 ·rw [ef]; omega
 ·rw [iO,eh,ma]; omega
theorem fY.xV {o:Option V}{u:Option Value}(r:fY o u):o.isSome=u.isSome:=by
 cases o with
 |none=>cases u with
  |none=>rfl
  |some _=>exact(show False from r).elim
 |some _=>cases u with
  |none=>exact(show False from r).elim
  |some _=>rfl
theorem fY.getD {o:Option V}{u:Option Value}{d:V}{d':Value}(r:fY o u)(rd:RelV d d'):RelV (o.getD d) (u.getD d'):=by
 cases o with
 |none=>cases u with
  |none=>exact rd
  |some _=>exact(show False from r).elim
 |some _=>cases u with
  |none=>exact(show False from r).elim
  |some _=>exact r
theorem KV.val {kvs:List (κ×V)}{vs:List (κ×Value)}(r:KV kvs vs)(k:κ):fY (gB kvs k) (valueAt vs k):=by
 unfold KV at r
 induction r with
 |nil=>exact me
 |@cons p q ps qs h t ih=>
  obtain⟨h1,h2⟩:=h
  by_cases e:p.1=k
  ·have e':q.1=k:=h1.symm.trans e
   have b:valueAt (q::qs) k=some q.2:=by simp [valueAt,iL,e']
   rw [z8 e,b]; exact h2
  ·have e':¬ q.1=k:=fun z=>e (h1.trans z)
   have b:valueAt (q::qs) k=valueAt qs k:=by simp [valueAt,iL,e']
   rw [z9 e,b]; exact ih
theorem KV.any {kvs:List (κ×V)}{vs:List (κ×Value)}(r:KV kvs vs)(k:κ):(kvs.any fun kv=>decide (kv.1=k))=vs.any fun kv=>decide (kv.1=k):=by
 unfold KV at r
 induction r with
 |nil=>rfl
 |cons h t ih=>rw [oU,oU,ih,h.1]
theorem KV.Fw {kvs:List (κ×V)}{vs:List (κ×Value)}(r:KV kvs vs)(k:κ){y:V}{u:Value}(ry:RelV y u) :
  KV (kvs.map fun kv=>if kv.1=k then (kv.1,y) else kv) (vs.map fun kv=>if kv.1=k then (kv.1,u) else kv):=by
 unfold KV at r ⊢
 induction r with
 |nil=>exact .nil
 |@cons p q ps qs h t ih=>
  rw [bI,bI];refine .cons ?_ ih;obtain⟨h1,h2⟩:=h
  by_cases e:p.1=k
  ·rw [if_pos e,if_pos (h1.symm.trans e)]; exact⟨h1,ry⟩
  ·rw [if_neg e,if_neg (fun z=>e (h1.trans z))]; exact⟨h1,h2⟩
theorem KV.put {kvs:List (κ×V)}{vs:List (κ×Value)}(r:KV kvs vs)(k:κ){y:V}{u:Value}(ry:RelV y u):KV (putK kvs k y) (stored vs k u):=by
 unfold putK stored;rw [r.any k]
 by_cases e:(vs.any fun kv=>decide (kv.1=k))=true
 ·rw [if_pos e,if_pos e]; exact r.Fw k ry
 ·rw [if_neg e,if_neg e]; exact Paired.snoc r ⟨rfl,ry⟩
theorem KV.drop {kvs:List (κ×V)}{vs:List (κ×Value)}(r:KV kvs vs)(k:κ):KV (sL kvs k) (without vs k):=by
 unfold KV at r ⊢;unfold sL without
 induction r with
 |nil=>exact .nil
 |@cons p q ps qs h t ih=>
  obtain⟨h1,h2⟩:=h;rw [wI,wI]
  by_cases e:p.1=k
  ·have a:¬ decide (p.1≠k)=true:=by simp [e]
   have b:¬ decide (q.1≠k)=true:=by simp [h1.symm.trans e]
   rw [if_neg a,if_neg b]; exact ih
  ·have e':¬ q.1=k:=fun z=>e (h1.trans z)
   have a:decide (p.1≠k)=true:=by simp [e]
   have b:decide (q.1≠k)=true:=by simp [e']
   rw [if_pos a,if_pos b]; exact .cons ⟨h1,h2⟩ ih
theorem KV.keys {kvs:List (κ×V)}{vs:List (κ×Value)}(r:KV kvs vs):kvs.map (·.1)=vs.map (·.1):=by
 unfold KV at r
 induction r with
 |nil=>rfl
 |cons h t ih=>rw [bI,bI,ih,h.1]
theorem KV.length {kvs:List (κ×V)}{vs:List (κ×Value)}(r:KV kvs vs):kvs.length=vs.length:=zt r
theorem aff (kvs:List (κ×V))(k:κ):(sL kvs k).length<=kvs.length:=o5 _ _
end
theorem pO {P:Program}{w:World}{k:Key}{u:Value}(r:RelV (kV k) u):(dz P w).is k u=true:=by
 cases k with
 |inl i=>obtain⟨t,e⟩:=(show ∃t,u=Value.int i t from r); subst e; exact aa6 P w i t
 |inr x=>obtain⟨t,e⟩:=(show ∃t,u=qB x t from r); subst e; exact OH P w x t
theorem Pu {P:Program}{w:World}:∀{ks:List Key}{us:List Value},Vals (ks.map kV) us->ItemsAre (dz P w) ks us
 | [],_,r=>by rw [iK] at r; cases r; exact .nil
 |k::ks,_,r=>by
  rw [bI] at r
  cases r with
  |cons h t=>exact .cons (pO h) (Pu t)
abbrev KT (H:Hp):List (List Key×V)->List (List Key×Addr×Value)->Prop:=Paired fun p q=>p.1=q.1/\H q.2.1=some (.tup (p.1.map kV))/\RelV p.2 q.2.2
theorem KT.val {H:Hp}{kvs:List (List Key×V)}{xs:List (List Key×Addr×Value)}(r:KT H kvs xs)(k:List Key):fY (gB kvs k) ((atKey xs k).map (·.2)):=by
 induction r with
 |nil=>exact me
 |@cons p q ps qs h t ih=>
  obtain⟨h1,_,h2⟩:=h
  by_cases e:p.1=k
  ·have e':q.1=k:=h1.symm.trans e
   have b:atKey (q::qs) k=some q.2:=by simp [atKey,iL,e']
   rw [z8 e,b]; exact h2
  ·have e':¬ q.1=k:=fun z=>e (h1.trans z)
   have b:atKey (q::qs) k=atKey qs k:=by simp [atKey,iL,e']
   rw [z9 e,b]; exact ih
theorem KT.Fw {H:Hp}{kvs:List (List Key×V)}{xs:List (List Key×Addr×Value)}(r:KT H kvs xs)(k:List Key){y:V}{u:Value}(ry:RelV y u) :
  KT H (kvs.map fun kv=>if kv.1=k then (kv.1,y) else kv) (xs.map (putAt k u)):=by
 induction r with
 |nil=>exact .nil
 |@cons p q ps qs h t ih=>
  rw [bI,bI];refine .cons ?_ ih;obtain⟨h1,h2,h3⟩:=h;unfold putAt
  by_cases e:p.1=k
  ·rw [if_pos e,if_pos (h1.symm.trans e)]; exact⟨h1,h2,ry⟩
  ·rw [if_neg e,if_neg (fun z=>e (h1.trans z))]; exact⟨h1,h2,h3⟩
theorem KT.put {H:Hp}{kvs:List (List Key×V)}{xs:List (List Key×Addr×Value)}(r:KT H kvs xs)(k:List Key){b:Addr}{y:V}{u:Value}(hb:H b=some (.tup (k.map kV)))(ry:RelV y u) :
  KT H (putK kvs k y) (storedH xs k b u):=by
 have e:(kvs.any fun kv=>decide (kv.1=k))=(atKey xs k).isSome:=by
  rw [LK,(r.val k).xV,wK]
 unfold putK storedH;rw [e]
 by_cases q:(atKey xs k).isSome=true
 ·rw [if_pos q,if_pos q]; exact r.Fw k ry
 ·rw [if_neg q,if_neg q]; exact Paired.snoc r ⟨rfl,hb,ry⟩
theorem KT.keeps {H H':Hp}{kvs:List (List Key×V)}{xs:List (List Key×Addr×Value)}(r:KT H kvs xs)(ht:∀b ys,H b=some (.tup ys)->H' b=some (.tup ys)):KT H' kvs xs:=
 Paired.Bf r fun _ _ z=>⟨z.1,ht _ _ z.2.1,z.2.2⟩
section
variable {P:Program}{w:World}{H:Hp}{h:Heap}{a:Addr}
theorem M7 {u:HO}(ok:cB P w H h)(e:Rd H a u):dC P w H h a u:=e.ok ok
theorem qi {kvs:List (Key×V)}(ok:cB P w H h)(e:Rd H a (.dK kvs)):kvs.length<=sizeLine/\(a==sysModules)=false/\∃vs,KV kvs vs/\h.DictOf (dz P w) a vs:=
 show dC P w H h a (.dK kvs) from M7 ok e
theorem Ju {kvs:List (Key×V)}(ok:cB P w H h)(e:H a=some (.dK kvs)):kvs.length<=sizeLine/\(a==sysModules)=false/\∃vs,KV kvs vs/\h.DictOf (dz P w) a vs:=qi ok (.inl e)
theorem uT {ks:List Key}(ok:cB P w H h)(e:H a=some (.tup (ks.map kV))):(tupleKind (dz P w)).is h ks a:=by
 obtain⟨_,ao,r,o,h1,h2,n,h3⟩:=(show dC P w H h a (.tup (ks.map kV)) from ok a _ e)
 exact⟨o,ao.toArray,n,h1,h2,h3,by simpa using Pu r⟩
theorem sG {kvs:List (List Key×V)}(ok:cB P w H h)(e:Rd H a (.dT kvs)):kvs.length<=sizeLine/\(a==sysModules)=false/\
  ∃xs,KT H kvs xs/\h.DictOfH (tupleKind (dz P w)) a xs:=by
 obtain⟨z,y,xs,r,o,es,ep,h1,h2,h3,h4,h5⟩:=(show dC P w H h a (.dT kvs) from M7 ok e)
 refine⟨z,y,xs,r,o,es,ep,h1,h2,h3,h4,fun x hx=>?_,h5⟩;have all:∀{l:List (List Key×V)} {m:List (List Key×Addr×Value)},KT H l m->∀x∈m,(tupleKind (dz P w)).is h x.1 x.2.1:=by
  intro l m q
  induction q with
  |nil=>intro x hx; exact nomatch hx
  |@cons p q ps qs hq t ih=>
   intro x hx;rcases bf.mp hx with e | hx
   ·subst e
    exact uT ok (by rw [← hq.1]; exact hq.2.1)
   ·exact ih x hx
 exact all r x hx
theorem afd {kvs:List (List Key×V)}(ok:cB P w H h)(e:H a=some (.dT kvs)):kvs.length<=sizeLine/\(a==sysModules)=false/\
  ∃xs,KT H kvs xs/\h.DictOfH (tupleKind (dz P w)) a xs:=sG ok (.inl e)
end
def jl (H:Hp)(a:Addr)(y:V)(r:Option V):Prop:=
 (∃kvs k,Rd H a (.dK kvs)/\y=kV k/\r=gB kvs k)∨∃kvs k b,Rd H a (.dT kvs)/\y=.ref b/\H b=some (.tup (k.map kV))/\r=gB kvs k
def T1 (H:Hp)(a:Addr)(y v:V)(H':Hp):Prop:=
 (∃kvs k,H a=some (.dK kvs)/\y=kV k/\kvs.length<sizeLine/\H'=upd H a (.dK (putK kvs k v)))∨
 ∃kvs k b,H a=some (.dT kvs)/\y=.ref b/\H b=some (.tup (k.map kV))/\kvs.length<sizeLine/\H'=upd H a (.dT (putK kvs k v))
theorem jl.k {H:Hp}{a:Addr}{kvs:List (Key×V)}{k:Key}(e:H a=some (.dK kvs)):jl H a (kV k) (gB kvs k):=.inl ⟨kvs,k,.inl e,rfl,rfl⟩
section
variable {X:Cx}{pins:List (Addr×Obj)}{σ:St}{H:Hp}{s:Shared}{a:Addr}{y v:V}{u r:Value}{o:Option V}{A:Around}{E:Value->Shared->Prop}
theorem Inv.big (I:Inv X pins σ H s):sysModules<s.heap.objs.size:=by
 have h:mainGlobals<s.heap.objs.size:=(I.mod.glob.keeps I.bk).lt;exact tj (by decide) h
theorem afT {Q:Value->Shared->Prop}(hu:A.units+1<cLine)(I:Inv X pins σ H s)(g:jl H a y (some v))(ry:RelV y u)(h:∀w' s',Inv X pins σ H s'->RelV v w'->Q w' s') :
  wpAny (model X.prog X.w) A (getItem (.ref a) u) Q E s:=by
 rcases g with ⟨kvs,k,e,ey,l⟩ | ⟨kvs,k,b,e,ey,eb,l⟩
 ·subst ey
  obtain⟨z,hd,vs,rel,dd⟩:=qi I.au e;obtain⟨w',hw,eo⟩:=fY.some_of (v:=v) (o:=valueAt vs k) (by rw [l]; exact rel.val k);exact wpAny_getItem_of (pO ry) dd.mapOf hw (h w' _ (I.tok _) eo)
 ·subst ey
  cases (show u=bO b from ry)
  obtain⟨z,hd,xs,rel,dd⟩:=sG I.au e;obtain⟨w',hw,eo⟩:=fY.some_of (v:=v) (o:=(atKey xs k).map (·.2)) (by rw [l]; exact rel.val k);obtain⟨p,hp,iE⟩:=jq.mp hw;refine wpAny_getItem_heap (tupleKind_room_in1 hu) (uT I.au eb) dd hp ?_;rw [iE];exact h w' _ (I.tok _ (cH I.tk (kK _ _))) eo
theorem afS {Q:Value->Shared->Prop}(hu:A.units+1<cLine)(I:Inv X pins σ H s)(g:jl H a y o)(ry:RelV y u)(h:∀s',Inv X pins σ H s'->Q (.bool o.isSome) s') :
  wpAny (model X.prog X.w) A (compareOp .In u (.ref a)) Q E s:=by
 rcases g with ⟨kvs,k,e,ey,l⟩ | ⟨kvs,k,b,e,ey,eb,l⟩
 ·subst ey
  obtain⟨z,hd,vs,rel,dd⟩:=qi I.au e;refine wpAny_in_of (pO ry) hd dd.mapOf ?_;rw [← (rel.val k).xV,← l];exact h _ (I.tok _)
 ·subst ey
  cases (show u=bO b from ry)
  obtain⟨z,hd,xs,rel,dd⟩:=sG I.au e;refine wpAny_in_heap (tupleKind_room_in1 hu) (uT I.au eb) hd dd ?_;have q:=(rel.val k).xV;rw [wK] at q;rw [← q,← l];exact h _ (I.tok _ (cH I.tk (kK _ _)))
theorem afR {Q:Value->Shared->Prop}(hu:A.units+1<cLine)(I:Inv X pins σ H s)(g:jl H a y o)(ry:RelV y u)(h:∀s',Inv X pins σ H s'->Q (.bool (!o.isSome)) s') :
  wpAny (model X.prog X.w) A (compareOp .NotIn u (.ref a)) Q E s:=by
 rcases g with ⟨kvs,k,e,ey,l⟩ | ⟨kvs,k,b,e,ey,eb,l⟩
 ·subst ey
  obtain⟨z,hd,vs,rel,dd⟩:=qi I.au e;refine wpAny_notIn_of (pO ry) hd dd.mapOf ?_;rw [← (rel.val k).xV,← l];exact h _ (I.tok _)
 ·subst ey
  cases (show u=bO b from ry)
  obtain⟨z,hd,xs,rel,dd⟩:=sG I.au e;refine wpAny_notIn_heap (tupleKind_room_in1 hu) (uT I.au eb) hd dd ?_;have q:=(rel.val k).xV;rw [wK] at q;rw [← q,← l];exact h _ (I.tok _ (cH I.tk (kK _ _)))
theorem Ck {h':Heap}{t':Nat}{ob:HO}(I:Inv X pins σ H s)(mu:za (H a))(hs:kG a s.heap h')(he:∃q,h'.get? a=some q)(new:dC X.prog X.w (upd H a ob) h' a ob)(ht:0<t':=by first | assumption | exact Inv.tk (by assumption) | exact cH (Inv.tk (by assumption)) (kK _ _)) :
  Inv X pins σ (upd H a ob) {s with heap:=h',toks:=t'}:=
 I.write (x:=a) (e:=a) mu (.inl rfl) (fun b q hb z=>(hs.2 b hb).trans z) he new ht
theorem yD {P:Program}{w:World}{H':Hp}{h':Heap}{kvs:List (Key×V)}{vs:List (Key×Value)}(z:kvs.length<=sizeLine)(hd:(a==sysModules)=false)(rel:KV kvs vs)(dd:h'.DictOf (dz P w) a vs) :
  dC P w H' h' a (.dK kvs):=⟨z,hd,vs,rel,dd⟩
theorem afP {H':Hp}{Q:Unit->Shared->Prop}(hu:A.units+1<cLine)(I:Inv X pins σ H s)(g:T1 H a y v H')(ry:RelV y u)(rv:RelV v r)(h:∀s',Inv X pins σ H' s'->Q () s') :
  wpAny (model X.prog X.w) A (setItem (.ref a) u r) Q E s:=by
 rcases g with ⟨kvs,k,e,ey,l,eH⟩ | ⟨kvs,k,b,e,ey,eb,l,eH⟩
 ·subst ey eH
  obtain⟨z,hd,vs,rel,dd⟩:=Ju I.au e;have hz:vs.length<=sizeLine:=by rw [← rel.length]; exact z
  have hl:(putK kvs k v).length<=sizeLine:=by have:=GP kvs k v; omega
  refine wpAny_setItem_pairs (hsz:=hz) (pO ry) dd fun h' kx hs=>h _ ?_;have he:∃q,h'.get? a=some q:=let ⟨q,_,_,hq,_⟩:=kx; ⟨q,hq⟩
  exact Ck I (by rw [e]; exact me) hs he (yD hl hd (rel.put k rv) kx)
 ·subst ey eH
  cases (show u=bO b from ry)
  obtain⟨z,hd,xs,rel,dd⟩:=afd I.au e;have hz:xs.length<=sizeLine:=by rw [← zt rel]; exact z
  have hl:(putK kvs k v).length<=sizeLine:=by have:=GP kvs k v; omega
  refine wpAny_setItem_heap (hsz:=hz) (tupleKind_room_in1 hu) (uT I.au eb) dd fun h' kx hs=>h _ ?_;obtain⟨q,es,ep,hq,h2,h3,h4,_,h5⟩:=kx;refine Ck I (by rw [e]; exact me) hs ⟨q,hq⟩ ⟨hl,hd,_,(rel.put k eb rv).keeps fun c ys ec=>?_,q,es,ep,hq,h2,h3,h4,h5⟩;rw [aF (lE ec e (fun z=>nomatch z))];exact ec
end
section
variable {X:Cx}{pins:List (Addr×Obj)}{σ:St}{H:Hp}{s:Shared}{a:Addr}{kvs:List (Key×V)}{k:Key}{u:Value}{A:Around}{E:Value->Shared->Prop}
theorem afQ {v:V}{more:List Value}{Q:Value->Shared->Prop}(I:Inv X pins σ H s)(e:H a=some (.dK kvs))(ry:RelV (kV k) u)(l:gB kvs k=some v)(hm:more=[]∨∃x,more=[x])
  (h:∀w' s',Inv X pins σ (upd H a (.dK (sL kvs k))) s'->RelV v w'->Q w' s'):wpAny (model X.prog X.w) A (call (.builtin "dict.pop") (.ref a::u::more)) Q E s:=by
 obtain⟨z,hd,vs,rel,dd⟩:=Ju I.au e;obtain⟨w',hw,eo⟩:=fY.some_of (v:=v) (o:=valueAt vs k) (by rw [← l]; exact rel.val k);have hp:(keyPart u).isSome=true:=by
  cases k with
  |inl i=>obtain⟨t,q⟩:=(show ∃t,u=Value.int i t from ry); subst q; rfl
  |inr x=>obtain⟨t,q⟩:=(show ∃t,u=qB x t from ry); subst q; rfl
 have ha:argsOk "dict.pop" ⟨.ref a::u::more,[]⟩:=by
  rcases hm with q | ⟨x,q⟩
  ·subst q; exact PySem.F.args_dict_pop_2 _ _
  ·subst q; exact PySem.F.args_dict_pop_3 _ _ _
 refine call_meetsIn PySem.F.slot_dict_pop dd.typeIs PySem.F.entry_dict_pop ha (meets_dict_pop_there (dz X.prog X.w) a (pO ry) more hm hp)
  ⟨vs,w',dd,by rw [← rel.length]; exact z,hw,fun h' kx hs=>h w' _ ?_ eo⟩
 have he:∃q,h'.get? a=some q:=let ⟨q,_,_,hq,_⟩:=kx; ⟨q,hq⟩
 exact Ck I (by rw [e]; exact me) hs he (yD (cK (aff kvs k) z) hd (rel.drop k) kx)
end
def KR (i:Expr):Prop:=∀ov iv,subscripted i false ov iv=operate [ov,iv] (getItem ov iv)
theorem Wt {prog:Program}{w:World}{A:Around}{E:Value->Shared->Prop}{s:Shared}{env:Env}{value slice:Expr}{pos:Pos}{T id:String}{Q:Value->Shared->Prop}
  (hl:typeLookup (.type T) "__getitem__" = pure (some (.builtin id))) (hs:KR slice)
  (h:wpAny (model prog w) A (eval value env) (fun o aY=>wpAny (model prog w) A (eval slice env) (fun i g6=>g6.TypeIs o T/\wpAny (model prog w) A (getItem o i) Q E g6) E aY) E s) :
  wpAny (model prog w) A (eval (.Subscript value slice pos) env) Q E s:=by
 refine Subscript_ (wpAny_mono h (fun o aY eJ=>wpAny_mono eJ (fun i g6 rL=>?_) fun _ _ x=>x) fun _ _ x=>x);obtain⟨hT,rL⟩:=rL;unfold subscriptTail;refine wpAny_bind ?_;rw [getitemInPython_of_ne hT.not_modules];refine wpAny_bind (wpAny_specialOf hT hl ?_);have fin:wpAny (model prog w) A (subscripted slice false o i) (fun r gZ=>wpAny (model prog w) A (letTemporaryGo value o r >>= fun _=>pure r) Q E gZ) E g6:=by
  rw [hs o i];exact wpAny_operating (wpAny_mono rL (fun r gZ lL=>wpAny_bind (wpAny_letTemporaryGo (wpAny_pure lL))) fun _ _ x=>x)
 first
  |exact wpAny_pure (wpAny_bind fin)
  |exact wpAny_bind (wpAny_pure (wpAny_bind fin))
  |exact wpAny_bind fin
theorem afx {X:Cx}{pins:List (Addr×Obj)}{σ:St}{H:Hp}{s:Shared}{a:Addr}{y:V}{o:Option V}(I:Inv X pins σ H s)(g:jl H a y o):s.TypeIs (.ref a) "dict" := by
 rcases g with ⟨kvs,k,e,_,_⟩ | ⟨kvs,k,b,e,_,_,_⟩
 ·obtain⟨_,_,vs,_,dd⟩:=qi I.au e
  exact dd.typeIs
 ·obtain⟨_,_,xs,_,dd⟩:=sG I.au e
  exact dd.typeIs
def We (td ty:TE):TE:=fun σ H Q=>td σ H fun x H1=>ty σ H1 fun y H2=>∃a v,x=.ref a/\jl H2 a y (some v)/\Q v H2
def XS (td ty tv:TE):TS:=fun D σ H=>tv σ H fun v H1=>td σ H1 fun x H2=>ty σ H2 fun y H3=>∃a H4,x=.ref a/\T1 H3 a y v H4/\D.nx σ H4
section
variable {X:Cx}{o i e value:Expr}{pos pos' qL:Pos}{td ty tv:TE}
theorem Y6 (hu:X.A.units+1<cLine)(ho:PE X o td)(hi:PE X i ty)(hs:KR i):PE X (.Subscript o i pos) (We td ty):=by
 intro pins s σ H Q I h;refine Wt PySem.F.slot_dict_getitem.lookup hs (aG (ho pins s σ H _ I h) fun u s1 ⟨x,H1,I1,rx,q1⟩=>aG (hi pins s1 σ H1 _ I1 q1) fun iv s2 ⟨y,H2,I2,ry,a,v,ex,g,q2⟩=>?_);subst ex;obtain rfl:u=bO a:=rx;exact⟨afx I2 g,afT hu I2 g ry fun w' s3 I3 eo=>(fun ht=>⟨v,H2,I3,eo,q2⟩)⟩
theorem YG (hu:X.A.units+1<cLine)(ho:PE X o td)(hi:PE X i ty)(hv:PE X value tv)(hs:swapsWith value (some (.Subscript o i pos')) pos.line X.env=pure false) :
  PS X (.Assign [.Subscript o i pos'] value pos) (XS td ty tv):=by
 intro pins s σ H D I h;refine wpAny_Assign_Subscript (aG (hv pins s σ H _ I h) fun r s1 ⟨v,H1,I1,rv,q1⟩=>aG (ho pins s1 σ H1 _ I1 q1) fun u s2 ⟨x,H2,I2,rx,q2⟩=>aG (hi pins s2 σ H2 _ I2 q2) fun iv s3 ⟨y,H3,I3,ry,a,H4,ex,g,q3⟩=>?_) hs;subst ex;obtain rfl:u=bO a:=rx;exact afP hu I3 g ry rv fun s4 I4=>(fun ht=>⟨σ,H4,I4,q3⟩)
end
theorem RS {P:Program}{w:World}{H:Hp}(h:Heap)(hb:sysModules<h.objs.size):dC P w H (h.push {cls:=.type "dict",data:=.dict #[]}) h.objs.size (.dK []):=
 ⟨gX _,beq_eq_false_iff_ne.mpr (cb (bQ hb)),[],.nil,Heap.DictOf.new h⟩
def Mv:TE:=fun _ H Q=>∀p,H p=none->Q (.ref p) (upd H p (.dK []))
section
variable {X:Cx}{pos:Pos}
theorem ND:PE X (.Dict [] [] pos) Mv:=fun pins s σ H Q I h=>
 wpAny_Dict_empty (fun ht=>⟨.ref s.heap.objs.size,_,I.laid (a:=s.heap.objs.size) (o:=.dK []) (t':=s.toks) (fun _ _ q=>aZ _ q) (bb _) (RS s.heap I.big),rfl,h _ (I.au.fresh (bb _))⟩)
end
def En:List (TE×TE)->St->Hp->(List (V×V)->Hp->Prop)->Prop
 | [],_,H,Q=>Q [] H
 | (tk,tv)::r,σ,H,Q=>tk σ H fun x H1=>tv σ H1 fun y H2=>En r σ H2 fun ps H3=>Q ((x,y)::ps) H3
abbrev VV:List (V×V)->List (Value×Value)->Prop:=Paired fun p q=>RelV p.1 q.1/\RelV p.2 q.2
def CL (X:Cx)(pos:Pos)(keys:List (Option Expr))(values:List Expr)(nR:List (TE×TE)):Prop:=
 ∀(pins:List (Addr×Obj)) (s:Shared) (σ:St) (H:Hp) (Q:List (V×V)->Hp->Prop),Inv X pins σ H s->En nR σ H Q->
  wpAny (model X.prog X.w) X.A (evalPairs (pairTrees keys values X.env pos)) (Lz fun vs s'=>∃ps H',Inv X pins σ H' s'/\VV ps vs/\Q ps H') X.xe s
theorem YI {X:Cx}{pos:Pos}:CL X pos [] [] []:=fun pins s σ H Q I h=>pairTrees_nil_walk (fun ht=>⟨[],H,I,.nil,h⟩)
theorem FN {X:Cx}{pos:Pos}{k v:Expr}{ks:List (Option Expr)}{vs:List Expr}{tk tv:TE}{nR:List (TE×TE)}(hk:PE X k tk)(hv:PE X v tv)(hr:CL X pos ks vs nR) :
  CL X pos (some k::ks) (v::vs) ((tk,tv)::nR):=fun pins s σ H Q I h=>
 pairTrees_cons_walk (aG (hk pins s σ H _ I h) fun u s1 ⟨x,H1,I1,rx,q1⟩=>aG (hv pins s1 σ H1 _ I1 q1) fun w2 s2 ⟨y,H2,I2,ry,q2⟩=>
  aG (hr pins s2 σ H2 _ I2 q2) fun ws s3 ⟨ps,H3,I3,rel,q3⟩=>(fun ht=>⟨(x,y)::ps,H3,I3,.cons ⟨rx,ry⟩ rel,q3⟩))
def og (kvs more:List (Key×V)):List (Key×V):=more.foldl (fun acc kv=>putK acc kv.1 kv.2) kvs
theorem KV.merge:∀{more:List (Key×V)}{rs:List (Key×Value)}{kvs:List (Key×V)}{vs:List (Key×Value)},KV more rs->KV kvs vs->KV (og kvs more) (merged vs rs):=by
 intro more rs kvs vs r;unfold KV at r
 induction r generalizing kvs vs with
 |nil=>intro q; exact q
 |@cons p q ps qs h t ih=>
  intro r0;have e:KV (putK kvs p.1 p.2) (stored vs q.1 q.2):=by
   have:=r0.put p.1 h.2;rw [← h.1]; exact this
  exact ih e
theorem GQ:∀(more kvs:List (Key×V)),(og kvs more).length<=kvs.length+more.length
 | [],kvs=>by show kvs.length<=kvs.length+0; omega
 |p::r,kvs=>by
  have h1:=GQ r (putK kvs p.1 p.2);have h2:=GP kvs p.1 p.2;show (og (putK kvs p.1 p.2) r).length<=_;rw [eh]; omega
theorem SD {P:Program}{w:World}:∀{kvs:List (Key×V)}{ws:List (Value×Value)},VV (kvs.map fun kv=>(kV kv.1,kv.2)) ws->∃rs,Carries (dz P w) ws rs/\KV kvs rs
 | [],_,r=>by rw [iK] at r; cases r; exact⟨[],me,.nil⟩
 |p::kvs,_,r=>by
  rw [bI] at r
  cases r with
  |@cons a b as bs h t=>
   obtain⟨rs,c,q⟩:=SD (P:=P) (w:=w) t;obtain⟨b1,b2⟩:=b;exact⟨(p.1,b2)::rs,⟨pO h.1,rfl,c⟩,.cons ⟨rfl,h.2⟩ q⟩
def Wa (nR:List (TE×TE)):TE:=fun σ H Q=>∀p,H p=none->En nR σ (upd H p (.dK [])) fun ps H2=>H2 p=some (.dK [])/\∃kvs:List (Key×V),ps=kvs.map (fun kv=>(kV kv.1,kv.2))/\kvs.length<=15/\Q (.ref p) (upd H2 p (.dK (og [] kvs)))
theorem Y4 {X:Cx}{pos:Pos}{keys:List (Option Expr)}{values:List Expr}{nR:List (TE×TE)}(h:CL X pos keys values nR)(Ia:keys.all (·.isSome)=true)(hl:keys.length=values.length)(h0:keys≠[])
  (h15:keys.length<=15):PE X (.Dict keys values pos) (Wa nR):=by
 intro pins s σ H Q I q;have hn:=I.au.fresh (bb s.heap.objs.size);have I1:=I.laid (a:=s.heap.objs.size) (o:=.dK []) (h':=s.heap.push {cls:=.type "dict",data:=.dict #[]}) (t':=s.toks) (fun _ _ q=>aZ _ q) (bb _) (RS s.heap I.big)
 refine wpAny_Dict_walk (knd:=dz X.prog X.w) Ia hl h0 h15 (aG (h pins _ σ _ _ I1 (q _ hn)) fun ws s2 ⟨ps,H2,I2,rel,e,kvs,ep,lk,q2⟩=>?_);subst ep;obtain⟨rs,c,rk⟩:=SD (P:=X.prog) (w:=X.w) rel;obtain⟨z,hd,vs0,r0,dd⟩:=Ju I2.au e;cases r0;refine⟨rs,c,dd,fun h' kx hs=>(fun ht=>⟨.ref s.heap.objs.size,_,?_,rfl,q2⟩)⟩;have hz:(og [] kvs).length<=sizeLine:=by
  have h1:=GQ kvs [];rw [ma] at h1;rw [sizeLine_eq]; omega
 have he:∃q,h'.get? s.heap.objs.size=some q:=let ⟨q,_,_,hq,_⟩:=kx; ⟨q,hq⟩
 exact Ck I2 (by rw [e]; exact me) hs he (yD hz hd (rk.merge .nil) kx)
structure M1 (X:Cx) (o:Expr) (m:Str) (apos:Pos) (e:Expr) (cq:Pos):Prop where
 base:attributeBase o m X.env (eval o X.env)=eval o X.env
 qf:((backTo cq (starEach [e] X.env)).all (fun x=>!x.1)&&(backToKw cq (keywordEach [] X.env)).all (fun x=>x.1.isSome)
  && decide (([e]:List Expr).length+([]:List Keyword).length+(if ([]:List Keyword).isEmpty then 0 else 1)<30))=true
 line:(apos.endLine==cq.line)=true
 trees:backTo cq (starEach [e] X.env)=[(false,eval e X.env)]
structure M2 (X:Cx) (o:Expr) (m:Str) (apos:Pos) (e f:Expr) (cq:Pos):Prop where
 base:attributeBase o m X.env (eval o X.env)=eval o X.env
 qf:((backTo cq (starEach [e,f] X.env)).all (fun x=>!x.1)&&(backToKw cq (keywordEach [] X.env)).all (fun x=>x.1.isSome)
  && decide (([e,f]:List Expr).length+([]:List Keyword).length+(if ([]:List Keyword).isEmpty then 0 else 1)<30))=true
 line:(apos.endLine==cq.line)=true
 trees:backTo cq (starEach [e,f] X.env)=[(false,eval e X.env),(false,eval f X.env)]
def K3 (H:Hp)(a:Addr):Prop:=(∃kvs,Rd H a (.dK kvs))∨∃kvs,Rd H a (.dT kvs)
theorem PH {X:Cx}{pins:List (Addr×Obj)}{σ:St}{H:Hp}{s:Shared}{a:Addr}(I:Inv X pins σ H s)(d:K3 H a) :
  s.TypeIs (.ref a) "dict" /\(∀b,bO a=.ref b->∃ob,s.heap.get? b=some ob/\ob.dict=none)/\(a==sysModules)=false:=by
 rcases d with ⟨kvs,e⟩ | ⟨kvs,e⟩
 ·obtain⟨_,hd,vs,_,dd⟩:=qi I.au e
  refine⟨dd.typeIs,fun b q=>?_,hd⟩;cases q;obtain⟨ob,_,_,h1,h2,_⟩:=dd;exact⟨ob,h1,h2.2.1⟩
 ·obtain⟨_,hd,xs,_,dd⟩:=sG I.au e
  refine⟨dd.typeIs,fun b q=>?_,hd⟩;cases q;obtain⟨ob,_,_,h1,h2,_⟩:=dd;exact⟨ob,h1,h2.2.1⟩
section
variable {X:Cx}{pins:List (Addr×Obj)}{σ:St}{H:Hp}{s:Shared}{a:Addr}{y d:V}{u r:Value}{o:Option V}{A:Around}{E:Value->Shared->Prop}
theorem afU {Q:Value->Shared->Prop}(hu:A.units+1<cLine)(I:Inv X pins σ H s)(g:jl H a y o)(ry:RelV y u)(rd:RelV d r)(h:∀w' s',Inv X pins σ H s'->RelV (o.getD d) w'->Q w' s') :
  wpAny (model X.prog X.w) A (call (.builtin "dict.get") [.ref a,u,r]) Q E s:=by
 rcases g with ⟨kvs,k,e,ey,l⟩ | ⟨kvs,k,b,e,ey,eb,l⟩
 ·subst ey
  obtain⟨z,hd,vs,rel,dd⟩:=qi I.au e;refine call_meetsIn zW dd.typeIs PySem.F.entry_dict_get (PySem.F.args_dict_get_3 _ _ _) (meets_dict_get_default (dz X.prog X.w) a (pO ry) hd r) ⟨_,dd.mapOf,h _ _ (I.tok _) ?_⟩;rw [l];exact(rel.val k).getD rd
 ·subst ey
  cases (show u=bO b from ry)
  obtain⟨z,hd,xs,rel,dd⟩:=sG I.au e;refine call_meetsIn zW dd.typeIs PySem.F.entry_dict_get (PySem.F.args_dict_get_3 _ _ _) (meetsH_dict_get_default (tupleKind (dz X.prog X.w)) a b hd r) ⟨tupleKind_room_in1 hu,k,xs,uT I.au eb,dd,h _ _ (I.tok _ (cH I.tk (kK _ _))) ?_⟩;rw [l];exact(rel.val k).getD rd
end
def Wd (td ty tx:TE):TE:=fun σ H Q=>td σ H fun x H1=>∃a,x=.ref a/\K3 H1 a/\ty σ H1 fun y H2=>tx σ H2 fun z H3=>∃o,jl H3 a y o/\Q (o.getD z) H3
def Wc (td ty:TE):TE:=fun σ H Q=>td σ H fun x H1=>∃a,x=.ref a/\K3 H1 a/\ty σ H1 fun y H2=>∃kvs k v,H2 a=some (.dK kvs)/\y=kV k/\gB kvs k=some v/\Q v (upd H2 a (.dK (sL kvs k)))
section
variable {X:Cx}{o e f:Expr}{apos cq:Pos}{td ty tx:TE}
theorem Y5 (hu:X.A.units+1<cLine)(ho:PE X o td)(he:PE X e ty)(hf:PE X f tx)(m:M2 X o "get" apos e f cq):PE X (.Call (.Attribute o "get" apos) [e,f] [] cq) (Wd td ty tx):=by
 intro pins s σ H Q I h;refine wpAny_Call_method m.base m.qf m.line DA zW PySem.F.type_dict_get (aG (ho pins s σ H _ I h) fun u s1 ⟨x,H1,I1,rx,a,ex,d,q1⟩=>?_);subst ex;obtain rfl:u=bO a:=rx;obtain⟨t1,t2,_⟩:=PH I1 d;refine⟨t1,t2,?_⟩;rw [m.trees];refine zX rfl (zU (md (aG (he pins s1 σ H1 _ I1 q1) fun iv s2 ⟨y,H2,I2,ry,q2⟩=>
  md (aG (hf pins s2 σ H2 _ I2 q2) fun fv s3 ⟨z,H3,I3,rz,ov,g,q3⟩=>nI ?_))))
 exact afU hu I3 g ry rz fun w' s4 I4 eo=>(fun ht=>⟨_,H3,I4,eo,q3⟩)
theorem Y3 (ho:PE X o td)(he:PE X e ty)(m:M1 X o "pop" apos e cq):PE X (.Call (.Attribute o "pop" apos) [e] [] cq) (Wc td ty):=by
 intro pins s σ H Q I h;refine wpAny_Call_method m.base m.qf m.line DA PySem.F.slot_dict_pop PySem.F.type_dict_pop (aG (ho pins s σ H _ I h) fun u s1 ⟨x,H1,I1,rx,a,ex,d,q1⟩=>?_);subst ex;obtain rfl:u=bO a:=rx;obtain⟨t1,t2,_⟩:=PH I1 d;refine⟨t1,t2,?_⟩;rw [m.trees];refine zX rfl (zU (md (aG (he pins s1 σ H1 _ I1 q1) fun iv s2 ⟨y,H2,I2,ry,kvs,k,v,ea,ey,l,q2⟩=>nI ?_)));subst ey;exact afQ I2 ea ry l (.inl rfl) fun w' s3 I3 eo=>(fun ht=>⟨v,_,I3,eo,q2⟩)
end
section
variable {X:Cx}{pins:List (Addr×Obj)}{σ:St}{H:Hp}{s:Shared}{a:Addr}{kvs:List (Key×V)}{A:Around}{E:Value->Shared->Prop}
theorem afV {Q:Value->Shared->Prop}(I:Inv X pins σ H s)(e:Rd H a (.dK kvs))(h:∀p s',H p=none->Inv X pins σ (upd H p (.dK kvs)) s'->Q (.ref p) s'):wpAny (model X.prog X.w) A (call (.type "dict") [.ref a]) Q E s:=by
 obtain⟨z,hd,vs,rel,dd⟩:=qi I.au e;refine kt_call_dict hd dd (by rw [← rel.length]; exact z) fun h' kx hs=>?_;refine h _ _ (I.au.fresh (bb _)) (I.laid (a:=s.heap.objs.size) (o:=.dK kvs) (t':=s.toks) (fun b q hq=>?_) (bb _) (yD z (beq_eq_false_iff_ne.mpr (cb (bQ I.big))) rel kx));exact(hs.2 b (bQ (a6 hq))).trans (aZ _ hq)
end
end L2
set_option maxHeartbeats 4000000
namespace L2
open PySem PySem.Spec PyProof.Rows
def eu (names:List (Str×NameKind))(cells:List (Str×Addr)):List (Str×Addr):=
 names.foldl (fun cs p=>if p.2 == .free then (p.1,(cells.lookup p.1).getD 0)::cs else cs) []
theorem Sw {env:Env}:∀(names:List (Str×NameKind)) (cs:List (Str×Addr)),(∀x∈names,x.2=.free->∃c,env.cells.lookup x.1=some c)->
  (forIn names cs (fun(x:Str×NameKind) (cs:List (Str×Addr))=>match x with | (name,kind)=>if (kind==qE)=true then do let a ← cellOf env name; pure (oW ((name,a)::cs)) else pure (oW cs)):Sem (List (Str×Addr)))
   = pure (names.foldl (fun cs p=>if p.2 == .free then (p.1,(env.cells.lookup p.1).getD 0)::cs else cs) cs)
 | [],cs,_=>rfl
 | (n,k)::r,cs,h=>by
  rw [zC,tD];have ih:=fun cs'=>Sw (env:=env) r cs' fun x hx=>h x (cG _ hx)
  cases hk:(k==qE) with
  |false=>
   simp only [hk,du,if_false,pure_bind];exact ih cs
  |true=>
   obtain⟨c,hc⟩:=h (n,k) bN (by simpa using hk);have e:cellOf env n=pure c:=by unfold cellOf; rw [hc]
   simp only [hk,if_true,e,pure_bind];rw [hc];exact ih _
theorem Cm {scope:Scope}{env:Env}(h:∀x∈scope.names,x.2=.free->∃c,env.cells.lookup x.1=some c):closureFor scope env=pure (eu scope.names env.cells):=by
 unfold closureFor;have:=Sw (env:=env) scope.names [] h;simp only [bind_pure];exact this
theorem Su {cells:List (Str×Addr)}{x:Str}{c:Addr}:∀(names:List (Str×NameKind)) (cs:List (Str×Addr)),
  (∀y∈names,y.2=.free->∃c,cells.lookup y.1=some c)->(∀c,cs.lookup x=some c->cells.lookup x=some c)->
  (names.foldl (fun cs p=>if p.2 == .free then (p.1,(cells.lookup p.1).getD 0)::cs else cs) cs).lookup x=some c->cells.lookup x=some c
 | [],cs,_,h2,h=>h2 c h
 | (n,k)::r,cs,h1,h2,h=>by
  rw [tD] at h;refine Su r _ (fun y hy=>h1 y (cG _ hy)) (fun d hd=>?_) h
  cases hk:(k==qE) with
  |false=>
   simp only [hk,du,if_false] at hd;exact h2 d hd
  |true=>
   obtain⟨e,he⟩:=h1 (n,k) bN (by simpa using hk);simp only [hk,if_true,jS] at hd
   cases hx:x==n with
   |false=>rw [hx] at hd; exact h2 d hd
   |true=>
    rw [hx] at hd;have Hl:x=n:=by simpa using hx
    subst Hl;rw [he] at hd;simp at hd;rw [he,hd]
theorem sO {names:List (Str×NameKind)}{cells:List (Str×Addr)}{x:Str}{c:Addr}(h1:∀y∈names,y.2=.free->∃c,cells.lookup y.1=some c)(h:(eu names cells).lookup x=some c):cells.lookup x=some c:=
 Su names [] h1 (fun _ z=>by simp at z) h
theorem yE {cells:List (Str×Addr)}{x:Str}:∀(names:List (Str×NameKind)) (cs:List (Str×Addr)),
  ((x,qE)∈names∨∃c,cs.lookup x=some c)->∃c,(names.foldl (fun cs p=>if p.2 == .free then (p.1,(cells.lookup p.1).getD 0)::cs else cs) cs).lookup x=some c
 | [],cs,h=>by
  rcases h with h | h
  ·cases h
  ·exact h
 | (n,k)::r,cs,h=>by
  rw [tD];refine yE r _ ?_;rcases h with h | ⟨c,h⟩
  ·rcases bf.mp h with h | h
   ·right
    injection h with h1 h2;subst h1 h2;exact⟨(cells.lookup x).getD 0,by simp [jS]⟩
   ·exact .inl h
  ·right
   cases hk:(k==qE) with
   |false=>exact⟨c,by simp only [hk,du,if_false]; exact h⟩
   |true=>
    simp only [hk,if_true,jS]
    cases hx:x==n with
    |false=>exact⟨c,h⟩
    |true=>exact⟨_,rfl⟩
theorem lookup_mem {names:List (Str×NameKind)}{x:Str}{k:NameKind}(h:names.lookup x=some k):(x,k)∈names:=by
 induction names with
 |nil=>simp at h
 |cons p r ih=>
  obtain⟨n,l⟩:=p;rw [jS] at h
  cases hx:x==n with
  |false=>rw [hx] at h; exact cG _ (ih h)
  |true=>
   rw [hx] at h;have Hl:x=n:=by simpa using hx
   subst Hl;cases h;exact bN
theorem Bg {env:Env}:∀{names:List (Str×NameKind)}{x:Str}{k:NameKind},
  (names.map fun(n,k)=>if (k==qE&&env.scope.kind == .function&&env.kindOf n==some .cell) then (n,oS) else (n,k)).lookup x=some k->
   names.lookup x=some k∨(k=.cell/\names.lookup x=some .free)
 | [],_,_,h=>by simp at h
 | (n,l)::r,x,k,h=>by
  have ih:=@Bg env r x k;rw [bI] at h
  by_cases hc:(l==qE&&env.scope.kind == .function&&env.kindOf n==some .cell)=true
  ·simp only [hc,if_true] at h
   rw [jS] at h ⊢
   cases hx:x==n with
   |true=>
    rw [hx] at h;cases h;have hl:l=.free:=by
     have:=(zT.mp (zT.mp hc).1).1;simpa using this
    subst hl;exact .inr ⟨rfl,rfl⟩
   |false=>rw [hx] at h; exact ih h
  ·simp only [hc] at h
   simp only [du,if_false] at h;rw [jS] at h ⊢
   cases hx:x==n with
   |true=>rw [hx] at h; exact .inl h
   |false=>rw [hx] at h; exact ih h
theorem JD {x:Str}{c:Addr}:∀(names:List (Str×NameKind)) (n:Nat) (acc:List (Str×Addr)),(cellsFrom n names acc).lookup x=some c->
  (n<=c/\(x,oS)∈names)∨(acc.lookup x=some c/\∀k,(x,k)∈names->k≠.cell)
 | [],n,acc,h=>.inr ⟨h,fun _ z=>nomatch z⟩
 | (y,k)::r,n,acc,h=>by
  unfold cellsFrom at h
  by_cases hk:(k==oS)=true
  ·rw [if_pos hk] at h
   have jF:k=.cell:=by simpa using hk
   subst jF;rcases JD r _ _ h with ⟨a,b⟩ | ⟨a,b⟩
   ·exact .inl ⟨by omega,cG _ b⟩
   ·rw [jS] at a
    cases hx:x==y with
    |true=>
     rw [hx] at a;have e:n=c:=by simpa using a
     have hxy:x=y:=by simpa using hx
     subst hxy;exact .inl ⟨by omega,bN⟩
    |false=>
     rw [hx] at a;refine .inr ⟨a,fun k' z=>?_⟩;rcases bf.mp z with z | z
     ·injection z with z1 z2
      subst z1;simp at hx
     ·exact b k' z
  ·rw [if_neg hk] at h
   rcases JD r _ _ h with ⟨a,b⟩ | ⟨a,b⟩
   ·exact .inl ⟨a,cG _ b⟩
   ·refine .inr ⟨a,fun k' z=>?_⟩
    rcases bf.mp z with z | z
    ·injection z with z1 z2
     subst z2;intro e;exact hk (by rw [e]; rfl)
    ·exact b k' z
theorem JE:∀(names:List (Str×NameKind)) (n:Nat) (acc:List (Str×Addr)),(∀z d,acc.lookup z=some d->d<n)->(∀x y c,acc.lookup x=some c->acc.lookup y=some c->x=y)->
  ∀x y c,(cellsFrom n names acc).lookup x=some c->(cellsFrom n names acc).lookup y=some c->x=y
 | [],_,_,_,h=>h
 | (y,k)::r,n,acc,hb,hi=>by
  unfold cellsFrom
  by_cases hk:(k==oS)=true
  ·rw [if_pos hk]
   refine JE r _ _ (fun z d e=>?_) fun u v c e1 e2=>?_
   ·rw [jS] at e
    cases hx:z==y with
    |true=>rw [hx] at e; have q:n=d:=(by simpa using e); rw [← q]; exact zE n
    |false=>rw [hx] at e; exact zI (hb z d e)
   ·rw [jS] at e1 e2
    cases hx:u==y with
    |true=>
     rw [hx] at e1;have q1:n=c:=by simpa using e1
     cases hy:v==y with
     |true=>rw [(by simpa using hx:u=y),(by simpa using hy:v=y)]
     |false=>rw [hy] at e2; exact absurd (hb v c e2) (by rw [← q1]; exact fM _)
    |false=>
     rw [hx] at e1
     cases hy:v==y with
     |true=>rw [hy] at e2; have q2:n=c:=(by simpa using e2); exact absurd (hb u c e1) (by rw [← q2]; exact fM _)
     |false=>rw [hy] at e2; exact hi u v c e1 e2
  ·rw [if_neg hk]
   exact JE r _ _ hb hi
theorem Cn:∀(names:List (Str×NameKind)) (h:Heap) (acc:List (Str×Addr)),(∀z d,acc.lookup z=some d->∃v,h.IsCell d v)->
  ∀x c,(cellsFrom h.objs.size names acc).lookup x=some c->∃v,(pushCells h names).IsCell c v
 | [],_,_,h=>h
 | (y,k)::r,h,acc,hb=>by
  unfold cellsFrom pushCells
  by_cases hk:(k==oS)=true
  ·rw [if_pos hk,if_pos hk]
   have:=Cn r (h.push {cls:=.type "cell",data:=.cell none}) ((y,h.objs.size)::acc) fun z d e=>by
    rw [jS] at e
    cases hx:z==y with
    |true=>
     rw [hx] at e;have q:h.objs.size=d:=by simpa using e
     subst q;exact⟨none,_,cS _ rfl,rfl⟩
    |false=>
     rw [hx] at e;obtain⟨v,q⟩:=hb z d e;exact⟨v,q.keeps fun b o e=>aZ _ e⟩
   rwa [kH] at this
  ·rw [if_neg hk,if_neg hk]
   exact Cn r h acc hb
theorem Ou {M:Model}{A:Around}{E:Value->Shared->Prop}{s:Shared}{scope:Scope}{globals:Addr}{cl:List (Str×Addr)}{qual:Str}{env:Env}{Q:Env->Shared->Prop}
  (h:Q {scope:=scope,locals:=s.heap.objs.size,globals:=globals,cells:=cellsFrom (s.heap.objs.size+1) scope.names cl,qual:=qual,func:=none,code:=env.code,frame:=env.frame,builtins:=env.builtins}
   {s with heap:=pushCells (s.heap.push {cls:=.type "dict",data:=.dict #[]}) scope.names}):wpAny M A (newFunctionEnv scope globals cl [] qual none .none (some env)) Q E s:=by
 simp only [newFunctionEnv,wL,if_true];refine wpAny_bind (wpAny_alloc ?_);refine wpAny_bind (wpAny_layCells _ (fun name kind cells=>by cases HM:kind==oS <;> simp [HM]) _ _ _ _ ?_);rw [show ({s with heap:=s.heap.push {cls:=.type "dict",data:=.dict #[]}}:Shared).heap.objs.size=s.heap.objs.size+1 from kH ..]
 exact wpAny_bind (wpAny_pure (wpAny_pure h))
def cw (X:Cx)(scope:Scope)(N:List Str)(pins:List (Addr×Obj))(fp:List Addr)(s:Shared)(H:Hp):Cx where
 prog:=X.prog
 w:=X.w
 K:=X.K
 mg:=X.mg
 base:=X.base
 A:=X.A
 N:=N
 aJ:=s
 a8:=H
 env:=compEnvC scope (cellsFrom (s.heap.objs.size+1) scope.names (eu scope.names X.env.cells)) s.heap.objs.size X.env
 outer:=X.stack
 stack:=X.stack
 ex:=fp
 fn:=fun x=>scope.names.lookup x==some .cell
 calm:=X.calm
 pn:=X.pn++pins
 xe:=fun _ _=>False
structure eQ (X:Cx) (scope:Scope) (N:List Str) (k:Nat) (fr:List Nat):Prop where
 kind:scope.kind=.function
 owned:(scope.names.all fun y=>y.2 != .cell || scope.names.lookup y.1==some .cell)=true
 names:(scope.names.all fun y=>y.2 != .local || scope.names.lookup y.1==some .local)=true
 free:(scope.names.all fun y=>y.2 != .free || (X.env.kindOf y.1==some .cell || X.env.kindOf y.1==some .free))=true
 len:N.length=k+fr.length
 at_:((fm fr.length).all fun i=>match N[k+i]?,fr[i]? with | some x,some j=>X.N[j]?==some x&&scope.names.lookup x==some .free | _,_=>false)=true
section
variable {X:Cx}{scope:Scope}{N:List Str}{k:Nat}{fr:List Nat}
theorem eQ.frees (S:eQ X scope N k fr):∀y∈scope.names,y.2=.free->X.env.kindOf y.1=some .cell∨X.env.kindOf y.1=some .free:=fun y hy e=>by
 have h:=eg.mp S.free y hy;simp only [e] at h;simpa using h
theorem eQ.cells (S:eQ X scope N k fr)(ok:X.Ok):∀y∈scope.names,y.2=.free->∃c,X.env.cells.lookup y.1=some c:=fun y hy e=>ok.has y.1 (S.frees y hy e)
theorem eQ.locals (S:eQ X scope N k fr):∀y∈scope.names,y.2=.local->scope.names.lookup y.1=some .local:=fun y hy e=>by
 have h:=eg.mp S.names y hy;simp only [e] at h;simpa using h
theorem eQ.own (S:eQ X scope N k fr){x:Str}(h:(x,oS)∈scope.names):scope.names.lookup x=some .cell:=by
 have h:=eg.mp S.owned _ h;simpa using h
theorem eQ.look (S:eQ X scope N k fr)(ok:X.Ok){n:Nat}{x:Str}{c:Addr}(h:(cellsFrom n scope.names (eu scope.names X.env.cells)).lookup x=some c) :
  (n<=c/\scope.names.lookup x=some .cell)∨(X.env.cells.lookup x=some c/\scope.names.lookup x≠some .cell):=by
 rcases JD _ _ _ h with ⟨a,b⟩ | ⟨a,b⟩
 ·exact .inl ⟨a,S.own b⟩
 ·exact .inr ⟨sO (S.cells ok) a,fun z=>b _ (lookup_mem z) rfl⟩
def di (k:Nat)(fr:List Nat)(σ:St):St:=bM k none++fr.map fun j=>(σ[j]?).getD none
variable {pins:List (Addr×Obj)}{σ:St}{H:Hp}{s:Shared}{fp:List Addr}
theorem okC (S:eQ X scope N k fr)(I:Inv X pins σ H s)(hf:∀b∈fp,f9 X pins H b)(aT:∀b∈fp,b<s.heap.objs.size):(cw X scope N pins fp s H).Ok where
 mod:=I.ok.mod
 kind:=S.kind
 glob:=I.ok.glob
 blt:=I.ok.blt
 above:=bb _
 inj:=JE _ _ _ (fun z d e=>by
   obtain⟨v,q⟩:=I.cell z d (sO (S.cells I.ok) e);exact zI q.lt) fun x y c hx hy=>I.ok.inj x y c (sO (S.cells I.ok) hx) (sO (S.cells I.ok) hy)
 has:=fun x hx=>by
  have pS:(relabel scope X.env).names.lookup x=some .cell∨(relabel scope X.env).names.lookup x=some .free:=hx;have key:scope.names.lookup x=some .cell∨scope.names.lookup x=some .free:=by
   rcases pS with h | h
   ·rcases Bg h with h | h
    ·exact .inl h
    ·exact .inr h.2
   ·rcases Bg h with h | h
    ·exact .inr h
    ·exact .inr h.2
  refine jr.mp (wz scope.names _ _ (key.imp id fun e=>?_));obtain⟨c,hc⟩:=yE (cells:=X.env.cells) scope.names [] (.inl (lookup_mem e));exact jr.mpr ⟨c,hc⟩
 qm:=fun x c h hc=>by
  have h':scope.names.lookup x=some .cell:=by
   have h2:(scope.names.lookup x==some .cell)=true:=h;simpa using h2
  rcases S.look I.ok hc with ⟨a,_⟩ | ⟨_,b⟩
  ·exact cK (ti _) a
  ·exact absurd h' b
 hd:=I.ok.hd
 frames:=I.ok.frames
 qQ:=.inl rfl
 yw:=fun b hb=>⟨bQ (aT b hb),fun x c hc=>by
  rcases S.look I.ok hc with ⟨a,_⟩ | ⟨a,_⟩
  ·intro z
   exact fM _ (cH (aT b hb) (z ▸ cK (ti _) a))
  ·exact(hf b hb).2.2.2.2.1 x c a⟩
 bs:=I.bs
 jf:=cK I.ok.jf I.sz
 bY:=fun b o e hb=>by
  rcases(hf b hb).2.2.2.1 with z | z
  ·exact I.ok.bY b o e z
  ·exact absurd (cH (a6 e) (cK I.ok.jf z)) (fM _)
 sC:=fun b hb hs=>by
  rcases bf.mp (I.j5 b hs) with e | e
  ·exact(hf b hb).2.1 e
  ·exact(hf b hb).2.2.1 e
 eL:=I.stack
 gQ:=I.xg
theorem PK {h1:Heap}{t1:Nat}{m:Str->Option Value}(S:eQ X scope N k fr)(I:Inv X pins σ H s)(hf:∀b∈fp,f9 X pins H b)(aT:∀b∈fp,b<s.heap.objs.size)
  (om:h1.Ns s.heap.objs.size m) (pW:∀b o,s.heap.get? b=some o->h1.get? b=some o)
  (rZ:∀x c,(cellsFrom (s.heap.objs.size+1) scope.names (eu scope.names X.env.cells)).lookup x=some c->∃v,h1.IsCell c v) (lM:0<t1:=by first | assumption | exact Inv.tk (by assumption)):Inv (cw X scope N pins fp s H) [] (di k fr σ) H {s with heap:=h1,toks:=t1} where
 tk:=lM
 ok:=okC S I hf aT
 os:=rfl
 bare:=I.bare
 base:=Un.kept pW
 loc:=by
  refine⟨m,om,fun i x v e1 e2 e3=>?_⟩;have hk:k<=i:=by
   by_cases z:i<k
   ·unfold di at e2
    rw [sX (by simpa using z)] at e2;simp [z] at e2
   ·omega
  obtain⟨j,rfl⟩:∃j,i=k+j:=⟨i - k,by omega⟩
  unfold di at e2;rw [sY (by simp)] at e2;simp only [wy,wA,jT] at e2;have hj:j<fr.length:=by
   cases q:fr[j]? with
   |none=>rw [q] at e2; cases e2
   |some _=>exact(eF.mp q).1
  have ha:=eg.mp S.at_ j (by simpa using hj);have vS:N[k+j]?=some x:=e1
  cases q:fr[j]? with
  |none=>rw [q] at e2; cases e2
  |some p=>
   rw [q] at e2;simp only [vS,q] at ha;obtain⟨a1,a2⟩:=zT.mp ha;have KG:X.N[p]?=some x:=by simpa using a1
   have qt:scope.names.lookup x=some .free:=by simpa using a2
   have iJ:(σ[p]?).getD none=some v:=by simpa using e2
   have Jq:σ[p]?=some (some v):=by
    cases z:σ[p]? with
    |none=>rw [z] at iJ; cases iJ
    |some y=>rw [z] at iJ; simpa using iJ
   have dq:=S.frees (x,.free) (lookup_mem qt) rfl;obtain⟨m0,hn0,HJ⟩:=I.loc;have Ho:wj X.env.scope x:=by
    rcases dq with z | z
    ·exact .inr (.inl z)
    ·exact .inr (.inr z)
   obtain⟨u,r,l⟩:=HJ p x v KG Jq Ho;refine⟨u,r,.inr ⟨?_,?_⟩⟩
   ·show (relabel scope X.env).names.lookup x=some .cell∨(relabel scope X.env).names.lookup x=some .free
    rcases e3 with z | z | z
    ·rcases Bg z with z | z
     ·rw [qt] at z; cases z
     ·cases z.1
    ·exact .inl z
    ·exact .inr z
   ·have hc:∃c,X.env.cells.lookup x=some c/\s.heap.IsCell c (some u):=by
     rcases l with ⟨z,_⟩ | ⟨_,c,hc,hv⟩
     ·rcases dq with y | y
      ·have y':X.env.kindOf x=some .cell:=y
       rw [y'] at z; cases z
      ·have y':X.env.kindOf x=some .free:=y
       rw [y'] at z; cases z
     ·exact⟨c,hc,hv⟩
    obtain⟨c,hc,o,ho,hd⟩:=hc;obtain⟨c1,BN⟩:=yE (cells:=X.env.cells) scope.names [] (.inl (lookup_mem qt));obtain⟨c',fT⟩:=jr.mp (wz scope.names (s.heap.objs.size+1) (eu scope.names X.env.cells) (.inr (jr.mpr ⟨c1,BN⟩)));have mY:X.env.cells.lookup x=some c':=by
     rcases S.look I.ok fT with ⟨_,b⟩ | ⟨b,_⟩
     ·rw [qt] at b; cases b
     ·exact b
    rw [hc] at mY;cases mY;exact⟨c,fT,o,pW c o ho,hd⟩
 cell:=rZ
 free:=I.au.fresh (bb _)
 fi:=fun x c hc=>by
  rcases S.look I.ok hc with ⟨a,_⟩ | ⟨a,_⟩
  ·exact I.au.fresh (cK (ti _) a)
  ·exact I.fi x c a
 pin:=fun p hp=>by
  have fE:p∈X.pn++pins:=by
   have iE:p∈(X.pn++pins)++[]:=hp;simpa using iE
  obtain⟨e,n,ne,nf,d⟩:=I.pin p fE;refine⟨pW _ _ e,n,bQ (a6 e),fun z=>?_,d⟩;rcases bf.mp (I.j5 p.1 z) with q | q
  ·exact ne q
  ·exact nf q
 au:=I.au.kept pW
 len:=by
  have:=S.len;show (di k fr σ).length=N.length;unfold di;simp [this]
theorem FZ {aL:St}{H':Hp}{s':Shared}{h':Heap}{gF:List (Addr×Obj)}(I:Inv X pins σ H s)(hf:∀b∈fp,f9 X pins H b)(I':Inv (cw X scope N pins fp s H) gF aL H' s')(sb:kG s.heap.objs.size s'.heap h') :
  Inv X pins σ H' {s' with heap:=h'}:=by
 have vm:H' s.heap.objs.size=none:=I'.free;refine I.agu (s':={s' with heap:=h'}) (ch:=fp) I'.os ⟨fun b o e n hb hx=>?_,fun b o e n hb hx=>?_,I'.base.free,fun b o e hx=>?_,I'.base.eU,I'.base.et,I'.base.d8⟩ ?_ I'.bare (fun b hb=>⟨(hf b hb).2.2.2.1,(hf b hb).2.1,(hf b hb).2.2.2.2.1,(hf b hb).2.2.2.2.2⟩) I'.tk
 ·exact(sb.2 b (bQ (a6 e))).trans (I'.base.keep b o e n hb hx)
 ·obtain⟨sl,q⟩:=I'.base.slot b o e n hb hx
  exact⟨sl,(sb.2 b (bQ (a6 e))).trans q⟩
 ·obtain⟨o',q⟩:=I'.base.there b o e hx
  exact⟨o',(sb.2 b (bQ (a6 e))).trans q⟩
 ·intro b u e
  refine(I'.au b u e).iU (fun c v hc q=>(sb.2 c ?_).trans q) (fun _ q=>q) fun _ _ q=>q;rintro rfl;rcases hc with rfl | hc
  ·rw [vm] at e; cases e
  ·rw [vm] at hc; cases hc
end
def jO (X:Cx)(ifs:List Expr)(t:TT):Prop:=
 ∀(pins:List (Addr×Obj)) (s:Shared) (σ:St) (H:Hp) (Q:Bool->Hp->Prop),Inv X pins σ H s->t σ H Q->
  wpAny (model X.prog X.w) X.A (forIn ifs true fun c r=>if r=true then do let ok ← isTrue c X.env (eval c X.env); pure (oW ok) else pure (oW r)) (TP X pins σ Q) X.xe s
def VS:TT:=fun _ H Q=>Q true H
theorem YA {X:Cx}:jO X [] VS:=fun _ _ _ H _ I h=>wpAny_tests_nil (fun ht=>⟨H,I,h⟩)
theorem Yz {X:Cx}{c:Expr}{t:TT}(h:PT X c t):jO X [c] t:=fun pins s σ H Q I hw=>wpAny_tests_one (h pins s σ H Q I hw)
theorem af3 {prog:Program}{w:World}{A:Around}{R:Result->Shared->Prop}{s:Shared}{elt target iter:Expr}{ifs:List Expr}{scope:Scope}{pos:Pos}{it acc:Value}{env:Env}(I:Nat->Shared->Prop)
  (turn:∀n s,I n s->wpAny (model prog w) A (pyNext it) (fun r aY=>match r with
   |none=>R (.ok .next) aY
   |some v=>wpAny (model prog w) A (letOwnedTupleGo target it v) (fun _ w9=>wpAny (model prog w) A (assign target env v) (fun _ g6=>
     wpAny (model prog w) A (forIn ifs true fun c r=>if r=true then do let ok ← isTrue c env (eval c env); pure (oW ok) else pure (oW r)) (fun ok gZ=>
      if ok=true then wpAny (model prog w) A (eval elt env) (fun x nU=>
       wpAny (model prog w) A (call (.builtin "list.append") [acc,x]) (fun _ w8=>∃m,m<n/\I m w8) (fun _ _=>False) nU) (fun _ _=>False) gZ
      else ∃m,m<n/\I m gZ) (fun _ _=>False) g6) (fun _ _=>False) w9) (fun _ _=>False) aY) (fun _ _=>False) s)
  (n:Nat) (h:I n s) :
  codeAny (model prog w) A (.compLoop (.ListComp elt [⟨target,iter,ifs,0⟩] scope pos) 0 it acc env) R s:=by
 refine codeAny_loop rfl I (fun n s hI=>?_) n h;show wpAny _ A ((compTurn (.ListComp elt [⟨target,iter,ifs,0⟩] scope pos) 0 it acc env).onRaise (fun x=>do noteFrame x env; theTreesLotGoes x)) _ _ s;refine wpAny_noted ?_;rw [compTurn_list];refine wpAny_bind (wpAny_standAt (wpAny_bind (wpAny_mono (turn n s hI) (fun r aY eJ=>?_) fun _ _ h'=>h'.elim)))
 cases r with
 |none=>exact wpAny_pure eJ
 |some v=>
  refine wpAny_bind (wpAny_mono eJ (fun _ w9 Hi=>?_) fun _ _ h'=>h'.elim);refine wpAny_bind (wpAny_mono Hi (fun _ g6 rL=>wpAny_bind (wpAny_mono rL (fun ok gZ lL=>?_) fun _ _ h'=>h'.elim)) fun _ _ h'=>h'.elim)
  cases ok with
  |false=>
   simp only [du,if_false] at lL ⊢;exact wpAny_bind (wpAny_pure (wpAny_pure ⟨rfl,lL⟩))
  |true=>
   simp only [if_true] at lL ⊢;refine wpAny_bind (wpAny_bind (wpAny_mono lL (fun x nU Hh=>wpAny_bind (wpAny_mono Hh (fun _ w8 Hg=>wpAny_pure (wpAny_pure ⟨rfl,Hg⟩)) fun _ _ h'=>h'.elim)) fun _ _ h'=>h'.elim))
def pq (k:Nat)(fr:List Nat)(g:TG)(tc:TT)(te:TE)(σ:St)(J:It)(H1:Hp)(Q:VK):Prop:=
 ∀D,H1 D=none->∃W:Nat->Nat->List V->St->Hp->Prop,(∃m,W 0 m [] (di k fr σ) (upd H1 D (.lst [])))/\
  ∀i m ys aL H',W i m ys aL H'->H' D=some (.lst ys)/\
   ((J.stop i H'/\Q (.ref D) H')∨
    (J.go i H'/\∃m',m'<m/\∀x H2,J.wO i H' x H2->g x aL H2 fun eC H3=>tc eC H3 fun b H4=>
     if b=true then te eC H4 fun v H5=>H5 D=some (.lst ys)/\ys.length<sizeLine/\W (i+1) m' (ys++[v]) eC (upd H5 D (.lst (ys++[v])))
     else W (i+1) m' ys eC H4))
def uv (k:Nat)(fr:List Nat)(wi:TI)(g:TG)(tc:TT)(te:TE):TE:=fun σ H Q=>wi σ H fun J H1=>pq k fr g tc te σ J H1 Q
section
variable {X:Cx}{scope:Scope}{N:List Str}{k:Nat}{fr:List Nat}{tg iter elt:Expr}{ifs:List Expr}{wi:TI}{g:TG}{tc:TT}{te:TE}{pos:Pos}
theorem SH {pins:List (Addr×Obj)}{σ:St}{H:Hp}{s:Shared}{it:Addr}{fp:List Addr}{tn:Nat->Heap->Prop}{J:It}{Q:VK}{RR:Value->Addr->Result->Shared->Prop}{E:Value->Shared->Prop}
  (hc:X.calm=true) (S:eQ X scope N k fr) (hg:∀pins fp s H,PG (cw X scope N pins fp s H) tg g) (ht:∀pins fp s H,jO (cw X scope N pins fp s H) ifs tc) (he:∀pins fp s H,PE (cw X scope N pins fp s H) elt te)
  (I:Inv X pins σ H s) (T:Turn X.prog X.w X.K tg J fp it tn) (st:tn 0 s.heap) (hf:∀b∈fp,f9 X pins H b) (h:pq k fr g tc te σ J H Q)
  (hR:∀D C s' (H':Hp),Q (.ref D) H'->f9 X pins H' C->(∃m,s'.heap.Ns C m)->(∀h',kG C s'.heap h'->Inv X pins σ H' {s' with heap:=h'})->RR (.ref D) C (.ok .next) s') :
  wpAny (model X.prog X.w) X.A (newList []) (fun acc gZ=>wpAny (model X.prog X.w) X.A (newFunctionEnv scope X.env.globals (eu scope.names X.env.cells) [] X.env.qual none .none (some X.env)) (fun ky nU=>
   codeAny (model X.prog X.w) X.A (.compStart (.ListComp elt [⟨tg,iter,ifs,0⟩] scope pos) 0 (.ref it) acc {ky with scope:=relabel scope X.env}) (RR acc ky.locals) nU) E gZ) E s:=by
 refine wpAny_newObj_type (Ou ?_)
 dsimp only
 have I3:Inv X pins σ (upd H s.heap.objs.size (.lst [])) {s with heap:=s.heap.push {cls:=.type "list",dict:=none,data:=.seq ([]:List Value).toArray}}:=
  I.laid (t':=s.toks) (fun b u e=>aZ _ e) (bb _) ⟨by simp,[],_,.nil,cS _ rfl⟩
 generalize sj:({s with heap:=s.heap.push {cls:=.type "list",dict:=none,data:=.seq ([]:List Value).toArray}}:Shared)=s3 at I3
 have e3:s.heap.push {cls:=.type "list",dict:=none,data:=.seq ([]:List Value).toArray}=s3.heap:=by rw [← sj]
 rw [e3];generalize hD:s.heap.objs.size=D at I3 ⊢;have Ig:H D=none:=I.au.fresh (by omega);obtain⟨W,⟨m0,w0⟩,turn⟩:=h D Ig;have HS:∀b∈fp,b≠D:=fun b hb z=>by
  obtain⟨o,e,_⟩:=T.obj 0 _ st b hb;exact absurd (a6 e) (by rw [z,← hD]; exact fM _)
 have pZ:∀b∈fp,f9 X pins (upd H D (.lst [])) b:=fun b hb=>⟨by rw [aF (HS b hb)]; exact(hf b hb).1,(hf b hb).2⟩
 have wU:∀b o,s.heap.get? b=some o->s3.heap.get? b=some o:=fun b o e=>by rw [← e3]; exact aZ _ e
 have aT:∀b∈fp,b<s3.heap.objs.size:=fun b hb=>by
  obtain⟨o,e,_⟩:=T.obj 0 _ st b hb;exact a6 (wU b o e)
 have xR:∀b o,s3.heap.get? b=some o->(pushCells (s3.heap.push {cls:=.type "dict",data:=.dict #[]}) scope.names).get? b=some o:=fun b o e=>pushCells_keeps _ _ b o (aZ _ e)
 have xE:=(Heap.Ns.new s3.heap (.type "dict")).keeps (pushCells_keeps scope.names _)
 have yF:∀x c,(cellsFrom (s3.heap.objs.size+1) scope.names (eu scope.names X.env.cells)).lookup x=some c->∃v,(pushCells (s3.heap.push {cls:=.type "dict",data:=.dict #[]}) scope.names).IsCell c v:=by
  have q:=Cn scope.names (s3.heap.push {cls:=.type "dict",data:=.dict #[]}) (eu scope.names X.env.cells) fun z d e=>by
   obtain⟨v,q⟩:=I3.cell z d (sO (S.cells I.ok) e);exact⟨v,q.keeps fun b o e=>aZ _ e⟩
  rwa [kH] at q
 generalize ado:pushCells (s3.heap.push {cls:=.type "dict",data:=.dict #[]}) scope.names=eJ at xR xE yF ⊢
 have keep:∀b o,s3.heap.get? b=some o->eJ.get? b=some o:=xR;have HB:=xE;have iV:tn 0 eJ:=T.keep 0 _ _ st fun b hb o e=>keep b o (wU b o e);have Jm:({s with heap:=eJ,toks:=s.toks}:Shared)={s3 with heap:=eJ,toks:=s.toks}:=by rw [← sj]
 have IC:Inv (cw X scope N pins fp s3 (upd H D (.lst []))) [] (di k fr σ) (upd H D (.lst [])) {s3 with heap:=eJ,toks:=s.toks}:=PK S I3 pZ aT HB keep yF;rw [← Jm] at IC;have qR:∀{H':Hp},(∀b∈fp,H' b=none)->∀b∈fp,f9 (cw X scope N pins fp s3 (upd H D (.lst []))) [] H' b:=fun hn b hb=>
  ⟨hn b hb,bQ (aT b hb),fun z=>by
   rcases bf.mp (I3.j5 b z) with q | q
   ·exact(hf b hb).2.1 q
   ·exact(hf b hb).2.2.1 q,.inl hb,fun x c rY=>by
   rcases S.look I.ok rY with ⟨a,_⟩ | ⟨a,_⟩
   ·intro z
    exact fM _ (cH (aT b hb) (z ▸ cK (ti _) a))
   ·exact(hf b hb).2.2.2.2.1 x c a,fun p hp=>by
   have fE:p∈X.pn++pins:=by
    have iE:p∈(X.pn++pins)++[]:=hp;simpa using iE
   exact(hf b hb).2.2.2.2.2 p fE⟩
 have loop:∀s4:Shared,Inv (cw X scope N pins fp s3 (upd H D (.lst []))) [] (di k fr σ) (upd H D (.lst [])) s4->tn 0 s4.heap->
   codeAny (model X.prog X.w) X.A (.compLoop (.ListComp elt [⟨tg,iter,ifs,0⟩] scope pos) 0 (.ref it) (.ref D) (cw X scope N pins fp s3 (upd H D (.lst []))).env) (RR (.ref D) s3.heap.objs.size) s4:=by
  intro s4 I4 EF;refine af3 (fun n s'=>∃i ys aL H',Inv (cw X scope N pins fp s3 (upd H D (.lst []))) [] aL H' s'/\tn i s'.heap/\(∀b∈fp,H' b=none)/\W i n ys aL H') ?_ m0 ⟨0,[],_,_,I4,EF,fun b hb=>(pZ b hb).1,w0⟩;rintro n s5 ⟨i,ys,nC,H5,I5,nV,su,w5⟩;obtain⟨hD5,r9⟩:=turn i n ys nC H5 w5;rcases r9 with ⟨stop,q⟩ | ⟨go,m',hm,step⟩
  ·refine aG (T.done (cw X scope N pins fp s3 (upd H D (.lst []))) rfl rfl rfl hc i [] s5 nC H5 _ I5 (qR su) nV stop) fun r s6 ⟨hr,I6⟩=>?_
   subst hr;obtain⟨m6,HF,_⟩:=I6.loc;exact hR D _ s6 H5 q (I3.qd (bb _) I6.free) ⟨m6,HF⟩ fun h' sb=>FZ I3 pZ I6 sb
  ·refine qM (T.item (cw X scope N pins fp s3 (upd H D (.lst []))) rfl rfl rfl hc i [] s5 nC H5 _ I5 (qR su) nV go) fun r s6 acI ⟨u,hr,h6⟩=>?_
   subst hr;refine aG h6 fun _ s7 h_=>?_;obtain⟨x,H7,I7,r7,y7,qS,IS⟩:=h_;have K4:=I7.pinned (qR IS) (T.obj _ _ qS);refine aG (hg pins fp s3 _ _ s7 nC H7 x u _ K4 r7 (step x H7 y7)) fun _ s8 h_=>?_;obtain⟨eB,H8,I8,q8⟩:=h_;refine aG (ht pins fp s3 _ _ s8 eB H8 _ I8 q8) fun b s9 h_=>?_;obtain⟨H9,I9,q9⟩:=h_;have again:∀{H':Hp} {s':Shared},Inv (cw X scope N pins fp s3 (upd H D (.lst []))) ([]++uG fp s7.heap) eB H' s'->tn (i+1) s'.heap/\(∀b∈fp,H' b=none):=fun {H' s'} I'=>by
    refine⟨T.keep _ _ _ qS fun b hb o e=>(I'.pin (b,o) (eE _ (eE _ (uL hb e)))).1,fun b hb=>?_⟩;obtain⟨o,e,d⟩:=T.obj _ _ qS b hb;exact(I'.pin (b,o) (eE _ (eE _ (uL hb e)))).2.1
   cases b with
   |false=>
    simp only [du,if_false] at q9 ⊢;obtain⟨a1,a2⟩:=again I9;exact⟨m',hm,i+1,ys,eB,H9,I9.qJ,a1,a2,q9⟩
   |true=>
    simp only [if_true] at q9 ⊢;refine aG (he pins fp s3 _ _ s9 eB H9 _ I9 q9) fun y Fi h_=>?_;obtain⟨v,zf,K6,FG,Ik,HI,FJ⟩:=h_;refine aG (xJ (X:=cw X scope N pins fp s3 (upd H D (.lst []))) _ Fi eB zf (.ref D) [v] (.ref D) [y] (fun z H'=>z=.aK/\H'=upd zf D (.lst (ys++[v]))) K6 rfl (.cons FG .nil) ⟨D,ys,v,rfl,rfl,Ik,HI,rfl,rfl⟩) fun z XY h_=>?_;obtain⟨v11,H11,ze,_,_,Jr⟩:=h_;subst Jr;obtain⟨a1,a2⟩:=again ze;exact⟨m',hm,i+1,ys++[v],eB,_,ze.qJ,a1,a2,FJ⟩
 exact codeAny_compStart_list (loop _ IC iV) (T.self X.A 0 _ _ _ iV (loop _ IC iV))
theorem Y7 (hc:X.calm=true)(S:eQ X scope N k fr)(hi:PI X tg iter wi)(hg:∀pins fp s H,PG (cw X scope N pins fp s H) tg g)(ht:∀pins fp s H,jO (cw X scope N pins fp s H) ifs tc)
  (he:∀pins fp s H,PE (cw X scope N pins fp s H) elt te) (hs:∀x,foldedSetIterable iter X.env x=pure x:=by intro _; rfl):PE X (.ListComp elt [⟨tg,iter,ifs,0⟩] scope pos) (uv k fr wi g tc te):=by
 intro pins s σ H Q I h;rw [eval_ListComp];refine wpAny_comprehension_free (use:=none) rfl hs (Cm (S.cells I.ok)) S.kind S.locals (qM (hi pins s σ H _ I h) fun v s1 t1 h1=>aG h1 fun xU s2 h2=>?_);obtain⟨it,fp,tn,J,H2,e,I2,T,g9,f2,q⟩:=h2;subst e;refine SH (RR:=fun acc C=>compPost (model X.prog X.w) X.A X.xe none (EP X pins σ Q) acc C) hc S hg ht he I2 T g9 f2 q ?_;intro D C s' H' q' _ hn inv;obtain⟨m,hn⟩:=hn;exact⟨m,hn,fun h' sb=>(fun ht=>⟨.ref D,H',inv h' sb,rfl,q'⟩)⟩
theorem YD {i:Nat}{x:Str}{pos' k7:Pos}(hc:X.calm=true)(S:eQ X scope N k fr)(hi:PI X tg iter wi)(hg:∀pins fp s H,PG (cw X scope N pins fp s H) tg g)(ht:∀pins fp s H,jO (cw X scope N pins fp s H) ifs tc)
  (he:∀pins fp s H,PE (cw X scope N pins fp s H) elt te) (hN:X.N.Nodup) (HN:X.N[i]?=some x) (hx:X.env.scope.names.lookup x=some .local)
  (Ht:swapsWith (.ListComp elt [⟨tg,iter,ifs,0⟩] scope pos) (some (.Name x pos')) k7.line X.env=pure true:=by rfl)
  (hs:∀x,foldedSetIterable iter X.env x=pure x:=by intro _; rfl):PS X (.Assign [.Name x pos'] (.ListComp elt [⟨tg,iter,ifs,0⟩] scope pos) k7) (qO (uv k fr wi g tc te) (qc i)):=by
 intro pins s σ H D I h;rw [exec_Assign_Name_used _ _ _ _ Ht];refine wpAny_bind (wpAny_standAt (wpAny_bind ?_));show wpAny _ X.A (do let _ ← comprehension (.ListComp elt [⟨tg,iter,ifs,0⟩] scope pos) scope X.env _ (newList []) false (eval iter X.env) (some (assign (.Name x pos') X.env))) _ _ s;refine wpAny_bind (wpAny_mono (wpAny_comprehension_free (use:=some (assign (.Name x pos') X.env)) (Q:=fun _ s'=>SP X pins D .next s') rfl hs (Cm (S.cells I.ok)) S.kind S.locals
  (qM (hi pins s σ H _ I h) fun v s1 t1 h1=>aG h1 fun xU s2 h2=>?_)) (fun _ s' hq=>wpAny_pure (wpAny_pure hq)) fun _ _ e=>e)
 obtain⟨it,fp,tn,J,H2,e,I2,T,g9,f2,q⟩:=h2;subst e;refine SH (RR:=fun acc C=>compPost (model X.prog X.w) X.A X.xe (some (assign (.Name x pos') X.env)) (fun _ s'=>SP X pins D .next s') acc C) hc S hg ht he I2 T g9 f2 q ?_;intro L C s' H' q' fC hn inv;obtain⟨m,hn⟩:=hn;show wpAny _ X.A (assign (.Name x pos') X.env (.ref L)) _ _ _;have I3:Inv X pins σ H' s':=inv s'.heap (.refl ..);obtain⟨f0,f1,f2',f3,f4,f5⟩:=fC;refine wpAny_assign_Name (MF I3 hN HN (.inl hx) (v:=.ref L) rfl (fun gD I4 hb=>?_) (.inr hx));obtain⟨a,sb,ha⟩:=hb;have hCa:C≠a:=by
  rcases ha with e | e
  ·rw [e]; exact f1
  ·exact fun z=>f4 x a e z.symm
 refine⟨m,hn.sameBut sb hCa,fun i7 XI=>(fun ht=>⟨_,H',I4.turned (t':=gD.toks) (fun b o hb e=>(XI.2 b hb).trans e) f0 f1 f3 f4 f5,q'⟩)⟩
end
abbrev S (l:List Nat):V:=.str ⟨l.toArray⟩
theorem CK {a b:Str}(h:a.cps.toList=b.cps.toList):a=b:=by
 cases a; cases b
 simp at h;rw [h]
theorem KN {a b:List Nat}(h:S a=S b):a=b:=by
 injection h with h;injection h with h;simpa using congrArg jm h
section
variable {X:Cx}
theorem jC {l:List Nat}{x:Str}{j pos}(h:x=⟨l.toArray⟩:=by decide +kernel):PE X (.Constant (.str x) j pos) (tC (S l)):=by
 subst h;exact FR
theorem aj6 (a b:List Nat):(⟨a.toArray⟩:Str)++(⟨b.toArray⟩:Str)=⟨(a++b).toArray⟩:=CK (by show (a.toArray++b.toArray).toList=_; simp)
def Yt:R2:=fun x y H Q=>∃a b,x=S a/\y=S b/\a.length+b.length<=sizeLine/\Q (S (a++b)) H
theorem ZJ:cx X (binaryOp .Add) Yt:=by
 intro pins s σ H x y v u Q I rx ry ⟨a,b,ex,ey,hl,q⟩;subst ex ey;refine ZI pins s σ H _ _ v u Q I rx ry ⟨_,_,rfl,rfl,?_,?_⟩
 ·show a.toArray.size+b.toArray.size<=sizeLine
  simpa using hl
 ·rw [aj6]; exact q
def Yq:R2:=fun x y H Q=>∃l i c,x=S l/\y=.int i/\l.length<=sizeLine/\iq l i=some c/\Q (S [c]) H
theorem ab6:nt X Yq:=by
 intro value slice pins s σ H x y v u Q I rx ry ⟨l,i,c,ex,ey,hl,hc,q⟩ hs;subst ex ey;exact ab4 value slice pins s σ H _ _ v u Q I rx ry ⟨_,i,c,rfl,rfl,by simpa [nO] using hl,by simpa using hc,q⟩ hs
theorem agn:fj X (.builtin "len") (fun xs H Q=>∃l,xs=[S l]/\l.length<=sizeLine/\Q (.int l.length) H):=by
 intro pins s σ H xs us Q I r ⟨l,e,hl,q⟩;subst e;exact agm pins s σ H _ us Q I r ⟨_,rfl,by simpa [nO] using hl,by simpa [nO] using q⟩
def FC (neg:Bool):R2:=fun x y H Q=>∃c l,x=S [c]/\y=S l/\Q (.bl (if neg then !decide (c∈l) else decide (c∈l))) H
theorem ZE:cx X (compareOp .In) (FC false):=by
 intro pins s σ H x y v u Q I rx ry ⟨c,l,ex,ey,q⟩;subst ex ey;refine ZC pins s σ H _ _ v u Q I rx ry ⟨_,_,rfl,rfl,?_⟩;rw [StrLaws.found_one];simpa using q
theorem Zt:cx X (compareOp .NotIn) (FC true):=by
 intro pins s σ H x y v u Q I rx ry ⟨c,l,ex,ey,q⟩;subst ex ey;refine Zr pins s σ H _ _ v u Q I rx ry ⟨_,_,rfl,rfl,?_⟩;rw [StrLaws.found_one];simpa using q
def lT (l:List Nat)(lo hi:Option Int):List Nat:=(l.drop (HT.dj l.length 0 lo)).take (HT.dj l.length l.length hi - HT.dj l.length 0 lo)
theorem YQ (l:List Nat)(a b:Nat):((fm (b - a)).map fun(k:Nat)=>((a:Int)+1 * (k:Int)).toNat).filterMap (l.toArray[·]?)=(l.drop a).take (b - a):=by
 have key:∀(n a:Nat),((fm n).map fun(k:Nat)=>((a:Int)+1 * (k:Int)).toNat).filterMap (l.toArray[·]?)=(l.drop a).take n:=by
  intro n
  induction n with
  |zero=>intro a; simp
  |succ n ih=>
   intro a;rw [List.range_succ,tw,List.filterMap_append,ih a,List.take_add_one]
   congr 1
   simp only [bI,iK,gf,List.filterMap_nil,List.getElem?_drop];have e:((a:Int)+1 * (n:Int)).toNat=a+n:=by omega
   rw [e]
   cases q:l[a+n]? with
   |none=>simp [q]
   |some v=>simp [q]
 exact key _ a
theorem WL (l:List Nat)(lo hi:Option Int):Txt.slice ⟨l.toArray⟩ lo hi=⟨(lT l lo hi).toArray⟩:=by
 have hb:=MQ lo hi l.length;have ei:Builtin.Str.strSliceIndices lo hi 1 l.length=(fm (HT.dj l.length l.length hi - HT.dj l.length 0 lo)).map fun(k:Nat)=>(((HT.dj l.length 0 lo:Nat):Int)+1 * (k:Int)).toNat:=by
  obtain⟨h1,h2,h3⟩:=hb;show sliceRange (sliceBounds lo hi none l.length).1 (sliceBounds lo hi none l.length).2.1 1=_;rw [h1,h2];unfold sliceRange;simp only [show (1:Int) > 0 by decide,if_true,Int.ediv_one]
  congr 2
  split <;> omega
 have hl:(⟨l.toArray⟩:Str).length=l.length:=by simp [nO]
 unfold Txt.slice;rw [hl,ei];have e2:=YQ l (HT.dj l.length 0 lo) (HT.dj l.length l.length hi)
 split
 ·rename_i h
  simp only [ef,List.length_range] at h;have h':HT.dj l.length l.length hi - HT.dj l.length 0 lo=l.length:=by simpa using h
  have h3:HT.dj l.length l.length hi<=l.length:=HT.XO _ _ (bb _) _;have h4:HT.dj l.length 0 lo=0∨l.length=0:=by omega
  apply CK
  simp only [lT,h'];rcases h4 with h4 | h4
  ·simp [h4]
  ·have:l=[]:=sW.mp h4
   subst this;simp
 ·apply CK
  simp only [lT];exact e2
theorem afY (l:List Nat)(lo hi:Option Int):(lT l lo hi).length<=l.length:=by
 simp only [lT,tE,wH];omega
def Yk:V->Option Int->Option Int->Hp->VK->Prop:=fun x lo hi H Q=>∃l,x=S l/\l.length<=sizeLine/\Q (S (lT l lo hi)) H
theorem NI {v:Value}{o:Option Int}(p:IsPart v o):∃q:Option (Int×Tok),v=partValue q/\q.map (·.1)=o:=by
 cases p with
 |none=>exact⟨none,rfl,rfl⟩
 |int i t=>exact⟨some (i,t),rfl,rfl⟩
theorem WQ:qv X Yk:=by
 intro pins s σ H x v vl vu lo hi sl Q I rx hs pl pu ⟨l,ex,hl,q⟩;subst ex;obtain⟨t,rfl⟩:=rx;obtain⟨ql,rfl,rfl⟩:=NI pl;obtain⟨qu,rfl,rfl⟩:=NI pu;refine⟨"str",_,F.slot_str_getitem.lookup,typeIs_str _ _ _,wpAny_getItem_str_slice (l:=ql) (u:=qu) (st:=none) hs rfl ?_⟩
 have e:Txt.slice ⟨l.toArray⟩ (ql.map (·.1)) (qu.map (·.1))=⟨(lT l (ql.map (·.1)) (qu.map (·.1))).toArray⟩:=WL _ _ _;have hz:(lT l (ql.map (·.1)) (qu.map (·.1))).length<=sizeLine:=cK (afY _ _ _) hl;refine post_val_or_made (fun _=>?_) fun t' k=>(fun ht=>⟨S (lT l (ql.map (·.1)) (qu.map (·.1))),H,I.tok k,⟨t',?_⟩,q⟩)
 ·refine cK ?_ hl
  have:=Txt.slice_le ⟨l.toArray⟩ (ql.map (·.1)) (qu.map (·.1));refine cK (List.length_filterMap_le _ _ |> fun h=>(by simpa [nO] using h)) ?_;have h2:=sliceIndices_le (ql.map (·.1)) (qu.map (·.1)) l.length;simpa [slicePicked,nO] using h2
 ·rw [← e]
  rfl
def K1 (vs:List V):It:=⟨fun i _=>i<vs.length,fun i H x H'=>H'=H/\vs[i]?=some x,fun i _=>vs.length<=i⟩
def hW (l:List Nat):List V:=l.map fun c=>S [c]
theorem WX (l:List Nat):(hW l).length=l.length:=by simp [hW]
theorem Vu {P:Program}{w:World}{K:ah}{tg:Expr}(it:Addr)(l:List Nat)(ty:String)(t:Tok)(ki:ty = "str_ascii_iterator" ∨ty = "str_iterator") :
  Turn P w K tg (K1 (hW l)) [it] it (fun i h=>h.IsStrIter it ty ⟨l.toArray⟩ t i):=by
 have WW:∀A:Around,A.handled=none->Walks P w A it [it] [it] l.length (SignAt ⟨l.toArray⟩) (fun i h=>h.IsStrIter it ty ⟨l.toArray⟩ t i):=fun A hh=>by
  rcases ki with rfl | rfl
  ·simpa using Walks.strAscii (prog:=P) (w:=w) hh it ⟨l.toArray⟩ t
  ·simpa using Walks.strWide (prog:=P) (w:=w) hh it ⟨l.toArray⟩ t
 refine⟨by simp,fun i h st b hb=>?_,fun i h h' st k=>?_,?_,?_,?_⟩
 ·have e:b=it:=by simpa using hb
  subst e;obtain⟨o,e,c,d⟩:=st;exact⟨o,e,fun v z=>by rw [d] at z; cases z⟩
 ·obtain⟨o,e,r⟩:=st
  exact⟨o,k it (by simp) o e,r⟩
 ·intro X hP hw hK hc i pins s σ H E I hf st hg
  subst hP hw hK;obtain⟨f0,f1,f2,f3,f4,f5⟩:=hf it (by simp);have hi:i<l.length:=by simpa [hW] using (show i<(hW l).length from hg)
  refine(WW X.A (I.ok.hd hc)).item i s _ _ hi st fun v h' tk hv hU kk ht=>?_;obtain⟨c,u,rY,rfl⟩:=hv;have I1:Inv X pins σ H {s with heap:=h',toks:=tk}:=I.turned (fun b o hb e=>kk b o (by simpa using hb) e) f0 f1 f3 f4 f5;obtain⟨o,e,c',d⟩:=id hU;refine⟨_,rfl,yv (s:={s with heap:=h',toks:=tk}) (n:=ty) e c' d (by rcases ki with rfl | rfl <;> decide) fun _=>⟨S [c],H,I1,⟨u,rfl⟩,⟨rfl,?_⟩,hU,fun b hb=>(hf b hb).1⟩⟩;have adD:l[i]?=some c:=by simpa using rY
  simp [hW,adD]
 ·intro X hP hw hK hc i pins s σ H E I hf st hg
  subst hP hw hK;obtain⟨f0,f1,f2,f3,f4,f5⟩:=hf it (by simp);have hi:l.length<=i:=by simpa [hW] using (show (hW l).length<=i from hg)
  have Oa:(⟨l.toArray⟩:Str).cps[i]?=none:=by simp [hi]
  rcases ki with rfl | rfl
  ·exact wpAny_pyNext_ascii_end (I.ok.hd hc) st Oa fun h' eb=>(fun ht=>⟨rfl,I.turned (t':=s.toks) (fun b o hb e=>eb b o hb e) f0 f1 f3 f4 f5⟩)
  ·exact wpAny_pyNext_wide_end (I.ok.hd hc) st Oa fun h' eb=>(fun ht=>⟨rfl,I.turned (t':=s.toks) (fun b o hb e=>eb b o hb e) f0 f1 f3 f4 f5⟩)
 ·intro A i s Q E st h
  rcases ki with rfl | rfl
  ·exact wpAny_pyIter_striter_ascii st h
  ·exact wpAny_pyIter_striter_wide st h
def acu (tl:TE):TI:=fun σ H R=>tl σ H fun x H1=>∃l,x=S l/\R (K1 (hW l)) H1
theorem YT {tg e:Expr}{tl:TE}(hl:PE X e tl):PI X tg e (acu tl):=by
 intro pins s σ H R I h;refine aG (hl pins s σ H _ I h) fun v s1 h_=>?_;obtain⟨x,H1,I1,r1,l,ex,q⟩:=h_;subst ex;obtain⟨t,rfl⟩:=r1;refine fun _=>wpAny_pyIter_strU fun _=>?_;refine⟨s1.heap.objs.size,[s1.heap.objs.size],_,_,H1,rfl,I1.kept (t':=s1.toks) fun b o e=>aZ _ e,Vu _ l (strIterType ⟨l.toArray⟩) t ?_,⟨_,cS _ rfl,rfl,rfl⟩,fun b hb=>?_,q⟩
 ·unfold strIterType
  split
  ·exact .inl rfl
  ·exact .inr rfl
 ·have e:b=s1.heap.objs.size:=by simpa using hb
  subst e;exact I1.qd (bb _) (I1.au.fresh (bb _))
theorem range_all (bs:List Bool):(fm bs.length).all (fun i=>bs[i]?.getD false)=bs.all id:=by
 rw [kI,eg,eg];constructor
 ·intro h b hb
  obtain⟨i,hi,rfl⟩:=List.mem_iff_getElem.mp hb;have:=h i (by simpa using hi);simpa [hi] using this
 ·intro h i hi
  have mT:i<bs.length:=by simpa using hi
  have:=h bs[i] (zG mT);simpa [mT] using this
theorem agC {P:Program}{w:World}{A:Around}{bs:List Bool}{ao:List Value}(r:Vals (bs.map V.bl) ao):TruthOf P w A (fun i v=>ao.toArray[i]?=some v) (fun i=>bs[i]?.getD false):=by
 intro i v s Q E hP hQ;have Qy:ao[i]?=some v:=by simpa using hP
 have hl:=r.length;have hi:i<ao.length:=(eF.mp Qy).1;have hb:i<bs.length:=by simpa [← hl] using hi
 obtain⟨u,hu,ru⟩:=r.get (i:=i) (x:=.bl bs[i]) (by simp [hb]);rw [Qy] at hu;cases hu;cases ru;have e:bs[i]?.getD false=bs[i]:=by simp [hb]
 have Qx:Q (bs[i]?.getD false) s:=hQ;rw [e] at Qx;exact wpAny_truthy_bool Qx
theorem agt (hc:X.calm=true):fj X (.builtin "all") (fun xs H Q=>∃(p:Addr) (bs:List Bool),xs=[.ref p]/\bX X.K H p (bs.map V.bl)/\Q (.bl (bs.all id)) H):=by
 intro pins s σ H xs us Q I r ⟨p,bs,e,hq,q⟩;subst e;obtain⟨u,rfl,ru⟩:=r.one;cases ru;obtain⟨ao,rv,pl,hz⟩:=I.list hq;have aT:p<s.heap.objs.size:=by obtain⟨o,n,e,_⟩:=pl; exact a6 e
 refine call_all_walk (wpAny_pyIter_list pl.isList ⟨_,_,_,_,_,_,fun i=>bs[i]?.getD false,rfl,Walks.list (A:=X.A.in1) (I.ok.hd hc) s.heap.objs.size p (bQ aT) ao.toArray,⟨⟨_,cS _ rfl,rfl,rfl⟩,pl.isList.push _⟩,agC rv,fun h' tk hk=>?_⟩);refine(fun ht=>⟨.bl (bs.all id),H,I.kept (t':=tk) (fun b o e=>hk b o (by simpa using bQ (a6 e)) (aZ _ e)),?_,q⟩);have hl:ao.toArray.size=bs.length:=by have:=rv.length; simp at this; simp [this]
 rw [hl,range_all];rfl
def PB (K:ah)(x:V)(H:Hp)(b:Bool):Prop:=match x with
 |.str _=>b=true
 |.int _=>b=false
 |.bl _=>b=false
 |.aK=>b=false
 |.ref p=>b=false/\((∃xs,bX K H p xs)∨∃xs,cP K H p xs)
 |_=>False
theorem ago:fj X (.builtin "isinstance") (fun xs H Q=>∃x b,xs=[x,.ty "str"]/\PB X.K x H b/\Q (.bl b) H):=by
 intro pins s σ H xs us Q I r ⟨x,b,e,hx,q⟩;subst e;obtain⟨u,t,rfl,ru,rt⟩:=r.two;cases rt
 cases x with
 |str z=>
  obtain⟨t,rfl⟩:=ru
  cases (show b=true from hx)
  exact IsiPair.str_str (fun ht=>⟨.bl _,H,I,rfl,q⟩)
 |int i=>
  obtain⟨t,rfl⟩:=ru
  cases (show b=false from hx)
  exact IsiPair.int_str (fun ht=>⟨.bl _,H,I.tok _,rfl,q⟩)
 |bl k=>
  cases ru
  cases (show b=false from hx)
  exact IsiPair.bool_str (fun ht=>⟨.bl _,H,I.tok _,rfl,q⟩)
 |aK=>
  cases ru
  cases (show b=false from hx)
  exact IsiPair.NoneType_str (fun ht=>⟨.bl _,H,I.tok _,rfl,q⟩)
 |ref p=>
  cases ru;obtain⟨hb,hx⟩:=hx;cases hb;rcases hx with ⟨xs,hx⟩ | ⟨xs,hx⟩
  ·obtain⟨ao,_,pl,_⟩:=I.list hx
   obtain⟨o,n,e,c,_⟩:=pl;exact IsiPair.list_str e c (fun ht=>⟨.bl _,H,I.tok _,rfl,q⟩)
  ·obtain⟨ao,_,pl,_⟩:=I.tuple hx
   obtain⟨o,e,c,_⟩:=pl;exact IsiPair.tuple_str e c (fun ht=>⟨.bl _,H,I.tok _,rfl,q⟩)
 |_=>exact dN hx
end
def wx (p:List Nat×List Nat)(e:DictEntry):Prop:=(∃t,e.key=.str ⟨p.1.toArray⟩ t)/\∃t,e.val=.str ⟨p.2.toArray⟩ t
def dY (h:Heap)(a:Addr)(kvs:List (List Nat×List Nat)):Prop:=
 (a==sysModules)=false/\∃o es ep,h.get? a=some o/\o.ExactDict/\o.data=.dict es ep/\Paired wx kvs es.toList/\(kvs.map (·.1)).Nodup
theorem aci (a b:List Nat)(t:Tok):(qB ⟨a.toArray⟩ t).isStr ⟨b.toArray⟩=(a==b):=by
 have z:(qB ⟨a.toArray⟩ t).isStr ⟨b.toArray⟩=((⟨a.toArray⟩:Str) == ⟨b.toArray⟩):=rfl;rw [z,kI];simp only [beq_iff_eq];constructor
 ·intro h
  injection h with h;simpa using congrArg jm h
 ·intro h; rw [h]
theorem RG {kvs:List (List Nat×List Nat)}{es:Array DictEntry}(r:Paired wx kvs es.toList):kvs.length=es.size:=by
 rw [zt r]; simp
theorem Paired.at2 {α β:Type}{F:α->β->Prop}:∀{xM:List α}{l₂:List β}{i:Nat}{b:β},Paired F xM l₂->l₂[i]?=some b->∃a,xM[i]?=some a/\F a b
 |_,_,_,_,.nil,e=>by simp at e
 |_,_,0,_,.cons r _,e=>by simp at e; subst e; exact⟨_,by simp,r⟩
 |_,_,i+1,b,.cons _ t,e=>by
  obtain⟨a,h1,h2⟩:=Paired.at2 (i:=i) (b:=b) t (by simpa using e);exact⟨a,by simpa using h1,h2⟩
theorem ae5 {kvs:List (List Nat×List Nat)}{es:Array DictEntry}(r:Paired wx kvs es.toList):(es.all fun e=>isExactStrKey e.key)=true:=by
 rw [Array.all_eq_true];intro i hi;obtain⟨p,_,⟨t,hk⟩,_⟩:=Paired.at2 (i:=i) (b:=es[i]) r (by simp [hi]);rw [hk];rfl
theorem Jo {k:List Nat}:∀{kvs:List (List Nat×List Nat)}{l:List DictEntry},Paired wx kvs l->
  (l.findIdx? (fun e=>e.key.isStr ⟨k.toArray⟩)=none/\az kvs k=none)∨∃i e v t u,l.findIdx? (fun e=>e.key.isStr ⟨k.toArray⟩)=some i/\l[i]?=some e/\e.key=.str ⟨k.toArray⟩ t/\e.val=.str ⟨v.toArray⟩ u/\az kvs k=some v
 |_,_,.nil=>.inl ⟨rfl,rfl⟩
 |p::ps,e::l,.cons r t=>by
  obtain⟨⟨tk,hk⟩,⟨tv,hv⟩⟩:=id r;rw [List.findIdx?_cons];have hi:e.key.isStr ⟨k.toArray⟩=(p.1==k):=by rw [hk]; exact aci _ _ _
  rw [hi];unfold az;rw [iL]
  cases hpk:(p.1==k) with
  |true=>
   right
   have e1:p.1=k:=by simpa using hpk
   exact⟨0,e,p.2,tk,tv,rfl,by simp,by rw [hk,e1],hv,rfl⟩
  |false=>
   rcases Jo (k:=k) t with ⟨h1,h2⟩ | ⟨i,e',v,t',u,h1,h2,h3,h4,h5⟩
   ·left
    unfold az at h2;simp only [h1];exact⟨rfl,h2⟩
   ·right
    unfold az at h5;simp only [h1];exact⟨i+1,e',v,t',u,rfl,by simpa using h2,h3,h4,h5⟩
theorem OL:∀{kvs:List (List Nat×List Nat)}{p:List Nat×List Nat},(kvs.map (·.1)).Nodup->p∈kvs->az kvs p.1=some p.2
 |q::r,p,hn,hp=>by
  have oq:(q.1::r.map (·.1)).Nodup:=hn;obtain⟨h1,h2⟩:=oY.mp oq;unfold az;rw [iL];rcases bf.mp hp with e | e
  ·subst e; simp
  ·have bS:(q.1==p.1)=false:=by
    rw [beq_eq_false_iff_ne];intro z;exact h1 (dF.mpr ⟨p,e,z.symm⟩)
   rw [bS];exact OL h2 e
theorem ae2 {ka kb:List (List Nat×List Nat)}(hn:(ka.map (·.1)).Nodup):qh ka kb=oH ka kb:=by
 unfold qh
 cases fU:(ka==kb) with
 |false=>rfl
 |true=>
  have e:ka=kb:=by simpa using fU
  subst e;rw [Bool.true_or];unfold oH;rw [beq_self_eq_true,zw];exact(eg.mpr fun p hp=>by rw [OL hn hp]; simp).symm
section
variable {prog:Program}{w:World}{A:Around}{E:Value->Shared->Prop}{s:Shared}
theorem afB {d:Addr}{o:Obj}{es:Array DictEntry}{ep:Nat}{kvs:List (List Nat×List Nat)}{k:List Nat}{t:Tok}{hs:Int}{Q:Option Nat->Shared->Prop}(ho:s.heap.get? d=some o)
  (hd:o.data=.dict es ep) (r:Paired wx kvs es.toList) (q:Q (es.toList.findIdx? fun e=>e.key.isStr ⟨k.toArray⟩) s) :
  wpAny (model prog w) A (dictFind d (.str ⟨k.toArray⟩ t) hs) Q E s:=by
 unfold dictFind;refine wpAny_holding (wpAny_bind (wpAny_dictEntries ho hd ?_))
 dsimp only
 rw [if_pos (ae5 r)];unfold foundByValue;have e0:es.findIdx? (fun e=>e.key.isStr ⟨k.toArray⟩)=es.toList.findIdx? (fun e=>e.key.isStr ⟨k.toArray⟩):=by
  cases es; simp
 rw [e0];rcases Jo (k:=k) r with ⟨h1,_⟩ | ⟨i,e,v,t',u,h1,h2,h3,_,_⟩
 ·rw [h1] at q ⊢
  exact wpAny_pure q
 ·rw [h1] at q ⊢
  have fF:es[i]?=some e:=by simpa using h2
  simp only [fF];refine wpAny_bind (wpAny_dictEpoch ho hd (wpAny_bind ?_));rw [h3];refine wpAny_eqBool_str (wpAny_bind (wpAny_dictEpoch ho hd ?_));rw [if_neg (by simp),decide_eq_true rfl];exact wpAny_bind (wpAny_rule (wpAny_pure q))
theorem RY {nm:String}{a b:Addr}{ka kb:List (List Nat×List Nat)}{Q:Bool->Shared->Prop}(da:dY s.heap a ka)(db:dY s.heap b kb)(q:Q (qh ka kb) s) :
  wpAny (model prog w) A (Builtin.Dict.samePairs nm a b) Q E s:=by
 have q:Q (oH ka kb) s:=by rw [← ae2 (let ⟨_,_,_,_,_,_,_,_,n⟩:=da; n)]; exact q
 obtain⟨na,oa,ea,pa,ga,_,fa,ra,_⟩:=da;obtain⟨nb,ob,eb,pb,gb,_,fb,rb,_⟩:=db;have la:=RG ra;have lb:=RG rb;unfold Builtin.Dict.samePairs Builtin.Dict.showsAll;rw [if_neg (by rw [na]; simp),if_neg (by rw [nb]; simp)];refine wpAny_bind (wpAny_pure (wpAny_bind (wpAny_pure (wpAny_bind (wpAny_dictEntries ga fa ?_)))))
 dsimp only
 refine wpAny_bind (wpAny_dictEntries gb fb ?_);unfold oH at q
 by_cases hl:ea.size=eb.size
 ·have q2:Q (ka.all fun p=>az kb p.1==some p.2) s:=by
   have z:(ka.length==kb.length)=true:=by simp; omega
   rw [z,zw] at q;exact q
  rw [if_neg (by rw [hl]; simp)];refine wpAny_bind (wpAny_dictEpoch ga fa (wpAny_bind ?_));rw [Std.Legacy.Range.forIn_eq_forIn_range'];simp only [Std.Legacy.Range.size,Nat.sub_zero,Nat.add_sub_cancel,Nat.div_one];refine wpAny_forIn_list _
   (fun l c s'=>s'=s/\c=(none,())/\∃i,l=List.range' i (ea.size - i)/\i<=ea.size/\Q ((ka.drop i).all fun p=>az kb p.1==some p.2) s)
   _ ?_ ?_ _ _ ⟨rfl,rfl,0,by simp,gX _,by simpa using q2⟩
  ·rintro x l c s' ⟨rfl,rfl,i,hr,hi,hq⟩
   have aT:i<ea.size:=by
    rcases Nat.lt_or_ge i ea.size with h | h
    ·exact h
    ·rw [Nat.sub_eq_zero_of_le h] at hr; simp at hr
   rw [show ea.size - i=(ea.size - (i+1))+1 by omega,List.range'_succ] at hr;obtain⟨rfl,Hw⟩:=List.cons.inj hr;refine wpAny_bind (wpAny_dictEntries ga fa ?_);have hx:ea[x]?=some ea[x]:=by simp [aT]
   rw [hx];obtain⟨p,hp,⟨tk,hk⟩,⟨tv,hv⟩⟩:=Paired.at2 (i:=x) (b:=ea[x]) ra (by simp [aT]);have dS:x<ka.length:=by omega
   have fE:ka[x]=p:=by simpa [dS] using hp
   rw [wB dS,fE,nF] at hq;refine wpAny_bind (wpAny_holding ?_);rw [hk];refine wpAny_bind (afB gb fb rb ?_);rcases Jo (k:=p.1) rb with ⟨h1,h2⟩ | ⟨j,e,v,t',u,h1,h2,h3,h4,h5⟩
   ·rw [h1]
    rw [h2] at hq;refine wpAny_pure ?_;show wpAny _ _ (if (!false)=true then _ else _) _ _ _;rw [if_pos (by decide)];exact wpAny_pure (wpAny_pure (by simpa using hq))
   ·rw [h1]
    refine wpAny_bind (wpAny_dictEntries gb fb ?_);have fF:eb[j]?=some e:=by simpa using h2
    rw [fF];refine wpAny_holding ?_;rw [hv,h4];refine wpAny_eqBool_str ?_;rw [h5] at hq
    by_cases Hn:p.2=v
    ·subst Hn
     rw [decide_eq_true rfl];show wpAny _ _ (if (!true)=true then _ else _) _ _ _;rw [if_neg (by decide)];refine wpAny_bind (wpAny_dictEpoch ga fa ?_);rw [if_neg (by simp)];exact wpAny_pure ⟨rfl,rfl,x+1,Hw,aT,by simpa using hq⟩
    ·have bS:¬ (⟨p.2.toArray⟩:Str)=⟨v.toArray⟩:=fun z=>Hn (by injection z with z; simpa using congrArg jm z)
     rw [decide_eq_false bS];show wpAny _ _ (if (!false)=true then _ else _) _ _ _;rw [if_pos (by decide)];have z:(some v==some p.2)=false:=by simp; exact fun z=>Hn z.symm
     rw [z] at hq;exact wpAny_pure (wpAny_pure (by simpa using hq))
  ·rintro c s' ⟨rfl,rfl,i,hr,hi,hq⟩
   have yg:i=ea.size:=by
    rcases Nat.lt_or_ge i ea.size with h | h
    ·rw [show ea.size - i=(ea.size - (i+1))+1 by omega,List.range'_succ] at hr; exact nomatch hr
    ·exact Nat.le_antisymm hi h
   rw [yg,← la,wG] at hq;exact wpAny_pure (by simpa using hq)
 ·rw [if_pos (by simpa using hl)]
  have z:(ka.length==kb.length)=false:=by simp; omega
  rw [z,Bool.false_and] at q;exact wpAny_bind (wpAny_rule (wpAny_pure q))
theorem dY.ty {s:Shared}{a:Addr}{ka:List (List Nat×List Nat)}(d:dY s.heap a ka):s.TypeIs (.ref a) "dict" := let ⟨_,o,_,_,g,c,_⟩:=d; ⟨o,g,c.1⟩
end
end L2
namespace L2
open PySem PySem.Spec PyProof.Rows PySem.SeqAt PySem.MeetsSeq PySem.MeetsSeq2 PySem.MeetsSeq3
open AutoSeq1 (wpAny_loadPart')
section
variable {A:Around}{s:Shared}
theorem A6 {M:Model}{E:Value->Shared->Prop}{a b:Addr}{oa ob:Obj}{R:Bool->Shared->Prop}(fU:a≠b)(ga:s.heap.get? a=some oa)(gb:s.heap.get? b=some ob)(hc:oa.cls=.type "dict" ∨ob.cls=.type "dict")(q:R false s):wpAny M A (isSame (.ref a) (.ref b)) R E s:=by
 rcases hc with hc | hc
 ·exact wpAny_isSame_ref_other fU ga gb (by rw [hc]; decide) q
 ·exact wpAny_isSame_ref_other' fU ga gb (by rw [hc]; decide) q
theorem M9 {a b:Addr}{ka kb:List (List Nat×List Nat)}(da:dY s.heap a ka)(db:dY s.heap b kb)(hu:A.units<cLine):RcAt A s (.ref a) (.ref b) (qh ka kb):=fun prog w E Q q=>by
 refine wpAny_richCompare_same_room (op:=.Eq) da.ty db.ty zR (wpAny_call_entry zR da.ty PySem.F.entry_dict_eq ?_ (PySem.F.args_dict_eq_2 _ _)) hu;show wpAny _ _ (o7 "__eq__" ⟨[.ref a,.ref b],[]⟩ >>= _) _ _ s
 refine wpAny_bind ?_;unfold o7;refine wpAny_bind (wpAny_notOrdered_dict da.ty ?_);show wpAny _ _ (pure (bO a,bO b)) _ _ s;refine wpAny_pure (wpAny_bind (wpAny_isInstance (T:="dict") db.ty PySem.F.sub_dict_dict ?_))
 simp only [tu,du,if_false];refine wpAny_bind (wpAny_pure (wpAny_bind (wpAny_pure (wpAny_bind (RY da db (wpAny_pure ⟨_,rfl,(fun x=>nomatch x),?_⟩))))))
 cases hz:qh ka kb <;> rw [hz] at q <;> exact q
theorem RX {prog:Program}{w:World}{E:Value->Shared->Prop}{a:Addr}{ka:List (List Nat×List Nat)}{u:Value}{T:String}{Q:Value->Shared->Prop}(da:dY s.heap a ka)(hT:s.TypeIs u T)(hs:isSubtype (.type T) (.type "dict")=pure false)(q:Q .notImplemented s) :
  wpAny (model prog w) A (call (.builtin "dict.__eq__") [.ref a,u]) Q E s:=by
 refine wpAny_call_entry zR da.ty PySem.F.entry_dict_eq ?_ (PySem.F.args_dict_eq_2 _ _);show wpAny _ _ (o7 "__eq__" ⟨[.ref a,u],[]⟩ >>= _) _ _ s
 refine wpAny_bind ?_;unfold o7;refine wpAny_bind (wpAny_notOrdered_dict da.ty ?_);show wpAny _ _ (pure (bO a,u)) _ _ s;refine wpAny_pure (wpAny_bind (wpAny_isInstance (T:=T) hT hs ?_));simp only [wD,if_true];exact wpAny_bind (wpAny_rule (wpAny_pure ⟨_,rfl,q⟩))
theorem Yi {a b:Addr}{ka kb:List (List Nat×List Nat)}(da:dY s.heap a ka)(db:dY s.heap b kb)(hu:A.units<cLine):RcNeAt A s (.ref a) (.ref b) (!qh ka kb):=fun prog w E Q q=>by
 refine wpAny_richCompare_same_room (op:=.NotEq) da.ty db.ty zQ (wpAny_call_entry zQ da.ty PySem.F.entry_dict_ne ?_ (PySem.F.args_dict_ne_2 _ _)) hu;show wpAny _ _ (o7 "__ne__" ⟨[.ref a,.ref b],[]⟩ >>= _) _ _ s
 refine wpAny_bind ?_;unfold o7;refine wpAny_bind (wpAny_notOrdered_dict da.ty ?_);show wpAny _ _ (pure (bO a,bO b)) _ _ s;refine wpAny_pure (wpAny_bind (wpAny_isInstance (T:="dict") db.ty PySem.F.sub_dict_dict ?_))
 simp only [tu,du,if_false];refine wpAny_bind (wpAny_pure (wpAny_bind (wpAny_pure (wpAny_bind (RY da db (wpAny_pure ⟨_,rfl,(fun x=>nomatch x),?_⟩))))))
 cases hz:qh ka kb <;> rw [hz] at q <;> exact q
theorem RW {prog:Program}{w:World}{E:Value->Shared->Prop}{a:Addr}{ka:List (List Nat×List Nat)}{u:Value}{T:String}{Q:Value->Shared->Prop}(da:dY s.heap a ka)(hT:s.TypeIs u T)(hs:isSubtype (.type T) (.type "dict")=pure false)(q:Q .notImplemented s) :
  wpAny (model prog w) A (call (.builtin "dict.__ne__") [.ref a,u]) Q E s:=by
 refine wpAny_call_entry zQ da.ty PySem.F.entry_dict_ne ?_ (PySem.F.args_dict_ne_2 _ _);show wpAny _ _ (o7 "__ne__" ⟨[.ref a,u],[]⟩ >>= _) _ _ s
 refine wpAny_bind ?_;unfold o7;refine wpAny_bind (wpAny_notOrdered_dict da.ty ?_);show wpAny _ _ (pure (bO a,u)) _ _ s;refine wpAny_pure (wpAny_bind (wpAny_isInstance (T:=T) hT hs ?_));simp only [wD,if_true];exact wpAny_bind (wpAny_rule (wpAny_pure ⟨_,rfl,q⟩))
def Al (A:Around)(s:Shared)(u t:Value)(b:Bool):Prop:=EqAt A s u t b/\RcAt A s u t b/\RcNeAt A s u t (!b)
theorem Ry {u t:Value}{a:Addr}{b:Bool}(ha:u=.ref a∨t=.ref a)(bS:u≠t)(h:RcAt A s u t b):EqAt A s u t b:=fun prog w E Q q=>by
 unfold eqBool;refine wpAny_holding (wpAny_ite_split (fun z=>absurd (eq_of_beq z) bS) fun _=>?_);rcases ha with rfl | rfl
 ·exact wpAny_bind (h prog w E _ (wpAny_truthy_bool q))
 ·cases u <;> exact wpAny_bind (h prog w E _ (wpAny_truthy_bool q))
abbrev TZ (A:Around)(s:Shared)(id:String)(u t:Value):Prop:=∀(prog:Program) (w:World) (E:Value->Shared->Prop) (Q:Value->Shared->Prop),Q .notImplemented s->wpAny (model prog w) A (call (.builtin id) [u,t]) Q E s
abbrev Tg (A:Around)(s:Shared)(u t:Value):Prop:=∀(prog:Program) (w:World) (E:Value->Shared->Prop) (Q:Bool->Shared->Prop),Q false s->wpAny (model prog w) A (isSame u t) Q E s
theorem dk {a:Addr}{ka:List (List Nat×List Nat)}{u:Value}{T ie im:String}(da:dY s.heap a ka)(hu:A.units<cLine)(ty:s.TypeIs u T)(bS:bO a≠u)(n1:(o8 "dict" != o8 T)=true)(n2:(o8 T != o8 "dict")=true)
  (s1:isSubtype (.type T) (.type "dict")=pure false) (s2:isSubtype (.type "dict") (.type T)=pure false) (e1:Slot T (cmpInfo .Eq).2.1 ie) (e2:Slot T (cmpInfo .Eq).2.2 ie) (m1:Slot T (cmpInfo .NotEq).2.1 im) (m2:Slot T (cmpInfo .NotEq).2.2 im)
  (c1:TZ A s ie u (.ref a)) (c2:TZ A s im u (.ref a)) (k1:Tg A s (.ref a) u) (k2:Tg A s u (.ref a)):Al A s (.ref a) u false/\Al A s u (.ref a) false:=by
 have r1:RcAt A s (.ref a) u false:=fun prog w E Q q=>rc_eq_decline_or (k:=false) da.ty ty n1 s1 zR e2 (fun _ hq=>RX da ty s1 hq) (fun _ hq=>c1 prog w E _ hq) (fun _ hq=>k1 prog w E _ hq) (.inr hu) q;have r2:RcAt A s u (.ref a) false:=fun prog w E Q q=>rc_eq_decline_or (k:=false) ty da.ty n2 s2 e1 F.slot_dict_eq_refl (fun _ hq=>c1 prog w E _ hq) (fun _ hq=>RX da ty s1 hq) (fun _ hq=>k2 prog w E _ hq) (.inr hu) q;exact⟨⟨Ry (.inl rfl) bS r1,r1,fun prog w E Q q=>rc_ne_decline_or (k:=false) da.ty ty n1 s1 zQ m2 (fun _ hq=>RW da ty s1 hq) (fun _ hq=>c2 prog w E _ hq) (fun _ hq=>k1 prog w E _ hq) (.inr hu) q⟩,
  Ry (.inr rfl) bS.symm r2,r2,fun prog w E Q q=>rc_ne_decline_or (k:=false) ty da.ty n2 s2 m1 F.slot_dict_ne_refl (fun _ hq=>c2 prog w E _ hq) (fun _ hq=>RW da ty s1 hq) (fun _ hq=>k2 prog w E _ hq) (.inr hu) q⟩
def Dn (a:Addr):PySem.Spec:=fun _ R s=>(∃c es ep dd sl,s.heap.get? a=some {cls:=c,dict:=dd,data:=.dict es ep,slots:=sl})/\R (.ok (.ret .notImplemented)) s
def Dm (T:String)(l a:Addr):PySem.Spec:=fun _ R s=>(∃items n dl ll,s.heap.get? l=some {cls:=.type T,dict:=dl,data:=.seq items n,slots:=ll})/\(∃es ep dd sl,s.heap.get? a=some {cls:=.type "dict",dict:=dd,data:=.dict es ep,slots:=sl})/\R (.ok (.ret .notImplemented)) s
theorem Wx (b:Str)(u:Tok)(a:Addr):Meets (Builtin.«str.__eq__» ⟨[.str b u,.ref a],[]⟩) (Dn a):=.of_wp fun prog w A R s h=>by obtain⟨hp,g,d,tk,os⟩:=s; obtain⟨⟨_,_,_,_,_,ga⟩,h⟩:=h; wp_walk using wpAny_loadPart' ga,wpAny_load ga; exact⟨_,rfl,h⟩
theorem Ww (b:Str)(u:Tok)(a:Addr):Meets (Builtin.«str.__ne__» ⟨[.str b u,.ref a],[]⟩) (Dn a):=.of_wp fun prog w A R s h=>by obtain⟨hp,g,d,tk,os⟩:=s; obtain⟨⟨_,_,_,_,_,ga⟩,h⟩:=h; wp_walk using wpAny_loadPart' ga,wpAny_load ga; exact⟨_,rfl,h⟩
theorem acp (b:Int)(u:Tok)(a:Addr):Meets (Builtin.«int.__eq__» ⟨[.int b u,.ref a],[]⟩) (Dn a):=.of_wp fun prog w A R s h=>by obtain⟨hp,g,d,tk,os⟩:=s; obtain⟨⟨_,_,_,_,_,ga⟩,h⟩:=h; wp_walk using wpAny_loadPart' ga,wpAny_load ga; exact⟨_,rfl,h⟩
theorem aco (b:Int)(u:Tok)(a:Addr):Meets (Builtin.«int.__ne__» ⟨[.int b u,.ref a],[]⟩) (Dn a):=.of_wp fun prog w A R s h=>by obtain⟨hp,g,d,tk,os⟩:=s; obtain⟨⟨_,_,_,_,_,ga⟩,h⟩:=h; wp_walk using wpAny_loadPart' ga,wpAny_load ga; exact⟨_,rfl,h⟩
theorem agE (b:Bool)(a:Addr):Meets (Builtin.«int.__eq__» ⟨[.bool b,.ref a],[]⟩) (Dn a):=.of_wp fun prog w A R s h=>by obtain⟨hp,g,d,tk,os⟩:=s; obtain⟨⟨_,_,_,_,_,ga⟩,h⟩:=h; wp_walk using wpAny_loadPart' ga,wpAny_load ga; exact⟨_,rfl,h⟩
theorem agD (b:Bool)(a:Addr):Meets (Builtin.«int.__ne__» ⟨[.bool b,.ref a],[]⟩) (Dn a):=.of_wp fun prog w A R s h=>by obtain⟨hp,g,d,tk,os⟩:=s; obtain⟨⟨_,_,_,_,_,ga⟩,h⟩:=h; wp_walk using wpAny_loadPart' ga,wpAny_load ga; exact⟨_,rfl,h⟩
theorem abz (l a:Addr):Meets (Builtin.«list.__eq__» ⟨[.ref l,.ref a],[]⟩) (Dm "list" l a):=.of_wp fun prog w A R s h=>by obtain⟨hp,g,d,tk,os⟩:=s; obtain⟨⟨_,_,_,_,gl⟩,⟨_,_,_,_,ga⟩,h⟩:=h; have f1:=F.sub_dict_list; wp_walk using wpAny_loadPart' gl,wpAny_loadPart' ga; exact⟨_,rfl,h⟩
theorem aby (l a:Addr):Meets (Builtin.«list.__ne__» ⟨[.ref l,.ref a],[]⟩) (Dm "list" l a):=.of_wp fun prog w A R s h=>by obtain⟨hp,g,d,tk,os⟩:=s; obtain⟨⟨_,_,_,_,gl⟩,⟨_,_,_,_,ga⟩,h⟩:=h; have f1:=F.sub_dict_list; wp_walk using wpAny_loadPart' gl,wpAny_loadPart' ga; exact⟨_,rfl,h⟩
theorem VB (l a:Addr):Meets (Builtin.«tuple.__eq__» ⟨[.ref l,.ref a],[]⟩) (Dm "tuple" l a):=.of_wp fun prog w A R s h=>by obtain⟨hp,g,d,tk,os⟩:=s; obtain⟨⟨_,_,_,_,gl⟩,⟨_,_,_,_,ga⟩,h⟩:=h; have f1:=F.sub_dict_tuple; wp_walk using wpAny_loadPart' gl,wpAny_loadPart' ga; exact⟨_,rfl,h⟩
theorem VA (l a:Addr):Meets (Builtin.«tuple.__ne__» ⟨[.ref l,.ref a],[]⟩) (Dm "tuple" l a):=.of_wp fun prog w A R s h=>by obtain⟨hp,g,d,tk,os⟩:=s; obtain⟨⟨_,_,_,_,gl⟩,⟨_,_,_,_,ga⟩,h⟩:=h; have f1:=F.sub_dict_tuple; wp_walk using wpAny_loadPart' gl,wpAny_loadPart' ga; exact⟨_,rfl,h⟩
theorem dY.dn {a:Addr}{ka:List (List Nat×List Nat)}(da:dY s.heap a ka):∃c es ep dd sl,s.heap.get? a=some {cls:=c,dict:=dd,data:=.dict es ep,slots:=sl}:=by
 obtain⟨_,⟨c,dd,data,sl⟩,es,ep,ga,_,hd,_⟩:=da
 simp only at hd
 subst hd;exact⟨c,es,ep,dd,sl,ga⟩
theorem dY.dm {a:Addr}{ka:List (List Nat×List Nat)}(da:dY s.heap a ka):∃es ep dd sl,s.heap.get? a=some {cls:=.type "dict",dict:=dd,data:=.dict es ep,slots:=sl}:=by
 obtain⟨_,⟨c,dd,data,sl⟩,es,ep,ga,hx,hd,_⟩:=da
 simp only at hd
 have hc:c=.type "dict" := hx.1
 subst hd hc;exact⟨es,ep,dd,sl,ga⟩
theorem Sd {a:Addr}{ka:List (List Nat×List Nat)}(da:dY s.heap a ka)(hu:A.units<cLine):Al A s (.ref a) .none false/\Al A s .none (.ref a) false:=
 dk da hu rfl nofun (by decide) (by decide) F.sub_NoneType_dict F.sub_dict_NoneType F.slot_NoneType_eq F.slot_NoneType_eq_refl F.slot_NoneType_ne F.slot_NoneType_ne_refl
  (fun _ _ _ _ q=>call_gives F.slot_NoneType_eq rfl F.entry_NoneType_eq (F.args_NoneType_eq_2 _ _) (NoneType___eq___none_ref_0 a) q) (fun _ _ _ _ q=>call_gives F.slot_NoneType_ne rfl F.entry_NoneType_ne (F.args_NoneType_ne_2 _ _) (NoneType___ne___none_ref_0 a) q) (fun _ _ _ _ q=>wpAny_of_eq rfl q) (fun _ _ _ _ q=>wpAny_of_eq rfl q)
theorem Sg {a:Addr}{ka:List (List Nat×List Nat)}(b:Bool)(da:dY s.heap a ka)(hu:A.units<cLine):Al A s (.ref a) (.bool b) false/\Al A s (.bool b) (.ref a) false:=
 dk da hu rfl nofun (by decide) (by decide) F.sub_bool_dict F.sub_dict_bool F.slot_bool_eq F.slot_bool_eq_refl F.slot_bool_ne F.slot_bool_ne_refl
  (fun _ _ _ _ q=>call_meets F.slot_bool_eq rfl F.entry_int_eq (F.args_int_eq_2 _ _) (agE b a) ⟨da.dn,q⟩) (fun _ _ _ _ q=>call_meets F.slot_bool_ne rfl F.entry_int_ne (F.args_int_ne_2 _ _) (agD b a) ⟨da.dn,q⟩) (fun _ _ _ _ q=>wpAny_of_eq rfl q) (fun _ _ _ _ q=>wpAny_of_eq rfl q)
theorem Sf {a:Addr}{ka:List (List Nat×List Nat)}(b:Int)(u:Tok)(da:dY s.heap a ka)(hu:A.units<cLine):Al A s (.ref a) (.int b u) false/\Al A s (.int b u) (.ref a) false:=
 dk da hu (typeIs_int s b u) nofun (by decide) (by decide) F.sub_int_dict F.sub_dict_int F.slot_int_eq F.slot_int_eq_refl F.slot_int_ne F.slot_int_ne_refl
  (fun _ _ _ _ q=>call_meets F.slot_int_eq (typeIs_int s b u) F.entry_int_eq (F.args_int_eq_2 _ _) (acp b u a) ⟨da.dn,q⟩) (fun _ _ _ _ q=>call_meets F.slot_int_ne (typeIs_int s b u) F.entry_int_ne (F.args_int_ne_2 _ _) (aco b u a) ⟨da.dn,q⟩) (fun _ _ _ _ q=>wpAny_of_eq rfl q) (fun _ _ _ _ q=>wpAny_of_eq rfl q)
theorem Sb {a:Addr}{ka:List (List Nat×List Nat)}(b:Str)(u:Tok)(da:dY s.heap a ka)(hu:A.units<cLine):Al A s (.ref a) (.str b u) false/\Al A s (.str b u) (.ref a) false:=
 dk da hu (typeIs_str s b u) nofun (by decide) (by decide) F.sub_str_dict F.sub_dict_str F.slot_str_eq F.slot_str_eq_refl F.slot_str_ne F.slot_str_ne_refl
  (fun _ _ _ _ q=>call_meets F.slot_str_eq (typeIs_str s b u) F.entry_str_eq (F.args_str_eq_2 _ _) (Wx b u a) ⟨da.dn,q⟩) (fun _ _ _ _ q=>call_meets F.slot_str_ne (typeIs_str s b u) F.entry_str_ne (F.args_str_ne_2 _ _) (Ww b u a) ⟨da.dn,q⟩) (fun _ _ _ _ q=>wpAny_of_eq rfl q) (fun _ _ _ _ q=>wpAny_of_eq rfl q)
theorem aaU {a l:Addr}{ka:List (List Nat×List Nat)}{items:Array Value}(da:dY s.heap a ka)(hl:s.heap.IsList l items):a≠l:=fun z=>by
 subst z;obtain⟨_,o,es,ep,ga,hx,hd,_⟩:=da;obtain⟨o',gl,hc,n,i5⟩:=hl;rw [ga] at gl;cases gl;rw [hx.1] at hc;exact absurd hc (by decide)
theorem aaT {a l:Addr}{ka:List (List Nat×List Nat)}{items:Array Value}(da:dY s.heap a ka)(hl:s.heap.IsTuple l items):a≠l:=fun z=>by
 subst z;obtain⟨_,o,es,ep,ga,hx,hd,_⟩:=da;obtain⟨o',gl,hc,n,i5⟩:=hl;rw [ga] at gl;cases gl;rw [hx.1] at hc;exact absurd hc (by decide)
theorem Se {a l:Addr}{ka:List (List Nat×List Nat)}{items:Array Value}(da:dY s.heap a ka)(hl:s.heap.IsList l items)(hu:A.units<cLine):Al A s (.ref a) (.ref l) false/\Al A s (.ref l) (.ref a) false:=by
 obtain⟨es,ep,dd,sl,ga⟩:=da.dm;obtain⟨⟨cl,dl,dal,ll⟩,gl,hc,n,i5⟩:=id hl
 simp only at hc i5
 subst hc i5;have bS:a≠l:=fun z=>by subst z; rw [ga] at gl; exact absurd (congrArg (fun o:Option Obj=>o.map (·.cls)) gl) (by simp)
 exact dk da hu ⟨_,gl,rfl⟩ (fun z=>bS (by injection z)) (by decide) (by decide) F.sub_list_dict F.sub_dict_list F.slot_list_eq F.slot_list_eq_refl F.slot_list_ne F.slot_list_ne_refl
  (fun _ _ _ _ q=>call_meets F.slot_list_eq ⟨_,gl,rfl⟩ F.entry_list_eq (F.args_list_eq_2 _ _) (abz l a) ⟨⟨_,_,_,_,gl⟩,⟨_,_,_,_,ga⟩,q⟩) (fun _ _ _ _ q=>call_meets F.slot_list_ne ⟨_,gl,rfl⟩ F.entry_list_ne (F.args_list_ne_2 _ _) (aby l a) ⟨⟨_,_,_,_,gl⟩,⟨_,_,_,_,ga⟩,q⟩)
  (fun _ _ _ _ q=>A6 bS ga gl (.inl rfl) q) (fun _ _ _ _ q=>A6 bS.symm gl ga (.inr rfl) q)
theorem Sa {a l:Addr}{ka:List (List Nat×List Nat)}{items:Array Value}(da:dY s.heap a ka)(hl:s.heap.IsTuple l items)(hu:A.units<cLine):Al A s (.ref a) (.ref l) false/\Al A s (.ref l) (.ref a) false:=by
 obtain⟨es,ep,dd,sl,ga⟩:=da.dm;obtain⟨⟨cl,dl,dal,ll⟩,gl,hc,n,i5⟩:=id hl
 simp only at hc i5
 subst hc i5;have bS:a≠l:=fun z=>by subst z; rw [ga] at gl; exact absurd (congrArg (fun o:Option Obj=>o.map (·.cls)) gl) (by simp)
 exact dk da hu ⟨_,gl,rfl⟩ (fun z=>bS (by injection z)) (by decide) (by decide) F.sub_tuple_dict F.sub_dict_tuple F.slot_tuple_eq F.slot_tuple_eq_refl F.slot_tuple_ne F.slot_tuple_ne_refl
  (fun _ _ _ _ q=>call_meets F.slot_tuple_eq ⟨_,gl,rfl⟩ F.entry_tuple_eq (F.args_tuple_eq_2 _ _) (VB l a) ⟨⟨_,_,_,_,gl⟩,⟨_,_,_,_,ga⟩,q⟩) (fun _ _ _ _ q=>call_meets F.slot_tuple_ne ⟨_,gl,rfl⟩ F.entry_tuple_ne (F.args_tuple_ne_2 _ _) (VA l a) ⟨⟨_,_,_,_,gl⟩,⟨_,_,_,_,ga⟩,q⟩)
  (fun _ _ _ _ q=>A6 bS ga gl (.inl rfl) q) (fun _ _ _ _ q=>A6 bS.symm gl ga (.inr rfl) q)
end
end L2
namespace L2
open PySem PySem.Spec PyProof.Rows
def bh (kvs:List (List Nat×List Nat)):List (Key×V):=kvs.map fun p=>(.inr ⟨p.1.toArray⟩,S p.2)
def FzD (H:Hp)(a:Addr)(kvs:List (List Nat×List Nat)):Prop:=∃o,H a=some (.bE o (.dK (bh kvs)))
section
variable (K:ah)(H:Hp)
mutual
def Rep:Dt->V->Prop
 |.aK,v=>v=.aK
 |.bl b,v=>v=.bl b
 |.int i,v=>v=.int i
 |.str l,v=>v=S l
 |.tup ds,v=>∃a xs,v=.ref a/\cP K H a xs/\ar ds xs
 |.lst ds,v=>∃a xs,v=.ref a/\bX K H a xs/\ar ds xs
 |.aj kvs,v=>∃a ks,v=.ref a/\ks=kvs/\FzD H a ks
def ar:List Dt->List V->Prop
 | [],xs=>xs=[]
 |d::ds,xs=>∃x r,xs=x::r/\Rep d x/\ar ds r
end
end
theorem ax.fP {K:ah}{H H':Hp}{a:Addr}{xs:List V}(e:ax H H')(h:cP K H a xs):cP K H' a xs:=by
 rcases h with (h | ⟨o,h⟩) | h
 ·exact .inl (.inl (e _ _ h))
 ·exact .inl (.inr ⟨o,e _ _ h⟩)
 ·exact .inr h
mutual
theorem Rep.mono {K:ah}{H H':Hp}(e:ax H H'):∀{d:Dt}{v:V},Rep K H d v->Rep K H' d v
 |.aK,_,h=>by simpa only [Rep] using h
 |.bl _,_,h=>by simpa only [Rep] using h
 |.int _,_,h=>by simpa only [Rep] using h
 |.str _,_,h=>by simpa only [Rep] using h
 |.tup ds,_,h=>by
  simp only [Rep] at h ⊢;obtain⟨a,xs,h1,h2,h3⟩:=h;exact⟨a,xs,h1,e.fP h2,ar.mono e h3⟩
 |.lst ds,_,h=>by
  simp only [Rep] at h ⊢;obtain⟨a,xs,h1,h2,h3⟩:=h;exact⟨a,xs,h1,e.seq h2,ar.mono e h3⟩
 |.aj kvs,_,h=>by
  simp only [Rep] at h ⊢;obtain⟨a,ks,h1,h3,o,h2⟩:=h;exact⟨a,ks,h1,h3,o,e _ _ h2⟩
theorem ar.mono {K:ah}{H H':Hp}(e:ax H H'):∀{ds:List Dt}{xs:List V},ar K H ds xs->ar K H' ds xs
 | [],_,h=>by simpa only [ar] using h
 |d::ds,_,h=>by
  simp only [ar] at h ⊢;obtain⟨x,r,h1,h2,h3⟩:=h;exact⟨x,r,h1,Rep.mono e h2,ar.mono e h3⟩
end
theorem ar.nil {K:ah}{H:Hp}:ar K H [] []:=by simp only [ar]
theorem ar.cons {K:ah}{H:Hp}{d:Dt}{ds:List Dt}{x:V}{xs:List V}(h:Rep K H d x)(t:ar K H ds xs):ar K H (d::ds) (x::xs):=by
 simp only [ar];exact⟨x,xs,rfl,h,t⟩
theorem ar.length {K:ah}{H:Hp}:∀{ds:List Dt}{xs:List V},ar K H ds xs->ds.length=xs.length
 | [],_,h=>by simp only [ar] at h; subst h; rfl
 |d::ds,_,h=>by
  simp only [ar] at h;obtain⟨x,r,rfl,_,h3⟩:=h;simp [ar.length h3]
theorem ar.get {K:ah}{H:Hp}:∀{ds:List Dt}{xs:List V}{i:Nat}{x:V},ar K H ds xs->xs[i]?=some x->∃d,ds[i]?=some d/\Rep K H d x
 | [],_,i,x,h,e=>by simp only [ar] at h; subst h; simp at e
 |d::ds,_,0,x,h,e=>by
  simp only [ar] at h;obtain⟨y,r,rfl,h2,_⟩:=h;simp at e;subst e;exact⟨d,rfl,h2⟩
 |d::ds,_,i+1,x,h,e=>by
  simp only [ar] at h;obtain⟨y,r,rfl,_,h3⟩:=h;obtain⟨d',a,b⟩:=ar.get (i:=i) (x:=x) h3 (by simpa using e);exact⟨d',by simpa using a,b⟩
theorem ar.append {K:ah}{H:Hp}:∀{ds es:List Dt}{xs ys:List V},ar K H ds xs->ar K H es ys->ar K H (ds++es) (xs++ys)
 | [],es,xs,ys,h,t=>by simp only [ar] at h; subst h; simpa using t
 |d::ds,es,xs,ys,h,t=>by
  simp only [ar] at h;obtain⟨x,r,rfl,h2,h3⟩:=h;exact .cons h2 (ar.append h3 t)
theorem dP {K:ah}{H:Hp}{i:Int}:Rep K H (.int i) (.int i):=by simp only [Rep]
theorem mz {K:ah}{H:Hp}{l:List Nat}:Rep K H (.str l) (S l):=by simp only [Rep]
theorem eY {K:ah}{H:Hp}{b:Bool}:Rep K H (.bl b) (.bl b):=by simp only [Rep]
theorem AD {K:ah}{H:Hp}:Rep K H .aK .aK:=by simp only [Rep]
theorem qZ {K:ah}{H:Hp}{a:Addr}{xs:List V}{ds:List Dt}(h:H a=some (.tup xs))(r:ar K H ds xs):Rep K H (.tup ds) (.ref a):=by
 simp only [Rep];exact⟨a,xs,rfl,.of h,r⟩
theorem xo {K:ah}{H:Hp}{a:Addr}{xs:List V}{ds:List Dt}(h:H a=some (.lst xs))(r:ar K H ds xs):Rep K H (.lst ds) (.ref a):=by
 simp only [Rep];exact⟨a,xs,rfl,.of h,r⟩
theorem Inv.list_tuple {X:Cx}{pins:List (Addr×Obj)}{σ:St}{H:Hp}{s:Shared}{a:Addr}{xs ys:List V}(I:Inv X pins σ H s)(h:bX X.K H a xs)(h':cP X.K H a ys):False:=by
 obtain⟨ao,r,⟨o,n,e,c,_⟩,_⟩:=I.list h;obtain⟨its',r',⟨o',e',c',_⟩,_⟩:=I.tuple h';rw [e] at e';cases e';rw [c] at c';injection c' with c';exact absurd c' (by decide)
theorem Fx {K:ah}{H:Hp}{a:Addr}{o:Obj}{kvs:List (List Nat×List Nat)}(h:H a=some (.bE o (.dK (bh kvs)))):Rep K H (.aj kvs) (.ref a):=by
 simp only [Rep];exact⟨a,_,rfl,rfl,o,h⟩
theorem RQ:∀{a b:List (List Nat×List Nat)},bh a=bh b->a=b
 | [],[],_=>rfl
 | [],_::_,h=>by simp [bh] at h
 |_::_,[],h=>by simp [bh] at h
 |p::a,q::b,h=>by
  simp only [bh,bI] at h;injection h with h1 h2;have h3:=RQ (a:=a) (b:=b) h2;have e1:p.1=q.1:=by
   have z:=congrArg Prod.fst h1
   simp only at z
   injection z with z;injection z with z;simpa using congrArg jm z
  have e2:p.2=q.2:=KN (congrArg Prod.snd h1);rw [h3,Prod.ext e1 e2]
theorem RF {P:Program}{w:World}:∀{kvs:List (List Nat×List Nat)}{vs:List (Key×Value)}{l:List DictEntry},KV (bh kvs) vs->Pairs (dz P w) l vs->Paired wx kvs l
 | [],vs,l,r,p=>by
  unfold bh KV at r;cases r;cases p;exact .nil
 |k::kvs,vs,l,r,p=>by
  unfold bh KV at r;rw [bI] at r
  cases r with
  |cons h t=>
   cases p with
   |cons a b c=>
    refine .cons ⟨?_,?_⟩ (RF t c)
    ·rw [← h.1] at a
     rcases lG (k:=.inr ⟨k.1.toArray⟩) a with ⟨i,u,z,_⟩ | ⟨x,u,z,e⟩
     ·exact nomatch z
     ·injection z with z; subst z; exact⟨u,e⟩
    ·obtain⟨u,e⟩:=h.2
     exact⟨u,b.trans e⟩
theorem OA:∀{kvs:List (List Nat×List Nat)},(kvs.map ((·.1) ∘ fun p=>((.inr ⟨p.1.toArray⟩:Key),S p.2))).Nodup->(kvs.map (·.1)).Nodup
 | [],_=>by simp
 |p::r,h=>by
  rw [bI,oY] at h ⊢;refine⟨fun m=>h.1 ?_,OA h.2⟩;obtain⟨q,hq,e⟩:=dF.mp m;exact dF.mpr ⟨q,hq,by simp only [Function.comp]; rw [e]⟩
theorem Jv {P:Program}{w:World}{H:Hp}{h:Heap}{a:Addr}{ob:Obj}{kvs:List (List Nat×List Nat)}(ok:cB P w H h)(e:H a=some (.bE ob (.dK (bh kvs)))):dY h a kvs:=by
 obtain⟨_,_,na,vs,r,o,es,ep,g,x,d,_,pr,nd⟩:=ok a _ e;refine⟨na,o,es,ep,g,x,d,RF r pr,?_⟩;rw [← KV.keys r] at nd;unfold bh at nd;rw [nE] at nd;exact OA nd
theorem Inv.uF {X:Cx}{pins:List (Addr×Obj)}{σ:St}{H:Hp}{s:Shared}(I:Inv X pins σ H s){kvs:List (List Nat×List Nat)}{v:V}(h:Rep X.K H (.aj kvs) v):∃a,v=.ref a/\(∃o,H a=some (.bE o (.dK (bh kvs))))/\dY s.heap a kvs:=by
 simp only [Rep] at h;obtain⟨a,ks,rfl,rfl,o,h2⟩:=h;exact⟨a,rfl,⟨o,h2⟩,Jv I.au h2⟩
theorem Inv.list_dict {X:Cx}{pins:List (Addr×Obj)}{σ:St}{H:Hp}{s:Shared}{a:Addr}{xs:List V}{o:Obj}{kvs:List (List Nat×List Nat)}(I:Inv X pins σ H s)(h:bX X.K H a xs)(h':H a=some (.bE o (.dK (bh kvs)))):False:=by
 obtain⟨ao,r,p,_⟩:=I.list h;exact aaU (Jv I.au h') p.isList rfl
theorem Inv.tuple_dict {X:Cx}{pins:List (Addr×Obj)}{σ:St}{H:Hp}{s:Shared}{a:Addr}{xs:List V}{o:Obj}{kvs:List (List Nat×List Nat)}(I:Inv X pins σ H s)(h:cP X.K H a xs)(h':H a=some (.bE o (.dK (bh kvs)))):False:=by
 obtain⟨ao,r,p,_⟩:=I.tuple h;exact aaT (Jv I.au h') p rfl
mutual
theorem Rep.inj {X:Cx}{pins:List (Addr×Obj)}{σ:St}{H:Hp}{s:Shared}(I:Inv X pins σ H s):∀{d e:Dt}{v:V},Rep X.K H d v->Rep X.K H e v->d=e
 |.aK,e,v,h,h'=>by
  simp only [Rep] at h;subst h
  cases e <;> simp only [Rep] at h' <;> first | rfl | (exfalso; first | exact nomatch h' | (obtain⟨_,_,z,_⟩:=h'; exact nomatch z))
 |.bl b,e,v,h,h'=>by
  simp only [Rep] at h;subst h
  cases e <;> simp only [Rep] at h' <;> first | (injection h' with h'; rw [h']) | (exfalso; first | exact nomatch h' | (obtain⟨_,_,z,_⟩:=h'; exact nomatch z))
 |.int i,e,v,h,h'=>by
  simp only [Rep] at h;subst h
  cases e <;> simp only [Rep] at h' <;> first | (injection h' with h'; rw [h']) | (exfalso; first | exact nomatch h' | (obtain⟨_,_,z,_⟩:=h'; exact nomatch z))
 |.str l,e,v,h,h'=>by
  simp only [Rep] at h;subst h
  cases e with
  |str l'=>simp only [Rep] at h'; rw [KN h']
  |_=>simp only [Rep] at h'; exfalso; first | exact nomatch h' | (obtain⟨_,_,z,_⟩:=h'; exact nomatch z)
 |.tup ds,e,v,h,h'=>by
  simp only [Rep] at h;obtain⟨a,xs,rfl,h2,h3⟩:=h
  cases e with
  |tup es=>
   simp only [Rep] at h';obtain⟨b,ys,hb,h4,h5⟩:=h';cases hb;rw [I.Ee h2 h4] at h3;rw [ar.inj I h3 h5]
  |lst es=>
   simp only [Rep] at h';obtain⟨b,ys,hb,h4,h5⟩:=h';cases hb;exact(I.list_tuple h4 h2).elim
  |aj kvs=>
   simp only [Rep] at h';obtain⟨b,ys,hb,rfl,o',h4⟩:=h';cases hb;exact(I.tuple_dict h2 h4).elim
  |_=>simp only [Rep] at h'; exfalso; exact nomatch h'
 |.lst ds,e,v,h,h'=>by
  simp only [Rep] at h;obtain⟨a,xs,rfl,h2,h3⟩:=h
  cases e with
  |lst es=>
   simp only [Rep] at h';obtain⟨b,ys,hb,h4,h5⟩:=h';cases hb;rw [I.GN h2 h4] at h3;rw [ar.inj I h3 h5]
  |tup es=>
   simp only [Rep] at h';obtain⟨b,ys,hb,h4,h5⟩:=h';cases hb;exact(I.list_tuple h2 h4).elim
  |aj kvs=>
   simp only [Rep] at h';obtain⟨b,ys,hb,rfl,o',h4⟩:=h';cases hb;exact(I.list_dict h2 h4).elim
  |_=>simp only [Rep] at h'; exfalso; exact nomatch h'
 |.aj kvs,e,v,h,h'=>by
  simp only [Rep] at h;obtain⟨a,xs,rfl,rfl,o,h2⟩:=h
  cases e with
  |lst es=>
   simp only [Rep] at h';obtain⟨b,ys,hb,h4,h5⟩:=h';cases hb;exact(I.list_dict h4 h2).elim
  |tup es=>
   simp only [Rep] at h';obtain⟨b,ys,hb,h4,h5⟩:=h';cases hb;exact(I.tuple_dict h4 h2).elim
  |aj ks=>
   simp only [Rep] at h';obtain⟨b,ys,hb,rfl,o',h4⟩:=h';cases hb;rw [h2] at h4;injection h4 with h4;injection h4 with _ h4;injection h4 with h4;rw [RQ h4]
  |_=>simp only [Rep] at h'; exfalso; exact nomatch h'
theorem ar.inj {X:Cx}{pins:List (Addr×Obj)}{σ:St}{H:Hp}{s:Shared}(I:Inv X pins σ H s):∀{ds es:List Dt}{xs:List V},ar X.K H ds xs->ar X.K H es xs->ds=es
 | [],es,xs,h,h'=>by
  simp only [ar] at h;subst h
  cases es with
  |nil=>rfl
  |cons e es=>simp only [ar] at h'; obtain⟨_,_,z,_⟩:=h'; cases z
 |d::ds,es,xs,h,h'=>by
  simp only [ar] at h;obtain⟨x,r,rfl,h2,h3⟩:=h
  cases es with
  |nil=>simp only [ar] at h'; cases h'
  |cons e es=>
   simp only [ar] at h';obtain⟨y,t,z,h4,h5⟩:=h';injection z with z1 z2;subst z1 z2;rw [Rep.inj I h2 h4,ar.inj I h3 h5]
end
mutual
theorem sF:∀d:Dt,bZ d d=true
 |.aK=>rfl
 |.bl b=>beq_self_eq_true b
 |.int b=>beq_self_eq_true b
 |.str b=>beq_self_eq_true b
 |.tup b=>sE b
 |.lst b=>sE b
 |.aj b=>(show (b==b || oH b b)=true by rw [beq_self_eq_true b]; rfl)
theorem sE:∀d:List Dt,iI d d=true
 | []=>rfl
 |a::r=>(show (bZ a a&&iI r r)=true by rw [sF a,sE r]; rfl)
end
theorem yz:∀{a b:List Dt},a.length≠b.length->iI a b=false
 | [],[],h=>absurd rfl h
 | [],_::_,_=>rfl
 |_::_,[],_=>rfl
 |a::r,b::t,h=>by
  show (bZ a b&&iI r t)=false;rw [yz (a:=r) (b:=t) (fun e=>h (congrArg Nat.succ e)),Bool.and_false]
theorem yA:∀(a b:List Dt),a.length=b.length->(fm a.length).all (fun i=>match a[i]?,b[i]? with | some x,some y=>bZ x y | _,_=>true)=iI a b
 | [],[],_=>rfl
 |x::r,y::t,h=>by
  have ih:=yA r t (Nat.succ.inj h);show _=(bZ x y&&iI r t);rw [eh,List.range_succ_eq_map,nF,List.all_map];rw [← ih]
  congr 1
theorem EB (a b:List Nat):((⟨a.toArray⟩:Str) == ⟨b.toArray⟩)=(a==b):=by
 rw [kI];simp only [beq_iff_eq];constructor
 ·intro h
  injection h with h;simpa using congrArg jm h
 ·intro h; rw [h]
theorem R6 {d:Dt}:∀{ds:List Dt},d∈ds->dep d<=fG ds
 |e::ds,h=>by
  simp only [fG];rcases bf.mp h with h | h
  ·subst h; omega
  ·have:=R6 h; omega
section
variable {X:Cx}{pins:List (Addr×Obj)}{σ:St}{H:Hp}{s:Shared}
theorem Inv.fQ (I:Inv X pins σ H s){ds:List Dt}{v:V}(h:Rep X.K H (.lst ds) v):∃a xs,v=.ref a/\bX X.K H a xs/\ar X.K H ds xs/\∃ao:List Value,Vals xs ao/\s.heap.IsList a ao.toArray:=by
 simp only [Rep] at h;obtain⟨a,xs,rfl,h2,h3⟩:=h;obtain⟨ao,r,p,_⟩:=I.list h2;exact⟨a,xs,rfl,h2,h3,ao,r,p.isList⟩
theorem Inv.hZ (I:Inv X pins σ H s){ds:List Dt}{v:V}(h:Rep X.K H (.tup ds) v):∃a xs,v=.ref a/\cP X.K H a xs/\ar X.K H ds xs/\∃ao:List Value,Vals xs ao/\s.heap.IsTuple a ao.toArray:=by
 simp only [Rep] at h;obtain⟨a,xs,rfl,h2,h3⟩:=h;obtain⟨ao,r,p,_⟩:=I.tuple h2;exact⟨a,xs,rfl,h2,h3,ao,r,p⟩
theorem Br (A:Around)(I:Inv X pins σ H s){ds es:List Dt}{xs ys:List V}{us vs:List Value}(rx:ar X.K H ds xs)(ry:ar X.K H es ys)(ru:Vals xs us)(rv:Vals ys vs)
  (ih:∀d∈ds,∀e v w u t,Rep X.K H d v->Rep X.K H e w->RelV v u->RelV w t->nN A s u t (bZ d e)) :
  ∀j (h1:j<us.toArray.size) (h2:j<vs.toArray.size),nN A s us.toArray[j] vs.toArray[j] ((fun i=>match ds[i]?,es[i]? with | some x,some y=>bZ x y | _,_=>true) j):=by
 intro j h1 h2;have m4:j<us.length:=by simpa using h1
 have fF:j<vs.length:=by simpa using h2
 have e1:=ru.length;have e2:=rv.length;have hx:j<xs.length:=by omega
 have hy:j<ys.length:=by omega
 obtain⟨d,hd,rd⟩:=rx.get (i:=j) (x:=xs[j]) (by simp [hx]);obtain⟨e,he,re⟩:=ry.get (i:=j) (x:=ys[j]) (by simp [hy]);obtain⟨u,hu,X6⟩:=ru.get (i:=j) (x:=xs[j]) (by simp [hx]);obtain⟨t,ht,X7⟩:=rv.get (i:=j) (x:=ys[j]) (by simp [hy]);have aV:us[j]=u:=by simpa [m4] using hu
 have Hs:vs[j]=t:=by simpa [fF] using ht
 have hm:d∈ds:=jV hd;simp only [hd,he,Du,aV,Hs];exact ih d hm e _ _ u t rd re X6 X7
theorem abw (A:Around)(I:Inv X pins σ H s){a b:Addr}{ds es:List Dt}{xs ys:List V}{us vs:List Value}(rx:ar X.K H ds xs)(ry:ar X.K H es ys)(ru:Vals xs us)(rv:Vals ys vs)
  (pa:s.heap.IsList a us.toArray) (pb:s.heap.IsList b vs.toArray) (hu:A.units<cLine)
  (ih:∀d∈ds,∀e v w u t,Rep X.K H d v->Rep X.K H e w->RelV v u->RelV w t->nN A.in1 s u t (bZ d e)):SeqAt.RcAt A s (.ref a) (.ref b) (bZ (.lst ds) (.lst es)):=by
 have l1:=rx.length;have l2:=ry.length;have l3:=ru.length;have l4:=rv.length;show SeqAt.RcAt A s (.ref a) (.ref b) (iI ds es)
 by_cases hl:ds.length=es.length
 ·have z:=SeqAt.RcAt.lists pa pb (by simp; omega) hu (Br A.in1 I rx ry ru rv ih)
  rw [show us.toArray.size=ds.length by simp; omega] at z;rw [yA ds es hl] at z;exact z
 ·have z:=SeqAt.RcAt.lists_lengths pa pb (by simp; omega) hu
  rw [yz hl];exact z
theorem Vy (A:Around)(I:Inv X pins σ H s){a b:Addr}{ds es:List Dt}{xs ys:List V}{us vs:List Value}(rx:ar X.K H ds xs)(ry:ar X.K H es ys)(ru:Vals xs us)(rv:Vals ys vs)
  (pa:s.heap.IsTuple a us.toArray) (pb:s.heap.IsTuple b vs.toArray) (hu:A.units<cLine)
  (ih:∀d∈ds,∀e v w u t,Rep X.K H d v->Rep X.K H e w->RelV v u->RelV w t->nN A.in1 s u t (bZ d e)):SeqAt.RcAt A s (.ref a) (.ref b) (bZ (.tup ds) (.tup es)):=by
 have l1:=rx.length;have l2:=ry.length;have l3:=ru.length;have l4:=rv.length;show SeqAt.RcAt A s (.ref a) (.ref b) (iI ds es);have z:=SeqAt.RcAt.tuples pa pb hu (Br A.in1 I rx ry ru rv ih)
 by_cases hl:ds.length=es.length
 ·rw [show min us.toArray.size vs.toArray.size=ds.length by simp; omega,show (us.toArray.size==vs.toArray.size)=true by simp; omega,Bool.and_true] at z
  rw [yA ds es hl] at z;exact z
 ·rw [show (us.toArray.size==vs.toArray.size)=false by simp; omega,Bool.and_false] at z
  rw [yz hl];exact z
theorem abx (A:Around)(I:Inv X pins σ H s){a b:Addr}{ds es:List Dt}{xs ys:List V}{us vs:List Value}(rx:ar X.K H ds xs)(ry:ar X.K H es ys)(ru:Vals xs us)(rv:Vals ys vs)
  (pa:s.heap.IsList a us.toArray) (pb:s.heap.IsList b vs.toArray) (hu:A.units<cLine)
  (ih:∀d∈ds,∀e v w u t,Rep X.K H d v->Rep X.K H e w->RelV v u->RelV w t->nN A.in1 s u t (bZ d e)):zq A s (.ref a) (.ref b) (!bZ (.lst ds) (.lst es)):=by
 have l1:=rx.length;have l2:=ry.length;have l3:=ru.length;have l4:=rv.length;show zq A s (.ref a) (.ref b) (!iI ds es)
 by_cases hl:ds.length=es.length
 ·have z:=SeqAt.RcNeAt.lists pa pb (by simp; omega) hu (Br A.in1 I rx ry ru rv ih)
  rw [show us.toArray.size=ds.length by simp; omega] at z;rw [yA ds es hl] at z;exact z
 ·have z:=SeqAt.RcNeAt.lists_lengths pa pb (by simp; omega) hu
  rw [yz hl];exact z
theorem Vz (A:Around)(I:Inv X pins σ H s){a b:Addr}{ds es:List Dt}{xs ys:List V}{us vs:List Value}(rx:ar X.K H ds xs)(ry:ar X.K H es ys)(ru:Vals xs us)(rv:Vals ys vs)
  (pa:s.heap.IsTuple a us.toArray) (pb:s.heap.IsTuple b vs.toArray) (hu:A.units<cLine)
  (ih:∀d∈ds,∀e v w u t,Rep X.K H d v->Rep X.K H e w->RelV v u->RelV w t->nN A.in1 s u t (bZ d e)):zq A s (.ref a) (.ref b) (!bZ (.tup ds) (.tup es)):=by
 have l1:=rx.length;have l2:=ry.length;have l3:=ru.length;have l4:=rv.length;show zq A s (.ref a) (.ref b) (!iI ds es);have z:=SeqAt.RcNeAt.tuples pa pb hu (Br A.in1 I rx ry ru rv ih)
 by_cases hl:ds.length=es.length
 ·rw [show min us.toArray.size vs.toArray.size=ds.length by simp; omega,show (us.toArray.size==vs.toArray.size)=true by simp; omega,Bool.and_true] at z
  rw [yA ds es hl] at z;exact z
 ·rw [show (us.toArray.size==vs.toArray.size)=false by simp; omega,Bool.and_false] at z
  rw [yz hl];exact z
def Sh (X:Cx)(H:Hp)(s:Shared)(u:Value):Dt->Prop
 |.aK=>u=.none
 |.bl b=>u=.bool b
 |.int i=>∃t,u=.int i t
 |.str l=>∃t,u=.str ⟨l.toArray⟩ t
 |.tup ds=>∃a xs ao,u=.ref a/\ar X.K H ds xs/\Vals xs ao/\s.heap.IsTuple a ao.toArray
 |.lst ds=>∃a xs ao,u=.ref a/\ar X.K H ds xs/\Vals xs ao/\s.heap.IsList a ao.toArray
 |.aj ks=>∃a,u=.ref a/\dY s.heap a ks
theorem MR (I:Inv X pins σ H s){d:Dt}{v:V}{u:Value}(h:Rep X.K H d v)(r:RelV v u):Sh X H s u d:=by
 cases d with
 |tup ds=>
  obtain⟨a,xs,rfl,_,q,ao,v1,p⟩:=I.hZ h;cases r;exact⟨a,xs,ao,rfl,q,v1,p⟩
 |lst ds=>
  obtain⟨a,xs,rfl,_,q,ao,v1,p⟩:=I.fQ h;cases r;exact⟨a,xs,ao,rfl,q,v1,p⟩
 |aj ks=>
  obtain⟨a,rfl,_,p⟩:=I.uF h;cases r;exact⟨a,rfl,p⟩
 |_=>
  simp only [Rep] at h;subst h
  first
   |exact r
   | (cases r; rfl)
theorem ag5 {A:Around}(I:Inv X pins σ H s){d e:Dt}{v w:V}{u t:Value}(h:Rep X.K H d v)(h':Rep X.K H e w)(r:RelV v u)(r':RelV w t)(aV:A.units<cLine)
  (it:∀{ds:List Dt},(d=.lst ds∨d=.tup ds)->∀d'∈ds,∀e v w u t,Rep X.K H d' v->Rep X.K H e w->RelV v u->RelV w t->nN A.in1 s u t (bZ d' e)):Al A s u t (bZ d e):=by
 have nj:v=w->bZ d e=true:=fun z=>by
  subst z;rw [Rep.inj I h h',sF]
 have rr:∀{a:Addr},u=.ref a->t=.ref a->v=w:=fun e1 e2=>by
  subst e1 e2
  cases v <;> cases w <;> simp [RelV] at r r' ⊢
  exact r.symm.trans r'
 have s1:=MR I h r;have s2:=MR I h' r'
 cases d with
 |aK=>
  obtain rfl:=s1
  cases e with
  |aK=>obtain rfl:=s2; exact⟨.same _,.none_none,.none_none⟩
  |bl b2=>obtain rfl:=s2; exact⟨.none_bool _,.none_bool _,.none_bool _⟩
  |int i2=>obtain⟨t2,rfl⟩:=s2; exact⟨.none_int _ _,.none_int _ _,.none_int _ _⟩
  |str lb=>obtain⟨t2,rfl⟩:=s2; exact⟨.none_str _ _,.none_str _ _,.none_str _ _⟩
  |tup es=>obtain⟨_,_,_,rfl,_,_,p⟩:=s2; exact⟨.none_tuple p aV,.none_tuple p aV,.none_tuple p aV⟩
  |lst es=>obtain⟨_,_,_,rfl,_,_,p⟩:=s2; exact⟨.none_list p aV,.none_list p aV,.none_list p aV⟩
  |aj kb=>obtain⟨_,rfl,p⟩:=s2; exact(Sd p aV).2
 |bl b1=>
  obtain rfl:=s1
  cases e with
  |aK=>obtain rfl:=s2; exact⟨.bool_none _,.bool_none _,.bool_none _⟩
  |bl b2=>obtain rfl:=s2; exact⟨.bool_bool _ _,.bool_bool _ _,.bool_bool _ _⟩
  |int i2=>obtain⟨t2,rfl⟩:=s2; exact⟨.bool_int _ _ _,.bool_int _ _ _,.bool_int _ _ _⟩
  |str lb=>obtain⟨t2,rfl⟩:=s2; exact⟨.bool_str _ _ _,.bool_str _ _ _,.bool_str _ _ _⟩
  |tup es=>obtain⟨_,_,_,rfl,_,_,p⟩:=s2; exact⟨.bool_tuple _ p aV,.bool_tuple _ p aV,.bool_tuple _ p aV⟩
  |lst es=>obtain⟨_,_,_,rfl,_,_,p⟩:=s2; exact⟨.bool_list _ p aV,.bool_list _ p aV,.bool_list _ p aV⟩
  |aj kb=>obtain⟨_,rfl,p⟩:=s2; exact(Sg _ p aV).2
 |int i1=>
  obtain⟨t1,rfl⟩:=s1
  cases e with
  |aK=>obtain rfl:=s2; exact⟨.int_none _ _,.int_none _ _,.int_none _ _⟩
  |bl b2=>obtain rfl:=s2; exact⟨.int_bool _ _ _,.int_bool _ _ _,.int_bool _ _ _⟩
  |int i2=>obtain⟨t2,rfl⟩:=s2; exact⟨.int_int _ _ _ _,.int_int _ _ _ _,.int_int _ _ _ _⟩
  |str lb=>obtain⟨t2,rfl⟩:=s2; exact⟨.int_str _ _ _ _,.int_str _ _ _ _,.int_str _ _ _ _⟩
  |tup es=>obtain⟨_,_,_,rfl,_,_,p⟩:=s2; exact⟨.int_tuple _ _ p aV,.int_tuple _ _ p aV,.int_tuple _ _ p aV⟩
  |lst es=>obtain⟨_,_,_,rfl,_,_,p⟩:=s2; exact⟨.int_list _ _ p aV,.int_list _ _ p aV,.int_list _ _ p aV⟩
  |aj kb=>obtain⟨_,rfl,p⟩:=s2; exact(Sf _ _ p aV).2
 |str la=>
  obtain⟨t1,rfl⟩:=s1
  cases e with
  |aK=>obtain rfl:=s2; exact⟨.str_none _ _,.str_none _ _,.str_none _ _⟩
  |bl b2=>obtain rfl:=s2; exact⟨.str_bool _ _ _,.str_bool _ _ _,.str_bool _ _ _⟩
  |int i2=>obtain⟨t2,rfl⟩:=s2; exact⟨.str_int _ _ _ _,.str_int _ _ _ _,.str_int _ _ _ _⟩
  |str lb=>
   obtain⟨t2,rfl⟩:=s2;show Al A s _ _ (la==lb);rw [← EB];exact⟨.str_str _ _ _ _,.str_str _ _ _ _,.str_str _ _ _ _⟩
  |tup es=>obtain⟨_,_,_,rfl,_,_,p⟩:=s2; exact⟨.str_tuple _ _ p aV,.str_tuple _ _ p aV,.str_tuple _ _ p aV⟩
  |lst es=>obtain⟨_,_,_,rfl,_,_,p⟩:=s2; exact⟨.str_list _ _ p aV,.str_list _ _ p aV,.str_list _ _ p aV⟩
  |aj kb=>obtain⟨_,rfl,p⟩:=s2; exact(Sb _ _ p aV).2
 |tup ds=>
  obtain⟨a1,_,_,rfl,q1,v1,p⟩:=s1
  cases e with
  |aK=>obtain rfl:=s2; exact⟨.tuple_none p aV,.tuple_none p aV,.tuple_none p aV⟩
  |bl b2=>obtain rfl:=s2; exact⟨.tuple_bool _ p aV,.tuple_bool _ p aV,.tuple_bool _ p aV⟩
  |int i2=>obtain⟨t2,rfl⟩:=s2; exact⟨.tuple_int _ _ p aV,.tuple_int _ _ p aV,.tuple_int _ _ p aV⟩
  |str lb=>obtain⟨t2,rfl⟩:=s2; exact⟨.tuple_str _ _ p aV,.tuple_str _ _ p aV,.tuple_str _ _ p aV⟩
  |tup es=>
   obtain⟨a2,_,_,rfl,q2,v2,p2⟩:=s2;have R:=Vy A I q1 q2 v1 v2 p p2 aV (it (.inr rfl));refine⟨?_,R,Vz A I q1 q2 v1 v2 p p2 aV (it (.inr rfl))⟩
   by_cases fU:a1=a2
   ·subst fU; rw [nj (rr rfl rfl)]; exact .same _
   ·exact .of_refs fU R
  |lst es=>obtain⟨a2,_,_,rfl,q2,v2,p2⟩:=s2; exact⟨.tuple_list p p2 aV,.tuple_list p p2 aV,.tuple_list p p2 aV⟩
  |aj kb=>obtain⟨a2,rfl,p2⟩:=s2; exact(Sa p2 p aV).2
 |lst ds=>
  obtain⟨a1,_,_,rfl,q1,v1,p⟩:=s1
  cases e with
  |aK=>obtain rfl:=s2; exact⟨.list_none p aV,.list_none p aV,.list_none p aV⟩
  |bl b2=>obtain rfl:=s2; exact⟨.list_bool _ p aV,.list_bool _ p aV,.list_bool _ p aV⟩
  |int i2=>obtain⟨t2,rfl⟩:=s2; exact⟨.list_int _ _ p aV,.list_int _ _ p aV,.list_int _ _ p aV⟩
  |str lb=>obtain⟨t2,rfl⟩:=s2; exact⟨.list_str _ _ p aV,.list_str _ _ p aV,.list_str _ _ p aV⟩
  |tup es=>obtain⟨a2,_,_,rfl,q2,v2,p2⟩:=s2; exact⟨.list_tuple p p2 aV,.list_tuple p p2 aV,.list_tuple p p2 aV⟩
  |lst es=>
   obtain⟨a2,_,_,rfl,q2,v2,p2⟩:=s2;have R:=abw A I q1 q2 v1 v2 p p2 aV (it (.inl rfl));refine⟨?_,R,abx A I q1 q2 v1 v2 p p2 aV (it (.inl rfl))⟩
   by_cases fU:a1=a2
   ·subst fU; rw [nj (rr rfl rfl)]; exact .same _
   ·exact .of_refs fU R
  |aj kb=>obtain⟨a2,rfl,p2⟩:=s2; exact(Se p2 p aV).2
 |aj ka=>
  obtain⟨a1,rfl,p⟩:=s1
  cases e with
  |aK=>obtain rfl:=s2; exact(Sd p aV).1
  |bl b2=>obtain rfl:=s2; exact(Sg _ p aV).1
  |int i2=>obtain⟨t2,rfl⟩:=s2; exact(Sf _ _ p aV).1
  |str lb=>obtain⟨t2,rfl⟩:=s2; exact(Sb _ _ p aV).1
  |tup es=>obtain⟨a2,_,_,rfl,q2,v2,p2⟩:=s2; exact(Sa p p2 aV).1
  |lst es=>obtain⟨a2,_,_,rfl,q2,v2,p2⟩:=s2; exact(Se p p2 aV).1
  |aj kb=>
   obtain⟨a2,rfl,p2⟩:=s2;refine⟨?_,M9 p p2 aV,Yi p p2 aV⟩
   by_cases fU:a1=a2
   ·subst fU; rw [nj (rr rfl rfl)]; exact .same _
   ·exact .of_refs fU (M9 p p2 aV)
theorem J2 {A:Around}(I:Inv X pins σ H s)(d e:Dt)(v w:V)(u t:Value)(h:Rep X.K H d v)(h':Rep X.K H e w)(r:RelV v u)(r':RelV w t)(hu:A.units+dep d<cLine):Al A s u t (bZ d e):=
 ag5 I h h' r r' (by omega) fun {ds} km d' hd e v w u t hv hw rv eo=>
  have hsz:sizeOf d'<sizeOf d:=by
   have:=List.sizeOf_lt_of_mem hd;rcases km with z | z <;> rw [z] <;> simp <;> omega
  (J2 (A:=A.in1) I d' e v w u t hv hw rv eo (by
   have:=R6 hd;rcases km with z | z <;> rw [z] at hu <;> simp only [dep] at hu <;> (show A.units+1+dep d'<cLine) <;> omega)).1
termination_by sizeOf d
decreasing_by exact hsz
end
section
variable {X:Cx}
def Ng (K:ah):R2:=fun x y H Q=>∃d e,Rep K H d x/\Rep K H e y/\dep d<=50/\Q (.bl (bZ d e)) H
def Yn (K:ah):R2:=fun x y H Q=>∃d e,Rep K H d x/\Rep K H e y/\dep d<=50/\Q (.bl (!bZ d e)) H
theorem NQ (hu:X.A.units+50<cLine):cx X (compareOp .Eq) (Ng X.K):=by
 intro pins s σ H x y v u Q I rx ry ⟨d,e,hd,he,hp,q⟩;exact(J2 I d e x y v u hd he rx ry (by omega)).2.1 X.prog X.w X.xe _ (fun ht=>⟨.bl _,H,I,rfl,q⟩)
theorem Zv (hu:X.A.units+50<cLine):cx X (compareOp .NotEq) (Yn X.K):=by
 intro pins s σ H x y v u Q I rx ry ⟨d,e,hd,he,hp,q⟩;exact(J2 I d e x y v u hd he rx ry (by omega)).2.2 X.prog X.w X.xe _ (fun ht=>⟨.bl _,H,I,rfl,q⟩)
theorem bc {A:Around}{k:Nat}(hr:bF k A):A.units+50<cLine:=by have:=hr.un; omega
end
def wa (ns:List Int)(k:Int):Int:=
 if k<ns.length then ns.getD k.toNat 0 else if ns=[] then 0 else ns.getD (k % (ns.length:Int)).toNat 0 * 31+k
def nc (ns:List Int)(k:Int):Int:=(wa ns k+6151 * (k+1)) * 40692 % 2147483399
def bx (ns:List Int)(k many:Int):Int:=(nc ns k * nc ns k+nc ns k / 31) % 2147483629 % many
theorem n5 (ns:List Int)(k:Int){many:Int}(h:0<many):0<=bx ns k many:=zD _ (by omega)
theorem n6 (ns:List Int)(k:Int){many:Int}(h:0<many):bx ns k many<many:=zP _ h
def jA (ns:List Int)(k:Int)(sg:List Nat):Nat:=sg.getD (bx ns k sg.length).toNat 0
theorem xk (ns:List Int)(k:Int){sg:List Nat}(h:sg≠[]):jA ns k sg∈sg:=by
 have hp:0<(sg.length:Int):=by
  have:=kL.mpr h;omega
 have h1:=n5 ns k hp;have h2:=n6 ns k hp;unfold jA;have aT:(bx ns k sg.length).toNat<sg.length:=by omega
 rw [zo,kN aT,tF];exact zG aT
theorem EJ (ns:List Int)(k:Int){sg:List Nat}(h:sg≠[]):iq sg (bx ns k sg.length)=some (jA ns k sg):=by
 have hp:0<(sg.length:Int):=by
  have:=kL.mpr h;omega
 have h1:=n5 ns k hp;have h2:=n6 ns k hp;have aT:(bx ns k sg.length).toNat<sg.length:=by omega
 have e:bx ns k sg.length=((bx ns k sg.length).toNat:Int):=by omega
 rw [e];refine ag0 ?_;unfold jA;rw [zo,kN aT,tF]
def dZ (ns:List Int)(a:Int)(sg:List Nat):Nat->List Nat
 |0=>[jA ns a sg]
 |k+1=>if bx ns (a+2 * ((k:Int)+1)) 2=0 then dZ ns a sg k++[(dZ ns a sg k).getLastD 0] else dZ ns a sg k++[jA ns (a+2 * ((k:Int)+1)+1) sg]
def qH (ns:List Int)(a many:Int)(sg:List Nat):List Nat:=dZ ns a sg (many - 1).toNat
theorem qG (ns:List Int)(a:Int)(sg:List Nat):∀k,(dZ ns a sg k).length=k+1
 |0=>rfl
 |k+1=>by
  unfold dZ
  split <;> simp [qG ns a sg k]
theorem wR (ns:List Int)(a:Int){sg:List Nat}(h:sg≠[]):∀k,∀c∈dZ ns a sg k,c∈sg
 |0=>by
  intro c hc;simp [dZ] at hc;rw [hc];exact xk ns a h
 |k+1=>by
  intro c hc;have ih:=wR ns a h k;unfold dZ at hc
  split at hc
  ·rcases eD.mp hc with hc | hc
   ·exact ih c hc
   ·simp only [jo] at hc
    have bS:dZ ns a sg k≠[]:=by
     intro z;have:=qG ns a sg k;rw [z] at this;simp at this
    rw [hc,DF,List.getLast?_eq_some_getLast bS,tF];exact ih _ (List.getLast_mem bS)
  ·rcases eD.mp hc with hc | hc
   ·exact ih c hc
   ·simp only [jo] at hc
    rw [hc];exact xk ns _ h
theorem LH (ns:List Int)(a many:Int){sg:List Nat}(h:sg≠[]):∀c∈qH ns a many sg,c∈sg:=wR ns a h _
section
variable (K:ah)
abbrev Scr (H:Hp)(a:Addr)(ns:List Int):Prop:=bX K H a (ns.map V.int)/\ns.length<=63
end
theorem ax.upd {H:Hp}{a:Addr}{o:HO}(h:H a=none):ax H (L2.upd H a o):=fun b u e=>by rw [aF (cN e h)]; exact e
theorem big (n:Nat)(h:n<=10000:=by omega):n<=sizeLine:=cK h (by decide)
theorem M4 {K:ah}{H:Hp}:∀ns:List Int,ar K H (ns.map Dt.int) (ns.map V.int)
 | []=>.nil
 |n::ns=>.cons dP (M4 ns)
theorem Yb {K:ah}{H:Hp}{a:Addr}{ns:List Int}(h:bX K H a (ns.map V.int)):Rep K H (.lst (ns.map Dt.int)) (.ref a):=by
 simp only [Rep];exact⟨a,_,rfl,h,M4 ns⟩
theorem RB (ns:List Int):bZ (.lst (ns.map Dt.int)) (.lst [])=decide (ns=[]):=by
 cases ns <;> rfl
def isStar:Expr->Bool
 |.Starred ..=>true
 |_=>false
theorem j6 {e:Expr}{es:List Expr}{env:Env}(h:isStar e=false):starEach (e::es) env=(false,eval e env)::starEach es env:=by
 cases e <;> first | rfl | exact absurd h (by simp [isStar])
theorem ba (X:Cx)(e:Expr)(es:List Expr)(te:TE)(t:TA)(h:isStar e=false)(ha:PE X e te)(hr:PA X es t):PA X (e::es) (jy te t):=Zb ha hr (j6 h)
end L2
namespace L2
open PySem PySem.Spec PyProof.Rows PySem.W
section
variable {prog:Program}{w:World}{A:Around}{E:Value->Shared->Prop}{s:Shared}{K:ah}{x C:Addr}{ox:Obj}
structure sU (K:ah) (C:Addr):Prop where
 cls:(clsIn K C).isSome=true
 ga:findIn K (.ref C) "__getattribute__" = some (some (.builtin "BaseException.__getattribute__"))
 na:findIn K (.ref C) "__getattr__" = some none
 ca:findIn K (.ref C) "__class__" = some (some (.builtin "object.__class__"))
 get:specialIn K (.builtin "object.__class__") "__get__" = some (some (.builtin "getset_descriptor.__get__"))
 tk:takesIn K (.builtin "object.__class__")=some true
 ob:mroIn K C (.type "object")=some true
 be:mroIn K C (.type "BaseException")=some true
def ExcAt (h:Heap)(x C:Addr):Prop:=∃ox,h.get? x=some ox/\ox.cls=.ref C
theorem ExcAt.type {M:Model}{h:Heap}(I:ExcAt h x C):Looks M h (typeOf (.ref x)) (.ref C):=by
 obtain⟨ox,e,c⟩:=I;exact c ▸ (Looks.ld e).andThen .now
theorem aeI {M:Model}{h:Heap}(Z:sU K C)(X:K.In h):Looks M h (Lv (.ref x) (.ref C) "__class__") (.bind (.builtin "getset_descriptor.__get__") (.builtin "object.__class__")):=by
 have L1:=looks_findIn (M:=M) X Z.ca;have L2:Looks M h (Builtin.ObjectAttr.getOf (some (.builtin "object.__class__"))) (some (.builtin "getset_descriptor.__get__")):=looks_specialIn X Z.get
 unfold Lv;refine L1.andThen (L2.andThen ?_);have L3:=looks_takesIn (M:=M) X Z.tk;exact(show Looks M h (Builtin.ObjectAttr.dataDescriptor? (some (.builtin "object.__class__")) (some (.builtin "getset_descriptor.__get__"))) (some ((.builtin "getset_descriptor.__get__"),(.builtin "object.__class__"))) from L3.andThen .now).andThen (Looks.tag .now)
theorem aeH {R:Result->Shared->Prop}{tp:Value}(Z:sU K C)(X:K.In s.heap)(I:ExcAt s.heap x C)
  (h:R (.ok (.ret (.ref C))) s):codeAny (model prog w) A (.call (.builtin "getset_descriptor.__get__") ⟨[.builtin "object.__class__",.ref x,tp],[]⟩) R s:=by
 obtain⟨hh,g,dr,t,os⟩:=s;have L0:=I.type (M:=model prog w);have L1:=looks_mroIn (M:=model prog w) X Z.ob;refine codeAny_call_builtin KF.slot_gs.plain KF.entry_gs (KF.slot_gs.check _ _ _ _ _ _ _ _ KF.type_class (KF.args_gs _ _ _) ?_);unfold Builtin.«getset_descriptor.__get__» Builtin.Getset_descriptor.descrGet;rw [dga_obj];refine wpAny_bind (wpAny_pure ?_);unfold Builtin.Getset_descriptor.descrGetter Builtin.Getset_descriptor.descrCheckInstance Builtin.Getset_descriptor.descrNameAndClass isInstance;simp only [KF.owner_class]
 repeat lk
 refine⟨Code.quiet_builtin _ (by decide +kernel),codeAny_builtin KF.entry_class ?_⟩;unfold Builtin.«object.__class__» shownTypeOf
 repeat lk
 exact h
theorem aeK {OC:Value}{M:Model}{Q:Unit->Shared->Prop}(Z:sU K C)(X:K.In s.heap)(I:ExcAt s.heap x C)(hq:Q () s):wpAny M A (checkBuiltinCall "BaseException.__getattribute__" ⟨[.ref x,OC],[]⟩) Q E s:=by
 have hk:builtinKind "BaseException.__getattribute__" = some .slot:=by decide +kernel
 have acM:splitId "BaseException.__getattribute__" = some ("BaseException","__getattribute__"):=by decide +kernel
 have L0:=I.type (M:=M);have L1:=looks_mroIn (M:=M) X Z.be;have ha:=F.args_bexc_ga (.ref x) OC;simp only [checkBuiltinCall,hk,acM];refine wpAny_bind ?_;unfold isInstance;refine wpAny_bind (L0.at (L1.at ?_))
 repeat (first | wp_step)
 exact hq
theorem aeJ {Q:Option Value->Shared->Prop}(Z:sU K C)(X:K.In s.heap)(I:ExcAt s.heap x C)(h:Q (some (.ref C)) {s with toks:=s.toks+1}):wpAny (model prog w) A (getAttr? (.ref x) "__class__") Q E s:=by
 have L0:=I.type (M:=model prog w);have L1:=looks_findIn (M:=model prog w) X Z.ga;have L2:=looks_findIn (M:=model prog w) X Z.na;have L3:=aeI (M:=model prog w) (x:=x) Z X;unfold getAttr? getAttrBy? getAttrBy;refine wpAny_bind (wpAny_mkText (wpAny_bind (wpAny_attempt (wpAny_holding (wpAny_bind (L0.at (wpAny_bind (L1.at ?_))))))));have hx2:(tq "BaseException.__getattribute__" == tq "object.__getattribute__")=false:=by decide +kernel
 have hx1:(onTheHeap (bO C)&&tq "BaseException.__getattribute__" == tq "object.__getattribute__")=false:=by rw [hx2]; rfl
 show wpAny _ _ (if (onTheHeap (bO C)&&tq "BaseException.__getattribute__" == tq "object.__getattribute__")=true then _ else _) _ _ _
 rw [hx1,if_neg (by decide)];unfold getAttrByItsOwn hookBefore;rw [show onTheHeap (bO C)=true from rfl,if_pos rfl];refine wpAny_bind (L2.at ?_);refine wpAny_bind (wpAny_attempt (wpAny_holding ?_));unfold callGetattribute;rw [if_neg (by decide)];unfold boundAndCalled;refine wpAny_bind (wpAny_of_eq (F.attr_ValueError.ga.bind (.ref x)) ?_);refine wpAny_call (codeAny_call_builtin F.attr_ValueError.ga.plain F.entry_bexc_ga (aeK (s:={s with toks:=s.toks+1}) Z X I ?_));unfold Builtin.«object.__getattribute__»;refine wpAny_bind (wpAny_pure ?_);refine wpAny_bind (wpAny_pure (wpAny_bind (L0.at (wpAny_bind (L3.at ?_)))));show wpAny _ _ (Lw (.builtin "getset_descriptor.__get__") (.builtin "object.__class__") (.ref x) (.ref C)) _ _ _
 unfold Lw;show wpAny _ _ (holding [.builtin "object.__class__"] (call (.builtin "getset_descriptor.__get__") [.builtin "object.__class__",.ref x,.ref C]) >>= fun v=>ret v) _ _ _
 refine wpAny_bind (wpAny_holding (wpAny_call (aeH (s:={s with toks:=s.toks+1}) Z X I ?_)));exact wpAny_pure (handed_on rfl (wpAny_pure h))
theorem abQ (Z:sU K C):KitX K (.ref x) (.ref C) (fun h=>ExcAt h x C) where
 ty:=fun _ _ _ I=>I.type
 it:=fun _ _ X _=>by
  obtain⟨cd,hc⟩:=jr.mp Z.cls;unfold clsIn at hc
  split at hc
  ·rename_i c' d' cd' el ho
   intro A' Q' E' s' k q;unfold isType loadHead;exact wpAny_bind (wpAny_loadPart (k _ _ (X _ _ ho)) (wpAny_pure q))
  ·cases hc
 ne:=fun h tp dd ao n sl X htp=>by
  obtain⟨cd,hc⟩:=jr.mp Z.cls;refine Bool.eq_false_iff.mpr fun q=>?_;have e:C=tp:=Value.ref.inj (beq_iff_eq.mp q);subst e;unfold clsIn at hc
  split at hc
  ·rename_i c' d' cd' el ho
   have z:=(X _ _ ho).symm.trans htp;cases z
  ·cases hc
 ca:=fun X I k=>aeJ Z X I k
end
def vp (C a:Addr):HO:=.ext fun h=>ExcAt h a C
section
variable {X:Cx}
theorem oK:fj X (.builtin "isinstance") (fun xs H Q=>∃a C D b,xs=[.ref a,D]/\H a=some (vp C a)/\sU X.K C/\(∀u,RelV D u->kitOne X.K (.ref C) u=some b)/\Q (.bl b) H):=by
 intro pins s σ H xs us Q I r ⟨a,C,D,b,e,hH,Z,hb,q⟩;subst e;obtain⟨u,t,rfl,ru,rt⟩:=r.two;cases ru;have hI:ExcAt s.heap a C:=(I.au a _ hH).1;exact kia_one (abQ (x:=a) Z) I.e8 hI (hb t rt) (by intro z; cases z) fun tk=>(fun ht=>⟨.bl b,H,I.tok tk,rfl,q⟩)
end
theorem dC.there {P:Program}{w:World}{H:Hp}{h:Heap}{a:Addr}{o:HO}(x:dC P w H h a o):∃ob,h.get? a=some ob:=by
 cases o with
 |lst xs=>obtain⟨_,_,_,_,e⟩:=x; exact⟨_,e⟩
 |tup xs=>obtain⟨_,_,_,ob,e,_⟩:=x; exact⟨_,e⟩
 |dK kvs=>obtain⟨_,_,_,_,o,_,_,e,_⟩:=x; exact⟨_,e⟩
 |dT kvs=>obtain⟨_,_,_,_,o,_,_,e,_⟩:=x; exact⟨_,e⟩
 |set S n=>obtain⟨o,_,_,_,e,_⟩:=x; exact⟨_,e⟩
 |ins C dx fs=>obtain⟨_,_,_,e,_⟩:=x; exact⟨_,e⟩
 |own y=>exact x
 |xd fs=>obtain⟨_,⟨_,_,_,e,_⟩,_⟩:=x; exact⟨_,e⟩
 |AB lo hi=>obtain⟨_,_,_,e⟩:=x; exact⟨_,e⟩
 |bE ob u=>obtain⟨e,_⟩:=x; exact⟨_,e⟩
 |dG q=>obtain⟨ps,e,_⟩:=x; exact⟨_,e⟩
 |met f y=>exact⟨_,(show h.get? a=some _ from x)⟩
 |ext φ=>exact x.2.1
inductive aE (P:Program) (w:World) (outer:List Env) (H:Hp) (s:Shared) (E:XK) (e:Value) (s':Shared):Prop
 |mk (ea C:Addr) (H':Hp) (B:Heap) (a0:Value) (h1:e=.ref ea) (h2:s'.os=s.os) (h3:AllBare s'.gens) (h4:qD B outer ea (.ref C) a0 s'.heap) (h5:cB P w H' B) (h6:Un (aH outer) [] H H' s.heap s'.heap)
  (h7:∀b o,s.heap.get? b=some o->H b=none->b∉aH outer->B.get? b=some o) (h8:∀b o,s.heap.get? b=some o->b∉aH outer->∃o',B.get? b=some o') (h9:H' ea=none) (kq:E (.ref C) none H'):aE P w outer H s E e s'
structure Rz (X:Cx) (E:XK):Prop where
 made:∀(pins:List (Addr×Obj)) (σ:St) (H:Hp) (s:Shared) (h':Heap) (e C:Addr) (vs:List Value),Inv X pins σ H s->Heap.MadeExcOf s.heap h' e (.ref C) vs->E (.ref C) none H->X.xe (.ref e) {s with heap:=h'}
 pass:Passes (aE X.prog X.w) X E
section
variable {P:Program}{w:World}{K:ah}{mg:Str->Option Value}{base:Heap}{N:List Str}{qual:Str}{scope:Scope}{f:Addr}{cd:Value}{A:Around}{outer:List Env}{aJ:Shared}{a8:Hp}{E:XK}
theorem Fm:Rz (bW (aE P w) P w K mg base N qual scope f cd A outer aJ a8 E) E where
 made:=by
  intro pins σ H s h' e C vs I hx hE;have dq:=I.ok.frames;have hF:=I.stack;have yg:∀env∈(bW (aE P w) P w K mg base N qual scope f cd A outer aJ a8 E).stack,∀b,env.frame=some b->b∈aH (bW (aE P w) P w K mg base N qual scope f cd A outer aJ a8 E).stack:=fun env he b hb=>zN.mpr ⟨env,he,hb⟩;refine wpAny_leaves_madeW (base:=hideAll s.heap (aH (bW (aE P w) P w K mg base N qual scope f cd A outer aJ a8 E).stack)) (h:=s.heap) dq rfl (fun b o q=>of_hideAll _ q) (funFrames_hide hF yg) hx fun i7 t fl _ _ up=>?_;have mM:∀b o,s.heap.get? b=some o->b∉aH (bW (aE P w) P w K mg base N qual scope f cd A outer aJ a8 E).stack->(hideAll s.heap (aH (bW (aE P w) P w K mg base N qual scope f cd A outer aJ a8 E).stack)).get? b=some o:=fun b o q hb=>hideAll_get _ q hb;have old:∀b o,aJ.heap.get? b=some o->b∉aH outer->b∉aH (bW (aE P w) P w K mg base N qual scope f cd A outer aJ a8 E).stack:=fun b o q hb z=>by
   rcases bf.mp (I.j5 b z) with e | e
   ·exact absurd (a6 q) (by have:=I.ok.above; rw [e]; exact nM.mpr this)
   ·exact hb e
  have bY:∀b:Addr,b∉(bW (aE P w) P w K mg base N qual scope f cd A outer aJ a8 E).ex:=fun b z=>nomatch z
  have lH:∀b o,aJ.heap.get? b=some o->a8 b=none->b∉aH outer->(hideAll s.heap (aH (bW (aE P w) P w K mg base N qual scope f cd A outer aJ a8 E).stack)).get? b=some o:=fun b o q n hb=>mM b o (I.base.keep b o q n hb (bY b)) (old b o q hb);have kS:∀b o,aJ.heap.get? b=some o->b∉aH outer->∃o',(hideAll s.heap (aH (bW (aE P w) P w K mg base N qual scope f cd A outer aJ a8 E).stack)).get? b=some o':=fun b o q hb=>by
   obtain⟨o',q'⟩:=I.base.there b o q (bY b);exact⟨o',mM b o' q' (old b o q hb)⟩
  have lg:∀b o,aJ.heap.get? b=some o->a8 b=none->b∈aH outer->∃sl,i7.get? b=some {o with slots:=sl}:=fun b o q n hb=>by
   obtain⟨sl,q'⟩:=I.base.slot b o q n hb (bY b);obtain⟨_,o2,q2,nf⟩:=I.ok.eL.mem hb;have ia:aJ.heap.get? b=some o2:=q2;rw [q] at ia;cases ia;obtain⟨el,q3⟩:=up b _ (hx.keeps b _ q') (by intro vs z; exact nf vs z);exact⟨el,q3⟩
  refine⟨e,C,H,_,_,rfl,I.os,I.bare,fl,fun a o q=>?_,⟨fun b o q n hb _=>fl.1 b o (lH b o q n hb),fun b o q n hb _=>lg b o q n hb,fun b o q n _=>I.base.free b o q n (bY b),fun b o q _=>?_,I.base.eU,I.base.et,I.base.d8⟩,lH,kS,?_,hE⟩
  ·have na:∀b u,H b=some u->b∉aH (bW (aE P w) P w K mg base N qual scope f cd A outer aJ a8 E).stack:=fun b u q z=>by
    have:=I.xg b z;rw [q] at this;cases this
   refine(I.au a o q).iU (fun c u hc r=>mM c u r ?_) (fun _ z=>z) fun _ _ z=>z;rcases hc with rfl | hc
   ·exact na _ _ q
   ·exact na _ _ hc
  ·by_cases hb:b∈aH outer
   ·have hn:a8 b=none:=I.ok.gQ b hb
    obtain⟨sl,q'⟩:=lg b o q hn hb;exact⟨_,q'⟩
   ·obtain⟨o',q'⟩:=kS b o q hb
    exact⟨o',fl.1 b o' q'⟩
  ·cases q:H e with
   |none=>rfl
   |some u=>
    obtain⟨ob,z⟩:=(I.au e u q).there;rw [hx.new] at z;cases z
 pass:=by
  intro pins σ H s e s' I hc;obtain⟨ea,C,H',B,a0,rfl,oj,hb,fl,au,un,lI,nS,gL,hE⟩:=hc;have dq:=I.ok.frames;refine wpAny_leaves_onW dq rfl fl fun i7 jI up=>?_;have old:∀b o,aJ.heap.get? b=some o->b∉aH outer->b∉aH (bW (aE P w) P w K mg base N qual scope f cd A outer aJ a8 E).stack:=fun b o q hb z=>by
   rcases bf.mp (I.j5 b z) with e | e
   ·exact absurd (a6 q) (by have:=I.ok.above; rw [e]; exact nM.mpr this)
   ·exact hb e
  have bY:∀b:Addr,b∉(bW (aE P w) P w K mg base N qual scope f cd A outer aJ a8 E).ex:=fun b z=>nomatch z
  have lH:∀b o,aJ.heap.get? b=some o->a8 b=none->b∉aH outer->B.get? b=some o:=fun b o q n hb=>lI b o (I.base.keep b o q n hb (bY b)) (I.base.free b o q n (bY b)) (old b o q hb);have kS:∀b o,aJ.heap.get? b=some o->b∉aH outer->∃o',B.get? b=some o':=fun b o q hb=>by
   obtain⟨o',q'⟩:=I.base.there b o q (bY b);exact nS b o' q' (old b o q hb)
  have sub:∀b,b∈aH outer->b∈aH (bW (aE P w) P w K mg base N qual scope f cd A outer aJ a8 E).stack:=fun b hb=>by
   show b∈aH (_::outer);unfold aH;rw [gf]
   split
   ·exact hb
   ·exact cG _ hb
  have lg:∀b o,aJ.heap.get? b=some o->a8 b=none->b∈aH outer->∃sl,i7.get? b=some {o with slots:=sl}:=fun b o q n hb=>by
   obtain⟨sl,q'⟩:=I.base.slot b o q n hb (bY b);obtain⟨pe,ia⟩:=un.slot b _ q' (I.base.free b o q n (bY b)) (sub b hb) (by simp);obtain⟨_,o2,q2,nf⟩:=I.ok.eL.mem hb;have pw:aJ.heap.get? b=some o2:=q2;rw [q] at pw;cases pw;obtain⟨el,q3⟩:=up b _ ia (by intro vs z; exact nf vs z);exact⟨el,q3⟩
  refine⟨ea,C,H',B,a0,rfl,oj.trans I.os,hb,jI,au,⟨fun b o q n hb _=>jI.1 b o (lH b o q n hb),fun b o q n hb _=>lg b o q n hb,fun b o q n _=>?_,fun b o q _=>?_,fun b xs q=>un.eU b xs (I.base.eU b xs q),fun b o u q=>un.et b o u (I.base.et b o u q),fun b ps q=>?_⟩,lH,kS,gL,hE⟩
  ·obtain⟨o',q'⟩:=I.base.there b o q (bY b)
   exact un.free b o' q' (I.base.free b o q n (bY b)) (by simp)
  ·by_cases hb:b∈aH outer
   ·have hn:a8 b=none:=I.ok.gQ b hb
    obtain⟨sl,q'⟩:=lg b o q hn hb;exact⟨_,q'⟩
   ·obtain⟨o',q'⟩:=kS b o q hb
    exact⟨o',jI.1 b o' q'⟩
  ·exact un.d8 b ps (I.base.d8 b ps q)
end
section
variable {P:Program}{w:World}{K:ah}{mg:Str->Option Value}{base:Heap}
theorem eP.mE {x qual:Str}{st:Stmt}{f:Addr}{fd:FuncData}{N ps:List Str}{k:Nat}{sp:Sp}(F:eP K x qual st f fd)(S:bC N ps (ay st))(len:∀vs H Q E,sp vs H Q E->vs.length=ps.length)
  (gP:∀(aw:Value) (A:Around) (outer:List Env) (s:Shared) (H:Hp) (vs:List V) (Q:VK) (E:XK),bF k (A.deeper (envOfC qual (ay st) s.heap.objs.size f aw))->sp vs H Q E->
   Rz (bW (aE P w) P w K mg base N qual (ay st) f aw A outer s H E) E->
   ∃t,ed (bW (aE P w) P w K mg base N qual (ay st) f aw A outer s H E) (dg st) t/\t {nx:=fun _ H'=>Q .aK H',rt:=Q} (start N vs) H) (hf:ps=[dR]->(ay st).names.lookup dR=some .local:=by first | assumption | decide +kernel):cR P w K mg base (aE P w) (k+1) f fd ps sp:=by
 obtain⟨oc,od,kV,doc,pm,an,aw,ct,iC,rfl,lk,e9⟩:=F.ex;refine IZ lk e9 S hf len fun A outer s H vs Q E hr pU=>?_;exact gP aw A outer s H vs Q E hr pU Fm
end
abbrev mh:List Value:=[.type "ValueError",.type "Exception",.type "BaseException",.type "object"]
theorem aeG {K:ah}{h:Heap}{C:Addr}(X:K.In h)(q:excIn K C mh "ValueError.__new__" = true) :
  ∃nm qn N bs bm hdct sn sub ab col dd k0 k1 k2 k3 k5 mN,h.get? C=some (excClassObj nm qn C N bs bm hdct sn sub ab col dd k0 k1 k2 k3 k5 "ValueError.__new__")/\h.Ns N mN/\mN "__init__" = none/\OwnTail h mh bm:=by
 unfold excIn at q
 split at q
 ·rename_i dd cd sl ho
  split at q
  ·rename_i C' bm k0 k1 k2 k3 n k5 hm hs
   simp only [oZ,beq_iff_eq,Bool.not_eq_true'] at q;obtain⟨⟨⟨⟨⟨rfl,rfl⟩,Ql⟩,ht⟩,au⟩,BG⟩:=q;obtain⟨nm,bs,mro,ns,qn,hd,sn,sub,ab,col,del⟩:=cd
   dsimp only at hm Ql au BG
   subst hm Ql;have Hv:sl=#[k0,k1,k2,k3,some (.builtin "ValueError.__new__"),k5]:=by
    obtain⟨l⟩:=sl
    simp only at hs
    rw [hs]
   subst Hv;exact⟨nm,qn,ns,bs,bm,hd,sn,sub,ab,col,dd,k0,k1,k2,k3,k5,_,X _ _ ho,.of_isNs (isNs_of_in X au),nsMap_none_of_in X au BG,tail_of_in X ht⟩
  ·cases q
 ·cases q
section
variable {X:Cx}{pos:Pos}
def VZ (C:Addr)(E:XK)(te:TE):TS:=fun _ σ H=>te σ H fun _ H1=>E (.ref C) none H1
theorem YE {x:Str}{np cq:Pos}{C:Addr}{E:XK}{e:Expr}{te:TE}(hc:X.calm=true)(R:Rz X E)(hg:Gl X x)(hm:X.mg x=some (.ref C))(hK:excIn X.K C mh "ValueError.__new__" = true)(he:PE X e te)(bz:isStar e=false:=by rfl)
  (hd:(x==("__debug__" : Str))=false:=by decide):PS X (.Raise (some (.Call (.Name x np) [e] [] cq)) none pos) (VZ C E te):=by
 intro pins s σ H D I h;obtain⟨nm,qn,N,bs,bm,hdct,sn,sub,ab,col,dd,k0,k1,k2,k3,k5,mN,hC,hN,BG,T⟩:=aeG I.mod.lF hK;have hs:starEach [e] X.env=[(false,eval e X.env)]:=by rw [j6 bz]; rfl
 refine wpAny_Raise_call_subT F.excBase_ValueError (C:=C) (nm:=nm) (q:=qn) (N:=N) (bs:=bs) (bm:=bm) (hdct:=hdct) (sn:=sn) (sub:=sub) (ab:=ab) (col:=col) (dd:=dd) (k0:=k0) (k1:=k1) (k2:=k2) (k3:=k3) (k5:=k5) (mN:=mN)
  (T.hasType F.excBase_ValueError.hasBase) (I.ok.hd hc) (by rw [hs]; rfl) BG (uQ I hg hm ⟨rfl,?_⟩ hd)
 rw [hs];refine zU (md (aG (he pins s σ H _ I h) fun v s1 ⟨x,H1,I1,r1,q1⟩=>nI ?_));exact⟨rfl,by show 1<=sizeLine; decide,I1.bk _ _ hC,hN.keeps I1.bk,T.keeps I1.bk,fun h' ea P9=>R.made pins σ H1 s1 h' ea C _ I1 P9 q1⟩
def Mx (t:TE)(k:Hp->Prop):St->Hp->Prop:=fun σ H=>t σ H fun x H1=>∃l:Str,x=.str l/\l.length<=1000/\k H1
theorem xQ (a b:Str):(a++b).length=a.length+b.length:=strLen_append a b
theorem NB {a b:Expr}{ta tb:TE}(ha:PE X a ta)(hb:PE X b tb):PE X (.JoinedStr [a,b] pos) (fun σ H Q=>Mx ta (fun H1=>Mx tb (fun H2=>∀z,Q (.str z) H2) σ H1) σ H):=by
 intro pins s σ H Q I h;refine wpAny_JoinedStr ?_;have e0:Str.empty.length=0:=rfl;refine aG (ha pins s σ H _ I h) fun v s1 h_=>?_;obtain⟨x,H1,I1,r1,l,ex,hl,q1⟩:=h_;subst ex;obtain⟨t,rfl⟩:=r1;refine⟨l,t,rfl,big _ (by rw [xQ,e0]; omega),?_⟩;refine aG (hb pins s1 σ H1 _ I1 q1) fun v s2 h_=>?_;obtain⟨y,H2,I2,r2,m,ey,hm,q2⟩:=h_;subst ey;obtain⟨t',rfl⟩:=r2;refine⟨m,t',rfl,big _ (by rw [xQ,xQ,e0]; omega),big _ (by rw [xQ,xQ,e0]; omega),?_⟩;exact(fun ht=>⟨.str _,H2,I2.tok _,⟨_,rfl⟩,q2 _⟩)
end
abbrev Cx.kh (X:Cx)(pn:List (Addr×Obj))(W:Value->Shared->Prop):Cx:={X with pn:=pn,xe:=W}
abbrev Cx.rK (X:Cx)(pn:List (Addr×Obj))(ea:Addr):Cx:={X with A:=X.A.mark (some (.ref ea)),calm:=false,pn:=pn,xe:=fun _ _=>False}
section
variable {X:Cx}{pins:List (Addr×Obj)}{σ:St}{H:Hp}{s:Shared}
theorem aaa (ok:X.Ok)(pn:List (Addr×Obj))(W:Value->Shared->Prop):(X.kh pn W).Ok:=
 ⟨ok.mod,ok.kind,ok.glob,ok.blt,ok.above,ok.inj,ok.has,ok.qm,ok.hd,ok.frames,ok.qQ,ok.yw,ok.bs,ok.jf,ok.bY,ok.sC,ok.eL,ok.gQ⟩
theorem Inv.kh (I:Inv X pins σ H s)(W:Value->Shared->Prop):Inv (X.kh (X.pn++pins) W) [] σ H s:=
 ⟨aaa I.ok _ W,I.os,I.bare,I.base,I.loc,I.cell,I.free,I.fi,fun p hp=>I.pin p (by
  have fE:p∈(X.pn++pins)++[]:=hp;simpa using fE),I.au,I.len,I.tk⟩
theorem Inv.AX {W:Value->Shared->Prop}{gF:List (Addr×Obj)}(ok:X.Ok)(I:Inv (X.kh (X.pn++pins) W) gF σ H s):Inv X pins σ H s:=
 ⟨ok,I.os,I.bare,I.base,I.loc,I.cell,I.free,I.fi,fun p hp=>I.pin p (ej _ hp),I.au,I.len,I.tk⟩
theorem Inv.Zl {gF:List (Addr×Obj)}{ea:Addr}(ok:X.Ok)(I:Inv (X.rK (X.pn++pins) ea) gF σ H s):Inv X pins σ H s:=
 ⟨ok,I.os,I.bare,I.base,I.loc,I.cell,I.free,I.fi,fun p hp=>I.pin p (ej _ hp),I.au,I.len,I.tk⟩
theorem Inv.agg {W:Value->Shared->Prop}{pn gF:List (Addr×Obj)}{H':Hp}{s':Shared}{ea C:Addr}{B h6:Heap}{a0:Value}(pT:X.stack=X.env::X.outer/\X.env.frame=some X.env.locals)(hex:X.ex=[])
  (I:Inv (X.kh pn W) gF σ H s) (oj:s'.os=s.os) (hb:AllBare s'.gens) (au:cB X.prog X.w H' B) (un:Un (aH X.stack) [] H H' s.heap s'.heap)
  (lI:∀b o,s.heap.get? b=some o->H b=none->b∉aH X.stack->B.get? b=some o) (nS:∀b o,s.heap.get? b=some o->b∉aH X.stack->∃o',B.get? b=some o') (gL:H' ea=none)
  (fl:qD B X.stack ea (.ref C) a0 h6) (up:s'.heap.UpToSlots h6) (ht:0<s'.toks) :
  Inv (X.rK pn ea) [] (bM σ.length none) (upd H' ea (vp C ea)) {s' with heap:=h6}:=by
 obtain⟨f1,f2,f3,oe,vs,T,oT,ts,e1,e2,e3,_⟩:=id fl;have B1:aH X.stack=X.env.locals::X.fs:=by
  rw [pT.1];unfold aH;rw [gf,pT.2];rfl
 have frn:∀b,b∈aH X.stack->b≠ea:=fun b cj z=>by
  obtain⟨_,o,q,nf⟩:=f3.mem cj;rw [z,e1] at q;cases q;exact nf vs e3
 have nB:∀b o,B.get? b=some o->b≠ea:=fun b o q z=>by rw [z,f2] at q; cases q
 have nd:∀b o,s.heap.get? b=some o->b∈aH X.stack->∀vs,o.data≠.fields vs:=fun b o q cj=>by
  obtain⟨_,o2,q2,nf⟩:=I.stack.mem cj;have ia:s.heap.get? b=some o2:=q2;rw [q] at ia;cases ia;exact nf
 have slot:∀b o,s.heap.get? b=some o->H b=none->b∈aH X.stack->∃sl,h6.get? b=some {o with slots:=sl}:=fun b o q n cj=>by
  obtain⟨sl,q'⟩:=un.slot b o q n cj (by simp);obtain⟨el,nY⟩:=up b _ q' (by intro vs z; exact nd b o q cj vs z);exact⟨el,nY⟩
 have keep:∀b o,s.heap.get? b=some o->H b=none->b∉aH X.stack->h6.get? b=some o:=fun b o q n cj=>f1 b o (lI b o q n cj);have B2:∀b o,s.heap.get? b=some o->H b=none->(upd H' ea (vp C ea)) b=none:=fun b o q n=>by
  have bS:b≠ea:=by
   by_cases cj:b∈aH X.stack
   ·exact frn b cj
   ·exact nB b o (lI b o q n cj)
  rw [aF bS];exact un.free b o q n (by simp)
 have ZO:∀b o,X.aJ.heap.get? b=some o->b∉X.fs->b∉aH X.stack:=fun b o q cj z=>by
  rw [B1] at z;rcases bf.mp z with e | e
  ·exact absurd (a6 q) (by have:=I.ok.above; rw [e]; exact nM.mpr this)
  ·exact cj e
 have Ws:∀b,b∈X.fs->b∈aH X.stack:=fun b cj=>by rw [B1]; exact cG _ cj
 have bY:∀b:Addr,b∉X.ex:=fun b z=>by rw [hex] at z; cases z
 obtain⟨m,⟨oL,es,ep,BE,Hw⟩,_⟩:=I.loc;have abp:X.env.locals∈aH X.stack:=by rw [B1]; exact bN
 obtain⟨slL,hL6⟩:=slot _ _ BE I.free abp;refine⟨⟨I.ok.mod,I.ok.kind,I.ok.glob,I.ok.blt,I.ok.above,I.ok.inj,I.ok.has,I.ok.qm,(fun z=>nomatch z),I.ok.frames,I.ok.qQ,I.ok.yw,I.ok.bs,I.ok.jf,I.ok.bY,I.ok.sC,I.ok.eL,I.ok.gQ⟩,oj.trans I.os,hb,
  ⟨fun b o q n cj hx=>?_,fun b o q n cj hx=>?_,fun b o q n hx=>?_,fun b o q hx=>?_,fun b xs q=>?_,fun b o u q=>?_,fun b ps q=>?_⟩,⟨m,⟨_,es,ep,hL6,Hw⟩,fun i x v h1 h2 _=>?_⟩,fun x c hc=>?_,?_,fun x c hc=>?_,fun p hp=>?_,fun a o q=>?_,?_,ht⟩
 ·exact keep b o (I.base.keep b o q n cj hx) (I.base.free b o q n hx) (ZO b o q cj)
 ·obtain⟨sl,q'⟩:=I.base.slot b o q n cj hx
  obtain⟨el,nY⟩:=slot b _ q' (I.base.free b o q n hx) (Ws b cj);exact⟨el,nY⟩
 ·obtain⟨o',q'⟩:=I.base.there b o q hx
  exact B2 b o' q' (I.base.free b o q n hx)
 ·obtain⟨o',q'⟩:=I.base.there b o q hx
  by_cases cj:b∈aH X.stack
  ·have hn:=I.xg b cj
   obtain⟨sl,nY⟩:=slot b o' q' hn cj;exact⟨_,nY⟩
  ·obtain⟨N7,nY⟩:=nS b o' q' cj
   exact⟨N7,f1 b N7 nY⟩
 ·have z:=un.eU b xs (I.base.eU b xs q)
  rw [aF (cN z gL)];exact z
 ·have z:=un.et b o u (I.base.et b o u q)
  rw [aF (cN z gL)];exact z
 ·have z:=un.d8 b ps (I.base.d8 b ps q)
  rw [aF (cN z gL)];exact z
 ·rw [DB] at h2
  split at h2 <;> cases h2
 ·obtain⟨v,o,ho,hd⟩:=I.cell x c hc
  by_cases cj:c∈aH X.stack
  ·obtain⟨sl,nY⟩:=slot c o ho (I.fi x c hc) cj
   exact⟨v,_,nY,hd⟩
  ·exact⟨v,o,keep c o ho (I.fi x c hc) cj,hd⟩
 ·exact B2 _ _ BE I.free
 ·obtain⟨v,o,ho,hd⟩:=I.cell x c hc
  exact B2 c o ho (I.fi x c hc)
 ·have fE:p∈pn++gF:=by
   have iE:p∈pn++[]:=hp;exact ej _ (by simpa using iE)
  obtain⟨q,n,ne,nf,d⟩:=I.pin p fE;have cj:p.1∉aH X.stack:=fun z=>by
   rw [B1] at z;rcases bf.mp z with e | e
   ·exact ne e
   ·exact nf e
  exact⟨keep _ _ q n cj,B2 _ _ q n,ne,nf,d⟩
 ·by_cases ha:a=ea
  ·subst ha
   rw [aX] at q;cases q;exact⟨⟨oe,e1,e2.1⟩,⟨oe,e1⟩,fun h1 h2 ⟨o,z1,z2⟩ k=>⟨o,k o z1,z2⟩⟩
  ·rw [aF ha] at q
   exact(au a o q).iU (fun c u _ r=>f1 c u r) (fun c r=>by rw [aF (cN r gL)]; exact r) (fun c xs r=>by rw [aF (cN r gL)]; exact r) fun c _ _ r=>by rw [aF (cN r gL)]; exact r
 ·show (bM σ.length none).length=X.N.length
  rw [wy];exact I.len
theorem Inv.aed {h':Heap}{t':Nat}{v:Option Value}{i:Nat}{n:Str}{m:Str->Option Value}(I:Inv X pins σ H s)(hN:X.N.Nodup)(hi:X.N[i]?=some n)
  (hm:s.heap.Ns X.env.locals m) (HH:∀(i:Nat) (x:Str) (v:V),X.N[i]?=some x->σ[i]?=some (some v)->wj X.env.scope x->∃u,RelV v u/\Look X.env s.heap m x u)
  (hn:h'.Ns X.env.locals (fun x=>if x=n then v else m x)) (sb:kG X.env.locals s.heap h') (ht:0<t':=by first | assumption | exact Inv.tk (by assumption) | exact Nat.succ_pos _):Inv X pins (σ.set i none) H {s with heap:=h',toks:=t'}:=by
 have lW:=I.lW;have BJ:i<σ.length:=by rw [I.len]; exact(eF.mp hi).1
 have nL:∀b o,X.aJ.heap.get? b=some o->b≠X.env.locals:=fun b o e=>bQ (cH (a6 e) I.ok.above);refine⟨I.ok,I.os,I.bare,⟨fun b o e n hb hx=>?_,fun b o e n hb hx=>?_,I.base.free,fun b o e hx=>?_,I.base.eU,I.base.et,I.base.d8⟩,⟨_,hn,fun j y v' e1 e2 e3=>?_⟩,fun y c e=>?_,I.free,I.fi,fun p hp=>?_,fun b ob e=>?_,by simpa using I.len,ht⟩
 ·exact(sb.2 b (nL b o e)).trans (I.base.keep b o e n hb hx)
 ·obtain⟨sl,q⟩:=I.base.slot b o e n hb hx
  exact⟨sl,(sb.2 b (nL b o e)).trans q⟩
 ·obtain⟨o',q⟩:=I.base.there b o e hx
  exact⟨o',(sb.2 b (nL b o e)).trans q⟩
 ·by_cases hj:j=i
  ·subst hj
   rw [qz BJ] at e2;cases e2
  ·rw [jW (cb hj)] at e2
   obtain⟨u',r',q⟩:=HH j y v' e1 e2 e3;refine⟨u',r',?_⟩;rcases q with ⟨k,e⟩ | ⟨k,c,e,z⟩
   ·refine .inl ⟨k,?_⟩
    have:y≠n:=fun e=>hj (Ge hN e1 (e ▸ hi));simp [this,e]
   ·exact .inr ⟨k,c,e,z.sameBut sb (lW y c e)⟩
 ·obtain⟨w',z⟩:=I.cell y c e
  exact⟨w',z.sameBut sb (lW y c e)⟩
 ·obtain⟨e,n,ne,nf,d⟩:=I.pin p hp
  exact⟨(sb.2 p.1 ne).trans e,n,ne,nf,d⟩
 ·refine(I.au b ob e).iU (fun c w' hc q=>(sb.2 c ?_).trans q) (fun _ q=>q) fun _ _ q=>q
  have rW:=I.free;rintro rfl;rcases hc with rfl | hc
  ·rw [rW] at e; cases e
  ·rw [rW] at hc; cases hc
def RH (K:ah)(CT:Addr)(iN:Nat)(ts:TS)(D:Ends)(n:Nat):XK:=fun cls _ H'=>∀ea C,cls=.ref C->H' ea=none->exmOne K (.ref C) (.ref CT)=some true/\
 ts {nx:=fun eC H2=>D.nx (eC.set iN none) H2,rt:=D.rt,bk:=fun eC H2=>D.bk (eC.set iN none) H2,ct:=fun eC H2=>D.ct (eC.set iN none) H2} ((bM n none).set iN (some (.ref ea))) (upd H' ea (vp C ea))
def VT (K:ah)(CT:Addr)(iN:Nat)(tb:XK->TS)(ts:TS):TS:=fun D σ H=>tb (RH K CT iN ts D σ.length) D σ H
end
section
variable {X:Cx}{pos BC np:Pos}{T n:Str}{CT:Addr}{body Ey:List Stmt}{JH:Stmt}{tb:XK->TS}{ts:TS}{iN:Nat}
theorem YC (hc:X.calm=true)(pT:X.stack=X.env::X.outer/\X.env.frame=some X.env.locals)(hex:X.ex=[])(hN:X.N.Nodup)(hi:X.N[iN]?=some n)(hl:X.env.scope.names.lookup n=some .local)
  (hg:Gl X T) (hm:X.mg T=some (.ref CT)) (hb:∀pn W E',Passes (aE X.prog X.w) (X.kh pn W) E'->ed (X.kh pn W) body (tb E')) (hs:∀pn ea,ed (X.rK pn ea) (JH::Ey) ts)
  (hd:(T==("__debug__" : Str))=false:=by decide) :
  PS X (.Try body [.ExceptHandler (some (.Name T np)) (some n) (JH::Ey) BC] [] [] pos) (VT X.K CT iN tb ts):=by
 intro pins s σ H D I h;have hp:(X.env.scope.kind == .class || (X.env.scope.kind == .module&&X.env.locals != X.env.globals))=false:=by rw [I.ok.kind]; rfl
 refine wpAny_Try_except ?_;have acU:Passes (aE X.prog X.w) (X.kh (X.pn++pins) (fun e aY=>0<aY.toks->wpAny (model X.prog X.w) X.A (noteFrame e X.env) (fun _ g6=>wpAny (model X.prog X.w) X.A (setFlight e none) (fun _ gZ=>wpAny (model X.prog X.w) X.A (handleBy e X.env [.ExceptHandler (some (.Name T np)) (some n) (JH::Ey) BC]) (SP X pins D) X.xe gZ) X.xe g6) X.xe aY)) (RH X.K CT iN ts D σ.length):=by
  intro gF aL H1 s1 e MZ I1 rY hts;obtain⟨ea,C,H',B,a0,rfl,oj,adH,fl,au,un,lI,nS,gL,hE⟩:=rY;have dq:X.A.frames=some (X.env::X.outer):=by rw [← pT.1]; exact I1.ok.frames
  have jI:qD B (X.env::X.outer) ea (.ref C) a0 MZ.heap:=by rw [← pT.1]; exact fl
  refine wpAny_looks_onW dq pT.2 jI fun h4 held Vg=>?_;refine wpAny_landsW held fun h5 B7 Ea=>?_;have mM:∀b o,X.base.get? b=some o->B.get? b=some o:=fun b o q=>by
   have q2:=I1.bs b o q;refine lI b o q2.1 q2.2 fun z=>?_;have:=(I1.stack.mem z).1;rw [show X.base.get? b=some o from q] at this;cases this
  have K5:∀{h:Heap},qD B (X.env::X.outer) ea (.ref C) a0 h->X.K.In h:=fun {h} z=>I1.ok.mod.lF.keeps fun b o q=>z.1 b o (mM b o q);refine wpAny_handleBy_cons (codeAny_handlers_test ?_) (by intro q; cases q);have g5:h5.Ns mainGlobals X.mg:=I1.ok.mod.glob.keeps fun b o q=>B7.1 b o (mM b o q);refine DH I1.ok.kind hg (Calls.loadGlobal_global (by rw [show X.env.globals=mainGlobals from I1.ok.glob]; exact g5) hm ?_) hd;obtain⟨ac7,acJ⟩:=hE ea C rfl gL;obtain⟨ob,hob,acZ⟩:=B7.there;have LT:Looks (model X.prog X.w) h5 (typeOf (.ref ea)) (.ref C):=acZ ▸ (Looks.ld hob).andThen .now;refine(exm_one (M:=model X.prog X.w) (K5 B7) LT ac7).at ?_;refine codeAny_handlers_suite_as ?_;refine lands_againW B7 fun h6 fl6 Vf=>?_;have Ve:MZ.heap.UpToSlots h6:=(Vg.trans Ea).trans Vf;have aeA:qD B X.stack ea (.ref C) a0 h6:=by rw [pT.1]; exact fl6
  have I6:=Inv.agg (X:=X) pT hex I1 oj adH au un lI nS gL aeA Ve hts;have hlen:aL.length=σ.length:=by rw [show aL.length=X.N.length from I1.len,show σ.length=X.N.length from I.len]
  rw [hlen] at I6;refine xf (X:=X.rK (X.pn++pins) ea) I6 hN hi (.inl hl) (v:=.ref ea) rfl (fun s7 I7=>?_) (.inr hl);refine VE (hs (X.pn++pins) ea [] s7 _ _ _ I7 acJ) (fun f s8 q8=>?_);have fin:∀{eB:St} {H8:Hp},Inv (X.rK (X.pn++pins) ea) [] eB H8 s8->∀(Q:Unit->Shared->Prop),(∀s9,Inv X pins (eB.set iN none) H8 s9->Q () s9)->wpAny (model X.prog X.w) X.A (do bindName X.env n .none; unbindBehindTheSuite X.env n BC) Q X.xe s8:=fun {eB H8} I8 Q k=>by
   have I9:Inv X pins eB H8 s8:=I8.Zl I.ok;obtain⟨m,gq,HH⟩:=I9.loc;exact wpAny_nameGoes_keeps hl gq hp fun h' v hn sb=>k _ (I9.aed hN hi gq HH hn sb)
  cases f with
  |next=>
   obtain⟨eB,H8,I8,q⟩:=q8;exact fin I8 _ fun s9 I9 _=>⟨_,H8,I9,q⟩
  |brk=>
   obtain⟨eB,H8,I8,q⟩:=q8;exact fin I8 _ fun s9 I9 _=>⟨_,H8,I9,q⟩
  |cont=>
   obtain⟨eB,H8,I8,q⟩:=q8;exact fin I8 _ fun s9 I9 _=>⟨_,H8,I9,q⟩
  |ret v=>
   obtain⟨x8,eB,H8,I8,r8,q⟩:=q8;exact fin I8 _ fun s9 I9 _=>⟨x8,_,H8,I9,r8,q⟩
 refine VD (hb (X.pn++pins) _ _ acU [] s σ H D (I.kh _) h) fun f s1 q1=>?_
 cases f with
 |next=>
  obtain⟨kF,H1,I1,q⟩:=q1;exact wpAny_execs_nil (fun ht=>⟨kF,H1,I1.AX I.ok,q⟩)
 |brk=>obtain⟨kF,H1,I1,q⟩:=q1; exact(fun ht=>⟨kF,H1,I1.AX I.ok,q⟩)
 |cont=>obtain⟨kF,H1,I1,q⟩:=q1; exact(fun ht=>⟨kF,H1,I1.AX I.ok,q⟩)
 |ret v=>obtain⟨x1,kF,H1,I1,r1,q⟩:=q1; exact(fun ht=>⟨x1,kF,H1,I1.AX I.ok,r1,q⟩)
end
theorem Sl {x:V}:∀{xs:List V}{us:List Value},Vals xs us->xs.all ik=true->us.countP (fX x)=xs.countP fun y=>d9 y x
 |_,_,.nil,_=>rfl
 |y::xs,u::us,.cons r t,f=>by
  rw [nF,oZ] at f;rw [List.countP_cons,List.countP_cons,Cb r f.1,Sl t f.2]
section
variable {X:Cx}
theorem aa0:wm X "list.count" (fun x vs H Q=>∃p xs y,x=.ref p/\vs=[y]/\H p=some (.lst xs)/\ik y=true/\xs.all ik=true/\Q (.int (xs.countP fun z=>d9 z y)) H):=by
 intro pins s σ H x vs v us Q I rx rv ⟨p,xs,y,ex,ev,hH,fy,fx,q⟩;subst ex ev;cases rx;obtain⟨u,rfl,ru⟩:=rv.one;obtain⟨z,ao,n,r,hl,e⟩:=I.kg hH;refine call_meets F.slot_list_count ⟨_,e,rfl⟩ F.entry_list_count (F.args_list_count_2 _ _) (SeqAt.list_countAt p ao.toArray n none #[] u (fX y)) ⟨e,fun w hw=>rB ru fy r fx w (by simpa using hw),?_⟩;refine(fun ht=>⟨.int (xs.countP fun z=>d9 z y),H,I.tok _,⟨s.toks,?_⟩,q⟩);rw [← Sl r fx]
theorem aaZ:wm X "list.index" (fun x vs H Q=>∃p xs y j,x=.ref p/\vs=[y]/\H p=some (.lst xs)/\ik y=true/\xs.all ik=true/\(∃z,xs[j]?=some z/\d9 z y=true)/\(∀m z,m<j->xs[m]?=some z->d9 z y=false)/\Q (.int (j:Nat)) H):=by
 intro pins s σ H x vs v us Q I rx rv ⟨p,xs,y,j,ex,ev,hH,fy,fx,⟨z,hz,hit⟩,HD,q⟩;subst ex ev;cases rx;obtain⟨u,rfl,ru⟩:=rv.one;obtain⟨zl,ao,n,r,hl,e⟩:=I.kg hH;have hj:j<ao.length:=by rw [← hl]; exact(eF.mp hz).1
 have fl:∀m zz,xs[m]?=some zz->ik zz=true:=fun m zz h=>eg.mp fx zz (jV h);have at_:∀m zz,xs[m]?=some zz->∀(hm:m<ao.length),fX y ao[m]=d9 zz y:=fun m zz h hm=>by
  obtain⟨w,hw,eo⟩:=r.get h;have rM:ao[m]=w:=by simpa [hm] using hw
  rw [rM];exact Cb eo (fl m zz h)
 have Hu:(j:Int)<2 ^ 63 - 1:=by
  have:=sizeLine_eq;have h24:sizeLine=2 ^ 24:=rfl;omega
 refine call_meets F.slot_list_index ⟨_,e,rfl⟩ F.entry_list_index (F.args_list_index_2 _ _) (SeqAt.list_indexAt p ao.toArray n none #[] u (fX y) j (by simpa using hj) Hu ?_ ?_) ⟨e,fun w hw=>rB ru fy r fx w (by simpa using hw),?_⟩
 ·simp only [Du]
  rw [at_ j z hz hj];exact hit
 ·intro m hm hmj
  have gq:m<ao.length:=by simpa using hm
  have hx:m<xs.length:=by omega
  simp only [Du];rw [at_ m xs[m] (by simp [hx]) gq];exact HD m _ hmj (by simp [hx])
 ·exact(fun ht=>⟨.int (j:Nat),H,I.tok _,⟨s.toks,rfl⟩,q⟩)
theorem aef (parts:List (List Nat)):(Txt.join ⟨([]:List Nat).toArray⟩ (parts.map fun l=>(⟨l.toArray⟩:Str)))=⟨parts.flatten.toArray⟩:=by
 apply CK
 unfold Txt.join Builtin.Str.glued;have key:∀(ps:List (List Nat)) (acc:Array Nat),(ps.map fun l=>(⟨l.toArray⟩:Str)).foldl (fun acc p=>acc++(⟨([]:List Nat).toArray⟩:Str).cps++p.cps) acc=acc++ps.flatten.toArray:=by
  intro ps
  induction ps with
  |nil=>intro acc; simp
  |cons l ps ih=>
   intro acc;rw [bI,tD,ih];simp
 cases parts with
 |nil=>rfl
 |cons l ps=>
  show (((l::ps).map fun l=>(⟨l.toArray⟩:Str)).drop 1 |>.foldl (fun acc p=>acc++(⟨([]:List Nat).toArray⟩:Str).cps++p.cps) (l.toArray)).toList=_;rw [bI,List.drop_one,List.tail_cons,key];simp
theorem MC:∀{ls:List (List Nat)}{us:List Value},Vals (ls.map S) us->StrsAre us (ls.map fun l=>(⟨l.toArray⟩:Str))
 | [],_,.nil=>.nil
 |l::ls,_,.cons r t=>by
  obtain⟨tk,rfl⟩:=r;exact .cons _ tk (MC t)
theorem aaY:wm X "str.join" (fun x vs H Q=>∃(p:Addr) (ls:List (List Nat)),x=S []/\vs=[.ref p]/\bX X.K H p (ls.map S)/\ls.flatten.length<=10000/\Q (S ls.flatten) H):=by
 intro pins s σ H x vs v us Q I rx rv ⟨p,ls,ex,ev,hq,hl,q⟩;subst ex ev;obtain⟨t,rfl⟩:=rx;obtain⟨u,rfl,ru⟩:=rv.one;cases ru;obtain⟨ao,r,pl,hz⟩:=I.list hq;have hs:((ls.map fun l=>(⟨l.toArray⟩:Str)).map (·.length)).sum=ls.flatten.length:=by
  rw [List.length_flatten,nE];rfl
 refine join_list pl.isList (by simpa using MC r) ?_ fun t' k=>(fun ht=>⟨S ls.flatten,H,I.tok k,⟨t',?_⟩,q⟩)
 ·rw [hs]
  have e0:(⟨([]:List Nat).toArray⟩:Str).length=0:=rfl;rw [e0];omega
 ·rw [aef]
end
def qx (P:Program)(w:World)(K:ah)(mg:Str->Option Value)(base:Heap)(CX:gx)(k:Nat)(x:Str)(ps:List Str)(sp:Sp):Prop:=
 ∃(f:Addr) (fd:FuncData),cR P w K mg base CX k f fd ps sp/\mg x=some (.ref f)/\l9 K (.ref f)=true/\Binds K fd ps []
section
variable {X:Cx}{CX:gx}{k:Nat}{x:Str}{ps:List Str}{sp:Sp}{E:XK}{p pos:Pos}{e:Expr}{es:List Expr}{t:TA}
theorem AQ (C:qx X.prog X.w X.K X.mg X.base CX k x ps sp)(hr:bF k X.A)(hx:Passes CX X E)(ha:PA X (e::es) t)(bz:isStar e=false:=by rfl)(hg:Gl X x:=by rfl)(gN:(x==("__debug__" : Str))=false:=by decide)(dS:(backTo pos (starEach es X.env)).any (·.1)=false:=by rfl) :
  PE X (.Call (.Name x p) (e::es) [] pos) (Es sp [] E t):=by
 obtain⟨f,fd,h1,h2,h3,h4⟩:=C;exact Y9 h1 hr hg h2 h3 h4 .nil hx ha gN (j6 bz) dS
end
def cJ (K:ah)(mg:Str->Option Value)(x:Str)(st:Stmt)(ps:List Str):Prop:=∃f fd,eP K x x st f fd/\mg x=some (.ref f)/\Binds K fd ps []
def WE (K:ah):Sp:=fun vs H Q _=>∃(a:Addr) (ns:List Int),vs=[.ref a]/\Scr K H a ns/\∀H',Q (.bl true) H'
theorem agB:bootBuiltins "ValueError" = some (.type "ValueError"):=by with_unfolding_all rfl
theorem sx:∀l:List Nat,(l.map fun c=>[c]).flatten=l
 | []=>rfl
 |c::l=>by simp only [bI,List.flatten_cons,sx l]; rfl
theorem QU (l:List Nat):∀(k:Nat) (acc:List Nat),List.foldl (fun x1 x2=>x1++x2) acc.toArray (bM k l.toArray)=(acc++(bM k l).flatten).toArray
 |0,acc=>by simp
 |k+1,acc=>by
  have e:acc.toArray++l.toArray=(acc++l).toArray:=by simp
  have e2:(acc++l)++(bM k l).flatten=acc++(bM (k+1) l).flatten:=by
   rw [Ds,List.flatten_cons,nK]
  rw [← e2,← QU l k (acc++l),← e,Ds,tD]
section
variable {X:Cx}
def Ym:R2:=fun x y H Q=>∃l n,x=S l/\y=.int n/\-1000<=n/\n<=1000/\l.length<=1000/\Q (S (bM n.toNat l).flatten) H
theorem Zq:cx X (binaryOp .Mult) Ym:=by
 intro pins s σ H x y v u Q I rx ry ⟨l,n,ex,ey,n0,n1,hl,q⟩;subst ex ey;obtain⟨t,rfl⟩:=rx;obtain⟨t',rfl⟩:=ry;have hlen:(⟨l.toArray⟩:Str).length=l.length:=by simp [nO]
 refine P.mul_str ?_ ?_ ?_ ?_
 ·rw [decide_eq_false (by omega),decide_eq_false (by omega)]
  rfl
 ·intro h1 _
  rw [hlen];have:(1000:Int)<=(2 ^ 63 - 1) / n:=by
   rw [Int.le_ediv_iff_mul_le (by omega)];omega
  omega
 ·intro h1 _
  rw [hlen];have h2:l.length * n.toNat<=1000 * 1000:=Nat.mul_le_mul hl (by omega);unfold Builtin.Str.tooLong;exact decide_eq_false (by have:sizeLine=2 ^ 24:=rfl; omega)
 ·by_cases h1:n<1
  ·rw [if_pos h1]
   refine⟨by decide,fun ht=>⟨S (bM n.toNat l).flatten,H,I.tok _,⟨s.toks,?_⟩,q⟩⟩;have:n.toNat=0:=by omega
   rw [this];rfl
  ·rw [if_neg h1]
   by_cases h2:(n==1 || (⟨l.toArray⟩:Str).length==0)=true
   ·rw [if_pos h2]
    refine(fun ht=>⟨S (bM n.toNat l).flatten,H,I,⟨t,?_⟩,q⟩);have e:(bM n.toNat l).flatten=l:=by
     rw [hlen] at h2;simp only [Bool.or_eq_true,beq_iff_eq] at h2;rcases h2 with h2 | h2
     ·subst h2; simp
     ·have:l=[]:=sW.mp h2
      subst this; simp
    rw [e]
   ·rw [if_neg h2]
    have e:(⟨(bM n.toNat l.toArray).foldl (· ++ ·) #[]⟩:Str)=⟨(bM n.toNat l).flatten.toArray⟩:=by
     have:=QU l n.toNat [];simp only [nH] at this;exact congrArg Str.mk this
    show _/\_;rw [e];refine⟨?_,fun ht=>⟨S (bM n.toNat l).flatten,H,I.tok _,⟨_,rfl⟩,q⟩⟩;show (bM n.toNat l).flatten.toArray.size<=sizeLine;have h3:n.toNat * l.length<=1000 * 1000:=Nat.mul_le_mul (by omega) hl;have:sizeLine=2 ^ 24:=rfl;simp;omega
end
section
variable {X:Cx}{pins:List (Addr×Obj)}{σ:St}{H:Hp}{s:Shared}
theorem Inv.Vq {ch:List Addr}{h':Heap}{t':Nat}{T:Addr}{o:HO}(I:Inv X pins σ H s)(hf:∀b∈ch,f9 X pins H b)(k:∀b u,b∉ch->s.heap.get? b=some u->h'.get? b=some u)(hT:s.heap.objs.size<=T)(new:dC X.prog X.w (upd H T o) h' T o)(ht:0<t':=by first | assumption | exact Inv.tk (by assumption)) :
  Inv X pins σ (upd H T o) {s with heap:=h',toks:=t'}:=by
 have hn:H T=none:=I.au.fresh hT;have nT:∀b u,s.heap.get? b=some u->b≠T:=fun b u e z=>absurd (a6 e) (by rw [z]; exact nM.mpr hT);have pL:∀b u,H b=some u->b∉ch:=fun b u e z=>by rw [(hf b z).1] at e; cases e
 have up:∀b u,H b=some u->upd H T o b=some u:=fun b u e=>by rw [aF (cN e hn)]; exact e
 refine I.step (g':=s.gens) (d':=s.drawn) (ch:=ch) (fun b hb=>?_) (fun b u _ _ hc e _=>k b u hc e) (fun b u _ _ hc e _=>⟨u.slots,k b u hc e⟩) (fun b u _ e n=>by rw [aF (nT b u e)]; exact n)
  (fun b u hc e=>⟨u,k b u hc e⟩) (fun b xs e=>up b _ e) (fun b _ _ e=>up b _ e) (fun b q e=>up b _ e) (fun m hm=>?_) (fun b u e=>?_) I.bare ht
 ·obtain⟨_,f1,_,f3,f4,f5⟩:=hf b hb
  exact⟨f3,f1,f4,f5⟩
 ·obtain⟨u,es,ep,ho,r⟩:=hm
  exact⟨u,es,ep,k _ u (fun z=>(hf _ z).2.1 rfl) ho,r⟩
 ·by_cases hb:b=T
  ·subst hb
   rw [aX] at e;cases e;exact new
  ·rw [aF hb] at e
   refine(I.au b u e).iU (fun c v hc q=>k c v ?_ q) (fun c q=>up c _ q) (fun c _ q=>up c _ q) fun c _ _ q=>up c _ q;rcases hc with z | z
   ·rw [z]; exact pL b u e
   ·exact pL c _ z
theorem Inv.Vr {ch:List Addr}{h':Heap}{t':Nat}(I:Inv X pins σ H s)(hf:∀b∈ch,f9 X pins H b)(k:∀b u,b∉ch->s.heap.get? b=some u->h'.get? b=some u)(ht:0<t':=by first | assumption | exact Inv.tk (by assumption)) :
  Inv X pins σ H {s with heap:=h',toks:=t'}:=by
 have pL:∀b u,H b=some u->b∉ch:=fun b u e z=>by rw [(hf b z).1] at e; cases e
 refine I.step (g':=s.gens) (d':=s.drawn) (ch:=ch) (fun b hb=>?_) (fun b u _ _ hc e _=>k b u hc e) (fun b u _ _ hc e _=>⟨u.slots,k b u hc e⟩) (fun b u _ e n=>n)
  (fun b u hc e=>⟨u,k b u hc e⟩) (fun b xs e=>e) (fun b _ _ e=>e) (fun b q e=>e) (fun m hm=>?_) (fun b u e=>?_) I.bare ht
 ·obtain⟨_,f1,_,f3,f4,f5⟩:=hf b hb
  exact⟨f3,f1,f4,f5⟩
 ·obtain⟨u,es,ep,ho,r⟩:=hm
  exact⟨u,es,ep,k _ u (fun z=>(hf _ z).2.1 rfl) ho,r⟩
 ·refine(I.au b u e).iU (fun c v hc q=>k c v ?_ q) (fun c q=>q) fun c _ q=>q
  rcases hc with z | z
  ·rw [z]; exact pL b u e
  ·exact pL c _ z
end
def ak (H:Hp)(A:List Addr):Hp:=fun b=>if b∈A then none else H b
theorem cu {H:Hp}{A:List Addr}{b:Addr}(h:b∉A):ak H A b=H b:=by unfold ak; rw [if_neg h]
theorem Qg {H:Hp}{A:List Addr}{b:Addr}(h:b∈A):ak H A b=none:=by unfold ak; rw [if_pos h]
theorem d6 {H:Hp}{A:List Addr}{b:Addr}{o:HO}(h:ak H A b=some o):b∉A/\H b=some o:=by
 by_cases hb:b∈A
 ·rw [Qg hb] at h; cases h
 ·rw [cu hb] at h; exact⟨hb,h⟩
theorem bP {H:Hp}{A:List Addr}:ax (ak H A) H:=fun b o e=>(d6 e).2
theorem ax.ak {H H':Hp}(s:ax H H')(A:List Addr):ax (L2.ak H A) (L2.ak H' A):=fun b o e=>by
 obtain⟨h1,h2⟩:=d6 e;rw [cu h1];exact s b o h2
abbrev cQ (H:Hp)(A:List Addr):Prop:=∀a∈A,H a≠none
theorem cQ.mono {H H':Hp}{A:List Addr}(h:cQ H A)(s:ax H H'):cQ H' A:=fun a ha z=>by
 cases q:H a with
 |none=>exact h a ha q
 |some o=>rw [s a o q] at z; cases z
theorem cQ.fresh {H:Hp}{A:List Addr}(h:cQ H A){p:Addr}(hp:H p=none):p∉A:=fun z=>h p z hp
theorem ou {H:Hp}{A:List Addr}(h:cQ H A){p:Addr}{o:HO}(hp:H p=none):ak (upd H p o) A p=some o:=by
 rw [cu (h.fresh hp)];exact aX
def gV (K:ah)(C:Addr):Prop:=cV K mainGlobals "Board" = some (some (.ref C))/\nA K C/\qw K C "done" /\qw K C "undone"
abbrev kD (l m:Addr):List (Str×V):=[("done",.ref l),("undone",.ref m)]
def gJ:Bd->Bool
 |.own _=>true
 |.cg _=>true
 |.aW _ _=>true
 |_=>false
section
variable (K:ah)
def jh (A:List Addr)(H:Hp)(v:V):Bd->Prop
 |.own ds=>∃a xs,v=.ref a/\H a=some (.lst xs)/\ar K (ak H A) ds xs/\bw ds/\ds.length<=10000
 |.cg ks=>∃a,v=.ref a/\H a=some (.dK (bh ks))/\sm (.aj ks)
 |.aW dn un=>∃a dx l m C xs ys,v=.ref a/\gV K C/\H a=some (.ins C dx (kD l m))/\H dx=some (.own a)/\H l=some (.lst xs)/\H m=some (.lst ys)/\l≠m/\
   (ar K (ak H A) dn xs/\bw dn/\dn.length<=10000)/\ar K (ak H A) un ys/\bw un/\un.length<=10000
 |_=>False
def a5 (H:Hp):V->Bd->List Addr
 |.ref a,.aW _ _=>match H a with
  |some (.ins _ dx [(_,.ref l),(_,.ref m)])=>[a,dx,l,m]
  |_=>[a]
 |.ref a,_=>[a]
 |_,_=>[]
structure bu (O A:List Addr) (ρ:aa) (σ:St) (H:Hp):Prop where
 len:ρ.length=σ.length
 bL:cQ H A
 sub:∀a∈O,a∈A
 val:∀(i:Nat) d,ρ[i]?=some (.val d)->∃v,σ[i]?=some (some v)/\Rep K (ak H A) d v/\sm d
 ow:∀(i:Nat) b,ρ[i]?=some b->gJ b=true->∃v,σ[i]?=some (some v)/\jh K A H v b/\∀a∈a5 H v b,a∈O
 apart:∀(i j:Nat) b c v w,i≠j->ρ[i]?=some b->ρ[j]?=some c->gJ b=true->gJ c=true->σ[i]?=some (some v)->σ[j]?=some (some w)->∀a∈a5 H v b,a∉a5 H w c
 bo:∀(i:Nat) p dn un,ρ[i]?=some (.bor p dn un)->∃v,σ[i]?=some (some v)/\(∀a,p=some a->v=.ref a)/\jh K A H v (.aW dn un)/\∀a∈a5 H v (.aW dn un),a∈A/\a∉O
end
section
variable {K:ah}{O A O' A':List Addr}{ρ:aa}{σ:St}{H H':Hp}{v:V}{b:Bd}
theorem jh.fst (h:jh K A H v b):∃a,v=.ref a/\a∈a5 H v b:=by
 cases b with
 |own ds=>obtain⟨a,xs,rfl,_⟩:=h; exact⟨a,rfl,bN⟩
 |cg ks=>obtain⟨a,rfl,_⟩:=h; exact⟨a,rfl,bN⟩
 |aW dn un=>
  obtain⟨a,dx,l,m,C,xs,ys,rfl,_,h1,_⟩:=h;refine⟨a,rfl,?_⟩;show a∈(match H a with | some (.ins _ dx [(_,.ref l),(_,.ref m)])=>[a,dx,l,m] | _=>[a]);rw [h1];exact bN
 |_=>exact h.elim
theorem lQ {a dx l m C:Addr}{dn un:List Dt}(h:H a=some (.ins C dx (kD l m))):a5 H (.ref a) (.aW dn un)=[a,dx,l,m]:=by
 show (match H a with | some (.ins _ dx [(_,.ref l),(_,.ref m)])=>[a,dx,l,m] | _=>[a])=_;rw [h]
theorem vn (h:∀a,v=.ref a->H' a=H a):a5 H' v b=a5 H v b:=by
 cases v with
 |ref a=>
  cases b with
  |aW dn un=>
   show (match H' a with | some (.ins _ dx [(_,.ref l),(_,.ref m)])=>[a,dx,l,m] | _=>[a])=_;rw [h a rfl];rfl
  |_=>rfl
 |_=>rfl
theorem jh.off (h:jh K A H v b)(k:∀a∈a5 H v b,H' a=H a)(s:ax (ak H A) (ak H' A')):jh K A' H' v b:=by
 cases b with
 |own ds=>
  obtain⟨a,xs,rfl,h1,h2,h3⟩:=h;exact⟨a,xs,rfl,(k a bN).trans h1,h2.mono s,h3⟩
 |cg ks=>
  obtain⟨a,rfl,h1,h2⟩:=h;exact⟨a,rfl,(k a bN).trans h1,h2⟩
 |aW dn un=>
  obtain⟨a,dx,l,m,C,xs,ys,rfl,hC,h1,h2,h3,h4,h5,⟨h6,h7⟩,h8,h9⟩:=h;rw [lQ h1] at k;exact⟨a,dx,l,m,C,xs,ys,rfl,hC,(k a (by simp)).trans h1,(k dx (by simp)).trans h2,(k l (by simp)).trans h3,(k m (by simp)).trans h4,h5,⟨h6.mono s,h7⟩,h8.mono s,h9⟩
 |_=>exact h.elim
theorem jh.live (h:jh K A H v b){a:Addr}(ha:a∈a5 H v b):H a≠none:=by
 cases b with
 |own ds=>
  obtain⟨p,xs,rfl,h1,_⟩:=h;obtain rfl:a=p:=by simpa [a5] using ha
  rw [h1]; simp
 |cg ks=>
  obtain⟨p,rfl,h1,_⟩:=h;obtain rfl:a=p:=by simpa [a5] using ha
  rw [h1]; simp
 |aW dn un=>
  obtain⟨p,dx,l,m,C,xs,ys,rfl,hC,h1,h2,h3,h4,_⟩:=h;rw [lQ h1] at ha;simp only [bf,fw,or_false] at ha;rcases ha with rfl | rfl | rfl | rfl <;> simp [*]
 |_=>exact h.elim
theorem lj {a:Addr}(s:ax H H')(h:H a≠none):H' a=H a:=by
 cases e:H a with
 |none=>exact(h e).elim
 |some o=>exact s a o e
theorem bu.mono (F:bu K O A ρ σ H)(s:ax H H'):bu K O A ρ σ H':=by
 have fe:∀{v b},jh K A H v b->a5 H' v b=a5 H v b:=fun {v b} w=>vn fun a e=>by
  obtain⟨a',e',ha⟩:=w.fst;rw [e] at e';cases e';exact lj s (w.live ha)
 refine⟨F.len,F.bL.mono s,F.sub,fun i d e=>?_,fun i b e o=>?_,fun i j b c v w mR e1 e2 o1 o2 e3 e4=>?_,fun i p dn un e=>?_⟩
 ·obtain⟨v,h1,h2,h3⟩:=F.val i d e
  exact⟨v,h1,h2.mono (s.ak A),h3⟩
 ·obtain⟨v,h1,h2,h3⟩:=F.ow i b e o
  refine⟨v,h1,h2.off (fun a ha=>lj s (h2.live ha)) (s.ak A),?_⟩;rw [fe h2];exact h3
 ·obtain⟨v',h1,h2,_⟩:=F.ow i b e1 o1
  obtain⟨w',m4,fF,_⟩:=F.ow j c e2 o2;rw [e3] at h1;cases h1;rw [e4] at m4;cases m4;rw [fe h2,fe fF];exact F.apart i j b c v w mR e1 e2 o1 o2 e3 e4
 ·obtain⟨v,h1,hp,h2,h3⟩:=F.bo i p dn un e
  refine⟨v,h1,hp,h2.off (fun a ha=>lj s (h2.live ha)) (s.ak A),?_⟩;rw [fe h2];exact h3
theorem bu.own (F:bu K O A ρ σ H)(i:Nat)(ds:List Dt)(e:ρ[i]?=some (.own ds)):∃a xs,σ[i]?=some (some (.ref a))/\a∈O/\H a=some (.lst xs)/\ar K (ak H A) ds xs/\bw ds/\ds.length<=10000:=by
 obtain⟨v,h1,⟨a,xs,rfl,h2⟩,h3⟩:=F.ow i _ e rfl;exact⟨a,xs,h1,h3 a bN,h2⟩
theorem bu.cg (F:bu K O A ρ σ H)(i:Nat)(ks:List (List Nat×List Nat))(e:ρ[i]?=some (.cg ks)):∃a,σ[i]?=some (some (.ref a))/\a∈O/\H a=some (.dK (bh ks))/\sm (.aj ks):=by
 obtain⟨v,h1,⟨a,rfl,h2⟩,h3⟩:=F.ow i _ e rfl;exact⟨a,h1,h3 a bN,h2⟩
def m8 (ρ:aa)(σ:St)(H:Hp)(i:Nat):List Addr:=match ρ[i]?,σ[i]? with
 |some b,some (some v)=>if gJ b=true then a5 H v b else []
 |_,_=>[]
theorem IT {i:Nat}(e:ρ[i]?=some b)(e':σ[i]?=some (some v))(o:gJ b=true):m8 ρ σ H i=a5 H v b:=by
 unfold m8;rw [e,e'];exact if_pos o
theorem bu.set {i:Nat}{v':V}{b':Bd}(F:bu K O A ρ σ H)(L:cQ H' A')(sub:∀a∈O',a∈A')(hs:ax (ak H A) (ak H' A'))(keep:∀a∈O,a∉m8 ρ σ H i->a∈O'/\H' a=H a)(kb:∀a∈A,a∉O->a∈A'/\a∉O'/\H' a=H a)
  (new:(∃d,b'=.val d/\Rep K (ak H' A') d v'/\sm d)∨(jh K A' H' v' b'/\∀a∈a5 H' v' b',a∈O'/\(a∉O∨a∈m8 ρ σ H i))):bu K O' A' (ρ.set i b') (σ.set i (some v')) H':=by
 have Cw:∀{b},(ρ.set i b')[i]?=some b->b=b'/\(σ.set i (some v'))[i]?=some (some v'):=fun {b} e=>by
  have aT:i<ρ.length:=by simpa using (eF.mp e).1
  rw [qz aT] at e;exact⟨(iu e).symm,qz (by rw [← F.len]; exact aT)⟩
 have off:∀{j b v},j≠i->ρ[j]?=some b->gJ b=true->σ[j]?=some (some v)->∀a∈a5 H v b,a∈O/\a∉m8 ρ σ H i:=fun {j b v} hj e o e' a ha=>by
  obtain⟨v1,q1,_,q3⟩:=F.ow j b e o;rw [e'] at q1;cases q1;refine⟨q3 a ha,fun z=>?_⟩;unfold m8 at z
  split at z
  ·rename_i c w e1 e2
   split at z
   ·rename_i oc
    exact F.apart j i b c v w hj e e1 o oc e' e2 a ha z
   ·cases z
  ·cases z
 have fe:∀{j b v},j≠i->ρ[j]?=some b->gJ b=true->σ[j]?=some (some v)->a5 H' v b=a5 H v b:=fun {j b v} hj e o e'=>vn fun a ea=>by
  obtain⟨v1,q1,q2,_⟩:=F.ow j b e o;rw [e'] at q1;cases q1;obtain⟨a',z,ha⟩:=q2.fst;rw [ea] at z;cases z;obtain⟨k1,k2⟩:=off hj e o e' a ha;exact(keep a k1 k2).2
 refine⟨by simp [F.len],L,sub,fun j d e=>?_,fun j b e o=>?_,fun j k b c v w BI e1 e2 o1 o2 e3 e4=>?_,fun j p dn un e=>?_⟩
 ·by_cases hj:j=i
  ·subst hj
   obtain⟨z,e'⟩:=Cw e;rcases new with ⟨d',y,q⟩ | ⟨q,_⟩
   ·rw [y] at z; cases z; exact⟨v',e',q⟩
   ·rw [← z] at q; exact q.elim
  ·rw [jW (cb hj)] at e ⊢
   obtain⟨v,q1,q2,q3⟩:=F.val j d e;exact⟨v,q1,q2.mono hs,q3⟩
 ·by_cases hj:j=i
  ·subst hj
   obtain⟨z,e'⟩:=Cw e;rcases new with ⟨d',y,q⟩ | ⟨q,q'⟩
   ·rw [z,y] at o; cases o
   ·rw [z]; exact⟨v',e',q,fun a ha=>(q' a ha).1⟩
  ·rw [jW (cb hj)] at e ⊢
   obtain⟨v,q1,q2,q3⟩:=F.ow j b e o;have kk:∀a∈a5 H v b,a∈O'/\H' a=H a:=fun a ha=>let ⟨k1,k2⟩:=off hj e o q1 a ha; keep a k1 k2
   refine⟨v,q1,q2.off (fun a ha=>(kk a ha).2) hs,?_⟩;rw [fe hj e o q1];exact fun a ha=>(kk a ha).1
 ·have no:∀{m b v},m≠i->(ρ.set i b')[m]?=some b->(σ.set i (some v'))[m]?=some (some v)->ρ[m]?=some b/\σ[m]?=some (some v):=fun {m b v} hm e e'=>by
   rw [jW (cb hm)] at e e';exact⟨e,e'⟩
  have nw:∀{b v},(ρ.set i b')[i]?=some b->(σ.set i (some v'))[i]?=some (some v)->gJ b=true->∀a∈a5 H' v b,a∉O∨a∈m8 ρ σ H i:=fun {b v} e e' o a ha=>by
   obtain⟨z,y⟩:=Cw e;rw [e'] at y;cases y;rw [z] at ha o;rcases new with ⟨d',y,q⟩ | ⟨q,q'⟩
   ·rw [y] at o; cases o
   ·exact(q' a ha).2
  by_cases hj:j=i
  ·subst hj
   obtain⟨k1,k2⟩:=no (cb BI) e2 e4;intro a ha z;rw [fe (cb BI) k1 o2 k2] at z;obtain⟨m1,m2⟩:=off (cb BI) k1 o2 k2 a z;rcases nw e1 e3 o1 a ha with y | y
   ·exact y m1
   ·exact m2 y
  ·obtain⟨j1,j2⟩:=no hj e1 e3
   by_cases hk:k=i
   ·subst hk
    intro a ha z;rw [fe hj j1 o1 j2] at ha;obtain⟨m1,m2⟩:=off hj j1 o1 j2 a ha;rcases nw e2 e4 o2 a z with y | y
    ·exact y m1
    ·exact m2 y
   ·obtain⟨k1,k2⟩:=no hk e2 e4
    rw [fe hj j1 o1 j2,fe hk k1 o2 k2];exact F.apart j k b c v w BI j1 k1 o1 o2 j2 k2
 ·by_cases hj:j=i
  ·subst hj
   obtain⟨z,_⟩:=Cw e;rcases new with ⟨d',y,q⟩ | ⟨q,_⟩
   ·rw [y] at z; cases z
   ·rw [← z] at q; exact q.elim
  ·rw [jW (cb hj)] at e ⊢
   obtain⟨v,q1,qp,q2,q3⟩:=F.bo j p dn un e;have kk:∀a∈a5 H v (.aW dn un),a∈A'/\a∉O'/\H' a=H a:=fun a ha=>kb a (q3 a ha).1 (q3 a ha).2;refine⟨v,q1,qp,q2.off (fun a ha=>(kk a ha).2.2) hs,?_⟩;have fq:a5 H' v (.aW dn un)=a5 H v (.aW dn un):=vn fun a ea=>by
    obtain⟨a',z,ha⟩:=q2.fst;rw [ea] at z;cases z;exact(kk a ha).2.2
   rw [fq];exact fun a ha=>⟨(kk a ha).1,(kk a ha).2.1⟩
theorem set_same {σ:St}{i:Nat}(h:σ[i]?=some (some v)):σ.set i (some v)=σ:=by
 apply Dj
 intro j
 by_cases hj:i=j
 ·subst hj
  rw [qz (eF.mp h).1,h]
 ·rw [jW hj]
end
def Rg {α:Type}(cls:Nat->Addr)(E:XK)(m:M α)(H:Hp)(P:α->Prop):Prop:=match m with
 |.ok a=>P a
 |.ex c=>∀H',ax H H'->E (.ref (cls c)) none H'
 |.bad=>False
theorem Rg.bind {α β:Type}{cls:Nat->Addr}{E:XK}{m:M α}{k:α->M β}{H:Hp}{P:β->Prop}{P':α->Prop}(h:Rg cls E (m.bd k) H P)(f:∀a,m=.ok a->Rg cls E (k a) H P->P' a):Rg cls E m H P':=by
 cases m with
 |ok a=>exact f a rfl h
 |ex c=>exact h
 |bad=>exact h
theorem Rg.ok {α:Type}{cls:Nat->Addr}{E:XK}{m:M α}{H:Hp}{P P':α->Prop}(h:Rg cls E m H P)(f:∀a,m=.ok a->P a->P' a):Rg cls E m H P':=by
 cases m with
 |ok a=>exact f a rfl h
 |ex c=>exact h
 |bad=>exact h
theorem Rg.heap {α:Type}{cls:Nat->Addr}{E:XK}{m:M α}{H H':Hp}{P P':α->Prop}(h:Rg cls E m H P)(s:ax H H')(f:∀a,m=.ok a->P a->P' a):Rg cls E m H' P':=by
 cases m with
 |ok a=>exact f a rfl h
 |ex c=>exact fun H2 s2=>h H2 (s.trans s2)
 |bad=>exact h
section
variable (K:ah)(cls:Nat->Addr)(A:List Addr)(E:XK)
def Res (m:M Dt)(H:Hp)(Q:VK):Prop:=Rg cls E m H fun d=>∀v H',ax H H'->Rep K (ak H' A) d v->sm d->Q v H'
def wk (m:M Bool)(H:Hp)(Q:Bool->Hp->Prop):Prop:=Rg cls E m H fun b=>∀H',ax H H'->Q b H'
def y6 (m:M (List Dt))(H:Hp)(Q:List V->Hp->Prop):Prop:=Rg cls E m H fun ds=>∀vs H',ax H H'->ar K (ak H' A) ds vs->bw ds->Q vs H'
def aj8 (m:M (Option Int))(H:Hp)(Q:Option Int->Hp->Prop):Prop:=Rg cls E m H fun o=>∀H',ax H H'->Q o H'
end
section
variable {K:ah}{cls:Nat->Addr}{A:List Addr}{E:XK}{H H':Hp}
theorem Res.mono {m:M Dt}{Q:VK}(h:Res K cls A E m H Q)(s:ax H H'):Res K cls A E m H' Q:=Rg.heap h s fun d _ p v H2 s2=>p v H2 (s.trans s2)
theorem wk.mono {m:M Bool}{Q:Bool->Hp->Prop}(h:wk cls E m H Q)(s:ax H H'):wk cls E m H' Q:=Rg.heap h s fun d _ p H2 s2=>p H2 (s.trans s2)
theorem y6.mono {m:M (List Dt)}{Q:List V->Hp->Prop}(h:y6 K cls A E m H Q)(s:ax H H'):y6 K cls A E m H' Q:=Rg.heap h s fun d _ p v H2 s2=>p v H2 (s.trans s2)
end
section
variable (K:ah)(cls:Nat->Addr)(E:XK)
inductive tM (f:aa->M Dt) (σ:St) (H:Hp) (Q:VK):Prop
 |mk (O A:List Addr) (ρ:aa) (F:bu K O A ρ σ H) (q:Res K cls A E (f ρ) H Q):tM f σ H Q
inductive fz (f:aa->M Bool) (σ:St) (H:Hp) (Q:Bool->Hp->Prop):Prop
 |mk (O A:List Addr) (ρ:aa) (F:bu K O A ρ σ H) (q:wk cls E (f ρ) H Q):fz f σ H Q
inductive mm (f:aa->M (List Dt)) (σ:St) (H:Hp) (Q:List V->Hp->Prop):Prop
 |mk (O A:List Addr) (ρ:aa) (F:bu K O A ρ σ H) (q:y6 K cls A E (f ρ) H Q):mm f σ H Q
inductive uu (f:aa->M (Option Int)) (σ:St) (H:Hp) (Q:Option Int->Hp->Prop):Prop
 |mk (O A:List Addr) (ρ:aa) (F:bu K O A ρ σ H) (q:aj8 cls E (f ρ) H Q):uu f σ H Q
inductive Mq (f:aa->M Unit) (σ:St) (H:Hp) (Q:VK):Prop
 |mk (O A:List Addr) (ρ:aa) (F:bu K O A ρ σ H) (q:Rg cls E (f ρ) H fun _=>∀v H',ax H H'->Q v H'):Mq f σ H Q
end
abbrev Ev (X:Cx)(cls:Nat->Addr)(E:XK)(e:Expr)(f:aa->M Dt):Prop:=PE X e (tM X.K cls E f)
abbrev Tv (X:Cx)(cls:Nat->Addr)(E:XK)(e:Expr)(f:aa->M Bool):Prop:=PT X e (fz X.K cls E f)
abbrev Wv (X:Cx)(cls:Nat->Addr)(E:XK)(e:Expr)(f:aa->M Bool):Prop:=PW X e (fz X.K cls E f)
abbrev Av (X:Cx)(cls:Nat->Addr)(E:XK)(es:List Expr)(f:aa->M (List Dt)):Prop:=PA X es (mm X.K cls E f)
theorem PE.imp {X:Cx}{e:Expr}{t t':TE}(h:PE X e t')(i:∀σ H Q,t σ H Q->t' σ H Q):PE X e t:=fun pins s σ H Q I hw=>h pins s σ H Q I (i σ H Q hw)
theorem PT.imp {X:Cx}{e:Expr}{t t':TT}(h:PT X e t')(i:∀σ H Q,t σ H Q->t' σ H Q):PT X e t:=fun pins s σ H Q I hw=>h pins s σ H Q I (i σ H Q hw)
theorem PW.imp {X:Cx}{e:Expr}{t t':TT}(h:PW X e t')(i:∀σ H Q,t σ H Q->t' σ H Q):PW X e t:=fun wh pins s σ H Q I hw=>h wh pins s σ H Q I (i σ H Q hw)
theorem PA.imp {X:Cx}{es:List Expr}{t t':TA}(h:PA X es t')(i:∀σ H Q,t σ H Q->t' σ H Q):PA X es t:=fun pos pins s σ H Q I hw=>h pos pins s σ H Q I (i σ H Q hw)
theorem PO.imp {X:Cx}{e:Option Expr}{t t':TO}(h:PO X e t')(i:∀σ H Q,t σ H Q->t' σ H Q):PO X e t:=fun pins s σ H Q I hw=>h pins s σ H Q I (i σ H Q hw)
section
variable {X:Cx}{cls:Nat->Addr}{E:XK}{a b c:Expr}{f g h:aa->M Dt}{pos:Pos}
theorem yx {e:Expr}{d:Dt}{v:V}(h:PE X e (tC v))(r:∀H,Rep X.K H d v)(z:sm d):Ev X cls E e (pC d):=h.imp fun σ H Q ⟨O,A,ρ,F,q⟩=>q v H (.refl _) (r _) z
theorem ag {i:Nat}{x:Str}(h:PE X (.Name x pos) (dh i)):Ev X cls E (.Name x pos) (ae i):=h.imp fun σ H Q h_=>by
 obtain⟨O,A,ρ,F,q⟩:=h_;unfold ae gv at q
 split at q
 ·rename_i d e
  obtain⟨v,h1,h2,h3⟩:=F.val i d e;exact⟨v,h1,q v H (.refl _) h2 h3⟩
 ·exact q.elim
theorem aN {i j}:Ev X cls E (.Constant (.int i) j pos) (pC (.int i)):=yx pF (fun _=>dP) trivial
theorem vq {i j}:Ev X cls E (.Constant (.bool i) j pos) (pC (.bl i)):=yx FW (fun _=>eY) trivial
theorem a9 {l:List Nat}{x:Str}{j}(h:x=⟨l.toArray⟩:=by decide +kernel)(z:l.length<=10000:=by decide):Ev X cls E (.Constant (.str x) j pos) (pC (.str l)):=yx (jC h) (fun _=>mz) z
def ez (X:Cx)(cls:Nat->Addr)(E:XK)(F:Value->Value->Sem Value)(op:Dt->Dt->M Dt):Prop:=
 ∃r,cx X F r/\∀A H Q d1 d2 x y,cQ H A->Rep X.K (ak H A) d1 x->Rep X.K (ak H A) d2 y->sm d1->sm d2->Res X.K cls A E (op d1 d2) H Q->r x y H Q
theorem t2 {r:R2}{op:Dt->Dt->M Dt}(ho:∀A H Q d1 d2 x y,cQ H A->Rep X.K (ak H A) d1 x->Rep X.K (ak H A) d2 y->sm d1->sm d2->Res X.K cls A E (op d1 d2) H Q->r x y H Q)(σ:St)(H:Hp)(Q:VK)
  (h:tM X.K cls E (p2 op f g) σ H Q):kX r (tM X.K cls E f) (tM X.K cls E g) σ H Q:=by
 obtain⟨O,A,ρ,F,q⟩:=h;refine⟨O,A,ρ,F,Rg.bind q fun d1 _ q1=>?_⟩;intro v H1 s1 r1 z1;refine⟨O,A,ρ,F.mono s1,Rg.bind (Res.mono (Q:=Q) q1 s1) fun d2 _ q2=>?_⟩;intro u H2 s2 r2 z2;exact ho A H2 Q d1 d2 v u ((F.bL.mono s1).mono s2) (r1.mono (s2.ak A)) r2 z1 z2 (Res.mono q2 s2)
theorem bT {o:Operator}{op:Dt->Dt->M Dt}(ho:ez X cls E (binaryOp o) op)(ha:Ev X cls E a f)(hb:Ev X cls E b g):Ev X cls E (.BinOp a o b pos) (p2 op f g):=by
 obtain⟨r,h1,h2⟩:=ho;exact(FU h1 ha hb).imp (t2 h2)
theorem lS {o:CmpOp}{op:Dt->Dt->M Dt}(ho:ez X cls E (compareOp o) op)(ha:Ev X cls E a f)(hb:Ev X cls E b g)(hm:behindInMarks o b=false):Ev X cls E (.Compare a [o] [b] pos) (p2 op f g):=by
 obtain⟨r,h1,h2⟩:=ho;exact(Y8 h1 ha hb hm).imp (t2 h2)
theorem Ej {t:TE}{f:aa->M Dt}(h:∀σ H Q,tM X.K cls E f σ H Q->t σ H Q)(σ:St)(H:Hp)(Q:Bool->Hp->Prop)(q:fz X.K cls E (aU f) σ H Q):wX t σ H Q:=by
 obtain⟨O,A,ρ,F,q⟩:=q;refine h σ H _ ⟨O,A,ρ,F,Rg.bind q fun d _ q1=>?_⟩;intro v H1 s1 r1 z1
 cases d with
 |bl k=>
  simp only [Rep] at r1;exact⟨k,r1,q1 H1 s1⟩
 |_=>exact(show False from q1).elim
theorem bU {o:CmpOp}{op:Dt->Dt->M Dt}(ho:ez X cls E (compareOp o) op)(ha:Ev X cls E a f)(hb:Ev X cls E b g)(hm:behindInMarks o b=false):Tv X cls E (.Compare a [o] [b] pos) (aU (p2 op f g)):=by
 obtain⟨r,h1,h2⟩:=ho;exact(xq h1 ha hb hm).imp (Ej (t2 h2))
theorem Ae (ha:Ev X cls E a f)(he:∀whole,isTrue a X.env whole=(do let v ← whole; standAt a.pos; holding [v] (truthy v)):=by intro _; rfl):Tv X cls E a (aU f):=
 (Nk ha he).imp (Ej fun _ _ _ q=>q)
theorem VP {r r':R2}{op cU:Dt->Dt->M Dt}(ho:∀A H Q d1 d2 x y,cQ H A->Rep X.K (ak H A) d1 x->Rep X.K (ak H A) d2 y->sm d1->sm d2->Res X.K cls A E (op d1 d2) H Q->r x y H Q)
  (iF:∀A H Q d1 d2 x y,cQ H A->Rep X.K (ak H A) d1 x->Rep X.K (ak H A) d2 y->sm d1->sm d2->Res X.K cls A E (cU d1 d2) H Q->r' x y H Q) (σ:St) (H:Hp) (Q:VK)
  (q:tM X.K cls E (AV op cU f g h) σ H Q):Mw r r' (tM X.K cls E f) (tM X.K cls E g) (tM X.K cls E h) σ H Q:=by
 obtain⟨O,A,ρ,F,q⟩:=q;refine⟨O,A,ρ,F,Rg.bind q fun d1 _ q1=>?_⟩;intro v H1 s1 r1 z1;refine⟨O,A,ρ,F.mono s1,Rg.bind (Res.mono (Q:=Q) q1 s1) fun d2 _ q2=>?_⟩;intro u H2 s2 r2 z2;have TM:cQ H2 A:=(F.bL.mono s1).mono s2;refine ho A H2 _ d1 d2 v u TM (r1.mono (s2.ak A)) r2 z1 z2 (Rg.bind (Res.mono (Q:=Q) q2 s2) fun d _ q3=>?_);intro w H3 s3 r3 z3
 cases d with
 |bl k=>
  simp only [Rep] at r3;refine⟨k,r3,?_⟩
  cases k with
  |false=>
   simp only [du,if_false];have FI:Res X.K cls A E (.ok (.bl false)) H2 Q:=q3;exact FI (.bl false) H3 s3 eY trivial
  |true=>
   simp only [if_true];have FI:Res X.K cls A E ((h ρ).bd fun z=>cU d2 z) H2 Q:=q3;refine⟨O,A,ρ,((F.mono s1).mono s2).mono s3,Rg.bind (Res.mono (Q:=Q) FI s3) fun d3 _ q4=>?_⟩;intro w' H4 s4 r4 z4;exact iF A H4 Q d2 d3 u w' ((TM.mono s3).mono s4) ((r2.mono (s3.ak A)).mono (s4.ak A)) r4 z2 z4 (Res.mono q4 s4)
 |_=>exact(show False from q3).elim
theorem Vp {o o':CmpOp}{op cU:Dt->Dt->M Dt}(ho:ez X cls E (compareOp o) op)(iF:ez X cls E (compareOp o') cU)(ha:Ev X cls E a f)(hb:Ev X cls E b g)(hc:Ev X cls E c h)
  (hm:lastMarks [o,o'] [b,c]=false:=by with_unfolding_all rfl):Tv X cls E (.Compare a [o,o'] [b,c] pos) (aU (AV op cU f g h)):=by
 obtain⟨r,h1,h2⟩:=ho;obtain⟨r',m4,fF⟩:=iF;exact(YB h1 m4 ha hb hc hm).imp (Ej (VP h2 fF))
variable {F G:aa->M Bool}
theorem VF {σ:St}{H:Hp}{Q:Bool->Hp->Prop}(q:fz X.K cls E (iS F G) σ H Q):Mm (fz X.K cls E F) (fz X.K cls E G) σ H Q:=by
 obtain⟨O,A,ρ,Ft,q⟩:=q;refine⟨O,A,ρ,Ft,Rg.bind q fun b _ q1=>?_⟩;intro H1 s1
 cases b with
 |false=>
  simp only [du,if_false] at q1 ⊢;exact⟨O,A,ρ,Ft.mono s1,wk.mono q1 s1⟩
 |true=>
  simp only [if_true] at q1 ⊢;exact q1 H1 s1
theorem pd (ha:Tv X cls E a F):Wv X cls E (.BoolOp .Or [a] pos) F:=pw_or1 ha
theorem nQ {rest:List Expr}(ha:Tv X cls E a F)(hb:Wv X cls E (.BoolOp .Or (b::rest) pos) G):Wv X cls E (.BoolOp .Or (a::b::rest) pos) (iS F G):=(pw_or ha hb).imp fun _ _ _ q=>VF q
theorem Af (ha:Tv X cls E a F):Tv X cls E (.UnaryOp .Not a pos) (ur F):=(Nl ha).imp fun σ H Q ⟨O,A,ρ,Ft,q⟩=>⟨O,A,ρ,Ft,Rg.bind q fun b _ q1 H1 s1=>q1 H1 s1⟩
theorem oG (hc:Tv X cls E c F)(ha:Ev X cls E a f)(hb:Ev X cls E b g):Ev X cls E (.IfExp c a b pos) (ig F f g):=(FV hc ha hb).imp fun σ H Q h_=>by
 obtain⟨O,A,ρ,Ft,q⟩:=h_;refine⟨O,A,ρ,Ft,Rg.bind q fun b _ q1=>?_⟩;intro H1 s1
 cases b with
 |false=>
  simp only [du,if_false] at q1 ⊢;exact⟨O,A,ρ,Ft.mono s1,Res.mono q1 s1⟩
 |true=>
  simp only [if_true] at q1 ⊢;exact⟨O,A,ρ,Ft.mono s1,Res.mono q1 s1⟩
theorem Ji (ha:Ev X cls E a f):Ev X cls E (.UnaryOp .USub a pos) (p1 xC f):=(Nz LW ha).imp fun σ H Q h_=>by
 obtain⟨O,A,ρ,Ft,q⟩:=h_;refine⟨O,A,ρ,Ft,Rg.bind q fun d _ q1=>?_⟩;intro v H1 s1 r1 z1
 cases d with
 |int b=>
  simp only [Rep] at r1;exact⟨b,r1,q1 _ H1 s1 dP trivial⟩
 |_=>exact(show False from q1).elim
theorem dw {H:Hp}{i:Int}{v:V}(h:Rep X.K H (.int i) v):v=.int i:=by simpa only [Rep] using h
theorem cL {H:Hp}{l:List Nat}{v:V}(h:Rep X.K H (.str l) v):v=S l:=by simpa only [Rep] using h
theorem rf {H:Hp}{b:Bool}{v:V}(h:Rep X.K H (.bl b) v):v=.bl b:=by simpa only [Rep] using h
theorem uD {H:Hp}{v:V}(h:Rep X.K H .aK v):v=.aK:=by simpa only [Rep] using h
inductive LstAt (K:ah) (H:Hp) (ds:List Dt) (v:V):Prop
 |mk (a:Addr) (xs:List V) (e:v=.ref a) (h1:bX K H a xs) (h2:ar K H ds xs):LstAt K H ds v
inductive TupAt (K:ah) (H:Hp) (ds:List Dt) (v:V):Prop
 |mk (a:Addr) (xs:List V) (e:v=.ref a) (h1:cP K H a xs) (h2:ar K H ds xs):TupAt K H ds v
theorem fQ {K:ah}{H:Hp}{ds:List Dt}{v:V}(h:Rep K H (.lst ds) v):LstAt K H ds v:=by
 simp only [Rep] at h;obtain⟨a,xs,h1,h2,h3⟩:=h;exact⟨a,xs,h1,h2,h3⟩
theorem hZ {K:ah}{H:Hp}{ds:List Dt}{v:V}(h:Rep K H (.tup ds) v):TupAt K H ds v:=by
 simp only [Rep] at h;obtain⟨a,xs,h1,h2,h3⟩:=h;exact⟨a,xs,h1,h2,h3⟩
theorem Eu {A:List Addr}{H:Hp}{Q:VK}{l:List Nat}(q:Res X.K cls A E (mq l) H Q):l.length<=10000/\Q (S l) H:=by
 unfold mq at q
 split at q
 ·rename_i h
  exact⟨h,q (S l) H (.refl _) mz h⟩
 ·exact(show False from q).elim
theorem k9 {n:Nat}(h:n<=10000):n<=sizeLine:=cK h (by decide)
theorem MA {A:List Addr}{H:Hp}{Q:VK}{l:List Dt}{xs:List V}(q:Res X.K cls A E (g7 l) H Q)(L:cQ H A)(r:ar X.K (ak H A) l xs)(z:bw l):l.length<=10000/\∀p,H p=none->Q (.ref p) (upd H p (.lst xs)):=by
 unfold g7 at q
 split at q
 ·rename_i h
  refine⟨h,fun p hp=>q (.ref p) _ (.upd hp) (xo (ou L hp) (r.mono ((ax.upd hp).ak A))) ⟨h,z⟩⟩
 ·exact(show False from q).elim
def Ys (K:ah):R2:=fun x y H Q=>∃l b xs zs,x=.ref l/\y=.ref b/\bX K H l xs/\bX K H b zs/\xs.length+zs.length<=sizeLine/\∀p,H p=none->Q (.ref p) (upd H p (.lst (xs++zs)))
theorem F4:cx X (binaryOp .Add) (Ys X.K):=by
 intro pins s σ H x y v u Q I rx ry h;obtain⟨l,b,xs,zs,rfl,rfl,hH,hB,hz,q⟩:=h;cases rx;cases ry;obtain⟨vs,r,pl,_⟩:=I.list hH;obtain⟨ws,r2,YO,_⟩:=I.list hB;have hl:=r.length;have i4:=r2.length;obtain⟨⟨cl,dd,data,sl⟩,n,ho,hc,hd,Qj⟩:=pl;obtain⟨⟨cl2,Jy,data2,pe⟩,n2,rS,yp,hd2,Qi⟩:=YO
 simp only at hc hd Qj yp hd2 Qi
 subst hc hd Qj yp hd2 Qi;have e:vs.toArray++ws.toArray=(vs++ws).toArray:=by simp
 refine concat_meets ⟨_,ho,rfl⟩ ⟨_,rS,rfl⟩ noFill_list_add seq_list_add PySem.F.slot_list_add PySem.F.entry_list_add (PySem.F.args_list_add_2 _ _) (list_addW l b vs.toArray ws.toArray n n2 none none sl pe (by simp; omega)) ⟨ho,rS,?_⟩;rw [e];exact(fun ht=>⟨.ref _,_,I.abq (t':=s.toks) (r.append r2) (by rw [iO]; omega),rfl,q _ I.fresh⟩)
theorem dy:ez X cls E (binaryOp .Add) bR:=by
 refine⟨_,ZK.or (ZJ.or F4),fun A H Q d1 d2 x y L r1 r2 z1 z2 q=>?_⟩
 cases d1 with
 |int i=>
  cases d2 with
  |int j=>exact .inl ⟨i,j,dw r1,dw r2,q _ H (.refl _) dP trivial⟩
  |_=>exact(show False from q).elim
 |str l=>
  cases d2 with
  |str m=>
   obtain⟨h,q⟩:=Eu q;exact .inr (.inl ⟨l,m,cL r1,cL r2,k9 (by simpa using h),q⟩)
  |_=>exact(show False from q).elim
 |lst l=>
  cases d2 with
  |lst m=>
   obtain⟨p,xs,rfl,h1,h2⟩:=fQ r1;obtain⟨p',ys,rfl,m4,fF⟩:=fQ r2;have e1:=h2.length;have e2:=fF.length;obtain⟨h,q⟩:=MA q L (h2.append fF) (qU z1.2 z2.2);exact .inr (.inr ⟨p,p',xs,ys,rfl,rfl,bP.seq h1,bP.seq m4,k9 (by simp at h; omega),q⟩)
  |_=>exact(show False from q).elim
 |_=>cases d2 <;> exact(show False from q).elim
theorem N2 {F:Value->Value->Sem Value}{C:Int->Int->Prop}[∀i j,Decidable (C i j)]{k:Int->Int->V}{kd:Int->Int->Dt}{op:Dt->Dt->M Dt}(h:cx X F (rI C k))(hk:∀i j H,Rep X.K H (kd i j) (k i j)/\sm (kd i j))(h1:∀i j,op (.int i) (.int j)=if C i j then .ok (kd i j) else .bad)
  (h2:∀d1 d2,(∀i j,¬ (d1=.int i/\d2=.int j))->op d1 d2=.bad):ez X cls E F op:=by
 refine⟨_,h,fun A H Q d1 d2 x y L r1 r2 z1 z2 q=>?_⟩
 by_cases hh:∃i j,d1=.int i/\d2=.int j
 ·obtain⟨i,j,rfl,rfl⟩:=hh
  rw [h1] at q
  split at q
  ·rename_i hc
   exact⟨i,j,dw r1,dw r2,hc,q _ H (.refl _) (hk i j _).1 (hk i j H).2⟩
  ·exact(show False from q).elim
 ·rw [h2 d1 d2 fun i j z=>hh ⟨i,j,z⟩] at q
  exact(show False from q).elim
theorem A3 {F:Value->Value->Sem Value}{k:Int->Int->V}{kd:Int->Int->Dt}{op:Dt->Dt->M Dt}(h:cx X F (nX k))(hk:∀i j H,Rep X.K H (kd i j) (k i j)/\sm (kd i j))(h1:∀i j,op (.int i) (.int j)=.ok (kd i j))
  (h2:∀d1 d2,(∀i j,¬ (d1=.int i/\d2=.int j))->op d1 d2=.bad):ez X cls E F op:=by
 refine⟨_,h,fun A H Q d1 d2 x y L r1 r2 z1 z2 q=>?_⟩
 by_cases hh:∃i j,d1=.int i/\d2=.int j
 ·obtain⟨i,j,rfl,rfl⟩:=hh
  rw [h1] at q;exact⟨i,j,dw r1,dw r2,q _ H (.refl _) (hk i j _).1 (hk i j H).2⟩
 ·rw [h2 d1 d2 fun i j z=>hh ⟨i,j,z⟩] at q
  exact(show False from q).elim
theorem uK {op:Dt->Dt->M Dt}(h:∀d1 d2,op d1 d2=.bad∨∃i j,d1=.int i/\d2=.int j)(d1 d2:Dt)(hn:∀i j,¬ (d1=.int i/\d2=.int j)):op d1 d2=.bad:=by
 rcases h d1 d2 with h | ⟨i,j,h⟩
 ·exact h
 ·exact(hn i j h).elim
theorem F9:ez X cls E (binaryOp .Sub) n8:=A3 Zp (fun _ _ _=>⟨dP,trivial⟩) (fun _ _=>rfl) (uK fun d1 d2=>by unfold n8; split; exact .inr ⟨_,_,rfl,rfl⟩; exact .inl rfl)
theorem A2:ez X cls E (binaryOp .Mod) oMod:=N2 Zy (fun _ _ _=>⟨dP,trivial⟩) (fun _ _=>rfl) (uK fun d1 d2=>by unfold oMod; split; exact .inr ⟨_,_,rfl,rfl⟩; exact .inl rfl)
theorem xx:ez X cls E (compareOp .Lt) oLt:=A3 Zz (fun _ _ _=>⟨eY,trivial⟩) (fun _ _=>rfl) (uK fun d1 d2=>by unfold oLt; split; exact .inr ⟨_,_,rfl,rfl⟩; exact .inl rfl)
theorem N0:ez X cls E (compareOp .LtE) oLe:=A3 ZA (fun _ _ _=>⟨eY,trivial⟩) (fun _ _=>rfl) (uK fun d1 d2=>by unfold oLe; split; exact .inr ⟨_,_,rfl,rfl⟩; exact .inl rfl)
theorem Gb:ez X cls E (compareOp .Gt) mG:=A3 NP (fun _ _ _=>⟨eY,trivial⟩) (fun _ _=>rfl) (uK fun d1 d2=>by unfold mG; split; exact .inr ⟨_,_,rfl,rfl⟩; exact .inl rfl)
instance (i j:Int):Decidable (Lc i j):=by unfold Lc; infer_instance
theorem aaq:ez X cls E (binaryOp .FloorDiv) oDiv:=N2 ZG (fun _ _ _=>⟨dP,trivial⟩) (fun _ _=>rfl) (uK fun d1 d2=>by unfold oDiv; split; exact .inr ⟨_,_,rfl,rfl⟩; exact .inl rfl)
theorem ri:ez X cls E (binaryOp .Mult) jD:=by
 refine⟨_,Zx.or Zq,fun A H Q d1 d2 x y L r1 r2 z1 z2 q=>?_⟩
 cases d1 with
 |int i=>
  cases d2 with
  |int j=>
   simp only [jD] at q
   split at q
   ·rename_i h
    exact .inl ⟨i,j,dw r1,dw r2,h,q _ H (.refl _) dP trivial⟩
   ·exact(show False from q).elim
  |_=>exact(show False from q).elim
 |str l=>
  cases d2 with
  |int j=>
   simp only [jD] at q
   split at q
   ·rename_i h
    exact .inr ⟨l,j,cL r1,dw r2,h.1,h.2.1,h.2.2,(Eu q).2⟩
   ·exact(show False from q).elim
  |_=>exact(show False from q).elim
 |_=>cases d2 <;> exact(show False from q).elim
theorem cM (hu:X.A.units+50<cLine):ez X cls E (compareOp .Eq) oEq:=by
 refine⟨_,NQ hu,fun A H Q d1 d2 x y L r1 r2 z1 z2 q=>?_⟩;unfold oEq at q
 split at q
 ·rename_i h
  exact⟨d1,d2,r1.mono bP,r2.mono bP,h,q _ H (.refl _) eY trivial⟩
 ·exact(show False from q).elim
theorem mF (hu:X.A.units+50<cLine):ez X cls E (compareOp .NotEq) c8:=by
 refine⟨_,Zv hu,fun A H Q d1 d2 x y L r1 r2 z1 z2 q=>?_⟩;unfold c8 at q
 split at q
 ·rename_i h
  exact⟨d1,d2,r1.mono bP,r2.mono bP,h,q _ H (.refl _) eY trivial⟩
 ·exact(show False from q).elim
end
section
variable {X:Cx}{cls:Nat->Addr}{E:XK}{a b c:Expr}{f g h:aa->M Dt}{pos:Pos}
theorem Jb {H:Hp}{d:Dt}{v:V}(h:m9 d=true)(r:Rep X.K H d v):ik v=true:=by
 cases d with
 |aK=>cases uD r; rfl
 |bl b=>cases rf r; rfl
 |int i=>cases dw r; rfl
 |str l=>cases cL r; rfl
 |_=>cases h
theorem ae1 {H H':Hp}{d e:Dt}{v w:V}(h1:m9 d=true)(h2:m9 e=true)(r1:Rep X.K H d v)(r2:Rep X.K H' e w):d9 v w=bZ d e:=by
 cases d with
 |aK=>
  cases uD r1
  cases e with
  |aK=>cases uD r2; rfl
  |bl b=>cases rf r2; rfl
  |int i=>cases dw r2; rfl
  |str l=>cases cL r2; rfl
  |_=>cases h2
 |bl b=>
  cases rf r1
  cases e with
  |aK=>cases uD r2; rfl
  |bl b'=>cases rf r2; cases b <;> cases b' <;> rfl
  |int i=>cases dw r2; first | rfl | (cases b <;> simp [d9,bZ,b2i])
  |str l=>cases cL r2; rfl
  |_=>cases h2
 |int i=>
  cases dw r1
  cases e with
  |aK=>cases uD r2; rfl
  |bl b=>cases rf r2; first | rfl | (cases b <;> simp [d9,bZ,b2i])
  |int j=>cases dw r2; first | rfl | simp [d9,bZ]
  |str l=>cases cL r2; rfl
  |_=>cases h2
 |str l=>
  cases cL r1
  cases e with
  |aK=>cases uD r2; rfl
  |bl b=>cases rf r2; rfl
  |int j=>cases dw r2; rfl
  |str m=>cases cL r2; first | exact EB l m | simp [d9,bZ,EB]
  |_=>cases h2
 |_=>cases h1
theorem Ja {H:Hp}:∀{ds:List Dt}{xs:List V},ds.all m9=true->ar X.K H ds xs->xs.all ik=true
 | [],_,_,r=>by simp only [ar] at r; subst r; rfl
 |d::ds,_,h,r=>by
  simp only [ar] at r;obtain⟨x,t,rfl,r1,r2⟩:=r;rw [nF,oZ] at h ⊢;exact⟨Jb h.1 r1,Ja h.2 r2⟩
theorem Hf {H H':Hp}{e:Dt}{w:V}(he:m9 e=true)(re:Rep X.K H' e w):∀{ds:List Dt}{xs:List V},ds.all m9=true->ar X.K H ds xs->xW w xs=ds.any fun d=>bZ d e
 | [],_,_,r=>by simp only [ar] at r; subst r; rfl
 |d::ds,_,h,r=>by
  simp only [ar] at r;obtain⟨x,t,rfl,r1,r2⟩:=r;rw [nF,oZ] at h;unfold xW;rw [oU,oU,ae1 h.1 he r1 re];have:=Hf he re h.2 r2;unfold xW at this;rw [this]
theorem Nb {A:List Addr}{H:Hp}{Q:Bool->Prop}{d1 d2:Dt}{x y:V}{neg:Bool}{QQ:VK}(r1:Rep X.K (ak H A) d1 x)(r2:Rep X.K (ak H A) d2 y)(hq:∀k,gi d1 d2=.ok (.bl k)->QQ (.bl (if neg then !k else k)) H)(hb:∃k,gi d1 d2=.ok (.bl k)) :
  FC neg x y H QQ∨FE X.K neg x y H QQ:=by
 obtain⟨k,hk⟩:=hb;have q:=hq k hk;unfold gi at hk
 split at hk
 ·rename_i c l
  injection hk with hk;injection hk with hk;subst hk;exact .inl ⟨c,l,cL r1,cL r2,q⟩
 ·rename_i ds _
  split at hk
  ·rename_i hc
   injection hk with hk;injection hk with hk;obtain⟨p,xs,rfl,h1,h2⟩:=fQ r2;refine .inr ⟨p,xs,rfl,.inl (bP.seq h1),Jb hc.1 r1,Ja hc.2 h2,?_⟩;rw [Hf hc.1 r1 hc.2 h2,hk];exact q
  ·cases hk
 ·rename_i ds _
  split at hk
  ·rename_i hc
   injection hk with hk;injection hk with hk;obtain⟨p,xs,rfl,h1,h2⟩:=hZ r2;refine .inr ⟨p,xs,rfl,.inr (bP.fP h1),Jb hc.1 r1,Ja hc.2 h2,?_⟩;rw [Hf hc.1 r1 hc.2 h2,hk];exact q
  ·cases hk
 ·cases hk
theorem N5 {d1 d2 d:Dt}(h:gi d1 d2=.ok d):∃k,d=.bl k:=by
 unfold gi at h
 split at h
 ·injection h with h; exact⟨_,h.symm⟩
 ·split at h
  ·injection h with h; exact⟨_,h.symm⟩
  ·cases h
 ·split at h
  ·injection h with h; exact⟨_,h.symm⟩
  ·cases h
 ·cases h
theorem N3 {d1 d2:Dt}{c:Nat}(h:gi d1 d2=.ex c):False:=by
 unfold gi at h
 split at h
 ·cases h
 ·split at h <;> cases h
 ·split at h <;> cases h
 ·cases h
theorem aap:ez X cls E (compareOp .In) gi:=by
 refine⟨_,ZE.or ZD,fun A H Q d1 d2 x y L r1 r2 z1 z2 q=>?_⟩
 cases hm:gi d1 d2 with
 |ok d=>
  obtain⟨k,rfl⟩:=N5 hm;rw [hm] at q;refine Nb (Q:=fun _=>True) (neg:=false) r1 r2 (fun k' jF=>?_) ⟨k,hm⟩;rw [hm] at jF;cases jF;exact q _ H (.refl _) eY trivial
 |ex c=>exact(N3 hm).elim
 |bad=>rw [hm] at q; exact(show False from q).elim
theorem aao:ez X cls E (compareOp .NotIn) xA:=by
 refine⟨_,Zt.or Zs,fun A H Q d1 d2 x y L r1 r2 z1 z2 q=>?_⟩;unfold xA at q
 cases hm:gi d1 d2 with
 |ok d=>
  obtain⟨k,rfl⟩:=N5 hm;rw [hm] at q;refine Nb (Q:=fun _=>True) (neg:=true) r1 r2 (fun k' jF=>?_) ⟨k,hm⟩;rw [hm] at jF;cases jF;exact q _ H (.refl _) eY trivial
 |ex c=>exact(N3 hm).elim
 |bad=>rw [hm] at q; exact(show False from q).elim
theorem M5 {K:ah}{H:Hp}{ds:List Dt}{xs:List V}(r:ar K H ds xs){i:Int}{d:Dt}(h:cy ds i=some d):∃x,iq xs i=some x/\Rep K H d x:=by
 have hl:=r.length;unfold cy at h;have e:uW ds.length i=mK xs.length i:=by rw [hl]; rfl
 unfold iq;rw [← e]
 cases hj:uW ds.length i with
 |none=>rw [hj] at h; cases h
 |some j=>
  rw [hj] at h;simp only [Option.bind_some] at h ⊢;have aT:j<ds.length:=(eF.mp h).1;have hx:xs[j]?=some (xs[j]'(by omega)):=by simp
  obtain⟨d',h1,h2⟩:=r.get hx;rw [h] at h1;cases h1;exact⟨_,hx,h2⟩
theorem SR {α:Type}{l:List α}{i:Int}{x:α}(h:cy l i=some x):x∈l:=by
 unfold cy at h
 cases hj:uW l.length i with
 |none=>rw [hj] at h; cases h
 |some j=>rw [hj] at h; exact jV h
theorem bH (ha:Ev X cls E a f)(hb:Ev X cls E b g)(hs:KP b):Ev X cls E (.Subscript a b pos) (p2 aO f g):=by
 refine(rg (ab6.or (G9.or Bp)) ha hb hs).imp (t2 fun A H Q d1 d2 x y L r1 r2 z1 z2 q=>?_)
 cases d1 with
 |str l=>
  cases d2 with
  |int i=>
   simp only [aO,Bq] at q
   split at q
   ·rename_i c hc
    exact .inl ⟨l,i,c,cL r1,dw r2,k9 z1,hc,q _ H (.refl _) mz (by show 1<=10000; decide)⟩
   ·exact(show False from q).elim
  |_=>exact(show False from q).elim
 |lst l=>
  cases d2 with
  |int i=>
   simp only [aO,rJ] at q
   split at q
   ·rename_i d hd
    obtain⟨p,xs,rfl,h1,h2⟩:=fQ r1;obtain⟨v,hv,rv⟩:=M5 h2 hd;exact .inr (.inl ⟨p,xs,i,v,rfl,dw r2,bP.seq h1,hv,q v H (.refl _) rv (hV z1.2 (SR hd))⟩)
   ·exact(show False from q).elim
  |_=>exact(show False from q).elim
 |tup l=>
  cases d2 with
  |int i=>
   simp only [aO,rJ] at q
   split at q
   ·rename_i d hd
    obtain⟨p,xs,rfl,h1,h2⟩:=hZ r1;obtain⟨v,hv,rv⟩:=M5 h2 hd;exact .inr (.inr ⟨p,xs,i,v,rfl,dw r2,bP.fP h1,hv,q v H (.refl _) rv (hV z1.2 (SR hd))⟩)
   ·exact(show False from q).elim
  |_=>exact(show False from q).elim
 |_=>cases d2 <;> exact(show False from q).elim
theorem Aw (n d:Nat)(o:Option Int):HT.dj n d o=xm n d o:=by cases o <;> rfl
theorem afZ (l:List Nat)(lo hi:Option Int):lT l lo hi=jL l lo hi:=by
 unfold lT jL;rw [Aw,Aw]
theorem Fu {K:ah}{H:Hp}:∀(n:Nat){ds:List Dt}{xs:List V},ar K H ds xs->ar K H (ds.drop n) (xs.drop n)
 |0,_,_,r=>r
 |n+1,[],_,r=>by simp only [ar] at r; subst r; exact .nil
 |n+1,d::ds,_,r=>by
  simp only [ar] at r;obtain⟨x,t,rfl,_,r2⟩:=r;exact Fu n r2
theorem M0 {K:ah}{H:Hp}:∀(n:Nat){ds:List Dt}{xs:List V},ar K H ds xs->ar K H (ds.take n) (xs.take n)
 |0,_,_,_=>.nil
 |n+1,[],_,r=>by simp only [ar] at r; subst r; exact .nil
 |n+1,d::ds,_,r=>by
  simp only [ar] at r;obtain⟨x,t,rfl,r1,r2⟩:=r;exact .cons r1 (M0 n r2)
theorem afW {α:Type}{l:List α}{lo hi:Option Int}{x:α}(h:x∈jL l lo hi):x∈l:=List.mem_of_mem_drop (List.mem_of_mem_take h)
theorem Si {α:Type}(l:List α)(lo hi:Option Int):(jL l lo hi).length<=l.length:=by
 unfold jL;simp only [tE,wH];omega
theorem AW:PO X none (uu X.K cls E (gG none)):=YL.imp fun σ H Q ⟨O,A,ρ,F,q⟩=>q H (.refl _)
theorem uI {e:Expr}(he:Ev X cls E e f):PO X (some e) (uu X.K cls E (gG (some f))):=(YK he).imp fun σ H Q h_=>by
 obtain⟨O,A,ρ,F,q⟩:=h_;refine⟨O,A,ρ,F,Rg.bind q fun d _ q1=>?_⟩;intro v H1 s1 r1 z1
 cases d with
 |int i=>exact⟨i,dw r1,q1 H1 s1⟩
 |_=>exact(show False from q1).elim
theorem Jh {lo hi:Option Expr}{fl fh:aa->M (Option Int)}{FX:Pos}(he:Ev X cls E a f)(hl:PO X lo (uu X.K cls E fl))(hh:PO X hi (uu X.K cls E fh)):Ev X cls E (.Subscript a (.Slice lo hi none FX) pos) (pG f fl fh):=
 (NA (WQ.or WO) he hl hh).imp fun σ H Q ⟨O,A,ρ,F,q⟩=>by
 refine⟨O,A,ρ,F,Rg.bind q fun d _ q1=>?_⟩;intro v H1 s1 r1 z1;refine⟨O,A,ρ,F.mono s1,Rg.bind (Res.mono (Q:=Q) q1 s1) fun o1 _ q2=>?_⟩;intro H2 s2;refine⟨O,A,ρ,(F.mono s1).mono s2,Rg.bind (Res.mono (Q:=Q) q2 s2) fun o2 _ q3=>?_⟩;intro H3 s3;have r3:=r1.mono ((s2.trans s3).ak A)
 cases d with
 |str l=>
  refine .inl ⟨l,cL r3,k9 z1,?_⟩;rw [afZ];exact q3 _ H3 s3 mz (cK (Si l o1 o2) z1)
 |lst l=>
  obtain⟨p,xs,rfl,h1,h2⟩:=fQ r3;refine .inr ⟨p,xs,rfl,bP.seq h1,fun p' hp=>?_⟩;have L3:cQ H3 A:=((F.bL.mono s1).mono s2).mono s3;have hl:=h2.length;have hr:ar X.K (ak H3 A) (jL l o1 o2) (v5 xs o1 o2):=by
   unfold jL v5;rw [Aw,Aw,← hl];exact M0 _ (Fu _ h2)
  exact q3 (.ref p') _ (s3.trans (.upd hp)) (xo (ou L3 hp) (hr.mono ((ax.upd hp).ak A))) ⟨cK (Si l o1 o2) z1.1,mr fun d hd=>hV z1.2 (afW hd)⟩
 |_=>exact(show False from q3).elim
variable {fs:aa->M (List Dt)}{es:List Expr}
theorem aC:Av X cls E [] aq:=cC.imp fun σ H Q ⟨O,A,ρ,F,q⟩=>q [] H (.refl _) .nil trivial
theorem ai (bz:isStar a=false)(ha:Ev X cls E a f)(hr:Av X cls E es fs):Av X cls E (a::es) (af f fs):=(ba _ _ _ _ _ bz ha hr).imp fun σ H Q h_=>by
 obtain⟨O,A,ρ,F,q⟩:=h_;refine⟨O,A,ρ,F,Rg.bind q fun d _ q1=>?_⟩;intro v H1 s1 r1 z1;refine⟨O,A,ρ,F.mono s1,Rg.bind (y6.mono (Q:=Q) q1 s1) fun ds _ q2=>?_⟩;intro vs H2 s2 r2 z2;exact q2 (v::vs) H2 s2 (.cons (r1.mono (s2.ak A)) r2) ⟨z1,z2⟩
theorem jJ (h:Av X cls E es fs):Ev X cls E (.List es pos) (er fs):=(pE h).imp fun σ H Q h_=>by
 obtain⟨O,A,ρ,F,q⟩:=h_;refine⟨O,A,ρ,F,Rg.bind q fun ds _ q1=>?_⟩;intro vs H1 s1 r1 z1;obtain⟨h1,h2⟩:=MA (Res.mono (Q:=Q) q1 s1) (F.bL.mono s1) r1 z1;exact⟨k9 (by rw [← r1.length]; exact h1),h2⟩
theorem iH {k}(h:Av X cls E es fs):Ev X cls E (.Tuple es k pos) (eZ fs):=(AL h).imp fun σ H Q h_=>by
 obtain⟨O,A,ρ,F,q⟩:=h_;refine⟨O,A,ρ,F,Rg.bind q fun ds _ q1=>?_⟩;intro vs H1 s1 r1 z1;have pz:=Res.mono (Q:=Q) q1 s1
 split at pz
 ·rename_i hl
  refine⟨k9 (by rw [← r1.length]; exact hl),fun p hp=>pz (.ref p) _ (.upd hp) (qZ (ou (F.bL.mono s1) hp) (r1.mono ((ax.upd hp).ak A))) ⟨hl,z1⟩⟩
 ·exact(show False from pz).elim
def qy (X:Cx)(cls:Nat->Addr)(E:XK)(fv:Value)(F:List Dt->M Dt):Prop:=
 ∃r,fj X fv r/\∀A H Q ds vs,cQ H A->ar X.K (ak H A) ds vs->bw ds->Res X.K cls A E (F ds) H Q->r vs H Q
variable {F':List Dt->M Dt}
theorem Mg {r:List V->Hp->VK->Prop}(h:∀A H Q ds vs,cQ H A->ar X.K (ak H A) ds vs->bw ds->Res X.K cls A E (F' ds) H Q->r vs H Q)(σ:St)(H:Hp)(Q:VK)(q:tM X.K cls E (aP F' fs) σ H Q):uw r (mm X.K cls E fs) σ H Q:=by
 obtain⟨O,A,ρ,F,q⟩:=q;refine⟨O,A,ρ,F,Rg.bind q fun ds _ q1=>?_⟩;intro vs H1 s1 r1 z1;exact h A H1 Q ds vs (F.bL.mono s1) r1 z1 (Res.mono q1 s1)
theorem fW {x:Str}{id:String}{p:Pos}(hc:qy X cls E (.builtin id) F')(hg:Gl X x)(hm:X.mg x=none)(hv:bootBuiltins x=some (.builtin id))(ha:Av X cls E (a::es) fs)(hn:x≠"__name__" := by decide)(gN:(x==("__debug__" : Str))=false:=by decide)
  (he:starEach (a::es) X.env=(false,eval a X.env)::starEach es X.env:=by rfl) (dS:(backTo pos (starEach es X.env)).any (·.1)=false:=by rfl):Ev X cls E (.Call (.Name x p) (a::es) [] pos) (aP F' fs):=by
 obtain⟨r,h1,h2⟩:=hc;exact(iB h1 hg hm hv ha hn gN he dS).imp (Mg h2)
theorem yy {x:Str}{T:String}{p:Pos}(hc:qy X cls E (.type T) F')(hg:Gl X x)(hm:X.mg x=none)(hv:bootBuiltins x=some (.type T))(ha:Av X cls E (a::es) fs)(hn:x≠"__name__" := by decide)(gN:(x==("__debug__" : Str))=false:=by decide)
  (he:starEach (a::es) X.env=(false,eval a X.env)::starEach es X.env:=by rfl) (dS:(backTo pos (starEach es X.env)).any (·.1)=false:=by rfl):Ev X cls E (.Call (.Name x p) (a::es) [] pos) (aP F' fs):=by
 obtain⟨r,h1,h2⟩:=hc;exact(AO h1 hg hm hv ha hn gN he dS).imp (Mg h2)
theorem j8 {K:ah}{H:Hp}{d:Dt}{vs:List V}(h:ar K H [d] vs):∃v,vs=[v]/\Rep K H d v:=by
 simp only [ar] at h;obtain⟨x,r,rfl,h1,rfl⟩:=h;exact⟨x,rfl,h1⟩
theorem my {K:ah}{H:Hp}{d e:Dt}{vs:List V}(h:ar K H [d,e] vs):∃v w,vs=[v,w]/\Rep K H d v/\Rep K H e w:=by
 simp only [ar] at h;obtain⟨x,r,rfl,h1,y,t,rfl,h2,rfl⟩:=h;exact⟨x,y,rfl,h1,h2⟩
theorem jb:qy X cls E (.builtin "len") dM:=by
 refine⟨_,agn.or yG,fun A H Q ds vs L r z q=>?_⟩;unfold dM at q
 split at q
 ·rename_i l
  obtain⟨v,rfl,rv⟩:=j8 r;exact .inl ⟨l,by rw [cL rv],k9 z.1,q _ H (.refl _) dP trivial⟩
 ·rename_i l
  obtain⟨v,rfl,rv⟩:=j8 r;obtain⟨p,xs,rfl,h1,h2⟩:=fQ rv;refine .inr ⟨p,xs,rfl,.inl (bP.seq h1),?_⟩;rw [← h2.length];exact q _ H (.refl _) dP trivial
 ·rename_i l
  obtain⟨v,rfl,rv⟩:=j8 r;obtain⟨p,xs,rfl,h1,h2⟩:=hZ rv;refine .inr ⟨p,xs,rfl,.inr (bP.fP h1),?_⟩;rw [← h2.length];exact q _ H (.refl _) dP trivial
 ·exact(show False from q).elim
theorem Sy (hc:X.calm=true):qy X cls E (.builtin "min") wg:=by
 refine⟨_,agk hc,fun A H Q ds vs L r z q=>?_⟩;unfold wg at q
 split at q
 ·rename_i i j
  obtain⟨v,w,rfl,r1,r2⟩:=my r;exact⟨i,j,by rw [dw r1,dw r2],q _ H (.refl _) dP trivial⟩
 ·exact(show False from q).elim
theorem age (hc:X.calm=true):qy X cls E (.builtin "max") yQ:=by
 refine⟨_,agl hc,fun A H Q ds vs L r z q=>?_⟩;unfold yQ at q
 split at q
 ·rename_i i j
  obtain⟨v,w,rfl,r1,r2⟩:=my r;exact⟨i,j,by rw [dw r1,dw r2],q _ H (.refl _) dP trivial⟩
 ·exact(show False from q).elim
theorem SG {K:ah}{H:Hp}:∀{ds:List Dt}{bs:List Bool}{xs:List V},bools ds=some bs->ar K H ds xs->xs=bs.map V.bl
 | [],bs,xs,h,r=>by
  simp only [ar] at r;simp only [bools,wJ] at h;subst r h;rfl
 |d::ds,bs,xs,h,r=>by
  simp only [ar] at r;obtain⟨x,t,rfl,r1,r2⟩:=r
  cases d with
  |bl b=>
   simp only [bools,jq] at h;obtain⟨cs,hc,rfl⟩:=h;rw [SG hc r2,bI];simp only [Rep] at r1;rw [r1]
  |_=>simp [bools] at h
theorem Sz (hc:X.calm=true):qy X cls E (.builtin "all") yR:=by
 refine⟨_,agt hc,fun A H Q ds vs L r z q=>?_⟩;unfold yR at q
 split at q
 ·rename_i l
  obtain⟨v,rfl,rv⟩:=j8 r;obtain⟨p,xs,rfl,h1,h2⟩:=fQ rv;unfold wc at q
  split at q
  ·rename_i bs hb
   rw [SG hb h2] at h1;exact⟨p,bs,rfl,bP.seq h1,q _ H (.refl _) eY trivial⟩
  ·exact(show False from q).elim
 ·exact(show False from q).elim
theorem Fq {K:ah}{H:Hp}:∀l:List Nat,ar K H (eV l) (hW l)
 | []=>.nil
 |c::l=>.cons mz (Fq l)
theorem MN (l:List Nat):bw (eV l):=mr fun d hd=>by
 obtain⟨c,_,rfl⟩:=dF.mp hd;show 1<=10000
 decide
inductive qT (K:ah) (cls:Nat->Addr) (F:List Dt->M Dt) (vs:List V) (H:Hp) (Q:VK) (E:XK):Prop
 |mk (A:List Addr) (ds:List Dt) (L:cQ H A) (r:ar K (ak H A) ds vs) (z:bw ds) (q:Res K cls A E (F ds) H Q):qT K cls F vs H Q E
theorem cA {k:Nat}{x:Str}{ps:List Str}{p:Pos}{CX:gx}(C:qx X.prog X.w X.K X.mg X.base CX k x ps (qT X.K cls F'))(hr:bF k X.A)(hx:Passes CX X E)(ha:Av X cls E (a::es) fs)(bz:isStar a=false:=by rfl)(hg:Gl X x:=by rfl)
  (gN:(x==("__debug__" : Str))=false:=by decide) (dS:(backTo pos (starEach es X.env)).any (·.1)=false:=by rfl):Ev X cls E (.Call (.Name x p) (a::es) [] pos) (aP F' fs):=
 (AQ C hr hx ha bz hg gN dS).imp fun σ H Q ⟨O,A,ρ,F,q⟩=>by
 refine⟨O,A,ρ,F,Rg.bind q fun ds _ q1=>?_⟩;intro vs H1 s1 r1 z1;rw [kJ];exact⟨A,ds,F.bL.mono s1,r1,z1,Res.mono q1 s1⟩
def Tp (X:Cx)(cls:Nat->Addr)(E:XK)(T id:String)(m:Sel):Prop:=
 ∃r,wm X id r/\(∀H d k x,m d=some k->Rep X.K H d x->qK X.K T x H)/\∀A H Q d k x ds vs,m d=some k->cQ H A->Rep X.K (ak H A) d x->sm d->ar X.K (ak H A) ds vs->bw ds->Res X.K cls A E (k ds) H Q->r x vs H Q
theorem VQ {T:String}{m:Sel}{r:V->List V->Hp->VK->Prop}(h1:∀H d k x,m d=some k->Rep X.K H d x->qK X.K T x H)
  (h2:∀A H Q d k x ds vs,m d=some k->cQ H A->Rep X.K (ak H A) d x->sm d->ar X.K (ak H A) ds vs->bw ds->Res X.K cls A E (k ds) H Q->r x vs H Q) (σ:St) (H:Hp) (Q:VK) (q:tM X.K cls E (pH m f fs) σ H Q) :
  An X.K T r (tM X.K cls E f) (mm X.K cls E fs) σ H Q:=by
 obtain⟨O,A,ρ,F,q⟩:=q;refine⟨O,A,ρ,F,Rg.bind q fun d _ q1=>?_⟩;intro v H1 s1 r1 z1;have pz:=Res.mono (Q:=Q) q1 s1
 cases hk:m d with
 |none=>rw [hk] at pz; exact(show False from pz).elim
 |some k=>
  rw [hk] at pz;have ia:Res X.K cls A E ((fs ρ).bd k) H1 Q:=pz;refine⟨h1 H1 d k v hk (r1.mono bP),O,A,ρ,F.mono s1,Rg.bind ia fun ds _ q2=>?_⟩;intro vs H2 s2 r2 z2;exact h2 A H2 Q d k v ds vs hk ((F.bL.mono s1).mono s2) (r1.mono (s2.ak A)) z1 r2 z2 (Res.mono q2 s2)
theorem aeU {T name id:String}{m:Sel}{apos:Pos}{o:Expr}(pa:PlainAttrs T)(slot:Slot T name id)(ki:typeOf (.builtin id)=pure (.type "method_descriptor"))(hm:Tp X cls E T id m)(ho:Ev X cls E o f)(ha:Av X cls E (a::es) fs)
  (oz:attributeBase o name X.env (eval o X.env)=eval o X.env:=by rfl)
  (yj:((backTo pos (starEach (a::es) X.env)).all (fun x=>!x.1)&&(backToKw pos (keywordEach [] X.env)).all (fun x=>x.1.isSome)
   && decide ((a::es).length+([]:List Keyword).length+(if ([]:List Keyword).isEmpty then 0 else 1)<30))=true:=by rfl)
  (lN:(apos.endLine==pos.line)=true:=by rfl) (hs:starEach (a::es) X.env=(false,eval a X.env)::starEach es X.env:=by rfl) (x9:(backTo pos (starEach es X.env)).any (·.1)=false:=by rfl) :
  Ev X cls E (.Call (.Attribute o name apos) (a::es) [] pos) (pH m f fs):=by
 obtain⟨r,h0,h1,h2⟩:=hm;exact(uH pa slot ki h0 ho ha oz yj lN hs x9).imp (VQ h1 h2)
theorem EA {K:ah}{H:Hp}:∀{ds:List Dt}{ls:List (List Nat)}{xs:List V},kY ds=some ls->ar K H ds xs->xs=ls.map S
 | [],bs,xs,h,r=>by
  simp only [ar] at r;simp only [kY,wJ] at h;subst r h;rfl
 |d::ds,bs,xs,h,r=>by
  simp only [ar] at r;obtain⟨x,t,rfl,r1,r2⟩:=r
  cases d with
  |str l=>
   simp only [kY,jq] at h;obtain⟨cs,hc,rfl⟩:=h;rw [EA hc r2,bI];simp only [Rep] at r1;rw [r1]
  |_=>simp [kY] at h
theorem abb:Tp X cls E "str" "str.join" oh:=by
 refine⟨_,aaY,fun H d k x hk r=>?_,fun A H Q d k x ds vs hk L r z rs zs q=>?_⟩
 ·unfold oh at hk
  split at hk
  ·rw [cL r]; rfl
  ·cases hk
 ·unfold oh at hk
  split at hk
  ·injection hk with hk
   subst hk;unfold joinM at q
   split at q
   ·rename_i l
    obtain⟨v,rfl,rv⟩:=j8 rs;obtain⟨p,xs,rfl,h1,h2⟩:=fQ rv;unfold Bo at q
    split at q
    ·rename_i ls hls
     rw [EA hls h2] at h1;obtain⟨h,q⟩:=Eu q;exact⟨p,ls,cL r,rfl,bP.seq h1,h,q⟩
    ·exact(show False from q).elim
   ·exact(show False from q).elim
  ·cases hk
structure nu (K:ah) (A:List Addr) (J:It) (ds:List Dt) (H1:Hp):Prop where
 go:∀i H,i<ds.length->ax (ak H1 A) H->J.go i H
 stop:∀H,ax (ak H1 A) H->J.stop ds.length H
 yl:∀i H x H' A',i<ds.length->cQ H A'->ax (ak H1 A) (ak H A')->J.wO i H x H'->ax H H'/\∃d,ds[i]?=some d/\Rep K (ak H' A') d x
 small:bw ds
 qf:ds.length<=10000
inductive iM (K:ah) (cls:Nat->Addr) (E:XK) (ι:IM) (σ:St) (H:Hp) (R:It->Hp->Prop):Prop
 |mk (O A:List Addr) (ρ:aa) (F:bu K O A ρ σ H) (q:Rg cls E (ι ρ) H fun ds=>∀J H',ax H H'->nu K A J ds H'->R J H'):iM K cls E ι σ H R
abbrev Iv (X:Cx)(cls:Nat->Addr)(E:XK)(tg e:Expr)(ι:IM):Prop:=PI X tg e (iM X.K cls E ι)
theorem PI.imp {tg e:Expr}{t t':TI}(h:PI X tg e t')(i:∀σ H R,t σ H R->t' σ H R):PI X tg e t:=fun pins s σ H R I hw=>h pins s σ H R I (i σ H R hw)
theorem PI.or {tg e:Expr}{t t':TI}(h:PI X tg e t)(h':PI X tg e t'):PI X tg e (fun σ H R=>t σ H R∨t' σ H R):=fun pins s σ H R I hw=>by
 rcases hw with hw | hw
 ·exact h pins s σ H R I hw
 ·exact h' pins s σ H R I hw
theorem Py {K:ah}{A:List Addr}{a:Addr}{ds:List Dt}{xs:List V}{H1:Hp}(h1:bX K (ak H1 A) a xs)(h2:ar K (ak H1 A) ds xs)(z:bw ds)(zl:ds.length<=10000):nu K A (sT K a) ds H1:=by
 have hl:=h2.length;refine⟨fun i H hi s=>⟨xs,xs[i]'(by omega),s.seq h1,by simp⟩,fun H s=>⟨xs,s.seq h1,by omega⟩,fun i H x H' A' hi L s y=>?_,z,zl⟩;obtain⟨e,hx⟩:=y;subst e;have pS:=hx xs ((s.trans bP).seq h1);obtain⟨d,hd,rd⟩:=h2.get pS;exact⟨.refl _,d,hd,rd.mono s⟩
theorem acd {K:ah}{A:List Addr}{a:Addr}{ds:List Dt}{xs:List V}{H1:Hp}(h1:cP K (ak H1 A) a xs)(h2:ar K (ak H1 A) ds xs)(z:bw ds)(zl:ds.length<=10000):nu K A (K0 K a) ds H1:=by
 have hl:=h2.length;refine⟨fun i H hi s=>⟨xs,xs[i]'(by omega),s.fP h1,by simp⟩,fun H s=>⟨xs,s.fP h1,by omega⟩,fun i H x H' A' hi L s y=>?_,z,zl⟩;obtain⟨e,hx⟩:=y;subst e;have pS:=hx xs ((s.trans bP).fP h1);obtain⟨d,hd,rd⟩:=h2.get pS;exact⟨.refl _,d,hd,rd.mono s⟩
theorem ace {K:ah}{A:List Addr}{ds:List Dt}{xs:List V}{H1:Hp}(h2:ar K (ak H1 A) ds xs)(z:bw ds)(zl:ds.length<=10000):nu K A (K1 xs) ds H1:=by
 have hl:=h2.length;refine⟨fun i H hi s=>by show i<xs.length; omega,fun H s=>by show xs.length<=ds.length; omega,fun i H x H' A' hi L s y=>?_,z,zl⟩;obtain⟨e,hx⟩:=y;subst e;obtain⟨d,hd,rd⟩:=h2.get hx;exact⟨.refl _,d,hd,rd.mono s⟩
theorem oi {tg e:Expr}(he:Ev X cls E e f):Iv X cls E tg e (gk f):=by
 refine((Nw he).or ((YS he).or (YT he))).imp fun σ H R h_=>?_;obtain⟨O,A,ρ,F,q⟩:=h_
 cases hm:f ρ with
 |bad=>
  unfold gk at q;rw [hm] at q;exact(show False from q).elim
 |ex c=>
  refine .inl ⟨O,A,ρ,F,?_⟩;unfold gk at q;rw [hm] at q ⊢;exact q
 |ok d=>
  have q':Rg cls E (en d) H fun ds=>∀J H',ax H H'->nu X.K A J ds H'->R J H':=by
   unfold gk at q;rw [hm] at q;exact q
  cases d with
  |lst l=>
   refine .inl ⟨O,A,ρ,F,?_⟩;rw [hm];intro v H1 s1 r1 z1;obtain⟨p,xs,rfl,h1,h2⟩:=fQ r1;exact⟨p,rfl,⟨xs,bP.seq h1⟩,q' _ H1 s1 (Py h1 h2 z1.2 z1.1)⟩
  |tup l=>
   refine .inr (.inl ⟨O,A,ρ,F,?_⟩);rw [hm];intro v H1 s1 r1 z1;obtain⟨p,xs,rfl,h1,h2⟩:=hZ r1;exact⟨p,rfl,⟨xs,bP.fP h1⟩,q' _ H1 s1 (acd h1 h2 z1.2 z1.1)⟩
  |str l=>
   refine .inr (.inr ⟨O,A,ρ,F,?_⟩);rw [hm];intro v H1 s1 r1 z1;exact⟨l,cL r1,q' _ H1 s1 (ace (Fq l) (MN l) (by rw [eV,ef]; exact z1))⟩
  |_=>exact(show False from q').elim
theorem Px {K:ah}{A:List Addr}{lo hi:Int}{H1:Hp}(zl:(hi - lo).toNat<=10000):nu K A (zc lo (hi - lo).toNat) (eX lo hi) H1:=by
 have hl:(eX lo hi).length=(hi - lo).toNat:=by simp [eX]
 refine⟨fun i H hi s=>by show i<(_:Nat); omega,fun H s=>by show (_:Nat)<=_; omega,fun i H x H' A' mT L s y=>?_,mr fun d hd=>?_,by omega⟩
 ·obtain⟨e,hx⟩:=y
  subst e hx;refine⟨.refl _,.int (lo+(i:Nat)),?_,dP⟩;rw [hl] at mT;simp [eX,mT]
 ·obtain⟨k,_,rfl⟩:=dF.mp hd
  trivial
theorem Hb {tg:Expr}{p:Pos}(hg:Gl X "range")(hm:X.mg "range" = none)(ha:Av X cls E [a] fs)(hs:starEach [a] X.env=[(false,eval a X.env)]:=by rfl):Iv X cls E tg (.Call (.Name "range" p) [a] [] pos) (lK uC fs):=
 (YV hg hm ha hs).imp fun σ H R ⟨O,A,ρ,F,q⟩=>by
 refine⟨O,A,ρ,F,Rg.bind q fun ds km q1=>?_⟩
 clear km
 intro vs H1 s1 r1 z1;unfold uC at q1
 split at q1
 ·rename_i n
  split at q1
  ·rename_i hn
   obtain⟨v,rfl,rv⟩:=j8 r1;refine⟨n,by rw [dw rv],by omega,by omega,?_⟩;have e:n.toNat=(n - 0).toNat:=by omega
   rw [e];exact q1 _ H1 s1 (Px (by omega))
  ·exact(show False from q1).elim
 ·exact(show False from q1).elim
theorem ab8 {tg:Expr}{p:Pos}(hg:Gl X "range")(hm:X.mg "range" = none)(ha:Av X cls E [a,b] fs)(hs:starEach [a,b] X.env=[(false,eval a X.env),(false,eval b X.env)]:=by rfl)(fD:starEach [b] X.env=[(false,eval b X.env)]:=by rfl) :
  Iv X cls E tg (.Call (.Name "range" p) [a,b] [] pos) (lK AA fs):=
 (YU hg hm ha hs fD).imp fun σ H R ⟨O,A,ρ,F,q⟩=>by
 refine⟨O,A,ρ,F,Rg.bind q fun ds km q1=>?_⟩
 clear km
 intro vs H1 s1 r1 z1;unfold AA at q1
 split at q1
 ·rename_i i j
  split at q1
  ·rename_i hn
   obtain⟨v,w,rfl,rv,eo⟩:=my r1;refine⟨i,j,by rw [dw rv,dw eo],⟨by omega,by omega,by omega,by omega⟩,?_⟩;exact q1 _ H1 s1 (Px (by omega))
  ·exact(show False from q1).elim
 ·exact(show False from q1).elim
end
inductive gM (K:ah) (g:GM) (v:V) (σ:St) (H:Hp) (Q:St->Hp->Prop):Prop
 |mk (O A:List Addr) (ρ:aa) (d:Dt) (F:bu K O A ρ σ H) (r:Rep K (ak H A) d v) (z:sm d) (aQ:aa) (e:g d ρ=.ok aQ) (q:∀aL,bu K O A aQ aL H->Q aL H):gM K g v σ H Q
inductive vk (K:ah) (g:List Dt->aa->M aa) (vs:List V) (σ:St) (H:Hp) (Q:St->Hp->Prop):Prop
 |mk (O A:List Addr) (ρ:aa) (ds:List Dt) (F:bu K O A ρ σ H) (r:ar K (ak H A) ds vs) (z:bw ds) (aQ:aa) (e:g ds ρ=.ok aQ) (q:∀aL,bu K O A aQ aL H->Q aL H):vk K g vs σ H Q
theorem PG.imp {X:Cx}{e:Expr}{t t':TG}(h:PG X e t')(i:∀v σ H Q,t v σ H Q->t' v σ H Q):PG X e t:=fun pins s σ H v u Q I r hw=>h pins s σ H v u Q I r (i v σ H Q hw)
theorem jP.imp {X:Cx}{e:List Expr}{t t':nq}(h:jP X e t')(i:∀v σ H Q,t v σ H Q->t' v σ H Q):jP X e t:=fun pins s σ H v u Q I r hw=>h pins s σ H v u Q I r (i v σ H Q hw)
theorem bu.put {K:ah}{O A:List Addr}{ρ:aa}{σ:St}{H:Hp}(F:bu K O A ρ σ H)(i:Nat){d:Dt}{v:V}(r:Rep K (ak H A) d v)(z:sm d):bu K O A (nZ i d ρ) (σ.set i (some v)) H:=
 F.set F.bL F.sub (.refl _) (fun _ h _=>⟨h,rfl⟩) (fun _ h h'=>⟨h,h',rfl⟩) (.inl ⟨d,rfl,r,z⟩)
section
variable {X:Cx}{cls:Nat->Addr}{E:XK}{a b c:Expr}{f g h:aa->M Dt}{pos:Pos}{fs:aa->M (List Dt)}{es:List Expr}
theorem df {i:Nat}{x:Str}(h:PG X (.Name x pos) (qc i)):PG X (.Name x pos) (gM X.K (aI i)):=h.imp fun v σ H Q h_=>by
 obtain⟨O,A,ρ,d,F,r,z,aQ,e,q⟩:=h_;cases e;exact q _ (F.put i r z)
theorem vj:jP X [] (vk X.K ku):=YW.imp fun v σ H Q h_=>by
 obtain⟨O,A,ρ,ds,F,r,z,aQ,e,q⟩:=h_
 cases ds with
 |nil=>
  cases e;simp only [ar] at r;exact⟨r,q _ F⟩
 |cons d ds=>cases e
theorem i8 {g:GM}{gs:List Dt->aa->M aa}(h1:PG X a (gM X.K g))(h2:jP X es (vk X.K gs))(hs:(assignEach (a::es) X.env).map (·.2)=assign a X.env::(assignEach es X.env).map (·.2):=by rfl):jP X (a::es) (vk X.K (dJ g gs)):=(Nx h1 h2 hs).imp fun v σ H Q h_=>by
 obtain⟨O,A,ρ,ds,F,r,z,aQ,e,q⟩:=h_
 cases ds with
 |nil=>cases e
 |cons d ds=>
  simp only [ar] at r;obtain⟨x,t,rfl,r1,r2⟩:=r;simp only [dJ] at e
  cases hg:g d ρ with
  |ok a7=>
   rw [hg] at e;exact⟨x,t,rfl,O,A,ρ,d,F,r1,z.1,a7,hg,fun kF F1=>⟨O,A,a7,ds,F1,r2,z.2,aQ,e,q⟩⟩
  |ex c=>rw [hg] at e; cases e
  |bad=>rw [hg] at e; cases e
def aen (K:ah)(n:Nat)(t:nq):TG:=fun v σ H Q=>∃a xs,v=.ref a/\bX K H a xs/\xs.length=n/\t xs σ H Q
theorem YX {k:Nat}{t:nq}{n:Nat}(hc:X.calm=true)(h:jP X es t)(hn:(assignEach es X.env).length=n)(bz:(assignEach es X.env).findIdx? (·.1)=none):PG X (.Tuple es k pos) (aen X.K n t):=by
 intro pins s σ H v u Q I r hw;obtain⟨a,xs,e1,hq,hl,hw⟩:=hw;subst e1;cases r;obtain⟨ao,rv,pl,hz⟩:=I.list hq;rw [assign_Tuple];refine wpAny_bind (wpAny_standAt ?_);unfold unpack;rw [bz,show (assignEach es X.env).length=ao.toArray.size by simp [hn,← hl,rv.length]];refine wpAny_bind (wpAny_holding (kun_itemsOf (I.ok.hd hc) pl.isList fun h' hx=>?_));have I1:Inv X pins σ H {s with heap:=h'}:=I.kept (t':=s.toks) fun b o e=>hx b o (bQ (a6 e)) e;exact h pins _ σ H xs _ Q I1 (by simpa using rv) hw
theorem PG.or {e:Expr}{t t':TG}(h:PG X e t)(h':PG X e t'):PG X e (fun v σ H Q=>t v σ H Q∨t' v σ H Q):=fun pins s σ H v u Q I r hw=>by
 rcases hw with hw | hw
 ·exact h pins s σ H v u Q I r hw
 ·exact h' pins s σ H v u Q I r hw
theorem yu {k n:Nat}{gs:List Dt->aa->M aa}(hc:X.calm=true)(h:jP X es (vk X.K gs))(hn:(assignEach es X.env).length=n:=by rfl)(bz:(assignEach es X.env).findIdx? (·.1)=none:=by rfl):PG X (.Tuple es k pos) (gM X.K (iG n gs)):=by
 refine((Ny hc h hn bz).or (YX hc h hn bz)).imp fun v σ H Q h_=>?_;obtain⟨O,A,ρ,d,F,r,z,aQ,e,q⟩:=h_
 cases d with
 |tup ds=>
  simp only [iG] at e
  split at e
  ·rename_i hl
   obtain⟨p,xs,rfl,h1,h2⟩:=hZ r;exact .inl ⟨p,xs,rfl,bP.fP h1,by rw [← h2.length]; exact hl,O,A,ρ,ds,F,h2,z.2,aQ,e,q⟩
  ·cases e
 |lst ds=>
  simp only [iG] at e
  split at e
  ·rename_i hl
   obtain⟨p,xs,rfl,h1,h2⟩:=fQ r;exact .inr ⟨p,xs,rfl,bP.seq h1,by rw [← h2.length]; exact hl,O,A,ρ,ds,F,h2,z.2,aQ,e,q⟩
  ·cases e
 |_=>cases e
end
def GK (k:Nat)(g:GM):Prop:=∀d ρ aQ,g d ρ=.ok aQ->aQ.length=ρ.length/\∀i,k<=i->aQ[i]?=ρ[i]?
def CQ (k:Nat)(g:List Dt->aa->M aa):Prop:=∀d ρ aQ,g d ρ=.ok aQ->aQ.length=ρ.length/\∀i,k<=i->aQ[i]?=ρ[i]?
theorem fV {k i:Nat}(h:i<k):GK k (aI i):=fun d ρ aQ e=>by
 cases e;refine⟨by simp [nZ],fun j hj=>?_⟩;unfold nZ;rw [jW (by omega)]
theorem BW {k:Nat}:CQ k ku:=fun ds ρ aQ e=>by
 cases ds with
 |nil=>cases e; exact⟨rfl,fun _ _=>rfl⟩
 |cons d ds=>cases e
theorem qb {k:Nat}{g:GM}{gs:List Dt->aa->M aa}(h1:GK k g)(h2:CQ k gs):CQ k (dJ g gs):=fun ds ρ aQ e=>by
 cases ds with
 |nil=>cases e
 |cons d ds=>
  simp only [dJ] at e
  cases hg:g d ρ with
  |ok a7=>
   rw [hg] at e;obtain⟨a1,a2⟩:=h1 d ρ a7 hg;obtain⟨b1,b2⟩:=h2 ds a7 aQ e;exact⟨b1.trans a1,fun i hi=>(b2 i hi).trans (a2 i hi)⟩
  |ex c=>rw [hg] at e; cases e
  |bad=>rw [hg] at e; cases e
theorem BX {k n:Nat}{gs:List Dt->aa->M aa}(h:CQ k gs):GK k (iG n gs):=fun d ρ aQ e=>by
 cases d with
 |tup ds=>
  simp only [iG] at e
  split at e
  ·exact h ds ρ aQ e
  ·cases e
 |lst ds=>
  simp only [iG] at e
  split at e
  ·exact h ds ρ aQ e
  ·cases e
 |_=>cases e
theorem WB (k:Nat)(fr:List Nat)(ρ:aa):(cf k fr ρ).length=k+fr.length:=by simp [cf]
theorem EE {k:Nat}{fr:List Nat}{ρ:aa}{i:Nat}(h:i<k):(cf k fr ρ)[i]?=some .no:=by
 unfold cf;rw [sX (by simpa using h)];simp [h]
theorem xh {k:Nat}{fr:List Nat}{ρ:aa}{i:Nat}{b:Bd}(h:(cf k fr ρ)[i]?=some b):b=.no∨∃j m d,i=k+j/\fr[j]?=some m/\ρ[m]?=some (.val d)/\b=.val d:=by
 by_cases hi:i<k
 ·rw [EE hi] at h
  cases h;exact .inl rfl
 ·unfold cf at h
  rw [sY (by simp; omega)] at h;simp only [wy,jT,jq] at h;obtain⟨m,hm,hb⟩:=h;unfold D8 at hb
  split at hb
  ·rename_i d hd
   exact .inr ⟨i - k,m,d,by omega,hm,hd,hb.symm⟩
  ·exact .inl hb.symm
theorem bu.di {K:ah}{O A:List Addr}{ρ:aa}{σ:St}{H:Hp}(F:bu K O A ρ σ H)(k:Nat)(fr:List Nat):bu K O A (cf k fr ρ) (L2.di k fr σ) H:=by
 have no:∀{i b},(cf k fr ρ)[i]?=some b->gJ b=true->False:=fun {i b} h o=>by
  rcases xh h with z | ⟨j,m,d',_,_,_,z⟩ <;> rw [z] at o <;> cases o
 refine⟨by rw [WB]; simp [L2.di],F.bL,F.sub,fun i d h=>?_,fun i b h o=>(no h o).elim,fun i j b c v w _ h _ o=>(no h o).elim,fun i p x y h=>?_⟩
 rotate_left
 ·rcases xh h with z | ⟨j,m,d',_,_,_,z⟩ <;> cases z
 ·rcases xh h with z | ⟨j,m,d',rfl,hm,hd,z⟩
  ·cases z
  ·cases z
   obtain⟨v,h1,h2,h3⟩:=F.val m d hd;refine⟨v,?_,h2,h3⟩;unfold L2.di;rw [sY (by simp)];simp [hm,h1]
theorem bu.back {K:ah}{O A:List Addr}{ρ ρ0:aa}{σ:St}{H:Hp}(F:bu K O A ρ σ H)(hl:ρ.length=ρ0.length)(hv:∀(i:Nat) d,ρ0[i]?=some (.val d)->ρ[i]?=some (.val d))(ho:∀(i:Nat) b,ρ0[i]?=some b->gJ b=true∨(∃p x y,b=.bor p x y)->False):bu K O A ρ0 σ H:=
 ⟨by rw [← hl]; exact F.len,F.bL,F.sub,fun i d h=>F.val i d (hv i d h),fun i b h o=>(ho i b h (.inl o)).elim,fun i _ b _ _ _ _ h _ o=>(ho i b h (.inl o)).elim,fun i p x y h=>(ho i _ h (.inr ⟨p,x,y,rfl⟩)).elim⟩
theorem cQ.cons {H:Hp}{A:List Addr}{D:Addr}{o:HO}(h:cQ H A)(hD:H D=some o):cQ H (D::A):=fun a ha=>by
 rcases bf.mp ha with z | z
 ·subst z; rw [hD]; simp
 ·exact h a z
theorem yh {H:Hp}{A:List Addr}{D:Addr}{o:HO}(h:D∈A):ak (upd H D o) A=ak H A:=by
 funext b
 unfold ak
 by_cases hb:b∈A
 ·rw [if_pos hb,if_pos hb]
 ·rw [if_neg hb,if_neg hb]
  exact aF fun z=>hb (z ▸ h)
theorem Sr {g:GM}{tc:aa->M Bool}{te:aa->M Dt}{ρ0:aa}{d:Dt}{ds:List Dt}{xs:List Dt}(h:fI g tc te ρ0 (d::ds)=.ok xs) :
  ∃a7,g d ρ0=.ok a7/\((tc a7=.ok false/\fI g tc te ρ0 ds=.ok xs)∨(tc a7=.ok true/\∃x ys,te a7=.ok x/\fI g tc te ρ0 ds=.ok ys/\xs=x::ys)):=by
 simp only [fI] at h
 cases hg:g d ρ0 with
 |ok a7=>
  rw [hg] at h;simp only [bG] at h;refine⟨a7,rfl,?_⟩
  cases ht:tc a7 with
  |ok b=>
   rw [ht] at h;simp only [bG] at h
   cases b with
   |false=>exact .inl ⟨rfl,h⟩
   |true=>
    simp only [if_true] at h
    cases hx:te a7 with
    |ok x=>
     rw [hx] at h;simp only [bG] at h
     cases hr:fI g tc te ρ0 ds with
     |ok ys=>rw [hr] at h; simp only [bG] at h; cases h; exact .inr ⟨rfl,x,ys,rfl,rfl,rfl⟩
     |ex c=>rw [hr] at h; cases h
     |bad=>rw [hr] at h; cases h
    |ex c=>rw [hx] at h; cases h
    |bad=>rw [hx] at h; cases h
  |ex c=>rw [ht] at h; cases h
  |bad=>rw [ht] at h; cases h
 |ex c=>rw [hg] at h; cases h
 |bad=>rw [hg] at h; cases h
theorem Yg {K:ah}{cls:Nat->Addr}{k:Nat}{fr:List Nat}{g:GM}{tc:aa->M Bool}{te:aa->M Dt}{O A:List Addr}{ρ:aa}{σ:St}{J:It}{H1:Hp}{Q:VK}{ds xs:List Dt}(F:bu K O A ρ σ H1)(hk:GK k g)(hJ:nu K A J ds H1)
  (hx:fI g tc te (cf k fr ρ) ds=.ok xs) (fin:∀v H',ax H1 H'->Rep K (ak H' A) (.lst xs) v->bw xs->xs.length<=10000->Q v H'):pq k fr (gM K g) (fz K cls E0 tc) (tM K cls E0 te) σ J H1 Q:=by
 intro D hD;have Ii:D∉A:=F.bL.fresh hD;have ho:∀(i:Nat) b,(cf k fr ρ)[i]?=some b->gJ b=true∨(∃p x y,b=.bor p x y)->False:=fun i b h o=>by
  rcases xh h with z | ⟨j,m,d',_,_,_,z⟩ <;> rw [z] at o <;> rcases o with o | ⟨p,x,y,o⟩ <;> cases o
 have s0:ax H1 (upd H1 D (.lst [])):=.upd hD;have sD:∀{H'},ax H1 H'->ax (ak H1 A) (ak H' (D::A)):=fun {H'} s b o e=>by
  obtain⟨h1,h2⟩:=d6 e;have hb:b∉D::A:=fun z=>by
   rcases bf.mp z with z | z
   ·subst z; rw [hD] at h2; cases h2
   ·exact h1 z
  rw [cu hb];exact s b o h2
 have FD:bu K [] (D::A) (cf k fr ρ) (di k fr σ) (upd H1 D (.lst [])):=by
  have F1:=F.di k fr;refine⟨F1.len,(F.bL.mono s0).cons aX,(fun a z=>nomatch z),fun i d h=>?_,fun i b h o=>(ho i b h (.inl o)).elim,fun i _ b _ _ _ _ h _ o=>(ho i b h (.inl o)).elim,fun i p x y h=>(ho i _ h (.inr ⟨p,x,y,rfl⟩)).elim⟩;obtain⟨v,h1,h2,h3⟩:=F1.val i d h;exact⟨v,h1,h2.mono (sD s0),h3⟩
 refine⟨fun i m ys aL H'=>i<=ds.length/\m=ds.length - i/\H' D=some (.lst ys)/\ax H1 H'/\bu K [] (D::A) (cf k fr ρ) aL H'/\∃us ws,fI g tc te (cf k fr ρ) (ds.drop i)=.ok ws/\xs=us++ws/\ar K (ak H' (D::A)) us ys/\bw us/\us.length<=i,
  ⟨ds.length,gX _,rfl,aX,s0,FD,[],xs,hx,rfl,.nil,trivial,gX _⟩,?_⟩
 rintro i m ys aL H' ⟨hi,rfl,mZ,iy,F',us,ws,hw,rfl,ru,zu,lu⟩;refine⟨mZ,?_⟩;have qf:=hJ.qf
 by_cases aT:i<ds.length
 ·refine .inr ⟨hJ.go i H' aT (bP.trans iy),ds.length - (i+1),by omega,fun x H2 y=>?_⟩
  obtain⟨sy,d,hd,rd⟩:=hJ.yl i H' x H2 (D::A) aT F'.bL (sD iy) y;have ym:ds.drop i=d::ds.drop (i+1):=by
   rw [wB aT]
   congr 1
   have:=kN aT;rw [hd] at this;exact(iu this).symm
  rw [ym] at hw;obtain⟨a7,hg,r9⟩:=Sr hw;refine⟨[],D::A,_,d,F'.mono sy,rd,hV hJ.small (jV hd),a7,hg,fun eC F2=>?_⟩;obtain⟨k1,k2⟩:=hk d _ _ hg;have bk:∀{ir H3},bu K [] (D::A) a7 ir H3->bu K [] (D::A) (cf k fr ρ) ir H3:=fun F3=>F3.back k1 (fun j e hj=>by
   have HK:k<=j:=by
    by_cases z:j<k
    ·rw [EE z] at hj; cases hj
    ·omega
   rw [k2 j HK];exact hj) ho
  rcases r9 with ⟨ht,hr⟩ | ⟨ht,x',jt,rO,hr,rfl⟩
  ·refine⟨[],D::A,a7,F2,?_⟩
   rw [ht];intro H4 s4;simp only [du,if_false];have qY:=sy.trans s4;exact⟨aT,trivial,qY _ _ mZ,iy.trans qY,bk (F2.mono s4),us,ws,hr,rfl,ru.mono (qY.ak _),zu,by omega⟩
  ·refine⟨[],D::A,a7,F2,?_⟩
   rw [ht];intro H4 s4;simp only [if_true];refine⟨[],D::A,a7,F2.mono s4,?_⟩;rw [rO];intro v H5 s5 r5 z5;have qX:=(sy.trans s4).trans s5;have hl:=ru.length;refine⟨qX _ _ mZ,zL (by omega:ys.length<=10000) (by decide),aT,trivial,aX,fun b o e=>?_,?_,us++[x'],jt,hr,by simp,?_,qU zu ⟨z5,trivial⟩,by simp; omega⟩
   ·rw [aF (cN e hD)]
    exact qX b o (iy b o e)
   ·have F5:=bk ((F2.mono s4).mono s5)
    refine⟨F5.len,fun a' ha=>?_,(fun a z=>nomatch z),fun j e h=>?_,fun j b h o=>(ho j b h (.inl o)).elim,fun j _ b _ _ _ _ h _ o=>(ho j b h (.inl o)).elim,fun j p x y h=>(ho j _ h (.inr ⟨p,x,y,rfl⟩)).elim⟩
    ·by_cases hz:a'=D
     ·rw [hz,aX]; simp
     ·rw [aF hz]; exact F5.bL a' ha
    ·rw [yh bN]
     exact F5.val j e h
   ·rw [yh bN]
    exact(ru.mono (qX.ak _)).append (.cons r5 .nil)
 ·have e:i=ds.length:=by omega
  subst e;rw [wG] at hw;cases hw;rw [kJ] at fin;have hl:=ru.length;refine .inl ⟨hJ.stop H' (bP.trans iy),fin (.ref D) H' iy (xo (by rw [cu Ii]; exact mZ) (ru.mono fun b o e=>?_)) zu (by omega)⟩;obtain⟨h1,h2⟩:=d6 e;rw [cu fun z=>h1 (cG _ z)];exact h2
section
variable {X:Cx}{cls:Nat->Addr}{E:XK}{a b c:Expr}{f:aa->M Dt}{pos:Pos}{scope:Scope}{N:List Str}{k:Nat}{fr:List Nat}{tg iter elt:Expr}{ifs:List Expr}{ι:IM}{g:GM}{tc:aa->M Bool}{te:aa->M Dt}
theorem Mf (hk:GK k g)(σ:St)(H:Hp)(Q:VK)(q:tM X.K cls E (dQ k fr ι g tc te) σ H Q):uv k fr (iM X.K cls E ι) (gM X.K g) (fz X.K cls E0 tc) (tM X.K cls E0 te) σ H Q:=by
 obtain⟨O,A,ρ,F,q⟩:=q;refine⟨O,A,ρ,F,Rg.bind q fun ds _ q1=>?_⟩;intro J H1 s1 hJ
 cases hm:fI g tc te (cf k fr ρ) ds with
 |ok xs=>
  have q2:Res X.K cls A E (g7 xs) H Q:=by rw [hm] at q1; exact q1
  refine Yg (F.mono s1) hk hJ hm fun v H' s' r z zl=>?_;unfold g7 at q2;rw [if_pos zl] at q2;exact q2 v H' (s1.trans s') r ⟨zl,z⟩
 |ex c=>rw [hm] at q1; exact(show False from q1).elim
 |bad=>rw [hm] at q1; exact(show False from q1).elim
theorem j0:jO X [] (fz X.K cls E cW):=fun pins s σ H Q I ⟨O,A,ρ,F,q⟩=>YA pins s σ H Q I (q H (.refl _))
theorem Ed (h:Tv X cls E c tc):jO X [c] (fz X.K cls E tc):=Yz h
theorem aeT (hk:GK k g)(hc:X.calm=true)(S:eQ X scope N k fr)(hi:Iv X cls E tg iter ι)(hg:∀pins fp s H,PG (cw X scope N pins fp s H) tg (gM X.K g))(ht:∀pins fp s H,jO (cw X scope N pins fp s H) ifs (fz X.K cls E0 tc))
  (he:∀pins fp s H,PE (cw X scope N pins fp s H) elt (tM X.K cls E0 te)) (hs:∀x,foldedSetIterable iter X.env x=pure x:=by intro _; rfl):Ev X cls E (.ListComp elt [⟨tg,iter,ifs,0⟩] scope pos) (dQ k fr ι g tc te):=
 (Y7 hc S hi hg ht he hs).imp (Mf hk)
end
def cF (K:ah)(Hin:Hp)(A₀:List Addr)(os:List Addr)(ρ:aa)(σ:St)(H:Hp):Prop:=ax Hin H/\cQ Hin A₀/\(∀a∈os,Hin a=none)/\bu K os (os++A₀) ρ σ H
inductive fJ (K:ah) (Hin:Hp) (A₀:List Addr) (ρ:aa) (σ:St) (H:Hp):Prop
 |mk (os:List Addr) (S:cF K Hin A₀ os ρ σ H):fJ K Hin A₀ ρ σ H
def jN (K:ah)(cls:Nat->Addr)(E:XK)(Hin:Hp)(A₀:List Addr)(m:M Fl)(D:Ends):Prop:=match m with
 |.ok (.nx ρ)=>∀σ H,fJ K Hin A₀ ρ σ H->D.nx σ H
 |.ok (.bk ρ)=>∀σ H,fJ K Hin A₀ ρ σ H->D.bk σ H
 |.ok (.ct ρ)=>∀σ H,fJ K Hin A₀ ρ σ H->D.ct σ H
 |.ok (.rt d)=>∀v H,ax Hin H->Rep K (ak H A₀) d v->sm d->D.rt v H
 |.ex c=>∀H,ax Hin H->E (.ref (cls c)) none H
 |.bad=>False
inductive sM (K:ah) (cls:Nat->Addr) (E:XK) (f:SM) (D:Ends) (σ:St) (H:Hp):Prop
 |mk (Hin:Hp) (A₀:List Addr) (ρ:aa) (S:fJ K Hin A₀ ρ σ H) (q:jN K cls E Hin A₀ (f ρ) D):sM K cls E f D σ H
abbrev Sv (X:Cx)(cls:Nat->Addr)(E:XK)(st:Stmt)(f:SM):Prop:=PS X st (sM X.K cls E f)
abbrev Bv (X:Cx)(cls:Nat->Addr)(E:XK)(st:List Stmt)(f:SM):Prop:=ed X st (sM X.K cls E f)
theorem PS.imp {X:Cx}{e:Stmt}{t t':TS}(h:PS X e t')(i:∀D σ H,t D σ H->t' D σ H):PS X e t:=fun pins s σ H D I hw=>h pins s σ H D I (i D σ H hw)
theorem ed.imp {X:Cx}{e:List Stmt}{t t':TS}(h:ed X e t')(i:∀D σ H,t D σ H->t' D σ H):ed X e t:=fun pins s σ H D I hw=>h pins s σ H D I (i D σ H hw)
theorem PS.pK {X:Cx}{st:Stmt}{t:TS}(h:PS X.pK st t):PS X st t:=fun pins s σ H D I hw=>
 wpAny_mono (h pins s σ H D (I.jX _) hw) (fun _ _ q=>q.kQ) fun _ _ z=>dN z
section
variable {K:ah}{cls:Nat->Addr}{E:XK}{Hin:Hp}{A₀:List Addr}{ρ:aa}{σ:St}{H:Hp}{D:Ends}
theorem HP {H:Hp}{A B:List Addr}:ax (ak H (A++B)) (ak H B):=fun b o e=>by
 obtain⟨h1,h2⟩:=d6 e;rw [cu fun z=>h1 (eE _ z)];exact h2
theorem lq {m:M Dt}{k:Dt->M Fl}{os:List Addr}{Q:VK}(s0:ax Hin H)(h:jN K cls E Hin A₀ (m.bd k) D)
  (f:∀d v H',m=.ok d->jN K cls E Hin A₀ (k d) D->ax H H'->Rep K (ak H' (os++A₀)) d v->sm d->Q v H'):Res K cls (os++A₀) E m H Q:=by
 cases m with
 |ok d=>exact fun v H' s r z=>f d v H' rfl h s r z
 |ex c=>exact fun H' s=>h H' (s0.trans s)
 |bad=>exact h
theorem Ya {m:M Bool}{k:Bool->M Fl}{Q:Bool->Hp->Prop}(s0:ax Hin H)(h:jN K cls E Hin A₀ (m.bd k) D)
  (f:∀d H',m=.ok d->jN K cls E Hin A₀ (k d) D->ax H H'->Q d H'):wk cls E m H Q:=by
 cases m with
 |ok d=>exact fun H' s=>f d H' rfl h s
 |ex c=>exact fun H' s=>h H' (s0.trans s)
 |bad=>exact h
end
section
variable {X:Cx}{cls:Nat->Addr}{E:XK}{a b c:Expr}{f g h:aa->M Dt}{pos:Pos}{st:Stmt}{rest:List Stmt}{s t:SM}
theorem dW:Bv X cls E [] cI:=AI.imp fun D σ H ⟨Hin,A₀,ρ,S,q⟩=>q σ H S
theorem VL {D:Ends}{σ:St}{H:Hp}(q:sM X.K cls E (aR s t) D σ H):mj (sM X.K cls E s) (sM X.K cls E t) D σ H:=by
 obtain⟨Hin,A₀,ρ,S,q⟩:=q;refine⟨Hin,A₀,ρ,S,?_⟩;unfold aR at q
 cases hm:s ρ with
 |ok fl=>
  rw [hm] at q
  cases fl with
  |nx aQ=>exact fun aL H' S'=>⟨Hin,A₀,aQ,S',q⟩
  |bk aQ=>exact q
  |ct aQ=>exact q
  |rt d=>exact q
 |ex c=>rw [hm] at q; exact q
 |bad=>rw [hm] at q; exact q
theorem bA (h1:Sv X cls E st s)(h2:Bv X cls E rest t):Bv X cls E (st::rest) (aR s t):=(eI h1 h2).imp fun D σ H q=>VL q
theorem bj (h1:Sv X cls E st s):Bv X cls E [st] s:=fA h1
theorem Jc {os A₀:List Addr}{p:Addr->Bool}:∀b,b∈os.filter p++A₀->b∈os++A₀:=fun b z=>by
 rcases eD.mp z with z | z
 ·exact ej _ (jR.mp z).1
 ·exact eE _ z
theorem cF.let {K:ah}{Hin:Hp}{A₀ os:List Addr}{ρ:aa}{σ:St}{H H':Hp}{i:Nat}{a:Addr}{b:Bd}{d:Dt}(S:cF K Hin A₀ os ρ σ H)(hi:ρ[i]?=some b)(hv:σ[i]?=some (some (.ref a)))(ho:gJ b=true)(hf:a5 H (.ref a) b=[a])
  (hH:∀x,x≠a->H' x=H x) (ha:H' a≠none) (r:∀B,a∉B->(∀x,x∈B->x∈os++A₀)->Rep K (ak H' B) d (.ref a)) (z:sm d):fJ K Hin A₀ (ρ.set i (.val d)) σ H':=by
 obtain⟨s0,L0,fr,F⟩:=S;obtain⟨v,h1,h2,h3⟩:=F.ow i b hi ho;rw [hv] at h1;cases h1;have BR:a∈os:=h3 a (by rw [hf]; exact bN);have haA:a∉A₀:=fun z=>L0 a z (fr a BR);have rX:m8 ρ σ H i=[a]:=by rw [IT hi hv ho]; exact hf
 refine⟨os.filter fun b=>decide (b≠a),fun b o e=>?_,L0,fun b hb=>fr b (jR.mp hb).1,?_⟩
 ·rw [hH b (cN e (fr a BR))]
  exact s0 b o e
 ·have F2:=F.set (i:=i) (v':=.ref a) (b':=.val d) (O':=os.filter fun b=>decide (b≠a)) (A':=(os.filter fun b=>decide (b≠a))++A₀) (H':=H') (fun b hb=>?_) (fun b hb=>ej _ hb) (fun b o e=>?_) (fun b hb hn=>?_) (fun b hb hn=>⟨?_,fun z=>hn (jR.mp z).1,hH b fun z=>hn (z ▸ BR)⟩) (.inl ⟨d,rfl,r _ ?_ Jc,z⟩)
  ·rwa [set_same hv] at F2
  ·by_cases hz:b=a
   ·rw [hz]; exact ha
   ·rw [hH b hz]; exact F.bL b (Jc b hb)
  ·obtain⟨e1,e2⟩:=d6 e
   have BP:b≠a:=fun z=>e1 (by rw [z]; exact ej _ BR);rw [cu fun z=>e1 (Jc b z),hH b BP];exact e2
  ·rw [rX] at hn
   have BP:b≠a:=by simpa using hn
   exact⟨jR.mpr ⟨hb,by simpa using BP⟩,hH b BP⟩
  ·rcases eD.mp hb with z | z
   ·exact(hn z).elim
   ·exact eE _ z
  ·intro z
   rcases eD.mp z with z | z
   ·simp at z
   ·exact haA z
theorem fJ.rel {K:ah}{Hin:Hp}{A₀:List Addr}{ρ:aa}{σ:St}{H:Hp}(S:fJ K Hin A₀ ρ σ H)(i:Nat)(HD:∀ks,ρ[i]?≠some (.cg ks)):fJ K Hin A₀ (L2.rel i ρ) σ H:=by
 unfold L2.rel pk
 split
 ·rename_i ds hd
  obtain⟨os,S⟩:=S;obtain⟨a,xs,h1,h2,h3,h4,h5,h6⟩:=S.2.2.2.own i ds hd;refine S.let hd h1 rfl rfl (fun _ _=>rfl) (by rw [h3]; simp) (fun B hB hs=>xo (by rw [cu hB]; exact h3) (h4.mono fun b o e=>?_)) ⟨h6,h5⟩
  obtain⟨e1,e2⟩:=d6 e;rw [cu fun z=>e1 (hs b z)];exact e2
 ·rename_i ks hd
  exact(HD ks hd).elim
 ·exact S
theorem Inv.freeze {X:Cx}{pins:List (Addr×Obj)}{σ:St}{H:Hp}{s:Shared}{a:Addr}{kvs:List (Key×V)}(I:Inv X pins σ H s)(h:H a=some (.dK kvs)):∃o,Inv X pins σ (upd H a (.bE o (.dK kvs))) s:=by
 have ok:=I.au a _ h;obtain⟨z,na,vs,r,o,es,ep,g,x⟩:=id ok;refine⟨o,?_⟩;have:=I.write (x:=a) (e:=a) (o:=.bE o (.dK kvs)) (h':=s.heap) (t':=s.toks) (by rw [h]; exact me) (.inl rfl) (fun _ _ _ q=>q) ⟨o,g⟩ ⟨g,z,na,vs,r,o,es,ep,g,x⟩;exact this
theorem fJ.M6 {K:ah}{Hin:Hp}{A₀:List Addr}{ρ:aa}{σ:St}{H:Hp}{i:Nat}{ds:List (List Nat×List Nat)}(S:fJ K Hin A₀ ρ σ H)(hd:ρ[i]?=some (.cg ds)) :
  ∃a,H a=some (.dK (bh ds))/\∀o,fJ K Hin A₀ (ρ.set i (.val (.aj ds))) σ (upd H a (.bE o (.dK (bh ds)))):=by
 obtain⟨os,S⟩:=S;obtain⟨a,h1,h2,h3,h4⟩:=S.2.2.2.cg i ds hd;exact⟨a,h3,fun ob=>S.let hd h1 rfl rfl (fun _ hx=>aF hx) (by rw [aX]; simp) (fun B hB _=>Fx (o:=ob) (by rw [cu hB]; exact aX)) h4⟩
theorem sP (i:Nat)(h:Bv X cls E rest s):Bv X cls E rest (mw i s):=fun pins sh σ H D I h_=>by
 obtain⟨Hin,A₀,ρ,S,q⟩:=h_
 by_cases hz:∃ks,ρ[i]?=some (.cg ks)
 ·obtain⟨ks,hk⟩:=hz
  obtain⟨a,h1,h2⟩:=S.M6 hk;obtain⟨o,I'⟩:=I.freeze h1;refine h pins sh σ _ D I' ⟨Hin,A₀,_,h2 o,?_⟩;unfold mw L2.rel pk at q;rw [hk] at q;exact q
 ·exact h pins sh σ H D I ⟨Hin,A₀,L2.rel i ρ,S.rel i (fun ks e=>hz ⟨ks,e⟩),q⟩
theorem cc (he:Ev X cls E a f):Sv X cls E (.Return (some a) pos) (bJ f):=(ic he).imp fun D σ H ⟨Hin,A₀,ρ,⟨os,s0,L0,fr,F⟩,q⟩=>
 ⟨os,os++A₀,ρ,F,lq s0 q fun d v H' _ q1 s' r z=>q1 v H' (s0.trans s') (r.mono HP) z⟩
theorem qP (he:Ev X cls E a f)(hs:swapsWith a none pos.line X.env=pure false:=by rfl):Sv X cls E (.Expr a pos) (iW f):=(n4 he hs).imp fun D σ H ⟨Hin,A₀,ρ,⟨os,s0,L0,fr,F⟩,q⟩=>
 ⟨os,os++A₀,ρ,F,lq s0 q fun d v H' _ q1 s' r z=>q1 σ H' ⟨os,s0.trans s',L0,fr,F.mono s'⟩⟩
theorem VR {g:GM}{D:Ends}{σ:St}{H:Hp}(q:sM X.K cls E (bV f g) D σ H):qO (tM X.K cls E f) (gM X.K g) D σ H:=by
 obtain⟨Hin,A₀,ρ,⟨os,s0,L0,fr,F⟩,q⟩:=q;refine⟨os,os++A₀,ρ,F,lq s0 q fun d v H' _ q1 s' r z=>?_⟩
 cases hg:g d ρ with
 |ok aQ=>
  rw [hg] at q1;exact⟨os,os++A₀,ρ,d,F.mono s',r,z,aQ,hg,fun aL F'=>q1 aL H' ⟨os,s0.trans s',L0,fr,F'⟩⟩
 |ex c=>rw [hg] at q1; exact(show False from q1).elim
 |bad=>rw [hg] at q1; exact(show False from q1).elim
theorem Wq {g:GM}{tg:Expr}(he:Ev X cls E a f)(hg:PG X tg (gM X.K g))(hs:swapsWithSole [tg] a pos.line X.env=pure false:=by rfl)(hw:swappedStores [tg] a X.env=pure none:=by rfl)
  (h1:(assignEach [tg] X.env).map (·.2)=[assign tg X.env]:=by rfl):Sv X cls E (.Assign [tg] a pos) (bV f g):=(Np he hg hs hw h1).imp fun D σ H q=>VR q
theorem Mh {i:Nat}{te:TE}(ht:∀σ H Q,tM X.K cls E f σ H Q->te σ H Q){D:Ends}{σ:St}{H:Hp}(q:sM X.K cls E (bV f (aI i)) D σ H):qO te (qc i) D σ H:=by
 obtain⟨Hin,A₀,ρ,⟨os,s0,L0,fr,F⟩,q⟩:=q;refine ht σ H _ ⟨os,os++A₀,ρ,F,lq s0 q fun d v H' _ q1 s' r z=>?_⟩;exact q1 _ H' ⟨os,s0.trans s',L0,fr,(F.mono s').put i r z⟩
theorem eG {i:Nat}{x:Str}{pos':Pos}(hN:X.N.Nodup)(hi:X.N[i]?=some x)(hx:Loc X.env.scope x)(he:Ev X cls E a f)(hs:swapsWith a (some (.Name x pos')) pos.line X.env=pure false:=by rfl)
  (hf:X.fn x=true∨X.env.scope.names.lookup x=some .local:=by first | exact .inl rfl | exact .inr rfl | assumption):Sv X cls E (.Assign [.Name x pos'] a pos) (bV f (aI i)):=(n3 hN hi hx he hs hf).imp fun D σ H q=>Mh (fun _ _ _ z=>z) q
theorem Wh {i:Nat}{x:Str}{pos' k7:Pos}{scope:Scope}{N:List Str}{k:Nat}{fr:List Nat}{tg iter elt:Expr}{ifs:List Expr}{ι:IM}{g:GM}{tc:aa->M Bool}{te:aa->M Dt}(hk:GK k g)(hc:X.calm=true)(S:eQ X scope N k fr)(hi:Iv X cls E tg iter ι)
  (hg:∀pins fp s H,PG (cw X scope N pins fp s H) tg (gM X.K g)) (ht:∀pins fp s H,jO (cw X scope N pins fp s H) ifs (fz X.K cls E0 tc))
  (he:∀pins fp s H,PE (cw X scope N pins fp s H) elt (tM X.K cls E0 te)) (hN:X.N.Nodup) (HN:X.N[i]?=some x) (hx:X.env.scope.names.lookup x=some .local)
  (Ht:swapsWith (.ListComp elt [⟨tg,iter,ifs,0⟩] scope pos) (some (.Name x pos')) k7.line X.env=pure true:=by rfl)
  (hs:∀x,foldedSetIterable iter X.env x=pure x:=by intro _; rfl):Sv X cls E (.Assign [.Name x pos'] (.ListComp elt [⟨tg,iter,ifs,0⟩] scope pos) k7) (bV (dQ k fr ι g tc te) (aI i)):=
 (YD hc S hi hg ht he hN HN hx Ht hs).imp fun D σ H q=>Mh (Mf hk) q
theorem Wj {fs:aa->M (List Dt)}{i j:Nat}{x y:Str}{px py pt:Pos}{kt k2 iz}(hc:X.calm=true)(hN:X.N.Nodup)(hi:X.N[i]?=some x)(hj:X.N[j]?=some y)(mR:i≠j)
  (hx:X.env.scope.names.lookup x=some .local) (hy:X.env.scope.names.lookup y=some .local) (ha:Av X cls E [a,b] fs)
  (hw:swappedStores [.Tuple [.Name x px,.Name y py] kt pt] (.Tuple [a,b] k2 iz) X.env=pure (some [x,y]))
  (hs:swapsWithSole [.Tuple [.Name x px,.Name y py] kt pt] (.Tuple [a,b] k2 iz) pos.line X.env=pure false:=by rfl) :
  Sv X cls E (.Assign [.Tuple [.Name x px,.Name y py] kt pt] (.Tuple [a,b] k2 iz) pos) (As i j fs):=(Nm hc hN hi hj mR hx hy ha hw hs).imp fun D σ H ⟨Hin,A₀,ρ,⟨os,s0,L0,fr,F⟩,q⟩=>by
 refine⟨os,os++A₀,ρ,F,?_⟩;unfold As at q
 cases hm:fs ρ with
 |ok ds=>
  rw [hm] at q;intro vs H' s' r z;simp only [bG] at q;unfold AS at q
  split at q
  ·rename_i d e
   obtain⟨v,w,rfl,r1,r2⟩:=my r;exact⟨v,w,rfl,q _ H' ⟨os,s0.trans s',L0,fr,((F.mono s').put i r1 z.1).put j r2 z.2.1⟩⟩
  ·exact q.elim
 |ex c=>rw [hm] at q; exact fun H' s'=>q H' (s0.trans s')
 |bad=>rw [hm] at q; exact q
theorem dO {F G:SM}{tc:aa->M Bool}{sa sb:List Stmt}(hc:Tv X cls E c tc)(ha:Bv X cls E sa F)(hb:Bv X cls E sb G):Sv X cls E (.If c sa sb pos) (cY tc F G):=(xr hc ha hb).imp fun D σ H ⟨Hin,A₀,ρ,⟨os,s0,L0,fr,Ft⟩,q⟩=>
 ⟨os,os++A₀,ρ,Ft,Ya s0 q fun b H' _ q1 s'=>by
  have S':fJ X.K Hin A₀ ρ σ H':=⟨os,s0.trans s',L0,fr,Ft.mono s'⟩
  cases b with
  |false=>
   simp only [du,if_false] at q1 ⊢;exact⟨Hin,A₀,ρ,S',q1⟩
  |true=>
   simp only [if_true] at q1 ⊢;exact⟨Hin,A₀,ρ,S',q1⟩⟩
theorem Wl {st:Stmt}(h:Sv X.pK cls E0 st s):Sv X cls E st (fun ρ=>(s ρ).calm):=(PS.pK h).imp fun D σ H ⟨Hin,A₀,ρ,S,q⟩=>⟨Hin,A₀,ρ,S,by
 have q:jN X.K cls E Hin A₀ (s ρ).calm D:=q
 cases hm:s ρ with
 |ok fl=>rw [hm] at q; cases fl <;> exact q
 |ex c=>rw [hm] at q; exact(show False from q).elim
 |bad=>rw [hm] at q; exact(show False from q).elim⟩
abbrev Uv (X:Cx)(cls:Nat->Addr)(E:XK)(e:Expr)(f:aa->M Unit):Prop:=PE X e (Mq X.K cls E f)
theorem LU (h:Ev X cls E a f):Uv X cls E a (Ad f):=PE.imp h fun σ H Q ⟨O,A,ρ,F,q⟩=>⟨O,A,ρ,F,Rg.bind q fun d _ q1 v H' s' _ _=>q1 v H' s'⟩
theorem xa {x:Str}{np cq:Pos}{cn:Nat}{fu:aa->M Unit}(hc:X.calm=true)(R:Rz X E)(hg:Gl X x)(hm:X.mg x=some (.ref (cls cn)))(hK:excIn X.K (cls cn) mh "ValueError.__new__" = true)(he:Uv X cls E a fu)(bz:isStar a=false:=by rfl)
  (hd:(x==("__debug__" : Str))=false:=by decide):Sv X cls E (.Raise (some (.Call (.Name x np) [a] [] cq)) none pos) (pf cn fu):=(YE hc R hg hm hK he bz hd).imp fun D σ H ⟨Hin,A₀,ρ,⟨os,s0,L0,fr,F⟩,q⟩=>by
 refine⟨os,os++A₀,ρ,F,?_⟩;unfold pf at q
 cases gq:fu ρ with
 |ok u=>
  rw [gq] at q;exact fun v H' s'=>q H' (s0.trans s')
 |ex c=>rw [gq] at q; exact fun H' s'=>q H' (s0.trans s')
 |bad=>rw [gq] at q; exact q
theorem cF.weak {K:ah}{Hin TQ:Hp}{A₀ os:List Addr}{ρ:aa}{σ:St}{H:Hp}(h:cF K TQ A₀ os ρ σ H)(s:ax Hin TQ)(L:cQ Hin A₀):cF K Hin A₀ os ρ σ H:=by
 refine⟨s.trans h.1,L,fun a ha=>?_,h.2.2.2⟩
 cases q:Hin a with
 |none=>rfl
 |some o=>
  have e:=s a o q;rw [h.2.2.1 a ha] at e;exact nomatch e
theorem VM {ι:IM}{g:GM}{D:Ends}{σ:St}{H:Hp}(q:sM X.K cls E0 (Ff ι g s) D σ H):Mt (iM X.K cls E0 ι) (gM X.K g) (sM X.K cls E0 s) D σ H:=by
 obtain⟨Hin,A₀,ρ,⟨os,s0,L0,fr,F⟩,q⟩:=q;refine⟨os,os++A₀,ρ,F,?_⟩;unfold Ff at q
 cases hm:ι ρ with
 |ex c=>rw [hm] at q; exact fun H' s'=>q H' (s0.trans s')
 |bad=>rw [hm] at q; exact q
 |ok ds=>
  rw [hm] at q;simp only [bG] at q;intro J H1 s1 hJ;have sI:ax Hin (ak H1 os):=fun b o e=>by
   rw [cu fun z=>by rw [fr b z] at e; cases e];exact s1 b o (s0 b o e)
  have L1:cQ (ak H1 os) A₀:=L0.mono sI;have sJ:∀{H2},ax (ak H1 os) H2->ax (ak H1 (os++A₀)) H2:=fun s2 b o e=>by
   obtain⟨e1,e2⟩:=d6 e;refine s2 b o ?_;rw [cu fun z=>e1 (ej _ z)];exact e2
  refine⟨fun i m aL H'=>i<=ds.length/\m=ds.length - i/\∃aQ,fJ X.K (ak H1 os) A₀ aQ aL H'/\jN X.K cls E0 Hin A₀ (i9 g s (ds.drop i) aQ) D,
   ⟨ds.length,gX _,rfl,ρ,⟨os,bP,L1,fun a ha=>Qg ha,F.mono s1⟩,q⟩,?_⟩
  rintro i m aL H' ⟨hi,rfl,aQ,⟨lC,s',L',vm,F'⟩,q'⟩
  by_cases aT:i<ds.length
  ·refine .inr ⟨hJ.go i H' aT (sJ s'),fun eC H2=>i+1<=ds.length/\∃nD,fJ X.K (ak H1 os) A₀ nD eC H2/\jN X.K cls E0 Hin A₀ (i9 g s (ds.drop (i+1)) nD) D,fun eC H2 ⟨h1,h2⟩=>⟨ds.length - (i+1),by omega,h1,rfl,h2⟩,fun x H2 y=>?_⟩
   have sA:ax (ak H1 (os++A₀)) (ak H' (lC++A₀)):=fun b o e=>by
    obtain⟨e1,e2⟩:=d6 e;have e3:ak H1 os b=some o:=by rw [cu fun z=>e1 (ej _ z)]; exact e2
    rw [cu]
    ·exact s' b o e3
    ·intro z
     rcases eD.mp z with z | z
     ·rw [vm b z] at e3; cases e3
     ·exact e1 (eE _ z)
   obtain⟨sy,d,hd,rd⟩:=hJ.yl i H' x H2 (lC++A₀) aT F'.bL sA y;have ym:ds.drop i=d::ds.drop (i+1):=by
    rw [wB aT]
    congr 1
    have:=kN aT;rw [hd] at this;exact(iu this).symm
   rw [ym] at q';simp only [i9] at q'
   cases hg:g d aQ with
   |ex c=>rw [hg] at q'; exact(show False from q').elim
   |bad=>rw [hg] at q'; exact(show False from q').elim
   |ok a7=>
    rw [hg] at q';simp only [jc,bG] at q';refine⟨lC,lC++A₀,aQ,d,F'.mono sy,rd,hV hJ.small (jV hd),a7,hg,fun eC F2=>?_⟩;refine⟨ak H1 os,A₀,a7,⟨lC,s'.trans sy,L',vm,F2⟩,?_⟩
    cases hs:s a7 with
    |ex c=>rw [hs] at q'; exact(show False from q').elim
    |bad=>rw [hs] at q'; exact(show False from q').elim
    |ok fl=>
     rw [hs] at q';simp only [jc,bG] at q'
     cases fl with
     |nx nD=>exact fun ir H3 S3=>⟨aT,nD,S3,q'⟩
     |ct nD=>exact fun ir H3 S3=>⟨aT,nD,S3,q'⟩
     |bk nD=>exact fun ir H3 ⟨Zn,S3⟩=>q' ir H3 ⟨Zn,S3.weak sI L0⟩
     |rt d=>exact fun v H3 s3 r z=>q' v H3 (sI.trans s3) r z
  ·have e:i=ds.length:=by omega
   subst e;rw [wG] at q';exact .inl ⟨hJ.stop H' (sJ s'),q' aL H' ⟨lC,cF.weak ⟨s',L',vm,F'⟩ sI L0⟩⟩
theorem xb {iter tg:Expr}{body:List Stmt}{ι:IM}{g:GM}(hc:X.calm=true)(hi:Iv X.pK cls E0 tg iter ι)(hg:PG X.pK tg (gM X.K g))(hb:Bv X.pK cls E0 body s)
  (hs:∀x,foldedSetIterable iter X.env x=pure x:=by intro _; rfl):Sv X cls E (.For tg iter body [] pos) (ph ι g s):=
 Wl (X:=X) ((YF (X:=X.pK) PassesOwn.never hc hi hg hb hs).imp fun D σ H q=>VM q)
theorem IY {K:ah}{A:List Addr}{ds:List Dt}{vs:List V}{H:Hp}(L:cQ H A)(r:ar K (ak H A) ds vs)(z:bw ds)(n:Nat):bu K [] A (ds.map Bd.val++bM n .no) (vs.map some++bM n none) H:=by
 have hl:=r.length;have key:∀(i:Nat) b,(ds.map Bd.val++bM n .no)[i]?=some b->b=.no∨∃d,b=.val d/\ds[i]?=some d:=fun i b h=>by
  by_cases hi:i<ds.length
  ·rw [sX (by simpa using hi)] at h
   simp only [jT,jq] at h;obtain⟨d,h1,h2⟩:=h;exact .inr ⟨d,h2.symm,h1⟩
  ·rw [sY (by simp; omega)] at h
   exact .inl (DD (jV h))
 have no:∀{i b},(ds.map Bd.val++bM n .no)[i]?=some b->gJ b=true->False:=fun {i b} h o=>by
  rcases key i b h with e | ⟨d',e,hd⟩ <;> rw [e] at o <;> cases o
 refine⟨by simp [hl],L,(fun a z=>nomatch z),fun i d h=>?_,fun i b h o=>(no h o).elim,fun i j b c v w _ h _ o=>(no h o).elim,fun i p x y h=>?_⟩
 ·rcases key i _ h with e | ⟨d',e,hd⟩
  ·cases e
  ·cases e
   have hi:i<ds.length:=(eF.mp hd).1;have hx:vs[i]?=some (vs[i]'(by omega)):=by simp
   obtain⟨d2,h1,h2⟩:=r.get hx;rw [hd] at h1;cases h1;refine⟨_,?_,h2,hV z (jV hd)⟩;rw [sX (by simp; omega)];simp
 ·rcases key i _ h with e | ⟨d',e,hd⟩ <;> cases e
end
section
variable {P:Program}{w:World}{K:ah}{mg:Str->Option Value}{base:Heap}{cls:Nat->Addr}
theorem aez {x qual:Str}{st:Stmt}{f:Addr}{fd:FuncData}{N ps:List Str}{k np n:Nat}{b:SM}(F:eP K x qual st f fd)(S:bC N ps (ay st))(hp:ps.length=np)(hn:N.length=np+n)
  (gP:∀(aw:Value) (A:Around) (outer:List Env) (s:Shared) (H:Hp) (E:XK),bF k (A.deeper (envOfC qual (ay st) s.heap.objs.size f aw))->
   Rz (bW (aE P w) P w K mg base N qual (ay st) f aw A outer s H E) E->Bv (bW (aE P w) P w K mg base N qual (ay st) f aw A outer s H E) cls E (dg st) b) (hf:ps=[dR]->(ay st).names.lookup dR=some .local:=by first | assumption | decide +kernel) :
  cR P w K mg base (aE P w) (k+1) f fd ps (qT K cls (cO np n b)):=by
 have len:∀vs H Q E,qT K cls (cO np n b) vs H Q E->vs.length=np:=fun vs H Q E h_=>by
  obtain⟨A,ds,L,r,z,q⟩:=h_;unfold cO at q
  split at q
  ·rename_i hl
   rw [← r.length];exact hl
  ·exact(show False from q).elim
 refine F.mE S (fun vs H Q E h=>by rw [hp]; exact len vs H Q E h) fun aw A outer s H vs Q E hr h R=>?_;have hv:=len vs H Q E h;refine⟨_,gP aw A outer s H E hr R,?_⟩;obtain⟨B,ds,L,r,z,q⟩:=h;refine⟨H,B,ds.map Bd.val++bM n .no,⟨[],.refl _,L,(fun a z=>nomatch z),?_⟩,?_⟩
 ·have e:start N vs=vs.map some++bM n none:=by
   unfold start;rw [hn,hv,wA]
  rw [e];exact IY L r z n
 ·unfold cO at q
  split at q
  ·cases hm:b (ds.map Bd.val++bM n .no) with
   |ok fl=>
    rw [hm] at q
    cases fl with
    |nx ρ=>exact fun σ H' ⟨os,s',_,_,_⟩=>q .aK H' s' AD trivial
    |rt d=>exact fun v H' s' r' z'=>q v H' s' r' z'
    |bk ρ=>exact(show False from q).elim
    |ct ρ=>exact(show False from q).elim
   |ex c=>rw [hm] at q; exact q
   |bad=>rw [hm] at q; exact q
  ·exact(show False from q).elim
end
theorem kc {P:Program}{w:World}{X:Cx}:Passes (aE P w) X E0:=fun pins σ H s e s' I hc=>by
 obtain⟨ea,C,H',B,a0,_,_,_,_,_,_,_,_,_,hE⟩:=hc;exact hE.elim
section
variable {X:Cx}{cls:Nat->Addr}{E:XK}{a b c:Expr}{f g h:aa->M Dt}{pos:Pos}{st:Stmt}{rest:List Stmt}{s t:SM}{fs:aa->M (List Dt)}{es:List Expr}
theorem cF.anew {K:ah}{Hin:Hp}{A₀ os:List Addr}{ρ:aa}{σ:St}{H:Hp}{i:Nat}{p:Addr}{o:HO}{b:Bd}(S:cF K Hin A₀ os ρ σ H)(hp:H p=none)(hf:a5 (upd H p o) (.ref p) b=[p])
  (w:∀B,ax (ak H (os++A₀)) (ak (upd H p o) B)->jh K B (upd H p o) (.ref p) b):cF K Hin A₀ (p::os) (ρ.set i b) (σ.set i (some (.ref p))) (upd H p o):=by
 obtain⟨s0,L0,fr,F⟩:=S;have BD:p∉os++A₀:=F.bL.fresh hp;have s2:ax H (upd H p o):=.upd hp;have sh:ax (ak H (os++A₀)) (ak (upd H p o) ((p::os)++A₀)):=fun b o' e=>by
  obtain⟨e1,e2⟩:=d6 e;have hb:b∉(p::os)++A₀:=fun z=>(bf.mp z).elim (cN e2 hp) e1;rw [cu hb];exact s2 b o' e2
 refine⟨s0.trans s2,L0,fun a ha=>?_,F.set (fun a ha=>?_) (fun a ha=>ej _ ha) sh (fun a ha _=>⟨cG _ ha,aF fun z=>BD (z ▸ ej _ ha)⟩) (fun a ha hn=>⟨cG _ ha,fun z=>(bf.mp z).elim (fun y=>BD (y ▸ ha)) hn,aF fun z=>BD (z ▸ ha)⟩) (.inr ⟨w _ sh,fun a ha=>?_⟩)⟩
 ·rcases bf.mp ha with z | z
  ·subst z
   cases e:Hin a with
   |none=>rfl
   |some q=>have:=s0 a q e; rw [hp] at this; cases this
  ·exact fr a z
 ·rcases bf.mp ha with z | z
  ·subst z; rw [aX]; simp
  ·exact(F.bL.mono s2) a z
 ·rw [hf] at ha
  obtain rfl:a=p:=by simpa using ha
  exact⟨bN,.inl fun z=>BD (ej _ z)⟩
theorem cF.fresh {K:ah}{Hin:Hp}{A₀ os:List Addr}{ρ:aa}{σ:St}{H:Hp}{i:Nat}{ds:List Dt}{vs:List V}{p:Addr}(S:cF K Hin A₀ os ρ σ H)(hp:H p=none)(r:ar K (ak H (os++A₀)) ds vs)(z:bw ds)(hl:ds.length<=10000) :
  cF K Hin A₀ (p::os) (ρ.set i (.own ds)) (σ.set i (some (.ref p))) (upd H p (.lst vs)):=S.anew hp rfl fun B s=>⟨p,vs,rfl,aX,r.mono s,z,hl⟩
theorem cF.turn {K:ah}{Hin:Hp}{A₀ os:List Addr}{ρ:aa}{σ:St}{H:Hp}{i:Nat}{p:Addr}{o:HO}{b b':Bd}(S:cF K Hin A₀ os ρ σ H)(hi:ρ[i]?=some b)(hp:σ[i]?=some (some (.ref p)))(ho:gJ b=true)(hf:a5 H (.ref p) b=[p])(hf':a5 (upd H p o) (.ref p) b'=[p])
  (w:ak (upd H p o) (os++A₀)=ak H (os++A₀)->jh K (os++A₀) (upd H p o) (.ref p) b'):cF K Hin A₀ os (ρ.set i b') σ (upd H p o):=by
 obtain⟨s0,L0,fr,F⟩:=S;obtain⟨v,h1,h2,h3⟩:=F.ow i b hi ho;rw [hp] at h1;cases h1;have fF:p∈os:=h3 p (by rw [hf]; exact bN);have e:=yh (H:=H) (o:=o) (ej A₀ fF);have rX:m8 ρ σ H i=[p]:=by rw [IT hi hp ho]; exact hf
 refine⟨fun b o q=>?_,L0,fr,?_⟩
 ·rw [aF (cN q (fr p fF))]
  exact s0 b o q
 ·have F2:=F.set (i:=i) (v':=.ref p) (b':=b') (O':=os) (A':=os++A₀) (H':=upd H p o) (fun a ha=>?_) F.sub (by rw [e]; exact .refl _) (fun a ha hn=>⟨ha,aF fun z=>hn (by rw [rX,z]; exact bN)⟩) (fun a ha hn=>⟨ha,hn,aF fun z=>hn (z ▸ fF)⟩) (.inr ⟨w e,fun a ha=>?_⟩)
  ·rwa [set_same hp] at F2
  ·by_cases hz:a=p
   ·rw [hz,aX]; simp
   ·rw [aF hz]; exact F.bL a ha
  ·rw [hf'] at ha
   obtain rfl:a=p:=by simpa using ha
   exact⟨fF,.inr (by rw [rX]; exact bN)⟩
theorem cF.grow {K:ah}{Hin:Hp}{A₀ os:List Addr}{ρ:aa}{σ:St}{H:Hp}{i:Nat}{ds ns:List Dt}{p:Addr}{ys:List V}(S:cF K Hin A₀ os ρ σ H)(hi:ρ[i]?=some (.own ds))(hp:σ[i]?=some (some (.ref p)))
  (r:ar K (ak H (os++A₀)) ns ys) (z:bw ns) (zl:ns.length<=10000):cF K Hin A₀ os (ρ.set i (.own ns)) σ (upd H p (.lst ys)):=
 S.turn hi hp rfl rfl rfl fun e=>⟨p,ys,rfl,aX,by rw [e]; exact r,z,zl⟩
theorem cF.mono {K:ah}{Hin:Hp}{A₀ os:List Addr}{ρ:aa}{σ:St}{H H':Hp}(S:cF K Hin A₀ os ρ σ H)(s:ax H H'):cF K Hin A₀ os ρ σ H':=⟨S.1.trans s,S.2.1,S.2.2.1,S.2.2.2.mono s⟩
theorem Wr {i:Nat}{x:Str}{np apos cq:Pos}(hv:PE X (.Name x np) (dh i))(bz:isStar a=false)(he:Ev X cls E a f)
  (hs:swapsWith (.Call (.Attribute (.Name x np) "append" apos) [a] [] cq) none pos.line X.env=pure false:=by rfl)
  (oz:attributeBase (.Name x np) "append" X.env (eval (.Name x np) X.env)=eval (.Name x np) X.env:=by rfl)
  (yj:((backTo cq (starEach [a] X.env)).all (fun x=>!x.1)&&(backToKw cq (keywordEach [] X.env)).all (fun x=>x.1.isSome)
   && decide (([a]:List Expr).length+([]:List Keyword).length+(if ([]:List Keyword).isEmpty then 0 else 1)<30))=true:=by rfl)
  (lN:(apos.endLine==cq.line)=true:=by rfl) (kj:starEach [a] X.env=(false,eval a X.env)::starEach [] X.env:=by rfl) (x9:(backTo cq (starEach [] X.env)).any (·.1)=false:=by rfl) :
  Sv X cls E (.Expr (.Call (.Attribute (.Name x np) "append" apos) [a] [] cq) pos) (Ay i f):=
 (n4 (uH qA zZ DC xJ hv (ba _ _ _ _ _ bz he cC) oz yj lN kj x9) hs).imp fun D σ H ⟨Hin,A₀,ρ,⟨os,S⟩,q⟩=>by
 unfold Ay CB at q
 split at q
 ·rename_i ds hi
  have F:=S.2.2.2;obtain⟨p,xs,h1,h2,h3,h4,h5,h6⟩:=F.own i ds hi;refine⟨.ref p,h1,.inl ⟨rfl,xs,bX.of h3⟩,os,os++A₀,ρ,F,lq S.1 q fun d v H' _ q1 s' r z=>?_⟩
  split at q1
  ·rename_i hl
   have hlen:=h4.length;refine⟨p,xs,v,rfl,rfl,s' _ _ h3,zL (by omega:xs.length<=10000) (by decide),q1 _ _ ⟨os,?_⟩⟩;exact(S.mono s').grow hi h1 ((h4.mono (s'.ak _)).append (.cons r .nil)) (qU h5 ⟨z,trivial⟩) (by simp; omega)
  ·exact q1.elim
 ·exact q.elim
end
section
variable {X:Cx}{cls:Nat->Addr}{E:XK}{a b c:Expr}{f g h:aa->M Dt}{pos:Pos}{fs:aa->M (List Dt)}{es:List Expr}
theorem B9 {x:Str}{j p apos}(ha:Av X cls E [a] fs)(bz:isStar a=false)(hx:x=⟨([]:List Nat).toArray⟩:=by decide +kernel)(lN:(apos.endLine==pos.line)=true:=by rfl):Ev X cls E (.Call (.Attribute (.Constant (.str x) j p) "join" apos) [a] [] pos) (pH oh (pC (.str [])) fs):=by
 have hs:starEach [a] X.env=(false,eval a X.env)::starEach [] X.env:=j6 bz;exact aeU PySem.F.plainAttrs_str PySem.F.slot_str_join PySem.F.type_str_join abb (a9 (l:=[]) hx) ha rfl (by rw [hs]; rfl) lN hs rfl
end
theorem Of:typeLookup (.type "str") "__int__" = pure none:=by rw [typeLookup_type,builtinLookup_eq_fast]; kernel_rfl
theorem Oi:typeLookup (.type "str") "__index__" = pure none:=by rw [typeLookup_type,builtinLookup_eq_fast]; kernel_rfl
theorem Oe:typeLookup (.type "str") "__trunc__" = pure none:=by rw [typeLookup_type,builtinLookup_eq_fast]; kernel_rfl
theorem aba (t:Tok):Meets (Builtin.«int.__new__» ⟨[.type "int",.str ⟨#[48]⟩ t],[]⟩) (Made.int 0).spec:=
 Meets.of_wp fun prog w A R s hs=>by
  obtain⟨hp,g,d,tk,os⟩:=s;have f1:=F.conv_sub_int;have f2:=F.madeHere_int;have f3:=Of;have f4:=Oi;have f5:=Oe
  repeat (any_goals (first | assumption | wp_step))
  refine Eq.mpr (congrArg (fun m=>wpAny (model prog w) A.in1 m _ _ _) (show _=mkInt 0 from ?e)) ?_
  case e=>kernel_rfl
  repeat (any_goals (first | assumption | wp_step))
  all_goals exact⟨_,rfl,hs⟩
theorem aa9 (t:Tok):Meets (Builtin.«int.__new__» ⟨[.type "int",.str ⟨#[49]⟩ t],[]⟩) (Made.int 1).spec:=
 Meets.of_wp fun prog w A R s hs=>by
  obtain⟨hp,g,d,tk,os⟩:=s;have f1:=F.conv_sub_int;have f2:=F.madeHere_int;have f3:=Of;have f4:=Oi;have f5:=Oe
  repeat (any_goals (first | assumption | wp_step))
  refine Eq.mpr (congrArg (fun m=>wpAny (model prog w) A.in1 m _ _ _) (show _=mkInt 1 from ?e)) ?_
  case e=>kernel_rfl
  repeat (any_goals (first | assumption | wp_step))
  all_goals exact⟨_,rfl,hs⟩
section
variable {X:Cx}{cls:Nat->Addr}{E:XK}
theorem agr:fj X (.type "int") (fun xs H Q=>xs=[S [48]]/\Q (.int 0) H):=by
 intro pins s σ H xs us Q I r ⟨e,q⟩;subst e;obtain⟨u,rfl,t,rfl⟩:=r.one;exact call_int_1 (aba t) (show (Made.int 0).post _ s from⟨rfl,fun ht=>⟨.int 0,H,I.tok _,⟨_,rfl⟩,q⟩⟩)
theorem agp:fj X (.type "int") (fun xs H Q=>xs=[S [49]]/\Q (.int 1) H):=by
 intro pins s σ H xs us Q I r ⟨e,q⟩;subst e;obtain⟨u,rfl,t,rfl⟩:=r.one;exact call_int_1 (aa9 t) (show (Made.int 1).post _ s from⟨rfl,fun ht=>⟨.int 1,H,I.tok _,⟨_,rfl⟩,q⟩⟩)
theorem JF:qy X cls E (.type "int") oO:=by
 refine⟨_,agq.or (agr.or agp),fun A H Q ds vs L r z q=>?_⟩;unfold oO at q
 split at q
 ·rename_i i
  obtain⟨v,rfl,rv⟩:=j8 r;exact .inl (.inl ⟨i,by rw [dw rv],q _ H (.refl _) dP trivial⟩)
 ·rename_i b
  obtain⟨v,rfl,rv⟩:=j8 r;exact .inl (.inr ⟨b,by rw [rf rv],q _ H (.refl _) dP trivial⟩)
 ·obtain⟨v,rfl,rv⟩:=j8 r
  exact .inr (.inl ⟨by rw [cL rv],q _ H (.refl _) dP trivial⟩)
 ·obtain⟨v,rfl,rv⟩:=j8 r
  exact .inr (.inr ⟨by rw [cL rv],q _ H (.refl _) dP trivial⟩)
 ·exact(show False from q).elim
end
abbrev fZ (h:Heap)(T:Addr)(xs:Array Value):Prop:=h.get? T=some {cls:=.type "tuple",data:=.seq xs}
theorem D9 {prog:Program}{w:World}{A:Around}{E:Value->Shared->Prop}{s:Shared}{T:Addr}{xs:Array Value}{x:Value}{k:Nat}{Q:Unit->Shared->Prop}(hT:fZ s.heap T xs)
  (h:∀h',fZ h' T (xs.setIfInBounds k x)->kG T s.heap h'->Q () {s with heap:=h'}) (hx:xs.size<=100:=by simp) :
  wpAny (model prog w) A (updateSeq T (·.setIfInBounds k x)) Q E s:=by
 refine wpAny_updateSeq hT rfl (h _ ?_ (Dk ..)) (hz:=cK hx (by decide)) (_hz':=by rw [Array.size_setIfInBounds]; exact cK hx (by decide));show Heap.get? _ _=_;rw [zV _ hT rfl];simp [Obj.mapSeq]
structure CJ (z TI TO i1 i2:Addr) (f1:List Addr) (f2:List Addr):Prop where
 TIz:TI≠z
 TOz:TO≠z
 TITO:TI≠TO
 z1:i1≠z
 TI1:TI≠i1
 Ta:TO≠i1
 IQ:z∉f1
 Je:TO∉f1
 i12:i1≠i2
 f12:i2∉f1
 z2:i2≠z
 TI2:TI≠i2
 TO2:TO≠i2
 IP:z∉f2
 Jd:TO∉f2
 i21:i2≠i1
 Rt:i1∉f2
section
variable {prog:Program}{w:World}{A:Around}{E:Value->Shared->Prop}{s:Shared}{z TI TO i1 i2:Addr}{f1:List Addr}{n1:Nat}{P1:Nat->Value->Prop}{S1:Nat->Heap->Prop}{f2:List Addr}{n2:Nat}{P2:Nat->Value->Prop}{S2:Nat->Heap->Prop}
theorem Uc (L:CJ z TI TO i1 i2 f1 f2)(D1:Draws prog w A i1 f1 n1 P1 S1)(D2:Draws prog w A i2 f2 n2 P2 S2){m:Nat}{a1 a2:Value}(hz:IsZip s.heap z TI TO .none)(jG:fZ s.heap TI #[.ref i1,.ref i2])(ko:fZ s.heap TO #[a1,a2])(iV:S1 m s.heap)(g9:S2 m s.heap)(h1:m<n1)(h2:m<n2){Q:Value->Shared->Prop}
  (hQ:∀x1 x2 h' tk,P1 m x1->P2 m x2->IsZip h' z TI TO (rawInt s.heap.objs.size)->fZ h' TO #[x1,x2]->S1 (m+1) h'->S2 (m+1) h'->fZ h' s.heap.objs.size #[x1,x2]->(∀c o,c≠z->c≠TO->c≠i1->c≠i2->s.heap.get? c=some o->h'.get? c=some o)->Q (.ref s.heap.objs.size) {s with heap:=h',toks:=tk}) :
  wpAny (model prog w) A (Builtin.«zip.__next__» ⟨[.ref z],[]⟩) (fun fin s'=>∃v,fin=.done (.ret v)/\Q v s') E s:=by
 show wpAny _ _ (field (.ref z) 2 >>= _) _ _ _;refine wpAny_bind (wpAny_field hz rfl (x:=.bool false) rfl ?_);show wpAny _ _ (field (.ref z) 3 >>= _) _ _ _;refine wpAny_bind (wpAny_field hz rfl (x:=.ref TI) rfl ?_);refine wpAny_bind (wpAny_seqItems jG rfl ?_);show wpAny _ _ (zp (.ref z) >>= _) _ _ _;refine wpAny_bind ?_;unfold zp;refine wpAny_bind (wpAny_field hz rfl (x:=.none) rfl (wpAny_pure ?_));simp only [if_true];refine wpAny_bind (wpAny_rule ?_);refine wpAny_bind (wpAny_field hz rfl (x:=.ref TO) rfl ?_);refine wpAny_bind (wpAny_setField_rec hz (by simp) fun g0 pR mP=>?_)
 replace pR:IsZip g0 z TI TO .ellipsis:=pR
 refine wpAny_bind ?_;simp only [List.zipIdx_cons,List.zipIdx_nil,zC,List.forIn_nil];have Eo:fZ g0 TO #[a1,a2]:=mP.extBut _ _ L.TOz ko;have xn:=D1.frame _ _ _ iV fun b hb o e=>mP.extBut b o (fun q=>L.IQ (q ▸ hb)) e;have Fj:=D2.frame _ _ _ g9 fun b hb o e=>mP.extBut b o (fun q=>L.IP (q ▸ hb)) e;refine wpAny_bind (wpAny_bind (wpAny_onRaise ?_));show wpAny _ _ (o6 (.ref i1) >>= _) _ _ _;refine wpAny_bind (D1.item m _ _ _ h1 xn fun x1 IK Ma Ni Fh mO=>wpAny_pure ?_);have wY:fZ IK TO #[a1,a2]:=mO.extBut _ _ L.Ta Eo;refine wpAny_bind (wpAny_seqItems wY rfl ?_);refine wpAny_bind (D9 wY fun g1 uq kj=>?_)
 replace uq:fZ g1 TO #[x1,a2]:=uq
 refine wpAny_bind (wpAny_letGo (wpAny_pure ?_));have MY:=D1.frame _ _ _ Fh fun b hb o e=>kj.extBut b o (fun q=>L.Je (q ▸ hb)) e;have Az:=D2.frame _ _ _ (D2.frame _ _ _ Fj fun b hb o e=>mO.extBut b o (fun q=>L.Rt (q ▸ hb)) e) fun b hb o e=>kj.extBut b o (fun q=>L.Jd (q ▸ hb)) e;have Hk:IsZip g1 z TI TO .ellipsis:=kj.extBut _ _ L.TOz.symm (mO.extBut _ _ L.z1.symm pR);refine wpAny_bind (wpAny_bind (wpAny_onRaise ?_));show wpAny _ _ (o6 (.ref i2) >>= _) _ _ _;refine wpAny_bind (D2.item m _ _ _ h2 Az fun x2 g2a tk2 Yv XU xY=>wpAny_pure ?_);have Mn:fZ g2a TO #[x1,a2]:=xY.extBut _ _ L.TO2 uq;refine wpAny_bind (wpAny_seqItems Mn rfl ?_);refine wpAny_bind (D9 Mn fun g2 Am fD=>?_)
 replace Am:fZ g2 TO #[x1,x2]:=Am
 refine wpAny_bind (wpAny_letGo (wpAny_pure (wpAny_pure ?_)));have XX:=D1.frame _ _ _ (D1.frame _ _ _ MY fun b hb o e=>xY.extBut b o (fun q=>L.f12 (q ▸ hb)) e) fun b hb o e=>fD.extBut b o (fun q=>L.Je (q ▸ hb)) e;have XW:=D2.frame _ _ _ XU fun b hb o e=>fD.extBut b o (fun q=>L.Jd (q ▸ hb)) e;have PU:IsZip g2 z TI TO .ellipsis:=fD.extBut _ _ L.TOz.symm (xY.extBut _ _ L.z2.symm Hk);refine wpAny_bind (wpAny_seqItems Am rfl ?_);refine wpAny_bind (wpAny_newTuple ?_);have hsz:g2.objs.size=s.heap.objs.size:=by rw [fD.1,xY.1,kj.1,mO.1,mP.1]
 have hk2:∀c o,c≠z->c≠TO->c≠i1->c≠i2->s.heap.get? c=some o->g2.get? c=some o:=fun c o c1 c2 d1 d2 e=>fD.extBut _ _ c2 (xY.extBut _ _ d2 (kj.extBut _ _ c2 (mO.extBut _ _ d1 (mP.extBut _ _ c1 e))));have PR:z<g2.objs.size:=a6 PU;show wpAny _ _ (LA (.ref z) (.ref g2.objs.size) >>= _) _ _ _;refine wpAny_bind ?_;unfold LA;have hz6:IsZip (g2.push {cls:=.type "tuple",data:=.seq #[x1,x2]}) z TI TO .ellipsis:=aZ _ PU
 refine wpAny_bind (wpAny_setField_rec hz6 (by simp) fun h7 Hj P4=>?_)
 replace Hj:IsZip h7 z TI TO (rawInt g2.objs.size):=Hj
 refine wpAny_setField_rec Hj (by simp) fun h8 Bx P0=>?_
 replace Bx:IsZip h8 z TI TO (rawInt g2.objs.size):=Bx
 have up:∀c o,c≠z->g2.get? c=some o->h8.get? c=some o:=fun c o c1 e=>P0.extBut _ _ c1 (P4.extBut _ _ c1 (aZ _ e));have Qt:fZ h8 g2.objs.size #[x1,x2]:=P0.extBut _ _ (wC PR) (P4.extBut _ _ (wC PR) (cS _ rfl));rw [hsz] at Bx Qt;refine wpAny_pure ⟨_,rfl,?_⟩;show Q (.ref g2.objs.size) _;rw [hsz];exact hQ x1 x2 h8 _ Ni Yv Bx (up _ _ L.TOz Am) (D1.frame _ _ _ XX fun b hb o e=>up b o (fun q=>L.IQ (q ▸ hb)) e) (D2.frame _ _ _ XW fun b hb o e=>up b o (fun q=>L.IP (q ▸ hb)) e) Qt fun c o c1 c2 d1 d2 e=>up c o c1 (hk2 c o c1 c2 d1 d2 e)
end
section
variable {prog:Program}{w:World}{A:Around}{E:Value->Shared->Prop}{s:Shared}{z TI TO i1 i2:Addr}{f1:List Addr}{n1:Nat}{P1:Nat->Value->Prop}{S1:Nat->Heap->Prop}{f2:List Addr}{n2:Nat}{P2:Nat->Value->Prop}{S2:Nat->Heap->Prop}
theorem Ud (L:CJ z TI TO i1 i2 f1 f2)(D1:Draws prog w A i1 f1 n1 P1 S1)(D2:Draws prog w A i2 f2 n2 P2 S2){a1 a2:Value}(hz:IsZip s.heap z TI TO .none)(jG:fZ s.heap TI #[.ref i1,.ref i2])(ko:fZ s.heap TO #[a1,a2])(iV:S1 (min (n1) n2) s.heap)(g9:S2 (min (n1) n2) s.heap){Q:Fin->Shared->Prop}
  (hE:∀h' e tk,(∀c o,c≠z->c≠TO->c≠i1->c≠i2->s.heap.get? c=some o->h'.get? c=some o)->(∃o,h'.get? e=some o/\o.cls=.type "StopIteration")->E (.ref e) {s with heap:=h',toks:=tk}) :
  wpAny (model prog w) A (Builtin.«zip.__next__» ⟨[.ref z],[]⟩) Q E s:=by
 generalize hm:min (n1) n2=m at iV g9;show wpAny _ _ (field (.ref z) 2 >>= _) _ _ _;refine wpAny_bind (wpAny_field hz rfl (x:=.bool false) rfl ?_);show wpAny _ _ (field (.ref z) 3 >>= _) _ _ _;refine wpAny_bind (wpAny_field hz rfl (x:=.ref TI) rfl ?_);refine wpAny_bind (wpAny_seqItems jG rfl ?_);show wpAny _ _ (zp (.ref z) >>= _) _ _ _;refine wpAny_bind ?_;unfold zp;refine wpAny_bind (wpAny_field hz rfl (x:=.none) rfl (wpAny_pure ?_));simp only [if_true];refine wpAny_bind (wpAny_rule ?_);refine wpAny_bind (wpAny_field hz rfl (x:=.ref TO) rfl ?_);refine wpAny_bind (wpAny_setField_rec hz (by simp) fun g0 pR mP=>?_)
 replace pR:IsZip g0 z TI TO .ellipsis:=pR
 refine wpAny_bind ?_;simp only [List.zipIdx_cons,List.zipIdx_nil,zC,List.forIn_nil];have Eo:fZ g0 TO #[a1,a2]:=mP.extBut _ _ L.TOz ko;have xn:=D1.frame _ _ _ iV fun b hb o e=>mP.extBut b o (fun q=>L.IQ (q ▸ hb)) e;have Fj:=D2.frame _ _ _ g9 fun b hb o e=>mP.extBut b o (fun q=>L.IP (q ▸ hb)) e;have k0:∀c o,c≠z->c≠TO->c≠i1->c≠i2->s.heap.get? c=some o->g0.get? c=some o:=fun c o c1 c2 d1 d2 e=>mP.extBut _ _ c1 e;refine wpAny_bind (wpAny_bind (wpAny_onRaise ?_));show wpAny _ _ (o6 (.ref i1) >>= _) _ _ _
 by_cases q1:n1<=m
 ·have e1:n1=m:=by omega
  rw [← e1] at xn;refine wpAny_bind (D1.done _ _ _ xn fun g e he hS=>?_);obtain⟨oe,rR,oy⟩:=hS;have xX:IsZip g z TI TO .ellipsis:=he _ _ L.z1.symm pR;have HU:e≠z:=fun q=>by subst q; rw [xX] at rR; cases rR; simp at oy
  refine wpAny_setField_rec xX (by simp) fun h3 _ rQ=>hE h3 e _ (fun c o c1 c2 d1 d2 x=>rQ.extBut _ _ c1 (he _ _ d1 (k0 c o c1 c2 d1 d2 x))) ⟨oe,rQ.extBut _ _ HU rR,oy⟩
 ·refine wpAny_bind (D1.item m _ _ _ (by omega) xn fun x1 IK Ma Ni Fh mO=>wpAny_pure ?_)
  have wY:fZ IK TO #[a1,a2]:=mO.extBut _ _ L.Ta Eo;refine wpAny_bind (wpAny_seqItems wY rfl ?_);refine wpAny_bind (D9 wY fun g1 uq kj=>?_)
  replace uq:fZ g1 TO #[x1,a2]:=uq
  refine wpAny_bind (wpAny_letGo (wpAny_pure ?_));have MY:=D1.frame _ _ _ Fh fun b hb o e=>kj.extBut b o (fun q=>L.Je (q ▸ hb)) e;have Az:=D2.frame _ _ _ (D2.frame _ _ _ Fj fun b hb o e=>mO.extBut b o (fun q=>L.Rt (q ▸ hb)) e) fun b hb o e=>kj.extBut b o (fun q=>L.Jd (q ▸ hb)) e;have Hk:IsZip g1 z TI TO .ellipsis:=kj.extBut _ _ L.TOz.symm (mO.extBut _ _ L.z1.symm pR);have k1:∀c o,c≠z->c≠TO->c≠i1->c≠i2->s.heap.get? c=some o->g1.get? c=some o:=fun c o c1 c2 d1 d2 e=>kj.extBut _ _ c2 (mO.extBut _ _ d1 (k0 c o c1 c2 d1 d2 e));refine wpAny_bind (wpAny_bind (wpAny_onRaise ?_));show wpAny _ _ (o6 (.ref i2) >>= _) _ _ _;have e2:n2=m:=by omega
  rw [← e2] at Az;refine wpAny_bind (D2.done _ _ _ Az fun g e he hS=>?_);obtain⟨oe,rR,oy⟩:=hS;have xX:IsZip g z TI TO .ellipsis:=he _ _ L.z2.symm Hk;have HU:e≠z:=fun q=>by subst q; rw [xX] at rR; cases rR; simp at oy
  refine wpAny_setField_rec xX (by simp) fun h3 _ rQ=>hE h3 e _ (fun c o c1 c2 d1 d2 x=>rQ.extBut _ _ c1 (he _ _ d2 (k1 c o c1 c2 d1 d2 x))) ⟨oe,rQ.extBut _ _ HU rR,oy⟩
end
section
variable {prog:Program}{w:World}{A:Around}{E:Value->Shared->Prop}{s:Shared}
theorem aaM {it l:Addr}{i:Nat}{items}{x:Value}{Q:Value->Shared->Prop}(hit:s.heap.IsTupleIter it l i)(hl:s.heap.IsTuple l items)(hx:items[i]?=some x)
  (hQ:∀h',h'.IsTupleIter it l (i+1)->kG it s.heap h'->Q x {s with heap:=h'}) :
  wpAny (model prog w) A (o6 (.ref it)) Q E s:=by
 obtain⟨o,ho,hc,hd⟩:=id hit;obtain⟨ol,vb,_,nl,i5⟩:=hl;unfold o6;refine wpAny_bind (wpAny_callSpecial?_slot (name:=Str.ofString "__next__") hit.typeIs zm (wpAny_call_entry zm hit.typeIs F.entry_tuple_iterator_next ?_ (F.args_tuple_iterator_next_1 _)))
 show wpAny _ _ (field (.ref it) 0 >>= _) _ _ s;refine wpAny_bind (wpAny_field ho hd (x:=.ref l) rfl ?_);show wpAny _ _ (if (bO l==gW)=true then _ else _) _ _ s;rw [if_neg (show ¬ ((bO l==gW)=true) from gy)];show wpAny _ _ (field (.ref it) 1 >>= _) _ _ s;refine wpAny_bind (wpAny_field ho hd (x:=.int i 0) rfl ?_);show wpAny _ _ (seqItems? (.ref l) >>= _) _ _ s;refine wpAny_bind (wpAny_seqItems vb i5 ?_);simp only [zJ,hx];refine wpAny_bind (wpAny_setField ho hd (by simp) (wpAny_pure ⟨x,rfl,wpAny_pure (hQ _ ?_ (Dk ..))⟩));exact⟨_,zV _ ho (Obj.isFreed_of_fields (zK hd _)),(Obj.cls_mapFields ..).trans hc,by rw [zK hd]; simp [rawInt]⟩
theorem aaN {it l:Addr}{i:Nat}{items}{Q:Value->Shared->Prop}(hh:A.handled=none)(hit:s.heap.IsTupleIter it l i)(hl:s.heap.IsTuple l items)(hx:items[i]?=none)
  (hE:∀h' e,Heap.ExtBut it s.heap h'->(∃o,h'.get? e=some o/\o.cls=.type "StopIteration")->E (.ref e) {s with heap:=h'}) :
  wpAny (model prog w) A (o6 (.ref it)) Q E s:=by
 obtain⟨o,ho,hc,hd⟩:=id hit;obtain⟨ol,vb,_,nl,i5⟩:=hl;unfold o6;refine wpAny_bind (wpAny_callSpecial?_slot (name:=Str.ofString "__next__") hit.typeIs zm (wpAny_call_entry zm hit.typeIs F.entry_tuple_iterator_next ?_ (F.args_tuple_iterator_next_1 _)))
 show wpAny _ _ (field (.ref it) 0 >>= _) _ _ s;refine wpAny_bind (wpAny_field ho hd (x:=.ref l) rfl ?_);show wpAny _ _ (if (bO l==gW)=true then _ else _) _ _ s;rw [if_neg (show ¬ ((bO l==gW)=true) from gy)];show wpAny _ _ (field (.ref it) 1 >>= _) _ _ s;refine wpAny_bind (wpAny_field ho hd (x:=.int i 0) rfl ?_);show wpAny _ _ (seqItems? (.ref l) >>= _) _ _ s;refine wpAny_bind (wpAny_seqItems vb i5 ?_);simp only [zJ,hx];refine wpAny_bind (wpAny_rule (wpAny_bind (wpAny_setField ho hd (by simp) ?_)));show wpAny _ _ (newExc (.type "StopIteration") [] >>= _) _ _ _
 refine wpAny_bind ?_;simp only [newExc,newTuple];refine wpAny_bind (wpAny_newObj_type ?_ (by size_fits));refine wpAny_bind (m:=firstArgMember _ _) (wpAny_of_eq (a:=gW) (by first | rfl | (simp only [firstArgMember]; rfl)) ?_);refine wpAny_newObj_type ?_ (by size_fits);simp only [raiseNew];refine wpAny_bind (wpAny_handled ?_)
 first | rw [show A.in1.handled=none from hh] | rw [hh]
 refine wpAny_bind (wpAny_pure (wpAny_throw ?_));exact hE _ _ (((Dk ..).extBut.push _).push _) ⟨_,cS _ rfl,rfl⟩
theorem afh (hh:A.handled=none)(it l:Addr)(bS:l≠it)(items:Array Value):Draws prog w A it [it,l] items.size (fun i v=>items[i]?=some v) (fun i h=>h.IsTupleIter it l i/\h.IsTuple l items) where
 live:=fun _ _ st=>let ⟨o,ho,_⟩:=st.1; ⟨o,ho⟩
 frame:=fun _ _ _ st hk=>⟨let ⟨o,ho,r⟩:=st.1; ⟨o,hk it (by simp) o ho,r⟩,let ⟨o,ho,r⟩:=st.2; ⟨o,hk l (by simp) o ho,r⟩⟩
 item:=fun i s Q E hi st hQ=>by
  refine aaM st.1 st.2 (x:=items[i]) (by simp [hi]) fun h' adj xZ=>?_;exact hQ _ h' s.toks (by simp [hi]) ⟨adj,st.2.extBut xZ.extBut bS⟩ xZ
 done:=fun s Q E st hE=>aaN hh st.1 st.2 (by simp) hE
end
inductive Src where
 |L (a:Addr) | T (l:List Nat) (t:Tok) | U (a:Addr)
def Src.it:Src->Addr->Nat->Heap->Prop
 |.L a,j,i,h=>h.IsListIter j a i
 |.T l t,j,i,h=>h.IsStrIter j (strIterType ⟨l.toArray⟩) ⟨l.toArray⟩ t i
 |.U a,j,i,h=>h.IsTupleIter j a i
def Src.vals (K:ah)(H:Hp):Src->List V->Prop
 |.L a,xs=>bX K H a xs
 |.T l _,xs=>xs=hW l
 |.U a,xs=>cP K H a xs
def Src.fp:Src->Addr->List Addr
 |.L a,j=>[j,a]
 |.T _ _,j=>[j]
 |.U a,j=>[j,a]
def Src.con:Src->List Value->Heap->Prop
 |.L a,us,h=>h.IsList a us.toArray
 |.T _ _,_,_=>True
 |.U a,us,h=>h.IsTuple a us.toArray
def Src.num:Src->List Value->Nat
 |.L _,us=>us.length
 |.T l _,_=>l.length
 |.U _,us=>us.length
def Src.P:Src->List Value->Nat->Value->Prop
 |.L _,us,i,v=>us.toArray[i]?=some v
 |.T l _,_,i,v=>∃c u,l[i]?=some c/\v=.str ⟨#[c]⟩ u
 |.U _,us,i,v=>us.toArray[i]?=some v
def Src.lt:Src->Nat->Prop
 |.L a,n=>a<n
 |.T _ _,_=>True
 |.U a,n=>a<n
def Src.val:Src->Value
 |.L a=>.ref a
 |.T l t=>.str ⟨l.toArray⟩ t
 |.U a=>.ref a
def Src.obj:Src->Obj
 |.L a=>{cls:=.type "list_iterator",data:=.fields #[.ref a,.int 0 0]}
 |.T l t=>{cls:=.type (strIterType ⟨l.toArray⟩),data:=.fields #[.str ⟨l.toArray⟩ t,.int 0 0]}
 |.U a=>{cls:=.type "tuple_iterator",data:=.fields #[.ref a,.int 0 0]}
theorem Src.draws {prog:Program}{w:World}{A:Around}(hh:A.handled=none)(sc:Src){j:Addr}(hj:sc.lt j)(us:List Value):Draws prog w A j (sc.fp j) (sc.num us) (sc.P us) (fun i h=>sc.it j i h/\sc.con us h):=by
 cases sc with
 |L a=>exact Draws.list hh j a (bQ hj) us.toArray
 |U a=>exact afh hh j a (bQ hj) us.toArray
 |T l t=>
  have go:∀ty,ty=strIterType ⟨l.toArray⟩->Draws prog w A j [j] l.length (fun i v=>∃c u,l[i]?=some c/\v=.str ⟨#[c]⟩ u) (fun i h=>h.IsStrIter j ty ⟨l.toArray⟩ t i):=fun ty ki=>by
   have ht:ty = "str_ascii_iterator" ∨ty = "str_iterator" := by
    rw [ki];unfold strIterType
    split
    ·exact .inl rfl
    ·exact .inr rfl
   rcases ht with h | h
   ·rw [h]; simpa using Draws.strAscii (prog:=prog) (w:=w) hh j ⟨l.toArray⟩ t
   ·rw [h]; simpa using Draws.strWide (prog:=prog) (w:=w) hh j ⟨l.toArray⟩ t
  have D:=go _ rfl;exact⟨fun i h st=>D.live i h st.1,fun i h h' st k=>⟨D.frame i h h' st.1 k,trivial⟩,fun i s Q E hi st hQ=>D.item i s Q E hi st.1 fun x h' tk p hU sb=>hQ x h' tk p ⟨hU,trivial⟩ sb,fun s Q E st hE=>D.done s Q E st.1 hE⟩
theorem Src.use {X:Cx}{pins:List (Addr×Obj)}{σ:St}{H:Hp}{s:Shared}(I:Inv X pins σ H s){sc:Src}{xs:List V}(hv:sc.vals X.K H xs):∃us,sc.con us s.heap/\sc.num us=xs.length/\∀i v,sc.P us i v->∃x,xs[i]?=some x/\RelV x v:=by
 cases sc with
 |L a=>
  obtain⟨us,rv,p,_⟩:=I.list hv;refine⟨us,p.isList,rv.length.symm,fun i v h=>?_⟩;have h':us[i]?=some v:=by simpa using (show us.toArray[i]?=some v from h)
  have hi:i<us.length:=(eF.mp h').1;have hx:i<xs.length:=by rw [rv.length]; exact hi
  obtain⟨u,hu,ru⟩:=rv.get (x:=xs[i]) (i:=i) (by simp [hx]);rw [h'] at hu;cases hu;exact⟨xs[i],by simp [hx],ru⟩
 |U a=>
  obtain⟨us,rv,p,_⟩:=I.tuple hv;refine⟨us,p,rv.length.symm,fun i v h=>?_⟩;have h':us[i]?=some v:=by simpa using (show us.toArray[i]?=some v from h)
  have hi:i<us.length:=(eF.mp h').1;have hx:i<xs.length:=by rw [rv.length]; exact hi
  obtain⟨u,hu,ru⟩:=rv.get (x:=xs[i]) (i:=i) (by simp [hx]);rw [h'] at hu;cases hu;exact⟨xs[i],by simp [hx],ru⟩
 |T l t=>
  have e:xs=hW l:=hv;subst e;refine⟨[],trivial,(WX l).symm,fun i v h=>?_⟩;obtain⟨c,u,hc,rfl⟩:=h;exact⟨S [c],by simp [hW,hc],⟨u,rfl⟩⟩
theorem Src.inj {X:Cx}{pins:List (Addr×Obj)}{σ:St}{H:Hp}{s:Shared}(I:Inv X pins σ H s){sc:Src}{xs ys:List V}(h:sc.vals X.K H xs)(h':sc.vals X.K H ys):xs=ys:=by
 cases sc with
 |L a=>exact I.GN h h'
 |U a=>exact I.Ee h h'
 |T l t=>exact(show xs=hW l from h).trans (show ys=hW l from h').symm
theorem Src.Bt {sc:Src}{j:Addr}{i:Nat}{h h':Heap}(x:sc.it j i h)(k:∀o,h.get? j=some o->h'.get? j=some o):sc.it j i h':=by
 cases sc with
 |L a=>exact Heap.IsListIter.at x k
 |U a=>obtain⟨o,e,r⟩:=x; exact⟨o,k o e,r⟩
 |T l t=>obtain⟨o,e,r⟩:=x; exact⟨o,k o e,r⟩
theorem Src.Bs {sc:Src}{j:Addr}{i:Nat}{h:Heap}(x:sc.it j i h):∃o,h.get? j=some o/\∀v,o.data≠.cell v:=by
 cases sc with
 |L a=>obtain⟨o,e,c,d⟩:=x; exact⟨o,e,fun v z=>by rw [d] at z; cases z⟩
 |U a=>obtain⟨o,e,c,d⟩:=x; exact⟨o,e,fun v z=>by rw [d] at z; cases z⟩
 |T l t=>obtain⟨o,e,c,d⟩:=x; exact⟨o,e,fun v z=>by rw [d] at z; cases z⟩
theorem Src.Pz {sc:Src}{j:Addr}{h:Heap}(e:h.get? j=some sc.obj):sc.it j 0 h:=by
 cases sc with
 |L a=>exact⟨_,e,rfl,rfl⟩
 |U a=>exact⟨_,e,rfl,rfl⟩
 |T l t=>exact⟨_,e,rfl,rfl⟩
def Src.ok:Src->Heap->Prop
 |.L a,h=>∃items,h.IsList a items
 |.T _ _,_=>True
 |.U a,h=>∃items,h.IsTuple a items
theorem Src.iter {prog:Program}{w:World}{A:Around}{E:Value->Shared->Prop}{s:Shared}{sc:Src}{Q:Value->Shared->Prop}(ok:sc.ok s.heap)(hQ:Q (.ref s.heap.objs.size) {s with heap:=s.heap.push sc.obj}):wpAny (model prog w) A (pyIter sc.val) Q E s:=by
 cases sc with
 |L a=>obtain⟨items,hl⟩:=ok; exact wpAny_pyIter_list hl hQ
 |U a=>obtain⟨items,hl⟩:=ok; exact wpAny_pyIter_tuple hl hQ
 |T l t=>exact wpAny_pyIter_strU hQ
theorem Src.ZT {sc:Src}{h:Heap}{o:Obj}(x:sc.ok h):sc.ok (h.push o):=by
 cases sc with
 |L a=>obtain⟨items,hl⟩:=x; exact⟨items,hl.push _⟩
 |U a=>obtain⟨items,hl⟩:=x; exact⟨items,hl.push _⟩
 |T l t=>trivial
def KZ (K:ah)(s1 s2:Src):It:=
 ⟨fun i H=>∃iQ iP,s1.vals K H iQ/\s2.vals K H iP/\i<min (iQ.length) iP.length,
  fun i H x H'=>∃T x1 x2,x=.ref T/\H T=none/\H'=upd H T (.tup [x1,x2])/\(∀xs,s1.vals K H xs->xs[i]?=some x1)/\(∀xs,s2.vals K H xs->xs[i]?=some x2),
  fun i H=>∃iQ iP,s1.vals K H iQ/\s2.vals K H iP/\i=min (iQ.length) iP.length⟩
theorem Vs {P:Program}{w:World}{K:ah}{elts:List Expr}{kk:Nat}{qL:Pos}{z TI TO i1 i2:Addr}{s1 s2:Src}(L:CJ z TI TO i1 i2 (s1.fp i1) (s2.fp i2))(l1:s1.lt i1)(l2:s2.lt i2) :
  Turn P w K (.Tuple elts kk qL) (KZ K s1 s2) [z,TI,TO,i1,i2] z (fun i h=>IsZip h z TI TO .none/\fZ h TI #[.ref i1,.ref i2]/\(∃a1 a2,fZ h TO #[a1,a2])/\s1.it i1 i h/\s2.it i2 i h) where
 mem:=by simp
 obj:=fun i h st b hb=>by
  obtain⟨hz,jG,⟨a1,a2,ko⟩,t1,t2⟩:=st;simp only [bf,fw,or_false] at hb;rcases hb with rfl | rfl | rfl | rfl | rfl
  ·exact⟨_,hz,fun v z=>nomatch z⟩
  ·exact⟨_,jG,fun v z=>nomatch z⟩
  ·exact⟨_,ko,fun v z=>nomatch z⟩
  ·exact(Src.Bs t1)
  ·exact(Src.Bs t2)
 keep:=fun i h h' st k=>by
  obtain⟨hz,jG,⟨a1,a2,ko⟩,t1,t2⟩:=st;exact⟨k z (by simp) _ hz,k TI (by simp) _ jG,⟨a1,a2,k TO (by simp) _ ko⟩,(Src.Bt t1 fun o e=>k i1 (by simp) o e),(Src.Bt t2 fun o e=>k i2 (by simp) o e)⟩
 item:=by
  intro X hP hw hK hc i pins s σ H E I hf st hg;subst hP hw hK;obtain⟨iQ,iP,BA,Bz,hi⟩:=hg;obtain⟨Ab,c1,m1,r1⟩:=Src.use I BA;obtain⟨Aa,c2,m2,r2⟩:=Src.use I Bz;obtain⟨hz,jG,⟨a1,a2,ko⟩,t1,t2⟩:=st;have hT:s.TypeIs (.ref z) "zip" := ⟨_,hz,rfl⟩
  have D1:=Src.draws (prog:=X.prog) (w:=X.w) (A:=X.A.in1) (I.ok.hd hc) s1 l1 Ab;have D2:=Src.draws (prog:=X.prog) (w:=X.w) (A:=X.A.in1) (I.ok.hd hc) s2 l2 Aa;unfold pyNext;refine wpAny_bind (wpAny_attempt (wpAny_callSpecial?_slot (name:=Str.ofString "__next__") hT zy (wpAny_call_entry zy hT F.entry_zip_next (Uc L D1 D2 hz jG ko ⟨t1,c1⟩ ⟨t2,c2⟩ (by rw [m1]; omega) (by rw [m2]; omega) fun v1 v2 h' tk p1 p2 y1 y2 w1 w2 y3 hk=>wpAny_pure ?_) (F.args_zip_next_1 _))))
  refine(fun ht=>⟨_,rfl,wpAny_letOwnedTupleGo_zip y1 fun i7 acy uZ=>?_⟩);obtain⟨x1,gx1,X2⟩:=r1 i v1 p1;obtain⟨x2,gx2,X1⟩:=r2 i v2 p2;have lt:∀{c o},s.heap.get? c=some o->s.heap.objs.size≠c:=fun e=>wC (a6 e);have hTz:s.heap.objs.size≠z:=lt hz;have ab3:∀b o,b∉[z,TO,i1,i2]->s.heap.get? b=some o->i7.get? b=some o:=fun b o hb e=>uZ.extBut _ _ (fun q=>hb (by simp [q])) (hk b o (fun q=>hb (by simp [q])) (fun q=>hb (by simp [q])) (fun q=>hb (by simp [q])) (fun q=>hb (by simp [q])) e);have I2:Inv X pins σ (upd H s.heap.objs.size (.tup [x1,x2])) {s with heap:=i7,toks:=tk}:=
   I.Vq (ch:=[z,TO,i1,i2]) (fun b hb=>hf b (by simp only [bf,fw,or_false] at hb ⊢; rcases hb with h | h | h | h <;> simp [h])) ab3 (bb _)
    ⟨by show 2<=sizeLine; decide,[v1,v2],(.cons X2 (.cons X1 .nil)),⟨_,uZ.extBut _ _ hTz y3,rfl,_,rfl⟩⟩
  refine(fun ht=>⟨.ref s.heap.objs.size,_,I2,rfl,⟨s.heap.objs.size,x1,x2,rfl,I.au.fresh (bb _),rfl,(fun xs h=>by rw [Src.inj I h BA]; exact gx1),(fun xs h=>by rw [Src.inj I h Bz]; exact gx2)⟩,⟨acy,uZ.extBut _ _ L.TIz (hk _ _ L.TIz L.TITO L.TI1 L.TI2 jG),⟨_,_,uZ.extBut _ _ L.TOz y2⟩,(Src.Bt w1.1 fun o e=>uZ.extBut _ _ L.z1 e),(Src.Bt w2.1 fun o e=>uZ.extBut _ _ L.z2 e)⟩,fun b hb=>?_⟩);have bne:b≠s.heap.objs.size:=by
   rintro rfl;have g9:∃o,s.heap.get? s.heap.objs.size=some o:=by
    simp only [bf,fw,or_false] at hb;rcases hb with h | h | h | h | h
    ·rw [h]; exact⟨_,hz⟩
    ·rw [h]; exact⟨_,jG⟩
    ·rw [h]; exact⟨_,ko⟩
    ·rw [h]; obtain⟨o,e,_⟩:=(Src.Bs t1); exact⟨o,e⟩
    ·rw [h]; obtain⟨o,e,_⟩:=(Src.Bs t2); exact⟨o,e⟩
   obtain⟨o,e⟩:=g9;exact absurd (a6 e) (fM _)
  rw [aF bne];exact(hf b hb).1
 done:=by
  intro X hP hw hK hc i pins s σ H E I hf st hg;subst hP hw hK;obtain⟨iQ,iP,BA,Bz,hi⟩:=hg;obtain⟨Ab,c1,m1,r1⟩:=Src.use I BA;obtain⟨Aa,c2,m2,r2⟩:=Src.use I Bz;obtain⟨hz,jG,⟨a1,a2,ko⟩,t1,t2⟩:=st;have hT:s.TypeIs (.ref z) "zip" := ⟨_,hz,rfl⟩
  have D1:=Src.draws (prog:=X.prog) (w:=X.w) (A:=X.A.in1) (I.ok.hd hc) s1 l1 Ab;have D2:=Src.draws (prog:=X.prog) (w:=X.w) (A:=X.A.in1) (I.ok.hd hc) s2 l2 Aa;have ei:i=min (s1.num Ab) (s2.num Aa):=by rw [m1,m2]; exact hi
  rw [ei] at t1 t2;unfold pyNext;refine wpAny_bind (wpAny_attempt (wpAny_callSpecial?_slot (name:=Str.ofString "__next__") hT zy (wpAny_call_entry zy hT F.entry_zip_next (Ud L D1 D2 hz jG ko ⟨t1,c1⟩ ⟨t2,c2⟩ fun h' e tk hk he=>?_) (F.args_zip_next_1 _))))
  obtain⟨o,ho,fT⟩:=he;refine wpAny_bind (wpAny_isInstance (T:="StopIteration") (b:=true) ⟨o,ho,fT⟩ isSubtype_stop ?_)
  exact wpAny_pure (fun ht=>⟨rfl,I.Vr (ch:=[z,TO,i1,i2]) (fun b hb=>hf b (by simp only [bf,fw,or_false] at hb ⊢; rcases hb with h | h | h | h <;> simp [h])) fun b u hb e=>hk b u (fun q=>hb (by simp [q])) (fun q=>hb (by simp [q])) (fun q=>hb (by simp [q])) (fun q=>hb (by simp [q])) e⟩)
 self:=fun _ _ _ _ _ st h=>wpAny_pyIter_zip st.1 h
def Src.Bu:Src->Nat->V->Prop
 |.L a,k,v=>k=0/\v=.ref a
 |.T l _,k,v=>k=1/\v=S l
 |.U a,k,v=>k=2/\v=.ref a
def nr (k:Nat)(K:ah)(H:Hp)(v:V):Prop:=(k=0/\∃a xs,v=.ref a/\bX K H a xs)∨(k=1/\∃l,v=S l)∨(k=2/\∃a xs,v=.ref a/\cP K H a xs)
theorem nr.mono {k:Nat}{K:ah}{H H':Hp}{v:V}(h:nr k K H v)(s:ax H H'):nr k K H' v:=by
 rcases h with ⟨e,a,xs,rfl,hq⟩ | h | ⟨e,a,xs,rfl,hq⟩
 ·exact .inl ⟨e,a,xs,rfl,s.seq hq⟩
 ·exact .inr (.inl h)
 ·exact .inr (.inr ⟨e,a,xs,rfl,s.fP hq⟩)
theorem nr.src {X:Cx}{pins:List (Addr×Obj)}{σ:St}{H:Hp}{s:Shared}(I:Inv X pins σ H s){v:V}{u:Value}{k:Nat}(h:nr k X.K H v)(r:RelV v u):∃sc:Src,sc.Bu k v/\u=sc.val/\sc.ok s.heap/\sc.lt s.heap.objs.size:=by
 rcases h with ⟨rfl,a,xs,rfl,hq⟩ | ⟨rfl,l,rfl⟩ | ⟨rfl,a,xs,rfl,hq⟩
 ·cases r
  obtain⟨ao,_,p,_⟩:=I.list hq;obtain⟨o,e,_⟩:=id p.isList;exact⟨.L a,⟨rfl,rfl⟩,rfl,⟨_,p.isList⟩,a6 e⟩
 ·obtain⟨t,rfl⟩:=r
  exact⟨.T l t,⟨rfl,rfl⟩,rfl,trivial,trivial⟩
 ·cases r
  obtain⟨ao,_,p,_⟩:=I.tuple hq;obtain⟨o,e,_⟩:=id p;exact⟨.U a,⟨rfl,rfl⟩,rfl,⟨_,p⟩,a6 e⟩
theorem Src.mono {K:ah}{H H':Hp}{sc:Src}{xs:List V}(h:sc.vals K H xs)(s:ax H H'):sc.vals K H' xs:=by
 cases sc with
 |L a=>exact s.seq h
 |U a=>exact s.fP h
 |T l t=>exact h
theorem Src.OJ {sc:Src}{m n:Nat}(h:sc.lt m)(k:m<=n):sc.lt n:=by
 cases sc with
 |L a=>exact cH h k
 |U a=>exact cH h k
 |T l t=>trivial
theorem Src.A7 {sc:Src}{m:Nat}{j b:Addr}(h:sc.lt m)(hb:m<=b)(hj:b≠j):b∉sc.fp j:=by
 cases sc with
 |L a=>
  intro z;rcases bf.mp z with z | z
  ·exact hj z
  ·have:b=a:=by simpa using z
   subst this;exact absurd (cH (show b<m from h) hb) (fM _)
 |U a=>
  intro z;rcases bf.mp z with z | z
  ·exact hj z
  ·have:b=a:=by simpa using z
   subst this;exact absurd (cH (show b<m from h) hb) (fM _)
 |T l t=>intro z; exact hj (by simpa [Src.fp] using z)
theorem MW {K:ah}{H:Hp}{d:Dt}{ds:List Dt}{v:V}(h:kZ d=.ok ds)(r:Rep K H d v):∃k,nr k K H v/\∀sc:Src,sc.Bu k v->∃xs,sc.vals K H xs/\ar K H ds xs:=by
 cases d with
 |lst l=>
  cases h;obtain⟨a,xs,rfl,h1,h2⟩:=fQ r;refine⟨0,.inl ⟨rfl,a,xs,rfl,h1⟩,fun sc hs=>?_⟩
  cases sc with
  |L b=>cases (show V.ref a=.ref b from hs.2); exact⟨xs,h1,h2⟩
  |T m t=>exact nomatch hs.1
  |U b=>exact nomatch hs.1
 |str l=>
  cases h;have e:v=S l:=by simpa only [Rep] using r
  subst e;refine⟨1,.inr (.inl ⟨rfl,l,rfl⟩),fun sc hs=>?_⟩
  cases sc with
  |L b=>exact nomatch hs.1
  |U b=>exact nomatch hs.1
  |T m t=>
   have:=KN (show S l=S m from hs.2);subst this;exact⟨hW l,rfl,Fq l⟩
 |_=>cases h
def wN (hp:Heap)(s1 s2:Src):Heap:=((hp.push s1.obj).push s2.obj).push {cls:=.type "tuple",data:=.seq #[.ref (hp).objs.size,.ref ((hp.push s1.obj)).objs.size]}
def wM (hp:Heap)(s1 s2:Src):Heap:=(wN hp s1 s2).push {cls:=.type "tuple",data:=.seq #[.none,.none]}
def qF (hp:Heap)(s1 s2:Src):Heap:=(wM hp s1 s2).push {cls:=.type "zip",data:=.fields #[.none,.bool false,.bool false,.ref (((hp.push s1.obj).push s2.obj)).objs.size,.ref (wN hp s1 s2).objs.size]}
theorem mz2 (s1 s2:Src):Meets (Builtin.«zip.__new__» ⟨[.type "zip",s1.val,s2.val],[]⟩) (fun _ R s=>s1.ok s.heap/\s2.ok s.heap/\R (.ok (.ret (.ref (wM s.heap s1 s2).objs.size))) {s with heap:=qF s.heap s1 s2}):=
 .of_wp fun prog w A R s h=>by
  obtain⟨hp,g,d,tk,os⟩:=s;obtain⟨o1,o2,h⟩:=h;have acK:=sub_zip;have hI1:∀{A:Around} {E:Value->Shared->Prop} {Q:Value->Shared->Prop},Q (.ref (hp).objs.size) ⟨(hp.push s1.obj),g,d,tk,os⟩->wpAny (model prog w) A (pyIter s1.val) Q E ⟨hp,g,d,tk,os⟩:=fun q=>Src.iter (s:=⟨hp,g,d,tk,os⟩) o1 q;have hI2:∀{A:Around} {E:Value->Shared->Prop} {Q:Value->Shared->Prop},Q (.ref ((hp.push s1.obj)).objs.size) ⟨((hp.push s1.obj).push s2.obj),g,d,tk,os⟩->wpAny (model prog w) A (pyIter s2.val) Q E ⟨(hp.push s1.obj),g,d,tk,os⟩:=fun q=>Src.iter (s:=⟨(hp.push s1.obj),g,d,tk,os⟩) (Src.ZT o2) q
  wp_walk using hI1,hI2
  exact⟨_,rfl,h⟩
theorem abC (hp:Heap)(s1 s2:Src):(wN hp s1 s2).objs.size=hp.objs.size+3/\(wM hp s1 s2).objs.size=hp.objs.size+4/\((hp.push s1.obj)).objs.size=hp.objs.size+1/\(((hp.push s1.obj).push s2.obj)).objs.size=hp.objs.size+2:=by
 simp [wN,wM,kH]
theorem YR {X:Cx}{tl:List Expr}{kk:Nat}{qL p pos:Pos}{a b:Expr}{ta:TA}(hg:Gl X "zip")(hm:X.mg "zip" = none)(ha:PA X [a,b] ta)(hs:starEach [a,b] X.env=(false,eval a X.env)::starEach [b] X.env)(fD:(backTo pos (starEach [b] X.env)).any (·.1)=false) :
  PI X (.Tuple tl kk qL) (.Call (.Name "zip" p) [a,b] [] pos) (fun σ H R=>ta σ H fun vs H1=>∃v1 v2 k1 k2,vs=[v1,v2]/\nr k1 X.K H1 v1/\nr k2 X.K H1 v2/\∀s1 s2:Src,s1.Bu k1 v1->s2.Bu k2 v2->R (KZ X.K s1 s2) H1):=by
 intro pins s σ H R I h;refine Call_ (mH I hg hm boot_zip (sZ (aG (ha pos pins s σ H _ I h) fun us s' ⟨vs,H1,I1,r1,q1⟩=>?_) hs fD));obtain⟨v1,v2,k1,k2,e,w1,w2,q⟩:=q1;subst e;obtain⟨u1,u2,rfl,r1,r2⟩:∃u1 u2,us=[u1,u2]/\RelV v1 u1/\RelV v2 u2:=by
  cases r1 with | cons g1 r2=>cases r2 with | cons g2 r3=>cases r3; exact⟨_,_,rfl,g1,g2⟩
 obtain⟨s1,iv1,rfl,ok1,GH⟩:=w1.src I1 r1;obtain⟨s2,iv2,rfl,ok2,GG⟩:=w2.src I1 r2;refine callType_new F.called_zip (by decide) (F.typeCall_zip_2 _ _) (F.newCall_zip_2 _ _) (fun obj=>F.args_object_init_3 obj _ _) F.entry_zip_new (mz2 s1 s2) ⟨ok1,ok2,?_⟩;obtain⟨zA,zB,z1,z2⟩:=abC s'.heap s1 s2;have gz:(qF s'.heap s1 s2).get? (wM s'.heap s1 s2).objs.size=some _:=cS _ rfl;have gO:(qF s'.heap s1 s2).get? (wN s'.heap s1 s2).objs.size=some _:=aZ _ (cS _ rfl);have gI:(qF s'.heap s1 s2).get? (((s'.heap.push s1.obj).push s2.obj)).objs.size=some _:=aZ _ (aZ _ (cS _ rfl));have g1:(qF s'.heap s1 s2).get? (s'.heap).objs.size=some s1.obj:=(aZ _ (aZ _ (aZ _ (aZ _ (cS _ (by cases s1 <;> rfl))))))
 have g2:(qF s'.heap s1 s2).get? ((s'.heap.push s1.obj)).objs.size=some s2.obj:=(aZ _ (aZ _ (aZ _ (cS _ (by cases s2 <;> rfl)))))
 have kk':∀c o,s'.heap.get? c=some o->(qF s'.heap s1 s2).get? c=some o:=fun c o x=>(aZ _ (aZ _ (aZ _ (aZ _ (aZ _ x)))))
 show _/\_;rw [zB,zA,z2] at gz;rw [zA] at gO;rw [z2,z1] at gI;rw [z1] at g2;rw [zB];refine⟨⟨_,gz,rfl⟩,fun _=>wpAny_pyIter_zip gz fun _=>?_⟩;have L:CJ (s'.heap.objs.size+4) (s'.heap.objs.size+2) (s'.heap.objs.size+3) (s'.heap.objs.size) (s'.heap.objs.size+1) (s1.fp (s'.heap.objs.size)) (s2.fp (s'.heap.objs.size+1)):=by
  have ne:∀i j:Nat,i≠j->s'.heap.objs.size+i≠s'.heap.objs.size+j:=fun i j h z=>h (Nat.add_left_cancel z);constructor
  all_goals first | exact ne _ _ (by decide) | exact ne 0 _ (by decide) | exact ne _ 0 (by decide) | exact Src.A7 GH (kK _ _) (by first | exact ne _ _ (by decide) | exact ne 0 _ (by decide) | exact ne _ 0 (by decide)) | exact Src.A7 GH (bb _) (ne 0 _ (by decide)) | exact Src.A7 GG (kK _ _) (by first | exact ne _ _ (by decide) | exact ne 0 _ (by decide) | exact ne _ 0 (by decide)) | exact Src.A7 GG (bb _) (ne 0 _ (by decide))
 refine⟨s'.heap.objs.size+4,[s'.heap.objs.size+4,s'.heap.objs.size+2,s'.heap.objs.size+3,s'.heap.objs.size,s'.heap.objs.size+1],_,_,H1,rfl,I1.kept (t':=s'.toks) kk',Vs (s1:=s1) (s2:=s2) L (Src.OJ GH (by first | exact bb _ | exact kK _ _)) (Src.OJ GG (by first | exact bb _ | exact kK _ _)),⟨gz,gI,⟨_,_,gO⟩,Src.Pz g1,Src.Pz g2⟩,fun b hb=>?_,q s1 s2 iv1 iv2⟩;have cj:s'.heap.objs.size<=b:=by
  simp only [bf,fw,or_false] at hb;rcases hb with h | h | h | h | h <;> (rw [h]; first | exact bb _ | exact kK _ _)
 exact I1.qd cj (I1.au.fresh cj)
theorem MJ {d:Dt}{c:Nat}(h:kZ d=.ex c):False:=by cases d <;> cases h
theorem acb {K:ah}{A:List Addr}{s1 s2:Src}{d1 d2:List Dt}{iQ iP:List V}{H1:Hp}(h1:s1.vals K (ak H1 A) iQ)(r1:ar K (ak H1 A) d1 iQ)(z1:bw d1)(l1:d1.length<=10000)(h2:s2.vals K (ak H1 A) iP)(r2:ar K (ak H1 A) d2 iP)(z2:bw d2)(l2:d2.length<=10000):nu K A (KZ K s1 s2) (js d1 d2) H1:=by
 have e1:=r1.length;have e2:=r2.length;have hz:(js d1 d2).length=min (d1.length) d2.length:=by simp [js]
 refine⟨fun i H hi s=>⟨iQ,iP,Src.mono h1 s,Src.mono h2 s,by omega⟩,fun H s=>⟨iQ,iP,Src.mono h1 s,Src.mono h2 s,by omega⟩,fun i H x H' A' hi L s y=>?_,mr fun d hd=>?_,by omega⟩
 ·obtain⟨T,x1,x2,rfl,hT,rfl,y1,y2⟩:=y
  have g1:=y1 iQ (Src.mono h1 (s.trans bP));obtain⟨c1,k1,q1⟩:=r1.get g1;have g2:=y2 iP (Src.mono h2 (s.trans bP));obtain⟨c2,k2,q2⟩:=r2.get g2;have s2:ax H (upd H T (.tup [x1,x2])):=.upd hT;refine⟨s2,.tup [c1,c2],?_,qZ (ou L hT) (.cons ((q1.mono s).mono (s2.ak _)) (.cons ((q2.mono s).mono (s2.ak _)) .nil))⟩;simp [js,List.getElem?_zip_eq_some,k1,k2]
 ·obtain⟨p,hp,rfl⟩:=dF.mp hd
  have m1:=wF hp;exact⟨by show 2<=10000; decide,hV z1 m1.1,hV z2 m1.2,trivial⟩
theorem MI {d:Dt}{ds:List Dt}(h:kZ d=.ok ds)(z:sm d):bw ds/\ds.length<=10000:=by
 cases d with
 |lst l=>cases h; exact⟨z.2,z.1⟩
 |str l=>cases h; exact⟨MN l,by rw [eV,ef]; exact z⟩
 |_=>cases h
theorem Ha {X:Cx}{cls:Nat->Addr}{E:XK}{tl:List Expr}{kk:Nat}{qL p pos:Pos}{a b:Expr}{fs:aa->M (List Dt)}(hg:Gl X "zip")(hm:X.mg "zip" = none)(ha:Av X cls E [a,b] fs)(hs:starEach [a,b] X.env=(false,eval a X.env)::starEach [b] X.env:=by rfl)(fD:(backTo pos (starEach [b] X.env)).any (·.1)=false:=by rfl) :
  Iv X cls E (.Tuple tl kk qL) (.Call (.Name "zip" p) [a,b] [] pos) (lK tG fs):=(YR hg hm ha hs fD).imp fun σ H R ⟨O,A,ρ,F,q⟩=>by
 refine⟨O,A,ρ,F,Rg.bind q fun ds km q1=>?_⟩
 clear km
 intro vs H1 s1 r1 z1;unfold tG at q1
 split at q1
 ·rename_i e1 e2
  obtain⟨v1,v2,rfl,t1,t2⟩:=my r1
  cases g1:kZ e1 with
  |ex c=>exact(MJ g1).elim
  |bad=>rw [g1] at q1; exact(show False from q1).elim
  |ok d1=>
   rw [g1] at q1;simp only [bG] at q1
   cases g2:kZ e2 with
   |ex c=>exact(MJ g2).elim
   |bad=>rw [g2] at q1; exact(show False from q1).elim
   |ok d2=>
    rw [g2] at q1;simp only [bG] at q1;obtain⟨k1,a1,b1⟩:=MW g1 t1;obtain⟨EI,ln1⟩:=MI g1 z1.1;have aa1:nr k1 X.K H1 v1:=a1.mono bP;obtain⟨k2,a2,b2⟩:=MW g2 t2;obtain⟨MP,ln2⟩:=MI g2 z1.2.1;have aa2:nr k2 X.K H1 v2:=a2.mono bP;refine⟨v1,v2,k1,k2,rfl,aa1,aa2,fun c1 c2 i1 i2=>?_⟩;obtain⟨iQ,m1,n1⟩:=b1 c1 i1;obtain⟨iP,m2,n2⟩:=b2 c2 i2;exact q1 _ H1 s1 (acb m1 n1 EI ln1 m2 n2 MP ln2)
 ·exact(show False from q1).elim
def yC:List (List Nat×List Nat)->List Nat->Option (List Nat)
 | [],_=>none
 | (k,v)::r,l=>if l=k then some v else yC r l
def oI (P:Params)(q:List Nat×Tok×List Nat×Tok):DictEntry:=⟨l7 P ⟨q.1.toArray⟩,.str ⟨q.1.toArray⟩ q.2.1,.str ⟨q.2.2.1.toArray⟩ q.2.2.2⟩
def K7 (w:World)(K:ah)(a:Addr)(kvs:List (List Nat×List Nat)):Prop:=
 ∃(qs:List (List Nat×Tok×List Nat×Tok)) (ep:Nat),K.lookup a=some {cls:=.type "dict",dict:=none,data:=.dict (qs.map (oI w.params)).toArray ep,slots:=#[]}/\kvs=qs.map fun q=>(q.1,q.2.2.1)
theorem OU (w:World)(x:Str):l7 w.params x=hashStr w x:=by
 rfl
theorem Q0 {P:Params}:∀{qs:List (List Nat×Tok×List Nat×Tok)}{l v:List Nat},yC (qs.map fun q=>(q.1,q.2.2.1)) l=some v->∃t,((qs.map (oI P)).find? fun e=>fo ⟨l.toArray⟩ e.key).map (·.val)=some (.str ⟨v.toArray⟩ t)
 | [],l,v,h=>by cases h
 |q::qs,l,v,h=>by
  simp only [bI,yC] at h;rw [bI,iL]
  by_cases e:l=q.1
  ·rw [if_pos e] at h
   cases h;have:fo ⟨l.toArray⟩ (oI P q).key=true:=by simp [oI,fo,e]
   rw [this];exact⟨q.2.2.2,rfl⟩
  ·rw [if_neg e] at h
   have:fo ⟨l.toArray⟩ (oI P q).key=false:=by
    simp only [oI,fo];rw [beq_eq_false_iff_ne];intro z;injection z with z;exact e (by simpa using (congrArg jm z).symm)
   rw [this];exact Q0 h
theorem ab5 {X:Cx}{a:Addr}{kvs:List (List Nat×List Nat)}(D:K7 X.w X.K a kvs):nt X (fun x y H Q=>∃l v,x=.ref a/\y=S l/\yC kvs l=some v/\Q (S v) H):=by
 intro value slice pins s σ H x y v u Q I rx ry h hs;obtain⟨l,c,ex,ey,hd,q⟩:=h;subst ex ey;cases rx;obtain⟨t,rfl⟩:=ry;obtain⟨qs,ep,hk,rfl⟩:=D;have ho:=I.e8 a _ hk;obtain⟨t',ht⟩:=Q0 (P:=X.w.params) hd;have hm:s.heap.MapOf (strKind X.prog X.w) a (fun k=>findBy fo (qs.map (oI X.w.params)).toArray k):=by
  refine⟨_,_,ep,ho,⟨rfl,rfl,rfl⟩,rfl,?_,fun _=>rfl⟩;intro e he;have HV:e∈qs.map (oI X.w.params):=by simpa using he
  obtain⟨q,_,rfl⟩:=dF.mp HV;exact⟨⟨q.1.toArray⟩,strKind_is X.prog X.w _ _,OU _ _⟩
 have hv:findBy fo (qs.map (oI X.w.params)).toArray ⟨l.toArray⟩=some (.str ⟨c.toArray⟩ t'):=by
  unfold findBy;rw [List.find?_toArray];exact ht
 refine subscriptTail_builtinR (x:=.str ⟨c.toArray⟩ t') hm.typeIs slot_dict_getitem.lookup (wpAny_getItem_of (k:=⟨l.toArray⟩) (strKind_is X.prog X.w _ _) hm hv ⟨rfl,?_⟩) hs;exact(fun ht=>⟨S c,H,I.tok _,⟨t',rfl⟩,q⟩)
section
variable {X:Cx}{cls:Nat->Addr}{E:XK}{a b v:Expr}{f g:aa->M Dt}{fs:aa->M (List Dt)}{pos:Pos}
theorem R0:∀{kvs:List (List Nat×List Nat)}{d e:Dt},ng (kvs.map fun q=>(q.1,Dt.str q.2)) d=.ok e->∃l m,d=.str l/\yC kvs l=some m/\e=.str m/\∃k,(k,m)∈kvs
 | [],d,e,h=>by cases h
 | (k,m)::r,d,e,h=>by
  cases d with
  |str l=>
   simp only [bI,ng] at h
   by_cases z:l=k
   ·rw [if_pos z] at h
    cases h;exact⟨l,m,rfl,if_pos z,rfl,k,bN ..⟩
   ·rw [if_neg z] at h
    obtain⟨l',m',e1,e2,e3,k',e4⟩:=R0 h;cases e1;exact⟨l,m',rfl,(if_neg z).trans e2,e3,k',cG _ e4⟩
  |_=>cases h
theorem RZ:∀{kvs:List (List Nat×Dt)}{d:Dt}{c:Nat},ng kvs d≠.ex c
 | [],d,c=>by intro h; cases h
 | (k,m)::r,d,c=>by
  intro h
  cases d with
  |str l=>
   simp only [ng] at h
   split at h
   ·cases h
   ·exact RZ h
  |_=>cases h
theorem aeR {x:Str}{p:Pos}{aD:Addr}{kvs:List (List Nat×List Nat)}(D:K7 X.w X.K aD kvs)(hg:Gl X x)(hm:X.mg x=some (.ref aD))(hb:Ev X cls E b g)(hs:KP b)(hz:∀q∈kvs,q.2.length<=10000:=by decide)(hd:(x==("__debug__" : Str))=false:=by decide) :
  Ev X cls E (.Subscript (.Name x p) b pos) (p1 (Cj kvs) g):=by
 refine(rg (ab5 D) (j9 hg hm (v:=.ref aD) rfl hd) hb hs).imp fun σ H Q h_=>?_;obtain⟨O,A,ρ,F,q⟩:=h_;refine⟨O,A,ρ,F,Rg.bind q fun d _ q1=>?_⟩;intro u H1 s1 r1 z1;unfold Cj at q1
 cases e:ng (kvs.map fun q=>(q.1,Dt.str q.2)) d with
 |ok c=>
  obtain⟨l,m,rfl,h2,rfl,k,hk⟩:=R0 e;rw [e] at q1;exact⟨l,m,rfl,cL r1,h2,q1 _ H1 s1 mz (hz _ hk)⟩
 |ex c=>exact(RZ e).elim
 |bad=>rw [e] at q1; exact(show False from q1).elim
def kz (ks:List (List Nat))(us:List Value):List (Str×Value):=(ks.map fun k=>(⟨k.toArray⟩:Str)).zip us
def PD (X:Cx)(cls:Nat->Addr)(E:XK)(pairs:List (Sem Value×Sem Value))(ks:List (List Nat))(fs:aa->M (List Dt)):Prop:=
 ∀(pins:List (Addr×Obj)) (s:Shared) (σ:St) (H:Hp) (Q:List V->Hp->Prop),Inv X pins σ H s->mm X.K cls E fs σ H Q->
  wpAny (model X.prog X.w) X.A (evalPairs pairs) (Lz fun vs s'=>∃xs us H',Inv X pins σ H' s'/\Vals xs us/\Q xs H'/\Carries (strKind X.prog X.w) vs (kz ks us)) X.xe s
end
theorem Cf {α:Type}[DecidableEq α](l:List α)(k:α):(l++[k]).eraseDups.length=if k∈l then l.eraseDups.length else l.eraseDups.length+1:=by
 rw [List.eraseDups_append,iO]
 by_cases h:k∈l
 ·have:[k].removeAll l=[]:=by simp [List.removeAll,h]
  rw [if_pos h,this];rfl
 ·have:[k].removeAll l=[k]:=by simp [List.removeAll,h]
  rw [if_neg h,this];rfl
theorem RJ {α:Type}[DecidableEq α]:∀(n:Nat) (l:List α),l.length=n->l.eraseDups.length<=n
 |0,l,h=>by rw [sW.mp h]; exact bb _
 |n+1,l,h=>by
  have bS:l≠[]:=fun e=>by rw [e] at h; cases h
  have e:=List.dropLast_concat_getLast bS;have hl:l.dropLast.length=n:=by rw [Dv,h]; rfl
  have:=RJ n l.dropLast hl;rw [← e,Cf]
  split <;> omega
section
variable {prog:Program}{w:World}{A:Around}{R:Result->Shared->Prop}{I S:Addr}{fp wr:List Addr}{St:Nat->Heap->Prop}{Kt:Type}[DecidableEq Kt]{knd:KeyKind prog w Kt}
theorem W0 {items:Array Value}{ks:List Kt}(hk:∀(i:Nat) (v:Value),items[i]?=some v->∃k,ks[i]?=some k/\knd.is k v=true/\v.scannable=true)
  (W:Walks prog w A.in1 I fp wr items.size (fun i v=>items[i]?=some v) St) (Qw:S∉fp) (hn:ks.length=items.size) (hb:items.size+1<scanBound) :
  ∀(m i:Nat) (s:Shared),items.size - i=m->i<=items.size->St i s.heap->s.heap.SetOf knd S (fun k=>decide (k∈ks.take i)) (ks.take i).eraseDups.length->
   (∀h' tk,(∀b o,b≠S->b∉wr->s.heap.get? b=some o->h'.get? b=some o)->h'.SetOf knd S (fun k=>decide (k∈ks)) ks.eraseDups.length->R (.ok (.ret .none)) {s with heap:=h',toks:=tk})->
   codeAny (model prog w) A (.builtin "set.update.loop" ⟨[.ref S,.ref I],[]⟩) R s:=by
 have Qv:S∉wr:=fun h=>Qw (W.sub _ h);intro m
 induction m with
 |zero=>
  intro i s hm hi bz hS hR;obtain rfl:i=items.size:=by omega
  refine codeAny_builtin Ly ?_;rw [zS Dg _];show wpAny _ A.in1 (pyNext (.ref I) >>= _) _ _ s;refine wpAny_bind (W.done s _ _ bz fun h' tk k'=>?_);rw [← hn,List.take_length] at hS;obtain⟨o,es,ep,t,ho,rest⟩:=hS;exact wpAny_pure (hR h' tk (fun b o _ hb e=>k' b o hb e) ⟨o,es,ep,t,k' S _ Qv ho,rest⟩)
 |succ m ih=>
  intro i s hm hi bz hS hR;have aT:i<items.size:=by omega
  refine codeAny_builtin Ly ?_;rw [zS Dg _];show wpAny _ A.in1 (pyNext (.ref I) >>= _) _ _ s;refine wpAny_bind (W.item i s _ _ aT bz fun v h1 Ma hP acL k1=>?_);obtain⟨k,hki,Qf,hsc⟩:=hk i v hP;obtain⟨o,es,ep,t,ho,rest⟩:=hS;have hS1:h1.SetOf knd S (fun k=>decide (k∈ks.take i)) (ks.take i).eraseDups.length:=⟨o,es,ep,t,k1 S _ Qv ho,rest⟩
  show wpAny _ A.in1 (holding [v] (setAdd S v) >>= _) _ _ _;refine wpAny_bind (wpAny_holding ?_);unfold setAdd;refine wpAny_holding (wpAny_bind (knd.pyHash Qf ?_));have hl:(ks.take i).eraseDups.length<=i:=RJ i _ (by rw [tE]; omega);refine wpAny_setAddHashed_of (knd:=knd) Qf hsc hS1 (by omega) fun h2 fD hS2=>?_;have ht:ks.take (i+1)=ks.take i++[k]:=by rw [List.take_add_one,hki]; rfl
  have sj:h2.SetOf knd S (fun k=>decide (k∈ks.take (i+1))) (ks.take (i+1)).eraseDups.length:=by
   have e1:(fun k'=>decide (k'∈ks.take i) || decide (k'=k))=fun k'=>decide (k'∈ks.take (i+1)):=by
    funext k'
    rw [ht];simp
   have e2:(if decide (k∈ks.take i)=true then (ks.take i).eraseDups.length else (ks.take i).eraseDups.length+1)=(ks.take (i+1)).eraseDups.length:=by
    rw [ht,Cf];simp
   rw [← e1,← e2];exact hS2
  refine wpAny_pure ⟨plainId_quiet Dg _,ih (i+1) _ (by omega) aT (W.frame _ _ _ acL fun b hb o e=>?_) sj fun h3 wW k3 hS4=>?_⟩
  ·exact(fD.2 b (fun z=>Qw (z ▸ hb))).trans e
  ·exact hR h3 wW (fun b o Qp Qo e=>k3 b o Qp Qo ((fD.2 b Qp).trans (k1 b o Qo e))) hS4
end
section
variable {prog:Program}{w:World}{A:Around}{E:Value->Shared->Prop}{s:Shared}{Kt:Type}[DecidableEq Kt]{knd:KeyKind prog w Kt}
abbrev nW (led:Bool):Obj:={cls:=.type "set",dict:=none,data:=.set #[] 0 (.fresh 0 0 led)}
theorem MV {l:Addr}{items:Array Value}{ks:List Kt}{Q:Value->Shared->Prop}(hh:A.handled=none)(hl:s.heap.IsList l items)
  (hk:∀(i:Nat) (v:Value),items[i]?=some v->∃k,ks[i]?=some k/\knd.is k v=true/\v.scannable=true) (hn:ks.length=items.size) (hb:items.size+1<scanBound)
  (h:∀(h':Heap) (tk:Nat),h'.SetOf knd s.heap.objs.size (fun k=>decide (k∈ks)) ks.eraseDups.length->(∀b o,s.heap.get? b=some o->h'.get? b=some o)->Q (.ref s.heap.objs.size) {s with heap:=h',toks:=tk}) :
  wpAny (model prog w) A (call (.type "set") [.ref l]) Q E s:=by
 obtain⟨c,tl,akw⟩:=o3.mro;have P9:=o3.made;have acK:=o3.sub;refine wpAny_call (codeAny_of_tree ?_);show wpAny _ _ (callAny (.type "set") _) _ _ _
 refine wpAny_pure ⟨Code.quiet_builtin _ (by decide +kernel),codeAny_builtin PySem.F.entry_type_call ?_⟩;rw [Around.under_plain (weight_type_call_type "set" [.ref l] []) rfl]
 have h1:=o3.notType;have h2:=o3.canCreate;have hct:=PySem.F.typeCall_set_1 (.ref l)
 repeat (any_goals (first | assumption | wp_step))
 refine codeAny_mono (code_set_new_1 (.ref l) (E:=E) (Q₁:=fun obj s1=>∃led:Bool,obj=.ref s.heap.objs.size/\s1={s with heap:=s.heap.push (nW led)}) fun led=>⟨led,rfl,rfl⟩) fun r s1 hr=>?_
 match r,hr with
 |.error e,hr=>exact hr
 |.ok (.ret obj),hr=>
  obtain⟨led,rfl,rfl⟩:=hr;have hS:(s.heap.push (nW led)).get? s.heap.objs.size=some (nW led):=cS _ rfl;have hT:Shared.TypeIs {s with heap:=s.heap.push (nW led)} (.ref s.heap.objs.size) "set" := ⟨_,hS,rfl⟩
  have Qc:=o3.init.lookup;have hbi:=o3.init.bind (.ref s.heap.objs.size)
  repeat (any_goals (first | assumption | wp_step))
  refine codeAny_mono (codeAny_call_builtin (R:=wants (fun r s2=>r=.none/\∃h' tk,s2={s with heap:=h',toks:=tk}/\h'.SetOf knd s.heap.objs.size (fun k=>decide (k∈ks)) ks.eraseDups.length/\∀b o,s.heap.get? b=some o->h'.get? b=some o) E)
   o3.init.plain PySem.F.entry_set_init (check_set_init_1 hT ?_)) fun r2 s2 iD=>?_
  ·obtain⟨⟨oc,od,odt,os⟩,vb,rZ,nl,i5⟩:=hl
   simp only at rZ i5
   subst rZ i5;have acX:(s.heap.push (nW led)).get? l=some {cls:=.type "list",dict:=od,data:=.seq items nl,slots:=os}:=aZ _ vb
   have pV:(s.heap.push (nW led)).IsList l items:=⟨_,acX,rfl,nl,rfl⟩
   have akt:=PySem.F.sub_list_set;have aku:=PySem.F.sub_list_frozenset;have bS:(o8 "list" == o8 "dict")=false:=by decide
   have Qd:l<s.heap.objs.size:=a6 vb;unfold Builtin.«set.__init__» noKeywords Builtin.Frozenset.updateFrom;generalize hPI:pyIter=PI
   wp_walk
   subst hPI;refine wpAny_pyIter_list pV (wpAny_bind (wpAny_runValue ?_));have hz:(s.heap.push (nW led)).objs.size=s.heap.objs.size+1:=kH _ _;refine W0 (knd:=knd) hk (Walks.list (by simp [hh]) (s.heap.push (nW led)).objs.size l (by rw [hz]; exact bQ (zI Qd)) items) (S:=s.heap.objs.size) (by rw [hz]; simp only [bf,fw,or_false,not_or]; exact⟨bQ (zE _),(bQ Qd).symm⟩) hn hb (items.size - 0) 0 _ rfl (gX _) ⟨⟨_,cS _ rfl,rfl,rfl⟩,pV.push _⟩ ?_ fun h' tk jF Ie=>?_
   ·exact⟨nW led,#[],0,_,aZ _ hS,⟨rfl,rfl,rfl⟩,rfl,fun e he=>by simp at he,fun k=>by simp,by decide,rfl,rfl⟩
   ·refine wpAny_pure (wpAny_pure ⟨rfl,h',tk,rfl,Ie,fun b o e=>?_⟩)
    have cj:=a6 e;exact jF b o (bQ cj) (by rw [hz]; simp only [bf,fw,or_false]; exact bQ (zI cj)) (aZ _ (aZ _ e))
  ·match r2,iD with
   |.error e,iD=>exact iD
   |.ok (.ret r),iD=>
    obtain⟨rfl,h',tk,rfl,Ie,jF⟩:=iD
    repeat (any_goals (first | assumption | wp_step))
    exact h _ _ Ie jF
end
theorem RI {α β:Type}[DecidableEq α][DecidableEq β](h:α->β)(hi:∀a b,h a=h b->a=b):∀(n:Nat) (l:List α),l.length=n->(l.map h).eraseDups.length=l.eraseDups.length
 |0,l,e=>by rw [sW.mp e]; rfl
 |n+1,l,e=>by
  have bS:l≠[]:=fun z=>by rw [z] at e; cases e
  have hl:l.dropLast.length=n:=by rw [Dv,e]; rfl
  have ih:=RI h hi n l.dropLast hl;rw [← List.dropLast_concat_getLast bS,tw,bI,iK,Cf,Cf,ih];have:h (l.getLast bS)∈l.dropLast.map h↔l.getLast bS∈l.dropLast:=by
   rw [dF];exact⟨fun⟨a,ha,z⟩=>hi _ _ z ▸ ha,fun ha=>⟨_,ha,rfl⟩⟩
  by_cases z:l.getLast bS∈l.dropLast
  ·rw [if_pos z,if_pos (this.mpr z)]
  ·rw [if_neg z,if_neg (fun y=>z (this.mp y))]
def txt (l:List Nat):Str:=⟨l.toArray⟩
theorem Vo (a b:List Nat)(h:txt a=txt b):a=b:=by
 injection h with h;simpa using congrArg jm h
theorem agH {α:Type}[DecidableEq α](i:BEq α)[LawfulBEq α]:(instBEqOfDecidableEq:BEq α)=i:=by
 cases i with
 |mk g=>
  have:(fun a b:α=>decide (a=b))=g:=by
   funext a b
   have h:(g a b=true)↔a=b:=@beq_iff_eq α ⟨g⟩ _ a b;rw [kI,h,decide_eq_true_eq]
  exact congrArg BEq.mk this
theorem afa (ls:List (List Nat)):(ls.map txt).eraseDups.length=ls.eraseDups.length:=by
 rw [RI txt Vo _ ls rfl];rw [agH (α:=List Nat) _]
section
variable {X:Cx}{cls:Nat->Addr}{E:XK}{e:Expr}{f:aa->M Dt}{pos pD p p2:Pos}
theorem aeM (hc:X.calm=true)(HQ:Gl X "len")(vc:X.mg "len" = none)(yi:Gl X "set")(HG:X.mg "set" = none)(ha:Ev X cls E e f)(bz:isStar e=false) :
  Ev X cls E (.Call (.Name "len" p) [.Call (.Name "set" p2) [e] [] pD] [] pos) (p1 uJ f):=by
 intro pins s σ H Q I ⟨O,A,ρ,F,q⟩;refine wpAny_Call_Name_kw (mH I HQ vc ft ?_ (by decide) (by decide));refine DI (e:=.Call (.Name "set" p2) [e] [] pD) (rest:=[]) ?_ rfl rfl
 refine md (x:=eval (.Call (.Name "set" p2) [e] [] pD) X.env) ?_
 refine wpAny_Call_Name_kw (mH I yi HG (show bootBuiltins "set" = some (.type "set") from by decide +kernel) ?_ (by decide) (by decide))
 refine sZ (e:=e) (rest:=[]) ?_ (j6 bz) rfl;rw [j6 bz];refine md (x:=eval e X.env) (aG (ha pins s σ H (fun x H1=>∃d,ax H H1/\Rep X.K (ak H1 A) d x/\sm d/\Res X.K cls A E (uJ d) H1 Q) I ⟨O,A,ρ,F,Rg.bind q fun d _ q1=>?_⟩) fun u s1 ⟨x,H1,I1,r1,d,EI,rp,zd,q1⟩=>?_)
 ·intro x H1 s1 r1 z1
  exact⟨d,s1,r1,z1,Res.mono q1 s1⟩
 refine nI ?_
 cases d with
 |lst ds=>
  simp only [uJ] at q1
  split at q1
  ·rename_i hlen
   cases hs:kY ds with
   |none=>rw [hs] at q1; exact(show False from q1).elim
   |some ls=>
    rw [hs] at q1;obtain⟨pl,xs,rfl,h1,h2⟩:=fQ rp;cases r1;have hx:=EA hs h2;subst hx;obtain⟨ao,rv,FO,hz⟩:=I1.list (bP.seq h1);have hl:ao.length=ls.length:=by have:=rv.length; simpa using this.symm
    have i4:ls.length<=1000:=by have:=h2.length; simp at this; omega
    refine MV (knd:=strKind X.prog X.w) (ks:=ls.map txt) (I1.ok.hd hc) FO.isList (fun i v hv=>?_) (by simp [hl]) (by simp [scanBound]; omega) fun h' tk hS hk=>?_
    ·have rN:ao[i]?=some v:=by simpa using hv
     have hi:i<ao.length:=(eF.mp rN).1;have pX:i<ls.length:=by omega
     obtain⟨u,hu,ru⟩:=rv.get (i:=i) (x:=S ls[i]) (by simp [pX]);rw [rN] at hu;cases hu;obtain⟨t,rfl⟩:=ru;exact⟨txt ls[i],by simp [pX],strKind_is X.prog X.w _ _,rfl⟩
    ·refine nI ?_
     rw [afa] at hS;obtain⟨o,es,ep,t,ho,hex,hd,_,_,hb,hf,hn⟩:=hS;refine call_len_set ho hex hd hf (by have:es.size<4096:=hb; omega) ?_;rw [hn];exact(fun ht=>⟨.int (ls.eraseDups.length:Nat),H1,I1.kept hk,⟨_,rfl⟩,q1 _ H1 (.refl _) dP trivial⟩)
  ·exact(show False from q1).elim
 |_=>exact(show False from q1).elim
end
section
variable {X:Cx}{cls:Nat->Addr}{E:XK}{a b e dE o:Expr}{f g:aa->M Dt}{fs:aa->M (List Dt)}{pos p kp:Pos}
theorem aeP {p2:Pos}(hg:Gl X "isinstance")(hm:X.mg "isinstance" = none)(hg2:Gl X "str")(gn:X.mg "str" = none)(ha:Ev X cls E e f)(bz:isStar e=false):Ev X cls E (.Call (.Name "isinstance" p) [e,.Name "str" p2] [] pos) (p1 Gd f):=by
 refine(iB ago hg hm boot_isinstance (@ba _ _ _ _ _ bz ha (@ba _ _ _ _ _ rfl (NH hg2 gn boot_str (v:=.ty "str") rfl) cC)) (by decide) (by decide) (j6 bz) rfl).imp fun σ H Q h_=>?_
 obtain⟨O,A,ρ,F,q⟩:=h_;refine⟨O,A,ρ,F,Rg.bind q fun d _ q1=>?_⟩;intro v H1 s1 r1 z1;have q2:=Res.mono (Q:=Q) q1 s1;show ∃x b,[v,V.ty "str"]=[x,.ty "str"]/\PB X.K x H1 b/\Q (.bl b) H1
 cases d with
 |str l=>exact⟨v,true,rfl,by rw [cL r1]; rfl,q2 _ H1 (.refl _) eY trivial⟩
 |int i=>exact⟨v,false,rfl,by rw [dw r1]; rfl,q2 _ H1 (.refl _) eY trivial⟩
 |bl i=>exact⟨v,false,rfl,by simp only [Rep] at r1; rw [r1]; rfl,q2 _ H1 (.refl _) eY trivial⟩
 |aK=>exact⟨v,false,rfl,by simp only [Rep] at r1; rw [r1]; rfl,q2 _ H1 (.refl _) eY trivial⟩
 |lst l=>
  obtain⟨p,xs,rfl,h1,_⟩:=fQ r1;exact⟨_,false,rfl,⟨rfl,.inl ⟨xs,bP.seq h1⟩⟩,q2 _ H1 (.refl _) eY trivial⟩
 |tup l=>
  obtain⟨p,xs,rfl,h1,_⟩:=hZ r1;exact⟨_,false,rfl,⟨rfl,.inr ⟨xs,bP.fP h1⟩⟩,q2 _ H1 (.refl _) eY trivial⟩
 |aj l=>exact(show False from q2).elim
end
section
variable {X:Cx}{cls:Nat->Addr}{E:XK}{a b e dE o:Expr}{f g:aa->M Dt}{fs:aa->M (List Dt)}{pos p kp:Pos}
theorem Sx:qy X cls E (.type "tuple") yO:=by
 refine⟨_,agj,fun A H Q ds vs L r z q=>?_⟩;unfold yO at q
 split at q
 ·rename_i l
  obtain⟨v,rfl,rv⟩:=j8 r;obtain⟨p,xs,rfl,h1,h2⟩:=fQ rv;refine⟨p,xs,rfl,.inl ⟨bP.seq h1,fun l' rT=>?_⟩⟩;exact q (.ref l') _ (.upd rT) (qZ (ou L rT) (h2.mono ((ax.upd rT).ak A))) z.1
 ·rename_i l
  obtain⟨v,rfl,rv⟩:=j8 r;obtain⟨p,xs,rfl,h1,h2⟩:=hZ rv;exact⟨p,xs,rfl,.inr ⟨bP.fP h1,q (.ref p) H (.refl _) rv z.1⟩⟩
 ·exact(show False from q).elim
theorem ints_rep {K:ah}{H:Hp}:∀{ds:List Dt}{ns:List Int}{xs:List V},mL ds=some ns->ar K H ds xs->xs=ns.map V.int
 | [],ns,xs,h,r=>by
  simp only [ar] at r;simp only [mL,wJ] at h;subst r h;rfl
 |d::ds,ns,xs,h,r=>by
  simp only [ar] at r;obtain⟨x,t,rfl,r1,r2⟩:=r
  cases d with
  |int i=>
   simp only [mL,jq] at h;obtain⟨cs,hc,rfl⟩:=h;simp only [Rep] at r1;rw [ints_rep hc r2,bI,r1]
  |_=>simp [mL] at h
def iv (ns:List Int)(i:Nat):Int:=ns.getD i 0
end
section
variable {X:Cx}{cls:Nat->Addr}{E:XK}{a b c o:Expr}{f g:aa->M Dt}{fs:aa->M (List Dt)}{pos:Pos}
theorem NC {ta:TE}(ha:PE X a ta):PE X (.FormattedValue a 114 none pos) (fun σ H Q=>ta σ H fun v H1=>∃l:List Nat,v=S l/\l.length<=50/\(∀c∈l,c<1000)/\∀z:Str,z.length<=1000->Q (.str z) H1):=by
 intro pins s σ H Q I h;refine wpAny_FormattedValue_repr (aG (ha pins s σ H _ I h) fun v s1 ⟨x,H1,I1,r1,l,e,hl,hc,q⟩=>?_);subst e;obtain⟨t,rfl⟩:=r1;have hlen:(reprText ⟨l.toArray⟩).length<=502:=by
  have h1:=StrLaws.reprText_len ⟨l.toArray⟩ (fun c mY=>tj (hc c (by simpa using mY)) (by decide));have h2:(⟨l.toArray⟩:Str).length=l.length:=by simp [nO]
  omega
 have hs:1000<=sizeLine:=by decide
 refine wpAny_pyReprObj_str ?_ (by omega);exact wpAny_formatField_str (fun ht=>⟨.str _,H1,I1.tok _,⟨_,rfl⟩,q _ (by omega)⟩) (fun ht=>⟨.str _,H1,I1.tok _,⟨_,rfl⟩,q _ (by omega)⟩) (by omega)
theorem LS {x:Str}{j p p'}(h:Ev X cls E a f)(hx:x.length<=1000:=by decide +kernel):Uv X cls E (.JoinedStr [.FormattedValue a 114 none p',.Constant (.str x) j p] pos) (uk f):=(NB (NC h) (FR (x:=x))).imp fun σ H Q h_=>by
 obtain⟨O,A,ρ,F,q⟩:=h_;refine⟨O,A,ρ,F,Rg.bind q fun d _ q1=>?_⟩;intro v H' s' r z
 cases d with
 |str l=>
  simp only [wV] at q1
  split at q1
  ·rename_i hi
   refine⟨l,cL r,hi.1,fun c hc=>by simpa using eg.mp hi.2 c hc,fun z hz=>⟨z,rfl,hz,_,rfl,hx,fun z'=>q1 _ H' s'⟩⟩
  ·exact(show False from q1).elim
 |_=>exact(show False from q1).elim
end
section
variable {X:Cx}{cls:Nat->Addr}{E:XK}{a b c o:Expr}{f g:aa->M Dt}{fs:aa->M (List Dt)}{pos:Pos}
theorem Wi {i j:Nat}{x y:Str}{px py pt lp:Pos}{kt k2 iz}(hc:X.calm=true)(hN:X.N.Nodup)(hi:X.N[i]?=some x)(hj:X.N[j]?=some y)(mR:i≠j)
  (hx:X.env.scope.names.lookup x=some .local) (hy:X.env.scope.names.lookup y=some .local) (he:Ev X cls E a f) (bz:isStar a=false)
  (hw:swappedStores [.Tuple [.Name x px,.Name y py] kt pt] (.Tuple [a,.List [] lp] k2 iz) X.env=pure (some [x,y]))
  (hs:swapsWithSole [.Tuple [.Name x px,.Name y py] kt pt] (.Tuple [a,.List [] lp] k2 iz) pos.line X.env=pure false:=by rfl) :
  Sv X cls E (.Assign [.Tuple [.Name x px,.Name y py] kt pt] (.Tuple [a,.List [] lp] k2 iz) pos) (Ar i j f):=
 (Nm hc hN hi hj mR hx hy (@ba _ _ _ _ _ bz he (@ba _ _ _ _ _ rfl (pE cC) cC)) hw hs).imp fun D σ H ⟨Hin,A₀,ρ,⟨os,S⟩,q⟩=>by
 have F:=S.2.2.2;refine⟨os,os++A₀,ρ,F,lq S.1 q fun d v H' _ q1 s' r z=>⟨gX _,fun p hp=>⟨v,.ref p,rfl,q1 _ _ ⟨p::os,?_⟩⟩⟩⟩;have S':=S.mono s';exact cF.fresh (i:=j) (ds:=[]) (vs:=[]) ⟨S'.1,S'.2.1,S'.2.2.1,S'.2.2.2.put i r z⟩ hp .nil trivial (by simp)
variable {scope:Scope}{N:List Str}{k:Nat}{fr:List Nat}{tg iter elt:Expr}{ifs:List Expr}{ι:IM}{gm:GM}{tc:aa->M Bool}{te:aa->M Dt}
end
structure oP (mg:Str->Option Value) (base:Heap) (c P:Addr):Prop where
 code:CodeHd base c P
 bm:∃bm ob,mg "__builtins__" = some (.ref bm)/\bm≠builtinsNs/\base.get? bm=some ob/\ob.cls=.type "module" /\ob.dict=some builtinsNs/\ob.data=.plain
theorem ag3 {pos:Pos}{a b:Int}{c cv:Value}(l:List Value)(h:TriplesOk l)(e:codeAmong pos (l++[rawInt a,rawInt b,c])=some cv):codeAmong pos l=some cv∨cv=c:=by
 fun_induction TriplesOk l with
 |case1=>
  simp only [nH,codeAmong,rawInt] at e
  split at e
  ·exact .inr (iu e).symm
  ·cases e
 |case2 a' t b' u x rest ih=>
  simp only [zH,codeAmong] at e ⊢
  split at e
  ·rename_i hc; rw [if_pos hc]; exact .inl e
  ·rename_i hc; rw [if_neg hc]; exact ih h e
 |case3 l h1 h2=>exact h.elim
def T4 (H:Hp)(c:Addr)(q:Str):Prop:=∃oc u vs t,H c=some (.bE oc u)/\oc.data=.fields vs/\vs[1]?=some (.str q t)
section
variable {X:Cx}{pins:List (Addr×Obj)}{σ:St}{H:Hp}{s:Shared}{params:Arguments}{body:Expr}{scope:Scope}{pos:Pos}{c P:Addr}{q:Str}
abbrev mI (q:Str)(params:Arguments)(body:Expr)(scope:Scope)(cells:List (Str×Addr))(mg:Str->Option Value)(cv gu:Value):Obj:=
 {cls:=.type "function",data:=.func (kla_fn "<lambda>" q params body scope (eu scope.names cells) ((mg "__name__").getD .none) cv gu)}
theorem abO {Q:Value->Shared->Prop}{E:Value->Shared->Prop}(I:Inv X pins σ H s)(rW:∀y∈scope.names,y.2=.free->∃c,X.env.cells.lookup y.1=some c)(BL:X.env.code=.ref c)(B:oP X.mg X.base c P)(hT:H P=some (.dG q))(hq:X.env.qual ++ "<lambda>" = q)
  (HW:defaultsOf params X.env=([],[]))
  (h:∀(f c':Addr) (gu:Value) (s':Shared) (H':Hp),Inv X pins σ H' s'->ax H H'->H' f=some (.bE (mI q params body scope X.env.cells X.mg (.ref c') gu) (.own 0))->T4 H' c' q->Q (.ref f) s') :
  wpAny (model X.prog X.w) X.A (eval (.Lambda params body scope pos) X.env) Q E s:=by
 refine wpAny_with_toks (n:=1) I.tk ?_;refine kla_eval HW ?_;rw [hq];obtain⟨ps,hP,tr,codes⟩:=I.au P _ hT;have rZ:closureFor scope X.env=pure (eu scope.names X.env.cells):=Cm rW;have hg:s.heap.Ns mainGlobals X.mg:=I.ok.mod.glob.keeps I.bk;have C:CodeHd s.heap c P:=B.code.keeps I.bk;have nP:∀b o,X.base.get? b=some o->b≠P:=fun b o e z=>by
  have:=(I.bs b o e).2;rw [z,hT] at this;cases this
 have hgP:mainGlobals≠P:=by
  obtain⟨o,es,ep,e,_⟩:=I.ok.mod.glob;exact nP _ _ e
 obtain⟨bm,ob,b1,b2,b3,b4,b5,b6⟩:=B.bm;have hbG:bm≠mainGlobals:=fun z=>by
  obtain⟨o,es,ep,e,hd,_⟩:=I.ok.mod.glob;rw [z,e] at b3; cases b3; rw [hd] at b6; cases b6
 have hB:s.heap.BuiltinsAt X.mg P:=⟨bm,ob,b1,b2,hbG,nP _ _ b3,I.bk _ _ b3,b4,b5,b6⟩
 cases hf:codeAmong pos ps.toList with
 |some cv=>
  obtain⟨c',oc,u,rfl,fT,vs,t,hd,hv⟩:=codes pos cv hf;refine kla_makeFunctionHit (mg:=X.mg) rZ I.ok.glob hg BL C hP tr hf hB fun gu h' tk hk hsz ht=>?_;have dq:H h'.objs.size=none:=I.au.fresh hsz;have k2:∀b o,s.heap.get? b=some o->(h'.push (mI q params body scope X.env.cells X.mg (.ref c') gu)).get? b=some o:=fun b o e=>aZ _ (hk b o e);refine h h'.objs.size c' gu _ (upd H h'.objs.size (.bE (mI q params body scope X.env.cells X.mg (.ref c') gu) (.own 0))) (I.laid (t':=tk) k2 hsz ⟨cS _ rfl,⟨_,cS _ rfl⟩⟩) (.upd dq) aX ⟨oc,u,vs,t,by rw [aF (cN fT dq)]; exact fT,hd,hv⟩
 |none=>
  refine kla_makeFunction (mg:=X.mg) rZ I.ok.glob hg BL C hP tr hf hgP hB fun c' gu h' tk hx mU aT acR PX ht=>?_;obtain⟨c₂,oc,vs,t,e2,yb,hd,hv⟩:=acR;cases e2;have dq:H h'.objs.size=none:=I.au.fresh (cK mU (tm aT));have HY:H c'=none:=I.au.fresh mU;have Qm:c'≠h'.objs.size:=bQ aT;have lt:∀b o,s.heap.get? b=some o->b≠c'/\b≠h'.objs.size:=fun b o e=>⟨bQ (cH (a6 e) mU),bQ (tj (cH (a6 e) mU) aT)⟩
  have up:∀b u,H b=some u->upd (upd H c' (.bE oc (.own 0))) h'.objs.size (.bE (mI q params body scope X.env.cells X.mg (.ref c') gu) (.own 0)) b=some u:=fun b u e=>by
   rw [aF (cN e dq),aF (cN e HY)];exact e
  have k2:∀b o,b≠P->s.heap.get? b=some o->(h'.push (mI q params body scope X.env.cells X.mg (.ref c') gu)).get? b=some o:=fun b o hb e=>aZ _ (hx b o hb e);have Ov:∀b,H b=none->b≠P:=fun b n z=>by rw [z,hT] at n; cases n
  have un:Un X.fs [] H (upd (upd H c' (.bE oc (.own 0))) h'.objs.size (.bE (mI q params body scope X.env.cells X.mg (.ref c') gu) (.own 0))) s.heap (h'.push (mI q params body scope X.env.cells X.mg (.ref c') gu)):=by
   refine⟨fun b o e n _ _=>k2 b o (Ov b n) e,fun b o e n _ _=>⟨o.slots,k2 b o (Ov b n) e⟩,fun b o e n _=>?_,fun b o e _=>?_,fun b xs e=>up b _ e,fun b ob u e=>up b _ e,fun b n e=>up b _ e⟩
   ·rw [aF (lt b o e).2,aF (lt b o e).1]
    exact n
   ·by_cases hb:b=P
    ·subst hb
     exact⟨_,aZ _ PX⟩
    ·exact⟨o,k2 b o hb e⟩
  have au:cB X.prog X.w (upd (upd H c' (.bE oc (.own 0))) h'.objs.size (.bE (mI q params body scope X.env.cells X.mg (.ref c') gu) (.own 0))) (h'.push (mI q params body scope X.env.cells X.mg (.ref c') gu)):=by
   intro a o e
   by_cases ha:a=h'.objs.size
   ·subst ha
    rw [aX] at e;cases e;exact⟨cS _ rfl,⟨_,cS _ rfl⟩⟩
   ·rw [aF ha] at e
    by_cases Qr:a=c'
    ·subst Qr
     rw [aX] at e;cases e;exact⟨aZ _ yb,⟨_,aZ _ yb⟩⟩
    ·rw [aF Qr] at e
     by_cases Qq:a=P
     ·subst Qq
      rw [hT] at e;cases e;refine⟨_,aZ _ PX,?_,fun pos' cv z=>?_⟩
      ·rw [Array.toList_append]
       exact TriplesOk_snoc _ _ _ _ tr
      ·rw [Array.toList_append] at z
       rcases ag3 _ tr z with z | z
       ·obtain⟨c2,oc2,u2,z1,z2,z3⟩:=codes pos' cv z
        exact⟨c2,oc2,u2,z1,up _ _ z2,z3⟩
       ·exact⟨c',oc,.own 0,z,by rw [aF Qm,aX],vs,t,hd,hv⟩
     ·refine(I.au a o e).iU (fun b u hb r=>k2 b u ?_ r) (fun b r=>up b _ r) (fun b xs r=>up b _ r) fun b ob u r=>up b _ r
      rcases hb with rfl | hb
      ·exact Qq
      ·rintro rfl
       rw [hT] at hb;cases hb
  exact h h'.objs.size c' gu _ _ (I.un (t':=tk) un au) (fun b u e=>up b u e) aX ⟨oc,.own 0,vs,t,by rw [aF Qm,aX],hd,hv⟩
end
def fH (CX:gx)(P:Program)(w:World)(K:ah)(mg:Str->Option Value)(base:Heap)(N:List Str)(qual:Str)(scope:Scope)(f:Addr)(cd:Value)(cl:List (Str×Addr))(A:Around)(outer:List Env)(s:Shared)(H:Hp)(E:XK):Cx where
 prog:=P
 w:=w
 K:=K
 mg:=mg
 base:=base
 A:=A.deeper (envX qual scope s.heap.objs.size f cd cl)
 N:=N
 aJ:=s
 a8:=H
 env:=envX qual scope s.heap.objs.size f cd cl
 outer:=outer
 stack:=envX qual scope s.heap.objs.size f cd cl::outer
 ex:=[]
 calm:=true
 fn:=fun _=>false
 pn:=[]
 xe:=fun e s'=>wpAny (model P w) (A.deeper (envX qual scope s.heap.objs.size f cd cl)) (leaving (envX qual scope s.heap.objs.size f cd cl) e) (fun _ gD=>CX outer H s E e gD) (fun e' gD=>CX outer H s E e' gD) s'
section
variable {P:Program}{w:World}{K:ah}{mg:Str->Option Value}{base:Heap}{N:List Str}{qual:Str}{scope:Scope}{f:Addr}{cd:Value}{cl:List (Str×Addr)}{A:Around}{outer:List Env}{aJ:Shared}{a8:Hp}{E:XK}
theorem XZ:Rz (fH (aE P w) P w K mg base N qual scope f cd cl A outer aJ a8 E) E where
 made:=by
  intro pins σ H s h' e C vs I hx hE;have dq:=I.ok.frames;have hF:=I.stack;have yg:∀env∈(fH (aE P w) P w K mg base N qual scope f cd cl A outer aJ a8 E).stack,∀b,env.frame=some b->b∈aH (fH (aE P w) P w K mg base N qual scope f cd cl A outer aJ a8 E).stack:=fun env he b hb=>zN.mpr ⟨env,he,hb⟩;refine wpAny_leaves_madeW (base:=hideAll s.heap (aH (fH (aE P w) P w K mg base N qual scope f cd cl A outer aJ a8 E).stack)) (h:=s.heap) dq rfl (fun b o q=>of_hideAll _ q) (funFrames_hide hF yg) hx fun i7 t fl _ _ up=>?_;have mM:∀b o,s.heap.get? b=some o->b∉aH (fH (aE P w) P w K mg base N qual scope f cd cl A outer aJ a8 E).stack->(hideAll s.heap (aH (fH (aE P w) P w K mg base N qual scope f cd cl A outer aJ a8 E).stack)).get? b=some o:=fun b o q hb=>hideAll_get _ q hb;have old:∀b o,aJ.heap.get? b=some o->b∉aH outer->b∉aH (fH (aE P w) P w K mg base N qual scope f cd cl A outer aJ a8 E).stack:=fun b o q hb z=>by
   rcases bf.mp (I.j5 b z) with e | e
   ·exact absurd (a6 q) (by have:=I.ok.above; rw [e]; exact nM.mpr this)
   ·exact hb e
  have bY:∀b:Addr,b∉(fH (aE P w) P w K mg base N qual scope f cd cl A outer aJ a8 E).ex:=fun b z=>nomatch z
  have lH:∀b o,aJ.heap.get? b=some o->a8 b=none->b∉aH outer->(hideAll s.heap (aH (fH (aE P w) P w K mg base N qual scope f cd cl A outer aJ a8 E).stack)).get? b=some o:=fun b o q n hb=>mM b o (I.base.keep b o q n hb (bY b)) (old b o q hb);have kS:∀b o,aJ.heap.get? b=some o->b∉aH outer->∃o',(hideAll s.heap (aH (fH (aE P w) P w K mg base N qual scope f cd cl A outer aJ a8 E).stack)).get? b=some o':=fun b o q hb=>by
   obtain⟨o',q'⟩:=I.base.there b o q (bY b);exact⟨o',mM b o' q' (old b o q hb)⟩
  have lg:∀b o,aJ.heap.get? b=some o->a8 b=none->b∈aH outer->∃sl,i7.get? b=some {o with slots:=sl}:=fun b o q n hb=>by
   obtain⟨sl,q'⟩:=I.base.slot b o q n hb (bY b);obtain⟨_,o2,q2,nf⟩:=I.ok.eL.mem hb;have ia:aJ.heap.get? b=some o2:=q2;rw [q] at ia;cases ia;obtain⟨el,q3⟩:=up b _ (hx.keeps b _ q') (by intro vs z; exact nf vs z);exact⟨el,q3⟩
  refine⟨e,C,H,_,_,rfl,I.os,I.bare,fl,fun a o q=>?_,⟨fun b o q n hb _=>fl.1 b o (lH b o q n hb),fun b o q n hb _=>lg b o q n hb,fun b o q n _=>I.base.free b o q n (bY b),fun b o q _=>?_,I.base.eU,I.base.et,I.base.d8⟩,lH,kS,?_,hE⟩
  ·have na:∀b u,H b=some u->b∉aH (fH (aE P w) P w K mg base N qual scope f cd cl A outer aJ a8 E).stack:=fun b u q z=>by
    have:=I.xg b z;rw [q] at this;cases this
   refine(I.au a o q).iU (fun c u hc r=>mM c u r ?_) (fun _ z=>z) fun _ _ z=>z;rcases hc with rfl | hc
   ·exact na _ _ q
   ·exact na _ _ hc
  ·by_cases hb:b∈aH outer
   ·have hn:a8 b=none:=I.ok.gQ b hb
    obtain⟨sl,q'⟩:=lg b o q hn hb;exact⟨_,q'⟩
   ·obtain⟨o',q'⟩:=kS b o q hb
    exact⟨o',fl.1 b o' q'⟩
  ·cases q:H e with
   |none=>rfl
   |some u=>
    obtain⟨ob,z⟩:=(I.au e u q).there;rw [hx.new] at z;cases z
 pass:=by
  intro pins σ H s e s' I hc;obtain⟨ea,C,H',B,a0,rfl,oj,hb,fl,au,un,lI,nS,gL,hE⟩:=hc;have dq:=I.ok.frames;refine wpAny_leaves_onW dq rfl fl fun i7 jI up=>?_;have old:∀b o,aJ.heap.get? b=some o->b∉aH outer->b∉aH (fH (aE P w) P w K mg base N qual scope f cd cl A outer aJ a8 E).stack:=fun b o q hb z=>by
   rcases bf.mp (I.j5 b z) with e | e
   ·exact absurd (a6 q) (by have:=I.ok.above; rw [e]; exact nM.mpr this)
   ·exact hb e
  have bY:∀b:Addr,b∉(fH (aE P w) P w K mg base N qual scope f cd cl A outer aJ a8 E).ex:=fun b z=>nomatch z
  have lH:∀b o,aJ.heap.get? b=some o->a8 b=none->b∉aH outer->B.get? b=some o:=fun b o q n hb=>lI b o (I.base.keep b o q n hb (bY b)) (I.base.free b o q n (bY b)) (old b o q hb);have kS:∀b o,aJ.heap.get? b=some o->b∉aH outer->∃o',B.get? b=some o':=fun b o q hb=>by
   obtain⟨o',q'⟩:=I.base.there b o q (bY b);exact nS b o' q' (old b o q hb)
  have sub:∀b,b∈aH outer->b∈aH (fH (aE P w) P w K mg base N qual scope f cd cl A outer aJ a8 E).stack:=fun b hb=>by
   show b∈aH (_::outer);unfold aH;rw [gf]
   split
   ·exact hb
   ·exact cG _ hb
  have lg:∀b o,aJ.heap.get? b=some o->a8 b=none->b∈aH outer->∃sl,i7.get? b=some {o with slots:=sl}:=fun b o q n hb=>by
   obtain⟨sl,q'⟩:=I.base.slot b o q n hb (bY b);obtain⟨pe,ia⟩:=un.slot b _ q' (I.base.free b o q n (bY b)) (sub b hb) (by simp);obtain⟨_,o2,q2,nf⟩:=I.ok.eL.mem hb;have pw:aJ.heap.get? b=some o2:=q2;rw [q] at pw;cases pw;obtain⟨el,q3⟩:=up b _ ia (by intro vs z; exact nf vs z);exact⟨el,q3⟩
  refine⟨ea,C,H',B,a0,rfl,oj.trans I.os,hb,jI,au,⟨fun b o q n hb _=>jI.1 b o (lH b o q n hb),fun b o q n hb _=>lg b o q n hb,fun b o q n _=>?_,fun b o q _=>?_,fun b xs q=>un.eU b xs (I.base.eU b xs q),fun b o u q=>un.et b o u (I.base.et b o u q),fun b ps q=>?_⟩,lH,kS,gL,hE⟩
  ·obtain⟨o',q'⟩:=I.base.there b o q (bY b)
   exact un.free b o' q' (I.base.free b o q n (bY b)) (by simp)
  ·by_cases hb:b∈aH outer
   ·have hn:a8 b=none:=I.ok.gQ b hb
    obtain⟨sl,q'⟩:=lg b o q hn hb;exact⟨_,q'⟩
   ·obtain⟨o',q'⟩:=kS b o q hb
    exact⟨o',jI.1 b o' q'⟩
  ·exact un.d8 b ps (I.base.d8 b ps q)
end
structure KY (X:Cx) (scope:Scope) (N:List Str) (fr:List Nat):Prop where
 c:eQ X scope N 0 fr
 co:scope.isCoroutine=false
 gen:scope.isGenerator=false
 Od:∀x∈scope.names,x.2≠.cell
section
variable {X:Cx}{scope:Scope}{N:List Str}{fr:List Nat}{pins:List (Addr×Obj)}{σ:St}{H H2:Hp}{s s2:Shared}{A:Around}{outer:List Env}{E:XK}{q:Str}{f:Addr}{cv:Value}{h1:Heap}{t1:Nat}{m:Str->Option Value}
theorem acm (S:KY X scope N fr)(I:Inv X pins σ H s)(un:Un (aH X.stack) [] H H2 s.heap s2.heap)(e0:jk X.prog X.w X.K X.mg X.base A outer s2 H2)(hd:A.handled=none)(om:h1.Ns s2.heap.objs.size m)(pW:∀b o,s2.heap.get? b=some o->h1.get? b=some o)(lM:0<t1) :
  Inv (fH (aE X.prog X.w) X.prog X.w X.K X.mg X.base N q scope f cv (eu scope.names X.env.cells) A outer s2 H2 E) [] (di 0 fr σ) H2 {s2 with heap:=h1,toks:=t1}:=by
 have lk:∀{x:Str} {c:Addr},(eu scope.names X.env.cells).lookup x=some c->X.env.cells.lookup x=some c:=fun h=>sO (S.c.cells I.ok) h;have cellK:∀x c v,X.env.cells.lookup x=some c->s.heap.IsCell c v->h1.IsCell c v:=fun x c v hc h_=>by
  obtain⟨o,ho,hd⟩:=h_;obtain⟨sl,q⟩:=un.any ho (I.fi x c hc) (by simp);exact⟨_,pW _ _ q,hd⟩
 have lD:∀b:Addr,b∉(fH (aE X.prog X.w) X.prog X.w X.K X.mg X.base N q scope f cv (eu scope.names X.env.cells) A outer s2 H2 E).ex:=fun b z=>nomatch z
 refine⟨⟨e0.mod,S.c.kind,rfl,rfl,bb _,fun y z c h1 h2=>I.ok.inj y z c (lk h1) (lk h2),fun y hy=>?_,(fun y c z _=>nomatch z),fun _=>hd,Dw e0.frames,.inr ⟨rfl,rfl⟩,fun b z=>absurd z (lD b),e0.bs,e0.jf,fun b _ _=>lD b,fun b z=>absurd z (lD b),e0.eL,e0.gQ⟩,
  rfl,e0.bare,Un.kept pW,⟨m,om,fun i x v e1 e2 e3=>?_⟩,fun x c hc=>?_,e0.au.fresh (bb _),fun x c hc=>?_,(fun p hp=>nomatch (show p∈([]:List (Addr×Obj)) from hp)),e0.au.kept pW,?_,lM⟩
 ·have hy:scope.names.lookup y=some .cell∨scope.names.lookup y=some .free:=hy
  rcases hy with hy | hy
  ·exact absurd rfl (S.Od _ (lookup_mem hy))
  ·exact yE (cells:=X.env.cells) scope.names [] (.inl (lookup_mem hy))
 ·unfold di at e2
  simp only [Dr,nH,jT] at e2;have hj:i<fr.length:=by
   cases q:fr[i]? with
   |none=>rw [q] at e2; cases e2
   |some _=>exact(eF.mp q).1
  have ha:=eg.mp S.c.at_ i (by simpa using hj);have vS:N[0+i]?=some x:=by rw [Nat.zero_add]; exact e1
  cases q:fr[i]? with
  |none=>rw [q] at e2; cases e2
  |some p=>
   rw [q] at e2;simp only [vS,q] at ha;obtain⟨a1,a2⟩:=zT.mp ha;have KG:X.N[p]?=some x:=by simpa using a1
   have qt:scope.names.lookup x=some .free:=by simpa using a2
   have iJ:(σ[p]?).getD none=some v:=by simpa using e2
   have Jq:σ[p]?=some (some v):=by
    cases z:σ[p]? with
    |none=>rw [z] at iJ; cases iJ
    |some y=>rw [z] at iJ; simpa using iJ
   have dq:=S.c.frees (x,.free) (lookup_mem qt) rfl;obtain⟨m0,hn0,HJ⟩:=I.loc;have Ho:wj X.env.scope x:=by
    rcases dq with z | z
    ·exact .inr (.inl z)
    ·exact .inr (.inr z)
   obtain⟨u,r,l⟩:=HJ p x v KG Jq Ho;refine⟨u,r,.inr ⟨.inr qt,?_⟩⟩;have hc:∃c,X.env.cells.lookup x=some c/\s.heap.IsCell c (some u):=by
    rcases l with ⟨z,_⟩ | ⟨_,c,hc,hv⟩
    ·rcases dq with y | y
     ·have y':X.env.kindOf x=some .cell:=y
      rw [y'] at z; cases z
     ·have y':X.env.kindOf x=some .free:=y
      rw [y'] at z; cases z
    ·exact⟨c,hc,hv⟩
   obtain⟨c,hc,hv⟩:=hc;obtain⟨c1,BN⟩:=yE (cells:=X.env.cells) scope.names [] (.inl (lookup_mem qt));have mY:=lk BN;rw [hc] at mY;cases mY;exact⟨c,BN,cellK x c _ hc hv⟩
 ·obtain⟨v,z⟩:=I.cell x c (lk hc)
  exact⟨v,cellK x c v (lk hc) z⟩
 ·obtain⟨v,o,ho,_⟩:=I.cell x c (lk hc)
  exact un.free c o ho (I.fi x c (lk hc)) (by simp)
 ·have:=S.c.len
  show (di 0 fr σ).length=N.length;unfold di;simp [this]
theorem abN {params:Arguments}{body:Expr}{gu:Value}{c':Addr}{u:HO}{k:Nat}{t:XK->TE}{Q:VK}(S:KY X scope N fr)(I:Inv X pins σ H s)(un:Un (aH X.stack) [] H H2 s.heap s2.heap)(e0:jk X.prog X.w X.K X.mg X.base A outer s2 H2)(hr:bF (k+1) A)
  (hf:H2 f=some (.bE (mI q params body scope X.env.cells X.mg (.ref c') gu) u)) (hc:T4 H2 c' q)
  (yq:∀fd:FuncData,fd.params=params->fd.defaults=.none->fd.kwdefaults=.none->bindArgs fd ⟨[],[]⟩=pure [])
  (gP:∀(f:Addr) (cv:Value) (A:Around) (outer:List Env) (s2:Shared) (H2:Hp) (E:XK),bF k (A.deeper (envX q scope s2.heap.objs.size f cv (eu scope.names X.env.cells)))->Rz (fH (aE X.prog X.w) X.prog X.w X.K X.mg X.base N q scope f cv (eu scope.names X.env.cells) A outer s2 H2 E) E->
   PE (fH (aE X.prog X.w) X.prog X.w X.K X.mg X.base N q scope f cv (eu scope.names X.env.cells) A outer s2 H2 E) body (t E))
  (hq:t E (di 0 fr σ) H2 Q) (Hr:0<s2.toks) :
  codeAny (model X.prog X.w) A (.call (.ref f) ⟨[],[]⟩) (CR (aE X.prog X.w) outer X.prog X.w H2 s2 Q E) s2:=by
 obtain⟨hfo,_⟩:=e0.au f _ hf;have HY:s2.heap.CodeRec (.ref c') q:=by
  obtain⟨oc,u',vs,t,z1,z2,z3⟩:=hc;obtain⟨z4,_⟩:=e0.au c' _ z1;exact⟨c',oc,vs,t,rfl,z4,z2,z3⟩
 have lim:s2.heap.NoLimit:=e0.mod.nolimit.keeps fun b o e=>(e0.bs b o e).1;refine kla_callFunE hr.depth hfo rfl S.co S.gen rfl HY ?_;rw [yq _ rfl rfl rfl];refine wpAny_pure (wpAny_newFunctionEnv S.Od (fun x hx=>nomatch hx) (fun eJ om PZ=>⟨lim.fresh _ PZ,?_⟩) S.c.kind);have adg:∀b o,s2.heap.get? b=some o->eJ.get? b=some o:=fun b o e=>PZ.extBut b o (bQ (a6 e)) (aZ _ e);have IL:=acm (q:=q) (f:=f) (cv:=.ref c') (E:=E) (t1:=s2.toks+([]:List (Str×Value)).length) S I un e0 hr.hd om adg (cH Hr (kK _ _));refine kla_codeExpr (aG (gP f (.ref c') A outer s2 H2 E (hr.deeper _) XZ [] _ _ _ Q IL hq) (fun v s' ⟨v',H',J,rv,hQ⟩=>?_));exact⟨v',H',J.os,J.bare,J.base,J.au,rv,hQ⟩
end
abbrev vZ (cm:Bool)(CX:gx)(P:Program)(w:World)(K:ah)(mg:Str->Option Value)(base:Heap)(N:List Str)(qual:Str)(scope:Scope)(f:Addr)(cd:Value)(A:Around)(outer:List Env)(s:Shared)(H:Hp)(E:XK):Cx:=
 {bW CX P w K mg base N qual scope f cd A outer s H E with calm:=cm}
theorem acj {cm:Bool}{CX:gx}{P:Program}{w:World}{K:ah}{mg:Str->Option Value}{base:Heap}{N ps:List Str}{qual:Str}{scope:Scope}{f:Addr}{cd:Value}{A:Around}{outer:List Env}{s s1:Shared}{H:Hp}{E:XK}{us:List Value}{vs:List V}
  (S:bC N ps scope) (hd:cm=true->A.handled=none) (e0:jk P w K mg base A outer s H) (hl:vs.length=ps.length) (r:Vals vs us)
  (x:InCallC s s.heap.objs.size (bindL (envOfC qual scope s.heap.objs.size f cd).kindOf (ps.zip us) fun _=>none) (cellsFrom (s.heap.objs.size+1) scope.names []) (bindC (envOfC qual scope s.heap.objs.size f cd).kindOf (ps.zip us) fun _=>none) s1) (lM:0<s1.toks) :
  Inv (vZ cm CX P w K mg base N qual scope f cd A outer s H E) [] (start N vs) H s1:=by
 have dS:ps.length<=N.length:=by have:=congrArg List.length S.pre; rw [tE] at this; omega
 obtain⟨h1,tk,rfl,hk⟩:=x.done;have lD:∀b:Addr,b∉(vZ cm CX P w K mg base N qual scope f cd A outer s H E).ex:=fun b z=>absurd (show b∈([]:List Addr) from z) (by simp);refine⟨⟨e0.mod,S.kind,rfl,rfl,bb _,fun y z c h1 h2=>?_,fun y hy=>?_,fun y c _ h=>?_,hd,Dw e0.frames,.inr ⟨rfl,rfl⟩,fun b z=>absurd z (lD b),e0.bs,e0.jf,fun b _ _=>lD b,fun b z=>absurd z (lD b),e0.eL,e0.gQ⟩,
  rfl,e0.bare,Un.kept hk,⟨_,x.toInCall.ns,fun i y v h1 h2 h3=>?_⟩,fun y c h=>⟨_,x.cell y c h⟩,e0.au.fresh (bb _),fun y c h=>?_,fun p hp=>absurd (show p∈([]:List (Addr×Obj)) from hp) (by simp),e0.au.kept hk,?_,lM⟩
 ·exact name_of_addr x.apart (jU h1) (jU h2)
 ·have hy:scope.names.lookup y=some .cell∨scope.names.lookup y=some .free:=hy
  rcases hy with hy | hy
  ·exact Co hy
  ·exact absurd rfl (S.Oc _ (jU hy))
 ·exact tm (x.above y c (jU h))
 ·have hi:i<vs.length:=by
   unfold start at h2
   by_cases hi:i<vs.length
   ·exact hi
   ·rw [sY (by simpa using hi)] at h2
    rw [DB] at h2
    split at h2 <;> cases h2
  have ha:vs[i]?=some v:=by
   unfold start at h2;rw [sX (by simpa using hi),jT] at h2
   cases e:vs[i]? with
   |none=>rw [e] at h2; cases h2
   |some a=>rw [e] at h2; cases h2; rfl
  obtain⟨u,hu,rv⟩:=r.get ha;have hp:ps[i]?=some y:=by
   rw [← S.pre,List.getElem?_take_of_lt (by omega)]; exact h1
  have xH:ps.Nodup:=by rw [← S.pre]; exact S.nd.sublist (List.take_sublist _ _)
  refine⟨u,rv,?_⟩;rcases S.par y (jV hp) with k | k
  ·exact .inl ⟨k,JJ xH hp hu k⟩
  ·obtain⟨c,e⟩:=Co (n:=s.heap.objs.size+1) k
   refine .inr ⟨.inl k,c,e,?_⟩;have q:=x.cell y c e;rw [JK xH hp hu (by show scope.names.lookup y≠_; rw [k]; decide)] at q;exact q
 ·exact e0.au.fresh (tm (x.above y c (jU h)))
 ·unfold start
  show _=N.length;rw [iO,ef,wy];omega
theorem QW {cm:Bool}{CX:gx}{P:Program}{w:World}{K:ah}{mg:Str->Option Value}{base:Heap}{f:Addr}{name qual:Str}{params:Arguments}{body:List Stmt}{scope:Scope}{dV kV doc pm aw ct oc:Value}{an od:Option Addr}
  {iC:Array (Option Value)} {N ps:List Str} (lk:K.lookup f=some ⟨oc,od,.func (gc name qual params body scope dV kV doc pm an aw ct),iC⟩) (e9:oV K aw qual=true) (S:bC N ps scope)
  {A:Around} {outer:List Env} {s:Shared} {H:Hp} {args:Args} {us:List Value} {vs:List V} {Q:VK} {E:XK} (Qk:A.depth<recursionLimit) (hd:cm=true->A.handled=none) (e0:jk P w K mg base A outer s H) (rP:0<s.toks∨False) (hb:BindsTo s (gc name qual params body scope dV kV doc pm an aw ct) args (ps.zip us)) (r:Vals vs us) (hl:vs.length=ps.length)
  (gP:∃t,ed (vZ cm CX P w K mg base N qual scope f aw A outer s H E) body t/\t {nx:=fun _ H'=>Q .aK H',rt:=Q} (start N vs) H) :
  codeAny (model P w) A (.call (.ref f) args) (CR CX outer P w H s Q E) s:=by
 have KX:K.In s.heap:=e0.mod.lF.keeps fun b o e=>(e0.bs b o e).1;have lim:s.heap.NoLimit:=e0.mod.nolimit.keeps fun b o e=>(e0.bs b o e).1;have vd:∀y∈ps.zip us,scope.names.lookup y.1=some .local∨(scope.names.lookup y.1=some .cell/\((cellsFrom (s.heap.objs.size+1) scope.names []).lookup y.1).isSome=true):=fun⟨n,v⟩ hy=>by
  rcases S.par n (wF hy).1 with q | q
  ·exact .inl q
  ·exact .inr ⟨q,wz _ _ _ (.inl q)⟩
 refine codeAny_call_function Qk (KX _ _ lk) rfl S.co S.gen rfl (PySem.W.codeRec_of KX e9) (hb _ _ _ _ ?_);refine wpAny_with_toks (n:=1) (rP.resolve_right id) (wpAny_newFunctionEnv_cells S.kind vd fun env he s1 x lM=>?_);subst he;refine⟨lim.keeps x.toInCall.keep,codeAny_func ?_⟩;obtain⟨t,ht,hq⟩:=gP;have I:Inv (vZ cm CX P w K mg base N qual scope f aw A outer s H E) [] (start N vs) H s1:=acj S hd e0 hl r x lM;refine aG (ht [] s1 (start N vs) H _ I hq) fun fl s' hs=>?_;have fin:∀{aL:St} {H':Hp} {v:V} {u:Value},Inv (vZ cm CX P w K mg base N qual scope f aw A outer s H E) [] aL H' s'->RelV v u->Q v H'->CE outer P w H s Q u s':=
  fun {aL H' v u} J rv q=>⟨v,H',J.os,J.bare,J.base,J.au,rv,q⟩
 cases fl with
 |ret u=>
  obtain⟨v,aL,H',J,rv,q⟩:=hs;exact fin J rv q
 |next=>
  obtain⟨aL,H',J,q⟩:=hs;exact fin (v:=V.aK) (u:=gW) J rfl q
 |brk=>
  obtain⟨_,_,_,q⟩:=hs;exact dN q
 |cont=>
  obtain⟨_,_,_,q⟩:=hs;exact dN q
structure sV (K:ah) (C c0 c1 c2 c3 c4 c5 c6 c7:Addr) (j:Nat):Prop where
 z:sU K C
 lt:j<8
 w0:kitOne K (.ref C) (.ref c0)=some (j==0)
 w1:kitOne K (.ref C) (.ref c1)=some (j==1)
 w2:kitOne K (.ref C) (.ref c2)=some (j==2)
 w3:kitOne K (.ref C) (.ref c3)=some (j==3)
 w4:kitOne K (.ref C) (.ref c4)=some (j==4)
 w5:kitOne K (.ref C) (.ref c5)=some (j==5)
 w6:kitOne K (.ref C) (.ref c6)=some (j==6)
 w7:kitOne K (.ref C) (.ref c7)=some (j==7)
 ve:kitOne K (.ref C) (.type "ValueError")=some true
def wQ (j:Nat):List Nat:=[[99,108,97,115,104],[110,111,32,98,97,99,107],[110,111,32,110,97,109,101],[110,111,32,116,101,120,116],[110,111,32,116,105,99,107],[110,111,32,119,97,118,101],[116,111,111,32,108,111,110,103],[117,110,108,105,107,101]].getD j []
theorem UY (c:Nat):(iw c).length<=8:=by
 unfold iw
 match c with
 |0=>decide
 |1=>decide
 |2=>decide
 |3=>decide
 |4=>decide
 |5=>decide
 |6=>decide
 |7=>decide
 |n+8=>simp
def T5 (P:Program)(w:World)(K:ah)(mg:Str->Option Value)(base:Heap)(c0 c1 c2 c3 c4 c5 c6 c7:Addr):Prop:=
 ∃fc:Addr,mg "_law_class" = some (.ref fc)/\keepIn K (.ref fc)=true/\∀(A:Around) (outer:List Env) (s:Shared) (H:Hp) (a C:Addr) (j:Nat) (Q:VK),A.depth+8<recursionLimit->A.units+200<cLine->jk P w K mg base A outer s H->0<s.toks->H a=some (vp C a)->sV K C c0 c1 c2 c3 c4 c5 c6 c7 j->
  (∀H',ax H H'->Q (S (wQ j)) H')->codeAny (model P w) A (.call (.ref fc) ⟨[.ref a],[]⟩) (CR CX0 outer P w H s Q E0) s
def Tld {γ:Type}(cs:List Nat)(H:Hp)(P:γ->Prop)(Q:VK):M γ->Prop
 |.ok r=>P r
 |.ex c=>c∈cs/\∀H',ax H H'->Q (S (iw c)) H'
 |.bad=>False
def KL (P:Program)(w:World)(K:ah)(mg:Str->Option Value)(base:Heap)(cls:Nat->Addr)(cs:List Nat)(k:Nat):Prop:=
 ∃f:Addr,mg "_law_told" = some (.ref f)/\keepIn K (.ref f)=true/\∀(A:Around) (outer:List Env) (s:Shared) (H:Hp) (g:Addr) (o:Obj) (u:HO) (γ:Type) (m:M γ) (R:γ->VK->Prop) (Q:VK) (E:XK),bF (k+2) A->jk P w K mg base A outer s H->0<s.toks->H g=some (.bE o u)->(∃fd,o.data=.func fd)->
  (∀(A':Around) (FY:List Env) (s2:Shared) (Q':VK) (E':XK),bF (k+1) A'->jk P w K mg base A' FY s2 H->0<s2.toks->Un (aH outer) [] H H s.heap s2.heap->Rg cls E' m H (fun r=>R r Q')->codeAny (model P w) A' (.call (.ref g) ⟨[],[]⟩) (CR (aE P w) FY P w H s2 Q' E') s2)->
  Tld cs H (fun r=>R r Q) Q m->codeAny (model P w) A (.call (.ref f) ⟨[.ref g],[]⟩) (CR (aE P w) outer P w H s Q E) s
section
variable {P:Program}{w:World}{K:ah}{mg:Str->Option Value}{base:Heap}{cls:Nat->Addr}
theorem VC {x e T:Str}{st:Stmt}{cs:List Nat}{k:Nat}{CT c0 c1 c2 c3 c4 c5 c6 c7:Addr}{p1 p2 p3 p4 p5 p6 p7 p8 p9 Zh:Pos}(FT:cJ K mg "_law_told" st [x])(S:bC [x,e] [x] (ay st))
  (gP:dg st=[.Try [.Return (some (.Call (.Name x p1) [] [] p2)) p3] [.ExceptHandler (some (.Name T p4)) (some e) [.Return (some (.Call (.Name "_law_class" p5) [.Name e p6] [] p7)) p8] p9] [] [] Zh])
  (lx:(ay st).names.lookup x=some .local) (le:(ay st).names.lookup e=some .local) (gT:(ay st).names.lookup T=some .globalImplicit) (gC:(ay st).names.lookup ("_law_class" : Str)=some .globalImplicit)
  (hmT:mg T=some (.ref CT)) (HC:T5 P w K mg base c0 c1 c2 c3 c4 c5 c6 c7)
  (hw:∀c∈cs,∃j,sV K (cls c) c0 c1 c2 c3 c4 c5 c6 c7 j/\wQ j=iw c/\exmOne K (.ref (cls c)) (.ref CT)=some true)
  (dx:(x==("__debug__" : Str))=false:=by decide) (ddx:(x==("__classdict__" : Str))=false:=by decide) (de:(e==("__debug__" : Str))=false:=by decide) (dde:(e==("__classdict__" : Str))=false:=by decide) (dT:(T==("__debug__" : Str))=false:=by decide) :
  KL P w K mg base cls cs k:=by
 obtain⟨f,fd,F,hm,hb⟩:=FT;obtain⟨fc,hmC,kC,runC⟩:=HC;refine⟨f,hm,F.kp,fun A outer s H g o u γ m R Q E hr e0 rP hg ho run hq=>?_⟩;obtain⟨oc,od,kV,doc,pm,an,aw,ct,iC,rfl,lk,e9⟩:=F.ex;have KX:K.In s.heap:=e0.mod.lF.keeps fun b o e=>(e0.bs b o e).1;refine QW (cm:=true) (N:=[x,e]) (ps:=[x]) (us:=[.ref g]) (vs:=[.ref g]) lk e9 S hr.depth (fun _=>hr.hd) e0 (.inl rP) (hb s [.ref g] KX rfl) (.cons rfl .nil) rfl ?_;rw [gP];generalize hX:vZ true (aE P w) P w K mg base [x,e] "_law_told" (ay st) f aw A outer s H E=X
 have eA:X.A=A.deeper (envOfC "_law_told" (ay st) s.heap.objs.size f aw):=by rw [← hX]; rfl
 have PD:∀pn W E',Passes (aE P w) (X.kh pn W) E'->PE (X.kh pn W) (.Call (.Name x p1) [] [] p2) (fun σ H2 Q'=>σ[0]?=some (some (.ref g))/\H2=H/\Rg cls E' m H (fun r=>R r Q')):=by
  subst hX;intro pn W E' hp pins s1 σ H2 Q' I ⟨h1,h2,h3⟩;subst h2;refine wpAny_Call_Name_kw (aG (FQ (X:=Cx.kh _ pn W) (i:=0) rfl (.inl lx) dx ddx pins s1 σ H2 (fun v H'=>v=.ref g/\H'=H2) I ⟨_,h1,rfl,rfl⟩) fun v s2 ⟨v',H',I2,rv,z1,z2⟩=>?_);subst z1 z2;cases rv;obtain⟨hgo,_⟩:=I2.au g _ hg;obtain⟨fd',Qh⟩:=ho;have hF:FnAt g s2.heap:=by
   obtain⟨oc',od',da',el⟩:=o
   simp only at Qh
   subst Qh;exact⟨_,_,_,_,hgo⟩
  refine callWith_F0 hF (wpAny_call (codeAny_mono (run _ _ s2 Q' E' (hr.deeper _) I2.yB I2.tk I2.base h3) fun r s' hq=>?_))
  cases r with
  |error e=>exact hp pins σ _ s2 e s' I2 hq
  |ok fl=>
   cases fl with
   |ret u=>exact I2.after hq
   |next=>exact dN hq
   |brk=>exact dN hq
   |cont=>exact dN hq
 have PC:∀pn ea,PE (X.rK pn ea) (.Call (.Name "_law_class" p5) [.Name e p6] [] p7) (fun σ H2 Q'=>∃a C j,σ[1]?=some (some (.ref a))/\H2 a=some (vp C a)/\sV K C c0 c1 c2 c3 c4 c5 c6 c7 j/\∀H',ax H2 H'->Q' (L2.S (wQ j)) H'):=by
  subst hX;intro pn ea pins s1 σ H2 Q' I ⟨a,C,j,h1,h2,h3,h4⟩;refine wpAny_Call_Name_kw (uQ I (show _ from gC) hmC ?_ (by decide));refine zM (h₀:=base) I.ok.mod.lF kC (aG ((ba _ _ _ _ _ rfl (FQ (X:=Cx.rK _ pn ea) (i:=1) rfl (.inl le) de dde) cC) p7 pins s1 σ H2 (fun vs H'=>vs=[.ref a]/\H'=H2) I ⟨_,h1,rfl,rfl⟩) fun us s2 ⟨vs,H',I2,r,z1,z2⟩=>⟨I2.e8,?_⟩) rfl rfl;subst z1 z2;obtain⟨u',rfl,ru⟩:=r.one;cases ru;have h8:(A.deeper (envOfC "_law_told" (ay st) s.heap.objs.size f aw)).depth+8<recursionLimit:=by have:=(hr.deeper (envOfC "_law_told" (ay st) s.heap.objs.size f aw)).dp; omega
  have h9:(A.deeper (envOfC "_law_told" (ay st) s.heap.objs.size f aw)).units+200<cLine:=by have:=(hr.deeper (envOfC "_law_told" (ay st) s.heap.objs.size f aw)).un; omega
  refine wpAny_call (codeAny_mono (runC _ _ s2 _ a C j Q' h8 h9 I2.yB I2.tk h2 h3 h4) fun r s' hq=>?_)
  cases r with
  |error e=>exact dN hq
  |ok fl=>
   cases fl with
   |ret u=>exact I2.after hq
   |next=>exact dN hq
   |brk=>exact dN hq
   |cont=>exact dN hq
 refine⟨_,fA (YC (X:=X) (iN:=1) (CT:=CT) (tb:=fun E'=>ml fun σ H2 Q'=>σ[0]?=some (some (.ref g))/\H2=H/\Rg cls E' m H (fun r=>R r Q')) (by rw [← hX]) (by rw [← hX]; exact⟨rfl,rfl⟩) (by rw [← hX]; rfl) (by rw [← hX]; exact S.nd) (by rw [← hX]; rfl) (by rw [← hX]; exact le) (by rw [← hX]; exact gT) (by rw [← hX]; exact hmT) (fun pn W E' hp=>fA (ic (PD pn W E' (by rw [← hX] at hp ⊢; exact hp)))) (fun pn ea=>fA (ic (PC pn ea))) dT),?_⟩;have eK:X.K=K:=by rw [← hX]; rfl
 refine⟨rfl,rfl,?_⟩
 cases m with
 |ok d=>exact hq
 |bad=>exact hq
 |ex c=>
  obtain⟨HX,q'⟩:=hq;obtain⟨j,w1,w2,w3⟩:=hw c HX;intro H' s';intro ea C' ec gL;cases ec;rw [eK];refine⟨w3,?_⟩;refine⟨_,_,j,rfl,aX,w1,fun H'' gD=>?_⟩;rw [w2];exact q' _ ((s'.trans (ax.upd gL)).trans gD)
end
theorem Ct (fd:FuncData)(h1:fd.params={posonlyargs:=[],args:=[],vararg:=none,kwonlyargs:=[],kw_defaults:=[],kwarg:=none,defaults:=[]})(h2:fd.defaults=.none)(h3:fd.kwdefaults=.none):bindArgs fd ⟨[],[]⟩=pure []:=by
 obtain⟨_,_,_,_,_,_,_,_,_,_,_,_,_,_⟩:=fd
 simp only at h1 h2 h3
 subst h1 h2 h3;rfl
abbrev jg:=List (Addr×Addr×Str)
def kW (tabs:jg)(b:Addr):Option HO:=(tabs.find? fun t=>t.2.1==b).map fun t=>.dG t.2.2
theorem Mc:∀{tabs:jg},tabs.Pairwise (fun x y=>x.2.1≠y.2.1)->∀t∈tabs,kW tabs t.2.1=some (.dG t.2.2)
 |t::r,h,u,hu=>by
  rw [List.pairwise_cons] at h;unfold kW;rw [iL];rcases bf.mp hu with rfl | hu
  ·simp
  ·have bS:(t.2.1==u.2.1)=false:=by simpa using h.1 u hu
   rw [bS];exact Mc h.2 u hu
theorem Ak {tabs:jg}{b:Addr}{u:HO}(h:kW tabs b=some u):∃t∈tabs,t.2.1=b/\u=.dG t.2.2:=by
 unfold kW at h;obtain⟨t,h1,h2⟩:=jq.mp h;exact⟨t,List.mem_of_find?_eq_some h1,by simpa using List.find?_some h1,h2.symm⟩
theorem abJ {P:Program}{w:World}{K:ah}{mg mb:Str->Option Value}{CX:gx}{k:Nat}{fa a:Addr}{fd:FuncData}{x:Str}{sp:Sp}{aY:Shared}{vs:List Value}{ns:List Int}{tabs:jg}
  (KX:K.In aY.heap) (om:aY.heap.Ns mainGlobals mg) (hb:aY.heap.Ns builtinsNs mb) (hbb:∀x:Str,x≠"__name__" ->mb x=bootBuiltins x) (adf:aY.heap.NoLimit) (hg:aY.gens=#[])
  (ha:aY.heap.get? a=some {cls:=.type "list",data:=.seq vs.toArray}) (hi:IntsAre vs ns) (hl:ns.length<=sizeLine) (hr:bF k callerA)
  (yd:tabs.Pairwise (fun x y=>x.2.1≠y.2.1)) (hT:∀t∈tabs,CodeHd aY.heap t.1 t.2.1/\aY.heap.get? t.2.1=some (tabObj #[])) (yt:noTabs K=true)
  (hbm:∃bm ob,mg "__builtins__" = some (.ref bm)/\bm≠builtinsNs/\aY.heap.get? bm=some ob/\ob.cls=.type "module" /\ob.dict=some builtinsNs/\ob.data=.plain)
  (F:∀base:Heap,K.In base->base.Ns mainGlobals mg->(∀t∈tabs,oP mg base t.1 t.2.1)->cR P w K mg base CX k fa fd [x] sp) (yq:∀(s:Shared) (u:Value),BindsTo s fd ⟨[u],[]⟩ [(x,u)])
  (pU:∀H:Hp,(∀t∈tabs,H t.2.1=some (.dG t.2.2))->bX K H a (ns.map V.int)->sp [.ref a] H (fun v _=>v=.bl true) fun _ _ _=>False)
  (Il:∀H e s',CX [] H aY (fun _ _ _=>False) e s'->False) (hx:x=dR:=by rfl) :
  codeAny (model P w) callerA (.call (.ref fa) ⟨[.ref a],[]⟩) (fun r s'=>r=.ok (.ret (.bool true))/\OldK aY.heap s'.heap/\s'.os=aY.os/\AllBare s'.gens) aY:=by
 have rv:=LJ hi;have abD:=hi.length;have OD:∀t∈tabs,t.2.1≠a:=fun t ht z=>by
  have e:=(hT t ht).2;rw [z,ha] at e;cases e
 have core:∀H:Hp,(∀b,H b=kW tabs b∨(b=a/\∃o xs,H b=some (.bE o (.lst xs))))->bX K H a (ns.map V.int)->cB P w H aY.heap->(H a≠none->K.lookup a=none)->
   codeAny (model P w) callerA (.call (.ref fa) ⟨[.ref a],[]⟩) (fun r s'=>r=.ok (.ret (.bool true))/\OldK aY.heap s'.heap/\s'.os=aY.os/\AllBare s'.gens) aY:=by
  intro H hO hS au hK;have Cv:∀{b:Addr} {o:Obj},aY.heap.get? b=some o->H b=none->(mS aY.heap H).get? b=some o:=fun e n=>adm e n;have tabAt:∀t∈tabs,H t.2.1=some (.dG t.2.2):=fun t ht=>by
   rcases hO t.2.1 with z | ⟨z,_⟩
   ·rw [z]; exact Mc yd t ht
   ·exact absurd z (OD t ht)
  have kinds:∀b o,aY.heap.get? b=some o->H b≠none->b=a∨o=tabObj #[]:=fun b o e n=>by
   rcases hO b with z | ⟨z,_⟩
   ·cases q:kW tabs b with
    |none=>rw [z,q] at n; exact absurd rfl n
    |some u=>
     obtain⟨t,ht,h1,_⟩:=Ak q;have e2:=(hT t ht).2;rw [h1,e] at e2;exact .inr (iu e2)
   ·exact .inl z
  have free:∀b o,aY.heap.get? b=some o->o.cls≠.type "list" ->o≠tabObj #[]->H b=none:=fun b o e n1 n2=>by
   cases q:H b with
   |none=>rfl
   |some u=>
    rcases kinds b o e (by rw [q]; simp) with z | z
    ·subst z
     rw [ha] at e; cases e;exact absurd rfl n1
    ·exact absurd z n2
  have aev:∀b o es ep,aY.heap.get? b=some o->o.data=.dict es ep->H b=none:=fun b o es ep e d=>by
   cases q:H b with
   |none=>rfl
   |some u=>
    rcases kinds b o e (by rw [q]; simp) with z | z
    ·subst z
     rw [ha] at e; cases e;have d':Data.seq vs.toArray _=Data.dict es ep:=d;cases d'
    ·rw [z] at d
     cases d
  have A5:∀{b:Addr} {m:Str->Option Value},aY.heap.Ns b m->(mS aY.heap H).Ns b m:=fun {b m} ⟨o,es,ep,e,d,r⟩=>⟨o,es,ep,Cv e (aev b o es ep e d),d,r⟩
  have Qz:K.In (mS aY.heap H):=fun b o e=>Cv (KX b o e) (by
   cases q:H b with
   |none=>rfl
   |some u=>
    rcases kinds b o (KX b o e) (by rw [q]; simp) with z | z
    ·subst z
     rw [hK (by rw [q]; simp)] at e; cases e
    ·have h2:=eg.mp yt (b,o) (mem_of_lookupK e)
     rw [z] at h2;exact absurd (show false=true from h2) gy)
  have hM:Mod K mg (mS aY.heap H):=⟨Qz,A5 om,⟨mb,A5 hb,hbb⟩,let ⟨mc,h1,h2⟩:=adf; ⟨mc,A5 h1,h2⟩⟩
  have BS:∀t∈tabs,oP mg (mS aY.heap H) t.1 t.2.1:=fun t ht=>by
   obtain⟨⟨o,U9,file,tf,flags,tg,inF,text,tt,e1,c1,r⟩,_⟩:=hT t ht;obtain⟨bm,ob,b1,b2,b3,b4,b5⟩:=hbm;exact⟨⟨o,U9,file,tf,flags,tg,inF,text,tt,Cv e1 (free _ _ e1 (by rw [c1]; intro z; injection z with z; exact absurd z (by decide)) (by intro z; rw [z] at c1; cases c1)),c1,r⟩,bm,ob,b1,b2,Cv b3 (free _ _ b3 (by rw [b4]; intro z; injection z with z; exact absurd z (by decide)) (by intro z; rw [z] at b4; cases b4)),b4,b5⟩
  have e0:jk P w K mg (mS aY.heap H) callerA [] aY H:=⟨rfl,hM,fun b o e=>aam e,Nat.le_of_eq (adl _ _),trivial,fun b hb=>absurd (show b∈([]:List Addr) from hb) (by simp),au,.of_eq hg⟩
  refine codeAny_mono ((F _ Qz (A5 om) BS).run callerA [] aY H ⟨[.ref a],[]⟩ [.ref a] [.ref a] _ _ hr e0 (.inr (by rw [hx])) (yq aY (.ref a)) (.cons rfl .nil) (pU H tabAt hS)) fun r s' h=>?_
  cases r with
  |error e=>exact(Il H e s' h).elim
  |ok fl=>
   cases fl with
   |next=>exact dN h
   |brk=>exact dN h
   |cont=>exact dN h
   |ret u=>
    obtain⟨v,H',os,bare,un,P8,r',q⟩:=h;have q':v=.bl true:=q;subst q';obtain rfl:u=Value.bool true:=r';refine⟨rfl,⟨fun b o e=>?_,fun b o e=>un.there b o e (by simp)⟩,os,bare⟩
    cases q:H b with
    |none=>exact .inl (un.keep b o e q (by intro z; exact absurd (show b∈([]:List Addr) from z) (by simp)) (by simp))
    |some u=>
     rcases hO b with z | ⟨_,ob,xs,z⟩
     ·rw [q] at z
      obtain⟨t,ht,h1,h2⟩:=Ak z.symm;subst h1 h2;have z2:=un.d8 _ _ q;obtain⟨ps,hP,_⟩:=P8 _ _ z2;have e2:=(hT t ht).2;rw [e] at e2;cases e2;exact .inr (.inl ⟨((hT t ht).1.tab (hT t ht).2).isCodeTable,rfl,#[],ps,rfl,by rw [Array.empty_append]; exact hP⟩)
     ·have z2:=un.et b ob _ z
      obtain⟨e1,_⟩:=au b _ z;obtain⟨e2,_⟩:=P8 b _ z2;rw [e] at e1; cases e1;exact .inl e2
 have NX:∀(H:Hp) b u,kW tabs b=some u->dC P w H aY.heap b u:=fun H b u z=>by
  obtain⟨t,ht,h1,h2⟩:=Ak z;subst h1 h2;exact⟨#[],(hT t ht).2,trivial,fun pos cv z=>by cases z⟩
 cases hk:K.lookup a with
 |some o=>
  have e:=KX a o hk;rw [ha] at e;cases e;have hna:kW tabs a=none:=by
   cases q:kW tabs a with
   |none=>rfl
   |some u=>
    obtain⟨t,ht,h1,_⟩:=Ak q;exact absurd h1 (OD t ht)
  refine core (kW tabs) (fun _=>.inl rfl) (.inr ⟨_,vs.toArray,_,hk,rfl,rfl,rfl,by rw [fN,abD]; exact hl,by simpa using rv⟩) (fun b u z=>NX _ b u z) fun z=>absurd hna z
 |none=>
  refine core (fun b=>if b=a then some (.bE {cls:=.type "list",data:=.seq vs.toArray} (.lst (ns.map V.int))) else kW tabs b) (fun b=>?_) (.inl (.inr ⟨{cls:=.type "list",data:=.seq vs.toArray},if_pos rfl⟩)) (fun b u z=>?_) fun _=>hk
  ·by_cases hb:b=a
   ·exact .inr ⟨hb,_,_,if_pos hb⟩
   ·exact .inl (if_neg hb)
  ·by_cases hb:b=a
   ·have z':=(if_pos hb).symm.trans z
    cases z';subst hb;exact⟨ha,by rw [ef]; exact hl,vs,_,rv,ha⟩
   ·have z':=(if_neg hb).symm.trans z
    exact NX _ b u z'
theorem U7 {l:PySem.W.OpenLaw}{n k:Nat}{q:Program}{loose:List Str}{XP:(Str->Option Value)->Heap->Prop}{YP:World->Heap->Prop}{d:DefRec}{K:Params->ah}{CX:World->gx}{sp:World->Sp}{x:Str}{tabs:jg}
  (hn:l.most=some n) (ye:n<=sizeLine) (yk:d.params.defaults=[]) (hr:bF k callerA)
  (hY:∀(w:World) (h:Heap),YP w h->(K w.params).In h)
  (yd:tabs.Pairwise (fun x y=>x.2.1≠y.2.1)) (yt:∀w:World,noTabs (K w.params)=true)
  (hT:∀(w:World) (lz:List Str) (Be:ExcName->Option Value) (mg mb:Str->Option Value) (h:Heap),(K w.params).In h->Top q lz Be mg mb h->∀t∈tabs,CodeHd h t.1 t.2.1/\h.get? t.2.1=some (tabObj #[]))
  (F:∀(w:World) (mg:Str->Option Value) (fa:Addr) (h:Heap),(K w.params).In h->h.Ns mainGlobals mg->mg d.name=some (.ref fa)->
   ∃fd:FuncData,(∀(s:Shared) (u:Value),BindsTo s fd ⟨[u],[]⟩ [(x,u)])/\
    ∀base:Heap,(K w.params).In base->base.Ns mainGlobals mg->(∀t∈tabs,oP mg base t.1 t.2.1)->cR l.prog w (K w.params) mg base (CX w) k fa fd [x] (sp w))
  (pU:∀(w:World) (H:Hp) (a:Addr) (ns:List Int),ns.length<=n->(∀t∈tabs,H t.2.1=some (.dG t.2.2))->bX (K w.params) H a (ns.map V.int)->sp w [.ref a] H (fun v _=>v=.bl true) fun _ _ _=>False)
  (Il:∀(w:World) (H:Hp) (s:Shared) (e:Value) (s':Shared),CX w [] H s (fun _ _ _=>False) e s'->False) (hx:x=dR:=by rfl) :
  PySem.W.WalkO q loose XP YP l.row.toRowW d [] (fun f vs=>PySem.call f vs):=by
 refine T8.agX hn yk fun w aJ aY mg mb fa o pm cd doc a vs ns G Y ho hd e9 yf HA hints hlen hg=>?_;have KX:=hY w _ Y;obtain⟨fd,hb,hF⟩:=F w mg fa _ KX G.T.g yf;exact abJ KX G.T.g G.T.b G.T.builtins G.T.nolimit hg HA hints (cK hlen ye) hr yd (hT w _ _ mg mb _ KX G.T) (yt w) G.T.bmain hF hb (fun H hO hS=>pU w H a ns hlen hO hS) (fun H e s'=>Il w H aY e s') hx
def MK (K:ah)(cls:Nat->Addr)(tabs:jg)(F:List Dt->M Dt):Sp:=fun vs H Q E=>(∀t∈tabs,H t.2.1=some (.dG t.2.2))/\qT K cls F vs H Q E
def xi (K:ah)(tabs:jg):Sp:=fun vs H Q E=>(∀t∈tabs,H t.2.1=some (.dG t.2.2))/\WE K vs H Q E
section
variable {P:Program}{w:World}{K:ah}{mg:Str->Option Value}{base:Heap}{cls:Nat->Addr}
theorem aey {x qual:Str}{st:Stmt}{f:Addr}{fd:FuncData}{N ps:List Str}{k np n:Nat}{b:SM}{tabs:jg}(F:eP K x qual st f fd)(S:bC N ps (ay st))(hp:ps.length=np)(hn:N.length=np+n)
  (gP:∀(aw:Value) (A:Around) (outer:List Env) (s:Shared) (H:Hp) (E:XK),aw=fd.code->(∀t∈tabs,H t.2.1=some (.dG t.2.2))->bF k (A.deeper (envOfC qual (ay st) s.heap.objs.size f aw))->
   Rz (bW (aE P w) P w K mg base N qual (ay st) f aw A outer s H E) E->Bv (bW (aE P w) P w K mg base N qual (ay st) f aw A outer s H E) cls E (dg st) b) (hf:ps=[dR]->(ay st).names.lookup dR=some .local:=by first | assumption | decide +kernel) :
  cR P w K mg base (aE P w) (k+1) f fd ps (MK K cls tabs (cO np n b)):=by
 have len:∀vs H Q E,qT K cls (cO np n b) vs H Q E->vs.length=np:=fun vs H Q E h_=>by
  obtain⟨A,ds,L,r,z,q⟩:=h_;unfold cO at q
  split at q
  ·rename_i hl
   rw [← r.length];exact hl
  ·exact(show False from q).elim
 obtain⟨oc,od,kV,doc,pm,an,aw,ct,iC,rfl,lk,e9⟩:=F.ex;refine IZ lk e9 S hf (fun vs H Q E h=>by rw [hp]; exact len vs H Q E h.2) fun A outer s H vs Q E hr h=>?_;obtain⟨ht,h⟩:=h;have hv:=len vs H Q E h;refine⟨_,gP aw A outer s H E rfl ht hr Fm,?_⟩;obtain⟨B,ds,L,r,z,q⟩:=h;refine⟨H,B,ds.map Bd.val++bM n .no,⟨[],.refl _,L,(fun a z=>nomatch z),?_⟩,?_⟩
 ·have e:start N vs=vs.map some++bM n none:=by
   unfold start;rw [hn,hv,wA]
  rw [e];exact IY L r z n
 ·unfold cO at q
  split at q
  ·cases hm:b (ds.map Bd.val++bM n .no) with
   |ok fl=>
    rw [hm] at q
    cases fl with
    |nx ρ=>exact fun σ H' ⟨os,s',_,_,_⟩=>q .aK H' s' AD trivial
    |rt d=>exact fun v H' s' r' z'=>q v H' s' r' z'
    |bk ρ=>exact(show False from q).elim
    |ct ρ=>exact(show False from q).elim
   |ex c=>rw [hm] at q; exact q
   |bad=>rw [hm] at q; exact q
  ·exact(show False from q).elim
theorem abI {f:Addr}{fd:FuncData}{k:Nat}{x:Str}{G:List Dt->M Dt}{tabs:jg}(h:cR P w K mg base (aE P w) k f fd [x] (MK K cls tabs G))(hG:∀ns:List Int,ns.length<=63->G [.lst (ns.map Dt.int)]=.ok (.bl true)):cR P w K mg base (aE P w) k f fd [x] (xi K tabs):=by
 refine h.imp ?_;intro vs H Q E ⟨ht,a,ns,e,hS,q⟩;subst e;refine⟨ht,[],[.lst (ns.map Dt.int)],(fun a z=>nomatch z),.cons (Yb ?_) .nil,⟨⟨by simpa using (show ns.length<=10000 by have:=hS.2; omega),mr fun d hd=>?_⟩,trivial⟩,?_⟩
 ·have e:ak H []=H:=by funext b; unfold ak; simp
  rw [e];exact hS.1
 ·obtain⟨n,_,rfl⟩:=dF.mp hd
  trivial
 ·rw [hG ns hS.2]
  intro v H' _ r _;simp only [Rep] at r;rw [r];exact q H'
end
def FH (K:ah)(f:Str)(st:Stmt):Prop:=∃(a:Addr) (oc:Value) (od an:Option Addr) (sl:Array (Option Value)) (kV dc pm cd ct:Value),cV K mainGlobals f=some (some (.ref a))/\
 K.lookup a=some ⟨oc,od,.func (gc f f (gr st) (dg st) (ay st) .none kV dc pm an cd ct),sl⟩/\oV K cd f=true/\l9 K (.ref a)=true
theorem FH.mk {K:ah}{f:Str}{st:Stmt}{a:Addr}{oc:Value}{od an:Option Addr}{sl:Array (Option Value)}{kV dc pm cd ct:Value}(h1:cV K mainGlobals f=some (some (.ref a)))
  (h2:K.lookup a=some ⟨oc,od,.func (gc f f (gr st) (dg st) (ay st) .none kV dc pm an cd ct),sl⟩) (h3:oV K cd f=true) (h4:l9 K (.ref a)=true):FH K f st:=⟨a,oc,od,an,sl,kV,dc,pm,cd,ct,h1,h2,h3,h4⟩
theorem FH.fn {K:ah}{h:Heap}{mg:Str->Option Value}{f:Str}{st:Stmt}{ps:List Str}(H:FH K f st)(X:K.In h)(G:h.Ns mainGlobals mg)
  (hb:∀(kV dc pm:Value) (an:Option Addr) (cd ct:Value) (us:List Value),us.length=ps.length->bindArgs (gc f f (gr st) (dg st) (ay st) .none kV dc pm an cd ct) ⟨us,[]⟩=pure (ps.zip us)):cJ K mg f st ps:=by
 obtain⟨a,oc,od,an,sl,kV,dc,pm,cd,ct,h1,h2,h3,h4⟩:=H;exact⟨a,_,m7 (st:=st) h2 h3 h4,eS X G h1,.all fun us hl=>hb kV dc pm an cd ct us hl⟩
theorem GR {α:Type}:∀{n:Nat}{us:List α},us.length=n+1->∃a r,us=a::r/\r.length=n
 |n,a::r,h=>⟨a,r,rfl,by simpa using h⟩
theorem OR {α:Type}{us:List α}(h:us.length=1):∃u0,us=[u0]:=List.length_eq_one_iff.mp h
theorem FH.sv {K:ah}{h:Heap}{mg:Str->Option Value}{f p0:Str}{st:Stmt}(H:FH K f st)(X:K.In h)(G:h.Ns mainGlobals mg)
  (hb:∀(kV dc pm:Value) (an:Option Addr) (cd ct u0:Value),bindArgs (gc f f (gr st) (dg st) (ay st) .none kV dc pm an cd ct) ⟨[u0],[]⟩=pure ([p0].zip [u0])):cJ K mg f st [p0]:=H.fn X G fun kV dc pm an cd ct us hl=>by
 obtain⟨u0,rfl⟩:=OR hl;exact hb ..
theorem OQ {α:Type}{us:List α}(h:us.length=2):∃u0 u1,us=[u0,u1]:=by
 obtain⟨u0,r,rfl,h1⟩:=GR h;obtain⟨u1,rfl⟩:=OR h1;exact⟨u0,u1,rfl⟩
theorem FH.jH {K:ah}{h:Heap}{mg:Str->Option Value}{f p0 p1:Str}{st:Stmt}(H:FH K f st)(X:K.In h)(G:h.Ns mainGlobals mg)
  (hb:∀(kV dc pm:Value) (an:Option Addr) (cd ct u0 u1:Value),bindArgs (gc f f (gr st) (dg st) (ay st) .none kV dc pm an cd ct) ⟨[u0,u1],[]⟩=pure ([p0,p1].zip [u0,u1])):cJ K mg f st [p0,p1]:=H.fn X G fun kV dc pm an cd ct us hl=>by
 obtain⟨u0,u1,rfl⟩:=OQ hl;exact hb ..
theorem OP {α:Type}{us:List α}(h:us.length=3):∃u0 u1 u2,us=[u0,u1,u2]:=by
 obtain⟨u0,r,rfl,h1⟩:=GR h;obtain⟨u1,u2,rfl⟩:=OQ h1;exact⟨u0,u1,u2,rfl⟩
theorem FH.I0 {K:ah}{h:Heap}{mg:Str->Option Value}{f p0 p1 p2:Str}{st:Stmt}(H:FH K f st)(X:K.In h)(G:h.Ns mainGlobals mg)
  (hb:∀(kV dc pm:Value) (an:Option Addr) (cd ct u0 u1 u2:Value),bindArgs (gc f f (gr st) (dg st) (ay st) .none kV dc pm an cd ct) ⟨[u0,u1,u2],[]⟩=pure ([p0,p1,p2].zip [u0,u1,u2])):cJ K mg f st [p0,p1,p2]:=H.fn X G fun kV dc pm an cd ct us hl=>by
 obtain⟨u0,u1,u2,rfl⟩:=OP hl;exact hb ..
theorem abF {α:Type}{us:List α}(h:us.length=4):∃u0 u1 u2 u3,us=[u0,u1,u2,u3]:=by
 obtain⟨u0,r,rfl,h1⟩:=GR h;obtain⟨u1,u2,u3,rfl⟩:=OP h1;exact⟨u0,u1,u2,u3,rfl⟩
theorem FH.QX {K:ah}{h:Heap}{mg:Str->Option Value}{f p0 p1 p2 p3:Str}{st:Stmt}(H:FH K f st)(X:K.In h)(G:h.Ns mainGlobals mg)
  (hb:∀(kV dc pm:Value) (an:Option Addr) (cd ct u0 u1 u2 u3:Value),bindArgs (gc f f (gr st) (dg st) (ay st) .none kV dc pm an cd ct) ⟨[u0,u1,u2,u3],[]⟩=pure ([p0,p1,p2,p3].zip [u0,u1,u2,u3])):cJ K mg f st [p0,p1,p2,p3]:=H.fn X G fun kV dc pm an cd ct us hl=>by
 obtain⟨u0,u1,u2,u3,rfl⟩:=abF hl;exact hb ..
section
variable {P:Program}{w:World}{K:ah}{mg:Str->Option Value}{base:Heap}{cls:Nat->Addr}
abbrev Cq (P:Program)(w:World)(K:ah)(mg:Str->Option Value)(base:Heap)(cls:Nat->Addr)(k:Nat)(x:Str)(ps:List Str)(F:List Dt->M Dt):Prop:=qx P w K mg base (aE P w) k x ps (qT K cls F)
theorem qx.of {x:Str}{st:Stmt}{N ps:List Str}{k np n:Nat}{b:SM}(t:cJ K mg x st ps)(S:bC N ps (ay st))(hp:ps.length=np)(hn:N.length=np+n)
  (gP:∀(f:Addr) (aw:Value) (A:Around) (outer:List Env) (s:Shared) (H:Hp) (E:XK),bF k (A.deeper (envOfC x (ay st) s.heap.objs.size f aw))->
   Rz (bW (aE P w) P w K mg base N x (ay st) f aw A outer s H E) E->Bv (bW (aE P w) P w K mg base N x (ay st) f aw A outer s H E) cls E (dg st) b) (hf:ps=[dR]->(ay st).names.lookup dR=some .local:=by first | assumption | decide +kernel) :
  Cq P w K mg base cls (k+1) x ps (cO np n b):=by
 obtain⟨f,fd,F,hm,hb⟩:=t;exact⟨f,fd,aez F S hp hn (gP f) hf,hm,F.kp,hb⟩
end
abbrev Kt (l:List Nat):Key:=.inr ⟨l.toArray⟩
theorem uS {a b:List Nat}:(Kt a=Kt b)↔a=b:=by
 constructor
 ·intro h
  injection h with h;injection h with h;simpa using congrArg jm h
 ·intro h; rw [h]
theorem OS (a b:List Nat):decide (Kt a=Kt b)=(a==b):=by
 rw [kI];simp only [decide_eq_true_eq,beq_iff_eq];exact uS
theorem D7 (l:List Nat):∀kvs:av,gB (bh kvs) (Kt l)=(az kvs l).map S
 | []=>rfl
 |p::r=>by
  have ih:=D7 l r;unfold bh az;rw [bI,iL]
  by_cases h:p.1=l
  ·rw [z8 (uS.mpr h)]
   simp [h]
  ·rw [z9 (fun z=>h (uS.mp z))]
   have:(p.1==l)=false:=by simpa using h
   rw [this];exact ih
theorem RP (kvs:av)(k v:List Nat):putK (bh kvs) (Kt k) (S v)=bh (dI kvs k v):=by
 unfold putK dI bh;have e:((kvs.map fun p=>(Kt p.1,S p.2)).any fun kv=>decide (kv.1=Kt k))=kvs.any fun p=>p.1==k:=by
  rw [List.any_map]
  congr 1
  funext p
  exact OS p.1 k
 rw [e]
 split
 ·rw [nE,nE]
  congr 1
  funext p
  simp only [Function.comp]
  by_cases h:p.1=k
  ·rw [if_pos (uS.mpr h)]; simp [h]
  ·rw [if_neg (fun z=>h (uS.mp z))]; simp [h]
 ·rw [tw]; rfl
theorem afl (kvs:av)(k:List Nat):sL (bh kvs) (Kt k)=bh (cE kvs k):=by
 unfold sL cE bh;rw [List.filter_map]
 congr 1
 congr 1
 funext p
 simp only [Function.comp];have:=OS p.1 k
 by_cases h:p.1=k
 ·simp [h]
 ·have h':¬ Kt p.1=Kt k:=fun z=>h (uS.mp z)
  simp only [ne_eq,h',not_false_eq_true,decide_true];simp [h]
theorem Jt (kvs:av):(bh kvs).length=kvs.length:=by simp [bh]
theorem xO {kvs:av}{l v:List Nat}(h:az kvs l=some v):∃p∈kvs,p.1=l/\p.2=v:=by
 unfold az at h;rw [jq] at h;obtain⟨p,h1,h2⟩:=h;exact⟨p,List.mem_of_find?_eq_some h1,by simpa using List.find?_some h1,h2⟩
theorem WH {kvs:av}{l v:List Nat}(z:sm (.aj kvs))(h:az kvs l=some v):sm (.str v):=by
 obtain⟨p,h1,_,rfl⟩:=xO h;exact(z.2 p h1).2
theorem xj {kvs:av}{k v:List Nat}(z:sm (.aj kvs))(hk:sm (.str k))(hv:sm (.str v))(hl:kvs.length<10000):sm (.aj (dI kvs k v)):=by
 unfold dI
 split
 ·refine⟨by rw [ef]; exact z.1,fun p hp=>?_⟩
  obtain⟨q,hq,rfl⟩:=dF.mp hp;have:=z.2 q hq
  split
  ·exact⟨this.1,hv⟩
  ·exact this
 ·refine⟨by rw [iO]; exact hl,fun p hp=>?_⟩
  rcases eD.mp hp with h | h
  ·exact z.2 p h
  ·have:p=(k,v):=by simpa using h
   subst this;exact⟨hk,hv⟩
theorem EH {kvs:av}{k:List Nat}(z:sm (.aj kvs)):sm (.aj (cE kvs k)):=
 ⟨cK (o5 _ _) z.1,fun p hp=>z.2 p (jR.mp hp).1⟩
section
variable {X:Cx}{cls:Nat->Addr}{E:XK}{a b c o e:Expr}{f g h:aa->M Dt}{pos p:Pos}{rest:List Stmt}{s:SM}
theorem uE {K:ah}{H:Hp}{A:List Addr}{kvs:av}{v:V}(r:Rep K (ak H A) (.aj kvs) v):∃a o,v=.ref a/\a∉A/\H a=some (.bE o (.dK (bh kvs))):=by
 simp only [Rep] at r;obtain⟨a,ks,rfl,rfl,o,h⟩:=r;obtain⟨h1,h2⟩:=d6 h;exact⟨a,o,rfl,h1,h2⟩
theorem Jw {H:Hp}{a:Addr}{ob:Obj}{kvs:av}{l:List Nat}(h:H a=some (.bE ob (.dK (bh kvs)))):jl H a (S l) ((az kvs l).map S):=.inl ⟨bh kvs,Kt l,.inr ⟨ob,h⟩,rfl,(D7 l kvs).symm⟩
theorem qg (hu:X.A.units+50<cLine)(ha:Ev X cls E a f)(hb:Ev X cls E b g)(hs:KR b):Ev X cls E (.Subscript a b pos) (p2 gj f g):=by
 refine(Y6 (by omega) ha hb hs).imp (t2 (r:=fun x y H Q=>∃a v,x=.ref a/\jl H a y (some v)/\Q v H) fun A H Q d1 d2 x y L r1 r2 z1 z2 q=>?_)
 cases d1 with
 |aj kvs=>
  cases d2 with
  |str l=>
   obtain⟨p,ob,rfl,hp,hH⟩:=uE r1;simp only [gj,oJ] at q
   split at q
   ·rename_i v hv
    refine⟨p,S v,rfl,?_,q _ H (.refl _) mz (WH z1 hv)⟩;have:=Jw (l:=l) hH;rw [hv] at this;rw [cL r2];exact this
   ·exact(show False from q).elim
  |_=>exact(show False from q).elim
 |_=>exact(show False from q).elim
theorem ZF (hu:X.A.units+50<cLine):cx X (compareOp .In) (fun y x H Q=>∃a o,x=.ref a/\jl H a y o/\Q (.bl o.isSome) H):=by
 intro pins s σ H y x v u Q I ry rx h;obtain⟨a,ov,rfl,gd,q⟩:=h;obtain rfl:u=bO a:=rx;exact afS (by omega) I gd ry fun s3 I3=>fun _=>⟨.bl ov.isSome,H,I3,rfl,q⟩
theorem Zu (hu:X.A.units+50<cLine):cx X (compareOp .NotIn) (fun y x H Q=>∃a o,x=.ref a/\jl H a y o/\Q (.bl (!o.isSome)) H):=by
 intro pins s σ H y x v u Q I ry rx h;obtain⟨a,ov,rfl,gd,q⟩:=h;obtain rfl:u=bO a:=rx;exact afR (by omega) I gd ry fun s3 I3=>fun _=>⟨.bl (!ov.isSome),H,I3,rfl,q⟩
theorem Ga (hu:X.A.units+50<cLine):ez X cls E (compareOp .In) xD:=by
 refine⟨_,ZF hu,fun A H Q d1 d2 x y L r1 r2 z1 z2 q=>?_⟩
 cases d1 with
 |str l=>
  cases d2 with
  |aj kvs=>
   obtain⟨p,ob,rfl,hp,hH⟩:=uE r2;refine⟨p,(az kvs l).map S,rfl,by rw [cL r1]; exact Jw hH,?_⟩;rw [wK];exact q _ H (.refl _) eY trivial
  |_=>exact(show False from q).elim
 |_=>exact(show False from q).elim
theorem NZ (hu:X.A.units+50<cLine):ez X cls E (compareOp .NotIn) xy:=by
 refine⟨_,Zu hu,fun A H Q d1 d2 x y L r1 r2 z1 z2 q=>?_⟩
 cases d1 with
 |str l=>
  cases d2 with
  |aj kvs=>
   obtain⟨p,ob,rfl,hp,hH⟩:=uE r2;refine⟨p,(az kvs l).map S,rfl,by rw [cL r1]; exact Jw hH,?_⟩;rw [wK];exact q _ H (.refl _) eY trivial
  |_=>exact(show False from q).elim
 |_=>exact(show False from q).elim
theorem cF.freshD {K:ah}{Hin:Hp}{A₀ os:List Addr}{ρ:aa}{σ:St}{H:Hp}{i:Nat}{ds:av}{p:Addr}(S:cF K Hin A₀ os ρ σ H)(hp:H p=none)(z:sm (.aj ds)) :
  cF K Hin A₀ (p::os) (ρ.set i (.cg ds)) (σ.set i (some (.ref p))) (upd H p (.dK (bh ds))):=S.anew hp rfl fun B s=>⟨p,rfl,aX,z⟩
theorem cF.QL {K:ah}{Hin:Hp}{A₀ os:List Addr}{ρ:aa}{σ:St}{H:Hp}{i:Nat}{ds ns:av}{p:Addr}(S:cF K Hin A₀ os ρ σ H)(hi:ρ[i]?=some (.cg ds))(hp:σ[i]?=some (some (.ref p)))
  (z:sm (.aj ns)):cF K Hin A₀ os (ρ.set i (.cg ns)) σ (upd H p (.dK (bh ns))):=S.turn hi hp rfl rfl rfl fun e=>⟨p,rfl,aX,z⟩
theorem aeu {pins:List (Addr×Obj)}{σ:St}{H:Hp}{s':Shared}{p:Addr}{kvs:List (Key×V)}(I:Inv X pins σ (upd H p (.dK kvs)) s'):∃ob,Inv X pins σ (upd H p (.bE ob (.dK kvs))) s':=by
 obtain⟨ob,I'⟩:=I.freeze aX;rw [Vc] at I';exact⟨ob,I'⟩
theorem SE:fj X (.type "dict") (fun xs H Q=>∃a kvs,xs=[V.ref a]/\Rd H a (.dK kvs)/\∀p,H p=none->Q (.ref p) (upd H p (.dK kvs))):=by
 intro pins s σ H xs us Q I r h;obtain⟨a,kvs,rfl,hd,q⟩:=h;obtain⟨u,rfl,ru⟩:=vals1 r;obtain rfl:u=bO a:=ru;exact afV I hd fun p s' hp I'=>fun _=>⟨.ref p,_,I',rfl,q p hp⟩
theorem boot_dict:bootBuiltins "dict" = some (.type "dict"):=by decide +kernel
theorem Ru:Ev X cls E (.Dict [] [] pos) pI:=fun pins s σ H Q I ⟨O,A,ρ,F,q⟩=>by
 refine wpAny_mono (ND (X:=X) pins s σ H (fun v H'=>∃p,v=.ref p/\H p=none/\H'=upd H p (.dK [])) I fun p hp=>⟨p,rfl,hp,rfl⟩) (fun u s1 hz ht=>?_) fun _ _ x=>x;obtain⟨v,H',I',rv,p,rfl,hp,rfl⟩:=hz ht;obtain⟨ob,I2⟩:=aeu I';exact⟨.ref p,_,I2,rv,q _ _ (.upd hp) (Fx (kvs:=[]) (o:=ob) (ou F.bL hp)) ⟨by simp,fun _ z=>nomatch z⟩⟩
theorem MB {i:Nat}{x:Str}{pos' dp cp:Pos}(hN:X.N.Nodup)(hi:X.N[i]?=some x)(hx:Loc X.env.scope x)(hg:Gl X "dict")(hm:X.mg "dict" = none)(he:Ev X cls E a f)(bz:isStar a=false)
  (hs:swapsWith (.Call (.Name "dict" dp) [a] [] cp) (some (.Name x pos')) pos.line X.env=pure false:=by rfl)
  (hf:X.fn x=true∨X.env.scope.names.lookup x=some .local:=by first | exact .inl rfl | exact .inr rfl | assumption):Sv X cls E (.Assign [.Name x pos'] (.Call (.Name "dict" dp) [a] [] cp) pos) (xl i f):=
 (n3 hN hi hx (AO SE hg hm boot_dict (@ba _ _ _ _ _ bz he cC) (by decide) (by decide) (j6 bz) rfl) hs hf).imp fun D σ H ⟨Hin,A₀,ρ,⟨os,S⟩,q⟩=>by
 have F:=S.2.2.2;refine⟨os,os++A₀,ρ,F,lq S.1 q fun d v H' _ q1 s' r z=>?_⟩
 cases d with
 |aj kvs=>
  obtain⟨p,ob,rfl,hp,hH⟩:=uE r;exact⟨p,bh kvs,rfl,.inr ⟨ob,hH⟩,fun p' fE=>q1 _ _ ⟨p'::os,(S.mono s').freshD fE z⟩⟩
 |_=>exact(show False from q1).elim
theorem Ex {i:Nat}{x:Str}{np pos':Pos}(hu:X.A.units+50<cLine)(hv:PE X (.Name x np) (dh i))(hk:Ev X cls E b g)(he:Ev X cls E a f)
  (hs:swapsWith a (some (.Subscript (.Name x np) b pos')) pos.line X.env=pure false:=by rfl):Sv X cls E (.Assign [.Subscript (.Name x np) b pos'] a pos) (uB i g f):=
 (YG (by omega) hv hk he hs).imp fun D σ H ⟨Hin,A₀,ρ,⟨os,S⟩,q⟩=>by
 unfold uB Ci at q
 split at q
 ·rename_i kvs hi
  have F:=S.2.2.2;refine⟨os,os++A₀,ρ,F,lq S.1 q fun d v H' _ q1 s' r z=>?_⟩
  cases d with
  |str l=>
   have S':=S.mono s';have F':=S'.2.2.2;obtain⟨p,h1,h2,h3,h4⟩:=F'.cg i kvs hi;refine⟨.ref p,h1,os,os++A₀,ρ,F',lq S'.1 q1 fun d2 v2 H2 _ q2 s2 r2 z2=>?_⟩
   cases d2 with
   |str k=>
    simp only [vT] at q2
    split at q2
    ·rename_i hl
     refine⟨p,_,rfl,.inl ⟨bh kvs,Kt k,s2 _ _ h3,cL r2,by rw [Jt]; exact cH hl (by decide),rfl⟩,q2 _ _ ⟨os,?_⟩⟩;rw [cL r,RP];exact(S'.mono s2).QL hi h1 (xj h4 z2 z hl)
    ·exact(show False from q2).elim
   |_=>exact(show False from q2).elim
  |_=>exact(show False from q1).elim
 ·exact(show False from q).elim
theorem Wn {i:Nat}{x:Str}{np apos cq:Pos}(hv:PE X (.Name x np) (dh i))(hk:Ev X cls E b g)(m:M1 X (.Name x np) "pop" apos b cq)
  (hs:swapsWith (.Call (.Attribute (.Name x np) "pop" apos) [b] [] cq) none pos.line X.env=pure false:=by rfl):Sv X cls E (.Expr (.Call (.Attribute (.Name x np) "pop" apos) [b] [] cq) pos) (Ax i g):=
 (n4 (Y3 hv hk m) hs).imp fun D σ H ⟨Hin,A₀,ρ,⟨os,S⟩,q⟩=>by
 unfold Ax AJ at q
 split at q
 ·rename_i kvs hi
  have F:=S.2.2.2;obtain⟨p,h1,h2,h3,h4⟩:=F.cg i kvs hi;refine⟨.ref p,h1,p,rfl,.inl ⟨_,.inl h3⟩,os,os++A₀,ρ,F,lq S.1 q fun d2 v2 H2 _ q2 s2 r2 z2=>?_⟩
  cases d2 with
  |str k=>
   simp only [AK] at q2
   split at q2
   ·rename_i hl
    obtain⟨w,hw⟩:=jr.mp hl;refine⟨bh kvs,Kt k,L2.S w,s2 _ _ h3,cL r2,by rw [D7,hw]; rfl,q2 _ _ ⟨os,?_⟩⟩;rw [afl];exact(S.mono s2).QL hi h1 (EH h4)
   ·exact(show False from q2).elim
  |_=>exact(show False from q2).elim
 ·exact(show False from q).elim
end
def K2 (d:Addr)(ob:Obj)(u:HO)(xs:List V):It:=
 ⟨fun i H=>H d=some (.bE ob u)/\i<xs.length,fun i H x H'=>H'=H/\xs[i]?=some x,fun i H=>H d=some (.bE ob u)/\xs.length<=i⟩
theorem RV {P:Program}{w:World}{H:Hp}{h:Heap}{d:Addr}{ob:Obj}{kvs:List (Key×V)}(ok:cB P w H h)(e:H d=some (.bE ob (.dK kvs))) :
  ∃es ep,ob.data=.dict es ep/\(d==sysModules)=false/\h.get? d=some ob/\kvs.length<=sizeLine/\∃vs,KV kvs vs/\h.DictAt (dz P w) d vs ep:=by
 obtain⟨g,z,na,vs,r,o,es,ep,g',x,dt,k,p,n⟩:=ok d _ e;rw [g] at g';cases g';exact⟨es,ep,dt,na,g,z,vs,r,ob,es,g,x,dt,k,p,n⟩
theorem RU {P:Program}{w:World}{H:Hp}{h:Heap}{d:Addr}{ob:Obj}{kvs:List (Key×V)}{es0:Array DictEntry}{ep:Nat}(hd:ob.data=.dict es0 ep)(ok:cB P w H h)(e:H d=some (.bE ob (.dK kvs))) :
  ∃vs,KV kvs vs/\h.DictAt (dz P w) d vs ep:=by
 obtain⟨es,Cd,h1,_,_,_,vs,r,a⟩:=RV ok e;rw [hd] at h1;cases h1;exact⟨vs,r,a⟩
theorem acg {P:Program}{w:World}{k:Key}{u:Value}(h:(dz P w).is k u=true):RelV (kV k) u:=by
 rcases lG (k:=k) (v:=u) h with ⟨i,t,rfl,rfl⟩ | ⟨x,t,rfl,rfl⟩
 ·exact⟨t,rfl⟩
 ·exact⟨t,rfl⟩
theorem KV.at {kvs:List (Key×V)}{vs:List (Key×Value)}(r:KV kvs vs):∀{i:Nat}{p:Key×V},kvs[i]?=some p->∃q,vs[i]?=some q/\p.1=q.1/\RelV p.2 q.2:=by
 unfold KV at r
 induction r with
 |nil=>intro i p e; simp at e
 |cons h t ih=>
  intro i p e
  cases i with
  |zero=>simp at e; subst e; exact⟨_,by simp,h.1,h.2⟩
  |succ i=>obtain⟨q,h1,h2⟩:=ih (i:=i) (p:=p) (by simpa using e); exact⟨q,by simpa using h1,h2⟩
theorem Vx {P:Program}{w:World}{K:ah}{tg:Expr}(d it:Addr)(ob:Obj)(kvs:List (Key×V))(es:Array DictEntry)(ep:Nat)(hd:ob.data=.dict es ep) :
  Turn P w K tg (K2 d ob (.dK kvs) (kvs.map fun p=>kV p.1)) [it] it (fun i h=>h.IsKeyIter it d i kvs.length ep) where
 mem:=by simp
 obj:=fun i h st b hb=>by
  have e:b=it:=by simpa using hb
  subst e;obtain⟨o,e,c,dd⟩:=st;exact⟨o,e,fun v z=>by rw [dd] at z; cases z⟩
 keep:=fun i h h' st k=>st.at fun o e=>k it (by simp) o e
 item:=by
  intro X hP hw hK hc i pins s σ H E I hf st hg;subst hP hw hK;obtain⟨hH,hi⟩:=hg;rw [ef] at hi;obtain⟨vs,r,da⟩:=RU hd I.au hH;obtain⟨q,hq,h1,h2⟩:=r.at (i:=i) (p:=kvs[i]) (by simp [hi]);obtain⟨f0,f1,f2,f3,f4,f5⟩:=hf it (by simp);have hl:=KV.length r;rw [hl] at st;refine wpAny_pyNext_dict_item (k:=q.1) (v:=q.2) st da (by rw [hq]) fun key h' HL hU sb=>?_;have I1:Inv X pins σ H {s with heap:=h'}:=I.turned (t':=s.toks) (fun b o hb e=>(sb.2 b hb).trans e) f0 f1 f3 f4 f5;obtain⟨o,e,c,dd⟩:=id hU;refine(fun ht=>⟨key,rfl,yv (s:={s with heap:=h'}) e c dd (by decide) (fun ht=>⟨kV kvs[i].1,H,I1,?_,⟨rfl,by simp [hi]⟩,by rw [hl]; exact hU,fun b hb=>(hf b hb).1⟩)⟩);rw [h1];exact acg HL
 done:=by
  intro X hP hw hK hc i pins s σ H E I hf st hg;subst hP hw hK;obtain⟨hH,hi⟩:=hg;rw [ef] at hi;obtain⟨vs,r,da⟩:=RU hd I.au hH;obtain⟨f0,f1,f2,f3,f4,f5⟩:=hf it (by simp);have hl:=KV.length r;rw [hl] at st hi;exact wpAny_pyNext_dict_end (I.ok.hd hc) st da (by simp [hi]) fun h' eb=>(fun ht=>⟨rfl,I.turned (t':=s.toks) (fun b o hb e=>eb b o hb e) f0 f1 f3 f4 f5⟩)
 self:=fun _ _ _ _ _ st h=>wpAny_pyIter_keyiter st h
section
variable {X:Cx}{cls:Nat->Addr}{E:XK}{a b c o e tg:Expr}{f g h:aa->M Dt}{pos p apos:Pos}
theorem acf {K:ah}{A:List Addr}{d:Addr}{ob:Obj}{u:HO}{ds:List Dt}{xs:List V}{H1:Hp}(hd:ak H1 A d=some (.bE ob u))(h2:ar K (ak H1 A) ds xs)(z:bw ds)(zl:ds.length<=10000):nu K A (K2 d ob u xs) ds H1:=by
 have hl:=h2.length;refine⟨fun i H hi s=>⟨s _ _ hd,by omega⟩,fun H s=>⟨s _ _ hd,by omega⟩,fun i H x H' A' hi L s y=>?_,z,zl⟩;obtain⟨rfl,hx⟩:=y;obtain⟨d',qa,rd⟩:=h2.get hx;exact⟨.refl _,d',qa,rd.mono s⟩
theorem M3 {K:ah}{H:Hp}:∀kvs:av,ar K H (mJ kvs) ((bh kvs).map fun p=>kV p.1)
 | []=>.nil
 |p::r=>.cons mz (M3 r)
theorem WJ {kvs:av}(z:sm (.aj kvs)):bw (mJ kvs):=mr fun d hd=>by
 obtain⟨p,hp,rfl⟩:=dF.mp hd;exact(z.2 p hp).1
theorem adk {H:Hp}{A:List Addr}{d:Addr}{u:HO}(h:H d=some u)(hA:d∉A):ak H A d=some u:=by rw [cu hA]; exact h
theorem Hc (he:Ev X cls E e f):Iv X cls E tg e (lJ f):=by
 intro pins s σ H R I ⟨O,A,ρ,F,q⟩;refine aG (he pins s σ H (fun x H1=>∃d ob kvs,x=.ref d/\H1 d=some (.bE ob (.dK (bh kvs)))/\R (K2 d ob (.dK (bh kvs)) ((bh kvs).map fun p=>kV p.1)) H1) I ⟨O,A,ρ,F,Rg.bind q fun d _ q1=>?_⟩) fun v s1 hz=>?_
 ·intro v H1 s1 r1 z1
  cases d with
  |aj kvs=>
   obtain⟨p,ob,rfl,hp,hH⟩:=uE r1;exact⟨p,ob,kvs,rfl,hH,q1 _ H1 s1 (acf (adk hH hp) (M3 kvs) (WJ z1) (by simp [mJ]; exact z1.1))⟩
  |_=>exact(show False from q1).elim
 ·obtain⟨x,H1,I1,r1,d,ob,kvs,rfl,hH,q1⟩:=hz
  obtain rfl:v=bO d:=r1;obtain⟨es,ep,adA,na,g0,_,vs,r,da⟩:=RV I1.au hH;refine fun _=>wpAny_pyIter_dict na da fun _=>?_;refine⟨s1.heap.objs.size,[s1.heap.objs.size],_,_,H1,rfl,I1.kept (t':=s1.toks) fun b o e=>aZ _ e,Vx d _ ob (bh kvs) es ep adA,?_,fun b hb=>?_,q1⟩
  ·rw [KV.length r]
   exact⟨_,cS _ rfl,rfl,rfl⟩
  ·have e:b=s1.heap.objs.size:=by simpa using hb
   subst e;exact I1.qd (bb _) (I1.au.fresh (bb _))
end
end L2
namespace L2
open PySem PySem.Spec PyProof.Rows
open Sem (wp)
theorem abu:typeLookup (.type "list") "keys" = pure none:=by rw [typeLookup_type,builtinLookup_eq_fast]; kernel_rfl
theorem abv:typeLookup (.type "list") "__getattr__" = pure none:=by rw [typeLookup_type,builtinLookup_eq_fast]; kernel_rfl
theorem Ez:isSubtype (.type "AttributeError") (.type "AttributeError")=pure true:=by rw [isSubtype_type]; kernel_rfl
section
variable {prog:Program}{w:World}{A:Around}{E:Value->Shared->Prop}{s:Shared}
theorem aaE {e:Addr}{vs:Array Value}{o nm:Value}{Q:Unit->Shared->Prop}(he:s.heap.get? e=some {cls:=.type "AttributeError",data:=.fields vs})(h6:vs[6]?=some (rawInt 0))(h7:vs[7]?=some (rawInt 0))
  (q:∀h',(∀b,b≠e->h'.get? b=s.heap.get? b)->(∃oe,h'.get? e=some oe/\oe.cls=.type "AttributeError")->Q () {s with heap:=h'}):wpAny (model prog w) A (noteAttr (.ref e) o nm) Q E s:=by
 have hT:s.TypeIs (.ref e) "AttributeError" := ⟨_,he,rfl⟩
 unfold noteAttr;refine wpAny_bind ?_;unfold lacksNameAndObj;refine wpAny_bind (wpAny_isInstance hT Ez ?_);simp only [tu,du,if_false];refine wpAny_bind (wpAny_load he ?_);simp only [h6,h7,rawInt];rw [if_neg (by decide),if_neg (by decide)];refine wpAny_pure ?_;rw [if_pos rfl];refine wpAny_bind (wpAny_rule (wpAny_bind (wpAny_typeOf hT ?_)));unfold layMembers;refine wpAny_bind (wpAny_load he (wpAny_update he (q _ (fun b hb=>Heap.get?_update_ne _ _ _ _ hb) ?_)));exact⟨_,zV _ he rfl,rfl⟩
theorem Yj {α:Type}{o:Value}{nm msg:Str}{Q:α->Shared->Prop}(hh:A.handled=none)(hm:msg.length<=sizeLine)
  (q:∀h' t' e oe,(∀b ob,s.heap.get? b=some ob->h'.get? b=some ob)->h'.get? e=some oe->oe.cls=.type "AttributeError" ->E (.ref e) {s with heap:=h',toks:=t'}) :
  wpAny (model prog w) A (raiseAttrError o nm msg:Sem α) Q E s:=by
 unfold raiseAttrError;refine wpAny_bind (wpAny_mkStr (wpAny_bind ?_) hm);unfold newExc newTuple;refine wpAny_bind (wpAny_newObj_type ?_);refine wpAny_bind (m:=firstArgMember _ _) (wpAny_of_eq (a:=gW) (by kernel_rfl) ?_);refine wpAny_newObj_type (wpAny_bind (wpAny_mkText (wpAny_bind (aaE (cS _ rfl) rfl rfl fun h' k ⟨oe,h1,h2⟩=>wpAny_raiseNew_none hh (q _ _ _ oe (fun b ob hb=>?_) h1 h2)))));have h3:(s.heap.push {cls:=.type "tuple",data:=.seq #[.str msg s.toks]}).get? b=some ob:=aZ _ hb
 have h4:=aZ {cls:=.type "AttributeError",data:=.fields (#[.ref s.heap.objs.size,.none,.none,.none,.bool false,.none]++ownMembersOf (.type "AttributeError") [.str msg s.toks])} h3
 refine(k b ?_).trans h4;exact bQ (a6 h3)
end
section
variable {prog:Program}{w:World}{A:Around}{E:Value->Shared->Prop}{h:Heap}{g:Array GenState}{d:Drawn}{t:Nat}{os:OsState}{a:Addr}{items:Array Value}{n:Nat}{sl:Array (Option Value)}
theorem abS {tk:Tok}{Q:Fin->Shared->Prop}(hh:A.handled=none)(hx:h.get? a=some {cls:=.type "list",data:=.seq items n,slots:=sl})
  (q:∀h' t' e oe,(∀b ob,h.get? b=some ob->h'.get? b=some ob)->h'.get? e=some oe->oe.cls=.type "AttributeError" ->E (.ref e) ⟨h',g,d,t',os⟩) :
  wpAny (model prog w) A (Builtin.«object.__getattribute__» ⟨[.ref a,.str "keys" tk],[]⟩) Q E ⟨h,g,d,t,os⟩:=by
 have hT:(⟨h,g,d,t,os⟩:Shared).TypeIs (.ref a) "list" := ⟨_,hx,rfl⟩
 have f4:=abu
 repeat (any_goals (first | assumption | wp_step))
 all_goals exact Yj hh (by decide +kernel) q
theorem abT {tk:Tok}{R:Result->Shared->Prop}(hh:A.handled=none)(hx:h.get? a=some {cls:=.type "list",data:=.seq items n,slots:=sl})
  (q:∀h' t' e oe,(∀b ob,h.get? b=some ob->h'.get? b=some ob)->h'.get? e=some oe->oe.cls=.type "AttributeError" ->R (.error (.ref e)) ⟨h',g,d,t',os⟩) :
  codeAny (model prog w) A (.call (.builtin "list.__getattribute__") ⟨[.ref a,.str "keys" tk],[]⟩) R ⟨h,g,d,t,os⟩:=
 codeAny_call_builtin z0.plain F.entry_list_ga (z0.check _ _ _ _ _ _ _ _ (show (⟨h,g,d,t,os⟩:Shared).TypeIs (.ref a) "list" from⟨_,hx,rfl⟩) (F.args_list_getattribute_2 _ _) (abS (by simpa using hh) hx q))
theorem abU {tk:Tok}{Q:Value->Shared->Prop}(hh:A.handled=none)(hx:h.get? a=some {cls:=.type "list",data:=.seq items n,slots:=sl})
  (q:∀h' t' e oe,(∀b ob,h.get? b=some ob->h'.get? b=some ob)->h'.get? e=some oe->oe.cls=.type "AttributeError" ->E (.ref e) ⟨h',g,d,t',os⟩):wpAny (model prog w) A (getAttrBy (.ref a) (.str "keys" tk) false) Q E ⟨h,g,d,t,os⟩:=by
 have hT:(⟨h,g,d,t,os⟩:Shared).TypeIs (.ref a) "list" := ⟨_,hx,rfl⟩
 have f2:=z0.lookup;have f3:=z0.bind (.ref a)
 repeat (any_goals (first | assumption | wp_step))
 refine abT hh hx fun h' t' e oe k he hc=>?_;show wpAny _ _ (getattributeRaised _ _ _ _ _ _ _) _ _ _;unfold getattributeRaised;have Qu:(⟨h',g,d,t',os⟩:Shared).TypeIs (.ref e) "AttributeError" := ⟨_,he,hc⟩
 have f6:=Ez;have f7:=abv
 repeat (any_goals (first | assumption | wp_step))
 exact q h' t' e oe k he hc
theorem abR {Q:Option Value->Shared->Prop}(hh:A.handled=none)(hx:h.get? a=some {cls:=.type "list",data:=.seq items n,slots:=sl})
  (q:∀h' t',(∀b ob,h.get? b=some ob->h'.get? b=some ob)->Q none ⟨h',g,d,t',os⟩):wpAny (model prog w) A (getAttr? (.ref a) "keys") Q E ⟨h,g,d,t,os⟩:=by
 unfold getAttr? getAttrBy?;refine wpAny_bind (wpAny_mkText (wpAny_bind (wpAny_attempt (abU hh hx fun h' t' e oe k he hc=>?_))));have Qu:(⟨h',g,d,t',os⟩:Shared).TypeIs (.ref e) "AttributeError" := ⟨_,he,hc⟩
 refine wpAny_bind (wpAny_isInstance Qu Ez ?_);rw [if_pos rfl];exact wpAny_pure (q h' t' k)
end
end L2
namespace L2
open PySem PySem.Spec PyProof.Rows
theorem RK:entryFor table "dict.update.loop" = some Builtin.«dict.update.loop» := entryFor_of_tree (by kernel_rfl)
theorem Cg:plainId "dict.update.loop" = true:=by decide +kernel
theorem Wy {K:Type}[DecidableEq K](kvs:List (K×Value))(k:K)(v:Value):(stored kvs k v).length<=kvs.length+1:=by
 unfold stored
 split
 ·simp
 ·simp
def KQ (prog:Program)(w:World)(h:Heap)(v:Value)(r:Key×Value):Prop:=∃T k,v=.ref T/\h.IsTuple T #[k,r.2]/\(dz prog w).is r.1 k=true
section
variable {prog:Program}{w:World}{A:Around}{E:Value->Shared->Prop}{s:Shared}
theorem pair_items {T:Addr}{k x:Value}{Q:List Value->Shared->Prop}(ht:s.heap.IsTuple T #[k,x])(q:Q [k,x] s):wpAny (model prog w) A (Builtin.Dict.pairItems (.ref T)) Q E s:=by
 obtain⟨o,ho,hc,n,hd⟩:=ht;unfold Builtin.Dict.pairItems;refine wpAny_bind (wpAny_typeOf (show s.TypeIs (.ref T) "tuple" from⟨o,ho,hc⟩) ?_)
 rw [if_pos (by decide)];exact wpAny_bind (wpAny_seqItems ho hd (wpAny_pure q))
theorem Vd {R:Result->Shared->Prop}{l it D:Addr}{items:Array Value}{rs:List (Key×Value)}(hh:A.handled=none)(Ih:D≠it)(hDl:D≠l)(Qc:l≠it)(hn:rs.length=items.size)(hz:rs.length<=10000) :
  ∀(m i:Nat) (s:Shared) (acc:List (Key×Value)),items.size - i=m->i<=items.size->s.heap.IsListIter it l i->s.heap.IsList l items->s.heap.DictOf (dz prog w) D acc->acc.length<=i->
   (∀(j:Nat) v,items[j]?=some v->∃r,rs[j]?=some r/\KQ prog w s.heap v r/\v≠.ref it/\v≠.ref D)->
   (∀h' tk,h'.DictOf (dz prog w) D (merged acc (rs.drop i))->(∀b o,b≠it->b≠D->s.heap.get? b=some o->h'.get? b=some o)->R (.ok (.ret .none)) {s with heap:=h',toks:=tk})->
   codeAny (model prog w) A (.builtin "dict.update.loop" ⟨[.ref D,.ref it,rawInt i,.none],[]⟩) R s:=by
 intro m
 induction m with
 |zero=>
  intro i s acc hm hi st hl hD ha hp q;obtain rfl:i=items.size:=by omega
  refine codeAny_builtin RK ?_;rw [zS Cg _];show wpAny _ A.in1 (pyNext (.ref it) >>= _) _ _ s;refine wpAny_bind (wpAny_pyNext_list_end (by simp [hh]) st hl (by simp) fun h' eb=>?_);rw [← hn,wG] at q;refine wpAny_bind (wpAny_pure (wpAny_pure (q h' s.toks ?_ fun b o hb _ e=>eb b o hb e)));obtain⟨o,es,ep,ho,rr⟩:=hD;exact⟨o,es,ep,eb D o Ih ho,rr⟩
 |succ m ih=>
  intro i s acc hm hi st hl hD ha hp q;have aT:i<items.size:=by omega
  have hx:items[i]?=some items[i]:=by simp [aT]
  obtain⟨r,hr,⟨T,k,hT,ht,hk⟩,n1,n2⟩:=hp i _ hx;have hTi:T≠it:=fun z=>n1 (by rw [hT,z]);refine codeAny_builtin RK ?_;rw [zS Cg _];show wpAny _ A.in1 (pyNext (.ref it) >>= _) _ _ s;refine wpAny_bind (wpAny_pyNext_list_item st hl hx fun h1 iV XH=>?_);have k1:∀b o,b≠it->s.heap.get? b=some o->h1.get? b=some o:=fun b o hb e=>(XH.2 b hb).trans e;show wpAny _ A.in1 (holding [items[i]] _ >>= _) _ _ _;refine wpAny_bind (wpAny_holding (wpAny_bind (wpAny_tryCatch ?_)));rw [hT];obtain⟨ot,hot,rt⟩:=ht;refine pair_items (s:={s with heap:=h1}) ⟨ot,k1 T ot hTi hot,rt⟩ ?_;refine wpAny_holding ?_;have hD1:h1.DictOf (dz prog w) D acc:=by
   obtain⟨o,es,ep,ho,rr⟩:=hD;exact⟨o,es,ep,k1 D o Ih ho,rr⟩
  have hlen:rs.length=items.size:=hn;refine wpAny_dictSet_pairs (s:={s with heap:=h1}) hk hD1 (fun h2 hD2 MX=>?_) (cK ha (by have:sizeLine≥10000:=(by decide); omega));have k2:∀b o,b≠it->b≠D->s.heap.get? b=some o->h2.get? b=some o:=fun b o hb si e=>(MX.2 b si).trans (k1 b o hb e);have hlo:∃o,s.heap.get? l=some o:=let ⟨o,e,_⟩:=hl; ⟨o,e⟩
  have g9:h2.IsListIter it l (i+1):=iV.at fun o e=>(MX.2 it (cb Ih)).trans e;have i4:h2.IsList l items:=by
   obtain⟨o,e,rr⟩:=hl;exact⟨o,k2 l o Qc (cb hDl) e,rr⟩
  have e1:rawInt ((i:Int)+1)=rawInt ((i+1:Nat):Int):=by push_cast; rfl
  show wpAny _ _ (again (.builtin "dict.update.loop" ⟨[.ref D,.ref it,rawInt ((i:Int)+1),.none],[]⟩)) _ _ _
  rw [e1];refine wpAny_pure ⟨plainId_quiet Cg _,ih (i+1) _ (stored acc r.1 r.2) (by omega) aT g9 i4 hD2 (cK (Wy _ _ _) (by omega)) (fun j v hj=>?_) fun h3 wW Ij k3=>?_⟩
  ·obtain⟨r',Hx,⟨T',k',Ic,⟨o',iF,X8⟩,jF⟩,m1,m2⟩:=hp j v hj
   exact⟨r',Hx,⟨T',k',Ic,⟨o',k2 T' o' (fun z=>m1 (by rw [Ic,z])) (fun z=>m2 (by rw [Ic,z])) iF,X8⟩,jF⟩,m1,m2⟩
  ·refine q h3 wW ?_ fun b o hb si e=>k3 b o hb si (k2 b o hb si e)
   have pX:i<rs.length:=by omega
   have hri:rs[i]=r:=by simpa [pX] using hr
   rw [wB pX,hri];exact Ij
theorem afy {l:Addr}{items:Array Value}{nn:Nat}{sl:Array (Option Value)}{rs:List (Key×Value)}{Q:Value->Shared->Prop}(hh:A.handled=none)(hl:s.heap.get? l=some {cls:=.type "list",data:=.seq items nn,slots:=sl})(hn:rs.length=items.size)(hz:rs.length<=10000)
  (hp:∀(j:Nat) v,items[j]?=some v->∃r,rs[j]?=some r/\KQ prog w s.heap v r)
  (q:∀h' tk,h'.DictOf (dz prog w) s.heap.objs.size (merged [] rs)->(∀b o,s.heap.get? b=some o->h'.get? b=some o)->Q (.ref s.heap.objs.size) {s with heap:=h',toks:=tk}) :
  wpAny (model prog w) A (call (.type "dict") [.ref l]) Q E s:=by
 refine callType_codes (Q₁:=fun obj aY=>obj=.ref s.heap.objs.size/\aY={s with heap:=s.heap.push {cls:=.type "dict",data:=.dict #[]}}) F.kt_called_dict (F.kt_typeCall_dict_1 _) F.entry_dict_init (kt_code_dict_new _ ⟨rfl,rfl⟩) ?_
 rintro obj aY ⟨rfl,rfl⟩;have HE:(s.heap.push {cls:=.type "dict",data:=.dict #[]}).DictOf (dz prog w) s.heap.objs.size []:=Heap.DictOf.new s.heap
 have pV:(s.heap.push {cls:=.type "dict",data:=.dict #[]}).get? l=some {cls:=.type "list",data:=.seq items nn,slots:=sl}:=aZ _ hl
 refine⟨HE.typeIs,F.args_dict_init_2 _ _,?_⟩;unfold Builtin.«dict.__init__»;refine wpAny_bind ?_;unfold Builtin.Dict.selfAndRest;refine wpAny_bind (wpAny_notOrdered_dict HE.typeIs ?_);show wpAny _ _ (pure (s.heap.objs.size,[bO l])) _ _ _;refine wpAny_pure ?_;show wpAny _ _ (Builtin.Dict.updateFrom "dict.__init__" s.heap.objs.size (.ref l) [] .none) _ _ _
 unfold Builtin.Dict.updateFrom;refine wpAny_bind (wpAny_typeOf (show Shared.TypeIs {s with heap:=s.heap.push {cls:=.type "dict",data:=.dict #[]}} (.ref l) "list" from⟨_,pV,rfl⟩) ?_)
 rw [if_pos (by decide)];refine wpAny_bind (abR (by simpa using hh) pV fun h2 t2 k2=>?_);rw [if_pos (by rfl)];have i4:=k2 l _ pV;refine wpAny_bind (wpAny_rule (wpAny_bind (wpAny_pyIter_list (s:={s with heap:=h2,toks:=t2}) ⟨_,i4,rfl,nn,rfl⟩ (wpAny_bind (wpAny_pure ?_)))));have hDs:h2.get? s.heap.objs.size=some {cls:=.type "dict",data:=.dict #[]}:=k2 _ _ (cS _ rfl)
 have BU:s.heap.objs.size<h2.objs.size:=a6 hDs;have Qb:l<s.heap.objs.size:=a6 hl;have k3:∀b o,s.heap.get? b=some o->(h2.push {cls:=.type "list_iterator",data:=.fields #[.ref l,.int 0 0]}).get? b=some o:=fun b o e=>aZ _ (k2 b o (aZ _ e))
 refine wpAny_pure ⟨plainId_quiet Cg _,Vd (A:=A.in1) (l:=l) (it:=h2.objs.size) (D:=s.heap.objs.size) (rs:=rs) (by simpa using hh) (bQ BU) (cb (bQ Qb)) (bQ (tj Qb BU)) hn hz items.size 0 _ [] (by omega) (gX _)
  ⟨_,cS _ rfl,rfl,rfl⟩ ⟨_,aZ _ i4,rfl,nn,rfl⟩ ?_ (gX _) (fun j v hj=>?_) fun h3 wW Ij k4=>⟨rfl,q h3 wW Ij fun b o e=>k4 b o ?_ ?_ (k3 b o e)⟩⟩
 ·obtain⟨o,es,ep,ho,rr⟩:=HE
  exact⟨o,es,ep,aZ _ (k2 _ _ ho),rr⟩
 ·obtain⟨r,hr,T,k,hT,⟨o,ho,rr⟩,hk⟩:=hp j v hj
  have Qs:=a6 ho;refine⟨r,hr,⟨T,k,hT,⟨o,k3 T o ho,rr⟩,hk⟩,?_,?_⟩
  ·rw [hT]; intro z; injection z with z; exact absurd (tj Qs BU) (by rw [z]; exact fM _)
  ·rw [hT]; intro z; injection z with z; exact absurd Qs (by rw [z]; exact fM _)
 ·exact bQ (tj (a6 e) BU)
 ·exact bQ (a6 e)
end
end L2
namespace L2
open PySem PySem.Spec PyProof.Rows PySem.W
theorem Js:∀(ps kvs:av),og (bh kvs) (bh ps)=bh (jE kvs ps)
 | [],kvs=>rfl
 |p::ps,kvs=>by
  have ih:=Js ps (dI kvs p.1 p.2);show og (putK (bh kvs) (Kt p.1) (S p.2)) (bh ps)=_;rw [RP,ih];rfl
theorem Yy (kvs:av)(k v:List Nat):(dI kvs k v).length<=kvs.length+1:=by
 unfold dI
 split
 ·simp
 ·simp
theorem MO:∀(ps kvs:av),sm (.aj kvs)->(∀p∈ps,p.1.length<=10000/\p.2.length<=10000)->kvs.length+ps.length<=10000->sm (.aj (jE kvs ps))
 | [],kvs,z,_,_=>z
 |p::ps,kvs,z,hp,hl=>by
  have h1:=hp p bN;have h2:=Yy kvs p.1 p.2;rw [eh] at hl;exact MO ps (dI kvs p.1 p.2) (xj z h1.1 h1.2 (by omega)) (fun q hq=>hp q (cG _ hq)) (by omega)
theorem Nt {d:Dt}{ds:List Dt}{ps:av}(h:iA (d::ds)=some ps):∃k v r,d=.tup [.str k,.str v]/\iA ds=some r/\ps=(k,v)::r:=by
 unfold iA at h
 split at h
 ·rename_i he; cases he
 ·rename_i k v r he
  injection he with h1 h2;subst h1 h2;rw [jq] at h;obtain⟨r',h3,h4⟩:=h;exact⟨k,v,r',rfl,h3,h4.symm⟩
 ·cases h
theorem Nq:∀{ds:List Dt}{ps:av},iA ds=some ps->bw ds->ps.length=ds.length/\∀p∈ps,p.1.length<=10000/\p.2.length<=10000
 | [],ps,h,_=>by
  simp only [iA,wJ] at h;subst h;exact⟨rfl,fun _ z=>nomatch z⟩
 |d::ds,ps,h,z=>by
  obtain⟨k,v,r,rfl,h1,rfl⟩:=Nt h;obtain⟨i1,i2⟩:=Nq h1 z.2;refine⟨by simp [i1],fun p hp=>?_⟩;rcases bf.mp hp with e | e
  ·subst e; exact⟨z.1.2.1,z.1.2.2.1⟩
  ·exact i2 p e
section
variable {X:Cx}{cls:Nat->Addr}{E:XK}{a b c o e:Expr}{f g h:aa->M Dt}{pos p:Pos}
theorem NJ {pins:List (Addr×Obj)}{σ:St}{H:Hp}{s:Shared}(I:Inv X pins σ H s):∀{ds:List Dt}{ts:List V}{ao:List Value}{ps:av},ar X.K H ds ts->iA ds=some ps->Vals ts ao->
  ∃rs:List (Key×Value),KV (bh ps) rs/\rs.length=ao.length/\∀(j:Nat) v,ao[j]?=some v->∃r,rs[j]?=some r/\KQ X.prog X.w s.heap v r
 | [],ts,ao,ps,r,hp,rv=>by
  simp only [ar] at r;subst r;cases rv;simp only [iA,wJ] at hp;subst hp;exact⟨[],.nil,rfl,fun j v e=>by simp at e⟩
 |d::ds,ts,ao,ps,r,hp,rv=>by
  obtain⟨k,v,r',rfl,h1,rfl⟩:=Nt hp;simp only [ar] at r;obtain⟨x,xs,rfl,rx,X0⟩:=r
  cases rv with
  |@cons _ u _ us ru X4=>
   obtain⟨rs,i1,i2,i3⟩:=NJ I X0 h1 X4;obtain⟨T,ys,rfl,hT,hys,vs,hv,ht⟩:=I.hZ rx;obtain rfl:u=bO T:=ru;obtain⟨y1,y2,rfl,g1,g2⟩:=my hys;rw [cL g1,cL g2] at hv
   cases hv with
   |cons a1 a2=>
    cases a2 with
    |cons a3 a4=>
     cases a4;obtain⟨t1,rfl⟩:=a1;refine⟨(Kt k,_)::rs,.cons ⟨rfl,a3⟩ i1,by simp [i2],fun j w hw=>?_⟩
     cases j with
     |zero=>
      simp at hw;subst hw;exact⟨_,List.getElem?_cons_zero,T,_,rfl,ht,OH X.prog X.w _ t1⟩
     |succ j=>obtain⟨r,h2,h3⟩:=i3 j w (by simpa using hw); exact⟨r,by simpa using h2,h3⟩
end
def TV (H:Hp)(v:V)(H':Hp):Prop:=∃D ys,v=.ref D/\H D=none/\H' D=some (.lst ys)
theorem Yh {k:Nat}{fr:List Nat}{g:TG}{tc:TT}{te:TE}{σ:St}{J:It}{H1:Hp}{Q:VK}(h:pq k fr g tc te σ J H1 (fun v H'=>TV H1 v H'->Q v H')):pq k fr g tc te σ J H1 Q:=by
 intro D hD;obtain⟨W,h0,hs⟩:=h D hD;refine⟨W,h0,fun i m ys aL H' hw=>?_⟩;obtain⟨h1,h2⟩:=hs i m ys aL H' hw;refine⟨h1,?_⟩;rcases h2 with ⟨a,b⟩ | h2
 ·exact .inl ⟨a,b ⟨D,ys,rfl,hD,h1⟩⟩
 ·exact .inr h2
theorem bu.jz {K:ah}{O A:List Addr}{ρ:aa}{σ:St}{H:Hp}(F:bu K O A ρ σ H)(fr:List Nat):bu K [] A (L2.jz fr ρ) (L2.di 0 fr σ) H:=by
 have key:∀{i:Nat} {b},(L2.jz fr ρ)[i]?=some b->∃m,fr[i]?=some m/\b=qI ρ[m]?:=fun {i b} h=>by
  have h':(fr.map fun j=>qI ρ[j]?)[i]?=some b:=h;rw [jT] at h';obtain⟨m,h1,h2⟩:=jq.mp h';exact⟨m,h1,h2.symm⟩
 have at_:∀{i m:Nat} {v},fr[i]?=some m->σ[m]?=some (some v)->(L2.di 0 fr σ)[i]?=some (some v):=fun {i m v} h1 h2=>by
  unfold L2.di;simp [h1,h2]
 have no:∀{i:Nat} {b},(L2.jz fr ρ)[i]?=some b->gJ b=true->False:=fun {i b} h o=>by
  obtain⟨m,_,rfl⟩:=key h;unfold qI at o
  split at o <;> cases o
 refine⟨by simp [L2.jz,L2.di],F.bL,(fun a z=>nomatch z),fun i d h=>?_,fun i b h o=>(no h o).elim,fun i j b c v w _ h _ o=>(no h o).elim,fun i p x y h=>?_⟩
 ·obtain⟨m,h1,h2⟩:=key h
  unfold qI at h2
  split at h2
  ·rename_i d' hd
   cases h2;obtain⟨v,g1,g2⟩:=F.val m d hd;exact⟨v,at_ h1 g1,g2⟩
  all_goals cases h2
 ·obtain⟨m,h1,h2⟩:=key h
  unfold qI at h2
  split at h2
  ·cases h2
  ·rename_i x' y' hd
   cases h2;obtain⟨v,g1,g2,g3⟩:=F.ow m _ hd rfl;exact⟨v,at_ h1 g1,(fun a z=>nomatch z),g2,fun a ha=>⟨F.sub a (g3 a ha),fun z=>nomatch z⟩⟩
  ·rename_i p' x' y' hd
   cases h2;obtain⟨v,g1,gp,g2,g3⟩:=F.bo m p x y hd;exact⟨v,at_ h1 g1,gp,g2,fun a ha=>⟨(g3 a ha).1,fun z=>nomatch z⟩⟩
  ·cases h2
end L2
namespace L2
open PySem PySem.SetTable
theorem getD_none {owner:Array (Option Nat)}{j:Nat}(h:(owner.getD j (some 0)).isNone=true):owner[j]?=some none:=by
 rw [Array.getD_eq_getD_getElem?] at h
 cases hj:owner[j]? with
 |none=>rw [hj] at h; cases h
 |some x=>
  rw [hj] at h
  cases x with
  |none=>rfl
  |some y=>cases h
theorem getD_some {owner:Array (Option Nat)}{j:Nat}(h:owner[j]?=some none):(owner.getD j (some 0)).isNone=true:=by
 rw [Array.getD_eq_getD_getElem?,h];rfl
end L2
namespace L2
open PySem PySem.Spec PyProof.Rows PySem.W PySem.SetTable
section
variable {X:Cx}{cls:Nat->Addr}{E:XK}{e e':Expr}{f g:aa->M Dt}{pos pD akk akj p p2 p3:Pos}
theorem Vb {a:Expr}{x:Str}{j p p'}(h:Ev X cls E a f)(hx:x.length<=1000:=by decide +kernel):Uv X cls E (.JoinedStr [.Constant (.str x) j p,.FormattedValue a 114 none p'] pos) (uk f):=(NB (FR (x:=x)) (NC h)).imp fun σ H Q h_=>by
 obtain⟨O,A,ρ,F,q⟩:=h_;refine⟨_,rfl,hx,O,A,ρ,F,Rg.bind q fun d _ q1=>?_⟩;intro v H' s' r z
 cases d with
 |str l=>
  simp only [wV] at q1
  split at q1
  ·rename_i hi
   exact⟨l,cL r,hi.1,fun c hc=>by simpa using eg.mp hi.2 c hc,fun z hz=>⟨z,rfl,hz,fun z'=>q1 _ H' s'⟩⟩
  ·exact(show False from q1).elim
 |_=>exact(show False from q1).elim
end
end L2
namespace L2
open PySem PySem.Spec PyProof.Rows PySem.W
mutual
theorem Yc {K:ah}{H:Hp}{p:Addr}{ys:List V}(hp:H p=some (.lst ys)):∀{d:Dt}{v:V},rm d=true->Rep K H d v->Rep K (ak H [p]) d v
 |.aK,_,_,h=>by simpa only [Rep] using h
 |.bl _,_,_,h=>by simpa only [Rep] using h
 |.int _,_,_,h=>by simpa only [Rep] using h
 |.str _,_,_,h=>by simpa only [Rep] using h
 |.tup es,_,hz,h=>by
  simp only [Rep] at h ⊢;obtain⟨a,xs,h1,h2,h3⟩:=h;refine⟨a,xs,h1,?_,Fv hp (by simpa only [rm] using hz) h3⟩;rcases h2 with (h2 | ⟨o,h2⟩) | h2
  ·exact .inl (.inl (by rw [cu (by simp only [jo]; intro z; rw [z,hp] at h2; cases h2)]; exact h2))
  ·exact .inl (.inr ⟨o,by rw [cu (by simp only [jo]; intro z; rw [z,hp] at h2; cases h2)]; exact h2⟩)
  ·exact .inr h2
 |.lst es,v,hz,h=>by simp only [rm] at hz; cases hz
 |.aj kvs,_,_,h=>by
  simp only [Rep] at h ⊢;obtain⟨a,ks,h1,h3,o,h2⟩:=h;exact⟨a,ks,h1,h3,o,by rw [cu (by simp only [jo]; intro z; rw [z,hp] at h2; cases h2)]; exact h2⟩
theorem Fv {K:ah}{H:Hp}{p:Addr}{ys:List V}(hp:H p=some (.lst ys)):∀{es:List Dt}{xs:List V},kf es=true->ar K H es xs->ar K (ak H [p]) es xs
 | [],_,_,h=>by simpa only [ar] using h
 |d::es,_,hz,h=>by
  simp only [ar] at h ⊢;simp only [kf,oZ] at hz;obtain⟨x,r,h1,h2,h3⟩:=h;exact⟨x,r,h1,Yc hp hz.1 h2,Fv hp hz.2 h3⟩
end
def eR (K:ah)(A:List Addr)(H:Hp)(v:V)(x y:List Dt):Prop:=jh K A H v (.aW x y)/\∀a∈a5 H v (.aW x y),a∈A
section
variable {K:ah}{O A A':List Addr}{ρ:aa}{σ:St}{H H':Hp}{v:V}{x y:List Dt}
theorem eR.mono (h:eR K A H v x y)(s:ax H H'):eR K A H' v x y:=by
 refine⟨h.1.off (fun a ha=>lj s (h.1.live ha)) (s.ak A),?_⟩;have fq:a5 H' v (.aW x y)=a5 H v (.aW x y):=vn fun a e=>by
  obtain⟨a',e',ha⟩:=h.1.fst;rw [e] at e';cases e';exact lj s (h.1.live ha)
 rw [fq];exact h.2
theorem bu.W3 {i:Nat}(F:bu K O A ρ σ H)(h:oM ρ[i]?=some (x,y)):∃v,σ[i]?=some (some v)/\eR K A H v x y:=by
 unfold oM at h
 split at h
 ·rename_i x' y' e
  cases h;obtain⟨v,h1,h2,h3⟩:=F.ow i _ e rfl;exact⟨v,h1,h2,fun a ha=>F.sub a (h3 a ha)⟩
 ·rename_i p' x' y' e
  cases h;obtain⟨v,h1,_,h2,h3⟩:=F.bo i p' x y e;exact⟨v,h1,h2,fun a ha=>(h3 a ha).1⟩
 ·cases h
inductive T7 (K:ah) (A:List Addr) (H:Hp) (v:V) (x y:List Dt):Prop
 |mk (a dx l m C:Addr) (xs ys:List V) (e:v=.ref a) (hC:gV K C) (h1:H a=some (.ins C dx (kD l m))) (h2:H dx=some (.own a)) (h3:H l=some (.lst xs)) (h4:H m=some (.lst ys)) (h5:l≠m)
  (h6:ar K (ak H A) x xs/\bw x/\x.length<=10000) (h7:ar K (ak H A) y ys/\bw y/\y.length<=10000) (g1:a∈A) (g2:dx∈A) (g3:l∈A) (g4:m∈A):T7 K A H v x y
theorem eR.parts (h:eR K A H v x y):T7 K A H v x y:=by
 obtain⟨⟨a,dx,l,m,C,xs,ys,rfl,hC,h1,h2,h3,h4,h5,h6,h7⟩,h8⟩:=h;rw [lQ h1] at h8;exact⟨a,dx,l,m,C,xs,ys,rfl,hC,h1,h2,h3,h4,h5,h6,h7,h8 a (by simp),h8 dx (by simp),h8 l (by simp),h8 m (by simp)⟩
theorem gV.one {C C':Addr}(h:gV K C)(h':gV K C'):C=C':=by
 have e:=h.1.symm.trans h'.1;injection e with e;injection e with e;injection e
end
abbrev WR:=List Addr->Dt->V->Hp->Hp->Prop
def D4 (K:ah):WR:=fun A d v _ H'=>Rep K (ak H' A) d v
def D5 (K:ah):WR:=fun A d v H H'=>Rep K (ak H' A) d v/\TV H v H'
def z7:WR:=fun _ d v H H'=>∃ks p,d=.aj ks/\v=.ref p/\H p=none/\H' p=some (.dK (bh ks))
inductive k8 (K:ah) (cls:Nat->Addr) (W:WR) (F:List Dt->List Dt->M Dt) (vs:List V) (H:Hp) (Q:VK) (E:XK):Prop
 |mk (v:V) (A:List Addr) (x y:List Dt) (e:vs=[v]) (L:cQ H A) (b:eR K A H v x y) (q:Rg cls E (F x y) H fun d=>∀v H',ax H H'->W A d v H H'->sm d->Q v H'):k8 K cls W F vs H Q E
inductive ek (K:ah) (cls:Nat->Addr) (F:Nat->BM) (vs:List V) (H:Hp) (Q:VK) (E:XK):Prop
 |mk (p:Nat) (v:V) (ws:List V) (A:List Addr) (x y ds:List Dt) (e:vs=v::ws) (e2:v=.ref p) (L:cQ H A) (b:eR K A H v x y) (r:ar K (ak H A) ds ws) (z:bw ds)
  (q:Rg cls E (F p x y ds) H fun r=>∀u H',ax (ak H (a5 H v (.aW x y))) H'->eR K A H' v r.2.1 r.2.2->a5 H' v (.aW x y)=a5 H v (.aW x y)->Rep K (ak H' A) r.1 u->sm r.1->Q u H'):ek K cls F vs H Q E
def gU (P:Program)(w:World)(K:ah)(mg:Str->Option Value)(base:Heap)(k:Nat)(m:Str)(ps:List Str)(sp:Sp):Prop:=
 ∃C f fd,gV K C/\Meth K C m f/\cR P w K mg base (aE P w) k f fd ps sp/\Binds K fd ps []
inductive qN (K:ah) (m:Str) (sp:Sp) (E:XK) (i:Nat) (t:TA) (σ:St) (H:Hp) (Q:VK):Prop
 |mk (v:V) (a C dx:Addr) (fs:List (Str×V)) (h1:σ[i]?=some (some v)) (h2:v=.ref a) (h3:H a=some (.ins C dx fs)) (h4:gV K C) (h5:fs.lookup m=none) (q:t σ H fun vs H2=>sp (v::vs) H2 Q E):qN K m sp E i t σ H Q
section
variable {X:Cx}{cls:Nat->Addr}{E:XK}{a b c o e:Expr}{f g h:aa->M Dt}{pos apos:Pos}{i k:Nat}{m:Str}{ps:List Str}{sp:Sp}{t:TA}{es:List Expr}{fs:aa->M (List Dt)}
theorem AM {pl:Sem Bool}(C:gU X.prog X.w X.K X.mg X.base k m ps sp)(hr:bF k X.A)(hx:Passes (aE X.prog X.w) X E)(ho:PE X o (dh i))
  (ht:eval (.Call (.Attribute o m apos) [] [] pos) X.env=(do
   let ov ← eval o X.env
   standAt apos.atName
   let (f,first) ← holding [ov] (getMethod ov m pl)
   callWith pos f first (backTo pos (starEach [] X.env)) (backToKw pos (keywordEach [] X.env))):=by rfl):PE X (.Call (.Attribute o m apos) [] [] pos) (qN X.K m sp E i ix):=by
 obtain⟨C,f,fd,hC,hM,F,hb⟩:=C;refine(Y0 (pl:=pl) (dvs:=[]) (ds:=[]) ho hC.2.1 hM F hr hb .nil hx ht).imp fun σ H Q h_=>?_;obtain⟨v,a,C',dx,fs,h0,h1,h2,h3,h4,h5⟩:=h_;rw [h3.one hC] at h2;exact⟨v,h0,a,dx,fs,h1,h2,h4,h5⟩
theorem AN {pl:Sem Bool}(C:gU X.prog X.w X.K X.mg X.base k m ps sp)(hr:bF k X.A)(hx:Passes (aE X.prog X.w) X E)(ho:PE X o (dh i))(ha:PA X (e::es) (mm X.K cls E fs))
  (bz:starEach (e::es) X.env=(false,eval e X.env)::starEach es X.env:=by rfl) (dS:(backTo pos (starEach es X.env)).any (·.1)=false:=by rfl)
  (ht:eval (.Call (.Attribute o m apos) (e::es) [] pos) X.env=(do
   let ov ← eval o X.env
   standAt apos.atName
   let (f,first) ← holding [ov] (getMethod ov m pl)
   callWith pos f first (backTo pos (starEach (e::es) X.env)) (backToKw pos (keywordEach [] X.env))):=by rfl):PE X (.Call (.Attribute o m apos) (e::es) [] pos) (qN X.K m sp E i (mm X.K cls E fs)):=by
 obtain⟨C,f,fd,hC,hM,F,hb⟩:=C;refine(Y1 (pl:=pl) (dvs:=[]) (ds:=[]) ho hC.2.1 hM F hr hb .nil hx ha bz dS ht).imp fun σ H Q h_=>?_;obtain⟨v,a,C',dx,oE,h0,h1,h2,h3,h4,h5⟩:=h_;rw [h3.one hC] at h2;refine⟨v,h0,a,dx,oE,h1,h2,h4,?_⟩;simpa only [kJ] using h5
theorem eR.look {K:ah}{A:List Addr}{H:Hp}{v:V}{x y:List Dt}(h:eR K A H v x y)(gK:(m==("done" : Str))=false)(gn:(m==("undone" : Str))=false):∃a C dx fs,v=.ref a/\H a=some (.ins C dx fs)/\gV K C/\fs.lookup m=none:=by
 obtain⟨a,dx,l,n,C,xs,ys,rfl,hC,h1,_⟩:=h.parts;refine⟨a,C,dx,_,rfl,h1,hC,?_⟩;unfold kD;rw [jS,gK,jS,gn];rfl
theorem Ek {W:WR}{F:List Dt->List Dt->M Dt}{σ:St}{H:Hp}{Q:VK}{O A:List Addr}{ρ:aa}(gK:(m==("done" : Str))=false)(gn:(m==("undone" : Str))=false)(Ft:bu X.K O A ρ σ H)
  (q:Rg cls E (fR i F ρ) H fun d=>∀v H',ax H H'->W A d v H H'->sm d->Q v H'):qN X.K m (k8 X.K cls W F) E i ix σ H Q:=by
 unfold fR Fz at q
 split at q
 ·rename_i p hb
  obtain⟨x,y⟩:=p;obtain⟨v,h1,h2⟩:=Ft.W3 hb;obtain⟨a,C,dx,fs,h3,h4,h5,h6⟩:=h2.look gK gn;exact⟨v,a,C,dx,fs,h1,h3,h4,h5,h6,v,A,x,y,rfl,Ft.bL,h2,q⟩
 ·exact(show False from q).elim
theorem aeO {pl:Sem Bool}{F:List Dt->List Dt->M Dt}(C:gU X.prog X.w X.K X.mg X.base k m ps (k8 X.K cls (D4 X.K) F))(hr:bF k X.A)(hx:Passes (aE X.prog X.w) X E)(ho:PE X o (dh i))(gK:(m==("done" : Str))=false:=by decide +kernel)(gn:(m==("undone" : Str))=false:=by decide +kernel)
  (ht:eval (.Call (.Attribute o m apos) [] [] pos) X.env=(do
   let ov ← eval o X.env
   standAt apos.atName
   let (f,first) ← holding [ov] (getMethod ov m pl)
   callWith pos f first (backTo pos (starEach [] X.env)) (backToKw pos (keywordEach [] X.env))):=by rfl):Ev X cls E (.Call (.Attribute o m apos) [] [] pos) (fR i F):=
 (AM C hr hx ho ht).imp fun σ H Q ⟨O,A,ρ,Ft,q⟩=>Ek gK gn Ft q
theorem B8 {pl:Sem Bool}{F:List Dt->List Dt->M Dt}(C:gU X.prog X.w X.K X.mg X.base k m ps (k8 X.K cls z7 F))(hr:bF k X.A)(hx:Passes (aE X.prog X.w) X E)(ho:PE X o (dh i))(gK:(m==("done" : Str))=false:=by decide +kernel)(gn:(m==("undone" : Str))=false:=by decide +kernel)
  (ht:eval (.Call (.Attribute o m apos) [] [] pos) X.env=(do
   let ov ← eval o X.env
   standAt apos.atName
   let (f,first) ← holding [ov] (getMethod ov m pl)
   callWith pos f first (backTo pos (starEach [] X.env)) (backToKw pos (keywordEach [] X.env))):=by rfl):Ev X cls E (.Call (.Attribute o m apos) [] [] pos) (fR i F):=fun pins s σ H Q I ⟨O,A,ρ,Ft,q⟩=>by
 refine wpAny_mono (AM C hr hx ho ht pins s σ H (fun v H'=>∃d,ax H H'/\z7 A d v H H'/\sm d/\fR i F ρ=.ok d) I (Ek gK gn Ft ?_)) (fun u s1 hz hT=>?_) fun _ _ z=>z
 ·exact Rg.ok q fun d e _ v H' s w z=>⟨d,s,w,z,e⟩
 ·obtain⟨v,H',I',rv,d,s',⟨ks,p,rfl,rfl,hp,fE⟩,z,e⟩:=hz hT
  obtain⟨ob,I2⟩:=I'.freeze fE;rw [e] at q;have s2:ax H (upd H' p (.bE ob (.dK (bh ks)))):=fun b o e=>by
   rw [aF (cN e hp)];exact s' b o e
  exact⟨.ref p,_,I2,rv,q _ _ s2 (Fx (o:=ob) (by rw [cu (Ft.bL.fresh hp)]; exact aX)) z⟩
end
abbrev gY (K:ah)(f:Str):TE:=Mu K (dh 0) f
abbrev Nf (K:ah):List V->Hp->VK->Prop:=fun xs H Q=>∃p ys,xs=[.ref p]/\(bX K H p ys∨cP K H p ys)/\Q (.int ys.length) H
abbrev Nh:List V->Hp->VK->Prop:=fun xs H Q=>∃a kvs,xs=[V.ref a]/\Rd H a (.dK kvs)/\∀p,H p=none->Q (.ref p) (upd H p (.dK kvs))
abbrev Er (K:ah)(f:Str):TE:=uw (Nf K) (jy (gY K f) ix)
abbrev VX (K:ah):TS:=ml (El (jy (Er K "done") (jy (Er K "undone") ix)))
abbrev VY (K:ah):TS:=ml (Ms (wX (kX (nX fun i j=>.bl (decide (j<i))) (Er K "done") (tC (.int 0))))
 (uw Nh (jy (kX (xp K) (kX (FA K) (gY K "done") (Ml (rU fun i=>.int (-i)) (tC (.int 1)))) (tC (.int 1))) ix)) Mv)
abbrev B0:GM:=iG 2 (dJ (aI 0) (dJ (aI 1) ku))
abbrev V9 (K:ah):TS:=mj (wZ (An K "list" AH (gY K "done") (jy (El (jy (dh 1) (jy (dh 2) ix))) ix))) (wZ (Et K "list" FF (gY K "undone")))
abbrev V8 (K:ah):TS:=mj (Fg K (dh 0) (Ep ix) "done") (Fg K (dh 0) (Ep ix) "undone")
section
variable {P:Program}{w:World}{K:ah}{mg:Str->Option Value}{base:Heap}{cls:Nat->Addr}{x qual:Str}{st:Stmt}{f:Addr}{fd:FuncData}{k:Nat}
abbrev C7 (P:Program)(w:World)(K:ah)(mg:Str->Option Value)(base:Heap)(N:List Str)(qual:Str)(st:Stmt)(f:Addr)(k:Nat)(t:TS):Prop:=
 ∀(aw:Value) (A:Around) (outer:List Env) (s:Shared) (H:Hp) (E:XK),bF k (A.deeper (envOfC qual (ay st) s.heap.objs.size f aw))->ed (bW (aE P w) P w K mg base N qual (ay st) f aw A outer s H E) (dg st) t
theorem lh {H:Hp}{σ:St}{a dx C l m:Addr}{Q:VK}{g:Str}{z:Addr}(e:σ[0]?=some (some (.ref a)))(hC:gV K C)(h:H a=some (.ins C dx (kD l m)))(hg:(g = "done" /\z=l)∨(g = "undone" /\z=m))(q:Q (.ref z) H):gY K g σ H Q:=by
 refine⟨_,e,a,C,dx,_,.ref z,rfl,h,hC.2.1,?_,?_,q⟩
 ·rcases hg with ⟨rfl,rfl⟩ | ⟨rfl,rfl⟩
  ·exact hC.2.2.1
  ·exact hC.2.2.2
 ·rcases hg with ⟨rfl,rfl⟩ | ⟨rfl,rfl⟩
  ·rfl
  ·rfl
theorem WU (F:eP K x qual st f fd)(S:bC ["self"] ["self"] (ay st))(hB:C7 P w K mg base ["self"] qual st f k (VX K)):cR P w K mg base (aE P w) (k+1) f fd ["self"] (k8 K cls (D4 K) yP):=by
 refine F.mE S (fun vs H Q E h=>by obtain⟨v,_,_,_,rfl,_⟩:=h; rfl) (fun aw A outer s H vs Q E hr h R=>⟨_,hB aw A outer s H E hr,?_⟩) (fun z=>by injection z with z; exact absurd z (by decide +kernel));obtain⟨v,B,x,y,rfl,L,hb,q⟩:=h;obtain⟨a,dx,l,m,C,xs,ys,rfl,hC,h1,h2,h3,h4,h5,⟨h6,h7,h8⟩,⟨h9,kq,lO⟩,_⟩:=hb.parts;refine lh rfl hC h1 (.inl ⟨rfl,rfl⟩) ⟨l,xs,rfl,.inl (.of h3),lh rfl hC h1 (.inr ⟨rfl,rfl⟩) ⟨m,ys,rfl,.inl (.of h4),by show (2:Nat)<=_; exact k9 (by decide),fun p hp=>?_⟩⟩;refine q _ _ (.upd hp) (qZ (ou L hp) ?_) ⟨by show (2:Nat)<=_; decide,trivial,trivial,trivial⟩;rw [← h6.length,← h9.length];exact .cons dP (.cons dP .nil)
theorem abM {x:List Dt}{xs:List V}{H:Hp}{d:Dt}(r:ar K H x xs)(h:x.getLast?=some d):∃u,iq xs (-1)=some u/\Rep K H d u:=by
 have hl:=r.length;have hx:x≠[]:=fun z=>by rw [z] at h; cases h
 have hp:0<x.length:=kL.mpr hx;have aT:x.length - 1<xs.length:=by omega
 have hg:xs[x.length - 1]?=some (xs[x.length - 1]'aT):=kN aT;obtain⟨d',e1,e2⟩:=r.get hg;rw [DE,e1] at h;cases h;refine⟨_,?_,e2⟩;unfold iq;rw [show mK xs.length (-1)=some (x.length - 1) by
  unfold mK;rw [if_neg (by omega),if_pos (by omega)]
  congr 1
  omega]
 exact hg
theorem WV (F:eP K x qual st f fd)(S:bC ["self"] ["self"] (ay st))(hB:C7 P w K mg base ["self"] qual st f k (VY K)):cR P w K mg base (aE P w) (k+1) f fd ["self"] (k8 K cls z7 oN):=by
 refine F.mE S (fun vs H Q E h=>by obtain⟨v,_,_,_,rfl,_⟩:=h; rfl) (fun aw A outer s H vs Q E hr h R=>⟨_,hB aw A outer s H E hr,?_⟩) (fun z=>by injection z with z; exact absurd z (by decide +kernel));obtain⟨v,B,x,y,rfl,L,hb,q⟩:=h;obtain⟨a,dx,l,m,C,xs,ys,rfl,hC,h1,h2,h3,h4,h5,⟨h6,h7,h8⟩,⟨h9,kq,lO⟩,_⟩:=hb.parts;have hl:=h6.length;refine lh rfl hC h1 (.inl ⟨rfl,rfl⟩) ⟨l,xs,rfl,.inl (.of h3),_,_,rfl,rfl,_,rfl,?_⟩;unfold oN at q
 cases hx:x.getLast? with
 |none=>
  have e:x=[]:=List.getLast?_eq_none_iff.mp hx;subst e;rw [hx] at q;rw [show decide ((0:Int)<(xs.length:Int))=false by rw [← hl]; rfl];simp only [du,if_false];intro p hp;exact q _ _ (.upd hp) ⟨[],p,rfl,rfl,hp,aX⟩ ⟨by simp,fun _ z=>nomatch z⟩
 |some d=>
  rw [hx] at q;have hp:0<x.length:=kL.mpr fun z=>by rw [z] at hx; cases hx
  rw [show decide ((0:Int)<(xs.length:Int))=true by rw [decide_eq_true_eq]; omega];simp only [if_true];obtain⟨u,hu,ru⟩:=abM h6 hx;refine(show gY K "done" [some (.ref a)] H (fun z H1=>∃i,V.int 1=.int i/\FA K z (.int (-i)) H1 fun z2 H2=>xp K z2 (.int 1) H2 fun z3 H3=>Nh [z3] H3 Q) from lh rfl hC h1 (.inl ⟨rfl,rfl⟩) ⟨1,rfl,l,xs,_,u,rfl,rfl,.of h3,hu,?_⟩)
  have hz:sm d:=hV h7 (Dx hx);unfold fO at q
  split at q
  ·rename_i e; cases e
  ·rename_i s' ks e
   cases e;obtain⟨p,zs,rfl,r1,r2⟩:=hZ ru;obtain⟨v1,v2,rfl,r3,r4⟩:=my r2;obtain⟨p2,o2,rfl,_,hH⟩:=uE r4;refine⟨p,_,1,.ref p2,rfl,rfl,bP.fP r1,rfl,p2,bh ks,rfl,.inr ⟨o2,hH⟩,fun p' fE=>?_⟩;exact q _ _ (.upd fE) ⟨ks,p',rfl,rfl,fE,aX⟩ hz.2.2.1
  ·exact(show False from q).elim
end
section
variable {P:Program}{w:World}{K:ah}{mg:Str->Option Value}{base:Heap}{cls:Nat->Addr}{x qual:Str}{st:Stmt}{f:Addr}{fd:FuncData}{k:Nat}
theorem afk (F:eP K x qual st f fd)(S:bC ["self","step","behind"] ["self","step","behind"] (ay st))(hB:C7 P w K mg base ["self","step","behind"] qual st f k (V9 K)):cR P w K mg base (aE P w) (k+1) f fd ["self","step","behind"] (ek K cls fun _=>lZ):=by
 have two:∀{vs H Q E},(ek K cls fun _=>lZ) vs H Q E->∃v w1 w2,vs=[v,w1,w2]:=fun {vs H Q E} h=>by
  obtain⟨p,v,ws,A,x,y,ds,rfl,_,L,hb,r,z,q⟩:=h;simp only [lZ] at q
  split at q
  ·obtain⟨w1,w2,rfl,_⟩:=my r
   exact⟨v,w1,w2,rfl⟩
  ·exact(show False from q).elim
 refine F.mE S (fun vs H Q E h=>by obtain⟨v,w1,w2,rfl⟩:=two h; rfl) (fun aw A outer s H vs Q E hr h R=>⟨_,hB aw A outer s H E hr,?_⟩) (fun z=>by injection z with z; exact absurd z (by decide +kernel));obtain⟨p0,v,ws,B,x,y,ds,rfl,_,L,hb,r,z,q⟩:=h;obtain⟨a,dx,l,m,C,xs,ys,rfl,hC,h1,h2,h3,h4,h5,⟨h6,h7,h8⟩,⟨h9,kq,lO⟩,aB,dB,lB,mB⟩:=hb.parts;simp only [lZ] at q
 split at q
 rotate_left
 ·exact(show False from q).elim
 rename_i sd bd;obtain⟨w1,w2,rfl,r1,r2⟩:=my r;unfold g8 at q
 split at q
 rotate_left
 ·exact(show False from q).elim
 rename_i hl;have hlen:=h6.length;refine(show gY K "done" [some (.ref a),some w1,some w2] H (fun z H1=>qK K "list" z H1/\dh 1 [some (.ref a),some w1,some w2] H1 fun u1 H1=>dh 2 [some (.ref a),some w1,some w2] H1 fun u2 H1=>[u1,u2].length<=sizeLine/\∀p,H1 p=none->AH z [.ref p] (upd H1 p (.tup [u1,u2])) fun _ H3=>gY K "undone" [some (.ref a),some w1,some w2] H3 fun z2 H4=>qK K "list" z2 H4/\FF z2 [] H4 fun _ H5=>Q .aK H5) from
  lh rfl hC h1 (.inl ⟨rfl,rfl⟩) ⟨.inl ⟨rfl,xs,.of h3⟩,w1,rfl,w2,rfl,by show (2:Nat)<=_; exact k9 (by decide),fun p hp=>?_⟩)
 have OB:a≠p:=cN h1 hp;have ndp:dx≠p:=cN h2 hp;have Oo:l≠p:=cN h3 hp;have Ol:m≠p:=cN h4 hp;have A9:a≠l:=lE h1 h3 (by simp);have pM:a≠m:=lE h1 h4 (by simp);have Gm:dx≠l:=lE h2 h3 (by simp);have Gk:dx≠m:=lE h2 h4 (by simp);refine⟨l,xs,.ref p,rfl,rfl,by rw [aF Oo]; exact h3,cH (by omega:xs.length<10000) (by decide),?_⟩;have g1:upd (upd H p (.tup [w1,w2])) l (.lst (xs++[.ref p])) a=some (.ins C dx (kD l m)):=by rw [aF A9,aF OB]; exact h1
 have g4:upd (upd H p (.tup [w1,w2])) l (.lst (xs++[.ref p])) m=some (.lst ys):=by rw [aF (cb h5),aF Ol]; exact h4
 refine lh rfl hC g1 (.inr ⟨rfl,rfl⟩) ⟨.inl ⟨rfl,ys,.of g4⟩,m,ys,rfl,rfl,g4,?_⟩;rw [lQ h1] at q;have keep:∀b,b≠l->b≠m->b≠p->upd (upd (upd H p (.tup [w1,w2])) l (.lst (xs++[.ref p]))) m (.lst []) b=H b:=fun b z1 z2 z3=>by rw [aF z2,aF z1,aF z3]
 have gA:upd (upd (upd H p (.tup [w1,w2])) l (.lst (xs++[.ref p]))) m (.lst []) a=some (.ins C dx (kD l m)):=by rw [keep a A9 pM OB]; exact h1
 have pB:p∉B:=L.fresh hp;have sB:ax (ak H B) (ak (upd (upd (upd H p (.tup [w1,w2])) l (.lst (xs++[.ref p]))) m (.lst [])) B):=fun b o e=>by
  obtain⟨e1,e2⟩:=d6 e;rw [cu e1,keep b (fun z=>e1 (z ▸ lB)) (fun z=>e1 (z ▸ mB)) (cN e2 hp)];exact e2
 refine q .aK _ (fun b o e=>?_) ⟨⟨a,dx,l,m,C,xs++[.ref p],[],rfl,hC,gA,?_,?_,?_,h5,⟨(h6.mono sB).append (.cons (qZ ?_ ((ar.cons r1 (.cons r2 .nil)).mono sB)) .nil),qU h7 ⟨⟨by show (2:Nat)<=_; decide,z⟩,trivial⟩,by simp; omega⟩,.nil,trivial,by simp⟩,?_⟩ ?_ AD trivial
 ·obtain⟨e1,e2⟩:=d6 e
  simp only [bf,fw,or_false,not_or] at e1;rw [keep b e1.2.2.1 e1.2.2.2 (cN e2 hp)];exact e2
 ·rw [keep dx Gm Gk ndp]; exact h2
 ·rw [aF h5,aX]
 ·rw [aX]
 ·rw [cu pB,aF (cb Ol),aF (cb Oo),aX]
 ·rw [lQ gA]
  intro b hb;simp only [bf,fw,or_false] at hb;rcases hb with rfl | rfl | rfl | rfl <;> assumption
 ·rw [lQ gA]
def Em (K:ah)(cls:Nat->Addr)(E:XK):List SM->TS->TS
 | [],t=>t
 |a::r,t=>mj (sM K cls E a) (Em K cls E r t)
def Te (K:ah)(cls:Nat->Addr)(E:XK)(Hin:Hp)(A₀:List Addr)(m:M Fl)(t:St->Hp->Prop):Prop:=match m with
 |.ok (.nx ρ)=>∀σ H,fJ K Hin A₀ ρ σ H->t σ H
 |.ex c=>∀H,ax Hin H->E (.ref (cls c)) none H
 |_=>False
theorem pre_of {E:XK}{Hin:Hp}{A₀:List Addr}{t:TS}{D:Ends}:∀{pre:List SM}{ρ:aa}{σ:St}{H:Hp},fJ K Hin A₀ ρ σ H->Te K cls E Hin A₀ (eW pre ρ) (t D)->Em K cls E pre t D σ H
 | [],ρ,σ,H,S,q=>q σ H S
 |a::r,ρ,σ,H,S,q=>by
  refine⟨Hin,A₀,ρ,S,?_⟩;have q:Te K cls E Hin A₀ (aR a (eW r) ρ) (t D):=q;unfold aR at q
  cases hm:a ρ with
  |ok fl=>
   rw [hm] at q
   cases fl with
   |nx aQ=>exact fun aL H' S'=>pre_of S' q
   |bk aQ=>exact(show False from q).elim
   |ct aQ=>exact(show False from q).elim
   |rt d=>exact(show False from q).elim
  |ex c=>rw [hm] at q; exact q
  |bad=>rw [hm] at q; exact(show False from q).elim
abbrev Wb (K:ah)(cls:Nat->Addr)(E:XK)(pre:List SM)(fs:aa->M (List Dt))(e:aa->M Dt):TS:=
 Em K cls E pre (mj (wZ (qN K "do_step" (ek K cls fun _=>lZ) E 0 (mm K cls E fs))) (ml (tM K cls E e)))
theorem bu.afg {O A:List Addr}{ρ:aa}{σ:St}{H H':Hp}{b0:Bd}(F:bu K O A ρ σ H)(h0:ρ[0]?=some b0)(L:cQ H' A)(hs:ax (ak H A) (ak H' A))(ho:∀a∈O,H' a=H a)(hb:∀(i:Nat) p x y,i≠0->ρ[i]?≠some (.bor p x y)):bu K O A (ρ.set 0 .no) σ H':=by
 have at_:∀{i:Nat} {b},(ρ.set 0 .no)[i]?=some b->(i=0/\b=.no)∨(i≠0/\ρ[i]?=some b):=fun {i b} e=>by
  by_cases hi:i=0
  ·subst hi
   have aT:0<ρ.length:=(eF.mp h0).1;rw [qz aT] at e;exact .inl ⟨rfl,(iu e).symm⟩
  ·rw [jW (cb hi)] at e
   exact .inr ⟨hi,e⟩
 have fe:∀{i:Nat} {b v},ρ[i]?=some b->gJ b=true->σ[i]?=some (some v)->a5 H' v b=a5 H v b:=fun {i b v} e o e'=>vn fun a ea=>by
  obtain⟨v1,q1,q2,q3⟩:=F.ow i b e o;rw [e'] at q1;cases q1;obtain⟨a',z,ha⟩:=q2.fst;rw [ea] at z;cases z;exact ho a (q3 a ha)
 refine⟨by simp [F.len],L,F.sub,fun i d e=>?_,fun i b e o=>?_,fun i j b c v w mR e1 e2 o1 o2 e3 e4=>?_,fun i p x y e=>?_⟩
 ·rcases at_ e with ⟨_,z⟩ | ⟨_,e'⟩
  ·cases z
  ·obtain⟨v,q1,q2,q3⟩:=F.val i d e'
   exact⟨v,q1,q2.mono hs,q3⟩
 ·rcases at_ e with ⟨_,z⟩ | ⟨_,e'⟩
  ·rw [z] at o; cases o
  ·obtain⟨v,q1,q2,q3⟩:=F.ow i b e' o
   refine⟨v,q1,q2.off (fun a ha=>ho a (q3 a ha)) hs,?_⟩;rw [fe e' o q1];exact q3
 ·rcases at_ e1 with ⟨_,z⟩ | ⟨_,vS⟩
  ·rw [z] at o1; cases o1
  ·rcases at_ e2 with ⟨_,z⟩ | ⟨_,iJ⟩
   ·rw [z] at o2; cases o2
   ·rw [fe vS o1 e3,fe iJ o2 e4]
    exact F.apart i j b c v w mR vS iJ o1 o2 e3 e4
 ·rcases at_ e with ⟨_,z⟩ | ⟨hi,e'⟩
  ·cases z
  ·exact(hb i p x y hi e').elim
theorem vo {H:Hp}{v:V}{x y x' y':List Dt}:a5 H v (.aW x y)=a5 H v (.aW x' y'):=by cases v <;> rfl
theorem eR.fp {A:List Addr}{H H':Hp}{v:V}{x y:List Dt}(h:eR K A H v x y)(s:ax H H'):a5 H' v (.aW x y)=a5 H v (.aW x y):=vn fun a e=>by
 obtain⟨a',e',ha⟩:=h.1.fst;rw [e] at e';cases e';exact lj s (h.1.live ha)
def zb (s:SM):Prop:=∀ρ aQ,s ρ=.ok (.nx aQ)->aQ[0]?=ρ[0]?/\∀(i:Nat) p x y,aQ[i]?=some (.bor p x y)->ρ[i]?=some (.bor p x y)
theorem OW {g:aa->M Dt}:zb (iW g):=fun ρ aQ h=>by
 unfold iW at h
 cases hg:g ρ <;> rw [hg] at h <;> cases h
 exact⟨rfl,fun _ _ _ _ z=>z⟩
theorem Bh {g:aa->M Dt}{i:Nat}:zb (bV g (aI (i+1))):=fun ρ aQ h=>by
 unfold bV at h
 cases hg:g ρ with
 |ex c=>rw [hg] at h; cases h
 |bad=>rw [hg] at h; cases h
 |ok d=>
  rw [hg] at h;have h:M.ok (Fl.nx (ρ.set (i+1) (.val d)))=.ok (.nx aQ):=h;cases h;refine⟨by rw [jW (by omega)],fun j p x y z=>?_⟩
  by_cases hj:i+1=j
  ·subst hj
   rw [List.getElem?_set] at z;simp only [if_true] at z
   split at z <;> cases z
  ·rw [jW hj] at z
   exact z
theorem OV:∀{pre:List SM},(∀s∈pre,zb s)->zb (eW pre)
 | [],_=>fun ρ aQ h=>by cases h; exact⟨rfl,fun _ _ _ _ z=>z⟩
 |a::r,hk=>fun ρ aQ h=>by
  have h:aR a (eW r) ρ=.ok (.nx aQ):=h;unfold aR at h
  cases ha:a ρ with
  |ex c=>rw [ha] at h; cases h
  |bad=>rw [ha] at h; cases h
  |ok fl=>
   rw [ha] at h
   cases fl with
   |nx a7=>
    obtain⟨e1,e2⟩:=hk a bN ρ a7 ha;obtain⟨e3,e4⟩:=OV (fun s hs=>hk s (cG _ hs)) a7 aQ h;exact⟨e3.trans e1,fun i p x y z=>e2 i p x y (e4 i p x y z)⟩
   |bk _=>cases h
   |ct _=>cases h
   |rt _=>cases h
theorem QY {K:ah}{B:List Addr}{H:Hp}{v:V}{ws:List V}{x y ds:List Dt}{p:Option Nat}{n:Nat}(L:cQ H B)(r:ar K (ak H B) ds ws)(z:bw ds)(hb:eR K B H v x y)(uY:∀a,p=some a->v=.ref a) :
  bu K [] B (.bor p x y::(ds.map Bd.val++bM n .no)) (some v::(ws.map some++bM n none)) H:=by
 have F0:=IY L r z n;refine⟨by simp [r.length],L,(fun a z=>nomatch z),fun i d e=>?_,fun i b e o=>?_,fun i j b c v w mR e1 e2 o1 o2 e3 e4=>?_,fun i p' x' y' e=>?_⟩
 ·cases i with
  |zero=>cases e
  |succ i=>exact F0.val i d (by simpa using e)
 ·cases i with
  |zero=>cases e; cases o
  |succ i=>exact F0.ow i b (by simpa using e) o
 ·cases i with
  |zero=>cases e1; cases o1
  |succ i=>
   cases j with
   |zero=>cases e2; cases o2
   |succ j=>exact F0.apart i j b c v w (by omega) (by simpa using e1) (by simpa using e2) o1 o2 (by simpa using e3) (by simpa using e4)
 ·cases i with
  |zero=>cases e; exact⟨v,rfl,uY,hb.1,fun a ha=>⟨hb.2 a ha,fun z=>nomatch z⟩⟩
  |succ i=>exact F0.bo i p' x' y' (by simpa using e)
theorem Jx {N ps:List Str}{np n:Nat}{pre:List SM}{fs:aa->M (List Dt)}{e:aa->M Dt}(F:eP K x qual st f fd)(S:bC N ps (ay st))(hp:ps.length=np+1)(hn:N.length=np+1+n)(hk:∀s∈pre,zb s)
  (hB:∀(aw:Value) (A:Around) (outer:List Env) (s:Shared) (H:Hp) (E:XK),bF k (A.deeper (envOfC qual (ay st) s.heap.objs.size f aw))->
   Rz (bW (aE P w) P w K mg base N qual (ay st) f aw A outer s H E) E->ed (bW (aE P w) P w K mg base N qual (ay st) f aw A outer s H E) (dg st) (Wb K cls E pre fs e))
  (hf:ps=[dR]->(ay st).names.lookup dR=some .local:=by first | assumption | decide +kernel):cR P w K mg base (aE P w) (k+1) f fd ps (ek K cls (ij np n (eW pre) fs e)):=by
 have len:∀vs H Q E,ek K cls (ij np n (eW pre) fs e) vs H Q E->vs.length=np+1:=fun vs H Q E h_=>by
  obtain⟨p,v,ws,A,x,y,ds,e1,_,L,hb,r,z,q⟩:=h_;subst e1;unfold ij at q
  split at q
  ·rename_i hl
   rw [eh,← r.length,hl]
  ·exact(show False from q).elim
 refine F.mE S (fun vs H Q E h=>by rw [hp]; exact len vs H Q E h) (fun aw A outer s H vs Q E hr h R=>⟨_,hB aw A outer s H E hr R,?_⟩) hf;have hv:=len vs H Q E h;obtain⟨p,v,ws,B,x,y,ds,rfl,uY,L,hb,r,z,q⟩:=h;unfold ij at q
 split at q
 rotate_left
 ·exact(show False from q).elim
 rename_i hl;have bz:start N (v::ws)=some v::(ws.map some++bM n none):=by
  unfold start;rw [hn,hv,wA];rfl
 rw [bz];have noF:∀(i:Nat) p x y,(ds.map Bd.val++bM n Bd.no)[i]?≠some (.bor p x y):=fun i p x y e=>by
  rcases eD.mp (jV e) with e | e
  ·obtain⟨d,_,z⟩:=dF.mp e
   cases z
  ·have:=DD e
   cases this
 have Fb:=QY (p:=some p) (n:=n) L r z hb fun a ha=>by cases ha; exact uY
 refine pre_of (Hin:=H) (A₀:=B) (ρ:=.bor (some p) x y::(ds.map Bd.val++bM n .no)) ⟨[],.refl _,L,(fun a z=>nomatch z),Fb⟩ ?_
 cases hm:eW pre (.bor (some p) x y::(ds.map Bd.val++bM n .no)) with
 |bad=>rw [hm] at q; exact(show False from q).elim
 |ex c=>rw [hm] at q; exact q
 |ok fl=>
  rw [hm] at q
  cases fl with
  |bk ρ=>exact(show False from q).elim
  |ct ρ=>exact(show False from q).elim
  |rt d=>exact(show False from q).elim
  |nx ρ=>
   obtain⟨h0,h1⟩:=OV hk _ _ hm;have h0:ρ[0]?=some (.bor (some p) x y):=h0;have hb3:∀(i:Nat) p x y,i≠0->ρ[i]?≠some (.bor p x y):=fun i p' x' y' hi e=>by
    have e':=h1 i p' x' y' e
    cases i with
    |zero=>exact hi rfl
    |succ i=>exact noF i p' x' y' (by simpa using e')
   rintro kF H1 ⟨os,s1,L1,fr,F1⟩;obtain⟨v1,g1,gp,g2,g3⟩:=F1.bo 0 _ x y h0;obtain rfl:v1=v:=(gp p rfl).trans uY.symm;have H0:eR K (os++B) H1 v1 x y:=⟨g2,fun a ha=>(g3 a ha).1⟩
   obtain⟨a,C,dx,oE,z1,z2,z3,z4⟩:=H0.look (m:="do_step") (by decide +kernel) (by decide +kernel)
   have q:Rg cls E (vY fs e ρ ρ[0]?) H _:=q;rw [h0] at q;have q:Rg cls E ((fs ρ).bd fun ds=>(lZ x y ds).bd fun r=>(e (ρ.set 0 .no)).calm.bd fun d=>.ok (d,r.2.1,r.2.2)) H _:=q;refine⟨v1,a,C,dx,oE,g1,z1,z2,z3,z4,os,os++B,ρ,F1,?_⟩;refine Rg.heap (Rg.bind q fun RN _ q2=>q2) s1 fun RN _ q2=>?_;intro vs H2 s2 r2 Ub;have si:=H0.mono s2;refine⟨p,v1,vs,os++B,x,y,RN,rfl,uY,F1.bL.mono s2,si,r2,Ub,?_⟩;refine Rg.heap (Rg.bind q2 fun r _ q3=>q3) (s1.trans s2) fun r _ q3=>?_;intro u H3 s3 b3 f3 _ _;have e21:a5 H2 v1 (.aW x y)=a5 H1 v1 (.aW x y):=H0.fp s2;have Jp:a5 H2 v1 (.aW x y)=a5 H v1 (.aW x y):=hb.fp (s1.trans s2);have k3:∀b,b∉a5 H2 v1 (.aW x y)->H2 b≠none->H3 b=H2 b:=fun b hb hn=>by
    cases ee:H2 b with
    |none=>exact(hn ee).elim
    |some o=>exact s3 b o (by rw [cu hb]; exact ee)
   have Wu:∀b,b∈a5 H2 v1 (.aW x y)->b∈os++B:=fun b hb=>si.2 b hb;have L3:cQ H3 (os++B):=fun b hb=>by
    by_cases hf:b∈a5 H2 v1 (.aW x y)
    ·refine b3.1.live (a:=b) ?_
     rw [vo (x':=x) (y':=y),f3];exact hf
    ·rw [k3 b hf (F1.bL.mono s2 b hb)]
     exact F1.bL.mono s2 b hb
   have rQ:ax (ak H2 (os++B)) (ak H3 (os++B)):=fun b o ee=>by
    obtain⟨e1,e2⟩:=d6 ee;rw [cu e1,k3 b (fun z=>e1 (Wu b z)) (by rw [e2]; simp)];exact e2
   have ho3:∀b∈os,H3 b=H2 b:=fun b hb=>k3 b (fun z=>by rw [e21] at z; exact(g3 b z).2 hb) (F1.bL.mono s2 b (ej _ hb));refine⟨os,os++B,ρ.set 0 .no,(F1.mono s2).afg h0 L3 rQ ho3 hb3,?_⟩
   cases he:e (ρ.set 0 .no) with
   |bad=>rw [he] at q3; exact(show False from q3).elim
   |ex c=>rw [he] at q3; exact(show False from q3).elim
   |ok d=>
    rw [he] at q3;intro v4 H4 s4 r4 z4;have sB:ax (ak H3 (os++B)) (ak H4 B):=fun b o ee=>HP b o (s4.ak _ b o ee);refine q3 v4 H4 (fun b o ee=>?_) ⟨b3.1.off (fun b hb=>lj s4 (b3.1.live hb)) sB,?_⟩ ?_ (r4.mono HP) z4
    ·obtain⟨e1,e2⟩:=d6 ee
     have iJ:=s2 b o (s1 b o e2);refine s4 b o ?_;rw [k3 b (by rw [Jp]; exact e1) (by rw [iJ]; simp)];exact iJ
    ·intro b cj
     have e4:a5 H4 v1 (.aW r.2.1 r.2.2)=a5 H v1 (.aW x y):=by rw [b3.fp s4,vo (x':=x) (y':=y),f3,Jp]
     rw [e4] at cj;exact hb.2 b cj
    ·show a5 H4 v1 (.aW x y)=_
     rw [vo (x':=r.2.1) (y':=r.2.2),b3.fp s4,vo (x':=x) (y':=y),f3,Jp]
end
def ML (K:ah):Sp:=fun vs H Q E=>∃a dx C,vs=[.ref a]/\gV K C/\H a=some (.ins C dx [])/\H dx=some (.own a)/\
 ∀l m H',H l=none->H m=none->l≠m->H' a=some (.ins C dx (kD l m))->H' l=some (.lst [])->H' m=some (.lst [])->(∀b,b≠a->b≠l->b≠m->H' b=H b)->Q .aK H'
def V4 (K:ah):TE:=fun σ H Q=>∀a dx l m C H',gV K C->(∀b∈[a,dx,l,m],H b=none)->[a,dx,l,m].Nodup->H' a=some (.ins C dx (kD l m))->H' dx=some (.own a)->H' l=some (.lst [])->H' m=some (.lst [])->(∀b,b∉[a,dx,l,m]->H' b=H b)->Q (.ref a) H'
def La (P:Program)(w:World)(K:ah)(mg:Str->Option Value)(base:Heap)(k:Nat):Prop:=
 ∃C f fd,gV K C/\mg "Board" = some (.ref C)/\Mk K C f/\cR P w K mg base (aE P w) k f fd ["self"] (ML K)/\Binds K fd ["self"] []
section
variable {P:Program}{w:World}{K:ah}{mg:Str->Option Value}{base:Heap}{cls:Nat->Addr}{x qual:Str}{st:Stmt}{f:Addr}{fd:FuncData}{k:Nat}
theorem acq (F:eP K x qual st f fd)(S:bC ["self"] ["self"] (ay st))(hB:C7 P w K mg base ["self"] qual st f k (V8 K)):cR P w K mg base (aE P w) (k+1) f fd ["self"] (ML K):=by
 refine F.mE S (fun vs H Q E h=>by obtain⟨a,_,_,rfl,_⟩:=h; rfl) (fun aw A outer s H vs Q E hr h R=>⟨_,hB aw A outer s H E hr,?_⟩) (fun z=>by injection z with z; exact absurd z (by decide +kernel));obtain⟨a,dx,C,rfl,hC,h1,h2,q⟩:=h;refine⟨gX _,fun l hl=>⟨_,rfl,a,C,dx,[],rfl,by rw [aF (cN h1 hl)]; exact h1,hC.2.1,hC.2.2.1,by decide,gX _,fun m hm=>⟨_,rfl,a,C,dx,[("done",.ref l)],rfl,?_,hC.2.1,hC.2.2.2,by show (1:Nat)<1000; decide,?_⟩⟩⟩
 ·have pM:a≠m:=fun z=>by rw [← z,aX] at hm; cases hm
  rw [aF pM,aX];rfl
 ·have pM:m≠a:=fun z=>by rw [z,aX] at hm; cases hm
  have Oq:l≠a:=(cN h1 hl).symm;rw [aF pM] at hm;have Gg:m≠l:=fun z=>by rw [z,aX] at hm; cases hm
  rw [aF Gg] at hm;refine q l m _ hl hm (cb Gg) ?_ ?_ ?_ fun b z1 z2 z3=>?_
  ·rw [aX]; rfl
  ·rw [aF Oq,aF (cb Gg),aF Oq,aX]
  ·rw [aF pM,aX]
  ·rw [aF z1,aF z3,aF z1,aF z2]
end
section
variable {K:ah}{Hin:Hp}{A₀ os O A:List Addr}{ρ:aa}{σ:St}{H H':Hp}{i:Nat}{a dx l m C:Addr}
theorem cF.aaQ (S:cF K Hin A₀ os ρ σ H)(s:ax H H')(hC:gV K C)(hn:∀b∈[a,dx,l,m],H b=none)(nd:[a,dx,l,m].Nodup)(h1:H' a=some (.ins C dx (kD l m)))(h2:H' dx=some (.own a))(h3:H' l=some (.lst []))(h4:H' m=some (.lst [])) :
  cF K Hin A₀ ([a,dx,l,m]++os) (ρ.set i (.aW [] [])) (σ.set i (some (.ref a))) H':=by
 obtain⟨s0,L0,fr,F⟩:=S;have Ot:∀{b},H b≠none->b∉[a,dx,l,m]:=fun {b} h z=>h (hn b z);have adn:ax (ak H (os++A₀)) (ak H' (([a,dx,l,m]++os)++A₀)):=fun b o e=>by
  obtain⟨e1,e2⟩:=d6 e;rw [nK,cu fun z=>(eD.mp z).elim (Ot (by rw [e2]; simp)) e1];exact s b o e2
 refine⟨s0.trans s,L0,fun b hb=>?_,F.set (fun b hb=>?_) (fun b hb=>ej _ hb) adn (fun b hb _=>⟨eE _ hb,lj s (F.bL b (ej _ hb))⟩) (fun b hb oq=>⟨?_,?_,lj s (F.bL b hb)⟩) (.inr ⟨?_,fun b hb=>?_⟩)⟩
 ·rcases eD.mp hb with z | z
  ·cases e:Hin b with
   |none=>rfl
   |some o=>have:=s0 b o e; rw [hn b z] at this; cases this
  ·exact fr b z
 ·rw [nK] at hb
  rcases eD.mp hb with z | z
  ·simp only [bf,fw,or_false] at z
   rcases z with rfl | rfl | rfl | rfl <;> simp [*]
  ·exact F.bL.mono s b z
 ·rw [nK]; exact eE _ hb
 ·intro z
  rcases eD.mp z with z | z
  ·exact Ot (F.bL b hb) z
  ·exact oq z
 ·refine⟨a,dx,l,m,C,[],[],rfl,hC,h1,h2,h3,h4,?_,⟨.nil,trivial,by simp⟩,.nil,trivial,by simp⟩
  intro z;simp [z] at nd
 ·rw [lQ h1] at hb
  exact⟨ej _ hb,.inl fun z=>F.bL b (ej _ z) (hn b hb)⟩
theorem bu.wide (F:bu K O A ρ σ H)(s:ax H H'){B:List Addr}(hB:∀b∈B,H b=none)(hB':∀b∈B,H' b≠none):bu K O (B++A) ρ σ H':=by
 have G:=F.mono s;have sH:ax (ak H A) (ak H' (B++A)):=fun b o e=>by
  obtain⟨e1,e2⟩:=d6 e;rw [cu fun z=>(eD.mp z).elim (fun y=>by rw [hB b y] at e2; cases e2) e1];exact s b o e2
 refine⟨G.len,fun b hb=>(eD.mp hb).elim (hB' b) (G.bL b),fun b hb=>eE _ (G.sub b hb),fun i d e=>?_,fun i b e o=>?_,G.apart,fun i p x y e=>?_⟩
 ·obtain⟨v,h1,h2,h3⟩:=F.val i d e
  exact⟨v,h1,h2.mono sH,h3⟩
 ·obtain⟨v,h1,h2,h3⟩:=F.ow i b e o
  obtain⟨v',g1,g2,g3⟩:=G.ow i b e o;rw [h1] at g1;cases g1;exact⟨v,h1,h2.off (fun a ha=>lj s (h2.live ha)) sH,g3⟩
 ·obtain⟨v,h1,hp,h2,h3⟩:=F.bo i p x y e
  obtain⟨v',g1,_,g2,g3⟩:=G.bo i p x y e;rw [h1] at g1;cases g1;exact⟨v,h1,hp,h2.off (fun a ha=>lj s (h2.live ha)) sH,fun a ha=>⟨eE _ (g3 a ha).1,(g3 a ha).2⟩⟩
end
section
variable {X:Cx}{cls:Nat->Addr}{E:XK}{a b c o e:Expr}{f g h:aa->M Dt}{pos apos k7:Pos}{i j k:Nat}{m:Str}{ps:List Str}{es:List Expr}{fs:aa->M (List Dt)}
theorem YY {p:Pos}(C:La X.prog X.w X.K X.mg X.base k)(hr:bF (k+1) X.A)(hx:Passes (aE X.prog X.w) X E)(hg:Gl X "Board"):PE X (.Call (.Name "Board" p) [] [] pos) (V4 X.K):=by
 obtain⟨C,f,fd,hC,hm,M,F,hb⟩:=C;refine(Y2 (E:=E) (dvs:=[]) (ds:=[]) M F hr hg hm hb .nil hx).imp fun σ H Q q=>?_;refine fun x dx pS hdx bS=>⟨x,dx,C,rfl,hC,aX,by rw [aF bS,aX],fun l m H' hl gq hlm h1 h3 h4 hk=>⟨rfl,?_⟩⟩
 have Om:l≠x:=fun z=>by rw [z,aX] at hl; cases hl
 have Oj:m≠x:=fun z=>by rw [z,aX] at gq; cases gq
 rw [aF Om] at hl;rw [aF Oj] at gq;have Gi:l≠dx:=fun z=>by rw [z,aX] at hl; cases hl
 have Gh:m≠dx:=fun z=>by rw [z,aX] at gq; cases gq
 rw [aF Gi] at hl;rw [aF Gh] at gq;refine q x dx l m C H' hC (fun b hb=>?_) (by simp [cb bS,cb Om,cb Oj,cb Gi,cb Gh,hlm]) h1 ?_ h3 h4 fun b hb=>?_
 ·simp only [bf,fw,or_false] at hb
  rcases hb with rfl | rfl | rfl | rfl <;> assumption
 ·rw [hk dx bS (cb Gi) (cb Gh),aF bS,aX]
 ·simp only [bf,fw,or_false,not_or] at hb
  rw [hk b hb.1 hb.2.2.1 hb.2.2.2,aF hb.1,aF hb.2.1]
theorem aaP {H H':Hp}{ls:List Addr}(hn:∀b∈ls,H b=none)(hk:∀b,b∉ls->H' b=H b):ax H H':=fun b o e=>by
 rw [hk b fun z=>by rw [hn b z] at e; cases e];exact e
end
section
variable {P:Program}{w:World}{K:ah}{mg:Str->Option Value}{base:Heap}{cls:Nat->Addr}
def nv (K:ah)(m qual:Str)(st:Stmt)(ps:List Str):Prop:=∃C f fd,gV K C/\Meth K C m f/\eP K m qual st f fd/\Binds K fd ps []
def TX (K:ah)(mg:Str->Option Value)(st:Stmt):Prop:=∃C f fd,gV K C/\mg "Board" = some (.ref C)/\Mk K C f/\eP K "__init__" "Board.__init__" st f fd/\Binds K fd ["self"] []
theorem EG {F:Nat->BM}{G:BM}(h:∀p x y ds,F p x y ds=G x y ds):∀vs H Q E,ek K cls (fun _=>G) vs H Q E->ek K cls F vs H Q E:=fun vs H Q E ⟨p,v,ws,A,x,y,ds,h1,h2,h3,h4,h5,h6,q⟩=>
 ⟨p,v,ws,A,x,y,ds,h1,h2,h3,h4,h5,h6,by rw [h p x y ds]; exact q⟩
def wu (K:ah):Prop:=∃C,gV K C
theorem wu.mk {C:Addr}(h1:nsIn K mainGlobals "Board" = some (some (.ref C)))(h2:plainGet K C Str.empty=true)(h3:hasDictIn K C=true)(h4:plainOver K C=true)(h5:findIn K (.ref C) "__setattr__" = some (some (.builtin "object.__setattr__")))
  (h6:findIn K (.ref C) "done" = some none) (h7:findIn K (.ref C) "undone" = some none):wu K:=⟨C,h1,⟨h2,h3,h4,h5⟩,h6,h7⟩
def dX (K:ah)(m qual:Str)(st:Stmt):Prop:=∃(C f:Addr) (oc:Value) (od an:Option Addr) (sl:Array (Option Value)) (kV dc pm cd ct:Value),nsIn K mainGlobals "Board" = some (some (.ref C))/\findIn K (.ref C) m=some (some (.ref f))/\isFn K (.ref f)=true/\keepIn K (.ref f)=true/\
 K.lookup f=some ⟨oc,od,.func (fnOf m qual (gr st) (dg st) (ay st) .none kV dc pm an cd ct),sl⟩/\codeIn K cd qual=true
theorem dX.mk {m qual:Str}{st:Stmt}{C f:Addr}{oc:Value}{od an:Option Addr}{sl:Array (Option Value)}{kV dc pm cd ct:Value}(h1:nsIn K mainGlobals "Board" = some (some (.ref C)))(h2:findIn K (.ref C) m=some (some (.ref f)))(h3:isFn K (.ref f)=true)(h4:keepIn K (.ref f)=true)
  (h5:K.lookup f=some ⟨oc,od,.func (fnOf m qual (gr st) (dg st) (ay st) .none kV dc pm an cd ct),sl⟩) (h6:codeIn K cd qual=true):dX K m qual st:=⟨C,f,oc,od,an,sl,kV,dc,pm,cd,ct,h1,h2,h3,h4,h5,h6⟩
theorem dX.fn {m qual:Str}{st:Stmt}{ps:List Str}(H:dX K m qual st)(B:wu K)(hb:∀(kV dc pm:Value) (an:Option Addr) (cd ct:Value) (us:List Value),us.length=ps.length->bindArgs (fnOf m qual (gr st) (dg st) (ay st) .none kV dc pm an cd ct) ⟨us,[]⟩=pure (ps.zip us)):nv K m qual st ps:=by
 obtain⟨C,f,oc,od,an,sl,kV,dc,pm,cd,ct,h1,h2,h3,h4,h5,h6⟩:=H;obtain⟨C',hC⟩:=B;have e:=h1.symm.trans hC.1;cases e;exact⟨C,f,_,hC,⟨h2,h3,h4⟩,m7 (st:=st) h5 h6 h4,.all fun us hl=>hb kV dc pm an cd ct us hl⟩
theorem dX.init {h:Heap}{mg:Str->Option Value}{st:Stmt}(H:dX K "__init__" "Board.__init__" st)(B:wu K)(X:K.In h)(G:h.Ns mainGlobals mg)(hmk:∃C,nsIn K mainGlobals "Board" = some (some (.ref C))/\makesIn K C=true/\keepIn K (.ref C)=true)
  (hb:∀(kV dc pm:Value) (an:Option Addr) (cd ct:Value) (us:List Value),us.length=1->bindArgs (fnOf "__init__" "Board.__init__" (gr st) (dg st) (ay st) .none kV dc pm an cd ct) ⟨us,[]⟩=pure ((["self"]:List Str).zip us)):TX K mg st:=by
 obtain⟨C,f,oc,od,an,sl,kV,dc,pm,cd,ct,h1,h2,h3,h4,h5,h6⟩:=H;obtain⟨C',hC⟩:=B;obtain⟨C2,g1,g2,g3⟩:=hmk;have e:=h1.symm.trans hC.1;cases e;have e:=h1.symm.trans g1;cases e;exact⟨C,f,_,hC,mg_of X G h1,⟨g2,h2,h3,g3⟩,m7 (st:=st) h5 h6 h4,.all fun us hl=>hb kV dc pm an cd ct us hl⟩
theorem aa5 {C:Addr}(h1:nsIn K mainGlobals "Board" = some (some (.ref C)))(h2:makesIn K C=true)(h3:keepIn K (.ref C)=true):∃C,nsIn K mainGlobals "Board" = some (some (.ref C))/\makesIn K C=true/\keepIn K (.ref C)=true:=⟨C,h1,h2,h3⟩
end
section
variable {M:Model}{A:Around}{E:Value->Shared->Prop}{s:Shared}{base:Heap}{l outer:List Env}{env RE:Env}{e L:Addr}{cls a0:Value}{h h':Heap}
def fK (base:Heap)(l:List Env)(e:Addr)(cls a0:Value)(h:Heap):Prop:=base.StaysIn h/\base.get? e=none/\h.FunFrames base l/\∃fl,h.TracedAtW base e cls a0 fl
theorem fK.of (x:qD base l e cls a0 h):fK base l e cls a0 h:=⟨x.1,x.2.1,x.2.2.1,.none,x.2.2.2⟩
theorem fK.held (x:Heap.HeldW base l e cls a0 L h):fK base l e cls a0 h:=⟨x.1,x.2.1,x.2.2.1,_,x.2.2.2⟩
theorem aaF (h:RE.frame=env.frame)(v:Value):noteFrame v RE=noteFrame v env:=by
 unfold noteFrame PySem.frameOf;rw [h]
theorem W2 {fr:Option Addr}{Q:Unit->Shared->Prop}(x:fK base l e cls a0 s.heap)
  (hQ:∀h',(fK base l e cls a0 h'/\h'.TracedAtW base e cls a0 (fr.elim .none fun f=>rawInt f))->s.heap.UpToSlots h'->Q () {s with heap:=h'}):wpAny M A (setFlight (.ref e) fr) Q E s:=by
 obtain⟨mQ,mV,hl,fl,oe,vs,T,oT,ts,he,mW,hd,h1,oo,oA,hT,i6,h3⟩:=x;have PY:3<ts.size:=(DG.mp h3).1;have other:∀b,b≠T->(s.heap.update T (Obj.mapFields (·.setIfInBounds 3 (fr.elim gW fun f=>rawInt f)))).get? b=s.heap.get? b:=
  fun b hb=>Dz _ _ (cb hb)
 have xF:∀b o,s.heap.get? b=some o->(∀vs,o.data≠.fields vs)->b≠T:=fun b o hb kl q=>by
  rw [q,hT] at hb; injection hb with hb; subst hb; exact kl ts i6
 have tr:(s.heap.update T (Obj.mapFields (·.setIfInBounds 3 (fr.elim gW fun f=>rawInt f)))).TracedAtW base e cls a0 (fr.elim .none fun f=>rawInt f):=
  ⟨oe,vs,T,_,_,(other e (cb oA)).trans he,mW,hd,h1,oo,oA,zV _ hT (Obj.isFreed_of_fields (zK i6 _)),zK i6 _,by simp [PY]⟩
 unfold setFlight;refine wpAny_bind (wpAny_field he hd h1 ?_);rw [if_pos (show (bO T != gW)=true from by simp)];refine wpAny_setField hT i6 PY (hQ _ ⟨⟨fun b o se=>(other b fun q=>by rw [q,oo] at se; cases se).trans (mQ b o se),mV,hl.of_keeps fun b o hb kl=>⟨o,(other b (xF b o hb kl)).trans hb,rfl⟩,_,tr⟩,tr⟩
  fun b o hb kl=>⟨o.slots,(other b (xF b o hb kl)).trans hb⟩)
theorem N9 {Q:Unit->Shared->Prop}(dq:A.frames=some (env::outer))(hf:env.frame=some L)(x:fK base (env::outer) e cls a0 s.heap)
  (hQ:∀h',Heap.HeldW base (env::outer) e cls a0 L h'->s.heap.UpToSlots h'->Q () {s with heap:=h'}):wpAny M A (noteFrame (.ref e) env) Q E s:=by
 obtain⟨mQ,mV,hl,fl,ht⟩:=x
 by_cases pY:(fl==rawInt L)=true
 ·have e1:fl=rawInt L:=by simpa using pY
  subst e1;exact wpAny_noteFrame_againW hf ht (hQ s.heap ⟨mQ,mV,hl,ht⟩ (.refl _))
 ·obtain⟨oe,vs,T,oT,ts,he,⟨mW,h0⟩,hd,h1,oo,oA,hT,i6,h3⟩:=ht
  subst mW;unfold noteFrame;simp only [hf];refine wpAny_bind (wpAny_field he hd h1 ?_);rw [if_pos (show (bO T != gW)=true from by simp)];refine wpAny_bind (wpAny_field hT i6 h3 ?_);rw [if_neg pY];refine wpAny_bind (wpAny_setField hT i6 (DG.mp h3).1 ?_);have other:∀b,b≠T->(s.heap.update T (Obj.mapFields (·.setIfInBounds 3 gW))).get? b=s.heap.get? b:=fun b hb=>Dz _ _ (cb hb);have xF:∀b o,s.heap.get? b=some o->(∀vs,o.data≠.fields vs)->b≠T:=fun b o hb kl q=>by
   rw [q,hT] at hb; injection hb with hb; subst hb; exact kl ts i6
  refine wpAny_entryW dq (hl.of_keeps fun b o hb kl=>⟨o,(other b (xF b o hb kl)).trans hb,rfl⟩) hf ((other e (cb oA)).trans he)
   (fun b o se=>(other b fun q=>by rw [q,oo] at se; cases se).trans (mQ b o se)) mV hd (DG.mp h1).1 h0
   fun h' ⟨x1,x2,x3,x4⟩=>hQ h' ⟨x1,mV,x2,x3⟩ fun b o hb kl=>x4 b o ((other b (xF b o hb kl)).trans hb) kl
theorem abG {Q:Unit->Shared->Prop}(dq:A.frames=some (env::outer))(hf:env.frame=some L)(x:fK base (env::outer) e cls a0 s.heap)
  (hQ:∀h',qD base outer e cls a0 h'->s.heap.UpToSlots h'->Q () {s with heap:=h'}):wpAny M A (leaving env (.ref e)) Q E s:=by
 unfold leaving;refine wpAny_bind (N9 dq hf x fun h' hh up=>?_);refine wpAny_landsW hh fun i7 pY Vh=>?_;obtain⟨k1,k2,⟨_,_,k3⟩,k4⟩:=pY;exact hQ i7 ⟨k1,k2,k3,k4⟩ (up.trans Vh)
theorem Za {α:Type}{U4:String}{Q:α->Shared->Prop}(x:fK base l e cls a0 s.heap)(hE:∀h',fK base l e cls a0 h'->s.heap.UpToSlots h'->E (.ref e) {s with heap:=h'}):wpAny M A (PySem.passOn U4 (.ref e) env:Sem α) Q E s:=by
 have x':=x;obtain⟨mQ,mV,hl,fl,oe,vs,T,oT,ts,he,mW,hd,h1,oo,oA,hT,i6,h3⟩:=x;unfold PySem.passOn;refine wpAny_bind (wpAny_field he hd h1 ?_);rw [if_neg (show ¬ (bO T==gW)=true from by simp)];refine wpAny_bind (W2 x' fun h' hh up=>?_);exact wpAny_throw (hE h' hh.1 up)
theorem fK.off {C:Addr}{oC:Obj}(x:fK base l e cls a0 h)(hC:base.get? C=none)(hl:C∉aH l)(ho:h.get? C=some oC)(hd:∀vs,oC.data≠.fields vs)(sb:kG C h h'):fK base l e cls a0 h':=by
 obtain⟨mQ,mV,pY,fl,oe,vs,T,oT,ts,he,mW,BK,h1,oo,oA,hT,i6,h3⟩:=x;have ne:e≠C:=fun z=>by rw [z,ho] at he; injection he with he; subst he; exact hd vs BK
 have nT:T≠C:=fun z=>by rw [z,ho] at hT; injection hT with hT; subst hT; exact hd ts i6
 refine⟨fun b o q=>(sb.2 b fun z=>by rw [z,hC] at q; cases q).trans (mQ b o q),mV,?_,fl,oe,vs,T,oT,ts,(sb.2 e ne).trans he,mW,BK,h1,oo,oA,(sb.2 T nT).trans hT,i6,h3⟩
 clear mQ he hT
 induction l with
 |nil=>trivial
 |cons v r ih=>
  obtain⟨k1,⟨L,o,k2,k3,k4,k5⟩,k6⟩:=pY;have hm:aH (v::r)=L::aH r:=by unfold aH; rw [gf,k2]
  rw [hm] at hl;exact⟨k1,⟨L,o,k2,k3,(sb.2 L fun z=>hl (z ▸ bN)).trans k4,k5⟩,ih (fun z=>hl (cG _ z)) k6⟩
end
inductive nk (X:Cx) (E:XK) (ea Cc:Addr) (H':Hp) (B:Heap) (s':Shared):Prop
 |mk (h1:s'.os=X.aJ.os) (h2:AllBare s'.gens) (h3:cB X.prog X.w H' B)
  (h4:∀b o,X.aJ.heap.get? b=some o->X.a8 b=none->b∉aH X.outer->B.get? b=some o) (h5:∀b o,X.aJ.heap.get? b=some o->b∉aH X.outer->∃o',B.get? b=some o')
  (h6:∀b o,X.aJ.heap.get? b=some o->X.a8 b=none->H' b=none) (h7:∀b xs,X.a8 b=some (.tup xs)->H' b=some (.tup xs)) (h8:∀b o u,X.a8 b=some (.bE o u)->H' b=some (.bE o u)) (h9:∀b q,X.a8 b=some (.dG q)->H' b=some (.dG q))
  (kq:H' ea=none) (lO:E (.ref Cc) none H')
  (oB:∀b o,X.aJ.heap.get? b=some o->X.a8 b=none->b∈aH X.outer->(∀vs,o.data≠.fields vs)/\∃sl,s'.heap.get? b=some {o with slots:=sl}):nk X E ea Cc H' B s'
inductive y4 (X:Cx) (E:XK) (C:Addr) (e:Value) (s':Shared):Prop
 |mk (ea Cc:Addr) (H':Hp) (B:Heap) (a0:Value) (e1:e=.ref ea) (f:fK B X.stack ea (.ref Cc) a0 s'.heap) (n:B.get? C=none) (r:nk X E ea Cc H' B s'):y4 X E C e s'
structure Plain (X:Cx) (E:XK):Prop where
 ex:X.ex=[]
 st:X.stack=X.env::X.outer
 fr:∃L,X.env.frame=some L
 held:∀C e s',y4 X E C e s'->X.xe e s'
section
variable {X:Cx}{E:XK}{pins:List (Addr×Obj)}{σ:St}{H:Hp}{s s':Shared}{C:Addr}{e:Value}
theorem less_none {B B':Heap}(k:∀b o,B'.get? b=some o->B.get? b=some o){b:Addr}(h:B.get? b=none):B'.get? b=none:=by
 cases q:B'.get? b with
 |none=>rfl
 |some o=>rw [k b o q] at h; cases h
theorem QS {B B' h:Heap}(k:∀b o,B'.get? b=some o->B.get? b=some o):∀{l:List Env},h.FunFrames B l->h.FunFrames B' l
 | [],_=>trivial
 |v::r,⟨k1,⟨L,o,k2,k3,k4,k5⟩,k6⟩=>⟨k1,⟨L,o,k2,less_none k k3,k4,k5⟩,QS k k6⟩
theorem fK.less {B B' h:Heap}{l:List Env}{e:Addr}{cls a0:Value}(x:fK B l e cls a0 h)(k:∀b o,B'.get? b=some o->B.get? b=some o):fK B' l e cls a0 h:=by
 obtain⟨mQ,mV,pY,fl,oe,vs,T,oT,ts,he,mW,BK,h1,oo,oA,hT,i6,h3⟩:=x;exact⟨fun b o q=>mQ b o (k b o q),less_none k mV,QS k pY,fl,oe,vs,T,oT,ts,he,mW,BK,h1,less_none k oo,oA,hT,i6,h3⟩
theorem adz (hX:Plain X E)(I:Inv X pins σ H s)(hc:aE X.prog X.w X.stack H s E e s'){oC:Obj}(hC:s.heap.get? C=some oC)(hn:H C=none)(mU:X.aJ.heap.objs.size<=C):y4 X E C e s':=by
 obtain⟨ea,Cc,H',B,a0,rfl,oj,hb,fl,au,un,lI,nS,gL,hE⟩:=hc;have bY:∀b:Addr,b∉X.ex:=fun b z=>by rw [hX.ex] at z; exact nomatch z
 have BV:H' C=none:=un.free C oC hC hn (by simp);have sub:∀b o,(hideAll B [C]).get? b=some o->B.get? b=some o:=fun b o q=>of_hideAll [C] q;have rn:∀{b o},X.aJ.heap.get? b=some o->b∉[C]:=fun {b o} q z=>by
  rw [jo] at z;rw [z] at q;exact absurd (a6 q) (nM.mpr mU)
 have old:∀b o,X.aJ.heap.get? b=some o->b∉aH X.outer->b∉aH X.stack:=fun b o q hb z=>by
  rcases bf.mp (I.j5 b z) with e | e
  ·exact absurd (a6 q) (by have:=I.ok.above; rw [e]; exact nM.mpr this)
  ·exact hb e
 have up:∀b,b∈aH X.outer->b∈aH X.stack:=fun b hb=>by
  rw [hX.st];unfold aH;rw [gf]
  split
  ·exact hb
  ·exact cG _ hb
 refine⟨ea,Cc,H',hideAll B [C],a0,rfl,(fK.of fl).less sub,hideAll_none [C] (jo.mpr rfl),oj.trans I.os,hb,fun a o q=>?_,fun b o q n hb=>?_,fun b o q hb=>?_,fun b o q n=>?_,fun b xs q=>un.eU b xs (I.base.eU b xs q),fun b o u q=>un.et b o u (I.base.et b o u q),fun b q z=>un.d8 b q (I.base.d8 b q z),gL,hE,fun b o q n hb=>?_⟩
 ·refine(au a o q).iU (fun b u hb r=>hideAll_get [C] r fun z=>?_) (fun _ z=>z) fun _ _ z=>z
  rw [jo] at z;subst z;rcases hb with hb | hb
  ·rw [hb,q] at BV; cases BV
  ·rw [hb] at BV; cases BV
 ·exact hideAll_get [C] (lI b o (I.base.keep b o q n hb (bY b)) (I.base.free b o q n (bY b)) (old b o q hb)) (rn q)
 ·obtain⟨o',q'⟩:=I.base.there b o q (bY b)
  obtain⟨o2,q2⟩:=nS b o' q' (old b o q hb);exact⟨o2,hideAll_get [C] q2 (rn q)⟩
 ·obtain⟨o',q'⟩:=I.base.there b o q (bY b)
  exact un.free b o' q' (I.base.free b o q n (bY b)) (by simp)
 ·obtain⟨sl,q'⟩:=I.base.slot b o q n hb (bY b)
  obtain⟨pe,ia⟩:=un.slot b _ q' (I.base.free b o q n (bY b)) (up b hb) (by simp);obtain⟨_,o2,q2,nf⟩:=I.ok.eL.mem hb;have pw:X.aJ.heap.get? b=some o2:=q2;rw [q] at pw;cases pw;exact⟨nf,pe,ia⟩
theorem nk.up {ea Cc:Addr}{H':Hp}{B h':Heap}(x:nk X E ea Cc H' B s')(hu:∀b o,X.aJ.heap.get? b=some o->(∀vs,o.data≠.fields vs)->∀sl,s'.heap.get? b=some {o with slots:=sl}->∃el,h'.get? b=some {o with slots:=el}):nk X E ea Cc H' B {s' with heap:=h'}:=by
 obtain⟨h1,h2,h3,h4,h5,h6,h7,h8,h9,kq,lO,oB⟩:=x;refine⟨h1,h2,h3,h4,h5,h6,h7,h8,h9,kq,lO,fun b o q n hb=>?_⟩;obtain⟨nf,sl,q2⟩:=oB b o q n hb;exact⟨nf,hu b o q nf sl q2⟩
theorem nk.slots {ea Cc:Addr}{H':Hp}{B h':Heap}(x:nk X E ea Cc H' B s')(up:s'.heap.UpToSlots h'):nk X E ea Cc H' B {s' with heap:=h'}:=x.up fun b o q nf sl q2=>by
 obtain⟨el,q3⟩:=up b _ q2 nf;exact⟨el,q3⟩
theorem ady {C:Addr}{m:Str->Option Value}(hX:Plain X E)(dq:X.A.frames=some X.stack)(x:y4 X E C e s')(mU:X.aJ.heap.objs.size<=C)(vi:C∉aH X.stack)(hm:s'.heap.Ns C m){ky:Env}(oy:ky.frame=X.env.frame){acc:Value}{use:Option (Value->Sem Unit)}{Q:Value->Shared->Prop} :
  notedBy (model X.prog X.w) X.A ky (fun e gD=>compPost (model X.prog X.w) X.A X.xe use Q acc C (.error e) gD) e s':=by
 obtain⟨L,hL⟩:=hX.fr;obtain⟨ea,Cc,H',B,a0,rfl,h3,h4,hr⟩:=x;unfold notedBy;rw [aaF oy];have QE:=h3;rw [hX.st] at dq QE;refine N9 dq hL QE fun h' hh up=>?_;have gq:=up.ns hm;refine⟨m,gq,fun h2 sb akK hl=>?_⟩;have f1:fK B X.stack ea (.ref Cc) a0 h':=by rw [hX.st]; exact fK.held hh
 obtain⟨oC,es,ep,BF,hdC,_⟩:=gq;have f2:=f1.off h4 vi BF (fun vs z=>by rw [hdC] at z; cases z) sb;have r1:nk X E ea Cc H' B {s' with heap:=h'}:=hr.slots up;have r2:nk X E ea Cc H' B {s' with heap:=h2}:=r1.up fun b o q nf sl q2=>⟨sl,(sb.2 b fun z=>by
  rw [z] at q;exact absurd (a6 q) (nM.mpr mU)).trans q2⟩
 refine Za f2 fun h5 f5 Ea=>hX.held C _ _ ⟨ea,Cc,H',B,a0,rfl,f5,h4,r2.slots Ea⟩
end
section
variable {P:Program}{w:World}{K:ah}{mg:Str->Option Value}{base:Heap}{N:List Str}{qual:Str}{scope:Scope}{f:Addr}{cd:Value}{A:Around}{outer:List Env}{aJ:Shared}{a8:Hp}{E:XK}
theorem jB (dq:(bW (aE P w) P w K mg base N qual scope f cd A outer aJ a8 E).A.frames=some (bW (aE P w) P w K mg base N qual scope f cd A outer aJ a8 E).stack)(adu:∀b∈aH outer,a8 b=none):Plain (bW (aE P w) P w K mg base N qual scope f cd A outer aJ a8 E) E where
 ex:=rfl
 st:=rfl
 fr:=⟨_,rfl⟩
 held:=by
  intro C e s' ⟨ea,Cc,H',B,a0,e1,fl,_,h1,h2,h3,h4,h5,h6,h7,h8,h9,kq,lO,oB⟩;subst e1;refine abG dq rfl fl fun i7 jI up=>?_;refine⟨ea,Cc,H',B,a0,rfl,h1,h2,jI,h3,⟨fun b o q n hb _=>jI.1 b o (h4 b o q n hb),fun b o q n hb _=>?_,fun b o q n _=>h6 b o q n,fun b o q _=>?_,h7,h8,h9⟩,h4,h5,kq,lO⟩
  ·obtain⟨nf,sl,q2⟩:=oB b o q n hb
   obtain⟨el,q3⟩:=up b _ q2 nf;exact⟨el,q3⟩
  ·by_cases hb:b∈aH outer
   ·obtain⟨nf,sl,q2⟩:=oB b o q (adu b hb) hb
    obtain⟨el,q3⟩:=up b _ q2 nf;exact⟨_,q3⟩
   ·obtain⟨o',q'⟩:=h5 b o q hb
    exact⟨o',jI.1 b o' q'⟩
end
theorem af2 {prog:Program}{w:World}{A:Around}{R:Result->Shared->Prop}{s:Shared}{elt target iter:Expr}{ifs:List Expr}{scope:Scope}{pos:Pos}{it acc:Value}{env:Env}(I:Nat->Shared->Prop)
  (turn:∀n s,I n s->wpAny (model prog w) A (pyNext it) (fun r aY=>match r with
   |none=>R (.ok .next) aY
   |some v=>wpAny (model prog w) A (letOwnedTupleGo target it v) (fun _ w9=>wpAny (model prog w) A (assign target env v) (fun _ g6=>
     wpAny (model prog w) A (forIn ifs true fun c r=>if r=true then do let ok ← isTrue c env (eval c env); pure (oW ok) else pure (oW r)) (fun ok gZ=>
      if ok=true then wpAny (model prog w) A (eval elt env) (fun x nU=>
       wpAny (model prog w) A (call (.builtin "list.append") [acc,x]) (fun _ w8=>∃m,m<n/\I m w8) (notedBy (model prog w) A env fun x s'=>R (.error x) s') nU) (notedBy (model prog w) A env fun x s'=>R (.error x) s') gZ
      else ∃m,m<n/\I m gZ) (notedBy (model prog w) A env fun x s'=>R (.error x) s') g6) (notedBy (model prog w) A env fun x s'=>R (.error x) s') w9) (notedBy (model prog w) A env fun x s'=>R (.error x) s') aY) (notedBy (model prog w) A env fun x s'=>R (.error x) s') s)
  (n:Nat) (h:I n s) :
  codeAny (model prog w) A (.compLoop (.ListComp elt [⟨target,iter,ifs,0⟩] scope pos) 0 it acc env) R s:=by
 refine codeAny_loop rfl I (fun n s hI=>?_) n h;show wpAny _ A ((compTurn (.ListComp elt [⟨target,iter,ifs,0⟩] scope pos) 0 it acc env).onRaise (fun x=>do noteFrame x env; theTreesLotGoes x)) _ _ s;refine wpAny_noted ?_;rw [compTurn_list];refine wpAny_bind (wpAny_standAt (wpAny_bind (wpAny_mono (turn n s hI) (fun r aY eJ=>?_) fun _ _ h'=>h')))
 cases r with
 |none=>exact wpAny_pure eJ
 |some v=>
  refine wpAny_bind (wpAny_mono eJ (fun _ w9 Hi=>?_) fun _ _ h'=>h');refine wpAny_bind (wpAny_mono Hi (fun _ g6 rL=>wpAny_bind (wpAny_mono rL (fun ok gZ lL=>?_) fun _ _ h'=>h')) fun _ _ h'=>h')
  cases ok with
  |false=>
   simp only [du,if_false] at lL ⊢;exact wpAny_bind (wpAny_pure (wpAny_pure ⟨rfl,lL⟩))
  |true=>
   simp only [if_true] at lL ⊢;refine wpAny_bind (wpAny_bind (wpAny_mono lL (fun x nU Hh=>wpAny_bind (wpAny_mono Hh (fun _ w8 Hg=>wpAny_pure (wpAny_pure ⟨rfl,Hg⟩)) fun _ _ h'=>h')) fun _ _ h'=>h'))
def ja (X:Cx)(E:XK)(scope:Scope)(N:List Str)(pins:List (Addr×Obj))(fp:List Addr)(s:Shared)(H:Hp):Cx:=
 (cw X scope N pins fp s H).jX fun e s'=>∃gF aL H' s1,Inv (cw X scope N pins fp s H) gF aL H' s1/\aE X.prog X.w X.stack H' s1 E e s'
theorem AR {X:Cx}{E:XK}{scope:Scope}{N:List Str}{pins:List (Addr×Obj)}{fp:List Addr}{s:Shared}{H:Hp}:Passes (aE X.prog X.w) (ja X E scope N pins fp s H) E:=fun gF aL H' s1 e s' I hc=>⟨gF,aL,H',s1,I.kQ,hc⟩
section
variable {X:Cx}{scope:Scope}{N:List Str}{k:Nat}{fr:List Nat}{tg iter elt:Expr}{ifs:List Expr}{wi:TI}{g:TG}{tc:TT}{te:TE}{pos:Pos}
theorem agF {EX:XK}{pins:List (Addr×Obj)}{σ:St}{H:Hp}{s:Shared}{it:Addr}{fp:List Addr}{tn:Nat->Heap->Prop}{J:It}{Q:VK}{RR:Value->Addr->Result->Shared->Prop}{E:Value->Shared->Prop}
  (hc:X.calm=true) (S:eQ X scope N k fr) (hg:∀pins fp s H,PG (ja X EX scope N pins fp s H) tg g) (ht:∀pins fp s H,jO (ja X EX scope N pins fp s H) ifs tc) (he:∀pins fp s H,PE (ja X EX scope N pins fp s H) elt te) (hX:Plain X EX)
  (hRE:∀acc C e s' m,y4 X EX C e s'->X.aJ.heap.objs.size<=C->C∉aH X.stack->s'.heap.Ns C m->∀ky:Env,ky.frame=X.env.frame->notedBy (model X.prog X.w) X.A ky (fun x gD=>RR acc C (.error x) gD) e s')
  (I:Inv X pins σ H s) (T:Turn X.prog X.w X.K tg J fp it tn) (st:tn 0 s.heap) (hf:∀b∈fp,f9 X pins H b) (h:pq k fr g tc te σ J H Q)
  (hR:∀D C s' (H':Hp),Q (.ref D) H'->f9 X pins H' C->(∃m,s'.heap.Ns C m)->(∀h',kG C s'.heap h'->Inv X pins σ H' {s' with heap:=h'})->RR (.ref D) C (.ok .next) s') :
  wpAny (model X.prog X.w) X.A (newList []) (fun acc gZ=>wpAny (model X.prog X.w) X.A (newFunctionEnv scope X.env.globals (eu scope.names X.env.cells) [] X.env.qual none .none (some X.env)) (fun ky nU=>
   codeAny (model X.prog X.w) X.A (.compStart (.ListComp elt [⟨tg,iter,ifs,0⟩] scope pos) 0 (.ref it) acc {ky with scope:=relabel scope X.env}) (RR acc ky.locals) nU) E gZ) E s:=by
 refine wpAny_newObj_type (Ou ?_)
 dsimp only
 have I3:Inv X pins σ (upd H s.heap.objs.size (.lst [])) {s with heap:=s.heap.push {cls:=.type "list",dict:=none,data:=.seq ([]:List Value).toArray}}:=
  I.laid (t':=s.toks) (fun b u e=>aZ _ e) (bb _) ⟨by simp,[],_,.nil,cS _ rfl⟩
 generalize sj:({s with heap:=s.heap.push {cls:=.type "list",dict:=none,data:=.seq ([]:List Value).toArray}}:Shared)=s3 at I3
 have e3:s.heap.push {cls:=.type "list",dict:=none,data:=.seq ([]:List Value).toArray}=s3.heap:=by rw [← sj]
 rw [e3];generalize hD:s.heap.objs.size=D at I3 ⊢;have Ig:H D=none:=I.au.fresh (by omega);obtain⟨W,⟨m0,w0⟩,turn⟩:=h D Ig;have HS:∀b∈fp,b≠D:=fun b hb z=>by
  obtain⟨o,e,_⟩:=T.obj 0 _ st b hb;exact absurd (a6 e) (by rw [z,← hD]; exact fM _)
 have pZ:∀b∈fp,f9 X pins (upd H D (.lst [])) b:=fun b hb=>⟨by rw [aF (HS b hb)]; exact(hf b hb).1,(hf b hb).2⟩
 have wU:∀b o,s.heap.get? b=some o->s3.heap.get? b=some o:=fun b o e=>by rw [← e3]; exact aZ _ e
 have aT:∀b∈fp,b<s3.heap.objs.size:=fun b hb=>by
  obtain⟨o,e,_⟩:=T.obj 0 _ st b hb;exact a6 (wU b o e)
 have xR:∀b o,s3.heap.get? b=some o->(pushCells (s3.heap.push {cls:=.type "dict",data:=.dict #[]}) scope.names).get? b=some o:=fun b o e=>pushCells_keeps _ _ b o (aZ _ e)
 have xE:=(Heap.Ns.new s3.heap (.type "dict")).keeps (pushCells_keeps scope.names _)
 have yF:∀x c,(cellsFrom (s3.heap.objs.size+1) scope.names (eu scope.names X.env.cells)).lookup x=some c->∃v,(pushCells (s3.heap.push {cls:=.type "dict",data:=.dict #[]}) scope.names).IsCell c v:=by
  have q:=Cn scope.names (s3.heap.push {cls:=.type "dict",data:=.dict #[]}) (eu scope.names X.env.cells) fun z d e=>by
   obtain⟨v,q⟩:=I3.cell z d (sO (S.cells I.ok) e);exact⟨v,q.keeps fun b o e=>aZ _ e⟩
  rwa [kH] at q
 generalize ado:pushCells (s3.heap.push {cls:=.type "dict",data:=.dict #[]}) scope.names=eJ at xR xE yF ⊢
 have keep:∀b o,s3.heap.get? b=some o->eJ.get? b=some o:=xR;have HB:=xE;have iV:tn 0 eJ:=T.keep 0 _ _ st fun b hb o e=>keep b o (wU b o e);have Jm:({s with heap:=eJ,toks:=s.toks}:Shared)={s3 with heap:=eJ,toks:=s.toks}:=by rw [← sj]
 have IC:Inv (cw X scope N pins fp s3 (upd H D (.lst []))) [] (di k fr σ) (upd H D (.lst [])) {s3 with heap:=eJ,toks:=s.toks}:=PK S I3 pZ aT HB keep yF;rw [← Jm] at IC;have qR:∀{H':Hp},(∀b∈fp,H' b=none)->∀b∈fp,f9 (cw X scope N pins fp s3 (upd H D (.lst []))) [] H' b:=fun hn b hb=>
  ⟨hn b hb,bQ (aT b hb),fun z=>by
   rcases bf.mp (I3.j5 b z) with q | q
   ·exact(hf b hb).2.1 q
   ·exact(hf b hb).2.2.1 q,.inl hb,fun x c rY=>by
   rcases S.look I.ok rY with ⟨a,_⟩ | ⟨a,_⟩
   ·intro z
    exact fM _ (cH (aT b hb) (z ▸ cK (ti _) a))
   ·exact(hf b hb).2.2.2.2.1 x c a,fun p hp=>by
   have fE:p∈X.pn++pins:=by
    have iE:p∈(X.pn++pins)++[]:=hp;simpa using iE
   exact(hf b hb).2.2.2.2.2 p fE⟩
 have vi:s3.heap.objs.size∉aH X.stack:=fun z=>by
  rcases bf.mp (I3.j5 _ z) with e | e
  ·exact absurd I3.lt (by rw [← e]; exact fM _)
  ·exact I3.Ob (bb _) e
 have Ib:∀e s',(ja X EX scope N pins fp s3 (upd H D (.lst []))).xe e s'->notedBy (model X.prog X.w) X.A (cw X scope N pins fp s3 (upd H D (.lst []))).env (fun x gD=>RR (.ref D) s3.heap.objs.size (.error x) gD) e s':=by
  rintro e s' ⟨gF,aL,H',s1,I',fT⟩;have IX:=FZ I3 pZ I' (.refl ..);obtain⟨m,⟨oC,es,ep,BF,rC⟩,_⟩:=I'.loc;have hu:=fT;obtain⟨_,_,_,_,_,_,_,_,_,_,un,_⟩:=hu;have hk:=un.keep _ oC BF I'.free vi (by simp);exact hRE (.ref D) _ e s' m (adz hX IX fT BF I'.free I3.sz) I3.sz vi ⟨oC,es,ep,hk,rC⟩ _ rfl
 have loop:∀s4:Shared,Inv (cw X scope N pins fp s3 (upd H D (.lst []))) [] (di k fr σ) (upd H D (.lst [])) s4->tn 0 s4.heap->
   codeAny (model X.prog X.w) X.A (.compLoop (.ListComp elt [⟨tg,iter,ifs,0⟩] scope pos) 0 (.ref it) (.ref D) (cw X scope N pins fp s3 (upd H D (.lst []))).env) (RR (.ref D) s3.heap.objs.size) s4:=by
  intro s4 I4 EF;refine af2 (fun n s'=>∃i ys aL H',Inv (cw X scope N pins fp s3 (upd H D (.lst []))) [] aL H' s'/\tn i s'.heap/\(∀b∈fp,H' b=none)/\W i n ys aL H') ?_ m0 ⟨0,[],_,_,I4,EF,fun b hb=>(pZ b hb).1,w0⟩;rintro n s5 ⟨i,ys,nC,H5,I5,nV,su,w5⟩;obtain⟨hD5,r9⟩:=turn i n ys nC H5 w5;rcases r9 with ⟨stop,q⟩ | ⟨go,m',hm,step⟩
  ·refine aG (T.done (cw X scope N pins fp s3 (upd H D (.lst []))) rfl rfl rfl hc i [] s5 nC H5 _ I5 (qR su) nV stop) fun r s6 ⟨hr,I6⟩=>?_
   subst hr;obtain⟨m6,HF,_⟩:=I6.loc;exact hR D _ s6 H5 q (I3.qd (bb _) I6.free) ⟨m6,HF⟩ fun h' sb=>FZ I3 pZ I6 sb
  ·refine qM (T.item (cw X scope N pins fp s3 (upd H D (.lst []))) rfl rfl rfl hc i [] s5 nC H5 _ I5 (qR su) nV go) fun r s6 acI ⟨u,hr,h6⟩=>?_
   subst hr;refine aG h6 fun _ s7 h_=>?_;obtain⟨x,H7,I7,r7,y7,qS,IS⟩:=h_;have K4:=I7.pinned (qR IS) (T.obj _ _ qS);refine aG (wpAny_mono (hg pins fp s3 _ _ s7 nC H7 x u _ (K4.jX _) r7 (step x H7 y7)) (fun _ _ z=>z) Ib) fun _ s8 h_=>?_;obtain⟨eB,H8,I8,q8⟩:=h_;refine aG (wpAny_mono (ht pins fp s3 _ _ s8 eB H8 _ I8 q8) (fun _ _ z=>z) Ib) fun b s9 h_=>?_;obtain⟨H9,TN,q9⟩:=h_;have I9:=TN.kQ;have again:∀{H':Hp} {s':Shared},Inv (cw X scope N pins fp s3 (upd H D (.lst []))) ([]++uG fp s7.heap) eB H' s'->tn (i+1) s'.heap/\(∀b∈fp,H' b=none):=fun {H' s'} I'=>by
    refine⟨T.keep _ _ _ qS fun b hb o e=>(I'.pin (b,o) (eE _ (eE _ (uL hb e)))).1,fun b hb=>?_⟩;obtain⟨o,e,d⟩:=T.obj _ _ qS b hb;exact(I'.pin (b,o) (eE _ (eE _ (uL hb e)))).2.1
   cases b with
   |false=>
    simp only [du,if_false] at q9 ⊢;obtain⟨a1,a2⟩:=again I9;exact⟨m',hm,i+1,ys,eB,H9,I9.qJ,a1,a2,q9⟩
   |true=>
    simp only [if_true] at q9 ⊢;refine aG (wpAny_mono (he pins fp s3 _ _ s9 eB H9 _ TN q9) (fun _ _ z=>z) Ib) fun y Fi h_=>?_;obtain⟨v,zf,akc,FG,Ik,HI,FJ⟩:=h_;have K6:=akc.kQ;refine aG (wpAny_mono (xJ (X:=cw X scope N pins fp s3 (upd H D (.lst []))) _ Fi eB zf (.ref D) [v] (.ref D) [y] (fun z H'=>z=.aK/\H'=upd zf D (.lst (ys++[v]))) K6 rfl (.cons FG .nil) ⟨D,ys,v,rfl,rfl,Ik,HI,rfl,rfl⟩) (fun _ _ z=>z) fun _ _ z=>z.elim) fun z XY h_=>?_;obtain⟨v11,H11,ze,_,_,Jr⟩:=h_;subst Jr;obtain⟨a1,a2⟩:=again ze;exact⟨m',hm,i+1,ys++[v],eB,_,ze.qJ,a1,a2,FJ⟩
 exact codeAny_compStart_list (loop _ IC iV) (T.self X.A 0 _ _ _ iV (loop _ IC iV))
theorem NF {EX:XK}(hX:X.A.frames=some X.stack->(∀b∈aH X.outer,X.a8 b=none)->Plain X EX)(hc:X.calm=true)(S:eQ X scope N k fr)(hi:PI X tg iter wi)(hg:∀pins fp s H,PG (ja X EX scope N pins fp s H) tg g)(ht:∀pins fp s H,jO (ja X EX scope N pins fp s H) ifs tc)
  (he:∀pins fp s H,PE (ja X EX scope N pins fp s H) elt te) (hs:∀x,foldedSetIterable iter X.env x=pure x:=by intro _; rfl):PE X (.ListComp elt [⟨tg,iter,ifs,0⟩] scope pos) (uv k fr wi g tc te):=by
 intro pins s σ H Q I h;have hP:=hX I.ok.frames I.ok.gQ;rw [eval_ListComp];refine wpAny_comprehension_free (use:=none) rfl hs (Cm (S.cells I.ok)) S.kind S.locals (qM (hi pins s σ H _ I h) fun v s1 t1 h1=>aG h1 fun xU s2 h2=>?_);obtain⟨it,fp,tn,J,H2,e,I2,T,g9,f2,q⟩:=h2;subst e;refine agF (RR:=fun acc C=>compPost (model X.prog X.w) X.A X.xe none (EP X pins σ Q) acc C) hc S hg ht he hP (fun acc C e s' m x mU vi hm ky oy=>ady hP I.ok.frames x mU vi hm oy) I2 T g9 f2 q ?_;intro D C s' H' q' _ hn inv;obtain⟨m,hn⟩:=hn;exact⟨m,hn,fun h' sb=>(fun ht=>⟨.ref D,H',inv h' sb,rfl,q'⟩)⟩
end
def y8 (K:ah)(cls:Nat->Addr)(A:List Addr)(E:XK)(H1:Hp)(Q:VK)(us:List Dt):M (List Dt)->Prop
 |.ok ws=>∀v H',ax H1 H'->Rep K (ak H' A) (.lst (us++ws)) v->bw (us++ws)->(us++ws).length<=10000->Q v H'
 |.ex c=>∀H',ax H1 H'->E (.ref (cls c)) none H'
 |.bad=>False
theorem y8.cons {K:ah}{cls:Nat->Addr}{A:List Addr}{E:XK}{H1:Hp}{Q:VK}{us:List Dt}{x:Dt}{m:M (List Dt)}(h:y8 K cls A E H1 Q us (m.bd fun xs=>.ok (x::xs))):y8 K cls A E H1 Q (us++[x]) m:=by
 cases m with
 |ok ws=>
  have h:∀v H',ax H1 H'->Rep K (ak H' A) (.lst (us++(x::ws))) v->bw (us++(x::ws))->(us++(x::ws)).length<=10000->Q v H':=h;show ∀v H',ax H1 H'->Rep K (ak H' A) (.lst ((us++[x])++ws)) v->bw ((us++[x])++ws)->((us++[x])++ws).length<=10000->Q v H';rw [nK];exact h
 |ex c=>exact h
 |bad=>exact h
theorem M8 {K:ah}{cls:Nat->Addr}{E:XK}{k:Nat}{fr:List Nat}{g:GM}{tc:aa->M Bool}{te:aa->M Dt}{O A:List Addr}{ρ:aa}{σ:St}{J:It}{H1:Hp}{Q:VK}{ds:List Dt}(F:bu K O A ρ σ H1)(hk:GK k g)(hJ:nu K A J ds H1)
  (hx:y8 K cls A E H1 Q [] (il g tc te (cf k fr ρ) ds)):pq k fr (gM K g) (fz K cls E tc) (tM K cls E te) σ J H1 Q:=by
 intro D hD;have Ii:D∉A:=F.bL.fresh hD;have ho:∀(i:Nat) b,(cf k fr ρ)[i]?=some b->gJ b=true∨(∃p x y,b=.bor p x y)->False:=fun i b h o=>by
  rcases xh h with z | ⟨j,m,d',_,_,_,z⟩ <;> rw [z] at o <;> rcases o with o | ⟨p,x,y,o⟩ <;> cases o
 have s0:ax H1 (upd H1 D (.lst [])):=.upd hD;have sD:∀{H'},ax H1 H'->ax (ak H1 A) (ak H' (D::A)):=fun {H'} s b o e=>by
  obtain⟨h1,h2⟩:=d6 e;have hb:b∉D::A:=fun z=>by
   rcases bf.mp z with z | z
   ·subst z; rw [hD] at h2; cases h2
   ·exact h1 z
  rw [cu hb];exact s b o h2
 have FD:bu K [] (D::A) (cf k fr ρ) (di k fr σ) (upd H1 D (.lst [])):=by
  have F1:=F.di k fr;refine⟨F1.len,(F.bL.mono s0).cons aX,(fun a z=>nomatch z),fun i d h=>?_,fun i b h o=>(ho i b h (.inl o)).elim,fun i _ b _ _ _ _ h _ o=>(ho i b h (.inl o)).elim,fun i p x y h=>(ho i _ h (.inr ⟨p,x,y,rfl⟩)).elim⟩;obtain⟨v,h1,h2,h3⟩:=F1.val i d h;exact⟨v,h1,h2.mono (sD s0),h3⟩
 refine⟨fun i m ys aL H'=>i<=ds.length/\m=ds.length - i/\H' D=some (.lst ys)/\ax H1 H'/\bu K [] (D::A) (cf k fr ρ) aL H'/\∃us,y8 K cls A E H1 Q us (il g tc te (cf k fr ρ) (ds.drop i))/\ar K (ak H' (D::A)) us ys/\bw us/\us.length<=i,
  ⟨ds.length,gX _,rfl,aX,s0,FD,[],hx,.nil,trivial,gX _⟩,?_⟩
 rintro i m ys aL H' ⟨hi,rfl,mZ,iy,F',us,hw,ru,zu,lu⟩;refine⟨mZ,?_⟩;have qf:=hJ.qf
 by_cases aT:i<ds.length
 ·refine .inr ⟨hJ.go i H' aT (bP.trans iy),ds.length - (i+1),by omega,fun x H2 y=>?_⟩
  obtain⟨sy,d,hd,rd⟩:=hJ.yl i H' x H2 (D::A) aT F'.bL (sD iy) y;have ym:ds.drop i=d::ds.drop (i+1):=by
   rw [wB aT]
   congr 1
   have:=kN aT;rw [hd] at this;exact(iu this).symm
  rw [ym] at hw;unfold il at hw
  cases hg:g d (cf k fr ρ) with
  |ex c=>rw [hg] at hw; exact(show False from hw).elim
  |bad=>rw [hg] at hw; exact(show False from hw).elim
  |ok a7=>
   rw [hg] at hw;simp only [jc,bG] at hw;refine⟨[],D::A,_,d,F'.mono sy,rd,hV hJ.small (jV hd),a7,hg,fun eC F2=>?_⟩;obtain⟨k1,k2⟩:=hk d _ _ hg;have bk:∀{ir H3},bu K [] (D::A) a7 ir H3->bu K [] (D::A) (cf k fr ρ) ir H3:=fun F3=>F3.back k1 (fun j e hj=>by
    have HK:k<=j:=by
     by_cases z:j<k
     ·rw [EE z] at hj; cases hj
     ·omega
    rw [k2 j HK];exact hj) ho
   refine⟨[],D::A,a7,F2,?_⟩
   cases ht:tc a7 with
   |ex c=>rw [ht] at hw; exact fun H4 s4=>hw H4 ((iy.trans sy).trans s4)
   |bad=>rw [ht] at hw; exact(show False from hw).elim
   |ok b=>
    rw [ht] at hw;simp only [bG] at hw;intro H4 s4
    cases b with
    |false=>
     simp only [du,if_false] at hw ⊢;have qY:=sy.trans s4;exact⟨aT,trivial,qY _ _ mZ,iy.trans qY,bk (F2.mono s4),us,hw,ru.mono (qY.ak _),zu,by omega⟩
    |true=>
     simp only [if_true] at hw ⊢;refine⟨[],D::A,a7,F2.mono s4,?_⟩
     cases rO:te a7 with
     |ex c=>rw [rO] at hw; exact fun H5 s5=>hw H5 (((iy.trans sy).trans s4).trans s5)
     |bad=>rw [rO] at hw; exact(show False from hw).elim
     |ok x'=>
      rw [rO] at hw;simp only [bG] at hw;intro v H5 s5 r5 z5;have qX:=(sy.trans s4).trans s5;have hl:=ru.length;refine⟨qX _ _ mZ,zL (by omega:ys.length<=10000) (by decide),aT,trivial,aX,fun b o e=>?_,?_,us++[x'],hw.cons,?_,qU zu ⟨z5,trivial⟩,by simp; omega⟩
      ·rw [aF (cN e hD)]
       exact qX b o (iy b o e)
      ·have F5:=bk ((F2.mono s4).mono s5)
       refine⟨F5.len,fun a' ha=>?_,(fun a z=>nomatch z),fun j e h=>?_,fun j b h o=>(ho j b h (.inl o)).elim,fun j _ b _ _ _ _ h _ o=>(ho j b h (.inl o)).elim,fun j p x y h=>(ho j _ h (.inr ⟨p,x,y,rfl⟩)).elim⟩
       ·by_cases hz:a'=D
        ·rw [hz,aX]; simp
        ·rw [aF hz]; exact F5.bL a' ha
       ·rw [yh bN]
        exact F5.val j e h
      ·rw [yh bN]
       exact(ru.mono (qX.ak _)).append (.cons r5 .nil)
 ·have e:i=ds.length:=by omega
  subst e;rw [wG] at hw;have hw:∀v H',ax H1 H'->Rep K (ak H' A) (.lst (us++[])) v->bw (us++[])->(us++[]).length<=10000->Q v H':=hw;rw [kJ] at hw;have hl:=ru.length;refine .inl ⟨hJ.stop H' (bP.trans iy),hw (.ref D) H' iy (xo (by rw [cu Ii]; exact mZ) (ru.mono fun b o e=>?_)) zu (by omega)⟩;obtain⟨h1,h2⟩:=d6 e;rw [cu fun z=>h1 (cG _ z)];exact h2
section
variable {X:Cx}{cls:Nat->Addr}{E:XK}{a b c:Expr}{f:aa->M Dt}{pos:Pos}{scope:Scope}{N:List Str}{k:Nat}{fr:List Nat}{tg iter elt:Expr}{ifs:List Expr}{ι:IM}{g:GM}{tc:aa->M Bool}{te:aa->M Dt}
theorem VO (hk:GK k g)(σ:St)(H:Hp)(Q:VK)(q:tM X.K cls E (xw k fr ι g tc te) σ H Q):uv k fr (iM X.K cls E ι) (gM X.K g) (fz X.K cls E tc) (tM X.K cls E te) σ H Q:=by
 obtain⟨O,A,ρ,F,q⟩:=q;refine⟨O,A,ρ,F,Rg.bind q fun ds _ q1=>?_⟩;intro J H1 s1 hJ;refine M8 (F.mono s1) hk hJ ?_
 cases hm:il g tc te (cf k fr ρ) ds with
 |ok xs=>
  have q2:Res X.K cls A E (g7 xs) H Q:=by rw [hm] at q1; exact q1
  intro v H' s' r z zl;rw [nH] at r z zl;unfold g7 at q2;rw [if_pos zl] at q2;exact q2 v H' (s1.trans s') r ⟨zl,z⟩
 |ex c=>rw [hm] at q1; exact fun H' s'=>q1 H' (s1.trans s')
 |bad=>rw [hm] at q1; exact(show False from q1).elim
theorem Rv (hX:X.A.frames=some X.stack->(∀b∈aH X.outer,X.a8 b=none)->Plain X E)(hk:GK k g)(hc:X.calm=true)(S:eQ X scope N k fr)(hi:Iv X cls E tg iter ι)(hg:∀pins fp s H,PG (ja X E scope N pins fp s H) tg (gM X.K g))(ht:∀pins fp s H,jO (ja X E scope N pins fp s H) ifs (fz X.K cls E tc))
  (he:∀pins fp s H,PE (ja X E scope N pins fp s H) elt (tM X.K cls E te)) (hs:∀x,foldedSetIterable iter X.env x=pure x:=by intro _; rfl):Ev X cls E (.ListComp elt [⟨tg,iter,ifs,0⟩] scope pos) (xw k fr ι g tc te):=
 (NF hX hc S hi hg ht he hs).imp (VO hk)
end
section
variable {X:Cx}{cls:Nat->Addr}{E:XK}{a b c o e:Expr}{f g h:aa->M Dt}{pos apos k7:Pos}{i j k:Nat}{m:Str}{ps:List Str}{es:List Expr}{fs:aa->M (List Dt)}
theorem aeN {pl:Sem Bool}{F:List Dt->List Dt->M Dt}(C:gU X.prog X.w X.K X.mg X.base k m ps (k8 X.K cls (D5 X.K) F))(hr:bF k X.A)(hx:Passes (aE X.prog X.w) X E)(ho:PE X o (dh i))(gK:(m==("done" : Str))=false:=by decide +kernel)(gn:(m==("undone" : Str))=false:=by decide +kernel)
  (ht:eval (.Call (.Attribute o m apos) [] [] pos) X.env=(do
   let ov ← eval o X.env
   standAt apos.atName
   let (f,first) ← holding [ov] (getMethod ov m pl)
   callWith pos f first (backTo pos (starEach [] X.env)) (backToKw pos (keywordEach [] X.env))):=by rfl):Ev X cls E (.Call (.Attribute o m apos) [] [] pos) (fR i F):=
 (AM C hr hx ho ht).imp fun σ H Q ⟨O,A,ρ,Ft,q⟩=>Ek gK gn Ft (Rg.ok q fun d _ p v H' s w z=>p v H' s w.1 z)
theorem YZ {pl:Sem Bool}{sp:Sp}(C:gU X.prog X.w X.K X.mg X.base k m ps sp)(hr:bF k X.A)(hx:Passes (aE X.prog X.w) X E)(ho:PE X o (dh i))
  (ht:eval (.Call (.Attribute o m apos) [] [] pos) X.env=(do
   let ov ← eval o X.env
   standAt apos.atName
   let (f,first) ← holding [ov] (getMethod ov m pl)
   callWith pos f first (backTo pos (starEach [] X.env)) (backToKw pos (keywordEach [] X.env))):=by rfl):PE X (.Call (.Attribute o m apos) [] [] pos) (qN X.K m sp E i (mm X.K cls E aq)):=
 (AM C hr hx ho ht).imp fun σ H Q ⟨v,a,C',dx,oE,g1,z1,z2,z3,z4,O,A,ρ,F,q⟩=>⟨v,a,C',dx,oE,g1,z1,z2,z3,z4,q [] H (.refl _) .nil trivial⟩
theorem cF.mt {K:ah}{Hin:Hp}{A₀ os:List Addr}{ρ:aa}{σ:St}{H H1 H2:Hp}{v:V}{x y x' y':List Dt}(S:cF K Hin A₀ os ρ σ H)(fB:ρ[i]?=some (.aW x y))(g1:σ[i]?=some (some v))(hb:eR K (os++A₀) H v x y)(g3:∀a∈a5 H v (.aW x y),a∈os)(s1:ax H H1)
  (s2:ax (ak H1 (a5 H1 v (.aW x y))) H2) (b2:eR K (os++A₀) H2 v x' y') (f2:a5 H2 v (.aW x y)=a5 H1 v (.aW x y)):cF K Hin A₀ os (ρ.set i (.aW x' y')) σ H2:=by
 have Ft:=S.2.2.2;have F1:=Ft.mono s1;have e1:a5 H1 v (.aW x y)=a5 H v (.aW x y):=hb.fp s1;have Bw:∀b∈a5 H1 v (.aW x y),b∈os:=fun b hb=>g3 b (by rw [← e1]; exact hb);have k2:∀b,b∉a5 H1 v (.aW x y)->H1 b≠none->H2 b=H1 b:=fun b hb hn=>by
  cases ee:H1 b with
  |none=>exact(hn ee).elim
  |some o=>exact s2 b o (by rw [cu hb]; exact ee)
 refine⟨fun b o ee=>?_,S.2.1,S.2.2.1,?_⟩
 ·have e2:=s1 b o (S.1 b o ee)
  rw [k2 b (fun z=>by rw [S.2.2.1 b (Bw b z)] at ee; cases ee) (by rw [e2]; simp)];exact e2
 ·have rX:m8 ρ σ H1 i=a5 H1 v (.aW x y):=IT fB g1 rfl
  have F2:=F1.set (i:=i) (v':=v) (b':=.aW x' y') (O':=os) (A':=os++A₀) (H':=H2) (fun b hb=>?_) F1.sub (fun b o ee=>?_) (fun b hb hn=>⟨hb,k2 b (by rw [← rX]; exact hn) (F1.bL b (F1.sub b hb))⟩) (fun b hb hn=>⟨hb,hn,k2 b (fun z=>hn (Bw b z)) (F1.bL b hb)⟩) (.inr ⟨b2.1,fun b hb=>?_⟩)
  ·rwa [set_same g1] at F2
  ·by_cases hf:b∈a5 H1 v (.aW x y)
   ·refine b2.1.live (a:=b) ?_
    rw [vo (x':=x) (y':=y),f2];exact hf
   ·rw [k2 b hf (F1.bL b hb)]
    exact F1.bL b hb
  ·obtain⟨e3,e4⟩:=d6 ee
   rw [cu e3,k2 b (fun z=>e3 (ej _ (Bw b z))) (by rw [e4]; simp)];exact e4
  ·rw [vo (x':=x) (y':=y),f2] at hb
   exact⟨Bw b hb,.inr (by rw [rX]; exact hb)⟩
def aj9 (K:ah)(cls:Nat->Addr)(E:XK)(Hin:Hp)(A₀:List Addr)(σ:St)(Q:VK):M (Dt×aa)->Prop
 |.ok r=>∀u H' os,cF K Hin A₀ os r.2 σ H'->Rep K (ak H' (os++A₀)) r.1 u->sm r.1->Q u H'
 |.ex c=>∀H',ax Hin H'->E (.ref (cls c)) none H'
 |.bad=>False
def KO (K:ah)(cls:Nat->Addr)(E:XK)(Hin:Hp)(A₀:List Addr)(σ:St)(Q:Bool->Hp->Prop):M (Bool×aa)->Prop
 |.ok r=>∀H',fJ K Hin A₀ r.2 σ H'->Q r.1 H'
 |.ex c=>∀H',ax Hin H'->E (.ref (cls c)) none H'
 |.bad=>False
def Wf (K:ah)(cls:Nat->Addr)(E:XK)(F:TB):TT:=fun σ H Q=>∃Hin A₀ ρ,fJ K Hin A₀ ρ σ H/\KO K cls E Hin A₀ σ Q (F ρ)
abbrev Tb (X:Cx)(cls:Nat->Addr)(E:XK)(e:Expr)(F:TB):Prop:=PT X e (Wf X.K cls E F)
theorem Ew {F:TB}{s t:SM}{sa sb:List Stmt}(hc:Tb X cls E c F)(ha:Bv X cls E sa s)(hb:Bv X cls E sb t):Sv X cls E (.If c sa sb pos) (mx F s t):=(xr hc ha hb).imp fun D σ H h_=>by
 obtain⟨Hin,A₀,ρ,S,q⟩:=h_;refine⟨Hin,A₀,ρ,S,?_⟩;unfold mx at q
 cases hF:F ρ with
 |ex c=>rw [hF] at q; exact q
 |bad=>rw [hF] at q; exact q
 |ok p=>
  obtain⟨b,aQ⟩:=p;rw [hF] at q;intro H' S';have q:jN X.K cls E Hin A₀ (if b=true then s aQ else t aQ) D:=q
  cases b with
  |true=>rw [if_pos rfl] at q; simp only [if_true]; exact⟨Hin,A₀,aQ,S',q⟩
  |false=>rw [if_neg (by decide)] at q; simp only [du,if_false]; exact⟨Hin,A₀,aQ,S',q⟩
end
abbrev V7 (K:ah)(i:Nat):TE:=uw (Nf K) (jy (dh i) ix)
abbrev V5 (K:ah)(cls:Nat->Addr)(E:XK)(u:aa->M Unit):TS:=mj (Mr (wX (kX (Ng K) (V7 K 0) (tC (.int 0)))) (sM K cls E (pf 7 u)) Mo) (mj (qO (Et K "list" Nc (dh 0)) (qc 2)) (mj (wZ (An K "list" AH (dh 1) (jy (dh 2) ix)))
 (mj (qO (kX (xp K) (dh 2) (tC (.int 0))) (qc 3)) (ml (kX (xp K) (dh 3) (tC (.int 0)))))))
def uz (K:ah)(cls:Nat->Addr):Sp:=fun vs H Q E=>∃a b xs ys,vs=[.ref a,.ref b]/\H a=some (.lst xs)/\H b=some (.lst ys)/\a≠b/\ys.length<sizeLine/\
 ((xs=[]/\∀H',ax H H'->E (.ref (cls 7)) none H')∨∃T T2 sh w r,xs[xs.length - 1]?=some (.ref T)/\cP K H T [.ref T2,sh]/\cP K H T2 (w::r)/\Q w (upd (upd H a (.lst xs.dropLast)) b (.lst (ys++[.ref T]))))
theorem Ao {K:ah}{H:Hp}{a T:Addr}{xs ys zs:List V}(h:H a=some (.lst ys))(q:cP K H T xs):cP K (upd H a (.lst zs)) T xs:=by
 rcases q with (q | ⟨o,q⟩) | q
 ·exact .inl (.inl (by rw [aF (lE q h (by simp))]; exact q))
 ·exact .inl (.inr ⟨o,by rw [aF (lE q h (by simp))]; exact q⟩)
 ·exact .inr q
theorem at0 {α:Type}{w:α}{r:List α}:iq (w::r) 0=some w:=by
 unfold iq mK;rw [if_pos (by decide),if_pos (by simp)];rfl
theorem aeC {K:ah}{H:Hp}{σ:St}:bu K [] [] (bM σ.length .no) σ H:=by
 have no:∀{i:Nat} {b},(bM σ.length Bd.no)[i]?=some b->b=.no:=fun {i b} h=>DD (jV h);refine⟨by simp,(fun a z=>nomatch z),(fun a z=>nomatch z),fun i d h=>?_,fun i b h o=>?_,fun i j b c v w _ h _ o=>?_,fun i p x y h=>?_⟩
 ·cases no h
 ·rw [no h] at o; cases o
 ·rw [no h] at o; cases o
 ·cases no h
section
variable {P:Program}{w:World}{K:ah}{mg:Str->Option Value}{base:Heap}{cls:Nat->Addr}{x qual:Str}{st:Stmt}{f:Addr}{fd:FuncData}{k:Nat}
theorem aa4 {u:aa->M Unit}(hu:∀ρ,u ρ=.ok ())(F:eP K x qual st f fd)(S:bC ["source","target","row","step"] ["source","target"] (ay st))
  (hB:∀(aw:Value) (A:Around) (outer:List Env) (s:Shared) (H:Hp) (E:XK),bF k (A.deeper (envOfC qual (ay st) s.heap.objs.size f aw))->Rz (bW (aE P w) P w K mg base ["source","target","row","step"] qual (ay st) f aw A outer s H E) E->
   ed (bW (aE P w) P w K mg base ["source","target","row","step"] qual (ay st) f aw A outer s H E) (dg st) (V5 K cls E u)):cR P w K mg base (aE P w) (k+1) f fd ["source","target"] (uz K cls):=by
 refine F.mE S (fun vs H Q E h=>by obtain⟨a,b,_,_,rfl,_⟩:=h; rfl) (fun aw A outer s H vs Q E hr h R=>⟨_,hB aw A outer s H E hr R,?_⟩) (fun z=>by injection z with z z2; cases z2);obtain⟨a,b,xs,ys,rfl,ha,hb,fU,hl,h⟩:=h;refine⟨_,rfl,a,xs,rfl,.inl (.of ha),.int xs.length,.int 0,dP,dP,by show (0:Nat)<=50; decide,_,rfl,?_⟩;rcases h with ⟨rfl,hE⟩ | ⟨T,T2,sh,w',r,hT,q1,q2,q⟩
 ·rw [show bZ (.int (([]:List V).length:Nat)) (.int 0)=true from rfl]
  simp only [if_true];refine⟨H,[],_,⟨[],.refl _,(fun a z=>nomatch z),(fun a z=>nomatch z),aeC⟩,?_⟩;show jN K cls E H [] ((u _).bd fun _=>.ex 7) _;rw [hu];exact hE
 ·have bS:xs≠[]:=fun z=>by rw [z] at hT; cases hT
  have BC:0<xs.length:=kL.mpr bS;rw [show bZ (.int (xs.length:Nat)) (.int 0)=false from by
   show ((xs.length:Int)==0)=false;rw [beq_eq_false_iff_ne]; omega]
  simp only [du,if_false];refine⟨_,rfl,.inl ⟨rfl,xs,.of ha⟩,a,xs,.ref T,rfl,rfl,ha,hT,?_⟩;have BQ:upd H a (.lst xs.dropLast) b=some (.lst ys):=by rw [aF (cb fU)]; exact hb
  refine⟨_,rfl,.inl ⟨rfl,ys,.of BQ⟩,_,rfl,b,ys,.ref T,rfl,rfl,BQ,hl,?_⟩;exact⟨_,rfl,T,_,0,.ref T2,rfl,rfl,Ao BQ (Ao ha q1),rfl,_,rfl,T2,_,0,w',rfl,rfl,Ao BQ (Ao ha q2),at0,q⟩
theorem SF {A:List Addr}{H H2:Hp}{a dx l m C:Addr}{mf jt:List V}{x y x' y':List Dt}(hC:gV K C)(h1:H a=some (.ins C dx (kD l m)))(h2:H dx=some (.own a))(h3:H l=some (.lst xs))(h4:H m=some (.lst ys))(h5:l≠m)(aA:a∈A)(dA:dx∈A)(lA:l∈A)(mA:m∈A)
  (e1:H2 l=some (.lst mf)) (e2:H2 m=some (.lst jt)) (e3:∀b,b≠l->b≠m->H2 b=H b) (r1:ar K (ak H A) x' mf) (z1:bw x') (n1:x'.length<=10000) (r2:ar K (ak H A) y' jt) (z2:bw y') (n2:y'.length<=10000) :
  ax (ak H (a5 H (.ref a) (.aW x y))) H2/\eR K A H2 (.ref a) x' y'/\a5 H2 (.ref a) (.aW x y)=a5 H (.ref a) (.aW x y)/\ax (ak H A) (ak H2 A):=by
 have A9:a≠l:=lE h1 h3 (by simp);have pM:a≠m:=lE h1 h4 (by simp);have Gm:dx≠l:=lE h2 h3 (by simp);have Gk:dx≠m:=lE h2 h4 (by simp);have gA:H2 a=some (.ins C dx (kD l m)):=by rw [e3 a A9 pM]; exact h1
 have sA:ax (ak H A) (ak H2 A):=fun b o e=>by
  obtain⟨q1,q2⟩:=d6 e;rw [cu q1,e3 b (fun z=>q1 (z ▸ lA)) (fun z=>q1 (z ▸ mA))];exact q2
 refine⟨fun b o e=>?_,⟨⟨a,dx,l,m,C,mf,jt,rfl,hC,gA,?_,e1,e2,h5,⟨r1.mono sA,z1,n1⟩,r2.mono sA,z2,n2⟩,?_⟩,?_,sA⟩
 ·rw [lQ h1] at e
  obtain⟨q1,q2⟩:=d6 e;simp only [bf,fw,or_false,not_or] at q1;rw [e3 b q1.2.2.1 q1.2.2.2];exact q2
 ·rw [e3 dx Gm Gk]; exact h2
 ·rw [lQ gA]
  intro b hb;simp only [bf,fw,or_false] at hb;rcases hb with rfl | rfl | rfl | rfl <;> assumption
 ·rw [lQ gA,lQ h1]
theorem ar.dropLast {H:Hp}:∀{x:List Dt}{xs:List V},ar K H x xs->ar K H x.dropLast xs.dropLast
 | [],xs,h=>by simp only [ar] at h; subst h; exact .nil
 | [d],xs,h=>by
  simp only [ar] at h;obtain⟨v,r,rfl,_,rfl⟩:=h;exact .nil
 |d::e::x,xs,h=>by
  simp only [ar] at h;obtain⟨v,r,rfl,h1,v2,r2,rfl,h2,h3⟩:=h;have:ar K H (e::x) (v2::r2):=.cons h2 h3;exact .cons h1 this.dropLast
theorem abL {H:Hp}{x:List Dt}{xs:List V}{d:Dt}(r:ar K H x xs)(h:x.getLast?=some d):∃u,xs[xs.length - 1]?=some u/\Rep K H d u:=by
 have hl:=r.length;have hx:x≠[]:=fun z=>by rw [z] at h; cases h
 have hp:0<x.length:=kL.mpr hx;have aT:xs.length - 1<xs.length:=by omega
 obtain⟨d',e1,e2⟩:=r.get (kN aT);rw [DE,hl,e1] at h;cases h;exact⟨_,kN aT,e2⟩
theorem WG {x:List Dt}(z:bw x):bw x.dropLast:=mr fun d hd=>hV z ((List.dropLast_sublist x).subset hd)
theorem OG {A:List Addr}{H:Hp}{a b:Addr}{xs ys:List V}{x y:List Dt}{E:XK}{Q:VK}(ha:H a=some (.lst xs))(hb:H b=some (.lst ys))(fU:a≠b)(r1:ar K (ak H A) x xs)(z1:bw x)(n1:x.length<=10000)(r2:ar K (ak H A) y ys)(z2:bw y)(n2:y.length<=10000)
  (q:Rg cls E (rq x y x.getLast?) H fun r=>∀u mf jt,ar K (ak H A) r.2.1 mf->bw r.2.1->r.2.1.length<=10000->ar K (ak H A) r.2.2 jt->bw r.2.2->r.2.2.length<=10000->Rep K (ak H A) r.1 u->sm r.1->Q u (upd (upd H a (.lst mf)) b (.lst jt))):uz K cls [.ref a,.ref b] H Q E:=by
 have i4:=r2.length;refine⟨a,b,xs,ys,rfl,ha,hb,fU,zL (by omega:ys.length<=10000) (by decide),?_⟩
 cases hx:x.getLast? with
 |none=>
  have e:x=[]:=List.getLast?_eq_none_iff.mp hx;rw [hx] at q;refine .inl ⟨?_,q⟩;have:=r1.length;rw [e] at this;exact sW.mp this.symm
 |some d=>
  rw [hx] at q;unfold rq at q
  split at q
  ·rename_i e; cases e
  ·rename_i w' r' b' e
   cases e
   split at q
   ·rename_i hy
    obtain⟨u,hu,ru⟩:=abL r1 hx;obtain⟨T,zs,rfl,t1,t2⟩:=hZ ru;obtain⟨v1,v2,rfl,t3,t4⟩:=my t2;obtain⟨T2,ws,rfl,t5,t6⟩:=hZ t3;simp only [ar] at t6;obtain⟨w1,Yu,rfl,t7,t8⟩:=t6;have zd:sm (.tup [.tup (w'::r'),b']):=hV z1 (Dx hx);refine .inr ⟨T,T2,v2,w1,Yu,hu,bP.fP t1,bP.fP t5,?_⟩;exact q w1 _ _ r1.dropLast (WG z1) (by simp; omega) (r2.append (.cons ru .nil)) (qU z2 ⟨zd,trivial⟩) (by simp; omega) t7 zd.2.1.2.1
   ·exact(show False from q).elim
  ·exact(show False from q).elim
abbrev My (K:ah)(cls:Nat->Addr)(E:XK)(g h:Str):TS:=ml (Es (uz K cls) [] E (jy (gY K g) (jy (gY K h) ix)))
theorem JM (F:eP K x qual st f fd)(S:bC ["self"] ["self"] (ay st))
  (hB:∀(aw:Value) (A:Around) (outer:List Env) (s:Shared) (H:Hp) (E:XK),bF k (A.deeper (envOfC qual (ay st) s.heap.objs.size f aw))->Rz (bW (aE P w) P w K mg base ["self"] qual (ay st) f aw A outer s H E) E->
   ed (bW (aE P w) P w K mg base ["self"] qual (ay st) f aw A outer s H E) (dg st) (My K cls E "done" "undone")):cR P w K mg base (aE P w) (k+1) f fd ["self"] (ek K cls fun _=>qr):=by
 have one:∀{vs H Q E},(ek K cls fun _=>qr) vs H Q E->∃v,vs=[v]:=fun {vs H Q E} h=>by
  obtain⟨p,v,ws,A,x,y,ds,rfl,_,L,hb,r,z,q⟩:=h;simp only [qr] at q
  split at q
  ·simp only [ar] at r; subst r; exact⟨v,rfl⟩
  ·exact(show False from q).elim
 refine F.mE S (fun vs H Q E h=>by obtain⟨v,rfl⟩:=one h; rfl) (fun aw A outer s H vs Q E hr h R=>⟨_,hB aw A outer s H E hr R,?_⟩) (fun z=>by injection z with z; exact absurd z (by decide +kernel));obtain⟨p,v,ws,B,x,y,ds,rfl,_,L,hb,r,z,q⟩:=h;obtain⟨a,dx,l,m,C,xs,ys,rfl,hC,h1,h2,h3,h4,h5,⟨h6,h7,h8⟩,⟨h9,kq,lO⟩,aB,dB,lB,mB⟩:=hb.parts;simp only [qr] at q
 split at q
 rotate_left
 ·exact(show False from q).elim
 simp only [ar] at r;subst r;refine(show gY K "done" [some (.ref a)] H (fun z1 H1=>gY K "undone" [some (.ref a)] H1 fun z2 H2=>uz K cls [z1,z2] H2 Q E) from lh rfl hC h1 (.inl ⟨rfl,rfl⟩) (lh rfl hC h1 (.inr ⟨rfl,rfl⟩) ?_))
 refine OG (A:=B) h3 h4 h5 h6 h7 h8 h9 kq lO (Rg.ok q fun r _ p=>?_);intro u mf jt r1 z1 n1 r2 z2 n2 ru zu;obtain⟨t1,t2,t3,t4⟩:=SF (x:=x) (y:=y) hC h1 h2 h3 h4 h5 aB dB lB mB (H2:=upd (upd H l (.lst mf)) m (.lst jt)) (by rw [aF h5,aX]) aX (fun b q1 q2=>by rw [aF q2,aF q1]) r1 z1 n1 r2 z2 n2;exact p u _ t1 t2 t3 (ru.mono t4) zu
theorem IU (F:eP K x qual st f fd)(S:bC ["self"] ["self"] (ay st))
  (hB:∀(aw:Value) (A:Around) (outer:List Env) (s:Shared) (H:Hp) (E:XK),bF k (A.deeper (envOfC qual (ay st) s.heap.objs.size f aw))->Rz (bW (aE P w) P w K mg base ["self"] qual (ay st) f aw A outer s H E) E->
   ed (bW (aE P w) P w K mg base ["self"] qual (ay st) f aw A outer s H E) (dg st) (My K cls E "undone" "done")):cR P w K mg base (aE P w) (k+1) f fd ["self"] (ek K cls fun _=>qq):=by
 have one:∀{vs H Q E},(ek K cls fun _=>qq) vs H Q E->∃v,vs=[v]:=fun {vs H Q E} h=>by
  obtain⟨p,v,ws,A,x,y,ds,rfl,_,L,hb,r,z,q⟩:=h;simp only [qq] at q
  split at q
  ·simp only [ar] at r; subst r; exact⟨v,rfl⟩
  ·exact(show False from q).elim
 refine F.mE S (fun vs H Q E h=>by obtain⟨v,rfl⟩:=one h; rfl) (fun aw A outer s H vs Q E hr h R=>⟨_,hB aw A outer s H E hr R,?_⟩) (fun z=>by injection z with z; exact absurd z (by decide +kernel));obtain⟨p,v,ws,B,x,y,ds,rfl,_,L,hb,r,z,q⟩:=h;obtain⟨a,dx,l,m,C,xs,ys,rfl,hC,h1,h2,h3,h4,h5,⟨h6,h7,h8⟩,⟨h9,kq,lO⟩,aB,dB,lB,mB⟩:=hb.parts;simp only [qq] at q
 split at q
 rotate_left
 ·exact(show False from q).elim
 simp only [ar] at r;subst r;refine(show gY K "undone" [some (.ref a)] H (fun z1 H1=>gY K "done" [some (.ref a)] H1 fun z2 H2=>uz K cls [z1,z2] H2 Q E) from lh rfl hC h1 (.inr ⟨rfl,rfl⟩) (lh rfl hC h1 (.inl ⟨rfl,rfl⟩) ?_))
 refine OG (A:=B) h4 h3 (cb h5) h9 kq lO h6 h7 h8 (Rg.bind q fun r _ p=>?_);intro u mf jt r1 z1 n1 r2 z2 n2 ru zu;obtain⟨t1,t2,t3,t4⟩:=SF (x:=x) (y:=y) hC h1 h2 h3 h4 h5 aB dB lB mB (H2:=upd (upd H m (.lst mf)) l (.lst jt)) aX (by rw [aF (cb h5),aX]) (fun b q1 q2=>by rw [aF q1,aF q2]) r2 z2 n2 r1 z1 n1;exact p u _ t1 t2 t3 (ru.mono t4) zu
end
section
variable {X:Cx}{cls:Nat->Addr}{E:XK}{a b:Expr}{f g:aa->M Dt}{pos p apos:Pos}
theorem N1:ez X cls E (binaryOp .Add) rl:=by
 refine⟨_,ZH,fun A H Q d1 d2 x y L r1 r2 z1 z2 q=>?_⟩;unfold rl at q
 split at q
 ·rename_i d r b'
  split at q
  ·rename_i hl
   obtain⟨p,xs,rfl,h1,h2⟩:=hZ r1;obtain⟨p',ys,rfl,m4,fF⟩:=hZ r2;have e1:=h2.length;have e2:=fF.length;have hz:sm (.tup ((d::r)++b')):=⟨by rw [iO]; exact hl,qU z1.2 z2.2⟩
   refine⟨p,p',xs,ys,rfl,rfl,bP.fP h1,bP.fP m4,fun z=>(by rw [z] at e1; cases e1),k9 (by omega),fun z=>?_,fun _ p2 iE=>?_⟩
   ·subst z
    have:b'=[]:=sW.mp e2;subst this;exact q _ H (.refl _) (by rw [kJ]; exact r1) hz
   ·exact q _ _ (.upd iE) (qZ (ou L iE) ((h2.append fF).mono ((ax.upd iE).ak A))) hz
  ·exact(show False from q).elim
 ·exact(show False from q).elim
def jK (P:Params)(q:List Nat×Tok×Int×Tok):DictEntry:=⟨l7 P ⟨q.1.toArray⟩,.str ⟨q.1.toArray⟩ q.2.1,.int q.2.2.1 q.2.2.2⟩
def K8 (w:World)(K:ah)(a:Addr)(kvs:List (List Nat×Int)):Prop:=
 ∃(qs:List (List Nat×Tok×Int×Tok)) (ep:Nat),K.lookup a=some {cls:=.type "dict",dict:=none,data:=.dict (qs.map (jK w.params)).toArray ep,slots:=#[]}/\kvs=qs.map fun q=>(q.1,q.2.2.1)
theorem QZ {P:Params}:∀(qs:List (List Nat×Tok×Int×Tok)) (l:List Nat),(∃i t,pQ (qs.map fun q=>(q.1,q.2.2.1)) l=some i/\((qs.map (jK P)).find? fun e=>fo ⟨l.toArray⟩ e.key).map (·.val)=some (.int i t))∨
  (pQ (qs.map fun q=>(q.1,q.2.2.1)) l=none/\((qs.map (jK P)).find? fun e=>fo ⟨l.toArray⟩ e.key).map (·.val)=none)
 | [],l=>.inr ⟨rfl,rfl⟩
 |q::qs,l=>by
  simp only [bI,pQ];rw [iL]
  by_cases e:l=q.1
  ·rw [if_pos e]
   have:fo ⟨l.toArray⟩ (jK P q).key=true:=by simp [jK,fo,e]
   rw [this];exact .inl ⟨_,q.2.2.2,rfl,rfl⟩
  ·rw [if_neg e]
   have:fo ⟨l.toArray⟩ (jK P q).key=false:=by
    simp only [jK,fo];rw [beq_eq_false_iff_ne];intro z;injection z with z;exact e (by simpa using (congrArg jm z).symm)
   rw [this];exact QZ qs l
theorem R8 {aD:Addr}{kvs:List (List Nat×Int)}(D:K8 X.w X.K aD kvs){pins:List (Addr×Obj)}{s:Shared}{σ:St}{H:Hp}(I:Inv X pins σ H s):∃f,s.heap.MapOf (strKind X.prog X.w) aD f/\∀l,(∃i t,pQ kvs l=some i/\f ⟨l.toArray⟩=some (.int i t))∨(pQ kvs l=none/\f ⟨l.toArray⟩=none):=by
 obtain⟨qs,ep,hk,rfl⟩:=D;have ho:=I.e8 aD _ hk;refine⟨fun k=>findBy fo (qs.map (jK X.w.params)).toArray k,⟨_,_,ep,ho,⟨rfl,rfl,rfl⟩,rfl,?_,fun _=>rfl⟩,fun l=>?_⟩
 ·intro e he
  have HV:e∈qs.map (jK X.w.params):=by simpa using he
  obtain⟨q,_,rfl⟩:=dF.mp HV;exact⟨⟨q.1.toArray⟩,strKind_is X.prog X.w _ _,OU _ _⟩
 ·have ht:=QZ (P:=X.w.params) qs l
  have e:findBy fo (qs.map (jK X.w.params)).toArray ⟨l.toArray⟩=((qs.map (jK X.w.params)).find? fun e=>fo ⟨l.toArray⟩ e.key).map (·.val):=by
   unfold findBy;rw [List.find?_toArray]
  show (∃i t,_/\findBy fo (qs.map (jK X.w.params)).toArray ⟨l.toArray⟩=some (.int i t))∨(_/\findBy fo (qs.map (jK X.w.params)).toArray ⟨l.toArray⟩=none);rw [e];exact ht
theorem aeQ {x:Str}{aD:Addr}{kvs:List (List Nat×Int)}(D:K8 X.w X.K aD kvs)(km:(aD==sysModules)=false)(hg:Gl X x)(hm:X.mg x=some (.ref aD))(ha:Ev X cls E a f)(hsa:isStar a=false)
  (oz:attributeBase (.Name x p) "get" X.env (eval (.Name x p) X.env)=eval (.Name x p) X.env:=by rfl) (lN:(apos.endLine==pos.line)=true:=by rfl) (hd:(x==("__debug__" : Str))=false:=by decide) :
  Ev X cls E (.Call (.Attribute (.Name x p) "get" apos) [a] [] pos) (p1 (sN kvs) f):=by
 have hs:starEach [a] X.env=[(false,eval a X.env)]:=by rw [j6 hsa]; rfl
 intro pins s σ H Q I ⟨O,A,ρ,F,q⟩;refine wpAny_Call_method_late oz (by rw [hs]; rfl) lN (trees:=[(false,eval a X.env)]) (by rw [hs]; rfl) (aG (j9 hg hm (v:=.ref aD) rfl hd pins s σ H (fun v H1=>v=.ref aD/\H1=H) I ⟨rfl,rfl⟩) fun v s1 ⟨x,H1,I1,r1,ex,eH⟩=>?_);subst ex eH;cases r1;obtain⟨f0,m0,_⟩:=R8 D I1;refine⟨"dict","dict.get",DA,zW,PySem.F.type_dict_get,m0.typeIs,m0.noDict,wpAny_dict_get1 (knd:=strKind X.prog X.w) km ?_⟩
 refine aG (ha pins s1 σ H1 (fun x H2=>∃d,ax H1 H2/\Rep X.K (ak H2 A) d x/\sm d/\Res X.K cls A E (sN kvs d) H2 Q) I1 ⟨O,A,ρ,F,Rg.bind q fun d _ q1=>?_⟩) fun u s2 ⟨x,H2,I2,r2,d,MP,rp,zd,q2⟩=>?_
 ·intro x H2 s2 r2 z2
  exact⟨d,s2,r2,z2,Res.mono q1 s2⟩
 obtain⟨f3,m3,k1⟩:=R8 D I2
 cases d with
 |str l=>
  obtain rfl:=cL rp;obtain⟨t,rfl⟩:=r2;refine⟨⟨l.toArray⟩,f3,strKind_is X.prog X.w _ _,m3,?_⟩;have q2:Res X.K cls A E (.ok (PJ (pQ kvs l))) H2 Q:=q2;rcases k1 l with ⟨i,t2,h1,h2⟩ | ⟨h1,h2⟩
  ·rw [h2]
   rw [h1] at q2;exact fun ht=>⟨.int i,H2,I2.tok _,⟨_,rfl⟩,q2 _ H2 (.refl _) dP trivial⟩
  ·rw [h2]
   rw [h1] at q2;exact fun ht=>⟨.aK,H2,I2.tok _,rfl,q2 _ H2 (.refl _) AD trivial⟩
 |_=>exact(show False from q2).elim
end
theorem af5 {g:GM}{tc:aa->M Bool}{te:aa->M Dt}{ρ0:aa}:∀{ds xs:List Dt},fI g tc te ρ0 ds=.ok xs->il g tc te ρ0 ds=.ok xs:=by
 intro ds
 induction ds with
 |nil=>exact fun h=>h
 |cons d ds ih=>
  intro xs h;obtain⟨a7,hg,r9⟩:=Sr h;unfold il;rw [hg];simp only [jc,bG];rcases r9 with ⟨ht,hr⟩ | ⟨ht,x',jt,rO,hr,rfl⟩
  ·rw [ht]
   exact ih hr
  ·rw [ht]
   show ((te a7).bd _:M (List Dt))=_;rw [rO,bG,ih hr];rfl
section
variable {X:Cx}{cls:Nat->Addr}{E:XK}{a b c:Expr}{f:aa->M Dt}{pos:Pos}{scope:Scope}{N:List Str}{k:Nat}{fr:List Nat}{tg iter elt:Expr}{ifs:List Expr}{ι:IM}{g:GM}{tc:aa->M Bool}{te:aa->M Dt}
theorem lR (hX:X.A.frames=some X.stack->(∀b∈aH X.outer,X.a8 b=none)->Plain X E)(hk:GK k g)(hc:X.calm=true)(S:eQ X scope N k fr)(hi:Iv X cls E tg iter ι)(hg:∀pins fp s H,PG (ja X E scope N pins fp s H) tg (gM X.K g))(ht:∀pins fp s H,jO (ja X E scope N pins fp s H) ifs (fz X.K cls E tc))
  (he:∀pins fp s H,PE (ja X E scope N pins fp s H) elt (tM X.K cls E te)) (hs:∀x,foldedSetIterable iter X.env x=pure x:=by intro _; rfl):Ev X cls E (.ListComp elt [⟨tg,iter,ifs,0⟩] scope pos) (dQ k fr ι g tc te):=
 (Rv hX hk hc S hi hg ht he hs).imp fun σ H Q h=>by
 obtain⟨O,A,ρ,F,q⟩:=h;refine⟨O,A,ρ,F,?_⟩;unfold dQ at q;unfold xw
 cases hi:ι ρ with
 |ex c=>rw [hi] at q; exact q
 |bad=>rw [hi] at q; exact q
 |ok ds=>
  rw [hi] at q;simp only [bG] at q ⊢
  cases hm:fI g tc te (cf k fr ρ) ds with
  |ex c=>rw [hm] at q; exact(show False from q).elim
  |bad=>rw [hm] at q; exact(show False from q).elim
  |ok xs=>rw [af5 hm]; rw [hm] at q; exact q
end
abbrev VU (K:ah)(cls:Nat->Addr)(E:XK):TS:=ml (uv 2 [] (PN K (gY K "done")) (gM K B0) (fz K cls E cW) (tM K cls E (ae 0)))
section
variable {P:Program}{w:World}{K:ah}{mg:Str->Option Value}{base:Heap}{cls:Nat->Addr}{x qual:Str}{st:Stmt}{f:Addr}{fd:FuncData}{k:Nat}
theorem Sn:∀{x ds:List Dt},sr x=some ds->il B0 cW (ae 0) (cf 2 [] [.no]) x=.ok ds
 | [],ds,h=>by cases h; rfl
 |d::r,ds,h=>by
  unfold sr at h
  split at h
  ·rename_i e; cases e
  ·rename_i s' b' r' e
   injection e with e1 e2;subst e1 e2
   cases hr:sr r with
   |none=>rw [hr] at h; cases h
   |some es=>
    rw [hr] at h;cases h;have ih:=Sn hr;show (il B0 cW (ae 0) (cf 2 [] [.no]) r).bd (fun xs=>.ok (s'::xs))=_;rw [ih];rfl
  ·cases h
theorem Wz (F:eP K x qual st f fd)(S:bC ["self"] ["self"] (ay st))
  (hB:∀(aw:Value) (A:Around) (outer:List Env) (s:Shared) (H:Hp) (E:XK),bF k (A.deeper (envOfC qual (ay st) s.heap.objs.size f aw))->Rz (bW (aE P w) P w K mg base ["self"] qual (ay st) f aw A outer s H E) E->
   ed (bW (aE P w) P w K mg base ["self"] qual (ay st) f aw A outer s H E) (dg st) (VU K cls E)):cR P w K mg base (aE P w) (k+1) f fd ["self"] (k8 K cls (D5 K) qo):=by
 refine F.mE S (fun vs H Q E h=>by obtain⟨v,_,_,_,rfl,_⟩:=h; rfl) (fun aw A outer s H vs Q E hr h R=>⟨_,hB aw A outer s H E hr R,?_⟩) (fun z=>by injection z with z; exact absurd z (by decide +kernel));obtain⟨v,B,x,y,rfl,L,hb,q⟩:=h;obtain⟨a,dx,l,m,C,xs,ys,rfl,hC,h1,h2,h3,h4,h5,⟨h6,h7,h8⟩,_,_,_,_,_⟩:=hb.parts;refine(show gY K "done" [some (.ref a)] H (fun u H1=>∃b,u=.ref b/\(∃zs,bX K H1 b zs)/\pq 2 [] (gM K B0) (fz K cls E cW) (tM K cls E (ae 0)) [some (.ref a)] (sT K b) H1 Q) from lh rfl hC h1 (.inl ⟨rfl,rfl⟩) ⟨l,rfl,⟨xs,.of h3⟩,?_⟩)
 unfold qo at q
 split at q
 ·rename_i ds km
  split at q
  ·rename_i hn
   let B':=B.filter fun b=>decide (b≠l)
   have Qe:l∉B':=fun z=>by simpa using (jR.mp z).2
   have sub:∀b,b∈B'->b∈B:=fun b z=>(jR.mp z).1;have sH:∀{H2:Hp},ax (ak H2 B) (ak H2 B'):=fun {H2} b o e=>by
    obtain⟨e1,e2⟩:=d6 e;rw [cu fun z=>e1 (sub b z)];exact e2
   have F0:bu K [] B' [.no] [some (.ref a)] H:=by
    refine⟨rfl,fun b hb=>L b (sub b hb),(fun b z=>nomatch z),fun i d e=>?_,fun i b e o=>?_,fun i j b c v w _ e _ o=>?_,fun i p x y e=>?_⟩
    all_goals
     (cases i with
     |zero=>cases e <;> cases o
     |succ i=>simp at e)
   refine Yh (M8 (ds:=x) F0 (BX (qb (fV (by decide)) (qb (fV (by decide)) BW))) (Py (.of (by rw [cu Qe]; exact h3)) (h6.mono sH) h7 h8) ?_);rw [Sn km];intro v H' s' r z zl hF;refine q v H' s' ⟨?_,hF⟩ ⟨zl,z⟩;obtain⟨D,zs,rfl,hD,mZ⟩:=hF;obtain⟨D',DK,e1,e2,e3⟩:=fQ r;cases e1;have QD:D∉B:=fun z=>L D z hD;have rT:ak H' B' l=some (.lst xs):=by rw [cu Qe]; exact s' _ _ h3
   have e4:=(Fv rT hn.1 e3).mono (H':=ak H' B) fun b o e=>by
    obtain⟨e4,e5⟩:=d6 e;obtain⟨e6,e7⟩:=d6 e5;rw [cu fun z=>e6 (jR.mpr ⟨z,by simpa using e4⟩)];exact e7
   simp only [Rep];refine⟨D,DK,rfl,?_,e4⟩;rw [show bX K (ak H' B) D DK=bX K (ak H' B') D DK by unfold bX Rd; rw [cu QD,cu fun z=>QD (sub _ z)]];exact e2
  ·exact(show False from q).elim
 ·exact(show False from q).elim
end
def sQ (K:ah)(A:List Addr)(v:V)(x y:List Dt)(H:Hp)(Q:VK)(r:Dt×List Dt×List Dt):Prop:=∀u H',ax (ak H (a5 H v (.aW x y))) H'->eR K A H' v r.2.1 r.2.2->a5 H' v (.aW x y)=a5 H v (.aW x y)->Rep K (ak H' A) r.1 u->sm r.1->Q u H'
theorem sQ.mono {K:ah}{A:List Addr}{v:V}{x y:List Dt}{H H1:Hp}{Q:VK}{r:Dt×List Dt×List Dt}(h:sQ K A v x y H Q r)(s:ax H H1)(hb:eR K A H v x y):sQ K A v x y H1 Q r:=by
 intro u H' s1 b1 f1;have e:=hb.fp s;rw [e] at s1 f1;exact h u H' ((s.ak _).trans s1) b1 f1
inductive mn (K:ah) (cls:Nat->Addr) (E:XK) (i:Nat) (G:GB) (σ:St) (H:Hp) (Q:VK):Prop
 |mk (O A:List Addr) (ρ:aa) (v:V) (x y:List Dt) (Ft:bu K O A ρ σ H) (fB:oM ρ[i]?=some (x,y)) (hv:σ[i]?=some (some v)) (hb:eR K A H v x y) (q:Rg cls E (G ρ) H (sQ K A v x y H Q)):mn K cls E i G σ H Q
abbrev l6 (X:Cx)(cls:Nat->Addr)(E:XK)(i:Nat)(e:Expr)(G:GB):Prop:=PE X e (mn X.K cls E i G)
def Ap (K:ah)(cls:Nat->Addr)(tabs:jg)(F:BM):Sp:=fun vs H Q E=>(∀t∈tabs,H t.2.1=some (.dG t.2.2))/\ek K cls (fun _=>F) vs H Q E
section
variable {X:Cx}{cls:Nat->Addr}{E:XK}{a b c o e:Expr}{f g h:aa->M Dt}{pos apos k7:Pos}{i j k:Nat}{m:Str}{ps:List Str}{es:List Expr}{fs:aa->M (List Dt)}{G G':GB}{σ:St}{H:Hp}{Q:VK}
theorem Me {F:BM}(gK:(m==("done" : Str))=false)(gn:(m==("undone" : Str))=false)(q:mn X.K cls E i (ff i F fs) σ H Q):qN X.K m (ek X.K cls fun _=>F) E i (mm X.K cls E fs) σ H Q:=by
 obtain⟨O,A,ρ,v,x,y,Ft,fB,hv,hb,q⟩:=q;obtain⟨a,C',dx,oE,z1,z2,z3,z4⟩:=hb.look gK gn;refine⟨v,a,C',dx,oE,hv,z1,z2,z3,z4,O,A,ρ,Ft,?_⟩;unfold ff BY at q;rw [fB] at q;refine Rg.bind q fun ds _ q1=>?_;intro vs H1 s1 r1 DJ;exact⟨a,v,vs,A,x,y,ds,rfl,z1,Ft.bL.mono s1,hb.mono s1,r1,DJ,Rg.heap q1 s1 fun r _ p=>p.mono s1 hb⟩
theorem Jk {pl:Sem Bool}{F:BM}(C:gU X.prog X.w X.K X.mg X.base k m ps (ek X.K cls fun _=>F))(hr:bF k X.A)(hx:Passes (aE X.prog X.w) X E)(ho:PE X o (dh i))(ha:Av X cls E (e::es) fs)(gK:(m==("done" : Str))=false:=by decide +kernel)(gn:(m==("undone" : Str))=false:=by decide +kernel)
  (bz:starEach (e::es) X.env=(false,eval e X.env)::starEach es X.env:=by rfl) (dS:(backTo pos (starEach es X.env)).any (·.1)=false:=by rfl)
  (ht:eval (.Call (.Attribute o m apos) (e::es) [] pos) X.env=(do
   let ov ← eval o X.env
   standAt apos.atName
   let (f,first) ← holding [ov] (getMethod ov m pl)
   callWith pos f first (backTo pos (starEach (e::es) X.env)) (backToKw pos (keywordEach [] X.env))):=by rfl):l6 X cls E i (.Call (.Attribute o m apos) (e::es) [] pos) (ff i F fs):=
 (AN (pl:=pl) C hr hx ho ha bz dS ht).imp fun σ H Q q=>Me gK gn q
theorem Rx {pl:Sem Bool}{F:BM}(C:gU X.prog X.w X.K X.mg X.base k m ps (ek X.K cls fun _=>F))(hr:bF k X.A)(hx:Passes (aE X.prog X.w) X E)(ho:PE X o (dh i))(gK:(m==("done" : Str))=false:=by decide +kernel)(gn:(m==("undone" : Str))=false:=by decide +kernel)
  (ht:eval (.Call (.Attribute o m apos) [] [] pos) X.env=(do
   let ov ← eval o X.env
   standAt apos.atName
   let (f,first) ← holding [ov] (getMethod ov m pl)
   callWith pos f first (backTo pos (starEach [] X.env)) (backToKw pos (keywordEach [] X.env))):=by rfl):l6 X cls E i (.Call (.Attribute o m apos) [] [] pos) (ff i F aq):=
 (YZ (cls:=cls) (pl:=pl) C hr hx ho ht).imp fun σ H Q q=>Me gK gn q
theorem Md {t:aa->M Bool}{σ:St}{H:Hp}{Q:VK}(q:mn X.K cls E i (so t G G') σ H Q):fz X.K cls E t σ H fun b H1=>if b=true then mn X.K cls E i G σ H1 Q else mn X.K cls E i G' σ H1 Q:=by
 obtain⟨O,A,ρ,v,x,y,Ft,fB,hv,hb,q⟩:=q;refine⟨O,A,ρ,Ft,Rg.bind (k:=fun b=>if b=true then G ρ else G' ρ) q fun b _ q1=>?_⟩;intro H1 s1
 cases b with
 |true=>rw [if_pos rfl]; exact⟨O,A,ρ,v,x,y,Ft.mono s1,fB,hv,hb.mono s1,Rg.heap q1 s1 fun r _ p=>p.mono s1 hb⟩
 |false=>rw [if_neg (by decide)]; exact⟨O,A,ρ,v,x,y,Ft.mono s1,fB,hv,hb.mono s1,Rg.heap q1 s1 fun r _ p=>p.mono s1 hb⟩
theorem aeV {t:aa->M Bool}(hc:Tv X cls E c t)(ha:l6 X cls E i a G)(hb:l6 X cls E i b G'):l6 X cls E i (.IfExp c a b pos) (so t G G'):=(FV hc ha hb).imp fun σ H Q q=>Md q
theorem agv {t:aa->M Bool}{p1 p2 p3:Pos}(hc:Tv X cls E c t)(ha:l6 X cls E i a G)(hb:l6 X cls E i b G'):ed X [.If c [.Return (some a) p1] [] p2,.Return (some b) p3] (ml (mn X.K cls E i (so t G G'))):=
 (eI (xr hc (fA (ic ha)) AI) (fA (ic hb))).imp fun D σ H q=>Md q
theorem aeW {x:Str}{p:Pos}{F:BM}{tabs:jg}(C:qx X.prog X.w X.K X.mg X.base (aE X.prog X.w) k x ps (Ap X.K cls tabs F))(hT:∀t∈tabs,X.a8 t.2.1=some (.dG t.2.2))(hr:bF k X.A)(hx:Passes (aE X.prog X.w) X E)(ho:PE X o (dh i))(ha:Av X cls E es fs)(bz:isStar o=false:=by rfl)(hg:Gl X x:=by rfl)
  (gN:(x==("__debug__" : Str))=false:=by decide) (dS:(backTo pos (starEach es X.env)).any (·.1)=false:=by rfl):l6 X cls E i (.Call (.Name x p) (o::es) [] pos) (ff i F fs):=by
 intro pins s σ H Q I ⟨O,A,ρ,v,x,y,Ft,fB,hv,hb,q⟩;refine AQ C hr hx (@ba _ _ _ _ _ bz ho ha) bz hg gN dS pins s σ H Q I ?_;refine⟨v,hv,O,A,ρ,Ft,?_⟩;unfold ff BY at q;rw [fB] at q;refine Rg.bind q fun ds _ q1=>?_;intro vs H1 s1 r1 DJ;obtain⟨a,e1,_⟩:=hb.1.fst;rw [kJ];exact⟨fun t ht=>s1 _ _ (I.base.d8 _ _ (hT t ht)),a,v,vs,A,_,_,ds,rfl,e1,Ft.bL.mono s1,hb.mono s1,r1,DJ,Rg.heap q1 s1 fun r _ p=>p.mono s1 hb⟩
theorem VN {Hin:Hp}{A₀:List Addr}{ρ:aa}(S:fJ X.K Hin A₀ ρ σ H)(q:aj9 X.K cls E Hin A₀ σ Q (xK i ρ (G ρ) ρ[i]?)):mn X.K cls E i G σ H Q:=by
 obtain⟨os,S⟩:=S;have Ft:=S.2.2.2;unfold xK at q
 split at q
 rotate_left
 ·exact q.elim
 rename_i x y fB;obtain⟨v,g1,g2,g3⟩:=Ft.ow i _ fB rfl;have hb:eR X.K (os++A₀) H v x y:=⟨g2,fun a ha=>Ft.sub a (g3 a ha)⟩
 refine⟨os,os++A₀,ρ,v,x,y,Ft,by rw [fB]; rfl,g1,hb,?_⟩
 cases hG:G ρ with
 |ex c=>rw [hG] at q; exact fun H' s'=>q H' (S.1.trans s')
 |bad=>rw [hG] at q; exact q
 |ok r=>rw [hG] at q; exact fun u H2 s2 b2 f2 ru zu=>q u H2 os (S.mt fB g1 hb g3 (.refl _) s2 b2 f2) ru zu
theorem Eh {o':CmpOp}{op:Dt->Dt->M Dt}{cq:Pos}(ya:ez X cls E (compareOp o') op)(ha:l6 X cls E i a G)(hb:Ev X cls E b g)(hm:behindInMarks o' b=false):Tb X cls E (.Compare a [o'] [b] cq) (mi i G op g):=by
 obtain⟨r,h1,ho⟩:=ya;refine(xq h1 ha hb hm).imp fun σ H Q q=>?_;obtain⟨Hin,A₀,ρ,S,q⟩:=q;refine VN S ?_;unfold mi at q
 cases hm:xK i ρ (G ρ) ρ[i]? with
 |ex c=>rw [hm] at q; exact q
 |bad=>rw [hm] at q; exact q
 |ok p=>
  obtain⟨d,aQ⟩:=p;rw [hm] at q;intro u H' os S' ru zu;refine⟨os,os++A₀,aQ,S'.2.2.2,?_⟩;have q:KO X.K cls E Hin A₀ σ Q ((g aQ).bd fun d2=>(op d d2).bd (Cs aQ)):=q
  cases hg:g aQ with
  |ex c=>rw [hg] at q; exact fun H2 s2=>q H2 (S'.1.trans s2)
  |bad=>rw [hg] at q; exact q
  |ok d2=>
   rw [hg] at q;intro v H2 s2 rv zv;have q:KO X.K cls E Hin A₀ σ Q ((op d d2).bd (Cs aQ)):=q;refine ho (os++A₀) H2 _ d d2 u v (S'.2.2.2.bL.mono s2) (ru.mono (s2.ak _)) rv zu zv ?_
   cases ya:op d d2 with
   |ex c=>rw [ya] at q; exact fun H3 s3=>q H3 ((S'.1.trans s2).trans s3)
   |bad=>rw [ya] at q; exact q
   |ok d3=>
    rw [ya] at q;intro w3 H3 s3 r3 z3
    cases d3 with
    |bl b=>
     simp only [Rep] at r3;exact⟨b,r3,q H3 ⟨os,(S'.mono s2).mono s3⟩⟩
    |_=>exact(show False from q).elim
end
section
variable {P:Program}{w:World}{K:ah}{mg:Str->Option Value}{base:Heap}{cls:Nat->Addr}{x qual:Str}{st:Stmt}{f:Addr}{fd:FuncData}{k:Nat}
theorem afp {N ps:List Str}{np n:Nat}{G:GB}{tabs:jg}(F:eP K x qual st f fd)(S:bC N ps (ay st))(hp:ps.length=np+1)(hn:N.length=np+1+n)
  (hB:∀(aw:Value) (A:Around) (outer:List Env) (s:Shared) (H:Hp) (E:XK),aw=fd.code->(∀t∈tabs,H t.2.1=some (.dG t.2.2))->bF k (A.deeper (envOfC qual (ay st) s.heap.objs.size f aw))->
   Rz (bW (aE P w) P w K mg base N qual (ay st) f aw A outer s H E) E->ed (bW (aE P w) P w K mg base N qual (ay st) f aw A outer s H E) (dg st) (ml (mn K cls E 0 G)))
  (hf:ps=[dR]->(ay st).names.lookup dR=some .local:=by first | assumption | decide +kernel):cR P w K mg base (aE P w) (k+1) f fd ps (Ap K cls tabs (qe np n G)):=by
 have len:∀vs H Q E,ek K cls (fun _=>qe np n G) vs H Q E->vs.length=np+1:=fun vs H Q E h_=>by
  obtain⟨p,v,ws,A,x,y,ds,e1,_,L,hb,r,z,q⟩:=h_;subst e1;unfold qe at q
  split at q
  ·rename_i hl
   rw [eh,← r.length,hl]
  ·exact(show False from q).elim
 obtain⟨oc,od,kV,doc,pm,an,aw,ct,iC,rfl,lk,e9⟩:=F.ex;refine IZ lk e9 S hf (fun vs H Q E h=>by rw [hp]; exact len vs H Q E h.2) fun A outer s H vs Q E hr h=>?_;obtain⟨ht,h⟩:=h;have hv:=len vs H Q E h;refine⟨_,hB aw A outer s H E rfl ht hr Fm,?_⟩;obtain⟨p,v,ws,B,x,y,ds,rfl,uY,L,hb,r,z,q⟩:=h;unfold qe at q
 split at q
 rotate_left
 ·exact(show False from q).elim
 have bz:start N (v::ws)=some v::(ws.map some++bM n none):=by
  unfold start;rw [hn,hv,wA];rfl
 rw [bz];exact⟨[],B,.bor none x y::(ds.map Bd.val++bM n .no),v,x,y,QY (p:=none) L r z hb (fun a ha=>nomatch ha),rfl,rfl,hb,q⟩
end
section
variable {X:Cx}{cls:Nat->Addr}{E:XK}{body:Expr}{g:GB}{params:Arguments}{scope:Scope}{N:List Str}{fr cs:List Nat}{c P:Addr}{q:Str}{i j k:Nat}{p abn pos:Pos}
theorem agw {fr:List Nat}{ρ:aa}(h:fr[j]?=some i):oM (jz fr ρ)[j]?=oM ρ[i]?:=by
 unfold jz;rw [jT,h];show oM (some (qI ρ[i]?))=_
 cases ρ[i]? with
 |none=>rfl
 |some b=>cases b <;> rfl
theorem WC {fr:List Nat}{σ:St}{v:V}(h:fr[j]?=some i)(hv:σ[i]?=some (some v)):(di 0 fr σ)[j]?=some (some v):=by
 unfold di;simp only [Dr,nH,jT,h];simp [hv]
theorem Ca (TR:KL X.prog X.w X.K X.mg X.base cls cs k)(hr:bF (k+2) X.A)(hx:Passes (aE X.prog X.w) X E)(hg:Gl X "_law_told")(S:KY X scope N fr)(BL:X.env.code=.ref c)(B:oP X.mg X.base c P)(hT:X.a8 P=some (.dG q))(hq:X.env.qual ++ "<lambda>" = q)(hj:fr[j]?=some i)
  (HW:defaultsOf params X.env=([],[])) (yq:∀fd:FuncData,fd.params=params->fd.defaults=.none->fd.kwdefaults=.none->bindArgs fd ⟨[],[]⟩=pure [])
  (gP:∀(f:Addr) (cv:Value) (A:Around) (outer:List Env) (s2:Shared) (H2:Hp) (E:XK),bF k (A.deeper (envX q scope s2.heap.objs.size f cv (eu scope.names X.env.cells)))->Rz (fH (aE X.prog X.w) X.prog X.w X.K X.mg X.base N q scope f cv (eu scope.names X.env.cells) A outer s2 H2 E) E->
   l6 (fH (aE X.prog X.w) X.prog X.w X.K X.mg X.base N q scope f cv (eu scope.names X.env.cells) A outer s2 H2 E) cls E j body g) :
  l6 X cls E i (.Call (.Name "_law_told" p) [.Lambda params body scope abn] [] pos) (kr i cs fr g):=by
 obtain⟨f,hm,hk,run⟩:=TR;intro pins s σ H Q I ⟨O,A,ρ,v,x,y,Ft,fB,hv,hb,hQ⟩;refine wpAny_Call_Name_kw (uQ I hg hm ?_ (by decide));refine zM (h₀:=X.base) I.ok.mod.lF hk ?_ rfl rfl;refine md (abO I (S.c.cells I.ok) BL B (I.base.d8 P q hT) hq HW fun g' c' gu s' H' I' sm rV fT=>nI ⟨I'.e8,?_⟩);have cj:=hb.mono sm;refine wpAny_call (codeAny_mono (run X.A X.stack s' H' g' _ _ (Dt×List Dt×List Dt) (g (jz fr ρ)) (fun r Q=>sQ X.K A v x y H' Q r) Q E hr I'.yB I'.tk rV ⟨_,rfl⟩ (fun A' FY s2 Q' E' Hx e0' Hr Vm q'=>?_) ?_) fun r s2 hq=>?_)
 ·exact abN (t:=fun E=>mn X.K cls E j g) S I' Vm e0' Hx rV fT yq gP ⟨[],A,jz fr ρ,v,x,y,(Ft.mono sm).jz fr,by rw [agw hj]; exact fB,WC hj hv,cj,q'⟩ Hr
 ·unfold kr at hQ
  rw [fB] at hQ
  cases hm:g (jz fr ρ) with
  |ok r=>rw [hm] at hQ; exact sQ.mono hQ sm hb
  |bad=>rw [hm] at hQ; exact hQ
  |ex c=>
   rw [hm] at hQ;have q':Rg cls E (if c∈cs then .ok (.str (iw c),x,y) else .bad) H (sQ X.K A v x y H Q):=hQ
   split at q'
   ·rename_i HX
    refine⟨HX,fun H2 s2=>?_⟩;exact q' _ H2 ((bP).trans (sm.trans s2)) (hb.mono (sm.trans s2)) (hb.fp (sm.trans s2)) mz (by have:=UY c; simp only [L2.sm]; omega)
   ·exact(show False from q').elim
 ·cases r with
  |error e=>exact hx pins σ H' s' e s2 I' hq
  |ok fl=>
   cases fl with
   |ret u=>exact I'.after hq
   |next=>exact dN hq
   |brk=>exact dN hq
   |cont=>exact dN hq
end
theorem dC.Aj {P:Program}{w:World}{H:Hp}{h:Heap}{a b:Addr}{ob:Obj}{kvs:List (Key×V)}(ha:H a=some (.bE ob (.dK kvs)))(hd:∀vs,ob.data≠.fields vs){u:HO}(x:dC P w H h b u):dC P w (upd H a (.dK kvs)) h b u:=by
 have ne:∀{c o},H c=some o->(∀p q,o≠.bE p q)->upd H a (.dK kvs) c=some o:=fun {c o} e n=>by
  rw [aF (fun z=>by rw [z,ha] at e; cases e; exact n _ _ rfl)];exact e
 induction u with
 |ins C dx fs=>obtain⟨d,r⟩:=x; exact⟨ne d (fun _ _ z=>nomatch z),r⟩
 |dT akn=>
  obtain⟨z,y,xs,r,q⟩:=x;exact⟨z,y,xs,Paired.Bf r fun p q z=>⟨z.1,ne z.2.1 (fun _ _ z=>nomatch z),z.2.2⟩,q⟩
 |dG q=>
  obtain⟨ps,e,t,hc⟩:=x;refine⟨ps,e,t,fun pos cv yn=>?_⟩;obtain⟨c,oc,u,e1,e2,vs,tt,e3,e4⟩:=hc pos cv yn;refine⟨c,oc,u,e1,?_,vs,tt,e3,e4⟩;rw [aF (fun z=>by rw [z,ha] at e2; cases e2; exact hd _ e3)];exact e2
 |bE o u ih=>exact⟨x.1,ih x.2⟩
 |_=>exact x
theorem Inv.Aj {X:Cx}{pins:List (Addr×Obj)}{σ:St}{H:Hp}{s:Shared}{a:Addr}{ob:Obj}{kvs:List (Key×V)}(I:Inv X pins σ H s)(ha:H a=some (.bE ob (.dK kvs)))(h0:∀o u,X.a8 a≠some (.bE o u)):Inv X pins σ (upd H a (.dK kvs)) s:=by
 have ok:=I.au a _ ha;obtain⟨go,z,na,vs,r,o,es,ep,g,_,hd,_⟩:=id ok;rw [go] at g;cases g;have qa:∀vs,ob.data≠.fields vs:=fun vs e=>by rw [hd] at e; cases e
 have nn:∀{b},H b=none->upd H a (.dK kvs) b=none:=fun {b} e=>by
  rw [aF (fun z=>by rw [z,ha] at e; cases e)];exact e
 have ns:∀{b u},H b=some u->(∀p q,u≠.bE p q)->upd H a (.dK kvs) b=some u:=fun {b u} e n=>by
  rw [aF (fun z=>by rw [z,ha] at e; cases e; exact n _ _ rfl)];exact e
 refine⟨I.ok,I.os,I.bare,⟨I.base.keep,I.base.slot,fun b o e n hx=>nn (I.base.free b o e n hx),I.base.there,fun b xs e=>ns (I.base.eU b xs e) (fun _ _ z=>nomatch z),fun b o u e=>?_,fun b q e=>ns (I.base.d8 b q e) (fun _ _ z=>nomatch z)⟩,I.loc,I.cell,nn I.free,fun x c e=>nn (I.fi x c e),fun p hp=>?_,fun b u e=>?_,I.len,I.tk⟩
 ·rw [aF (fun z=>h0 o u (by rw [← z]; exact e))]
  exact I.base.et b o u e
 ·obtain⟨h1,h2,h3⟩:=I.pin p hp
  exact⟨h1,nn h2,h3⟩
 ·by_cases hb:b=a
  ·subst hb
   rw [aX] at e;cases e;exact(ok.2).Aj ha qa
  ·rw [aF hb] at e
   exact(I.au b u e).Aj ha qa
section
variable {X:Cx}{cls:Nat->Addr}{E:XK}{a b c o e:Expr}{f g h:aa->M Dt}{pos apos k7:Pos}{i j k:Nat}{es:List Expr}{fs:aa->M (List Dt)}
theorem Wm {t:aa->M Bool}{s u:SM}{sa sb:List Stmt}(i:Nat)(hc:Tv X cls E c t)(ha:Bv X cls E sa s)(hb:Bv X cls E sb u):Sv X cls E (.If c sa sb pos) (uA i t s u):=fun pins sh σ H D I h_=>by
 obtain⟨Hin,A₀,ρ,S,q⟩:=h_
 by_cases hz:∃ks,ρ[i]?=some (.cg ks)
 ·obtain⟨ks,hk⟩:=hz
  obtain⟨p,h1,h2⟩:=S.M6 hk;obtain⟨ob,I'⟩:=I.freeze h1;obtain⟨lC,S'⟩:=h2 ob;unfold uA lend at q;rw [hk] at q;have q:jN X.K cls E Hin A₀ ((t (ρ.set i (.val (.aj ks)))).bd fun b=>if b=true then s ρ else u ρ) D:=q;refine wpAny_If (aG (hc pins sh σ _ (fun b H1=>ax (upd H p (.bE ob (.dK (bh ks)))) H1/\jN X.K cls E Hin A₀ (if b=true then s ρ else u ρ) D) I' ⟨lC,lC++A₀,_,S'.2.2.2,?_⟩) fun d s1 ⟨H1,I1,s',q1⟩=>?_)
  ·cases ht:t (ρ.set i (.val (.aj ks))) with
   |ok d=>rw [ht] at q; exact fun H' s'=>⟨s',q⟩
   |ex c=>rw [ht] at q; exact fun H' s'=>q H' (S'.1.trans s')
   |bad=>rw [ht] at q; exact q
  ·have I2:=I1.Aj (s' p _ aX) fun o u e=>by
    have:=I.base.et p o u e;rw [h1] at this;cases this
   have ss:ax H (upd H1 p (.dK (bh ks))):=fun b o e=>by
    by_cases BO:b=p
    ·rw [BO,aX]; rw [BO,h1] at e; exact e
    ·rw [aF BO]; exact s' b o (by rw [aF BO]; exact e)
   obtain⟨os,S⟩:=S
   cases d with
   |true=>exact ha pins s1 σ _ D I2 ⟨Hin,A₀,ρ,⟨os,S.mono ss⟩,q1⟩
   |false=>exact hb pins s1 σ _ D I2 ⟨Hin,A₀,ρ,⟨os,S.mono ss⟩,q1⟩
 ·have e:lend i ρ=ρ:=by
   unfold lend
   split
   ·rename_i ks hk; exact(hz ⟨ks,hk⟩).elim
   ·rfl
  unfold uA at q;rw [e] at q;exact dO hc ha hb pins sh σ H D I ⟨Hin,A₀,ρ,S,q⟩
theorem ags (hc:X.calm=true):fj X (.type "dict") (fun xs H Q=>∃a ts ds ps,xs=[V.ref a]/\bX X.K H a ts/\ar X.K H ds ts/\iA ds=some ps/\ps.length<=10000/\∀p,H p=none->Q (.ref p) (upd H p (.dK (bh (jE [] ps))))):=by
 intro pins s σ H xs us Q I r h;obtain⟨a,ts,ds,ps,rfl,hs,hr,hp,hl,q⟩:=h;obtain⟨u,rfl,ru⟩:=vals1 r;obtain rfl:u=bO a:=ru;obtain⟨ao,rv,⟨⟨oc,od,odt,iC⟩,n,e,c1,c2,c3⟩,_⟩:=I.list hs
 simp only at c1 c2 c3
 subst c1 c2 c3;obtain⟨rs,h1,h2,h3⟩:=NJ I hr hp rv;have hlen:=KV.length h1;rw [Jt] at hlen;refine afy (I.ok.hd hc) e (rs:=rs) (by simp [h2]) (by omega) (fun j v hj=>h3 j v (by simpa using hj)) fun h' tk hD k=>?_;intro ht;have rel:KV (bh (jE [] ps)) (merged [] rs):=by
  rw [← Js];exact KV.merge h1 .nil
 have vc:=GQ (bh ps) (bh []);rw [Js,Jt ps] at vc;have hz:(bh (jE [] ps)).length<=sizeLine:=by
  have:sizeLine≥10000:=by decide
  simp only [bh,iK,ma] at vc ⊢;omega
 exact⟨.ref s.heap.objs.size,_,I.laid (a:=s.heap.objs.size) (o:=.dK (bh (jE [] ps))) (h':=h') (t':=tk) k (bb _) (yD hz (beq_eq_false_iff_ne.mpr (cb (bQ I.big))) rel hD) ht,rfl,q _ (I.au.fresh (bb _))⟩
theorem Wk {i:Nat}{x:Str}{pos' dp cp:Pos}(hN:X.N.Nodup)(hi:X.N[i]?=some x)(hx:Loc X.env.scope x)(hc:X.calm=true)(hg:Gl X "dict")(hm:X.mg "dict" = none)(he:Ev X cls E a f)(bz:isStar a=false)
  (hs:swapsWith (.Call (.Name "dict" dp) [a] [] cp) (some (.Name x pos')) pos.line X.env=pure false:=by rfl)
  (hf:X.fn x=true∨X.env.scope.names.lookup x=some .local:=by first | exact .inl rfl | exact .inr rfl | assumption):Sv X cls E (.Assign [.Name x pos'] (.Call (.Name "dict" dp) [a] [] cp) pos) (Au i f):=
 (n3 hN hi hx (AO (ags hc) hg hm boot_dict (@ba _ _ _ _ _ bz he cC) (by decide) (by decide) (j6 bz) rfl) hs hf).imp fun D σ H ⟨Hin,A₀,ρ,⟨os,S⟩,q⟩=>by
 have F:=S.2.2.2;refine⟨os,os++A₀,ρ,F,lq S.1 q fun d v H' _ q1 s' r z=>?_⟩
 cases d with
 |lst ds=>
  obtain⟨p,xs,rfl,h1,h2⟩:=fQ r;simp only [NM] at q1
  split at q1
  ·rename_i ps P5
   obtain⟨e1,e2⟩:=Nq P5 z.2;have:=z.1;exact⟨p,xs,ds,ps,rfl,bP.seq h1,h2.mono bP,P5,by omega,fun p' fE=>q1 _ _ ⟨p'::os,(S.mono s').freshD fE (MO ps [] ⟨by simp,fun _ z=>nomatch z⟩ e2 (by simp; omega))⟩⟩
  ·exact(show False from q1).elim
 |_=>exact(show False from q1).elim
theorem WN:qv X (fun x lo hi H Q=>∃p xs n,x=.ref p/\cP X.K H p xs/\1<=n/\n<=xs.length/\lo=some ((n:Nat):Int)/\hi=none/\∀p',H p'=none->Q (.ref p') (upd H p' (.tup (xs.drop n)))):=by
 intro pins s σ H x v vl vu lo hi sl Q I rx hs pl pu h;obtain⟨p,xs,n,rfl,hx,h1,h2,rfl,rfl,q⟩:=h;cases rx;cases pl;cases pu;obtain⟨ao,r,ht,hz⟩:=I.tuple hx;have hlen:=r.length;refine⟨"tuple",_,slot_tuple_getitem.lookup,ht.typeIs,?_⟩
 refine getItem_tuple_from ht hs h1 (by rw [fN]; omega) ?_ (by rw [fN]; omega);refine(fun ht=>⟨.ref s.heap.objs.size,_,I.laid (t':=s.toks) (o:=.tup (xs.drop n)) (fun b ob q=>aZ _ q) (bb _) ?_,rfl,q _ (I.au.fresh (bb _))⟩);exact⟨by rw [wH]; omega,ao.drop n,r.drop n,_,cS _ rfl,rfl,_,rfl⟩
theorem Jj {FX:Pos}{n:Nat}(he:Ev X cls E a f)(hn:1<=n)(hl:PO X (some o) (uu X.K cls E (gG (some (pC (.int n)))))):Ev X cls E (.Subscript a (.Slice (some o) none none FX) pos) (p1 (pJ n) f):=
 (NA WN he hl (AW (cls:=cls) (E:=E))).imp fun σ H Q ⟨O,A,ρ,F,q⟩=>by
 refine⟨O,A,ρ,F,Rg.bind q fun d _ q1=>?_⟩;intro v H1 s1 r1 z1;refine⟨O,A,ρ,F.mono s1,?_⟩;intro H2 s2;refine⟨O,A,ρ,(F.mono s1).mono s2,?_⟩;intro H3 s3;have q2:=Res.mono (Q:=Q) q1 ((s1.trans s2).trans s3)
 cases d with
 |tup ds=>
  simp only [pJ] at q2
  split at q2
  ·rename_i ye
   obtain⟨p,xs,rfl,h1,h2⟩:=hZ (r1.mono ((s2.trans s3).ak A));have hlen:=h2.length;exact⟨p,xs,n,rfl,bP.fP h1,hn,by omega,rfl,rfl,fun p' hp=>q2 (.ref p') _ (.upd hp) (qZ (ou (((F.bL.mono s1).mono s2).mono s3) hp) ((Fu n h2).mono ((ax.upd hp).ak A))) ⟨by rw [wH]; have:=z1.1; omega,mr fun d hd=>hV z1.2 (List.mem_of_mem_drop hd)⟩⟩
  ·exact(show False from q2).elim
 |_=>exact(show False from q2).elim
theorem ag4 (ρ:aa)(ds:List Dt)(h:aq ρ=.ok ds):ds.length=([]:List Expr).length:=by cases h; rfl
theorem CC {e:Expr}{es:List Expr}{f:aa->M Dt}{fs:aa->M (List Dt)}(h:∀ρ ds,fs ρ=.ok ds->ds.length=es.length)(ρ:aa)(ds:List Dt)(q:af f fs ρ=.ok ds):ds.length=(e::es).length:=by
 unfold af at q
 cases h1:f ρ with
 |ok d=>
  cases h2:fs ρ with
  |ok r=>rw [h1,h2] at q; cases q; rw [eh,eh,h ρ r h2]
  |ex c=>rw [h1,h2] at q; cases q
  |bad=>rw [h1,h2] at q; cases q
 |ex c=>rw [h1] at q; cases q
 |bad=>rw [h1] at q; cases q
theorem Wo {x:Str}{p px pt iz:Pos}{kt k2 n}{ts:List Expr}{gs:List Dt->aa->M aa}(C:La X.prog X.w X.K X.mg X.base k)(hr:bF (k+1) X.A)(hx:Passes (aE X.prog X.w) X E)(hg:Gl X "Board")(hc:X.calm=true)(hgi:PG X (.Name x px) (qc i))(yi:jP X ts (vk X.K gs))(he:Av X cls E es fs)(hl:es.length<=10:=by decide)
  (hm:(assignEach (.Name x px::ts) X.env).map (·.2)=assign (.Name x px) X.env::(assignEach ts X.env).map (·.2):=by rfl)
  (hn:(assignEach (.Name x px::ts) X.env).length=n:=by rfl) (bz:(assignEach (.Name x px::ts) X.env).findIdx? (·.1)=none:=by rfl) (hN:∀ds:List Dt,ds.length=es.length->(1+ds.length)=n)
  (hlen:∀ρ ds,fs ρ=.ok ds->ds.length=es.length)
  (hs:swapsWithSole [.Tuple (.Name x px::ts) kt pt] (.Tuple (.Call (.Name "Board" p) [] [] pos::es) k2 iz) k7.line X.env=pure false:=by rfl)
  (hw:swappedStores [.Tuple (.Name x px::ts) kt pt] (.Tuple (.Call (.Name "Board" p) [] [] pos::es) k2 iz) X.env=pure none:=by rfl) :
  Sv X cls E (.Assign [.Tuple (.Name x px::ts) kt pt] (.Tuple (.Call (.Name "Board" p) [] [] pos::es) k2 iz) k7) (qW i gs fs):=
 (Np (AL (@ba _ _ _ _ _ rfl (YY C hr hx hg) he)) (Ny (n:=n) hc (Nx hgi yi hm) hn bz) hs hw rfl).imp fun D σ H ⟨Hin,A₀,ρ,⟨os,S⟩,q⟩=>by
 intro a dx l m C H1 hC hn nd h1 h2 h3 h4 hk;have s1:=aaP hn hk;have F:=S.2.2.2;have F1:bu X.K os (([a,dx,l,m]++os)++A₀) ρ σ H1:=by
  rw [nK];refine F.wide s1 hn fun b hb=>?_;simp only [bf,fw,or_false] at hb;rcases hb with rfl | rfl | rfl | rfl <;> simp [*]
 refine⟨os,([a,dx,l,m]++os)++A₀,ρ,F1,?_⟩
 cases hf:fs ρ with
 |bad=>unfold qW at q; rw [hf] at q; exact q
 |ex c=>unfold qW at q; rw [hf] at q; exact fun H' s'=>q H' ((S.1.trans s1).trans s')
 |ok ds=>
  have hd:=hlen ρ ds hf;unfold qW at q;rw [hf] at q;have q:jN X.K cls E Hin A₀ ((gs ds (ρ.set i (.aW [] []))).calm.bd fun aQ=>.ok (.nx aQ)) D:=q;intro vs H2 s2 r z;have hvl:=r.length;refine⟨by show vs.length+1<=_; exact cK (by omega:vs.length+1<=11) (k9 (by decide)),fun T hT=>?_⟩;have s3:ax H2 (upd H2 T (.tup (.ref a::vs))):=.upd hT;refine⟨T,.ref a::vs,rfl,.of aX,by rw [← hN ds hd,eh]; omega,_,_,rfl,?_⟩;have S2:=S.aaQ (i:=i) ((s1.trans s2).trans s3) hC hn nd (s3 _ _ (s2 _ _ h1)) (s3 _ _ (s2 _ _ h2)) (s3 _ _ (s2 _ _ h3)) (s3 _ _ (s2 _ _ h4))
  cases hg:gs ds (ρ.set i (.aW [] [])) with
  |bad=>rw [hg] at q; exact(show False from q).elim
  |ex c=>rw [hg] at q; exact(show False from q).elim
  |ok aQ=>
   rw [hg] at q;exact⟨_,_,_,ds,S2.2.2.2,r.mono (s3.ak _),z,aQ,hg,fun aL F'=>q aL _ ⟨[a,dx,l,m]++os,S2.1,S2.2.1,S2.2.2.1,F'⟩⟩
theorem aeL {p p2 pD:Pos}(hc:X.calm=true)(HQ:Gl X "len")(vc:X.mg "len" = none)(yi:Gl X "set")(HG:X.mg "set" = none)(ha:Ev X cls E e f)(bz:isStar e=false) :
  Ev X cls E (.Call (.Name "len" p) [.Call (.Name "set" p2) [e] [] pD] [] pos) (p1 rj f):=by
 intro pins s σ H Q I ⟨O,A,ρ,F,q⟩;refine wpAny_Call_Name_kw (mH I HQ vc ft ?_ (by decide) (by decide));refine DI (e:=.Call (.Name "set" p2) [e] [] pD) (rest:=[]) ?_ rfl rfl
 refine md (x:=eval (.Call (.Name "set" p2) [e] [] pD) X.env) ?_
 refine wpAny_Call_Name_kw (mH I yi HG (show bootBuiltins "set" = some (.type "set") from by decide +kernel) ?_ (by decide) (by decide))
 refine sZ (e:=e) (rest:=[]) ?_ (j6 bz) rfl;rw [j6 bz];refine md (x:=eval e X.env) (aG (ha pins s σ H (fun x H1=>∃d,ax H H1/\Rep X.K (ak H1 A) d x/\sm d/\Res X.K cls A E (rj d) H1 Q) I ⟨O,A,ρ,F,Rg.bind q fun d _ q1=>?_⟩) fun u s1 ⟨x,H1,I1,r1,d,EI,rp,zd,q1⟩=>?_)
 ·intro x H1 s1 r1 z1
  exact⟨d,s1,r1,z1,Res.mono q1 s1⟩
 refine nI ?_
 cases d with
 |lst ds=>
  simp only [rj] at q1
  split at q1
  ·rename_i hlen
   cases hs:mL ds with
   |none=>rw [hs] at q1; exact(show False from q1).elim
   |some ls=>
    rw [hs] at q1;obtain⟨pl,xs,rfl,h1,h2⟩:=fQ rp;cases r1;have hx:=ints_rep hs h2;subst hx;obtain⟨ao,rv,FO,hz⟩:=I1.list (bP.seq h1);have hl:ao.length=ls.length:=by have:=rv.length; simpa using this.symm
    have i4:ls.length<=1000:=by have:=h2.length; simp at this; omega
    refine MV (knd:=intKind X.prog X.w) (ks:=ls) (I1.ok.hd hc) FO.isList (fun i v hv=>?_) (by simp [hl]) (by simp [scanBound]; omega) fun h' tk hS hk=>?_
    ·have rN:ao[i]?=some v:=by simpa using hv
     have hi:i<ao.length:=(eF.mp rN).1;have pX:i<ls.length:=by omega
     obtain⟨u,hu,ru⟩:=rv.get (i:=i) (x:=V.int ls[i]) (by simp [pX]);rw [rN] at hu;cases hu;obtain⟨t,rfl⟩:=ru;exact⟨ls[i],by simp [pX],intKind_is X.prog X.w _ _,rfl⟩
    ·refine nI ?_
     obtain⟨o,es,ep,t,ho,hex,hd,_,_,hb,hf,hn⟩:=hS;refine call_len_set ho hex hd hf (by have:es.size<4096:=hb; omega) ?_;rw [hn];exact(fun ht=>⟨.int (ls.eraseDups.length:Nat),H1,I1.kept hk,⟨_,rfl⟩,q1 _ H1 (.refl _) dP trivial⟩)
  ·exact(show False from q1).elim
 |_=>exact(show False from q1).elim
theorem aa8 {k1 k2 k3:List Nat}{v1 v2 v3:V}(oB:k1≠k2)(Io:k1≠k3)(Im:k2≠k3):og [] [(Kt k1,v1),(Kt k2,v2),(Kt k3,v3)]=[(Kt k1,v1),(Kt k2,v2),(Kt k3,v3)]:=by
 have ne:∀{a b:List Nat},a≠b->Kt a≠Kt b:=fun h e=>h (by injection e with e; injection e with e; simpa using congrArg jm e);simp [og,putK,ne oB,ne Io,ne Im]
theorem Va {k1 k2 k3 l:List Nat}{v1 v2 v3:V}:gB [(Kt k1,v1),(Kt k2,v2),(Kt k3,v3)] (Kt l)=if l=k1 then some v1 else if l=k2 then some v2 else if l=k3 then some v3 else none:=by
 have ne:∀{a:List Nat},decide (Kt a=Kt l)=decide (l=a):=fun {a}=>by
  rw [decide_eq_decide];exact⟨fun e=>by injection e with e; injection e with e; exact(by simpa using congrArg jm e:a=l).symm,fun e=>by rw [e]⟩
 unfold gB;simp only [iL,ne]
 by_cases h1:l=k1
 ·simp only [decide_eq_true h1,if_pos h1,Option.map_some]
 ·by_cases h2:l=k2
  ·simp only [decide_eq_false h1,decide_eq_true h2,if_neg h1,if_pos h2,Option.map_some]
  ·by_cases h3:l=k3
   ·simp only [decide_eq_false h1,decide_eq_false h2,decide_eq_true h3,if_neg h1,if_neg h2,if_pos h3,Option.map_some]
   ·simp only [decide_eq_false h1,decide_eq_false h2,decide_eq_false h3,if_neg h1,if_neg h2,if_neg h3,List.find?_nil,Option.map_none]
theorem aeS {k1 k2 k3:List Nat}{x1 x2 x3:Str}{j1 j2 j3 p1 p2 p3 dp}{a1 a2 a3:Expr}{f1 f2 f3:aa->M Dt}(e1:x1=⟨k1.toArray⟩)(e2:x2=⟨k2.toArray⟩)(e3:x3=⟨k3.toArray⟩)(oB:k1≠k2)(Io:k1≠k3)(Im:k2≠k3)(hu:X.A.units+50<cLine)(h1:Ev X cls E a1 f1)(h2:Ev X cls E a2 f2)(h3:Ev X cls E a3 f3)(hb:Ev X cls E b g)(hc:Ev X cls E c h)
  (m:M2 X (.Dict [some (.Constant (.str x1) j1 p1),some (.Constant (.str x2) j2 p2),some (.Constant (.str x3) j3 p3)] [a1,a2,a3] dp) "get" apos b c pos) :
  Ev X cls E (.Call (.Attribute (.Dict [some (.Constant (.str x1) j1 p1),some (.Constant (.str x2) j2 p2),some (.Constant (.str x3) j3 p3)] [a1,a2,a3] dp) "get" apos) [b,c] [] pos) (AU k1 k2 k3 f1 f2 f3 g h):=by
 subst e1 e2 e3;refine(Y5 (by omega) (Y4 (FN (jC (l:=k1) rfl) h1 (FN (jC (l:=k2) rfl) h2 (FN (jC (l:=k3) rfl) h3 YI))) rfl rfl (by simp) (by simp)) hb hc m).imp fun σ H Q h_=>?_;obtain⟨O,A,ρ,F,q⟩:=h_;intro p hp;have s0:ax H (upd H p (.dK [])):=.upd hp;refine⟨O,A,ρ,F.mono s0,Rg.heap (Rg.bind q fun d1 _ q1=>q1) s0 fun d1 _ q1=>?_⟩;intro v1 H1 s1 r1 z1;refine⟨O,A,ρ,(F.mono s0).mono s1,Rg.heap (Rg.bind q1 fun d2 _ q2=>q2) (s0.trans s1) fun d2 _ q2=>?_⟩;intro v2 H2 s2 r2 z2;refine⟨O,A,ρ,((F.mono s0).mono s1).mono s2,Rg.heap (Rg.bind q2 fun d3 _ q3=>q3) ((s0.trans s1).trans s2) fun d3 _ q3=>?_⟩;intro v3 H3 s3 r3 z3;have Hz:H3 p=some (.dK []):=s3 _ _ (s2 _ _ (s1 _ _ aX));refine⟨Hz,[(Kt k1,v1),(Kt k2,v2),(Kt k3,v3)],rfl,by simp,p,rfl,.inl ⟨_,.inl aX⟩,?_⟩;rw [aa8 oB Io Im];generalize QA:upd H3 p (.dK [(Kt k1,v1),(Kt k2,v2),(Kt k3,v3)])=H4;have Hy:H4 p=some (.dK [(Kt k1,v1),(Kt k2,v2),(Kt k3,v3)]):=by rw [← QA]; exact aX
 have pA:p∉A:=F.bL.fresh hp;have s4:ax H H4:=fun b o e=>by
  rw [← QA,aF (cN e hp)];exact s3 _ _ (s2 _ _ (s1 _ _ (s0 _ _ e)))
 refine⟨O,A,ρ,F.mono s4,Rg.heap (Rg.bind q3 fun d4 _ q4=>q4) s4 fun d4 _ q4=>?_⟩;intro y H5 s5 r5 z5;refine⟨O,A,ρ,(F.mono s4).mono s5,Rg.heap (Rg.bind q4 fun d5 _ q5=>q5) (s4.trans s5) fun d5 _ q5=>?_⟩;intro u H6 s6 r6 z6;have q6:=Res.mono (K:=X.K) (A:=A) (Q:=Q) q5 ((s4.trans s5).trans s6);obtain⟨b1,rfl⟩:∃b1,d1=.bl b1:=by
  cases d1 with
  |bl b=>exact⟨b,rfl⟩
  |_=>exact(show False from q6).elim
 obtain⟨b2,rfl⟩:∃b2,d2=.bl b2:=by
  cases d2 with
  |bl b=>exact⟨b,rfl⟩
  |_=>exact(show False from q6).elim
 obtain⟨b3,rfl⟩:∃b3,d3=.bl b3:=by
  cases d3 with
  |bl b=>exact⟨b,rfl⟩
  |_=>exact(show False from q6).elim
 have q6:Res X.K cls A E (R1 k1 k2 k3 b1 b2 b3 d5 d4) H6 Q:=q6;simp only [Rep] at r1 r2 r3;subst r1 r2 r3
 cases d4 with
 |str l=>
  have q6:∀v H',ax H6 H'->Rep X.K (ak H' A) (if l=k1 then .bl b1 else if l=k2 then .bl b2 else if l=k3 then .bl b3 else d5) v->sm (if l=k1 then .bl b1 else if l=k2 then .bl b2 else if l=k3 then .bl b3 else d5)->Q v H':=q6;refine⟨gB [(Kt k1,_),(Kt k2,_),(Kt k3,_)] (Kt l),by rw [cL r5]; exact jl.k (k:=Kt l) (s6 _ _ (s5 _ _ Hy)),?_⟩;rw [Va]
  by_cases c1:l=k1
  ·simp only [if_pos c1] at q6 ⊢
   exact q6 _ H6 (.refl _) eY trivial
  ·by_cases c2:l=k2
   ·simp only [if_neg c1,if_pos c2] at q6 ⊢
    exact q6 _ H6 (.refl _) eY trivial
   ·by_cases c3:l=k3
    ·simp only [if_neg c1,if_neg c2,if_pos c3] at q6 ⊢
     exact q6 _ H6 (.refl _) eY trivial
    ·simp only [if_neg c1,if_neg c2,if_neg c3] at q6 ⊢
     exact q6 _ H6 (.refl _) r6 z6
 |_=>exact(show False from q6).elim
end
end L2
namespace wo
open PySem L2 Pg PyProof.Rows PySem.W
local macro_rules
 | `(tactic| exists cz) => `(tactic| exact ⟨rfl, rfl, rfl, by decide +kernel, rfl, by decide +kernel, by decide +kernel, by decide +kernel⟩)
def top (i:Nat):Stmt:=PySem.Challenge.pw_tickrows_k87_whole_boards_back.main.body.getD i (.Pass ⟨0,0,0,0⟩)
abbrev E7:Stmt:=top 31
abbrev ET:Stmt:=top 35
abbrev EU:Stmt:=top 12
abbrev ES:Stmt:=top 13
abbrev EM:Stmt:=top 25
abbrev EL:Stmt:=top 24
abbrev EO:Stmt:=top 22
abbrev ER:Stmt:=top 19
abbrev EV:Stmt:=top 16
abbrev Fd:Stmt:=top 20
abbrev Fe:Stmt:=top 17
abbrev E9:Stmt:=top 21
abbrev Fc:Stmt:=top 18
abbrev E8:Stmt:=top 36
abbrev EN:Stmt:=top 26
abbrev EK:Stmt:=top 27
abbrev EW:Stmt:=top 37
abbrev E5:Stmt:=top 39
abbrev E1:Stmt:=top 40
abbrev EY:Stmt:=top 41
abbrev E3:Stmt:=top 44
abbrev E2:Stmt:=top 45
abbrev E6:Stmt:=top 46
abbrev E4:Stmt:=top 42
abbrev EZ:Stmt:=top 43
abbrev mv:Stmt:=top 47
abbrev j7:Stmt:=top 48
def ni (i:Nat):Stmt:=match top 34 with | .ClassDef _ _ _ b _ _ _ _ _ _ _=>b.getD i (.Pass ⟨0,0,0,0⟩) | _=>.Pass ⟨0,0,0,0⟩
abbrev Gy:Stmt:=ni 0
abbrev Gx:Stmt:=ni 1
abbrev Gz:Stmt:=ni 2
abbrev Gr:Stmt:=ni 3
abbrev GC:Stmt:=ni 4
abbrev Gw:Stmt:=ni 5
abbrev Gu:Stmt:=ni 6
abbrev GF:Stmt:=ni 7
abbrev GA:Stmt:=ni 8
abbrev Gv:Stmt:=ni 9
structure Tx (w:World) (K:ah) (mg:Str->Option Value) (z:Nat->Addr):Prop where
 len:mg "len" = none
 range:mg "range" = none
 min:mg "min" = none
 max:mg "max" = none
 all:mg "all" = none
 int:mg "int" = none
 str:mg "str" = none
 zip:mg "zip" = none
 isinstance:mg "isinstance" = none
 ValueError:mg "ValueError" = none
 set:mg "set" = none
 dict:mg "dict" = none
 tuple:mg "tuple" = none
 S8:mg "TickError" = some (.ref (z 8))
 T6:mg "Clash" = some (.ref (z 0))
 y9:mg "NoName" = some (.ref (z 1))
 Tj:mg "NoText" = some (.ref (z 2))
 Ti:mg "NoTick" = some (.ref (z 3))
 Th:mg "NoWave" = some (.ref (z 4))
 S7:mg "TooLong" = some (.ref (z 5))
 KI:mg "Unlike" = some (.ref (z 6))
 KS:mg "NoBack" = some (.ref (z 7))
 TL:∃t,mg "LETTERS" = some (.str ⟨#[97,98,99,100,101,102,103,104,105,106,107,108,109,110,111,112,113,114,115,116,117,118,119,120,121,122]⟩ t)
 TJ:∃t,mg "MOST_LETTERS" = some (.int 4 t)
 K9:∃a,mg "OPPOSITES" = some (.ref a)/\K7 w K a [([48],[49]),([49],[48]),([120],[120])]
 C6:∃a,mg "GATE_SIZES" = some (.ref a)/\K8 w K a [([110,111],1),([98,111,116,104],2),([101,105,116,104,101,114],2),([117,110,108,105,107,101],2)]
 Tn:∀a,mg "GATE_SIZES" = some (.ref a)->(a==sysModules)=false
 Rc:cJ K mg "is_name" E7 ["thing"]
 Q8:cJ K mg "refuse_no_name" ET ["name"]
 Q9:cJ K mg "of_one_length" EU ["waves"]
 Q7:cJ K mg "refuse_unlike" ES ["waves"]
 Q3:cJ K mg "with_name" EM ["sheet","name","wave"]
 Q2:cJ K mg "with_wave" EL ["sheet","name","wave"]
 Q5:cJ K mg "unlike_at" EO ["first","second"]
 Q6:cJ K mg "unlike" ER ["one","other"]
 Ra:cJ K mg "no" EV ["wave"]
 Rj:cJ K mg "both_at" Fd ["first","second"]
 f_both:cJ K mg "both" Fe ["one","other"]
 Rh:cJ K mg "either_at" E9 ["first","second"]
 Ri:cJ K mg "either" Fc ["one","other"]
 Rf:cJ K mg "gate_wave" E8 ["word","waves"]
 Q4:cJ K mg "wave_of" EN ["sheet","name"]
 Q1:cJ K mg "without_wave" EK ["sheet","name"]
 Rb:cJ K mg "move_last" EW ["source","target"]
 Rq:cJ K mg "_law_cell" E5 ["_law_script","_law_k"]
 Rm:cJ K mg "_law_pick" E1 ["_law_script","_law_k","_law_many"]
 Rk:cJ K mg "_law_wave" EY ["_law_script","_law_at","_law_many","_law_signs"]
 Ro:cJ K mg "_law_deed" E3 ["_law_script","_law_at","_law_known","_law_many"]
 Rn:cJ K mg "_law_made" E2 ["_law_word","_law_some"]
 Rr:cJ K mg "_law_behind" E6 ["_law_known","_law_deed_here"]
 Rp:cJ K mg "_law_class" E4 ["_law_kept"]
 Rl:cJ K mg "_law_told" EZ ["_law_deed_here"]
 aeE:cJ K mg "_law_did" mv ["_law_board","_law_deed_here"]
 aeD:cJ K mg "law" j7 ["_law_script"]
 Tw:TX K mg Gy
 Tu:nv K "put" "Board.put" Gx ["self","name","wave"]
 Tz:nv K "gate" "Board.gate" Gz ["self","name","word","names"]
 Tq:nv K "take" "Board.take" Gr ["self","name"]
 TF:nv K "do_step" "Board.do_step" GC ["self","step","behind"]
 Tt:nv K "sheet" "Board.sheet" Gw ["self"]
 Tr:nv K "steps" "Board.steps" Gu ["self"]
 TH:nv K "back" "Board.back" GF ["self"]
 TC:nv K "forth" "Board.forth" GA ["self"]
 Ts:nv K "sizes" "Board.sizes" Gv ["self"]
 o9:excIn K (z 1) mh "ValueError.__new__" = true
 tH:excIn K (z 6) mh "ValueError.__new__" = true
 tI:excIn K (z 7) mh "ValueError.__new__" = true
 vQ:isClsIn K (z 1)=true
 vN:findIn K (.ref (z 1)) "__getattribute__" = some (some (.builtin "BaseException.__getattribute__"))
 vK:findIn K (.ref (z 1)) "__getattr__" = some none
 vH:findIn K (.ref (z 1)) "__class__" = some (some (.builtin "object.__class__"))
 vE:specialIn K (.builtin "object.__class__") "__get__" = some (some (.builtin "getset_descriptor.__get__"))
 vB:takesIn K (.builtin "object.__class__")=some true
 vy:mroIn K (z 1) (.type "object")=some true
 vv:mroIn K (z 1) (.type "BaseException")=some true
 uN:exmOne K (.ref (z 1)) (.ref (z 8))=some true
 uf:kitOne K (.ref (z 1)) (.ref (z 0))=some false
 uc:kitOne K (.ref (z 1)) (.ref (z 7))=some false
 t9:kitOne K (.ref (z 1)) (.ref (z 1))=some true
 tX:kitOne K (.ref (z 1)) (.ref (z 2))=some false
 tU:kitOne K (.ref (z 1)) (.ref (z 3))=some false
 tR:kitOne K (.ref (z 1)) (.ref (z 4))=some false
 tO:kitOne K (.ref (z 1)) (.ref (z 5))=some false
 tK:kitOne K (.ref (z 1)) (.ref (z 6))=some false
 ui:kitOne K (.ref (z 1)) (.type "ValueError")=some true
 vP:isClsIn K (z 6)=true
 vM:findIn K (.ref (z 6)) "__getattribute__" = some (some (.builtin "BaseException.__getattribute__"))
 vJ:findIn K (.ref (z 6)) "__getattr__" = some none
 vG:findIn K (.ref (z 6)) "__class__" = some (some (.builtin "object.__class__"))
 vD:specialIn K (.builtin "object.__class__") "__get__" = some (some (.builtin "getset_descriptor.__get__"))
 vA:takesIn K (.builtin "object.__class__")=some true
 vx:mroIn K (z 6) (.type "object")=some true
 vt:mroIn K (z 6) (.type "BaseException")=some true
 uM:exmOne K (.ref (z 6)) (.ref (z 8))=some true
 ue:kitOne K (.ref (z 6)) (.ref (z 0))=some false
 ub:kitOne K (.ref (z 6)) (.ref (z 7))=some false
 tZ:kitOne K (.ref (z 6)) (.ref (z 1))=some false
 tW:kitOne K (.ref (z 6)) (.ref (z 2))=some false
 tT:kitOne K (.ref (z 6)) (.ref (z 3))=some false
 tQ:kitOne K (.ref (z 6)) (.ref (z 4))=some false
 tN:kitOne K (.ref (z 6)) (.ref (z 5))=some false
 tJ:kitOne K (.ref (z 6)) (.ref (z 6))=some true
 uh:kitOne K (.ref (z 6)) (.type "ValueError")=some true
 vR:isClsIn K (z 7)=true
 vO:findIn K (.ref (z 7)) "__getattribute__" = some (some (.builtin "BaseException.__getattribute__"))
 vL:findIn K (.ref (z 7)) "__getattr__" = some none
 vI:findIn K (.ref (z 7)) "__class__" = some (some (.builtin "object.__class__"))
 vF:specialIn K (.builtin "object.__class__") "__get__" = some (some (.builtin "getset_descriptor.__get__"))
 vC:takesIn K (.builtin "object.__class__")=some true
 vz:mroIn K (z 7) (.type "object")=some true
 vw:mroIn K (z 7) (.type "BaseException")=some true
 uO:exmOne K (.ref (z 7)) (.ref (z 8))=some true
 ug:kitOne K (.ref (z 7)) (.ref (z 0))=some false
 ud:kitOne K (.ref (z 7)) (.ref (z 7))=some true
 ua:kitOne K (.ref (z 7)) (.ref (z 1))=some false
 tY:kitOne K (.ref (z 7)) (.ref (z 2))=some false
 tV:kitOne K (.ref (z 7)) (.ref (z 3))=some false
 tS:kitOne K (.ref (z 7)) (.ref (z 4))=some false
 tP:kitOne K (.ref (z 7)) (.ref (z 5))=some false
 tL:kitOne K (.ref (z 7)) (.ref (z 6))=some false
 uj:kitOne K (.ref (z 7)) (.type "ValueError")=some true
section
variable {P:Program}{w:World}{K:ah}{mg:Str->Option Value}{base:Heap}{z:Nat->Addr}
theorem XB:bC ["thing"] ["thing"] (ay E7):=by exists cz
theorem ZX (T:Tx w K mg z):Cq P w K mg base z 1 "is_name" ["thing"] CZ:=
 have SC:=XB
 .of (b:=Lk) T.Rc SC rfl rfl fun f aw A outer s H E hr R=>(bA (dO (PW.pt (nQ (Af (Ae (aeP (by rfl) T.isinstance (by rfl) T.str (ag (pv 0)) rfl))) (pd (Af (Vp N0 N0 aN (fW jb (by rfl) T.len ft (ai rfl (ag (pv 0)) aC)) (yx (j9 (by rfl) T.TJ.choose_spec (v:=.int 4) ⟨_,rfl⟩) (fun _=>dP) trivial)))))) (bj (cc vq)) dW)
   (bj (cc (fW (Sz rfl) (by rfl) T.all boot_all (ai rfl (lR jB (N:=["sign"]) (k:=1) (fr:=[]) (fV (by decide)) rfl ⟨rfl,rfl,rfl,rfl,rfl,rfl⟩ (oi (ag (pv 0))) (fun _ _ _ _=>(df (cZ (i:=0) (show fL (α:=Str) ["sign"] from by decide +kernel) rfl (bq rfl) (dD rfl)))) (fun _ _ _ _=>j0) (fun _ _ _ _=>(lS aap (ag (pv 0)) (yx (j9 (by rfl) T.TL.choose_spec (v:=S [97,98,99,100,101,102,103,104,105,106,107,108,109,110,111,112,113,114,115,116,117,118,119,120,121,122]) ⟨_,rfl⟩) (fun _=>mz) (by show _<=10000; decide)) (by with_unfolding_all rfl)))) aC)))))
theorem Xd:bC ["name"] ["name"] (ay ET):=by exists cz
theorem NV (T:Tx w K mg z):Cq P w K mg base z 2 "refuse_no_name" ["name"] oR:=
 have SC:=Xd
 .of (b:=Lg) T.Q8 SC rfl rfl fun f aw A outer s H E hr R=>(bj (dO (Af (Ae (cA (ZX T) (hr.mono (by decide)) R.pass (ai rfl (ag (pv 0)) aC)))) (bj (xa (cn:=1) rfl R (by rfl) (by exact T.y9) (by exact T.o9) (LS (ag (pv 0))))) dW))
theorem Xe:bC ["waves"] ["waves"] (ay EU):=by exists cz
theorem ZU (T:Tx w K mg z):Cq P w K mg base z 1 "of_one_length" ["waves"] CW:=
 have SC:=Xe
 .of (b:=Lh) T.Q9 SC rfl rfl fun f aw A outer s H E hr R=>(bj (cc (fW (Sz rfl) (by rfl) T.all boot_all (ai rfl (lR jB (N:=["wave","waves"]) (k:=1) (fr:=[0]) (fV (by decide)) rfl ⟨rfl,rfl,rfl,rfl,rfl,rfl⟩ (oi (ag (pv 0))) (fun _ _ _ _=>(df (cZ (i:=0) (show fL (α:=Str) ["wave","waves"] from by decide +kernel) rfl (bq rfl) (dD rfl)))) (fun _ _ _ _=>j0) (fun _ _ _ _=>(lS (cM (bc hr)) (fW jb (by rfl) T.len ft (ai rfl (ag (pv 0)) aC)) (fW jb (by rfl) T.len ft (ai rfl (bH (ag (pv 1)) aN (fun _ _=>rfl)) aC)) (bD _)))) aC))))
theorem Xc:bC ["waves"] ["waves"] (ay ES):=by exists cz
theorem AZ (T:Tx w K mg z):Cq P w K mg base z 2 "refuse_unlike" ["waves"] ny:=
 have SC:=Xc
 .of (b:=De) T.Q7 SC rfl rfl fun f aw A outer s H E hr R=>(bj (dO (Af (Ae (cA (ZU T) (hr.mono (by decide)) R.pass (ai rfl (ag (pv 0)) aC)))) (bj (xa (cn:=6) rfl R (by rfl) (by exact T.KI) (by exact T.tH) (LU (a9 (l:=[116,104,101,32,119,97,118,101,115,32,104,97,118,101,32,117,110,108,105,107,101,32,108,101,110,103,116,104,115]))))) dW))
theorem W8:bC ["sheet","name","wave","told"] ["sheet","name","wave"] (ay EM):=by exists cz
theorem ZQ (T:Tx w K mg z):Cq P w K mg base z 1 "with_name" ["sheet","name","wave"] CS:=
 have SC:=W8
 .of (b:=Ld) T.Q3 SC rfl rfl fun f aw A outer s H E hr R=>(bA (MB (i:=3) SC.nd rfl (bq rfl) (by rfl) T.dict (ag (pv 0)) rfl)
   (bA (Ex (bc hr) (pv 3) (ag (pv 1)) (ag (pv 2)))
   (sP 3 (bj (cc (ag (pv 3)))))))
theorem W7:bC ["sheet","name","wave"] ["sheet","name","wave"] (ay EL):=by exists cz
theorem NT (T:Tx w K mg z):Cq P w K mg base z 3 "with_wave" ["sheet","name","wave"] ji:=
 have SC:=W7
 .of (b:=C9) T.Q2 SC rfl rfl fun f aw A outer s H E hr R=>(bA (qP (cA (AZ T) (hr.mono (by decide)) R.pass (ai rfl (bT dy (jJ (ai rfl (ag (pv 2)) aC)) (lR jB (N:=["other","sheet","name"]) (k:=1) (fr:=[0,1]) (fV (by decide)) rfl ⟨rfl,rfl,rfl,rfl,rfl,rfl⟩ (Hc (ag (pv 0))) (fun _ _ _ _=>(df (cZ (i:=0) (show fL (α:=Str) ["other","sheet","name"] from by decide +kernel) rfl (bq rfl) (dD rfl)))) (fun _ _ _ _=>(Ed (bU (mF (bc hr)) (ag (pv 0)) (ag (pv 2)) (bD _)))) (fun _ _ _ _=>(qg (bc hr) (ag (pv 1)) (ag (pv 0)) (fun _ _=>rfl))))) aC)))
   (bj (cc (cA (ZQ T) (hr.mono (by decide)) R.pass (ai rfl (ag (pv 0)) (ai rfl (ag (pv 1)) (ai rfl (ag (pv 2)) aC)))))))
theorem Xa:bC ["first","second"] ["first","second"] (ay EO):=by exists cz
theorem ZR (T:Tx w K mg z):Cq P w K mg base z 1 "unlike_at" ["first","second"] CU:=
 have SC:=Xa
 .of (b:=Le) T.Q5 SC rfl rfl fun f aw A outer s H E hr R=>(bA (dO (PW.pt (nQ (bU (cM (bc hr)) (ag (pv 0)) (a9 (l:=[120])) (bD _)) (pd (bU (cM (bc hr)) (ag (pv 1)) (a9 (l:=[120])) (bD _))))) (bj (cc (a9 (l:=[120])))) dW)
   (bj (cc (oG (bU (cM (bc hr)) (ag (pv 0)) (ag (pv 1)) (bD _)) (a9 (l:=[48])) (a9 (l:=[49]))))))
theorem Xb:bC ["one","other"] ["one","other"] (ay ER):=by exists cz
theorem ZS (T:Tx w K mg z):Cq P w K mg base z 3 "unlike" ["one","other"] CV:=
 have SC:=Xb
 .of (b:=Lf) T.Q6 SC rfl rfl fun f aw A outer s H E hr R=>(bA (qP (cA (AZ T) (hr.mono (by decide)) R.pass (ai rfl (jJ (ai rfl (ag (pv 0)) (ai rfl (ag (pv 1)) aC))) aC)))
   (bj (cc (B9 (ai rfl (lR jB (N:=["first","second"]) (k:=2) (fr:=[]) (BX (qb (fV (by decide)) (qb (fV (by decide)) BW))) rfl ⟨rfl,rfl,rfl,rfl,rfl,rfl⟩ (Ha (by rfl) T.zip (ai rfl (ag (pv 0)) (ai rfl (ag (pv 1)) aC))) (fun _ _ _ _=>(yu (n:=2) rfl (i8 (df (cZ (i:=0) (show fL (α:=Str) ["first","second"] from by decide +kernel) rfl (bq rfl) (dD rfl))) (i8 (df (cZ (i:=1) (show fL (α:=Str) ["first","second"] from by decide +kernel) rfl (bq rfl) (dD rfl))) vj)))) (fun _ _ _ _=>j0) (fun _ _ _ _=>(cA (ZR T) (hr.mono (by decide)) AR (ai rfl (ag (pv 0)) (ai rfl (ag (pv 1)) aC))))) aC) rfl))))
theorem Xf:bC ["wave"] ["wave"] (ay EV):=by exists cz
theorem ZV (T:Tx w K mg z):Cq P w K mg base z 1 "no" ["wave"] CY:=
 have SC:=Xf
 .of (b:=Li) T.Ra SC rfl rfl fun f aw A outer s H E hr R=>(bj (cc (B9 (ai rfl (lR jB (N:=["level"]) (k:=1) (fr:=[]) (fV (by decide)) rfl ⟨rfl,rfl,rfl,rfl,rfl,rfl⟩ (oi (ag (pv 0))) (fun _ _ _ _=>(df (cZ (i:=0) (show fL (α:=Str) ["level"] from by decide +kernel) rfl (bq rfl) (dD rfl)))) (fun _ _ _ _=>j0) (fun _ _ _ _=>(aeR T.K9.choose_spec.2 (by rfl) T.K9.choose_spec.1 (ag (pv 0)) (fun _ _=>rfl)))) aC) rfl)))
theorem XF:bC ["first","second"] ["first","second"] (ay Fd):=by exists cz
theorem Z1 (T:Tx w K mg z):Cq P w K mg base z 1 "both_at" ["first","second"] C3:=
 have SC:=XF
 .of (b:=Ln) T.Rj SC rfl rfl fun f aw A outer s H E hr R=>(bA (dO (PW.pt (nQ (bU (cM (bc hr)) (ag (pv 0)) (a9 (l:=[48])) (bD _)) (pd (bU (cM (bc hr)) (ag (pv 1)) (a9 (l:=[48])) (bD _))))) (bj (cc (a9 (l:=[48])))) dW)
   (bA (dO (PW.pt (nQ (bU (cM (bc hr)) (ag (pv 0)) (a9 (l:=[120])) (bD _)) (pd (bU (cM (bc hr)) (ag (pv 1)) (a9 (l:=[120])) (bD _))))) (bj (cc (a9 (l:=[120])))) dW)
   (bj (cc (a9 (l:=[49]))))))
theorem XG:bC ["one","other"] ["one","other"] (ay Fe):=by exists cz
theorem Z2 (T:Tx w K mg z):Cq P w K mg base z 3 "both" ["one","other"] C4:=
 have SC:=XG
 .of (b:=Lo) T.f_both SC rfl rfl fun f aw A outer s H E hr R=>(bA (qP (cA (AZ T) (hr.mono (by decide)) R.pass (ai rfl (jJ (ai rfl (ag (pv 0)) (ai rfl (ag (pv 1)) aC))) aC)))
   (bj (cc (B9 (ai rfl (lR jB (N:=["first","second"]) (k:=2) (fr:=[]) (BX (qb (fV (by decide)) (qb (fV (by decide)) BW))) rfl ⟨rfl,rfl,rfl,rfl,rfl,rfl⟩ (Ha (by rfl) T.zip (ai rfl (ag (pv 0)) (ai rfl (ag (pv 1)) aC))) (fun _ _ _ _=>(yu (n:=2) rfl (i8 (df (cZ (i:=0) (show fL (α:=Str) ["first","second"] from by decide +kernel) rfl (bq rfl) (dD rfl))) (i8 (df (cZ (i:=1) (show fL (α:=Str) ["first","second"] from by decide +kernel) rfl (bq rfl) (dD rfl))) vj)))) (fun _ _ _ _=>j0) (fun _ _ _ _=>(cA (Z1 T) (hr.mono (by decide)) AR (ai rfl (ag (pv 0)) (ai rfl (ag (pv 1)) aC))))) aC) rfl))))
theorem XD:bC ["first","second"] ["first","second"] (ay E9):=by exists cz
theorem ZZ (T:Tx w K mg z):Cq P w K mg base z 1 "either_at" ["first","second"] C0:=
 have SC:=XD
 .of (b:=Ll) T.Rh SC rfl rfl fun f aw A outer s H E hr R=>(bA (dO (PW.pt (nQ (bU (cM (bc hr)) (ag (pv 0)) (a9 (l:=[49])) (bD _)) (pd (bU (cM (bc hr)) (ag (pv 1)) (a9 (l:=[49])) (bD _))))) (bj (cc (a9 (l:=[49])))) dW)
   (bA (dO (PW.pt (nQ (bU (cM (bc hr)) (ag (pv 0)) (a9 (l:=[120])) (bD _)) (pd (bU (cM (bc hr)) (ag (pv 1)) (a9 (l:=[120])) (bD _))))) (bj (cc (a9 (l:=[120])))) dW)
   (bj (cc (a9 (l:=[48]))))))
theorem XE:bC ["one","other"] ["one","other"] (ay Fc):=by exists cz
theorem Z0 (T:Tx w K mg z):Cq P w K mg base z 3 "either" ["one","other"] C1:=
 have SC:=XE
 .of (b:=Lm) T.Ri SC rfl rfl fun f aw A outer s H E hr R=>(bA (qP (cA (AZ T) (hr.mono (by decide)) R.pass (ai rfl (jJ (ai rfl (ag (pv 0)) (ai rfl (ag (pv 1)) aC))) aC)))
   (bj (cc (B9 (ai rfl (lR jB (N:=["first","second"]) (k:=2) (fr:=[]) (BX (qb (fV (by decide)) (qb (fV (by decide)) BW))) rfl ⟨rfl,rfl,rfl,rfl,rfl,rfl⟩ (Ha (by rfl) T.zip (ai rfl (ag (pv 0)) (ai rfl (ag (pv 1)) aC))) (fun _ _ _ _=>(yu (n:=2) rfl (i8 (df (cZ (i:=0) (show fL (α:=Str) ["first","second"] from by decide +kernel) rfl (bq rfl) (dD rfl))) (i8 (df (cZ (i:=1) (show fL (α:=Str) ["first","second"] from by decide +kernel) rfl (bq rfl) (dD rfl))) vj)))) (fun _ _ _ _=>j0) (fun _ _ _ _=>(cA (ZZ T) (hr.mono (by decide)) AR (ai rfl (ag (pv 0)) (ai rfl (ag (pv 1)) aC))))) aC) rfl))))
theorem XC:bC ["word","waves"] ["word","waves"] (ay E8):=by exists cz
theorem ZY (T:Tx w K mg z):Cq P w K mg base z 4 "gate_wave" ["word","waves"] jQ:=
 have SC:=XC
 .of (b:=Df) T.Rf SC rfl rfl fun f aw A outer s H E hr R=>(bA (dO (bU (mF (bc hr)) (fW jb (by rfl) T.len ft (ai rfl (ag (pv 1)) aC)) (aeQ T.C6.choose_spec.2 (T.Tn _ T.C6.choose_spec.1) (by rfl) T.C6.choose_spec.1 (ag (pv 0)) rfl) (bD _)) (bj (xa (cn:=1) rfl R (by rfl) (by exact T.y9) (by exact T.o9) (LS (ag (pv 0))))) dW)
   (bA (dO (bU (cM (bc hr)) (ag (pv 0)) (a9 (l:=[110,111])) (bD _)) (bj (cc (cA (ZV T) (hr.mono (by decide)) R.pass (ai rfl (bH (ag (pv 1)) aN (fun _ _=>rfl)) aC)))) dW)
   (bA (dO (bU (cM (bc hr)) (ag (pv 0)) (a9 (l:=[98,111,116,104])) (bD _)) (bj (cc (cA (Z2 T) (hr.mono (by decide)) R.pass (ai rfl (bH (ag (pv 1)) aN (fun _ _=>rfl)) (ai rfl (bH (ag (pv 1)) aN (fun _ _=>rfl)) aC))))) dW)
   (bA (dO (bU (cM (bc hr)) (ag (pv 0)) (a9 (l:=[101,105,116,104,101,114])) (bD _)) (bj (cc (cA (Z0 T) (hr.mono (by decide)) R.pass (ai rfl (bH (ag (pv 1)) aN (fun _ _=>rfl)) (ai rfl (bH (ag (pv 1)) aN (fun _ _=>rfl)) aC))))) dW)
   (bj (cc (cA (ZS T) (hr.mono (by decide)) R.pass (ai rfl (bH (ag (pv 1)) aN (fun _ _=>rfl)) (ai rfl (bH (ag (pv 1)) aN (fun _ _=>rfl)) aC)))))))))
theorem W9:bC ["sheet","name"] ["sheet","name"] (ay EN):=by exists cz
theorem NU (T:Tx w K mg z):Cq P w K mg base z 1 "wave_of" ["sheet","name"] jj:=
 have SC:=W9
 .of (b:=Dc) T.Q4 SC rfl rfl fun f aw A outer s H E hr R=>(bA (dO (bU (NZ (bc hr)) (ag (pv 1)) (ag (pv 0)) (by with_unfolding_all rfl)) (bj (xa (cn:=1) rfl R (by rfl) (by exact T.y9) (by exact T.o9) (Vb (ag (pv 1))))) dW)
   (bj (cc (qg (bc hr) (ag (pv 0)) (ag (pv 1)) (fun _ _=>rfl)))))
theorem W6:bC ["sheet","name","told"] ["sheet","name"] (ay EK):=by exists cz
theorem ZP (T:Tx w K mg z):Cq P w K mg base z 2 "without_wave" ["sheet","name"] oQ:=
 have SC:=W6
 .of (b:=C8) T.Q1 SC rfl rfl fun f aw A outer s H E hr R=>(bA (qP (cA (NU T) (hr.mono (by decide)) R.pass (ai rfl (ag (pv 0)) (ai rfl (ag (pv 1)) aC))))
   (bA (MB (i:=2) SC.nd rfl (bq rfl) (by rfl) T.dict (ag (pv 0)) rfl)
   (bA (Wn (pv 2) (ag (pv 1)) ⟨rfl,rfl,rfl,rfl⟩)
   (sP 2 (bj (cc (ag (pv 2))))))))
theorem Xy:bC ["_law_script","_law_k"] ["_law_script","_law_k"] (ay E5):=by exists cz
theorem Z7 (T:Tx w K mg z):Cq P w K mg base z 1 "_law_cell" ["_law_script","_law_k"] C5:=
 have SC:=Xy
 .of (b:=Lu) T.Rq SC rfl rfl fun f aw A outer s H E hr R=>(bA (dO (bU xx (ag (pv 1)) (fW jb (by rfl) T.len ft (ai rfl (ag (pv 0)) aC)) (bD _)) (bj (cc (bH (ag (pv 0)) (ag (pv 1)) (fun _ _=>rfl)))) dW)
   (bA (dO (bU (cM (bc hr)) (ag (pv 0)) (jJ aC) (bD _)) (bj (cc aN)) dW)
   (bj (cc (bT dy (bT ri (bH (ag (pv 0)) (bT A2 (ag (pv 1)) (fW jb (by rfl) T.len ft (ai rfl (ag (pv 0)) aC))) (fun _ _=>rfl)) aN) (ag (pv 1)))))))
theorem Xt:bC ["_law_script","_law_k","_law_many","_law_drawn"] ["_law_script","_law_k","_law_many"] (ay E1):=by exists cz
theorem mD (T:Tx w K mg z):Cq P w K mg base z 2 "_law_pick" ["_law_script","_law_k","_law_many"] gS:=
 have SC:=Xt
 .of (b:=Lq) T.Rm SC rfl rfl fun f aw A outer s H E hr R=>(bA (eG (i:=3) SC.nd rfl (bq rfl) (bT A2 (bT ri (bT dy (cA (Z7 T) (hr.mono (by decide)) R.pass (ai rfl (ag (pv 0)) (ai rfl (ag (pv 1)) aC))) (bT ri aN (bT dy (ag (pv 1)) aN))) aN) aN))
   (bj (cc (bT A2 (bT A2 (bT dy (bT ri (ag (pv 3)) (ag (pv 3))) (bT aaq (ag (pv 3)) aN)) aN) (ag (pv 2))))))
theorem Xr:bC ["_law_script","_law_at","_law_many","_law_signs","_law_made_here","_law_k"] ["_law_script","_law_at","_law_many","_law_signs"] (ay EY):=by exists cz
theorem Z3 (T:Tx w K mg z):Cq P w K mg base z 3 "_law_wave" ["_law_script","_law_at","_law_many","_law_signs"] zh:=
 have SC:=Xr
 .of (b:=Lp) T.Rk SC rfl rfl fun f aw A outer s H E hr R=>(bA (eG (i:=4) SC.nd rfl (bq rfl) (bH (ag (pv 3)) (cA (mD T) (hr.mono (by decide)) R.pass (ai rfl (ag (pv 0)) (ai rfl (ag (pv 1)) (ai rfl (fW jb (by rfl) T.len ft (ai rfl (ag (pv 3)) aC)) aC)))) (fun _ _=>rfl)))
   (bA (xb rfl (ab8 (by rfl) T.range (ai rfl aN (ai rfl (ag (pv 2)) aC))) (df (cZ (i:=5) SC.nd rfl (bq rfl))) (bj (dO (bU (cM (bc hr)) (cA (mD T) (hr.mono (by decide)) kc (ai rfl (ag (pv 0)) (ai rfl (bT dy (ag (pv 1)) (bT ri aN (ag (pv 5)))) (ai rfl aN aC)))) aN (bD _)) (bj (eG (i:=4) SC.nd rfl (bq rfl) (bT dy (ag (pv 4)) (bH (ag (pv 4)) (Ji aN) (fun _ _=>rfl))))) (bj (eG (i:=4) SC.nd rfl (bq rfl) (bT dy (ag (pv 4)) (bH (ag (pv 3)) (cA (mD T) (hr.mono (by decide)) kc (ai rfl (ag (pv 0)) (ai rfl (bT dy (bT dy (ag (pv 1)) (bT ri aN (ag (pv 5)))) aN) (ai rfl (fW jb (by rfl) T.len ft (ai rfl (ag (pv 3)) aC)) aC)))) (fun _ _=>rfl))))))))
   (bj (cc (ag (pv 4))))))
theorem Xw:bC ["_law_script","_law_at","_law_known","_law_many","_law_names","_law_name","_law_way","_law_long","_law_word","_law_some"] ["_law_script","_law_at","_law_known","_law_many"] (ay E3):=by exists cz
theorem Z6 (T:Tx w K mg z):Cq P w K mg base z 4 "_law_deed" ["_law_script","_law_at","_law_known","_law_many"] zj:=
 have SC:=Xw
 .of (b:=Ls) T.Ro SC rfl rfl fun f aw A outer s H E hr R=>(bA (eG (i:=4) SC.nd rfl (dD rfl) (jJ (ai rfl (a9 (l:=[97])) (ai rfl (a9 (l:=[98])) (ai rfl (a9 (l:=[99,100])) (ai rfl (a9 (l:=[119,120,121,122])) aC))))))
   (bA (Wj (i:=5) (j:=6) rfl SC.nd rfl rfl (by decide) rfl rfl (ai rfl (bH (ag (pv 4)) (cA (mD T) (hr.mono (by decide)) R.pass (ai rfl (ag (pv 0)) (ai rfl (ag (pv 1)) (ai rfl aN aC)))) (fun _ _=>rfl)) (ai rfl (cA (mD T) (hr.mono (by decide)) R.pass (ai rfl (ag (pv 0)) (ai rfl (bT dy (ag (pv 1)) aN) (ai rfl aN aC)))) aC)) rfl)
   (bA (dO (PW.pt (nQ (bU xx (ag (pv 6)) aN (bD _)) (pd (bU (cM (bc hr)) (ag (pv 2)) Ru (bD _))))) (bA (eG (i:=7) SC.nd rfl (bq rfl) (bT dy (ag (pv 3)) (yy JF (by rfl) T.int boot_int (ai rfl (lS (cM (bc hr)) (cA (mD T) (hr.mono (by decide)) R.pass (ai rfl (ag (pv 0)) (ai rfl (bT dy (ag (pv 1)) aN) (ai rfl aN aC)))) aN (bD _)) aC))))
   (bj (cc (iH (ai rfl (a9 (l:=[112,117,116])) (ai rfl (ag (pv 5)) (ai rfl (cA (Z3 T) (hr.mono (by decide)) R.pass (ai rfl (ag (pv 0)) (ai rfl (bT dy (ag (pv 1)) aN) (ai rfl (fW (Sy rfl) (by rfl) T.min boot_min (ai rfl aN (ai rfl (ag (pv 7)) aC))) (ai rfl (a9 (l:=[48,49,120])) aC))))) aC))))))) dW)
   (bA (dO (bU (cM (bc hr)) (ag (pv 6)) aN (bD _)) (bj (cc (iH (ai rfl (a9 (l:=[116,97,107,101])) (ai rfl (ag (pv 5)) aC))))) dW)
   (bA (eG (i:=8) SC.nd rfl (bq rfl) (bH (jJ (ai rfl (a9 (l:=[110,111])) (ai rfl (a9 (l:=[98,111,116,104])) (ai rfl (a9 (l:=[101,105,116,104,101,114])) (ai rfl (a9 (l:=[117,110,108,105,107,101])) aC))))) (cA (mD T) (hr.mono (by decide)) R.pass (ai rfl (ag (pv 0)) (ai rfl (bT dy (ag (pv 1)) aN) (ai rfl aN aC)))) (fun _ _=>rfl)))
   (bA (Wh (i:=9) (N:=["_law_k","_law_script","_law_at","_law_names"]) (k:=1) (fr:=[0,1,4]) (fV (by decide)) rfl ⟨rfl,rfl,rfl,rfl,rfl,rfl⟩ (Hb (by rfl) T.range (ai rfl (oG (bU (cM (bc hr)) (ag (pv 8)) (a9 (l:=[110,111])) (bD _)) aN aN) aC)) (fun _ _ _ _=>(df (cZ (i:=0) (show fL (α:=Str) ["_law_k","_law_script","_law_at","_law_names"] from by decide +kernel) rfl (bq rfl) (dD rfl)))) (fun _ _ _ _=>j0) (fun _ _ _ _=>(bH (ag (pv 3)) (cA (mD T) (hr.mono (by decide)) kc (ai rfl (ag (pv 1)) (ai rfl (bT dy (bT dy (ag (pv 2)) aN) (ag (pv 0))) (ai rfl aN aC)))) (fun _ _=>rfl))) SC.nd rfl rfl)
   (bj (cc (bT N1 (iH (ai rfl (a9 (l:=[103,97,116,101])) (ai rfl (ag (pv 5)) (ai rfl (ag (pv 8)) aC)))) (yy Sx (by rfl) T.tuple (show PySem.bootBuiltins "tuple" = some (.type "tuple") from by decide +kernel) (ai rfl (ag (pv 9)) aC)))))))))))
theorem Xu:bC ["_law_word","_law_some","_law_made_here","_law_k","_law_levels","_law_here","_law_one","_law_other","_law_count","_law_level"] ["_law_word","_law_some"] (ay E2):=by exists cz
theorem Z4 (T:Tx w K mg z):Cq P w K mg base z 1 "_law_made" ["_law_word","_law_some"] wt:=
 have SC:=Xu
 .of (b:=Lr) T.Rn SC rfl rfl fun f aw A outer s H E hr R=>(bA (eG (i:=2) SC.nd rfl (bq rfl) (a9 (l:=[])))
   (sP 5 (bA (xb rfl (Hb (by rfl) T.range (ai rfl (fW jb (by rfl) T.len ft (ai rfl (bH (ag (pv 1)) aN (fun _ _=>rfl)) aC)) aC)) (df (cZ (i:=3) SC.nd rfl (dD rfl))) (bA (Wi (i:=4) (j:=5) rfl SC.nd rfl rfl (by decide) rfl rfl (aeT (N:=["_law_wave_here","_law_k"]) (k:=1) (fr:=[3]) (fV (by decide)) rfl ⟨rfl,rfl,rfl,rfl,rfl,rfl⟩ (oi (ag (pv 1))) (fun _ _ _ _=>(df (cZ (i:=0) (show fL (α:=Str) ["_law_wave_here","_law_k"] from by decide +kernel) rfl (bq rfl) (dD rfl)))) (fun _ _ _ _=>j0) (fun _ _ _ _=>(bH (ag (pv 0)) (ag (pv 1)) (fun _ _=>rfl)))) rfl rfl)
   (bA (xb rfl (oi (oG (bU (cM (bc hr)) (bH (ag (pv 4)) aN (fun _ _=>rfl)) (a9 (l:=[120])) (bD _)) (a9 (l:=[48,49])) (bH (ag (pv 4)) aN (fun _ _=>rfl)))) (df (cZ (i:=6) SC.nd rfl (bq rfl))) (bj (xb rfl (oi (oG (bU (cM (bc hr)) (bH (ag (pv 4)) (Ji aN) (fun _ _=>rfl)) (a9 (l:=[120])) (bD _)) (a9 (l:=[48,49])) (bH (ag (pv 4)) (Ji aN) (fun _ _=>rfl)))) (df (cZ (i:=7) SC.nd rfl (bq rfl))) (bA (eG (i:=8) SC.nd rfl (bq rfl) (bT dy (yy JF (by rfl) T.int boot_int (ai rfl (lS (cM (bc hr)) (ag (pv 6)) (a9 (l:=[49])) (bD _)) aC)) (yy JF (by rfl) T.int boot_int (ai rfl (lS (cM (bc hr)) (ag (pv 7)) (a9 (l:=[49])) (bD _)) aC))))
   (bA (eG (i:=9) SC.nd rfl (bq rfl) (aeS (k1:=[98,111,116,104]) (k2:=[101,105,116,104,101,114]) (k3:=[117,110,108,105,107,101]) (by decide +kernel) (by decide +kernel) (by decide +kernel) (by decide) (by decide) (by decide) (bc hr) (lS (cM (bc hr)) (ag (pv 8)) aN (bD _)) (lS Gb (ag (pv 8)) aN (bD _)) (lS (cM (bc hr)) (ag (pv 8)) aN (bD _)) (ag (pv 0)) (lS (cM (bc hr)) (ag (pv 6)) (a9 (l:=[48])) (bD _)) ⟨rfl,rfl,rfl,rfl⟩))
   (bj (Wr (pv 5) rfl (oG (Ae (ag (pv 9))) (a9 (l:=[49])) (a9 (l:=[48]))))))))))
   (sP 5 (bj (eG (i:=2) SC.nd rfl (bq rfl) (bT dy (ag (pv 2)) (oG (bU (cM (bc hr)) (aeM rfl (by rfl) T.len (by rfl) T.set (ag (pv 5)) rfl) aN (bD _)) (bH (ag (pv 5)) aN (fun _ _=>rfl)) (a9 (l:=[120]))))))))))
   (bj (cc (ag (pv 2)))))))
theorem Xz:bC ["_law_known","_law_deed_here","_law_rest"] ["_law_known","_law_deed_here"] (ay E6):=by exists cz
theorem Z8 (T:Tx w K mg z):Cq P w K mg base z 2 "_law_behind" ["_law_known","_law_deed_here"] nz:=
 have SC:=Xz
 .of (b:=zk) T.Rr SC rfl rfl fun f aw A outer s H E hr R=>(bA (Wk (i:=2) SC.nd rfl (dD rfl) rfl (by rfl) T.dict (lR jB (N:=["_law_name","_law_known","_law_deed_here"]) (k:=1) (fr:=[0,1]) (fV (by decide)) rfl ⟨rfl,rfl,rfl,rfl,rfl,rfl⟩ (Hc (ag (pv 0))) (fun _ _ _ _=>(df (cZ (i:=0) (show fL (α:=Str) ["_law_name","_law_known","_law_deed_here"] from by decide +kernel) rfl (bq rfl) (dD rfl)))) (fun _ _ _ _=>(Ed (bU (mF (bc hr)) (ag (pv 0)) (bH (ag (pv 2)) aN (fun _ _=>rfl)) (bD _)))) (fun _ _ _ _=>(iH (ai rfl (ag (pv 0)) (ai rfl (qg (bc hr) (ag (pv 1)) (ag (pv 0)) (fun _ _=>rfl)) aC))))) rfl)
   (bA (dO (bU (cM (bc hr)) (bH (ag (pv 1)) aN (fun _ _=>rfl)) (a9 (l:=[116,97,107,101])) (bD _)) (sP 2 (bj (cc (oG (bU (Ga (bc hr)) (bH (ag (pv 1)) aN (fun _ _=>rfl)) (ag (pv 0)) (by with_unfolding_all rfl)) (iH (ai rfl (ag (pv 2)) (ai rfl (qg (bc hr) (ag (pv 0)) (bH (ag (pv 1)) aN (fun _ _=>rfl)) (fun _ _=>rfl)) aC))) (iH (ai rfl (ag (pv 0)) (ai rfl (a9 (l:=[110,111,32,110,97,109,101])) aC))))))) dW)
   (bA (dO (bU (cM (bc hr)) (bH (ag (pv 1)) aN (fun _ _=>rfl)) (a9 (l:=[112,117,116])) (bD _)) (bA (Wm 2 (bU Gb (aeL rfl (by rfl) T.len (by rfl) T.set (bT dy (lR jB (N:=["_law_name","_law_rest"]) (k:=1) (fr:=[2]) (fV (by decide)) rfl ⟨rfl,rfl,rfl,rfl,rfl,rfl⟩ (Hc (ag (pv 2))) (fun _ _ _ _=>(df (cZ (i:=0) (show fL (α:=Str) ["_law_name","_law_rest"] from by decide +kernel) rfl (bq rfl) (dD rfl)))) (fun _ _ _ _=>j0) (fun _ _ _ _=>(fW jb (by rfl) T.len ft (ai rfl (qg (bc hr) (ag (pv 1)) (ag (pv 0)) (fun _ _=>rfl)) aC)))) (jJ (ai rfl (fW jb (by rfl) T.len ft (ai rfl (bH (ag (pv 1)) aN (fun _ _=>rfl)) aC)) aC))) rfl) aN (bD _)) (bj (cc (iH (ai rfl (ag (pv 0)) (ai rfl (a9 (l:=[117,110,108,105,107,101])) aC))))) dW)
   (bA (Ex (bc hr) (pv 2) (bH (ag (pv 1)) aN (fun _ _=>rfl)) (bH (ag (pv 1)) aN (fun _ _=>rfl)))
   (sP 2 (bj (cc (iH (ai rfl (ag (pv 2)) (ai rfl (lS (Ga (bc hr)) (bH (ag (pv 1)) aN (fun _ _=>rfl)) (ag (pv 0)) (by with_unfolding_all rfl)) aC)))))))) dW)
   (bA (dO (bU (mF (bc hr)) (lR jB (N:=["_law_name","_law_known"]) (k:=1) (fr:=[0]) (fV (by decide)) rfl ⟨rfl,rfl,rfl,rfl,rfl,rfl⟩ (oi (Jj (n:=3) (ag (pv 1)) (by decide) (uI aN))) (fun _ _ _ _=>(df (cZ (i:=0) (show fL (α:=Str) ["_law_name","_law_known"] from by decide +kernel) rfl (bq rfl) (dD rfl)))) (fun _ _ _ _=>(Ed (bU (NZ (bc hr)) (ag (pv 0)) (ag (pv 1)) (by with_unfolding_all rfl)))) (fun _ _ _ _=>(ag (pv 0)))) (jJ aC) (bD _)) (bj (cc (iH (ai rfl (ag (pv 0)) (ai rfl (a9 (l:=[110,111,32,110,97,109,101])) aC))))) dW)
   (bA (Ex (bc hr) (pv 2) (bH (ag (pv 1)) aN (fun _ _=>rfl)) (cA (Z4 T) (hr.mono (by decide)) R.pass (ai rfl (bH (ag (pv 1)) aN (fun _ _=>rfl)) (ai rfl (lR jB (N:=["_law_name","_law_known"]) (k:=1) (fr:=[0]) (fV (by decide)) rfl ⟨rfl,rfl,rfl,rfl,rfl,rfl⟩ (oi (Jj (n:=3) (ag (pv 1)) (by decide) (uI aN))) (fun _ _ _ _=>(df (cZ (i:=0) (show fL (α:=Str) ["_law_name","_law_known"] from by decide +kernel) rfl (bq rfl) (dD rfl)))) (fun _ _ _ _=>j0) (fun _ _ _ _=>(qg (bc hr) (ag (pv 1)) (ag (pv 0)) (fun _ _=>rfl)))) aC))))
   (sP 2 (bj (cc (iH (ai rfl (ag (pv 2)) (ai rfl (qg (bc hr) (ag (pv 2)) (bH (ag (pv 1)) aN (fun _ _=>rfl)) (fun _ _=>rfl)) aC)))))))))))
theorem pj {c:Addr}{K:ah}{C:Addr}{b:Bool}(h:kitOne K (.ref C) (.ref c)=some b):∀u,RelV (.ref c) u->kitOne K (.ref C) u=some b:=fun u r=>by
 cases r;exact h
theorem Yd {n:String}{K:ah}{C:Addr}{b:Bool}(h:kitOne K (.ref C) (.type n)=some b):∀u,RelV (.ty n) u->kitOne K (.ref C) u=some b:=fun u r=>by
 cases r;exact h
theorem Xx:bC ["_law_kept","_law_kinds","_law_some"] ["_law_kept"] (ay E4):=by exists cz
abbrev l4 (j:Nat):List V:=[V.bl (j==0),V.bl (j==1),V.bl (j==2),V.bl (j==3)]
abbrev l3 (j:Nat):List V:=[V.bl (j==4),V.bl (j==5),V.bl (j==6)]
abbrev l1 (j:Nat):List V:=[V.bl (j==7)]
abbrev l8 (j:Nat):List V:=[V.bl (j==0),V.bl (j==1),V.bl (j==2),V.bl (j==3),V.bl (j==4),V.bl (j==5),V.bl (j==6),V.bl (j==7)]
theorem af7 {j:Nat}(h:j<8):(l8 j).countP (fun z=>d9 z (.bl true))=1:=by
 match j,h with
 |0,_=>rfl
 |1,_=>rfl
 |2,_=>rfl
 |3,_=>rfl
 |4,_=>rfl
 |5,_=>rfl
 |6,_=>rfl
 |7,_=>rfl
theorem Ss {j:Nat}(hj:j<8):(∃z,(l8 j)[j]?=some z/\d9 z (.bl true)=true)/\(∀m z,m<j->(l8 j)[m]?=some z->d9 z (.bl true)=false):=by
 have key:∀(m:Nat),m<8->(l8 j)[m]?=some (V.bl (j==m)):=fun m hm=>by
  match m,hm with
  |0,_=>rfl
  |1,_=>rfl
  |2,_=>rfl
  |3,_=>rfl
  |4,_=>rfl
  |5,_=>rfl
  |6,_=>rfl
  |7,_=>rfl
 refine⟨⟨_,key j hj,by simp [d9]⟩,fun m z hm hz=>?_⟩;rw [key m (by omega)] at hz;cases hz;simp [d9];omega
theorem af6 {j:Nat}(hj:j<8):iq [S [99,108,97,115,104],S [110,111,32,98,97,99,107],S [110,111,32,110,97,109,101],S [110,111,32,116,101,120,116],S [110,111,32,116,105,99,107],S [110,111,32,119,97,118,101],S [116,111,111,32,108,111,110,103],S [117,110,108,105,107,101]] ((j:Nat):Int)=some (S (wQ j)):=by
 match j,hj with
 |0,_=>rfl
 |1,_=>rfl
 |2,_=>rfl
 |3,_=>rfl
 |4,_=>rfl
 |5,_=>rfl
 |6,_=>rfl
 |7,_=>rfl
theorem af9 (T:Tx w K mg z):T5 P w K mg base (z 0) (z 7) (z 1) (z 2) (z 3) (z 4) (z 5) (z 6):=by
 obtain⟨f,fd,F,hm,hb⟩:=T.Rp;have SC:=Xx;refine⟨f,hm,F.kp,fun A outer s H a C j Q Qk hun e0 rP hH W q=>?_⟩;obtain⟨oc,od,kV,doc,pm,an,aw,ct,iC,rfl,lk,e9⟩:=F.ex;have KX:K.In s.heap:=e0.mod.lF.keeps fun b o e=>(e0.bs b o e).1;refine QW (cm:=false) (N:=["_law_kept","_law_kinds","_law_some"]) (ps:=["_law_kept"]) (us:=[.ref a]) (vs:=[.ref a]) lk e9 SC (by omega) (fun z=>nomatch z) e0 (.inl rP) (hb s [.ref a] KX rfl) (.cons rfl .nil) rfl ?_
 refine⟨_,(eI (n3 (i:=1) SC.nd rfl (bq rfl) (pE (@ba _ _ _ _ _ rfl (iB oK (by rfl) T.isinstance boot_isinstance (@ba _ _ _ _ _ rfl (pv 0) (@ba _ _ _ _ _ rfl (j9 (by rfl) T.T6 (v:=.ref (z 0)) rfl) cC))) (@ba _ _ _ _ _ rfl (iB oK (by rfl) T.isinstance boot_isinstance (@ba _ _ _ _ _ rfl (pv 0) (@ba _ _ _ _ _ rfl (j9 (by rfl) T.KS (v:=.ref (z 7)) rfl) cC))) (@ba _ _ _ _ _ rfl (iB oK (by rfl) T.isinstance boot_isinstance (@ba _ _ _ _ _ rfl (pv 0) (@ba _ _ _ _ _ rfl (j9 (by rfl) T.y9 (v:=.ref (z 1)) rfl) cC))) (@ba _ _ _ _ _ rfl (iB oK (by rfl) T.isinstance boot_isinstance (@ba _ _ _ _ _ rfl (pv 0) (@ba _ _ _ _ _ rfl (j9 (by rfl) T.Tj (v:=.ref (z 2)) rfl) cC))) cC))))))
   (eI (n3 (i:=1) SC.nd rfl (bq rfl) (FU F4 (pv 1) (pE (@ba _ _ _ _ _ rfl (iB oK (by rfl) T.isinstance boot_isinstance (@ba _ _ _ _ _ rfl (pv 0) (@ba _ _ _ _ _ rfl (j9 (by rfl) T.Ti (v:=.ref (z 3)) rfl) cC))) (@ba _ _ _ _ _ rfl (iB oK (by rfl) T.isinstance boot_isinstance (@ba _ _ _ _ _ rfl (pv 0) (@ba _ _ _ _ _ rfl (j9 (by rfl) T.Th (v:=.ref (z 4)) rfl) cC))) (@ba _ _ _ _ _ rfl (iB oK (by rfl) T.isinstance boot_isinstance (@ba _ _ _ _ _ rfl (pv 0) (@ba _ _ _ _ _ rfl (j9 (by rfl) T.S7 (v:=.ref (z 5)) rfl) cC))) cC))))))
   (eI (n3 (i:=1) SC.nd rfl (bq rfl) (FU F4 (pv 1) (pE (@ba _ _ _ _ _ rfl (iB oK (by rfl) T.isinstance boot_isinstance (@ba _ _ _ _ _ rfl (pv 0) (@ba _ _ _ _ _ rfl (j9 (by rfl) T.KI (v:=.ref (z 6)) rfl) cC))) cC))))
   (eI (xr (PW.pt (pw_or (xq Zw (uH qA PySem.F.slot_list_count PySem.F.type_list_count aa0 (pv 1) (@ba _ _ _ _ _ rfl FW cC)) pF (bD _)) (pw_or1 (Nl (Nk (iB oK (by rfl) T.isinstance boot_isinstance (@ba _ _ _ _ _ rfl (pv 0) (@ba _ _ _ _ _ rfl (NH (by rfl) T.ValueError agB (v:=.ty "ValueError") rfl) cC)))))))) (fA (ic (jC (l:=[119,114,111,110,103])))) AI)
   (eI (n3 (i:=2) SC.nd rfl (bq rfl) (pE (@ba _ _ _ _ _ rfl (jC (l:=[99,108,97,115,104])) (@ba _ _ _ _ _ rfl (jC (l:=[110,111,32,98,97,99,107])) (@ba _ _ _ _ _ rfl (jC (l:=[110,111,32,110,97,109,101])) (@ba _ _ _ _ _ rfl (jC (l:=[110,111,32,116,101,120,116])) (@ba _ _ _ _ _ rfl (jC (l:=[110,111,32,116,105,99,107])) (@ba _ _ _ _ _ rfl (jC (l:=[110,111,32,119,97,118,101])) (@ba _ _ _ _ _ rfl (jC (l:=[116,111,111,32,108,111,110,103])) (@ba _ _ _ _ _ rfl (jC (l:=[117,110,108,105,107,101])) cC))))))))))
   (fA (ic (rg G9 (pv 2) (uH qA PySem.F.slot_list_index PySem.F.type_list_index aaZ (pv 1) (@ba _ _ _ _ _ rfl FW cC)) (fun _ _=>rfl))))))))),?_⟩
 have w0:=pj W.w0;have w1:=pj W.w1;have w2:=pj W.w2;have w3:=pj W.w3;have w4:=pj W.w4;have w5:=pj W.w5;have w6:=pj W.w6;have w7:=pj W.w7;have wv:=Yd W.ve;refine⟨_,rfl,a,C,_,_,rfl,hH,W.z,w0,_,rfl,a,C,_,_,rfl,hH,W.z,w1,_,rfl,a,C,_,_,rfl,hH,W.z,w2,_,rfl,a,C,_,_,rfl,hH,W.z,w3,big 4,fun p hp=>?_⟩;have h1:ax H (upd H p (.lst (l4 j))):=.upd hp;refine⟨_,rfl,_,rfl,a,C,_,_,rfl,h1 _ _ hH,W.z,w4,_,rfl,a,C,_,_,rfl,h1 _ _ hH,W.z,w5,_,rfl,a,C,_,_,rfl,h1 _ _ hH,W.z,w6,big 3,fun p2 iE=>?_⟩;have h2:ax (upd H p (.lst (l4 j))) (upd (upd H p (.lst (l4 j))) p2 (.lst (l3 j))):=.upd iE;refine⟨p,p2,l4 j,l3 j,rfl,rfl,.of (h2 _ _ aX),.of aX,big 7,fun p3 Hz=>?_⟩;have h3:=h2.trans (ax.upd (o:=.lst (l4 j++l3 j)) Hz);have QB:=h3 _ _ (h1 _ _ hH);refine⟨_,rfl,_,rfl,a,C,_,_,rfl,QB,W.z,w7,big 1,fun p4 Hy=>?_⟩;have h4:ax _ (upd (upd (upd (upd H p (.lst (l4 j))) p2 (.lst (l3 j))) p3 (.lst (l4 j++l3 j))) p4 (.lst (l1 j))):=ax.upd Hy;refine⟨p3,p4,l4 j++l3 j,l1 j,rfl,rfl,.of (h4 _ _ aX),.of aX,big 8,fun p5 hp5=>?_⟩;have h5:=h4.trans (ax.upd (o:=.lst ((l4 j++l3 j)++l1 j)) hp5);have hH5:=h5 _ _ QB;refine⟨_,rfl,.inl ⟨rfl,_,.of aX⟩,p5,l8 j,_,rfl,rfl,aX,rfl,rfl,rfl,_,rfl,?_⟩;rw [af7 W.lt];refine Pw ?_;refine⟨_,rfl,a,C,_,_,rfl,hH5,W.z,wv,_,rfl,Pw ?_⟩;refine⟨big 8,fun p6 P7=>?_⟩;have e5:∀o,upd (upd (upd (upd (upd (upd H p (.lst (l4 j))) p2 (.lst (l3 j))) p3 (.lst (l4 j++l3 j))) p4 (.lst (l1 j))) p5 (.lst ((l4 j++l3 j)++l1 j))) p6 o p5=some (.lst (l8 j)):=fun o=>by
  rw [aF (cN aX P7)];exact aX
 refine⟨_,rfl,_,rfl,.inl ⟨rfl,_,.of (e5 _)⟩,p5,l8 j,_,j,rfl,rfl,e5 _,rfl,rfl,(Ss W.lt).1,(Ss W.lt).2,p6,_,_,_,rfl,rfl,.of aX,af6 W.lt,?_⟩;exact q _ (((h1.trans h3).trans h5).trans (.upd P7))
theorem agb (T:Tx w K mg z):sV K (z 1) (z 0) (z 7) (z 1) (z 2) (z 3) (z 4) (z 5) (z 6) 2:=⟨⟨T.vQ,T.vN,T.vK,T.vH,T.vE,T.vB,T.vy,T.vv⟩,by decide,T.uf,T.uc,T.t9,T.tX,T.tU,T.tR,T.tO,T.tK,T.ui⟩
theorem aga (T:Tx w K mg z):sV K (z 6) (z 0) (z 7) (z 1) (z 2) (z 3) (z 4) (z 5) (z 6) 7:=⟨⟨T.vP,T.vM,T.vJ,T.vG,T.vD,T.vA,T.vx,T.vt⟩,by decide,T.ue,T.ub,T.tZ,T.tW,T.tT,T.tQ,T.tN,T.tJ,T.uh⟩
theorem agc (T:Tx w K mg z):sV K (z 7) (z 0) (z 7) (z 1) (z 2) (z 3) (z 4) (z 5) (z 6) 1:=⟨⟨T.vR,T.vO,T.vL,T.vI,T.vF,T.vC,T.vz,T.vw⟩,by decide,T.ug,T.ud,T.ua,T.tY,T.tV,T.tS,T.tP,T.tL,T.uj⟩
theorem af8 (T:Tx w K mg z):∀c∈[1,6,7],∃j,sV K (z c) (z 0) (z 7) (z 1) (z 2) (z 3) (z 4) (z 5) (z 6) j/\wQ j=iw c/\exmOne K (.ref (z c)) (.ref (z 8))=some true:=by
 intro c h;simp only [bf,fw,or_false] at h;rcases h with rfl | rfl | rfl
 ·exact⟨_,agb T,rfl,T.uN⟩
 ·exact⟨_,aga T,rfl,T.uM⟩
 ·exact⟨_,agc T,rfl,T.uO⟩
theorem Xs:bC ["_law_deed_here","e"] ["_law_deed_here"] (ay EZ):=by exists cz
theorem A0 (T:Tx w K mg z):KL P w K mg base z [1,6,7] 5:=VC T.Rl Xs rfl rfl rfl rfl rfl T.S8 (af9 T) (af8 T)
theorem Xm:bC ["self"] ["self"] (ay Gy):=by exists cz
theorem Z9 (T:Tx w K mg z):La P w K mg base 1:=by
 obtain⟨C,f,fd,hC,hm,hM,F,hb⟩:=T.Tw;have SC:=Xm;exact⟨C,f,fd,hC,hm,hM,acq F SC fun aw A outer s H E hr=>eI (Nn (pv 0) (pE cC) rfl) (fA (Nn (pv 0) (pE cC) rfl)),hb⟩
theorem Xp:bC ["self","step","behind"] ["self","step","behind"] (ay GC):=by exists cz
theorem F8 (T:Tx w K mg z):gU P w K mg base 1 "do_step" ["self","step","behind"] (ek K z fun _=>lZ):=by
 obtain⟨C,f,fd,hC,hM,F,hb⟩:=T.TF;have SC:=Xp;exact⟨C,f,fd,hC,hM,afk F SC fun aw A outer s H E hr=>eI (n4 (uH qA zZ DC xJ (lr (pv 0) rfl) (@ba _ _ _ _ _ rfl (AL (@ba _ _ _ _ _ rfl (pv 1) (@ba _ _ _ _ _ rfl (pv 2) cC))) cC))) (fA (n4 (NG qA PySem.F.slot_list_clear PySem.F.type_list_clear aa3 (lr (pv 0) rfl)))),hb⟩
theorem Xk:bC ["self"] ["self"] (ay Gw):=by exists cz
theorem A1 (T:Tx w K mg z):gU P w K mg base 1 "sheet" ["self"] (k8 K z z7 oN):=by
 obtain⟨C,f,fd,hC,hM,F,hb⟩:=T.Tt;have SC:=Xk;exact⟨C,f,fd,hC,hM,WV F SC fun aw A outer s H E hr=>fA (ic (FV (xq NP (iB yG (by rfl) T.len ft (@ba _ _ _ _ _ rfl (lr (pv 0) rfl) cC)) pF (bD _)) (AO SE (by rfl) T.dict L2.boot_dict (@ba _ _ _ _ _ rfl (rg Bp (rg G9 (lr (pv 0) rfl) (Nz LW pF) (fun _ _=>rfl)) pF (fun _ _=>rfl)) cC)) ND)),hb⟩
theorem Xi:bC ["self"] ["self"] (ay Gu):=by exists cz
theorem aac (T:Tx w K mg z):gU P w K mg base 1 "steps" ["self"] (k8 K z (D5 K) qo):=by
 obtain⟨C,f,fd,hC,hM,F,hb⟩:=T.Tr;have SC:=Xi;exact⟨C,f,fd,hC,hM,Wz F SC fun aw A outer s H E hr R=>fA (ic (NF jB (N:=["step","behind"]) (k:=2) (fr:=[]) rfl ⟨rfl,rfl,rfl,rfl,rfl,rfl⟩ (Nw (lr (pv 0) rfl)) (fun _ _ _ _=>(yu (n:=2) rfl (i8 (df (cZ (i:=0) (show fL (α:=Str) ["step","behind"] from by decide +kernel) rfl (bq rfl) (dD rfl))) (i8 (df (cZ (i:=1) (show fL (α:=Str) ["step","behind"] from by decide +kernel) rfl (bq rfl) (dD rfl))) vj)))) (fun _ _ _ _=>j0) (fun _ _ _ _=>ag (pv 0)))),hb⟩
theorem Xj:bC ["self"] ["self"] (ay Gv):=by exists cz
theorem aad (T:Tx w K mg z):gU P w K mg base 1 "sizes" ["self"] (k8 K z (D4 K) yP):=by
 obtain⟨C,f,fd,hC,hM,F,hb⟩:=T.Ts;have SC:=Xj;exact⟨C,f,fd,hC,hM,WU F SC fun aw A outer s H E hr=>fA (ic (AL (@ba _ _ _ _ _ rfl (iB yG (by rfl) T.len ft (@ba _ _ _ _ _ rfl (lr (pv 0) rfl) cC)) (@ba _ _ _ _ _ rfl (iB yG (by rfl) T.len ft (@ba _ _ _ _ _ rfl (lr (pv 0) rfl) cC)) cC)))),hb⟩
theorem Xg:bC ["source","target","row","step"] ["source","target"] (ay EW):=by exists cz
theorem NW (T:Tx w K mg z):qx P w K mg base (aE P w) 1 "move_last" ["source","target"] (uz K z):=by
 obtain⟨f,fd,F,hm,hb⟩:=T.Rb;have SC:=Xg;exact⟨f,fd,aa4 (u:=Ad (pC (.str [116,104,101,114,101,32,105,115,32,110,111,32,115,117,99,104,32,115,116,101,112]))) (fun _=>rfl) F SC fun aw A outer s H E hr R=>eI (xr (xq (NQ (bc hr)) (iB yG (by rfl) T.len ft (@ba _ _ _ _ _ rfl (pv 0) cC)) pF (bD _)) (fA (xa (cn:=7) rfl R (by rfl) (by exact T.KS) (by exact T.tI) (LU (a9 (l:=[116,104,101,114,101,32,105,115,32,110,111,32,115,117,99,104,32,115,116,101,112]))))) AI) (eI (n3 (i:=2) SC.nd rfl (bq rfl) (NG qA PySem.F.slot_list_pop PySem.F.type_list_pop aaX (pv 0))) (eI (n4 (uH qA zZ DC xJ (pv 1) (@ba _ _ _ _ _ rfl (pv 2) cC))) (eI (n3 (i:=3) SC.nd rfl (bq rfl) (rg Bp (pv 2) pF (fun _ _=>rfl))) (fA (ic (rg Bp (pv 3) pF (fun _ _=>rfl))))))),hm,F.kp,hb⟩
theorem Xq:bC ["self"] ["self"] (ay GF):=by exists cz
theorem aah (T:Tx w K mg z):gU P w K mg base 2 "back" ["self"] (ek K z fun _=>qr):=by
 obtain⟨C,f,fd,hC,hM,F,hb⟩:=T.TH;have SC:=Xq;exact⟨C,f,fd,hC,hM,JM F SC fun aw A outer s H E hr R=>fA (ic (AQ (NW T) (hr.mono (by decide)) R.pass (@ba _ _ _ _ _ rfl (lr (pv 0) rfl) (@ba _ _ _ _ _ rfl (lr (pv 0) rfl) cC)))),hb⟩
theorem Xo:bC ["self"] ["self"] (ay GA):=by exists cz
theorem aag (T:Tx w K mg z):gU P w K mg base 2 "forth" ["self"] (ek K z fun _=>qq):=by
 obtain⟨C,f,fd,hC,hM,F,hb⟩:=T.TC;have SC:=Xo;exact⟨C,f,fd,hC,hM,IU F SC fun aw A outer s H E hr R=>fA (ic (AQ (NW T) (hr.mono (by decide)) R.pass (@ba _ _ _ _ _ rfl (lr (pv 0) rfl) (@ba _ _ _ _ _ rfl (lr (pv 0) rfl) cC)))),hb⟩
theorem Xl:bC ["self","name","wave","ahead"] ["self","name","wave"] (ay Gx):=by exists cz
theorem ZM:∀p x y ds,ij 2 1 (eW xu) Cz AF p x y ds=lY x y ds:=fun p x y ds=>by
 unfold lY ij xu;simp only [vW,vX,vV];rcases ds with _ | ⟨d2,_ | ⟨d1,_ | ⟨d0,ds⟩⟩⟩ <;> rfl
theorem aae (T:Tx w K mg z):gU P w K mg base 4 "put" ["self","name","wave"] (ek K z fun _=>lY):=by
 obtain⟨C,f,fd,hC,hM,F,hb⟩:=T.Tu;have SC:=Xl;refine⟨C,f,fd,hC,hM,(Jx (pre:=xu) (fs:=Cz) (e:=AF) F SC rfl rfl (o4.mpr ⟨OW,o4.mpr ⟨Bh,fun _ z=>nomatch z⟩⟩) fun aw A outer s H E hr R=>?_).imp (EG ZM),hb⟩;exact(eI (qP (cA (NV T) (hr.mono (by decide)) R.pass (ai rfl (ag (pv 1)) aC))) (eI (eG (i:=3) SC.nd rfl (bq rfl) (B8 (A1 T) (hr.mono (by decide)) R.pass (pv 0))) (eI (n4 (AN (F8 T) (hr.mono (by decide)) R.pass (pv 0) (ai rfl (iH (ai rfl (a9 (l:=[112,117,116])) (ai rfl (ag (pv 1)) (ai rfl (ag (pv 2)) aC)))) (ai rfl (cA (NT T) (hr.mono (by decide)) R.pass (ai rfl (ag (pv 3)) (ai rfl (ag (pv 1)) (ai rfl (ag (pv 2)) aC)))) aC)))) (fA (ic (lS (Ga (bc hr)) (ag (pv 1)) (ag (pv 3)) (by with_unfolding_all rfl)))))))
theorem Xn:bC ["self","name","word","names","ahead","wave"] ["self","name","word","names"] (ay Gz):=by exists cz
theorem ZN:∀p x y ds,ij 3 2 (eW xv) CA AG p x y ds=jM x y ds:=fun p x y ds=>by
 unfold jM ij xv;simp only [vW,vX,vV];rcases ds with _ | ⟨d3,_ | ⟨d2,_ | ⟨d1,_ | ⟨d0,ds⟩⟩⟩⟩ <;> rfl
theorem aaf (T:Tx w K mg z):gU P w K mg base 5 "gate" ["self","name","word","names"] (ek K z fun _=>jM):=by
 obtain⟨C,f,fd,hC,hM,F,hb⟩:=T.Tz;have SC:=Xn;refine⟨C,f,fd,hC,hM,(Jx (pre:=xv) (fs:=CA) (e:=AG) F SC rfl rfl (o4.mpr ⟨OW,o4.mpr ⟨Bh,o4.mpr ⟨Bh,fun _ z=>nomatch z⟩⟩⟩) fun aw A outer s H E hr R=>?_).imp (EG ZN),hb⟩;exact(eI (qP (cA (NV T) (hr.mono (by decide)) R.pass (ai rfl (ag (pv 1)) aC))) (eI (eG (i:=4) SC.nd rfl (dD rfl) (B8 (A1 T) (hr.mono (by decide)) R.pass (pv 0))) (eI (eG (i:=5) SC.nd rfl (bq rfl) (cA (ZY T) (hr.mono (by decide)) R.pass (ai rfl (ag (pv 2)) (ai rfl (Rv jB (N:=["own","ahead"]) (k:=1) (fr:=[4]) (fV (by decide)) rfl ⟨rfl,rfl,rfl,rfl,rfl,rfl⟩ (oi (ag (pv 3))) (fun _ _ _ _=>(df (cZ (i:=0) (show fL (α:=Str) ["own","ahead"] from by decide +kernel) rfl (bq rfl) (dD rfl)))) (fun _ _ _ _=>j0) (fun _ _ _ _=>(cA (NU T) (hr.mono (by decide)) AR (ai rfl (ag (pv 1)) (ai rfl (ag (pv 0)) aC))))) aC)))) (eI (n4 (AN (F8 T) (hr.mono (by decide)) R.pass (pv 0) (ai rfl (bT N1 (iH (ai rfl (a9 (l:=[103,97,116,101])) (ai rfl (ag (pv 1)) (ai rfl (ag (pv 2)) aC)))) (yy Sx (by rfl) T.tuple (show PySem.bootBuiltins "tuple" = some (.type "tuple") from by decide +kernel) (ai rfl (ag (pv 3)) aC))) (ai rfl (cA (NT T) (hr.mono (by decide)) R.pass (ai rfl (ag (pv 4)) (ai rfl (ag (pv 1)) (ai rfl (ag (pv 5)) aC)))) aC)))) (fA (ic (ag (pv 5))))))))
theorem Xh:bC ["self","name","ahead"] ["self","name"] (ay Gr):=by exists cz
theorem ZL:∀p x y ds,ij 1 1 (eW xt) Cy AE p x y ds=lX x y ds:=fun p x y ds=>by
 unfold lX ij xt;simp only [vW,vX,vV];rcases ds with _ | ⟨d1,_ | ⟨d0,ds⟩⟩ <;> rfl
theorem aab (T:Tx w K mg z):gU P w K mg base 3 "take" ["self","name"] (ek K z fun _=>lX):=by
 obtain⟨C,f,fd,hC,hM,F,hb⟩:=T.Tq;have SC:=Xh;refine⟨C,f,fd,hC,hM,(Jx (pre:=xt) (fs:=Cy) (e:=AE) F SC rfl rfl (o4.mpr ⟨Bh,fun _ z=>nomatch z⟩) fun aw A outer s H E hr R=>?_).imp (EG ZL),hb⟩;exact(eI (eG (i:=2) SC.nd rfl (bq rfl) (B8 (A1 T) (hr.mono (by decide)) R.pass (pv 0))) (eI (n4 (AN (F8 T) (hr.mono (by decide)) R.pass (pv 0) (ai rfl (iH (ai rfl (a9 (l:=[116,97,107,101])) (ai rfl (ag (pv 1)) aC))) (ai rfl (cA (ZP T) (hr.mono (by decide)) R.pass (ai rfl (ag (pv 2)) (ai rfl (ag (pv 1)) aC))) aC)))) (fA (ic (qg (bc hr) (ag (pv 2)) (ag (pv 1)) (fun _ _=>rfl))))))
theorem Xv:bC ["_law_board","_law_deed_here"] ["_law_board","_law_deed_here"] (ay mv):=by exists cz
abbrev iY:Str:=(("_law_did" : Str) ++ ".<locals>.") ++ "<lambda>"
abbrev iX:Str:=(("law" : Str) ++ ".<locals>.") ++ "<lambda>"
theorem Z5 (T:Tx w K mg z){f:Addr}{fd:FuncData}{cD PD cT PT:Addr}(F:eP K "_law_did" "_law_did" mv f fd)(hm:mg "_law_did" = some (.ref f))(hb:Binds K fd ["_law_board","_law_deed_here"] [])(HZ:fd.code=.ref cD)(LB:oP mg base cD PD):qx P w K mg base (aE P w) 8 "_law_did" ["_law_board","_law_deed_here"] (Ap K z [(cD,PD,iY),(cT,PT,iX)] zi):=by
 have SC:=Xv;refine⟨f,fd,afp (G:=TU) F SC rfl rfl fun aw A outer s H E yn vh hr R=>?_,hm,F.kp,hb⟩;have yo:=yn.trans HZ;have yr:H PD=some (.dG iY):=vh (cD,PD,iY) (by simp);exact(agv (bU (cM (bc hr)) (bH (ag (pv 1)) aN (fun _ _=>rfl)) (a9 (l:=[103,97,116,101])) (bD _)) (Ca (N:=["_law_board","_law_deed_here"]) (fr:=[0,1]) (cs:=[1,6,7]) (k:=5) (i:=0) (j:=0) (A0 T) (hr.mono (by decide)) R.pass (by rfl) ⟨⟨rfl,rfl,rfl,rfl,rfl,rfl⟩,rfl,rfl,by decide +kernel⟩ yo LB yr rfl rfl rfl Ct (fun _ _ _ _ _ _ _ iD R2=>(Jk (aaf T) (iD.mono (by decide)) R2.pass (pv 0) (ai rfl (bH (ag (pv 1)) aN (fun _ _=>rfl)) (ai rfl (bH (ag (pv 1)) aN (fun _ _=>rfl)) (ai rfl (Jj (n:=3) (ag (pv 1)) (by decide) (uI aN)) aC)))))) (Ca (N:=["_law_board","_law_deed_here"]) (fr:=[0,1]) (cs:=[1,6,7]) (k:=5) (i:=0) (j:=0) (A0 T) (hr.mono (by decide)) R.pass (by rfl) ⟨⟨rfl,rfl,rfl,rfl,rfl,rfl⟩,rfl,rfl,by decide +kernel⟩ yo LB yr rfl rfl rfl Ct (fun _ _ _ _ _ _ _ iD R2=>(aeV (bU (cM (bc iD)) (bH (ag (pv 1)) aN (fun _ _=>rfl)) (a9 (l:=[112,117,116])) (bD _)) (Jk (aae T) (iD.mono (by decide)) R2.pass (pv 0) (ai rfl (bH (ag (pv 1)) aN (fun _ _=>rfl)) (ai rfl (bH (ag (pv 1)) aN (fun _ _=>rfl)) aC))) (Jk (aab T) (iD.mono (by decide)) R2.pass (pv 0) (ai rfl (bH (ag (pv 1)) aN (fun _ _=>rfl)) aC))))))
theorem XA:bC ["_law_script","_law_board","_law_rows","_law_words","_law_at","_law_many","_law_k","_law_way","_law_deed_here","_law_known","_law_due"] ["_law_script"] (ay j7):=by exists cz
theorem ZW (hG:∀ns:List Int,ns.length<=63->wq [.lst (ns.map Dt.int)]=.ok (.bl true))(T:Tx w K mg z){f:Addr}{fd:FuncData}{cD PD cT PT:Addr}(F:eP K "law" "law" j7 f fd)(HZ:fd.code=.ref cT)(LB:oP mg base cT PT)(CD:qx P w K mg base (aE P w) 8 "_law_did" ["_law_board","_law_deed_here"] (Ap K z [(cD,PD,iY),(cT,PT,iX)] zi)):cR P w K mg base (aE P w) 9 f fd ["_law_script"] (xi K [(cD,PD,iY),(cT,PT,iX)]):=by
 have SC:=XA;refine abI (cls:=z) (G:=wq) ?_ hG;refine aey (b:=Lj) F SC rfl rfl fun aw A outer s H E yn vh hr R=>?_;have yo:=yn.trans HZ;have yr:H PT=some (.dG iX):=vh (cT,PT,iX) (by simp);exact(bA (Wo (i:=1) (Z9 T) (hr.mono (by decide)) R.pass (by rfl) rfl (cZ (i:=1) SC.nd rfl (dD rfl)) (i8 (df (cZ (i:=2) SC.nd rfl (bq rfl))) (i8 (df (cZ (i:=3) SC.nd rfl (bq rfl))) (i8 (df (cZ (i:=4) SC.nd rfl (bq rfl))) (i8 (df (cZ (i:=5) SC.nd rfl (bq rfl))) vj)))) (ai rfl (jJ (ai rfl Ru aC)) (ai rfl (jJ aC) (ai rfl aN (ai rfl (bT dy aN (cA (mD T) (hr.mono (by decide)) R.pass (ai rfl (ag (pv 0)) (ai rfl aN (ai rfl aN aC))))) aC)))) (hN:=fun _ h=>by rw [h]; rfl) (hlen:=(CC (CC (CC (CC ag4))))))
   (bA (xb rfl (Hb (by rfl) T.range (ai rfl aN aC)) (df (cZ (i:=6) SC.nd rfl (bq rfl))) (bA (eG (i:=7) SC.nd rfl (bq rfl) (cA (mD T) (hr.mono (by decide)) kc (ai rfl (ag (pv 0)) (ai rfl (bT dy aN (ag (pv 6))) (ai rfl aN aC)))))
   (bA (dO (bU xx (ag (pv 7)) aN (bD _)) (bA (eG (i:=8) SC.nd rfl (bq rfl) (cA (Z6 T) (hr.mono (by decide)) kc (ai rfl (ag (pv 0)) (ai rfl (bT dy aN (bT ri aN (ag (pv 6)))) (ai rfl (bH (ag (pv 2)) (ag (pv 4)) (fun _ _=>rfl)) (ai rfl (ag (pv 5)) aC))))))
   (bA (Wq (cA (Z8 T) (hr.mono (by decide)) kc (ai rfl (bH (ag (pv 2)) (ag (pv 4)) (fun _ _=>rfl)) (ai rfl (ag (pv 8)) aC))) (yu (n:=2) rfl (i8 (df (cZ (i:=9) SC.nd rfl (bq rfl))) (i8 (df (cZ (i:=10) SC.nd rfl (bq rfl))) vj))))
   (bA (Ew (Eh (mF (bc hr)) (aeW CD vh (hr.mono (by decide)) kc (pv 1) (ai rfl (ag (pv 8)) aC)) (ag (pv 10)) (bD _)) (bj (cc vq)) dW)
   (bj (dO (bU aao (ag (pv 10)) (iH (ai rfl (a9 (l:=[110,111,32,110,97,109,101])) (ai rfl (a9 (l:=[117,110,108,105,107,101])) aC))) (by with_unfolding_all rfl)) (bA (eG (i:=2) SC.nd rfl (bq rfl) (bT dy (Jh (ag (pv 2)) AW (uI (bT dy (ag (pv 4)) aN))) (jJ (ai rfl (ag (pv 9)) aC))))
   (bA (eG (i:=3) SC.nd rfl (bq rfl) (bT dy (Jh (ag (pv 3)) AW (uI (ag (pv 4)))) (jJ (ai rfl (ag (pv 8)) aC))))
   (bj (eG (i:=4) SC.nd rfl (bq rfl) (bT dy (ag (pv 4)) aN))))) dW))))) (bj (dO (bU xx (ag (pv 7)) aN (bD _)) (bA (Ew (Eh (mF (bc hr)) (Ca (N:=["_law_board"]) (fr:=[1]) (cs:=[1,6,7]) (k:=5) (i:=1) (j:=0) (A0 T) (hr.mono (by decide)) kc (by rfl) ⟨⟨rfl,rfl,rfl,rfl,rfl,rfl⟩,rfl,rfl,by decide +kernel⟩ yo LB yr rfl rfl rfl Ct (fun _ _ _ _ _ _ _ iD R2=>(Rx (aah T) (iD.mono (by decide)) R2.pass (pv 0)))) (oG (bU Gb (ag (pv 4)) aN (bD _)) (bH (bH (ag (pv 3)) (bT F9 (ag (pv 4)) aN) (fun _ _=>rfl)) aN (fun _ _=>rfl)) (a9 (l:=[110,111,32,98,97,99,107]))) (bD _)) (bj (cc vq)) dW)
   (bj (eG (i:=4) SC.nd rfl (bq rfl) (fW (age rfl) (by rfl) T.max boot_max (ai rfl aN (ai rfl (bT F9 (ag (pv 4)) aN) aC)))))) (bA (Ew (Eh (mF (bc hr)) (Ca (N:=["_law_board"]) (fr:=[1]) (cs:=[1,6,7]) (k:=5) (i:=1) (j:=0) (A0 T) (hr.mono (by decide)) kc (by rfl) ⟨⟨rfl,rfl,rfl,rfl,rfl,rfl⟩,rfl,rfl,by decide +kernel⟩ yo LB yr rfl rfl rfl Ct (fun _ _ _ _ _ _ _ iD R2=>(Rx (aag T) (iD.mono (by decide)) R2.pass (pv 0)))) (oG (bU xx (ag (pv 4)) (fW jb (by rfl) T.len ft (ai rfl (ag (pv 3)) aC)) (bD _)) (bH (bH (ag (pv 3)) (ag (pv 4)) (fun _ _=>rfl)) aN (fun _ _=>rfl)) (a9 (l:=[110,111,32,98,97,99,107]))) (bD _)) (bj (cc vq)) dW)
   (bj (eG (i:=4) SC.nd rfl (bq rfl) (fW (Sy rfl) (by rfl) T.min boot_min (ai rfl (fW jb (by rfl) T.len ft (ai rfl (ag (pv 3)) aC)) (ai rfl (bT dy (ag (pv 4)) aN) aC)))))))))
   (bj (dO (PW.pt (nQ (bU (mF (bc hr)) (B8 (A1 T) (hr.mono (by decide)) kc (pv 1)) (bH (ag (pv 2)) (ag (pv 4)) (fun _ _=>rfl)) (bD _)) (nQ (bU (mF (bc hr)) (aeO (aad T) (hr.mono (by decide)) kc (pv 1)) (iH (ai rfl (ag (pv 4)) (ai rfl (bT F9 (fW jb (by rfl) T.len ft (ai rfl (ag (pv 3)) aC)) (ag (pv 4))) aC))) (bD _)) (pd (bU (mF (bc hr)) (aeN (aac T) (hr.mono (by decide)) kc (pv 1)) (Jh (ag (pv 3)) AW (uI (ag (pv 4)))) (bD _)))))) (bj (cc vq)) dW)))))
   (bj (cc vq))))
end
theorem all_mk (hG:∀ns:List Int,ns.length<=63->wq [.lst (ns.map Dt.int)]=.ok (.bl true)){l:PySem.W.OpenLaw}{w:World}{K:ah}{h:Heap}{mg:Str->Option Value}{fa:Addr}(X:K.In h)(G:h.Ns mainGlobals mg)(hfa:mg "law" = some (.ref fa))
  {aas ag2:Option Addr} {WT:Array (Option Value)} {aau ab2 afN YN SA af0:Value} {CI:Addr}
  {aar SW:Option Addr} {WS:Array (Option Value)} {aat O0 R9 Nu JG Sk:Value} {CH:Addr}
  {yI:Addr}
  {yM:Addr}
  {eN:Addr}
  {yL:Addr}
  {yK:Addr}
  {yJ:Addr}
  {yH:Addr}
  {eM:Addr}
  {eO:Addr}
  {Mj:Tok}
  {Mi:Tok}
  {Kd:Addr} {RC:Nat} {L6 LQ L4 LO LY LM:Tok}
  {CG:Addr} {RD:Nat} {L7 LR L5 LP LZ LN LX LL:Tok}
  {cD PD:Addr}
  {cT PT:Addr}
  (KH:FH K "is_name" E7)
  (Kr:FH K "refuse_no_name" ET)
  (Kl:FH K "of_one_length" EU)
  (Kk:FH K "refuse_unlike" ES)
  (Kj:FH K "with_name" EM)
  (Ki:FH K "with_wave" EL)
  (Kh:FH K "unlike_at" EO)
  (Kg:FH K "unlike" ER)
  (Kf:FH K "no" EV)
  (Ke:FH K "both_at" Fd)
  (KD:FH K "both" Fe)
  (KC:FH K "either_at" E9)
  (KA:FH K "either" Fc)
  (Kz:FH K "gate_wave" E8)
  (Ky:FH K "wave_of" EN)
  (Kx:FH K "without_wave" EK)
  (Kw:FH K "move_last" EW)
  (Kv:FH K "_law_cell" E5)
  (Ku:FH K "_law_pick" E1)
  (Ks:FH K "_law_wave" EY)
  (Kq:FH K "_law_deed" E3)
  (Kp:FH K "_law_made" E2)
  (Ko:FH K "_law_behind" E6)
  (Kn:FH K "_law_class" E4)
  (Km:FH K "_law_told" EZ)
  (y0:cV K mainGlobals "_law_did" = some (some (.ref CI))) (rF:K.lookup CI=some ⟨aau,aas,.func (gc "_law_did" "_law_did" (gr mv) (dg mv) (ay mv) .none ab2 afN YN ag2 SA af0),WT⟩) (wb:oV K SA "_law_did" = true) (uV:l9 K (.ref CI)=true)
  (yZ:cV K mainGlobals "law" = some (some (.ref CH))) (uR:K.lookup CH=some ⟨aat,aar,.func (gc "law" "law" (gr j7) (dg j7) (ay j7) .none O0 R9 Nu SW JG Sk),WS⟩) (yN:oV K JG "law" = true) (xT:l9 K (.ref CH)=true)
  (DT:cV K mainGlobals "len" = some none)
  (DQ:cV K mainGlobals "range" = some none)
  (DR:cV K mainGlobals "min" = some none)
  (DS:cV K mainGlobals "max" = some none)
  (DX:cV K mainGlobals "all" = some none)
  (DV:cV K mainGlobals "int" = some none)
  (DO:cV K mainGlobals "str" = some none)
  (DM:cV K mainGlobals "zip" = some none)
  (DU:cV K mainGlobals "isinstance" = some none)
  (DY:cV K mainGlobals "ValueError" = some none)
  (DP:cV K mainGlobals "set" = some none)
  (DW:cV K mainGlobals "dict" = some none)
  (DN:cV K mainGlobals "tuple" = some none)
  (Iz:cV K mainGlobals "TickError" = some (some (.ref yI)))
  (IJ:cV K mainGlobals "Clash" = some (some (.ref yM)))
  (IF:cV K mainGlobals "NoName" = some (some (.ref eN)))
  (IE:cV K mainGlobals "NoText" = some (some (.ref yL)))
  (ID:cV K mainGlobals "NoTick" = some (some (.ref yK)))
  (IB:cV K mainGlobals "NoWave" = some (some (.ref yJ)))
  (Iy:cV K mainGlobals "TooLong" = some (some (.ref yH)))
  (Iw:cV K mainGlobals "Unlike" = some (some (.ref eM)))
  (IG:cV K mainGlobals "NoBack" = some (some (.ref eO)))
  (II:cV K mainGlobals "LETTERS" = some (some (.str ⟨#[97,98,99,100,101,102,103,104,105,106,107,108,109,110,111,112,113,114,115,116,117,118,119,120,121,122]⟩ Mj)))
  (IH:cV K mainGlobals "MOST_LETTERS" = some (some (.int 4 Mi)))
  (IA:cV K mainGlobals "OPPOSITES" = some (some (.ref Kd)))
  (Jz:K.lookup Kd=some ⟨.type "dict",none,.dict #[⟨l7 w.params ⟨#[48]⟩,.str ⟨#[48]⟩ L6,.str ⟨#[49]⟩ LQ⟩,⟨l7 w.params ⟨#[49]⟩,.str ⟨#[49]⟩ L4,.str ⟨#[48]⟩ LO⟩,⟨l7 w.params ⟨#[120]⟩,.str ⟨#[120]⟩ LY,.str ⟨#[120]⟩ LM⟩] RC,#[]⟩)
  (BZ:cV K mainGlobals "GATE_SIZES" = some (some (.ref CG)))
  (JA:K.lookup CG=some ⟨.type "dict",none,.dict #[⟨l7 w.params ⟨#[110,111]⟩,.str ⟨#[110,111]⟩ L7,.int 1 LR⟩,⟨l7 w.params ⟨#[98,111,116,104]⟩,.str ⟨#[98,111,116,104]⟩ L5,.int 2 LP⟩,⟨l7 w.params ⟨#[101,105,116,104,101,114]⟩,.str ⟨#[101,105,116,104,101,114]⟩ LZ,.int 2 LN⟩,⟨l7 w.params ⟨#[117,110,108,105,107,101]⟩,.str ⟨#[117,110,108,105,107,101]⟩ LX,.int 2 LL⟩] RD,#[]⟩)
  (Gn:(CG==sysModules)=false)
  (o9:excIn K eN mh "ValueError.__new__" = true)
  (tH:excIn K eM mh "ValueError.__new__" = true)
  (tI:excIn K eO mh "ValueError.__new__" = true)
  (bB:wu K)
  (bK:∃C,nsIn K mainGlobals "Board" = some (some (.ref C))/\makesIn K C=true/\keepIn K (.ref C)=true)
  (JS:dX K "__init__" "Board.__init__" Gy)
  (JR:dX K "put" "Board.put" Gx)
  (JT:dX K "gate" "Board.gate" Gz)
  (JN:dX K "take" "Board.take" Gr)
  (JV:dX K "do_step" "Board.do_step" GC)
  (JQ:dX K "sheet" "Board.sheet" Gw)
  (JO:dX K "steps" "Board.steps" Gu)
  (JW:dX K "back" "Board.back" GF)
  (JU:dX K "forth" "Board.forth" GA)
  (JP:dX K "sizes" "Board.sizes" Gv)
  (vQ:isClsIn K eN=true)
  (vN:findIn K (.ref eN) "__getattribute__" = some (some (.builtin "BaseException.__getattribute__")))
  (vK:findIn K (.ref eN) "__getattr__" = some none)
  (vH:findIn K (.ref eN) "__class__" = some (some (.builtin "object.__class__")))
  (vE:specialIn K (.builtin "object.__class__") "__get__" = some (some (.builtin "getset_descriptor.__get__")))
  (vB:takesIn K (.builtin "object.__class__")=some true)
  (vy:mroIn K eN (.type "object")=some true)
  (vv:mroIn K eN (.type "BaseException")=some true)
  (uN:exmOne K (.ref eN) (.ref yI)=some true)
  (uf:kitOne K (.ref eN) (.ref yM)=some false)
  (uc:kitOne K (.ref eN) (.ref eO)=some false)
  (t9:kitOne K (.ref eN) (.ref eN)=some true)
  (tX:kitOne K (.ref eN) (.ref yL)=some false)
  (tU:kitOne K (.ref eN) (.ref yK)=some false)
  (tR:kitOne K (.ref eN) (.ref yJ)=some false)
  (tO:kitOne K (.ref eN) (.ref yH)=some false)
  (tK:kitOne K (.ref eN) (.ref eM)=some false)
  (ui:kitOne K (.ref eN) (.type "ValueError")=some true)
  (vP:isClsIn K eM=true)
  (vM:findIn K (.ref eM) "__getattribute__" = some (some (.builtin "BaseException.__getattribute__")))
  (vJ:findIn K (.ref eM) "__getattr__" = some none)
  (vG:findIn K (.ref eM) "__class__" = some (some (.builtin "object.__class__")))
  (vD:specialIn K (.builtin "object.__class__") "__get__" = some (some (.builtin "getset_descriptor.__get__")))
  (vA:takesIn K (.builtin "object.__class__")=some true)
  (vx:mroIn K eM (.type "object")=some true)
  (vt:mroIn K eM (.type "BaseException")=some true)
  (uM:exmOne K (.ref eM) (.ref yI)=some true)
  (ue:kitOne K (.ref eM) (.ref yM)=some false)
  (ub:kitOne K (.ref eM) (.ref eO)=some false)
  (tZ:kitOne K (.ref eM) (.ref eN)=some false)
  (tW:kitOne K (.ref eM) (.ref yL)=some false)
  (tT:kitOne K (.ref eM) (.ref yK)=some false)
  (tQ:kitOne K (.ref eM) (.ref yJ)=some false)
  (tN:kitOne K (.ref eM) (.ref yH)=some false)
  (tJ:kitOne K (.ref eM) (.ref eM)=some true)
  (uh:kitOne K (.ref eM) (.type "ValueError")=some true)
  (vR:isClsIn K eO=true)
  (vO:findIn K (.ref eO) "__getattribute__" = some (some (.builtin "BaseException.__getattribute__")))
  (vL:findIn K (.ref eO) "__getattr__" = some none)
  (vI:findIn K (.ref eO) "__class__" = some (some (.builtin "object.__class__")))
  (vF:specialIn K (.builtin "object.__class__") "__get__" = some (some (.builtin "getset_descriptor.__get__")))
  (vC:takesIn K (.builtin "object.__class__")=some true)
  (vz:mroIn K eO (.type "object")=some true)
  (vw:mroIn K eO (.type "BaseException")=some true)
  (uO:exmOne K (.ref eO) (.ref yI)=some true)
  (ug:kitOne K (.ref eO) (.ref yM)=some false)
  (ud:kitOne K (.ref eO) (.ref eO)=some true)
  (ua:kitOne K (.ref eO) (.ref eN)=some false)
  (tY:kitOne K (.ref eO) (.ref yL)=some false)
  (tV:kitOne K (.ref eO) (.ref yK)=some false)
  (tS:kitOne K (.ref eO) (.ref yJ)=some false)
  (tP:kitOne K (.ref eO) (.ref yH)=some false)
  (tL:kitOne K (.ref eO) (.ref eM)=some false)
  (uj:kitOne K (.ref eO) (.type "ValueError")=some true)
  (Ei:tabIn K "_law_did" = some (cD,PD))
  (tb:tabIn K "law" = some (cT,PT)) :
  ∃fd:FuncData,(∀(s:Shared) (v:Value),BindsTo s fd ⟨[v],[]⟩ [("_law_script",v)])/\∀base:Heap,K.In base->base.Ns mainGlobals mg->(∀t∈[(cD,PD,iY),(cT,PT,iX)],oP mg base t.1 t.2.1)->cR l.prog w K mg base (aE l.prog w) 9 fa fd ["_law_script"] (xi K [(cD,PD,iY),(cT,PT,iX)]):=by
 have T:Tx w K mg (fun n=>match n with | 8=>yI | 0=>yM | 1=>eN | 2=>yL | 3=>yK | 4=>yJ | 5=>yH | 6=>eM | 7=>eO | _=>0):={
  len:=jn X G DT
  range:=jn X G DQ
  min:=jn X G DR
  max:=jn X G DS
  all:=jn X G DX
  int:=jn X G DV
  str:=jn X G DO
  zip:=jn X G DM
  isinstance:=jn X G DU
  ValueError:=jn X G DY
  set:=jn X G DP
  dict:=jn X G DW
  tuple:=jn X G DN
  S8:=eS X G Iz
  T6:=eS X G IJ
  y9:=eS X G IF
  Tj:=eS X G IE
  Ti:=eS X G ID
  Th:=eS X G IB
  S7:=eS X G Iy
  KI:=eS X G Iw
  KS:=eS X G IG
  TL:=⟨Mj,eS X G II⟩
  TJ:=⟨Mi,eS X G IH⟩
  K9:=⟨Kd,eS X G IA,[([48],L6,[49],LQ),([49],L4,[48],LO),([120],LY,[120],LM)],RC,Jz,rfl⟩
  C6:=⟨CG,eS X G BZ,[([110,111],L7,1,LR),([98,111,116,104],L5,2,LP),([101,105,116,104,101,114],LZ,2,LN),([117,110,108,105,107,101],LX,2,LL)],RD,JA,rfl⟩
  Tn:=fun a h=>by
   have e:=h.symm.trans (eS X G BZ);cases e;exact Gn
  Rc:=KH.sv X G fun _ _ _ _ _ _ _=>rfl
  Q8:=Kr.sv X G fun _ _ _ _ _ _ _=>rfl
  Q9:=Kl.sv X G fun _ _ _ _ _ _ _=>rfl
  Q7:=Kk.sv X G fun _ _ _ _ _ _ _=>rfl
  Q3:=Kj.I0 X G fun _ _ _ _ _ _ _ _ _=>rfl
  Q2:=Ki.I0 X G fun _ _ _ _ _ _ _ _ _=>rfl
  Q5:=Kh.jH X G fun _ _ _ _ _ _ _ _=>rfl
  Q6:=Kg.jH X G fun _ _ _ _ _ _ _ _=>rfl
  Ra:=Kf.sv X G fun _ _ _ _ _ _ _=>rfl
  Rj:=Ke.jH X G fun _ _ _ _ _ _ _ _=>rfl
  f_both:=KD.jH X G fun _ _ _ _ _ _ _ _=>rfl
  Rh:=KC.jH X G fun _ _ _ _ _ _ _ _=>rfl
  Ri:=KA.jH X G fun _ _ _ _ _ _ _ _=>rfl
  Rf:=Kz.jH X G fun _ _ _ _ _ _ _ _=>rfl
  Q4:=Ky.jH X G fun _ _ _ _ _ _ _ _=>rfl
  Q1:=Kx.jH X G fun _ _ _ _ _ _ _ _=>rfl
  Rb:=Kw.jH X G fun _ _ _ _ _ _ _ _=>rfl
  Rq:=Kv.jH X G fun _ _ _ _ _ _ _ _=>rfl
  Rm:=Ku.I0 X G fun _ _ _ _ _ _ _ _ _=>rfl
  Rk:=Ks.QX X G fun _ _ _ _ _ _ _ _ _ _=>rfl
  Ro:=Kq.QX X G fun _ _ _ _ _ _ _ _ _ _=>rfl
  Rn:=Kp.jH X G fun _ _ _ _ _ _ _ _=>rfl
  Rr:=Ko.jH X G fun _ _ _ _ _ _ _ _=>rfl
  Rp:=Kn.sv X G fun _ _ _ _ _ _ _=>rfl
  Rl:=Km.sv X G fun _ _ _ _ _ _ _=>rfl
  aeE:=⟨CI,_,m7 (st:=mv) rF wb uV,eS X G y0,(m7 (st:=mv) rF wb uV).binds (ps:=["_law_board","_law_deed_here"]) fun _ _ _ _ _ _ us hl=>match us,hl with | [_,_],_=>rfl⟩
  aeD:=⟨CH,_,m7 (st:=j7) uR yN xT,eS X G yZ,(m7 (st:=j7) uR yN xT).binds (ps:=["_law_script"]) fun _ _ _ _ _ _ us hl=>match us,hl with | [_],_=>rfl⟩
  Tw:=JS.init bB X G bK (fun _ _ _ _ _ _ us hl=>match us,hl with | [_],_=>rfl)
  Tu:=JR.fn bB (fun _ _ _ _ _ _ us hl=>match us,hl with | [_,_,_],_=>rfl)
  Tz:=JT.fn bB (fun _ _ _ _ _ _ us hl=>match us,hl with | [_,_,_,_],_=>rfl)
  Tq:=JN.fn bB (fun _ _ _ _ _ _ us hl=>match us,hl with | [_,_],_=>rfl)
  TF:=JV.fn bB (fun _ _ _ _ _ _ us hl=>match us,hl with | [_,_,_],_=>rfl)
  Tt:=JQ.fn bB (fun _ _ _ _ _ _ us hl=>match us,hl with | [_],_=>rfl)
  Tr:=JO.fn bB (fun _ _ _ _ _ _ us hl=>match us,hl with | [_],_=>rfl)
  TH:=JW.fn bB (fun _ _ _ _ _ _ us hl=>match us,hl with | [_],_=>rfl)
  TC:=JU.fn bB (fun _ _ _ _ _ _ us hl=>match us,hl with | [_],_=>rfl)
  Ts:=JP.fn bB (fun _ _ _ _ _ _ us hl=>match us,hl with | [_],_=>rfl)
  o9:=o9
  tH:=tH
  tI:=tI
  vQ:=vQ
  vN:=vN
  vK:=vK
  vH:=vH
  vE:=vE
  vB:=vB
  vy:=vy
  vv:=vv
  uN:=uN
  uf:=uf
  uc:=uc
  t9:=t9
  tX:=tX
  tU:=tU
  tR:=tR
  tO:=tO
  tK:=tK
  ui:=ui
  vP:=vP
  vM:=vM
  vJ:=vJ
  vG:=vG
  vD:=vD
  vA:=vA
  vx:=vx
  vt:=vt
  uM:=uM
  ue:=ue
  ub:=ub
  tZ:=tZ
  tW:=tW
  tT:=tT
  tQ:=tQ
  tN:=tN
  tJ:=tJ
  uh:=uh
  vR:=vR
  vO:=vO
  vL:=vL
  vI:=vI
  vF:=vF
  vC:=vC
  vz:=vz
  vw:=vw
  uO:=uO
  ug:=ug
  ud:=ud
  ua:=ua
  tY:=tY
  tV:=tV
  tS:=tS
  tP:=tP
  tL:=tL
  uj:=uj
 }
 refine⟨gc "law" "law" (gr j7) (dg j7) (ay j7) .none O0 R9 Nu SW JG Sk,fun s v=>.of_eq rfl,fun base _ _ BS=>?_⟩
 have e:=hfa.symm.trans (eS X G yZ);cases e;exact ZW (P:=l.prog) (w:=w) (base:=base) hG T (m7 (st:=j7) uR yN xT) (law_code X G tb (eS X G yZ) (X _ _ uR) rfl) (BS (cT,PT,iX) (by simp)) (Z5 (P:=l.prog) (w:=w) (base:=base) T (m7 (st:=mv) rF wb uV) (eS X G y0) ((m7 (st:=mv) rF wb uV).binds (ps:=["_law_board","_law_deed_here"]) fun _ _ _ _ _ _ us hl=>match us,hl with | [_,_],_=>rfl) (law_code X G Ei (eS X G y0) (X _ _ rF) rfl) (BS (cD,PD,iY) (by simp)))
theorem walk {l:PySem.W.OpenLaw}{q:Program}{loose:List Str}{XP:(Str->Option Value)->Heap->Prop}{YP:World->Heap->Prop}{d:DefRec}{K:Params->ah}{cD PD cT PT:Addr}(yd:([(cD,PD,iY),(cT,PT,iX)]:jg).Pairwise (fun x y=>x.2.1≠y.2.1))(hn:l.most=some 63)(yk:d.params.defaults=[])
  (hY:∀(w:World) (h:Heap),YP w h->(K w.params).In h) (yt:∀w:World,noTabs (K w.params)=true)
  (hT:∀(w:World) (lz:List Str) (Be:ExcName->Option Value) (mg mb:Str->Option Value) (h:Heap),(K w.params).In h->Top q lz Be mg mb h->∀t∈([(cD,PD,iY),(cT,PT,iX)]:jg),CodeHd h t.1 t.2.1/\h.get? t.2.1=some (tabObj #[]))
  (F:∀(w:World) (mg:Str->Option Value) (fa:Addr) (h:Heap),(K w.params).In h->h.Ns mainGlobals mg->mg d.name=some (.ref fa)->
   ∃fd:FuncData,(∀(s:Shared) (u:Value),BindsTo s fd ⟨[u],[]⟩ [("_law_script",u)])/\∀base:Heap,(K w.params).In base->base.Ns mainGlobals mg->(∀t∈[(cD,PD,iY),(cT,PT,iX)],oP mg base t.1 t.2.1)->cR l.prog w (K w.params) mg base (aE l.prog w) 9 fa fd ["_law_script"] (xi (K w.params) [(cD,PD,iY),(cT,PT,iX)])) :
  PySem.W.WalkO q loose XP YP l.row.toRowW d [] (fun f vs=>PySem.call f vs):=
 L2.U7 (n:=63) (k:=9) (x:="_law_script") (tabs:=[(cD,PD,iY),(cT,PT,iX)]) (CX:=fun w=>aE l.prog w) (sp:=fun w=>xi (K w.params) [(cD,PD,iY),(cT,PT,iX)]) hn (by decide) yk ⟨rfl,by decide,by decide,rfl⟩ hY yd yt hT F (fun _ _ a ns hl vh hS=>⟨vh,a,ns,rfl,⟨hS,hl⟩,fun _=>rfl⟩) fun _ _ _ _ _ z=>by
  obtain⟨ea,C,H',B,a0,_,_,_,_,_,_,_,_,_,hE⟩:=z;exact hE
end wo
open PySem PySem.W PyProof.Rows
local macro_rules
 | `(tactic| exists d7) => `(tactic| (refine' L2.FH.mk ?x1 ?x2 ?x3 ?x4; (case x1 => k_is); (case x2 => k_is); (case x3 => k_is); (case x4 => k_is)))
local macro_rules
 | `(tactic| exists aM) => `(tactic| first | k_is | kit_is | kts_exm | k_exc)
def PySem.W.Fast.tw9349462959931474603:Unit:=()
def PySem.W.Fast.tw16580244576104894513:Unit:=()
def PySem.W.Fast.tw10607963778034293601:Unit:=()
def PySem.W.Fast.tw13171321543397093173:Unit:=()
def PySem.W.Fast.tw16358234917601087431:Unit:=()
def PySem.W.Fast.tw18172875225954294907:Unit:=()
def PySem.W.Fast.tw1680260280730525154:Unit:=()
def PySem.W.Fast.tw4886103395190348259:Unit:=()
def PySem.W.Fast.tw11625329288328101798:Unit:=()
def PySem.W.Fast.tw16894605239554631769:Unit:=()
def PySem.W.Fast.tw13650308143916728196:Unit:=()
def PySem.W.Fast.tw12523882989394888662:Unit:=()
def PySem.W.Fast.tw15983141336662310822:Unit:=()
def PySem.W.Fast.tw5889934048473604986:Unit:=()
def PySem.W.Fast.tw5338471666201733899:Unit:=()
def PySem.W.Fast.tw16409213217022811589:Unit:=()
def PySem.W.Fast.tw7734594344635579600:Unit:=()
def PySem.W.Fast.tw201341775610414475:Unit:=()
def PySem.W.Fast.tw6604753920138179047:Unit:=()
def PySem.W.Fast.tw7921544162471016530:Unit:=()
set_option maxRecDepth 100000 in
set_option maxHeartbeats 0 in
theorem PySem.Challenge.cw_tickrows_k87_whole_boards_back_holds : PySem.Challenge.rw_tickrows_k87_whole_boards_back.Holds := by
 w_on; o_law; k_head; (case hw=>w_witness2)
 k_fill
 refine wo.walk (l:=PySem.Challenge.rw_tickrows_k87_whole_boards_back) (cD:=380) (PD:=376) (cT:=387) (PT:=383) (by decide) rfl rfl (fun w h Y=>PySem.W.km_in_of Y) (fun w=>by kernel_rfl) (fun w lz Be mg mb h KX T=>o4.mpr ⟨tab_of (x:="_law_did") T KX rfl (by kernel_rfl),o4.mpr ⟨tab_of (x:="law") T KX rfl (by kernel_rfl),fun _ h=>nomatch h⟩⟩) ?F
 case F=>
  intro w mg fa h KX G yf
  refine' wo.all_mk wo.abH KX G yf ?KH ?Kr ?Kl ?Kk ?Kj ?Ki ?Kh ?Kg ?Kf ?Ke ?KD ?KC ?KA ?Kz ?Ky ?Kx ?Kw ?Kv ?Ku ?Ks ?Kq ?Kp ?Ko ?Kn ?Km ?y0 ?rF ?wb ?uV ?yZ ?uR ?yN ?xT ?DT ?DQ ?DR ?DS ?DX ?DV ?DO ?DM ?DU ?DY ?DP ?DW ?DN ?Iz ?IJ ?IF ?IE ?ID ?IB ?Iy ?Iw ?IG ?II ?IH ?IA ?Jz ?BZ ?JA ?Gn ?o9 ?tH ?tI ?bB ?bK ?JS ?JR ?JT ?JN ?JV ?JQ ?JO ?JW ?JU ?JP ?vQ ?vN ?vK ?vH ?vE ?vB ?vy ?vv ?uN ?uf ?uc ?t9 ?tX ?tU ?tR ?tO ?tK ?ui ?vP ?vM ?vJ ?vG ?vD ?vA ?vx ?vt ?uM ?ue ?ub ?tZ ?tW ?tT ?tQ ?tN ?tJ ?uh ?vR ?vO ?vL ?vI ?vF ?vC ?vz ?vw ?uO ?ug ?ud ?ua ?tY ?tV ?tS ?tP ?tL ?uj ?Ei ?tb
  (case KH=>exists d7)
  (case Kr=>exists d7)
  (case Kl=>exists d7)
  (case Kk=>exists d7)
  (case Kj=>exists d7)
  (case Ki=>exists d7)
  (case Kh=>exists d7)
  (case Kg=>exists d7)
  (case Kf=>exists d7)
  (case Ke=>exists d7)
  (case KD=>exists d7)
  (case KC=>exists d7)
  (case KA=>exists d7)
  (case Kz=>exists d7)
  (case Ky=>exists d7)
  (case Kx=>exists d7)
  (case Kw=>exists d7)
  (case Kv=>exists d7)
  (case Ku=>exists d7)
  (case Ks=>exists d7)
  (case Kq=>exists d7)
  (case Kp=>exists d7)
  (case Ko=>exists d7)
  (case Kn=>exists d7)
  (case Km=>exists d7)
  (case y0=>exists aM)
  (case rF=>exists aM)
  (case wb=>exists aM)
  (case uV=>exists aM)
  (case yZ=>exists aM)
  (case uR=>exists aM)
  (case yN=>exists aM)
  (case xT=>exists aM)
  (case DT=>exists aM)
  (case DQ=>exists aM)
  (case DR=>exists aM)
  (case DS=>exists aM)
  (case DX=>exists aM)
  (case DV=>exists aM)
  (case DO=>exists aM)
  (case DM=>exists aM)
  (case DU=>exists aM)
  (case DY=>exists aM)
  (case DP=>exists aM)
  (case DW=>exists aM)
  (case DN=>exists aM)
  (case Iz=>exists aM)
  (case IJ=>exists aM)
  (case IF=>exists aM)
  (case IE=>exists aM)
  (case ID=>exists aM)
  (case IB=>exists aM)
  (case Iy=>exists aM)
  (case Iw=>exists aM)
  (case IG=>exists aM)
  (case II=>exists aM)
  (case IH=>exists aM)
  (case IA=>exists aM)
  (case Jz=>exists aM)
  (case BZ=>exists aM)
  (case JA=>exists aM)
  (case Gn=>decide +kernel)
  (case o9=>exists aM)
  (case tH=>exists aM)
  (case tI=>exists aM)
  (case bB=>(refine' L2.wu.mk ?x1 ?x2 ?x3 ?x4 ?x5 ?x6 ?x7; (case x1=>first | k_is | kit_is | decide +kernel); (case x2=>first | k_is | kit_is | decide +kernel); (case x3=>first | k_is | kit_is | decide +kernel); (case x4=>first | k_is | kit_is | decide +kernel); (case x5=>first | k_is | kit_is | decide +kernel); (case x6=>first | k_is | kit_is | decide +kernel); (case x7=>first | k_is | kit_is | decide +kernel)))
  (case bK=>(refine' L2.aa5 ?x1 ?x2 ?x3; (case x1=>first | k_is | kit_is | decide +kernel); (case x2=>first | k_is | kit_is | decide +kernel); (case x3=>first | k_is | kit_is | decide +kernel)))
  (case JS=>(refine' L2.dX.mk ?x1 ?x2 ?x3 ?x4 ?x5 ?x6; (case x1=>first | k_is | kit_is | decide +kernel); (case x2=>first | k_is | kit_is | decide +kernel); (case x3=>first | k_is | kit_is | decide +kernel); (case x4=>first | k_is | kit_is | decide +kernel); (case x5=>first | k_is | kit_is | decide +kernel); (case x6=>first | k_is | kit_is | decide +kernel)))
  (case JR=>(refine' L2.dX.mk ?x1 ?x2 ?x3 ?x4 ?x5 ?x6; (case x1=>first | k_is | kit_is | decide +kernel); (case x2=>first | k_is | kit_is | decide +kernel); (case x3=>first | k_is | kit_is | decide +kernel); (case x4=>first | k_is | kit_is | decide +kernel); (case x5=>first | k_is | kit_is | decide +kernel); (case x6=>first | k_is | kit_is | decide +kernel)))
  (case JT=>(refine' L2.dX.mk ?x1 ?x2 ?x3 ?x4 ?x5 ?x6; (case x1=>first | k_is | kit_is | decide +kernel); (case x2=>first | k_is | kit_is | decide +kernel); (case x3=>first | k_is | kit_is | decide +kernel); (case x4=>first | k_is | kit_is | decide +kernel); (case x5=>first | k_is | kit_is | decide +kernel); (case x6=>first | k_is | kit_is | decide +kernel)))
  (case JN=>(refine' L2.dX.mk ?x1 ?x2 ?x3 ?x4 ?x5 ?x6; (case x1=>first | k_is | kit_is | decide +kernel); (case x2=>first | k_is | kit_is | decide +kernel); (case x3=>first | k_is | kit_is | decide +kernel); (case x4=>first | k_is | kit_is | decide +kernel); (case x5=>first | k_is | kit_is | decide +kernel); (case x6=>first | k_is | kit_is | decide +kernel)))
  (case JV=>(refine' L2.dX.mk ?x1 ?x2 ?x3 ?x4 ?x5 ?x6; (case x1=>first | k_is | kit_is | decide +kernel); (case x2=>first | k_is | kit_is | decide +kernel); (case x3=>first | k_is | kit_is | decide +kernel); (case x4=>first | k_is | kit_is | decide +kernel); (case x5=>first | k_is | kit_is | decide +kernel); (case x6=>first | k_is | kit_is | decide +kernel)))
  (case JQ=>(refine' L2.dX.mk ?x1 ?x2 ?x3 ?x4 ?x5 ?x6; (case x1=>first | k_is | kit_is | decide +kernel); (case x2=>first | k_is | kit_is | decide +kernel); (case x3=>first | k_is | kit_is | decide +kernel); (case x4=>first | k_is | kit_is | decide +kernel); (case x5=>first | k_is | kit_is | decide +kernel); (case x6=>first | k_is | kit_is | decide +kernel)))
  (case JO=>(refine' L2.dX.mk ?x1 ?x2 ?x3 ?x4 ?x5 ?x6; (case x1=>first | k_is | kit_is | decide +kernel); (case x2=>first | k_is | kit_is | decide +kernel); (case x3=>first | k_is | kit_is | decide +kernel); (case x4=>first | k_is | kit_is | decide +kernel); (case x5=>first | k_is | kit_is | decide +kernel); (case x6=>first | k_is | kit_is | decide +kernel)))
  (case JW=>(refine' L2.dX.mk ?x1 ?x2 ?x3 ?x4 ?x5 ?x6; (case x1=>first | k_is | kit_is | decide +kernel); (case x2=>first | k_is | kit_is | decide +kernel); (case x3=>first | k_is | kit_is | decide +kernel); (case x4=>first | k_is | kit_is | decide +kernel); (case x5=>first | k_is | kit_is | decide +kernel); (case x6=>first | k_is | kit_is | decide +kernel)))
  (case JU=>(refine' L2.dX.mk ?x1 ?x2 ?x3 ?x4 ?x5 ?x6; (case x1=>first | k_is | kit_is | decide +kernel); (case x2=>first | k_is | kit_is | decide +kernel); (case x3=>first | k_is | kit_is | decide +kernel); (case x4=>first | k_is | kit_is | decide +kernel); (case x5=>first | k_is | kit_is | decide +kernel); (case x6=>first | k_is | kit_is | decide +kernel)))
  (case JP=>(refine' L2.dX.mk ?x1 ?x2 ?x3 ?x4 ?x5 ?x6; (case x1=>first | k_is | kit_is | decide +kernel); (case x2=>first | k_is | kit_is | decide +kernel); (case x3=>first | k_is | kit_is | decide +kernel); (case x4=>first | k_is | kit_is | decide +kernel); (case x5=>first | k_is | kit_is | decide +kernel); (case x6=>first | k_is | kit_is | decide +kernel)))
  (case vQ=>exists aM)
  (case vN=>exists aM)
  (case vK=>exists aM)
  (case vH=>exists aM)
  (case vE=>exists aM)
  (case vB=>exists aM)
  (case vy=>exists aM)
  (case vv=>exists aM)
  (case uN=>exists aM)
  (case uf=>exists aM)
  (case uc=>exists aM)
  (case t9=>exists aM)
  (case tX=>exists aM)
  (case tU=>exists aM)
  (case tR=>exists aM)
  (case tO=>exists aM)
  (case tK=>exists aM)
  (case ui=>exists aM)
  (case vP=>exists aM)
  (case vM=>exists aM)
  (case vJ=>exists aM)
  (case vG=>exists aM)
  (case vD=>exists aM)
  (case vA=>exists aM)
  (case vx=>exists aM)
  (case vt=>exists aM)
  (case uM=>exists aM)
  (case ue=>exists aM)
  (case ub=>exists aM)
  (case tZ=>exists aM)
  (case tW=>exists aM)
  (case tT=>exists aM)
  (case tQ=>exists aM)
  (case tN=>exists aM)
  (case tJ=>exists aM)
  (case uh=>exists aM)
  (case vR=>exists aM)
  (case vO=>exists aM)
  (case vL=>exists aM)
  (case vI=>exists aM)
  (case vF=>exists aM)
  (case vC=>exists aM)
  (case vz=>exists aM)
  (case vw=>exists aM)
  (case uO=>exists aM)
  (case ug=>exists aM)
  (case ud=>exists aM)
  (case ua=>exists aM)
  (case tY=>exists aM)
  (case tV=>exists aM)
  (case tS=>exists aM)
  (case tP=>exists aM)
  (case tL=>exists aM)
  (case uj=>exists aM)
  (case Ei=>kernel_rfl)
  (case tb=>kernel_rfl)
