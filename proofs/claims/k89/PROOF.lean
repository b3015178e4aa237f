import PyProof.Rows.All
import Wide.All
import OpenK.AllK
import Wide.FinOn
import Lean
import PyProof.EqAt
import PyProof.EqKinds
import PyProof.TupleCall
import PyProof.ConsumeWalk
import PyProof.StrWalks
import PyProof.IsiPairs
import PyProof.IsiHeapPairs
import KE.KEqDict
import PyProof.NeKinds
import PyProof.FactsAll.dict
import KE.KIsAll
import KE.KTryMore
import PyProof.FString
import PyProof.ExcBaseAll.ValueError
import PyProof.NsDelKeeps
import PyProof.ListStr
import PyProof.Rows.StrJoin2
import KE.RegKIsAll
import KE.RegKTryMore
import PyProof.StrOps2
import PyProof.ZipIter
import PyProof.Rows.FactsT2
import PyProof.WalksEnum
import PyProof.EnumMake
import PyProof.Draws
import KE.KUnpack
import PyProof.CallType
import PyProof.CollectIter
import PyProof.JoinWalk
import PyProof.Rows.StrJoinStr
import PyProof.DictRoads
import PyProof.DictKinds
import PyProof.DictStraight
import PyProof.DictDisplay
import PyProof.ReprRoads
import PyProof.ReprLen
import PyProof.SetRoads
import PyProof.Rows.SetFrom
import PyProof.MinMaxWalk
import PyProof.Rows.CallKwBuiltin
import KE.KMinKey
import PyProof.StrLawsChain
import PyProof.StrLawsTight
import PyProof.Rows.StrNews
import PyProof.Rows.StrSplitCount
import PyProof.DictCalls
import PyProof.SliceSyntax
import PyProof.SumWalk
import PyProof.ReprStr
import PyProof.StrLawsRepr
import KE.KLam
import PyProof.SetKind
import PyProof.CollectWalk
import PyProof.Rows.SortStr
import PyProof.StrLawsReplace
import PyProof.DictWalks
import PyProof.DictItems
import PyProof.DictItemsLoops
import KE.KPairComp
import PyProof.IsiH_list
import KE.KDictOf
import KE.KItemsList
import PyProof.ListNew
import PyProof.SetScanFacts
import PyProof.MeetsSeq2
import PyProof.FactsAll.subtypes_5
import PyProof.ReprHeadsTuple
import PyProof.FString4
import PySem.Challenge.RW_tickrows_k89_boards_refused
noncomputable section
set_option Elab.async false
set_option compiler.extract_closed false
set_option linter.all false
set_option maxRecDepth 100000
namespace L2
inductive Dt where
 |non | bl (b:Bool) | int (i:Int) | str (l:List Nat) | tup (ds:List Dt) | lst (ds:List Dt)
 |dic (kvs:List (List Nat×List Nat))
noncomputable def lkp {α β:Type} [BEq α] (kvs:List (α×β)) (k:α):Option β:=(kvs.find? fun p=>p.1==k).map (·.2)
noncomputable def eqR (ka kb:List (List Nat×List Nat)):Bool:=ka.length==kb.length&&ka.all fun p=>lkp kb p.1==some p.2
noncomputable def eqK (ka kb:List (List Nat×List Nat)):Bool:=ka==kb || eqR ka kb
mutual
noncomputable def eqD:Dt->Dt->Bool
 |.non,.non=>true
 |.bl a,.bl b=>a==b
 |.int a,.int b=>a==b
 |.bl a,.int b=>(if a then 1 else 0)==b
 |.int a,.bl b=>a==(if b then 1 else 0)
 |.str a,.str b=>a==b
 |.tup a,.tup b=>eqDs a b
 |.lst a,.lst b=>eqDs a b
 |.dic a,.dic b=>eqK a b
 |_,_=>false
noncomputable def eqDs:List Dt->List Dt->Bool
 | [],[]=>true
 |a::r,b::t=>eqD a b&&eqDs r t
 |_,_=>false
end
mutual
noncomputable def dep:Dt->Nat
 |.tup ds=>deps ds+1
 |.lst ds=>deps ds+1
 |.dic _=>1
 |_=>0
noncomputable def deps:List Dt->Nat
 | []=>0
 |d::ds=>max (dep d) (deps ds)
end
mutual
noncomputable def sm:Dt->Prop
 |.str l=>l.length<=10000
 |.tup ds=>ds.length<=10000/\sms ds
 |.lst ds=>ds.length<=10000/\sms ds
 |.dic kvs=>kvs.length<=10000/\∀p∈kvs,p.1.length<=10000/\p.2.length<=10000
 |_=>True
noncomputable def sms:List Dt->Prop
 | []=>True
 |d::ds=>sm d/\sms ds
end
theorem sms_mem {d:Dt}:∀{ds:List Dt},sms ds->d∈ds->sm d
 |e::ds,h,hd=>by
  simp only [sms] at h
  rcases List.mem_cons.mp hd with z | z
  ·subst z; exact h.1
  ·exact sms_mem h.2 z
theorem sms_of:∀{ds:List Dt},(∀d∈ds,sm d)->sms ds
 | [],_=>by simp only [sms]
 |d::ds,h=>by
  simp only [sms]
  exact⟨h d List.mem_cons_self,sms_of fun e he=>h e (List.mem_cons_of_mem _ he)⟩
theorem sms_append {a b:List Dt} (ha:sms a) (hb:sms b):sms (a++b):=sms_of fun d hd=>by
 rcases List.mem_append.mp hd with h | h
 ·exact sms_mem ha h
 ·exact sms_mem hb h
inductive M (α:Type) where
 |ok (a:α) | ex (c:Nat) | bad
noncomputable def M.bd {α β:Type}:M α->(α->M β)->M β
 |.ok a,k=>k a
 |.ex c,_=>.ex c
 |.bad,_=>.bad
noncomputable def M.calm {α:Type}:M α->M α
 |.ex _=>.bad
 |m=>m
@[simp] theorem bd_ok {α β:Type} (a:α) (k:α->M β):(M.ok a).bd k=k a:=.trans rfl rfl
@[simp] theorem bd_ex {α β:Type} (c:Nat) (k:α->M β):(M.ex c).bd k=.ex c:=.trans rfl rfl
@[simp] theorem bd_bad {α β:Type} (k:α->M β):(M.bad).bd k=.bad:=.trans rfl rfl
@[simp] theorem calm_ok {α:Type} (a:α):(M.ok a).calm=.ok a:=.trans rfl rfl
@[simp] theorem calm_bad {α:Type}:(M.bad:M α).calm=.bad:=.trans rfl rfl
theorem bd_if {α β:Type} (c:Prop) [Decidable c] (a b:M α) (k:α->M β):(if c then a else b).bd k=if c then a.bd k else b.bd k:=by split <;> rfl
inductive Bd where
 |no | val (d:Dt) | own (ds:List Dt) | owd (kvs:List (List Nat×List Nat))
 |brd (dn un:List Dt)
 |bor (p:Option Nat) (dn un:List Dt)
noncomputable abbrev Rho:=List Bd
noncomputable def gv:Option Bd->M Dt
 |some (.val d)=>.ok d
 |_=>.bad
noncomputable def getV (i:Nat) (ρ:Rho):M Dt:=gv ρ[i]?
noncomputable def putV (i:Nat) (d:Dt) (ρ:Rho):Rho:=ρ.set i (.val d)
noncomputable def vOnly:Option Bd->Bd
 |some (.val d)=>.val d
 |_=>.no
noncomputable def startR (k:Nat) (fr:List Nat) (ρ:Rho):Rho:=List.replicate k .no++fr.map fun j=>vOnly ρ[j]?
noncomputable def pC (d:Dt):Rho->M Dt:=fun _=>.ok d
noncomputable def p2 (op:Dt->Dt->M Dt) (f g:Rho->M Dt):Rho->M Dt:=fun ρ=>(f ρ).bd fun x=>(g ρ).bd fun y=>op x y
noncomputable def p1 (op:Dt->M Dt) (f:Rho->M Dt):Rho->M Dt:=fun ρ=>(f ρ).bd op
noncomputable def szS (l:List Nat):M Dt:=if l.length<=10000 then .ok (.str l) else .bad
noncomputable def szL (l:List Dt):M Dt:=if l.length<=10000 then .ok (.lst l) else .bad
noncomputable def oAdd:Dt->Dt->M Dt
 |.int a,.int b=>.ok (.int (a+b))
 |.str a,.str b=>szS (a++b)
 |.lst a,.lst b=>szL (a++b)
 |_,_=>.bad
noncomputable def oSub:Dt->Dt->M Dt
 |.int a,.int b=>.ok (.int (a - b))
 |_,_=>.bad
noncomputable def smallI (a:Int):Prop:=-(2 ^ 64)<a/\a<2 ^ 64
noncomputable instance (a:Int):Decidable (smallI a):=by unfold smallI; infer_instance
noncomputable def oMul:Dt->Dt->M Dt
 |.int a,.int b=>if smallI a∨smallI b then .ok (.int (a * b)) else .bad
 |.str a,.int n=>if -1000<=n/\n<=1000/\a.length<=1000 then szS (List.replicate n.toNat a).flatten else .bad
 |_,_=>.bad
noncomputable def oMod:Dt->Dt->M Dt
 |.int a,.int b=>if 0<b then .ok (.int (a % b)) else .bad
 |_,_=>.bad
noncomputable def oDiv:Dt->Dt->M Dt
 |.int a,.int b=>if 0<b/\b<1073741824 then .ok (.int (a / b)) else .bad
 |_,_=>.bad
noncomputable def oPow:Dt->Dt->M Dt
 |.int a,.int b=>if 0<=b/\b<=1000/\a.natAbs<2 ^ 64 then .ok (.int (a ^ b.toNat)) else .bad
 |_,_=>.bad
noncomputable def oShr:Dt->Dt->M Dt
 |.int a,.int b=>if 0<=b then .ok (.int (a / 2 ^ b.toNat)) else .bad
 |_,_=>.bad
noncomputable def oAnd1:Dt->M Dt
 |.int a=>if 0<=a then .ok (.int (a % 2)) else .bad
 |_=>.bad
noncomputable def oNeg:Dt->M Dt
 |.int a=>.ok (.int (-a))
 |_=>.bad
noncomputable def oLt:Dt->Dt->M Dt
 |.int a,.int b=>.ok (.bl (decide (a<b)))
 |_,_=>.bad
noncomputable def oLe:Dt->Dt->M Dt
 |.int a,.int b=>.ok (.bl (decide (a<=b)))
 |_,_=>.bad
noncomputable def oGt:Dt->Dt->M Dt
 |.int a,.int b=>.ok (.bl (decide (b<a)))
 |_,_=>.bad
noncomputable def oGe:Dt->Dt->M Dt
 |.int a,.int b=>.ok (.bl (decide (b<=a)))
 |_,_=>.bad
noncomputable def oEq (a b:Dt):M Dt:=if dep a<=50 then .ok (.bl (eqD a b)) else .bad
noncomputable def oNe (a b:Dt):M Dt:=if dep a<=50 then .ok (.bl (!eqD a b)) else .bad
noncomputable def flatD:Dt->Bool
 |.non=>true
 |.bl _=>true
 |.int _=>true
 |.str _=>true
 |_=>false
noncomputable def oIn:Dt->Dt->M Dt
 |.str [c],.str l=>.ok (.bl (decide (c∈l)))
 |a,.lst ds=>if flatD a=true/\ds.all flatD=true then .ok (.bl (ds.any fun d=>eqD d a)) else .bad
 |a,.tup ds=>if flatD a=true/\ds.all flatD=true then .ok (.bl (ds.any fun d=>eqD d a)) else .bad
 |_,_=>.bad
noncomputable def oNot:Dt->M Dt
 |.bl b=>.ok (.bl (!b))
 |_=>.bad
noncomputable def oNotIn (a b:Dt):M Dt:=(oIn a b).bd oNot
noncomputable def isNon:Dt->Bool
 |.non=>true
 |_=>false
noncomputable def oIs (a b:Dt):M Dt:=match b with
 |.non=>.ok (.bl (isNon a))
 |.bl y=>(match a with | .bl x=>.ok (.bl (x==y)) | _=>.bad)
 |_=>.bad
noncomputable def oIsNot (a b:Dt):M Dt:=(oIs a b).bd oNot
noncomputable def ixZ (n:Nat) (i:Int):Option Nat:=if 0<=i then (if i<n then some i.toNat else none) else if -(n:Int)<=i then some (i+n).toNat else none
noncomputable def atZ {α:Type} (xs:List α) (i:Int):Option α:=(ixZ xs.length i).bind fun j=>xs[j]?
noncomputable def ixC:Option Nat->M Dt
 |some c=>.ok (.str [c])
 |none=>.bad
noncomputable def ixD:Option Dt->M Dt
 |some d=>.ok d
 |none=>.bad
noncomputable def oIx:Dt->Dt->M Dt
 |.str l,.int i=>ixC (atZ l i)
 |.lst l,.int i=>ixD (atZ l i)
 |.tup l,.int i=>ixD (atZ l i)
 |_,_=>.bad
noncomputable def sIz (n d:Nat):Option Int->Nat
 |none=>d
 |some i=>if i<0 then (i+n).toNat else min i.toNat n
noncomputable def cutZ {α:Type} (l:List α) (lo hi:Option Int):List α:=(l.drop (sIz l.length 0 lo)).take (sIz l.length l.length hi - sIz l.length 0 lo)
noncomputable def oCut (lo hi:Option Int):Dt->M Dt
 |.str l=>.ok (.str (cutZ l lo hi))
 |.lst l=>.ok (.lst (cutZ l lo hi))
 |_=>.bad
noncomputable def intM:Dt->M Int
 |.int i=>.ok i
 |_=>.bad
noncomputable def pPart:Option (Rho->M Dt)->Rho->M (Option Int)
 |none,_=>.ok none
 |some f,ρ=>(f ρ).bd fun d=>(intM d).bd fun i=>.ok (some i)
noncomputable def pSlice (f:Rho->M Dt) (lo hi:Rho->M (Option Int)):Rho->M Dt:=fun ρ=>(f ρ).bd fun d=>(lo ρ).bd fun a=>(hi ρ).bd fun b=>oCut a b d
noncomputable def truM:Dt->M Bool
 |.bl b=>.ok b
 |_=>.bad
noncomputable def tOf (f:Rho->M Dt):Rho->M Bool:=fun ρ=>(f ρ).bd truM
noncomputable def tNt (f:Rho->M Bool):Rho->M Bool:=fun ρ=>(f ρ).bd fun b=>.ok (!b)
noncomputable def tAn (f g:Rho->M Bool):Rho->M Bool:=fun ρ=>(f ρ).bd fun b=>if b=true then g ρ else .ok false
noncomputable def tOr' (f g:Rho->M Bool):Rho->M Bool:=fun ρ=>(f ρ).bd fun b=>if b=true then .ok true else g ρ
noncomputable def pAn (f g:Rho->M Dt):Rho->M Dt:=fun ρ=>(f ρ).bd fun d=>(truM d).bd fun b=>if b=true then g ρ else .ok (.bl false)
noncomputable def pOr (f g:Rho->M Dt):Rho->M Dt:=fun ρ=>(f ρ).bd fun d=>(truM d).bd fun b=>if b=true then .ok (.bl true) else g ρ
noncomputable def pIf (c:Rho->M Bool) (f g:Rho->M Dt):Rho->M Dt:=fun ρ=>(c ρ).bd fun b=>if b=true then f ρ else g ρ
noncomputable def pChain (op op':Dt->Dt->M Dt) (f g h:Rho->M Dt):Rho->M Dt:=fun ρ=>(f ρ).bd fun x=>(g ρ).bd fun y=>(op x y).bd fun d=>(truM d).bd fun b=>if b=true then (h ρ).bd fun z=>op' y z else .ok (.bl false)
noncomputable def aNil:Rho->M (List Dt):=fun _=>.ok []
noncomputable def aCons (f:Rho->M Dt) (g:Rho->M (List Dt)):Rho->M (List Dt):=fun ρ=>(f ρ).bd fun d=>(g ρ).bd fun ds=>.ok (d::ds)
noncomputable def pLst (f:Rho->M (List Dt)):Rho->M Dt:=fun ρ=>(f ρ).bd fun ds=>szL ds
noncomputable def pTup (f:Rho->M (List Dt)):Rho->M Dt:=fun ρ=>(f ρ).bd fun ds=>if ds.length<=10000 then .ok (.tup ds) else .bad
noncomputable def repD (ds:List Dt):Dt->M Dt
 |.int n=>if -1000<=n/\n<=1000/\ds.length * n.toNat<=10000 then .ok (.lst (List.replicate n.toNat ds).flatten) else .bad
 |_=>.bad
noncomputable def pRep (f:Rho->M (List Dt)) (g:Rho->M Dt):Rho->M Dt:=fun ρ=>(f ρ).bd fun ds=>if ds.length<=10000 then (g ρ).bd (repD ds) else .bad
noncomputable def pCall (F:List Dt->M Dt) (f:Rho->M (List Dt)):Rho->M Dt:=fun ρ=>(f ρ).bd F
noncomputable def bLen:List Dt->M Dt
 | [.str l]=>.ok (.int l.length)
 | [.lst l]=>.ok (.int l.length)
 | [.tup l]=>.ok (.int l.length)
 |_=>.bad
noncomputable def bMin:List Dt->M Dt
 | [.int i,.int j]=>.ok (.int (if j<i then j else i))
 |_=>.bad
noncomputable def bMax:List Dt->M Dt
 | [.int i,.int j]=>.ok (.int (if j > i then j else i))
 |_=>.bad
noncomputable def bools:List Dt->Option (List Bool)
 | []=>some []
 |.bl b::r=>(bools r).map (b :: ·)
 |_=>none
noncomputable def blM (k:List Bool->Bool):Option (List Bool)->M Dt
 |some bs=>.ok (.bl (k bs))
 |none=>.bad
noncomputable def bAll:List Dt->M Dt
 | [.lst l]=>blM (fun bs=>bs.all id) (bools l)
 |_=>.bad
noncomputable def bAny:List Dt->M Dt
 | [.lst l]=>blM (fun bs=>bs.any id) (bools l)
 |_=>.bad
noncomputable def sgD (l:List Nat):List Dt:=l.map fun c=>.str [c]
noncomputable def bList:List Dt->M Dt
 | [.lst l]=>.ok (.lst l)
 | [.tup l]=>.ok (.lst l)
 | [.str l]=>.ok (.lst (sgD l))
 |_=>.bad
noncomputable def bInt:List Dt->M Dt
 | [.int i]=>.ok (.int i)
 | [.bl b]=>.ok (.int (if b then 1 else 0))
 | [.str [c]]=>if 48<=c/\c<=57 then .ok (.int ((c:Int) - 48)) else .bad
 |_=>.bad
noncomputable def bStr:List Dt->M Dt
 | [.int i]=>if 0<=i/\i<=9 then .ok (.str [48+i.toNat]) else .bad
 |_=>.bad
noncomputable def strsM:List Dt->Option (List (List Nat))
 | []=>some []
 |.str l::r=>(strsM r).map (l :: ·)
 |_=>none
noncomputable abbrev Sel:=Dt->Option (List Dt->M Dt)
noncomputable def jnM:Option (List (List Nat))->M Dt
 |some ls=>szS ls.flatten
 |none=>.bad
noncomputable def joinM:List Dt->M Dt
 | [.lst ds]=>jnM (strsM ds)
 |_=>.bad
noncomputable def mJoin:Sel
 |.str []=>some joinM
 |_=>none
noncomputable def cntS (l:List Nat):List Dt->M Dt
 | [.str [c]]=>.ok (.int (l.count c))
 |_=>.bad
noncomputable def mCountS:Sel
 |.str l=>some (cntS l)
 |_=>none
noncomputable def mtk:Option (List Dt->M Dt)->M (List Dt)->M Dt
 |some k,m=>m.bd k
 |none,_=>.bad
noncomputable def pMeth (m:Sel) (f:Rho->M Dt) (g:Rho->M (List Dt)):Rho->M Dt:=fun ρ=>(f ρ).bd fun d=>mtk (m d) (g ρ)
noncomputable abbrev IM:=Rho->M (List Dt)
noncomputable def seqM:Dt->M (List Dt)
 |.lst l=>.ok l
 |.tup l=>.ok l
 |.str l=>.ok (sgD l)
 |_=>.bad
noncomputable def iOf (f:Rho->M Dt):IM:=fun ρ=>(f ρ).bd seqM
noncomputable def rngD (lo hi:Int):List Dt:=(List.range (hi - lo).toNat).map fun(k:Nat)=>.int (lo+(k:Nat))
noncomputable def rng1M:List Dt->M (List Dt)
 | [.int n]=>if -1000000<=n/\n<=10000 then .ok (rngD 0 n) else .bad
 |_=>.bad
noncomputable def rng2M:List Dt->M (List Dt)
 | [.int a,.int b]=>if -1000000<=a/\a<=1000000/\-1000000<=b/\b<=1000000/\b - a<=10000 then .ok (rngD a b) else .bad
 |_=>.bad
noncomputable def zipD (a b:List Dt):List Dt:=(a.zip b).map fun p=>.tup [p.1,p.2]
noncomputable def zip2M:List Dt->M (List Dt)
 | [x,y]=>(seqM x).bd fun a=>(seqM y).bd fun b=>.ok (zipD a b)
 |_=>.bad
noncomputable def zip3D (a b c:List Dt):List Dt:=(a.zip (b.zip c)).map fun p=>.tup [p.1,p.2.1,p.2.2]
noncomputable def zip3M:List Dt->M (List Dt)
 | [x,y,z]=>(seqM x).bd fun a=>(seqM y).bd fun b=>(seqM z).bd fun c=>.ok (zip3D a b c)
 |_=>.bad
noncomputable def enumD (a:List Dt):List Dt:=(List.range a.length).zipWith (fun(i:Nat) d=>.tup [.int (i:Nat),d]) a
noncomputable def enumM:List Dt->M (List Dt)
 | [x]=>(seqM x).bd fun a=>.ok (enumD a)
 |_=>.bad
noncomputable def revM:List Dt->M (List Dt)
 | [x]=>(seqM x).bd fun a=>.ok a.reverse
 |_=>.bad
noncomputable def iBy (k:List Dt->M (List Dt)) (f:Rho->M (List Dt)):IM:=fun ρ=>(f ρ).bd k
noncomputable abbrev GM:=Dt->Rho->M Rho
noncomputable def gNm (i:Nat):GM:=fun d ρ=>.ok (putV i d ρ)
noncomputable def gZn:List Dt->Rho->M Rho
 | [],ρ=>.ok ρ
 |_,_=>.bad
noncomputable def gZc (g:GM) (gs:List Dt->Rho->M Rho):List Dt->Rho->M Rho
 |d::ds,ρ=>(g d ρ).bd fun ρ1=>gs ds ρ1
 |_,_=>.bad
noncomputable def gTp (n:Nat) (gs:List Dt->Rho->M Rho):GM
 |.tup ds,ρ=>if ds.length=n then gs ds ρ else .bad
 |.lst ds,ρ=>if ds.length=n then gs ds ρ else .bad
 |_,_=>.bad
noncomputable def comM (g:GM) (tc:Rho->M Bool) (te:Rho->M Dt) (ρ0:Rho):List Dt->M (List Dt)
 | []=>.ok []
 |d::ds=>(g d ρ0).bd fun ρ1=>(tc ρ1).bd fun b=>if b=true then (te ρ1).bd fun x=>(comM g tc te ρ0 ds).bd fun xs=>.ok (x::xs) else comM g tc te ρ0 ds
noncomputable def tYs:Rho->M Bool:=fun _=>.ok true
noncomputable def pComp (k:Nat) (fr:List Nat) (it:IM) (g:GM) (tc:Rho->M Bool) (te:Rho->M Dt):Rho->M Dt:=fun ρ=>(it ρ).bd fun ds=>(comM g tc te (startR k fr ρ) ds).calm.bd szL
inductive Fl where
 |nx (ρ:Rho) | rt (d:Dt) | bk (ρ:Rho) | ct (ρ:Rho)
noncomputable abbrev SM:=Rho->M Fl
noncomputable def sSkip:SM:=fun ρ=>.ok (.nx ρ)
noncomputable def sqk (t:SM):Fl->M Fl
 |.nx ρ=>t ρ
 |f=>.ok f
noncomputable def sSeq (s t:SM):SM:=fun ρ=>(s ρ).bd (sqk t)
noncomputable def sRet (f:Rho->M Dt):SM:=fun ρ=>(f ρ).bd fun d=>.ok (.rt d)
noncomputable def sDrop (f:Rho->M Dt):SM:=fun ρ=>(f ρ).bd fun _=>.ok (.nx ρ)
noncomputable def sAsg (f:Rho->M Dt) (g:GM):SM:=fun ρ=>(f ρ).bd fun d=>(g d ρ).calm.bd fun ρ'=>.ok (.nx ρ')
noncomputable def augD (i:Nat) (ρ:Rho) (n:Int):Dt->M Fl
 |.int k=>.ok (.nx (putV i (.int (n+k)) ρ))
 |_=>.bad
noncomputable def augK (i:Nat) (f:Rho->M Dt) (ρ:Rho):Option Bd->M Fl
 |some (.val (.int n))=>(f ρ).bd (augD i ρ n)
 |_=>.bad
noncomputable def sAug (i:Nat) (f:Rho->M Dt):SM:=fun ρ=>augK i f ρ ρ[i]?
noncomputable def sIf (c:Rho->M Bool) (s t:SM):SM:=fun ρ=>(c ρ).bd fun b=>if b=true then s ρ else t ρ
noncomputable def fork (k:SM):Fl->M Fl
 |.nx ρ=>k ρ
 |.ct ρ=>k ρ
 |.bk ρ=>.ok (.nx ρ)
 |.rt d=>.ok (.rt d)
noncomputable def forM' (g:GM) (b:SM):List Dt->SM
 | [],ρ=>.ok (.nx ρ)
 |d::ds,ρ=>(g d ρ).calm.bd fun ρ1=>(b ρ1).calm.bd (fork (forM' g b ds))
noncomputable def sFor (it:IM) (g:GM) (b:SM):SM:=fun ρ=>(it ρ).bd fun ds=>forM' g b ds ρ
noncomputable def sOwn (i:Nat) (f:Rho->M (List Dt)):SM:=fun ρ=>(f ρ).bd fun ds=>if ds.length<=10000 then .ok (.nx (ρ.set i (.own ds))) else .bad
noncomputable def relB (i:Nat) (ρ:Rho):Option Bd->Rho
 |some (.own ds)=>ρ.set i (.val (.lst ds))
 |some (.owd kvs)=>ρ.set i (.val (.dic kvs))
 |_=>ρ
noncomputable def rel (i:Nat) (ρ:Rho):Rho:=relB i ρ ρ[i]?
noncomputable def sRel (i:Nat) (s:SM):SM:=fun ρ=>s (rel i ρ)
noncomputable def appK (i:Nat) (f:Rho->M Dt) (ρ:Rho):Option Bd->M Fl
 |some (.own ds)=>(f ρ).bd fun d=>if ds.length<10000 then .ok (.nx (ρ.set i (.own (ds++[d])))) else .bad
 |_=>.bad
noncomputable def sAppend (i:Nat) (f:Rho->M Dt):SM:=fun ρ=>appK i f ρ ρ[i]?
noncomputable def sForC (it:IM) (g:GM) (b:SM):SM:=fun ρ=>(sFor it g b ρ).calm
noncomputable def parK (i j:Nat) (ρ:Rho):List Dt->M Fl
 | [d,e]=>.ok (.nx (putV j e (putV i d ρ)))
 |_=>.bad
noncomputable def sPar (i j:Nat) (f:Rho->M (List Dt)):SM:=fun ρ=>(f ρ).bd (parK i j ρ)
noncomputable def uOf (f:Rho->M Dt):Rho->M Unit:=fun ρ=>(f ρ).bd fun _=>.ok ()
noncomputable def uIn:Dt->M Unit
 |.int i=>if -2<=i/\i<=20 then .ok () else .bad
 |_=>.bad
noncomputable def uInt (f:Rho->M Dt):Rho->M Unit:=fun ρ=>(f ρ).bd uIn
noncomputable def sRz (c:Nat) (f:Rho->M Unit):SM:=fun ρ=>(f ρ).bd fun _=>.ex c
noncomputable def wordZ (j:Nat):List Nat:=[[99,108,97,115,104],[110,111,32,110,97,109,101],[110,111,32,116,101,120,116],[110,111,32,116,105,99,107],[110,111,32,119,97,118,101],[116,111,111,32,108,111,110,103],[117,110,108,105,107,101]].getD j []
noncomputable def tryK (cs:List Nat) (i:Nat):M Fl->M Fl
 |.ok (.nx ρ)=>(getV i ρ).bd fun d=>.ok (.rt d)
 |.ex c=>if c∈cs then .ok (.rt (.str (wordZ c))) else .bad
 |_=>.bad
noncomputable def sTry (cs:List Nat) (i:Nat) (b:SM):SM:=fun ρ=>tryK cs i (b ρ)
noncomputable def dgetM:List (List Nat×Dt)->Dt->M Dt
 | [],_=>.bad
 | (k,v)::r,d=>match d with | .str l=>if l=k then .ok v else dgetM r d | _=>.bad
noncomputable def pDget (ks:List (List Nat)) (f:Rho->M (List Dt)) (g:Rho->M Dt):Rho->M Dt:=fun ρ=>(f ρ).bd fun vs=>(g ρ).bd fun d=>dgetM (ks.zip vs) d
noncomputable def oRevJ:Dt->M Dt
 |.str l=>.ok (.str l.reverse)
 |_=>.bad
noncomputable def oIsStr:Dt->M Dt
 |.str _=>.ok (.bl true)
 |.dic _=>.bad
 |_=>.ok (.bl false)
noncomputable def pkF (Fs:List (List Dt->M Dt)):Dt->Option (List Dt->M Dt)
 |.int k=>if 0<=k then Fs[k.toNat]? else none
 |_=>none
noncomputable def pPick (Fs:List (List Dt->M Dt)) (i:Rho->M Dt) (f:Rho->M (List Dt)):Rho->M Dt:=fun ρ=>(i ρ).bd fun d=>mtk (pkF Fs d) (f ρ)
noncomputable def flV:Fl->M Dt
 |.nx _=>.ok .non
 |.rt d=>.ok d
 |_=>.bad
noncomputable def fnM (np n:Nat) (b:SM):List Dt->M Dt:=fun ds=>if ds.length=np then (b (ds.map Bd.val++List.replicate n .no)).bd flV else .bad
noncomputable def lstM:Dt->M (List Dt)
 |.lst l=>.ok l
 |_=>.bad
noncomputable def zipLM:List Dt->M (List Dt)
 | [x,y]=>(lstM x).bd fun a=>(lstM y).bd fun b=>.ok (zipD a b)
 |_=>.bad
noncomputable def sqM:Dt->M (List Dt)
 |.lst l=>.ok l
 |.str l=>.ok (sgD l)
 |_=>.bad
noncomputable def zip2N:List Dt->M (List Dt)
 | [x,y]=>(sqM x).bd fun a=>(sqM y).bd fun b=>.ok (zipD a b)
 |_=>.bad
end L2
namespace Pg
open L2
noncomputable def B_L_cell:SM:=(sSeq (sIf (tOf (p2 oLt (getV 1) (pCall bLen (aCons (getV 0) aNil)))) (sRet (p2 oIx (getV 0) (getV 1))) sSkip)
 (sSeq (sIf (tOf (p2 oEq (getV 0) (pLst aNil))) (sRet (pC (.int 0))) sSkip)
 (sRet (p2 oAdd (p2 oMul (p2 oIx (getV 0) (p2 oMod (getV 1) (pCall bLen (aCons (getV 0) aNil)))) (pC (.int 31))) (getV 1)))))
noncomputable def F_L_cell:List Dt->M Dt:=fnM 2 0 B_L_cell
noncomputable def B_L_pick:SM:=(sSeq (sAsg (p2 oMod (p2 oMul (p2 oAdd (pCall F_L_cell (aCons (getV 0) (aCons (getV 1) aNil))) (p2 oMul (pC (.int 6151)) (p2 oAdd (getV 1) (pC (.int 1))))) (pC (.int 40692))) (pC (.int 2147483399))) (gNm 3))
 (sRet (p2 oMod (p2 oMod (p2 oAdd (p2 oMul (getV 3) (getV 3)) (p2 oDiv (getV 3) (pC (.int 31)))) (pC (.int 2147483629))) (getV 2))))
noncomputable def F_L_pick:List Dt->M Dt:=fnM 3 1 B_L_pick
noncomputable def B_of_one_length:SM:=(sRet (pCall bAll (aCons (pComp 1 [0] (iOf (getV 0)) (gNm 0) tYs (p2 oEq (pCall bLen (aCons (getV 0) aNil)) (pCall bLen (aCons (p2 oIx (getV 1) (pC (.int 0))) aNil)))) aNil)))
noncomputable def F_of_one_length:List Dt->M Dt:=fnM 1 0 B_of_one_length
noncomputable def B_refuse_unlike:SM:=(sIf (tNt (tOf (pCall F_of_one_length (aCons (getV 0) aNil)))) (sRz 6 (uOf (pC (.str [116,104,101,32,119,97,118,101,115,32,104,97,118,101,32,117,110,108,105,107,101,32,108,101,110,103,116,104,115])))) sSkip)
noncomputable def F_refuse_unlike:List Dt->M Dt:=fnM 1 0 B_refuse_unlike
noncomputable def B_both_at:SM:=(sSeq (sIf (tOr' (tOf (p2 oEq (getV 0) (pC (.str [48])))) (tOf (p2 oEq (getV 1) (pC (.str [48]))))) (sRet (pC (.str [48]))) sSkip)
 (sSeq (sIf (tOr' (tOf (p2 oEq (getV 0) (pC (.str [120])))) (tOf (p2 oEq (getV 1) (pC (.str [120]))))) (sRet (pC (.str [120]))) sSkip)
 (sRet (pC (.str [49])))))
noncomputable def F_both_at:List Dt->M Dt:=fnM 2 0 B_both_at
noncomputable def B_both:SM:=(sSeq (sDrop (pCall F_refuse_unlike (aCons (pLst (aCons (getV 0) (aCons (getV 1) aNil))) aNil)))
 (sRet (pMeth mJoin (pC (.str [])) (aCons (pComp 2 [] (iBy zip2N (aCons (getV 0) (aCons (getV 1) aNil))) (gTp 2 (gZc (gNm 0) (gZc (gNm 1) gZn))) tYs (pCall F_both_at (aCons (getV 0) (aCons (getV 1) aNil)))) aNil))))
noncomputable def F_both:List Dt->M Dt:=fnM 2 0 B_both
noncomputable def B_either_at:SM:=(sSeq (sIf (tOr' (tOf (p2 oEq (getV 0) (pC (.str [49])))) (tOf (p2 oEq (getV 1) (pC (.str [49]))))) (sRet (pC (.str [49]))) sSkip)
 (sSeq (sIf (tOr' (tOf (p2 oEq (getV 0) (pC (.str [120])))) (tOf (p2 oEq (getV 1) (pC (.str [120]))))) (sRet (pC (.str [120]))) sSkip)
 (sRet (pC (.str [48])))))
noncomputable def F_either_at:List Dt->M Dt:=fnM 2 0 B_either_at
noncomputable def B_either:SM:=(sSeq (sDrop (pCall F_refuse_unlike (aCons (pLst (aCons (getV 0) (aCons (getV 1) aNil))) aNil)))
 (sRet (pMeth mJoin (pC (.str [])) (aCons (pComp 2 [] (iBy zip2N (aCons (getV 0) (aCons (getV 1) aNil))) (gTp 2 (gZc (gNm 0) (gZc (gNm 1) gZn))) tYs (pCall F_either_at (aCons (getV 0) (aCons (getV 1) aNil)))) aNil))))
noncomputable def F_either:List Dt->M Dt:=fnM 2 0 B_either
noncomputable def B_unlike_at:SM:=(sSeq (sIf (tOr' (tOf (p2 oEq (getV 0) (pC (.str [120])))) (tOf (p2 oEq (getV 1) (pC (.str [120]))))) (sRet (pC (.str [120]))) sSkip)
 (sRet (pIf (tOf (p2 oEq (getV 0) (getV 1))) (pC (.str [48])) (pC (.str [49])))))
noncomputable def F_unlike_at:List Dt->M Dt:=fnM 2 0 B_unlike_at
noncomputable def B_unlike:SM:=(sSeq (sDrop (pCall F_refuse_unlike (aCons (pLst (aCons (getV 0) (aCons (getV 1) aNil))) aNil)))
 (sRet (pMeth mJoin (pC (.str [])) (aCons (pComp 2 [] (iBy zip2N (aCons (getV 0) (aCons (getV 1) aNil))) (gTp 2 (gZc (gNm 0) (gZc (gNm 1) gZn))) tYs (pCall F_unlike_at (aCons (getV 0) (aCons (getV 1) aNil)))) aNil))))
noncomputable def F_unlike:List Dt->M Dt:=fnM 2 0 B_unlike
end Pg
namespace L2
noncomputable def br {α:Type} (b:Bool) (x y:M α):M α:=if b=true then x else y
theorem br_t {α:Type}{x y:M α}:br true x y=x:=.trans rfl rfl
theorem br_f {α:Type}{x y:M α}:br false x y=y:=.trans rfl rfl
noncomputable def ck {α:Type} (p:Prop) [Decidable p] (x:M α):M α:=if p then x else .bad
theorem ck_true {α:Type}{x:M α}{i:Decidable True}:@ck α True i x=x:=if_pos trivial
theorem ck_of {α:Type}{p:Prop} [Decidable p] {x:M α} (h:p):ck p x=x:=if_pos h
noncomputable def k2 (op:Dt->Dt->M Dt) (g:Rho->M Dt) (ρ:Rho) (x:Dt):M Dt:=(g ρ).bd (op x)
noncomputable def kS3 (d:Dt) (a b:Option Int):M Dt:=oCut a b d
noncomputable def kS2 (hi:Rho->M (Option Int)) (ρ:Rho) (d:Dt) (a:Option Int):M Dt:=(hi ρ).bd (kS3 d a)
noncomputable def kS1 (lo hi:Rho->M (Option Int)) (ρ:Rho) (d:Dt):M Dt:=(lo ρ).bd (kS2 hi ρ d)
noncomputable def kNot (b:Bool):M Bool:=.ok (!b)
noncomputable def kAn (g:Rho->M Bool) (ρ:Rho) (b:Bool):M Bool:=if b=true then g ρ else .ok false
noncomputable def kOr (g:Rho->M Bool) (ρ:Rho) (b:Bool):M Bool:=if b=true then .ok true else g ρ
noncomputable def kPA2 (g:Rho->M Dt) (ρ:Rho) (b:Bool):M Dt:=if b=true then g ρ else .ok (.bl false)
noncomputable def kPA (g:Rho->M Dt) (ρ:Rho) (d:Dt):M Dt:=(truM d).bd (kPA2 g ρ)
noncomputable def kPO2 (g:Rho->M Dt) (ρ:Rho) (b:Bool):M Dt:=if b=true then .ok (.bl true) else g ρ
noncomputable def kPO (g:Rho->M Dt) (ρ:Rho) (d:Dt):M Dt:=(truM d).bd (kPO2 g ρ)
noncomputable def kIf (f g:Rho->M Dt) (ρ:Rho) (b:Bool):M Dt:=if b=true then f ρ else g ρ
noncomputable def kC4 (op':Dt->Dt->M Dt) (h:Rho->M Dt) (ρ:Rho) (y:Dt) (b:Bool):M Dt:=if b=true then (h ρ).bd (op' y) else .ok (.bl false)
noncomputable def kC3 (op':Dt->Dt->M Dt) (h:Rho->M Dt) (ρ:Rho) (y d:Dt):M Dt:=(truM d).bd (kC4 op' h ρ y)
noncomputable def kC2 (op op':Dt->Dt->M Dt) (h:Rho->M Dt) (ρ:Rho) (x y:Dt):M Dt:=(op x y).bd (kC3 op' h ρ y)
noncomputable def kC1 (op op':Dt->Dt->M Dt) (g h:Rho->M Dt) (ρ:Rho) (x:Dt):M Dt:=(g ρ).bd (kC2 op op' h ρ x)
noncomputable def kA2 (d:Dt) (ds:List Dt):M (List Dt):=.ok (d::ds)
noncomputable def kA1 (fs:Rho->M (List Dt)) (ρ:Rho) (d:Dt):M (List Dt):=(fs ρ).bd (kA2 d)
noncomputable def kT (ds:List Dt):M Dt:=ck (ds.length<=10000) (.ok (.tup ds))
noncomputable def kR (g:Rho->M Dt) (ρ:Rho) (ds:List Dt):M Dt:=ck (ds.length<=10000) ((g ρ).bd (repD ds))
noncomputable def kM (m:Sel) (fs:Rho->M (List Dt)) (ρ:Rho) (d:Dt):M Dt:=mtk (m d) (fs ρ)
noncomputable def kP (Fs:List (List Dt->M Dt)) (fs:Rho->M (List Dt)) (ρ:Rho) (d:Dt):M Dt:=mtk (pkF Fs d) (fs ρ)
noncomputable def kCo (k:Nat) (fr:List Nat) (g:GM) (tc:Rho->M Bool) (te:Rho->M Dt) (ρ:Rho) (ds:List Dt):M Dt:=(comM g tc te (startR k fr ρ) ds).calm.bd szL
noncomputable def kRt (d:Dt):M Fl:=.ok (.rt d)
noncomputable def kDr (ρ:Rho) (_:Dt):M Fl:=.ok (.nx ρ)
noncomputable def kNx (ρ:Rho):M Fl:=.ok (.nx ρ)
noncomputable def kAs (g:GM) (ρ:Rho) (d:Dt):M Fl:=(g d ρ).calm.bd kNx
noncomputable def kSi (s t:SM) (ρ:Rho) (b:Bool):M Fl:=if b=true then s ρ else t ρ
noncomputable def kFo (g:GM) (s:SM) (ρ:Rho) (ds:List Dt):M Fl:=forM' g s ds ρ
noncomputable def kOw (i:Nat) (ρ:Rho) (ds:List Dt):M Fl:=ck (ds.length<=10000) (.ok (.nx (ρ.set i (.own ds))))
noncomputable def kAp (i:Nat) (ρ:Rho) (ds:List Dt) (d:Dt):M Fl:=ck (ds.length<10000) (.ok (.nx (ρ.set i (.own (ds++[d])))))
noncomputable def kU (_:Dt):M Unit:=.ok ()
noncomputable def kRz (c:Nat) (_:Unit):M Fl:=.ex c
noncomputable def kF1 (s k:SM) (ρ:Rho):M Fl:=(s ρ).calm.bd (fork k)
noncomputable def kIn (i:Int):M (Option Int):=.ok (some i)
noncomputable def kPt (d:Dt):M (Option Int):=(intM d).bd kIn
noncomputable def kZ2 (a b:List Dt):M (List Dt):=.ok (zipD a b)
noncomputable def kZ1 (y:Dt) (a:List Dt):M (List Dt):=(seqM y).bd (kZ2 a)
noncomputable def kY3 (a b c:List Dt):M (List Dt):=.ok (zip3D a b c)
noncomputable def kY2 (z:Dt) (a b:List Dt):M (List Dt):=(seqM z).bd (kY3 a b)
noncomputable def kY1 (y z:Dt) (a:List Dt):M (List Dt):=(seqM y).bd (kY2 z a)
noncomputable def kL1 (y:Dt) (a:List Dt):M (List Dt):=(lstM y).bd (kZ2 a)
noncomputable def kEn (a:List Dt):M (List Dt):=.ok (enumD a)
noncomputable def kRv (a:List Dt):M (List Dt):=.ok a.reverse
noncomputable def kD2 (ks:List (List Nat)) (vs:List Dt) (d:Dt):M Dt:=dgetM (ks.zip vs) d
noncomputable def kD1 (ks:List (List Nat)) (g:Rho->M Dt) (ρ:Rho) (vs:List Dt):M Dt:=(g ρ).bd (kD2 ks vs)
section
variable {ρ:Rho}{f g h:Rho->M Dt}{tf tg:Rho->M Bool}{fs:Rho->M (List Dt)}{s t:SM}{d e x y z:Dt}{ds es gs':List Dt}{i j n k np c:Nat}{a b:Int}{l m:List Nat}{p q:Bool}{op op':Dt->Dt->M Dt}{lo hi:Rho->M (Option Int)}{gm:GM}{gs:List Dt->Rho->M Rho}{o o':Option Int}{F:List Dt->M Dt}{it:IM}{kk:List Dt->M (List Dt)}{sl:Sel}
theorem a_getV:getV i ρ=gv ρ[i]?:=.trans rfl rfl
theorem a_gv:gv (some (.val d))=.ok d:=.trans rfl rfl
theorem a_pC:pC d ρ=.ok d:=.trans rfl rfl
theorem a_p2:p2 op f g ρ=(f ρ).bd (k2 op g ρ):=.trans rfl rfl
theorem a_k2:k2 op g ρ x=(g ρ).bd (op x):=.trans rfl rfl
theorem a_p1 {op:Dt->M Dt}:p1 op f ρ=(f ρ).bd op:=.trans rfl rfl
theorem a_pSlice:pSlice f lo hi ρ=(f ρ).bd (kS1 lo hi ρ):=.trans rfl rfl
theorem a_kS1:kS1 lo hi ρ d=(lo ρ).bd (kS2 hi ρ d):=.trans rfl rfl
theorem a_kS2:kS2 hi ρ d o=(hi ρ).bd (kS3 d o):=.trans rfl rfl
theorem a_kS3a:kS3 (.str l) o o'=.ok (.str (cutZ l o o')):=.trans rfl rfl
theorem a_kS3b:kS3 (.lst ds) o o'=.ok (.lst (cutZ ds o o')):=.trans rfl rfl
theorem a_part0:pPart none ρ=.ok none:=.trans rfl rfl
theorem a_part1:pPart (some f) ρ=(f ρ).bd kPt:=.trans rfl rfl
theorem a_kPt:kPt (.int a)=.ok (some a):=.trans rfl rfl
theorem a_tOf:tOf f ρ=(f ρ).bd truM:=.trans rfl rfl
theorem a_truM:truM (.bl p)=.ok p:=.trans rfl rfl
theorem a_tNt:tNt tf ρ=(tf ρ).bd kNot:=.trans rfl rfl
theorem a_kNot:kNot p=.ok (!p):=.trans rfl rfl
theorem a_tAn:tAn tf tg ρ=(tf ρ).bd (kAn tg ρ):=.trans rfl rfl
theorem a_kAnT:kAn tg ρ true=tg ρ:=.trans rfl rfl
theorem a_kAnF:kAn tg ρ false=.ok false:=.trans rfl rfl
theorem a_tOr:tOr' tf tg ρ=(tf ρ).bd (kOr tg ρ):=.trans rfl rfl
theorem a_kOrT:kOr tg ρ true=.ok true:=.trans rfl rfl
theorem a_kOrF:kOr tg ρ false=tg ρ:=.trans rfl rfl
theorem a_pAn:pAn f g ρ=(f ρ).bd (kPA g ρ):=.trans rfl rfl
theorem a_kPA:kPA g ρ (.bl p)=kPA2 g ρ p:=.trans rfl rfl
theorem a_kPAT:kPA2 g ρ true=g ρ:=.trans rfl rfl
theorem a_kPAF:kPA2 g ρ false=.ok (.bl false):=.trans rfl rfl
theorem a_pOr:pOr f g ρ=(f ρ).bd (kPO g ρ):=.trans rfl rfl
theorem a_kPO:kPO g ρ (.bl p)=kPO2 g ρ p:=.trans rfl rfl
theorem a_kPOT:kPO2 g ρ true=.ok (.bl true):=.trans rfl rfl
theorem a_kPOF:kPO2 g ρ false=g ρ:=.trans rfl rfl
theorem a_pIf:pIf tf f g ρ=(tf ρ).bd (kIf f g ρ):=.trans rfl rfl
theorem a_kIfT:kIf f g ρ true=f ρ:=.trans rfl rfl
theorem a_kIfF:kIf f g ρ false=g ρ:=.trans rfl rfl
theorem a_pChain:pChain op op' f g h ρ=(f ρ).bd (kC1 op op' g h ρ):=.trans rfl rfl
theorem a_kC1:kC1 op op' g h ρ x=(g ρ).bd (kC2 op op' h ρ x):=.trans rfl rfl
theorem a_kC2:kC2 op op' h ρ x y=(op x y).bd (kC3 op' h ρ y):=.trans rfl rfl
theorem a_kC3:kC3 op' h ρ y (.bl p)=kC4 op' h ρ y p:=.trans rfl rfl
theorem a_kC4T:kC4 op' h ρ y true=(h ρ).bd (op' y):=.trans rfl rfl
theorem a_kC4F:kC4 op' h ρ y false=.ok (.bl false):=.trans rfl rfl
theorem a_aNil:aNil ρ=.ok []:=.trans rfl rfl
theorem a_aCons:aCons f fs ρ=(f ρ).bd (kA1 fs ρ):=.trans rfl rfl
theorem a_kA1:kA1 fs ρ d=(fs ρ).bd (kA2 d):=.trans rfl rfl
theorem a_kA2:kA2 d ds=.ok (d::ds):=.trans rfl rfl
theorem a_pLst:pLst fs ρ=(fs ρ).bd szL:=.trans rfl rfl
theorem a_pTup:pTup fs ρ=(fs ρ).bd kT:=.trans rfl rfl
theorem a_kT:kT ds=ck (ds.length<=10000) (.ok (.tup ds)):=.trans rfl rfl
theorem a_pRep:pRep fs g ρ=(fs ρ).bd (kR g ρ):=.trans rfl rfl
theorem a_kR:kR g ρ ds=ck (ds.length<=10000) ((g ρ).bd (repD ds)):=.trans rfl rfl
theorem a_repD:repD ds (.int a)=ck (-1000<=a/\a<=1000/\ds.length * a.toNat<=10000) (.ok (.lst (List.replicate a.toNat ds).flatten)):=.trans rfl rfl
theorem a_pCall:pCall F fs ρ=(fs ρ).bd F:=.trans rfl rfl
theorem a_pMeth:pMeth sl f fs ρ=(f ρ).bd (kM sl fs ρ):=.trans rfl rfl
theorem a_kM:kM sl fs ρ d=mtk (sl d) (fs ρ):=.trans rfl rfl
theorem a_pPick {Fs:List (List Dt->M Dt)}:pPick Fs f fs ρ=(f ρ).bd (kP Fs fs ρ):=.trans rfl rfl
theorem a_kP {Fs:List (List Dt->M Dt)}:kP Fs fs ρ d=mtk (pkF Fs d) (fs ρ):=.trans rfl rfl
theorem a_mtk {k:List Dt->M Dt}{m:M (List Dt)}:mtk (some k) m=m.bd k:=.trans rfl rfl
theorem a_iOf:iOf f ρ=(f ρ).bd seqM:=.trans rfl rfl
theorem a_iBy:iBy kk fs ρ=(fs ρ).bd kk:=.trans rfl rfl
theorem a_gNm:gNm i d ρ=.ok (ρ.set i (.val d)):=.trans rfl rfl
theorem a_gZn:gZn [] ρ=.ok ρ:=.trans rfl rfl
theorem a_gZc:gZc gm gs (d::ds) ρ=(gm d ρ).bd (gs ds):=.trans rfl rfl
theorem a_gTp1:gTp n gs (.tup ds) ρ=ck (ds.length=n) (gs ds ρ):=.trans rfl rfl
theorem a_gTp2:gTp n gs (.lst ds) ρ=ck (ds.length=n) (gs ds ρ):=.trans rfl rfl
theorem a_pComp {fr:List Nat}{tc:Rho->M Bool}{te:Rho->M Dt}:pComp k fr it gm tc te ρ=(it ρ).bd (kCo k fr gm tc te ρ):=.trans rfl rfl
theorem a_tYs:tYs ρ=.ok true:=.trans rfl rfl
theorem a_sSkip:sSkip ρ=.ok (.nx ρ):=.trans rfl rfl
theorem a_sSeq:sSeq s t ρ=(s ρ).bd (sqk t):=.trans rfl rfl
theorem a_sqk1:sqk s (.nx ρ)=s ρ:=.trans rfl rfl
theorem a_sqk2:sqk s (.rt d)=.ok (.rt d):=.trans rfl rfl
theorem a_sqk3:sqk s (.bk ρ)=.ok (.bk ρ):=.trans rfl rfl
theorem a_sqk4:sqk s (.ct ρ)=.ok (.ct ρ):=.trans rfl rfl
theorem a_sRet:sRet f ρ=(f ρ).bd kRt:=.trans rfl rfl
theorem a_kRt:kRt d=.ok (.rt d):=.trans rfl rfl
theorem a_sDrop:sDrop f ρ=(f ρ).bd (kDr ρ):=.trans rfl rfl
theorem a_kDr:kDr ρ d=.ok (.nx ρ):=.trans rfl rfl
theorem a_sAsg:sAsg f gm ρ=(f ρ).bd (kAs gm ρ):=.trans rfl rfl
theorem a_kAs:kAs gm ρ d=(gm d ρ).calm.bd kNx:=.trans rfl rfl
theorem a_kNx:kNx ρ=.ok (.nx ρ):=.trans rfl rfl
theorem a_sAug:sAug i f ρ=augK i f ρ ρ[i]?:=.trans rfl rfl
theorem a_augK:augK i f ρ (some (.val (.int a)))=(f ρ).bd (augD i ρ a):=.trans rfl rfl
theorem a_augD:augD i ρ a (.int b)=.ok (.nx (ρ.set i (.val (.int (a+b))))):=.trans rfl rfl
theorem a_sIf:sIf tf s t ρ=(tf ρ).bd (kSi s t ρ):=.trans rfl rfl
theorem a_kSiT:kSi s t ρ true=s ρ:=.trans rfl rfl
theorem a_kSiF:kSi s t ρ false=t ρ:=.trans rfl rfl
theorem a_sForC:sForC it gm s ρ=((it ρ).bd (kFo gm s ρ)).calm:=.trans rfl rfl
theorem a_kFo:kFo gm s ρ ds=forM' gm s ds ρ:=.trans rfl rfl
theorem a_for0:forM' gm s [] ρ=.ok (.nx ρ):=.trans rfl rfl
theorem a_forS:forM' gm s (d::ds) ρ=(gm d ρ).calm.bd (kF1 s (forM' gm s ds)):=.trans rfl rfl
theorem a_kF1 {k:SM}:kF1 s k ρ=(s ρ).calm.bd (fork k):=.trans rfl rfl
theorem a_fork1:fork s (.nx ρ)=s ρ:=.trans rfl rfl
theorem a_fork2:fork s (.ct ρ)=s ρ:=.trans rfl rfl
theorem a_fork3:fork s (.bk ρ)=.ok (.nx ρ):=.trans rfl rfl
theorem a_fork4:fork s (.rt d)=.ok (.rt d):=.trans rfl rfl
theorem a_sOwn:sOwn i fs ρ=(fs ρ).bd (kOw i ρ):=.trans rfl rfl
theorem a_kOw:kOw i ρ ds=ck (ds.length<=10000) (.ok (.nx (ρ.set i (.own ds)))):=.trans rfl rfl
theorem a_sRel:sRel i s ρ=s (relB i ρ ρ[i]?):=.trans rfl rfl
theorem a_relB:relB i ρ (some (.own ds))=ρ.set i (.val (.lst ds)):=.trans rfl rfl
theorem a_relB0:relB i ρ (some (.val d))=ρ:=.trans rfl rfl
theorem a_sAppend:sAppend i f ρ=appK i f ρ ρ[i]?:=.trans rfl rfl
theorem a_appK:appK i f ρ (some (.own ds))=(f ρ).bd (kAp i ρ ds):=.trans rfl rfl
theorem a_kAp:kAp i ρ ds d=ck (ds.length<10000) (.ok (.nx (ρ.set i (.own (ds++[d]))))):=.trans rfl rfl
theorem a_sPar:sPar i j fs ρ=(fs ρ).bd (parK i j ρ):=.trans rfl rfl
theorem a_parK:parK i j ρ [d,e]=.ok (.nx ((ρ.set i (.val d)).set j (.val e))):=.trans rfl rfl
theorem a_uOf:uOf f ρ=(f ρ).bd kU:=.trans rfl rfl
theorem a_kU:kU d=.ok ():=.trans rfl rfl
theorem a_uInt:uInt f ρ=(f ρ).bd uIn:=.trans rfl rfl
theorem a_uIn:uIn (.int a)=ck (-2<=a/\a<=20) (.ok ()):=.trans rfl rfl
theorem a_sRz {fu:Rho->M Unit}:sRz k fu ρ=(fu ρ).bd (kRz k):=.trans rfl rfl
theorem a_kRz {u:Unit}:kRz c u=.ex c:=.trans rfl rfl
theorem a_sTry {cs:List Nat}:sTry cs i s ρ=tryK cs i (s ρ):=.trans rfl rfl
theorem a_try1 {cs:List Nat}:tryK cs i (.ok (.nx ρ))=(getV i ρ).bd kRt:=.trans rfl rfl
theorem a_try2 {cs:List Nat}:tryK cs i (.ex k)=ck (k∈cs) (.ok (.rt (.str (wordZ k)))):=.trans rfl rfl
theorem a_fnM:fnM np n s ds=ck (ds.length=np) ((s (ds.map Bd.val++List.replicate n .no)).bd flV):=.trans rfl rfl
theorem a_flV1:flV (.nx ρ)=.ok .non:=.trans rfl rfl
theorem a_flV2:flV (.rt d)=.ok d:=.trans rfl rfl
theorem a_pDget {ks:List (List Nat)}:pDget ks fs g ρ=(fs ρ).bd (kD1 ks g ρ):=.trans rfl rfl
theorem a_kD1 {ks:List (List Nat)}:kD1 ks g ρ ds=(g ρ).bd (kD2 ks ds):=.trans rfl rfl
theorem a_kD2 {ks:List (List Nat)}:kD2 ks ds d=dgetM (ks.zip ds) d:=.trans rfl rfl
theorem a_addI:oAdd (.int a) (.int b)=.ok (.int (a+b)):=.trans rfl rfl
theorem a_addS:oAdd (.str l) (.str m)=szS (l++m):=.trans rfl rfl
theorem a_addL:oAdd (.lst ds) (.lst es)=szL (ds++es):=.trans rfl rfl
theorem a_sub:oSub (.int a) (.int b)=.ok (.int (a - b)):=.trans rfl rfl
theorem a_mulI:oMul (.int a) (.int b)=ck ((-(2 ^ 64)<a/\a<2 ^ 64)∨(-(2 ^ 64)<b/\b<2 ^ 64)) (.ok (.int (a * b))):=.trans rfl rfl
theorem a_mulS:oMul (.str l) (.int b)=ck (-1000<=b/\b<=1000/\l.length<=1000) (szS (List.replicate b.toNat l).flatten):=.trans rfl rfl
theorem a_mod:oMod (.int a) (.int b)=ck (0<b) (.ok (.int (a % b))):=.trans rfl rfl
theorem a_div:oDiv (.int a) (.int b)=ck (0<b/\b<1073741824) (.ok (.int (a / b))):=.trans rfl rfl
theorem a_shr:oShr (.int a) (.int b)=ck (0<=b) (.ok (.int (a / 2 ^ b.toNat))):=.trans rfl rfl
theorem a_pow:oPow (.int a) (.int b)=ck (0<=b/\b<=1000/\a.natAbs<2 ^ 64) (.ok (.int (a ^ b.toNat))):=.trans rfl rfl
theorem a_and1:oAnd1 (.int a)=ck (0<=a) (.ok (.int (a % 2))):=.trans rfl rfl
theorem a_neg:oNeg (.int a)=.ok (.int (-a)):=.trans rfl rfl
theorem a_lt:oLt (.int a) (.int b)=.ok (.bl (decide (a<b))):=.trans rfl rfl
theorem a_le:oLe (.int a) (.int b)=.ok (.bl (decide (a<=b))):=.trans rfl rfl
theorem a_gt:oGt (.int a) (.int b)=.ok (.bl (decide (b<a))):=.trans rfl rfl
theorem a_ge:oGe (.int a) (.int b)=.ok (.bl (decide (b<=a))):=.trans rfl rfl
theorem a_eq:oEq d e=ck (dep d<=50) (.ok (.bl (eqD d e))):=.trans rfl rfl
theorem a_ne:oNe d e=ck (dep d<=50) (.ok (.bl (!eqD d e))):=.trans rfl rfl
theorem a_eqI:oEq (.int a) (.int b)=.ok (.bl (decide (a=b))):=.trans rfl rfl
theorem a_neI:oNe (.int a) (.int b)=.ok (.bl (!decide (a=b))):=.trans rfl rfl
theorem a_not:oNot (.bl p)=.ok (.bl (!p)):=.trans rfl rfl
theorem a_notin:oNotIn d e=(oIn d e).bd oNot:=.trans rfl rfl
theorem a_isB:oIs (.bl p) (.bl q)=.ok (.bl (p==q)):=.trans rfl rfl
theorem a_isN:oIs d .non=.ok (.bl (isNon d)):=.trans rfl rfl
theorem a_isnot:oIsNot d e=(oIs d e).bd oNot:=.trans rfl rfl
theorem a_ixS:oIx (.str l) (.int a)=ixC (atZ l a):=.trans rfl rfl
theorem a_ixL:oIx (.lst ds) (.int a)=ixD (atZ ds a):=.trans rfl rfl
theorem a_ixT:oIx (.tup ds) (.int a)=ixD (atZ ds a):=.trans rfl rfl
theorem a_ixC:ixC (some c)=.ok (.str [c]):=.trans rfl rfl
theorem a_ixD:ixD (some d)=.ok d:=.trans rfl rfl
theorem a_lenS:bLen [.str l]=.ok (.int l.length):=.trans rfl rfl
theorem a_lenL:bLen [.lst ds]=.ok (.int ds.length):=.trans rfl rfl
theorem a_lenT:bLen [.tup ds]=.ok (.int ds.length):=.trans rfl rfl
theorem a_min:bMin [.int a,.int b]=.ok (.int (if b<a then b else a)):=.trans rfl rfl
theorem a_max:bMax [.int a,.int b]=.ok (.int (if b > a then b else a)):=.trans rfl rfl
theorem a_all:bAll [.lst ds]=blM (fun bs=>bs.all id) (bools ds):=.trans rfl rfl
theorem a_any:bAny [.lst ds]=blM (fun bs=>bs.any id) (bools ds):=.trans rfl rfl
theorem a_list1:bList [.lst ds]=.ok (.lst ds):=.trans rfl rfl
theorem a_list2:bList [.str l]=.ok (.lst (sgD l)):=.trans rfl rfl
theorem a_int1:bInt [.int a]=.ok (.int a):=.trans rfl rfl
theorem a_int2:bInt [.bl p]=.ok (.int (if p then 1 else 0)):=.trans rfl rfl
theorem a_seqL:seqM (.lst ds)=.ok ds:=.trans rfl rfl
theorem a_seqT:seqM (.tup ds)=.ok ds:=.trans rfl rfl
theorem a_seqS:seqM (.str l)=.ok (sgD l):=.trans rfl rfl
theorem a_mJoin:mJoin (.str [])=some joinM:=.trans rfl rfl
theorem a_joinM:joinM [.lst ds]=jnM (strsM ds):=.trans rfl rfl
theorem a_mCountS:mCountS (.str l)=some (cntS l):=.trans rfl rfl
theorem a_cntS:cntS l [.str [c]]=.ok (.int (l.count c)):=.trans rfl rfl
theorem a_putV:putV i d ρ=ρ.set i (.val d):=.trans rfl rfl
theorem a_vOnly:vOnly (some (.val d))=.val d:=.trans rfl rfl
theorem a_revj:oRevJ (.str l)=.ok (.str l.reverse):=.trans rfl rfl
theorem a_zip2:zip2M [x,y]=(seqM x).bd (kZ1 y):=.trans rfl rfl
theorem a_kZ1:kZ1 y ds=(seqM y).bd (kZ2 ds):=.trans rfl rfl
theorem a_kZ2:kZ2 ds es=.ok (zipD ds es):=.trans rfl rfl
theorem a_zip3:zip3M [x,y,z]=(seqM x).bd (kY1 y z):=.trans rfl rfl
theorem a_kY1:kY1 y z ds=(seqM y).bd (kY2 z ds):=.trans rfl rfl
theorem a_kY2:kY2 z ds es=(seqM z).bd (kY3 ds es):=.trans rfl rfl
theorem a_kY3:kY3 ds es gs'=.ok (zip3D ds es gs'):=.trans rfl rfl
theorem a_zipL:zipLM [x,y]=(lstM x).bd (kL1 y):=.trans rfl rfl
theorem a_kL1:kL1 y ds=(lstM y).bd (kZ2 ds):=.trans rfl rfl
theorem a_lstM:lstM (.lst ds)=.ok ds:=.trans rfl rfl
theorem a_enum:enumM [x]=(seqM x).bd kEn:=.trans rfl rfl
theorem a_kEn:kEn ds=.ok (enumD ds):=.trans rfl rfl
theorem a_rev:revM [x]=(seqM x).bd kRv:=.trans rfl rfl
theorem a_kRv:kRv ds=.ok ds.reverse:=.trans rfl rfl
theorem a_rng1:rng1M [.int a]=ck (-1000000<=a/\a<=10000) (.ok (rngD 0 a)):=.trans rfl rfl
theorem a_rng2:rng2M [.int a,.int b]=ck (-1000000<=a/\a<=1000000/\-1000000<=b/\b<=1000000/\b - a<=10000) (.ok (rngD a b)):=.trans rfl rfl
theorem a_str1:bStr [.int a]=ck (0<=a/\a<=9) (.ok (.str [48+a.toNat])):=.trans rfl rfl
theorem a_blM {k:List Bool->Bool}{bs:List Bool}:blM k (some bs)=.ok (.bl (k bs)):=.trans rfl rfl
theorem a_jnM {ls:List (List Nat)}:jnM (some ls)=szS ls.flatten:=.trans rfl rfl
theorem a_eqS:oEq (.str l) (.str m)=.ok (.bl (decide (l=m))):=by
 show M.ok (Dt.bl (l==m))=_
 congr 2
 by_cases h:l=m <;> simp [h]
theorem a_neS:oNe (.str l) (.str m)=.ok (.bl (!decide (l=m))):=by
 show M.ok (Dt.bl (!(l==m)))=_
 congr 2
 by_cases h:l=m <;> simp [h]
theorem a_inS:oIn (.str [c]) (.str l)=.ok (.bl (decide (c∈l))):=by simp only [oIn]
theorem szS_ok (h:l.length<=10000):szS l=.ok (.str l):=by unfold szS; rw [if_pos h]
theorem szL_ok (h:ds.length<=10000):szL ds=.ok (.lst ds):=by unfold szL; rw [if_pos h]
end
end L2
section MacS
open L2
local macro_rules
 | `(tactic| exists evw, $xs:term,*) => `(tactic| simp only [a_getV, a_gv, a_pC, a_p2, a_k2, a_p1, a_pSlice, a_kS1, a_kS2, a_kS3a, a_kS3b, a_part0, a_part1, a_kPt, a_tOf, a_truM, a_tNt, a_kNot, a_tAn, a_kAnT, a_kAnF, a_tOr, a_kOrT, a_kOrF, a_pAn, a_kPA, a_kPAT, a_kPAF, a_pOr, a_kPO, a_kPOT, a_kPOF, a_pIf, a_kIfT, a_kIfF, a_pChain, a_kC1, a_kC2, a_kC3, a_kC4T, a_kC4F, a_aNil, a_aCons, a_kA1, a_kA2, a_pLst, a_pTup, a_kT, a_pRep, a_kR, a_repD, a_pCall, a_pMeth, a_kM, a_pPick, a_kP, a_mtk, a_iOf, a_iBy, a_gNm, a_gZn, a_gZc, a_gTp1, a_gTp2, a_pComp, a_tYs, a_sSkip, a_sSeq, a_sqk1, a_sqk2, a_sqk3, a_sqk4, a_sRet, a_kRt, a_sDrop, a_kDr, a_sAsg, a_kAs, a_kNx, a_sAug, a_augK, a_augD, a_sIf, a_kSiT, a_kSiF, a_sForC, a_kFo, a_for0, a_forS, a_kF1, a_fork1, a_fork2, a_fork3, a_fork4, a_sOwn, a_kOw, a_sRel, a_relB, a_relB0, a_sAppend, a_appK, a_kAp, a_sPar, a_parK, a_uOf, a_kU, a_uInt, a_uIn, a_sRz, a_kRz, a_sTry, a_try1, a_try2, a_fnM, a_flV1, a_flV2, a_pDget, a_kD1, a_kD2, a_addI, a_addS, a_addL, a_sub, a_mulI, a_mulS, a_mod, a_div, a_shr, a_pow, a_and1, a_neg, a_lt, a_le, a_gt, a_ge, a_eqI, a_neI, a_not, a_notin, a_isB, a_isN, a_isnot, a_ixS, a_ixL, a_ixT, a_ixC, a_ixD, a_lenS, a_lenL, a_lenT, a_min, a_max, a_all, a_any, a_list1, a_list2, a_int1, a_int2, a_seqL, a_seqT, a_seqS, a_mJoin, a_joinM, a_mCountS, a_cntS, a_putV, a_vOnly, a_revj, a_zip2, a_kZ1, a_kZ2, a_zip3, a_kY1, a_kY2, a_kY3, a_zipL, a_kL1, a_lstM, a_enum, a_kEn, a_rev, a_kRv, a_rng1, a_rng2, a_str1, a_blM, a_jnM, a_eqS, a_neS, a_inS, br_t, br_f, bd_ok, bd_ex, bd_bad, calm_ok, calm_bad, List.length_cons, List.length_nil, List.map_cons, List.map_nil, List.replicate_succ, List.replicate_zero, List.cons_append, List.nil_append, List.append_nil, List.getElem?_cons_zero, List.getElem?_cons_succ, List.set_cons_succ, List.set_cons_zero, List.length_map, Nat.reduceAdd, Nat.zero_add, Bool.not_true, Bool.not_false, decide_true, decide_false, ck_true, eq_self, $[$xs:term],*])
local macro_rules
 | `(tactic| exists ev) => `(tactic| try exists evw, eq_self)
 | `(tactic| exists go) => `(tactic| repeat (first | rw [ck_of (by omega)] | rw [szS_ok (by (try simp only [List.length_append, List.length_cons, List.length_nil]); omega)] | rw [szL_ok (by (try simp only [List.length_append, List.length_cons, List.length_nil]); omega)] | exists evw, eq_self))
namespace Pg
open L2
noncomputable def cellZ (ns:List Int) (k:Int):Int:=
 if k<ns.length then ns.getD k.toNat 0 else if ns=[] then 0 else ns.getD (k % (ns.length:Int)).toNat 0 * 31+k
noncomputable def drawnZ (ns:List Int) (k:Int):Int:=(cellZ ns k+6151 * (k+1)) * 40692 % 2147483399
noncomputable def pickZ (ns:List Int) (k many:Int):Int:=(drawnZ ns k * drawnZ ns k+drawnZ ns k / 31) % 2147483629 % many
theorem drawnZ_lo (ns:List Int) (k:Int):0<=drawnZ ns k:=Int.emod_nonneg _ (by decide)
theorem drawnZ_hi (ns:List Int) (k:Int):drawnZ ns k<2147483399:=Int.emod_lt_of_pos _ (by decide)
noncomputable abbrev scr (ns:List Int):Dt:=.lst (ns.map Dt.int)
theorem atZ_nat {α:Type}{l:List α}{n:Nat}{x:α} (h:l[n]?=some x):atZ l (n:Int)=some x:=by
 have hlt:n<l.length:=(List.getElem?_eq_some_iff.mp h).1
 unfold atZ ixZ
 rw [if_pos (by omega),if_pos (by omega)]
 simpa using h
theorem atZ_int {α:Type}{l:List α}{i:Int} (h0:0<=i) (h1:i<l.length):atZ l i=some (l[i.toNat]'(by omega)):=by
 obtain⟨n,rfl⟩:∃n:Nat,i=n:=⟨i.toNat,by omega⟩
 refine atZ_nat ?_
 simp
theorem atZ_ints {ns:List Int}{k:Int} (h0:0<=k) (h1:k<ns.length):atZ (ns.map Dt.int) k=some (.int (ns.getD k.toNat 0)):=by
 rw [atZ_int h0 (by simpa using h1)]
 have hlt:k.toNat<ns.length:=by omega
 simp [hlt]
theorem dep_ints:∀ns:List Int,deps (ns.map Dt.int)=0
 | []=>rfl
 |n::ns=>by simp only [List.map_cons,deps,dep,dep_ints ns]; omega
theorem eqD_nil (ns:List Int):eqD (scr ns) (.lst [])=decide (ns=[]):=by
 cases ns <;> rfl
theorem cell_eq {ns:List Int}{k:Int} (hk:0<=k):F_L_cell [scr ns,.int k]=.ok (.int (cellZ ns k)):=by
 unfold F_L_cell B_L_cell cellZ
 exists go
 by_cases h1:k<ns.length
 ·simp only [h1,decide_true,if_true]
  exists go
  rw [atZ_ints hk h1]
  exists go
 ·simp only [h1,decide_false,if_false]
  exists go
  rw [a_eq,ck_of (by simp only [dep,dep_ints]; omega),eqD_nil]
  by_cases h2:ns=[]
  ·simp only [h2,decide_true,if_true]
   exists go
  ·have hp:0<(ns.length:Int):=by have:=List.length_pos_iff.mpr h2; omega
   have m0:0<=k % (ns.length:Int):=Int.emod_nonneg _ (by omega)
   have m1:k % (ns.length:Int)<ns.length:=Int.emod_lt_of_pos _ hp
   simp only [h2,decide_false,if_false]
   exists go
   rw [atZ_ints m0 m1]
   exists go
theorem pick_eq {ns:List Int}{k many:Int} (hk:0<=k) (hm:0<many):F_L_pick [scr ns,.int k,.int many]=.ok (.int (pickZ ns k many)):=by
 have d0:=drawnZ_lo ns k
 have d1:=drawnZ_hi ns k
 unfold F_L_pick B_L_pick
 exists go
 rw [cell_eq hk]
 exists go
 rw [show (cellZ ns k+6151 * (k+1)) * 40692 % 2147483399=drawnZ ns k from rfl]
 exists go
 rfl
mutual
theorem eqD_refl:∀d:Dt,eqD d d=true
 |.non=>rfl
 |.bl b=>beq_self_eq_true b
 |.int b=>beq_self_eq_true b
 |.str b=>beq_self_eq_true b
 |.tup b=>eqDs_refl b
 |.lst b=>eqDs_refl b
 |.dic b=>(show (b==b || eqR b b)=true by rw [beq_self_eq_true b]; rfl)
theorem eqDs_refl:∀d:List Dt,eqDs d d=true
 | []=>rfl
 |a::r=>(show (eqD a a&&eqDs r r)=true by rw [eqD_refl a,eqDs_refl r]; rfl)
end
noncomputable def lv (l:List Nat) (i:Nat):Nat:=l.getD i 0
noncomputable def up (l:List Nat) (i:Nat):Bool:=decide (lv l i=48)&&decide (lv l (i+1)=49)
noncomputable def hN (w b:List Nat) (c:Nat):Nat->Nat
 |0=>c
 |t+1=>if up b t=true then lv w t else hN w b c t
noncomputable def hL (w b:List Nat) (c:Nat):List Nat:=(List.range b.length).map (hN w b c)
end Pg
namespace L2
noncomputable def dgT (kvs:List (List Nat×List Nat)):Dt->M Dt:=dgetM (kvs.map fun q=>(q.1,Dt.str q.2))
noncomputable def bTup:List Dt->M Dt
 | [.lst ds]=>.ok (.tup ds)
 | [.tup ds]=>.ok (.tup ds)
 |_=>.bad
noncomputable def uRpD:Dt->M Unit
 |.str l=>if l.length<=50/\(l.all fun c=>decide (c<1000))=true then .ok () else .bad
 |_=>.bad
noncomputable def uRp (f:Rho->M Dt):Rho->M Unit:=fun ρ=>(f ρ).bd uRpD
noncomputable def exD (i:Nat) (ρ:Rho) (ds:List Dt):Dt->M Fl
 |.lst es=>if ds.length+es.length<=10000 then .ok (.nx (ρ.set i (.own (ds++es)))) else .bad
 |_=>.bad
noncomputable def exK (i:Nat) (f:Rho->M Dt) (ρ:Rho):Option Bd->M Fl
 |some (.own ds)=>(f ρ).bd (exD i ρ ds)
 |_=>.bad
noncomputable def sExt (i:Nat) (f:Rho->M Dt):SM:=fun ρ=>exK i f ρ ρ[i]?
noncomputable def wordZ8 (j:Nat):List Nat:=[[99,108,97,115,104],[110,111,32,110,97,109,101],[110,111,32,116,101,120,116],[110,111,32,116,105,99,107],[110,111,32,119,97,118,101],[116,111,111,32,108,111,110,103],[117,110,108,105,107,101],[110,111,32,98,97,99,107]].getD j []
noncomputable def toldM (cs:List Nat):M Dt->M Dt
 |.ok d=>.ok d
 |.ex c=>if c∈cs then .ok (.str (wordZ8 c)) else .bad
 |.bad=>.bad
noncomputable def forX (g:GM) (b:SM):List Dt->SM
 | [],ρ=>.ok (.nx ρ)
 |d::ds,ρ=>(g d ρ).calm.bd fun ρ1=>(b ρ1).bd (fork (forX g b ds))
noncomputable def sForX (it:IM) (g:GM) (b:SM):SM:=fun ρ=>(it ρ).bd fun ds=>forX g b ds ρ
noncomputable abbrev KVs:=List (List Nat×List Nat)
noncomputable def dicM:Dt->M KVs
 |.dic kvs=>.ok kvs
 |_=>.bad
noncomputable def strM1:Dt->M (List Nat)
 |.str l=>.ok l
 |_=>.bad
noncomputable def dixM (kvs:KVs) (l:List Nat):M Dt:=match lkp kvs l with | some v=>.ok (.str v) | none=>.bad
noncomputable def oDix:Dt->Dt->M Dt
 |.dic kvs,.str l=>dixM kvs l
 |_,_=>.bad
noncomputable def oInD:Dt->Dt->M Dt
 |.str l,.dic kvs=>.ok (.bl (lkp kvs l).isSome)
 |_,_=>.bad
noncomputable def oNotInD:Dt->Dt->M Dt
 |.str l,.dic kvs=>.ok (.bl (!(lkp kvs l).isSome))
 |_,_=>.bad
noncomputable def gtM (kvs:KVs) (e:Dt):Dt->M Dt
 |.str l=>.ok (match lkp kvs l with | some v=>.str v | none=>e)
 |_=>.bad
noncomputable def pGet1 (f g:Rho->M Dt):Rho->M Dt:=fun ρ=>(f ρ).bd fun d=>(dicM d).bd fun kvs=>(g ρ).bd fun k=>gtM kvs .non k
noncomputable def pGet2 (f g h:Rho->M Dt):Rho->M Dt:=fun ρ=>(f ρ).bd fun d=>(dicM d).bd fun kvs=>(g ρ).bd fun k=>(h ρ).bd fun e=>gtM kvs e k
noncomputable def putP (kvs:KVs) (k v:List Nat):KVs:=if (kvs.any fun p=>p.1==k)=true then kvs.map (fun p=>if p.1==k then (p.1,v) else p) else kvs++[(k,v)]
noncomputable def dropP (kvs:KVs) (k:List Nat):KVs:=kvs.filter fun p=>!(p.1==k)
noncomputable def pD0:Rho->M Dt:=fun _=>.ok (.dic [])
noncomputable def sOwnC (i:Nat) (f:Rho->M Dt):SM:=fun ρ=>(f ρ).bd fun d=>(dicM d).bd fun kvs=>.ok (.nx (ρ.set i (.owd kvs)))
noncomputable def sOwn0 (i:Nat):SM:=fun ρ=>.ok (.nx (ρ.set i (.owd [])))
noncomputable def dpE (i:Nat) (ρ:Rho) (kvs:KVs) (v:List Nat):Dt->M Fl
 |.str k=>if kvs.length<10000 then .ok (.nx (ρ.set i (.owd (putP kvs k v)))) else .bad
 |_=>.bad
noncomputable def dpK (i:Nat) (fk fv:Rho->M Dt) (ρ:Rho):Option Bd->M Fl
 |some (.owd kvs)=>(fv ρ).bd fun d=>(strM1 d).bd fun v=>(fk ρ).bd (dpE i ρ kvs v)
 |_=>.bad
noncomputable def sDput (i:Nat) (fk fv:Rho->M Dt):SM:=fun ρ=>dpK i fk fv ρ ρ[i]?
noncomputable def poE (i:Nat) (ρ:Rho) (kvs:KVs):Dt->M Fl
 |.str k=>if (lkp kvs k).isSome=true then .ok (.nx (ρ.set i (.owd (dropP kvs k)))) else .bad
 |_=>.bad
noncomputable def poK (i:Nat) (fk:Rho->M Dt) (ρ:Rho):Option Bd->M Fl
 |some (.owd kvs)=>(fk ρ).bd (poE i ρ kvs)
 |_=>.bad
noncomputable def sDpop (i:Nat) (fk:Rho->M Dt):SM:=fun ρ=>poK i fk ρ ρ[i]?
noncomputable def keysD (kvs:KVs):List Dt:=kvs.map fun p=>.str p.1
noncomputable def valsD (kvs:KVs):List Dt:=kvs.map fun p=>.str p.2
noncomputable def itemsD (kvs:KVs):List Dt:=kvs.map fun p=>.tup [.str p.1,.str p.2]
noncomputable def iKeys (f:Rho->M Dt):IM:=fun ρ=>(f ρ).bd fun d=>(dicM d).bd fun kvs=>.ok (keysD kvs)
noncomputable def iVals (f:Rho->M Dt):IM:=fun ρ=>(f ρ).bd fun d=>(dicM d).bd fun kvs=>.ok (valsD kvs)
noncomputable def iItems (f:Rho->M Dt):IM:=fun ρ=>(f ρ).bd fun d=>(dicM d).bd fun kvs=>.ok (itemsD kvs)
noncomputable def prM:List Dt->Option KVs
 | []=>some []
 |.tup [.str k,.str v]::r=>(prM r).map ((k,v) :: ·)
 |_=>none
noncomputable def mergeP (kvs more:KVs):KVs:=more.foldl (fun a p=>putP a p.1 p.2) kvs
noncomputable def prD:Option KVs->M Dt
 |some ps=>.ok (.dic (mergeP [] ps))
 |none=>.bad
noncomputable def bDict:List Dt->M Dt
 | [.dic kvs]=>.ok (.dic kvs)
 | [.lst ds]=>prD (prM ds)
 |_=>.bad
noncomputable def vBor:Option Bd->Bd
 |some (.val d)=>.val d
 |some (.brd x y)=>.bor none x y
 |some (.bor p x y)=>.bor p x y
 |_=>.no
noncomputable def startL (fr:List Nat) (ρ:Rho):Rho:=fr.map fun j=>vBor ρ[j]?
mutual
noncomputable def noL:Dt->Bool
 |.lst _=>false
 |.tup ds=>noLs ds
 |_=>true
noncomputable def noLs:List Dt->Bool
 | []=>true
 |d::r=>noL d&&noLs r
end
noncomputable def brdOf:Option Bd->Option (List Dt×List Dt)
 |some (.brd x y)=>some (x,y)
 |some (.bor _ x y)=>some (x,y)
 |_=>none
noncomputable def fstsM:List Dt->Option (List Dt)
 | []=>some []
 |.tup [s,_]::r=>(fstsM r).map (s :: ·)
 |_=>none
noncomputable def bSteps (x _:List Dt):M Dt:=match fstsM x with
 |some ds=>if noLs ds=true/\ds.length<=10000 then .ok (.lst ds) else .bad
 |none=>.bad
noncomputable def shOf:Option Dt->M Dt
 |none=>.ok (.dic [])
 |some (.tup [_,.dic ks])=>.ok (.dic ks)
 |_=>.bad
noncomputable def bSheet (x _:List Dt):M Dt:=shOf x.getLast?
noncomputable def bSizes (x y:List Dt):M Dt:=.ok (.tup [.int x.length,.int y.length])
noncomputable def rdK (F:List Dt->List Dt->M Dt):Option (List Dt×List Dt)->M Dt
 |some p=>F p.1 p.2
 |none=>.bad
noncomputable def pRd (i:Nat) (F:List Dt->List Dt->M Dt):Rho->M Dt:=fun ρ=>rdK F (brdOf ρ[i]?)
noncomputable def stepB (x:List Dt) (s b:Dt):M (List Dt):=if x.length<10000 then .ok (x++[.tup [s,b]]) else .bad
noncomputable abbrev BM:=List Dt->List Dt->List Dt->M (Dt×List Dt×List Dt)
noncomputable def bDo:BM:=fun x _ ds=>match ds with
 | [s,b]=>(stepB x s b).bd fun x'=>.ok (.non,x',[])
 |_=>.bad
noncomputable def mtR (i:Nat) (ρ:Rho) (F:BM) (m:M (List Dt)):Option Bd->M (Dt×Rho)
 |some (.brd x y)=>m.bd fun ds=>(F x y ds).bd fun r=>.ok (r.1,ρ.set i (.brd r.2.1 r.2.2))
 |_=>.bad
noncomputable def exB:M (Dt×List Dt×List Dt)->M Dt
 |.ex c=>.ex c
 |_=>.bad
noncomputable def exBK (F:BM) (m:M (List Dt)):Option (List Dt×List Dt)->M Dt
 |some p=>m.bd fun ds=>exB (F p.1 p.2 ds)
 |none=>.bad
noncomputable def pMtX (i:Nat) (F:BM) (fs:Rho->M (List Dt)):Rho->M Dt:=fun ρ=>exBK F (fs ρ) (brdOf ρ[i]?)
noncomputable abbrev TB:=Rho->M (Bool×Rho)
noncomputable def tbP (f:Rho->M Bool):TB:=fun ρ=>(f ρ).bd fun b=>.ok (b,ρ)
noncomputable def blK (ρ:Rho):Dt->M (Bool×Rho)
 |.bl b=>.ok (b,ρ)
 |_=>.bad
noncomputable def tbM (i:Nat) (F:BM) (fs:Rho->M (List Dt)) (op:Dt->Dt->M Dt) (g:Rho->M Dt):TB:=fun ρ=>(mtR i ρ F (fs ρ) ρ[i]?).bd fun r=>(g r.2).bd fun d=>(op r.1 d).bd (blK r.2)
noncomputable def tbO (F G:TB):TB:=fun ρ=>(F ρ).bd fun r=>if r.1=true then .ok (true,r.2) else G r.2
noncomputable def sIfB (F:TB) (s t:SM):SM:=fun ρ=>(F ρ).bd fun r=>if r.1=true then s r.2 else t r.2
noncomputable def mvK (x y:List Dt):Option Dt->M (Dt×List Dt×List Dt)
 |none=>.ex 7
 |some (.tup [.tup (w::r),b])=>if y.length<10000 then .ok (w,x.dropLast,y++[.tup [.tup (w::r),b]]) else .bad
 |_=>.bad
noncomputable def bBack:BM:=fun x y ds=>match ds with
 | []=>mvK x y x.getLast?
 |_=>.bad
noncomputable def bForth:BM:=fun x y ds=>match ds with
 | []=>(mvK y x y.getLast?).bd fun r=>.ok (r.1,r.2.2,r.2.1)
 |_=>.bad
noncomputable def mtK (i:Nat) (ρ:Rho) (F:BM) (m:M (List Dt)):Option Bd->M Fl
 |some (.brd x y)=>m.bd fun ds=>(F x y ds).bd fun r=>.ok (.nx (ρ.set i (.brd r.2.1 r.2.2)))
 |_=>.bad
noncomputable def sMt (i:Nat) (F:BM) (fs:Rho->M (List Dt)):SM:=fun ρ=>mtK i ρ F (fs ρ) ρ[i]?
noncomputable def sSeqs:List SM->SM
 | []=>sSkip
 |a::r=>sSeq a (sSeqs r)
noncomputable def deB (fs:Rho->M (List Dt)) (e:Rho->M Dt) (ρ:Rho):Option Bd->M (Dt×List Dt×List Dt)
 |some (.bor _ x y)=>(fs ρ).bd fun ds=>(bDo x y ds).bd fun r=>(e (ρ.set 0 .no)).calm.bd fun d=>.ok (d,r.2.1,r.2.2)
 |_=>.bad
noncomputable def deK (fs:Rho->M (List Dt)) (e:Rho->M Dt):M Fl->M (Dt×List Dt×List Dt)
 |.ok (.nx ρ)=>deB fs e ρ ρ[0]?
 |.ex c=>.ex c
 |_=>.bad
theorem deK_nil {fs:Rho->M (List Dt)}{e:Rho->M Dt}{ρ:Rho}:deK fs e (sSeqs [] ρ)=deB fs e ρ ρ[0]?:=rfl
theorem deK_drop {fs:Rho->M (List Dt)}{e f:Rho->M Dt}{r:List SM}{ρ:Rho}:deK fs e (sSeqs (sDrop f::r) ρ)=(f ρ).bd fun _=>deK fs e (sSeqs r ρ):=by
 show deK fs e (sSeq (sDrop f) (sSeqs r) ρ)=_
 unfold sSeq sDrop
 cases f ρ <;> rfl
theorem deK_asg {fs:Rho->M (List Dt)}{e f:Rho->M Dt}{i:Nat}{r:List SM}{ρ:Rho}:deK fs e (sSeqs (sAsg f (gNm i)::r) ρ)=(f ρ).bd fun d=>deK fs e (sSeqs r (ρ.set i (.val d))):=by
 show deK fs e (sSeq (sAsg f (gNm i)) (sSeqs r) ρ)=_
 unfold sSeq sAsg
 cases f ρ <;> rfl
noncomputable def fnB (np n:Nat) (pre:SM) (fs:Rho->M (List Dt)) (e:Rho->M Dt) (p:Nat):BM:=fun x y ds=>if ds.length=np then deK fs e (pre (.bor (some p) x y::(ds.map Bd.val++List.replicate n .no))) else .bad
noncomputable def prK:Dt->Dt->List (List Nat×List Nat)->M (List (List Nat×List Nat))
 |.str k,.str v,r=>.ok ((k,v)::r)
 |_,_,_=>.bad
noncomputable def pPairs:List ((Rho->M Dt)×(Rho->M Dt))->Rho->M (List (List Nat×List Nat))
 | [],_=>.ok []
 |p::r,ρ=>(p.1 ρ).bd fun a=>(p.2 ρ).bd fun b=>(pPairs r ρ).bd fun ks=>prK a b ks
noncomputable def dspK (ks:List (List Nat×List Nat)):M Dt:=if ks.length<=15 then .ok (.dic (ks.foldl (fun acc p=>putP acc p.1 p.2) [])) else .bad
noncomputable def pDisp (prs:List ((Rho->M Dt)×(Rho->M Dt))):Rho->M Dt:=fun ρ=>(pPairs prs ρ).bd dspK
noncomputable def comX (g:GM) (tc:Rho->M Bool) (te:Rho->M Dt) (ρ0:Rho):List Dt->M (List Dt)
 | []=>.ok []
 |d::ds=>(g d ρ0).calm.bd fun ρ1=>(tc ρ1).bd fun b=>if b=true then (te ρ1).bd fun x=>(comX g tc te ρ0 ds).bd fun xs=>.ok (x::xs) else comX g tc te ρ0 ds
noncomputable def pCompX (k:Nat) (fr:List Nat) (it:IM) (g:GM) (tc:Rho->M Bool) (te:Rho->M Dt):Rho->M Dt:=fun ρ=>(it ρ).bd fun ds=>(comX g tc te (startR k fr ρ) ds).bd szL
noncomputable def sBrd (i:Nat):SM:=fun ρ=>.ok (.nx (ρ.set i (.brd [] [])))
noncomputable def oAddT:Dt->Dt->M Dt
 |.tup (a::r),.tup b=>if (a::r).length+b.length<=10000 then .ok (.tup ((a::r)++b)) else .bad
 |_,_=>.bad
noncomputable def ilook:List (List Nat×Int)->List Nat->Option Int
 | [],_=>none
 | (k,v)::r,l=>if l=k then some v else ilook r l
noncomputable def ioD:Option Int->Dt
 |some i=>.int i
 |none=>.non
noncomputable def dgI (kvs:List (List Nat×Int)):Dt->M Dt
 |.str l=>.ok (ioD (ilook kvs l))
 |_=>.bad
noncomputable def smT (l:List Nat):Bool:=decide (l.length<=50)&&l.all fun c=>decide (c<1000)
noncomputable def uRqD:Dt->M Unit
 |.str l=>if smT l=true then .ok () else .bad
 |.non=>.ok ()
 |.int i=>if -2<=i/\i<=20 then .ok () else .bad
 |.tup [.str l]=>if smT l=true then .ok () else .bad
 |_=>.bad
noncomputable def uRq (f:Rho->M Dt):Rho->M Unit:=fun ρ=>(f ρ).bd uRqD
noncomputable def pToldB (cs fr:List Nat) (f:Rho->M Dt):Rho->M Dt:=fun ρ=>toldM cs (f (startL fr ρ))
end L2
namespace Pg
open L2
theorem e1 (a b:Nat):([a]=[b])=(a=b):=by simp
noncomputable def gm (g:Nat->Nat->Nat) (a b:List Nat):List Nat:=(List.range a.length).map fun i=>g (lv a i) (lv b i)
noncomputable def B_with_name:SM:=(sSeq (sOwnC 3 (getV 0))
 (sSeq (sDput 3 (getV 1) (getV 2))
 (sRel 3 (sRet (getV 3)))))
noncomputable def F_with_name:List Dt->M Dt:=fnM 3 1 B_with_name
noncomputable def B_with_wave:SM:=(sSeq (sDrop (pCall F_refuse_unlike (aCons (p2 oAdd (pLst (aCons (getV 2) aNil)) (pComp 1 [0,1] (iKeys (getV 0)) (gNm 0) (tOf (p2 oNe (getV 0) (getV 2))) (p2 oDix (getV 1) (getV 0)))) aNil)))
 (sRet (pCall F_with_name (aCons (getV 0) (aCons (getV 1) (aCons (getV 2) aNil))))))
noncomputable def F_with_wave:List Dt->M Dt:=fnM 3 0 B_with_wave
noncomputable def B_wave_of:SM:=(sSeq (sIf (tOf (p2 oNotInD (getV 1) (getV 0))) (sRz 1 (uRp (getV 1))) sSkip)
 (sRet (p2 oDix (getV 0) (getV 1))))
noncomputable def F_wave_of:List Dt->M Dt:=fnM 2 0 B_wave_of
noncomputable def B_without_wave:SM:=(sSeq (sDrop (pCall F_wave_of (aCons (getV 0) (aCons (getV 1) aNil))))
 (sSeq (sOwnC 2 (getV 0))
 (sSeq (sDpop 2 (getV 1))
 (sRel 2 (sRet (getV 2))))))
noncomputable def F_without_wave:List Dt->M Dt:=fnM 2 1 B_without_wave
noncomputable def B_is_name:SM:=(sSeq (sIf (tOr' (tNt (tOf (p1 oIsStr (getV 0)))) (tNt (tOf (pChain oLe oLe (pC (.int 1)) (pCall bLen (aCons (getV 0) aNil)) (pC (.int 4)))))) (sRet (pC (.bl false))) sSkip)
 (sRet (pCall bAll (aCons (pComp 1 [] (iOf (getV 0)) (gNm 0) tYs (p2 oIn (getV 0) (pC (.str [97,98,99,100,101,102,103,104,105,106,107,108,109,110,111,112,113,114,115,116,117,118,119,120,121,122])))) aNil))))
noncomputable def F_is_name:List Dt->M Dt:=fnM 1 0 B_is_name
end Pg
namespace L2
section
variable {f g h fk fv:Rho->M Dt}{ρ:Rho}{kvs:KVs}{l v:List Nat}{d e k:Dt}{i:Nat}{it:IM}{gm:GM}{s:SM}{ds:List Dt}
noncomputable def kKeys:Dt->M (List Dt)
 |.dic kvs=>.ok (keysD kvs)
 |_=>.bad
noncomputable def kVals:Dt->M (List Dt)
 |.dic kvs=>.ok (valsD kvs)
 |_=>.bad
noncomputable def kItems:Dt->M (List Dt)
 |.dic kvs=>.ok (itemsD kvs)
 |_=>.bad
theorem y_iKeys:iKeys f ρ=(f ρ).bd kKeys:=by
 unfold iKeys
 congr 1
 funext d
 cases d <;> rfl
theorem y_iVals:iVals f ρ=(f ρ).bd kVals:=by
 unfold iVals
 congr 1
 funext d
 cases d <;> rfl
theorem y_iItems:iItems f ρ=(f ρ).bd kItems:=by
 unfold iItems
 congr 1
 funext d
 cases d <;> rfl
theorem y_kKeys:kKeys (.dic kvs)=.ok (keysD kvs):=.trans rfl rfl
theorem y_kVals:kVals (.dic kvs)=.ok (valsD kvs):=.trans rfl rfl
theorem y_kItems:kItems (.dic kvs)=.ok (itemsD kvs):=.trans rfl rfl
theorem y_dix:oDix (.dic kvs) (.str l)=dixM kvs l:=.trans rfl rfl
theorem y_in:oInD (.str l) (.dic kvs)=.ok (.bl (lkp kvs l).isSome):=.trans rfl rfl
theorem y_notin:oNotInD (.str l) (.dic kvs)=.ok (.bl (!(lkp kvs l).isSome)):=.trans rfl rfl
noncomputable def gtD (e:Dt):Option (List Nat)->Dt
 |some v=>.str v
 |none=>e
theorem y_gtM:gtM kvs e (.str l)=.ok (gtD e (lkp kvs l)):=by
 show M.ok (match lkp kvs l with | some v=>Dt.str v | none=>e)=_
 cases lkp kvs l <;> rfl
noncomputable def kG1 (g:Rho->M Dt) (ρ:Rho):Dt->M Dt
 |.dic kvs=>(g ρ).bd (gtM kvs .non)
 |_=>.bad
theorem y_get1:pGet1 f g ρ=(f ρ).bd (kG1 g ρ):=by
 unfold pGet1
 congr 1
 funext d
 cases d <;> rfl
theorem y_kG1:kG1 g ρ (.dic kvs)=(g ρ).bd (gtM kvs .non):=.trans rfl rfl
noncomputable def kG4 (kvs:KVs) (k e:Dt):M Dt:=gtM kvs e k
noncomputable def kG3 (h:Rho->M Dt) (ρ:Rho) (kvs:KVs) (k:Dt):M Dt:=(h ρ).bd (kG4 kvs k)
noncomputable def kG2 (g h:Rho->M Dt) (ρ:Rho):Dt->M Dt
 |.dic kvs=>(g ρ).bd (kG3 h ρ kvs)
 |_=>.bad
theorem y_get2:pGet2 f g h ρ=(f ρ).bd (kG2 g h ρ):=by
 unfold pGet2
 congr 1
 funext d
 cases d <;> rfl
theorem y_kG2:kG2 g h ρ (.dic kvs)=(g ρ).bd (kG3 h ρ kvs):=.trans rfl rfl
theorem y_kG3:kG3 h ρ kvs k=(h ρ).bd (kG4 kvs k):=.trans rfl rfl
theorem y_kG4:kG4 kvs k e=gtM kvs e k:=.trans rfl rfl
noncomputable def kOC (i:Nat) (ρ:Rho):Dt->M Fl
 |.dic kvs=>.ok (.nx (ρ.set i (.owd kvs)))
 |_=>.bad
theorem y_ownC:sOwnC i f ρ=(f ρ).bd (kOC i ρ):=by
 unfold sOwnC
 congr 1
 funext d
 cases d <;> rfl
theorem y_kOC:kOC i ρ (.dic kvs)=.ok (.nx (ρ.set i (.owd kvs))):=.trans rfl rfl
theorem y_own0:sOwn0 i ρ=.ok (.nx (ρ.set i (.owd []))):=.trans rfl rfl
theorem y_put:sDput i fk fv ρ=dpK i fk fv ρ ρ[i]?:=.trans rfl rfl
noncomputable def kDp (i:Nat) (fk:Rho->M Dt) (ρ:Rho) (kvs:KVs):Dt->M Fl
 |.str v=>(fk ρ).bd (dpE i ρ kvs v)
 |_=>.bad
theorem y_dpK:dpK i fk fv ρ (some (.owd kvs))=(fv ρ).bd (kDp i fk ρ kvs):=by
 show ((fv ρ).bd fun d=>(strM1 d).bd fun v=>(fk ρ).bd (dpE i ρ kvs v))=_
 congr 1
 funext d
 cases d <;> rfl
theorem y_kDp:kDp i fk ρ kvs (.str v)=(fk ρ).bd (dpE i ρ kvs v):=.trans rfl rfl
theorem y_dpE:dpE i ρ kvs v (.str l)=ck (kvs.length<10000) (.ok (.nx (ρ.set i (.owd (putP kvs l v))))):=.trans rfl rfl
theorem y_pop:sDpop i fk ρ=poK i fk ρ ρ[i]?:=.trans rfl rfl
theorem y_poK:poK i fk ρ (some (.owd kvs))=(fk ρ).bd (poE i ρ kvs):=.trans rfl rfl
theorem y_poE:poE i ρ kvs (.str l)=ck ((lkp kvs l).isSome=true) (.ok (.nx (ρ.set i (.owd (dropP kvs l))))):=.trans rfl rfl
theorem y_rel:relB i ρ (some (.owd kvs))=ρ.set i (.val (.dic kvs)):=.trans rfl rfl
theorem y_dict1:bDict [.dic kvs]=.ok (.dic kvs):=.trans rfl rfl
theorem y_dict2:bDict [.lst ds]=prD (prM ds):=.trans rfl rfl
theorem y_prD:prD (some kvs)=.ok (.dic (mergeP [] kvs)):=.trans rfl rfl
theorem y_d0:pD0 ρ=.ok (.dic []):=.trans rfl rfl
theorem y_uRp:uRp f ρ=(f ρ).bd uRpD:=.trans rfl rfl
theorem y_uRpD:uRpD (.str l)=ck (l.length<=50/\(l.all fun c=>decide (c<1000))=true) (.ok ()):=.trans rfl rfl
noncomputable def kFx (gm:GM) (s:SM) (ρ:Rho) (ds:List Dt):M Fl:=forX gm s ds ρ
theorem y_forX:sForX it gm s ρ=(it ρ).bd (kFx gm s ρ):=.trans rfl rfl
theorem y_kFx:kFx gm s ρ ds=forX gm s ds ρ:=.trans rfl rfl
theorem y_ext:sExt i f ρ=exK i f ρ ρ[i]?:=.trans rfl rfl
theorem y_exK:exK i f ρ (some (.own ds))=(f ρ).bd (exD i ρ ds):=.trans rfl rfl
theorem y_exD {es:List Dt}:exD i ρ ds (.lst es)=ck (ds.length+es.length<=10000) (.ok (.nx (ρ.set i (.own (ds++es))))):=.trans rfl rfl
end
end L2
local macro_rules
 | `(tactic| exists dvw, $xs:term,*) => `(tactic| exists evw, y_iKeys, y_iVals, y_iItems, y_kKeys, y_kVals, y_kItems, y_dix, y_in, y_notin, y_gtM, y_get1, y_kG1, y_get2, y_kG2, y_kG3, y_kG4, y_ownC, y_kOC, y_own0, y_put, y_dpK, y_kDp, y_dpE, y_pop, y_poK, y_poE, y_rel, y_dict1, y_dict2, y_prD, y_d0, y_uRp, y_uRpD, y_forX, y_kFx, y_ext, y_exK, y_exD, $xs,*)
 | `(tactic| exists dv) => `(tactic| try exists dvw, eq_self)
namespace Pg
open L2
noncomputable abbrev PW:=List Nat×List Nat
noncomputable def sg1 (a:List Nat) (t:Nat):List Nat:=(a.drop t).take 1
noncomputable def dT (a b:List Nat):List Nat:=(List.range (max a.length b.length)).filter fun t=>!decide (sg1 a t=sg1 b t)
noncomputable def gd (a:KVs) (n:List Nat):List Nat:=(lkp a n).getD []
end Pg
namespace K89
open L2 Pg
noncomputable def B_refuse_no_name:SM:=(sIf (tNt (tOf (pCall F_is_name (aCons (getV 0) aNil)))) (sRz 1 (uRq (getV 0))) sSkip)
noncomputable def F_refuse_no_name:List Dt->M Dt:=fnM 1 0 B_refuse_no_name
noncomputable def B_no:SM:=(sRet (pMeth mJoin (pC (.str [])) (aCons (pComp 1 [] (iOf (getV 0)) (gNm 0) tYs (p1 (dgT [([48],[49]),([49],[48]),([120],[120])]) (getV 0))) aNil)))
noncomputable def F_no:List Dt->M Dt:=fnM 1 0 B_no
noncomputable def B_gate_wave:SM:=(sSeq (sIf (tOf (p2 oNe (pCall bLen (aCons (getV 1) aNil)) (p1 (dgI [([110,111],1),([98,111,116,104],2),([101,105,116,104,101,114],2),([117,110,108,105,107,101],2)]) (getV 0)))) (sRz 1 (uRp (getV 0))) sSkip)
 (sSeq (sIf (tOf (p2 oEq (getV 0) (pC (.str [110,111])))) (sRet (pCall F_no (aCons (p2 oIx (getV 1) (pC (.int 0))) aNil))) sSkip)
 (sSeq (sIf (tOf (p2 oEq (getV 0) (pC (.str [98,111,116,104])))) (sRet (pCall F_both (aCons (p2 oIx (getV 1) (pC (.int 0))) (aCons (p2 oIx (getV 1) (pC (.int 1))) aNil)))) sSkip)
 (sSeq (sIf (tOf (p2 oEq (getV 0) (pC (.str [101,105,116,104,101,114])))) (sRet (pCall F_either (aCons (p2 oIx (getV 1) (pC (.int 0))) (aCons (p2 oIx (getV 1) (pC (.int 1))) aNil)))) sSkip)
 (sRet (pCall F_unlike (aCons (p2 oIx (getV 1) (pC (.int 0))) (aCons (p2 oIx (getV 1) (pC (.int 1))) aNil))))))))
noncomputable def F_gate_wave:List Dt->M Dt:=fnM 2 0 B_gate_wave
noncomputable def pre_put:List SM:=[(sDrop (pCall F_refuse_no_name (aCons (getV 1) aNil))),(sAsg (pRd 0 bSheet) (gNm 3))]
noncomputable def as_put:Rho->M (List Dt):=(aCons (pTup (aCons (pC (.str [112,117,116])) (aCons (getV 1) (aCons (getV 2) aNil)))) (aCons (pCall F_with_wave (aCons (getV 3) (aCons (getV 1) (aCons (getV 2) aNil)))) aNil))
noncomputable def re_put:Rho->M Dt:=(p2 oInD (getV 1) (getV 3))
noncomputable def b_put:BM:=fnB 2 1 (sSeqs pre_put) as_put re_put 0
noncomputable def pre_gate:List SM:=[(sDrop (pCall F_refuse_no_name (aCons (getV 1) aNil))),(sAsg (pRd 0 bSheet) (gNm 4)),(sAsg (pCall F_gate_wave (aCons (getV 2) (aCons (pCompX 1 [4] (iOf (getV 3)) (gNm 0) tYs (pCall F_wave_of (aCons (getV 1) (aCons (getV 0) aNil)))) aNil))) (gNm 5))]
noncomputable def as_gate:Rho->M (List Dt):=(aCons (p2 oAddT (pTup (aCons (pC (.str [103,97,116,101])) (aCons (getV 1) (aCons (getV 2) aNil)))) (pCall bTup (aCons (getV 3) aNil))) (aCons (pCall F_with_wave (aCons (getV 4) (aCons (getV 1) (aCons (getV 5) aNil)))) aNil))
noncomputable def re_gate:Rho->M Dt:=(getV 5)
noncomputable def b_gate:BM:=fnB 3 2 (sSeqs pre_gate) as_gate re_gate 0
noncomputable def pre_take:List SM:=[(sAsg (pRd 0 bSheet) (gNm 2))]
noncomputable def as_take:Rho->M (List Dt):=(aCons (pTup (aCons (pC (.str [116,97,107,101])) (aCons (getV 1) aNil))) (aCons (pCall F_without_wave (aCons (getV 2) (aCons (getV 1) aNil))) aNil))
noncomputable def re_take:Rho->M Dt:=(p2 oDix (getV 2) (getV 1))
noncomputable def b_take:BM:=fnB 1 1 (sSeqs pre_take) as_take re_take 0
noncomputable def L_law_0:SM:=(sSeq (sAsg (p2 oIx (pLst (aCons (pC (.str [])) (aCons (pC (.str [65])) (aCons (pC (.str [97,98,99,100,101])) (aCons (pC (.str [97,49])) (aCons (pC (.str [97,32,98])) (aCons (pC .non) (aCons (pC (.int 5)) (aCons (pTup (aCons (pC (.str [97])) aNil)) aNil))))))))) (p2 oMod (p2 oAdd (pCall F_L_pick (aCons (getV 0) (aCons (pC (.int 0)) (aCons (pC (.int 8)) aNil)))) (p2 oMul (pC (.int 3)) (getV 2))) (pC (.int 8)))) (gNm 3))
 (sSeq (sAsg (p2 oIx (pLst (aCons (pC (.str [99])) (aCons (pC (.str [97,97])) (aCons (pC (.str [120])) (aCons (pC (.str [119,120,121,122])) aNil))))) (p2 oMod (p2 oAdd (pCall F_L_pick (aCons (getV 0) (aCons (pC (.int 1)) (aCons (pC (.int 4)) aNil)))) (getV 2)) (pC (.int 4)))) (gNm 4))
 (sSeq (sOwn 5 (aCons (pToldB [1,6,7] [1,3] (pMtX 0 b_put (aCons (getV 1) (aCons (pC (.str [48,48,48])) aNil)))) aNil))
 (sSeq (sAppend 5 (pToldB [1,6,7] [1,3] (pMtX 0 b_gate (aCons (getV 1) (aCons (pC (.str [110,111])) (aCons (pTup (aCons (pC (.str [97])) aNil)) aNil))))))
 (sSeq (sAppend 5 (pToldB [1,6,7] [1,4] (pMtX 0 b_take (aCons (getV 1) aNil))))
 (sSeq (sAppend 5 (pToldB [1,6,7] [1,4] (pMtX 0 b_gate (aCons (pC (.str [97])) (aCons (pC (.str [110,111])) (aCons (pTup (aCons (getV 1) aNil)) aNil))))))
 (sSeq (sAppend 5 (pToldB [1,6,7] [1,4] (pMtX 0 b_gate (aCons (pC (.str [97])) (aCons (pC (.str [98,111,116,104])) (aCons (pTup (aCons (pC (.str [98])) (aCons (getV 1) aNil))) aNil))))))
 (sSeq (sAppend 5 (pToldB [1,6,7] [1,4] (pMtX 0 b_gate (aCons (pC (.str [97])) (aCons (pC (.str [117,110,108,105,107,101])) (aCons (pTup (aCons (getV 1) (aCons (pC (.str [98])) aNil))) aNil))))))
 (sRel 5 (sIf (tOr' (tOf (p2 oNe (getV 5) (pRep (aCons (pC (.str [110,111,32,110,97,109,101])) aNil) (pC (.int 6))))) (tOf (p2 oNe (pToldB [1,6,7] [1,2] (pMtX 0 b_put (aCons (pC (.str [99])) (aCons (p2 oIx (pLst (aCons (pC (.str [48,48])) (aCons (pC (.str [48,48,48,48])) (aCons (pC (.str [120])) (aCons (pC (.str [49])) aNil))))) (getV 1)) aNil)))) (pC (.str [117,110,108,105,107,101]))))) (sRet (pC (.bl false))) sSkip))))))))))
noncomputable def S_law_8:SM:=(sRet (p2 oEq (pSlice (pRd 1 bSteps) (pPart (some (pC (.int 2)))) (pPart none)) (pLst (aCons (pTup (aCons (pC (.str [103,97,116,101])) (aCons (pC (.str [98])) (aCons (pC (.str [110,111])) (aCons (pC (.str [97])) aNil))))) (aCons (pTup (aCons (pC (.str [116,97,107,101])) (aCons (pC (.str [97])) aNil))) (aCons (pTup (aCons (pC (.str [112,117,116])) (aCons (pC (.str [98])) (aCons (pC (.str [120])) aNil)))) aNil))))))
noncomputable def S_law_7:SM:=(sSeq (sIfB (tbO (tbP (tOf (p2 oNe (pRd 1 bSheet) (pDisp [((pC (.str [97])),(pC (.str [48,120,49]))),((pC (.str [98])),(pC (.str [49,120,48])))])))) (tbO (tbM 1 b_take (aCons (pC (.str [97])) aNil) oNe (pC (.str [48,120,49]))) (tbM 1 b_put (aCons (pC (.str [98])) (aCons (pC (.str [120])) aNil)) oIsNot (pC (.bl true))))) (sRet (pC (.bl false))) sSkip) S_law_8)
noncomputable def S_law_6:SM:=(sSeq (sIfB (tbO (tbP (tOf (p2 oNe (pRd 1 bSheet) (pDisp [((pC (.str [97])),(pC (.str [48,120,49]))),((pC (.str [98])),(pC (.str [48,49,49])))])))) (tbO (tbP (tOf (p2 oNe (pRd 1 bSizes) (pTup (aCons (pC (.int 2)) (aCons (pC (.int 1)) aNil)))))) (tbM 1 bForth aNil oNe (pC (.str [103,97,116,101]))))) (sRet (pC (.bl false))) sSkip) S_law_7)
noncomputable def S_law_5:SM:=(sRel 5 (sSeq (sForC (iBy rng1M (aCons (pC (.int 4)) aNil)) (gNm 2) L_law_0) S_law_6))
noncomputable def S_law_4:SM:=(sSeq (sMt 1 bBack aNil) S_law_5)
noncomputable def S_law_3:SM:=(sSeq (sMt 1 b_gate (aCons (pC (.str [98])) (aCons (pC (.str [110,111])) (aCons (pTup (aCons (pC (.str [97])) aNil)) aNil)))) S_law_4)
noncomputable def S_law_2:SM:=(sSeq (sMt 1 b_put (aCons (pC (.str [98])) (aCons (pC (.str [48,49,49])) aNil))) S_law_3)
noncomputable def S_law_1:SM:=(sSeq (sMt 1 b_put (aCons (pC (.str [97])) (aCons (pC (.str [48,120,49])) aNil))) S_law_2)
noncomputable def B_law:SM:=(sSeq (sBrd 1) S_law_1)
noncomputable def F_law:List Dt->M Dt:=fnM 1 5 B_law
noncomputable def row1:Dt:=.tup [.tup [.str [112,117,116],.str [97],.str [48,120,49]],.dic [([97],[48,120,49])]]
noncomputable def row2:Dt:=.tup [.tup [.str [112,117,116],.str [98],.str [48,49,49]],.dic [([97],[48,120,49]),([98],[48,49,49])]]
noncomputable def row3:Dt:=.tup [.tup [.str [103,97,116,101],.str [98],.str [110,111],.str [97]],.dic [([97],[48,120,49]),([98],[49,120,48])]]
noncomputable def row4:Dt:=.tup [.tup [.str [116,97,107,101],.str [97]],.dic [([98],[49,120,48])]]
noncomputable def row5:Dt:=.tup [.tup [.str [112,117,116],.str [98],.str [120]],.dic [([98],[120])]]
theorem q1:b_put [] [] [.str [97],.str [48,120,49]]=.ok (.bl false,[row1],[]):=by rfl
theorem q2:b_put [row1] [] [.str [98],.str [48,49,49]]=.ok (.bl false,[row1,row2],[]):=by rfl
theorem q3:b_gate [row1,row2] [] [.str [98],.str [110,111],.tup [.str [97]]]=.ok (.str [49,120,48],[row1,row2,row3],[]):=by rfl
theorem q4:bBack [row1,row2,row3] [] []=.ok (.str [103,97,116,101],[row1,row2],[row3]):=by rfl
noncomputable def nm8:List Dt:=[.str [],.str [65],.str [97,98,99,100,101],.str [97,49],.str [97,32,98],.non,.int 5,.tup [.str [97]]]
noncomputable def gn4:List Dt:=[.str [99],.str [97,97],.str [120],.str [119,120,121,122]]
noncomputable def wv4:List Dt:=[.str [48,48],.str [48,48,48,48],.str [120],.str [49]]
theorem r1:∀d∈nm8,b_put [row1,row2] [row3] [d,.str [48,48,48]]=.ex 1:=by
 unfold nm8
 simp only [List.forall_mem_cons]
 exact⟨by rfl,by rfl,by rfl,by rfl,by rfl,by rfl,by rfl,by rfl,fun _ z=>nomatch z⟩
theorem r2:∀d∈nm8,b_gate [row1,row2] [row3] [d,.str [110,111],.tup [.str [97]]]=.ex 1:=by
 unfold nm8
 simp only [List.forall_mem_cons]
 exact⟨by rfl,by rfl,by rfl,by rfl,by rfl,by rfl,by rfl,by rfl,fun _ z=>nomatch z⟩
theorem r3:∀d∈gn4,b_take [row1,row2] [row3] [d]=.ex 1:=by
 unfold gn4
 simp only [List.forall_mem_cons]
 exact⟨by rfl,by rfl,by rfl,by rfl,fun _ z=>nomatch z⟩
theorem r4:∀d∈gn4,b_gate [row1,row2] [row3] [.str [97],.str [110,111],.tup [d]]=.ex 1:=by
 unfold gn4
 simp only [List.forall_mem_cons]
 exact⟨by rfl,by rfl,by rfl,by rfl,fun _ z=>nomatch z⟩
theorem r5:∀d∈gn4,b_gate [row1,row2] [row3] [.str [97],.str [98,111,116,104],.tup [.str [98],d]]=.ex 1:=by
 unfold gn4
 simp only [List.forall_mem_cons]
 exact⟨by rfl,by rfl,by rfl,by rfl,fun _ z=>nomatch z⟩
theorem r6:∀d∈gn4,b_gate [row1,row2] [row3] [.str [97],.str [117,110,108,105,107,101],.tup [d,.str [98]]]=.ex 1:=by
 unfold gn4
 simp only [List.forall_mem_cons]
 exact⟨by rfl,by rfl,by rfl,by rfl,fun _ z=>nomatch z⟩
theorem r7:∀d∈wv4,b_put [row1,row2] [row3] [.str [99],d]=.ex 6:=by
 unfold wv4
 simp only [List.forall_mem_cons]
 exact⟨by rfl,by rfl,by rfl,by rfl,fun _ z=>nomatch z⟩
theorem at_mem {l:List Dt}{k:Int} (h0:0<=k) (h1:k<l.length):∃d∈l,atZ l k=some d:=by
 obtain⟨n,rfl⟩:∃n:Nat,k=n:=⟨k.toNat,by omega⟩
 have hn:n<l.length:=by omega
 exact⟨l[n],List.getElem_mem hn,atZ_nat (by simp [hn])⟩
theorem told1 {cs:List Nat}{i j c:Nat}{F:BM}{fs:Rho->M (List Dt)}{ρ:Rho}{x y ds:List Dt}{d:Dt} (h1:ρ[i]?=some (.brd x y)) (h2:ρ[j]?=some (.val d)) (h3:fs [.bor none x y,.val d]=.ok ds) (h4:F x y ds=.ex c) (h5:c∈cs):pToldB cs [i,j] (pMtX 0 F fs) ρ=.ok (.str (wordZ8 c)):=by
 show toldM cs (pMtX 0 F fs [vBor ρ[i]?,vBor ρ[j]?])=_
 rw [h1,h2]
 show toldM cs ((fs [.bor none x y,.val d]).bd fun ds=>exB (F x y ds))=_
 rw [h3]
 show toldM cs (exB (F x y ds))=_
 rw [h4]
 exact if_pos h5
noncomputable abbrev six:List Dt:=[.str [110,111,32,110,97,109,101],.str [110,111,32,110,97,109,101],.str [110,111,32,110,97,109,101],.str [110,111,32,110,97,109,101],.str [110,111,32,110,97,109,101],.str [110,111,32,110,97,109,101]]
theorem turn {ns:List Int}{k0 k1 k:Int} (p0:F_L_pick [scr ns,.int 0,.int 8]=.ok (.int k0)) (p1:F_L_pick [scr ns,.int 1,.int 4]=.ok (.int k1)) (hk:0<=k) (hk':k<4) (s3 s4 s5:Bd) :
  ∃nm gn,L_law_0 [.val (scr ns),.brd [row1,row2] [row3],.val (.int k),s3,s4,s5]=.ok (.nx [.val (scr ns),.brd [row1,row2] [row3],.val (.int k),.val nm,.val gn,.val (.lst six)]):=by
 have m0:=Int.emod_nonneg (k0+3 * k) (show (8:Int)≠0 by decide)
 have m1:=Int.emod_lt_of_pos (k0+3 * k) (show (0:Int)<8 by decide)
 have m2:=Int.emod_nonneg (k1+k) (show (4:Int)≠0 by decide)
 have m3:=Int.emod_lt_of_pos (k1+k) (show (0:Int)<4 by decide)
 obtain⟨nm,h1,h2⟩:=at_mem (l:=nm8) m0 m1
 obtain⟨gn,h3,h4⟩:=at_mem (l:=gn4) m2 m3
 obtain⟨wv,h5,h6⟩:=at_mem (l:=wv4) hk hk'
 unfold nm8 at h2
 unfold gn4 at h4
 unfold wv4 at h6
 refine⟨nm,gn,?_⟩
 unfold L_law_0
 exists evw,p0,p1
 rw [ck_of (by decide)]
 exists ev
 rw [szL_ok (by decide)]
 exists evw,p0
 rw [ck_of (by omega)]
 exists ev
 rw [ck_of (by omega)]
 exists evw,h2
 rw [szL_ok (by decide)]
 exists evw,p1
 rw [ck_of (by omega)]
 exists evw,h4
 rw [told1 (x:=[row1,row2]) (y:=[row3]) (d:=nm) (ds:=[nm,.str [48,48,48]]) (c:=1) rfl rfl rfl (r1 nm h1) (by decide)]
 exists ev
 rw [ck_of (by decide)]
 exists ev
 rw [told1 (x:=[row1,row2]) (y:=[row3]) (d:=nm) (ds:=[nm,.str [110,111],.tup [.str [97]]]) (c:=1) rfl rfl rfl (r2 nm h1) (by decide)]
 exists ev
 rw [ck_of (by decide)]
 exists ev
 rw [told1 (x:=[row1,row2]) (y:=[row3]) (d:=gn) (ds:=[gn]) (c:=1) rfl rfl rfl (r3 gn h3) (by decide)]
 exists ev
 rw [ck_of (by decide)]
 exists ev
 rw [told1 (x:=[row1,row2]) (y:=[row3]) (d:=gn) (ds:=[.str [97],.str [110,111],.tup [gn]]) (c:=1) rfl rfl rfl (r4 gn h3) (by decide)]
 exists ev
 rw [ck_of (by decide)]
 exists ev
 rw [told1 (x:=[row1,row2]) (y:=[row3]) (d:=gn) (ds:=[.str [97],.str [98,111,116,104],.tup [.str [98],gn]]) (c:=1) rfl rfl rfl (r5 gn h3) (by decide)]
 exists ev
 rw [ck_of (by decide)]
 exists ev
 rw [told1 (x:=[row1,row2]) (y:=[row3]) (d:=gn) (ds:=[.str [97],.str [117,110,108,105,107,101],.tup [gn,.str [98]]]) (c:=1) rfl rfl rfl (r6 gn h3) (by decide)]
 exists ev
 rw [ck_of (by decide)]
 exists ev
 rw [ck_of (by decide),ck_of (by decide),show (List.replicate (Int.toNat 6) [Dt.str [110,111,32,110,97,109,101]]).flatten=six from rfl,show wordZ8 1=[110,111,32,110,97,109,101] from rfl]
 have e3:oNe (.lst six) (.lst six)=.ok (.bl false):=by rw [a_ne,ck_of (by decide),eqD_refl]; rfl
 exists evw,e3
 have fw:(aCons (pC (Dt.str [99])) (aCons (p2 oIx (pLst (aCons (pC (Dt.str [48,48])) (aCons (pC (Dt.str [48,48,48,48])) (aCons (pC (Dt.str [120])) (aCons (pC (Dt.str [49])) aNil))))) (getV 1)) aNil)) [Bd.bor none [row1,row2] [row3],.val (.int k)]=.ok [.str [99],wv]:=by
  exists ev
  rw [szL_ok (by decide)]
  exists evw,h6
 rw [told1 (x:=[row1,row2]) (y:=[row3]) (d:=.int k) (ds:=[.str [99],wv]) (c:=6) rfl rfl fw (r7 wv h5) (by decide)]
 exists ev
 rfl
theorem mt_eq {i:Nat}{F:BM}{fs:Rho->M (List Dt)}{ρ:Rho}{x y ds x' y':List Dt}{d:Dt} (h:ρ[i]?=some (.brd x y)) (h1:fs ρ=.ok ds) (h2:F x y ds=.ok (d,x',y')):sMt i F fs ρ=.ok (.nx (ρ.set i (.brd x' y'))):=by
 unfold sMt mtK
 rw [h,h1]
 show ((F x y ds).bd _:M Fl)=_
 rw [h2]
 rfl
theorem st6 (a0 a2 a3 a4 a5:Bd):S_law_6 [a0,.brd [row1,row2] [row3],a2,a3,a4,a5]=S_law_7 [a0,.brd [row1,row2,row3] [],a2,a3,a4,a5]:=by rfl
theorem st7 (a0 a2 a3 a4 a5:Bd):S_law_7 [a0,.brd [row1,row2,row3] [],a2,a3,a4,a5]=S_law_8 [a0,.brd [row1,row2,row3,row4,row5] [],a2,a3,a4,a5]:=by rfl
theorem st8 (a0 a2 a3 a4 a5:Bd):S_law_8 [a0,.brd [row1,row2,row3,row4,row5] [],a2,a3,a4,a5]=.ok (.rt (.bl true)):=by rfl
theorem law_true (ns:List Int) (_:ns.length<=63):F_law [.lst (ns.map Dt.int)]=.ok (.bl true):=by
 have p0:=pick_eq (ns:=ns) (k:=0) (many:=8) (by decide) (by decide)
 have p1:=pick_eq (ns:=ns) (k:=1) (many:=4) (by decide) (by decide)
 show F_law [scr ns]=_
 unfold F_law B_law
 exists ev
 rw [show sBrd 1 [Bd.val (scr ns),Bd.no,Bd.no,Bd.no,Bd.no,Bd.no]=.ok (.nx [Bd.val (scr ns),.brd [] [],Bd.no,Bd.no,Bd.no,Bd.no]) from rfl]
 exists ev
 unfold S_law_1
 exists ev
 rw [mt_eq (ds:=[.str [97],.str [48,120,49]]) rfl rfl q1]
 simp only [List.set]
 exists ev
 unfold S_law_2
 exists ev
 rw [mt_eq (ds:=[.str [98],.str [48,49,49]]) rfl rfl q2]
 simp only [List.set]
 exists ev
 unfold S_law_3
 exists ev
 rw [mt_eq (ds:=[.str [98],.str [110,111],.tup [.str [97]]]) rfl rfl q3]
 simp only [List.set]
 exists ev
 unfold S_law_4
 exists ev
 rw [mt_eq (ds:=[]) rfl rfl q4]
 simp only [List.set]
 exists ev
 unfold S_law_5
 exists ev
 rw [ck_of (by decide),show rngD 0 4=[.int 0,.int 1,.int 2,.int 3] from rfl,show relB 5 [Bd.val (scr ns),Bd.brd [row1,row2] [row3],Bd.no,Bd.no,Bd.no,Bd.no] (some Bd.no)=[Bd.val (scr ns),Bd.brd [row1,row2] [row3],Bd.no,Bd.no,Bd.no,Bd.no] from rfl]
 obtain⟨n1,g1,t1⟩:=turn p0 p1 (k:=0) (by decide) (by decide) .no .no .no
 obtain⟨n2,g2,t2⟩:=turn p0 p1 (k:=1) (by decide) (by decide) (.val n1) (.val g1) (.val (.lst six))
 obtain⟨n3,g3,t3⟩:=turn p0 p1 (k:=2) (by decide) (by decide) (.val n2) (.val g2) (.val (.lst six))
 obtain⟨n4,g4,t4⟩:=turn p0 p1 (k:=3) (by decide) (by decide) (.val n3) (.val g3) (.val (.lst six))
 exists evw,t1,t2,t3,t4
 rw [st6,st7,st8]
 exists ev
end K89
end MacS
namespace L2
open PySem PySem.Spec PyProof.Rows
noncomputable abbrev Key:=Sum Int Str
noncomputable def keyIs:Key->Value->Bool
 |.inl k,v=>Value.isInt k v
 |.inr x,v=>Value.isStrOf x v
noncomputable def keyH (w:World):Key->Int
 |.inl k=>hashInt k
 |.inr x=>hashStr w x
theorem keyIs_shape:∀{k:Key}{v:Value},keyIs k v=true->(∃i t,k=Sum.inl i/\v=Value.int i t)∨(∃x t,k=Sum.inr x/\v=Value.str x t)
 |.inl i,v,h=>by
  obtain⟨t,e⟩:=Value.isInt_shape (k:=i) (v:=v) h
  exact .inl ⟨i,t,rfl,e⟩
 |.inr x,v,h=>by
  obtain⟨t,e⟩:=Value.isStrOf_shape (x:=x) (v:=v) h
  exact .inr ⟨x,t,rfl,e⟩
theorem keyIs_int (i:Int) (t:Tok):keyIs (.inl i) (.int i t)=true:=by simp [keyIs,Value.isInt]
theorem keyIs_str (x:Str) (t:Tok):keyIs (.inr x) (.str x t)=true:=by simp [keyIs,Value.isStrOf]
theorem key_ll (a b:Int):decide ((Sum.inl a:Key)=Sum.inl b)=(a==b):=by
 by_cases e:a=b
 ·subst e; simp
 ·have h:¬ (Sum.inl a:Key)=Sum.inl b:=fun q=>e (Sum.inl.inj q)
  rw [decide_eq_false h]
  exact(beq_eq_false_iff_ne.mpr e).symm
theorem key_rr (a b:Str):decide ((Sum.inr a:Key)=Sum.inr b)=decide (a=b):=by
 by_cases e:a=b
 ·subst e; simp
 ·have h:¬ (Sum.inr a:Key)=Sum.inr b:=fun q=>e (Sum.inr.inj q)
  rw [decide_eq_false h,decide_eq_false e]
theorem key_lr (a:Int) (b:Str):decide ((Sum.inl a:Key)=Sum.inr b)=false:=decide_eq_false (fun q=>nomatch q)
theorem key_rl (a:Str) (b:Int):decide ((Sum.inr a:Key)=Sum.inl b)=false:=decide_eq_false (fun q=>nomatch q)
noncomputable def mixKind (prog:Program) (w:World):PySem.KeyKind prog w Key where
 is:=keyIs
 hash:=keyH w
 inj:=fun v a b ha hb=>by
  rcases keyIs_shape ha with ⟨i,t,rfl,rfl⟩ | ⟨x,t,rfl,rfl⟩
  ·rcases keyIs_shape hb with ⟨j,u,rfl,e⟩ | ⟨y,u,rfl,e⟩
   ·injection e with e1 _; rw [e1]
   ·exact nomatch e
  ·rcases keyIs_shape hb with ⟨j,u,rfl,e⟩ | ⟨y,u,rfl,e⟩
   ·exact nomatch e
   ·injection e with e1 _; rw [e1]
 byValue:=fun k v h=>by
  rcases keyIs_shape h with ⟨i,t,rfl,rfl⟩ | ⟨x,t,rfl,rfl⟩ <;> rfl
 pyHash:=fun hv h=>by
  rcases keyIs_shape hv with ⟨i,t,rfl,rfl⟩ | ⟨x,t,rfl,rfl⟩
  ·exact wpAny_pyHash_int h
  ·exact wpAny_pyHash_str h
 eqBool:=fun hu hv h=>by
  rcases keyIs_shape hu with ⟨i,t,rfl,rfl⟩ | ⟨x,t,rfl,rfl⟩
  ·rcases keyIs_shape hv with ⟨j,u,rfl,rfl⟩ | ⟨y,u,rfl,rfl⟩
   ·rw [key_ll] at h; exact wpAny_eqBool_int h
   ·rw [key_lr] at h; exact SeqAt.EqAt.int_str i t y u _ _ _ _ h
  ·rcases keyIs_shape hv with ⟨j,u,rfl,rfl⟩ | ⟨y,u,rfl,rfl⟩
   ·rw [key_rl] at h; exact SeqAt.EqAt.str_int x t j u _ _ _ _ h
   ·rw [key_rr] at h; exact wpAny_eqBool_str h
 «strs» := fun k x t v h=>by
  rcases keyIs_shape h with ⟨i,u,rfl,e⟩ | ⟨y,u,rfl,e⟩
  ·exact nomatch e
  ·injection e with e1 _
   subst e1
   cases v <;> rfl
theorem mixKind_int (prog:Program) (w:World) (i:Int) (t:Tok):(mixKind prog w).is (.inl i) (.int i t)=true:=keyIs_int i t
theorem mixKind_str (prog:Program) (w:World) (x:Str) (t:Tok):(mixKind prog w).is (.inr x) (.str x t)=true:=keyIs_str x t
inductive V where
 |non | bl (b:Bool) | int (i:Int) | str (x:Str) | byt (b:Array UInt8) | flt (b:UInt64) | ref (a:Addr) | ty (n:String)
 deriving DecidableEq
noncomputable def RelV:V->Value->Prop
 |.non,u=>u=Value.none
 |.bl b,u=>u=Value.bool b
 |.int i,u=>∃t,u=Value.int i t
 |.str x,u=>∃t,u=Value.str x t
 |.byt b,u=>∃t,u=Value.bytes b t
 |.flt b,u=>∃t,u=Value.float b t
 |.ref a,u=>u=Value.ref a
 |.ty n,u=>u=Value.type n
noncomputable abbrev Vals:List V->List Value->Prop:=Paired RelV
theorem Vals.length {xs:List V}{us:List Value} (r:Vals xs us):xs.length=us.length:=Paired.length r
theorem Vals.get:∀{xs:List V}{us:List Value}{i:Nat}{x:V},Vals xs us->xs[i]?=some x->∃u,us[i]?=some u/\RelV x u
 |_,_,_,_,.nil,e=>by simp at e
 |_,_,0,_,.cons r _,e=>by simp at e; subst e; exact⟨_,rfl,r⟩
 |_,_,i+1,x,.cons _ t,e=>by
  obtain⟨u,h1,h2⟩:=Vals.get (i:=i) (x:=x) t (by simpa using e)
  exact⟨u,by simpa using h1,h2⟩
theorem Vals.append:∀{xs ys:List V}{us ws:List Value},Vals xs us->Vals ys ws->Vals (xs++ys) (us++ws)
 |_,_,_,_,.nil,s=>s
 |_,_,_,_,.cons r t,s=>.cons r (Vals.append t s)
theorem Vals.take:∀{xs:List V}{us:List Value} (n:Nat),Vals xs us->Vals (xs.take n) (us.take n)
 |_,_,0,_=>.nil
 |_,_,_+1,.nil=>.nil
 |_,_,n+1,.cons r t=>.cons r (Vals.take n t)
theorem Vals.drop:∀{xs:List V}{us:List Value} (n:Nat),Vals xs us->Vals (xs.drop n) (us.drop n)
 |_,_,0,r=>r
 |_,_,_+1,.nil=>.nil
 |_,_,n+1,.cons _ t=>Vals.drop n t
noncomputable def RelO:Option V->Option Value->Prop
 |some v,some u=>RelV v u
 |none,none=>True
 |_,_=>False
noncomputable def KV {κ:Type}:List (κ×V)->List (κ×Value)->Prop:=Paired fun(p:κ×V) (q:κ×Value)=>p.1=q.1/\RelV p.2 q.2
noncomputable def kV:Key->V
 |.inl i=>.int i
 |.inr x=>.str x
inductive HO where
 |lst (xs:List V)
 |tup (xs:List V)
 |dK (kvs:List (Key×V)) | dT (kvs:List (List Key×V))
 |set (S:Int->Bool) (n:Nat)
 |ins (C dx:Addr) (fs:List (Str×V))
 |own (x:Addr)
 |xd (fs:List (Str×V))
 |met (f x:Addr)
 |rng (lo hi:Int)
 |frz (o:Obj) (u:HO)
 |tbl (q:Str)
 |ext (φ:Heap->Prop)
noncomputable abbrev Hp:=Addr->Option HO
noncomputable def upd (H:Hp) (a:Addr) (o:HO):Hp:=fun b=>if b=a then some o else H b
theorem upd_same {H:Hp}{a:Addr}{o:HO}:upd H a o a=some o:=by unfold upd; rw [if_pos rfl]
theorem upd_ne {H:Hp}{a b:Addr}{o:HO} (h:b≠a):upd H a o b=H b:=by unfold upd; rw [if_neg h]
theorem ne_of {H:Hp}{a b:Addr}{o u:HO} (h:H a=some o) (h':H b=some u) (d:o≠u):a≠b:=by
 intro e; subst e; rw [h] at h'; exact d (Option.some.inj h')
theorem ne_of_none {H:Hp}{a b:Addr}{o:HO} (h:H a=some o) (h':H b=none):a≠b:=by
 intro e; subst e; rw [h] at h'; cases h'
section
variable (P:Program) (w:World)
noncomputable def ObjOk (H:Hp) (h:Heap) (a:Addr):HO->Prop
 |.lst xs=>xs.length<=sizeLine/\∃(its:List Value) (n:Nat),Vals xs its/\h.get? a=some {cls:=.type "list",data:=.seq its.toArray n}
 |.tup xs=>xs.length<=sizeLine/\∃its:List Value,Vals xs its/\IsTup h a its.toArray
 |.dK kvs=>kvs.length<=sizeLine/\(a==sysModules)=false/\∃vs,KV kvs vs/\h.DictOf (mixKind P w) a vs
 |.dT kvs=>kvs.length<=sizeLine/\(a==sysModules)=false/\∃xs:List (List Key×Addr×Value),
   Paired (fun(p:List Key×V) (q:List Key×Addr×Value)=>p.1=q.1/\H q.2.1=some (.tup (p.1.map kV))/\RelV p.2 q.2.2) kvs xs/\
   ∃o es ep,h.get? a=some o/\o.ExactDict/\o.data=.dict es ep/\es.toList=xs.map (entryOfKey (tupleKind (mixKind P w)))/\(xs.map (·.1)).Nodup
 |.set S n=>h.SetOf (intKind P w) a S n
 |.ins C dx fs=>H dx=some (.own a)/\fs.length<=1000/\dx≠a/\h.get? a=some (PySem.W.instObj C dx)/\
   ∃mA,h.Ns1 dx mA/\(∀f,RelO (fs.lookup f) (mA f))/\PySem.Within mA (fs.map (·.1))
 |.own _=>∃o,h.get? a=some o
 |.xd fs=>∃mA,h.Ns1 a mA/\∀f,RelO (fs.lookup f) (mA f)
 |.rng lo hi=>∃t u v,h.get? a=some {cls:=.type "range",data:=.fields #[.int lo t,.int hi u,.int 1 v]}
 |.frz o u=>h.get? a=some o/\ObjOk H h a u
 |.tbl q=>∃ps:Array Value,h.get? a=some {cls:=.none,data:=.fields ps}/\TriplesOk ps.toList/\∀pos cv,codeAmong pos ps.toList=some cv->∃c oc u,cv=.ref c/\H c=some (.frz oc u)/\∃vs t,oc.data=.fields vs/\vs[1]?=some (.str q t)
 |.met f x=>h.get? a=some (PySem.W.methodObj (.ref f) (.ref x))
 |.ext φ=>φ h/\(∃o,h.get? a=some o)/\∀h1 h2:Heap,φ h1->(∀o,h1.get? a=some o->h2.get? a=some o)->φ h2
noncomputable def HOk (H:Hp) (h:Heap):Prop:=∀a o,H a=some o->ObjOk P w H h a o
end
section
variable {P:Program}{w:World}{H H':Hp}{h h':Heap}{a:Addr}{o:HO}
theorem ObjOk.lt (x:ObjOk P w H h a o):a<h.objs.size:=by
 cases o with
 |lst xs=>obtain⟨_,_,_,_,e⟩:=x; exact Heap.lt_size e
 |tup xs=>obtain⟨_,_,_,p⟩:=x; exact p.lt
 |dK kvs=>obtain⟨_,_,_,_,o,_,_,e,_⟩:=x; exact Heap.lt_size e
 |dT kvs=>obtain⟨_,_,_,_,o,_,_,e,_⟩:=x; exact Heap.lt_size e
 |set S n=>obtain⟨o,_,_,_,e,_⟩:=x; exact Heap.lt_size e
 |ins C dx fs=>obtain⟨_,_,_,e,_⟩:=x; exact Heap.lt_size e
 |own y=>obtain⟨_,e⟩:=x; exact Heap.lt_size e
 |xd fs=>obtain⟨_,⟨_,_,_,e,_⟩,_⟩:=x; exact Heap.lt_size e
 |rng lo hi=>obtain⟨_,_,_,e⟩:=x; exact Heap.lt_size e
 |frz ob u=>obtain⟨e,_⟩:=x; exact Heap.lt_size e
 |tbl q=>obtain⟨ps,e,_⟩:=x; exact Heap.lt_size e
 |met f y=>exact Heap.lt_size (show h.get? a=some _ from x)
 |ext φ=>obtain⟨_,⟨_,e⟩,_⟩:=x; exact Heap.lt_size e
theorem Paired.mapP {α β:Type}{F G:α->β->Prop}:∀{l₁:List α}{l₂:List β},Paired F l₁ l₂->(∀a b,F a b->G a b)->Paired G l₁ l₂
 |_,_,.nil,_=>.nil
 |_,_,.cons r t,f=>.cons (f _ _ r) (Paired.mapP t f)
theorem ObjOk.stay (x:ObjOk P w H h a o) (k:∀b u,(b=a∨H b=some (.own a))->h.get? b=some u->h'.get? b=some u)
  (ho:∀b,H b=some (.own a)->H' b=some (.own a)) (ht:∀b xs,H b=some (.tup xs)->H' b=some (.tup xs)) (hf:∀b ob u,H b=some (.frz ob u)->H' b=some (.frz ob u):=by exact fun _ _ _ q=>q):ObjOk P w H' h' a o:=by
 induction o with
 |lst xs=>obtain⟨z,its,n,r,e⟩:=x; exact⟨z,its,n,r,k _ _ (.inl rfl) e⟩
 |tup xs=>obtain⟨z,its,r,ob,e,c⟩:=x; exact⟨z,its,r,ob,k _ _ (.inl rfl) e,c⟩
 |dK kvs=>obtain⟨z,y,vs,r,ob,es,ep,e,c⟩:=x; exact⟨z,y,vs,r,ob,es,ep,k _ _ (.inl rfl) e,c⟩
 |dT kvs=>
  obtain⟨z,y,xs,r,ob,es,ep,e,c⟩:=x
  exact⟨z,y,xs,Paired.mapP r fun p q z=>⟨z.1,ht _ _ z.2.1,z.2.2⟩,ob,es,ep,k _ _ (.inl rfl) e,c⟩
 |set S n=>obtain⟨ob,es,ep,t,e,c⟩:=x; exact⟨ob,es,ep,t,k _ _ (.inl rfl) e,c⟩
 |ins C dx fs=>
  obtain⟨d,z,ne,e,mA,⟨od,es,ep,e2,c⟩,r⟩:=x
  exact⟨ho _ d,z,ne,k _ _ (.inl rfl) e,mA,⟨od,es,ep,k _ _ (.inr d) e2,c⟩,r⟩
 |own y=>obtain⟨ob,e⟩:=x; exact⟨ob,k _ _ (.inl rfl) e⟩
 |xd fs=>obtain⟨mA,⟨od,es,ep,e,c⟩,r⟩:=x; exact⟨mA,⟨od,es,ep,k _ _ (.inl rfl) e,c⟩,r⟩
 |rng lo hi=>obtain⟨t,u,v,e⟩:=x; exact⟨t,u,v,k _ _ (.inl rfl) e⟩
 |frz ob u ih=>obtain⟨e,q⟩:=x; exact⟨k _ _ (.inl rfl) e,ih q⟩
 |tbl q=>
  obtain⟨ps,e,t,g⟩:=x
  exact⟨ps,k a _ (.inl rfl) e,t,fun pos cv z=>by
   obtain⟨c,oc,u,z1,z2,z3⟩:=g pos cv z
   exact⟨c,oc,u,z1,hf _ _ _ z2,z3⟩⟩
 |met f y=>
  have e:h.get? a=some (PySem.W.methodObj (.ref f) (.ref y)):=x
  show h'.get? a=some (PySem.W.methodObj (.ref f) (.ref y))
  exact k a _ (.inl rfl) e
 |ext φ=>obtain⟨p,⟨o,e⟩,st⟩:=x; exact⟨st _ _ p fun o q=>k _ _ (.inl rfl) q,⟨o,k _ _ (.inl rfl) e⟩,st⟩
theorem HOk.lt (x:HOk P w H h) (e:H a=some o):a<h.objs.size:=(x a o e).lt
theorem HOk.fresh (x:HOk P w H h) (e:h.objs.size<=a):H a=none:=by
 cases q:H a with
 |none=>rfl
 |some u=>exact absurd (Nat.lt_of_lt_of_le (x.lt q) e) (Nat.lt_irrefl _)
theorem HOk.kept (x:HOk P w H h) (k:∀b u,h.get? b=some u->h'.get? b=some u):HOk P w H h':=fun a o e=>
 (x a o e).stay (fun b u _ q=>k b u q) (fun _ q=>q) fun _ _ q=>q
theorem HOk.laid (x:HOk P w H h) (k:∀b u,h.get? b=some u->h'.get? b=some u) (hp:h.objs.size<=a) (new:ObjOk P w (upd H a o) h' a o):HOk P w (upd H a o) h':=fun b u e=>by
 have hn:=x.fresh hp
 by_cases hb:b=a
 ·subst hb; rw [upd_same] at e; cases e; exact new
 ·rw [upd_ne hb] at e
  exact(x b u e).stay (fun c v _ q=>k c v q) (fun c q=>by rw [upd_ne (ne_of_none q hn)]; exact q) (fun c xs q=>by rw [upd_ne (ne_of_none q hn)]; exact q) fun c _ _ q=>by rw [upd_ne (ne_of_none q hn)]; exact q
end
noncomputable def Rd (H:Hp) (a:Addr) (u:HO):Prop:=H a=some u∨∃o,H a=some (.frz o u)
theorem Rd.ok {P:Program}{w:World}{H:Hp}{h:Heap}{a:Addr}{u:HO} (r:Rd H a u) (x:HOk P w H h):ObjOk P w H h a u:=by
 rcases r with r | ⟨o,r⟩
 ·exact x a u r
 ·obtain⟨_,q⟩:=x a _ r
  exact q
noncomputable def Mut:Option HO->Prop
 |some (.lst _)=>True
 |some (.dK _)=>True
 |some (.dT _)=>True
 |some (.set _ _)=>True
 |some (.ins _ _ _)=>True
 |some (.ext _)=>True
 |_=>False
section
variable {P:Program}{w:World}{H:Hp}{h h':Heap}{x e:Addr}{o':HO}
theorem HOk.write (ok:HOk P w H h) (mu:Mut (H x)) (he:e=x∨H e=some (.own x)) (k:∀b u,b≠e->h.get? b=some u->h'.get? b=some u) (heo:∃u,h'.get? e=some u)
  (new:ObjOk P w (upd H x o') h' x o'):HOk P w (upd H x o') h':=fun b u q=>by
 have nown:∀c y,H c=some (.own y)->c≠x:=fun c y r z=>by subst z; rw [r] at mu; exact mu
 have ntup:∀c xs,H c=some (.tup xs)->c≠x:=fun c xs r z=>by subst z; rw [r] at mu; exact mu
 have nfrz:∀c ob v,H c=some (.frz ob v)->c≠x:=fun c ob v r z=>by subst z; rw [r] at mu; exact mu
 by_cases hb:b=x
 ·subst hb; rw [upd_same] at q; cases q; exact new
 ·rw [upd_ne hb] at q
  by_cases hbe:b=e
  ·have q':H b=some (.own x):=by
    rcases he with z | z
    ·exact absurd (hbe.trans z) hb
    ·rw [hbe]; exact z
   rw [q] at q'; cases q'
   obtain⟨v,hv⟩:=heo
   exact⟨v,by rw [hbe]; exact hv⟩
  ·refine(ok b u q).stay (fun c v hc r=>k c v ?_ r) (fun c r=>by rw [upd_ne (nown c b r)]; exact r) (fun c xs r=>by rw [upd_ne (ntup c xs r)]; exact r) fun c ob v r=>by rw [upd_ne (nfrz c ob v r)]; exact r
   rcases hc with rfl | hc
   ·exact hbe
   ·rintro rfl
    rcases he with z | z
    ·exact nown c b hc z
    ·rw [hc] at z; cases z; exact hb rfl
end
structure Un (fs ex:List Addr) (H H':Hp) (h h':Heap):Prop where
 keep:∀b o,h.get? b=some o->H b=none->b∉fs->b∉ex->h'.get? b=some o
 slot:∀b o,h.get? b=some o->H b=none->b∈fs->b∉ex->∃sl,h'.get? b=some {o with slots:=sl}
 free:∀b o,h.get? b=some o->H b=none->b∉ex->H' b=none
 there:∀b o,h.get? b=some o->b∉ex->∃o',h'.get? b=some o'
 tups:∀b xs,H b=some (.tup xs)->H' b=some (.tup xs)
 frzs:∀b o u,H b=some (.frz o u)->H' b=some (.frz o u)
 tbls:∀b q,H b=some (.tbl q)->H' b=some (.tbl q)
section
variable {fs fs' ex ex':List Addr}{H H1 H2:Hp}{h h1 h2 h':Heap}{a x e:Addr}{o:HO}
theorem Un.any (u:Un fs ex H H1 h h1){b:Addr}{ob:Obj} (q:h.get? b=some ob) (n:H b=none) (hx:b∉ex):∃sl,h1.get? b=some {ob with slots:=sl}:=by
 by_cases hb:b∈fs
 ·exact u.slot b ob q n hb hx
 ·exact⟨ob.slots,u.keep b ob q n hb hx⟩
theorem Un.kept (k:∀b u,h.get? b=some u->h'.get? b=some u):Un fs ex H H h h':=
 ⟨fun b ob q _ _ _=>k b ob q,fun b ob q _ _ _=>⟨ob.slots,k b ob q⟩,fun _ _ _ n _=>n,fun b ob q _=>⟨ob,k b ob q⟩,fun _ _ q=>q,fun _ _ _ q=>q,fun _ _ q=>q⟩
theorem Un.refl:Un fs ex H H h h:=Un.kept fun _ _ q=>q
theorem Un.laid (k:∀b u,h.get? b=some u->h'.get? b=some u) (hp:h.objs.size<=a) (hn:H a=none):Un fs ex H (upd H a o) h h' where
 keep:=fun b u q _ _ _=>k b u q
 slot:=fun b u q _ _ _=>⟨u.slots,k b u q⟩
 free:=fun b u q n _=>by rw [upd_ne (Nat.ne_of_lt (Nat.lt_of_lt_of_le (Heap.lt_size q) hp))]; exact n
 there:=fun b u q _=>⟨u,k b u q⟩
 tups:=fun b xs q=>by rw [upd_ne (ne_of_none q hn)]; exact q
 frzs:=fun b u xs q=>by rw [upd_ne (ne_of_none q hn)]; exact q
 tbls:=fun b n q=>by rw [upd_ne (ne_of_none q hn)]; exact q
theorem Un.write (mu:Mut (H x)) (he:e=x∨H e=some (.own x)) (k:∀b u,b≠e->h.get? b=some u->h'.get? b=some u) (heo:∃u,h'.get? e=some u):Un fs ex H (upd H x o) h h':=by
 have hx:∀b,H b=none->b≠x:=fun b n z=>by subst z; rw [n] at mu; exact mu
 have hb:∀b,H b=none->b≠e:=fun b n z=>by
  subst z
  rcases he with r | r
  ·exact hx b n r
  ·rw [n] at r; cases r
 have hm:∀b u,H b=some u->¬ Mut (some u)->b≠x:=fun b u q nm z=>by subst z; rw [q] at mu; exact nm mu
 refine⟨fun b u q n _ _=>k b u (hb b n) q,fun b u q n _ _=>⟨u.slots,k b u (hb b n) q⟩,fun b u q n _=>by rw [upd_ne (hx b n)]; exact n,fun b u q _=>?_,
  fun b xs q=>by rw [upd_ne (hm b _ q fun z=>z)]; exact q,fun b u xs q=>by rw [upd_ne (hm b _ q fun z=>z)]; exact q,fun b n q=>by rw [upd_ne (hm b _ q fun z=>z)]; exact q⟩
 by_cases hbe:b=e
 ·subst hbe; exact heo
 ·exact⟨u,k b u hbe q⟩
end
noncomputable def trk (h:Heap) (H:Hp):List Addr:=(List.range h.objs.size).filter fun a=>(H a).isSome
noncomputable def hidT (h:Heap) (H:Hp):Heap:=PySem.W.hideAll h (trk h H)
theorem hidT_size (h:Heap) (H:Hp):(hidT h H).objs.size=h.objs.size:=PySem.W.hideAll_size _ _
theorem hidT_get {h:Heap}{H:Hp}{b:Addr}{o:Obj} (e:h.get? b=some o) (n:H b=none):(hidT h H).get? b=some o:=
 PySem.W.hideAll_get _ e fun hm=>by
  have q:(H b).isSome=true:=(List.mem_filter.mp hm).2
  rw [n] at q; simp at q
theorem of_hidT {h:Heap}{H:Hp}{b:Addr}{o:Obj} (e:(hidT h H).get? b=some o):h.get? b=some o/\H b=none:=by
 have e':h.get? b=some o:=PySem.W.of_hideAll (trk h H) e
 refine⟨e',?_⟩
 cases q:H b with
 |none=>rfl
 |some x=>
  have hm:b∈trk h H:=List.mem_filter.mpr ⟨List.mem_range.mpr (Heap.lt_size e'),by simp [q]⟩
  have z:(hidT h H).get? b=none:=PySem.W.hideAll_none (trk h H) hm
  rw [z] at e; cases e
structure Mod (K:PySem.W.Frag) (mg:Str->Option Value) (base:Heap):Prop where
 kin:K.In base
 glob:base.Ns mainGlobals mg
 blt:∃mb,base.Ns builtinsNs mb/\∀x:Str,x≠"__name__" ->mb x=bootBuiltins x
 nolimit:base.NoLimit
structure Cx where
 prog:Program
 w:World
 K:PySem.W.Frag
 mg:Str->Option Value
 base:Heap
 A:Around
 N:List Str
 s₀:Shared
 H₀:Hp
 env:Env
 outer:List Env
 stack:List Env
 ex:List Addr
 fn:Str->Bool
 calm:Bool
 pn:List (Addr×Obj)
 xe:Value->Shared->Prop
noncomputable def frs (l:List Env):List Addr:=l.filterMap (·.frame)
noncomputable abbrev Cx.fs (X:Cx):List Addr:=frs X.outer
noncomputable def Vis (sc:Scope) (x:Str):Prop:=sc.names.lookup x=some .local∨sc.names.lookup x=some .cell∨sc.names.lookup x=some .free
noncomputable def Loc (sc:Scope) (x:Str):Prop:=sc.names.lookup x=some .local∨sc.names.lookup x=some .cell
noncomputable def Look (env:Env) (h:Heap) (m:Str->Option Value) (x:Str) (u:Value):Prop:=
 (env.kindOf x=some .local/\m x=some u)∨((env.kindOf x=some .cell∨env.kindOf x=some .free)/\∃c,env.cells.lookup x=some c/\h.IsCell c (some u))
structure Cx.Ok (X:Cx):Prop where
 mod:Mod X.K X.mg X.base
 kind:X.env.scope.kind=.function
 glob:X.env.globals=mainGlobals
 blt:X.env.builtins=builtinsNs
 above:X.s₀.heap.objs.size<=X.env.locals
 inj:∀x y c,X.env.cells.lookup x=some c->X.env.cells.lookup y=some c->x=y
 has:∀x,(X.env.kindOf x=some .cell∨X.env.kindOf x=some .free)->∃c,X.env.cells.lookup x=some c
 cab:∀x c,X.fn x=true->X.env.cells.lookup x=some c->X.s₀.heap.objs.size<=c
 hd:X.calm=true->X.A.handled=none
 frames:X.A.frames=some X.stack
 stk:X.stack=X.outer∨(X.stack=X.env::X.outer/\X.env.frame=some X.env.locals)
 exf:∀b∈X.ex,b≠X.env.locals/\∀x c,X.env.cells.lookup x=some c->c≠b
 bs:∀b o,X.base.get? b=some o->X.s₀.heap.get? b=some o/\X.H₀ b=none
 bsz:X.base.objs.size<=X.s₀.heap.objs.size
 noex:∀b o,X.base.get? b=some o->b∉X.ex
 exfs:∀b∈X.ex,b∉X.fs
 funs:X.s₀.heap.FunFrames X.base X.outer
 frf:∀b∈X.fs,X.H₀ b=none
structure Inv (X:Cx) (pins:List (Addr×Obj)) (σ:List (Option V)) (H:Hp) (s:Shared):Prop where
 ok:X.Ok
 os:s.os=X.s₀.os
 bare:AllBare s.gens
 base:Un X.fs X.ex X.H₀ H X.s₀.heap s.heap
 loc:∃m,s.heap.Ns X.env.locals m/\∀(i:Nat) (x:Str) (v:V),X.N[i]?=some x->σ[i]?=some (some v)->Vis X.env.scope x->∃u,RelV v u/\Look X.env s.heap m x u
 cell:∀x c,X.env.cells.lookup x=some c->∃v,s.heap.IsCell c v
 free:H X.env.locals=none
 freeC:∀x c,X.env.cells.lookup x=some c->H c=none
 pin:∀p∈X.pn++pins,s.heap.get? p.1=some p.2/\H p.1=none/\p.1≠X.env.locals/\p.1∉X.fs/\∀v,p.2.data≠.cell v
 hok:HOk X.prog X.w H s.heap
 len:σ.length=X.N.length
 tk:0<s.toks
section
variable {X:Cx}{pins:List (Addr×Obj)}{σ:List (Option V)}{H H':Hp}{s:Shared}{h':Heap}
theorem Cx.Ok.nofr (ok:X.Ok){b:Addr}{o:Obj} (e:X.base.get? b=some o):b∉X.fs:=fun hb=>by
 have:=(ok.funs.mem hb).1
 rw [e] at this; cases this
theorem Inv.bs (I:Inv X pins σ H s):∀b o,X.base.get? b=some o->s.heap.get? b=some o/\H b=none:=fun b o e=>
 ⟨I.base.keep b o (I.ok.bs b o e).1 (I.ok.bs b o e).2 (I.ok.nofr e) (I.ok.noex b o e),I.base.free b o (I.ok.bs b o e).1 (I.ok.bs b o e).2 (I.ok.noex b o e)⟩
theorem Inv.bk (I:Inv X pins σ H s):∀b o,X.base.get? b=some o->s.heap.get? b=some o:=fun b o e=>(I.bs b o e).1
theorem Inv.mod (I:Inv X pins σ H s):Mod X.K X.mg X.base:=I.ok.mod
theorem Inv.kIn (I:Inv X pins σ H s):X.K.In s.heap:=I.ok.mod.kin.keeps I.bk
theorem Inv.lt (I:Inv X pins σ H s):X.env.locals<s.heap.objs.size:=let ⟨_,hn,_⟩:=I.loc; hn.lt
theorem Inv.sz (I:Inv X pins σ H s):X.s₀.heap.objs.size<=s.heap.objs.size:=Nat.le_trans I.ok.above (Nat.le_of_lt I.lt)
theorem Inv.nofs (I:Inv X pins σ H s){a:Addr} (h:s.heap.objs.size<=a):a∉X.fs:=fun hb=>by
 obtain⟨_,o,ho,_⟩:=I.ok.funs.mem hb
 exact absurd (Nat.lt_of_lt_of_le (Heap.lt_size ho) (Nat.le_trans I.sz h)) (Nat.lt_irrefl _)
theorem Inv.cne (I:Inv X pins σ H s):∀x c,X.env.cells.lookup x=some c->c≠X.env.locals:=fun x c e z=>by
 obtain⟨v,o,ho,hd⟩:=I.cell x c e
 obtain⟨m,⟨o',es,ep,ho',hd',_⟩,_⟩:=I.loc
 rw [z,ho'] at ho; cases ho; rw [hd'] at hd; cases hd
theorem Inv.funs (I:Inv X pins σ H s):s.heap.FunFrames X.base X.outer:=by
 have all:∀(l:List Env),(∀b∈frs l,b∈X.fs)->X.s₀.heap.FunFrames X.base l->s.heap.FunFrames X.base l:=by
  intro l
  induction l with
  |nil=>intro _ _; trivial
  |cons env r ih=>
   intro hs hl
   obtain⟨hk,⟨L,o,hf,hn,ho,hd⟩,hr⟩:=hl
   have hL:L∈X.fs:=hs L (by unfold frs; rw [List.filterMap_cons,hf]; exact List.mem_cons_self)
   obtain⟨sl,e⟩:=I.base.slot L o ho (I.ok.frf L hL) hL fun z=>I.ok.exfs L z hL
   exact⟨hk,⟨L,_,hf,hn,e,hd⟩,ih (fun b hb=>hs b (by unfold frs; rw [List.filterMap_cons,hf]; exact List.mem_cons_of_mem _ hb)) hr⟩
 exact all X.outer (fun _ hb=>hb) I.ok.funs
theorem Inv.stack (I:Inv X pins σ H s):s.heap.FunFrames X.base X.stack:=by
 rcases I.ok.stk with e | ⟨e,hf⟩
 ·rw [e]; exact I.funs
 ·rw [e]
  obtain⟨m,hn,_⟩:=I.loc
  refine .cons (by rw [I.ok.kind]; decide) hf hn ?_ I.funs
  exact Heap.get?_none_of_le (Nat.le_trans I.ok.bsz I.ok.above)
theorem Inv.stkSub (I:Inv X pins σ H s):∀b∈frs X.stack,b∈X.env.locals::X.fs:=fun b hb=>by
 rcases I.ok.stk with e | ⟨e,hf⟩
 ·rw [e] at hb; exact List.mem_cons_of_mem _ hb
 ·rw [e] at hb
  unfold frs at hb
  rw [List.filterMap_cons,hf] at hb
  exact hb
theorem Inv.stkFree (I:Inv X pins σ H s):∀b∈frs X.stack,H b=none:=fun b hb=>by
 rcases List.mem_cons.mp (I.stkSub b hb) with e | hb
 ·rw [e]; exact I.free
 ·obtain⟨_,o,ho,_⟩:=I.ok.funs.mem hb
  exact I.base.free b o ho (I.ok.frf b hb) fun z=>I.ok.exfs b z hb
theorem Inv.step {g':Array GenState}{t':Nat}{d':Drawn}{ch:List Addr} (I:Inv X pins σ H s)
  (hch:∀b∈ch,(b∈X.ex∨X.s₀.heap.objs.size<=b)/\b≠X.env.locals/\(∀x c,X.env.cells.lookup x=some c->c≠b)/\∀p∈X.pn++pins,p.1≠b)
  (keep:∀b o,b≠X.env.locals->b∉X.fs->b∉ch->s.heap.get? b=some o->H b=none->h'.get? b=some o)
  (slot:∀b o,b≠X.env.locals->b∈X.fs->b∉ch->s.heap.get? b=some o->H b=none->∃sl,h'.get? b=some {o with slots:=sl}) (free:∀b o,b∉ch->s.heap.get? b=some o->H b=none->H' b=none)
  (there:∀b o,b∉ch->s.heap.get? b=some o->∃o',h'.get? b=some o')
  (tups:∀b xs,H b=some (.tup xs)->H' b=some (.tup xs)) (frzs:∀b o u,H b=some (.frz o u)->H' b=some (.frz o u)) (tbls:∀b q,H b=some (.tbl q)->H' b=some (.tbl q))
  (ns:∀m,s.heap.Ns X.env.locals m->h'.Ns X.env.locals m) (hok:HOk X.prog X.w H' h') (hg:AllBare g') (ht:0<t':=by first | assumption | exact Inv.tk (by assumption)) :
  Inv X pins σ H' {s with heap:=h',gens:=g',drawn:=d',toks:=t'}:=by
 have neL:∀b o,X.s₀.heap.get? b=some o->b≠X.env.locals:=fun b o e=>Nat.ne_of_lt (Nat.lt_of_lt_of_le (Heap.lt_size e) I.ok.above)
 have neC:∀b o,X.s₀.heap.get? b=some o->b∉X.ex->b∉ch:=fun b o e hx hb=>by
  rcases(hch b hb).1 with z | z
  ·exact hx z
  ·exact absurd (Nat.lt_of_lt_of_le (Heap.lt_size e) z) (Nat.lt_irrefl _)
 have cellK:∀x c,X.env.cells.lookup x=some c->∀v,s.heap.IsCell c v->h'.IsCell c v:=fun x c e v h_=>by
  obtain⟨o,ho,hd⟩:=h_
  have nch:c∉ch:=fun z=>(hch c z).2.2.1 x c e rfl
  by_cases hc:c∈X.fs
  ·obtain⟨sl,q⟩:=slot c o (I.cne x c e) hc nch ho (I.freeC x c e)
   exact⟨_,q,hd⟩
  ·exact⟨o,keep c o (I.cne x c e) hc nch ho (I.freeC x c e),hd⟩
 refine⟨I.ok,I.os,hg,⟨fun b o e n hb hx=>?_,fun b o e n hb hx=>?_,fun b o e n hx=>?_,fun b o e hx=>?_,fun b xs e=>tups b xs (I.base.tups b xs e),fun b o xs e=>frzs b o xs (I.base.frzs b o xs e),fun b ps e=>?_⟩,?_,fun x c e=>?_,?_,fun x c e=>?_,fun p hp=>?_,hok,I.len,ht⟩
 ·exact keep b o (neL b o e) hb (neC b o e hx) (I.base.keep b o e n hb hx) (I.base.free b o e n hx)
 ·obtain⟨sl,e1⟩:=I.base.slot b o e n hb hx
  obtain⟨sl',e2⟩:=slot b _ (neL b o e) hb (neC b o e hx) e1 (I.base.free b o e n hx)
  exact⟨sl',e2⟩
 ·obtain⟨o',e1⟩:=I.base.there b o e hx
  exact free b o' (neC b o e hx) e1 (I.base.free b o e n hx)
 ·obtain⟨o',e1⟩:=I.base.there b o e hx
  exact there b o' (neC b o e hx) e1
 ·exact tbls b ps (I.base.tbls b ps e)
 ·obtain⟨m,hn,hl⟩:=I.loc
  refine⟨m,ns m hn,fun i x v e1 e2 e3=>?_⟩
  obtain⟨u,r,l⟩:=hl i x v e1 e2 e3
  refine⟨u,r,?_⟩
  rcases l with l | ⟨k,c,e,z⟩
  ·exact .inl l
  ·exact .inr ⟨k,c,e,cellK x c e _ z⟩
 ·obtain⟨v,z⟩:=I.cell x c e
  exact⟨v,cellK x c e v z⟩
 ·obtain⟨m,⟨o,_,_,ho,_⟩,_⟩:=I.loc
  exact free _ o (fun z=>(hch _ z).2.1 rfl) ho I.free
 ·obtain⟨v,o,ho,hd⟩:=I.cell x c e
  exact free c o (fun z=>(hch c z).2.2.1 x c e rfl) ho (I.freeC x c e)
 ·obtain⟨e,n,ne,nf,d⟩:=I.pin p hp
  have nch:p.1∉ch:=fun z=>(hch p.1 z).2.2.2 p hp rfl
  exact⟨keep p.1 p.2 ne nf nch e n,free p.1 p.2 nch e n,ne,nf,d⟩
theorem Inv.un {t':Nat} (I:Inv X pins σ H s) (u:Un X.fs [] H H' s.heap h') (hok:HOk X.prog X.w H' h') (ht:0<t':=by first | assumption | exact Inv.tk (by assumption)):Inv X pins σ H' {s with heap:=h',toks:=t'}:=by
 obtain⟨m,⟨o,es,ep,ho,r⟩,_⟩:=id I.loc
 obtain⟨sl,hL⟩:=u.any ho I.free (by simp)
 exact I.step (g':=s.gens) (d':=s.drawn) (ch:=[]) (fun _ z=>nomatch z) (fun b o _ hb _ e n=>u.keep b o e n hb (by simp)) (fun b o _ hb _ e n=>u.slot b o e n hb (by simp)) (fun b o _ e n=>u.free b o e n (by simp)) (fun b o _ e=>u.there b o e (by simp)) u.tups u.frzs u.tbls (fun m' hm=>by
  obtain⟨o',es',ep',ho',r'⟩:=hm
  rw [ho] at ho'; cases ho'
  exact⟨_,es',ep',hL,r'⟩) hok I.bare
theorem Inv.call {g':Array GenState}{t':Nat}{d':Drawn}{ch:List Addr} (I:Inv X pins σ H s) (u:Un (frs X.stack) ch H H' s.heap h') (hok:HOk X.prog X.w H' h') (hg:AllBare g')
  (hch:∀b∈ch,(b∈X.ex∨X.s₀.heap.objs.size<=b)/\b≠X.env.locals/\(∀x c,X.env.cells.lookup x=some c->c≠b)/\∀p∈X.pn++pins,p.1≠b) (ht:0<t':=by first | assumption | exact Inv.tk (by assumption)) :
  Inv X pins σ H' {s with heap:=h',gens:=g',drawn:=d',toks:=t'}:=by
 obtain⟨m,⟨o,es,ep,ho,r⟩,_⟩:=id I.loc
 obtain⟨sl,hL⟩:=u.any ho I.free fun z=>(hch _ z).2.1 rfl
 exact I.step (ch:=ch) hch (fun b o hL hb hc e n=>u.keep b o e n (fun z=>(List.mem_cons.mp (I.stkSub b z)).elim hL hb) hc) (fun b o _ _ hc e n=>u.any e n hc) (fun b o hc e n=>u.free b o e n hc) (fun b o hc e=>u.there b o e hc) u.tups u.frzs u.tbls (fun m' hm=>by
  obtain⟨o',es',ep',ho',r'⟩:=hm
  rw [ho] at ho'; cases ho'
  exact⟨_,es',ep',hL,r'⟩) hok hg
theorem Inv.turned {t':Nat}{it:Addr} (I:Inv X pins σ H s) (k:∀b o,b≠it->s.heap.get? b=some o->h'.get? b=some o) (hn:H it=none) (hL:it≠X.env.locals)
  (h1:it∈X.ex∨X.s₀.heap.objs.size<=it) (h2:∀x c,X.env.cells.lookup x=some c->c≠it) (h3:∀p∈X.pn++pins,p.1≠it) (ht:0<t':=by first | assumption | exact Inv.tk (by assumption)):Inv X pins σ H {s with heap:=h',toks:=t'}:=by
 have nit:∀b u,H b=some u->b≠it:=fun b u e z=>by rw [z,hn] at e; cases e
 refine I.step (g':=s.gens) (d':=s.drawn) (ch:=[it]) (fun b hb=>?_) (fun b o _ _ hc e _=>k b o (fun z=>hc (by simp [z])) e) (fun b o _ _ hc e _=>⟨o.slots,k b o (fun z=>hc (by simp [z])) e⟩) (fun _ _ _ _ n=>n)
  (fun b o hc e=>⟨o,k b o (fun z=>hc (by simp [z])) e⟩) (fun _ _ e=>e) (fun _ _ _ e=>e) (fun b q e=>e) (fun m hm=>?_) (fun b u e=>?_) I.bare
 ·have e:b=it:=by simpa using hb
  subst e
  exact⟨h1,hL,h2,h3⟩
 ·obtain⟨o,es,ep,ho,r⟩:=hm
  exact⟨o,es,ep,k _ o (Ne.symm hL) ho,r⟩
 ·refine(I.hok b u e).stay (fun c v hc q=>k c v ?_ q) (fun _ q=>q) fun _ _ q=>q
  rcases hc with z | z
  ·rw [z]; exact nit b u e
  ·exact nit c _ z
theorem Inv.tok (I:Inv X pins σ H s) (t:Nat) (ht:0<t:=by first | assumption | omega):Inv X pins σ H {s with toks:=t}:=I.un (h':=s.heap) (t':=t) Un.refl I.hok
theorem Inv.kept {t':Nat} (I:Inv X pins σ H s) (k:∀b u,s.heap.get? b=some u->h'.get? b=some u) (ht:0<t':=by first | assumption | exact Inv.tk (by assumption)):Inv X pins σ H {s with heap:=h',toks:=t'}:=I.un (Un.kept k) (I.hok.kept k)
theorem Inv.laid {a:Addr}{o:HO}{t':Nat} (I:Inv X pins σ H s) (k:∀b u,s.heap.get? b=some u->h'.get? b=some u) (hp:s.heap.objs.size<=a) (new:ObjOk X.prog X.w (upd H a o) h' a o) (ht:0<t':=by first | assumption | exact Inv.tk (by assumption)) :
  Inv X pins σ (upd H a o) {s with heap:=h',toks:=t'}:=I.un (Un.laid k hp (I.hok.fresh hp)) (I.hok.laid k hp new)
theorem Inv.write {x e:Addr}{o:HO}{t':Nat} (I:Inv X pins σ H s) (mu:Mut (H x)) (he:e=x∨H e=some (.own x)) (k:∀b u,b≠e->s.heap.get? b=some u->h'.get? b=some u) (heo:∃u,h'.get? e=some u)
  (new:ObjOk X.prog X.w (upd H x o) h' x o) (ht:0<t':=by first | assumption | exact Inv.tk (by assumption)):Inv X pins σ (upd H x o) {s with heap:=h',toks:=t'}:=I.un (Un.write mu he k heo) (I.hok.write mu he k heo new)
theorem Inv.pins_of {pins':List (Addr×Obj)} (I:Inv X pins σ H s) (h:∀p∈pins',s.heap.get? p.1=some p.2/\H p.1=none/\p.1≠X.env.locals/\p.1∉X.fs/\∀v,p.2.data≠.cell v):Inv X pins' σ H s:=
 ⟨I.ok,I.os,I.bare,I.base,I.loc,I.cell,I.free,I.freeC,fun p hp=>(List.mem_append.mp hp).elim (fun z=>I.pin p (List.mem_append_left _ z)) (h p),I.hok,I.len,I.tk⟩
theorem nodup_ix {N:List Str} (hN:N.Nodup){i j:Nat}{x:Str} (a:N[i]?=some x) (b:N[j]?=some x):i=j:=by
 obtain⟨h1,e1⟩:=List.getElem?_eq_some_iff.mp a
 obtain⟨h2,e2⟩:=List.getElem?_eq_some_iff.mp b
 exact(List.getElem_inj hN).mp (e1.trans e2.symm)
theorem store_ok2 {M:Model}{A:Around}{E:Value->Shared->Prop}{i:Nat}{x:Str}{v:V}{u:Value}{Q:Unit->Shared->Prop} (I:Inv X pins σ H s) (hN:X.N.Nodup) (hi:X.N[i]?=some x) (hx:Loc X.env.scope x) (r:RelV v u)
  (h:∀s',Inv X pins (σ.set i (some v)) H s'->(∃a,Heap.SameBut a s.heap s'.heap/\(a=X.env.locals∨X.env.cells.lookup x=some a))->Q () s') (hf:X.fn x=true∨X.env.scope.names.lookup x=some .local:=by first | exact .inl rfl | exact .inr rfl | assumption):wpAny M A (storeName X.env x u) Q E s:=by
 obtain⟨m,hn,hl⟩:=id I.loc
 have hcls:(X.env.scope.kind == .class || (X.env.scope.kind == .module&&X.env.locals != X.env.globals))=false:=by rw [I.ok.kind]; rfl
 have hiσ:i<σ.length:=by rw [I.len]; exact(List.getElem?_eq_some_iff.mp hi).1
 have cne:=I.cne
 have tracked:∀{a:Addr} {h':Heap},(∃o,s.heap.get? a=some o/\H a=none)->Heap.SameBut a s.heap h'->HOk X.prog X.w H h':=fun {a h'} ha hs b ob e=>by
  obtain⟨_,_,hfree⟩:=ha
  refine(I.hok b ob e).stay (fun c w' hc q=>(hs.2 c ?_).trans q) (fun _ q=>q) fun _ _ q=>q
  rintro rfl
  rcases hc with rfl | hc
  ·rw [hfree] at e; cases e
  ·rw [hfree] at hc; cases hc
 rcases hx with hk | hk
 ·refine wpAny_storeName_local hk hn (fun h' hn' hs=>?_) hcls
  obtain⟨oL,_,_,hoL,_⟩:=id hn
  refine h {s with heap:=h',toks:=s.toks+1} ⟨I.ok,I.os,I.bare,⟨fun b o e n hb hx=>?_,fun b o e n hb hx=>?_,I.base.free,fun b o e hx=>?_,I.base.tups,I.base.frzs,I.base.tbls⟩,⟨_,hn',fun j y v' e1 e2 e3=>?_⟩,fun y c e=>?_,I.free,I.freeC,fun p hp=>?_,tracked ⟨oL,hoL,I.free⟩ hs,by simpa using I.len,Nat.succ_pos _⟩ ⟨_,hs,.inl rfl⟩
  ·exact(hs.2 b (Nat.ne_of_lt (Nat.lt_of_lt_of_le (Heap.lt_size e) I.ok.above))).trans (I.base.keep b o e n hb hx)
  ·obtain⟨sl,e1⟩:=I.base.slot b o e n hb hx
   exact⟨sl,(hs.2 b (Nat.ne_of_lt (Nat.lt_of_lt_of_le (Heap.lt_size e) I.ok.above))).trans e1⟩
  ·obtain⟨o',e1⟩:=I.base.there b o e hx
   exact⟨o',(hs.2 b (Nat.ne_of_lt (Nat.lt_of_lt_of_le (Heap.lt_size e) I.ok.above))).trans e1⟩
  ·by_cases hj:j=i
   ·subst hj
    rw [hi] at e1; cases e1
    rw [List.getElem?_set_self hiσ] at e2
    cases e2
    exact⟨u,r,.inl ⟨hk,by simp⟩⟩
   ·rw [List.getElem?_set_ne (Ne.symm hj)] at e2
    obtain⟨u',r',q⟩:=hl j y v' e1 e2 e3
    refine⟨u',r',?_⟩
    rcases q with ⟨k,e⟩ | ⟨k,c,e,z⟩
    ·refine .inl ⟨k,?_⟩
     have:y≠x:=fun e=>hj (nodup_ix hN e1 (e ▸ hi))
     simp [this,e]
    ·exact .inr ⟨k,c,e,z.sameBut hs (cne y c e)⟩
  ·obtain⟨w',z⟩:=I.cell y c e
   exact⟨w',z.sameBut hs (cne y c e)⟩
  ·obtain⟨e,n,ne,nf,d⟩:=I.pin p hp
   exact⟨(hs.2 p.1 ne).trans e,n,ne,nf,d⟩
 ·have hfn:X.fn x=true:=by
   rcases hf with z | z
   ·exact z
   ·rw [z] at hk; cases hk
  obtain⟨c,hc⟩:=I.ok.has x (.inl hk)
  obtain⟨w',z⟩:=I.cell x c hc
  refine wpAny_storeName_cell I.ok.kind hk hc z (fun h' hc' hs=>?_)
  obtain⟨oc,hoc,hocd⟩:=id z
  refine h {s with heap:=h'} ⟨I.ok,I.os,I.bare,⟨fun b o e n hb hx=>?_,fun b o e n hb hx=>?_,I.base.free,fun b o e hx=>?_,I.base.tups,I.base.frzs,I.base.tbls⟩,⟨m,hn.sameBut hs (Ne.symm (cne x c hc)),fun j y v' e1 e2 e3=>?_⟩,fun y c' e=>?_,I.free,I.freeC,fun p hp=>?_,tracked ⟨oc,hoc,I.freeC x c hc⟩ hs,by simpa using I.len,I.tk⟩ ⟨c,hs,.inr hc⟩
  ·exact(hs.2 b (Nat.ne_of_lt (Nat.lt_of_lt_of_le (Heap.lt_size e) (I.ok.cab x c hfn hc)))).trans (I.base.keep b o e n hb hx)
  ·obtain⟨sl,e1⟩:=I.base.slot b o e n hb hx
   exact⟨sl,(hs.2 b (Nat.ne_of_lt (Nat.lt_of_lt_of_le (Heap.lt_size e) (I.ok.cab x c hfn hc)))).trans e1⟩
  ·obtain⟨o',e1⟩:=I.base.there b o e hx
   exact⟨o',(hs.2 b (Nat.ne_of_lt (Nat.lt_of_lt_of_le (Heap.lt_size e) (I.ok.cab x c hfn hc)))).trans e1⟩
  ·by_cases hj:j=i
   ·subst hj
    rw [hi] at e1; cases e1
    rw [List.getElem?_set_self hiσ] at e2
    cases e2
    exact⟨u,r,.inr ⟨.inl hk,c,hc,hc'⟩⟩
   ·rw [List.getElem?_set_ne (Ne.symm hj)] at e2
    obtain⟨u',r',q⟩:=hl j y v' e1 e2 e3
    refine⟨u',r',?_⟩
    rcases q with q | ⟨k,c',e,z'⟩
    ·exact .inl q
    ·refine .inr ⟨k,c',e,z'.sameBut hs ?_⟩
     rintro rfl
     exact hj (nodup_ix hN e1 (I.ok.inj _ _ _ e hc ▸ hi))
  ·by_cases hcc:c'=c
   ·subst hcc; exact⟨_,hc'⟩
   ·obtain⟨w2,z2⟩:=I.cell y c' e
    exact⟨w2,z2.sameBut hs hcc⟩
  ·obtain⟨e,n,ne,nf,d⟩:=I.pin p hp
   refine⟨(hs.2 p.1 ?_).trans e,n,ne,nf,d⟩
   intro q
   rw [q,hoc] at e
   have q':oc=p.2:=Option.some.inj e
   exact d w' (by rw [← q']; exact hocd)
theorem store_ok {M:Model}{A:Around}{E:Value->Shared->Prop}{i:Nat}{x:Str}{v:V}{u:Value}{Q:Unit->Shared->Prop} (I:Inv X pins σ H s) (hN:X.N.Nodup) (hi:X.N[i]?=some x) (hx:Loc X.env.scope x) (r:RelV v u)
  (h:∀s',Inv X pins (σ.set i (some v)) H s'->Q () s') (hf:X.fn x=true∨X.env.scope.names.lookup x=some .local:=by first | exact .inl rfl | exact .inr rfl | assumption):wpAny M A (storeName X.env x u) Q E s:=
 store_ok2 I hN hi hx r (fun s' I' _=>h s' I') hf
theorem Inv.call' {s':Shared}{ch:List Addr} (I:Inv X pins σ H s) (ho:s'.os=s.os) (u:Un (frs X.stack) ch H H' s.heap s'.heap) (hok:HOk X.prog X.w H' s'.heap) (hg:AllBare s'.gens)
  (hch:∀b∈ch,(b∈X.ex∨X.s₀.heap.objs.size<=b)/\b≠X.env.locals/\(∀x c,X.env.cells.lookup x=some c->c≠b)/\∀p∈X.pn++pins,p.1≠b) (ht:0<s'.toks:=by first | assumption | exact Inv.tk (by assumption)):Inv X pins σ H' s':=by
 obtain⟨h',g',d',t',o'⟩:=s'
 have e:o'=s.os:=ho
 subst e
 exact I.call (g':=g') (t':=t') (d':=d') u hok hg hch
end
noncomputable abbrev XK:=Value->Option Addr->Hp->Prop
noncomputable abbrev St:=List (Option V)
noncomputable abbrev VK:=V->Hp->Prop
noncomputable abbrev TE:=St->Hp->VK->Prop
noncomputable abbrev TT:=St->Hp->(Bool->Hp->Prop)->Prop
noncomputable abbrev TA:=St->Hp->(List V->Hp->Prop)->Prop
structure Ends where
 nx:St->Hp->Prop
 rt:VK
 bk:St->Hp->Prop:=fun _ _=>False
 ct:St->Hp->Prop:=fun _ _=>False
noncomputable abbrev TS:=Ends->St->Hp->Prop
noncomputable def Lz {α:Type} (P:α->Shared->Prop) (a:α) (s':Shared):Prop:=0<s'.toks->P a s'
inductive EPI (X:Cx) (pins:List (Addr×Obj)) (σ:St) (Q:VK) (u:Value) (s':Shared):Prop
 |mk (v:V) (H':Hp) (I:Inv X pins σ H' s') (r:RelV v u) (q:Q v H'):EPI X pins σ Q u s'
noncomputable abbrev EP (X:Cx) (pins:List (Addr×Obj)) (σ:St) (Q:VK):Value->Shared->Prop:=Lz (EPI X pins σ Q)
inductive TPI (X:Cx) (pins:List (Addr×Obj)) (σ:St) (Q:Bool->Hp->Prop) (b:Bool) (s':Shared):Prop
 |mk (H':Hp) (I:Inv X pins σ H' s') (q:Q b H'):TPI X pins σ Q b s'
noncomputable abbrev TP (X:Cx) (pins:List (Addr×Obj)) (σ:St) (Q:Bool->Hp->Prop):Bool->Shared->Prop:=Lz (TPI X pins σ Q)
inductive API (X:Cx) (pins:List (Addr×Obj)) (σ:St) (Q:List V->Hp->Prop) (us:List Value) (s':Shared):Prop
 |mk (vs:List V) (H':Hp) (I:Inv X pins σ H' s') (r:Vals vs us) (q:Q vs H'):API X pins σ Q us s'
noncomputable abbrev AP (X:Cx) (pins:List (Addr×Obj)) (σ:St) (Q:List V->Hp->Prop):List Value->Shared->Prop:=Lz (API X pins σ Q)
noncomputable def SPI (X:Cx) (pins:List (Addr×Obj)) (D:Ends) (f:Flow) (s':Shared):Prop:=
 match f with
 |.next=>∃σ' H',Inv X pins σ' H' s'/\D.nx σ' H'
 |.brk=>∃σ' H',Inv X pins σ' H' s'/\D.bk σ' H'
 |.cont=>∃σ' H',Inv X pins σ' H' s'/\D.ct σ' H'
 |.ret u=>∃v σ' H',Inv X pins σ' H' s'/\RelV v u/\D.rt v H'
noncomputable abbrev SP (X:Cx) (pins:List (Addr×Obj)) (D:Ends):Flow->Shared->Prop:=Lz (SPI X pins D)
noncomputable def PE (X:Cx) (e:Expr) (t:TE):Prop:=
 ∀(pins:List (Addr×Obj)) (s:Shared) (σ:St) (H:Hp) (Q:VK),Inv X pins σ H s->t σ H Q->wpAny (model X.prog X.w) X.A (eval e X.env) (EP X pins σ Q) X.xe s
noncomputable def PT (X:Cx) (e:Expr) (t:TT):Prop:=
 ∀(pins:List (Addr×Obj)) (s:Shared) (σ:St) (H:Hp) (Q:Bool->Hp->Prop),Inv X pins σ H s->t σ H Q->wpAny (model X.prog X.w) X.A (isTrue e X.env (eval e X.env)) (TP X pins σ Q) X.xe s
noncomputable def PW (X:Cx) (e:Expr) (t:TT):Prop:=
 ∀(whole:Sem Value) (pins:List (Addr×Obj)) (s:Shared) (σ:St) (H:Hp) (Q:Bool->Hp->Prop),Inv X pins σ H s->t σ H Q->wpAny (model X.prog X.w) X.A (isTrue e X.env whole) (TP X pins σ Q) X.xe s
theorem PW.pt {X:Cx}{e:Expr}{t:TT} (h:PW X e t):PT X e t:=h _
noncomputable def PA (X:Cx) (es:List Expr) (t:TA):Prop:=
 ∀(pos:Pos) (pins:List (Addr×Obj)) (s:Shared) (σ:St) (H:Hp) (Q:List V->Hp->Prop),Inv X pins σ H s->t σ H Q->wpAny (model X.prog X.w) X.A (spliced (backTo pos (starEach es X.env))) (AP X pins σ Q) X.xe s
noncomputable def PS (X:Cx) (st:Stmt) (t:TS):Prop:=
 ∀(pins:List (Addr×Obj)) (s:Shared) (σ:St) (H:Hp) (D:Ends),Inv X pins σ H s->t D σ H->wpAny (model X.prog X.w) X.A (exec st X.env) (SP X pins D) X.xe s
noncomputable def PSs (X:Cx) (st:List Stmt) (t:TS):Prop:=
 ∀(pins:List (Addr×Obj)) (s:Shared) (σ:St) (H:Hp) (D:Ends),Inv X pins σ H s->t D σ H->wpAny (model X.prog X.w) X.A (execs st X.env) (SP X pins D) X.xe s
theorem thnT {α:Type}{t:Sem α}{P Q':α->Shared->Prop}{prog:Program}{w:World}{A:Around}{E:Value->Shared->Prop}{s:Shared} (h:wpAny (model prog w) A t (Lz P) E s) (hQ:∀a s,0<s.toks->P a s->Q' a s) (ht:0<s.toks:=by first | assumption | exact Inv.tk (by assumption)):wpAny (model prog w) A t Q' E s:=
 wpAny_with_toks (n:=1) ht (wpAny_mono h (fun a s1 hp h1=>hQ a s1 h1 (hp h1)) fun _ _ x _=>x)
theorem thnX {α:Type}{t:Sem α}{P Q':α->Shared->Prop}{prog:Program}{w:World}{A:Around}{E:Value->Shared->Prop}{s:Shared} (h:wpAny (model prog w) A t (Lz P) (fun e s=>0<s.toks->E e s) s) (hQ:∀a s,P a s->Q' a s) (ht:0<s.toks:=by first | assumption | exact Inv.tk (by assumption)):wpAny (model prog w) A t Q' E s:=
 wpAny_with_toks (n:=1) ht (wpAny_mono h (fun a s1 hp h1=>hQ a s1 (hp h1)) fun _ _ x=>x)
theorem thnF {α:Type}{t:Sem α}{P Q':α->Shared->Prop}{prog:Program}{w:World}{A:Around}{E:Value->Shared->Prop}{s:Shared} (h:wpAny (model prog w) A t (Lz P) (fun _ _=>False) s) (hQ:∀a s,P a s->Q' a s) (ht:0<s.toks:=by first | assumption | exact Inv.tk (by assumption)):wpAny (model prog w) A t Q' E s:=
 wpAny_with_toks (n:=1) ht (wpAny_mono h (fun a s1 hp h1=>hQ a s1 (hp h1)) fun _ _ x=>x.elim)
theorem thn {α:Type}{t:Sem α}{P Q':α->Shared->Prop}{prog:Program}{w:World}{A:Around}{E:Value->Shared->Prop}{s:Shared} (h:wpAny (model prog w) A t (Lz P) E s) (hQ:∀a s,P a s->Q' a s) (ht:0<s.toks:=by first | assumption | exact Inv.tk (by assumption)):wpAny (model prog w) A t Q' E s:=
 wpAny_with_toks (n:=1) ht (wpAny_mono h (fun a s1 hp h1=>hQ a s1 (hp h1)) fun _ _ x _=>x)
section
variable {X:Cx}
inductive tVar (i:Nat) (σ:St) (H:Hp) (Q:VK):Prop
 |mk (v:V) (e:σ[i]?=some (some v)) (q:Q v H):tVar i σ H Q
noncomputable def tC (v:V):TE:=fun _ H Q=>Q v H
theorem pe_var {i:Nat}{x:Str}{pos:Pos} (hN:X.N[i]?=some x) (hv:Vis X.env.scope x) (hd:(x==("__debug__" : Str))=false:=by decide) (hcd:(x==("__classdict__" : Str))=false:=by decide):PE X (.Name x pos) (tVar i):=by
 intro pins s σ H Q I h
 obtain⟨v,e,h⟩:=h
 obtain⟨m,hn,hl⟩:=I.loc
 obtain⟨u,r,l⟩:=hl i x v hN e hv
 have fin:EP X pins σ Q u s:=(fun ht=>⟨v,H,I,r,h⟩)
 rcases l with ⟨hk,hm⟩ | ⟨hk,c,hc,hcell⟩
 ·exact wpAny_Name (wpAny_loadName_local I.ok.kind hk hn hm fin) hd
 ·rcases hk with hk | hk
  ·exact wpAny_Name (wpAny_loadName_cell I.ok.kind hk hc hcell fin) hd
  ·exact wpAny_Name (wpAny_loadName_free I.ok.kind hk hc hcell fin hcd) hd
theorem pe_int {i j pos}:PE X (.Constant (.int i) j pos) (tC (.int i)):=fun _ _ _ H _ I h=>wpAny_Constant_int (fun ht=>⟨.int i,H,I.tok _,⟨_,rfl⟩,h⟩)
theorem pe_bl {b j pos}:PE X (.Constant (.bool b) j pos) (tC (.bl b)):=fun _ _ _ H _ I h=>Constant_bool (fun ht=>⟨.bl b,H,I,rfl,h⟩)
theorem pe_non {j pos}:PE X (.Constant .none j pos) (tC .non):=fun _ _ _ H _ I h=>Constant_none (fun ht=>⟨.non,H,I,rfl,h⟩)
theorem pe_str {x j pos}:PE X (.Constant (.str x) j pos) (tC (.str x)):=fun _ _ _ H _ I h=>Calls.Constant_str (fun ht=>⟨.str x,H,I.tok _,⟨_,rfl⟩,h⟩)
noncomputable def Gl (X:Cx) (x:Str):Prop:=X.env.kindOf x=some .globalImplicit
theorem ld_glob {E:Value->Shared->Prop}{pins:List (Addr×Obj)}{s:Shared}{σ:St}{H:Hp}{x:Str}{u:Value}{pos:Pos}{Q:Value->Shared->Prop} (I:Inv X pins σ H s) (hg:Gl X x) (hm:X.mg x=some u) (h:Q u s)
  (hd:(x==("__debug__" : Str))=false:=by decide):wpAny (model X.prog X.w) X.A (eval (.Name x pos) X.env) Q E s:=
 Calls.Name_function_global I.ok.kind hg (Calls.loadGlobal_global (by rw [I.ok.glob]; exact I.mod.glob.keeps I.bk) hm h) hd
theorem ld_blt {E:Value->Shared->Prop}{pins:List (Addr×Obj)}{s:Shared}{σ:St}{H:Hp}{x:Str}{u:Value}{pos:Pos}{Q:Value->Shared->Prop} (I:Inv X pins σ H s) (hg:Gl X x) (hm:X.mg x=none) (hv:bootBuiltins x=some u) (h:Q u s)
  (hn:x≠"__name__" := by decide) (hd:(x==("__debug__" : Str))=false:=by decide):wpAny (model X.prog X.w) X.A (eval (.Name x pos) X.env) Q E s:=by
 obtain⟨mb,h1,h2⟩:=I.mod.blt
 exact Calls.Name_function_global I.ok.kind hg (Calls.loadGlobal_builtin (by rw [I.ok.glob]; exact I.mod.glob.keeps I.bk) hm (by rw [I.ok.blt]; exact h1.keeps I.bk) ((h2 x hn).trans hv) h) hd
theorem pe_glob {x:Str}{v:V}{u:Value}{pos:Pos} (hg:Gl X x) (hm:X.mg x=some u) (r:RelV v u) (hd:(x==("__debug__" : Str))=false:=by decide):PE X (.Name x pos) (tC v):=
 fun _ _ _ H _ I h=>ld_glob I hg hm (fun ht=>⟨v,H,I,r,h⟩) hd
theorem pe_bltn {x:Str}{v:V}{u:Value}{pos:Pos} (hg:Gl X x) (hm:X.mg x=none) (hv:bootBuiltins x=some u) (r:RelV v u) (hn:x≠"__name__" := by decide) (hd:(x==("__debug__" : Str))=false:=by decide):PE X (.Name x pos) (tC v):=
 fun _ _ _ H _ I h=>ld_blt I hg hm hv (fun ht=>⟨v,H,I,r,h⟩) hn hd
variable {a b:Expr}{ta tb:TE}{pos:Pos}
noncomputable def PC (X:Cx) (op:CmpOp) (a b:Expr) (t:TE):Prop:=
 ∀(pins:List (Addr×Obj)) (s:Shared) (σ:St) (H:Hp) (Q:VK),Inv X pins σ H s->t σ H Q->
  wpAny (model X.prog X.w) X.A (eval a X.env) (Lz fun v s₁=>wpAny (model X.prog X.w) X.A (eval b X.env) (Lz fun u s₂=>wpAny (model X.prog X.w) X.A (compareOp op v u) (EP X pins σ Q) X.xe s₂) X.xe s₁) X.xe s
noncomputable def tB (t:TE):TT:=fun σ H Q=>t σ H fun x H1=>∃c,x=.bl c/\Q c H1
theorem pt_val {e:Expr}{t:TE} (h:PE X e t) (he:∀whole,isTrue e X.env whole=(do let v ← whole; standAt e.pos; holding [v] (truthy v)):=by intro _; rfl):PT X e (tB t):=by
 intro pins s σ H Q I hw
 refine isTrue_plain (thn (h pins s σ H _ I hw) fun v s1 ⟨x,H1,I1,r1,q1⟩=>?_) (he _)
 obtain⟨d,rfl,q⟩:=q1
 cases r1
 exact wpAny_truthy_bool (fun ht=>⟨H1,I1,q⟩)
variable {tA tB':TT}{rest:List Expr}
noncomputable def tOr (t u:TT):TT:=fun σ H Q=>t σ H fun c H1=>if c=true then Q true H1 else u σ H1 Q
noncomputable def tNot (t:TT):TT:=fun σ H Q=>t σ H fun c H1=>Q (!c) H1
theorem pw_or1 (ha:PT X a tA):PW X (.BoolOp .Or [a] pos) tA:=by
 intro wh pins s σ H Q I h
 refine isTrue_or (thn (ha pins s σ H Q I h) fun c s1 e=>?_)
 cases c with
 |false=>exact isTrue_or_nil (fun _=>e)
 |true=>exact fun _=>e
theorem pw_or (ha:PT X a tA) (hb:PW X (.BoolOp .Or (b::rest) pos) tB'):PW X (.BoolOp .Or (a::b::rest) pos) (tOr tA tB'):=by
 intro wh pins s σ H Q I h
 refine isTrue_or (thn (ha pins s σ H _ I h) fun c s1 ⟨H1,I1,q1⟩=>?_)
 cases c with
 |true=>exact(fun ht=>⟨H1,I1,q1⟩)
 |false=>exact hb wh pins s1 σ H1 Q I1 q1
theorem pt_not (ha:PT X a tA):PT X (.UnaryOp .Not a pos) (tNot tA):=by
 intro pins s σ H Q I h
 exact isTrue_not (wpAny_mono (ha pins s σ H (fun c H1=>Q (!c) H1) I h) (fun c s' h ht=>by obtain⟨H',I',q⟩:=h ht; exact⟨H',I',q⟩) fun _ _ x=>x)
noncomputable def tIf (t:TT) (ta tb:TE):TE:=fun σ H Q=>t σ H fun c H1=>if c=true then ta σ H1 Q else tb σ H1 Q
theorem pe_ifExp {c:Expr} (hc:PT X c tA) (ha:PE X a ta) (hb:PE X b tb):PE X (.IfExp c a b pos) (tIf tA ta tb):=by
 intro pins s σ H Q I h
 refine wpAny_IfExp (thn (hc pins s σ H _ I h) fun d s1 ⟨H1,I1,q1⟩=>?_)
 cases d with
 |true=>exact ha pins s1 σ H1 Q I1 q1
 |false=>exact hb pins s1 σ H1 Q I1 q1
end
noncomputable def SqL (K:PySem.W.Frag) (H:Hp) (a:Addr) (xs:List V):Prop:=
 Rd H a (.lst xs)∨
  ∃(o:Obj) (its:Array Value) (n:Nat),K.lookup a=some o/\o.cls=.type "list" /\o.dict=none/\o.data=.seq its n/\its.size<=sizeLine/\Vals xs its.toList
noncomputable def SqT (K:PySem.W.Frag) (H:Hp) (a:Addr) (xs:List V):Prop:=
 Rd H a (.tup xs)∨
  ∃(o:Obj) (its:Array Value) (n:Nat),K.lookup a=some o/\o.cls=.type "tuple" /\o.data=.seq its n/\its.size<=sizeLine/\Vals xs its.toList
noncomputable def absV:Value->Option V
 |.none=>some .non
 |.bool b=>some (.bl b)
 |.int i _=>some (.int i)
 |.str x _=>some (.str x)
 |.bytes b _=>some (.byt b)
 |.float b _=>some (.flt b)
 |.ref a=>some (.ref a)
 |.type n=>some (.ty n)
 |_=>none
theorem RelV.abs {x:V}{u:Value} (r:RelV x u):absV u=some x:=by
 cases x with
 |non=>cases r; rfl
 |bl _=>cases r; rfl
 |int _=>obtain⟨t,rfl⟩:=r; rfl
 |str _=>obtain⟨t,rfl⟩:=r; rfl
 |byt _=>obtain⟨t,rfl⟩:=r; rfl
 |flt _=>obtain⟨t,rfl⟩:=r; rfl
 |ref _=>cases r; rfl
 |ty _=>cases r; rfl
theorem RelV.inj {x y:V}{u:Value} (r:RelV x u) (q:RelV y u):x=y:=Option.some.inj (r.abs.symm.trans q.abs)
theorem Vals.inj:∀{xs ys:List V}{us:List Value},Vals xs us->Vals ys us->xs=ys
 |_,_,_,.nil,.nil=>rfl
 |_,_,_,.cons r t,.cons r' t'=>by rw [r.inj r',Vals.inj t t']
section
variable {X:Cx}{pins:List (Addr×Obj)}{σ:St}{H:Hp}{s:Shared}{a:Addr}{xs ys:List V}
theorem SqL.of {K:PySem.W.Frag} (h:H a=some (.lst xs)):SqL K H a xs:=.inl (.inl h)
theorem SqT.of {K:PySem.W.Frag} (h:H a=some (.tup xs)):SqT K H a xs:=.inl (.inl h)
theorem Inv.list (I:Inv X pins σ H s) (h:SqL X.K H a xs):∃its:List Value,Vals xs its/\PlainL s.heap a its.toArray/\xs.length<=sizeLine:=by
 rcases h with h | ⟨o,its,n,hk,hc,hd,hs,hz,r⟩
 ·obtain⟨z,its,n,r,e⟩:=h.ok I.hok
  exact⟨its,r,⟨_,n,e,rfl,rfl,rfl⟩,z⟩
 ·refine⟨its.toList,r,⟨o,n,I.kIn a o hk,hc,hd,by simpa using hs⟩,?_⟩
  have e:=r.length
  simp only [Array.length_toList] at e
  omega
theorem Inv.tuple (I:Inv X pins σ H s) (h:SqT X.K H a xs):∃its:List Value,Vals xs its/\IsTup s.heap a its.toArray/\xs.length<=sizeLine:=by
 rcases h with h | ⟨o,its,n,hk,hc,hs,hz,r⟩
 ·obtain⟨z,its,r,p⟩:=h.ok I.hok
  exact⟨its,r,p,z⟩
 ·refine⟨its.toList,r,⟨o,I.kIn a o hk,hc,n,by simpa using hs⟩,?_⟩
  have e:=r.length
  simp only [Array.length_toList] at e
  omega
theorem Inv.list_inj (I:Inv X pins σ H s) (h:SqL X.K H a xs) (h':SqL X.K H a ys):xs=ys:=by
 obtain⟨its,r,⟨o,n,e,_,_,d⟩,_⟩:=I.list h
 obtain⟨its',r',⟨o',n',e',_,_,d'⟩,_⟩:=I.list h'
 rw [e] at e'; cases e'
 rw [d] at d'
 injection d' with d1 _
 have:its=its':=by simpa using congrArg Array.toList d1
 subst this
 exact r.inj r'
theorem Inv.tuple_inj (I:Inv X pins σ H s) (h:SqT X.K H a xs) (h':SqT X.K H a ys):xs=ys:=by
 obtain⟨its,r,⟨o,e,_,n,d⟩,_⟩:=I.tuple h
 obtain⟨its',r',⟨o',e',_,n',d'⟩,_⟩:=I.tuple h'
 rw [e] at e'; cases e'
 rw [d] at d'
 injection d' with d1 _
 have:its=its':=by simpa using congrArg Array.toList d1
 subst this
 exact r.inj r'
end
noncomputable abbrev Cx.wish (X:Cx) (E:Value->Shared->Prop):Cx:={X with xe:=E}
noncomputable abbrev Cx.nox (X:Cx):Cx:=X.wish fun _ _=>False
theorem Cx.Ok.wish {X:Cx} (ok:X.Ok) (E:Value->Shared->Prop):(X.wish E).Ok:=
 ⟨ok.mod,ok.kind,ok.glob,ok.blt,ok.above,ok.inj,ok.has,ok.cab,ok.hd,ok.frames,ok.stk,ok.exf,ok.bs,ok.bsz,ok.noex,ok.exfs,ok.funs,ok.frf⟩
theorem Cx.Ok.unwish {X:Cx}{E:Value->Shared->Prop} (ok:(X.wish E).Ok):X.Ok:=
 ⟨ok.mod,ok.kind,ok.glob,ok.blt,ok.above,ok.inj,ok.has,ok.cab,ok.hd,ok.frames,ok.stk,ok.exf,ok.bs,ok.bsz,ok.noex,ok.exfs,ok.funs,ok.frf⟩
section
variable {X:Cx}{pins:List (Addr×Obj)}{σ:St}{H:Hp}{s:Shared}{E:Value->Shared->Prop}
theorem Inv.wish (I:Inv X pins σ H s) (E:Value->Shared->Prop):Inv (X.wish E) pins σ H s:=⟨I.ok.wish E,I.os,I.bare,I.base,I.loc,I.cell,I.free,I.freeC,I.pin,I.hok,I.len,I.tk⟩
theorem Inv.unwish (I:Inv (X.wish E) pins σ H s):Inv X pins σ H s:=⟨I.ok.unwish,I.os,I.bare,I.base,I.loc,I.cell,I.free,I.freeC,I.pin,I.hok,I.len,I.tk⟩
theorem SP.unwish {D:Ends}{f:Flow}{s':Shared} (h:SP (X.wish E) pins D f s'):SP X pins D f s':=fun ht=>by
 have h:=h ht
 cases f with
 |next=>obtain⟨σ',H',I,q⟩:=h; exact⟨σ',H',I.unwish,q⟩
 |brk=>obtain⟨σ',H',I,q⟩:=h; exact⟨σ',H',I.unwish,q⟩
 |cont=>obtain⟨σ',H',I,q⟩:=h; exact⟨σ',H',I.unwish,q⟩
 |ret u=>obtain⟨v,σ',H',I,r,q⟩:=h; exact⟨v,σ',H',I.unwish,r,q⟩
end
section
variable {X:Cx}{st:Stmt}{rest:List Stmt}{t u:TS}{e:Expr}{te:TE}{pos:Pos}
noncomputable def tNext:TS:=fun D σ H=>D.nx σ H
noncomputable def tSeq (t u:TS):TS:=fun D σ H=>t {D with nx:=u D} σ H
theorem pss_nil:PSs X [] tNext:=fun _ _ σ H _ I h=>wpAny_execs_nil (fun ht=>⟨σ,H,I,h⟩)
theorem pss_cons (h1:PS X st t) (h2:PSs X rest u):PSs X (st::rest) (tSeq t u):=by
 intro pins s σ H D I h
 refine wpAny_execs_cons (thn (h1 pins s σ H {D with nx:=u D} I h) fun f s1 q=>?_)
 cases f with
 |next=>
  obtain⟨σ',H',I',q⟩:=q
  exact h2 pins s1 σ' H' D I' q
 |ret v=>exact fun _=>q
 |brk=>exact fun _=>q
 |cont=>exact fun _=>q
theorem pss_one (h1:PS X st t):PSs X [st] t:=by
 intro pins s σ H D I h
 refine wpAny_execs_cons (thn (h1 pins s σ H D I h) fun f s1 q=>?_)
 cases f with
 |next=>exact wpAny_execs_nil fun _=>q
 |ret v=>exact fun _=>q
 |brk=>exact fun _=>q
 |cont=>exact fun _=>q
theorem Inv.quiet {pins:List (Addr×Obj)}{σ:St}{H:Hp}{s:Shared} (I:Inv X pins σ H s):interactive X.env=false:=by simp [interactive,I.ok.kind]
noncomputable def tDrop (te:TE):TS:=fun D σ H=>te σ H fun _ H1=>D.nx σ H1
theorem ps_expr (he:PE X e te) (hs:swapsWith e none pos.line X.env=pure false:=by rfl):PS X (.Expr e pos) (tDrop te):=by
 intro pins s σ H D I h
 exact wpAny_Expr_any (thn (he pins s σ H _ I h) fun v s1 ⟨x,H1,I1,r1,q1⟩=>(fun ht=>⟨σ,H1,I1,q1⟩)) I.quiet hs
noncomputable def tRet (te:TE):TS:=fun D σ H=>te σ H D.rt
theorem ps_ret (he:PE X e te):PS X (.Return (some e) pos) (tRet te):=by
 intro pins s σ H D I h
 exact wpAny_Return_some (thn (he pins s σ H _ I h) fun v s1 ⟨x,H1,I1,r1,q1⟩=>(fun ht=>⟨x,σ,H1,I1,r1,q1⟩))
noncomputable def tIfS (c:TT) (t u:TS):TS:=fun D σ H=>c σ H fun b H1=>if b=true then t D σ H1 else u D σ H1
theorem ps_if {c:Expr}{a b:List Stmt}{tc:TT} (hc:PT X c tc) (ha:PSs X a t) (hb:PSs X b u):PS X (.If c a b pos) (tIfS tc t u):=by
 intro pins s σ H D I h
 refine wpAny_If (thn (hc pins s σ H _ I h) fun d s1 ⟨H1,I1,q1⟩=>?_)
 cases d with
 |true=>exact ha pins s1 σ H1 D I1 q1
 |false=>exact hb pins s1 σ H1 D I1 q1
end
noncomputable abbrev TG:=V->St->Hp->(St->Hp->Prop)->Prop
noncomputable abbrev TGs:=List V->St->Hp->(St->Hp->Prop)->Prop
noncomputable def PG (X:Cx) (target:Expr) (t:TG):Prop:=
 ∀(pins:List (Addr×Obj)) (s:Shared) (σ:St) (H:Hp) (v:V) (u:Value) (Q:St->Hp->Prop),Inv X pins σ H s->RelV v u->t v σ H Q->
  wpAny (model X.prog X.w) X.A (assign target X.env u) (Lz fun _ s'=>∃σ' H',Inv X pins σ' H' s'/\Q σ' H') X.xe s
noncomputable def PGs (X:Cx) (ts:List Expr) (t:TGs):Prop:=
 ∀(pins:List (Addr×Obj)) (s:Shared) (σ:St) (H:Hp) (vs:List V) (us:List Value) (Q:St->Hp->Prop),Inv X pins σ H s->Vals vs us->t vs σ H Q->
  wpAny (model X.prog X.w) X.A (assignInOrder ((assignEach ts X.env).map (·.2)) us) (Lz fun _ s'=>∃σ' H',Inv X pins σ' H' s'/\Q σ' H') X.xe s
section
variable {X:Cx}{pos:Pos}
noncomputable def gName (i:Nat):TG:=fun v σ H Q=>Q (σ.set i (some v)) H
theorem pg_name {i:Nat}{x:Str} (hN:X.N.Nodup) (hi:X.N[i]?=some x) (hx:Loc X.env.scope x) (hf:X.fn x=true∨X.env.scope.names.lookup x=some .local:=by first | exact .inl rfl | exact .inr rfl | assumption):PG X (.Name x pos) (gName i):=by
 intro pins s σ H v u Q I r h
 exact wpAny_assign_Name (store_ok I hN hi hx r (fun s' I'=>(fun ht=>⟨_,H,I',h⟩)) hf)
noncomputable def gNil:TGs:=fun vs σ H Q=>vs=[]/\Q σ H
noncomputable def gCons (t:TG) (u:TGs):TGs:=fun vs σ H Q=>∃v r,vs=v::r/\t v σ H fun σ' H'=>u r σ' H' Q
theorem pgs_nil:PGs X [] gNil:=by
 intro pins s σ H vs us Q I r h
 obtain⟨e,h⟩:=h
 subst e
 cases r
 exact assignInOrder_nil (fun ht=>⟨σ,H,I,h⟩)
theorem pgs_cons {e:Expr}{es:List Expr}{t:TG}{u:TGs} (h1:PG X e t) (h2:PGs X es u)
  (hs:(assignEach (e::es) X.env).map (·.2)=assign e X.env::(assignEach es X.env).map (·.2):=by rfl):PGs X (e::es) (gCons t u):=by
 intro pins s σ H vs us Q I r h
 obtain⟨v,vr,e1,h⟩:=h
 subst e1
 cases r with
 |cons r rr=>
  rw [hs]
  refine assignInOrder_cons (thn (h1 pins s σ H _ _ _ I r h) fun _ s1 ⟨σ1,H1,I1,q1⟩=>?_)
  exact h2 pins s1 σ1 H1 _ _ Q I1 rr q1
noncomputable def gTup (K:PySem.W.Frag) (n:Nat) (t:TGs):TG:=fun v σ H Q=>∃a xs,v=.ref a/\SqT K H a xs/\xs.length=n/\t xs σ H Q
theorem pg_tup {es:List Expr}{k:Nat}{t:TGs}{n:Nat} (hc:X.calm=true) (h:PGs X es t)
  (hn:(assignEach es X.env).length=n:=by rfl) (hst:(assignEach es X.env).findIdx? (·.1)=none:=by rfl):PG X (.Tuple es k pos) (gTup X.K n t):=by
 intro pins s σ H v u Q I r hw
 obtain⟨a,xs,e1,hq,hl,hw⟩:=hw
 subst e1
 cases r
 obtain⟨its,rv,ht,hz⟩:=I.tuple hq
 refine assign_Tuple_tuple (I.ok.hd hc) ht (by simp [hn,← hl,rv.length]) hst fun h' hx=>?_
 have I1:Inv X pins σ H {s with heap:=h'}:=I.kept (t':=s.toks) fun b o e=>hx b o (Nat.ne_of_lt (Heap.lt_size e)) e
 exact h pins _ σ H xs _ Q I1 (by simpa using rv) hw
noncomputable def tAsg (te:TE) (g:TG):TS:=fun D σ H=>te σ H fun x H1=>g x σ H1 D.nx
theorem ps_set {i:Nat}{x:Str}{e:Expr}{te:TE}{pos':Pos} (hN:X.N.Nodup) (hi:X.N[i]?=some x) (hx:Loc X.env.scope x) (he:PE X e te) (hs:swapsWith e (some (.Name x pos')) pos.line X.env=pure false:=by rfl) (hf:X.fn x=true∨X.env.scope.names.lookup x=some .local:=by first | exact .inl rfl | exact .inr rfl | assumption) :
  PS X (.Assign [.Name x pos'] e pos) (tAsg te (gName i)):=by
 intro pins s σ H D I h
 refine wpAny_Assign_Name (thn (he pins s σ H _ I h) fun v s1 ⟨y,H1,I1,r1,q1⟩=>?_) hs
 exact store_ok I1 hN hi hx r1 (fun s2 I2=>(fun ht=>⟨_,H1,I2,q1⟩)) hf
end
structure It where
 go:Nat->Hp->Prop
 yld:Nat->Hp->V->Hp->Prop
 stop:Nat->Hp->Prop
noncomputable def FpOk (X:Cx) (pins:List (Addr×Obj)) (H:Hp) (b:Addr):Prop:=
 H b=none/\b≠X.env.locals/\b∉X.fs/\(b∈X.ex∨X.s₀.heap.objs.size<=b)/\(∀x c,X.env.cells.lookup x=some c->c≠b)/\∀p∈X.pn++pins,p.1≠b
theorem Inv.fpOk {X:Cx}{pins:List (Addr×Obj)}{σ:St}{H H':Hp}{s:Shared}{b:Addr} (I:Inv X pins σ H s) (hb:s.heap.objs.size<=b) (hn:H' b=none):FpOk X pins H' b:=by
 refine⟨hn,Nat.ne_of_gt (Nat.lt_of_lt_of_le I.lt hb),I.nofs hb,.inr (Nat.le_trans I.sz hb),fun x c e z=>?_,fun p hp z=>?_⟩
 ·obtain⟨v,q⟩:=I.cell x c e
  exact absurd (Nat.lt_of_lt_of_le q.lt (by rw [z]; exact hb)) (Nat.lt_irrefl _)
 ·exact absurd (Nat.lt_of_lt_of_le (Heap.lt_size (I.pin p hp).1) (by rw [z]; exact hb)) (Nat.lt_irrefl _)
structure Turn (P:Program) (w:World) (K:PySem.W.Frag) (tg:Expr) (J:It) (fp:List Addr) (it:Addr) (tn:Nat->Heap->Prop):Prop where
 mem:it∈fp
 obj:∀i h,tn i h->∀b∈fp,∃o,h.get? b=some o/\∀v,o.data≠.cell v
 keep:∀i h h',tn i h->(∀b∈fp,∀o,h.get? b=some o->h'.get? b=some o)->tn i h'
 item:∀(X:Cx),X.prog=P->X.w=w->X.K=K->X.calm=true->∀(i:Nat) (pins:List (Addr×Obj)) (s:Shared) (σ:St) (H:Hp) (E:Value->Shared->Prop),Inv X pins σ H s->(∀b∈fp,FpOk X pins H b)->tn i s.heap->J.go i H->
  wpAny (model P w) X.A (pyNext (.ref it)) (Lz fun r s1=>∃u,r=some u/\
   wpAny (model P w) X.A (letOwnedTupleGo tg (.ref it) u) (Lz fun _ s2=>∃x H',Inv X pins σ H' s2/\RelV x u/\J.yld i H x H'/\tn (i+1) s2.heap/\∀b∈fp,H' b=none) E s1) E s
 done:∀(X:Cx),X.prog=P->X.w=w->X.K=K->X.calm=true->∀(i:Nat) (pins:List (Addr×Obj)) (s:Shared) (σ:St) (H:Hp) (E:Value->Shared->Prop),Inv X pins σ H s->(∀b∈fp,FpOk X pins H b)->tn i s.heap->J.stop i H->
  wpAny (model P w) X.A (pyNext (.ref it)) (Lz fun r s1=>r=none/\Inv X pins σ H s1) E s
 self:∀(A:Around) (i:Nat) (s:Shared) (Q:Value->Shared->Prop) (E:Value->Shared->Prop),tn i s.heap->Q (.ref it) s->wpAny (model P w) A (pyIter (.ref it)) Q E s
noncomputable abbrev TI:=St->Hp->(It->Hp->Prop)->Prop
noncomputable def PIE (X:Cx) (pins:List (Addr×Obj)) (σ:St) (tg:Expr) (R:It->Hp->Prop) (itv:Value) (s2:Shared):Prop:=
 ∃(it:Addr) (fp:List Addr) (tn:Nat->Heap->Prop) (J:It) (H':Hp),itv=.ref it/\Inv X pins σ H' s2/\Turn X.prog X.w X.K tg J fp it tn/\tn 0 s2.heap/\(∀b∈fp,FpOk X pins H' b)/\R J H'
noncomputable def PI (X:Cx) (tg iter:Expr) (wi:TI):Prop:=
 ∀(pins:List (Addr×Obj)) (s:Shared) (σ:St) (H:Hp) (R:It->Hp->Prop),Inv X pins σ H s->wi σ H R->
  wpAny (model X.prog X.w) X.A (eval iter X.env) (Lz fun v s1=>wpAny (model X.prog X.w) X.A (pyIter v) (Lz (PIE X pins σ tg R)) X.xe s1) X.xe s
theorem go_of {M:Model}{A:Around}{E:Value->Shared->Prop}{s:Shared}{tg:Expr}{it:Addr}{u:Value}{o:Obj}{n:String}{vs:Array Value}{Q:Unit->Shared->Prop} (ho:s.heap.get? it=some o) (hc:o.cls=.type n) (hd:o.data=.fields vs)
  (hn:["enumerate","zip","dict_itemiterator","dict_reverseitemiterator","odict_iterator","itertools.zip_longest","itertools.pairwise"].contains n=false) (hQ:Q () s):wpAny M A (letOwnedTupleGo tg (.ref it) u) Q E s:=by
 unfold letOwnedTupleGo
 cases tg <;> first
  |exact wpAny_pure hQ
  | (cases u <;> first
    |exact wpAny_pure hQ
    | (refine wpAny_bind (wpAny_load ho ?_)
       rw [hc,hd]
       show wpAny M A (if (["enumerate","zip","dict_itemiterator","dict_reverseitemiterator","odict_iterator","itertools.zip_longest","itertools.pairwise"].contains n&&vs[0]?==some (rawInt _))=true then _ else _) Q E s
       rw [if_neg (by intro h; rw [hn,Bool.false_and] at h; cases h)]
       exact wpAny_pure hQ))
noncomputable def Itl (K:PySem.W.Frag) (a:Addr):It:=
 ⟨fun i H=>∃xs x,SqL K H a xs/\xs[i]?=some x,fun i H x H'=>H'=H/\∀xs,SqL K H a xs->xs[i]?=some x,fun i H=>∃xs,SqL K H a xs/\xs.length<=i⟩
noncomputable def Itt (K:PySem.W.Frag) (a:Addr):It:=
 ⟨fun i H=>∃xs x,SqT K H a xs/\xs[i]?=some x,fun i H x H'=>H'=H/\∀xs,SqT K H a xs->xs[i]?=some x,fun i H=>∃xs,SqT K H a xs/\xs.length<=i⟩
noncomputable def Itr (lo:Int) (n:Nat):It:=⟨fun i _=>i<n,fun i H x H'=>H'=H/\x=.int (lo+i),fun i _=>n<=i⟩
theorem turn_list {P:Program}{w:World}{K:PySem.W.Frag}{tg:Expr} (a it:Addr):Turn P w K tg (Itl K a) [it] it (fun i h=>h.IsListIter it a i) where
 mem:=by simp
 obj:=fun i h st b hb=>by
  have e:b=it:=by simpa using hb
  subst e
  obtain⟨o,e,c,d⟩:=st
  exact⟨o,e,fun v z=>by rw [d] at z; cases z⟩
 keep:=fun i h h' st k=>st.at fun o e=>k it (by simp) o e
 item:=by
  intro X hP hw hK hc i pins s σ H E I hf st hg
  subst hP hw hK
  obtain⟨xs,x,hq,hx⟩:=hg
  obtain⟨its,rv,p,hz⟩:=I.list hq
  obtain⟨u,hu,ru⟩:=rv.get hx
  obtain⟨f0,f1,f2,f3,f4,f5⟩:=hf it (by simp)
  refine wpAny_pyNext_list_item st p.isList (x:=u) (by simpa using hu) fun h' st' sb=>?_
  have I1:Inv X pins σ H {s with heap:=h'}:=I.turned (t':=s.toks) (fun b o hb e=>(sb.2 b hb).trans e) f0 f1 f3 f4 f5
  obtain⟨o,e,c,d⟩:=id st'
  exact(fun ht=>⟨u,rfl,go_of (s:={s with heap:=h'}) e c d (by decide) (fun ht=>⟨x,H,I1,ru,⟨rfl,fun ys hy=>by rw [I.list_inj hy hq]; exact hx⟩,st',fun b hb=>(hf b hb).1⟩)⟩)
 done:=by
  intro X hP hw hK hc i pins s σ H E I hf st hg
  subst hP hw hK
  obtain⟨xs,hq,hx⟩:=hg
  obtain⟨its,rv,p,hz⟩:=I.list hq
  obtain⟨f0,f1,f2,f3,f4,f5⟩:=hf it (by simp)
  have hl:=rv.length
  exact wpAny_pyNext_list_end (I.ok.hd hc) st p.isList (by simp; omega) fun h' eb=>(fun ht=>⟨rfl,I.turned (t':=s.toks) (fun b o hb e=>eb b o hb e) f0 f1 f3 f4 f5⟩)
 self:=fun _ _ _ _ _ st h=>wpAny_pyIter_listiter st h
theorem turn_tuple {P:Program}{w:World}{K:PySem.W.Frag}{tg:Expr} (a it:Addr):Turn P w K tg (Itt K a) [it] it (fun i h=>h.IsTupleIter it a i) where
 mem:=by simp
 obj:=fun i h st b hb=>by
  have e:b=it:=by simpa using hb
  subst e
  obtain⟨o,e,c,d⟩:=st
  exact⟨o,e,fun v z=>by rw [d] at z; cases z⟩
 keep:=fun i h h' st k=>st.at fun o e=>k it (by simp) o e
 item:=by
  intro X hP hw hK hc i pins s σ H E I hf st hg
  subst hP hw hK
  obtain⟨xs,x,hq,hx⟩:=hg
  obtain⟨its,rv,p,hz⟩:=I.tuple hq
  obtain⟨u,hu,ru⟩:=rv.get hx
  obtain⟨f0,f1,f2,f3,f4,f5⟩:=hf it (by simp)
  refine wpAny_pyNext_tuple_item st (show s.heap.IsTuple a its.toArray from p) (x:=u) (by simpa using hu) fun h' st' sb=>?_
  have I1:Inv X pins σ H {s with heap:=h'}:=I.turned (t':=s.toks) (fun b o hb e=>(sb.2 b hb).trans e) f0 f1 f3 f4 f5
  obtain⟨o,e,c,d⟩:=id st'
  exact(fun ht=>⟨u,rfl,go_of (s:={s with heap:=h'}) e c d (by decide) (fun ht=>⟨x,H,I1,ru,⟨rfl,fun ys hy=>by rw [I.tuple_inj hy hq]; exact hx⟩,st',fun b hb=>(hf b hb).1⟩)⟩)
 done:=by
  intro X hP hw hK hc i pins s σ H E I hf st hg
  subst hP hw hK
  obtain⟨xs,hq,hx⟩:=hg
  obtain⟨its,rv,p,hz⟩:=I.tuple hq
  obtain⟨f0,f1,f2,f3,f4,f5⟩:=hf it (by simp)
  have hl:=rv.length
  exact wpAny_pyNext_tuple_end (I.ok.hd hc) st (show s.heap.IsTuple a its.toArray from p) (by simp; omega) fun h' eb=>(fun ht=>⟨rfl,I.turned (t':=s.toks) (fun b o hb e=>eb b o hb e) f0 f1 f3 f4 f5⟩)
 self:=fun _ _ _ _ _ st h=>wpAny_pyIter_tupleiter st h
theorem turn_range {P:Program}{w:World}{K:PySem.W.Frag}{tg:Expr} (it:Addr) (lo:Int) (n:Nat):Turn P w K tg (Itr lo n) [it] it (fun i h=>IsRangeIter h it (lo+(i:Nat) * 1) ((n:Int) - (i:Nat)) 1) where
 mem:=by simp
 obj:=fun i h st b hb=>by
  have e:b=it:=by simpa using hb
  subst e
  exact⟨_,st,fun v z=>by
   have z':Data.fields _=Data.cell v:=z
   cases z'⟩
 keep:=fun i h h' st k=>k it (by simp) _ st
 item:=by
  intro X hP hw hK hc i pins s σ H E I hf st hg
  subst hP hw hK
  obtain⟨f0,f1,f2,f3,f4,f5⟩:=hf it (by simp)
  have W:=Walks.range (prog:=X.prog) (w:=X.w) (I.ok.hd hc) it lo 1 n
  refine W.item i s _ _ hg st fun v h' tk hv st' kk ht=>?_
  obtain⟨t,rfl⟩:=hv
  have I1:Inv X pins σ H {s with heap:=h',toks:=tk}:=I.turned (fun b o hb e=>kk b o (by simpa using hb) e) f0 f1 f3 f4 f5
  refine⟨_,rfl,go_of (s:={s with heap:=h',toks:=tk}) (n:="range_iterator") st' rfl rfl (by decide) (fun ht=>⟨.int (lo+i),H,I1,⟨t,by rw [Int.mul_one]⟩,⟨rfl,rfl⟩,st',fun b hb=>(hf b hb).1⟩)⟩
 done:=by
  intro X hP hw hK hc i pins s σ H E I hf st hg
  subst hP hw hK
  obtain⟨f0,f1,f2,f3,f4,f5⟩:=hf it (by simp)
  exact wpAny_pyNext_range_end (I.ok.hd hc) st (by have:n<=i:=hg; omega) fun h' eb=>(fun ht=>⟨rfl,I.turned (t':=s.toks) (fun b o hb e=>eb b o hb e) f0 f1 f3 f4 f5⟩)
 self:=fun _ _ _ _ _ st h=>wpAny_pyIter_rangeiter st h
section
variable {X:Cx}{tg:Expr}
noncomputable def iList (K:PySem.W.Frag) (tl:TE):TI:=fun σ H R=>tl σ H fun x H1=>∃a,x=.ref a/\(∃xs,SqL K H1 a xs)/\R (Itl K a) H1
noncomputable def iTup (K:PySem.W.Frag) (tl:TE):TI:=fun σ H R=>tl σ H fun x H1=>∃a,x=.ref a/\(∃xs,SqT K H1 a xs)/\R (Itt K a) H1
theorem pi_list {l:Expr}{tl:TE} (hl:PE X l tl):PI X tg l (iList X.K tl):=by
 intro pins s σ H R I h
 refine thn (hl pins s σ H _ I h) fun v s1 h_=>?_
 obtain⟨x,H1,I1,r1,q1⟩:=h_
 obtain⟨a,e,⟨xs,hq⟩,q⟩:=q1
 subst e
 cases r1
 obtain⟨its,rv,p,hz⟩:=I1.list hq
 refine fun _=>wpAny_pyIter_list p.isList fun _=>?_
 refine⟨s1.heap.objs.size,[s1.heap.objs.size],_,_,H1,rfl,I1.kept (t':=s1.toks) fun b o e=>Heap.get?_push_of_some _ e,turn_list a _,⟨_,Heap.get?_push_size _ rfl,rfl,rfl⟩,fun b hb=>?_,q⟩
 have e:b=s1.heap.objs.size:=by simpa using hb
 subst e
 exact I1.fpOk (Nat.le_refl _) (I1.hok.fresh (Nat.le_refl _))
theorem pi_tup {l:Expr}{tl:TE} (hl:PE X l tl):PI X tg l (iTup X.K tl):=by
 intro pins s σ H R I h
 refine thn (hl pins s σ H _ I h) fun v s1 h_=>?_
 obtain⟨x,H1,I1,r1,q1⟩:=h_
 obtain⟨a,e,⟨xs,hq⟩,q⟩:=q1
 subst e
 cases r1
 obtain⟨its,rv,p,hz⟩:=I1.tuple hq
 refine fun _=>wpAny_pyIter_tuple (show s1.heap.IsTuple a its.toArray from p) fun _=>?_
 refine⟨s1.heap.objs.size,[s1.heap.objs.size],_,_,H1,rfl,I1.kept (t':=s1.toks) fun b o e=>Heap.get?_push_of_some _ e,turn_tuple a _,⟨_,Heap.get?_push_size _ rfl,rfl,rfl⟩,fun b hb=>?_,q⟩
 have e:b=s1.heap.objs.size:=by simpa using hb
 subst e
 exact I1.fpOk (Nat.le_refl _) (I1.hok.fresh (Nat.le_refl _))
theorem range_it {pins:List (Addr×Obj)}{σ:St}{H:Hp}{s:Shared}{R:It->Hp->Prop}{E:Value->Shared->Prop}{lo hi:Int}{t u v:Tok}{tk:Nat} (I:Inv X pins σ H s) (h1 : -(2 ^ 62)<=lo) (h2:lo<2 ^ 62) (h3 : -(2 ^ 62)<=hi) (h4:hi<2 ^ 62)
  (q:R (Itr lo (hi - lo).toNat) H):wpAny (model X.prog X.w) X.A (pyIter (.ref s.heap.objs.size)) (Lz (PIE X pins σ tg R)) E {s with heap:=s.heap.push {cls:=.type "range",data:=.fields #[.int lo t,.int hi u,.int 1 v]},toks:=tk}:=by
 refine wpAny_pyIter_range (IsRange.new ..) (small_one h1 h2 h3 h4) fun ht=>?_
 have I1:Inv X pins σ H {s with heap:=s.heap.push {cls:=.type "range",data:=.fields #[.int lo t,.int hi u,.int 1 v]},toks:=tk}:=I.kept fun b o e=>Heap.get?_push_of_some _ e
 refine⟨(s.heap.push {cls:=.type "range",data:=.fields #[.int lo t,.int hi u,.int 1 v]}).objs.size,[(s.heap.push {cls:=.type "range",data:=.fields #[.int lo t,.int hi u,.int 1 v]}).objs.size],_,_,H,rfl,
  I1.kept (t':=tk) fun b o e=>Heap.get?_push_of_some _ e,turn_range _ lo (hi - lo).toNat,?_,fun b hb=>?_,q⟩
 ·have e1:lo+((0:Nat):Int) * 1=lo:=by simp
  have e2:(((hi - lo).toNat:Nat):Int) - ((0:Nat):Int)=Builtin.Range.rangeSize lo hi 1:=by rw [rangeSize_one]; split <;> omega
  show IsRangeIter _ _ (lo+((0:Nat):Int) * 1) ((((hi - lo).toNat:Nat):Int) - ((0:Nat):Int)) 1
  rw [e1,e2]
  exact Heap.get?_push_size _ rfl
 ·have e:b=(s.heap.push {cls:=.type "range",data:=.fields #[.int lo t,.int hi u,.int 1 v]}).objs.size:=by simpa using hb
  subst e
  exact I1.fpOk (Nat.le_refl _) (I1.hok.fresh (Nat.le_refl _))
noncomputable def iRng1 (ta:TA):TI:=fun σ H R=>ta σ H fun vs H1=>∃j:Int,vs=[.int j]/\-(2 ^ 62)<=j/\j<2 ^ 62/\R (Itr 0 j.toNat) H1
theorem pi_range1 {a:Expr}{ta:TA}{p pos:Pos} (hg:Gl X "range") (hm:X.mg "range" = none) (ha:PA X [a] ta) (hs:starEach [a] X.env=[(false,eval a X.env)]:=by rfl):PI X tg (.Call (.Name "range" p) [a] [] pos) (iRng1 ta):=by
 intro pins s σ H R I h
 refine Call_ (ld_blt I hg hm boot_range (PyProof.Rows.callWith_type1 (thn (ha pos pins s σ H _ I h) fun us s1 ⟨vs,H1,I1,r1,q1⟩=>?_) hs rfl))
 obtain⟨j,e,q1,q2,q⟩:=q1
 subst e
 cases r1 with
 |cons r rr=>
  cases rr
  obtain⟨t,rfl⟩:=r
  exact call_range_1 (fun _=>range_it I1 (by omega) (by omega) q1 q2 (by simpa using q))
noncomputable def tFor (wi:TI) (g:TG) (tb:TS):TS:=fun D σ H=>wi σ H fun J H1=>∃W:Nat->Nat->St->Hp->Prop,(∃m,W 0 m σ H1)/\∀i m σ H,W i m σ H->
 (J.stop i H/\D.nx σ H)∨(J.go i H/\∃N:St->Hp->Prop,(∀σ' H',N σ' H'->∃m',m'<m/\W (i+1) m' σ' H')/\∀x H',J.yld i H x H'->g x σ H' fun σ2 H2=>tb {D with nx:=N,ct:=N,bk:=D.nx} σ2 H2)
noncomputable def pinsAt (fp:List Addr) (h:Heap):List (Addr×Obj):=fp.filterMap fun b=>(h.get? b).map fun o=>(b,o)
theorem mem_pinsAt {fp:List Addr}{h:Heap}{b:Addr}{o:Obj} (hb:b∈fp) (e:h.get? b=some o):(b,o)∈pinsAt fp h:=List.mem_filterMap.mpr ⟨b,hb,by rw [e]; rfl⟩
theorem of_pinsAt {fp:List Addr}{h:Heap}{p:Addr×Obj} (hp:p∈pinsAt fp h):p.1∈fp/\h.get? p.1=some p.2:=by
 obtain⟨b,hb,e⟩:=List.mem_filterMap.mp hp
 cases q:h.get? b with
 |none=>rw [q] at e; cases e
 |some o=>
  rw [q] at e
  have e':(b,o)=p:=Option.some.inj e
  subst e'
  exact⟨hb,q⟩
theorem Inv.pinned {pins:List (Addr×Obj)}{σ:St}{H:Hp}{s:Shared}{fp:List Addr} (I:Inv X pins σ H s) (hf:∀b∈fp,FpOk X pins H b) (ho:∀b∈fp,∃o,s.heap.get? b=some o/\∀v,o.data≠.cell v):Inv X (pins++pinsAt fp s.heap) σ H s:=
 I.pins_of fun p hp=>(List.mem_append.mp hp).elim (fun z=>I.pin p (List.mem_append_right _ z)) fun z=>by
  obtain⟨hb,e⟩:=of_pinsAt z
  obtain⟨f0,f1,f2,_⟩:=hf p.1 hb
  obtain⟨o,e',d⟩:=ho p.1 hb
  rw [e] at e'; cases e'
  exact⟨e,f0,f1,f2,d⟩
theorem Inv.unpinned {pins pl:List (Addr×Obj)}{σ:St}{H:Hp}{s:Shared} (I:Inv X (pins++pl) σ H s):Inv X pins σ H s:=I.pins_of fun p hp=>I.pin p (List.mem_append_right _ (List.mem_append_left _ hp))
theorem ps_for {iter:Expr}{body:List Stmt}{wi:TI}{g:TG}{tb:TS}{pos:Pos} (hp:PassesOwn (model X.prog X.w) X.A X.env X.xe) (hc:X.calm=true) (hi:PI X tg iter wi) (hg:PG X tg g) (hb:PSs X body tb)
  (hs:∀x,foldedSetIterable iter X.env x=pure x:=by intro _; rfl):PS X (.For tg iter body [] pos) (tFor wi g tb):=by
 intro pins s σ H D I h
 refine wpAny_For (thnT (hi pins s σ H _ I h) fun v s1 t1 h1=>thn h1 fun itv s2 h2=>?_) hs
 obtain⟨it,fp,tn,J,H2,e,I2,T,st2,f2,W,⟨m0,w0⟩,turn⟩:=h2
 subst e
 have stat:∀{H':Hp},(∀b∈fp,H' b=none)->∀b∈fp,FpOk X pins H' b:=fun hn b hb=>⟨hn b hb,(f2 b hb).2⟩
 refine codeAny_forLoop_any (fun n s'=>∃i σ' H',Inv X pins σ' H' s'/\tn i s'.heap/\(∀b∈fp,H' b=none)/\W i n σ' H') ?_ m0 ⟨0,σ,H2,I2,st2,fun b hb=>(f2 b hb).1,w0⟩
 rintro n s3 ⟨i,σ3,H3,I3,st3,fr3,w3⟩
 rcases turn i n σ3 H3 w3 with ⟨stop,qn⟩ | ⟨go,N,hN,step⟩
 ·refine wpAny_passesOwn hp (thn (T.done X rfl rfl rfl hc i pins s3 σ3 H3 X.xe I3 (stat fr3) st3 stop) fun r s4 ⟨hr,I4⟩=>?_)
  subst hr
  exact wpAny_execs_nil (fun ht=>⟨σ3,H3,I4,qn⟩)
 ·refine wpAny_passesOwn hp (thnT (T.item X rfl rfl rfl hc i pins s3 σ3 H3 X.xe I3 (stat fr3) st3 go) fun r s4 ht4 ⟨u,hr,h4⟩=>?_)
  subst hr
  refine wpAny_passesOwn hp (thn h4 fun _ s5 ⟨x,H5,I5,r5,y5,st5,fr5⟩=>?_)
  have I5':=I5.pinned (stat fr5) (T.obj _ _ st5)
  refine wpAny_passesOwn hp (thn (hg _ s5 σ3 H5 x u _ I5' r5 (step x H5 y5)) fun _ s6 ⟨σ6,H6,I6,q6⟩=>?_)
  refine wpAny_passesOwn hp (thn (hb _ s6 σ6 H6 _ I6 q6) fun f s7 q7=>?_)
  have again:∀{σ7:St} {H7:Hp},Inv X (pins++pinsAt fp s5.heap) σ7 H7 s7->N σ7 H7->∃m,m<n/\∃i σ' H',Inv X pins σ' H' s7/\tn i s7.heap/\(∀b∈fp,H' b=none)/\W i m σ' H':=fun {σ7 H7} I7 n7=>by
   obtain⟨m',hm,w7⟩:=hN σ7 H7 n7
   refine⟨m',hm,i+1,σ7,H7,I7.unpinned,T.keep _ _ _ st5 fun b hb o e=>(I7.pin (b,o) (List.mem_append_right _ (List.mem_append_right _ (mem_pinsAt hb e)))).1,fun b hb=>?_,w7⟩
   obtain⟨o,e,d⟩:=T.obj _ _ st5 b hb
   exact(I7.pin (b,o) (List.mem_append_right _ (List.mem_append_right _ (mem_pinsAt hb e)))).2.1
  cases f with
  |next=>obtain⟨σ7,H7,I7,n7⟩:=q7; exact again I7 n7
  |cont=>obtain⟨σ7,H7,I7,n7⟩:=q7; exact again I7 n7
  |brk=>obtain⟨σ7,H7,I7,q7⟩:=q7; exact fun _=>⟨σ7,H7,I7.unpinned,q7⟩
  |ret v=>obtain⟨x7,σ7,H7,I7,r7,q7⟩:=q7; exact fun _=>⟨x7,σ7,H7,I7.unpinned,r7,q7⟩
end
noncomputable abbrev R2:=V->V->Hp->VK->Prop
noncomputable def OpR (X:Cx) (f:Value->Value->Sem Value) (r:R2):Prop:=
 ∀(pins:List (Addr×Obj)) (s:Shared) (σ:St) (H:Hp) (x y:V) (v u:Value) (Q:VK),Inv X pins σ H s->RelV x v->RelV y u->r x y H Q->
  wpAny (model X.prog X.w) X.A (f v u) (EP X pins σ Q) X.xe s
noncomputable def UnR (X:Cx) (f:Value->Sem Value) (r:V->Hp->VK->Prop):Prop:=
 ∀(pins:List (Addr×Obj)) (s:Shared) (σ:St) (H:Hp) (x:V) (v:Value) (Q:VK),Inv X pins σ H s->RelV x v->r x H Q->
  wpAny (model X.prog X.w) X.A (f v) (EP X pins σ Q) X.xe s
noncomputable def CallR (X:Cx) (f:Value) (r:List V->Hp->VK->Prop):Prop:=
 ∀(pins:List (Addr×Obj)) (s:Shared) (σ:St) (H:Hp) (xs:List V) (us:List Value) (Q:VK),Inv X pins σ H s->Vals xs us->r xs H Q->
  wpAny (model X.prog X.w) X.A (call f us) (EP X pins σ Q) X.xe s
noncomputable def tOp (r:R2) (ta tb:TE):TE:=fun σ H Q=>ta σ H fun x H1=>tb σ H1 fun y H2=>r x y H2 Q
noncomputable def tUn (r:V->Hp->VK->Prop) (ta:TE):TE:=fun σ H Q=>ta σ H fun x H1=>r x H1 Q
noncomputable def rI (C:Int->Int->Prop) (g:Int->Int->V):R2:=fun x y H Q=>∃i j,x=.int i/\y=.int j/\C i j/\Q (g i j) H
noncomputable def rI0 (g:Int->Int->V):R2:=fun x y H Q=>∃i j,x=.int i/\y=.int j/\Q (g i j) H
noncomputable def rU (g:Int->V):V->Hp->VK->Prop:=fun x H Q=>∃i,x=.int i/\Q (g i) H
section
variable {X:Cx}{a b c:Expr}{ta tb tc:TE}{pos:Pos}
theorem binT (ha:PE X a ta) (hb:PE X b tb){pins:List (Addr×Obj)}{s:Shared}{σ:St}{H:Hp}{R:V->V->Hp->Prop} (I:Inv X pins σ H s)
  (h:ta σ H fun x H1=>tb σ H1 fun y H2=>R x y H2) {Q:Value->Shared->Prop} {f:Value->Value->Sem Value}
  (hf:∀v u s2 x y H2,Inv X pins σ H2 s2->RelV x v->RelV y u->R x y H2->wpAny (model X.prog X.w) X.A (f v u) Q X.xe s2) :
  wpAny (model X.prog X.w) X.A (eval a X.env) (fun v s₁=>wpAny (model X.prog X.w) X.A (eval b X.env) (fun u s₂=>wpAny (model X.prog X.w) X.A (f v u) Q X.xe s₂) X.xe s₁) X.xe s:=by
 refine thn (ha pins s σ H _ I h) fun v s1 h_=>?_
 obtain⟨x,H1,I1,r1,q1⟩:=h_
 refine thn (hb pins s1 σ H1 _ I1 q1) fun u s2 h_=>?_
 obtain⟨y,H2,I2,r2,q2⟩:=h_
 exact hf v u s2 x y H2 I2 r1 r2 q2
theorem pe_op {op:Operator}{r:R2} (ho:OpR X (binaryOp op) r) (ha:PE X a ta) (hb:PE X b tb):PE X (.BinOp a op b pos) (tOp r ta tb):=by
 intro pins s σ H Q I h
 exact wpAny_BinOp (binT ha hb I h fun v u s2 x y H2 I2 rx ry q=>ho pins s2 σ H2 x y v u Q I2 rx ry q)
theorem pe_un {op:UnaryOp}{r:V->Hp->VK->Prop} (ho:UnR X (unaryOp op) r) (ha:PE X a ta):PE X (.UnaryOp op a pos) (tUn r ta):=by
 intro pins s σ H Q I h
 exact UnaryOp_ (thn (ha pins s σ H _ I h) fun v s1 ⟨x,H1,I1,r1,q1⟩=>ho pins s1 σ H1 x v Q I1 r1 q1)
theorem opI {f:Value->Value->Sem Value}{C:Int->Int->Prop}{g:Int->Int->Int}
  (rule:∀(i j:Int) (t u:Tok) (s:Shared) (Q:Value->Shared->Prop) (E:Value->Shared->Prop),C i j->Q (.int (g i j) s.toks) {s with toks:=s.toks+1}->wpAny (model X.prog X.w) X.A (f (.int i t) (.int j u)) Q E s) :
  OpR X f (rI C fun i j=>.int (g i j)):=by
 intro pins s σ H x y v u Q I rx ry h
 obtain⟨i,j,rfl,rfl,hc,q⟩:=h
 obtain⟨t,rfl⟩:=rx
 obtain⟨t',rfl⟩:=ry
 exact rule i j t t' s _ _ hc (fun ht=>⟨.int (g i j),H,I.tok _,⟨_,rfl⟩,q⟩)
theorem opI0 {f:Value->Value->Sem Value}{g:Int->Int->Int}
  (rule:∀(i j:Int) (t u:Tok) (s:Shared) (Q:Value->Shared->Prop) (E:Value->Shared->Prop),Q (.int (g i j) s.toks) {s with toks:=s.toks+1}->wpAny (model X.prog X.w) X.A (f (.int i t) (.int j u)) Q E s) :
  OpR X f (rI0 fun i j=>.int (g i j)):=by
 intro pins s σ H x y v u Q I rx ry h
 obtain⟨i,j,rfl,rfl,q⟩:=h
 obtain⟨t,rfl⟩:=rx
 obtain⟨t',rfl⟩:=ry
 exact rule i j t t' s _ _ (fun ht=>⟨.int (g i j),H,I.tok _,⟨_,rfl⟩,q⟩)
theorem opB0 {f:Value->Value->Sem Value}{g:Int->Int->Bool}
  (rule:∀(i j:Int) (t u:Tok) (s:Shared) (Q:Value->Shared->Prop) (E:Value->Shared->Prop),Q (.bool (g i j)) s->wpAny (model X.prog X.w) X.A (f (.int i t) (.int j u)) Q E s) :
  OpR X f (rI0 fun i j=>.bl (g i j)):=by
 intro pins s σ H x y v u Q I rx ry h
 obtain⟨i,j,rfl,rfl,q⟩:=h
 obtain⟨t,rfl⟩:=rx
 obtain⟨t',rfl⟩:=ry
 exact rule i j t t' s _ _ (fun ht=>⟨.bl (g i j),H,I,rfl,q⟩)
noncomputable def CDiv (i j:Int):Prop:=0<j/\j<1073741824
noncomputable def CMul (i j:Int):Prop:=(-(2 ^ 64)<i/\i<2 ^ 64)∨(-(2 ^ 64)<j/\j<2 ^ 64)
theorem CMul.ok {i j:Int} (h:CMul i j):IntMulOk i j:=by
 rcases h with ⟨h1,h2⟩ | ⟨h1,h2⟩
 ·exact .of_left (intBits_le_64 h1 h2)
 ·exact .of_right (intBits_le_64 h1 h2)
theorem op_add:OpR X (binaryOp .Add) (rI0 fun i j=>.int (i+j)):=opI0 fun _ _ _ _ _ _ _ q=>add_int q
theorem op_mul:OpR X (binaryOp .Mult) (rI CMul fun i j=>.int (i * j)):=opI fun _ _ _ _ _ _ _ hc q=>mul_int q hc.ok
theorem op_fdiv:OpR X (binaryOp .FloorDiv) (rI CDiv fun i j=>.int (i / j)):=opI fun i j _ _ _ _ _ hc q=>by
 have h1:(0:Int)<j:=hc.1
 have h2:j<1073741824:=hc.2
 exact floordiv_int (by omega) (by rw [Int.fdiv_eq_ediv_of_nonneg i (by omega)]; exact q) (.inl (PyProof.noPylong_small (by omega)))
theorem op_mod:OpR X (binaryOp .Mod) (rI (fun _ j=>0<j) fun i j=>.int (i % j)):=opI fun i j _ _ _ _ _ hc q=>by
 have h1:(0:Int)<j:=hc
 exact mod_int' (by omega) (by rw [Int.fmod_eq_emod_of_nonneg i (by omega)]; exact q)
theorem unI {f:Value->Sem Value}{g:Int->Int}
  (rule:∀(i:Int) (t:Tok) (s:Shared) (Q:Value->Shared->Prop) (E:Value->Shared->Prop),Q (.int (g i) s.toks) {s with toks:=s.toks+1}->wpAny (model X.prog X.w) X.A (f (.int i t)) Q E s) :
  UnR X f (rU fun i=>.int (g i)):=by
 intro pins s σ H x v Q I rx h
 obtain⟨i,rfl,q⟩:=h
 obtain⟨t,rfl⟩:=rx
 exact rule i t s _ _ (fun ht=>⟨.int (g i),H,I.tok _,⟨_,rfl⟩,q⟩)
theorem un_neg:UnR X (unaryOp .USub) (rU fun i=>.int (-i)):=unI fun _ _ _ _ _ q=>neg_int q
end
noncomputable def scal:V->V->Bool
 |.non,.non=>true | .non,.int _=>true | .int _,.non=>true | .non,.bl _=>true | .bl _,.non=>true | .non,.str _=>true | .str _,.non=>true
 |.int _,.int _=>true | .bl _,.bl _=>true | .str _,.str _=>true | .byt _,.byt _=>true
 |.int _,.str _=>true | .str _,.int _=>true | .bl _,.str _=>true | .str _,.bl _=>true
 |_,_=>false
noncomputable def rNe:R2:=fun x y H Q=>scal x y=true/\Q (.bl (!decide (x=y))) H
theorem dec_int {i j:Int}:decide (V.int i=V.int j)=(i==j):=by
 rw [Bool.eq_iff_iff]
 simp
theorem dec_bl {i j:Bool}:decide (V.bl i=V.bl j)=(i==j):=by
 rw [Bool.eq_iff_iff]
 simp
theorem dec_str {i j:Str}:decide (V.str i=V.str j)=(i==j):=by
 rw [Bool.eq_iff_iff]
 simp
theorem dec_byt {i j:Array UInt8}:decide (V.byt i=V.byt j)=(i.toList==j.toList):=by
 rw [Bool.eq_iff_iff]
 cases i
 cases j
 simp
section
variable {X:Cx}{a b c:Expr}{ta tb tc:TE}{pos:Pos}
theorem fin_bl {pins:List (Addr×Obj)}{σ:St}{H:Hp}{s:Shared}{Q:VK}{k k':Bool} (I:Inv X pins σ H s) (q:Q (.bl k) H) (e:k=k'):EP X pins σ Q (.bool k') s:=by
 subst e
 exact(fun ht=>⟨.bl k,H,I,rfl,q⟩)
theorem op_ne:OpR X (compareOp .NotEq) rNe:=by
 intro pins s σ H x y v u Q I rx ry h
 obtain⟨hs,q⟩:=h
 cases x with
 |non=>
  cases rx
  cases y with
  |non=>cases ry; exact PySem.EqNone.ne_none_none (fin_bl I q (by simp))
  |bl j=>cases ry; exact PySem.EqNone.ne_none_bool (fin_bl I q (by simp))
  |int j=>obtain⟨t',rfl⟩:=ry; exact PySem.EqNone.ne_none_int (fin_bl I q (by simp))
  |str j=>obtain⟨t',rfl⟩:=ry; exact PySem.EqNone.ne_none_str (fin_bl I q (by simp))
  |_=>exact absurd (show false=true from hs) Bool.false_ne_true
 |bl i=>
  cases rx
  cases y with
  |non=>cases ry; exact PySem.EqNone.ne_bool_none (fin_bl I q (by simp))
  |bl j=>cases ry; exact ne_bool (fin_bl I q (congrArg not dec_bl))
  |str j=>obtain⟨t',rfl⟩:=ry; exact PySem.EqMixed.ne_bool_str (fin_bl I q (by simp))
  |_=>exact absurd (show false=true from hs) Bool.false_ne_true
 |int i=>
  obtain⟨t,rfl⟩:=rx
  cases y with
  |non=>cases ry; exact PySem.EqNone.ne_int_none (fin_bl I q (by simp))
  |int j=>obtain⟨t',rfl⟩:=ry; exact ne_int (fin_bl I q (congrArg not dec_int))
  |str j=>obtain⟨t',rfl⟩:=ry; exact PySem.EqMixed.ne_int_str (fin_bl I q (by simp))
  |_=>exact absurd (show false=true from hs) Bool.false_ne_true
 |str i=>
  obtain⟨t,rfl⟩:=rx
  cases y with
  |non=>cases ry; exact PySem.EqNone.ne_str_none (fin_bl I q (by simp))
  |bl j=>cases ry; exact PySem.EqMixed.ne_str_bool (fin_bl I q (by simp))
  |int j=>obtain⟨t',rfl⟩:=ry; exact PySem.EqMixed.ne_str_int (fin_bl I q (by simp))
  |str j=>obtain⟨t',rfl⟩:=ry; exact ne_str (fin_bl I q (congrArg not dec_str))
  |_=>exact absurd (show false=true from hs) Bool.false_ne_true
 |byt i=>
  obtain⟨t,rfl⟩:=rx
  cases y with
  |byt j=>obtain⟨t',rfl⟩:=ry; exact PySem.W.ne_bytes (fin_bl I q (congrArg not dec_byt))
  |_=>exact absurd (show false=true from hs) Bool.false_ne_true
 |_=>cases y <;> exact absurd (show false=true from hs) Bool.false_ne_true
theorem op_lt:OpR X (compareOp .Lt) (rI0 fun i j=>.bl (decide (i<j))):=opB0 fun _ _ _ _ _ _ _ q=>lt_int q
theorem op_le:OpR X (compareOp .LtE) (rI0 fun i j=>.bl (decide (i<=j))):=opB0 fun _ _ _ _ _ _ _ q=>le_int q
theorem op_gt:OpR X (compareOp .Gt) (rI0 fun i j=>.bl (decide (j<i))):=opB0 fun _ _ _ _ _ _ _ q=>gt_int q
theorem op_in_str:OpR X (compareOp .In) (fun x y H Q=>∃i j,x=.str i/\y=.str j/\Q (.bl (!(Builtin.Str.occurrences j i 0 j.length 1).isEmpty)) H):=by
 intro pins s σ H x y v u Q I rx ry h
 obtain⟨i,j,rfl,rfl,q⟩:=h
 obtain⟨t,rfl⟩:=rx
 obtain⟨t',rfl⟩:=ry
 exact in_str (fin_bl I q rfl)
theorem op_notN:OpR X (compareOp .IsNot) (fun x y H Q=>y=.non/\Q (.bl (!decide (x=.non))) H):=by
 intro pins s σ H x y v u Q I rx ry h
 obtain⟨rfl,q⟩:=h
 cases ry
 refine isnot_none_gen (fin_bl I q ?_)
 cases x <;> first
  | (cases rx; rfl)
  | (obtain⟨t,rfl⟩:=rx; rfl)
theorem OpR.or {f:Value->Value->Sem Value}{r r':R2} (h:OpR X f r) (h':OpR X f r'):OpR X f (fun x y H Q=>r x y H Q∨r' x y H Q):=by
 intro pins s σ H x y v u Q I rx ry q
 rcases q with q | q
 ·exact h pins s σ H x y v u Q I rx ry q
 ·exact h' pins s σ H x y v u Q I rx ry q
theorem nomark (b:Expr){op:CmpOp} (h:op≠.In:=by decide) (h2:op≠.NotIn:=by decide):behindInMarks op b=false:=by
 have e1:(op==CmpOp.In)=false:=by cases op <;> first | rfl | exact absurd rfl h
 have e2:(op==CmpOp.NotIn)=false:=by cases op <;> first | rfl | exact absurd rfl h2
 cases b <;> simp [behindInMarks,e1,e2]
theorem pe_cmpR {op:CmpOp}{r:R2} (ho:OpR X (compareOp op) r) (ha:PE X a ta) (hb:PE X b tb) (hm:behindInMarks op b=false):PE X (.Compare a [op] [b] pos) (tOp r ta tb):=by
 intro pins s σ H Q I h
 exact wpAny_Compare1 (binT ha hb I h fun v u s2 x y H2 I2 rx ry q=>ho pins s2 σ H2 x y v u Q I2 rx ry q) hm
noncomputable def tTest (t:TE):TT:=fun σ H Q=>t σ H fun x H'=>∃k,x=.bl k/\Q k H'
theorem pt_cmpR {op:CmpOp}{r:R2} (ho:OpR X (compareOp op) r) (ha:PE X a ta) (hb:PE X b tb) (hm:behindInMarks op b=false):PT X (.Compare a [op] [b] pos) (tTest (tOp r ta tb)):=by
 intro pins s σ H Q I h
 refine wpAny_isTrue_Compare1 (thn (ha pins s σ H _ I h) fun v s1 ⟨x,H1,I1,r1,q1⟩=>thn (hb pins s1 σ H1 _ I1 q1) fun u s2 ⟨y,H2,I2,r2,q2⟩=>
  thn (ho pins s2 σ H2 x y v u _ I2 r1 r2 q2) fun c s3 ⟨z,H3,I3,r3,k,e,q3⟩=>?_) hm
 subst e
 cases r3
 exact wpAny_truthy_bool (fun ht=>⟨H3,I3,q3⟩)
noncomputable def tChain (r r':R2) (ta tb tc:TE):TE:=fun σ H Q=>ta σ H fun x H1=>tb σ H1 fun y H2=>r x y H2 fun z H3=>∃k,z=.bl k/\
 (if k=true then tc σ H3 fun w' H4=>r' y w' H4 Q else Q (.bl false) H3)
theorem pt_chain {op op':CmpOp}{r r':R2} (ho:OpR X (compareOp op) r) (ho':OpR X (compareOp op') r') (ha:PE X a ta) (hb:PE X b tb) (hc:PE X c tc)
  (hm:lastMarks [op,op'] [b,c]=false:=by with_unfolding_all rfl):PT X (.Compare a [op,op'] [b,c] pos) (tTest (tChain r r' ta tb tc)):=by
 intro pins s σ H Q I h
 refine isTrue_chain (thn (ha pins s σ H _ I h) fun v s1 ⟨x,H1,I1,r1,q1⟩=>test_link (thn (hb pins s1 σ H1 _ I1 q1) fun u s2 ⟨y,H2,I2,r2,q2⟩=>
  thn (ho pins s2 σ H2 x y v u _ I2 r1 r2 q2) fun d s3 ⟨z,H3,I3,r3,k,e,q3⟩=>?_)) hm
 subst e
 cases r3
 refine wpAny_truthy_bool ?_
 cases k with
 |false=>
  obtain⟨k',e',q'⟩:=q3
  cases e'
  exact ite_ff (fun ht=>⟨H3,I3,q'⟩)
 |true=>
  refine ite_tt (test_last (thn (hc pins s3 σ H3 _ I3 q3) fun w' s4 ⟨z',H4,I4,r4,q4⟩=>thn (ho' pins s4 σ H4 y z' u w' _ I4 r2 r4 q4) fun d' s5 ⟨z2,H5,I5,r5,k2,e2,q5⟩=>?_))
  subst e2
  cases r5
  exact wpAny_truthy_bool (fun ht=>⟨H5,I5,q5⟩)
theorem line63:(sizeLine:Nat)<2 ^ 63:=by rw [sizeLine_eq]; decide
theorem op_add_str:OpR X (binaryOp .Add) (fun x y H Q=>∃i j,x=.str i/\y=.str j/\i.length+j.length<=sizeLine/\Q (.str (i++j)) H):=by
 intro pins s σ H x y v u Q I rx ry h
 obtain⟨i,j,rfl,rfl,hz,q⟩:=h
 obtain⟨t,rfl⟩:=rx
 obtain⟨t',rfl⟩:=ry
 exact add_str (fun t' tk=>(fun ht=>⟨.str (i++j),H,I.tok _,⟨_,rfl⟩,q⟩)) hz
theorem vals1 {x:V}{us:List Value} (r:Vals [x] us):∃u,us=[u]/\RelV x u:=by
 cases r with
 |cons r1 r2=>cases r2; exact⟨_,rfl,r1⟩
end
structure ObjM (h:Heap) (x dx C:Addr) (mA:Str->Option Value):Prop where
 obj:h.get? x=some (PySem.W.instObj C dx)
 ns:h.Ns1 dx mA
 ne:dx≠x
theorem lookIn_ns {h:Heap}{dx:Addr}{mA:Str->Option Value} (n:h.Ns1 dx mA):∃od,h.get? dx=some od/\∀name,PySem.W.lookIn name od=some (mA name):=by
 obtain⟨o,es,ep,ho,hd,hk,_,hm⟩:=n
 refine⟨o,ho,fun name=>?_⟩
 have e:=hm name
 unfold nsFind findBy at e
 rw [← Array.find?_toList] at e
 unfold PySem.W.lookIn
 rw [hd]
 dsimp only
 split
 ·rename_i y q
  rw [q] at e
  exact congrArg some e
 ·rename_i q
  rw [q] at e
  have a:es.toList.any (·.refKey)=false:=by
   rw [List.any_eq_false]
   intro y hy
   obtain⟨z,t,hkey⟩:=hk y (Array.mem_toList_iff.mp hy)
   simp [DictEntry.refKey,hkey]
  have a':¬ es.toList.any (·.refKey)=true:=by rw [a]; exact Bool.false_ne_true
  rw [if_neg a']
  exact congrArg some e
theorem ObjM.look {h:Heap}{x dx C:Addr}{mA:Str->Option Value} (I:ObjM h x dx C mA):∃od,PySem.W.InstAt h x (PySem.W.instObj C dx) C (some od)/\∀name,PySem.W.lookIn name od=some (mA name):=
 let ⟨od,ho,hl⟩:=lookIn_ns I.ns
 ⟨od,⟨I.obj,rfl,rfl,ho⟩,hl⟩
section
variable {prog:Program}{w:World}{A:Around}{E:Value->Shared->Prop}{s:Shared}{K:PySem.W.Frag}{x dx C f:Addr}{mA:Str->Option Value}{name:Str}{v:Value}
theorem get_map {expr:Bool}{Q:Value->Shared->Prop} (X:K.In s.heap) (I:ObjM s.heap x dx C mA) (hg:PySem.W.plainGet K C name=true) (hh:PySem.W.hasDictIn K C=true)
  (ha:PySem.W.findIn K (.ref C) name=some none) (hv:mA name=some v) (hv':PySem.W.handedIn v=true) (h:Q v {s with toks:=s.toks+1}) :
  wpAny (model prog w) A (getAttr (.ref x) name expr) Q E s:=by
 obtain⟨od,J,hl⟩:=I.look
 exact PySem.W.get_value X J (PySem.W.plainGet_of hg).1 (PySem.W.findObj_own hh ha rfl (by rw [hl,hv])) hv' h
theorem get_meth {pl:Sem Bool}{Q:Value×List Value->Shared->Prop} (X:K.In s.heap) (I:ObjM s.heap x dx C mA) (hg:PySem.W.plainGet K C name=true)
  (hf:PySem.W.findIn K (.ref C) name=some (some (.ref f))) (ht:PySem.W.isFn K (.ref f)=true) (hv:mA name=none) (h:Q (.ref f,[.ref x]) s) :
  wpAny (model prog w) A (getMethod (.ref x) name pl) Q E s:=by
 obtain⟨od,J,hl⟩:=I.look
 exact PySem.W.method_fn X J (PySem.W.plainGet_of hg).1 (PySem.W.plainGet_of hg).2 hf (beq_iff_eq.mp ht) (by show (PySem.W.lookIn name od).map (·.isSome)=some false; rw [hl,hv]; rfl) h
theorem set_map {ns:List Str}{Q:Unit->Shared->Prop} (X:K.In s.heap) (I:ObjM s.heap x dx C mA)
  (hs:PySem.W.findIn K (.ref C) "__setattr__" = some (some (.builtin "object.__setattr__"))) (hp:PySem.W.plainOver K C=true) (ht:PySem.W.takerIn K C name=some none) (hh:PySem.W.hasDictIn K C=true)
  (hw:PySem.Within mA ns) (hsz:ns.length<=sizeLine)
  (h:∀h',ObjM h' x dx C (fun y=>if y=name then some v else mA y)->Heap.SameBut dx s.heap h'->Q () {s with heap:=h',toks:=s.toks+2}) :
  wpAny (model prog w) A (setAttr (.ref x) name v) Q E s:=by
 obtain⟨od,J,hl⟩:=I.look
 refine PySem.W.set_plain X J hs (PySem.W.osa_open (s:={s with toks:=s.toks+1}) (r:=none) X J hp ht fun b=>?_)
 obtain⟨cd,hc,hd'⟩:=PySem.W.any_some hh
 have hx:s.heap.get? x=some ⟨.ref C,some dx,.plain,#[]⟩:=I.obj
 refine wpAny_bind (wpAny_pure (wpAny_bind (wpAny_bind (wpAny_loadPart hx (wpAny_bind (PySem.W.Looks.here (s:={s with toks:=s.toks+1}) (PySem.W.looks_clsIn X hc) ?_))))))
 rw [hd']
 refine wpAny_pure (a:=some dx) (wpAny_bind (wpAny_pure (wpAny_bind ?_)))
 refine wpAny_nsSet1 (s:={s with toks:=s.toks+1}) I.ns fun h' hn2 hs2=>?_
 obtain⟨oD,esD,epD,hoD,hdD,hcD⟩:=hn2.count (PySem.Within.cons name v hw)
 refine wpAny_bind (wpAny_lookBehind hoD (by rw [hdD]; exact pastItsLine_dict (Nat.le_trans hcD (by rw [List.length_cons]; omega))) ?_)
 exact wpAny_pure (h _ ⟨(hs2.2 _ (Ne.symm I.ne)).trans I.obj,hn2,I.ne⟩ hs2)
theorem make_map {R:Result->Shared->Prop}{vs:List Value}{kw:List (Str×Value)} (X:K.In s.heap) (hm:PySem.W.makesIn K C=true)
  (hi:PySem.W.findIn K (.ref C) "__init__" = some (some (.ref f))) (hf:PySem.W.typeIn K (.ref f)=some (.type "function"))
  (h:codeAny (model prog w) (A.under (.builtin "type.__call__" ⟨.ref C::vs,kw⟩)) (.call (.ref f) ⟨.ref (s.heap.objs.size+1)::vs,kw⟩) (PySem.W.InitBack (s.heap.objs.size+1) R)
   {s with heap:=(s.heap.push PySem.W.emptyDict).push (PySem.W.instObj C s.heap.objs.size)}) :
  codeAny (model prog w) A (.call (.ref C) ⟨vs,kw⟩) R s:=by
 obtain⟨hh,g,d,t,os⟩:=s
 exact PySem.W.make_core (PySem.W.makes_of X hm) (PySem.W.looks_findIn X hi) (fun self=>PySem.W.bind_fn X self hf) (.inl rfl) h
end
noncomputable def putF (f:Str) (v:V):List (Str×V)->List (Str×V)
 | []=>[(f,v)]
 | (g,x)::r=>if g=f then (g,v)::r else (g,x)::putF f v r
theorem lookup_putF (f g:Str) (v:V):∀fs:List (Str×V),(putF f v fs).lookup g=if g=f then some v else fs.lookup g
 | []=>by
  show List.lookup g [(f,v)]=_
  by_cases h:g=f
  ·have hb:(g==f)=true:=beq_iff_eq.mpr h
   simp only [List.lookup,hb,if_pos h]
  ·have hb:(g==f)=false:=beq_eq_false_iff_ne.mpr h
   simp only [List.lookup,hb,if_neg h]
 | (k,x)::r=>by
  have ih:=lookup_putF f g v r
  rw [show putF f v ((k,x)::r)=(if k=f then (k,v)::r else (k,x)::putF f v r) from rfl]
  by_cases hk:k=f
  ·rw [if_pos hk]
   by_cases h:g=k
   ·have hb:(g==k)=true:=beq_iff_eq.mpr h
    simp only [List.lookup,hb,if_pos (h.trans hk)]
   ·have hb:(g==k)=false:=beq_eq_false_iff_ne.mpr h
    simp only [List.lookup,hb,if_neg (fun e:g=f=>h (e.trans hk.symm))]
  ·rw [if_neg hk]
   by_cases h:g=k
   ·have hb:(g==k)=true:=beq_iff_eq.mpr h
    simp only [List.lookup,hb,if_neg (fun e:g=f=>hk (h.symm.trans e))]
   ·have hb:(g==k)=false:=beq_eq_false_iff_ne.mpr h
    simp only [List.lookup,hb]
    exact ih
theorem keys_putF (f:Str) (v:V):∀fs:List (Str×V),f∈(putF f v fs).map (·.1)/\∀g,g∈fs.map (·.1)->g∈(putF f v fs).map (·.1)
 | []=>⟨by simp [putF],fun g h=>by simp at h⟩
 | (k,x)::r=>by
  obtain⟨i1,i2⟩:=keys_putF f v r
  rw [show putF f v ((k,x)::r)=(if k=f then (k,v)::r else (k,x)::putF f v r) from rfl]
  by_cases hk:k=f
  ·rw [if_pos hk]
   subst hk
   exact⟨by simp,fun g h=>by simpa using h⟩
  ·rw [if_neg hk]
   refine⟨?_,fun g h=>?_⟩
   ·rw [List.map_cons]
    exact List.mem_cons_of_mem _ i1
   ·rw [List.map_cons] at h ⊢
    rcases List.mem_cons.mp h with e | e
    ·exact List.mem_cons.mpr (.inl e)
    ·exact List.mem_cons_of_mem _ (i2 g e)
theorem length_putF (f:Str) (v:V):∀fs:List (Str×V),(putF f v fs).length<=fs.length+1
 | []=>by simp [putF]
 | (k,x)::r=>by
  have ih:=length_putF f v r
  rw [show putF f v ((k,x)::r)=(if k=f then (k,v)::r else (k,x)::putF f v r) from rfl]
  by_cases hk:k=f
  ·rw [if_pos hk,List.length_cons,List.length_cons]; omega
  ·rw [if_neg hk,List.length_cons,List.length_cons]; omega
theorem RelO.some_of {v:V}{o:Option Value} (r:RelO (some v) o):∃u,o=some u/\RelV v u:=by
 cases o with
 |none=>exact(show False from r).elim
 |some u=>exact⟨u,rfl,r⟩
theorem RelO.none_of {o:Option Value} (r:RelO none o):o=none:=by
 cases o with
 |none=>rfl
 |some u=>exact(show False from r).elim
theorem handed_of {v:V}{u:Value} (r:RelV v u):PySem.W.handedIn u=true:=by
 cases v with
 |non=>cases (show u=Value.none from r); rfl
 |bl b=>cases (show u=Value.bool b from r); rfl
 |int i=>obtain⟨t,e⟩:=(show ∃t,u=Value.int i t from r); cases e; rfl
 |str x=>obtain⟨t,e⟩:=(show ∃t,u=Value.str x t from r); cases e; rfl
 |byt b=>obtain⟨t,e⟩:=(show ∃t,u=Value.bytes b t from r); cases e; rfl
 |flt b=>obtain⟨t,e⟩:=(show ∃t,u=Value.float b t from r); cases e; rfl
 |ref a=>cases (show u=Value.ref a from r); rfl
 |ty n=>cases (show u=Value.type n from r); rfl
section
variable {P:Program}{w:World}{H H':Hp}{h h':Heap}{a C dx:Addr}{fs fs':List (Str×V)}
theorem ins_get (hok:HOk P w H h) (e:H a=some (.ins C dx fs)):∃mA,ObjM h a dx C mA/\(∀f,RelO (fs.lookup f) (mA f))/\PySem.Within mA (fs.map (·.1))/\fs.length<=1000/\H dx=some (.own a):=by
 obtain⟨d,z,ne,ob,mA,n,r,q⟩:=(show ObjOk P w H h a (.ins C dx fs) from hok a _ e)
 exact⟨mA,⟨ob,n,ne⟩,r,q,z,d⟩
end
structure Cls (K:PySem.W.Frag) (C:Addr):Prop where
 pg:PySem.W.plainGet K C Str.empty=true
 hd:PySem.W.hasDictIn K C=true
 po:PySem.W.plainOver K C=true
 sa:PySem.W.findIn K (.ref C) "__setattr__" = some (some (.builtin "object.__setattr__"))
theorem Cls.get {K:PySem.W.Frag}{C:Addr} (c:Cls K C) (f:Str):PySem.W.plainGet K C f=true:=c.pg
noncomputable def NoAttr (K:PySem.W.Frag) (C:Addr) (f:Str):Prop:=PySem.W.findIn K (.ref C) f=some none
theorem NoAttr.taker {K:PySem.W.Frag}{C:Addr}{f:Str} (n:NoAttr K C f):PySem.W.takerIn K C f=some none:=by
 unfold PySem.W.takerIn
 rw [show PySem.W.findIn K (.ref C) f=some none from n]
 rfl
structure Meth (K:PySem.W.Frag) (C:Addr) (m:Str) (f:Addr):Prop where
 at_:PySem.W.findIn K (.ref C) m=some (some (.ref f))
 fn:PySem.W.isFn K (.ref f)=true
 kp:PySem.W.keepIn K (.ref f)=true
section
variable {X:Cx}{pins:List (Addr×Obj)}{σ:St}{H:Hp}{s:Shared}{a C dx:Addr}{fs:List (Str×V)}{f:Str}{v:V}{A:Around}{E:Value->Shared->Prop}
theorem getattr_ok {b:Bool}{Q:Value->Shared->Prop} (I:Inv X pins σ H s) (e:H a=some (.ins C dx fs)) (c:Cls X.K C) (n:NoAttr X.K C f) (l:fs.lookup f=some v)
  (h:∀u s',Inv X pins σ H s'->RelV v u->Q u s'):wpAny (model X.prog X.w) A (getAttr (.ref a) f b) Q E s:=by
 obtain⟨mA,O,r,_,_,_⟩:=ins_get I.hok e
 obtain⟨u,hu,ru⟩:=RelO.some_of (v:=v) (o:=mA f) (by rw [← l]; exact r f)
 exact get_map I.kIn O (c.get f) c.hd n hu (handed_of ru) (h u _ (I.tok _) ru)
theorem getmeth_ok {m:Str}{g:Addr}{pl:Sem Bool}{Q:Value×List Value->Shared->Prop} (I:Inv X pins σ H s) (e:H a=some (.ins C dx fs)) (c:Cls X.K C) (k:Meth X.K C m g) (l:fs.lookup m=none)
  (h:Q (.ref g,[.ref a]) s):wpAny (model X.prog X.w) A (getMethod (.ref a) m pl) Q E s:=by
 obtain⟨mA,O,r,_,_,_⟩:=ins_get I.hok e
 have hn:mA m=none:=RelO.none_of (by rw [← l]; exact r m)
 exact get_meth I.kIn O (c.get m) k.at_ k.fn hn h
theorem setattr_ok {y:V}{u:Value}{Q:Unit->Shared->Prop} (I:Inv X pins σ H s) (e:H a=some (.ins C dx fs)) (c:Cls X.K C) (n:NoAttr X.K C f) (hl:fs.length<1000) (ry:RelV y u)
  (h:∀s',Inv X pins σ (upd H a (.ins C dx (putF f y fs))) s'->Q () s'):wpAny (model X.prog X.w) A (setAttr (.ref a) f u) Q E s:=by
 obtain⟨mA,O,r,wi,_,ho⟩:=ins_get I.hok e
 have hz:(fs.map (·.1)).length<=sizeLine:=by rw [List.length_map,sizeLine_eq]; omega
 refine set_map I.kIn O c.sa c.po n.taker c.hd wi hz fun h' O' sb=>h _ ?_
 have hd:∃o,h'.get? dx=some o:=let ⟨o,_,_,e',_⟩:=O'.ns; ⟨o,e'⟩
 refine I.write (x:=a) (e:=dx) (by rw [e]; exact True.intro) (.inr ho) (fun b q hb z=>(sb.2 b hb).trans z) hd ?_ (by first | exact I.tk | exact Nat.succ_pos _)
 refine⟨by rw [upd_ne O.ne]; exact ho,?_,O.ne,O'.obj,_,O'.ns,fun g=>?_,fun g hg=>?_⟩
 ·have:=length_putF f y fs; omega
 ·show RelO ((putF f y fs).lookup g) (if g=f then some u else mA g)
  rw [lookup_putF]
  by_cases q:g=f
  ·rw [if_pos q,if_pos q]; exact ry
  ·rw [if_neg q,if_neg q]; exact r g
 ·by_cases q:g=f
  ·rw [q]; exact(keys_putF f y fs).1
  ·refine(keys_putF f y fs).2 g (wi g fun z=>hg ?_)
   show (if g=f then some u else mA g)=none
   rw [if_neg q]; exact z
theorem Inv.made (I:Inv X pins σ H s):Inv X pins σ (upd (upd H s.heap.objs.size (.own (s.heap.objs.size+1))) (s.heap.objs.size+1) (.ins C s.heap.objs.size []))
  {s with heap:=(s.heap.push PySem.W.emptyDict).push (PySem.W.instObj C s.heap.objs.size)}:=by
 have e1:(s.heap.push PySem.W.emptyDict).get? s.heap.objs.size=some PySem.W.emptyDict:=Heap.get?_push_size s.heap rfl
 have e2:((s.heap.push PySem.W.emptyDict).push (PySem.W.instObj C s.heap.objs.size)).get? (s.heap.objs.size+1)=some (PySem.W.instObj C s.heap.objs.size):=by
  have:=Heap.get?_push_size (s.heap.push PySem.W.emptyDict) (o:=PySem.W.instObj C s.heap.objs.size) rfl
  rwa [Heap.size_push] at this
 have e3:(s.heap.push PySem.W.emptyDict).Ns s.heap.objs.size (fun _=>none):=⟨PySem.W.emptyDict,#[],_,e1,rfl,(fun e he=>absurd he (by simp)),fun _=>rfl⟩
 have I1:=I.laid (a:=s.heap.objs.size) (o:=.own (s.heap.objs.size+1)) (h':=s.heap.push PySem.W.emptyDict) (t':=s.toks) (fun b u q=>Heap.get?_push_of_some _ q) (Nat.le_refl _) ⟨_,e1⟩
 refine I1.laid (a:=s.heap.objs.size+1) (o:=.ins C s.heap.objs.size []) (t':=s.toks) (fun b u q=>Heap.get?_push_of_some _ q) (Nat.le_of_eq (Heap.size_push _ _)) ?_
 have ne:s.heap.objs.size≠s.heap.objs.size+1:=Nat.ne_of_lt (Nat.lt_succ_self _)
 refine⟨by rw [upd_ne ne,upd_same],Nat.zero_le _,ne,e2,fun _=>none,(Heap.Ns1.of_empty e3).at fun o q=>Heap.get?_push_of_some _ q,fun _=>True.intro,fun y hy=>absurd rfl hy⟩
theorem attr_of {prog:Program}{w:World}{env:Env}{e:Expr}{f:Str}{pos:Pos}{s:Shared}{Q:Value->Shared->Prop} (hb:attributeBase e f env (eval e env)=eval e env)
  (h:wpAny (model prog w) A (eval e env) (fun o s₁=>wpAny (model prog w) A (getAttr o f true) Q E s₁) E s):wpAny (model prog w) A (eval (.Attribute e f pos) env) Q E s:=
 Attribute_any_ h (by rw [arm_eval_Attribute,hb])
end
noncomputable def tFld (K:PySem.W.Frag) (ta:TE) (f:Str):TE:=fun σ H Q=>ta σ H fun x H1=>∃a C dx fs v,x=.ref a/\H1 a=some (.ins C dx fs)/\Cls K C/\NoAttr K C f/\fs.lookup f=some v/\Q v H1
noncomputable def sFld (K:PySem.W.Frag) (ta tv:TE) (f:Str):TS:=fun D σ H=>tv σ H fun y H1=>ta σ H1 fun x H2=>∃a C dx fs,x=.ref a/\H2 a=some (.ins C dx fs)/\Cls K C/\NoAttr K C f/\fs.length<1000/\
 D.nx σ (upd H2 a (.ins C dx (putF f y fs)))
section
variable {X:Cx}{o e value:Expr}{f:Str}{pos pos' tpos:Pos}{ta tv:TE}
theorem pe_fld (he:PE X e ta) (hb:attributeBase e f X.env (eval e X.env)=eval e X.env):PE X (.Attribute e f pos) (tFld X.K ta f):=by
 intro pins s σ H Q I h
 refine attr_of hb (thn (he pins s σ H _ I h) fun u s1 ⟨x,H1,I1,rx,a,C,dx,fs,v,ex,ea,c,n,l,q⟩=>?_)
 subst ex
 obtain rfl:u=Value.ref a:=rx
 exact getattr_ok I1 ea c n l fun u' s2 I2 ru=>(fun ht=>⟨v,H1,I2,ru,q⟩)
theorem ps_fld (ha:PE X o ta) (hv:PE X value tv) (hs:swapsWith value (some (.Attribute o f pos')) pos.line X.env=pure false):PS X (.Assign [.Attribute o f pos'] value pos) (sFld X.K ta tv f):=by
 intro pins s σ H D I h
 refine plainObj_wpAny_Assign_Attribute (thn (hv pins s σ H _ I h) fun u s1 ⟨y,H1,I1,ry,q⟩=>thn (ha pins s1 σ H1 _ I1 q) fun ov s2 ⟨x,H2,I2,rx,a,C,dx,fs,ex,ea,c,n,l,q2⟩=>?_) hs
 subst ex
 obtain rfl:ov=Value.ref a:=rx
 exact setattr_ok I2 ea c n l ry fun s3 I3=>(fun ht=>⟨σ,_,I3,q2⟩)
end
structure Room (k:Nat) (A:Around):Prop where
 hd:A.handled=none
 dp:A.depth+3 * k+5<recursionLimit
 un:A.units+16 * k+200<cLine
 gd:A.guards=some []
theorem Room.mono {j k:Nat}{A:Around} (r:Room k A) (h:j<=k):Room j A:=⟨r.hd,by have:=r.dp; omega,by have:=r.un; omega,r.gd⟩
theorem Room.deeper {k:Nat}{A:Around} (r:Room (k+1) A) (env:Env):Room k (A.deeper env):=
 ⟨r.hd,by have:=r.dp; show A.depth+1+3 * k+5<_; omega,by have:=r.un; show A.units+3+16 * k+200<_; omega,r.gd⟩
theorem make_depth {A:Around}{C:Addr}{us:List Value}{kw:List (Str×Value)}:(A.under (.builtin "type.__call__" ⟨.ref C::us,kw⟩)).depth=A.depth+1:=by
 first | rfl | simp [Around.under,Code.weight,Code.isCreation,Code.isGuard,Code.isCaller,Code.frames,Code.isFrame,guardIds]
theorem make_units {A:Around}{C:Addr}{us:List Value}{kw:List (Str×Value)}:(A.under (.builtin "type.__call__" ⟨.ref C::us,kw⟩)).units=A.units+1:=by
 first | rfl | simp [Around.under,Code.cUnits,Code.frames,Code.isFrame]
theorem Room.make {k:Nat}{A:Around} (r:Room (k+1) A) (C:Addr) (us:List Value) (kw:List (Str×Value)):Room k (A.under (.builtin "type.__call__" ⟨.ref C::us,kw⟩)):=
 ⟨r.hd,by have:=r.dp; rw [make_depth]; omega,by have:=r.un; rw [make_units]; omega,by have g:=r.gd; simp [Around.under,Code.guards,Code.isGuard,guardIds,pushGuards,g]⟩
theorem Room.depth {k:Nat}{A:Around} (r:Room k A):A.depth<recursionLimit:=by have:=r.dp; omega
noncomputable def tNil:TA:=fun _ H Q=>Q [] H
noncomputable def tCons (ta:TE) (tr:TA):TA:=fun σ H Q=>ta σ H fun x H1=>tr σ H1 fun xs H2=>Q (x::xs) H2
section
variable {X:Cx}{e:Expr}{es:List Expr}{te:TE}{t:TA}{pos:Pos}
theorem pa_nil:PA X [] tNil:=fun _ _ _ _ H Q I h=>Calls.spliced_nil (fun ht=>⟨[],H,I,.nil,h⟩)
theorem pa_cons (ha:PE X e te) (hr:PA X es t) (hs:starEach (e::es) X.env=(false,eval e X.env)::starEach es X.env:=by rfl):PA X (e::es) (tCons te t):=by
 intro pos pins s σ H Q I h
 rw [hs]
 show wpAny _ _ (spliced ((false,eval e X.env)::backTo pos (starEach es X.env))) _ _ s
 refine Calls.spliced_cons (thn (ha pins s σ H _ I h) fun u s1 ⟨x,H1,I1,r1,q1⟩=>?_)
 exact thn (hr pos pins s1 σ H1 _ I1 q1) fun us s2 ⟨xs,H2,I2,r2,q2⟩=>(fun ht=>⟨x::xs,H2,I2,.cons r1 r2,q2⟩)
noncomputable def tTup (t:TA):TE:=fun σ H Q=>t σ H fun xs H1=>xs.length<=sizeLine/\∀p,H1 p=none->Q (.ref p) (upd H1 p (.tup xs))
noncomputable def tLst (t:TA):TE:=fun σ H Q=>t σ H fun xs H1=>xs.length<=sizeLine/\∀p,H1 p=none->Q (.ref p) (upd H1 p (.lst xs))
theorem pe_tup {x1} (h:PA X es t):PE X (.Tuple es x1 pos) (tTup t):=by
 intro pins s σ H Q I hq
 refine wpAny_Tuple_spliced (thn (h pos pins s σ H _ I hq) fun us s1 ⟨xs,H1,I1,r,z,q⟩=>⟨by rw [← r.length]; exact z,?_⟩)
 have hf:H1 s1.heap.objs.size=none:=I1.hok.fresh (Nat.le_refl _)
 refine(fun ht=>⟨.ref s1.heap.objs.size,upd H1 s1.heap.objs.size (.tup xs),I1.laid (t':=s1.toks) (fun b u e=>Heap.get?_push_of_some _ e) (Nat.le_refl _) ?_,rfl,q _ hf⟩)
 exact⟨z,us,r,⟨_,Heap.get?_push_size _ rfl,rfl,_,rfl⟩⟩
theorem pe_lst (h:PA X es t):PE X (.List es pos) (tLst t):=by
 intro pins s σ H Q I hq
 refine wpAny_List_spliced (thn (h pos pins s σ H _ I hq) fun us s1 ⟨xs,H1,I1,r,z,q⟩=>⟨by rw [← r.length]; exact z,?_⟩)
 have hf:H1 s1.heap.objs.size=none:=I1.hok.fresh (Nat.le_refl _)
 refine(fun ht=>⟨.ref s1.heap.objs.size,upd H1 s1.heap.objs.size (.lst xs),I1.laid (t':=s1.toks) (fun b u e=>Heap.get?_push_of_some _ e) (Nat.le_refl _) ?_,rfl,q _ hf⟩)
 exact⟨z,us,0,r,Heap.get?_push_size _ rfl⟩
end
noncomputable abbrev Sp:=List V->Hp->VK->XK->Prop
noncomputable abbrev CXT:=List Env->Hp->Shared->XK->Value->Shared->Prop
structure Env0 (P:Program) (w:World) (K:PySem.W.Frag) (mg:Str->Option Value) (base:Heap) (A:Around) (outer:List Env) (s:Shared) (H:Hp):Prop where
 frames:A.frames=some outer
 mod:Mod K mg base
 bs:∀b o,base.get? b=some o->s.heap.get? b=some o/\H b=none
 bsz:base.objs.size<=s.heap.objs.size
 funs:s.heap.FunFrames base outer
 frf:∀b∈frs outer,H b=none
 hok:HOk P w H s.heap
 bare:AllBare s.gens
noncomputable def CE (outer:List Env) (P:Program) (w:World) (H:Hp) (s:Shared) (Q:VK) (u:Value) (s':Shared):Prop:=
 ∃v H',s'.os=s.os/\AllBare s'.gens/\Un (frs outer) [] H H' s.heap s'.heap/\HOk P w H' s'.heap/\RelV v u/\Q v H'
noncomputable def CR (CX:CXT) (outer:List Env) (P:Program) (w:World) (H:Hp) (s:Shared) (Q:VK) (E:XK) (r:Result) (s':Shared):Prop:=
 match r with
 |.ok (.ret u)=>CE outer P w H s Q u s'
 |.ok _=>False
 |.error e=>CX outer H s E e s'
noncomputable abbrev lawS:Str:="_law_script"
structure FnOk (P:Program) (w:World) (K:PySem.W.Frag) (mg:Str->Option Value) (base:Heap) (CX:CXT) (k:Nat) (f:Addr) (fd:FuncData) (ps:List Str) (sp:Sp):Prop where
 len:∀vs H Q E,sp vs H Q E->vs.length=ps.length
 run:∀(A:Around) (outer:List Env) (s:Shared) (H:Hp) (args:Args) (us:List Value) (vs:List V) (Q:VK) (E:XK),Room k A->Env0 P w K mg base A outer s H->(0<s.toks∨ps=[lawS])->BindsTo s fd args (ps.zip us)->Vals vs us->sp vs H Q E->
  codeAny (model P w) A (.call (.ref f) args) (CR CX outer P w H s Q E) s
theorem FnOk.imp {P:Program}{w:World}{K:PySem.W.Frag}{mg:Str->Option Value}{base:Heap}{CX:CXT}{k:Nat}{f:Addr}{fd:FuncData}{ps:List Str}{sp sp':Sp} (F:FnOk P w K mg base CX k f fd ps sp)
  (h:∀vs H Q E,sp' vs H Q E->sp vs H Q E):FnOk P w K mg base CX k f fd ps sp':=
 ⟨fun vs H Q E q=>F.len vs H Q E (h _ _ _ _ q),fun A outer s H args us vs Q E hr he ht hb hv hs=>F.run A outer s H args us vs Q E hr he ht hb hv (h _ _ _ _ hs)⟩
theorem Env0.make {P:Program}{w:World}{K:PySem.W.Frag}{mg:Str->Option Value}{base:Heap}{A:Around}{outer:List Env}{s:Shared}{H:Hp} (e:Env0 P w K mg base A outer s H) (C:Addr) (us:List Value) (kw:List (Str×Value)) :
  Env0 P w K mg base (A.under (.builtin "type.__call__" ⟨.ref C::us,kw⟩)) outer s H:=⟨by first | exact e.frames | (simpa [Around.under,Code.envs,Code.isFrame,pushEnvs] using e.frames),e.mod,e.bs,e.bsz,e.funs,e.frf,e.hok,e.bare⟩
section
variable {X:Cx}{pins:List (Addr×Obj)}{σ:St}{H:Hp}{s s':Shared}
theorem Inv.env0 (I:Inv X pins σ H s):Env0 X.prog X.w X.K X.mg X.base X.A X.stack s H:=
 ⟨I.ok.frames,I.ok.mod,I.bs,Nat.le_trans I.ok.bsz I.sz,I.stack,I.stkFree,I.hok,I.bare⟩
theorem Inv.after {Q:VK}{u:Value} (I:Inv X pins σ H s) (h:CE X.stack X.prog X.w H s Q u s'):EP X pins σ Q u s':=by
 obtain⟨v,H',os,bare,un,hok,r,q⟩:=h
 obtain⟨hh,g,d,t,os'⟩:=s'
 obtain rfl:os'=s.os:=os
 exact(fun ht=>⟨v,H',I.call (h':=hh) (g':=g) (d':=d) (t':=t) (ch:=[]) un hok bare (fun b z=>absurd z (by simp)),r,q⟩)
end
noncomputable def tCall (sp:Sp) (dvs:List V) (E:XK) (t:TA):TE:=fun σ H Q=>t σ H fun vs H1=>sp (vs++dvs) H1 Q E
noncomputable def tMeth (C:Addr) (m:Str) (sp:Sp) (dvs:List V) (E:XK) (ta:TE) (t:TA):TE:=fun σ H Q=>ta σ H fun x H1=>∃a dx fs,x=.ref a/\H1 a=some (.ins C dx fs)/\fs.lookup m=none/\
 t σ H1 fun vs H2=>sp (x::(vs++dvs)) H2 Q E
noncomputable def tMake (C:Addr) (sp:Sp) (dvs:List V) (E:XK) (t:TA):TE:=fun σ H Q=>t σ H fun vs H1=>∀x dx,H1 x=none->H1 dx=none->dx≠x->
 sp (.ref x::(vs++dvs)) (upd (upd H1 dx (.own x)) x (.ins C dx [])) (fun v H2=>v=.non/\Q (.ref x) H2) E
noncomputable def Binds (K:PySem.W.Frag) (fd:FuncData) (ps:List Str) (ds:List Value):Prop:=
 ∀(s:Shared) (us:List Value),K.In s.heap->(us++ds).length=ps.length->BindsTo s fd ⟨us,[]⟩ (ps.zip (us++ds))
theorem Binds.all {K:PySem.W.Frag}{fd:FuncData}{ps:List Str} (h:∀us:List Value,us.length=ps.length->bindArgs fd ⟨us,[]⟩=pure (ps.zip us)):Binds K fd ps []:=fun s us _ hl=>by
 rw [List.append_nil] at hl ⊢
 exact .of_eq (h us hl)
noncomputable def Passes (CX:CXT) (X:Cx) (E:XK):Prop:=∀(pins:List (Addr×Obj)) (σ:St) (H:Hp) (s:Shared) (e:Value) (s':Shared),Inv X pins σ H s->CX X.stack H s E e s'->X.xe e s'
section
variable {X:Cx}{CX:CXT}{k:Nat}{f C:Addr}{fd:FuncData}{ps:List Str}{sp:Sp}{dvs:List V}{ds:List Value}{E:XK}{x m:Str}{p pos apos:Pos}{e o:Expr}{es:List Expr}{ta:TE}{t:TA}
theorem run_fn {pins:List (Addr×Obj)}{σ:St}{H:Hp}{s:Shared}{Q:VK}{us:List Value}{vs:List V} (F:FnOk X.prog X.w X.K X.mg X.base CX k f fd ps sp) (hr:Room k X.A) (hb:Binds X.K fd ps ds) (hd:Vals dvs ds) (hx:Passes CX X E)
  (I:Inv X pins σ H s) (r:Vals vs us) (h:sp (vs++dvs) H Q E):wpAny (model X.prog X.w) X.A (call (.ref f) us) (EP X pins σ Q) X.xe s:=by
 have r2:Vals (vs++dvs) (us++ds):=r.append hd
 have hl:(us++ds).length=ps.length:=by rw [← r2.length]; exact F.len _ _ _ _ h
 refine wpAny_call (codeAny_mono (F.run X.A X.stack s H ⟨us,[]⟩ (us++ds) (vs++dvs) Q E hr I.env0 (.inl I.tk) (hb s us I.kIn hl) r2 h) fun r s' hq=>?_)
 cases r with
 |error e=>exact hx pins σ H s e s' I hq
 |ok fl=>
  cases fl with
  |ret u=>exact I.after hq
  |next=>exact False.elim hq
  |brk=>exact False.elim hq
  |cont=>exact False.elim hq
theorem pe_call (F:FnOk X.prog X.w X.K X.mg X.base CX k f fd ps sp) (hr:Room k X.A) (hg:Gl X x) (hm:X.mg x=some (.ref f)) (hk:PySem.W.keepIn X.K (.ref f)=true) (hb:Binds X.K fd ps ds) (hd:Vals dvs ds) (hx:Passes CX X E)
  (ha:PA X (e::es) t) (hdb:(x==("__debug__" : Str))=false:=by decide) (he:starEach (e::es) X.env=(false,eval e X.env)::starEach es X.env:=by rfl) (hpl:(backTo pos (starEach es X.env)).any (·.1)=false:=by rfl) :
  PE X (.Call (.Name x p) (e::es) [] pos) (tCall sp dvs E t):=by
 intro pins s σ H Q I h
 refine wpAny_Call_Name_kw (ld_glob I hg hm ?_ hdb)
 refine PySem.W.callWith_K (h₀:=X.base) I.ok.mod.kin hk (thn (ha pos pins s σ H _ I h) fun us s1 ⟨vs,H1,I1,r,q⟩=>⟨I1.kIn,?_⟩) he hpl
 exact run_fn F hr hb hd hx I1 r q
theorem pe_meth {pl:Sem Bool} (he:PE X o ta) (c:Cls X.K C) (hm:Meth X.K C m f) (F:FnOk X.prog X.w X.K X.mg X.base CX k f fd ps sp) (hr:Room k X.A) (hb:Binds X.K fd ps ds) (hd:Vals dvs ds) (hx:Passes CX X E) (ha:PA X (e::es) t)
  (hst:starEach (e::es) X.env=(false,eval e X.env)::starEach es X.env:=by rfl) (hpl:(backTo pos (starEach es X.env)).any (·.1)=false:=by rfl)
  (ht:eval (.Call (.Attribute o m apos) (e::es) [] pos) X.env=(do
   let ov ← eval o X.env
   standAt apos.atName
   let (f,first) ← holding [ov] (getMethod ov m pl)
   callWith pos f first (backTo pos (starEach (e::es) X.env)) (backToKw pos (keywordEach [] X.env))):=by rfl) :
  PE X (.Call (.Attribute o m apos) (e::es) [] pos) (tMeth C m sp dvs E ta t):=by
 intro pins s σ H Q I h
 refine PySem.W.methodCall_KW (pl:=pl) (thn (he pins s σ H _ I h) fun u s1 ⟨x,H1,I1,rx,a,dx,fs,ex,ea,l,q⟩=>?_) ht
 subst ex
 obtain rfl:u=Value.ref a:=rx
 refine getmeth_ok I1 ea c hm l ?_
 refine PySem.W.callWith_K (first:=[.ref a]) (h₀:=X.base) I.ok.mod.kin hm.kp (thn (ha pos pins s1 σ H1 _ I1 q) fun us s2 ⟨vs,H2,I2,r,q2⟩=>⟨I2.kIn,?_⟩) hst hpl
 exact run_fn (us:=.ref a::us) (vs:=.ref a::vs) F hr hb hd hx I2 (.cons rfl r) q2
theorem pe_meth0 {pl:Sem Bool} (he:PE X o ta) (c:Cls X.K C) (hm:Meth X.K C m f) (F:FnOk X.prog X.w X.K X.mg X.base CX k f fd ps sp) (hr:Room k X.A) (hb:Binds X.K fd ps ds) (hd:Vals dvs ds) (hx:Passes CX X E)
  (ht:eval (.Call (.Attribute o m apos) [] [] pos) X.env=(do
   let ov ← eval o X.env
   standAt apos.atName
   let (f,first) ← holding [ov] (getMethod ov m pl)
   callWith pos f first (backTo pos (starEach [] X.env)) (backToKw pos (keywordEach [] X.env))):=by rfl) :
  PE X (.Call (.Attribute o m apos) [] [] pos) (tMeth C m sp dvs E ta tNil):=by
 intro pins s σ H Q I h
 refine PySem.W.methodCall_KW (pl:=pl) (thn (he pins s σ H _ I h) fun u s1 ⟨x,H1,I1,rx,a,dx,fs,ex,ea,l,q⟩=>?_) ht
 subst ex
 obtain rfl:u=Value.ref a:=rx
 refine getmeth_ok I1 ea c hm l ?_
 exact PySem.W.callWith_K0 (first:=[.ref a]) I1.kIn hm.kp (run_fn (us:=[.ref a]) (vs:=[.ref a]) F hr hb hd hx I1 (.cons rfl .nil) q)
structure Mk (K:PySem.W.Frag) (C f:Addr):Prop where
 makes:PySem.W.makesIn K C=true
 init:PySem.W.findIn K (.ref C) "__init__" = some (some (.ref f))
 fn:PySem.W.isFn K (.ref f)=true
 kp:PySem.W.keepIn K (.ref C)=true
theorem run_make {pins:List (Addr×Obj)}{σ:St}{H:Hp}{s:Shared}{Q:VK}{us:List Value}{vs:List V} (M:Mk X.K C f) (F:FnOk X.prog X.w X.K X.mg X.base CX k f fd ps sp) (hr:Room (k+1) X.A) (hb:Binds X.K fd ps ds) (hd:Vals dvs ds)
  (hx:Passes CX X E) (I:Inv X pins σ H s) (r:Vals vs us)
  (h:∀x dx,H x=none->H dx=none->dx≠x->sp (.ref x::(vs++dvs)) (upd (upd H dx (.own x)) x (.ins C dx [])) (fun v H2=>v=.non/\Q (.ref x) H2) E) :
  wpAny (model X.prog X.w) X.A (call (.ref C) us) (EP X pins σ Q) X.xe s:=by
 have hq:=h (s.heap.objs.size+1) s.heap.objs.size (I.hok.fresh (Nat.le_succ _)) (I.hok.fresh (Nat.le_refl _)) (Nat.ne_of_lt (Nat.lt_succ_self _))
 have I2:=Inv.made (C:=C) I
 have r2:Vals (V.ref (s.heap.objs.size+1)::(vs++dvs)) (Value.ref (s.heap.objs.size+1)::(us++ds)):=.cons rfl (r.append hd)
 have hl:(Value.ref (s.heap.objs.size+1)::us++ds).length=ps.length:=by
  have e:=r2.length
  rw [F.len _ _ _ _ hq] at e
  exact e.symm
 refine wpAny_call (make_map (f:=f) I.kIn M.makes M.init (beq_iff_eq.mp M.fn) (codeAny_mono (F.run _ X.stack _ _ ⟨Value.ref (s.heap.objs.size+1)::us,[]⟩ (Value.ref (s.heap.objs.size+1)::(us++ds)) _ _ E (hr.make C us [])
  (I2.env0.make C us []) (.inl I2.tk) (hb _ (Value.ref (s.heap.objs.size+1)::us) I2.kIn hl) r2 hq) fun r s' hq'=>?_))
 cases r with
 |error e=>exact hx pins σ _ _ e s' I2 hq'
 |ok fl=>
  cases fl with
  |ret u=>
   obtain⟨v0,_,_,_,_,_,rv0,ev0,_⟩:=id hq'
   subst ev0
   exact⟨rv0,fun ht=>by
    obtain⟨v,H',I3,rv,ev,q3⟩:=I2.after hq' ht
    exact⟨V.ref (s.heap.objs.size+1),H',I3,rfl,q3⟩⟩
  |next=>exact False.elim hq'
  |brk=>exact False.elim hq'
  |cont=>exact False.elim hq'
theorem pe_make0 (M:Mk X.K C f) (F:FnOk X.prog X.w X.K X.mg X.base CX k f fd ps sp) (hr:Room (k+1) X.A) (hg:Gl X x) (hm:X.mg x=some (.ref C)) (hb:Binds X.K fd ps ds) (hd:Vals dvs ds) (hx:Passes CX X E)
  (hdb:(x==("__debug__" : Str))=false:=by decide):PE X (.Call (.Name x p) [] [] pos) (tMake C sp dvs E tNil):=by
 intro pins s σ H Q I h
 refine wpAny_Call_Name_kw (ld_glob I hg hm ?_ hdb)
 exact PySem.W.callWith_K0 I.kIn M.kp (run_make (us:=[]) M F hr hb hd hx I .nil h)
end
structure FnScope (N P:List Str) (sc:Scope):Prop where
 kind:sc.kind=.function
 co:sc.isCoroutine=false
 gen:sc.isGenerator=false
 nd:N.Nodup
 pre:N.take P.length=P
 par:∀x∈P,sc.names.lookup x=some .local∨sc.names.lookup x=some .cell
 fst:P=[lawS]->sc.names.lookup lawS=some .local∨sc.names.lookup lawS=some .cell
 nofree:∀y∈sc.names,y.2≠.free
theorem bindL_out {kindOf:Str->Option NameKind}{x:Str}:∀{binds:List (Str×Value)}{m:Str->Option Value},(∀v,(x,v)∉binds)->bindL kindOf binds m x=m x
 | [],_,_=>rfl
 | (n,v)::r,m,h=>by
  unfold bindL
  rw [bindL_out fun w hw=>h w (List.mem_cons_of_mem _ hw)]
  split
  ·have:x≠n:=by rintro rfl; exact h v List.mem_cons_self
   simp [this]
  ·rfl
theorem bindC_out {kindOf:Str->Option NameKind}{x:Str}:∀{binds:List (Str×Value)}{m:Str->Option Value},(∀v,(x,v)∉binds)->bindC kindOf binds m x=m x
 | [],_,_=>rfl
 | (n,v)::r,m,h=>by
  unfold bindC
  rw [bindC_out fun w hw=>h w (List.mem_cons_of_mem _ hw)]
  split
  ·rfl
  ·have:x≠n:=by rintro rfl; exact h v List.mem_cons_self
   simp [this]
theorem bindL_get {kindOf:Str->Option NameKind}{x:Str}{v:Value}:∀{P:List Str}{vs:List Value}{i:Nat}{m:Str->Option Value},P.Nodup->P[i]?=some x->vs[i]?=some v->kindOf x=some .local->
  bindL kindOf (P.zip vs) m x=some v
 | [],_,_,_,_,h,_,_=>by simp at h
 |_::_,[],_,_,_,_,h,_=>by simp at h
 |p::P,w::vs,0,m,nd,h1,h2,hk=>by
  simp at h1 h2; subst h1; subst h2
  show bindL kindOf ((p,w)::P.zip vs) m p=_
  unfold bindL
  rw [bindL_out fun v hv=>(List.nodup_cons.mp nd).1 (List.of_mem_zip hv).1,if_pos hk]
  simp
 |p::P,w::vs,i+1,m,nd,h1,h2,hk=>by
  show bindL kindOf ((p,w)::P.zip vs) m x=_
  unfold bindL
  exact bindL_get (i:=i) (List.nodup_cons.mp nd).2 (by simpa using h1) (by simpa using h2) hk
theorem bindC_get {kindOf:Str->Option NameKind}{x:Str}{v:Value}:∀{P:List Str}{vs:List Value}{i:Nat}{m:Str->Option Value},P.Nodup->P[i]?=some x->vs[i]?=some v->kindOf x≠some .local->
  bindC kindOf (P.zip vs) m x=some v
 | [],_,_,_,_,h,_,_=>by simp at h
 |_::_,[],_,_,_,_,h,_=>by simp at h
 |p::P,w::vs,0,m,nd,h1,h2,hk=>by
  simp at h1 h2; subst h1; subst h2
  show bindC kindOf ((p,w)::P.zip vs) m p=_
  unfold bindC
  rw [bindC_out fun v hv=>(List.nodup_cons.mp nd).1 (List.of_mem_zip hv).1,if_neg hk]
  simp
 |p::P,w::vs,i+1,m,nd,h1,h2,hk=>by
  show bindC kindOf ((p,w)::P.zip vs) m x=_
  unfold bindC
  exact bindC_get (i:=i) (List.nodup_cons.mp nd).2 (by simpa using h1) (by simpa using h2) hk
noncomputable def start (N:List Str) (vs:List V):St:=vs.map some++List.replicate (N.length - vs.length) none
noncomputable def cxOf (CX:CXT) (P:Program) (w:World) (K:PySem.W.Frag) (mg:Str->Option Value) (base:Heap) (N:List Str) (qual:Str) (scope:Scope) (f:Addr) (cd:Value) (A:Around) (outer:List Env) (s:Shared) (H:Hp) (E:XK):Cx where
 prog:=P
 w:=w
 K:=K
 mg:=mg
 base:=base
 A:=A.deeper (envOfC qual scope s.heap.objs.size f cd)
 N:=N
 s₀:=s
 H₀:=H
 env:=envOfC qual scope s.heap.objs.size f cd
 outer:=outer
 stack:=envOfC qual scope s.heap.objs.size f cd::outer
 ex:=[]
 calm:=true
 fn:=fun _=>true
 pn:=[]
 xe:=fun e s'=>wpAny (model P w) (A.deeper (envOfC qual scope s.heap.objs.size f cd)) (leaving (envOfC qual scope s.heap.objs.size f cd) e) (fun _ s''=>CX outer H s E e s'') (fun e' s''=>CX outer H s E e' s'') s'
theorem cell_has {sc:Scope}{n:Nat}{x:Str} (h:sc.names.lookup x=some .cell):∃c,(cellsFrom n sc.names []).lookup x=some c:=by
 have q:=PySem.W.cellsFrom_some sc.names n [] (.inl h)
 exact Option.isSome_iff_exists.mp q
theorem inv_start {CX:CXT}{P:Program}{w:World}{K:PySem.W.Frag}{mg:Str->Option Value}{base:Heap}{N ps:List Str}{qual:Str}{scope:Scope}{f:Addr}{cd:Value}{A:Around}{outer:List Env}{s s1:Shared}{H:Hp}{E:XK}{us:List Value}{vs:List V}
  (S:FnScope N ps scope) (hd:A.handled=none) (e0:Env0 P w K mg base A outer s H) (hl:vs.length=ps.length) (r:Vals vs us)
  (x:InCallC s s.heap.objs.size (bindL (envOfC qual scope s.heap.objs.size f cd).kindOf (ps.zip us) fun _=>none) (cellsFrom (s.heap.objs.size+1) scope.names []) (bindC (envOfC qual scope s.heap.objs.size f cd).kindOf (ps.zip us) fun _=>none) s1) (ht1:0<s1.toks) :
  Inv (cxOf CX P w K mg base N qual scope f cd A outer s H E) [] (start N vs) H s1:=by
 have hpl:ps.length<=N.length:=by have:=congrArg List.length S.pre; rw [List.length_take] at this; omega
 obtain⟨h1,tk,rfl,hk⟩:=x.done
 have noA:∀b:Addr,b∉(cxOf CX P w K mg base N qual scope f cd A outer s H E).ex:=fun b z=>absurd (show b∈([]:List Addr) from z) (by simp)
 refine⟨⟨e0.mod,S.kind,rfl,rfl,Nat.le_refl _,fun y z c h1 h2=>?_,fun y hy=>?_,fun y c _ h=>?_,fun _=>hd,Around.frames_deeper e0.frames,.inr ⟨rfl,rfl⟩,fun b z=>absurd z (noA b),e0.bs,e0.bsz,fun b _ _=>noA b,fun b z=>absurd z (noA b),e0.funs,e0.frf⟩,
  rfl,e0.bare,Un.kept hk,⟨_,x.toInCall.ns,fun i y v h1 h2 h3=>?_⟩,fun y c h=>⟨_,x.cell y c h⟩,e0.hok.fresh (Nat.le_refl _),fun y c h=>?_,fun p hp=>absurd (show p∈([]:List (Addr×Obj)) from hp) (by simp),e0.hok.kept hk,?_,ht1⟩
 ·exact name_of_addr x.apart (PySem.mem_of_lookup h1) (PySem.mem_of_lookup h2)
 ·have hy:scope.names.lookup y=some .cell∨scope.names.lookup y=some .free:=hy
  rcases hy with hy | hy
  ·exact cell_has hy
  ·exact absurd rfl (S.nofree _ (PySem.mem_of_lookup hy))
 ·exact Nat.le_of_lt (x.above y c (PySem.mem_of_lookup h))
 ·have hi:i<vs.length:=by
   unfold start at h2
   by_cases hi:i<vs.length
   ·exact hi
   ·rw [List.getElem?_append_right (by simpa using hi)] at h2
    rw [List.getElem?_replicate] at h2
    split at h2 <;> cases h2
  have ha:vs[i]?=some v:=by
   unfold start at h2
   rw [List.getElem?_append_left (by simpa using hi),List.getElem?_map] at h2
   cases e:vs[i]? with
   |none=>rw [e] at h2; cases h2
   |some a=>rw [e] at h2; cases h2; rfl
  obtain⟨u,hu,rv⟩:=r.get ha
  have hp:ps[i]?=some y:=by
   rw [← S.pre,List.getElem?_take_of_lt (by omega)]; exact h1
  have ndP:ps.Nodup:=by rw [← S.pre]; exact S.nd.sublist (List.take_sublist _ _)
  refine⟨u,rv,?_⟩
  rcases S.par y (List.mem_of_getElem? hp) with k | k
  ·exact .inl ⟨k,bindL_get ndP hp hu k⟩
  ·obtain⟨c,e⟩:=cell_has (n:=s.heap.objs.size+1) k
   refine .inr ⟨.inl k,c,e,?_⟩
   have q:=x.cell y c e
   rw [bindC_get ndP hp hu (by show scope.names.lookup y≠_; rw [k]; decide)] at q
   exact q
 ·exact e0.hok.fresh (Nat.le_of_lt (x.above y c (PySem.mem_of_lookup h)))
 ·unfold start
  show _=N.length
  rw [List.length_append,List.length_map,List.length_replicate]
  omega
theorem stLT {M:Model}{A:Around}{E:Value->Shared->Prop}{s₀ s:Shared}{m cm:Str->Option Value}{env:Env}{n:Str}{v:Value}{Q:Unit->Shared->Prop} (x:InCallC s₀ env.locals m env.cells cm s) (hk:env.scope.kind=.function) (hl:env.kindOf n=some .local)
  (h:∀s',InCallC s₀ env.locals (fun y=>if y=n then some v else m y) env.cells cm s'->0<s'.toks->Q () s'):wpAny M A (storeName env n v) Q E s:=by
 refine wpAny_storeName_local hl x.toInCall.ns (fun h' hn' hs'=>h _ ⟨⟨?_,hn',fun b o e=>?_,x.toInCall.fresh⟩,fun k c hc=>?_,x.apart,x.above⟩ (Nat.succ_pos _)) (by rw [hk]; rfl)
 ·obtain⟨h₁,tk,rfl⟩:=x.toInCall.same
  exact⟨h',_,rfl⟩
 ·exact hs'.extBut b o (Nat.ne_of_lt (Nat.lt_of_lt_of_le (Heap.lt_size e) x.toInCall.fresh)) (x.toInCall.keep b o e)
 ·exact(x.cell k c hc).sameBut hs' (Nat.ne_of_gt (x.above k c (PySem.mem_of_lookup hc)))
theorem newEnvT {prog:Program}{w:World}{A:Around}{E:Value->Shared->Prop}{s:Shared}{scope:Scope}{globals:Addr}{ps:List Str}{us:List Value}{qual:Str}{func:Option Addr}{code:Value}{builtins:Addr}{Q:Env->Shared->Prop}
  (hk:scope.kind=.function) (ht:0<s.toks∨ps=[lawS]) (hl:us.length=ps.length) (hf:ps=[lawS]->scope.names.lookup lawS=some .local)
  (hkind:∀x∈ps.zip us,scope.names.lookup x.1=some .local∨(scope.names.lookup x.1=some .cell/\((cellsFrom (s.heap.objs.size+1) scope.names []).lookup x.1).isSome=true))
  (hQ:∀env,env=newEnv scope s.heap.objs.size globals (cellsFrom (s.heap.objs.size+1) scope.names []) qual func code none builtins->
   ∀s',InCallC s env.locals (bindL env.kindOf (ps.zip us) fun _=>none) env.cells (bindC env.kindOf (ps.zip us) fun _=>none) s'->0<s'.toks->Q env s') :
  wpAny (model prog w) A (newFunctionEnv scope globals [] (ps.zip us) qual func code none builtins) Q E s:=by
 rcases ht with ht | ht
 ·exact wpAny_with_toks (n:=1) ht (wpAny_newFunctionEnv_cells hk hkind fun env he s' x h=>hQ env he s' x h)
 ·have hF:=hf ht
  clear hf
  subst ht
  obtain⟨u,rfl⟩:∃u,us=[u]:=by
   match us,hl with
   | [u],_=>exact⟨u,rfl⟩
  have hz:([lawS]:List Str).zip [u]=[(lawS,u)]:=rfl
  rw [hz] at hQ hkind ⊢
  simp only [newFunctionEnv,Option.isSome_none,Bool.false_eq_true,if_false]
  refine wpAny_bind (wpAny_alloc ?_)
  refine wpAny_bind (wpAny_layCells _ (fun name kind cells=>by cases hkc:kind==NameKind.cell <;> simp [hkc]) _ _ _ _ ?_)
  have ok:=cellsFrom_ok scope.names (s.heap.push {cls:=.type "frame",data:=.dict #[]}) (s.heap.objs.size+1) [] ⟨fun _ _ hm=>(nomatch hm),List.Pairwise.nil⟩ (by rw [Heap.size_push]; exact Nat.le_refl _)
  rw [Heap.size_push] at ok
  rw [show ({s with heap:=s.heap.push {cls:=.type "frame",data:=.dict #[]}}:Shared).heap.objs.size=s.heap.objs.size+1 from Heap.size_push ..]
  have x0:InCallC s (newEnv scope s.heap.objs.size globals (cellsFrom (s.heap.objs.size+1) scope.names []) qual func code none builtins).locals (fun _=>none) (newEnv scope s.heap.objs.size globals (cellsFrom (s.heap.objs.size+1) scope.names []) qual func code none builtins).cells (fun _=>none) {s with heap:=pushCells (s.heap.push {cls:=.type "frame",data:=.dict #[]}) scope.names}:=
   ⟨⟨⟨_,_,rfl⟩,(Heap.Ns.new s.heap (.type "frame")).keeps (pushCells_keeps _ _),fun b o e=>pushCells_keeps _ _ b o (Heap.get?_push_of_some _ e),Nat.le_refl _⟩,fun n c hc=>(ok.empty n c (PySem.mem_of_lookup hc)).1,ok.apart,fun n c hm=>(ok.empty n c hm).2⟩
  rw [List.forIn_cons]
  refine wpAny_bind (wpAny_bind (wpAny_bind (stLT x0 hk hF fun s' x' ht'=>wpAny_pure ?_)))
  show wpAny _ _ (forIn [] _ _) _ _ _
  rw [List.forIn_nil]
  refine wpAny_pure (wpAny_pure (hQ _ rfl s' ?_ ht'))
  unfold bindL bindC
  have hF':(newEnv scope s.heap.objs.size globals (cellsFrom (s.heap.objs.size+1) scope.names []) qual func code none builtins).kindOf lawS=some .local:=hF
  rw [if_pos hF',if_pos hF']
  exact x'
theorem fn_of {CX:CXT}{P:Program}{w:World}{K:PySem.W.Frag}{mg:Str->Option Value}{base:Heap}{k:Nat}{f:Addr}{name qual:Str}{params:Arguments}{body:List Stmt}{scope:Scope}{dV kV doc pm cdv ct oc:Value}{an od:Option Addr}
  {osl:Array (Option Value)} {N ps:List Str} {sp:Sp} (lk:K.lookup f=some ⟨oc,od,.func (PySem.W.fnOf name qual params body scope dV kV doc pm an cdv ct),osl⟩) (hcd:PySem.W.codeIn K cdv qual=true) (S:FnScope N ps scope)
  (hf:ps=[lawS]->scope.names.lookup lawS=some .local)
  (len:∀vs H Q E,sp vs H Q E->vs.length=ps.length)
  (hbody:∀(A:Around) (outer:List Env) (s:Shared) (H:Hp) (vs:List V) (Q:VK) (E:XK),Room k (A.deeper (envOfC qual scope s.heap.objs.size f cdv))->sp vs H Q E->
   ∃t,PSs (cxOf CX P w K mg base N qual scope f cdv A outer s H E) body t/\t {nx:=fun _ H'=>Q .non H',rt:=Q} (start N vs) H) :
  FnOk P w K mg base CX (k+1) f (PySem.W.fnOf name qual params body scope dV kV doc pm an cdv ct) ps sp:=by
 refine⟨len,fun A outer s H args us vs Q E hr e0 ht0 hb r hsp=>?_⟩
 have hl:=len _ _ _ _ hsp
 have KX:K.In s.heap:=e0.mod.kin.keeps fun b o e=>(e0.bs b o e).1
 have lim:s.heap.NoLimit:=e0.mod.nolimit.keeps fun b o e=>(e0.bs b o e).1
 have hkind:∀y∈ps.zip us,scope.names.lookup y.1=some .local∨(scope.names.lookup y.1=some .cell/\((cellsFrom (s.heap.objs.size+1) scope.names []).lookup y.1).isSome=true):=fun⟨n,v⟩ hy=>by
  rcases S.par n (List.of_mem_zip hy).1 with q | q
  ·exact .inl q
  ·exact .inr ⟨q,PySem.W.cellsFrom_some _ _ _ (.inl q)⟩
 refine codeAny_call_function hr.depth (KX _ _ lk) rfl S.co S.gen rfl (PySem.W.codeRec_of KX hcd) (hb _ _ _ _ ?_)
 refine newEnvT S.kind ht0 (by rw [← r.length]; exact hl) hf hkind fun env he s1 x ht1=>?_
 subst he
 refine⟨lim.keeps x.toInCall.keep,codeAny_func ?_⟩
 obtain⟨t,ht,hq⟩:=hbody A outer s H vs Q E (hr.deeper _) hsp
 have I:Inv (cxOf CX P w K mg base N qual scope f cdv A outer s H E) [] (start N vs) H s1:=inv_start S hr.hd e0 hl r x ht1
 refine thn (ht [] s1 (start N vs) H _ I hq) fun fl s' hs=>?_
 have fin:∀{σ':St} {H':Hp} {v:V} {u:Value},Inv (cxOf CX P w K mg base N qual scope f cdv A outer s H E) [] σ' H' s'->RelV v u->Q v H'->CE outer P w H s Q u s':=
  fun {σ' H' v u} J rv q=>⟨v,H',J.os,J.bare,J.base,J.hok,rv,q⟩
 cases fl with
 |ret u=>
  obtain⟨v,σ',H',J,rv,q⟩:=hs
  exact fin J rv q
 |next=>
  obtain⟨σ',H',J,q⟩:=hs
  exact fin (v:=V.non) (u:=Value.none) J rfl q
 |brk=>
  obtain⟨_,_,_,q⟩:=hs
  exact False.elim q
 |cont=>
  obtain⟨_,_,_,q⟩:=hs
  exact False.elim q
section
variable {X:Cx}{x:Str}{p pos:Pos}{e:Expr}{es:List Expr}{t:TA}{id T:String}{r:List V->Hp->VK->Prop}
noncomputable def tCB (r:List V->Hp->VK->Prop) (t:TA):TE:=fun σ H Q=>t σ H fun vs H1=>r vs H1 Q
theorem pe_callB (hc:CallR X (.builtin id) r) (hg:Gl X x) (hm:X.mg x=none) (hv:bootBuiltins x=some (.builtin id)) (ha:PA X (e::es) t) (hn:x≠"__name__" := by decide) (hdb:(x==("__debug__" : Str))=false:=by decide)
  (he:starEach (e::es) X.env=(false,eval e X.env)::starEach es X.env:=by rfl) (hpl:(backTo pos (starEach es X.env)).any (·.1)=false:=by rfl):PE X (.Call (.Name x p) (e::es) [] pos) (tCB r t):=by
 intro pins s σ H Q I h
 refine wpAny_Call_Name_kw (ld_blt I hg hm hv ?_ hn hdb)
 exact PyProof.Rows.callWith_builtin1 (thn (ha pos pins s σ H _ I h) fun us s1 ⟨vs,H1,I1,r1,q1⟩=>hc pins s1 σ H1 vs us Q I1 r1 q1) he hpl
theorem pe_callTy (hc:CallR X (.type T) r) (hg:Gl X x) (hm:X.mg x=none) (hv:bootBuiltins x=some (.type T)) (ha:PA X (e::es) t) (hn:x≠"__name__" := by decide) (hdb:(x==("__debug__" : Str))=false:=by decide)
  (he:starEach (e::es) X.env=(false,eval e X.env)::starEach es X.env:=by rfl) (hpl:(backTo pos (starEach es X.env)).any (·.1)=false:=by rfl):PE X (.Call (.Name x p) (e::es) [] pos) (tCB r t):=by
 intro pins s σ H Q I h
 refine wpAny_Call_Name_kw (ld_blt I hg hm hv ?_ hn hdb)
 exact PyProof.Rows.callWith_type1 (thn (ha pos pins s σ H _ I h) fun us s1 ⟨vs,H1,I1,r1,q1⟩=>hc pins s1 σ H1 vs us Q I1 r1 q1) he hpl
end
end L2
namespace HT
open PySem PyProof.Rows
section
variable {prog:Program}{w:World}{A:Around}{E:Value->Shared->Prop}{s:Shared}
theorem cat_tup {t b:Addr}{vs ws:List Value}{Q:Value->Shared->Prop} (ht:IsTup s.heap t vs.toArray) (hb:IsTup s.heap b ws.toArray) (hv:vs≠[])
  (h1:ws=[]->Q (.ref t) s) (h2:ws≠[]->Q (.ref s.heap.objs.size) {s with heap:=s.heap.push {cls:=.type "tuple",data:=.seq (vs++ws).toArray}})
  (hsz:vs.length+ws.length<=sizeLine):wpAny (model prog w) A (binaryOp .Add (.ref t) (.ref b)) Q E s:=by
 obtain⟨⟨cls,dd,data,sl⟩,ho,hc,n,hd⟩:=id ht
 obtain⟨⟨cls2,dd2,data2,sl2⟩,ho2,hc2,n2,hd2⟩:=id hb
 simp only at hc hd hc2 hd2
 subst hc hd hc2 hd2
 have e:vs.toArray++ws.toArray=(vs++ws).toArray:=by simp
 by_cases hw:ws=[]
 ·exact concat_meets ⟨_,ho,rfl⟩ ⟨_,ho2,rfl⟩ noFill_tuple_add seq_tuple_add PySem.F.slot_tuple_add PySem.F.entry_tuple_add (PySem.F.args_tuple_add_2 _ _)
   (tuple_addW1 t b vs.toArray ws.toArray n n2 dd dd2 sl sl2 (by simpa using hv) (by simp [hw])) ⟨ho,ho2,h1 hw⟩
 ·refine concat_meets ⟨_,ho,rfl⟩ ⟨_,ho2,rfl⟩ noFill_tuple_add seq_tuple_add PySem.F.slot_tuple_add PySem.F.entry_tuple_add (PySem.F.args_tuple_add_2 _ _)
   (tuple_addW2 t b vs.toArray ws.toArray n n2 dd dd2 sl sl2 (by simpa using hv) (by simpa using hw) (by rw [List.size_toArray,List.size_toArray]; exact hsz)) ⟨ho,ho2,?_⟩
  rw [e]
  exact h2 hw
noncomputable def sIx (n d:Nat):Option Int->Nat
 |none=>d
 |some v=>if v<0 then (v+(n:Int)).toNat else min v.toNat n
theorem sIx_le (n d:Nat) (hd:d<=n) (o:Option Int):sIx n d o<=n:=by
 cases o with
 |none=>exact hd
 |some v=>
  show (if v<0 then (v+(n:Int)).toNat else min v.toNat n)<=n
  by_cases hv:v<0
  ·rw [if_pos hv]; omega
  ·rw [if_neg hv]; exact Nat.min_le_right _ _
end
end HT
namespace L2
open PySem PySem.Spec PyProof.Rows
noncomputable abbrev TO:=St->Hp->(Option Int->Hp->Prop)->Prop
noncomputable def PO (X:Cx) (e:Option Expr) (t:TO):Prop:=
 ∀(pins:List (Addr×Obj)) (s:Shared) (σ:St) (H:Hp) (Q:Option Int->Hp->Prop),Inv X pins σ H s->t σ H Q->
  wpAny (model X.prog X.w) X.A (evalPart e X.env) (Lz fun u s'=>∃o H',Inv X pins σ H' s'/\IsPart u o/\Q o H') X.xe s
noncomputable def tNoPart:TO:=fun _ H Q=>Q none H
noncomputable def tPart (t:TE):TO:=fun σ H Q=>t σ H fun x H1=>∃i,x=.int i/\Q (some i) H1
section
variable {X:Cx}{e:Expr}{te:TE}{lo hi:Option Expr}{tl th:TO}{pos p2:Pos}
theorem po_none:PO X none tNoPart:=by
 intro pins s σ H Q I h
 rw [evalPart_none]
 exact wpAny_pure (fun ht=>⟨none,H,I,.none,h⟩)
theorem po_some (h:PE X e te):PO X (some e) (tPart te):=by
 intro pins s σ H Q I hw
 rw [evalPart_some]
 refine thn (h pins s σ H _ I hw) fun u s1 h_=>?_
 obtain⟨x,H1,I1,r1,q1⟩:=h_
 obtain⟨i,rfl,q⟩:=q1
 obtain⟨t,rfl⟩:=r1
 exact(fun ht=>⟨some i,H1,I1,.int i t,q⟩)
noncomputable def SlR (X:Cx) (r:V->Option Int->Option Int->Hp->VK->Prop):Prop:=
 ∀(pins:List (Addr×Obj)) (s:Shared) (σ:St) (H:Hp) (x:V) (v vl vu:Value) (lo hi:Option Int) (sl:Addr) (Q:VK),Inv X pins σ H s->RelV x v->s.heap.IsSliceOf sl vl vu .none->IsPart vl lo->IsPart vu hi->r x lo hi H Q->
  ∃T id,typeLookup (.type T) "__getitem__" = pure (some (.builtin id))/\s.TypeIs v T/\wpAny (model X.prog X.w) X.A (getItem v (.ref sl)) (EP X pins σ Q) X.xe s
theorem SlR.or {r r':V->Option Int->Option Int->Hp->VK->Prop} (h:SlR X r) (h':SlR X r'):SlR X (fun x lo hi H Q=>r x lo hi H Q∨r' x lo hi H Q):=by
 intro pins s σ H x v vl vu lo hi sl Q I rx hs pl pu q
 rcases q with q | q
 ·exact h pins s σ H x v vl vu lo hi sl Q I rx hs pl pu q
 ·exact h' pins s σ H x v vl vu lo hi sl Q I rx hs pl pu q
noncomputable def tSl (r:V->Option Int->Option Int->Hp->VK->Prop) (te:TE) (tl th:TO):TE:=fun σ H Q=>te σ H fun x H1=>tl σ H1 fun l H2=>th σ H2 fun u H3=>r x l u H3 Q
theorem pe_slice {r:V->Option Int->Option Int->Hp->VK->Prop} (hr:SlR X r) (he:PE X e te) (hl:PO X lo tl) (hu:PO X hi th):PE X (.Subscript e (.Slice lo hi none p2) pos) (tSl r te tl th):=by
 intro pins s σ H Q I h
 refine Subscript_ (thn (he pins s σ H _ I h) fun v s1 ⟨x,H1,I1,r1,q1⟩=>?_)
 refine wpAny_Slice (thn (hl pins s1 σ H1 _ I1 q1) fun vl s2 ⟨l,H2,I2,pl,q2⟩=>thn (hu pins s2 σ H2 _ I2 q2) fun vu s3 ⟨u,H3,I3,pu,q3⟩=>?_)
 rw [evalPart_none]
 refine wpAny_pure ?_
 have I4:Inv X pins σ H3 {s3 with heap:=s3.heap.push {cls:=.type "slice",data:=.fields #[vl,vu,.none]}}:=I3.kept (t':=s3.toks) fun b ob q=>Heap.get?_push_of_some _ q
 obtain⟨T,id,hT,ht,hg⟩:=hr pins {s3 with heap:=s3.heap.push {cls:=.type "slice",data:=.fields #[vl,vu,.none]}} σ H3 x v vl vu l u s3.heap.objs.size Q I4 r1 (Heap.IsSliceOf.new ..) pl pu q3
 show wpAny (model X.prog X.w) X.A (subscriptTail e (.Slice lo hi none p2) v (.ref s3.heap.objs.size)) (EP X pins σ Q) X.xe {s3 with heap:=s3.heap.push {cls:=.type "slice",data:=.fields #[vl,vu,.none]}}
 exact tail_any (ops:=[.ref s3.heap.objs.size,v]) ht hT hg (by with_unfolding_all rfl)
noncomputable def cutV (xs:List V) (lo hi:Option Int):List V:=(xs.drop (HT.sIx xs.length 0 lo)).take (HT.sIx xs.length xs.length hi - HT.sIx xs.length 0 lo)
theorem cutV_length (xs:List V) (lo hi:Option Int):(cutV xs lo hi).length<=xs.length:=by
 unfold cutV
 rw [List.length_take,List.length_drop]
 omega
noncomputable def rCatT (K:PySem.W.Frag):R2:=fun x y H Q=>∃a b xs ys,x=.ref a/\y=.ref b/\SqT K H a xs/\SqT K H b ys/\xs≠[]/\xs.length+ys.length<=sizeLine/\
 (ys=[]->Q (.ref a) H)/\(ys≠[]->∀p,H p=none->Q (.ref p) (upd H p (.tup (xs++ys))))
theorem Vals.nil_iff {xs:List V}{us:List Value} (r:Vals xs us):us=[]↔xs=[]:=by
 cases r with
 |nil=>simp
 |cons _ _=>simp
theorem op_catT:OpR X (binaryOp .Add) (rCatT X.K):=by
 intro pins s σ H x y v u Q I rx ry h
 obtain⟨a,b,xs,ys,rfl,rfl,ha,hb,hx,hz,q1,q2⟩:=h
 cases rx
 cases ry
 obtain⟨its,r1,p1,_⟩:=I.tuple ha
 obtain⟨its2,r2,p2,_⟩:=I.tuple hb
 refine HT.cat_tup p1 p2 (fun z=>hx (r1.nil_iff.mp z)) (fun z=>(fun ht=>⟨.ref a,H,I,rfl,q1 (r2.nil_iff.mp z)⟩)) (fun z=>?_) (by rw [← r1.length,← r2.length]; exact hz)
 refine(fun ht=>⟨.ref s.heap.objs.size,_,I.laid (t':=s.toks) (o:=.tup (xs++ys)) (fun b ob q=>Heap.get?_push_of_some _ q) (Nat.le_refl _) ?_,rfl,q2 (fun w=>z (r2.nil_iff.mpr w)) _ (I.hok.fresh (Nat.le_refl _))⟩)
 exact⟨by rw [List.length_append]; exact hz,_,r1.append r2,IsTup.new _ _⟩
end
noncomputable def ixN (n:Nat) (i:Int):Option Nat:=if 0<=i then (if i<n then some i.toNat else none) else if -(n:Int)<=i then some (i+n).toNat else none
noncomputable def atI {α:Type} (xs:List α) (i:Int):Option α:=(ixN xs.length i).bind fun j=>xs[j]?
theorem ixN_seq {n:Nat}{i:Int}{j:Nat} (h:ixN n i=some j):seqIndex? i n=some j/\j<n/\-(n:Int)<=i/\i<n:=by
 unfold ixN at h
 by_cases h0:0<=i
 ·rw [if_pos h0] at h
  by_cases h1:i<n
  ·rw [if_pos h1] at h
   have e:i.toNat=j:=Option.some.inj h
   exact⟨by rw [seqIndex_of h0 h1,e],by omega,by omega,h1⟩
  ·rw [if_neg h1] at h; cases h
 ·rw [if_neg h0] at h
  by_cases h1 : -(n:Int)<=i
  ·rw [if_pos h1] at h
   have e:(i+n).toNat=j:=Option.some.inj h
   exact⟨by rw [seqIndex_neg (by omega) h1,e],by omega,h1,by omega⟩
  ·rw [if_neg h1] at h; cases h
theorem atI_get {α:Type}{xs:List α}{i:Int}{v:α} (h:atI xs i=some v):∃j,seqIndex? i xs.length=some j/\xs[j]?=some v/\j<xs.length/\-(xs.length:Int)<=i/\i<xs.length:=by
 unfold atI at h
 cases e:ixN xs.length i with
 |none=>rw [e] at h; cases h
 |some j=>
  rw [e] at h
  obtain⟨h1,h2,h3,h4⟩:=ixN_seq e
  exact⟨j,h1,h,h2,h3,h4⟩
noncomputable def PlainIx (b:Expr):Prop:=∀o i,subscripted b false o i=operate [o,i] (getItem o i)
noncomputable def IxR (X:Cx) (r:R2):Prop:=
 ∀(value slice:Expr) (pins:List (Addr×Obj)) (s:Shared) (σ:St) (H:Hp) (x y:V) (v u:Value) (Q:VK),Inv X pins σ H s->RelV x v->RelV y u->r x y H Q->
  subscripted slice false v u=operate [v,u] (getItem v u)->wpAny (model X.prog X.w) X.A (subscriptTail value slice v u) (EP X pins σ Q) X.xe s
noncomputable def MtR (X:Cx) (id:String) (r:V->List V->Hp->VK->Prop):Prop:=
 ∀(pins:List (Addr×Obj)) (s:Shared) (σ:St) (H:Hp) (x:V) (xs:List V) (v:Value) (us:List Value) (Q:VK),Inv X pins σ H s->RelV x v->Vals xs us->r x xs H Q->
  wpAny (model X.prog X.w) X.A (call (.builtin id) (v::us)) (EP X pins σ Q) X.xe s
section
variable {X:Cx}{a b:Expr}{ta tb:TE}{pos:Pos}
theorem IxR.or {r r':R2} (h:IxR X r) (h':IxR X r'):IxR X (fun x y H Q=>r x y H Q∨r' x y H Q):=by
 intro value slice pins s σ H x y v u Q I rx ry q hs
 rcases q with q | q
 ·exact h value slice pins s σ H x y v u Q I rx ry q hs
 ·exact h' value slice pins s σ H x y v u Q I rx ry q hs
theorem pe_ix {r:R2} (hr:IxR X r) (ha:PE X a ta) (hb:PE X b tb) (hs:PlainIx b):PE X (.Subscript a b pos) (tOp r ta tb):=by
 intro pins s σ H Q I h
 exact Subscript_ (binT ha hb I h fun v u s2 x y H2 I2 rx ry q=>hr a b pins s2 σ H2 x y v u Q I2 rx ry q (hs _ _))
noncomputable def rIxL (K:PySem.W.Frag):R2:=fun x y H Q=>∃p xs i v,x=.ref p/\y=.int i/\SqL K H p xs/\atI xs i=some v/\Q v H
noncomputable def rIxT (K:PySem.W.Frag):R2:=fun x y H Q=>∃p xs i v,x=.ref p/\y=.int i/\SqT K H p xs/\atI xs i=some v/\Q v H
noncomputable def rIxS:R2:=fun x y H Q=>∃z i c,x=.str z/\y=.int i/\z.length<=sizeLine/\atI z.cps.toList i=some c/\Q (.str ⟨#[c]⟩) H
theorem ix_list:IxR X (rIxL X.K):=by
 intro value slice pins s σ H x y v u Q I rx ry h hs
 obtain⟨p,xs,i,z,rfl,rfl,hq,he,q⟩:=h
 cases rx
 obtain⟨t,rfl⟩:=ry
 obtain⟨its,r,pl,hz⟩:=I.list hq
 obtain⟨j,h1,h2,h3,h4,h5⟩:=atI_get he
 obtain⟨w,ew,rw'⟩:=r.get h2
 have hl:=r.length
 have hn:=line63
 have fin:EP X pins σ Q w s:=(fun ht=>⟨z,H,I,rw',q⟩)
 by_cases h0:0<=i
 ·have hj:i.toNat=j:=by
   rw [seqIndex_of h0 h5] at h1
   exact Option.some.inj h1
  exact item_listR pl.isList h0 (by omega) (by rw [hj]; simpa using ew) fin hs
 ·have hj:(i+(its.toArray.size:Int)).toNat=j:=by
   rw [seqIndex_neg (by omega) h4] at h1
   rw [List.size_toArray,← hl]
   exact Option.some.inj h1
  exact subscriptTail_builtinR (x:=w) pl.isList.typeIs slot_list_getitem.lookup
   (wpAny_getItem_list_neg (Q:=fun r s'=>r=w/\EP X pins σ Q r s') pl.isList (by omega) (by rw [List.size_toArray] <;> omega) (by omega) (by rw [hj]; simpa using ew) ⟨rfl,fin⟩) hs
theorem ix_tup:IxR X (rIxT X.K):=by
 intro value slice pins s σ H x y v u Q I rx ry h hs
 obtain⟨p,xs,i,z,rfl,rfl,hq,he,q⟩:=h
 cases rx
 obtain⟨t,rfl⟩:=ry
 obtain⟨its,r,pl,hz⟩:=I.tuple hq
 obtain⟨j,h1,h2,h3,h4,h5⟩:=atI_get he
 obtain⟨w,ew,rw'⟩:=r.get h2
 have hl:=r.length
 have hn:=line63
 have fin:EP X pins σ Q w s:=(fun ht=>⟨z,H,I,rw',q⟩)
 exact subscriptTail_builtinR (x:=w) pl.typeIs slot_tuple_getitem.lookup
  (getItem_tuple (j:=j) (Q:=fun r s'=>r=w/\EP X pins σ Q r s') pl (by omega) (by omega) (by rw [List.size_toArray,← hl]; exact h1) (by simpa using ew) ⟨rfl,fin⟩) hs
theorem ix_str:IxR X rIxS:=by
 intro value slice pins s σ H x y v u Q I rx ry h hs
 obtain⟨z,i,c,rfl,rfl,hz,he,q⟩:=h
 obtain⟨t,rfl⟩:=rx
 obtain⟨t',rfl⟩:=ry
 obtain⟨j,h1,h2,h3,h4,h5⟩:=atI_get he
 have hl:z.cps.toList.length=z.length:=by simp [Str.length]
 rw [hl] at h1 h4 h5
 have hn:=line63
 exact tail_any (typeIs_str s z t) slot_str_getitem.lookup (getItem_str (c:=c) (by
  have e1:decide (i < -(2 ^ 63:Int))=false:=decide_eq_false (by omega)
  have e2:decide (i≥2 ^ 63)=false:=decide_eq_false (by omega)
  rw [e1,e2,Bool.or_false]) (by rw [h1]; simpa using h2) (fun ht=>⟨.str ⟨#[c]⟩,H,I.tok _,⟨_,rfl⟩,q⟩)) hs
theorem slice_bounds (lo hi:Option Int) (n:Nat):(sliceBounds lo hi none n).1=((HT.sIx n 0 lo:Nat):Int)/\(sliceBounds lo hi none n).2.1=((HT.sIx n n hi:Nat):Int)/\(sliceBounds lo hi none n).2.2=1:=by
 refine⟨?_,?_,rfl⟩
 ·cases lo with
  |none=>simp [sliceBounds,HT.sIx]
  |some i=>
   simp only [sliceBounds,HT.sIx,Option.getD_none,show (1:Int) > 0 by decide,if_true]
   by_cases h:i<0
   ·simp only [h,if_true] <;> omega
   ·simp only [h,if_false] <;> omega
 ·cases hi with
  |none=>simp [sliceBounds,HT.sIx]
  |some i=>
   simp only [sliceBounds,HT.sIx,Option.getD_none,show (1:Int) > 0 by decide,if_true]
   by_cases h:i<0
   ·simp only [h,if_true] <;> omega
   ·simp only [h,if_false] <;> omega
theorem slicePick_cut (its:List Value) (lo hi:Option Int):slicePick its.toArray lo hi none=((its.drop (HT.sIx its.length 0 lo)).take (HT.sIx its.length its.length hi - HT.sIx its.length 0 lo)).toArray:=by
 obtain⟨h1,h2,h3⟩:=slice_bounds lo hi its.toArray.size
 unfold slicePick
 rw [h1,h2,h3]
 simp only [sliceRange_one,pick_run,List.size_toArray] <;> rfl
noncomputable def rSlL (K:PySem.W.Frag):V->Option Int->Option Int->Hp->VK->Prop:=fun x lo hi H Q=>∃a xs,x=.ref a/\SqL K H a xs/\∀p,H p=none->Q (.ref p) (upd H p (.lst (cutV xs lo hi)))
theorem sl_list:SlR X (rSlL X.K):=by
 intro pins s σ H x v vl vu lo hi sl Q I rx hs pl pu h
 obtain⟨a,xs,rfl,hx,q⟩:=h
 cases rx
 obtain⟨its,r,ht,hz⟩:=I.list hx
 have hlen:=r.length
 refine⟨"list",_,slot_list_getitem.lookup,ht.isList.typeIs,?_⟩
 refine wpAny_getItem_list_slice ht.isList hs pl pu .none (by simp) ?_ (by rw [List.size_toArray] <;> omega)
 rw [slicePick_cut,← hlen]
 refine(fun ht=>⟨.ref s.heap.objs.size,_,I.laid (t':=s.toks) (o:=.lst (cutV xs lo hi)) (fun b ob q=>Heap.get?_push_of_some _ q) (Nat.le_refl _) ?_,rfl,q _ (I.hok.fresh (Nat.le_refl _))⟩)
 exact⟨Nat.le_trans (cutV_length xs lo hi) hz,_,0,(r.drop (HT.sIx xs.length 0 lo)).take (HT.sIx xs.length xs.length hi - HT.sIx xs.length 0 lo),Heap.get?_push_size _ rfl⟩
noncomputable def flatV:V->Bool
 |.non=>true
 |.bl _=>true
 |.int _=>true
 |.str _=>true
 |_=>false
noncomputable def eqV:V->V->Bool
 |.non,.non=>true
 |.bl a,.bl b=>a==b
 |.bl a,.int b=>(if a then 1 else 0)==b
 |.int a,.bl b=>a==(if b then 1 else 0)
 |.int a,.int b=>a==b
 |.str a,.str b=>a==b
 |_,_=>false
theorem eqAt_V {A:Around}{s:Shared}{y x:V}{u v:Value} (ry:RelV y u) (rx:RelV x v) (fy:flatV y=true) (fx:flatV x=true):SeqAt.EqAt A s u v (eqV y x):=by
 cases y with
 |non=>
  cases ry
  cases x with
  |non=>cases rx; exact SeqAt.EqAt.same _
  |bl b=>cases rx; exact SeqAt.EqAt.none_bool b
  |int b=>obtain⟨t,rfl⟩:=rx; exact SeqAt.EqAt.none_int b t
  |str b=>obtain⟨t,rfl⟩:=rx; exact SeqAt.EqAt.none_str b t
  |_=>exact absurd (show false=true from fx) Bool.false_ne_true
 |bl a=>
  cases ry
  cases x with
  |non=>cases rx; exact SeqAt.EqAt.bool_none a
  |bl b=>cases rx; exact SeqAt.EqAt.bool_bool a b
  |int b=>obtain⟨t,rfl⟩:=rx; exact SeqAt.EqAt.bool_int a b t
  |str b=>obtain⟨t,rfl⟩:=rx; exact SeqAt.EqAt.bool_str a b t
  |_=>exact absurd (show false=true from fx) Bool.false_ne_true
 |int a=>
  obtain⟨t',rfl⟩:=ry
  cases x with
  |non=>cases rx; exact SeqAt.EqAt.int_none a t'
  |bl b=>cases rx; exact SeqAt.EqAt.int_bool a t' b
  |int b=>obtain⟨t,rfl⟩:=rx; exact SeqAt.EqAt.int_int a t' b t
  |str b=>obtain⟨t,rfl⟩:=rx; exact SeqAt.EqAt.int_str a t' b t
  |_=>exact absurd (show false=true from fx) Bool.false_ne_true
 |str a=>
  obtain⟨t',rfl⟩:=ry
  cases x with
  |non=>cases rx; exact SeqAt.EqAt.str_none a t'
  |bl b=>cases rx; exact SeqAt.EqAt.str_bool a t' b
  |int b=>obtain⟨t,rfl⟩:=rx; exact SeqAt.EqAt.str_int a t' b t
  |str b=>obtain⟨t,rfl⟩:=rx; exact SeqAt.EqAt.str_str a t' b t
  |_=>exact absurd (show false=true from fx) Bool.false_ne_true
 |_=>exact absurd (show false=true from fy) Bool.false_ne_true
noncomputable def eqU (x:V) (u:Value):Bool:=match u with
 |.none=>eqV .non x
 |.bool b=>eqV (.bl b) x
 |.int i _=>eqV (.int i) x
 |.str z _=>eqV (.str z) x
 |_=>false
theorem eqU_of {x y:V}{u:Value} (r:RelV y u) (f:flatV y=true):eqU x u=eqV y x:=by
 cases y with
 |non=>cases r; rfl
 |bl b=>cases r; rfl
 |int i=>obtain⟨t,rfl⟩:=r; rfl
 |str z=>obtain⟨t,rfl⟩:=r; rfl
 |_=>exact absurd (show false=true from f) Bool.false_ne_true
theorem any_eqU {x:V}:∀{xs:List V}{us:List Value},Vals xs us->xs.all flatV=true->us.any (eqU x)=xs.any fun y=>eqV y x
 |_,_,.nil,_=>rfl
 |y::xs,u::us,.cons r t,f=>by
  rw [List.all_cons,Bool.and_eq_true] at f
  rw [List.any_cons,List.any_cons,eqU_of r f.1,any_eqU t f.2]
theorem mem_eqAt {A:Around}{s:Shared}{x:V}{v:Value} (rx:RelV x v) (fx:flatV x=true):∀{xs:List V}{us:List Value},Vals xs us->xs.all flatV=true->∀u∈us,SeqAt.EqAt A s u v (eqU x u)
 |_,_,.nil,_=>fun u hu=>by cases hu
 |y::xs,u::us,.cons r t,f=>fun u' hu=>by
  rw [List.all_cons,Bool.and_eq_true] at f
  rcases List.mem_cons.mp hu with rfl | hu
  ·rw [eqU_of r f.1]; exact eqAt_V r rx f.1 fx
  ·exact mem_eqAt rx fx t f.2 u' hu
noncomputable def inV (x:V) (xs:List V):Bool:=xs.any fun y=>eqV y x
noncomputable def rIn (K:PySem.W.Frag) (neg:Bool):R2:=fun x y H Q=>∃p xs,y=.ref p/\(SqL K H p xs∨SqT K H p xs)/\flatV x=true/\xs.all flatV=true/\Q (.bl (if neg then !inV x xs else inV x xs)) H
theorem op_in_seq:OpR X (compareOp .In) (rIn X.K false):=by
 intro pins s σ H x y v u Q I rx ry h
 obtain⟨p,xs,rfl,hq,fx,fs,q⟩:=h
 cases ry
 rcases hq with hq | hq
 ·obtain⟨its,r,pl,hz⟩:=I.list hq
  refine SeqAt.in_listAt (eqU x) pl.isList (fun w hw=>mem_eqAt rx fx r fs w (by simpa using hw)) (fun ht=>⟨.bl _,H,I,rfl,?_⟩)
  rw [show its.toArray.any (eqU x)=its.any (eqU x) by simp,any_eqU r fs]
  exact q
 ·obtain⟨its,r,pl,hz⟩:=I.tuple hq
  refine SeqAt.in_tupleAt (eqU x) pl (fun w hw=>mem_eqAt rx fx r fs w (by simpa using hw)) (fun ht=>⟨.bl _,H,I,rfl,?_⟩)
  rw [show its.toArray.any (eqU x)=its.any (eqU x) by simp,any_eqU r fs]
  exact q
theorem call_len_seq:CallR X (.builtin "len") (fun xs H Q=>∃p ys,xs=[.ref p]/\(SqL X.K H p ys∨SqT X.K H p ys)/\Q (.int ys.length) H):=by
 intro pins s σ H xs us Q I r h
 obtain⟨p,ys,rfl,hq,q⟩:=h
 obtain⟨u,rfl,rx⟩:=vals1 r
 cases rx
 have hn:=line63
 rcases hq with hq | hq
 ·obtain⟨its,r',pl,hz⟩:=I.list hq
  have hlen:=r'.length
  exact Calls.call_len_list pl.isList (by simp only [List.size_toArray] <;> omega) (fun ht=>⟨.int ys.length,H,I.tok _,⟨s.toks+1,by rw [List.size_toArray,hlen]⟩,q⟩)
 ·obtain⟨its,r',pl,hz⟩:=I.tuple hq
  have hlen:=r'.length
  exact len_tuple pl (by simp only [List.size_toArray] <;> omega) (fun ht=>⟨.int ys.length,H,I.tok _,⟨s.toks+1,by rw [List.size_toArray,hlen]⟩,q⟩)
theorem call_len_str:CallR X (.builtin "len") (fun xs H Q=>∃z,xs=[.str z]/\z.length<=sizeLine/\Q (.int z.length) H):=by
 intro pins s σ H xs us Q I r h
 obtain⟨z,rfl,hz,q⟩:=h
 obtain⟨u,rfl,t,rfl⟩:=vals1 r
 have hn:=line63
 exact len_str (by omega) (fun ht=>⟨.int z.length,H,I.tok _,⟨_,rfl⟩,q⟩)
theorem CallR.or {f:Value}{r r':List V->Hp->VK->Prop} (h:CallR X f r) (h':CallR X f r'):CallR X f (fun xs H Q=>r xs H Q∨r' xs H Q):=by
 intro pins s σ H xs us Q I rs q
 rcases q with q | q
 ·exact h pins s σ H xs us Q I rs q
 ·exact h' pins s σ H xs us Q I rs q
theorem call_tuple_of:CallR X (.type "tuple") (fun xs H Q=>∃p ys,xs=[.ref p]/\((SqL X.K H p ys/\∀l,H l=none->Q (.ref l) (upd H l (.tup ys)))∨(SqT X.K H p ys/\Q (.ref p) H))):=by
 intro pins s σ H xs us Q I r h
 obtain⟨p,ys,rfl,h⟩:=h
 obtain⟨u,rfl,rx⟩:=vals1 r
 cases rx
 rcases h with ⟨hq,q⟩ | ⟨hq,q⟩
 ·obtain⟨its,r',pl,hz⟩:=I.list hq
  have hlen:=r'.length
  refine call_tuple_list pl.isList (fun h' kp=>?_) (by simp only [List.size_toArray] <;> omega)
  have I1:Inv X pins σ H {s with heap:=h'}:=I.kept (t':=s.toks) kp
  have I2:Inv X pins σ (upd H h'.objs.size (.tup ys)) {s with heap:=h'.push {cls:=.type "tuple",data:=.seq its.toArray}}:=
   I1.laid (t':=s.toks) (fun b o e=>Heap.get?_push_of_some _ e) (Nat.le_refl _) (show ObjOk X.prog X.w _ _ _ (.tup ys) from⟨hz,its,r',IsTup.new _ _⟩)
  exact(fun ht=>⟨.ref h'.objs.size,_,I2,rfl,q _ (I1.hok.fresh (Nat.le_refl _))⟩)
 ·obtain⟨its,r',pl,hz⟩:=I.tuple hq
  exact call_tuple_same pl (fun ht=>⟨.ref p,H,I,rfl,q⟩)
noncomputable def tyV (K:PySem.W.Frag) (T:String) (x:V) (H:Hp):Prop:=match x with
 |.str _=>T = "str"
 |.int _=>T = "int"
 |.ref p=>(T = "list" /\∃xs,SqL K H p xs)∨(T = "tuple" /\∃o,K.lookup p=some o/\o.cls=.type "tuple" /\o.dict=none)∨
   (T = "dict" /\((∃kvs,H p=some (.dK kvs))∨∃kvs,H p=some (.dT kvs)))∨(T = "set" /\∃S n,H p=some (.set S n))
 |_=>False
theorem tyV_is {pins:List (Addr×Obj)}{σ:St}{H:Hp}{s:Shared}{T:String}{x:V}{v:Value} (I:Inv X pins σ H s) (r:RelV x v) (ty:tyV X.K T x H) :
  s.TypeIs v T/\∀a,v=.ref a->∃ob,s.heap.get? a=some ob/\ob.dict=none:=by
 cases x with
 |str z=>
  obtain⟨t,rfl⟩:=r
  cases (show T = "str" from ty)
  exact⟨typeIs_str s z t,fun _ e=>nomatch e⟩
 |int i=>
  obtain⟨t,rfl⟩:=r
  cases (show T = "int" from ty)
  exact⟨typeIs_int s i t,fun _ e=>nomatch e⟩
 |ref p=>
  cases r
  rcases ty with ⟨rfl,xs,hq⟩ | ⟨rfl,o,hk,hc,hd⟩ | ⟨rfl,hk⟩ | ⟨rfl,S,n,hk⟩
  ·obtain⟨its,_,pl,_⟩:=I.list hq
   refine⟨pl.isList.typeIs,fun a e=>?_⟩
   cases e
   obtain⟨o,n,e,c,hd,_⟩:=pl
   exact⟨o,e,hd⟩
  ·refine⟨⟨o,I.kIn p o hk,hc⟩,fun a e=>?_⟩
   cases e
   exact⟨o,I.kIn _ o hk,hd⟩
  ·have z:∃o,s.heap.get? p=some o/\o.ExactDict:=by
    rcases hk with ⟨kvs,hk⟩ | ⟨kvs,hk⟩
    ·obtain⟨_,_,_,_,o,_,_,e,ex,_⟩:=I.hok p _ hk
     exact⟨o,e,ex⟩
    ·obtain⟨_,_,_,_,o,_,_,e,ex,_⟩:=I.hok p _ hk
     exact⟨o,e,ex⟩
   obtain⟨o,e,ex⟩:=z
   refine⟨⟨o,e,ex.1⟩,fun a e2=>?_⟩
   cases e2
   exact⟨o,e,ex.2.1⟩
  ·obtain⟨o,_,_,_,e,ex,_⟩:=I.hok p _ hk
   refine⟨⟨o,e,ex.1⟩,fun a e2=>?_⟩
   cases e2
   exact⟨o,e,ex.2.1⟩
 |_=>exact False.elim ty
noncomputable def tBM0 (K:PySem.W.Frag) (T:String) (r:V->List V->Hp->VK->Prop) (to:TE):TE:=fun σ H Q=>to σ H fun x H1=>tyV K T x H1/\r x [] H1 Q
noncomputable def tBM (K:PySem.W.Frag) (T:String) (r:V->List V->Hp->VK->Prop) (to:TE) (t:TA):TE:=fun σ H Q=>to σ H fun x H1=>tyV K T x H1/\t σ H1 fun xs H2=>r x xs H2 Q
variable {o e:Expr}{es:List Expr}{to:TE}{t:TA}{name:Str}{apos cpos:Pos}{T id:String}{r:V->List V->Hp->VK->Prop}
theorem pe_bm0 (pa:PlainAttrs T) (slot:Slot T name id) (hty:typeOf (.builtin id)=pure (.type "method_descriptor")) (hm:MtR X id r) (ho:PE X o to)
  (hbase:attributeBase o name X.env (eval o X.env)=eval o X.env:=by rfl) (hline:(apos.endLine==cpos.line)=true:=by rfl):PE X (.Call (.Attribute o name apos) [] [] cpos) (tBM0 X.K T r to):=by
 intro pins s σ H Q I h
 refine wpAny_Call_method0_late hbase hline (thn (ho pins s σ H _ I h) fun v s1 ⟨x,H1,I1,r1,ty,q1⟩=>?_)
 obtain⟨h1,h2⟩:=tyV_is I1 r1 ty
 exact⟨T,id,pa,slot,hty,h1,h2,Calls.callWith_builtin rfl (PySem.evalArgs_none (hm pins s1 σ H1 x [] v [] Q I1 r1 .nil q1))⟩
theorem pe_bm (pa:PlainAttrs T) (slot:Slot T name id) (hty:typeOf (.builtin id)=pure (.type "method_descriptor")) (hm:MtR X id r) (ho:PE X o to) (ha:PA X (e::es) t)
  (hbase:attributeBase o name X.env (eval o X.env)=eval o X.env:=by rfl)
  (hfew:((backTo cpos (starEach (e::es) X.env)).all (fun x=>!x.1)&&(backToKw cpos (keywordEach [] X.env)).all (fun x=>x.1.isSome)
   && decide ((e::es).length+([]:List Keyword).length+(if ([]:List Keyword).isEmpty then 0 else 1)<30))=true:=by rfl)
  (hline:(apos.endLine==cpos.line)=true:=by rfl) (hs:starEach (e::es) X.env=(false,eval e X.env)::starEach es X.env:=by rfl) (hplain:(backTo cpos (starEach es X.env)).any (·.1)=false:=by rfl) :
  PE X (.Call (.Attribute o name apos) (e::es) [] cpos) (tBM X.K T r to t):=by
 intro pins s σ H Q I h
 refine wpAny_Call_method_late hbase hfew hline rfl (thn (ho pins s σ H _ I h) fun v s1 ⟨x,H1,I1,r1,ty,q1⟩=>?_)
 obtain⟨h1,h2⟩:=tyV_is I1 r1 ty
 refine⟨T,id,pa,slot,hty,h1,h2,?_⟩
 have hA:=ha cpos pins s1 σ H1 _ I1 q1
 rw [hs] at hA ⊢
 refine Calls.callWith_builtin (by show (false || (backTo cpos (starEach es X.env)).any (·.1))=false; rw [hplain] <;> rfl) (Calls.evalArgs_plain ?_)
 exact thn hA fun us s2 ⟨vs,H2,I2,r2,q2⟩=>hm pins s2 σ H2 x vs v us Q I2 r1 r2 q2
end
noncomputable def MtM (X:Cx) (id:String) (r:V->List V->Hp->VK->Prop):Prop:=
 ∀(pins:List (Addr×Obj)) (s:Shared) (σ:St) (H:Hp) (x:V) (xs:List V) (v:Value) (us:List Value) (Q:VK),Inv X pins σ H s->RelV x v->Vals xs us->r x xs H Q->
  wpAny (model X.prog X.w) X.A (call (.builtin id) (v::us)) (EP X pins σ Q) X.xe s
theorem Vals.one:∀{x:V}{us:List Value},Vals [x] us->∃u,us=[u]/\RelV x u
 |_,_,.cons r .nil=>⟨_,rfl,r⟩
theorem Vals.two:∀{x y:V}{us:List Value},Vals [x,y] us->∃u v,us=[u,v]/\RelV x u/\RelV y v
 |_,_,_,.cons r (.cons q .nil)=>⟨_,_,rfl,r,q⟩
theorem Vals.zero:∀{us:List Value},Vals [] us->us=[]
 |_,.nil=>rfl
theorem Vals.dropLast {xs:List V}{us:List Value} (h:Vals xs us):Vals xs.dropLast us.dropLast:=by
 induction h with
 |nil=>exact .nil
 |cons r t ih=>
  cases t with
  |nil=>exact .nil
  |cons q t'=>exact .cons r ih
theorem Vals.rep {xs:List V}{us:List Value} (h:Vals xs us):∀k:Nat,Vals (List.replicate k xs).flatten (List.replicate k us).flatten
 |0=>.nil
 |k+1=>by
  rw [List.replicate_succ,List.replicate_succ,List.flatten_cons,List.flatten_cons]
  exact Vals.append h (Vals.rep h k)
theorem erase_last {α:Type} (l:List α):l.eraseIdx (l.length - 1)=l.dropLast:=by
 induction l with
 |nil=>rfl
 |cons a r ih=>
  cases r with
  |nil=>rfl
  |cons b r=>
   have e:(a::b::r).length - 1=((b::r).length - 1)+1:=by
    have h1:(a::b::r).length=r.length+2:=rfl
    have h2:(b::r).length=r.length+1:=rfl
    omega
   rw [e,List.eraseIdx_cons_succ,ih]
   all_goals rfl
theorem foldl_rep (its:List Value):∀(k:Nat) (acc:List Value),
  List.foldl (fun x1 x2=>x1++x2) acc.toArray (List.replicate k its.toArray)=(acc++(List.replicate k its).flatten).toArray
 |0,acc=>by simp
 |k+1,acc=>by
  have e:acc.toArray++its.toArray=(acc++its).toArray:=by simp
  have e2:(acc++its)++(List.replicate k its).flatten=acc++(List.replicate (k+1) its).flatten:=by
   rw [List.replicate_succ,List.flatten_cons,List.append_assoc]
  rw [← e2,← foldl_rep its k (acc++its),← e,List.replicate_succ,List.foldl_cons]
section
variable {X:Cx}{pins:List (Addr×Obj)}{σ:St}{H:Hp}{s:Shared}{l b:Addr}{xs ys zs:List V}
theorem Inv.lset {its its':List Value}{n:Nat}{f:Array Value->Array Value}{t':Nat} (I:Inv X pins σ H s) (hH:H l=some (.lst xs))
  (e:s.heap.get? l=some {cls:=.type "list",data:=.seq its.toArray n}) (hf:f its.toArray=its'.toArray) (hv:Vals ys its') (hz:ys.length<=sizeLine) (ht:0<t':=by first | assumption | exact Inv.tk (by assumption)) :
  Inv X pins σ (upd H l (.lst ys)) {s with heap:=s.heap.update l (Obj.mapSeq f),toks:=t'}:=by
 have q:=PySem.IsL.update e f
 rw [hf] at q
 refine I.write (x:=l) (e:=l) (by rw [hH]; exact trivial) (.inl rfl) (fun b' u hb hu=>(Heap.get?_update_other s.heap (Obj.mapSeq f) (Ne.symm hb)).trans hu) ⟨_,q⟩ ?_ ht
 exact⟨hz,its',_,hv,q⟩
theorem Inv.lnew {its:List Value}{t':Nat} (I:Inv X pins σ H s) (hv:Vals ys its) (hz:ys.length<=sizeLine) (ht:0<t':=by first | assumption | exact Inv.tk (by assumption)) :
  Inv X pins σ (upd H s.heap.objs.size (.lst ys)) {s with heap:=s.heap.push {cls:=.type "list",data:=.seq its.toArray},toks:=t'}:=
 I.laid (fun _ _ q=>Heap.get?_push_of_some _ q) (Nat.le_refl _) ⟨hz,its,0,hv,Heap.get?_push_size _ rfl⟩ ht
theorem Inv.fresh (I:Inv X pins σ H s):H s.heap.objs.size=none:=I.hok.fresh (Nat.le_refl _)
theorem Inv.lstM (I:Inv X pins σ H s) (hH:H l=some (.lst xs)):xs.length<=sizeLine/\∃(its:List Value) (n:Nat),Vals xs its/\xs.length=its.length/\s.heap.get? l=some {cls:=.type "list",data:=.seq its.toArray n}:=by
 obtain⟨z,its,n,r,e⟩:=I.hok l _ hH
 exact⟨z,its,n,r,r.length,e⟩
theorem notLongL {n:Nat} (h:n<=sizeLine):Builtin.List.listTooLong n=false:=by
 unfold Builtin.List.listTooLong
 exact decide_eq_false (by omega)
end
section
variable {X:Cx}
noncomputable def rAppend:V->List V->Hp->VK->Prop:=fun x vs H Q=>∃l xs y,x=.ref l/\vs=[y]/\H l=some (.lst xs)/\xs.length<sizeLine/\Q .non (upd H l (.lst (xs++[y])))
theorem mt_append:MtM X "list.append" rAppend:=by
 intro pins s σ H x vs v us Q I rx rv h
 obtain⟨l,xs,y,rfl,rfl,hH,hz,q⟩:=h
 cases rx
 obtain⟨u,rfl,ru⟩:=rv.one
 obtain⟨z,its,n,r,hl,e⟩:=I.lstM hH
 refine call_meets F.slot_list_append ⟨_,e,rfl⟩ F.entry_list_append (F.args_list_append_2 _ _) (PySem.list_append l its.toArray n u (by rw [List.size_toArray]; omega)) ⟨e,?_⟩
 refine(fun ht=>⟨.non,_,I.lset (its':=its++[u]) hH e (by simp) (r.append (.cons ru .nil)) ?_,rfl,q⟩)
 rw [List.length_append,List.length_singleton]
 omega
noncomputable def rPop:V->List V->Hp->VK->Prop:=fun x vs H Q=>∃l xs y,x=.ref l/\vs=[]/\H l=some (.lst xs)/\xs[xs.length - 1]?=some y/\Q y (upd H l (.lst xs.dropLast))
theorem mt_pop:MtM X "list.pop" rPop:=by
 intro pins s σ H x vs v us Q I rx rv h
 obtain⟨l,xs,y,rfl,rfl,hH,hy,q⟩:=h
 cases rx
 have hus:=rv.zero
 subst hus
 obtain⟨z,its,n,r,hl,e⟩:=I.lstM hH
 obtain⟨u,hu,ru⟩:=r.get hy
 have hy':its.toArray[its.toArray.size - 1]?=some u:=by
  show its.toArray[its.length - 1]?=some u
  rw [← Array.getElem?_toList,← hl]
  exact hu
 refine call_meets F.slot_list_pop ⟨_,e,rfl⟩ F.entry_list_pop (F.args_list_pop_1 _) (MeetsSeq.list_pop_last l its.toArray n u hy' (by rw [List.size_toArray]; omega)) ⟨e,?_⟩
 refine(fun ht=>⟨y,_,I.lset (its':=its.dropLast) hH e ?_ r.dropLast ?_,ru,q⟩)
 ·show its.toArray.eraseIdxIfInBounds (its.toArray.size - 1)=its.dropLast.toArray
  rw [List.size_toArray,List.eraseIdxIfInBounds_toArray,erase_last]
 ·rw [List.length_dropLast]
  omega
noncomputable def rClear:V->List V->Hp->VK->Prop:=fun x vs H Q=>∃l xs,x=.ref l/\vs=[]/\H l=some (.lst xs)/\Q .non (upd H l (.lst []))
theorem mt_clear:MtM X "list.clear" rClear:=by
 intro pins s σ H x vs v us Q I rx rv h
 obtain⟨l,xs,rfl,rfl,hH,q⟩:=h
 cases rx
 have hus:=rv.zero
 subst hus
 obtain⟨z,its,n,r,hl,e⟩:=I.lstM hH
 refine call_meets F.slot_list_clear ⟨_,e,rfl⟩ F.entry_list_clear (F.args_list_clear_1 _) (AutoSeq1.list_clear_list_0 l its.toArray n (by rw [List.size_toArray]; omega)) ⟨e,?_⟩
 exact(fun ht=>⟨.non,_,I.lset (its':=[]) (ys:=[]) hH e rfl .nil (Nat.zero_le _),rfl,q⟩)
noncomputable def rRep:R2:=fun x y H Q=>∃l k xs,x=.ref l/\y=.int k/\H l=some (.lst xs)/\-(2 ^ 63)<=k/\k<2 ^ 63/\xs.length * k.toNat<=sizeLine/\
 ∀p,H p=none->Q (.ref p) (upd H p (.lst (List.replicate k.toNat xs).flatten))
theorem len_rep {α:Type} (xs:List α) (k:Nat):(List.replicate k xs).flatten.length=k * xs.length:=by
 induction k with
 |zero=>simp
 |succ k ih=>rw [List.replicate_succ,List.flatten_cons,List.length_append,ih,Nat.succ_mul,Nat.add_comm]
theorem op_rep:OpR X (binaryOp .Mult) rRep:=by
 intro pins s σ H x y v u Q I rx ry h
 obtain⟨l,k,xs,rfl,rfl,hH,h1,h2,hz,q⟩:=h
 cases rx
 obtain⟨t,rfl⟩:=ry
 obtain⟨z,its,n,r,hl,e⟩:=I.lstM hH
 have hlen:its.toArray.size * k.toNat<=sizeLine:=by rw [List.size_toArray,← hl]; exact hz
 have hcap:¬ its.toArray.size * k.toNat > (2 ^ 63 - 1) / 8:=by
  have:(sizeLine:Nat)<=(2 ^ 63 - 1) / 8:=by decide
  omega
 have hfit:¬ (!Builtin.List.listFitsIndex k)=true:=by
  rw [fitsIndex_both h1 h2]
  exact Bool.false_ne_true
 have hlong:¬ Builtin.List.listTooLong (its.toArray.size * k.toNat)=true:=by
  rw [notLongL hlen]
  exact Bool.false_ne_true
 have hnew:List.foldl (fun x1 x2=>x1++x2) #[] (List.replicate (if its.toArray.isEmpty=true then 0 else k.toNat) its.toArray)=(List.replicate k.toNat its).flatten.toArray:=by
  have f0:∀m:Nat,List.foldl (fun x1 x2=>x1++x2) #[] (List.replicate m its.toArray)=(List.replicate m its).flatten.toArray:=fun m=>by
   have:=foldl_rep its m []
   rw [List.nil_append] at this
   exact this
  rw [f0]
  cases its with
  |nil=>simp
  |cons a r'=>rw [if_neg (by simp)]
 refine wpAny_binaryOp_repeat_ref (T:="list") (U:="int") (by decide) ⟨_,e,rfl⟩ (fun s'=>typeIs_int s' k t) noFill_list_mul F.fills_int_mul F.slot_int_rmul repeat_list F.slot_int_index.lookup
  (call_meets F.slot_int_rmul (typeIs_int s k t) F.entry_int_rmul (F.args_int_rmul_2 _ _) (int___rmul___int_list k t l its.toArray n)
   ⟨e,rfl,⟨_,e,rfl⟩,call_meets F.slot_list_mul ⟨_,e,rfl⟩ F.entry_list_mul (F.args_list_mul_2 _ _) (AutoListH.list___mul___list_int_3 l its.toArray n k t hfit hcap hlong) ⟨e,?_⟩⟩)
 rw [hnew]
 exact(fun ht=>⟨.ref _,_,I.lnew (t':=s.toks) (r.rep k.toNat) (by rw [len_rep,Nat.mul_comm]; exact hz),rfl,q _ I.fresh⟩)
end
end L2
namespace Att
open PySem PySem.W PySem.Calls PyProof.Rows
theorem ints_of_wellAll {P:Params}{h:Heap}:∀(ns:List Int) (vs:List Value),WellAll P h vs (ns.map WData.int)->IntsAre vs ns:=by
 intro ns
 induction ns with
 |nil=>
  intro vs w
  rw [List.map_nil] at w
  cases w
  exact .nil
 |cons n ns ih=>
  intro vs w
  rw [List.map_cons] at w
  cases w with
  |cons a b=>
   cases a
   exact .cons _ _ (ih _ b)
theorem script_of {l:OpenLaw}{n:Nat} (hn:l.most=some n){P:Params}{h:Heap}{args:List WData}{vals:List Value}
  (hpre:l.row.toRowW.claim.pre args=true) (hwl:WellAll P h vals args) :
  ∃a vs ns,vals=[Value.ref a]/\args=[WData.list (ns.map WData.int)]/\h.get? a=some {cls:=.type "list",data:=.seq vs.toArray}/\IntsAre vs ns/\ns.length<=n:=by
 have hsh:WShape.hasAll [] args [.list .int]=true:=(pre_splitW hpre).1
 have hc:l.pre.holds [] {args:=args}=true:=(pre_splitW hpre).2
 obtain⟨d,r,rfl,h1,h2⟩:=hasAllW_cons hsh
 obtain rfl:=hasAllW_nil h2
 obtain⟨xs,rfl,h3⟩:=hasW_list h1
 obtain⟨ns,rfl⟩:=items_int h3
 have hlen:ns.length<=n:=by
  unfold OpenLaw.pre at hc
  have h4:(WTm.not (.lt (.lit (.int (n:Int))) (.len (.arg 0)))).holds [] {args:=[.list (ns.map .int)]}=true:=by
   have h4:=(holds_andW hc).1
   rw [hn] at h4
   exact h4
  have h5:=condW_of h4 (w_not (w_lt w_lit (w_len_list (w_arg rfl))))
  rw [List.length_map] at h5
  refine Nat.le_of_not_lt fun q=>?_
  have q':(n:Int)<((ns.length:Nat):Int):=by omega
  first
   | (rw [decide_eq_true q'] at h5; exact absurd h5 (by decide))
   | (simp at h5; omega)
 cases hwl with
 |cons w1 w2=>
  cases w2
  cases w1 with
  |list ho hall=>exact⟨_,_,ns,rfl,rfl,ho,ints_of_wellAll ns _ hall,hlen⟩
theorem post_true (l:OpenLaw) (args:List WData):l.row.toRowW.claim.post args (.bool true) args=true:=
 postW_of (r:=l.row.toRowW) (X:=(true==true))
  (show WShape.has [] (.bool true) .bool=true by first | rfl | decide | simp [WShape.has,WShape.arms,WShape.armsAll])
  (show (WTm.eq .res (.lit (.bool true))).value [] {args:=args,res:=some (.bool true),after:=args}=some (.bool (true==true)) from w_eq_bool (w_res rfl) w_lit) rfl
theorem attach_call {l:OpenLaw}{n:Nat}{q:Program}{loose:List Str}{XP:(Str->Option Value)->Heap->Prop}{YP:World->Heap->Prop}{d:DefRec}
  (hn:l.most=some n) (hdf:d.params.defaults=[])
  (call:∀(w:World) (s₀ s₁:Shared) (mg mb:Str->Option Value) (fa:Addr) (o:Obj) (pm cd doc:Value) (a:Addr) (vs:List Value) (ns:List Int),
   Ground q loose [] XP w s₀ mg mb s₁.heap->YP w s₁.heap->
   s₁.heap.get? fa=some o->o.data=.func (docDef d.name d.params d.body d.scope pm cd doc)->s₁.heap.CodeRec cd d.name->mg d.name=some (.ref fa)->
   s₁.heap.get? a=some {cls:=.type "list",data:=.seq vs.toArray}->IntsAre vs ns->ns.length<=n->s₁.gens=#[]->
   codeAny (model l.prog w) callerA (.call (.ref fa) ⟨[.ref a],[]⟩) (fun r s'=>r=.ok (.ret (.bool true))/\OldK s₁.heap s'.heap/\s'.os=s₁.os/\AllBare s'.gens) s₁) :
  WalkO q loose XP YP l.row.toRowW d [] (fun f vs=>PySem.call f vs):=by
 intro w s₀ s₁ mg mb G Y fa o pm cd doc dV kV ho hd hcd hD hmg hg args vals as hpre hlay hrd hwl hlo
 obtain rfl:dV=.none:=Dflts.none hD hdf
 obtain rfl:kV=.none:=Dflts.noKw hD
 obtain⟨a,vs,ns,rfl,rfl,hobj,hints,hlen⟩:=script_of hn hpre hwl
 refine enter_call (codeAny_mono (call w s₀ s₁ mg mb fa o pm cd doc a vs ns G Y ho (fd_plain hd) hcd hmg hobj hints hlen hg) fun r s' hq=>?_)
 obtain⟨rfl,h2,h3,h4⟩:=hq
 exact⟨.inl ⟨.bool true,.bool true,[],rfl,fun _=>rfl,.bool true,post_true l _,fun _=>⟨List.Pairwise.nil,fun _ hm=>(nomatch hm)⟩⟩,h2,h3,h4⟩
end Att
namespace L2
open PySem PySem.Spec PyProof.Rows
theorem vals_ints:∀{vs:List Value}{ns:List Int},IntsAre vs ns->Vals (ns.map V.int) vs
 |_,_,.nil=>.nil
 |_,_,.cons n t h=>.cons ⟨t,rfl⟩ (vals_ints h)
noncomputable def defArgs (s:Stmt):Arguments:=match s with
 |.FunctionDef _ a _ _ _ _ _ _ _ _=>a
 |_=>{posonlyargs:=[],args:=[],vararg:=none,kwonlyargs:=[],kw_defaults:=[],kwarg:=none,defaults:=[]}
noncomputable def defBody (s:Stmt):List Stmt:=match s with
 |.FunctionDef _ _ b _ _ _ _ _ _ _=>b
 |_=>[]
noncomputable def defScope (s:Stmt):Scope:=match s with
 |.FunctionDef _ _ _ _ _ _ sc _ _ _=>sc
 |_=>{kind:=.function,names:=[],isGenerator:=false,isCoroutine:=false}
noncomputable abbrev CX0:CXT:=fun _ _ _ _ _ _=>False
noncomputable abbrev E0:XK:=fun _ _ _=>False
structure Fun (K:PySem.W.Frag) (x qual:Str) (st:Stmt) (f:Addr) (fd:FuncData):Prop where
 ex:∃(oc:Value) (od:Option Addr) (kV doc pm:Value) (an:Option Addr) (cdv ct:Value) (osl:Array (Option Value)),
  fd=PySem.W.fnOf x qual (defArgs st) (defBody st) (defScope st) .none kV doc pm an cdv ct/\K.lookup f=some ⟨oc,od,.func fd,osl⟩/\PySem.W.codeIn K cdv qual=true
 kp:PySem.W.keepIn K (.ref f)=true
section
variable {P:Program}{w:World}{K:PySem.W.Frag}{mg:Str->Option Value}{base:Heap}
theorem Fun.binds {x qual:Str}{st:Stmt}{f:Addr}{fd:FuncData}{ps:List Str} (F:Fun K x qual st f fd)
  (h:∀(kV doc pm:Value) (an:Option Addr) (cdv ct:Value) (us:List Value),us.length=ps.length->bindArgs (PySem.W.fnOf x qual (defArgs st) (defBody st) (defScope st) .none kV doc pm an cdv ct) ⟨us,[]⟩=pure (ps.zip us)):Binds K fd ps []:=by
 obtain⟨oc,od,kV,doc,pm,an,cdv,ct,osl,rfl,lk,hcd⟩:=F.ex
 exact .all (h kV doc pm an cdv ct)
theorem fun_mk {x qual:Str}{st:Stmt}{f:Addr}{oc:Value}{od an:Option Addr}{osl:Array (Option Value)}{kV doc pm cdv ct:Value} (l:K.lookup f=some ⟨oc,od,.func (PySem.W.fnOf x qual (defArgs st) (defBody st) (defScope st) .none kV doc pm an cdv ct),osl⟩)
  (c:PySem.W.codeIn K cdv qual=true) (k:PySem.W.keepIn K (.ref f)=true):Fun K x qual st f (PySem.W.fnOf x qual (defArgs st) (defBody st) (defScope st) .none kV doc pm an cdv ct):=⟨⟨oc,od,kV,doc,pm,an,cdv,ct,osl,rfl,l,c⟩,k⟩
end
section
variable {X:Cx}
theorem pv (i:Nat){x:Str}{pos:Pos} (hN:X.N[i]?=some x:=by rfl) (hv:Vis X.env.scope x:=by first | exact Or.inl rfl | exact Or.inr (Or.inl rfl) | exact Or.inr (Or.inr rfl)) (hd:(x==("__debug__" : Str))=false:=by decide)
  (hcd:(x==("__classdict__" : Str))=false:=by decide):PE X (.Name x pos) (tVar i):=pe_var hN hv hd hcd
end
theorem iteF {A B:Prop} (h:B):if false=true then A else B:=by
 rw [if_neg Bool.false_ne_true]
 exact h
noncomputable def Same (H H':Hp):Prop:=∀b o,H b=some o->H' b=some o
theorem Same.refl (H:Hp):Same H H:=fun _ _ h=>h
theorem Same.trans {H H1 H2:Hp} (a:Same H H1) (b:Same H1 H2):Same H H2:=fun c o h=>b c o (a c o h)
theorem Same.seq {K:PySem.W.Frag}{H H':Hp}{a:Addr}{xs:List V} (e:Same H H') (h:SqL K H a xs):SqL K H' a xs:=by
 rcases h with (h | ⟨o,h⟩) | h
 ·exact .inl (.inl (e _ _ h))
 ·exact .inl (.inr ⟨o,e _ _ h⟩)
 ·exact .inr h
section
variable {κ:Type} [DecidableEq κ]
noncomputable def valV (kvs:List (κ×V)) (k:κ):Option V:=(kvs.find? fun kv=>decide (kv.1=k)).map (·.2)
noncomputable def putK (kvs:List (κ×V)) (k:κ) (v:V):List (κ×V):=
 if (kvs.any fun kv=>decide (kv.1=k))=true then kvs.map (fun kv=>if kv.1=k then (kv.1,v) else kv) else kvs++[(k,v)]
noncomputable def dropK (kvs:List (κ×V)) (k:κ):List (κ×V):=kvs.filter fun kv=>decide (kv.1≠k)
theorem valV_pos {p:κ×V}{r:List (κ×V)}{k:κ} (e:p.1=k):valV (p::r) k=some p.2:=by simp [valV,List.find?_cons,e]
theorem valV_neg {p:κ×V}{r:List (κ×V)}{k:κ} (e:¬ p.1=k):valV (p::r) k=valV r k:=by simp [valV,List.find?_cons,e]
theorem valV_any (k:κ):∀kvs:List (κ×V),(kvs.any fun kv=>decide (kv.1=k))=(valV kvs k).isSome
 | []=>rfl
 |p::r=>by
  rw [List.any_cons]
  by_cases e:p.1=k
  ·simp only [valV_pos e,decide_eq_true e,Bool.true_or,Option.isSome_some]
  ·rw [valV_neg e,decide_eq_false e,Bool.false_or]; exact valV_any k r
theorem length_putK (kvs:List (κ×V)) (k:κ) (v:V):(putK kvs k v).length<=kvs.length+1:=by
 unfold putK
 split
 ·rw [List.length_map]; omega
 ·rw [List.length_append,List.length_cons,List.length_nil]; omega
theorem RelO.isSome_eq {o:Option V}{u:Option Value} (r:RelO o u):o.isSome=u.isSome:=by
 cases o with
 |none=>cases u with
  |none=>rfl
  |some _=>exact(show False from r).elim
 |some _=>cases u with
  |none=>exact(show False from r).elim
  |some _=>rfl
theorem KV.val {kvs:List (κ×V)}{vs:List (κ×Value)} (r:KV kvs vs) (k:κ):RelO (valV kvs k) (valueAt vs k):=by
 unfold KV at r
 induction r with
 |nil=>exact True.intro
 |@cons p q ps qs h t ih=>
  obtain⟨h1,h2⟩:=h
  by_cases e:p.1=k
  ·have e':q.1=k:=h1.symm.trans e
   have b:valueAt (q::qs) k=some q.2:=by simp [valueAt,List.find?_cons,e']
   rw [valV_pos e,b]; exact h2
  ·have e':¬ q.1=k:=fun z=>e (h1.trans z)
   have b:valueAt (q::qs) k=valueAt qs k:=by simp [valueAt,List.find?_cons,e']
   rw [valV_neg e,b]; exact ih
theorem KV.any {kvs:List (κ×V)}{vs:List (κ×Value)} (r:KV kvs vs) (k:κ):(kvs.any fun kv=>decide (kv.1=k))=vs.any fun kv=>decide (kv.1=k):=by
 unfold KV at r
 induction r with
 |nil=>rfl
 |cons h t ih=>rw [List.any_cons,List.any_cons,ih,h.1]
theorem KV.repl {kvs:List (κ×V)}{vs:List (κ×Value)} (r:KV kvs vs) (k:κ){y:V}{u:Value} (ry:RelV y u) :
  KV (kvs.map fun kv=>if kv.1=k then (kv.1,y) else kv) (vs.map fun kv=>if kv.1=k then (kv.1,u) else kv):=by
 unfold KV at r ⊢
 induction r with
 |nil=>exact .nil
 |@cons p q ps qs h t ih=>
  rw [List.map_cons,List.map_cons]
  refine .cons ?_ ih
  obtain⟨h1,h2⟩:=h
  by_cases e:p.1=k
  ·rw [if_pos e,if_pos (h1.symm.trans e)]; exact⟨h1,ry⟩
  ·rw [if_neg e,if_neg (fun z=>e (h1.trans z))]; exact⟨h1,h2⟩
theorem KV.put {kvs:List (κ×V)}{vs:List (κ×Value)} (r:KV kvs vs) (k:κ){y:V}{u:Value} (ry:RelV y u):KV (putK kvs k y) (stored vs k u):=by
 unfold putK stored
 rw [r.any k]
 by_cases e:(vs.any fun kv=>decide (kv.1=k))=true
 ·rw [if_pos e,if_pos e]; exact r.repl k ry
 ·rw [if_neg e,if_neg e]; exact Paired.snoc r ⟨rfl,ry⟩
theorem KV.drop {kvs:List (κ×V)}{vs:List (κ×Value)} (r:KV kvs vs) (k:κ):KV (dropK kvs k) (without vs k):=by
 unfold KV at r ⊢
 unfold dropK without
 induction r with
 |nil=>exact .nil
 |@cons p q ps qs h t ih=>
  obtain⟨h1,h2⟩:=h
  rw [List.filter_cons,List.filter_cons]
  by_cases e:p.1=k
  ·have a:¬ decide (p.1≠k)=true:=by simp [e]
   have b:¬ decide (q.1≠k)=true:=by simp [h1.symm.trans e]
   rw [if_neg a,if_neg b]; exact ih
  ·have e':¬ q.1=k:=fun z=>e (h1.trans z)
   have a:decide (p.1≠k)=true:=by simp [e]
   have b:decide (q.1≠k)=true:=by simp [e']
   rw [if_pos a,if_pos b]; exact .cons ⟨h1,h2⟩ ih
theorem KV.keys {kvs:List (κ×V)}{vs:List (κ×Value)} (r:KV kvs vs):kvs.map (·.1)=vs.map (·.1):=by
 unfold KV at r
 induction r with
 |nil=>rfl
 |cons h t ih=>rw [List.map_cons,List.map_cons,ih,h.1]
theorem KV.length {kvs:List (κ×V)}{vs:List (κ×Value)} (r:KV kvs vs):kvs.length=vs.length:=Paired.length r
theorem dropK_le (kvs:List (κ×V)) (k:κ):(dropK kvs k).length<=kvs.length:=List.length_filter_le _ _
end
theorem kV_is {P:Program}{w:World}{k:Key}{u:Value} (r:RelV (kV k) u):(mixKind P w).is k u=true:=by
 cases k with
 |inl i=>obtain⟨t,e⟩:=(show ∃t,u=Value.int i t from r); subst e; exact mixKind_int P w i t
 |inr x=>obtain⟨t,e⟩:=(show ∃t,u=Value.str x t from r); subst e; exact mixKind_str P w x t
theorem items_are {P:Program}{w:World}:∀{ks:List Key}{us:List Value},Vals (ks.map kV) us->ItemsAre (mixKind P w) ks us
 | [],_,r=>by rw [List.map_nil] at r; cases r; exact .nil
 |k::ks,_,r=>by
  rw [List.map_cons] at r
  cases r with
  |cons h t=>exact .cons (kV_is h) (items_are t)
noncomputable abbrev KT (H:Hp):List (List Key×V)->List (List Key×Addr×Value)->Prop:=Paired fun p q=>p.1=q.1/\H q.2.1=some (.tup (p.1.map kV))/\RelV p.2 q.2.2
theorem KT.val {H:Hp}{kvs:List (List Key×V)}{xs:List (List Key×Addr×Value)} (r:KT H kvs xs) (k:List Key):RelO (valV kvs k) ((atKey xs k).map (·.2)):=by
 induction r with
 |nil=>exact True.intro
 |@cons p q ps qs h t ih=>
  obtain⟨h1,_,h2⟩:=h
  by_cases e:p.1=k
  ·have e':q.1=k:=h1.symm.trans e
   have b:atKey (q::qs) k=some q.2:=by simp [atKey,List.find?_cons,e']
   rw [valV_pos e,b]; exact h2
  ·have e':¬ q.1=k:=fun z=>e (h1.trans z)
   have b:atKey (q::qs) k=atKey qs k:=by simp [atKey,List.find?_cons,e']
   rw [valV_neg e,b]; exact ih
theorem KT.repl {H:Hp}{kvs:List (List Key×V)}{xs:List (List Key×Addr×Value)} (r:KT H kvs xs) (k:List Key){y:V}{u:Value} (ry:RelV y u) :
  KT H (kvs.map fun kv=>if kv.1=k then (kv.1,y) else kv) (xs.map (putAt k u)):=by
 induction r with
 |nil=>exact .nil
 |@cons p q ps qs h t ih=>
  rw [List.map_cons,List.map_cons]
  refine .cons ?_ ih
  obtain⟨h1,h2,h3⟩:=h
  unfold putAt
  by_cases e:p.1=k
  ·rw [if_pos e,if_pos (h1.symm.trans e)]; exact⟨h1,h2,ry⟩
  ·rw [if_neg e,if_neg (fun z=>e (h1.trans z))]; exact⟨h1,h2,h3⟩
theorem KT.put {H:Hp}{kvs:List (List Key×V)}{xs:List (List Key×Addr×Value)} (r:KT H kvs xs) (k:List Key){b:Addr}{y:V}{u:Value} (hb:H b=some (.tup (k.map kV))) (ry:RelV y u) :
  KT H (putK kvs k y) (storedH xs k b u):=by
 have e:(kvs.any fun kv=>decide (kv.1=k))=(atKey xs k).isSome:=by
  rw [valV_any,(r.val k).isSome_eq,Option.isSome_map]
 unfold putK storedH
 rw [e]
 by_cases q:(atKey xs k).isSome=true
 ·rw [if_pos q,if_pos q]; exact r.repl k ry
 ·rw [if_neg q,if_neg q]; exact Paired.snoc r ⟨rfl,hb,ry⟩
theorem KT.keeps {H H':Hp}{kvs:List (List Key×V)}{xs:List (List Key×Addr×Value)} (r:KT H kvs xs) (ht:∀b ys,H b=some (.tup ys)->H' b=some (.tup ys)):KT H' kvs xs:=
 Paired.mapP r fun _ _ z=>⟨z.1,ht _ _ z.2.1,z.2.2⟩
section
variable {P:Program}{w:World}{H:Hp}{h:Heap}{a:Addr}
theorem rd_of {u:HO} (ok:HOk P w H h) (e:Rd H a u):ObjOk P w H h a u:=e.ok ok
theorem dk_rd {kvs:List (Key×V)} (ok:HOk P w H h) (e:Rd H a (.dK kvs)):kvs.length<=sizeLine/\(a==sysModules)=false/\∃vs,KV kvs vs/\h.DictOf (mixKind P w) a vs:=
 show ObjOk P w H h a (.dK kvs) from rd_of ok e
theorem dk_of {kvs:List (Key×V)} (ok:HOk P w H h) (e:H a=some (.dK kvs)):kvs.length<=sizeLine/\(a==sysModules)=false/\∃vs,KV kvs vs/\h.DictOf (mixKind P w) a vs:=dk_rd ok (.inl e)
theorem key_of {ks:List Key} (ok:HOk P w H h) (e:H a=some (.tup (ks.map kV))):(tupleKind (mixKind P w)).is h ks a:=by
 obtain⟨_,its,r,o,h1,h2,n,h3⟩:=(show ObjOk P w H h a (.tup (ks.map kV)) from ok a _ e)
 exact⟨o,its.toArray,n,h1,h2,h3,by simpa using items_are r⟩
theorem dt_rd {kvs:List (List Key×V)} (ok:HOk P w H h) (e:Rd H a (.dT kvs)):kvs.length<=sizeLine/\(a==sysModules)=false/\
  ∃xs,KT H kvs xs/\h.DictOfH (tupleKind (mixKind P w)) a xs:=by
 obtain⟨z,y,xs,r,o,es,ep,h1,h2,h3,h4,h5⟩:=(show ObjOk P w H h a (.dT kvs) from rd_of ok e)
 refine⟨z,y,xs,r,o,es,ep,h1,h2,h3,h4,fun x hx=>?_,h5⟩
 have all:∀{l:List (List Key×V)} {m:List (List Key×Addr×Value)},KT H l m->∀x∈m,(tupleKind (mixKind P w)).is h x.1 x.2.1:=by
  intro l m q
  induction q with
  |nil=>intro x hx; exact nomatch hx
  |@cons p q ps qs hq t ih=>
   intro x hx
   rcases List.mem_cons.mp hx with e | hx
   ·subst e
    exact key_of ok (by rw [← hq.1]; exact hq.2.1)
   ·exact ih x hx
 exact all r x hx
theorem dt_of {kvs:List (List Key×V)} (ok:HOk P w H h) (e:H a=some (.dT kvs)):kvs.length<=sizeLine/\(a==sysModules)=false/\
  ∃xs,KT H kvs xs/\h.DictOfH (tupleKind (mixKind P w)) a xs:=dt_rd ok (.inl e)
end
noncomputable def DGet (H:Hp) (a:Addr) (y:V) (r:Option V):Prop:=
 (∃kvs k,Rd H a (.dK kvs)/\y=kV k/\r=valV kvs k)∨∃kvs k b,Rd H a (.dT kvs)/\y=.ref b/\H b=some (.tup (k.map kV))/\r=valV kvs k
noncomputable def DPut (H:Hp) (a:Addr) (y v:V) (H':Hp):Prop:=
 (∃kvs k,H a=some (.dK kvs)/\y=kV k/\kvs.length<sizeLine/\H'=upd H a (.dK (putK kvs k v)))∨
 ∃kvs k b,H a=some (.dT kvs)/\y=.ref b/\H b=some (.tup (k.map kV))/\kvs.length<sizeLine/\H'=upd H a (.dT (putK kvs k v))
section
variable {X:Cx}{pins:List (Addr×Obj)}{σ:St}{H:Hp}{s:Shared}{a:Addr}{y v:V}{u r:Value}{o:Option V}{A:Around}{E:Value->Shared->Prop}
theorem Inv.big (I:Inv X pins σ H s):sysModules<s.heap.objs.size:=by
 have h:mainGlobals<s.heap.objs.size:=(I.mod.glob.keeps I.bk).lt
 exact Nat.lt_trans (by decide) h
theorem d_getItem {Q:Value->Shared->Prop} (hu:A.units+1<cLine) (I:Inv X pins σ H s) (g:DGet H a y (some v)) (ry:RelV y u) (h:∀w' s',Inv X pins σ H s'->RelV v w'->Q w' s') :
  wpAny (model X.prog X.w) A (getItem (.ref a) u) Q E s:=by
 rcases g with ⟨kvs,k,e,ey,l⟩ | ⟨kvs,k,b,e,ey,eb,l⟩
 ·subst ey
  obtain⟨z,hd,vs,rel,dd⟩:=dk_rd I.hok e
  obtain⟨w',hw,rw'⟩:=RelO.some_of (v:=v) (o:=valueAt vs k) (by rw [l]; exact rel.val k)
  exact wpAny_getItem_of (kV_is ry) dd.mapOf hw (h w' _ (I.tok _) rw')
 ·subst ey
  cases (show u=Value.ref b from ry)
  obtain⟨z,hd,xs,rel,dd⟩:=dt_rd I.hok e
  obtain⟨w',hw,rw'⟩:=RelO.some_of (v:=v) (o:=(atKey xs k).map (·.2)) (by rw [l]; exact rel.val k)
  obtain⟨p,hp,hp2⟩:=Option.map_eq_some_iff.mp hw
  refine wpAny_getItem_heap (tupleKind_room_in1 hu) (key_of I.hok eb) dd hp ?_
  rw [hp2]
  exact h w' _ (I.tok _ (Nat.lt_of_lt_of_le I.tk (Nat.le_add_right _ _))) rw'
theorem d_in {Q:Value->Shared->Prop} (hu:A.units+1<cLine) (I:Inv X pins σ H s) (g:DGet H a y o) (ry:RelV y u) (h:∀s',Inv X pins σ H s'->Q (.bool o.isSome) s') :
  wpAny (model X.prog X.w) A (compareOp .In u (.ref a)) Q E s:=by
 rcases g with ⟨kvs,k,e,ey,l⟩ | ⟨kvs,k,b,e,ey,eb,l⟩
 ·subst ey
  obtain⟨z,hd,vs,rel,dd⟩:=dk_rd I.hok e
  refine wpAny_in_of (kV_is ry) hd dd.mapOf ?_
  rw [← (rel.val k).isSome_eq,← l]
  exact h _ (I.tok _)
 ·subst ey
  cases (show u=Value.ref b from ry)
  obtain⟨z,hd,xs,rel,dd⟩:=dt_rd I.hok e
  refine wpAny_in_heap (tupleKind_room_in1 hu) (key_of I.hok eb) hd dd ?_
  have q:=(rel.val k).isSome_eq
  rw [Option.isSome_map] at q
  rw [← q,← l]
  exact h _ (I.tok _ (Nat.lt_of_lt_of_le I.tk (Nat.le_add_right _ _)))
theorem d_notIn {Q:Value->Shared->Prop} (hu:A.units+1<cLine) (I:Inv X pins σ H s) (g:DGet H a y o) (ry:RelV y u) (h:∀s',Inv X pins σ H s'->Q (.bool (!o.isSome)) s') :
  wpAny (model X.prog X.w) A (compareOp .NotIn u (.ref a)) Q E s:=by
 rcases g with ⟨kvs,k,e,ey,l⟩ | ⟨kvs,k,b,e,ey,eb,l⟩
 ·subst ey
  obtain⟨z,hd,vs,rel,dd⟩:=dk_rd I.hok e
  refine wpAny_notIn_of (kV_is ry) hd dd.mapOf ?_
  rw [← (rel.val k).isSome_eq,← l]
  exact h _ (I.tok _)
 ·subst ey
  cases (show u=Value.ref b from ry)
  obtain⟨z,hd,xs,rel,dd⟩:=dt_rd I.hok e
  refine wpAny_notIn_heap (tupleKind_room_in1 hu) (key_of I.hok eb) hd dd ?_
  have q:=(rel.val k).isSome_eq
  rw [Option.isSome_map] at q
  rw [← q,← l]
  exact h _ (I.tok _ (Nat.lt_of_lt_of_le I.tk (Nat.le_add_right _ _)))
theorem d_write {h':Heap}{t':Nat}{ob:HO} (I:Inv X pins σ H s) (mu:Mut (H a)) (hs:Heap.SameBut a s.heap h') (he:∃q,h'.get? a=some q) (new:ObjOk X.prog X.w (upd H a ob) h' a ob) (ht:0<t':=by first | assumption | exact Inv.tk (by assumption) | exact Nat.lt_of_lt_of_le (Inv.tk (by assumption)) (Nat.le_add_right _ _)) :
  Inv X pins σ (upd H a ob) {s with heap:=h',toks:=t'}:=
 I.write (x:=a) (e:=a) mu (.inl rfl) (fun b q hb z=>(hs.2 b hb).trans z) he new ht
theorem dk_new {P:Program}{w:World}{H':Hp}{h':Heap}{kvs:List (Key×V)}{vs:List (Key×Value)} (z:kvs.length<=sizeLine) (hd:(a==sysModules)=false) (rel:KV kvs vs) (dd:h'.DictOf (mixKind P w) a vs) :
  ObjOk P w H' h' a (.dK kvs):=⟨z,hd,vs,rel,dd⟩
theorem d_setItem {H':Hp}{Q:Unit->Shared->Prop} (hu:A.units+1<cLine) (I:Inv X pins σ H s) (g:DPut H a y v H') (ry:RelV y u) (rv:RelV v r) (h:∀s',Inv X pins σ H' s'->Q () s') :
  wpAny (model X.prog X.w) A (setItem (.ref a) u r) Q E s:=by
 rcases g with ⟨kvs,k,e,ey,l,eH⟩ | ⟨kvs,k,b,e,ey,eb,l,eH⟩
 ·subst ey eH
  obtain⟨z,hd,vs,rel,dd⟩:=dk_of I.hok e
  have hz:vs.length<=sizeLine:=by rw [← rel.length]; exact z
  have hl:(putK kvs k v).length<=sizeLine:=by have:=length_putK kvs k v; omega
  refine wpAny_setItem_pairs (hsz:=hz) (kV_is ry) dd fun h' dd' hs=>h _ ?_
  have he:∃q,h'.get? a=some q:=let ⟨q,_,_,hq,_⟩:=dd'; ⟨q,hq⟩
  exact d_write I (by rw [e]; exact True.intro) hs he (dk_new hl hd (rel.put k rv) dd')
 ·subst ey eH
  cases (show u=Value.ref b from ry)
  obtain⟨z,hd,xs,rel,dd⟩:=dt_of I.hok e
  have hz:xs.length<=sizeLine:=by rw [← Paired.length rel]; exact z
  have hl:(putK kvs k v).length<=sizeLine:=by have:=length_putK kvs k v; omega
  refine wpAny_setItem_heap (hsz:=hz) (tupleKind_room_in1 hu) (key_of I.hok eb) dd fun h' dd' hs=>h _ ?_
  obtain⟨q,es,ep,hq,h2,h3,h4,_,h5⟩:=dd'
  refine d_write I (by rw [e]; exact True.intro) hs ⟨q,hq⟩ ⟨hl,hd,_,(rel.put k eb rv).keeps fun c ys ec=>?_,q,es,ep,hq,h2,h3,h4,h5⟩
  rw [upd_ne (ne_of ec e (fun z=>nomatch z))]
  exact ec
end
section
variable {X:Cx}{pins:List (Addr×Obj)}{σ:St}{H:Hp}{s:Shared}{a:Addr}{kvs:List (Key×V)}{k:Key}{u:Value}{A:Around}{E:Value->Shared->Prop}
theorem d_pop {v:V}{more:List Value}{Q:Value->Shared->Prop} (I:Inv X pins σ H s) (e:H a=some (.dK kvs)) (ry:RelV (kV k) u) (l:valV kvs k=some v) (hm:more=[]∨∃x,more=[x])
  (h:∀w' s',Inv X pins σ (upd H a (.dK (dropK kvs k))) s'->RelV v w'->Q w' s'):wpAny (model X.prog X.w) A (call (.builtin "dict.pop") (.ref a::u::more)) Q E s:=by
 obtain⟨z,hd,vs,rel,dd⟩:=dk_of I.hok e
 obtain⟨w',hw,rw'⟩:=RelO.some_of (v:=v) (o:=valueAt vs k) (by rw [← l]; exact rel.val k)
 have hp:(keyPart u).isSome=true:=by
  cases k with
  |inl i=>obtain⟨t,q⟩:=(show ∃t,u=Value.int i t from ry); subst q; rfl
  |inr x=>obtain⟨t,q⟩:=(show ∃t,u=Value.str x t from ry); subst q; rfl
 have ha:argsOk "dict.pop" ⟨.ref a::u::more,[]⟩:=by
  rcases hm with q | ⟨x,q⟩
  ·subst q; exact PySem.F.args_dict_pop_2 _ _
  ·subst q; exact PySem.F.args_dict_pop_3 _ _ _
 refine call_meetsIn PySem.F.slot_dict_pop dd.typeIs PySem.F.entry_dict_pop ha (meets_dict_pop_there (mixKind X.prog X.w) a (kV_is ry) more hm hp)
  ⟨vs,w',dd,by rw [← rel.length]; exact z,hw,fun h' dd' hs=>h w' _ ?_ rw'⟩
 have he:∃q,h'.get? a=some q:=let ⟨q,_,_,hq,_⟩:=dd'; ⟨q,hq⟩
 exact d_write I (by rw [e]; exact True.intro) hs he (dk_new (Nat.le_trans (dropK_le kvs k) z) hd (rel.drop k) dd')
end
noncomputable def NoSl (i:Expr):Prop:=∀ov iv,subscripted i false ov iv=operate [ov,iv] (getItem ov iv)
theorem subD_of {prog:Program}{w:World}{A:Around}{E:Value->Shared->Prop}{s:Shared}{env:Env}{value slice:Expr}{pos:Pos}{T id:String}{Q:Value->Shared->Prop}
  (hl:typeLookup (.type T) "__getitem__" = pure (some (.builtin id))) (hs:NoSl slice)
  (h:wpAny (model prog w) A (eval value env) (fun o s₁=>wpAny (model prog w) A (eval slice env) (fun i s₂=>s₂.TypeIs o T/\wpAny (model prog w) A (getItem o i) Q E s₂) E s₁) E s) :
  wpAny (model prog w) A (eval (.Subscript value slice pos) env) Q E s:=by
 refine Subscript_ (wpAny_mono h (fun o s₁ h₁=>wpAny_mono h₁ (fun i s₂ h₂=>?_) fun _ _ x=>x) fun _ _ x=>x)
 obtain⟨hT,h₂⟩:=h₂
 unfold subscriptTail
 refine wpAny_bind ?_
 rw [getitemInPython_of_ne hT.not_modules]
 refine wpAny_bind (wpAny_specialOf hT hl ?_)
 have fin:wpAny (model prog w) A (subscripted slice false o i) (fun r s₃=>wpAny (model prog w) A (letTemporaryGo value o r >>= fun _=>pure r) Q E s₃) E s₂:=by
  rw [hs o i]
  exact wpAny_operating (wpAny_mono h₂ (fun r s₃ h₃=>wpAny_bind (wpAny_letTemporaryGo (wpAny_pure h₃))) fun _ _ x=>x)
 first
  |exact wpAny_pure (wpAny_bind fin)
  |exact wpAny_bind (wpAny_pure (wpAny_bind fin))
  |exact wpAny_bind fin
theorem dict_typeIs {X:Cx}{pins:List (Addr×Obj)}{σ:St}{H:Hp}{s:Shared}{a:Addr}{y:V}{o:Option V} (I:Inv X pins σ H s) (g:DGet H a y o):s.TypeIs (.ref a) "dict" := by
 rcases g with ⟨kvs,k,e,_,_⟩ | ⟨kvs,k,b,e,_,_,_⟩
 ·obtain⟨_,_,vs,_,dd⟩:=dk_rd I.hok e
  exact dd.typeIs
 ·obtain⟨_,_,xs,_,dd⟩:=dt_rd I.hok e
  exact dd.typeIs
noncomputable def tDGet (td ty:TE):TE:=fun σ H Q=>td σ H fun x H1=>ty σ H1 fun y H2=>∃a v,x=.ref a/\DGet H2 a y (some v)/\Q v H2
noncomputable def sDPut (td ty tv:TE):TS:=fun D σ H=>tv σ H fun v H1=>td σ H1 fun x H2=>ty σ H2 fun y H3=>∃a H4,x=.ref a/\DPut H3 a y v H4/\D.nx σ H4
section
variable {X:Cx}{o i e value:Expr}{pos pos' tpos:Pos}{td ty tv:TE}
theorem pe_dget (hu:X.A.units+1<cLine) (ho:PE X o td) (hi:PE X i ty) (hs:NoSl i):PE X (.Subscript o i pos) (tDGet td ty):=by
 intro pins s σ H Q I h
 refine subD_of PySem.F.slot_dict_getitem.lookup hs (thn (ho pins s σ H _ I h) fun u s1 ⟨x,H1,I1,rx,q1⟩=>thn (hi pins s1 σ H1 _ I1 q1) fun iv s2 ⟨y,H2,I2,ry,a,v,ex,g,q2⟩=>?_)
 subst ex
 obtain rfl:u=Value.ref a:=rx
 exact⟨dict_typeIs I2 g,d_getItem hu I2 g ry fun w' s3 I3 rw'=>(fun ht=>⟨v,H2,I3,rw',q2⟩)⟩
theorem ps_dput (hu:X.A.units+1<cLine) (ho:PE X o td) (hi:PE X i ty) (hv:PE X value tv) (hs:swapsWith value (some (.Subscript o i pos')) pos.line X.env=pure false) :
  PS X (.Assign [.Subscript o i pos'] value pos) (sDPut td ty tv):=by
 intro pins s σ H D I h
 refine wpAny_Assign_Subscript (thn (hv pins s σ H _ I h) fun r s1 ⟨v,H1,I1,rv,q1⟩=>thn (ho pins s1 σ H1 _ I1 q1) fun u s2 ⟨x,H2,I2,rx,q2⟩=>thn (hi pins s2 σ H2 _ I2 q2) fun iv s3 ⟨y,H3,I3,ry,a,H4,ex,g,q3⟩=>?_) hs
 subst ex
 obtain rfl:u=Value.ref a:=rx
 exact d_setItem hu I3 g ry rv fun s4 I4=>(fun ht=>⟨σ,H4,I4,q3⟩)
end
theorem dk_empty {P:Program}{w:World}{H:Hp} (h:Heap) (hb:sysModules<h.objs.size):ObjOk P w H (h.push {cls:=.type "dict",data:=.dict #[]}) h.objs.size (.dK []):=
 ⟨Nat.zero_le _,beq_eq_false_iff_ne.mpr (Ne.symm (Nat.ne_of_lt hb)),[],.nil,Heap.DictOf.new h⟩
noncomputable def tDNewK:TE:=fun _ H Q=>∀p,H p=none->Q (.ref p) (upd H p (.dK []))
section
variable {X:Cx}{pos:Pos}
theorem pe_dnewK:PE X (.Dict [] [] pos) tDNewK:=fun pins s σ H Q I h=>
 wpAny_Dict_empty (fun ht=>⟨.ref s.heap.objs.size,_,I.laid (a:=s.heap.objs.size) (o:=.dK []) (t':=s.toks) (fun _ _ q=>Heap.get?_push_of_some _ q) (Nat.le_refl _) (dk_empty s.heap I.big),rfl,h _ (I.hok.fresh (Nat.le_refl _))⟩)
end
noncomputable def tPairs:List (TE×TE)->St->Hp->(List (V×V)->Hp->Prop)->Prop
 | [],_,H,Q=>Q [] H
 | (tk,tv)::r,σ,H,Q=>tk σ H fun x H1=>tv σ H1 fun y H2=>tPairs r σ H2 fun ps H3=>Q ((x,y)::ps) H3
noncomputable abbrev VV:List (V×V)->List (Value×Value)->Prop:=Paired fun p q=>RelV p.1 q.1/\RelV p.2 q.2
noncomputable def PPs (X:Cx) (pos:Pos) (keys:List (Option Expr)) (values:List Expr) (trs:List (TE×TE)):Prop:=
 ∀(pins:List (Addr×Obj)) (s:Shared) (σ:St) (H:Hp) (Q:List (V×V)->Hp->Prop),Inv X pins σ H s->tPairs trs σ H Q->
  wpAny (model X.prog X.w) X.A (evalPairs (pairTrees keys values X.env pos)) (Lz fun vs s'=>∃ps H',Inv X pins σ H' s'/\VV ps vs/\Q ps H') X.xe s
theorem pps_nil {X:Cx}{pos:Pos}:PPs X pos [] [] []:=fun pins s σ H Q I h=>pairTrees_nil_walk (fun ht=>⟨[],H,I,.nil,h⟩)
theorem pps_cons {X:Cx}{pos:Pos}{k v:Expr}{ks:List (Option Expr)}{vs:List Expr}{tk tv:TE}{trs:List (TE×TE)} (hk:PE X k tk) (hv:PE X v tv) (hr:PPs X pos ks vs trs) :
  PPs X pos (some k::ks) (v::vs) ((tk,tv)::trs):=fun pins s σ H Q I h=>
 pairTrees_cons_walk (thn (hk pins s σ H _ I h) fun u s1 ⟨x,H1,I1,rx,q1⟩=>thn (hv pins s1 σ H1 _ I1 q1) fun w2 s2 ⟨y,H2,I2,ry,q2⟩=>
  thn (hr pins s2 σ H2 _ I2 q2) fun ws s3 ⟨ps,H3,I3,rel,q3⟩=>(fun ht=>⟨(x,y)::ps,H3,I3,.cons ⟨rx,ry⟩ rel,q3⟩))
noncomputable def mergeK (kvs more:List (Key×V)):List (Key×V):=more.foldl (fun acc kv=>putK acc kv.1 kv.2) kvs
theorem KV.merge:∀{more:List (Key×V)}{rs:List (Key×Value)}{kvs:List (Key×V)}{vs:List (Key×Value)},KV more rs->KV kvs vs->KV (mergeK kvs more) (merged vs rs):=by
 intro more rs kvs vs r
 unfold KV at r
 induction r generalizing kvs vs with
 |nil=>intro q; exact q
 |@cons p q ps qs h t ih=>
  intro r0
  have e:KV (putK kvs p.1 p.2) (stored vs q.1 q.2):=by
   have:=r0.put p.1 h.2
   rw [← h.1]; exact this
  exact ih e
theorem length_mergeK:∀(more kvs:List (Key×V)),(mergeK kvs more).length<=kvs.length+more.length
 | [],kvs=>by show kvs.length<=kvs.length+0; omega
 |p::r,kvs=>by
  have h1:=length_mergeK r (putK kvs p.1 p.2)
  have h2:=length_putK kvs p.1 p.2
  show (mergeK (putK kvs p.1 p.2) r).length<=_
  rw [List.length_cons]; omega
theorem carries_of {P:Program}{w:World}:∀{kvs:List (Key×V)}{ws:List (Value×Value)},VV (kvs.map fun kv=>(kV kv.1,kv.2)) ws->∃rs,Carries (mixKind P w) ws rs/\KV kvs rs
 | [],_,r=>by rw [List.map_nil] at r; cases r; exact⟨[],True.intro,.nil⟩
 |p::kvs,_,r=>by
  rw [List.map_cons] at r
  cases r with
  |@cons a b as bs h t=>
   obtain⟨rs,c,q⟩:=carries_of (P:=P) (w:=w) t
   obtain⟨b1,b2⟩:=b
   exact⟨(p.1,b2)::rs,⟨kV_is h.1,rfl,c⟩,.cons ⟨rfl,h.2⟩ q⟩
noncomputable def tDisp (trs:List (TE×TE)):TE:=fun σ H Q=>∀p,H p=none->tPairs trs σ (upd H p (.dK [])) fun ps H2=>H2 p=some (.dK [])/\∃kvs:List (Key×V),ps=kvs.map (fun kv=>(kV kv.1,kv.2))/\kvs.length<=15/\Q (.ref p) (upd H2 p (.dK (mergeK [] kvs)))
theorem pe_disp {X:Cx}{pos:Pos}{keys:List (Option Expr)}{values:List Expr}{trs:List (TE×TE)} (h:PPs X pos keys values trs) (hall:keys.all (·.isSome)=true) (hl:keys.length=values.length) (h0:keys≠[])
  (h15:keys.length<=15):PE X (.Dict keys values pos) (tDisp trs):=by
 intro pins s σ H Q I q
 have hn:=I.hok.fresh (Nat.le_refl s.heap.objs.size)
 have I1:=I.laid (a:=s.heap.objs.size) (o:=.dK []) (h':=s.heap.push {cls:=.type "dict",data:=.dict #[]}) (t':=s.toks) (fun _ _ q=>Heap.get?_push_of_some _ q) (Nat.le_refl _) (dk_empty s.heap I.big)
 refine wpAny_Dict_walk (knd:=mixKind X.prog X.w) hall hl h0 h15 (thn (h pins _ σ _ _ I1 (q _ hn)) fun ws s2 ⟨ps,H2,I2,rel,e,kvs,ep,lk,q2⟩=>?_)
 subst ep
 obtain⟨rs,c,rk⟩:=carries_of (P:=X.prog) (w:=X.w) rel
 obtain⟨z,hd,vs0,r0,dd⟩:=dk_of I2.hok e
 cases r0
 refine⟨rs,c,dd,fun h' dd' hs=>(fun ht=>⟨.ref s.heap.objs.size,_,?_,rfl,q2⟩)⟩
 have hz:(mergeK [] kvs).length<=sizeLine:=by
  have h1:=length_mergeK kvs []
  rw [List.length_nil] at h1
  rw [sizeLine_eq]; omega
 have he:∃q,h'.get? s.heap.objs.size=some q:=let ⟨q,_,_,hq,_⟩:=dd'; ⟨q,hq⟩
 exact d_write I2 (by rw [e]; exact True.intro) hs he (dk_new hz hd (rk.merge .nil) dd')
structure M1 (X:Cx) (o:Expr) (m:Str) (apos:Pos) (e:Expr) (cpos:Pos):Prop where
 base:attributeBase o m X.env (eval o X.env)=eval o X.env
 few:((backTo cpos (starEach [e] X.env)).all (fun x=>!x.1)&&(backToKw cpos (keywordEach [] X.env)).all (fun x=>x.1.isSome)
  && decide (([e]:List Expr).length+([]:List Keyword).length+(if ([]:List Keyword).isEmpty then 0 else 1)<30))=true
 line:(apos.endLine==cpos.line)=true
 trees:backTo cpos (starEach [e] X.env)=[(false,eval e X.env)]
noncomputable def IsD (H:Hp) (a:Addr):Prop:=(∃kvs,Rd H a (.dK kvs))∨∃kvs,Rd H a (.dT kvs)
theorem isD_at {X:Cx}{pins:List (Addr×Obj)}{σ:St}{H:Hp}{s:Shared}{a:Addr} (I:Inv X pins σ H s) (d:IsD H a) :
  s.TypeIs (.ref a) "dict" /\(∀b,Value.ref a=.ref b->∃ob,s.heap.get? b=some ob/\ob.dict=none)/\(a==sysModules)=false:=by
 rcases d with ⟨kvs,e⟩ | ⟨kvs,e⟩
 ·obtain⟨_,hd,vs,_,dd⟩:=dk_rd I.hok e
  refine⟨dd.typeIs,fun b q=>?_,hd⟩
  cases q
  obtain⟨ob,_,_,h1,h2,_⟩:=dd
  exact⟨ob,h1,h2.2.1⟩
 ·obtain⟨_,hd,xs,_,dd⟩:=dt_rd I.hok e
  refine⟨dd.typeIs,fun b q=>?_,hd⟩
  cases q
  obtain⟨ob,_,_,h1,h2,_⟩:=dd
  exact⟨ob,h1,h2.2.1⟩
noncomputable def tDPop1 (td ty:TE):TE:=fun σ H Q=>td σ H fun x H1=>∃a,x=.ref a/\IsD H1 a/\ty σ H1 fun y H2=>∃kvs k v,H2 a=some (.dK kvs)/\y=kV k/\valV kvs k=some v/\Q v (upd H2 a (.dK (dropK kvs k)))
section
variable {X:Cx}{o e f:Expr}{apos cpos:Pos}{td ty tx:TE}
theorem pe_dpop1 (ho:PE X o td) (he:PE X e ty) (m:M1 X o "pop" apos e cpos):PE X (.Call (.Attribute o "pop" apos) [e] [] cpos) (tDPop1 td ty):=by
 intro pins s σ H Q I h
 refine wpAny_Call_method m.base m.few m.line PySem.F.plainAttrs_dict PySem.F.slot_dict_pop PySem.F.type_dict_pop (thn (ho pins s σ H _ I h) fun u s1 ⟨x,H1,I1,rx,a,ex,d,q1⟩=>?_)
 subst ex
 obtain rfl:u=Value.ref a:=rx
 obtain⟨t1,t2,_⟩:=isD_at I1 d
 refine⟨t1,t2,?_⟩
 rw [m.trees]
 refine Calls.callWith_builtin rfl (Calls.evalArgs_plain (Calls.spliced_cons (thn (he pins s1 σ H1 _ I1 q1) fun iv s2 ⟨y,H2,I2,ry,kvs,k,v,ea,ey,l,q2⟩=>Calls.spliced_nil ?_)))
 subst ey
 exact d_pop I2 ea ry l (.inl rfl) fun w' s3 I3 rw'=>(fun ht=>⟨v,_,I3,rw',q2⟩)
end
section
variable {X:Cx}{pins:List (Addr×Obj)}{σ:St}{H:Hp}{s:Shared}{a:Addr}{kvs:List (Key×V)}{A:Around}{E:Value->Shared->Prop}
theorem d_copyOf {Q:Value->Shared->Prop} (I:Inv X pins σ H s) (e:Rd H a (.dK kvs)) (h:∀p s',H p=none->Inv X pins σ (upd H p (.dK kvs)) s'->Q (.ref p) s'):wpAny (model X.prog X.w) A (call (.type "dict") [.ref a]) Q E s:=by
 obtain⟨z,hd,vs,rel,dd⟩:=dk_rd I.hok e
 refine kt_call_dict hd dd (by rw [← rel.length]; exact z) fun h' dd' hs=>?_
 refine h _ _ (I.hok.fresh (Nat.le_refl _)) (I.laid (a:=s.heap.objs.size) (o:=.dK kvs) (t':=s.toks) (fun b q hq=>?_) (Nat.le_refl _) (dk_new z (beq_eq_false_iff_ne.mpr (Ne.symm (Nat.ne_of_lt I.big))) rel dd'))
 exact(hs.2 b (Nat.ne_of_lt (Heap.lt_size hq))).trans (Heap.get?_push_of_some _ hq)
end
end L2
set_option maxHeartbeats 4000000
namespace L2
open PySem PySem.Spec PyProof.Rows
noncomputable def closOf (names:List (Str×NameKind)) (cells:List (Str×Addr)):List (Str×Addr):=
 names.foldl (fun cs p=>if p.2 == .free then (p.1,(cells.lookup p.1).getD 0)::cs else cs) []
theorem clos_go {env:Env}:∀(names:List (Str×NameKind)) (cs:List (Str×Addr)),(∀x∈names,x.2=.free->∃c,env.cells.lookup x.1=some c)->
  (forIn names cs (fun(x:Str×NameKind) (cs:List (Str×Addr))=>match x with | (name,kind)=>if (kind==NameKind.free)=true then do let a ← cellOf env name; pure (ForInStep.yield ((name,a)::cs)) else pure (ForInStep.yield cs)):Sem (List (Str×Addr)))
   = pure (names.foldl (fun cs p=>if p.2 == .free then (p.1,(env.cells.lookup p.1).getD 0)::cs else cs) cs)
 | [],cs,_=>rfl
 | (n,k)::r,cs,h=>by
  rw [List.forIn_cons,List.foldl_cons]
  have ih:=fun cs'=>clos_go (env:=env) r cs' fun x hx=>h x (List.mem_cons_of_mem _ hx)
  cases hk:(k==NameKind.free) with
  |false=>
   simp only [hk,Bool.false_eq_true,if_false,pure_bind]
   exact ih cs
  |true=>
   obtain⟨c,hc⟩:=h (n,k) List.mem_cons_self (by simpa using hk)
   have e:cellOf env n=pure c:=by unfold cellOf; rw [hc]
   simp only [hk,if_true,e,pure_bind]
   rw [hc]
   exact ih _
theorem closureFor_of {scope:Scope}{env:Env} (h:∀x∈scope.names,x.2=.free->∃c,env.cells.lookup x.1=some c):closureFor scope env=pure (closOf scope.names env.cells):=by
 unfold closureFor
 have:=clos_go (env:=env) scope.names [] h
 simp only [bind_pure]
 exact this
theorem clos_look {cells:List (Str×Addr)}{x:Str}{c:Addr}:∀(names:List (Str×NameKind)) (cs:List (Str×Addr)),
  (∀y∈names,y.2=.free->∃c,cells.lookup y.1=some c)->(∀c,cs.lookup x=some c->cells.lookup x=some c)->
  (names.foldl (fun cs p=>if p.2 == .free then (p.1,(cells.lookup p.1).getD 0)::cs else cs) cs).lookup x=some c->cells.lookup x=some c
 | [],cs,_,h2,h=>h2 c h
 | (n,k)::r,cs,h1,h2,h=>by
  rw [List.foldl_cons] at h
  refine clos_look r _ (fun y hy=>h1 y (List.mem_cons_of_mem _ hy)) (fun d hd=>?_) h
  cases hk:(k==NameKind.free) with
  |false=>
   simp only [hk,Bool.false_eq_true,if_false] at hd
   exact h2 d hd
  |true=>
   obtain⟨e,he⟩:=h1 (n,k) List.mem_cons_self (by simpa using hk)
   simp only [hk,if_true,List.lookup_cons] at hd
   cases hx:x==n with
   |false=>rw [hx] at hd; exact h2 d hd
   |true=>
    rw [hx] at hd
    have hxn:x=n:=by simpa using hx
    subst hxn
    rw [he] at hd
    simp at hd
    rw [he,hd]
theorem closOf_look {names:List (Str×NameKind)}{cells:List (Str×Addr)}{x:Str}{c:Addr} (h1:∀y∈names,y.2=.free->∃c,cells.lookup y.1=some c) (h:(closOf names cells).lookup x=some c):cells.lookup x=some c:=
 clos_look names [] h1 (fun _ z=>by simp at z) h
theorem clos_mem {cells:List (Str×Addr)}{x:Str}:∀(names:List (Str×NameKind)) (cs:List (Str×Addr)),
  ((x,NameKind.free)∈names∨∃c,cs.lookup x=some c)->∃c,(names.foldl (fun cs p=>if p.2 == .free then (p.1,(cells.lookup p.1).getD 0)::cs else cs) cs).lookup x=some c
 | [],cs,h=>by
  rcases h with h | h
  ·cases h
  ·exact h
 | (n,k)::r,cs,h=>by
  rw [List.foldl_cons]
  refine clos_mem r _ ?_
  rcases h with h | ⟨c,h⟩
  ·rcases List.mem_cons.mp h with h | h
   ·right
    injection h with h1 h2
    subst h1 h2
    exact⟨(cells.lookup x).getD 0,by simp [List.lookup_cons]⟩
   ·exact .inl h
  ·right
   cases hk:(k==NameKind.free) with
   |false=>exact⟨c,by simp only [hk,Bool.false_eq_true,if_false]; exact h⟩
   |true=>
    simp only [hk,if_true,List.lookup_cons]
    cases hx:x==n with
    |false=>exact⟨c,h⟩
    |true=>exact⟨_,rfl⟩
theorem lookup_mem {names:List (Str×NameKind)}{x:Str}{k:NameKind} (h:names.lookup x=some k):(x,k)∈names:=by
 induction names with
 |nil=>simp at h
 |cons p r ih=>
  obtain⟨n,l⟩:=p
  rw [List.lookup_cons] at h
  cases hx:x==n with
  |false=>rw [hx] at h; exact List.mem_cons_of_mem _ (ih h)
  |true=>
   rw [hx] at h
   have hxn:x=n:=by simpa using hx
   subst hxn
   cases h
   exact List.mem_cons_self
theorem look_relabel {env:Env}:∀{names:List (Str×NameKind)}{x:Str}{k:NameKind},
  (names.map fun(n,k)=>if (k==NameKind.free&&env.scope.kind == .function&&env.kindOf n==some .cell) then (n,NameKind.cell) else (n,k)).lookup x=some k->
   names.lookup x=some k∨(k=.cell/\names.lookup x=some .free)
 | [],_,_,h=>by simp at h
 | (n,l)::r,x,k,h=>by
  have ih:=@look_relabel env r x k
  rw [List.map_cons] at h
  by_cases hc:(l==NameKind.free&&env.scope.kind == .function&&env.kindOf n==some .cell)=true
  ·simp only [hc,if_true] at h
   rw [List.lookup_cons] at h ⊢
   cases hx:x==n with
   |true=>
    rw [hx] at h
    cases h
    have hl:l=.free:=by
     have:=(Bool.and_eq_true_iff.mp (Bool.and_eq_true_iff.mp hc).1).1
     simpa using this
    subst hl
    exact .inr ⟨rfl,rfl⟩
   |false=>rw [hx] at h; exact ih h
  ·simp only [hc] at h
   simp only [Bool.false_eq_true,if_false] at h
   rw [List.lookup_cons] at h ⊢
   cases hx:x==n with
   |true=>rw [hx] at h; exact .inl h
   |false=>rw [hx] at h; exact ih h
theorem cf_look {x:Str}{c:Addr}:∀(names:List (Str×NameKind)) (n:Nat) (acc:List (Str×Addr)),(cellsFrom n names acc).lookup x=some c->
  (n<=c/\(x,NameKind.cell)∈names)∨(acc.lookup x=some c/\∀k,(x,k)∈names->k≠.cell)
 | [],n,acc,h=>.inr ⟨h,fun _ z=>nomatch z⟩
 | (y,k)::r,n,acc,h=>by
  unfold cellsFrom at h
  by_cases hk:(k==NameKind.cell)=true
  ·rw [if_pos hk] at h
   have hk':k=.cell:=by simpa using hk
   subst hk'
   rcases cf_look r _ _ h with ⟨a,b⟩ | ⟨a,b⟩
   ·exact .inl ⟨by omega,List.mem_cons_of_mem _ b⟩
   ·rw [List.lookup_cons] at a
    cases hx:x==y with
    |true=>
     rw [hx] at a
     have e:n=c:=by simpa using a
     have hxy:x=y:=by simpa using hx
     subst hxy
     exact .inl ⟨by omega,List.mem_cons_self⟩
    |false=>
     rw [hx] at a
     refine .inr ⟨a,fun k' z=>?_⟩
     rcases List.mem_cons.mp z with z | z
     ·injection z with z1 z2
      subst z1
      simp at hx
     ·exact b k' z
  ·rw [if_neg hk] at h
   rcases cf_look r _ _ h with ⟨a,b⟩ | ⟨a,b⟩
   ·exact .inl ⟨a,List.mem_cons_of_mem _ b⟩
   ·refine .inr ⟨a,fun k' z=>?_⟩
    rcases List.mem_cons.mp z with z | z
    ·injection z with z1 z2
     subst z2
     intro e
     exact hk (by rw [e]; rfl)
    ·exact b k' z
theorem cf_inj:∀(names:List (Str×NameKind)) (n:Nat) (acc:List (Str×Addr)),(∀z d,acc.lookup z=some d->d<n)->(∀x y c,acc.lookup x=some c->acc.lookup y=some c->x=y)->
  ∀x y c,(cellsFrom n names acc).lookup x=some c->(cellsFrom n names acc).lookup y=some c->x=y
 | [],_,_,_,h=>h
 | (y,k)::r,n,acc,hb,hi=>by
  unfold cellsFrom
  by_cases hk:(k==NameKind.cell)=true
  ·rw [if_pos hk]
   refine cf_inj r _ _ (fun z d e=>?_) fun u v c e1 e2=>?_
   ·rw [List.lookup_cons] at e
    cases hx:z==y with
    |true=>rw [hx] at e; have q:n=d:=(by simpa using e); rw [← q]; exact Nat.lt_succ_self n
    |false=>rw [hx] at e; exact Nat.lt_succ_of_lt (hb z d e)
   ·rw [List.lookup_cons] at e1 e2
    cases hx:u==y with
    |true=>
     rw [hx] at e1
     have q1:n=c:=by simpa using e1
     cases hy:v==y with
     |true=>rw [(by simpa using hx:u=y),(by simpa using hy:v=y)]
     |false=>rw [hy] at e2; exact absurd (hb v c e2) (by rw [← q1]; exact Nat.lt_irrefl _)
    |false=>
     rw [hx] at e1
     cases hy:v==y with
     |true=>rw [hy] at e2; have q2:n=c:=(by simpa using e2); exact absurd (hb u c e1) (by rw [← q2]; exact Nat.lt_irrefl _)
     |false=>rw [hy] at e2; exact hi u v c e1 e2
  ·rw [if_neg hk]
   exact cf_inj r _ _ hb hi
theorem cf_cell:∀(names:List (Str×NameKind)) (h:Heap) (acc:List (Str×Addr)),(∀z d,acc.lookup z=some d->∃v,h.IsCell d v)->
  ∀x c,(cellsFrom h.objs.size names acc).lookup x=some c->∃v,(pushCells h names).IsCell c v
 | [],_,_,h=>h
 | (y,k)::r,h,acc,hb=>by
  unfold cellsFrom pushCells
  by_cases hk:(k==NameKind.cell)=true
  ·rw [if_pos hk,if_pos hk]
   have:=cf_cell r (h.push {cls:=.type "cell",data:=.cell none}) ((y,h.objs.size)::acc) fun z d e=>by
    rw [List.lookup_cons] at e
    cases hx:z==y with
    |true=>
     rw [hx] at e
     have q:h.objs.size=d:=by simpa using e
     subst q
     exact⟨none,_,Heap.get?_push_size _ rfl,rfl⟩
    |false=>
     rw [hx] at e
     obtain⟨v,q⟩:=hb z d e
     exact⟨v,q.keeps fun b o e=>Heap.get?_push_of_some _ e⟩
   rwa [Heap.size_push] at this
  ·rw [if_neg hk,if_neg hk]
   exact cf_cell r h acc hb
theorem newEnvC {M:Model}{A:Around}{E:Value->Shared->Prop}{s:Shared}{scope:Scope}{globals:Addr}{cl:List (Str×Addr)}{qual:Str}{env:Env}{Q:Env->Shared->Prop}
  (h:Q {scope:=scope,locals:=s.heap.objs.size,globals:=globals,cells:=cellsFrom (s.heap.objs.size+1) scope.names cl,qual:=qual,func:=none,code:=env.code,frame:=env.frame,builtins:=env.builtins}
   {s with heap:=pushCells (s.heap.push {cls:=.type "dict",data:=.dict #[]}) scope.names}):wpAny M A (newFunctionEnv scope globals cl [] qual none .none (some env)) Q E s:=by
 simp only [newFunctionEnv,Option.isSome_some,if_true]
 refine wpAny_bind (wpAny_alloc ?_)
 refine wpAny_bind (wpAny_layCells _ (fun name kind cells=>by cases hkc:kind==NameKind.cell <;> simp [hkc]) _ _ _ _ ?_)
 rw [show ({s with heap:=s.heap.push {cls:=.type "dict",data:=.dict #[]}}:Shared).heap.objs.size=s.heap.objs.size+1 from Heap.size_push ..]
 exact wpAny_bind (wpAny_pure (wpAny_pure h))
noncomputable def cxC (X:Cx) (scope:Scope) (N:List Str) (pins:List (Addr×Obj)) (fp:List Addr) (s:Shared) (H:Hp):Cx where
 prog:=X.prog
 w:=X.w
 K:=X.K
 mg:=X.mg
 base:=X.base
 A:=X.A
 N:=N
 s₀:=s
 H₀:=H
 env:=compEnvC scope (cellsFrom (s.heap.objs.size+1) scope.names (closOf scope.names X.env.cells)) s.heap.objs.size X.env
 outer:=X.stack
 stack:=X.stack
 ex:=fp
 fn:=fun x=>scope.names.lookup x==some .cell
 calm:=X.calm
 pn:=X.pn++pins
 xe:=fun _ _=>False
structure CScope (X:Cx) (scope:Scope) (N:List Str) (k:Nat) (fr:List Nat):Prop where
 kind:scope.kind=.function
 owned:(scope.names.all fun y=>y.2 != .cell || scope.names.lookup y.1==some .cell)=true
 names:(scope.names.all fun y=>y.2 != .local || scope.names.lookup y.1==some .local)=true
 free:(scope.names.all fun y=>y.2 != .free || (X.env.kindOf y.1==some .cell || X.env.kindOf y.1==some .free))=true
 len:N.length=k+fr.length
 at_:((List.range fr.length).all fun i=>match N[k+i]?,fr[i]? with | some x,some j=>X.N[j]?==some x&&scope.names.lookup x==some .free | _,_=>false)=true
section
variable {X:Cx}{scope:Scope}{N:List Str}{k:Nat}{fr:List Nat}
theorem CScope.frees (S:CScope X scope N k fr):∀y∈scope.names,y.2=.free->X.env.kindOf y.1=some .cell∨X.env.kindOf y.1=some .free:=fun y hy e=>by
 have h:=List.all_eq_true.mp S.free y hy
 simp only [e] at h
 simpa using h
theorem CScope.cells (S:CScope X scope N k fr) (ok:X.Ok):∀y∈scope.names,y.2=.free->∃c,X.env.cells.lookup y.1=some c:=fun y hy e=>ok.has y.1 (S.frees y hy e)
theorem CScope.locals (S:CScope X scope N k fr):∀y∈scope.names,y.2=.local->scope.names.lookup y.1=some .local:=fun y hy e=>by
 have h:=List.all_eq_true.mp S.names y hy
 simp only [e] at h
 simpa using h
theorem CScope.own (S:CScope X scope N k fr){x:Str} (h:(x,NameKind.cell)∈scope.names):scope.names.lookup x=some .cell:=by
 have h:=List.all_eq_true.mp S.owned _ h
 simpa using h
theorem CScope.look (S:CScope X scope N k fr) (ok:X.Ok){n:Nat}{x:Str}{c:Addr} (h:(cellsFrom n scope.names (closOf scope.names X.env.cells)).lookup x=some c) :
  (n<=c/\scope.names.lookup x=some .cell)∨(X.env.cells.lookup x=some c/\scope.names.lookup x≠some .cell):=by
 rcases cf_look _ _ _ h with ⟨a,b⟩ | ⟨a,b⟩
 ·exact .inl ⟨a,S.own b⟩
 ·exact .inr ⟨closOf_look (S.cells ok) a,fun z=>b _ (lookup_mem z) rfl⟩
noncomputable def startC (k:Nat) (fr:List Nat) (σ:St):St:=List.replicate k none++fr.map fun j=>(σ[j]?).getD none
variable {pins:List (Addr×Obj)}{σ:St}{H:Hp}{s:Shared}{fp:List Addr}
theorem okC (S:CScope X scope N k fr) (I:Inv X pins σ H s) (hf:∀b∈fp,FpOk X pins H b) (hlt:∀b∈fp,b<s.heap.objs.size):(cxC X scope N pins fp s H).Ok where
 mod:=I.ok.mod
 kind:=S.kind
 glob:=I.ok.glob
 blt:=I.ok.blt
 above:=Nat.le_refl _
 inj:=cf_inj _ _ _ (fun z d e=>by
   obtain⟨v,q⟩:=I.cell z d (closOf_look (S.cells I.ok) e)
   exact Nat.lt_succ_of_lt q.lt) fun x y c hx hy=>I.ok.inj x y c (closOf_look (S.cells I.ok) hx) (closOf_look (S.cells I.ok) hy)
 has:=fun x hx=>by
  have hx':(relabel scope X.env).names.lookup x=some .cell∨(relabel scope X.env).names.lookup x=some .free:=hx
  have key:scope.names.lookup x=some .cell∨scope.names.lookup x=some .free:=by
   rcases hx' with h | h
   ·rcases look_relabel h with h | h
    ·exact .inl h
    ·exact .inr h.2
   ·rcases look_relabel h with h | h
    ·exact .inr h
    ·exact .inr h.2
  refine Option.isSome_iff_exists.mp (PySem.W.cellsFrom_some scope.names _ _ (key.imp id fun e=>?_))
  obtain⟨c,hc⟩:=clos_mem (cells:=X.env.cells) scope.names [] (.inl (lookup_mem e))
  exact Option.isSome_iff_exists.mpr ⟨c,hc⟩
 cab:=fun x c h hc=>by
  have h':scope.names.lookup x=some .cell:=by
   have h2:(scope.names.lookup x==some .cell)=true:=h
   simpa using h2
  rcases S.look I.ok hc with ⟨a,_⟩ | ⟨_,b⟩
  ·exact Nat.le_trans (Nat.le_succ _) a
  ·exact absurd h' b
 hd:=I.ok.hd
 frames:=I.ok.frames
 stk:=.inl rfl
 exf:=fun b hb=>⟨Nat.ne_of_lt (hlt b hb),fun x c hc=>by
  rcases S.look I.ok hc with ⟨a,_⟩ | ⟨a,_⟩
  ·intro z
   exact Nat.lt_irrefl _ (Nat.lt_of_lt_of_le (hlt b hb) (z ▸ Nat.le_trans (Nat.le_succ _) a))
  ·exact(hf b hb).2.2.2.2.1 x c a⟩
 bs:=I.bs
 bsz:=Nat.le_trans I.ok.bsz I.sz
 noex:=fun b o e hb=>by
  rcases(hf b hb).2.2.2.1 with z | z
  ·exact I.ok.noex b o e z
  ·exact absurd (Nat.lt_of_lt_of_le (Heap.lt_size e) (Nat.le_trans I.ok.bsz z)) (Nat.lt_irrefl _)
 exfs:=fun b hb hs=>by
  rcases List.mem_cons.mp (I.stkSub b hs) with e | e
  ·exact(hf b hb).2.1 e
  ·exact(hf b hb).2.2.1 e
 funs:=I.stack
 frf:=I.stkFree
theorem invC {h1:Heap}{t1:Nat}{m:Str->Option Value} (S:CScope X scope N k fr) (I:Inv X pins σ H s) (hf:∀b∈fp,FpOk X pins H b) (hlt:∀b∈fp,b<s.heap.objs.size)
  (hns:h1.Ns s.heap.objs.size m) (hkeep:∀b o,s.heap.get? b=some o->h1.get? b=some o)
  (hcl:∀x c,(cellsFrom (s.heap.objs.size+1) scope.names (closOf scope.names X.env.cells)).lookup x=some c->∃v,h1.IsCell c v) (ht1:0<t1:=by first | assumption | exact Inv.tk (by assumption)):Inv (cxC X scope N pins fp s H) [] (startC k fr σ) H {s with heap:=h1,toks:=t1} where
 tk:=ht1
 ok:=okC S I hf hlt
 os:=rfl
 bare:=I.bare
 base:=Un.kept hkeep
 loc:=by
  refine⟨m,hns,fun i x v e1 e2 e3=>?_⟩
  have hk:k<=i:=by
   by_cases z:i<k
   ·unfold startC at e2
    rw [List.getElem?_append_left (by simpa using z)] at e2
    simp [z] at e2
   ·omega
  obtain⟨j,rfl⟩:∃j,i=k+j:=⟨i - k,by omega⟩
  unfold startC at e2
  rw [List.getElem?_append_right (by simp)] at e2
  simp only [List.length_replicate,Nat.add_sub_cancel_left,List.getElem?_map] at e2
  have hj:j<fr.length:=by
   cases q:fr[j]? with
   |none=>rw [q] at e2; cases e2
   |some _=>exact(List.getElem?_eq_some_iff.mp q).1
  have ha:=List.all_eq_true.mp S.at_ j (by simpa using hj)
  have e1':N[k+j]?=some x:=e1
  cases q:fr[j]? with
  |none=>rw [q] at e2; cases e2
  |some p=>
   rw [q] at e2
   simp only [e1',q] at ha
   obtain⟨a1,a2⟩:=Bool.and_eq_true_iff.mp ha
   have a1':X.N[p]?=some x:=by simpa using a1
   have a2':scope.names.lookup x=some .free:=by simpa using a2
   have e2':(σ[p]?).getD none=some v:=by simpa using e2
   have e2'':σ[p]?=some (some v):=by
    cases z:σ[p]? with
    |none=>rw [z] at e2'; cases e2'
    |some y=>rw [z] at e2'; simpa using e2'
   have hfr:=S.frees (x,.free) (lookup_mem a2') rfl
   obtain⟨m0,hn0,hl0⟩:=I.loc
   have hvis:Vis X.env.scope x:=by
    rcases hfr with z | z
    ·exact .inr (.inl z)
    ·exact .inr (.inr z)
   obtain⟨u,r,l⟩:=hl0 p x v a1' e2'' hvis
   refine⟨u,r,.inr ⟨?_,?_⟩⟩
   ·show (relabel scope X.env).names.lookup x=some .cell∨(relabel scope X.env).names.lookup x=some .free
    rcases e3 with z | z | z
    ·rcases look_relabel z with z | z
     ·rw [a2'] at z; cases z
     ·cases z.1
    ·exact .inl z
    ·exact .inr z
   ·have hc:∃c,X.env.cells.lookup x=some c/\s.heap.IsCell c (some u):=by
     rcases l with ⟨z,_⟩ | ⟨_,c,hc,hv⟩
     ·rcases hfr with y | y
      ·have y':X.env.kindOf x=some .cell:=y
       rw [y'] at z; cases z
      ·have y':X.env.kindOf x=some .free:=y
       rw [y'] at z; cases z
     ·exact⟨c,hc,hv⟩
    obtain⟨c,hc,o,ho,hd⟩:=hc
    obtain⟨c1,hc1⟩:=clos_mem (cells:=X.env.cells) scope.names [] (.inl (lookup_mem a2'))
    obtain⟨c',hc'⟩:=Option.isSome_iff_exists.mp (PySem.W.cellsFrom_some scope.names (s.heap.objs.size+1) (closOf scope.names X.env.cells) (.inr (Option.isSome_iff_exists.mpr ⟨c1,hc1⟩)))
    have hcc:X.env.cells.lookup x=some c':=by
     rcases S.look I.ok hc' with ⟨_,b⟩ | ⟨b,_⟩
     ·rw [a2'] at b; cases b
     ·exact b
    rw [hc] at hcc
    cases hcc
    exact⟨c,hc',o,hkeep c o ho,hd⟩
 cell:=hcl
 free:=I.hok.fresh (Nat.le_refl _)
 freeC:=fun x c hc=>by
  rcases S.look I.ok hc with ⟨a,_⟩ | ⟨a,_⟩
  ·exact I.hok.fresh (Nat.le_trans (Nat.le_succ _) a)
  ·exact I.freeC x c a
 pin:=fun p hp=>by
  have hp':p∈X.pn++pins:=by
   have hp2:p∈(X.pn++pins)++[]:=hp
   simpa using hp2
  obtain⟨e,n,ne,nf,d⟩:=I.pin p hp'
  refine⟨hkeep _ _ e,n,Nat.ne_of_lt (Heap.lt_size e),fun z=>?_,d⟩
  rcases List.mem_cons.mp (I.stkSub p.1 z) with q | q
  ·exact ne q
  ·exact nf q
 hok:=I.hok.kept hkeep
 len:=by
  have:=S.len
  show (startC k fr σ).length=N.length
  unfold startC
  simp [this]
theorem outC {σ':St}{H':Hp}{s':Shared}{h':Heap}{pins':List (Addr×Obj)} (I:Inv X pins σ H s) (hf:∀b∈fp,FpOk X pins H b) (I':Inv (cxC X scope N pins fp s H) pins' σ' H' s') (sb:Heap.SameBut s.heap.objs.size s'.heap h') :
  Inv X pins σ H' {s' with heap:=h'}:=by
 have fr':H' s.heap.objs.size=none:=I'.free
 refine I.call' (s':={s' with heap:=h'}) (ch:=fp) I'.os ⟨fun b o e n hb hx=>?_,fun b o e n hb hx=>?_,I'.base.free,fun b o e hx=>?_,I'.base.tups,I'.base.frzs,I'.base.tbls⟩ ?_ I'.bare (fun b hb=>⟨(hf b hb).2.2.2.1,(hf b hb).2.1,(hf b hb).2.2.2.2.1,(hf b hb).2.2.2.2.2⟩) I'.tk
 ·exact(sb.2 b (Nat.ne_of_lt (Heap.lt_size e))).trans (I'.base.keep b o e n hb hx)
 ·obtain⟨sl,q⟩:=I'.base.slot b o e n hb hx
  exact⟨sl,(sb.2 b (Nat.ne_of_lt (Heap.lt_size e))).trans q⟩
 ·obtain⟨o',q⟩:=I'.base.there b o e hx
  exact⟨o',(sb.2 b (Nat.ne_of_lt (Heap.lt_size e))).trans q⟩
 ·intro b u e
  refine(I'.hok b u e).stay (fun c v hc q=>(sb.2 c ?_).trans q) (fun _ q=>q) fun _ _ q=>q
  rintro rfl
  rcases hc with rfl | hc
  ·rw [fr'] at e; cases e
  ·rw [fr'] at hc; cases hc
end
noncomputable def PTs (X:Cx) (ifs:List Expr) (t:TT):Prop:=
 ∀(pins:List (Addr×Obj)) (s:Shared) (σ:St) (H:Hp) (Q:Bool->Hp->Prop),Inv X pins σ H s->t σ H Q->
  wpAny (model X.prog X.w) X.A (forIn ifs true fun c r=>if r=true then do let ok ← isTrue c X.env (eval c X.env); pure (ForInStep.yield ok) else pure (ForInStep.yield r)) (TP X pins σ Q) X.xe s
noncomputable def tYes:TT:=fun _ H Q=>Q true H
theorem pts_nil {X:Cx}:PTs X [] tYes:=fun _ _ _ H _ I h=>wpAny_tests_nil (fun ht=>⟨H,I,h⟩)
theorem pts_one {X:Cx}{c:Expr}{t:TT} (h:PT X c t):PTs X [c] t:=fun pins s σ H Q I hw=>wpAny_tests_one (h pins s σ H Q I hw)
noncomputable def rdComp (k:Nat) (fr:List Nat) (g:TG) (tc:TT) (te:TE) (σ:St) (J:It) (H1:Hp) (Q:VK):Prop:=
 ∀D,H1 D=none->∃W:Nat->Nat->List V->St->Hp->Prop,(∃m,W 0 m [] (startC k fr σ) (upd H1 D (.lst [])))/\
  ∀i m ys σ' H',W i m ys σ' H'->H' D=some (.lst ys)/\
   ((J.stop i H'/\Q (.ref D) H')∨
    (J.go i H'/\∃m',m'<m/\∀x H2,J.yld i H' x H2->g x σ' H2 fun σ2 H3=>tc σ2 H3 fun b H4=>
     if b=true then te σ2 H4 fun v H5=>H5 D=some (.lst ys)/\ys.length<sizeLine/\W (i+1) m' (ys++[v]) σ2 (upd H5 D (.lst (ys++[v])))
     else W (i+1) m' ys σ2 H4))
noncomputable def tComp (k:Nat) (fr:List Nat) (wi:TI) (g:TG) (tc:TT) (te:TE):TE:=fun σ H Q=>wi σ H fun J H1=>rdComp k fr g tc te σ J H1 Q
noncomputable abbrev S (l:List Nat):V:=.str ⟨l.toArray⟩
theorem Str_ext {a b:Str} (h:a.cps.toList=b.cps.toList):a=b:=by
 cases a; cases b
 simp at h
 rw [h]
theorem S_inj {a b:List Nat} (h:S a=S b):a=b:=by
 injection h with h
 injection h with h
 simpa using congrArg Array.toList h
section
variable {X:Cx}
theorem pe_S {l:List Nat}{x:Str} {j pos} (h:x=⟨l.toArray⟩:=by decide +kernel):PE X (.Constant (.str x) j pos) (tC (S l)):=by
 subst h
 exact pe_str
theorem S_add (a b:List Nat):(⟨a.toArray⟩:Str)++(⟨b.toArray⟩:Str)=⟨(a++b).toArray⟩:=Str_ext (by show (a.toArray++b.toArray).toList=_; simp)
noncomputable def rAddS:R2:=fun x y H Q=>∃a b,x=S a/\y=S b/\a.length+b.length<=sizeLine/\Q (S (a++b)) H
theorem op_addS:OpR X (binaryOp .Add) rAddS:=by
 intro pins s σ H x y v u Q I rx ry ⟨a,b,ex,ey,hl,q⟩
 subst ex ey
 refine op_add_str pins s σ H _ _ v u Q I rx ry ⟨_,_,rfl,rfl,?_,?_⟩
 ·show a.toArray.size+b.toArray.size<=sizeLine
  simpa using hl
 ·rw [S_add]; exact q
noncomputable def rIxC:R2:=fun x y H Q=>∃l i c,x=S l/\y=.int i/\l.length<=sizeLine/\atI l i=some c/\Q (S [c]) H
theorem ix_S:IxR X rIxC:=by
 intro value slice pins s σ H x y v u Q I rx ry ⟨l,i,c,ex,ey,hl,hc,q⟩ hs
 subst ex ey
 exact ix_str value slice pins s σ H _ _ v u Q I rx ry ⟨_,i,c,rfl,rfl,by simpa [Str.length] using hl,by simpa using hc,q⟩ hs
theorem call_lenS:CallR X (.builtin "len") (fun xs H Q=>∃l,xs=[S l]/\l.length<=sizeLine/\Q (.int l.length) H):=by
 intro pins s σ H xs us Q I r ⟨l,e,hl,q⟩
 subst e
 exact call_len_str pins s σ H _ us Q I r ⟨_,rfl,by simpa [Str.length] using hl,by simpa [Str.length] using q⟩
noncomputable def rInS (neg:Bool):R2:=fun x y H Q=>∃c l,x=S [c]/\y=S l/\Q (.bl (if neg then !decide (c∈l) else decide (c∈l))) H
theorem op_inS:OpR X (compareOp .In) (rInS false):=by
 intro pins s σ H x y v u Q I rx ry ⟨c,l,ex,ey,q⟩
 subst ex ey
 refine op_in_str pins s σ H _ _ v u Q I rx ry ⟨_,_,rfl,rfl,?_⟩
 rw [StrLaws.found_one]
 simpa using q
noncomputable def cutN (l:List Nat) (lo hi:Option Int):List Nat:=(l.drop (HT.sIx l.length 0 lo)).take (HT.sIx l.length l.length hi - HT.sIx l.length 0 lo)
theorem picksN (l:List Nat) (a b:Nat):((List.range (b - a)).map fun(k:Nat)=>((a:Int)+1 * (k:Int)).toNat).filterMap (l.toArray[·]?)=(l.drop a).take (b - a):=by
 have key:∀(n a:Nat),((List.range n).map fun(k:Nat)=>((a:Int)+1 * (k:Int)).toNat).filterMap (l.toArray[·]?)=(l.drop a).take n:=by
  intro n
  induction n with
  |zero=>intro a; simp
  |succ n ih=>
   intro a
   rw [List.range_succ,List.map_append,List.filterMap_append,ih a,List.take_add_one]
   congr 1
   simp only [List.map_cons,List.map_nil,List.filterMap_cons,List.filterMap_nil,List.getElem?_drop]
   have e:((a:Int)+1 * (n:Int)).toNat=a+n:=by omega
   rw [e]
   cases q:l[a+n]? with
   |none=>simp [q]
   |some v=>simp [q]
 exact key _ a
theorem slice_cut (l:List Nat) (lo hi:Option Int):Txt.slice ⟨l.toArray⟩ lo hi=⟨(cutN l lo hi).toArray⟩:=by
 have hb:=slice_bounds lo hi l.length
 have ei:Builtin.Str.strSliceIndices lo hi 1 l.length=(List.range (HT.sIx l.length l.length hi - HT.sIx l.length 0 lo)).map fun(k:Nat)=>(((HT.sIx l.length 0 lo:Nat):Int)+1 * (k:Int)).toNat:=by
  obtain⟨h1,h2,h3⟩:=hb
  show sliceRange (sliceBounds lo hi none l.length).1 (sliceBounds lo hi none l.length).2.1 1=_
  rw [h1,h2]
  unfold sliceRange
  simp only [show (1:Int) > 0 by decide,if_true,Int.ediv_one]
  congr 2
  split <;> omega
 have hl:(⟨l.toArray⟩:Str).length=l.length:=by simp [Str.length]
 unfold Txt.slice
 rw [hl,ei]
 have e2:=picksN l (HT.sIx l.length 0 lo) (HT.sIx l.length l.length hi)
 split
 ·rename_i h
  simp only [List.length_map,List.length_range] at h
  have h':HT.sIx l.length l.length hi - HT.sIx l.length 0 lo=l.length:=by simpa using h
  have h3:HT.sIx l.length l.length hi<=l.length:=HT.sIx_le _ _ (Nat.le_refl _) _
  have h4:HT.sIx l.length 0 lo=0∨l.length=0:=by omega
  apply Str_ext
  simp only [cutN,h']
  rcases h4 with h4 | h4
  ·simp [h4]
  ·have:l=[]:=List.length_eq_zero_iff.mp h4
   subst this
   simp
 ·apply Str_ext
  simp only [cutN]
  exact e2
theorem cutN_length (l:List Nat) (lo hi:Option Int):(cutN l lo hi).length<=l.length:=by
 simp only [cutN,List.length_take,List.length_drop]
 omega
noncomputable def rSlS:V->Option Int->Option Int->Hp->VK->Prop:=fun x lo hi H Q=>∃l,x=S l/\l.length<=sizeLine/\Q (S (cutN l lo hi)) H
theorem part_val {v:Value}{o:Option Int} (p:IsPart v o):∃q:Option (Int×Tok),v=partValue q/\q.map (·.1)=o:=by
 cases p with
 |none=>exact⟨none,rfl,rfl⟩
 |int i t=>exact⟨some (i,t),rfl,rfl⟩
theorem sl_S:SlR X rSlS:=by
 intro pins s σ H x v vl vu lo hi sl Q I rx hs pl pu ⟨l,ex,hl,q⟩
 subst ex
 obtain⟨t,rfl⟩:=rx
 obtain⟨ql,rfl,rfl⟩:=part_val pl
 obtain⟨qu,rfl,rfl⟩:=part_val pu
 refine⟨"str",_,F.slot_str_getitem.lookup,typeIs_str _ _ _,wpAny_getItem_str_slice (l:=ql) (u:=qu) (st:=none) hs rfl ?_⟩
 have e:Txt.slice ⟨l.toArray⟩ (ql.map (·.1)) (qu.map (·.1))=⟨(cutN l (ql.map (·.1)) (qu.map (·.1))).toArray⟩:=slice_cut _ _ _
 have hz:(cutN l (ql.map (·.1)) (qu.map (·.1))).length<=sizeLine:=Nat.le_trans (cutN_length _ _ _) hl
 refine post_val_or_made (fun _=>?_) fun t' k=>(fun ht=>⟨S (cutN l (ql.map (·.1)) (qu.map (·.1))),H,I.tok k,⟨t',?_⟩,q⟩)
 ·refine Nat.le_trans ?_ hl
  have:=Txt.slice_le ⟨l.toArray⟩ (ql.map (·.1)) (qu.map (·.1))
  refine Nat.le_trans (List.length_filterMap_le _ _ |> fun h=>(by simpa [Str.length] using h)) ?_
  have h2:=sliceIndices_le (ql.map (·.1)) (qu.map (·.1)) l.length
  simpa [slicePicked,Str.length] using h2
 ·rw [← e]
  rfl
noncomputable def Itf (vs:List V):It:=⟨fun i _=>i<vs.length,fun i H x H'=>H'=H/\vs[i]?=some x,fun i _=>vs.length<=i⟩
noncomputable def sgs (l:List Nat):List V:=l.map fun c=>S [c]
theorem sgs_length (l:List Nat):(sgs l).length=l.length:=by simp [sgs]
theorem turn_str {P:Program}{w:World}{K:PySem.W.Frag}{tg:Expr} (it:Addr) (l:List Nat) (ty:String) (t:Tok) (hty:ty = "str_ascii_iterator" ∨ty = "str_iterator") :
  Turn P w K tg (Itf (sgs l)) [it] it (fun i h=>h.IsStrIter it ty ⟨l.toArray⟩ t i):=by
 have WW:∀A:Around,A.handled=none->Walks P w A it [it] [it] l.length (SignAt ⟨l.toArray⟩) (fun i h=>h.IsStrIter it ty ⟨l.toArray⟩ t i):=fun A hh=>by
  rcases hty with rfl | rfl
  ·simpa using Walks.strAscii (prog:=P) (w:=w) hh it ⟨l.toArray⟩ t
  ·simpa using Walks.strWide (prog:=P) (w:=w) hh it ⟨l.toArray⟩ t
 refine⟨by simp,fun i h st b hb=>?_,fun i h h' st k=>?_,?_,?_,?_⟩
 ·have e:b=it:=by simpa using hb
  subst e
  obtain⟨o,e,c,d⟩:=st
  exact⟨o,e,fun v z=>by rw [d] at z; cases z⟩
 ·obtain⟨o,e,r⟩:=st
  exact⟨o,k it (by simp) o e,r⟩
 ·intro X hP hw hK hc i pins s σ H E I hf st hg
  subst hP hw hK
  obtain⟨f0,f1,f2,f3,f4,f5⟩:=hf it (by simp)
  have hi:i<l.length:=by simpa [sgs] using (show i<(sgs l).length from hg)
  refine(WW X.A (I.ok.hd hc)).item i s _ _ hi st fun v h' tk hv st' kk ht=>?_
  obtain⟨c,u,hcx,rfl⟩:=hv
  have I1:Inv X pins σ H {s with heap:=h',toks:=tk}:=I.turned (fun b o hb e=>kk b o (by simpa using hb) e) f0 f1 f3 f4 f5
  obtain⟨o,e,c',d⟩:=id st'
  refine⟨_,rfl,go_of (s:={s with heap:=h',toks:=tk}) (n:=ty) e c' d (by rcases hty with rfl | rfl <;> decide) fun _=>⟨S [c],H,I1,⟨u,rfl⟩,⟨rfl,?_⟩,st',fun b hb=>(hf b hb).1⟩⟩
  have hcx':l[i]?=some c:=by simpa using hcx
  simp [sgs,hcx']
 ·intro X hP hw hK hc i pins s σ H E I hf st hg
  subst hP hw hK
  obtain⟨f0,f1,f2,f3,f4,f5⟩:=hf it (by simp)
  have hi:l.length<=i:=by simpa [sgs] using (show (sgs l).length<=i from hg)
  have none_at:(⟨l.toArray⟩:Str).cps[i]?=none:=by simp [hi]
  rcases hty with rfl | rfl
  ·exact wpAny_pyNext_ascii_end (I.ok.hd hc) st none_at fun h' eb=>(fun ht=>⟨rfl,I.turned (t':=s.toks) (fun b o hb e=>eb b o hb e) f0 f1 f3 f4 f5⟩)
  ·exact wpAny_pyNext_wide_end (I.ok.hd hc) st none_at fun h' eb=>(fun ht=>⟨rfl,I.turned (t':=s.toks) (fun b o hb e=>eb b o hb e) f0 f1 f3 f4 f5⟩)
 ·intro A i s Q E st h
  rcases hty with rfl | rfl
  ·exact wpAny_pyIter_striter_ascii st h
  ·exact wpAny_pyIter_striter_wide st h
noncomputable def iStr (tl:TE):TI:=fun σ H R=>tl σ H fun x H1=>∃l,x=S l/\R (Itf (sgs l)) H1
theorem pi_str {tg e:Expr}{tl:TE} (hl:PE X e tl):PI X tg e (iStr tl):=by
 intro pins s σ H R I h
 refine thn (hl pins s σ H _ I h) fun v s1 h_=>?_
 obtain⟨x,H1,I1,r1,l,ex,q⟩:=h_
 subst ex
 obtain⟨t,rfl⟩:=r1
 refine fun _=>wpAny_pyIter_strU fun _=>?_
 refine⟨s1.heap.objs.size,[s1.heap.objs.size],_,_,H1,rfl,I1.kept (t':=s1.toks) fun b o e=>Heap.get?_push_of_some _ e,turn_str _ l (strIterType ⟨l.toArray⟩) t ?_,⟨_,Heap.get?_push_size _ rfl,rfl,rfl⟩,fun b hb=>?_,q⟩
 ·unfold strIterType
  split
  ·exact .inl rfl
  ·exact .inr rfl
 ·have e:b=s1.heap.objs.size:=by simpa using hb
  subst e
  exact I1.fpOk (Nat.le_refl _) (I1.hok.fresh (Nat.le_refl _))
theorem range_all (bs:List Bool):(List.range bs.length).all (fun i=>bs[i]?.getD false)=bs.all id:=by
 rw [Bool.eq_iff_iff,List.all_eq_true,List.all_eq_true]
 constructor
 ·intro h b hb
  obtain⟨i,hi,rfl⟩:=List.mem_iff_getElem.mp hb
  have:=h i (by simpa using hi)
  simpa [hi] using this
 ·intro h i hi
  have hi':i<bs.length:=by simpa using hi
  have:=h bs[i] (List.getElem_mem hi')
  simpa [hi'] using this
theorem bools_truth {P:Program}{w:World}{A:Around}{bs:List Bool}{its:List Value} (r:Vals (bs.map V.bl) its):TruthOf P w A (fun i v=>its.toArray[i]?=some v) (fun i=>bs[i]?.getD false):=by
 intro i v s Q E hP hQ
 have hP':its[i]?=some v:=by simpa using hP
 have hl:=r.length
 have hi:i<its.length:=(List.getElem?_eq_some_iff.mp hP').1
 have hb:i<bs.length:=by simpa [← hl] using hi
 obtain⟨u,hu,ru⟩:=r.get (i:=i) (x:=.bl bs[i]) (by simp [hb])
 rw [hP'] at hu
 cases hu
 cases ru
 have e:bs[i]?.getD false=bs[i]:=by simp [hb]
 have hQ':Q (bs[i]?.getD false) s:=hQ
 rw [e] at hQ'
 exact wpAny_truthy_bool hQ'
theorem call_allB (hc:X.calm=true):CallR X (.builtin "all") (fun xs H Q=>∃(p:Addr) (bs:List Bool),xs=[.ref p]/\SqL X.K H p (bs.map V.bl)/\Q (.bl (bs.all id)) H):=by
 intro pins s σ H xs us Q I r ⟨p,bs,e,hq,q⟩
 subst e
 obtain⟨u,rfl,ru⟩:=r.one
 cases ru
 obtain⟨its,rv,pl,hz⟩:=I.list hq
 have hlt:p<s.heap.objs.size:=by obtain⟨o,n,e,_⟩:=pl; exact Heap.lt_size e
 refine call_all_walk (wpAny_pyIter_list pl.isList ⟨_,_,_,_,_,_,fun i=>bs[i]?.getD false,rfl,Walks.list (A:=X.A.in1) (I.ok.hd hc) s.heap.objs.size p (Nat.ne_of_lt hlt) its.toArray,⟨⟨_,Heap.get?_push_size _ rfl,rfl,rfl⟩,pl.isList.push _⟩,bools_truth rv,fun h' tk hk=>?_⟩)
 refine(fun ht=>⟨.bl (bs.all id),H,I.kept (t':=tk) (fun b o e=>hk b o (by simpa using Nat.ne_of_lt (Heap.lt_size e)) (Heap.get?_push_of_some _ e)),?_,q⟩)
 have hl:its.toArray.size=bs.length:=by have:=rv.length; simp at this; simp [this]
 rw [hl,range_all]
 rfl
noncomputable def isStrV (K:PySem.W.Frag) (x:V) (H:Hp) (b:Bool):Prop:=match x with
 |.str _=>b=true
 |.int _=>b=false
 |.bl _=>b=false
 |.non=>b=false
 |.ref p=>b=false/\((∃xs,SqL K H p xs)∨∃xs,SqT K H p xs)
 |_=>False
theorem call_isStr:CallR X (.builtin "isinstance") (fun xs H Q=>∃x b,xs=[x,.ty "str"]/\isStrV X.K x H b/\Q (.bl b) H):=by
 intro pins s σ H xs us Q I r ⟨x,b,e,hx,q⟩
 subst e
 obtain⟨u,t,rfl,ru,rt⟩:=r.two
 cases rt
 cases x with
 |str z=>
  obtain⟨t,rfl⟩:=ru
  cases (show b=true from hx)
  exact IsiPair.str_str (fun ht=>⟨.bl _,H,I,rfl,q⟩)
 |int i=>
  obtain⟨t,rfl⟩:=ru
  cases (show b=false from hx)
  exact IsiPair.int_str (fun ht=>⟨.bl _,H,I.tok _,rfl,q⟩)
 |bl k=>
  cases ru
  cases (show b=false from hx)
  exact IsiPair.bool_str (fun ht=>⟨.bl _,H,I.tok _,rfl,q⟩)
 |non=>
  cases ru
  cases (show b=false from hx)
  exact IsiPair.NoneType_str (fun ht=>⟨.bl _,H,I.tok _,rfl,q⟩)
 |ref p=>
  cases ru
  obtain⟨hb,hx⟩:=hx
  cases hb
  rcases hx with ⟨xs,hx⟩ | ⟨xs,hx⟩
  ·obtain⟨its,_,pl,_⟩:=I.list hx
   obtain⟨o,n,e,c,_⟩:=pl
   exact IsiPair.list_str e c (fun ht=>⟨.bl _,H,I.tok _,rfl,q⟩)
  ·obtain⟨its,_,pl,_⟩:=I.tuple hx
   obtain⟨o,e,c,_⟩:=pl
   exact IsiPair.tuple_str e c (fun ht=>⟨.bl _,H,I.tok _,rfl,q⟩)
 |_=>exact False.elim hx
theorem op_isnotB:OpR X (compareOp .IsNot) (fun x y H Q=>∃c d,x=.bl c/\y=.bl d/\Q (.bl (c != d)) H):=by
 intro pins s σ H x y v u Q I rx ry ⟨c,d,ex,ey,q⟩
 subst ex ey
 cases rx
 cases ry
 exact isnot_bool (fun ht=>⟨.bl _,H,I,rfl,q⟩)
end
noncomputable def EntS (p:List Nat×List Nat) (e:DictEntry):Prop:=(∃t,e.key=.str ⟨p.1.toArray⟩ t)/\∃t,e.val=.str ⟨p.2.toArray⟩ t
noncomputable def DicAt (h:Heap) (a:Addr) (kvs:List (List Nat×List Nat)):Prop:=
 (a==sysModules)=false/\∃o es ep,h.get? a=some o/\o.ExactDict/\o.data=.dict es ep/\Paired EntS kvs es.toList/\(kvs.map (·.1)).Nodup
theorem isStr_S (a b:List Nat) (t:Tok):(Value.str ⟨a.toArray⟩ t).isStr ⟨b.toArray⟩=(a==b):=by
 have z:(Value.str ⟨a.toArray⟩ t).isStr ⟨b.toArray⟩=((⟨a.toArray⟩:Str) == ⟨b.toArray⟩):=rfl
 rw [z,Bool.eq_iff_iff]
 simp only [beq_iff_eq]
 constructor
 ·intro h
  injection h with h
  simpa using congrArg Array.toList h
 ·intro h; rw [h]
theorem ents_len {kvs:List (List Nat×List Nat)}{es:Array DictEntry} (r:Paired EntS kvs es.toList):kvs.length=es.size:=by
 rw [Paired.length r]; simp
theorem Paired.at2 {α β:Type}{F:α->β->Prop}:∀{l₁:List α}{l₂:List β}{i:Nat}{b:β},Paired F l₁ l₂->l₂[i]?=some b->∃a,l₁[i]?=some a/\F a b
 |_,_,_,_,.nil,e=>by simp at e
 |_,_,0,_,.cons r _,e=>by simp at e; subst e; exact⟨_,by simp,r⟩
 |_,_,i+1,b,.cons _ t,e=>by
  obtain⟨a,h1,h2⟩:=Paired.at2 (i:=i) (b:=b) t (by simpa using e)
  exact⟨a,by simpa using h1,h2⟩
theorem ents_all {kvs:List (List Nat×List Nat)}{es:Array DictEntry} (r:Paired EntS kvs es.toList):(es.all fun e=>isExactStrKey e.key)=true:=by
 rw [Array.all_eq_true]
 intro i hi
 obtain⟨p,_,⟨t,hk⟩,_⟩:=Paired.at2 (i:=i) (b:=es[i]) r (by simp [hi])
 rw [hk]
 rfl
theorem ents_find {k:List Nat}:∀{kvs:List (List Nat×List Nat)}{l:List DictEntry},Paired EntS kvs l->
  (l.findIdx? (fun e=>e.key.isStr ⟨k.toArray⟩)=none/\lkp kvs k=none)∨∃i e v t u,l.findIdx? (fun e=>e.key.isStr ⟨k.toArray⟩)=some i/\l[i]?=some e/\e.key=.str ⟨k.toArray⟩ t/\e.val=.str ⟨v.toArray⟩ u/\lkp kvs k=some v
 |_,_,.nil=>.inl ⟨rfl,rfl⟩
 |p::ps,e::l,.cons r t=>by
  obtain⟨⟨tk,hk⟩,⟨tv,hv⟩⟩:=id r
  rw [List.findIdx?_cons]
  have hi:e.key.isStr ⟨k.toArray⟩=(p.1==k):=by rw [hk]; exact isStr_S _ _ _
  rw [hi]
  unfold lkp
  rw [List.find?_cons]
  cases hpk:(p.1==k) with
  |true=>
   right
   have e1:p.1=k:=by simpa using hpk
   exact⟨0,e,p.2,tk,tv,rfl,by simp,by rw [hk,e1],hv,rfl⟩
  |false=>
   rcases ents_find (k:=k) t with ⟨h1,h2⟩ | ⟨i,e',v,t',u,h1,h2,h3,h4,h5⟩
   ·left
    unfold lkp at h2
    simp only [h1]
    exact⟨rfl,h2⟩
   ·right
    unfold lkp at h5
    simp only [h1]
    exact⟨i+1,e',v,t',u,rfl,by simpa using h2,h3,h4,h5⟩
theorem lkp_own:∀{kvs:List (List Nat×List Nat)}{p:List Nat×List Nat},(kvs.map (·.1)).Nodup->p∈kvs->lkp kvs p.1=some p.2
 |q::r,p,hn,hp=>by
  have hn':(q.1::r.map (·.1)).Nodup:=hn
  obtain⟨h1,h2⟩:=List.nodup_cons.mp hn'
  unfold lkp
  rw [List.find?_cons]
  rcases List.mem_cons.mp hp with e | e
  ·subst e; simp
  ·have hne:(q.1==p.1)=false:=by
    rw [beq_eq_false_iff_ne]
    intro z
    exact h1 (List.mem_map.mpr ⟨p,e,z.symm⟩)
   rw [hne]
   exact lkp_own h2 e
theorem eqK_R {ka kb:List (List Nat×List Nat)} (hn:(ka.map (·.1)).Nodup):eqK ka kb=eqR ka kb:=by
 unfold eqK
 cases hab:(ka==kb) with
 |false=>rfl
 |true=>
  have e:ka=kb:=by simpa using hab
  subst e
  rw [Bool.true_or]
  unfold eqR
  rw [beq_self_eq_true,Bool.true_and]
  exact(List.all_eq_true.mpr fun p hp=>by rw [lkp_own hn hp]; simp).symm
section
variable {prog:Program}{w:World}{A:Around}{E:Value->Shared->Prop}{s:Shared}
theorem dic_find {d:Addr}{o:Obj}{es:Array DictEntry}{ep:Nat}{kvs:List (List Nat×List Nat)}{k:List Nat}{t:Tok}{hs:Int}{Q:Option Nat->Shared->Prop} (ho:s.heap.get? d=some o)
  (hd:o.data=.dict es ep) (r:Paired EntS kvs es.toList) (q:Q (es.toList.findIdx? fun e=>e.key.isStr ⟨k.toArray⟩) s) :
  wpAny (model prog w) A (dictFind d (.str ⟨k.toArray⟩ t) hs) Q E s:=by
 unfold dictFind
 refine wpAny_holding (wpAny_bind (wpAny_dictEntries ho hd ?_))
 dsimp only
 rw [if_pos (ents_all r)]
 unfold foundByValue
 have e0:es.findIdx? (fun e=>e.key.isStr ⟨k.toArray⟩)=es.toList.findIdx? (fun e=>e.key.isStr ⟨k.toArray⟩):=by
  cases es; simp
 rw [e0]
 rcases ents_find (k:=k) r with ⟨h1,_⟩ | ⟨i,e,v,t',u,h1,h2,h3,_,_⟩
 ·rw [h1] at q ⊢
  exact wpAny_pure q
 ·rw [h1] at q ⊢
  have h2':es[i]?=some e:=by simpa using h2
  simp only [h2']
  refine wpAny_bind (wpAny_dictEpoch ho hd (wpAny_bind ?_))
  rw [h3]
  refine wpAny_eqBool_str (wpAny_bind (wpAny_dictEpoch ho hd ?_))
  rw [if_neg (by simp),decide_eq_true rfl]
  exact wpAny_bind (wpAny_rule (wpAny_pure q))
theorem dic_pairs {nm:String}{a b:Addr}{ka kb:List (List Nat×List Nat)}{Q:Bool->Shared->Prop} (da:DicAt s.heap a ka) (db:DicAt s.heap b kb) (q:Q (eqK ka kb) s) :
  wpAny (model prog w) A (Builtin.Dict.samePairs nm a b) Q E s:=by
 have q:Q (eqR ka kb) s:=by rw [← eqK_R (let ⟨_,_,_,_,_,_,_,_,n⟩:=da; n)]; exact q
 obtain⟨na,oa,ea,pa,ga,_,fa,ra,_⟩:=da
 obtain⟨nb,ob,eb,pb,gb,_,fb,rb,_⟩:=db
 have la:=ents_len ra
 have lb:=ents_len rb
 unfold Builtin.Dict.samePairs Builtin.Dict.showsAll
 rw [if_neg (by rw [na]; simp),if_neg (by rw [nb]; simp)]
 refine wpAny_bind (wpAny_pure (wpAny_bind (wpAny_pure (wpAny_bind (wpAny_dictEntries ga fa ?_)))))
 dsimp only
 refine wpAny_bind (wpAny_dictEntries gb fb ?_)
 unfold eqR at q
 by_cases hl:ea.size=eb.size
 ·have q2:Q (ka.all fun p=>lkp kb p.1==some p.2) s:=by
   have z:(ka.length==kb.length)=true:=by simp; omega
   rw [z,Bool.true_and] at q
   exact q
  rw [if_neg (by rw [hl]; simp)]
  refine wpAny_bind (wpAny_dictEpoch ga fa (wpAny_bind ?_))
  rw [Std.Legacy.Range.forIn_eq_forIn_range']
  simp only [Std.Legacy.Range.size,Nat.sub_zero,Nat.add_sub_cancel,Nat.div_one]
  refine wpAny_forIn_list _
   (fun l c s'=>s'=s/\c=(none,())/\∃i,l=List.range' i (ea.size - i)/\i<=ea.size/\Q ((ka.drop i).all fun p=>lkp kb p.1==some p.2) s)
   _ ?_ ?_ _ _ ⟨rfl,rfl,0,by simp,Nat.zero_le _,by simpa using q2⟩
  ·rintro x l c s' ⟨rfl,rfl,i,hr,hi,hq⟩
   have hlt:i<ea.size:=by
    rcases Nat.lt_or_ge i ea.size with h | h
    ·exact h
    ·rw [Nat.sub_eq_zero_of_le h] at hr; simp at hr
   rw [show ea.size - i=(ea.size - (i+1))+1 by omega,List.range'_succ] at hr
   obtain⟨rfl,hrest⟩:=List.cons.inj hr
   refine wpAny_bind (wpAny_dictEntries ga fa ?_)
   have hx:ea[x]?=some ea[x]:=by simp [hlt]
   rw [hx]
   obtain⟨p,hp,⟨tk,hk⟩,⟨tv,hv⟩⟩:=Paired.at2 (i:=x) (b:=ea[x]) ra (by simp [hlt])
   have hpl:x<ka.length:=by omega
   have hp':ka[x]=p:=by simpa [hpl] using hp
   rw [List.drop_eq_getElem_cons hpl,hp',List.all_cons] at hq
   refine wpAny_bind (wpAny_holding ?_)
   rw [hk]
   refine wpAny_bind (dic_find gb fb rb ?_)
   rcases ents_find (k:=p.1) rb with ⟨h1,h2⟩ | ⟨j,e,v,t',u,h1,h2,h3,h4,h5⟩
   ·rw [h1]
    rw [h2] at hq
    refine wpAny_pure ?_
    show wpAny _ _ (if (!false)=true then _ else _) _ _ _
    rw [if_pos (by decide)]
    exact wpAny_pure (wpAny_pure (by simpa using hq))
   ·rw [h1]
    refine wpAny_bind (wpAny_dictEntries gb fb ?_)
    have h2':eb[j]?=some e:=by simpa using h2
    rw [h2']
    refine wpAny_holding ?_
    rw [hv,h4]
    refine wpAny_eqBool_str ?_
    rw [h5] at hq
    by_cases hvv:p.2=v
    ·subst hvv
     rw [decide_eq_true rfl]
     show wpAny _ _ (if (!true)=true then _ else _) _ _ _
     rw [if_neg (by decide)]
     refine wpAny_bind (wpAny_dictEpoch ga fa ?_)
     rw [if_neg (by simp)]
     exact wpAny_pure ⟨rfl,rfl,x+1,hrest,hlt,by simpa using hq⟩
    ·have hne:¬ (⟨p.2.toArray⟩:Str)=⟨v.toArray⟩:=fun z=>hvv (by injection z with z; simpa using congrArg Array.toList z)
     rw [decide_eq_false hne]
     show wpAny _ _ (if (!false)=true then _ else _) _ _ _
     rw [if_pos (by decide)]
     have z:(some v==some p.2)=false:=by simp; exact fun z=>hvv z.symm
     rw [z] at hq
     exact wpAny_pure (wpAny_pure (by simpa using hq))
  ·rintro c s' ⟨rfl,rfl,i,hr,hi,hq⟩
   have hin:i=ea.size:=by
    rcases Nat.lt_or_ge i ea.size with h | h
    ·rw [show ea.size - i=(ea.size - (i+1))+1 by omega,List.range'_succ] at hr; exact nomatch hr
    ·exact Nat.le_antisymm hi h
   rw [hin,← la,List.drop_length] at hq
   exact wpAny_pure (by simpa using hq)
 ·rw [if_pos (by simpa using hl)]
  have z:(ka.length==kb.length)=false:=by simp; omega
  rw [z,Bool.false_and] at q
  exact wpAny_bind (wpAny_rule (wpAny_pure q))
theorem DicAt.ty {s:Shared}{a:Addr}{ka:List (List Nat×List Nat)} (d:DicAt s.heap a ka):s.TypeIs (.ref a) "dict" := let ⟨_,o,_,_,g,c,_⟩:=d; ⟨o,g,c.1⟩
end
end L2
namespace L2
open PySem PySem.Spec PyProof.Rows PySem.SeqAt PySem.MeetsSeq PySem.MeetsSeq2 PySem.MeetsSeq3
open AutoSeq1 (wpAny_loadPart')
section
variable {A:Around}{s:Shared}
theorem not_same_dict {M:Model}{E:Value->Shared->Prop}{a b:Addr}{oa ob:Obj}{R:Bool->Shared->Prop} (hab:a≠b) (ga:s.heap.get? a=some oa) (gb:s.heap.get? b=some ob) (hc:oa.cls=.type "dict" ∨ob.cls=.type "dict") (q:R false s):wpAny M A (isSame (.ref a) (.ref b)) R E s:=by
 rcases hc with hc | hc
 ·exact wpAny_isSame_ref_other hab ga gb (by rw [hc]; decide) q
 ·exact wpAny_isSame_ref_other' hab ga gb (by rw [hc]; decide) q
theorem rc_dd_eq {a b:Addr}{ka kb:List (List Nat×List Nat)} (da:DicAt s.heap a ka) (db:DicAt s.heap b kb) (hu:A.units<cLine):RcAt A s (.ref a) (.ref b) (eqK ka kb):=fun prog w E Q q=>by
 refine wpAny_richCompare_same_room (op:=.Eq) da.ty db.ty PySem.F.slot_dict_eq (wpAny_call_entry PySem.F.slot_dict_eq da.ty PySem.F.entry_dict_eq ?_ (PySem.F.args_dict_eq_2 _ _)) hu
 show wpAny _ _ (Builtin.Dict.dictSlotArgs "__eq__" ⟨[.ref a,.ref b],[]⟩ >>= _) _ _ s
 refine wpAny_bind ?_
 unfold Builtin.Dict.dictSlotArgs
 refine wpAny_bind (wpAny_notOrdered_dict da.ty ?_)
 show wpAny _ _ (pure (Value.ref a,Value.ref b)) _ _ s
 refine wpAny_pure (wpAny_bind (wpAny_isInstance (T:="dict") db.ty PySem.F.sub_dict_dict ?_))
 simp only [Bool.not_true,Bool.false_eq_true,if_false]
 refine wpAny_bind (wpAny_pure (wpAny_bind (wpAny_pure (wpAny_bind (dic_pairs da db (wpAny_pure ⟨_,rfl,(fun x=>nomatch x),?_⟩))))))
 cases hz:eqK ka kb <;> rw [hz] at q <;> exact q
theorem dict_dec_eq {prog:Program}{w:World}{E:Value->Shared->Prop}{a:Addr}{ka:List (List Nat×List Nat)}{u:Value}{T:String}{Q:Value->Shared->Prop} (da:DicAt s.heap a ka) (hT:s.TypeIs u T) (hs:isSubtype (.type T) (.type "dict")=pure false) (q:Q .notImplemented s) :
  wpAny (model prog w) A (call (.builtin "dict.__eq__") [.ref a,u]) Q E s:=by
 refine wpAny_call_entry PySem.F.slot_dict_eq da.ty PySem.F.entry_dict_eq ?_ (PySem.F.args_dict_eq_2 _ _)
 show wpAny _ _ (Builtin.Dict.dictSlotArgs "__eq__" ⟨[.ref a,u],[]⟩ >>= _) _ _ s
 refine wpAny_bind ?_
 unfold Builtin.Dict.dictSlotArgs
 refine wpAny_bind (wpAny_notOrdered_dict da.ty ?_)
 show wpAny _ _ (pure (Value.ref a,u)) _ _ s
 refine wpAny_pure (wpAny_bind (wpAny_isInstance (T:=T) hT hs ?_))
 simp only [Bool.not_false,if_true]
 exact wpAny_bind (wpAny_rule (wpAny_pure ⟨_,rfl,q⟩))
theorem rc_dd_ne {a b:Addr}{ka kb:List (List Nat×List Nat)} (da:DicAt s.heap a ka) (db:DicAt s.heap b kb) (hu:A.units<cLine):RcNeAt A s (.ref a) (.ref b) (!eqK ka kb):=fun prog w E Q q=>by
 refine wpAny_richCompare_same_room (op:=.NotEq) da.ty db.ty PySem.F.slot_dict_ne (wpAny_call_entry PySem.F.slot_dict_ne da.ty PySem.F.entry_dict_ne ?_ (PySem.F.args_dict_ne_2 _ _)) hu
 show wpAny _ _ (Builtin.Dict.dictSlotArgs "__ne__" ⟨[.ref a,.ref b],[]⟩ >>= _) _ _ s
 refine wpAny_bind ?_
 unfold Builtin.Dict.dictSlotArgs
 refine wpAny_bind (wpAny_notOrdered_dict da.ty ?_)
 show wpAny _ _ (pure (Value.ref a,Value.ref b)) _ _ s
 refine wpAny_pure (wpAny_bind (wpAny_isInstance (T:="dict") db.ty PySem.F.sub_dict_dict ?_))
 simp only [Bool.not_true,Bool.false_eq_true,if_false]
 refine wpAny_bind (wpAny_pure (wpAny_bind (wpAny_pure (wpAny_bind (dic_pairs da db (wpAny_pure ⟨_,rfl,(fun x=>nomatch x),?_⟩))))))
 cases hz:eqK ka kb <;> rw [hz] at q <;> exact q
theorem dict_dec_ne {prog:Program}{w:World}{E:Value->Shared->Prop}{a:Addr}{ka:List (List Nat×List Nat)}{u:Value}{T:String}{Q:Value->Shared->Prop} (da:DicAt s.heap a ka) (hT:s.TypeIs u T) (hs:isSubtype (.type T) (.type "dict")=pure false) (q:Q .notImplemented s) :
  wpAny (model prog w) A (call (.builtin "dict.__ne__") [.ref a,u]) Q E s:=by
 refine wpAny_call_entry PySem.F.slot_dict_ne da.ty PySem.F.entry_dict_ne ?_ (PySem.F.args_dict_ne_2 _ _)
 show wpAny _ _ (Builtin.Dict.dictSlotArgs "__ne__" ⟨[.ref a,u],[]⟩ >>= _) _ _ s
 refine wpAny_bind ?_
 unfold Builtin.Dict.dictSlotArgs
 refine wpAny_bind (wpAny_notOrdered_dict da.ty ?_)
 show wpAny _ _ (pure (Value.ref a,u)) _ _ s
 refine wpAny_pure (wpAny_bind (wpAny_isInstance (T:=T) hT hs ?_))
 simp only [Bool.not_false,if_true]
 exact wpAny_bind (wpAny_rule (wpAny_pure ⟨_,rfl,q⟩))
noncomputable def Al (A:Around) (s:Shared) (u t:Value) (b:Bool):Prop:=EqAt A s u t b/\RcAt A s u t b/\RcNeAt A s u t (!b)
theorem eq_rc {u t:Value}{a:Addr}{b:Bool} (ha:u=.ref a∨t=.ref a) (hne:u≠t) (h:RcAt A s u t b):EqAt A s u t b:=fun prog w E Q q=>by
 unfold eqBool
 refine wpAny_holding (wpAny_ite_split (fun z=>absurd (eq_of_beq z) hne) fun _=>?_)
 rcases ha with rfl | rfl
 ·exact wpAny_bind (h prog w E _ (wpAny_truthy_bool q))
 ·cases u <;> exact wpAny_bind (h prog w E _ (wpAny_truthy_bool q))
noncomputable abbrev Dcl (A:Around) (s:Shared) (id:String) (u t:Value):Prop:=∀(prog:Program) (w:World) (E:Value->Shared->Prop) (Q:Value->Shared->Prop),Q .notImplemented s->wpAny (model prog w) A (call (.builtin id) [u,t]) Q E s
noncomputable abbrev Nsm (A:Around) (s:Shared) (u t:Value):Prop:=∀(prog:Program) (w:World) (E:Value->Shared->Prop) (Q:Bool->Shared->Prop),Q false s->wpAny (model prog w) A (isSame u t) Q E s
theorem dk {a:Addr}{ka:List (List Nat×List Nat)}{u:Value}{T ie im:String} (da:DicAt s.heap a ka) (hu:A.units<cLine) (ty:s.TypeIs u T) (hne:Value.ref a≠u) (n1:(Value.type "dict" != Value.type T)=true) (n2:(Value.type T != Value.type "dict")=true)
  (s1:isSubtype (.type T) (.type "dict")=pure false) (s2:isSubtype (.type "dict") (.type T)=pure false) (e1:Slot T (cmpInfo .Eq).2.1 ie) (e2:Slot T (cmpInfo .Eq).2.2 ie) (m1:Slot T (cmpInfo .NotEq).2.1 im) (m2:Slot T (cmpInfo .NotEq).2.2 im)
  (c1:Dcl A s ie u (.ref a)) (c2:Dcl A s im u (.ref a)) (k1:Nsm A s (.ref a) u) (k2:Nsm A s u (.ref a)):Al A s (.ref a) u false/\Al A s u (.ref a) false:=by
 have r1:RcAt A s (.ref a) u false:=fun prog w E Q q=>rc_eq_decline_or (k:=false) da.ty ty n1 s1 F.slot_dict_eq e2 (fun _ hq=>dict_dec_eq da ty s1 hq) (fun _ hq=>c1 prog w E _ hq) (fun _ hq=>k1 prog w E _ hq) (.inr hu) q
 have r2:RcAt A s u (.ref a) false:=fun prog w E Q q=>rc_eq_decline_or (k:=false) ty da.ty n2 s2 e1 F.slot_dict_eq_refl (fun _ hq=>c1 prog w E _ hq) (fun _ hq=>dict_dec_eq da ty s1 hq) (fun _ hq=>k2 prog w E _ hq) (.inr hu) q
 exact⟨⟨eq_rc (.inl rfl) hne r1,r1,fun prog w E Q q=>rc_ne_decline_or (k:=false) da.ty ty n1 s1 F.slot_dict_ne m2 (fun _ hq=>dict_dec_ne da ty s1 hq) (fun _ hq=>c2 prog w E _ hq) (fun _ hq=>k1 prog w E _ hq) (.inr hu) q⟩,
  eq_rc (.inr rfl) hne.symm r2,r2,fun prog w E Q q=>rc_ne_decline_or (k:=false) ty da.ty n2 s2 m1 F.slot_dict_ne_refl (fun _ hq=>c2 prog w E _ hq) (fun _ hq=>dict_dec_ne da ty s1 hq) (fun _ hq=>k2 prog w E _ hq) (.inr hu) q⟩
noncomputable def Dn (a:Addr):PySem.Spec:=fun _ R s=>(∃c es ep dd sl,s.heap.get? a=some {cls:=c,dict:=dd,data:=.dict es ep,slots:=sl})/\R (.ok (.ret .notImplemented)) s
noncomputable def Dm (T:String) (l a:Addr):PySem.Spec:=fun _ R s=>(∃items n dl ll,s.heap.get? l=some {cls:=.type T,dict:=dl,data:=.seq items n,slots:=ll})/\(∃es ep dd sl,s.heap.get? a=some {cls:=.type "dict",dict:=dd,data:=.dict es ep,slots:=sl})/\R (.ok (.ret .notImplemented)) s
theorem str_dec_eq (b:Str) (u:Tok) (a:Addr):Meets (Builtin.«str.__eq__» ⟨[.str b u,.ref a],[]⟩) (Dn a):=.of_wp fun prog w A R s h=>by obtain⟨hp,g,d,tk,os⟩:=s; obtain⟨⟨_,_,_,_,_,ga⟩,h⟩:=h; wp_walk using wpAny_loadPart' ga,wpAny_load ga; exact⟨_,rfl,h⟩
theorem str_dec_ne (b:Str) (u:Tok) (a:Addr):Meets (Builtin.«str.__ne__» ⟨[.str b u,.ref a],[]⟩) (Dn a):=.of_wp fun prog w A R s h=>by obtain⟨hp,g,d,tk,os⟩:=s; obtain⟨⟨_,_,_,_,_,ga⟩,h⟩:=h; wp_walk using wpAny_loadPart' ga,wpAny_load ga; exact⟨_,rfl,h⟩
theorem int_dec_eq (b:Int) (u:Tok) (a:Addr):Meets (Builtin.«int.__eq__» ⟨[.int b u,.ref a],[]⟩) (Dn a):=.of_wp fun prog w A R s h=>by obtain⟨hp,g,d,tk,os⟩:=s; obtain⟨⟨_,_,_,_,_,ga⟩,h⟩:=h; wp_walk using wpAny_loadPart' ga,wpAny_load ga; exact⟨_,rfl,h⟩
theorem int_dec_ne (b:Int) (u:Tok) (a:Addr):Meets (Builtin.«int.__ne__» ⟨[.int b u,.ref a],[]⟩) (Dn a):=.of_wp fun prog w A R s h=>by obtain⟨hp,g,d,tk,os⟩:=s; obtain⟨⟨_,_,_,_,_,ga⟩,h⟩:=h; wp_walk using wpAny_loadPart' ga,wpAny_load ga; exact⟨_,rfl,h⟩
theorem bool_dec_eq (b:Bool) (a:Addr):Meets (Builtin.«int.__eq__» ⟨[.bool b,.ref a],[]⟩) (Dn a):=.of_wp fun prog w A R s h=>by obtain⟨hp,g,d,tk,os⟩:=s; obtain⟨⟨_,_,_,_,_,ga⟩,h⟩:=h; wp_walk using wpAny_loadPart' ga,wpAny_load ga; exact⟨_,rfl,h⟩
theorem bool_dec_ne (b:Bool) (a:Addr):Meets (Builtin.«int.__ne__» ⟨[.bool b,.ref a],[]⟩) (Dn a):=.of_wp fun prog w A R s h=>by obtain⟨hp,g,d,tk,os⟩:=s; obtain⟨⟨_,_,_,_,_,ga⟩,h⟩:=h; wp_walk using wpAny_loadPart' ga,wpAny_load ga; exact⟨_,rfl,h⟩
theorem list_dec_eq (l a:Addr):Meets (Builtin.«list.__eq__» ⟨[.ref l,.ref a],[]⟩) (Dm "list" l a):=.of_wp fun prog w A R s h=>by obtain⟨hp,g,d,tk,os⟩:=s; obtain⟨⟨_,_,_,_,gl⟩,⟨_,_,_,_,ga⟩,h⟩:=h; have f1:=F.sub_dict_list; wp_walk using wpAny_loadPart' gl,wpAny_loadPart' ga; exact⟨_,rfl,h⟩
theorem list_dec_ne (l a:Addr):Meets (Builtin.«list.__ne__» ⟨[.ref l,.ref a],[]⟩) (Dm "list" l a):=.of_wp fun prog w A R s h=>by obtain⟨hp,g,d,tk,os⟩:=s; obtain⟨⟨_,_,_,_,gl⟩,⟨_,_,_,_,ga⟩,h⟩:=h; have f1:=F.sub_dict_list; wp_walk using wpAny_loadPart' gl,wpAny_loadPart' ga; exact⟨_,rfl,h⟩
theorem tuple_dec_eq (l a:Addr):Meets (Builtin.«tuple.__eq__» ⟨[.ref l,.ref a],[]⟩) (Dm "tuple" l a):=.of_wp fun prog w A R s h=>by obtain⟨hp,g,d,tk,os⟩:=s; obtain⟨⟨_,_,_,_,gl⟩,⟨_,_,_,_,ga⟩,h⟩:=h; have f1:=F.sub_dict_tuple; wp_walk using wpAny_loadPart' gl,wpAny_loadPart' ga; exact⟨_,rfl,h⟩
theorem tuple_dec_ne (l a:Addr):Meets (Builtin.«tuple.__ne__» ⟨[.ref l,.ref a],[]⟩) (Dm "tuple" l a):=.of_wp fun prog w A R s h=>by obtain⟨hp,g,d,tk,os⟩:=s; obtain⟨⟨_,_,_,_,gl⟩,⟨_,_,_,_,ga⟩,h⟩:=h; have f1:=F.sub_dict_tuple; wp_walk using wpAny_loadPart' gl,wpAny_loadPart' ga; exact⟨_,rfl,h⟩
theorem DicAt.dn {a:Addr}{ka:List (List Nat×List Nat)} (da:DicAt s.heap a ka):∃c es ep dd sl,s.heap.get? a=some {cls:=c,dict:=dd,data:=.dict es ep,slots:=sl}:=by
 obtain⟨_,⟨c,dd,data,sl⟩,es,ep,ga,_,hd,_⟩:=da
 simp only at hd
 subst hd
 exact⟨c,es,ep,dd,sl,ga⟩
theorem DicAt.dm {a:Addr}{ka:List (List Nat×List Nat)} (da:DicAt s.heap a ka):∃es ep dd sl,s.heap.get? a=some {cls:=.type "dict",dict:=dd,data:=.dict es ep,slots:=sl}:=by
 obtain⟨_,⟨c,dd,data,sl⟩,es,ep,ga,hx,hd,_⟩:=da
 simp only at hd
 have hc:c=.type "dict" := hx.1
 subst hd hc
 exact⟨es,ep,dd,sl,ga⟩
theorem d_none {a:Addr}{ka:List (List Nat×List Nat)} (da:DicAt s.heap a ka) (hu:A.units<cLine):Al A s (.ref a) .none false/\Al A s .none (.ref a) false:=
 dk da hu rfl nofun (by decide) (by decide) F.sub_NoneType_dict F.sub_dict_NoneType F.slot_NoneType_eq F.slot_NoneType_eq_refl F.slot_NoneType_ne F.slot_NoneType_ne_refl
  (fun _ _ _ _ q=>call_gives F.slot_NoneType_eq rfl F.entry_NoneType_eq (F.args_NoneType_eq_2 _ _) (NoneType___eq___none_ref_0 a) q) (fun _ _ _ _ q=>call_gives F.slot_NoneType_ne rfl F.entry_NoneType_ne (F.args_NoneType_ne_2 _ _) (NoneType___ne___none_ref_0 a) q) (fun _ _ _ _ q=>wpAny_of_eq rfl q) (fun _ _ _ _ q=>wpAny_of_eq rfl q)
theorem d_bool {a:Addr}{ka:List (List Nat×List Nat)} (b:Bool) (da:DicAt s.heap a ka) (hu:A.units<cLine):Al A s (.ref a) (.bool b) false/\Al A s (.bool b) (.ref a) false:=
 dk da hu rfl nofun (by decide) (by decide) F.sub_bool_dict F.sub_dict_bool F.slot_bool_eq F.slot_bool_eq_refl F.slot_bool_ne F.slot_bool_ne_refl
  (fun _ _ _ _ q=>call_meets F.slot_bool_eq rfl F.entry_int_eq (F.args_int_eq_2 _ _) (bool_dec_eq b a) ⟨da.dn,q⟩) (fun _ _ _ _ q=>call_meets F.slot_bool_ne rfl F.entry_int_ne (F.args_int_ne_2 _ _) (bool_dec_ne b a) ⟨da.dn,q⟩) (fun _ _ _ _ q=>wpAny_of_eq rfl q) (fun _ _ _ _ q=>wpAny_of_eq rfl q)
theorem d_int {a:Addr}{ka:List (List Nat×List Nat)} (b:Int) (u:Tok) (da:DicAt s.heap a ka) (hu:A.units<cLine):Al A s (.ref a) (.int b u) false/\Al A s (.int b u) (.ref a) false:=
 dk da hu (typeIs_int s b u) nofun (by decide) (by decide) F.sub_int_dict F.sub_dict_int F.slot_int_eq F.slot_int_eq_refl F.slot_int_ne F.slot_int_ne_refl
  (fun _ _ _ _ q=>call_meets F.slot_int_eq (typeIs_int s b u) F.entry_int_eq (F.args_int_eq_2 _ _) (int_dec_eq b u a) ⟨da.dn,q⟩) (fun _ _ _ _ q=>call_meets F.slot_int_ne (typeIs_int s b u) F.entry_int_ne (F.args_int_ne_2 _ _) (int_dec_ne b u a) ⟨da.dn,q⟩) (fun _ _ _ _ q=>wpAny_of_eq rfl q) (fun _ _ _ _ q=>wpAny_of_eq rfl q)
theorem d_str {a:Addr}{ka:List (List Nat×List Nat)} (b:Str) (u:Tok) (da:DicAt s.heap a ka) (hu:A.units<cLine):Al A s (.ref a) (.str b u) false/\Al A s (.str b u) (.ref a) false:=
 dk da hu (typeIs_str s b u) nofun (by decide) (by decide) F.sub_str_dict F.sub_dict_str F.slot_str_eq F.slot_str_eq_refl F.slot_str_ne F.slot_str_ne_refl
  (fun _ _ _ _ q=>call_meets F.slot_str_eq (typeIs_str s b u) F.entry_str_eq (F.args_str_eq_2 _ _) (str_dec_eq b u a) ⟨da.dn,q⟩) (fun _ _ _ _ q=>call_meets F.slot_str_ne (typeIs_str s b u) F.entry_str_ne (F.args_str_ne_2 _ _) (str_dec_ne b u a) ⟨da.dn,q⟩) (fun _ _ _ _ q=>wpAny_of_eq rfl q) (fun _ _ _ _ q=>wpAny_of_eq rfl q)
theorem ne_dlist {a l:Addr}{ka:List (List Nat×List Nat)}{items:Array Value} (da:DicAt s.heap a ka) (hl:s.heap.IsList l items):a≠l:=fun z=>by
 subst z
 obtain⟨_,o,es,ep,ga,hx,hd,_⟩:=da
 obtain⟨o',gl,hc,n,hdl⟩:=hl
 rw [ga] at gl
 cases gl
 rw [hx.1] at hc
 exact absurd hc (by decide)
theorem ne_dtuple {a l:Addr}{ka:List (List Nat×List Nat)}{items:Array Value} (da:DicAt s.heap a ka) (hl:s.heap.IsTuple l items):a≠l:=fun z=>by
 subst z
 obtain⟨_,o,es,ep,ga,hx,hd,_⟩:=da
 obtain⟨o',gl,hc,n,hdl⟩:=hl
 rw [ga] at gl
 cases gl
 rw [hx.1] at hc
 exact absurd hc (by decide)
theorem d_list {a l:Addr}{ka:List (List Nat×List Nat)}{items:Array Value} (da:DicAt s.heap a ka) (hl:s.heap.IsList l items) (hu:A.units<cLine):Al A s (.ref a) (.ref l) false/\Al A s (.ref l) (.ref a) false:=by
 obtain⟨es,ep,dd,sl,ga⟩:=da.dm
 obtain⟨⟨cl,dl,dal,ll⟩,gl,hc,n,hdl⟩:=id hl
 simp only at hc hdl
 subst hc hdl
 have hne:a≠l:=fun z=>by subst z; rw [ga] at gl; exact absurd (congrArg (fun o:Option Obj=>o.map (·.cls)) gl) (by simp)
 exact dk da hu ⟨_,gl,rfl⟩ (fun z=>hne (by injection z)) (by decide) (by decide) F.sub_list_dict F.sub_dict_list F.slot_list_eq F.slot_list_eq_refl F.slot_list_ne F.slot_list_ne_refl
  (fun _ _ _ _ q=>call_meets F.slot_list_eq ⟨_,gl,rfl⟩ F.entry_list_eq (F.args_list_eq_2 _ _) (list_dec_eq l a) ⟨⟨_,_,_,_,gl⟩,⟨_,_,_,_,ga⟩,q⟩) (fun _ _ _ _ q=>call_meets F.slot_list_ne ⟨_,gl,rfl⟩ F.entry_list_ne (F.args_list_ne_2 _ _) (list_dec_ne l a) ⟨⟨_,_,_,_,gl⟩,⟨_,_,_,_,ga⟩,q⟩)
  (fun _ _ _ _ q=>not_same_dict hne ga gl (.inl rfl) q) (fun _ _ _ _ q=>not_same_dict hne.symm gl ga (.inr rfl) q)
theorem d_tuple {a l:Addr}{ka:List (List Nat×List Nat)}{items:Array Value} (da:DicAt s.heap a ka) (hl:s.heap.IsTuple l items) (hu:A.units<cLine):Al A s (.ref a) (.ref l) false/\Al A s (.ref l) (.ref a) false:=by
 obtain⟨es,ep,dd,sl,ga⟩:=da.dm
 obtain⟨⟨cl,dl,dal,ll⟩,gl,hc,n,hdl⟩:=id hl
 simp only at hc hdl
 subst hc hdl
 have hne:a≠l:=fun z=>by subst z; rw [ga] at gl; exact absurd (congrArg (fun o:Option Obj=>o.map (·.cls)) gl) (by simp)
 exact dk da hu ⟨_,gl,rfl⟩ (fun z=>hne (by injection z)) (by decide) (by decide) F.sub_tuple_dict F.sub_dict_tuple F.slot_tuple_eq F.slot_tuple_eq_refl F.slot_tuple_ne F.slot_tuple_ne_refl
  (fun _ _ _ _ q=>call_meets F.slot_tuple_eq ⟨_,gl,rfl⟩ F.entry_tuple_eq (F.args_tuple_eq_2 _ _) (tuple_dec_eq l a) ⟨⟨_,_,_,_,gl⟩,⟨_,_,_,_,ga⟩,q⟩) (fun _ _ _ _ q=>call_meets F.slot_tuple_ne ⟨_,gl,rfl⟩ F.entry_tuple_ne (F.args_tuple_ne_2 _ _) (tuple_dec_ne l a) ⟨⟨_,_,_,_,gl⟩,⟨_,_,_,_,ga⟩,q⟩)
  (fun _ _ _ _ q=>not_same_dict hne ga gl (.inl rfl) q) (fun _ _ _ _ q=>not_same_dict hne.symm gl ga (.inr rfl) q)
end
end L2
namespace L2
open PySem PySem.Spec PyProof.Rows
noncomputable def dkv (kvs:List (List Nat×List Nat)):List (Key×V):=kvs.map fun p=>(.inr ⟨p.1.toArray⟩,S p.2)
noncomputable def FzD (H:Hp) (a:Addr) (kvs:List (List Nat×List Nat)):Prop:=∃o,H a=some (.frz o (.dK (dkv kvs)))
section
variable (K:PySem.W.Frag) (H:Hp)
mutual
noncomputable def Rep:Dt->V->Prop
 |.non,v=>v=.non
 |.bl b,v=>v=.bl b
 |.int i,v=>v=.int i
 |.str l,v=>v=S l
 |.tup ds,v=>∃a xs,v=.ref a/\SqT K H a xs/\Reps ds xs
 |.lst ds,v=>∃a xs,v=.ref a/\SqL K H a xs/\Reps ds xs
 |.dic kvs,v=>∃a ks,v=.ref a/\ks=kvs/\FzD H a ks
noncomputable def Reps:List Dt->List V->Prop
 | [],xs=>xs=[]
 |d::ds,xs=>∃x r,xs=x::r/\Rep d x/\Reps ds r
end
end
theorem Same.seqT {K:PySem.W.Frag}{H H':Hp}{a:Addr}{xs:List V} (e:Same H H') (h:SqT K H a xs):SqT K H' a xs:=by
 rcases h with (h | ⟨o,h⟩) | h
 ·exact .inl (.inl (e _ _ h))
 ·exact .inl (.inr ⟨o,e _ _ h⟩)
 ·exact .inr h
mutual
theorem Rep.mono {K:PySem.W.Frag}{H H':Hp} (e:Same H H'):∀{d:Dt}{v:V},Rep K H d v->Rep K H' d v
 |.non,_,h=>by simpa only [Rep] using h
 |.bl _,_,h=>by simpa only [Rep] using h
 |.int _,_,h=>by simpa only [Rep] using h
 |.str _,_,h=>by simpa only [Rep] using h
 |.tup ds,_,h=>by
  simp only [Rep] at h ⊢
  obtain⟨a,xs,h1,h2,h3⟩:=h
  exact⟨a,xs,h1,e.seqT h2,Reps.mono e h3⟩
 |.lst ds,_,h=>by
  simp only [Rep] at h ⊢
  obtain⟨a,xs,h1,h2,h3⟩:=h
  exact⟨a,xs,h1,e.seq h2,Reps.mono e h3⟩
 |.dic kvs,_,h=>by
  simp only [Rep] at h ⊢
  obtain⟨a,ks,h1,h3,o,h2⟩:=h
  exact⟨a,ks,h1,h3,o,e _ _ h2⟩
theorem Reps.mono {K:PySem.W.Frag}{H H':Hp} (e:Same H H'):∀{ds:List Dt}{xs:List V},Reps K H ds xs->Reps K H' ds xs
 | [],_,h=>by simpa only [Reps] using h
 |d::ds,_,h=>by
  simp only [Reps] at h ⊢
  obtain⟨x,r,h1,h2,h3⟩:=h
  exact⟨x,r,h1,Rep.mono e h2,Reps.mono e h3⟩
end
theorem Reps.nil {K:PySem.W.Frag}{H:Hp}:Reps K H [] []:=by simp only [Reps]
theorem Reps.cons {K:PySem.W.Frag}{H:Hp}{d:Dt}{ds:List Dt}{x:V}{xs:List V} (h:Rep K H d x) (t:Reps K H ds xs):Reps K H (d::ds) (x::xs):=by
 simp only [Reps]
 exact⟨x,xs,rfl,h,t⟩
theorem Reps.length {K:PySem.W.Frag}{H:Hp}:∀{ds:List Dt}{xs:List V},Reps K H ds xs->ds.length=xs.length
 | [],_,h=>by simp only [Reps] at h; subst h; rfl
 |d::ds,_,h=>by
  simp only [Reps] at h
  obtain⟨x,r,rfl,_,h3⟩:=h
  simp [Reps.length h3]
theorem Reps.get {K:PySem.W.Frag}{H:Hp}:∀{ds:List Dt}{xs:List V}{i:Nat}{x:V},Reps K H ds xs->xs[i]?=some x->∃d,ds[i]?=some d/\Rep K H d x
 | [],_,i,x,h,e=>by simp only [Reps] at h; subst h; simp at e
 |d::ds,_,0,x,h,e=>by
  simp only [Reps] at h
  obtain⟨y,r,rfl,h2,_⟩:=h
  simp at e
  subst e
  exact⟨d,rfl,h2⟩
 |d::ds,_,i+1,x,h,e=>by
  simp only [Reps] at h
  obtain⟨y,r,rfl,_,h3⟩:=h
  obtain⟨d',a,b⟩:=Reps.get (i:=i) (x:=x) h3 (by simpa using e)
  exact⟨d',by simpa using a,b⟩
theorem Reps.append {K:PySem.W.Frag}{H:Hp}:∀{ds es:List Dt}{xs ys:List V},Reps K H ds xs->Reps K H es ys->Reps K H (ds++es) (xs++ys)
 | [],es,xs,ys,h,t=>by simp only [Reps] at h; subst h; simpa using t
 |d::ds,es,xs,ys,h,t=>by
  simp only [Reps] at h
  obtain⟨x,r,rfl,h2,h3⟩:=h
  exact .cons h2 (Reps.append h3 t)
theorem rep_int {K:PySem.W.Frag}{H:Hp}{i:Int}:Rep K H (.int i) (.int i):=by simp only [Rep]
theorem rep_str {K:PySem.W.Frag}{H:Hp}{l:List Nat}:Rep K H (.str l) (S l):=by simp only [Rep]
theorem rep_bl {K:PySem.W.Frag}{H:Hp}{b:Bool}:Rep K H (.bl b) (.bl b):=by simp only [Rep]
theorem rep_non {K:PySem.W.Frag}{H:Hp}:Rep K H .non .non:=by simp only [Rep]
theorem rep_tup {K:PySem.W.Frag}{H:Hp}{a:Addr}{xs:List V}{ds:List Dt} (h:H a=some (.tup xs)) (r:Reps K H ds xs):Rep K H (.tup ds) (.ref a):=by
 simp only [Rep]
 exact⟨a,xs,rfl,.of h,r⟩
theorem rep_lst {K:PySem.W.Frag}{H:Hp}{a:Addr}{xs:List V}{ds:List Dt} (h:H a=some (.lst xs)) (r:Reps K H ds xs):Rep K H (.lst ds) (.ref a):=by
 simp only [Rep]
 exact⟨a,xs,rfl,.of h,r⟩
theorem Inv.list_tuple {X:Cx}{pins:List (Addr×Obj)}{σ:St}{H:Hp}{s:Shared}{a:Addr}{xs ys:List V} (I:Inv X pins σ H s) (h:SqL X.K H a xs) (h':SqT X.K H a ys):False:=by
 obtain⟨its,r,⟨o,n,e,c,_⟩,_⟩:=I.list h
 obtain⟨its',r',⟨o',e',c',_⟩,_⟩:=I.tuple h'
 rw [e] at e'
 cases e'
 rw [c] at c'
 injection c' with c'
 exact absurd c' (by decide)
theorem rep_dic {K:PySem.W.Frag}{H:Hp}{a:Addr}{o:Obj}{kvs:List (List Nat×List Nat)} (h:H a=some (.frz o (.dK (dkv kvs)))):Rep K H (.dic kvs) (.ref a):=by
 simp only [Rep]
 exact⟨a,_,rfl,rfl,o,h⟩
theorem dkv_inj:∀{a b:List (List Nat×List Nat)},dkv a=dkv b->a=b
 | [],[],_=>rfl
 | [],_::_,h=>by simp [dkv] at h
 |_::_,[],h=>by simp [dkv] at h
 |p::a,q::b,h=>by
  simp only [dkv,List.map_cons] at h
  injection h with h1 h2
  have h3:=dkv_inj (a:=a) (b:=b) h2
  have e1:p.1=q.1:=by
   have z:=congrArg Prod.fst h1
   simp only at z
   injection z with z
   injection z with z
   simpa using congrArg Array.toList z
  have e2:p.2=q.2:=S_inj (congrArg Prod.snd h1)
  rw [h3,Prod.ext e1 e2]
theorem ents_of {P:Program}{w:World}:∀{kvs:List (List Nat×List Nat)}{vs:List (Key×Value)}{l:List DictEntry},KV (dkv kvs) vs->Pairs (mixKind P w) l vs->Paired EntS kvs l
 | [],vs,l,r,p=>by
  unfold dkv KV at r
  cases r
  cases p
  exact .nil
 |k::kvs,vs,l,r,p=>by
  unfold dkv KV at r
  rw [List.map_cons] at r
  cases r with
  |cons h t=>
   cases p with
   |cons a b c=>
    refine .cons ⟨?_,?_⟩ (ents_of t c)
    ·rw [← h.1] at a
     rcases keyIs_shape (k:=.inr ⟨k.1.toArray⟩) a with ⟨i,u,z,_⟩ | ⟨x,u,z,e⟩
     ·exact nomatch z
     ·injection z with z; subst z; exact⟨u,e⟩
    ·obtain⟨u,e⟩:=h.2
     exact⟨u,b.trans e⟩
theorem nd_keys:∀{kvs:List (List Nat×List Nat)},(kvs.map ((·.1) ∘ fun p=>((.inr ⟨p.1.toArray⟩:Key),S p.2))).Nodup->(kvs.map (·.1)).Nodup
 | [],_=>by simp
 |p::r,h=>by
  rw [List.map_cons,List.nodup_cons] at h ⊢
  refine⟨fun m=>h.1 ?_,nd_keys h.2⟩
  obtain⟨q,hq,e⟩:=List.mem_map.mp m
  exact List.mem_map.mpr ⟨q,hq,by simp only [Function.comp]; rw [e]⟩
theorem dic_at {P:Program}{w:World}{H:Hp}{h:Heap}{a:Addr}{ob:Obj}{kvs:List (List Nat×List Nat)} (ok:HOk P w H h) (e:H a=some (.frz ob (.dK (dkv kvs)))):DicAt h a kvs:=by
 obtain⟨_,_,na,vs,r,o,es,ep,g,x,d,_,pr,nd⟩:=ok a _ e
 refine⟨na,o,es,ep,g,x,d,ents_of r pr,?_⟩
 rw [← KV.keys r] at nd
 unfold dkv at nd
 rw [List.map_map] at nd
 exact nd_keys nd
theorem Inv.repD {X:Cx}{pins:List (Addr×Obj)}{σ:St}{H:Hp}{s:Shared} (I:Inv X pins σ H s){kvs:List (List Nat×List Nat)}{v:V} (h:Rep X.K H (.dic kvs) v):∃a,v=.ref a/\(∃o,H a=some (.frz o (.dK (dkv kvs))))/\DicAt s.heap a kvs:=by
 simp only [Rep] at h
 obtain⟨a,ks,rfl,rfl,o,h2⟩:=h
 exact⟨a,rfl,⟨o,h2⟩,dic_at I.hok h2⟩
theorem Inv.list_dict {X:Cx}{pins:List (Addr×Obj)}{σ:St}{H:Hp}{s:Shared}{a:Addr}{xs:List V}{o:Obj}{kvs:List (List Nat×List Nat)} (I:Inv X pins σ H s) (h:SqL X.K H a xs) (h':H a=some (.frz o (.dK (dkv kvs)))):False:=by
 obtain⟨its,r,p,_⟩:=I.list h
 exact ne_dlist (dic_at I.hok h') p.isList rfl
theorem Inv.tuple_dict {X:Cx}{pins:List (Addr×Obj)}{σ:St}{H:Hp}{s:Shared}{a:Addr}{xs:List V}{o:Obj}{kvs:List (List Nat×List Nat)} (I:Inv X pins σ H s) (h:SqT X.K H a xs) (h':H a=some (.frz o (.dK (dkv kvs)))):False:=by
 obtain⟨its,r,p,_⟩:=I.tuple h
 exact ne_dtuple (dic_at I.hok h') p rfl
mutual
theorem Rep.inj {X:Cx}{pins:List (Addr×Obj)}{σ:St}{H:Hp}{s:Shared} (I:Inv X pins σ H s):∀{d e:Dt}{v:V},Rep X.K H d v->Rep X.K H e v->d=e
 |.non,e,v,h,h'=>by
  simp only [Rep] at h
  subst h
  cases e <;> simp only [Rep] at h' <;> first | rfl | (exfalso; first | exact nomatch h' | (obtain⟨_,_,z,_⟩:=h'; exact nomatch z))
 |.bl b,e,v,h,h'=>by
  simp only [Rep] at h
  subst h
  cases e <;> simp only [Rep] at h' <;> first | (injection h' with h'; rw [h']) | (exfalso; first | exact nomatch h' | (obtain⟨_,_,z,_⟩:=h'; exact nomatch z))
 |.int i,e,v,h,h'=>by
  simp only [Rep] at h
  subst h
  cases e <;> simp only [Rep] at h' <;> first | (injection h' with h'; rw [h']) | (exfalso; first | exact nomatch h' | (obtain⟨_,_,z,_⟩:=h'; exact nomatch z))
 |.str l,e,v,h,h'=>by
  simp only [Rep] at h
  subst h
  cases e with
  |str l'=>simp only [Rep] at h'; rw [S_inj h']
  |_=>simp only [Rep] at h'; exfalso; first | exact nomatch h' | (obtain⟨_,_,z,_⟩:=h'; exact nomatch z)
 |.tup ds,e,v,h,h'=>by
  simp only [Rep] at h
  obtain⟨a,xs,rfl,h2,h3⟩:=h
  cases e with
  |tup es=>
   simp only [Rep] at h'
   obtain⟨b,ys,hb,h4,h5⟩:=h'
   cases hb
   rw [I.tuple_inj h2 h4] at h3
   rw [Reps.inj I h3 h5]
  |lst es=>
   simp only [Rep] at h'
   obtain⟨b,ys,hb,h4,h5⟩:=h'
   cases hb
   exact(I.list_tuple h4 h2).elim
  |dic kvs=>
   simp only [Rep] at h'
   obtain⟨b,ys,hb,rfl,o',h4⟩:=h'
   cases hb
   exact(I.tuple_dict h2 h4).elim
  |_=>simp only [Rep] at h'; exfalso; exact nomatch h'
 |.lst ds,e,v,h,h'=>by
  simp only [Rep] at h
  obtain⟨a,xs,rfl,h2,h3⟩:=h
  cases e with
  |lst es=>
   simp only [Rep] at h'
   obtain⟨b,ys,hb,h4,h5⟩:=h'
   cases hb
   rw [I.list_inj h2 h4] at h3
   rw [Reps.inj I h3 h5]
  |tup es=>
   simp only [Rep] at h'
   obtain⟨b,ys,hb,h4,h5⟩:=h'
   cases hb
   exact(I.list_tuple h2 h4).elim
  |dic kvs=>
   simp only [Rep] at h'
   obtain⟨b,ys,hb,rfl,o',h4⟩:=h'
   cases hb
   exact(I.list_dict h2 h4).elim
  |_=>simp only [Rep] at h'; exfalso; exact nomatch h'
 |.dic kvs,e,v,h,h'=>by
  simp only [Rep] at h
  obtain⟨a,xs,rfl,rfl,o,h2⟩:=h
  cases e with
  |lst es=>
   simp only [Rep] at h'
   obtain⟨b,ys,hb,h4,h5⟩:=h'
   cases hb
   exact(I.list_dict h4 h2).elim
  |tup es=>
   simp only [Rep] at h'
   obtain⟨b,ys,hb,h4,h5⟩:=h'
   cases hb
   exact(I.tuple_dict h4 h2).elim
  |dic ks=>
   simp only [Rep] at h'
   obtain⟨b,ys,hb,rfl,o',h4⟩:=h'
   cases hb
   rw [h2] at h4
   injection h4 with h4
   injection h4 with _ h4
   injection h4 with h4
   rw [dkv_inj h4]
  |_=>simp only [Rep] at h'; exfalso; exact nomatch h'
theorem Reps.inj {X:Cx}{pins:List (Addr×Obj)}{σ:St}{H:Hp}{s:Shared} (I:Inv X pins σ H s):∀{ds es:List Dt}{xs:List V},Reps X.K H ds xs->Reps X.K H es xs->ds=es
 | [],es,xs,h,h'=>by
  simp only [Reps] at h
  subst h
  cases es with
  |nil=>rfl
  |cons e es=>simp only [Reps] at h'; obtain⟨_,_,z,_⟩:=h'; cases z
 |d::ds,es,xs,h,h'=>by
  simp only [Reps] at h
  obtain⟨x,r,rfl,h2,h3⟩:=h
  cases es with
  |nil=>simp only [Reps] at h'; cases h'
  |cons e es=>
   simp only [Reps] at h'
   obtain⟨y,t,z,h4,h5⟩:=h'
   injection z with z1 z2
   subst z1 z2
   rw [Rep.inj I h2 h4,Reps.inj I h3 h5]
end
mutual
theorem eqD_refl:∀d:Dt,eqD d d=true
 |.non=>rfl
 |.bl b=>beq_self_eq_true b
 |.int b=>beq_self_eq_true b
 |.str b=>beq_self_eq_true b
 |.tup b=>eqDs_refl b
 |.lst b=>eqDs_refl b
 |.dic b=>(show (b==b || eqR b b)=true by rw [beq_self_eq_true b]; rfl)
theorem eqDs_refl:∀d:List Dt,eqDs d d=true
 | []=>rfl
 |a::r=>(show (eqD a a&&eqDs r r)=true by rw [eqD_refl a,eqDs_refl r]; rfl)
end
theorem eqDs_len:∀{a b:List Dt},a.length≠b.length->eqDs a b=false
 | [],[],h=>absurd rfl h
 | [],_::_,_=>rfl
 |_::_,[],_=>rfl
 |a::r,b::t,h=>by
  show (eqD a b&&eqDs r t)=false
  rw [eqDs_len (a:=r) (b:=t) (fun e=>h (congrArg Nat.succ e)),Bool.and_false]
theorem eqDs_all:∀(a b:List Dt),a.length=b.length->(List.range a.length).all (fun i=>match a[i]?,b[i]? with | some x,some y=>eqD x y | _,_=>true)=eqDs a b
 | [],[],_=>rfl
 |x::r,y::t,h=>by
  have ih:=eqDs_all r t (Nat.succ.inj h)
  show _=(eqD x y&&eqDs r t)
  rw [List.length_cons,List.range_succ_eq_map,List.all_cons,List.all_map]
  rw [← ih]
  congr 1
theorem str_beqS (a b:List Nat):((⟨a.toArray⟩:Str) == ⟨b.toArray⟩)=(a==b):=by
 rw [Bool.eq_iff_iff]
 simp only [beq_iff_eq]
 constructor
 ·intro h
  injection h with h
  simpa using congrArg Array.toList h
 ·intro h; rw [h]
theorem dep_mem {d:Dt}:∀{ds:List Dt},d∈ds->dep d<=deps ds
 |e::ds,h=>by
  simp only [deps]
  rcases List.mem_cons.mp h with h | h
  ·subst h; omega
  ·have:=dep_mem h; omega
section
variable {X:Cx}{pins:List (Addr×Obj)}{σ:St}{H:Hp}{s:Shared}
theorem Inv.repL (I:Inv X pins σ H s){ds:List Dt}{v:V} (h:Rep X.K H (.lst ds) v):∃a xs,v=.ref a/\SqL X.K H a xs/\Reps X.K H ds xs/\∃its:List Value,Vals xs its/\s.heap.IsList a its.toArray:=by
 simp only [Rep] at h
 obtain⟨a,xs,rfl,h2,h3⟩:=h
 obtain⟨its,r,p,_⟩:=I.list h2
 exact⟨a,xs,rfl,h2,h3,its,r,p.isList⟩
theorem Inv.repT (I:Inv X pins σ H s){ds:List Dt}{v:V} (h:Rep X.K H (.tup ds) v):∃a xs,v=.ref a/\SqT X.K H a xs/\Reps X.K H ds xs/\∃its:List Value,Vals xs its/\s.heap.IsTuple a its.toArray:=by
 simp only [Rep] at h
 obtain⟨a,xs,rfl,h2,h3⟩:=h
 obtain⟨its,r,p,_⟩:=I.tuple h2
 exact⟨a,xs,rfl,h2,h3,its,r,p⟩
theorem items_eq (A:Around) (I:Inv X pins σ H s){ds es:List Dt}{xs ys:List V}{us vs:List Value} (rx:Reps X.K H ds xs) (ry:Reps X.K H es ys) (ru:Vals xs us) (rv:Vals ys vs)
  (ih:∀d∈ds,∀e v w u t,Rep X.K H d v->Rep X.K H e w->RelV v u->RelV w t->SeqAt.EqAt A s u t (eqD d e)) :
  ∀j (h1:j<us.toArray.size) (h2:j<vs.toArray.size),SeqAt.EqAt A s us.toArray[j] vs.toArray[j] ((fun i=>match ds[i]?,es[i]? with | some x,some y=>eqD x y | _,_=>true) j):=by
 intro j h1 h2
 have h1':j<us.length:=by simpa using h1
 have h2':j<vs.length:=by simpa using h2
 have e1:=ru.length
 have e2:=rv.length
 have hx:j<xs.length:=by omega
 have hy:j<ys.length:=by omega
 obtain⟨d,hd,rd⟩:=rx.get (i:=j) (x:=xs[j]) (by simp [hx])
 obtain⟨e,he,re⟩:=ry.get (i:=j) (x:=ys[j]) (by simp [hy])
 obtain⟨u,hu,ru'⟩:=ru.get (i:=j) (x:=xs[j]) (by simp [hx])
 obtain⟨t,ht,rt'⟩:=rv.get (i:=j) (x:=ys[j]) (by simp [hy])
 have hu':us[j]=u:=by simpa [h1'] using hu
 have ht':vs[j]=t:=by simpa [h2'] using ht
 have hm:d∈ds:=List.mem_of_getElem? hd
 simp only [hd,he,List.getElem_toArray,hu',ht']
 exact ih d hm e _ _ u t rd re ru' rt'
theorem lists_rc (A:Around) (I:Inv X pins σ H s){a b:Addr}{ds es:List Dt}{xs ys:List V}{us vs:List Value} (rx:Reps X.K H ds xs) (ry:Reps X.K H es ys) (ru:Vals xs us) (rv:Vals ys vs)
  (pa:s.heap.IsList a us.toArray) (pb:s.heap.IsList b vs.toArray) (hu:A.units<cLine)
  (ih:∀d∈ds,∀e v w u t,Rep X.K H d v->Rep X.K H e w->RelV v u->RelV w t->SeqAt.EqAt A.in1 s u t (eqD d e)):SeqAt.RcAt A s (.ref a) (.ref b) (eqD (.lst ds) (.lst es)):=by
 have l1:=rx.length
 have l2:=ry.length
 have l3:=ru.length
 have l4:=rv.length
 show SeqAt.RcAt A s (.ref a) (.ref b) (eqDs ds es)
 by_cases hl:ds.length=es.length
 ·have z:=SeqAt.RcAt.lists pa pb (by simp; omega) hu (items_eq A.in1 I rx ry ru rv ih)
  rw [show us.toArray.size=ds.length by simp; omega] at z
  rw [eqDs_all ds es hl] at z
  exact z
 ·have z:=SeqAt.RcAt.lists_lengths pa pb (by simp; omega) hu
  rw [eqDs_len hl]
  exact z
theorem tuples_rc (A:Around) (I:Inv X pins σ H s){a b:Addr}{ds es:List Dt}{xs ys:List V}{us vs:List Value} (rx:Reps X.K H ds xs) (ry:Reps X.K H es ys) (ru:Vals xs us) (rv:Vals ys vs)
  (pa:s.heap.IsTuple a us.toArray) (pb:s.heap.IsTuple b vs.toArray) (hu:A.units<cLine)
  (ih:∀d∈ds,∀e v w u t,Rep X.K H d v->Rep X.K H e w->RelV v u->RelV w t->SeqAt.EqAt A.in1 s u t (eqD d e)):SeqAt.RcAt A s (.ref a) (.ref b) (eqD (.tup ds) (.tup es)):=by
 have l1:=rx.length
 have l2:=ry.length
 have l3:=ru.length
 have l4:=rv.length
 show SeqAt.RcAt A s (.ref a) (.ref b) (eqDs ds es)
 have z:=SeqAt.RcAt.tuples pa pb hu (items_eq A.in1 I rx ry ru rv ih)
 by_cases hl:ds.length=es.length
 ·rw [show min us.toArray.size vs.toArray.size=ds.length by simp; omega,show (us.toArray.size==vs.toArray.size)=true by simp; omega,Bool.and_true] at z
  rw [eqDs_all ds es hl] at z
  exact z
 ·rw [show (us.toArray.size==vs.toArray.size)=false by simp; omega,Bool.and_false] at z
  rw [eqDs_len hl]
  exact z
theorem lists_ne (A:Around) (I:Inv X pins σ H s){a b:Addr}{ds es:List Dt}{xs ys:List V}{us vs:List Value} (rx:Reps X.K H ds xs) (ry:Reps X.K H es ys) (ru:Vals xs us) (rv:Vals ys vs)
  (pa:s.heap.IsList a us.toArray) (pb:s.heap.IsList b vs.toArray) (hu:A.units<cLine)
  (ih:∀d∈ds,∀e v w u t,Rep X.K H d v->Rep X.K H e w->RelV v u->RelV w t->SeqAt.EqAt A.in1 s u t (eqD d e)):SeqAt.RcNeAt A s (.ref a) (.ref b) (!eqD (.lst ds) (.lst es)):=by
 have l1:=rx.length
 have l2:=ry.length
 have l3:=ru.length
 have l4:=rv.length
 show SeqAt.RcNeAt A s (.ref a) (.ref b) (!eqDs ds es)
 by_cases hl:ds.length=es.length
 ·have z:=SeqAt.RcNeAt.lists pa pb (by simp; omega) hu (items_eq A.in1 I rx ry ru rv ih)
  rw [show us.toArray.size=ds.length by simp; omega] at z
  rw [eqDs_all ds es hl] at z
  exact z
 ·have z:=SeqAt.RcNeAt.lists_lengths pa pb (by simp; omega) hu
  rw [eqDs_len hl]
  exact z
theorem tuples_ne (A:Around) (I:Inv X pins σ H s){a b:Addr}{ds es:List Dt}{xs ys:List V}{us vs:List Value} (rx:Reps X.K H ds xs) (ry:Reps X.K H es ys) (ru:Vals xs us) (rv:Vals ys vs)
  (pa:s.heap.IsTuple a us.toArray) (pb:s.heap.IsTuple b vs.toArray) (hu:A.units<cLine)
  (ih:∀d∈ds,∀e v w u t,Rep X.K H d v->Rep X.K H e w->RelV v u->RelV w t->SeqAt.EqAt A.in1 s u t (eqD d e)):SeqAt.RcNeAt A s (.ref a) (.ref b) (!eqD (.tup ds) (.tup es)):=by
 have l1:=rx.length
 have l2:=ry.length
 have l3:=ru.length
 have l4:=rv.length
 show SeqAt.RcNeAt A s (.ref a) (.ref b) (!eqDs ds es)
 have z:=SeqAt.RcNeAt.tuples pa pb hu (items_eq A.in1 I rx ry ru rv ih)
 by_cases hl:ds.length=es.length
 ·rw [show min us.toArray.size vs.toArray.size=ds.length by simp; omega,show (us.toArray.size==vs.toArray.size)=true by simp; omega,Bool.and_true] at z
  rw [eqDs_all ds es hl] at z
  exact z
 ·rw [show (us.toArray.size==vs.toArray.size)=false by simp; omega,Bool.and_false] at z
  rw [eqDs_len hl]
  exact z
noncomputable def Sh (X:Cx) (H:Hp) (s:Shared) (u:Value):Dt->Prop
 |.non=>u=.none
 |.bl b=>u=.bool b
 |.int i=>∃t,u=.int i t
 |.str l=>∃t,u=.str ⟨l.toArray⟩ t
 |.tup ds=>∃a xs its,u=.ref a/\Reps X.K H ds xs/\Vals xs its/\s.heap.IsTuple a its.toArray
 |.lst ds=>∃a xs its,u=.ref a/\Reps X.K H ds xs/\Vals xs its/\s.heap.IsList a its.toArray
 |.dic ks=>∃a,u=.ref a/\DicAt s.heap a ks
theorem sh_of (I:Inv X pins σ H s){d:Dt}{v:V}{u:Value} (h:Rep X.K H d v) (r:RelV v u):Sh X H s u d:=by
 cases d with
 |tup ds=>
  obtain⟨a,xs,rfl,_,q,its,v1,p⟩:=I.repT h
  cases r
  exact⟨a,xs,its,rfl,q,v1,p⟩
 |lst ds=>
  obtain⟨a,xs,rfl,_,q,its,v1,p⟩:=I.repL h
  cases r
  exact⟨a,xs,its,rfl,q,v1,p⟩
 |dic ks=>
  obtain⟨a,rfl,_,p⟩:=I.repD h
  cases r
  exact⟨a,rfl,p⟩
 |_=>
  simp only [Rep] at h
  subst h
  first
   |exact r
   | (cases r; rfl)
theorem al_step {A:Around} (I:Inv X pins σ H s){d e:Dt}{v w:V}{u t:Value} (h:Rep X.K H d v) (h':Rep X.K H e w) (r:RelV v u) (r':RelV w t) (hu':A.units<cLine)
  (it:∀{ds:List Dt},(d=.lst ds∨d=.tup ds)->∀d'∈ds,∀e v w u t,Rep X.K H d' v->Rep X.K H e w->RelV v u->RelV w t->SeqAt.EqAt A.in1 s u t (eqD d' e)):Al A s u t (eqD d e):=by
 have nj:v=w->eqD d e=true:=fun z=>by
  subst z
  rw [Rep.inj I h h',eqD_refl]
 have rr:∀{a:Addr},u=.ref a->t=.ref a->v=w:=fun e1 e2=>by
  subst e1 e2
  cases v <;> cases w <;> simp [RelV] at r r' ⊢
  exact r.symm.trans r'
 have s1:=sh_of I h r
 have s2:=sh_of I h' r'
 cases d with
 |non=>
  obtain rfl:=s1
  cases e with
  |non=>obtain rfl:=s2; exact⟨.same _,.none_none,.none_none⟩
  |bl b2=>obtain rfl:=s2; exact⟨.none_bool _,.none_bool _,.none_bool _⟩
  |int i2=>obtain⟨t2,rfl⟩:=s2; exact⟨.none_int _ _,.none_int _ _,.none_int _ _⟩
  |str lb=>obtain⟨t2,rfl⟩:=s2; exact⟨.none_str _ _,.none_str _ _,.none_str _ _⟩
  |tup es=>obtain⟨_,_,_,rfl,_,_,p⟩:=s2; exact⟨.none_tuple p hu',.none_tuple p hu',.none_tuple p hu'⟩
  |lst es=>obtain⟨_,_,_,rfl,_,_,p⟩:=s2; exact⟨.none_list p hu',.none_list p hu',.none_list p hu'⟩
  |dic kb=>obtain⟨_,rfl,p⟩:=s2; exact(d_none p hu').2
 |bl b1=>
  obtain rfl:=s1
  cases e with
  |non=>obtain rfl:=s2; exact⟨.bool_none _,.bool_none _,.bool_none _⟩
  |bl b2=>obtain rfl:=s2; exact⟨.bool_bool _ _,.bool_bool _ _,.bool_bool _ _⟩
  |int i2=>obtain⟨t2,rfl⟩:=s2; exact⟨.bool_int _ _ _,.bool_int _ _ _,.bool_int _ _ _⟩
  |str lb=>obtain⟨t2,rfl⟩:=s2; exact⟨.bool_str _ _ _,.bool_str _ _ _,.bool_str _ _ _⟩
  |tup es=>obtain⟨_,_,_,rfl,_,_,p⟩:=s2; exact⟨.bool_tuple _ p hu',.bool_tuple _ p hu',.bool_tuple _ p hu'⟩
  |lst es=>obtain⟨_,_,_,rfl,_,_,p⟩:=s2; exact⟨.bool_list _ p hu',.bool_list _ p hu',.bool_list _ p hu'⟩
  |dic kb=>obtain⟨_,rfl,p⟩:=s2; exact(d_bool _ p hu').2
 |int i1=>
  obtain⟨t1,rfl⟩:=s1
  cases e with
  |non=>obtain rfl:=s2; exact⟨.int_none _ _,.int_none _ _,.int_none _ _⟩
  |bl b2=>obtain rfl:=s2; exact⟨.int_bool _ _ _,.int_bool _ _ _,.int_bool _ _ _⟩
  |int i2=>obtain⟨t2,rfl⟩:=s2; exact⟨.int_int _ _ _ _,.int_int _ _ _ _,.int_int _ _ _ _⟩
  |str lb=>obtain⟨t2,rfl⟩:=s2; exact⟨.int_str _ _ _ _,.int_str _ _ _ _,.int_str _ _ _ _⟩
  |tup es=>obtain⟨_,_,_,rfl,_,_,p⟩:=s2; exact⟨.int_tuple _ _ p hu',.int_tuple _ _ p hu',.int_tuple _ _ p hu'⟩
  |lst es=>obtain⟨_,_,_,rfl,_,_,p⟩:=s2; exact⟨.int_list _ _ p hu',.int_list _ _ p hu',.int_list _ _ p hu'⟩
  |dic kb=>obtain⟨_,rfl,p⟩:=s2; exact(d_int _ _ p hu').2
 |str la=>
  obtain⟨t1,rfl⟩:=s1
  cases e with
  |non=>obtain rfl:=s2; exact⟨.str_none _ _,.str_none _ _,.str_none _ _⟩
  |bl b2=>obtain rfl:=s2; exact⟨.str_bool _ _ _,.str_bool _ _ _,.str_bool _ _ _⟩
  |int i2=>obtain⟨t2,rfl⟩:=s2; exact⟨.str_int _ _ _ _,.str_int _ _ _ _,.str_int _ _ _ _⟩
  |str lb=>
   obtain⟨t2,rfl⟩:=s2
   show Al A s _ _ (la==lb)
   rw [← str_beqS]
   exact⟨.str_str _ _ _ _,.str_str _ _ _ _,.str_str _ _ _ _⟩
  |tup es=>obtain⟨_,_,_,rfl,_,_,p⟩:=s2; exact⟨.str_tuple _ _ p hu',.str_tuple _ _ p hu',.str_tuple _ _ p hu'⟩
  |lst es=>obtain⟨_,_,_,rfl,_,_,p⟩:=s2; exact⟨.str_list _ _ p hu',.str_list _ _ p hu',.str_list _ _ p hu'⟩
  |dic kb=>obtain⟨_,rfl,p⟩:=s2; exact(d_str _ _ p hu').2
 |tup ds=>
  obtain⟨a1,_,_,rfl,q1,v1,p⟩:=s1
  cases e with
  |non=>obtain rfl:=s2; exact⟨.tuple_none p hu',.tuple_none p hu',.tuple_none p hu'⟩
  |bl b2=>obtain rfl:=s2; exact⟨.tuple_bool _ p hu',.tuple_bool _ p hu',.tuple_bool _ p hu'⟩
  |int i2=>obtain⟨t2,rfl⟩:=s2; exact⟨.tuple_int _ _ p hu',.tuple_int _ _ p hu',.tuple_int _ _ p hu'⟩
  |str lb=>obtain⟨t2,rfl⟩:=s2; exact⟨.tuple_str _ _ p hu',.tuple_str _ _ p hu',.tuple_str _ _ p hu'⟩
  |tup es=>
   obtain⟨a2,_,_,rfl,q2,v2,p2⟩:=s2
   have R:=tuples_rc A I q1 q2 v1 v2 p p2 hu' (it (.inr rfl))
   refine⟨?_,R,tuples_ne A I q1 q2 v1 v2 p p2 hu' (it (.inr rfl))⟩
   by_cases hab:a1=a2
   ·subst hab; rw [nj (rr rfl rfl)]; exact .same _
   ·exact .of_refs hab R
  |lst es=>obtain⟨a2,_,_,rfl,q2,v2,p2⟩:=s2; exact⟨.tuple_list p p2 hu',.tuple_list p p2 hu',.tuple_list p p2 hu'⟩
  |dic kb=>obtain⟨a2,rfl,p2⟩:=s2; exact(d_tuple p2 p hu').2
 |lst ds=>
  obtain⟨a1,_,_,rfl,q1,v1,p⟩:=s1
  cases e with
  |non=>obtain rfl:=s2; exact⟨.list_none p hu',.list_none p hu',.list_none p hu'⟩
  |bl b2=>obtain rfl:=s2; exact⟨.list_bool _ p hu',.list_bool _ p hu',.list_bool _ p hu'⟩
  |int i2=>obtain⟨t2,rfl⟩:=s2; exact⟨.list_int _ _ p hu',.list_int _ _ p hu',.list_int _ _ p hu'⟩
  |str lb=>obtain⟨t2,rfl⟩:=s2; exact⟨.list_str _ _ p hu',.list_str _ _ p hu',.list_str _ _ p hu'⟩
  |tup es=>obtain⟨a2,_,_,rfl,q2,v2,p2⟩:=s2; exact⟨.list_tuple p p2 hu',.list_tuple p p2 hu',.list_tuple p p2 hu'⟩
  |lst es=>
   obtain⟨a2,_,_,rfl,q2,v2,p2⟩:=s2
   have R:=lists_rc A I q1 q2 v1 v2 p p2 hu' (it (.inl rfl))
   refine⟨?_,R,lists_ne A I q1 q2 v1 v2 p p2 hu' (it (.inl rfl))⟩
   by_cases hab:a1=a2
   ·subst hab; rw [nj (rr rfl rfl)]; exact .same _
   ·exact .of_refs hab R
  |dic kb=>obtain⟨a2,rfl,p2⟩:=s2; exact(d_list p2 p hu').2
 |dic ka=>
  obtain⟨a1,rfl,p⟩:=s1
  cases e with
  |non=>obtain rfl:=s2; exact(d_none p hu').1
  |bl b2=>obtain rfl:=s2; exact(d_bool _ p hu').1
  |int i2=>obtain⟨t2,rfl⟩:=s2; exact(d_int _ _ p hu').1
  |str lb=>obtain⟨t2,rfl⟩:=s2; exact(d_str _ _ p hu').1
  |tup es=>obtain⟨a2,_,_,rfl,q2,v2,p2⟩:=s2; exact(d_tuple p p2 hu').1
  |lst es=>obtain⟨a2,_,_,rfl,q2,v2,p2⟩:=s2; exact(d_list p p2 hu').1
  |dic kb=>
   obtain⟨a2,rfl,p2⟩:=s2
   refine⟨?_,rc_dd_eq p p2 hu',rc_dd_ne p p2 hu'⟩
   by_cases hab:a1=a2
   ·subst hab; rw [nj (rr rfl rfl)]; exact .same _
   ·exact .of_refs hab (rc_dd_eq p p2 hu')
theorem al_rep {A:Around} (I:Inv X pins σ H s) (d e:Dt) (v w:V) (u t:Value) (h:Rep X.K H d v) (h':Rep X.K H e w) (r:RelV v u) (r':RelV w t) (hu:A.units+dep d<cLine):Al A s u t (eqD d e):=
 al_step I h h' r r' (by omega) fun {ds} hds d' hd e v w u t hv hw rv rw'=>
  have hsz:sizeOf d'<sizeOf d:=by
   have:=List.sizeOf_lt_of_mem hd
   rcases hds with z | z <;> rw [z] <;> simp <;> omega
  (al_rep (A:=A.in1) I d' e v w u t hv hw rv rw' (by
   have:=dep_mem hd
   rcases hds with z | z <;> rw [z] at hu <;> simp only [dep] at hu <;> (show A.units+1+dep d'<cLine) <;> omega)).1
termination_by sizeOf d
decreasing_by exact hsz
end
section
variable {X:Cx}
noncomputable def rEqD (K:PySem.W.Frag):R2:=fun x y H Q=>∃d e,Rep K H d x/\Rep K H e y/\dep d<=50/\Q (.bl (eqD d e)) H
noncomputable def rNeD (K:PySem.W.Frag):R2:=fun x y H Q=>∃d e,Rep K H d x/\Rep K H e y/\dep d<=50/\Q (.bl (!eqD d e)) H
theorem op_eqD (hu:X.A.units+50<cLine):OpR X (compareOp .Eq) (rEqD X.K):=by
 intro pins s σ H x y v u Q I rx ry ⟨d,e,hd,he,hp,q⟩
 exact(al_rep I d e x y v u hd he rx ry (by omega)).2.1 X.prog X.w X.xe _ (fun ht=>⟨.bl _,H,I,rfl,q⟩)
theorem op_neD (hu:X.A.units+50<cLine):OpR X (compareOp .NotEq) (rNeD X.K):=by
 intro pins s σ H x y v u Q I rx ry ⟨d,e,hd,he,hp,q⟩
 exact(al_rep I d e x y v u hd he rx ry (by omega)).2.2 X.prog X.w X.xe _ (fun ht=>⟨.bl _,H,I,rfl,q⟩)
theorem hu50 {A:Around}{k:Nat} (hr:Room k A):A.units+50<cLine:=by have:=hr.un; omega
end
noncomputable def cellZ (ns:List Int) (k:Int):Int:=
 if k<ns.length then ns.getD k.toNat 0 else if ns=[] then 0 else ns.getD (k % (ns.length:Int)).toNat 0 * 31+k
noncomputable def drawnZ (ns:List Int) (k:Int):Int:=(cellZ ns k+6151 * (k+1)) * 40692 % 2147483399
noncomputable def pickZ (ns:List Int) (k many:Int):Int:=(drawnZ ns k * drawnZ ns k+drawnZ ns k / 31) % 2147483629 % many
section
variable (K:PySem.W.Frag)
noncomputable abbrev Scr (H:Hp) (a:Addr) (ns:List Int):Prop:=SqL K H a (ns.map V.int)/\ns.length<=63
end
theorem Same.upd {H:Hp}{a:Addr}{o:HO} (h:H a=none):Same H (L2.upd H a o):=fun b u e=>by rw [upd_ne (ne_of_none e h)]; exact e
theorem big (n:Nat) (h:n<=10000:=by omega):n<=sizeLine:=Nat.le_trans h (by decide)
theorem reps_ints {K:PySem.W.Frag}{H:Hp}:∀ns:List Int,Reps K H (ns.map Dt.int) (ns.map V.int)
 | []=>.nil
 |n::ns=>.cons rep_int (reps_ints ns)
theorem rep_script {K:PySem.W.Frag}{H:Hp}{a:Addr}{ns:List Int} (h:SqL K H a (ns.map V.int)):Rep K H (.lst (ns.map Dt.int)) (.ref a):=by
 simp only [Rep]
 exact⟨a,_,rfl,h,reps_ints ns⟩
theorem eqD_nil (ns:List Int):eqD (.lst (ns.map Dt.int)) (.lst [])=decide (ns=[]):=by
 cases ns <;> rfl
noncomputable def isStar:Expr->Bool
 |.Starred ..=>true
 |_=>false
theorem starEach_cons {e:Expr}{es:List Expr}{env:Env} (h:isStar e=false):starEach (e::es) env=(false,eval e env)::starEach es env:=by
 cases e <;> first | rfl | exact absurd h (by simp [isStar])
theorem pax (X:Cx) (e:Expr) (es:List Expr) (te:TE) (t:TA) (h:isStar e=false) (ha:PE X e te) (hr:PA X es t):PA X (e::es) (tCons te t):=pa_cons ha hr (starEach_cons h)
end L2
namespace L2
open PySem PySem.Spec PyProof.Rows PySem.W
section
variable {prog:Program}{w:World}{A:Around}{E:Value->Shared->Prop}{s:Shared}{K:PySem.W.Frag}{x C:Addr}{ox:Obj}
structure ExcK (K:PySem.W.Frag) (C:Addr):Prop where
 cls:(clsIn K C).isSome=true
 ga:findIn K (.ref C) "__getattribute__" = some (some (.builtin "BaseException.__getattribute__"))
 na:findIn K (.ref C) "__getattr__" = some none
 ca:findIn K (.ref C) "__class__" = some (some (.builtin "object.__class__"))
 get:specialIn K (.builtin "object.__class__") "__get__" = some (some (.builtin "getset_descriptor.__get__"))
 tk:takesIn K (.builtin "object.__class__")=some true
 ob:mroIn K C (.type "object")=some true
 be:mroIn K C (.type "BaseException")=some true
noncomputable def ExcAt (h:Heap) (x C:Addr):Prop:=∃ox,h.get? x=some ox/\ox.cls=.ref C
theorem ExcAt.type {M:Model}{h:Heap} (I:ExcAt h x C):Looks M h (typeOf (.ref x)) (.ref C):=by
 obtain⟨ox,e,c⟩:=I
 exact c ▸ (Looks.ld e).andThen .now
theorem exc_find {M:Model}{h:Heap} (Z:ExcK K C) (X:K.In h):Looks M h (Builtin.ObjectAttr.find (.ref x) (.ref C) "__class__") (.bind (.builtin "getset_descriptor.__get__") (.builtin "object.__class__")):=by
 have L1:=looks_findIn (M:=M) X Z.ca
 have L2:Looks M h (Builtin.ObjectAttr.getOf (some (.builtin "object.__class__"))) (some (.builtin "getset_descriptor.__get__")):=looks_specialIn X Z.get
 unfold Builtin.ObjectAttr.find
 refine L1.andThen (L2.andThen ?_)
 have L3:=looks_takesIn (M:=M) X Z.tk
 exact(show Looks M h (Builtin.ObjectAttr.dataDescriptor? (some (.builtin "object.__class__")) (some (.builtin "getset_descriptor.__get__"))) (some ((.builtin "getset_descriptor.__get__"),(.builtin "object.__class__"))) from L3.andThen .now).andThen (Looks.tag .now)
theorem exc_get {R:Result->Shared->Prop}{tp:Value} (Z:ExcK K C) (X:K.In s.heap) (I:ExcAt s.heap x C)
  (h:R (.ok (.ret (.ref C))) s):codeAny (model prog w) A (.call (.builtin "getset_descriptor.__get__") ⟨[.builtin "object.__class__",.ref x,tp],[]⟩) R s:=by
 obtain⟨hh,g,dr,t,os⟩:=s
 have L0:=I.type (M:=model prog w)
 have L1:=looks_mroIn (M:=model prog w) X Z.ob
 refine codeAny_call_builtin KF.slot_gs.plain KF.entry_gs (KF.slot_gs.check _ _ _ _ _ _ _ _ KF.type_class (KF.args_gs _ _ _) ?_)
 unfold Builtin.«getset_descriptor.__get__» Builtin.Getset_descriptor.descrGet
 rw [dga_obj]
 refine wpAny_bind (wpAny_pure ?_)
 unfold Builtin.Getset_descriptor.descrGetter Builtin.Getset_descriptor.descrCheckInstance Builtin.Getset_descriptor.descrNameAndClass isInstance
 simp only [KF.owner_class]
 repeat lk
 refine⟨Code.quiet_builtin _ (by decide +kernel),codeAny_builtin KF.entry_class ?_⟩
 unfold Builtin.«object.__class__» shownTypeOf
 repeat lk
 exact h
theorem exc_check {nameV:Value}{M:Model}{Q:Unit->Shared->Prop} (Z:ExcK K C) (X:K.In s.heap) (I:ExcAt s.heap x C) (hq:Q () s):wpAny M A (checkBuiltinCall "BaseException.__getattribute__" ⟨[.ref x,nameV],[]⟩) Q E s:=by
 have hk:builtinKind "BaseException.__getattribute__" = some .slot:=by decide +kernel
 have hsplit:splitId "BaseException.__getattribute__" = some ("BaseException","__getattribute__"):=by decide +kernel
 have L0:=I.type (M:=M)
 have L1:=looks_mroIn (M:=M) X Z.be
 have ha:=F.args_bexc_ga (.ref x) nameV
 simp only [checkBuiltinCall,hk,hsplit]
 refine wpAny_bind ?_
 unfold isInstance
 refine wpAny_bind (L0.at (L1.at ?_))
 repeat (first | wp_step)
 exact hq
theorem exc_class {Q:Option Value->Shared->Prop} (Z:ExcK K C) (X:K.In s.heap) (I:ExcAt s.heap x C) (h:Q (some (.ref C)) {s with toks:=s.toks+1}):wpAny (model prog w) A (getAttr? (.ref x) "__class__") Q E s:=by
 have L0:=I.type (M:=model prog w)
 have L1:=looks_findIn (M:=model prog w) X Z.ga
 have L2:=looks_findIn (M:=model prog w) X Z.na
 have L3:=exc_find (M:=model prog w) (x:=x) Z X
 unfold getAttr? getAttrBy? getAttrBy
 refine wpAny_bind (wpAny_mkText (wpAny_bind (wpAny_attempt (wpAny_holding (wpAny_bind (L0.at (wpAny_bind (L1.at ?_))))))))
 have hx2:(Value.builtin "BaseException.__getattribute__" == Value.builtin "object.__getattribute__")=false:=by decide +kernel
 have hx1:(onTheHeap (Value.ref C)&&Value.builtin "BaseException.__getattribute__" == Value.builtin "object.__getattribute__")=false:=by rw [hx2]; rfl
 show wpAny _ _ (if (onTheHeap (Value.ref C)&&Value.builtin "BaseException.__getattribute__" == Value.builtin "object.__getattribute__")=true then _ else _) _ _ _
 rw [hx1,if_neg (by decide)]
 unfold getAttrByItsOwn hookBefore
 rw [show onTheHeap (Value.ref C)=true from rfl,if_pos rfl]
 refine wpAny_bind (L2.at ?_)
 refine wpAny_bind (wpAny_attempt (wpAny_holding ?_))
 unfold callGetattribute
 rw [if_neg (by decide)]
 unfold boundAndCalled
 refine wpAny_bind (wpAny_of_eq (F.attr_ValueError.ga.bind (.ref x)) ?_)
 refine wpAny_call (codeAny_call_builtin F.attr_ValueError.ga.plain F.entry_bexc_ga (exc_check (s:={s with toks:=s.toks+1}) Z X I ?_))
 unfold Builtin.«object.__getattribute__»
 refine wpAny_bind (wpAny_pure ?_)
 refine wpAny_bind (wpAny_pure (wpAny_bind (L0.at (wpAny_bind (L3.at ?_)))))
 show wpAny _ _ (Builtin.ObjectAttr.bindTo (.builtin "getset_descriptor.__get__") (.builtin "object.__class__") (.ref x) (.ref C)) _ _ _
 unfold Builtin.ObjectAttr.bindTo
 show wpAny _ _ (holding [.builtin "object.__class__"] (call (.builtin "getset_descriptor.__get__") [.builtin "object.__class__",.ref x,.ref C]) >>= fun v=>ret v) _ _ _
 refine wpAny_bind (wpAny_holding (wpAny_call (exc_get (s:={s with toks:=s.toks+1}) Z X I ?_)))
 exact wpAny_pure (handed_on rfl (wpAny_pure h))
theorem kitx_exc (Z:ExcK K C):KitX K (.ref x) (.ref C) (fun h=>ExcAt h x C) where
 ty:=fun _ _ _ I=>I.type
 it:=fun _ _ X _=>by
  obtain⟨cd,hc⟩:=Option.isSome_iff_exists.mp Z.cls
  unfold clsIn at hc
  split at hc
  ·rename_i c' d' cd' sl' ho
   intro A' Q' E' s' k q
   unfold isType loadHead
   exact wpAny_bind (wpAny_loadPart (k _ _ (X _ _ ho)) (wpAny_pure q))
  ·cases hc
 ne:=fun h tp dd its n sl X htp=>by
  obtain⟨cd,hc⟩:=Option.isSome_iff_exists.mp Z.cls
  refine Bool.eq_false_iff.mpr fun q=>?_
  have e:C=tp:=Value.ref.inj (beq_iff_eq.mp q)
  subst e
  unfold clsIn at hc
  split at hc
  ·rename_i c' d' cd' sl' ho
   have z:=(X _ _ ho).symm.trans htp
   cases z
  ·cases hc
 ca:=fun X I k=>exc_class Z X I k
end
noncomputable def excO (C a:Addr):HO:=.ext fun h=>ExcAt h a C
section
variable {X:Cx}
theorem call_isExc:CallR X (.builtin "isinstance") (fun xs H Q=>∃a C D b,xs=[.ref a,D]/\H a=some (excO C a)/\ExcK X.K C/\(∀u,RelV D u->kitOne X.K (.ref C) u=some b)/\Q (.bl b) H):=by
 intro pins s σ H xs us Q I r ⟨a,C,D,b,e,hH,Z,hb,q⟩
 subst e
 obtain⟨u,t,rfl,ru,rt⟩:=r.two
 cases ru
 have hI:ExcAt s.heap a C:=(I.hok a _ hH).1
 exact kia_one (kitx_exc (x:=a) Z) I.kIn hI (hb t rt) (by intro z; cases z) fun tk=>(fun ht=>⟨.bl b,H,I.tok tk,rfl,q⟩)
end
theorem ObjOk.there {P:Program}{w:World}{H:Hp}{h:Heap}{a:Addr}{o:HO} (x:ObjOk P w H h a o):∃ob,h.get? a=some ob:=by
 cases o with
 |lst xs=>obtain⟨_,_,_,_,e⟩:=x; exact⟨_,e⟩
 |tup xs=>obtain⟨_,_,_,ob,e,_⟩:=x; exact⟨_,e⟩
 |dK kvs=>obtain⟨_,_,_,_,o,_,_,e,_⟩:=x; exact⟨_,e⟩
 |dT kvs=>obtain⟨_,_,_,_,o,_,_,e,_⟩:=x; exact⟨_,e⟩
 |set S n=>obtain⟨o,_,_,_,e,_⟩:=x; exact⟨_,e⟩
 |ins C dx fs=>obtain⟨_,_,_,e,_⟩:=x; exact⟨_,e⟩
 |own y=>exact x
 |xd fs=>obtain⟨_,⟨_,_,_,e,_⟩,_⟩:=x; exact⟨_,e⟩
 |rng lo hi=>obtain⟨_,_,_,e⟩:=x; exact⟨_,e⟩
 |frz ob u=>obtain⟨e,_⟩:=x; exact⟨_,e⟩
 |tbl q=>obtain⟨ps,e,_⟩:=x; exact⟨_,e⟩
 |met f y=>exact⟨_,(show h.get? a=some _ from x)⟩
 |ext φ=>exact x.2.1
inductive CX1 (P:Program) (w:World) (outer:List Env) (H:Hp) (s:Shared) (E:XK) (e:Value) (s':Shared):Prop
 |mk (ea C:Addr) (H':Hp) (B:Heap) (a0:Value) (h1:e=.ref ea) (h2:s'.os=s.os) (h3:AllBare s'.gens) (h4:Heap.FlyingW B outer ea (.ref C) a0 s'.heap) (h5:HOk P w H' B) (h6:Un (frs outer) [] H H' s.heap s'.heap)
  (h7:∀b o,s.heap.get? b=some o->H b=none->b∉frs outer->B.get? b=some o) (h8:∀b o,s.heap.get? b=some o->b∉frs outer->∃o',B.get? b=some o') (h9:H' ea=none) (h10:E (.ref C) none H'):CX1 P w outer H s E e s'
structure Rz (X:Cx) (E:XK):Prop where
 made:∀(pins:List (Addr×Obj)) (σ:St) (H:Hp) (s:Shared) (h':Heap) (e C:Addr) (vs:List Value),Inv X pins σ H s->Heap.MadeExcOf s.heap h' e (.ref C) vs->E (.ref C) none H->X.xe (.ref e) {s with heap:=h'}
 pass:Passes (CX1 X.prog X.w) X E
section
variable {P:Program}{w:World}{K:PySem.W.Frag}{mg:Str->Option Value}{base:Heap}{N:List Str}{qual:Str}{scope:Scope}{f:Addr}{cd:Value}{A:Around}{outer:List Env}{s₀:Shared}{H₀:Hp}{E:XK}
theorem rz_of:Rz (cxOf (CX1 P w) P w K mg base N qual scope f cd A outer s₀ H₀ E) E where
 made:=by
  intro pins σ H s h' e C vs I hx hE
  have hfr:=I.ok.frames
  have hF:=I.stack
  have hin:∀env∈(cxOf (CX1 P w) P w K mg base N qual scope f cd A outer s₀ H₀ E).stack,∀b,env.frame=some b->b∈frs (cxOf (CX1 P w) P w K mg base N qual scope f cd A outer s₀ H₀ E).stack:=fun env he b hb=>List.mem_filterMap.mpr ⟨env,he,hb⟩
  refine wpAny_leaves_madeW (base:=hideAll s.heap (frs (cxOf (CX1 P w) P w K mg base N qual scope f cd A outer s₀ H₀ E).stack)) (h:=s.heap) hfr rfl (fun b o q=>of_hideAll _ q) (funFrames_hide hF hin) hx fun h'' t fl _ _ up=>?_
  have inB:∀b o,s.heap.get? b=some o->b∉frs (cxOf (CX1 P w) P w K mg base N qual scope f cd A outer s₀ H₀ E).stack->(hideAll s.heap (frs (cxOf (CX1 P w) P w K mg base N qual scope f cd A outer s₀ H₀ E).stack)).get? b=some o:=fun b o q hb=>hideAll_get _ q hb
  have old:∀b o,s₀.heap.get? b=some o->b∉frs outer->b∉frs (cxOf (CX1 P w) P w K mg base N qual scope f cd A outer s₀ H₀ E).stack:=fun b o q hb z=>by
   rcases List.mem_cons.mp (I.stkSub b z) with e | e
   ·exact absurd (Heap.lt_size q) (by have:=I.ok.above; rw [e]; exact Nat.not_lt.mpr this)
   ·exact hb e
  have noex:∀b:Addr,b∉(cxOf (CX1 P w) P w K mg base N qual scope f cd A outer s₀ H₀ E).ex:=fun b z=>nomatch z
  have keepX:∀b o,s₀.heap.get? b=some o->H₀ b=none->b∉frs outer->(hideAll s.heap (frs (cxOf (CX1 P w) P w K mg base N qual scope f cd A outer s₀ H₀ E).stack)).get? b=some o:=fun b o q n hb=>inB b o (I.base.keep b o q n hb (noex b)) (old b o q hb)
  have thereX:∀b o,s₀.heap.get? b=some o->b∉frs outer->∃o',(hideAll s.heap (frs (cxOf (CX1 P w) P w K mg base N qual scope f cd A outer s₀ H₀ E).stack)).get? b=some o':=fun b o q hb=>by
   obtain⟨o',q'⟩:=I.base.there b o q (noex b)
   exact⟨o',inB b o' q' (old b o q hb)⟩
  have slotX:∀b o,s₀.heap.get? b=some o->H₀ b=none->b∈frs outer->∃sl,h''.get? b=some {o with slots:=sl}:=fun b o q n hb=>by
   obtain⟨sl,q'⟩:=I.base.slot b o q n hb (noex b)
   obtain⟨_,o2,q2,nf⟩:=I.ok.funs.mem hb
   have q2':s₀.heap.get? b=some o2:=q2
   rw [q] at q2'
   cases q2'
   obtain⟨sl',q3⟩:=up b _ (hx.keeps b _ q') (by intro vs z; exact nf vs z)
   exact⟨sl',q3⟩
  refine⟨e,C,H,_,_,rfl,I.os,I.bare,fl,fun a o q=>?_,⟨fun b o q n hb _=>fl.1 b o (keepX b o q n hb),fun b o q n hb _=>slotX b o q n hb,fun b o q n _=>I.base.free b o q n (noex b),fun b o q _=>?_,I.base.tups,I.base.frzs,I.base.tbls⟩,keepX,thereX,?_,hE⟩
  ·have na:∀b u,H b=some u->b∉frs (cxOf (CX1 P w) P w K mg base N qual scope f cd A outer s₀ H₀ E).stack:=fun b u q z=>by
    have:=I.stkFree b z
    rw [q] at this
    cases this
   refine(I.hok a o q).stay (fun c u hc r=>inB c u r ?_) (fun _ z=>z) fun _ _ z=>z
   rcases hc with rfl | hc
   ·exact na _ _ q
   ·exact na _ _ hc
  ·by_cases hb:b∈frs outer
   ·have hn:H₀ b=none:=I.ok.frf b hb
    obtain⟨sl,q'⟩:=slotX b o q hn hb
    exact⟨_,q'⟩
   ·obtain⟨o',q'⟩:=thereX b o q hb
    exact⟨o',fl.1 b o' q'⟩
  ·cases q:H e with
   |none=>rfl
   |some u=>
    obtain⟨ob,z⟩:=(I.hok e u q).there
    rw [hx.new] at z
    cases z
 pass:=by
  intro pins σ H s e s' I hc
  obtain⟨ea,C,H',B,a0,rfl,hos,hb,fl,hok,un,keepB,thereB,hea,hE⟩:=hc
  have hfr:=I.ok.frames
  refine wpAny_leaves_onW hfr rfl fl fun h'' fl' up=>?_
  have old:∀b o,s₀.heap.get? b=some o->b∉frs outer->b∉frs (cxOf (CX1 P w) P w K mg base N qual scope f cd A outer s₀ H₀ E).stack:=fun b o q hb z=>by
   rcases List.mem_cons.mp (I.stkSub b z) with e | e
   ·exact absurd (Heap.lt_size q) (by have:=I.ok.above; rw [e]; exact Nat.not_lt.mpr this)
   ·exact hb e
  have noex:∀b:Addr,b∉(cxOf (CX1 P w) P w K mg base N qual scope f cd A outer s₀ H₀ E).ex:=fun b z=>nomatch z
  have keepX:∀b o,s₀.heap.get? b=some o->H₀ b=none->b∉frs outer->B.get? b=some o:=fun b o q n hb=>keepB b o (I.base.keep b o q n hb (noex b)) (I.base.free b o q n (noex b)) (old b o q hb)
  have thereX:∀b o,s₀.heap.get? b=some o->b∉frs outer->∃o',B.get? b=some o':=fun b o q hb=>by
   obtain⟨o',q'⟩:=I.base.there b o q (noex b)
   exact thereB b o' q' (old b o q hb)
  have sub:∀b,b∈frs outer->b∈frs (cxOf (CX1 P w) P w K mg base N qual scope f cd A outer s₀ H₀ E).stack:=fun b hb=>by
   show b∈frs (_::outer)
   unfold frs
   rw [List.filterMap_cons]
   split
   ·exact hb
   ·exact List.mem_cons_of_mem _ hb
  have slotX:∀b o,s₀.heap.get? b=some o->H₀ b=none->b∈frs outer->∃sl,h''.get? b=some {o with slots:=sl}:=fun b o q n hb=>by
   obtain⟨sl,q'⟩:=I.base.slot b o q n hb (noex b)
   obtain⟨sl2,q2'⟩:=un.slot b _ q' (I.base.free b o q n (noex b)) (sub b hb) (by simp)
   obtain⟨_,o2,q2,nf⟩:=I.ok.funs.mem hb
   have q2'':s₀.heap.get? b=some o2:=q2
   rw [q] at q2''
   cases q2''
   obtain⟨sl',q3⟩:=up b _ q2' (by intro vs z; exact nf vs z)
   exact⟨sl',q3⟩
  refine⟨ea,C,H',B,a0,rfl,hos.trans I.os,hb,fl',hok,⟨fun b o q n hb _=>fl'.1 b o (keepX b o q n hb),fun b o q n hb _=>slotX b o q n hb,fun b o q n _=>?_,fun b o q _=>?_,fun b xs q=>un.tups b xs (I.base.tups b xs q),fun b o u q=>un.frzs b o u (I.base.frzs b o u q),fun b ps q=>?_⟩,keepX,thereX,hea,hE⟩
  ·obtain⟨o',q'⟩:=I.base.there b o q (noex b)
   exact un.free b o' q' (I.base.free b o q n (noex b)) (by simp)
  ·by_cases hb:b∈frs outer
   ·have hn:H₀ b=none:=I.ok.frf b hb
    obtain⟨sl,q'⟩:=slotX b o q hn hb
    exact⟨_,q'⟩
   ·obtain⟨o',q'⟩:=thereX b o q hb
    exact⟨o',fl'.1 b o' q'⟩
  ·exact un.tbls b ps (I.base.tbls b ps q)
end
section
variable {P:Program}{w:World}{K:PySem.W.Frag}{mg:Str->Option Value}{base:Heap}
theorem Fun.okX {x qual:Str}{st:Stmt}{f:Addr}{fd:FuncData}{N ps:List Str}{k:Nat}{sp:Sp} (F:Fun K x qual st f fd) (S:FnScope N ps (defScope st)) (len:∀vs H Q E,sp vs H Q E->vs.length=ps.length)
  (hbody:∀(cdv:Value) (A:Around) (outer:List Env) (s:Shared) (H:Hp) (vs:List V) (Q:VK) (E:XK),Room k (A.deeper (envOfC qual (defScope st) s.heap.objs.size f cdv))->sp vs H Q E->
   Rz (cxOf (CX1 P w) P w K mg base N qual (defScope st) f cdv A outer s H E) E->
   ∃t,PSs (cxOf (CX1 P w) P w K mg base N qual (defScope st) f cdv A outer s H E) (defBody st) t/\t {nx:=fun _ H'=>Q .non H',rt:=Q} (start N vs) H) (hf:ps=[lawS]->(defScope st).names.lookup lawS=some .local:=by first | assumption | decide +kernel):FnOk P w K mg base (CX1 P w) (k+1) f fd ps sp:=by
 obtain⟨oc,od,kV,doc,pm,an,cdv,ct,osl,rfl,lk,hcd⟩:=F.ex
 refine fn_of lk hcd S hf len fun A outer s H vs Q E hr hsp=>?_
 exact hbody cdv A outer s H vs Q E hr hsp rz_of
end
abbrev veMro:List Value:=[.type "ValueError",.type "Exception",.type "BaseException",.type "object"]
theorem exc_obj {K:PySem.W.Frag}{h:Heap}{C:Addr} (X:K.In h) (q:excIn K C veMro "ValueError.__new__" = true) :
  ∃nm qn N bs bm hdct sn sub ab col dd k0 k1 k2 k3 k5 mN,h.get? C=some (excClassObj nm qn C N bs bm hdct sn sub ab col dd k0 k1 k2 k3 k5 "ValueError.__new__")/\h.Ns N mN/\mN "__init__" = none/\OwnTail h veMro bm:=by
 unfold excIn at q
 split at q
 ·rename_i dd cd sl ho
  split at q
  ·rename_i C' bm k0 k1 k2 k3 n k5 hm hs
   simp only [Bool.and_eq_true,beq_iff_eq,Bool.not_eq_true'] at q
   obtain⟨⟨⟨⟨⟨rfl,rfl⟩,hdel⟩,ht⟩,hok⟩,hni⟩:=q
   obtain⟨nm,bs,mro,ns,qn,hd,sn,sub,ab,col,del⟩:=cd
   dsimp only at hm hdel hok hni
   subst hm hdel
   have hsl:sl=#[k0,k1,k2,k3,some (.builtin "ValueError.__new__"),k5]:=by
    obtain⟨l⟩:=sl
    simp only at hs
    rw [hs]
   subst hsl
   exact⟨nm,qn,ns,bs,bm,hd,sn,sub,ab,col,dd,k0,k1,k2,k3,k5,_,X _ _ ho,.of_isNs (isNs_of_in X hok),nsMap_none_of_in X hok hni,tail_of_in X ht⟩
  ·cases q
 ·cases q
section
variable {X:Cx}{pos:Pos}
noncomputable def tRaise (C:Addr) (E:XK) (te:TE):TS:=fun _ σ H=>te σ H fun _ H1=>E (.ref C) none H1
theorem ps_raise {x:Str}{np cpos:Pos}{C:Addr}{E:XK}{e:Expr}{te:TE} (hc:X.calm=true) (R:Rz X E) (hg:Gl X x) (hm:X.mg x=some (.ref C)) (hK:excIn X.K C veMro "ValueError.__new__" = true) (he:PE X e te) (hst:isStar e=false:=by rfl)
  (hd:(x==("__debug__" : Str))=false:=by decide):PS X (.Raise (some (.Call (.Name x np) [e] [] cpos)) none pos) (tRaise C E te):=by
 intro pins s σ H D I h
 obtain⟨nm,qn,N,bs,bm,hdct,sn,sub,ab,col,dd,k0,k1,k2,k3,k5,mN,hC,hN,hni,T⟩:=exc_obj I.mod.kin hK
 have hs:starEach [e] X.env=[(false,eval e X.env)]:=by rw [starEach_cons hst]; rfl
 refine wpAny_Raise_call_subT F.excBase_ValueError (C:=C) (nm:=nm) (q:=qn) (N:=N) (bs:=bs) (bm:=bm) (hdct:=hdct) (sn:=sn) (sub:=sub) (ab:=ab) (col:=col) (dd:=dd) (k0:=k0) (k1:=k1) (k2:=k2) (k3:=k3) (k5:=k5) (mN:=mN)
  (T.hasType F.excBase_ValueError.hasBase) (I.ok.hd hc) (by rw [hs]; rfl) hni (ld_glob I hg hm ⟨rfl,?_⟩ hd)
 rw [hs]
 refine Calls.evalArgs_plain (Calls.spliced_cons (thn (he pins s σ H _ I h) fun v s1 ⟨x,H1,I1,r1,q1⟩=>Calls.spliced_nil ?_))
 exact⟨rfl,by show 1<=sizeLine; decide,I1.bk _ _ hC,hN.keeps I1.bk,T.keeps I1.bk,fun h' ea hmade=>R.made pins σ H1 s1 h' ea C _ I1 hmade q1⟩
noncomputable def tBit (t:TE) (k:Hp->Prop):St->Hp->Prop:=fun σ H=>t σ H fun x H1=>∃l:Str,x=.str l/\l.length<=1000/\k H1
theorem len_add (a b:Str):(a++b).length=a.length+b.length:=strLen_append a b
theorem pe_fstr2 {a b:Expr}{ta tb:TE} (ha:PE X a ta) (hb:PE X b tb):PE X (.JoinedStr [a,b] pos) (fun σ H Q=>tBit ta (fun H1=>tBit tb (fun H2=>∀z,Q (.str z) H2) σ H1) σ H):=by
 intro pins s σ H Q I h
 refine wpAny_JoinedStr ?_
 have e0:Str.empty.length=0:=rfl
 refine thn (ha pins s σ H _ I h) fun v s1 h_=>?_
 obtain⟨x,H1,I1,r1,l,ex,hl,q1⟩:=h_
 subst ex
 obtain⟨t,rfl⟩:=r1
 refine⟨l,t,rfl,big _ (by rw [len_add,e0]; omega),?_⟩
 refine thn (hb pins s1 σ H1 _ I1 q1) fun v s2 h_=>?_
 obtain⟨y,H2,I2,r2,m,ey,hm,q2⟩:=h_
 subst ey
 obtain⟨t',rfl⟩:=r2
 refine⟨m,t',rfl,big _ (by rw [len_add,len_add,e0]; omega),big _ (by rw [len_add,len_add,e0]; omega),?_⟩
 exact(fun ht=>⟨.str _,H2,I2.tok _,⟨_,rfl⟩,q2 _⟩)
end
noncomputable abbrev Cx.inTry (X:Cx) (pn:List (Addr×Obj)) (W:Value->Shared->Prop):Cx:={X with pn:=pn,xe:=W}
noncomputable abbrev Cx.inSuite (X:Cx) (pn:List (Addr×Obj)) (ea:Addr):Cx:={X with A:=X.A.mark (some (.ref ea)),calm:=false,pn:=pn,xe:=fun _ _=>False}
section
variable {X:Cx}{pins:List (Addr×Obj)}{σ:St}{H:Hp}{s:Shared}
theorem okTry (ok:X.Ok) (pn:List (Addr×Obj)) (W:Value->Shared->Prop):(X.inTry pn W).Ok:=
 ⟨ok.mod,ok.kind,ok.glob,ok.blt,ok.above,ok.inj,ok.has,ok.cab,ok.hd,ok.frames,ok.stk,ok.exf,ok.bs,ok.bsz,ok.noex,ok.exfs,ok.funs,ok.frf⟩
theorem Inv.inTry (I:Inv X pins σ H s) (W:Value->Shared->Prop):Inv (X.inTry (X.pn++pins) W) [] σ H s:=
 ⟨okTry I.ok _ W,I.os,I.bare,I.base,I.loc,I.cell,I.free,I.freeC,fun p hp=>I.pin p (by
  have hp':p∈(X.pn++pins)++[]:=hp
  simpa using hp'),I.hok,I.len,I.tk⟩
theorem Inv.outTry {W:Value->Shared->Prop}{pins':List (Addr×Obj)} (ok:X.Ok) (I:Inv (X.inTry (X.pn++pins) W) pins' σ H s):Inv X pins σ H s:=
 ⟨ok,I.os,I.bare,I.base,I.loc,I.cell,I.free,I.freeC,fun p hp=>I.pin p (List.mem_append_left _ hp),I.hok,I.len,I.tk⟩
theorem Inv.outSuite {pins':List (Addr×Obj)}{ea:Addr} (ok:X.Ok) (I:Inv (X.inSuite (X.pn++pins) ea) pins' σ H s):Inv X pins σ H s:=
 ⟨ok,I.os,I.bare,I.base,I.loc,I.cell,I.free,I.freeC,fun p hp=>I.pin p (List.mem_append_left _ hp),I.hok,I.len,I.tk⟩
theorem Inv.caught {W:Value->Shared->Prop}{pn pins':List (Addr×Obj)}{H':Hp}{s':Shared}{ea C:Addr}{B h6:Heap}{a0:Value} (hstk:X.stack=X.env::X.outer/\X.env.frame=some X.env.locals) (hex:X.ex=[])
  (I:Inv (X.inTry pn W) pins' σ H s) (hos:s'.os=s.os) (hb:AllBare s'.gens) (hok:HOk X.prog X.w H' B) (un:Un (frs X.stack) [] H H' s.heap s'.heap)
  (keepB:∀b o,s.heap.get? b=some o->H b=none->b∉frs X.stack->B.get? b=some o) (thereB:∀b o,s.heap.get? b=some o->b∉frs X.stack->∃o',B.get? b=some o') (hea:H' ea=none)
  (fl:Heap.FlyingW B X.stack ea (.ref C) a0 h6) (up:s'.heap.UpToSlots h6) (ht:0<s'.toks) :
  Inv (X.inSuite pn ea) [] (List.replicate σ.length none) (upd H' ea (excO C ea)) {s' with heap:=h6}:=by
 obtain⟨f1,f2,f3,oe,vs,T,oT,ts,e1,e2,e3,_⟩:=id fl
 have frm:frs X.stack=X.env.locals::X.fs:=by
  rw [hstk.1]
  unfold frs
  rw [List.filterMap_cons,hstk.2]
  rfl
 have frn:∀b,b∈frs X.stack->b≠ea:=fun b hb' z=>by
  obtain⟨_,o,q,nf⟩:=f3.mem hb'
  rw [z,e1] at q
  cases q
  exact nf vs e3
 have nB:∀b o,B.get? b=some o->b≠ea:=fun b o q z=>by rw [z,f2] at q; cases q
 have nd:∀b o,s.heap.get? b=some o->b∈frs X.stack->∀vs,o.data≠.fields vs:=fun b o q hb'=>by
  obtain⟨_,o2,q2,nf⟩:=I.stack.mem hb'
  have q2':s.heap.get? b=some o2:=q2
  rw [q] at q2'
  cases q2'
  exact nf
 have slot:∀b o,s.heap.get? b=some o->H b=none->b∈frs X.stack->∃sl,h6.get? b=some {o with slots:=sl}:=fun b o q n hb'=>by
  obtain⟨sl,q'⟩:=un.slot b o q n hb' (by simp)
  obtain⟨sl',q''⟩:=up b _ q' (by intro vs z; exact nd b o q hb' vs z)
  exact⟨sl',q''⟩
 have keep:∀b o,s.heap.get? b=some o->H b=none->b∉frs X.stack->h6.get? b=some o:=fun b o q n hb'=>f1 b o (keepB b o q n hb')
 have fre:∀b o,s.heap.get? b=some o->H b=none->(upd H' ea (excO C ea)) b=none:=fun b o q n=>by
  have hne:b≠ea:=by
   by_cases hb':b∈frs X.stack
   ·exact frn b hb'
   ·exact nB b o (keepB b o q n hb')
  rw [upd_ne hne]
  exact un.free b o q n (by simp)
 have oldf:∀b o,X.s₀.heap.get? b=some o->b∉X.fs->b∉frs X.stack:=fun b o q hb' z=>by
  rw [frm] at z
  rcases List.mem_cons.mp z with e | e
  ·exact absurd (Heap.lt_size q) (by have:=I.ok.above; rw [e]; exact Nat.not_lt.mpr this)
  ·exact hb' e
 have subf:∀b,b∈X.fs->b∈frs X.stack:=fun b hb'=>by rw [frm]; exact List.mem_cons_of_mem _ hb'
 have noex:∀b:Addr,b∉X.ex:=fun b z=>by rw [hex] at z; cases z
 obtain⟨m,⟨oL,es,ep,hoL,hrest⟩,_⟩:=I.loc
 have locIn:X.env.locals∈frs X.stack:=by rw [frm]; exact List.mem_cons_self
 obtain⟨slL,hL6⟩:=slot _ _ hoL I.free locIn
 refine⟨⟨I.ok.mod,I.ok.kind,I.ok.glob,I.ok.blt,I.ok.above,I.ok.inj,I.ok.has,I.ok.cab,(fun z=>nomatch z),I.ok.frames,I.ok.stk,I.ok.exf,I.ok.bs,I.ok.bsz,I.ok.noex,I.ok.exfs,I.ok.funs,I.ok.frf⟩,hos.trans I.os,hb,
  ⟨fun b o q n hb' hx=>?_,fun b o q n hb' hx=>?_,fun b o q n hx=>?_,fun b o q hx=>?_,fun b xs q=>?_,fun b o u q=>?_,fun b ps q=>?_⟩,⟨m,⟨_,es,ep,hL6,hrest⟩,fun i x v h1 h2 _=>?_⟩,fun x c hc=>?_,?_,fun x c hc=>?_,fun p hp=>?_,fun a o q=>?_,?_,ht⟩
 ·exact keep b o (I.base.keep b o q n hb' hx) (I.base.free b o q n hx) (oldf b o q hb')
 ·obtain⟨sl,q'⟩:=I.base.slot b o q n hb' hx
  obtain⟨sl',q''⟩:=slot b _ q' (I.base.free b o q n hx) (subf b hb')
  exact⟨sl',q''⟩
 ·obtain⟨o',q'⟩:=I.base.there b o q hx
  exact fre b o' q' (I.base.free b o q n hx)
 ·obtain⟨o',q'⟩:=I.base.there b o q hx
  by_cases hb':b∈frs X.stack
  ·have hn:=I.stkFree b hb'
   obtain⟨sl,q''⟩:=slot b o' q' hn hb'
   exact⟨_,q''⟩
  ·obtain⟨o'',q''⟩:=thereB b o' q' hb'
   exact⟨o'',f1 b o'' q''⟩
 ·have z:=un.tups b xs (I.base.tups b xs q)
  rw [upd_ne (ne_of_none z hea)]
  exact z
 ·have z:=un.frzs b o u (I.base.frzs b o u q)
  rw [upd_ne (ne_of_none z hea)]
  exact z
 ·have z:=un.tbls b ps (I.base.tbls b ps q)
  rw [upd_ne (ne_of_none z hea)]
  exact z
 ·rw [List.getElem?_replicate] at h2
  split at h2 <;> cases h2
 ·obtain⟨v,o,ho,hd⟩:=I.cell x c hc
  by_cases hb':c∈frs X.stack
  ·obtain⟨sl,q''⟩:=slot c o ho (I.freeC x c hc) hb'
   exact⟨v,_,q'',hd⟩
  ·exact⟨v,o,keep c o ho (I.freeC x c hc) hb',hd⟩
 ·exact fre _ _ hoL I.free
 ·obtain⟨v,o,ho,hd⟩:=I.cell x c hc
  exact fre c o ho (I.freeC x c hc)
 ·have hp':p∈pn++pins':=by
   have hp2:p∈pn++[]:=hp
   exact List.mem_append_left _ (by simpa using hp2)
  obtain⟨q,n,ne,nf,d⟩:=I.pin p hp'
  have hb':p.1∉frs X.stack:=fun z=>by
   rw [frm] at z
   rcases List.mem_cons.mp z with e | e
   ·exact ne e
   ·exact nf e
  exact⟨keep _ _ q n hb',fre _ _ q n,ne,nf,d⟩
 ·by_cases ha:a=ea
  ·subst ha
   rw [upd_same] at q
   cases q
   exact⟨⟨oe,e1,e2.1⟩,⟨oe,e1⟩,fun h1 h2 ⟨o,z1,z2⟩ k=>⟨o,k o z1,z2⟩⟩
  ·rw [upd_ne ha] at q
   exact(hok a o q).stay (fun c u _ r=>f1 c u r) (fun c r=>by rw [upd_ne (ne_of_none r hea)]; exact r) (fun c xs r=>by rw [upd_ne (ne_of_none r hea)]; exact r) fun c _ _ r=>by rw [upd_ne (ne_of_none r hea)]; exact r
 ·show (List.replicate σ.length none).length=X.N.length
  rw [List.length_replicate]
  exact I.len
theorem Inv.goes {h':Heap}{t':Nat}{v:Option Value}{i:Nat}{n:Str}{m:Str->Option Value} (I:Inv X pins σ H s) (hN:X.N.Nodup) (hi:X.N[i]?=some n)
  (hm:s.heap.Ns X.env.locals m) (hlk:∀(i:Nat) (x:Str) (v:V),X.N[i]?=some x->σ[i]?=some (some v)->Vis X.env.scope x->∃u,RelV v u/\Look X.env s.heap m x u)
  (hn:h'.Ns X.env.locals (fun x=>if x=n then v else m x)) (sb:Heap.SameBut X.env.locals s.heap h') (ht:0<t':=by first | assumption | exact Inv.tk (by assumption) | exact Nat.succ_pos _):Inv X pins (σ.set i none) H {s with heap:=h',toks:=t'}:=by
 have cne:=I.cne
 have hiσ:i<σ.length:=by rw [I.len]; exact(List.getElem?_eq_some_iff.mp hi).1
 have nL:∀b o,X.s₀.heap.get? b=some o->b≠X.env.locals:=fun b o e=>Nat.ne_of_lt (Nat.lt_of_lt_of_le (Heap.lt_size e) I.ok.above)
 refine⟨I.ok,I.os,I.bare,⟨fun b o e n hb hx=>?_,fun b o e n hb hx=>?_,I.base.free,fun b o e hx=>?_,I.base.tups,I.base.frzs,I.base.tbls⟩,⟨_,hn,fun j y v' e1 e2 e3=>?_⟩,fun y c e=>?_,I.free,I.freeC,fun p hp=>?_,fun b ob e=>?_,by simpa using I.len,ht⟩
 ·exact(sb.2 b (nL b o e)).trans (I.base.keep b o e n hb hx)
 ·obtain⟨sl,q⟩:=I.base.slot b o e n hb hx
  exact⟨sl,(sb.2 b (nL b o e)).trans q⟩
 ·obtain⟨o',q⟩:=I.base.there b o e hx
  exact⟨o',(sb.2 b (nL b o e)).trans q⟩
 ·by_cases hj:j=i
  ·subst hj
   rw [List.getElem?_set_self hiσ] at e2
   cases e2
  ·rw [List.getElem?_set_ne (Ne.symm hj)] at e2
   obtain⟨u',r',q⟩:=hlk j y v' e1 e2 e3
   refine⟨u',r',?_⟩
   rcases q with ⟨k,e⟩ | ⟨k,c,e,z⟩
   ·refine .inl ⟨k,?_⟩
    have:y≠n:=fun e=>hj (nodup_ix hN e1 (e ▸ hi))
    simp [this,e]
   ·exact .inr ⟨k,c,e,z.sameBut sb (cne y c e)⟩
 ·obtain⟨w',z⟩:=I.cell y c e
  exact⟨w',z.sameBut sb (cne y c e)⟩
 ·obtain⟨e,n,ne,nf,d⟩:=I.pin p hp
  exact⟨(sb.2 p.1 ne).trans e,n,ne,nf,d⟩
 ·refine(I.hok b ob e).stay (fun c w' hc q=>(sb.2 c ?_).trans q) (fun _ q=>q) fun _ _ q=>q
  have hfree:=I.free
  rintro rfl
  rcases hc with rfl | hc
  ·rw [hfree] at e; cases e
  ·rw [hfree] at hc; cases hc
noncomputable def eTry (K:PySem.W.Frag) (CT:Addr) (iN:Nat) (ts:TS) (D:Ends) (n:Nat):XK:=fun cls _ H'=>∀ea C,cls=.ref C->H' ea=none->exmOne K (.ref C) (.ref CT)=some true/\
 ts {nx:=fun σ2 H2=>D.nx (σ2.set iN none) H2,rt:=D.rt,bk:=fun σ2 H2=>D.bk (σ2.set iN none) H2,ct:=fun σ2 H2=>D.ct (σ2.set iN none) H2} ((List.replicate n none).set iN (some (.ref ea))) (upd H' ea (excO C ea))
noncomputable def tTry (K:PySem.W.Frag) (CT:Addr) (iN:Nat) (tb:XK->TS) (ts:TS):TS:=fun D σ H=>tb (eTry K CT iN ts D σ.length) D σ H
end
section
variable {X:Cx}{pos hpos np:Pos}{T n:Str}{CT:Addr}{body suite:List Stmt}{b₀:Stmt}{tb:XK->TS}{ts:TS}{iN:Nat}
theorem ps_try (hc:X.calm=true) (hstk:X.stack=X.env::X.outer/\X.env.frame=some X.env.locals) (hex:X.ex=[]) (hN:X.N.Nodup) (hi:X.N[iN]?=some n) (hl:X.env.scope.names.lookup n=some .local)
  (hg:Gl X T) (hm:X.mg T=some (.ref CT)) (hb:∀pn W E',Passes (CX1 X.prog X.w) (X.inTry pn W) E'->PSs (X.inTry pn W) body (tb E')) (hs:∀pn ea,PSs (X.inSuite pn ea) (b₀::suite) ts)
  (hd:(T==("__debug__" : Str))=false:=by decide) :
  PS X (.Try body [.ExceptHandler (some (.Name T np)) (some n) (b₀::suite) hpos] [] [] pos) (tTry X.K CT iN tb ts):=by
 intro pins s σ H D I h
 have hp:(X.env.scope.kind == .class || (X.env.scope.kind == .module&&X.env.locals != X.env.globals))=false:=by rw [I.ok.kind]; rfl
 refine wpAny_Try_except ?_
 have hpass:Passes (CX1 X.prog X.w) (X.inTry (X.pn++pins) (fun e s₁=>0<s₁.toks->wpAny (model X.prog X.w) X.A (noteFrame e X.env) (fun _ s₂=>wpAny (model X.prog X.w) X.A (setFlight e none) (fun _ s₃=>wpAny (model X.prog X.w) X.A (handleBy e X.env [.ExceptHandler (some (.Name T np)) (some n) (b₀::suite) hpos]) (SP X pins D) X.xe s₃) X.xe s₂) X.xe s₁)) (eTry X.K CT iN ts D σ.length):=by
  intro pins' σ' H1 s1 e s1' I1 hcx hts
  obtain⟨ea,C,H',B,a0,rfl,hos,hbare,fl,hok,un,keepB,thereB,hea,hE⟩:=hcx
  have hfr:X.A.frames=some (X.env::X.outer):=by rw [← hstk.1]; exact I1.ok.frames
  have fl':Heap.FlyingW B (X.env::X.outer) ea (.ref C) a0 s1'.heap:=by rw [← hstk.1]; exact fl
  refine wpAny_looks_onW hfr hstk.2 fl' fun h4 held up4=>?_
  refine wpAny_landsW held fun h5 fl5 up5=>?_
  have inB:∀b o,X.base.get? b=some o->B.get? b=some o:=fun b o q=>by
   have q2:=I1.bs b o q
   refine keepB b o q2.1 q2.2 fun z=>?_
   have:=(I1.stack.mem z).1
   rw [show X.base.get? b=some o from q] at this
   cases this
  have K5:∀{h:Heap},Heap.FlyingW B (X.env::X.outer) ea (.ref C) a0 h->X.K.In h:=fun {h} z=>I1.ok.mod.kin.keeps fun b o q=>z.1 b o (inB b o q)
  refine wpAny_handleBy_cons (codeAny_handlers_test ?_) (by intro q; cases q)
  have g5:h5.Ns mainGlobals X.mg:=I1.ok.mod.glob.keeps fun b o q=>fl5.1 b o (inB b o q)
  refine Calls.Name_function_global I1.ok.kind hg (Calls.loadGlobal_global (by rw [show X.env.globals=mainGlobals from I1.ok.glob]; exact g5) hm ?_) hd
  obtain⟨hmatch,hsuite⟩:=hE ea C rfl hea
  obtain⟨ob,hob,hobc⟩:=fl5.there
  have LT:Looks (model X.prog X.w) h5 (typeOf (.ref ea)) (.ref C):=hobc ▸ (Looks.ld hob).andThen .now
  refine(exm_one (M:=model X.prog X.w) (K5 fl5) LT hmatch).at ?_
  refine codeAny_handlers_suite_as ?_
  refine lands_againW fl5 fun h6 fl6 up6=>?_
  have upAll:s1'.heap.UpToSlots h6:=(up4.trans up5).trans up6
  have fl6':Heap.FlyingW B X.stack ea (.ref C) a0 h6:=by rw [hstk.1]; exact fl6
  have I6:=Inv.caught (X:=X) hstk hex I1 hos hbare hok un keepB thereB hea fl6' upAll hts
  have hlen:σ'.length=σ.length:=by rw [show σ'.length=X.N.length from I1.len,show σ.length=X.N.length from I.len]
  rw [hlen] at I6
  refine store_ok (X:=X.inSuite (X.pn++pins) ea) I6 hN hi (.inl hl) (v:=.ref ea) rfl (fun s7 I7=>?_) (.inr hl)
  refine thnF (hs (X.pn++pins) ea [] s7 _ _ _ I7 hsuite) (fun f s8 q8=>?_)
  have fin:∀{σ8:St} {H8:Hp},Inv (X.inSuite (X.pn++pins) ea) [] σ8 H8 s8->∀(Q:Unit->Shared->Prop),(∀s9,Inv X pins (σ8.set iN none) H8 s9->Q () s9)->wpAny (model X.prog X.w) X.A (do bindName X.env n .none; unbindBehindTheSuite X.env n hpos) Q X.xe s8:=fun {σ8 H8} I8 Q k=>by
   have I9:Inv X pins σ8 H8 s8:=I8.outSuite I.ok
   obtain⟨m,hm',hlk⟩:=I9.loc
   exact wpAny_nameGoes_keeps hl hm' hp fun h' v hn sb=>k _ (I9.goes hN hi hm' hlk hn sb)
  cases f with
  |next=>
   obtain⟨σ8,H8,I8,q⟩:=q8
   exact fin I8 _ fun s9 I9 _=>⟨_,H8,I9,q⟩
  |brk=>
   obtain⟨σ8,H8,I8,q⟩:=q8
   exact fin I8 _ fun s9 I9 _=>⟨_,H8,I9,q⟩
  |cont=>
   obtain⟨σ8,H8,I8,q⟩:=q8
   exact fin I8 _ fun s9 I9 _=>⟨_,H8,I9,q⟩
  |ret v=>
   obtain⟨x8,σ8,H8,I8,r8,q⟩:=q8
   exact fin I8 _ fun s9 I9 _=>⟨x8,_,H8,I9,r8,q⟩
 refine thnX (hb (X.pn++pins) _ _ hpass [] s σ H D (I.inTry _) h) fun f s1 q1=>?_
 cases f with
 |next=>
  obtain⟨σ1,H1,I1,q⟩:=q1
  exact wpAny_execs_nil (fun ht=>⟨σ1,H1,I1.outTry I.ok,q⟩)
 |brk=>obtain⟨σ1,H1,I1,q⟩:=q1; exact(fun ht=>⟨σ1,H1,I1.outTry I.ok,q⟩)
 |cont=>obtain⟨σ1,H1,I1,q⟩:=q1; exact(fun ht=>⟨σ1,H1,I1.outTry I.ok,q⟩)
 |ret v=>obtain⟨x1,σ1,H1,I1,r1,q⟩:=q1; exact(fun ht=>⟨x1,σ1,H1,I1.outTry I.ok,r1,q⟩)
end
theorem countP_eqU {x:V}:∀{xs:List V}{us:List Value},Vals xs us->xs.all flatV=true->us.countP (eqU x)=xs.countP fun y=>eqV y x
 |_,_,.nil,_=>rfl
 |y::xs,u::us,.cons r t,f=>by
  rw [List.all_cons,Bool.and_eq_true] at f
  rw [List.countP_cons,List.countP_cons,eqU_of r f.1,countP_eqU t f.2]
section
variable {X:Cx}
theorem mt_countV:MtR X "list.count" (fun x vs H Q=>∃p xs y,x=.ref p/\vs=[y]/\H p=some (.lst xs)/\flatV y=true/\xs.all flatV=true/\Q (.int (xs.countP fun z=>eqV z y)) H):=by
 intro pins s σ H x vs v us Q I rx rv ⟨p,xs,y,ex,ev,hH,fy,fx,q⟩
 subst ex ev
 cases rx
 obtain⟨u,rfl,ru⟩:=rv.one
 obtain⟨z,its,n,r,hl,e⟩:=I.lstM hH
 refine call_meets F.slot_list_count ⟨_,e,rfl⟩ F.entry_list_count (F.args_list_count_2 _ _) (SeqAt.list_countAt p its.toArray n none #[] u (eqU y)) ⟨e,fun w hw=>mem_eqAt ru fy r fx w (by simpa using hw),?_⟩
 refine(fun ht=>⟨.int (xs.countP fun z=>eqV z y),H,I.tok _,⟨s.toks,?_⟩,q⟩)
 rw [← countP_eqU r fx]
theorem mt_indexV:MtR X "list.index" (fun x vs H Q=>∃p xs y j,x=.ref p/\vs=[y]/\H p=some (.lst xs)/\flatV y=true/\xs.all flatV=true/\(∃z,xs[j]?=some z/\eqV z y=true)/\(∀m z,m<j->xs[m]?=some z->eqV z y=false)/\Q (.int (j:Nat)) H):=by
 intro pins s σ H x vs v us Q I rx rv ⟨p,xs,y,j,ex,ev,hH,fy,fx,⟨z,hz,hit⟩,hno,q⟩
 subst ex ev
 cases rx
 obtain⟨u,rfl,ru⟩:=rv.one
 obtain⟨zl,its,n,r,hl,e⟩:=I.lstM hH
 have hj:j<its.length:=by rw [← hl]; exact(List.getElem?_eq_some_iff.mp hz).1
 have fl:∀m zz,xs[m]?=some zz->flatV zz=true:=fun m zz h=>List.all_eq_true.mp fx zz (List.mem_of_getElem? h)
 have at_:∀m zz,xs[m]?=some zz->∀(hm:m<its.length),eqU y its[m]=eqV zz y:=fun m zz h hm=>by
  obtain⟨w,hw,rw'⟩:=r.get h
  have hw':its[m]=w:=by simpa [hm] using hw
  rw [hw']
  exact eqU_of rw' (fl m zz h)
 have hsm:(j:Int)<2 ^ 63 - 1:=by
  have:=sizeLine_eq
  have h24:sizeLine=2 ^ 24:=rfl
  omega
 refine call_meets F.slot_list_index ⟨_,e,rfl⟩ F.entry_list_index (F.args_list_index_2 _ _) (SeqAt.list_indexAt p its.toArray n none #[] u (eqU y) j (by simpa using hj) hsm ?_ ?_) ⟨e,fun w hw=>mem_eqAt ru fy r fx w (by simpa using hw),?_⟩
 ·simp only [List.getElem_toArray]
  rw [at_ j z hz hj]
  exact hit
 ·intro m hm hmj
  have hm':m<its.length:=by simpa using hm
  have hx:m<xs.length:=by omega
  simp only [List.getElem_toArray]
  rw [at_ m xs[m] (by simp [hx]) hm']
  exact hno m _ hmj (by simp [hx])
 ·exact(fun ht=>⟨.int (j:Nat),H,I.tok _,⟨s.toks,rfl⟩,q⟩)
theorem glued_nil (parts:List (List Nat)):(Txt.join ⟨([]:List Nat).toArray⟩ (parts.map fun l=>(⟨l.toArray⟩:Str)))=⟨parts.flatten.toArray⟩:=by
 apply Str_ext
 unfold Txt.join Builtin.Str.glued
 have key:∀(ps:List (List Nat)) (acc:Array Nat),(ps.map fun l=>(⟨l.toArray⟩:Str)).foldl (fun acc p=>acc++(⟨([]:List Nat).toArray⟩:Str).cps++p.cps) acc=acc++ps.flatten.toArray:=by
  intro ps
  induction ps with
  |nil=>intro acc; simp
  |cons l ps ih=>
   intro acc
   rw [List.map_cons,List.foldl_cons,ih]
   simp
 cases parts with
 |nil=>rfl
 |cons l ps=>
  show (((l::ps).map fun l=>(⟨l.toArray⟩:Str)).drop 1 |>.foldl (fun acc p=>acc++(⟨([]:List Nat).toArray⟩:Str).cps++p.cps) (l.toArray)).toList=_
  rw [List.map_cons,List.drop_one,List.tail_cons,key]
  simp
theorem strsAre_of:∀{ls:List (List Nat)}{us:List Value},Vals (ls.map S) us->StrsAre us (ls.map fun l=>(⟨l.toArray⟩:Str))
 | [],_,.nil=>.nil
 |l::ls,_,.cons r t=>by
  obtain⟨tk,rfl⟩:=r
  exact .cons _ tk (strsAre_of t)
theorem mt_joinS:MtR X "str.join" (fun x vs H Q=>∃(p:Addr) (ls:List (List Nat)),x=S []/\vs=[.ref p]/\SqL X.K H p (ls.map S)/\ls.flatten.length<=10000/\Q (S ls.flatten) H):=by
 intro pins s σ H x vs v us Q I rx rv ⟨p,ls,ex,ev,hq,hl,q⟩
 subst ex ev
 obtain⟨t,rfl⟩:=rx
 obtain⟨u,rfl,ru⟩:=rv.one
 cases ru
 obtain⟨its,r,pl,hz⟩:=I.list hq
 have hs:((ls.map fun l=>(⟨l.toArray⟩:Str)).map (·.length)).sum=ls.flatten.length:=by
  rw [List.length_flatten,List.map_map]
  rfl
 refine join_list pl.isList (by simpa using strsAre_of r) ?_ fun t' k=>(fun ht=>⟨S ls.flatten,H,I.tok k,⟨t',?_⟩,q⟩)
 ·rw [hs]
  have e0:(⟨([]:List Nat).toArray⟩:Str).length=0:=rfl
  rw [e0]
  omega
 ·rw [glued_nil]
end
noncomputable def Cal (P:Program) (w:World) (K:PySem.W.Frag) (mg:Str->Option Value) (base:Heap) (CX:CXT) (k:Nat) (x:Str) (ps:List Str) (sp:Sp):Prop:=
 ∃(f:Addr) (fd:FuncData),FnOk P w K mg base CX k f fd ps sp/\mg x=some (.ref f)/\PySem.W.keepIn K (.ref f)=true/\Binds K fd ps []
section
variable {X:Cx}{CX:CXT}{k:Nat}{x:Str}{ps:List Str}{sp:Sp}{E:XK}{p pos:Pos}{e:Expr}{es:List Expr}{t:TA}
theorem pe_cal (C:Cal X.prog X.w X.K X.mg X.base CX k x ps sp) (hr:Room k X.A) (hx:Passes CX X E) (ha:PA X (e::es) t) (hst:isStar e=false:=by rfl) (hg:Gl X x:=by rfl) (hdb:(x==("__debug__" : Str))=false:=by decide) (hpl:(backTo pos (starEach es X.env)).any (·.1)=false:=by rfl) :
  PE X (.Call (.Name x p) (e::es) [] pos) (tCall sp [] E t):=by
 obtain⟨f,fd,h1,h2,h3,h4⟩:=C
 exact pe_call h1 hr hg h2 h3 h4 .nil hx ha hdb (starEach_cons hst) hpl
end
noncomputable def FnT (K:PySem.W.Frag) (mg:Str->Option Value) (x:Str) (st:Stmt) (ps:List Str):Prop:=∃f fd,Fun K x x st f fd/\mg x=some (.ref f)/\Binds K fd ps []
theorem int_len0:∀k:Fin 23,(Str.ofString (toString (((k:Nat):Int) - 2))).length<=1000/\(((k:Nat):Int) - 2).natAbs.log2<1920:=by decide +kernel
theorem int_len {i:Int} (h1 : -2<=i) (h2:i<=20):(Str.ofString (toString i)).length<=1000/\i.natAbs.log2<1920:=by
 have h:=int_len0 ⟨(i+2).toNat,by omega⟩
 have e:((((i+2).toNat:Nat):Int) - 2)=i:=by omega
 simp only [e] at h
 exact h
noncomputable def spLaw (K:PySem.W.Frag):Sp:=fun vs H Q _=>∃(a:Addr) (ns:List Int),vs=[.ref a]/\Scr K H a ns/\∀H',Q (.bl true) H'
theorem boot_ValueError:bootBuiltins "ValueError" = some (.type "ValueError"):=by with_unfolding_all rfl
theorem foldl_repS (l:List Nat):∀(k:Nat) (acc:List Nat),List.foldl (fun x1 x2=>x1++x2) acc.toArray (List.replicate k l.toArray)=(acc++(List.replicate k l).flatten).toArray
 |0,acc=>by simp
 |k+1,acc=>by
  have e:acc.toArray++l.toArray=(acc++l).toArray:=by simp
  have e2:(acc++l)++(List.replicate k l).flatten=acc++(List.replicate (k+1) l).flatten:=by
   rw [List.replicate_succ,List.flatten_cons,List.append_assoc]
  rw [← e2,← foldl_repS l k (acc++l),← e,List.replicate_succ,List.foldl_cons]
section
variable {X:Cx}
noncomputable def rRepS:R2:=fun x y H Q=>∃l n,x=S l/\y=.int n/\-1000<=n/\n<=1000/\l.length<=1000/\Q (S (List.replicate n.toNat l).flatten) H
theorem op_repS:OpR X (binaryOp .Mult) rRepS:=by
 intro pins s σ H x y v u Q I rx ry ⟨l,n,ex,ey,n0,n1,hl,q⟩
 subst ex ey
 obtain⟨t,rfl⟩:=rx
 obtain⟨t',rfl⟩:=ry
 have hlen:(⟨l.toArray⟩:Str).length=l.length:=by simp [Str.length]
 refine P.mul_str ?_ ?_ ?_ ?_
 ·rw [decide_eq_false (by omega),decide_eq_false (by omega)]
  rfl
 ·intro h1 _
  rw [hlen]
  have:(1000:Int)<=(2 ^ 63 - 1) / n:=by
   rw [Int.le_ediv_iff_mul_le (by omega)]
   omega
  omega
 ·intro h1 _
  rw [hlen]
  have h2:l.length * n.toNat<=1000 * 1000:=Nat.mul_le_mul hl (by omega)
  unfold Builtin.Str.tooLong
  exact decide_eq_false (by have:sizeLine=2 ^ 24:=rfl; omega)
 ·by_cases h1:n<1
  ·rw [if_pos h1]
   refine⟨by decide,fun ht=>⟨S (List.replicate n.toNat l).flatten,H,I.tok _,⟨s.toks,?_⟩,q⟩⟩
   have:n.toNat=0:=by omega
   rw [this]
   rfl
  ·rw [if_neg h1]
   by_cases h2:(n==1 || (⟨l.toArray⟩:Str).length==0)=true
   ·rw [if_pos h2]
    refine(fun ht=>⟨S (List.replicate n.toNat l).flatten,H,I,⟨t,?_⟩,q⟩)
    have e:(List.replicate n.toNat l).flatten=l:=by
     rw [hlen] at h2
     simp only [Bool.or_eq_true,beq_iff_eq] at h2
     rcases h2 with h2 | h2
     ·subst h2; simp
     ·have:l=[]:=List.length_eq_zero_iff.mp h2
      subst this; simp
    rw [e]
   ·rw [if_neg h2]
    have e:(⟨(List.replicate n.toNat l.toArray).foldl (· ++ ·) #[]⟩:Str)=⟨(List.replicate n.toNat l).flatten.toArray⟩:=by
     have:=foldl_repS l n.toNat []
     simp only [List.nil_append] at this
     exact congrArg Str.mk this
    show _/\_
    rw [e]
    refine⟨?_,fun ht=>⟨S (List.replicate n.toNat l).flatten,H,I.tok _,⟨_,rfl⟩,q⟩⟩
    show (List.replicate n.toNat l).flatten.toArray.size<=sizeLine
    have h3:n.toNat * l.length<=1000 * 1000:=Nat.mul_le_mul (by omega) hl
    have:sizeLine=2 ^ 24:=rfl
    simp
    omega
end
section
variable {X:Cx}{pins:List (Addr×Obj)}{σ:St}{H:Hp}{s:Shared}
theorem Inv.turnedT {ch:List Addr}{h':Heap}{t':Nat}{T:Addr}{o:HO} (I:Inv X pins σ H s) (hf:∀b∈ch,FpOk X pins H b) (k:∀b u,b∉ch->s.heap.get? b=some u->h'.get? b=some u) (hT:s.heap.objs.size<=T) (new:ObjOk X.prog X.w (upd H T o) h' T o) (ht:0<t':=by first | assumption | exact Inv.tk (by assumption)) :
  Inv X pins σ (upd H T o) {s with heap:=h',toks:=t'}:=by
 have hn:H T=none:=I.hok.fresh hT
 have nT:∀b u,s.heap.get? b=some u->b≠T:=fun b u e z=>absurd (Heap.lt_size e) (by rw [z]; exact Nat.not_lt.mpr hT)
 have nit:∀b u,H b=some u->b∉ch:=fun b u e z=>by rw [(hf b z).1] at e; cases e
 have up:∀b u,H b=some u->upd H T o b=some u:=fun b u e=>by rw [upd_ne (ne_of_none e hn)]; exact e
 refine I.step (g':=s.gens) (d':=s.drawn) (ch:=ch) (fun b hb=>?_) (fun b u _ _ hc e _=>k b u hc e) (fun b u _ _ hc e _=>⟨u.slots,k b u hc e⟩) (fun b u _ e n=>by rw [upd_ne (nT b u e)]; exact n)
  (fun b u hc e=>⟨u,k b u hc e⟩) (fun b xs e=>up b _ e) (fun b _ _ e=>up b _ e) (fun b q e=>up b _ e) (fun m hm=>?_) (fun b u e=>?_) I.bare ht
 ·obtain⟨_,f1,_,f3,f4,f5⟩:=hf b hb
  exact⟨f3,f1,f4,f5⟩
 ·obtain⟨u,es,ep,ho,r⟩:=hm
  exact⟨u,es,ep,k _ u (fun z=>(hf _ z).2.1 rfl) ho,r⟩
 ·by_cases hb:b=T
  ·subst hb
   rw [upd_same] at e
   cases e
   exact new
  ·rw [upd_ne hb] at e
   refine(I.hok b u e).stay (fun c v hc q=>k c v ?_ q) (fun c q=>up c _ q) (fun c _ q=>up c _ q) fun c _ _ q=>up c _ q
   rcases hc with z | z
   ·rw [z]; exact nit b u e
   ·exact nit c _ z
theorem Inv.turnedL {ch:List Addr}{h':Heap}{t':Nat} (I:Inv X pins σ H s) (hf:∀b∈ch,FpOk X pins H b) (k:∀b u,b∉ch->s.heap.get? b=some u->h'.get? b=some u) (ht:0<t':=by first | assumption | exact Inv.tk (by assumption)) :
  Inv X pins σ H {s with heap:=h',toks:=t'}:=by
 have nit:∀b u,H b=some u->b∉ch:=fun b u e z=>by rw [(hf b z).1] at e; cases e
 refine I.step (g':=s.gens) (d':=s.drawn) (ch:=ch) (fun b hb=>?_) (fun b u _ _ hc e _=>k b u hc e) (fun b u _ _ hc e _=>⟨u.slots,k b u hc e⟩) (fun b u _ e n=>n)
  (fun b u hc e=>⟨u,k b u hc e⟩) (fun b xs e=>e) (fun b _ _ e=>e) (fun b q e=>e) (fun m hm=>?_) (fun b u e=>?_) I.bare ht
 ·obtain⟨_,f1,_,f3,f4,f5⟩:=hf b hb
  exact⟨f3,f1,f4,f5⟩
 ·obtain⟨u,es,ep,ho,r⟩:=hm
  exact⟨u,es,ep,k _ u (fun z=>(hf _ z).2.1 rfl) ho,r⟩
 ·refine(I.hok b u e).stay (fun c v hc q=>k c v ?_ q) (fun c q=>q) fun c _ q=>q
  rcases hc with z | z
  ·rw [z]; exact nit b u e
  ·exact nit c _ z
end
noncomputable def hid (H:Hp) (A:List Addr):Hp:=fun b=>if b∈A then none else H b
theorem hid_ne {H:Hp}{A:List Addr}{b:Addr} (h:b∉A):hid H A b=H b:=by unfold hid; rw [if_neg h]
theorem hid_in {H:Hp}{A:List Addr}{b:Addr} (h:b∈A):hid H A b=none:=by unfold hid; rw [if_pos h]
theorem of_hid {H:Hp}{A:List Addr}{b:Addr}{o:HO} (h:hid H A b=some o):b∉A/\H b=some o:=by
 by_cases hb:b∈A
 ·rw [hid_in hb] at h; cases h
 ·rw [hid_ne hb] at h; exact⟨hb,h⟩
theorem hid_same {H:Hp}{A:List Addr}:Same (hid H A) H:=fun b o e=>(of_hid e).2
theorem Same.hid {H H':Hp} (s:Same H H') (A:List Addr):Same (L2.hid H A) (L2.hid H' A):=fun b o e=>by
 obtain⟨h1,h2⟩:=of_hid e
 rw [hid_ne h1]
 exact s b o h2
noncomputable abbrev Liv (H:Hp) (A:List Addr):Prop:=∀a∈A,H a≠none
theorem Liv.mono {H H':Hp}{A:List Addr} (h:Liv H A) (s:Same H H'):Liv H' A:=fun a ha z=>by
 cases q:H a with
 |none=>exact h a ha q
 |some o=>rw [s a o q] at z; cases z
theorem Liv.fresh {H:Hp}{A:List Addr} (h:Liv H A){p:Addr} (hp:H p=none):p∉A:=fun z=>h p z hp
theorem hid_new {H:Hp}{A:List Addr} (h:Liv H A){p:Addr}{o:HO} (hp:H p=none):hid (upd H p o) A p=some o:=by
 rw [hid_ne (h.fresh hp)]
 exact upd_same
noncomputable def BrdC (K:PySem.W.Frag) (C:Addr):Prop:=PySem.W.nsIn K mainGlobals "Board" = some (some (.ref C))/\Cls K C/\NoAttr K C "done" /\NoAttr K C "undone"
noncomputable abbrev brdF (l m:Addr):List (Str×V):=[("done",.ref l),("undone",.ref m)]
noncomputable def isOw:Bd->Bool
 |.own _=>true
 |.owd _=>true
 |.brd _ _=>true
 |_=>false
section
variable (K:PySem.W.Frag)
noncomputable def OwAt (A:List Addr) (H:Hp) (v:V):Bd->Prop
 |.own ds=>∃a xs,v=.ref a/\H a=some (.lst xs)/\Reps K (hid H A) ds xs/\sms ds/\ds.length<=10000
 |.owd ks=>∃a,v=.ref a/\H a=some (.dK (dkv ks))/\sm (.dic ks)
 |.brd dn un=>∃a dx l m C xs ys,v=.ref a/\BrdC K C/\H a=some (.ins C dx (brdF l m))/\H dx=some (.own a)/\H l=some (.lst xs)/\H m=some (.lst ys)/\l≠m/\
   (Reps K (hid H A) dn xs/\sms dn/\dn.length<=10000)/\Reps K (hid H A) un ys/\sms un/\un.length<=10000
 |_=>False
noncomputable def fpOf (H:Hp):V->Bd->List Addr
 |.ref a,.brd _ _=>match H a with
  |some (.ins _ dx [(_,.ref l),(_,.ref m)])=>[a,dx,l,m]
  |_=>[a]
 |.ref a,_=>[a]
 |_,_=>[]
structure Fit (O A:List Addr) (ρ:Rho) (σ:St) (H:Hp):Prop where
 len:ρ.length=σ.length
 liv:Liv H A
 sub:∀a∈O,a∈A
 val:∀(i:Nat) d,ρ[i]?=some (.val d)->∃v,σ[i]?=some (some v)/\Rep K (hid H A) d v/\sm d
 ow:∀(i:Nat) b,ρ[i]?=some b->isOw b=true->∃v,σ[i]?=some (some v)/\OwAt K A H v b/\∀a∈fpOf H v b,a∈O
 apart:∀(i j:Nat) b c v w,i≠j->ρ[i]?=some b->ρ[j]?=some c->isOw b=true->isOw c=true->σ[i]?=some (some v)->σ[j]?=some (some w)->∀a∈fpOf H v b,a∉fpOf H w c
 bo:∀(i:Nat) p dn un,ρ[i]?=some (.bor p dn un)->∃v,σ[i]?=some (some v)/\(∀a,p=some a->v=.ref a)/\OwAt K A H v (.brd dn un)/\∀a∈fpOf H v (.brd dn un),a∈A/\a∉O
end
section
variable {K:PySem.W.Frag}{O A O' A':List Addr}{ρ:Rho}{σ:St}{H H':Hp}{v:V}{b:Bd}
theorem OwAt.fst (h:OwAt K A H v b):∃a,v=.ref a/\a∈fpOf H v b:=by
 cases b with
 |own ds=>obtain⟨a,xs,rfl,_⟩:=h; exact⟨a,rfl,List.mem_cons_self⟩
 |owd ks=>obtain⟨a,rfl,_⟩:=h; exact⟨a,rfl,List.mem_cons_self⟩
 |brd dn un=>
  obtain⟨a,dx,l,m,C,xs,ys,rfl,_,h1,_⟩:=h
  refine⟨a,rfl,?_⟩
  show a∈(match H a with | some (.ins _ dx [(_,.ref l),(_,.ref m)])=>[a,dx,l,m] | _=>[a])
  rw [h1]
  exact List.mem_cons_self
 |_=>exact h.elim
theorem fp_brd {a dx l m C:Addr}{dn un:List Dt} (h:H a=some (.ins C dx (brdF l m))):fpOf H (.ref a) (.brd dn un)=[a,dx,l,m]:=by
 show (match H a with | some (.ins _ dx [(_,.ref l),(_,.ref m)])=>[a,dx,l,m] | _=>[a])=_
 rw [h]
theorem fp_eq (h:∀a,v=.ref a->H' a=H a):fpOf H' v b=fpOf H v b:=by
 cases v with
 |ref a=>
  cases b with
  |brd dn un=>
   show (match H' a with | some (.ins _ dx [(_,.ref l),(_,.ref m)])=>[a,dx,l,m] | _=>[a])=_
   rw [h a rfl]
   rfl
  |_=>rfl
 |_=>rfl
theorem OwAt.off (h:OwAt K A H v b) (k:∀a∈fpOf H v b,H' a=H a) (s:Same (hid H A) (hid H' A')):OwAt K A' H' v b:=by
 cases b with
 |own ds=>
  obtain⟨a,xs,rfl,h1,h2,h3⟩:=h
  exact⟨a,xs,rfl,(k a List.mem_cons_self).trans h1,h2.mono s,h3⟩
 |owd ks=>
  obtain⟨a,rfl,h1,h2⟩:=h
  exact⟨a,rfl,(k a List.mem_cons_self).trans h1,h2⟩
 |brd dn un=>
  obtain⟨a,dx,l,m,C,xs,ys,rfl,hC,h1,h2,h3,h4,h5,⟨h6,h7⟩,h8,h9⟩:=h
  rw [fp_brd h1] at k
  exact⟨a,dx,l,m,C,xs,ys,rfl,hC,(k a (by simp)).trans h1,(k dx (by simp)).trans h2,(k l (by simp)).trans h3,(k m (by simp)).trans h4,h5,⟨h6.mono s,h7⟩,h8.mono s,h9⟩
 |_=>exact h.elim
theorem OwAt.live (h:OwAt K A H v b){a:Addr} (ha:a∈fpOf H v b):H a≠none:=by
 cases b with
 |own ds=>
  obtain⟨p,xs,rfl,h1,_⟩:=h
  obtain rfl:a=p:=by simpa [fpOf] using ha
  rw [h1]; simp
 |owd ks=>
  obtain⟨p,rfl,h1,_⟩:=h
  obtain rfl:a=p:=by simpa [fpOf] using ha
  rw [h1]; simp
 |brd dn un=>
  obtain⟨p,dx,l,m,C,xs,ys,rfl,hC,h1,h2,h3,h4,_⟩:=h
  rw [fp_brd h1] at ha
  simp only [List.mem_cons,List.not_mem_nil,or_false] at ha
  rcases ha with rfl | rfl | rfl | rfl <;> simp [*]
 |_=>exact h.elim
theorem same_at {a:Addr} (s:Same H H') (h:H a≠none):H' a=H a:=by
 cases e:H a with
 |none=>exact(h e).elim
 |some o=>exact s a o e
theorem Fit.mono (F:Fit K O A ρ σ H) (s:Same H H'):Fit K O A ρ σ H':=by
 have fe:∀{v b},OwAt K A H v b->fpOf H' v b=fpOf H v b:=fun {v b} w=>fp_eq fun a e=>by
  obtain⟨a',e',ha⟩:=w.fst
  rw [e] at e'
  cases e'
  exact same_at s (w.live ha)
 refine⟨F.len,F.liv.mono s,F.sub,fun i d e=>?_,fun i b e o=>?_,fun i j b c v w hij e1 e2 o1 o2 e3 e4=>?_,fun i p dn un e=>?_⟩
 ·obtain⟨v,h1,h2,h3⟩:=F.val i d e
  exact⟨v,h1,h2.mono (s.hid A),h3⟩
 ·obtain⟨v,h1,h2,h3⟩:=F.ow i b e o
  refine⟨v,h1,h2.off (fun a ha=>same_at s (h2.live ha)) (s.hid A),?_⟩
  rw [fe h2]
  exact h3
 ·obtain⟨v',h1,h2,_⟩:=F.ow i b e1 o1
  obtain⟨w',h1',h2',_⟩:=F.ow j c e2 o2
  rw [e3] at h1
  cases h1
  rw [e4] at h1'
  cases h1'
  rw [fe h2,fe h2']
  exact F.apart i j b c v w hij e1 e2 o1 o2 e3 e4
 ·obtain⟨v,h1,hp,h2,h3⟩:=F.bo i p dn un e
  refine⟨v,h1,hp,h2.off (fun a ha=>same_at s (h2.live ha)) (s.hid A),?_⟩
  rw [fe h2]
  exact h3
theorem Fit.own (F:Fit K O A ρ σ H) (i:Nat) (ds:List Dt) (e:ρ[i]?=some (.own ds)):∃a xs,σ[i]?=some (some (.ref a))/\a∈O/\H a=some (.lst xs)/\Reps K (hid H A) ds xs/\sms ds/\ds.length<=10000:=by
 obtain⟨v,h1,⟨a,xs,rfl,h2⟩,h3⟩:=F.ow i _ e rfl
 exact⟨a,xs,h1,h3 a List.mem_cons_self,h2⟩
theorem Fit.owd (F:Fit K O A ρ σ H) (i:Nat) (ks:List (List Nat×List Nat)) (e:ρ[i]?=some (.owd ks)):∃a,σ[i]?=some (some (.ref a))/\a∈O/\H a=some (.dK (dkv ks))/\sm (.dic ks):=by
 obtain⟨v,h1,⟨a,rfl,h2⟩,h3⟩:=F.ow i _ e rfl
 exact⟨a,h1,h3 a List.mem_cons_self,h2⟩
noncomputable def fpAt (ρ:Rho) (σ:St) (H:Hp) (i:Nat):List Addr:=match ρ[i]?,σ[i]? with
 |some b,some (some v)=>if isOw b=true then fpOf H v b else []
 |_,_=>[]
theorem fpAt_is {i:Nat} (e:ρ[i]?=some b) (e':σ[i]?=some (some v)) (o:isOw b=true):fpAt ρ σ H i=fpOf H v b:=by
 unfold fpAt
 rw [e,e']
 exact if_pos o
theorem Fit.set {i:Nat}{v':V}{b':Bd} (F:Fit K O A ρ σ H) (L:Liv H' A') (sub:∀a∈O',a∈A') (hs:Same (hid H A) (hid H' A')) (keep:∀a∈O,a∉fpAt ρ σ H i->a∈O'/\H' a=H a) (kb:∀a∈A,a∉O->a∈A'/\a∉O'/\H' a=H a)
  (new:(∃d,b'=.val d/\Rep K (hid H' A') d v'/\sm d)∨(OwAt K A' H' v' b'/\∀a∈fpOf H' v' b',a∈O'/\(a∉O∨a∈fpAt ρ σ H i))):Fit K O' A' (ρ.set i b') (σ.set i (some v')) H':=by
 have ati:∀{b},(ρ.set i b')[i]?=some b->b=b'/\(σ.set i (some v'))[i]?=some (some v'):=fun {b} e=>by
  have hlt:i<ρ.length:=by simpa using (List.getElem?_eq_some_iff.mp e).1
  rw [List.getElem?_set_self hlt] at e
  exact⟨(Option.some.inj e).symm,List.getElem?_set_self (by rw [← F.len]; exact hlt)⟩
 have off:∀{j b v},j≠i->ρ[j]?=some b->isOw b=true->σ[j]?=some (some v)->∀a∈fpOf H v b,a∈O/\a∉fpAt ρ σ H i:=fun {j b v} hj e o e' a ha=>by
  obtain⟨v1,q1,_,q3⟩:=F.ow j b e o
  rw [e'] at q1
  cases q1
  refine⟨q3 a ha,fun z=>?_⟩
  unfold fpAt at z
  split at z
  ·rename_i c w e1 e2
   split at z
   ·rename_i oc
    exact F.apart j i b c v w hj e e1 o oc e' e2 a ha z
   ·cases z
  ·cases z
 have fe:∀{j b v},j≠i->ρ[j]?=some b->isOw b=true->σ[j]?=some (some v)->fpOf H' v b=fpOf H v b:=fun {j b v} hj e o e'=>fp_eq fun a ea=>by
  obtain⟨v1,q1,q2,_⟩:=F.ow j b e o
  rw [e'] at q1
  cases q1
  obtain⟨a',z,ha⟩:=q2.fst
  rw [ea] at z
  cases z
  obtain⟨k1,k2⟩:=off hj e o e' a ha
  exact(keep a k1 k2).2
 refine⟨by simp [F.len],L,sub,fun j d e=>?_,fun j b e o=>?_,fun j k b c v w hjk e1 e2 o1 o2 e3 e4=>?_,fun j p dn un e=>?_⟩
 ·by_cases hj:j=i
  ·subst hj
   obtain⟨z,e'⟩:=ati e
   rcases new with ⟨d',y,q⟩ | ⟨q,_⟩
   ·rw [y] at z; cases z; exact⟨v',e',q⟩
   ·rw [← z] at q; exact q.elim
  ·rw [List.getElem?_set_ne (Ne.symm hj)] at e ⊢
   obtain⟨v,q1,q2,q3⟩:=F.val j d e
   exact⟨v,q1,q2.mono hs,q3⟩
 ·by_cases hj:j=i
  ·subst hj
   obtain⟨z,e'⟩:=ati e
   rcases new with ⟨d',y,q⟩ | ⟨q,q'⟩
   ·rw [z,y] at o; cases o
   ·rw [z]; exact⟨v',e',q,fun a ha=>(q' a ha).1⟩
  ·rw [List.getElem?_set_ne (Ne.symm hj)] at e ⊢
   obtain⟨v,q1,q2,q3⟩:=F.ow j b e o
   have kk:∀a∈fpOf H v b,a∈O'/\H' a=H a:=fun a ha=>let ⟨k1,k2⟩:=off hj e o q1 a ha; keep a k1 k2
   refine⟨v,q1,q2.off (fun a ha=>(kk a ha).2) hs,?_⟩
   rw [fe hj e o q1]
   exact fun a ha=>(kk a ha).1
 ·have no:∀{m b v},m≠i->(ρ.set i b')[m]?=some b->(σ.set i (some v'))[m]?=some (some v)->ρ[m]?=some b/\σ[m]?=some (some v):=fun {m b v} hm e e'=>by
   rw [List.getElem?_set_ne (Ne.symm hm)] at e e'
   exact⟨e,e'⟩
  have nw:∀{b v},(ρ.set i b')[i]?=some b->(σ.set i (some v'))[i]?=some (some v)->isOw b=true->∀a∈fpOf H' v b,a∉O∨a∈fpAt ρ σ H i:=fun {b v} e e' o a ha=>by
   obtain⟨z,y⟩:=ati e
   rw [e'] at y
   cases y
   rw [z] at ha o
   rcases new with ⟨d',y,q⟩ | ⟨q,q'⟩
   ·rw [y] at o; cases o
   ·exact(q' a ha).2
  by_cases hj:j=i
  ·subst hj
   obtain⟨k1,k2⟩:=no (Ne.symm hjk) e2 e4
   intro a ha z
   rw [fe (Ne.symm hjk) k1 o2 k2] at z
   obtain⟨m1,m2⟩:=off (Ne.symm hjk) k1 o2 k2 a z
   rcases nw e1 e3 o1 a ha with y | y
   ·exact y m1
   ·exact m2 y
  ·obtain⟨j1,j2⟩:=no hj e1 e3
   by_cases hk:k=i
   ·subst hk
    intro a ha z
    rw [fe hj j1 o1 j2] at ha
    obtain⟨m1,m2⟩:=off hj j1 o1 j2 a ha
    rcases nw e2 e4 o2 a z with y | y
    ·exact y m1
    ·exact m2 y
   ·obtain⟨k1,k2⟩:=no hk e2 e4
    rw [fe hj j1 o1 j2,fe hk k1 o2 k2]
    exact F.apart j k b c v w hjk j1 k1 o1 o2 j2 k2
 ·by_cases hj:j=i
  ·subst hj
   obtain⟨z,_⟩:=ati e
   rcases new with ⟨d',y,q⟩ | ⟨q,_⟩
   ·rw [y] at z; cases z
   ·rw [← z] at q; exact q.elim
  ·rw [List.getElem?_set_ne (Ne.symm hj)] at e ⊢
   obtain⟨v,q1,qp,q2,q3⟩:=F.bo j p dn un e
   have kk:∀a∈fpOf H v (.brd dn un),a∈A'/\a∉O'/\H' a=H a:=fun a ha=>kb a (q3 a ha).1 (q3 a ha).2
   refine⟨v,q1,qp,q2.off (fun a ha=>(kk a ha).2.2) hs,?_⟩
   have fq:fpOf H' v (.brd dn un)=fpOf H v (.brd dn un):=fp_eq fun a ea=>by
    obtain⟨a',z,ha⟩:=q2.fst
    rw [ea] at z
    cases z
    exact(kk a ha).2.2
   rw [fq]
   exact fun a ha=>⟨(kk a ha).1,(kk a ha).2.1⟩
theorem set_same {σ:St}{i:Nat} (h:σ[i]?=some (some v)):σ.set i (some v)=σ:=by
 apply List.ext_getElem?
 intro j
 by_cases hj:i=j
 ·subst hj
  rw [List.getElem?_set_self (List.getElem?_eq_some_iff.mp h).1,h]
 ·rw [List.getElem?_set_ne hj]
end
noncomputable def Rg {α:Type} (cls:Nat->Addr) (E:XK) (m:M α) (H:Hp) (P:α->Prop):Prop:=match m with
 |.ok a=>P a
 |.ex c=>∀H',Same H H'->E (.ref (cls c)) none H'
 |.bad=>False
theorem Rg.bind {α β:Type}{cls:Nat->Addr}{E:XK}{m:M α}{k:α->M β}{H:Hp}{P:β->Prop}{P':α->Prop} (h:Rg cls E (m.bd k) H P) (f:∀a,m=.ok a->Rg cls E (k a) H P->P' a):Rg cls E m H P':=by
 cases m with
 |ok a=>exact f a rfl h
 |ex c=>exact h
 |bad=>exact h
theorem Rg.ok {α:Type}{cls:Nat->Addr}{E:XK}{m:M α}{H:Hp}{P P':α->Prop} (h:Rg cls E m H P) (f:∀a,m=.ok a->P a->P' a):Rg cls E m H P':=by
 cases m with
 |ok a=>exact f a rfl h
 |ex c=>exact h
 |bad=>exact h
theorem Rg.heap {α:Type}{cls:Nat->Addr}{E:XK}{m:M α}{H H':Hp}{P P':α->Prop} (h:Rg cls E m H P) (s:Same H H') (f:∀a,m=.ok a->P a->P' a):Rg cls E m H' P':=by
 cases m with
 |ok a=>exact f a rfl h
 |ex c=>exact fun H2 s2=>h H2 (s.trans s2)
 |bad=>exact h
section
variable (K:PySem.W.Frag) (cls:Nat->Addr) (A:List Addr) (E:XK)
noncomputable def Res (m:M Dt) (H:Hp) (Q:VK):Prop:=Rg cls E m H fun d=>∀v H',Same H H'->Rep K (hid H' A) d v->sm d->Q v H'
noncomputable def ResB (m:M Bool) (H:Hp) (Q:Bool->Hp->Prop):Prop:=Rg cls E m H fun b=>∀H',Same H H'->Q b H'
noncomputable def ResA (m:M (List Dt)) (H:Hp) (Q:List V->Hp->Prop):Prop:=Rg cls E m H fun ds=>∀vs H',Same H H'->Reps K (hid H' A) ds vs->sms ds->Q vs H'
noncomputable def ResO (m:M (Option Int)) (H:Hp) (Q:Option Int->Hp->Prop):Prop:=Rg cls E m H fun o=>∀H',Same H H'->Q o H'
end
section
variable {K:PySem.W.Frag}{cls:Nat->Addr}{A:List Addr}{E:XK}{H H':Hp}
theorem Res.mono {m:M Dt}{Q:VK} (h:Res K cls A E m H Q) (s:Same H H'):Res K cls A E m H' Q:=Rg.heap h s fun d _ p v H2 s2=>p v H2 (s.trans s2)
theorem ResB.mono {m:M Bool}{Q:Bool->Hp->Prop} (h:ResB cls E m H Q) (s:Same H H'):ResB cls E m H' Q:=Rg.heap h s fun d _ p H2 s2=>p H2 (s.trans s2)
theorem ResA.mono {m:M (List Dt)}{Q:List V->Hp->Prop} (h:ResA K cls A E m H Q) (s:Same H H'):ResA K cls A E m H' Q:=Rg.heap h s fun d _ p v H2 s2=>p v H2 (s.trans s2)
end
section
variable (K:PySem.W.Frag) (cls:Nat->Addr) (E:XK)
inductive tM (f:Rho->M Dt) (σ:St) (H:Hp) (Q:VK):Prop
 |mk (O A:List Addr) (ρ:Rho) (F:Fit K O A ρ σ H) (q:Res K cls A E (f ρ) H Q):tM f σ H Q
inductive tMB (f:Rho->M Bool) (σ:St) (H:Hp) (Q:Bool->Hp->Prop):Prop
 |mk (O A:List Addr) (ρ:Rho) (F:Fit K O A ρ σ H) (q:ResB cls E (f ρ) H Q):tMB f σ H Q
inductive tMA (f:Rho->M (List Dt)) (σ:St) (H:Hp) (Q:List V->Hp->Prop):Prop
 |mk (O A:List Addr) (ρ:Rho) (F:Fit K O A ρ σ H) (q:ResA K cls A E (f ρ) H Q):tMA f σ H Q
inductive tMO (f:Rho->M (Option Int)) (σ:St) (H:Hp) (Q:Option Int->Hp->Prop):Prop
 |mk (O A:List Addr) (ρ:Rho) (F:Fit K O A ρ σ H) (q:ResO cls E (f ρ) H Q):tMO f σ H Q
inductive tMU (f:Rho->M Unit) (σ:St) (H:Hp) (Q:VK):Prop
 |mk (O A:List Addr) (ρ:Rho) (F:Fit K O A ρ σ H) (q:Rg cls E (f ρ) H fun _=>∀v H',Same H H'->Q v H'):tMU f σ H Q
end
noncomputable abbrev Ev (X:Cx) (cls:Nat->Addr) (E:XK) (e:Expr) (f:Rho->M Dt):Prop:=PE X e (tM X.K cls E f)
noncomputable abbrev Tv (X:Cx) (cls:Nat->Addr) (E:XK) (e:Expr) (f:Rho->M Bool):Prop:=PT X e (tMB X.K cls E f)
noncomputable abbrev Wv (X:Cx) (cls:Nat->Addr) (E:XK) (e:Expr) (f:Rho->M Bool):Prop:=PW X e (tMB X.K cls E f)
noncomputable abbrev Av (X:Cx) (cls:Nat->Addr) (E:XK) (es:List Expr) (f:Rho->M (List Dt)):Prop:=PA X es (tMA X.K cls E f)
theorem PE.imp {X:Cx}{e:Expr}{t t':TE} (h:PE X e t') (i:∀σ H Q,t σ H Q->t' σ H Q):PE X e t:=fun pins s σ H Q I hw=>h pins s σ H Q I (i σ H Q hw)
theorem PT.imp {X:Cx}{e:Expr}{t t':TT} (h:PT X e t') (i:∀σ H Q,t σ H Q->t' σ H Q):PT X e t:=fun pins s σ H Q I hw=>h pins s σ H Q I (i σ H Q hw)
theorem PW.imp {X:Cx}{e:Expr}{t t':TT} (h:PW X e t') (i:∀σ H Q,t σ H Q->t' σ H Q):PW X e t:=fun wh pins s σ H Q I hw=>h wh pins s σ H Q I (i σ H Q hw)
theorem PA.imp {X:Cx}{es:List Expr}{t t':TA} (h:PA X es t') (i:∀σ H Q,t σ H Q->t' σ H Q):PA X es t:=fun pos pins s σ H Q I hw=>h pos pins s σ H Q I (i σ H Q hw)
theorem PO.imp {X:Cx}{e:Option Expr}{t t':TO} (h:PO X e t') (i:∀σ H Q,t σ H Q->t' σ H Q):PO X e t:=fun pins s σ H Q I hw=>h pins s σ H Q I (i σ H Q hw)
section
variable {X:Cx}{cls:Nat->Addr}{E:XK}{a b c:Expr}{f g h:Rho->M Dt}{pos:Pos}
theorem ev_of {e:Expr}{d:Dt}{v:V} (h:PE X e (tC v)) (r:∀H,Rep X.K H d v) (z:sm d):Ev X cls E e (pC d):=h.imp fun σ H Q ⟨O,A,ρ,F,q⟩=>q v H (.refl _) (r _) z
theorem ev_var {i:Nat}{x:Str} (h:PE X (.Name x pos) (tVar i)):Ev X cls E (.Name x pos) (getV i):=h.imp fun σ H Q h_=>by
 obtain⟨O,A,ρ,F,q⟩:=h_
 unfold getV gv at q
 split at q
 ·rename_i d e
  obtain⟨v,h1,h2,h3⟩:=F.val i d e
  exact⟨v,h1,q v H (.refl _) h2 h3⟩
 ·exact q.elim
theorem ev_int {i j}:Ev X cls E (.Constant (.int i) j pos) (pC (.int i)):=ev_of pe_int (fun _=>rep_int) trivial
theorem ev_bl {i j}:Ev X cls E (.Constant (.bool i) j pos) (pC (.bl i)):=ev_of pe_bl (fun _=>rep_bl) trivial
theorem ev_non {j}:Ev X cls E (.Constant .none j pos) (pC .non):=ev_of pe_non (fun _=>rep_non) trivial
theorem ev_S {l:List Nat}{x:Str} {j} (h:x=⟨l.toArray⟩:=by decide +kernel) (z:l.length<=10000:=by decide):Ev X cls E (.Constant (.str x) j pos) (pC (.str l)):=ev_of (pe_S h) (fun _=>rep_str) z
noncomputable def OpD (X:Cx) (cls:Nat->Addr) (E:XK) (F:Value->Value->Sem Value) (op:Dt->Dt->M Dt):Prop:=
 ∃r,OpR X F r/\∀A H Q d1 d2 x y,Liv H A->Rep X.K (hid H A) d1 x->Rep X.K (hid H A) d2 y->sm d1->sm d2->Res X.K cls A E (op d1 d2) H Q->r x y H Q
theorem t2 {r:R2}{op:Dt->Dt->M Dt} (ho:∀A H Q d1 d2 x y,Liv H A->Rep X.K (hid H A) d1 x->Rep X.K (hid H A) d2 y->sm d1->sm d2->Res X.K cls A E (op d1 d2) H Q->r x y H Q) (σ:St) (H:Hp) (Q:VK)
  (h:tM X.K cls E (p2 op f g) σ H Q):tOp r (tM X.K cls E f) (tM X.K cls E g) σ H Q:=by
 obtain⟨O,A,ρ,F,q⟩:=h
 refine⟨O,A,ρ,F,Rg.bind q fun d1 _ q1=>?_⟩
 intro v H1 s1 r1 z1
 refine⟨O,A,ρ,F.mono s1,Rg.bind (Res.mono (Q:=Q) q1 s1) fun d2 _ q2=>?_⟩
 intro u H2 s2 r2 z2
 exact ho A H2 Q d1 d2 v u ((F.liv.mono s1).mono s2) (r1.mono (s2.hid A)) r2 z1 z2 (Res.mono q2 s2)
theorem ev_op {o:Operator}{op:Dt->Dt->M Dt} (ho:OpD X cls E (binaryOp o) op) (ha:Ev X cls E a f) (hb:Ev X cls E b g):Ev X cls E (.BinOp a o b pos) (p2 op f g):=by
 obtain⟨r,h1,h2⟩:=ho
 exact(pe_op h1 ha hb).imp (t2 h2)
theorem ev_cmp {o:CmpOp}{op:Dt->Dt->M Dt} (ho:OpD X cls E (compareOp o) op) (ha:Ev X cls E a f) (hb:Ev X cls E b g) (hm:behindInMarks o b=false):Ev X cls E (.Compare a [o] [b] pos) (p2 op f g):=by
 obtain⟨r,h1,h2⟩:=ho
 exact(pe_cmpR h1 ha hb hm).imp (t2 h2)
theorem t_test {t:TE}{f:Rho->M Dt} (h:∀σ H Q,tM X.K cls E f σ H Q->t σ H Q) (σ:St) (H:Hp) (Q:Bool->Hp->Prop) (q:tMB X.K cls E (tOf f) σ H Q):tTest t σ H Q:=by
 obtain⟨O,A,ρ,F,q⟩:=q
 refine h σ H _ ⟨O,A,ρ,F,Rg.bind q fun d _ q1=>?_⟩
 intro v H1 s1 r1 z1
 cases d with
 |bl k=>
  simp only [Rep] at r1
  exact⟨k,r1,q1 H1 s1⟩
 |_=>exact(show False from q1).elim
theorem tv_cmp {o:CmpOp}{op:Dt->Dt->M Dt} (ho:OpD X cls E (compareOp o) op) (ha:Ev X cls E a f) (hb:Ev X cls E b g) (hm:behindInMarks o b=false):Tv X cls E (.Compare a [o] [b] pos) (tOf (p2 op f g)):=by
 obtain⟨r,h1,h2⟩:=ho
 exact(pt_cmpR h1 ha hb hm).imp (t_test (t2 h2))
theorem tv_val (ha:Ev X cls E a f) (he:∀whole,isTrue a X.env whole=(do let v ← whole; standAt a.pos; holding [v] (truthy v)):=by intro _; rfl):Tv X cls E a (tOf f):=
 (pt_val ha he).imp (t_test fun _ _ _ q=>q)
theorem t_chain {r r':R2}{op op':Dt->Dt->M Dt} (ho:∀A H Q d1 d2 x y,Liv H A->Rep X.K (hid H A) d1 x->Rep X.K (hid H A) d2 y->sm d1->sm d2->Res X.K cls A E (op d1 d2) H Q->r x y H Q)
  (ho':∀A H Q d1 d2 x y,Liv H A->Rep X.K (hid H A) d1 x->Rep X.K (hid H A) d2 y->sm d1->sm d2->Res X.K cls A E (op' d1 d2) H Q->r' x y H Q) (σ:St) (H:Hp) (Q:VK)
  (q:tM X.K cls E (pChain op op' f g h) σ H Q):tChain r r' (tM X.K cls E f) (tM X.K cls E g) (tM X.K cls E h) σ H Q:=by
 obtain⟨O,A,ρ,F,q⟩:=q
 refine⟨O,A,ρ,F,Rg.bind q fun d1 _ q1=>?_⟩
 intro v H1 s1 r1 z1
 refine⟨O,A,ρ,F.mono s1,Rg.bind (Res.mono (Q:=Q) q1 s1) fun d2 _ q2=>?_⟩
 intro u H2 s2 r2 z2
 have L2':Liv H2 A:=(F.liv.mono s1).mono s2
 refine ho A H2 _ d1 d2 v u L2' (r1.mono (s2.hid A)) r2 z1 z2 (Rg.bind (Res.mono (Q:=Q) q2 s2) fun d _ q3=>?_)
 intro w H3 s3 r3 z3
 cases d with
 |bl k=>
  simp only [Rep] at r3
  refine⟨k,r3,?_⟩
  cases k with
  |false=>
   simp only [Bool.false_eq_true,if_false]
   have q3':Res X.K cls A E (.ok (.bl false)) H2 Q:=q3
   exact q3' (.bl false) H3 s3 rep_bl trivial
  |true=>
   simp only [if_true]
   have q3':Res X.K cls A E ((h ρ).bd fun z=>op' d2 z) H2 Q:=q3
   refine⟨O,A,ρ,((F.mono s1).mono s2).mono s3,Rg.bind (Res.mono (Q:=Q) q3' s3) fun d3 _ q4=>?_⟩
   intro w' H4 s4 r4 z4
   exact ho' A H4 Q d2 d3 u w' ((L2'.mono s3).mono s4) ((r2.mono (s3.hid A)).mono (s4.hid A)) r4 z2 z4 (Res.mono q4 s4)
 |_=>exact(show False from q3).elim
theorem tv_chain {o o':CmpOp}{op op':Dt->Dt->M Dt} (ho:OpD X cls E (compareOp o) op) (ho':OpD X cls E (compareOp o') op') (ha:Ev X cls E a f) (hb:Ev X cls E b g) (hc:Ev X cls E c h)
  (hm:lastMarks [o,o'] [b,c]=false:=by with_unfolding_all rfl):Tv X cls E (.Compare a [o,o'] [b,c] pos) (tOf (pChain op op' f g h)):=by
 obtain⟨r,h1,h2⟩:=ho
 obtain⟨r',h1',h2'⟩:=ho'
 exact(pt_chain h1 h1' ha hb hc hm).imp (t_test (t_chain h2 h2'))
variable {F G:Rho->M Bool}
theorem tb_or {σ:St}{H:Hp}{Q:Bool->Hp->Prop} (q:tMB X.K cls E (tOr' F G) σ H Q):tOr (tMB X.K cls E F) (tMB X.K cls E G) σ H Q:=by
 obtain⟨O,A,ρ,Ft,q⟩:=q
 refine⟨O,A,ρ,Ft,Rg.bind q fun b _ q1=>?_⟩
 intro H1 s1
 cases b with
 |false=>
  simp only [Bool.false_eq_true,if_false] at q1 ⊢
  exact⟨O,A,ρ,Ft.mono s1,ResB.mono q1 s1⟩
 |true=>
  simp only [if_true] at q1 ⊢
  exact q1 H1 s1
theorem wv_or1 (ha:Tv X cls E a F):Wv X cls E (.BoolOp .Or [a] pos) F:=pw_or1 ha
theorem wv_or {rest:List Expr} (ha:Tv X cls E a F) (hb:Wv X cls E (.BoolOp .Or (b::rest) pos) G):Wv X cls E (.BoolOp .Or (a::b::rest) pos) (tOr' F G):=(pw_or ha hb).imp fun _ _ _ q=>tb_or q
theorem tv_not (ha:Tv X cls E a F):Tv X cls E (.UnaryOp .Not a pos) (tNt F):=(pt_not ha).imp fun σ H Q ⟨O,A,ρ,Ft,q⟩=>⟨O,A,ρ,Ft,Rg.bind q fun b _ q1 H1 s1=>q1 H1 s1⟩
theorem ev_if (hc:Tv X cls E c F) (ha:Ev X cls E a f) (hb:Ev X cls E b g):Ev X cls E (.IfExp c a b pos) (pIf F f g):=(pe_ifExp hc ha hb).imp fun σ H Q h_=>by
 obtain⟨O,A,ρ,Ft,q⟩:=h_
 refine⟨O,A,ρ,Ft,Rg.bind q fun b _ q1=>?_⟩
 intro H1 s1
 cases b with
 |false=>
  simp only [Bool.false_eq_true,if_false] at q1 ⊢
  exact⟨O,A,ρ,Ft.mono s1,Res.mono q1 s1⟩
 |true=>
  simp only [if_true] at q1 ⊢
  exact⟨O,A,ρ,Ft.mono s1,Res.mono q1 s1⟩
theorem repI {H:Hp}{i:Int}{v:V} (h:Rep X.K H (.int i) v):v=.int i:=by simpa only [Rep] using h
theorem repS {H:Hp}{l:List Nat}{v:V} (h:Rep X.K H (.str l) v):v=S l:=by simpa only [Rep] using h
theorem repB {H:Hp}{b:Bool}{v:V} (h:Rep X.K H (.bl b) v):v=.bl b:=by simpa only [Rep] using h
theorem repN {H:Hp}{v:V} (h:Rep X.K H .non v):v=.non:=by simpa only [Rep] using h
inductive LstAt (K:PySem.W.Frag) (H:Hp) (ds:List Dt) (v:V):Prop
 |mk (a:Addr) (xs:List V) (e:v=.ref a) (h1:SqL K H a xs) (h2:Reps K H ds xs):LstAt K H ds v
inductive TupAt (K:PySem.W.Frag) (H:Hp) (ds:List Dt) (v:V):Prop
 |mk (a:Addr) (xs:List V) (e:v=.ref a) (h1:SqT K H a xs) (h2:Reps K H ds xs):TupAt K H ds v
theorem repL {K:PySem.W.Frag}{H:Hp}{ds:List Dt}{v:V} (h:Rep K H (.lst ds) v):LstAt K H ds v:=by
 simp only [Rep] at h
 obtain⟨a,xs,h1,h2,h3⟩:=h
 exact⟨a,xs,h1,h2,h3⟩
theorem repT {K:PySem.W.Frag}{H:Hp}{ds:List Dt}{v:V} (h:Rep K H (.tup ds) v):TupAt K H ds v:=by
 simp only [Rep] at h
 obtain⟨a,xs,h1,h2,h3⟩:=h
 exact⟨a,xs,h1,h2,h3⟩
theorem szS_of {A:List Addr}{H:Hp}{Q:VK}{l:List Nat} (q:Res X.K cls A E (szS l) H Q):l.length<=10000/\Q (S l) H:=by
 unfold szS at q
 split at q
 ·rename_i h
  exact⟨h,q (S l) H (.refl _) rep_str h⟩
 ·exact(show False from q).elim
theorem sm10 {n:Nat} (h:n<=10000):n<=sizeLine:=Nat.le_trans h (by decide)
theorem szL_of {A:List Addr}{H:Hp}{Q:VK}{l:List Dt}{xs:List V} (q:Res X.K cls A E (szL l) H Q) (L:Liv H A) (r:Reps X.K (hid H A) l xs) (z:sms l):l.length<=10000/\∀p,H p=none->Q (.ref p) (upd H p (.lst xs)):=by
 unfold szL at q
 split at q
 ·rename_i h
  refine⟨h,fun p hp=>q (.ref p) _ (.upd hp) (rep_lst (hid_new L hp) (r.mono ((Same.upd hp).hid A))) ⟨h,z⟩⟩
 ·exact(show False from q).elim
noncomputable def rCatL (K:PySem.W.Frag):R2:=fun x y H Q=>∃l b xs zs,x=.ref l/\y=.ref b/\SqL K H l xs/\SqL K H b zs/\xs.length+zs.length<=sizeLine/\∀p,H p=none->Q (.ref p) (upd H p (.lst (xs++zs)))
theorem op_catL:OpR X (binaryOp .Add) (rCatL X.K):=by
 intro pins s σ H x y v u Q I rx ry h
 obtain⟨l,b,xs,zs,rfl,rfl,hH,hB,hz,q⟩:=h
 cases rx
 cases ry
 obtain⟨vs,r,pl,_⟩:=I.list hH
 obtain⟨ws,r2,pl2,_⟩:=I.list hB
 have hl:=r.length
 have hl2:=r2.length
 obtain⟨⟨cl,dd,data,sl⟩,n,ho,hc,hd,hdt⟩:=pl
 obtain⟨⟨cl2,dd2,data2,sl2⟩,n2,ho2,hc2,hd2,hdt2⟩:=pl2
 simp only at hc hd hdt hc2 hd2 hdt2
 subst hc hd hdt hc2 hd2 hdt2
 have e:vs.toArray++ws.toArray=(vs++ws).toArray:=by simp
 refine concat_meets ⟨_,ho,rfl⟩ ⟨_,ho2,rfl⟩ noFill_list_add seq_list_add PySem.F.slot_list_add PySem.F.entry_list_add (PySem.F.args_list_add_2 _ _) (list_addW l b vs.toArray ws.toArray n n2 none none sl sl2 (by simp; omega)) ⟨ho,ho2,?_⟩
 rw [e]
 exact(fun ht=>⟨.ref _,_,I.lnew (t':=s.toks) (r.append r2) (by rw [List.length_append]; omega),rfl,q _ I.fresh⟩)
theorem od_add:OpD X cls E (binaryOp .Add) oAdd:=by
 refine⟨_,op_add.or (op_addS.or op_catL),fun A H Q d1 d2 x y L r1 r2 z1 z2 q=>?_⟩
 cases d1 with
 |int i=>
  cases d2 with
  |int j=>exact .inl ⟨i,j,repI r1,repI r2,q _ H (.refl _) rep_int trivial⟩
  |_=>exact(show False from q).elim
 |str l=>
  cases d2 with
  |str m=>
   obtain⟨h,q⟩:=szS_of q
   exact .inr (.inl ⟨l,m,repS r1,repS r2,sm10 (by simpa using h),q⟩)
  |_=>exact(show False from q).elim
 |lst l=>
  cases d2 with
  |lst m=>
   obtain⟨p,xs,rfl,h1,h2⟩:=repL r1
   obtain⟨p',ys,rfl,h1',h2'⟩:=repL r2
   have e1:=h2.length
   have e2:=h2'.length
   obtain⟨h,q⟩:=szL_of q L (h2.append h2') (sms_append z1.2 z2.2)
   exact .inr (.inr ⟨p,p',xs,ys,rfl,rfl,hid_same.seq h1,hid_same.seq h1',sm10 (by simp at h; omega),q⟩)
  |_=>exact(show False from q).elim
 |_=>cases d2 <;> exact(show False from q).elim
theorem od_I {F:Value->Value->Sem Value}{C:Int->Int->Prop} [∀i j,Decidable (C i j)] {k:Int->Int->V}{kd:Int->Int->Dt}{op:Dt->Dt->M Dt} (h:OpR X F (rI C k)) (hk:∀i j H,Rep X.K H (kd i j) (k i j)/\sm (kd i j)) (h1:∀i j,op (.int i) (.int j)=if C i j then .ok (kd i j) else .bad)
  (h2:∀d1 d2,(∀i j,¬ (d1=.int i/\d2=.int j))->op d1 d2=.bad):OpD X cls E F op:=by
 refine⟨_,h,fun A H Q d1 d2 x y L r1 r2 z1 z2 q=>?_⟩
 by_cases hh:∃i j,d1=.int i/\d2=.int j
 ·obtain⟨i,j,rfl,rfl⟩:=hh
  rw [h1] at q
  split at q
  ·rename_i hc
   exact⟨i,j,repI r1,repI r2,hc,q _ H (.refl _) (hk i j _).1 (hk i j H).2⟩
  ·exact(show False from q).elim
 ·rw [h2 d1 d2 fun i j z=>hh ⟨i,j,z⟩] at q
  exact(show False from q).elim
theorem od_I0 {F:Value->Value->Sem Value}{k:Int->Int->V}{kd:Int->Int->Dt}{op:Dt->Dt->M Dt} (h:OpR X F (rI0 k)) (hk:∀i j H,Rep X.K H (kd i j) (k i j)/\sm (kd i j)) (h1:∀i j,op (.int i) (.int j)=.ok (kd i j))
  (h2:∀d1 d2,(∀i j,¬ (d1=.int i/\d2=.int j))->op d1 d2=.bad):OpD X cls E F op:=by
 refine⟨_,h,fun A H Q d1 d2 x y L r1 r2 z1 z2 q=>?_⟩
 by_cases hh:∃i j,d1=.int i/\d2=.int j
 ·obtain⟨i,j,rfl,rfl⟩:=hh
  rw [h1] at q
  exact⟨i,j,repI r1,repI r2,q _ H (.refl _) (hk i j _).1 (hk i j H).2⟩
 ·rw [h2 d1 d2 fun i j z=>hh ⟨i,j,z⟩] at q
  exact(show False from q).elim
theorem no_int2 {op:Dt->Dt->M Dt} (h:∀d1 d2,op d1 d2=.bad∨∃i j,d1=.int i/\d2=.int j) (d1 d2:Dt) (hn:∀i j,¬ (d1=.int i/\d2=.int j)):op d1 d2=.bad:=by
 rcases h d1 d2 with h | ⟨i,j,h⟩
 ·exact h
 ·exact(hn i j h).elim
theorem od_mod:OpD X cls E (binaryOp .Mod) oMod:=od_I op_mod (fun _ _ _=>⟨rep_int,trivial⟩) (fun _ _=>rfl) (no_int2 fun d1 d2=>by unfold oMod; split; exact .inr ⟨_,_,rfl,rfl⟩; exact .inl rfl)
theorem od_lt:OpD X cls E (compareOp .Lt) oLt:=od_I0 op_lt (fun _ _ _=>⟨rep_bl,trivial⟩) (fun _ _=>rfl) (no_int2 fun d1 d2=>by unfold oLt; split; exact .inr ⟨_,_,rfl,rfl⟩; exact .inl rfl)
theorem od_le:OpD X cls E (compareOp .LtE) oLe:=od_I0 op_le (fun _ _ _=>⟨rep_bl,trivial⟩) (fun _ _=>rfl) (no_int2 fun d1 d2=>by unfold oLe; split; exact .inr ⟨_,_,rfl,rfl⟩; exact .inl rfl)
noncomputable instance (i j:Int):Decidable (CDiv i j):=by unfold CDiv; infer_instance
theorem od_div:OpD X cls E (binaryOp .FloorDiv) oDiv:=od_I op_fdiv (fun _ _ _=>⟨rep_int,trivial⟩) (fun _ _=>rfl) (no_int2 fun d1 d2=>by unfold oDiv; split; exact .inr ⟨_,_,rfl,rfl⟩; exact .inl rfl)
theorem od_mul:OpD X cls E (binaryOp .Mult) oMul:=by
 refine⟨_,op_mul.or op_repS,fun A H Q d1 d2 x y L r1 r2 z1 z2 q=>?_⟩
 cases d1 with
 |int i=>
  cases d2 with
  |int j=>
   simp only [oMul] at q
   split at q
   ·rename_i h
    exact .inl ⟨i,j,repI r1,repI r2,h,q _ H (.refl _) rep_int trivial⟩
   ·exact(show False from q).elim
  |_=>exact(show False from q).elim
 |str l=>
  cases d2 with
  |int j=>
   simp only [oMul] at q
   split at q
   ·rename_i h
    exact .inr ⟨l,j,repS r1,repI r2,h.1,h.2.1,h.2.2,(szS_of q).2⟩
   ·exact(show False from q).elim
  |_=>exact(show False from q).elim
 |_=>cases d2 <;> exact(show False from q).elim
theorem od_eq (hu:X.A.units+50<cLine):OpD X cls E (compareOp .Eq) oEq:=by
 refine⟨_,op_eqD hu,fun A H Q d1 d2 x y L r1 r2 z1 z2 q=>?_⟩
 unfold oEq at q
 split at q
 ·rename_i h
  exact⟨d1,d2,r1.mono hid_same,r2.mono hid_same,h,q _ H (.refl _) rep_bl trivial⟩
 ·exact(show False from q).elim
theorem od_ne (hu:X.A.units+50<cLine):OpD X cls E (compareOp .NotEq) oNe:=by
 refine⟨_,op_neD hu,fun A H Q d1 d2 x y L r1 r2 z1 z2 q=>?_⟩
 unfold oNe at q
 split at q
 ·rename_i h
  exact⟨d1,d2,r1.mono hid_same,r2.mono hid_same,h,q _ H (.refl _) rep_bl trivial⟩
 ·exact(show False from q).elim
end
section
variable {X:Cx}{cls:Nat->Addr}{E:XK}{a b c:Expr}{f g h:Rho->M Dt}{pos:Pos}
theorem flat_rep {H:Hp}{d:Dt}{v:V} (h:flatD d=true) (r:Rep X.K H d v):flatV v=true:=by
 cases d with
 |non=>cases repN r; rfl
 |bl b=>cases repB r; rfl
 |int i=>cases repI r; rfl
 |str l=>cases repS r; rfl
 |_=>cases h
theorem eqV_rep {H H':Hp}{d e:Dt}{v w:V} (h1:flatD d=true) (h2:flatD e=true) (r1:Rep X.K H d v) (r2:Rep X.K H' e w):eqV v w=eqD d e:=by
 cases d with
 |non=>
  cases repN r1
  cases e with
  |non=>cases repN r2; rfl
  |bl b=>cases repB r2; rfl
  |int i=>cases repI r2; rfl
  |str l=>cases repS r2; rfl
  |_=>cases h2
 |bl b=>
  cases repB r1
  cases e with
  |non=>cases repN r2; rfl
  |bl b'=>cases repB r2; cases b <;> cases b' <;> rfl
  |int i=>cases repI r2; first | rfl | (cases b <;> simp [eqV,eqD,b2i])
  |str l=>cases repS r2; rfl
  |_=>cases h2
 |int i=>
  cases repI r1
  cases e with
  |non=>cases repN r2; rfl
  |bl b=>cases repB r2; first | rfl | (cases b <;> simp [eqV,eqD,b2i])
  |int j=>cases repI r2; first | rfl | simp [eqV,eqD]
  |str l=>cases repS r2; rfl
  |_=>cases h2
 |str l=>
  cases repS r1
  cases e with
  |non=>cases repN r2; rfl
  |bl b=>cases repB r2; rfl
  |int j=>cases repI r2; rfl
  |str m=>cases repS r2; first | exact str_beqS l m | simp [eqV,eqD,str_beqS]
  |_=>cases h2
 |_=>cases h1
theorem flats_rep {H:Hp}:∀{ds:List Dt}{xs:List V},ds.all flatD=true->Reps X.K H ds xs->xs.all flatV=true
 | [],_,_,r=>by simp only [Reps] at r; subst r; rfl
 |d::ds,_,h,r=>by
  simp only [Reps] at r
  obtain⟨x,t,rfl,r1,r2⟩:=r
  rw [List.all_cons,Bool.and_eq_true] at h ⊢
  exact⟨flat_rep h.1 r1,flats_rep h.2 r2⟩
theorem in_rep {H H':Hp}{e:Dt}{w:V} (he:flatD e=true) (re:Rep X.K H' e w):∀{ds:List Dt}{xs:List V},ds.all flatD=true->Reps X.K H ds xs->inV w xs=ds.any fun d=>eqD d e
 | [],_,_,r=>by simp only [Reps] at r; subst r; rfl
 |d::ds,_,h,r=>by
  simp only [Reps] at r
  obtain⟨x,t,rfl,r1,r2⟩:=r
  rw [List.all_cons,Bool.and_eq_true] at h
  unfold inV
  rw [List.any_cons,List.any_cons,eqV_rep h.1 he r1 re]
  have:=in_rep he re h.2 r2
  unfold inV at this
  rw [this]
theorem r_in {A:List Addr}{H:Hp}{Q:Bool->Prop}{d1 d2:Dt}{x y:V}{neg:Bool}{QQ:VK} (r1:Rep X.K (hid H A) d1 x) (r2:Rep X.K (hid H A) d2 y) (hq:∀k,oIn d1 d2=.ok (.bl k)->QQ (.bl (if neg then !k else k)) H) (hb:∃k,oIn d1 d2=.ok (.bl k)) :
  rInS neg x y H QQ∨rIn X.K neg x y H QQ:=by
 obtain⟨k,hk⟩:=hb
 have q:=hq k hk
 unfold oIn at hk
 split at hk
 ·rename_i c l
  injection hk with hk
  injection hk with hk
  subst hk
  exact .inl ⟨c,l,repS r1,repS r2,q⟩
 ·rename_i ds _
  split at hk
  ·rename_i hc
   injection hk with hk
   injection hk with hk
   obtain⟨p,xs,rfl,h1,h2⟩:=repL r2
   refine .inr ⟨p,xs,rfl,.inl (hid_same.seq h1),flat_rep hc.1 r1,flats_rep hc.2 h2,?_⟩
   rw [in_rep hc.1 r1 hc.2 h2,hk]
   exact q
  ·cases hk
 ·rename_i ds _
  split at hk
  ·rename_i hc
   injection hk with hk
   injection hk with hk
   obtain⟨p,xs,rfl,h1,h2⟩:=repT r2
   refine .inr ⟨p,xs,rfl,.inr (hid_same.seqT h1),flat_rep hc.1 r1,flats_rep hc.2 h2,?_⟩
   rw [in_rep hc.1 r1 hc.2 h2,hk]
   exact q
  ·cases hk
 ·cases hk
theorem oIn_bl {d1 d2 d:Dt} (h:oIn d1 d2=.ok d):∃k,d=.bl k:=by
 unfold oIn at h
 split at h
 ·injection h with h; exact⟨_,h.symm⟩
 ·split at h
  ·injection h with h; exact⟨_,h.symm⟩
  ·cases h
 ·split at h
  ·injection h with h; exact⟨_,h.symm⟩
  ·cases h
 ·cases h
theorem oIn_ex {d1 d2:Dt}{c:Nat} (h:oIn d1 d2=.ex c):False:=by
 unfold oIn at h
 split at h
 ·cases h
 ·split at h <;> cases h
 ·split at h <;> cases h
 ·cases h
theorem od_in:OpD X cls E (compareOp .In) oIn:=by
 refine⟨_,op_inS.or op_in_seq,fun A H Q d1 d2 x y L r1 r2 z1 z2 q=>?_⟩
 cases hm:oIn d1 d2 with
 |ok d=>
  obtain⟨k,rfl⟩:=oIn_bl hm
  rw [hm] at q
  refine r_in (Q:=fun _=>True) (neg:=false) r1 r2 (fun k' hk'=>?_) ⟨k,hm⟩
  rw [hm] at hk'
  cases hk'
  exact q _ H (.refl _) rep_bl trivial
 |ex c=>exact(oIn_ex hm).elim
 |bad=>rw [hm] at q; exact(show False from q).elim
theorem isNon_rep {H:Hp}{d:Dt}{x:V} (r:Rep X.K H d x):isNon d=decide (x=.non):=by
 cases d with
 |non=>cases repN r; rfl
 |bl b=>cases repB r; rfl
 |int b=>cases repI r; rfl
 |str b=>cases repS r; rfl
 |lst b=>obtain⟨a,xs,rfl,_⟩:=repL r; rfl
 |tup b=>obtain⟨a,xs,rfl,_⟩:=repT r; rfl
 |dic b=>simp only [Rep] at r; obtain⟨a,xs,rfl,_⟩:=r; rfl
theorem od_isnot:OpD X cls E (compareOp .IsNot) oIsNot:=by
 refine⟨_,op_isnotB.or op_notN,fun A H Q d1 d2 x y L r1 r2 z1 z2 q=>?_⟩
 cases d2 with
 |bl j=>
  cases d1 with
  |bl i=>exact .inl ⟨i,j,repB r1,repB r2,q _ H (.refl _) rep_bl trivial⟩
  |_=>exact(show False from q).elim
 |non=>
  refine .inr ⟨repN r2,?_⟩
  rw [← isNon_rep r1]
  exact q _ H (.refl _) rep_bl trivial
 |_=>exact(show False from q).elim
theorem reps_at {K:PySem.W.Frag}{H:Hp}{ds:List Dt}{xs:List V} (r:Reps K H ds xs){i:Int}{d:Dt} (h:atZ ds i=some d):∃x,atI xs i=some x/\Rep K H d x:=by
 have hl:=r.length
 unfold atZ at h
 have e:ixZ ds.length i=ixN xs.length i:=by rw [hl]; rfl
 unfold atI
 rw [← e]
 cases hj:ixZ ds.length i with
 |none=>rw [hj] at h; cases h
 |some j=>
  rw [hj] at h
  simp only [Option.bind_some] at h ⊢
  have hlt:j<ds.length:=(List.getElem?_eq_some_iff.mp h).1
  have hx:xs[j]?=some (xs[j]'(by omega)):=by simp
  obtain⟨d',h1,h2⟩:=r.get hx
  rw [h] at h1
  cases h1
  exact⟨_,hx,h2⟩
theorem atZ_mem {α:Type}{l:List α}{i:Int}{x:α} (h:atZ l i=some x):x∈l:=by
 unfold atZ at h
 cases hj:ixZ l.length i with
 |none=>rw [hj] at h; cases h
 |some j=>rw [hj] at h; exact List.mem_of_getElem? h
theorem ev_ix (ha:Ev X cls E a f) (hb:Ev X cls E b g) (hs:PlainIx b):Ev X cls E (.Subscript a b pos) (p2 oIx f g):=by
 refine(pe_ix (ix_S.or (ix_list.or ix_tup)) ha hb hs).imp (t2 fun A H Q d1 d2 x y L r1 r2 z1 z2 q=>?_)
 cases d1 with
 |str l=>
  cases d2 with
  |int i=>
   simp only [oIx,ixC] at q
   split at q
   ·rename_i c hc
    exact .inl ⟨l,i,c,repS r1,repI r2,sm10 z1,hc,q _ H (.refl _) rep_str (by show 1<=10000; decide)⟩
   ·exact(show False from q).elim
  |_=>exact(show False from q).elim
 |lst l=>
  cases d2 with
  |int i=>
   simp only [oIx,ixD] at q
   split at q
   ·rename_i d hd
    obtain⟨p,xs,rfl,h1,h2⟩:=repL r1
    obtain⟨v,hv,rv⟩:=reps_at h2 hd
    exact .inr (.inl ⟨p,xs,i,v,rfl,repI r2,hid_same.seq h1,hv,q v H (.refl _) rv (sms_mem z1.2 (atZ_mem hd))⟩)
   ·exact(show False from q).elim
  |_=>exact(show False from q).elim
 |tup l=>
  cases d2 with
  |int i=>
   simp only [oIx,ixD] at q
   split at q
   ·rename_i d hd
    obtain⟨p,xs,rfl,h1,h2⟩:=repT r1
    obtain⟨v,hv,rv⟩:=reps_at h2 hd
    exact .inr (.inr ⟨p,xs,i,v,rfl,repI r2,hid_same.seqT h1,hv,q v H (.refl _) rv (sms_mem z1.2 (atZ_mem hd))⟩)
   ·exact(show False from q).elim
  |_=>exact(show False from q).elim
 |_=>cases d2 <;> exact(show False from q).elim
theorem sIz_eq (n d:Nat) (o:Option Int):HT.sIx n d o=sIz n d o:=by cases o <;> rfl
theorem cutN_eq (l:List Nat) (lo hi:Option Int):cutN l lo hi=cutZ l lo hi:=by
 unfold cutN cutZ
 rw [sIz_eq,sIz_eq]
theorem reps_drop {K:PySem.W.Frag}{H:Hp}:∀(n:Nat){ds:List Dt}{xs:List V},Reps K H ds xs->Reps K H (ds.drop n) (xs.drop n)
 |0,_,_,r=>r
 |n+1,[],_,r=>by simp only [Reps] at r; subst r; exact .nil
 |n+1,d::ds,_,r=>by
  simp only [Reps] at r
  obtain⟨x,t,rfl,_,r2⟩:=r
  exact reps_drop n r2
theorem reps_take {K:PySem.W.Frag}{H:Hp}:∀(n:Nat){ds:List Dt}{xs:List V},Reps K H ds xs->Reps K H (ds.take n) (xs.take n)
 |0,_,_,_=>.nil
 |n+1,[],_,r=>by simp only [Reps] at r; subst r; exact .nil
 |n+1,d::ds,_,r=>by
  simp only [Reps] at r
  obtain⟨x,t,rfl,r1,r2⟩:=r
  exact .cons r1 (reps_take n r2)
theorem cutZ_mem {α:Type}{l:List α}{lo hi:Option Int}{x:α} (h:x∈cutZ l lo hi):x∈l:=List.mem_of_mem_drop (List.mem_of_mem_take h)
theorem cutZ_length {α:Type} (l:List α) (lo hi:Option Int):(cutZ l lo hi).length<=l.length:=by
 unfold cutZ
 simp only [List.length_take,List.length_drop]
 omega
theorem ov_none:PO X none (tMO X.K cls E (pPart none)):=po_none.imp fun σ H Q ⟨O,A,ρ,F,q⟩=>q H (.refl _)
theorem ov_some {e:Expr} (he:Ev X cls E e f):PO X (some e) (tMO X.K cls E (pPart (some f))):=(po_some he).imp fun σ H Q h_=>by
 obtain⟨O,A,ρ,F,q⟩:=h_
 refine⟨O,A,ρ,F,Rg.bind q fun d _ q1=>?_⟩
 intro v H1 s1 r1 z1
 cases d with
 |int i=>exact⟨i,repI r1,q1 H1 s1⟩
 |_=>exact(show False from q1).elim
theorem ev_slice {lo hi:Option Expr}{fl fh:Rho->M (Option Int)}{p2':Pos} (he:Ev X cls E a f) (hl:PO X lo (tMO X.K cls E fl)) (hh:PO X hi (tMO X.K cls E fh)):Ev X cls E (.Subscript a (.Slice lo hi none p2') pos) (pSlice f fl fh):=
 (pe_slice (sl_S.or sl_list) he hl hh).imp fun σ H Q ⟨O,A,ρ,F,q⟩=>by
 refine⟨O,A,ρ,F,Rg.bind q fun d _ q1=>?_⟩
 intro v H1 s1 r1 z1
 refine⟨O,A,ρ,F.mono s1,Rg.bind (Res.mono (Q:=Q) q1 s1) fun o1 _ q2=>?_⟩
 intro H2 s2
 refine⟨O,A,ρ,(F.mono s1).mono s2,Rg.bind (Res.mono (Q:=Q) q2 s2) fun o2 _ q3=>?_⟩
 intro H3 s3
 have r3:=r1.mono ((s2.trans s3).hid A)
 cases d with
 |str l=>
  refine .inl ⟨l,repS r3,sm10 z1,?_⟩
  rw [cutN_eq]
  exact q3 _ H3 s3 rep_str (Nat.le_trans (cutZ_length l o1 o2) z1)
 |lst l=>
  obtain⟨p,xs,rfl,h1,h2⟩:=repL r3
  refine .inr ⟨p,xs,rfl,hid_same.seq h1,fun p' hp=>?_⟩
  have L3:Liv H3 A:=((F.liv.mono s1).mono s2).mono s3
  have hl:=h2.length
  have hr:Reps X.K (hid H3 A) (cutZ l o1 o2) (cutV xs o1 o2):=by
   unfold cutZ cutV
   rw [sIz_eq,sIz_eq,← hl]
   exact reps_take _ (reps_drop _ h2)
  exact q3 (.ref p') _ (s3.trans (.upd hp)) (rep_lst (hid_new L3 hp) (hr.mono ((Same.upd hp).hid A))) ⟨Nat.le_trans (cutZ_length l o1 o2) z1.1,sms_of fun d hd=>sms_mem z1.2 (cutZ_mem hd)⟩
 |_=>exact(show False from q3).elim
variable {fs:Rho->M (List Dt)}{es:List Expr}
theorem av_nil:Av X cls E [] aNil:=pa_nil.imp fun σ H Q ⟨O,A,ρ,F,q⟩=>q [] H (.refl _) .nil trivial
theorem av_cons (hst:isStar a=false) (ha:Ev X cls E a f) (hr:Av X cls E es fs):Av X cls E (a::es) (aCons f fs):=(pax _ _ _ _ _ hst ha hr).imp fun σ H Q h_=>by
 obtain⟨O,A,ρ,F,q⟩:=h_
 refine⟨O,A,ρ,F,Rg.bind q fun d _ q1=>?_⟩
 intro v H1 s1 r1 z1
 refine⟨O,A,ρ,F.mono s1,Rg.bind (ResA.mono (Q:=Q) q1 s1) fun ds _ q2=>?_⟩
 intro vs H2 s2 r2 z2
 exact q2 (v::vs) H2 s2 (.cons (r1.mono (s2.hid A)) r2) ⟨z1,z2⟩
theorem ev_lst (h:Av X cls E es fs):Ev X cls E (.List es pos) (pLst fs):=(pe_lst h).imp fun σ H Q h_=>by
 obtain⟨O,A,ρ,F,q⟩:=h_
 refine⟨O,A,ρ,F,Rg.bind q fun ds _ q1=>?_⟩
 intro vs H1 s1 r1 z1
 obtain⟨h1,h2⟩:=szL_of (Res.mono (Q:=Q) q1 s1) (F.liv.mono s1) r1 z1
 exact⟨sm10 (by rw [← r1.length]; exact h1),h2⟩
theorem ev_tup {k} (h:Av X cls E es fs):Ev X cls E (.Tuple es k pos) (pTup fs):=(pe_tup h).imp fun σ H Q h_=>by
 obtain⟨O,A,ρ,F,q⟩:=h_
 refine⟨O,A,ρ,F,Rg.bind q fun ds _ q1=>?_⟩
 intro vs H1 s1 r1 z1
 have q1':=Res.mono (Q:=Q) q1 s1
 split at q1'
 ·rename_i hl
  refine⟨sm10 (by rw [← r1.length]; exact hl),fun p hp=>q1' (.ref p) _ (.upd hp) (rep_tup (hid_new (F.liv.mono s1) hp) (r1.mono ((Same.upd hp).hid A))) ⟨hl,z1⟩⟩
 ·exact(show False from q1').elim
theorem ev_rep {p2':Pos} (h:Av X cls E es fs) (hg:Ev X cls E b g):Ev X cls E (.BinOp (.List es p2') .Mult b pos) (pRep fs g):=(pe_op op_rep (pe_lst h) hg).imp fun σ H Q h_=>by
 obtain⟨O,A,ρ,F,q⟩:=h_
 refine⟨O,A,ρ,F,Rg.bind q fun ds _ q1=>?_⟩
 intro vs H1 s1 r1 z1
 have q1':=Res.mono (Q:=Q) q1 s1
 split at q1'
 ·rename_i hl
  have hlen:=r1.length
  refine⟨sm10 (by omega),fun p hp=>?_⟩
  have s2:Same H1 (upd H1 p (.lst vs)):=.upd hp
  refine⟨O,A,ρ,(F.mono s1).mono s2,Rg.bind (Res.mono (Q:=Q) q1' s2) fun d _ q3=>?_⟩
  intro v H3 s3 r3 z3
  cases d with
  |int n=>
   simp only [repD] at q3
   split at q3
   ·rename_i hn
    refine⟨p,n,vs,rfl,repI r3,s3 _ _ upd_same,by omega,by omega,sm10 (by rw [← hlen]; exact hn.2.2),fun p' hp'=>?_⟩
    have L3:Liv H3 A:=((F.liv.mono s1).mono s2).mono s3
    have rr:∀k:Nat,Reps X.K (hid H3 A) (List.replicate k ds).flatten (List.replicate k vs).flatten:=fun k=>by
     induction k with
     |zero=>exact .nil
     |succ k ih=>
      rw [List.replicate_succ,List.replicate_succ,List.flatten_cons,List.flatten_cons]
      exact(r1.mono ((s2.trans s3).hid A)).append ih
    refine q3 (.ref p') _ (s3.trans (.upd hp')) (rep_lst (hid_new L3 hp') ((rr _).mono ((Same.upd hp').hid A))) ⟨?_,sms_of fun d hd=>?_⟩
    ·rw [len_rep,Nat.mul_comm]
     exact hn.2.2
    ·obtain⟨l,hl,hd⟩:=List.mem_flatten.mp hd
     rw [(List.mem_replicate.mp hl).2] at hd
     exact sms_mem z1 hd
   ·exact(show False from q3).elim
  |_=>exact(show False from q3).elim
 ·exact(show False from q1').elim
noncomputable def CaD (X:Cx) (cls:Nat->Addr) (E:XK) (fv:Value) (F:List Dt->M Dt):Prop:=
 ∃r,CallR X fv r/\∀A H Q ds vs,Liv H A->Reps X.K (hid H A) ds vs->sms ds->Res X.K cls A E (F ds) H Q->r vs H Q
variable {F':List Dt->M Dt}
theorem t_cb {r:List V->Hp->VK->Prop} (h:∀A H Q ds vs,Liv H A->Reps X.K (hid H A) ds vs->sms ds->Res X.K cls A E (F' ds) H Q->r vs H Q) (σ:St) (H:Hp) (Q:VK) (q:tM X.K cls E (pCall F' fs) σ H Q):tCB r (tMA X.K cls E fs) σ H Q:=by
 obtain⟨O,A,ρ,F,q⟩:=q
 refine⟨O,A,ρ,F,Rg.bind q fun ds _ q1=>?_⟩
 intro vs H1 s1 r1 z1
 exact h A H1 Q ds vs (F.liv.mono s1) r1 z1 (Res.mono q1 s1)
theorem ev_callB {x:Str}{id:String}{p:Pos} (hc:CaD X cls E (.builtin id) F') (hg:Gl X x) (hm:X.mg x=none) (hv:bootBuiltins x=some (.builtin id)) (ha:Av X cls E (a::es) fs) (hn:x≠"__name__" := by decide) (hdb:(x==("__debug__" : Str))=false:=by decide)
  (he:starEach (a::es) X.env=(false,eval a X.env)::starEach es X.env:=by rfl) (hpl:(backTo pos (starEach es X.env)).any (·.1)=false:=by rfl):Ev X cls E (.Call (.Name x p) (a::es) [] pos) (pCall F' fs):=by
 obtain⟨r,h1,h2⟩:=hc
 exact(pe_callB h1 hg hm hv ha hn hdb he hpl).imp (t_cb h2)
theorem ev_callTy {x:Str}{T:String}{p:Pos} (hc:CaD X cls E (.type T) F') (hg:Gl X x) (hm:X.mg x=none) (hv:bootBuiltins x=some (.type T)) (ha:Av X cls E (a::es) fs) (hn:x≠"__name__" := by decide) (hdb:(x==("__debug__" : Str))=false:=by decide)
  (he:starEach (a::es) X.env=(false,eval a X.env)::starEach es X.env:=by rfl) (hpl:(backTo pos (starEach es X.env)).any (·.1)=false:=by rfl):Ev X cls E (.Call (.Name x p) (a::es) [] pos) (pCall F' fs):=by
 obtain⟨r,h1,h2⟩:=hc
 exact(pe_callTy h1 hg hm hv ha hn hdb he hpl).imp (t_cb h2)
theorem reps1 {K:PySem.W.Frag}{H:Hp}{d:Dt}{vs:List V} (h:Reps K H [d] vs):∃v,vs=[v]/\Rep K H d v:=by
 simp only [Reps] at h
 obtain⟨x,r,rfl,h1,rfl⟩:=h
 exact⟨x,rfl,h1⟩
theorem reps2 {K:PySem.W.Frag}{H:Hp}{d e:Dt}{vs:List V} (h:Reps K H [d,e] vs):∃v w,vs=[v,w]/\Rep K H d v/\Rep K H e w:=by
 simp only [Reps] at h
 obtain⟨x,r,rfl,h1,y,t,rfl,h2,rfl⟩:=h
 exact⟨x,y,rfl,h1,h2⟩
theorem cd_len:CaD X cls E (.builtin "len") bLen:=by
 refine⟨_,call_lenS.or call_len_seq,fun A H Q ds vs L r z q=>?_⟩
 unfold bLen at q
 split at q
 ·rename_i l
  obtain⟨v,rfl,rv⟩:=reps1 r
  exact .inl ⟨l,by rw [repS rv],sm10 z.1,q _ H (.refl _) rep_int trivial⟩
 ·rename_i l
  obtain⟨v,rfl,rv⟩:=reps1 r
  obtain⟨p,xs,rfl,h1,h2⟩:=repL rv
  refine .inr ⟨p,xs,rfl,.inl (hid_same.seq h1),?_⟩
  rw [← h2.length]
  exact q _ H (.refl _) rep_int trivial
 ·rename_i l
  obtain⟨v,rfl,rv⟩:=reps1 r
  obtain⟨p,xs,rfl,h1,h2⟩:=repT rv
  refine .inr ⟨p,xs,rfl,.inr (hid_same.seqT h1),?_⟩
  rw [← h2.length]
  exact q _ H (.refl _) rep_int trivial
 ·exact(show False from q).elim
theorem bools_rep {K:PySem.W.Frag}{H:Hp}:∀{ds:List Dt}{bs:List Bool}{xs:List V},bools ds=some bs->Reps K H ds xs->xs=bs.map V.bl
 | [],bs,xs,h,r=>by
  simp only [Reps] at r
  simp only [bools,Option.some.injEq] at h
  subst r h
  rfl
 |d::ds,bs,xs,h,r=>by
  simp only [Reps] at r
  obtain⟨x,t,rfl,r1,r2⟩:=r
  cases d with
  |bl b=>
   simp only [bools,Option.map_eq_some_iff] at h
   obtain⟨cs,hc,rfl⟩:=h
   rw [bools_rep hc r2,List.map_cons]
   simp only [Rep] at r1
   rw [r1]
  |_=>simp [bools] at h
theorem cd_all (hc:X.calm=true):CaD X cls E (.builtin "all") bAll:=by
 refine⟨_,call_allB hc,fun A H Q ds vs L r z q=>?_⟩
 unfold bAll at q
 split at q
 ·rename_i l
  obtain⟨v,rfl,rv⟩:=reps1 r
  obtain⟨p,xs,rfl,h1,h2⟩:=repL rv
  unfold blM at q
  split at q
  ·rename_i bs hb
   rw [bools_rep hb h2] at h1
   exact⟨p,bs,rfl,hid_same.seq h1,q _ H (.refl _) rep_bl trivial⟩
  ·exact(show False from q).elim
 ·exact(show False from q).elim
theorem reps_sgs {K:PySem.W.Frag}{H:Hp}:∀l:List Nat,Reps K H (sgD l) (sgs l)
 | []=>.nil
 |c::l=>.cons rep_str (reps_sgs l)
theorem sms_sgD (l:List Nat):sms (sgD l):=sms_of fun d hd=>by
 obtain⟨c,_,rfl⟩:=List.mem_map.mp hd
 show 1<=10000
 decide
inductive spM (K:PySem.W.Frag) (cls:Nat->Addr) (F:List Dt->M Dt) (vs:List V) (H:Hp) (Q:VK) (E:XK):Prop
 |mk (A:List Addr) (ds:List Dt) (L:Liv H A) (r:Reps K (hid H A) ds vs) (z:sms ds) (q:Res K cls A E (F ds) H Q):spM K cls F vs H Q E
theorem ev_cal {k:Nat}{x:Str}{ps:List Str}{p:Pos}{CX:CXT} (C:Cal X.prog X.w X.K X.mg X.base CX k x ps (spM X.K cls F')) (hr:Room k X.A) (hx:Passes CX X E) (ha:Av X cls E (a::es) fs) (hst:isStar a=false:=by rfl) (hg:Gl X x:=by rfl)
  (hdb:(x==("__debug__" : Str))=false:=by decide) (hpl:(backTo pos (starEach es X.env)).any (·.1)=false:=by rfl):Ev X cls E (.Call (.Name x p) (a::es) [] pos) (pCall F' fs):=
 (pe_cal C hr hx ha hst hg hdb hpl).imp fun σ H Q ⟨O,A,ρ,F,q⟩=>by
 refine⟨O,A,ρ,F,Rg.bind q fun ds _ q1=>?_⟩
 intro vs H1 s1 r1 z1
 rw [List.append_nil]
 exact⟨A,ds,F.liv.mono s1,r1,z1,Res.mono q1 s1⟩
noncomputable def MtD (X:Cx) (cls:Nat->Addr) (E:XK) (T id:String) (m:Sel):Prop:=
 ∃r,MtR X id r/\(∀H d k x,m d=some k->Rep X.K H d x->tyV X.K T x H)/\∀A H Q d k x ds vs,m d=some k->Liv H A->Rep X.K (hid H A) d x->sm d->Reps X.K (hid H A) ds vs->sms ds->Res X.K cls A E (k ds) H Q->r x vs H Q
theorem t_bm {T:String}{m:Sel}{r:V->List V->Hp->VK->Prop} (h1:∀H d k x,m d=some k->Rep X.K H d x->tyV X.K T x H)
  (h2:∀A H Q d k x ds vs,m d=some k->Liv H A->Rep X.K (hid H A) d x->sm d->Reps X.K (hid H A) ds vs->sms ds->Res X.K cls A E (k ds) H Q->r x vs H Q) (σ:St) (H:Hp) (Q:VK) (q:tM X.K cls E (pMeth m f fs) σ H Q) :
  tBM X.K T r (tM X.K cls E f) (tMA X.K cls E fs) σ H Q:=by
 obtain⟨O,A,ρ,F,q⟩:=q
 refine⟨O,A,ρ,F,Rg.bind q fun d _ q1=>?_⟩
 intro v H1 s1 r1 z1
 have q1':=Res.mono (Q:=Q) q1 s1
 cases hk:m d with
 |none=>rw [hk] at q1'; exact(show False from q1').elim
 |some k=>
  rw [hk] at q1'
  have q2':Res X.K cls A E ((fs ρ).bd k) H1 Q:=q1'
  refine⟨h1 H1 d k v hk (r1.mono hid_same),O,A,ρ,F.mono s1,Rg.bind q2' fun ds _ q2=>?_⟩
  intro vs H2 s2 r2 z2
  exact h2 A H2 Q d k v ds vs hk ((F.liv.mono s1).mono s2) (r1.mono (s2.hid A)) z1 r2 z2 (Res.mono q2 s2)
theorem ev_bm {T name id:String}{m:Sel}{apos:Pos}{o:Expr} (pa:PlainAttrs T) (slot:Slot T name id) (hty:typeOf (.builtin id)=pure (.type "method_descriptor")) (hm:MtD X cls E T id m) (ho:Ev X cls E o f) (ha:Av X cls E (a::es) fs)
  (hbase:attributeBase o name X.env (eval o X.env)=eval o X.env:=by rfl)
  (hfew:((backTo pos (starEach (a::es) X.env)).all (fun x=>!x.1)&&(backToKw pos (keywordEach [] X.env)).all (fun x=>x.1.isSome)
   && decide ((a::es).length+([]:List Keyword).length+(if ([]:List Keyword).isEmpty then 0 else 1)<30))=true:=by rfl)
  (hline:(apos.endLine==pos.line)=true:=by rfl) (hs:starEach (a::es) X.env=(false,eval a X.env)::starEach es X.env:=by rfl) (hplain:(backTo pos (starEach es X.env)).any (·.1)=false:=by rfl) :
  Ev X cls E (.Call (.Attribute o name apos) (a::es) [] pos) (pMeth m f fs):=by
 obtain⟨r,h0,h1,h2⟩:=hm
 exact(pe_bm pa slot hty h0 ho ha hbase hfew hline hs hplain).imp (t_bm h1 h2)
theorem strs_rep {K:PySem.W.Frag}{H:Hp}:∀{ds:List Dt}{ls:List (List Nat)}{xs:List V},strsM ds=some ls->Reps K H ds xs->xs=ls.map S
 | [],bs,xs,h,r=>by
  simp only [Reps] at r
  simp only [strsM,Option.some.injEq] at h
  subst r h
  rfl
 |d::ds,bs,xs,h,r=>by
  simp only [Reps] at r
  obtain⟨x,t,rfl,r1,r2⟩:=r
  cases d with
  |str l=>
   simp only [strsM,Option.map_eq_some_iff] at h
   obtain⟨cs,hc,rfl⟩:=h
   rw [strs_rep hc r2,List.map_cons]
   simp only [Rep] at r1
   rw [r1]
  |_=>simp [strsM] at h
theorem md_join:MtD X cls E "str" "str.join" mJoin:=by
 refine⟨_,mt_joinS,fun H d k x hk r=>?_,fun A H Q d k x ds vs hk L r z rs zs q=>?_⟩
 ·unfold mJoin at hk
  split at hk
  ·rw [repS r]; rfl
  ·cases hk
 ·unfold mJoin at hk
  split at hk
  ·injection hk with hk
   subst hk
   unfold joinM at q
   split at q
   ·rename_i l
    obtain⟨v,rfl,rv⟩:=reps1 rs
    obtain⟨p,xs,rfl,h1,h2⟩:=repL rv
    unfold jnM at q
    split at q
    ·rename_i ls hls
     rw [strs_rep hls h2] at h1
     obtain⟨h,q⟩:=szS_of q
     exact⟨p,ls,repS r,rfl,hid_same.seq h1,h,q⟩
    ·exact(show False from q).elim
   ·exact(show False from q).elim
  ·cases hk
structure ItD (K:PySem.W.Frag) (A:List Addr) (J:It) (ds:List Dt) (H1:Hp):Prop where
 go:∀i H,i<ds.length->Same (hid H1 A) H->J.go i H
 stop:∀H,Same (hid H1 A) H->J.stop ds.length H
 yl:∀i H x H' A',i<ds.length->Liv H A'->Same (hid H1 A) (hid H A')->J.yld i H x H'->Same H H'/\∃d,ds[i]?=some d/\Rep K (hid H' A') d x
 small:sms ds
 few:ds.length<=10000
inductive iM (K:PySem.W.Frag) (cls:Nat->Addr) (E:XK) (ι:IM) (σ:St) (H:Hp) (R:It->Hp->Prop):Prop
 |mk (O A:List Addr) (ρ:Rho) (F:Fit K O A ρ σ H) (q:Rg cls E (ι ρ) H fun ds=>∀J H',Same H H'->ItD K A J ds H'->R J H'):iM K cls E ι σ H R
noncomputable abbrev Iv (X:Cx) (cls:Nat->Addr) (E:XK) (tg e:Expr) (ι:IM):Prop:=PI X tg e (iM X.K cls E ι)
theorem PI.imp {tg e:Expr}{t t':TI} (h:PI X tg e t') (i:∀σ H R,t σ H R->t' σ H R):PI X tg e t:=fun pins s σ H R I hw=>h pins s σ H R I (i σ H R hw)
theorem PI.or {tg e:Expr}{t t':TI} (h:PI X tg e t) (h':PI X tg e t'):PI X tg e (fun σ H R=>t σ H R∨t' σ H R):=fun pins s σ H R I hw=>by
 rcases hw with hw | hw
 ·exact h pins s σ H R I hw
 ·exact h' pins s σ H R I hw
theorem itd_list {K:PySem.W.Frag}{A:List Addr}{a:Addr}{ds:List Dt}{xs:List V}{H1:Hp} (h1:SqL K (hid H1 A) a xs) (h2:Reps K (hid H1 A) ds xs) (z:sms ds) (zl:ds.length<=10000):ItD K A (Itl K a) ds H1:=by
 have hl:=h2.length
 refine⟨fun i H hi s=>⟨xs,xs[i]'(by omega),s.seq h1,by simp⟩,fun H s=>⟨xs,s.seq h1,by omega⟩,fun i H x H' A' hi L s y=>?_,z,zl⟩
 obtain⟨e,hx⟩:=y
 subst e
 have hx':=hx xs ((s.trans hid_same).seq h1)
 obtain⟨d,hd,rd⟩:=h2.get hx'
 exact⟨.refl _,d,hd,rd.mono s⟩
theorem itd_tup {K:PySem.W.Frag}{A:List Addr}{a:Addr}{ds:List Dt}{xs:List V}{H1:Hp} (h1:SqT K (hid H1 A) a xs) (h2:Reps K (hid H1 A) ds xs) (z:sms ds) (zl:ds.length<=10000):ItD K A (Itt K a) ds H1:=by
 have hl:=h2.length
 refine⟨fun i H hi s=>⟨xs,xs[i]'(by omega),s.seqT h1,by simp⟩,fun H s=>⟨xs,s.seqT h1,by omega⟩,fun i H x H' A' hi L s y=>?_,z,zl⟩
 obtain⟨e,hx⟩:=y
 subst e
 have hx':=hx xs ((s.trans hid_same).seqT h1)
 obtain⟨d,hd,rd⟩:=h2.get hx'
 exact⟨.refl _,d,hd,rd.mono s⟩
theorem itd_f {K:PySem.W.Frag}{A:List Addr}{ds:List Dt}{xs:List V}{H1:Hp} (h2:Reps K (hid H1 A) ds xs) (z:sms ds) (zl:ds.length<=10000):ItD K A (Itf xs) ds H1:=by
 have hl:=h2.length
 refine⟨fun i H hi s=>by show i<xs.length; omega,fun H s=>by show xs.length<=ds.length; omega,fun i H x H' A' hi L s y=>?_,z,zl⟩
 obtain⟨e,hx⟩:=y
 subst e
 obtain⟨d,hd,rd⟩:=h2.get hx
 exact⟨.refl _,d,hd,rd.mono s⟩
theorem iv_of {tg e:Expr} (he:Ev X cls E e f):Iv X cls E tg e (iOf f):=by
 refine((pi_list he).or ((pi_tup he).or (pi_str he))).imp fun σ H R h_=>?_
 obtain⟨O,A,ρ,F,q⟩:=h_
 cases hm:f ρ with
 |bad=>
  unfold iOf at q
  rw [hm] at q
  exact(show False from q).elim
 |ex c=>
  refine .inl ⟨O,A,ρ,F,?_⟩
  unfold iOf at q
  rw [hm] at q ⊢
  exact q
 |ok d=>
  have q':Rg cls E (seqM d) H fun ds=>∀J H',Same H H'->ItD X.K A J ds H'->R J H':=by
   unfold iOf at q
   rw [hm] at q
   exact q
  cases d with
  |lst l=>
   refine .inl ⟨O,A,ρ,F,?_⟩
   rw [hm]
   intro v H1 s1 r1 z1
   obtain⟨p,xs,rfl,h1,h2⟩:=repL r1
   exact⟨p,rfl,⟨xs,hid_same.seq h1⟩,q' _ H1 s1 (itd_list h1 h2 z1.2 z1.1)⟩
  |tup l=>
   refine .inr (.inl ⟨O,A,ρ,F,?_⟩)
   rw [hm]
   intro v H1 s1 r1 z1
   obtain⟨p,xs,rfl,h1,h2⟩:=repT r1
   exact⟨p,rfl,⟨xs,hid_same.seqT h1⟩,q' _ H1 s1 (itd_tup h1 h2 z1.2 z1.1)⟩
  |str l=>
   refine .inr (.inr ⟨O,A,ρ,F,?_⟩)
   rw [hm]
   intro v H1 s1 r1 z1
   exact⟨l,repS r1,q' _ H1 s1 (itd_f (reps_sgs l) (sms_sgD l) (by rw [sgD,List.length_map]; exact z1))⟩
  |_=>exact(show False from q').elim
theorem itd_r {K:PySem.W.Frag}{A:List Addr}{lo hi:Int}{H1:Hp} (zl:(hi - lo).toNat<=10000):ItD K A (Itr lo (hi - lo).toNat) (rngD lo hi) H1:=by
 have hl:(rngD lo hi).length=(hi - lo).toNat:=by simp [rngD]
 refine⟨fun i H hi s=>by show i<(_:Nat); omega,fun H s=>by show (_:Nat)<=_; omega,fun i H x H' A' hi' L s y=>?_,sms_of fun d hd=>?_,by omega⟩
 ·obtain⟨e,hx⟩:=y
  subst e hx
  refine⟨.refl _,.int (lo+(i:Nat)),?_,rep_int⟩
  rw [hl] at hi'
  simp [rngD,hi']
 ·obtain⟨k,_,rfl⟩:=List.mem_map.mp hd
  trivial
theorem iv_range1 {tg:Expr}{p:Pos} (hg:Gl X "range") (hm:X.mg "range" = none) (ha:Av X cls E [a] fs) (hs:starEach [a] X.env=[(false,eval a X.env)]:=by rfl):Iv X cls E tg (.Call (.Name "range" p) [a] [] pos) (iBy rng1M fs):=
 (pi_range1 hg hm ha hs).imp fun σ H R ⟨O,A,ρ,F,q⟩=>by
 refine⟨O,A,ρ,F,Rg.bind q fun ds hds q1=>?_⟩
 clear hds
 intro vs H1 s1 r1 z1
 unfold rng1M at q1
 split at q1
 ·rename_i n
  split at q1
  ·rename_i hn
   obtain⟨v,rfl,rv⟩:=reps1 r1
   refine⟨n,by rw [repI rv],by omega,by omega,?_⟩
   have e:n.toNat=(n - 0).toNat:=by omega
   rw [e]
   exact q1 _ H1 s1 (itd_r (by omega))
  ·exact(show False from q1).elim
 ·exact(show False from q1).elim
end
inductive gM (K:PySem.W.Frag) (g:GM) (v:V) (σ:St) (H:Hp) (Q:St->Hp->Prop):Prop
 |mk (O A:List Addr) (ρ:Rho) (d:Dt) (F:Fit K O A ρ σ H) (r:Rep K (hid H A) d v) (z:sm d) (ρ':Rho) (e:g d ρ=.ok ρ') (q:∀σ',Fit K O A ρ' σ' H->Q σ' H):gM K g v σ H Q
inductive gsM (K:PySem.W.Frag) (g:List Dt->Rho->M Rho) (vs:List V) (σ:St) (H:Hp) (Q:St->Hp->Prop):Prop
 |mk (O A:List Addr) (ρ:Rho) (ds:List Dt) (F:Fit K O A ρ σ H) (r:Reps K (hid H A) ds vs) (z:sms ds) (ρ':Rho) (e:g ds ρ=.ok ρ') (q:∀σ',Fit K O A ρ' σ' H->Q σ' H):gsM K g vs σ H Q
theorem PG.imp {X:Cx}{e:Expr}{t t':TG} (h:PG X e t') (i:∀v σ H Q,t v σ H Q->t' v σ H Q):PG X e t:=fun pins s σ H v u Q I r hw=>h pins s σ H v u Q I r (i v σ H Q hw)
theorem PGs.imp {X:Cx}{e:List Expr}{t t':TGs} (h:PGs X e t') (i:∀v σ H Q,t v σ H Q->t' v σ H Q):PGs X e t:=fun pins s σ H v u Q I r hw=>h pins s σ H v u Q I r (i v σ H Q hw)
theorem Fit.put {K:PySem.W.Frag}{O A:List Addr}{ρ:Rho}{σ:St}{H:Hp} (F:Fit K O A ρ σ H) (i:Nat){d:Dt}{v:V} (r:Rep K (hid H A) d v) (z:sm d):Fit K O A (putV i d ρ) (σ.set i (some v)) H:=
 F.set F.liv F.sub (.refl _) (fun _ h _=>⟨h,rfl⟩) (fun _ h h'=>⟨h,h',rfl⟩) (.inl ⟨d,rfl,r,z⟩)
section
variable {X:Cx}{cls:Nat->Addr}{E:XK}{a b c:Expr}{f g h:Rho->M Dt}{pos:Pos}{fs:Rho->M (List Dt)}{es:List Expr}
theorem gv_name {i:Nat}{x:Str} (h:PG X (.Name x pos) (gName i)):PG X (.Name x pos) (gM X.K (gNm i)):=h.imp fun v σ H Q h_=>by
 obtain⟨O,A,ρ,d,F,r,z,ρ',e,q⟩:=h_
 cases e
 exact q _ (F.put i r z)
theorem gvs_nil:PGs X [] (gsM X.K gZn):=pgs_nil.imp fun v σ H Q h_=>by
 obtain⟨O,A,ρ,ds,F,r,z,ρ',e,q⟩:=h_
 cases ds with
 |nil=>
  cases e
  simp only [Reps] at r
  exact⟨r,q _ F⟩
 |cons d ds=>cases e
theorem gvs_cons {g:GM}{gs:List Dt->Rho->M Rho} (h1:PG X a (gM X.K g)) (h2:PGs X es (gsM X.K gs)) (hs:(assignEach (a::es) X.env).map (·.2)=assign a X.env::(assignEach es X.env).map (·.2):=by rfl):PGs X (a::es) (gsM X.K (gZc g gs)):=(pgs_cons h1 h2 hs).imp fun v σ H Q h_=>by
 obtain⟨O,A,ρ,ds,F,r,z,ρ',e,q⟩:=h_
 cases ds with
 |nil=>cases e
 |cons d ds=>
  simp only [Reps] at r
  obtain⟨x,t,rfl,r1,r2⟩:=r
  simp only [gZc] at e
  cases hg:g d ρ with
  |ok ρ1=>
   rw [hg] at e
   exact⟨x,t,rfl,O,A,ρ,d,F,r1,z.1,ρ1,hg,fun σ1 F1=>⟨O,A,ρ1,ds,F1,r2,z.2,ρ',e,q⟩⟩
  |ex c=>rw [hg] at e; cases e
  |bad=>rw [hg] at e; cases e
noncomputable def gTupL (K:PySem.W.Frag) (n:Nat) (t:TGs):TG:=fun v σ H Q=>∃a xs,v=.ref a/\SqL K H a xs/\xs.length=n/\t xs σ H Q
theorem pg_tupL {k:Nat}{t:TGs}{n:Nat} (hc:X.calm=true) (h:PGs X es t) (hn:(assignEach es X.env).length=n) (hst:(assignEach es X.env).findIdx? (·.1)=none):PG X (.Tuple es k pos) (gTupL X.K n t):=by
 intro pins s σ H v u Q I r hw
 obtain⟨a,xs,e1,hq,hl,hw⟩:=hw
 subst e1
 cases r
 obtain⟨its,rv,pl,hz⟩:=I.list hq
 rw [assign_Tuple]
 refine wpAny_bind (wpAny_standAt ?_)
 unfold unpack
 rw [hst,show (assignEach es X.env).length=its.toArray.size by simp [hn,← hl,rv.length]]
 refine wpAny_bind (wpAny_holding (kun_itemsOf (I.ok.hd hc) pl.isList fun h' hx=>?_))
 have I1:Inv X pins σ H {s with heap:=h'}:=I.kept (t':=s.toks) fun b o e=>hx b o (Nat.ne_of_lt (Heap.lt_size e)) e
 exact h pins _ σ H xs _ Q I1 (by simpa using rv) hw
theorem PG.or {e:Expr}{t t':TG} (h:PG X e t) (h':PG X e t'):PG X e (fun v σ H Q=>t v σ H Q∨t' v σ H Q):=fun pins s σ H v u Q I r hw=>by
 rcases hw with hw | hw
 ·exact h pins s σ H v u Q I r hw
 ·exact h' pins s σ H v u Q I r hw
theorem gv_tup {k n:Nat}{gs:List Dt->Rho->M Rho} (hc:X.calm=true) (h:PGs X es (gsM X.K gs)) (hn:(assignEach es X.env).length=n:=by rfl) (hst:(assignEach es X.env).findIdx? (·.1)=none:=by rfl):PG X (.Tuple es k pos) (gM X.K (gTp n gs)):=by
 refine((pg_tup hc h hn hst).or (pg_tupL hc h hn hst)).imp fun v σ H Q h_=>?_
 obtain⟨O,A,ρ,d,F,r,z,ρ',e,q⟩:=h_
 cases d with
 |tup ds=>
  simp only [gTp] at e
  split at e
  ·rename_i hl
   obtain⟨p,xs,rfl,h1,h2⟩:=repT r
   exact .inl ⟨p,xs,rfl,hid_same.seqT h1,by rw [← h2.length]; exact hl,O,A,ρ,ds,F,h2,z.2,ρ',e,q⟩
  ·cases e
 |lst ds=>
  simp only [gTp] at e
  split at e
  ·rename_i hl
   obtain⟨p,xs,rfl,h1,h2⟩:=repL r
   exact .inr ⟨p,xs,rfl,hid_same.seq h1,by rw [← h2.length]; exact hl,O,A,ρ,ds,F,h2,z.2,ρ',e,q⟩
  ·cases e
 |_=>cases e
end
noncomputable def GK (k:Nat) (g:GM):Prop:=∀d ρ ρ',g d ρ=.ok ρ'->ρ'.length=ρ.length/\∀i,k<=i->ρ'[i]?=ρ[i]?
noncomputable def GKs (k:Nat) (g:List Dt->Rho->M Rho):Prop:=∀d ρ ρ',g d ρ=.ok ρ'->ρ'.length=ρ.length/\∀i,k<=i->ρ'[i]?=ρ[i]?
theorem gk_nm {k i:Nat} (h:i<k):GK k (gNm i):=fun d ρ ρ' e=>by
 cases e
 refine⟨by simp [putV],fun j hj=>?_⟩
 unfold putV
 rw [List.getElem?_set_ne (by omega)]
theorem gks_nil {k:Nat}:GKs k gZn:=fun ds ρ ρ' e=>by
 cases ds with
 |nil=>cases e; exact⟨rfl,fun _ _=>rfl⟩
 |cons d ds=>cases e
theorem gks_cons {k:Nat}{g:GM}{gs:List Dt->Rho->M Rho} (h1:GK k g) (h2:GKs k gs):GKs k (gZc g gs):=fun ds ρ ρ' e=>by
 cases ds with
 |nil=>cases e
 |cons d ds=>
  simp only [gZc] at e
  cases hg:g d ρ with
  |ok ρ1=>
   rw [hg] at e
   obtain⟨a1,a2⟩:=h1 d ρ ρ1 hg
   obtain⟨b1,b2⟩:=h2 ds ρ1 ρ' e
   exact⟨b1.trans a1,fun i hi=>(b2 i hi).trans (a2 i hi)⟩
  |ex c=>rw [hg] at e; cases e
  |bad=>rw [hg] at e; cases e
theorem gk_tp {k n:Nat}{gs:List Dt->Rho->M Rho} (h:GKs k gs):GK k (gTp n gs):=fun d ρ ρ' e=>by
 cases d with
 |tup ds=>
  simp only [gTp] at e
  split at e
  ·exact h ds ρ ρ' e
  ·cases e
 |lst ds=>
  simp only [gTp] at e
  split at e
  ·exact h ds ρ ρ' e
  ·cases e
 |_=>cases e
theorem startR_len (k:Nat) (fr:List Nat) (ρ:Rho):(startR k fr ρ).length=k+fr.length:=by simp [startR]
theorem startR_no {k:Nat}{fr:List Nat}{ρ:Rho}{i:Nat} (h:i<k):(startR k fr ρ)[i]?=some .no:=by
 unfold startR
 rw [List.getElem?_append_left (by simpa using h)]
 simp [h]
theorem startR_val {k:Nat}{fr:List Nat}{ρ:Rho}{i:Nat}{b:Bd} (h:(startR k fr ρ)[i]?=some b):b=.no∨∃j m d,i=k+j/\fr[j]?=some m/\ρ[m]?=some (.val d)/\b=.val d:=by
 by_cases hi:i<k
 ·rw [startR_no hi] at h
  cases h
  exact .inl rfl
 ·unfold startR at h
  rw [List.getElem?_append_right (by simp; omega)] at h
  simp only [List.length_replicate,List.getElem?_map,Option.map_eq_some_iff] at h
  obtain⟨m,hm,hb⟩:=h
  unfold vOnly at hb
  split at hb
  ·rename_i d hd
   exact .inr ⟨i - k,m,d,by omega,hm,hd,hb.symm⟩
  ·exact .inl hb.symm
theorem Fit.startC {K:PySem.W.Frag}{O A:List Addr}{ρ:Rho}{σ:St}{H:Hp} (F:Fit K O A ρ σ H) (k:Nat) (fr:List Nat):Fit K O A (startR k fr ρ) (L2.startC k fr σ) H:=by
 have no:∀{i b},(startR k fr ρ)[i]?=some b->isOw b=true->False:=fun {i b} h o=>by
  rcases startR_val h with z | ⟨j,m,d',_,_,_,z⟩ <;> rw [z] at o <;> cases o
 refine⟨by rw [startR_len]; simp [L2.startC],F.liv,F.sub,fun i d h=>?_,fun i b h o=>(no h o).elim,fun i j b c v w _ h _ o=>(no h o).elim,fun i p x y h=>?_⟩
 rotate_left
 ·rcases startR_val h with z | ⟨j,m,d',_,_,_,z⟩ <;> cases z
 ·rcases startR_val h with z | ⟨j,m,d',rfl,hm,hd,z⟩
  ·cases z
  ·cases z
   obtain⟨v,h1,h2,h3⟩:=F.val m d hd
   refine⟨v,?_,h2,h3⟩
   unfold L2.startC
   rw [List.getElem?_append_right (by simp)]
   simp [hm,h1]
theorem Fit.back {K:PySem.W.Frag}{O A:List Addr}{ρ ρ0:Rho}{σ:St}{H:Hp} (F:Fit K O A ρ σ H) (hl:ρ.length=ρ0.length) (hv:∀(i:Nat) d,ρ0[i]?=some (.val d)->ρ[i]?=some (.val d)) (ho:∀(i:Nat) b,ρ0[i]?=some b->isOw b=true∨(∃p x y,b=.bor p x y)->False):Fit K O A ρ0 σ H:=
 ⟨by rw [← hl]; exact F.len,F.liv,F.sub,fun i d h=>F.val i d (hv i d h),fun i b h o=>(ho i b h (.inl o)).elim,fun i _ b _ _ _ _ h _ o=>(ho i b h (.inl o)).elim,fun i p x y h=>(ho i _ h (.inr ⟨p,x,y,rfl⟩)).elim⟩
theorem Liv.cons {H:Hp}{A:List Addr}{D:Addr}{o:HO} (h:Liv H A) (hD:H D=some o):Liv H (D::A):=fun a ha=>by
 rcases List.mem_cons.mp ha with z | z
 ·subst z; rw [hD]; simp
 ·exact h a z
theorem hid_upd_in {H:Hp}{A:List Addr}{D:Addr}{o:HO} (h:D∈A):hid (upd H D o) A=hid H A:=by
 funext b
 unfold hid
 by_cases hb:b∈A
 ·rw [if_pos hb,if_pos hb]
 ·rw [if_neg hb,if_neg hb]
  exact upd_ne fun z=>hb (z ▸ h)
theorem comM_cons {g:GM}{tc:Rho->M Bool}{te:Rho->M Dt}{ρ0:Rho}{d:Dt}{ds:List Dt}{xs:List Dt} (h:comM g tc te ρ0 (d::ds)=.ok xs) :
  ∃ρ1,g d ρ0=.ok ρ1/\((tc ρ1=.ok false/\comM g tc te ρ0 ds=.ok xs)∨(tc ρ1=.ok true/\∃x ys,te ρ1=.ok x/\comM g tc te ρ0 ds=.ok ys/\xs=x::ys)):=by
 simp only [comM] at h
 cases hg:g d ρ0 with
 |ok ρ1=>
  rw [hg] at h
  simp only [bd_ok] at h
  refine⟨ρ1,rfl,?_⟩
  cases ht:tc ρ1 with
  |ok b=>
   rw [ht] at h
   simp only [bd_ok] at h
   cases b with
   |false=>exact .inl ⟨rfl,h⟩
   |true=>
    simp only [if_true] at h
    cases hx:te ρ1 with
    |ok x=>
     rw [hx] at h
     simp only [bd_ok] at h
     cases hr:comM g tc te ρ0 ds with
     |ok ys=>rw [hr] at h; simp only [bd_ok] at h; cases h; exact .inr ⟨rfl,x,ys,rfl,rfl,rfl⟩
     |ex c=>rw [hr] at h; cases h
     |bad=>rw [hr] at h; cases h
    |ex c=>rw [hx] at h; cases h
    |bad=>rw [hx] at h; cases h
  |ex c=>rw [ht] at h; cases h
  |bad=>rw [ht] at h; cases h
 |ex c=>rw [hg] at h; cases h
 |bad=>rw [hg] at h; cases h
section
variable {X:Cx}{cls:Nat->Addr}{E:XK}{a b c:Expr}{f:Rho->M Dt}{pos:Pos}{scope:Scope}{N:List Str}{k:Nat}{fr:List Nat}{tg iter elt:Expr}{ifs:List Expr}{ι:IM}{g:GM}{tc:Rho->M Bool}{te:Rho->M Dt}
theorem tv_none:PTs X [] (tMB X.K cls E tYs):=fun pins s σ H Q I ⟨O,A,ρ,F,q⟩=>pts_nil pins s σ H Q I (q H (.refl _))
theorem tv_one (h:Tv X cls E c tc):PTs X [c] (tMB X.K cls E tc):=pts_one h
end
noncomputable def Sto (K:PySem.W.Frag) (Hin:Hp) (A₀:List Addr) (os:List Addr) (ρ:Rho) (σ:St) (H:Hp):Prop:=Same Hin H/\Liv Hin A₀/\(∀a∈os,Hin a=none)/\Fit K os (os++A₀) ρ σ H
inductive Stt (K:PySem.W.Frag) (Hin:Hp) (A₀:List Addr) (ρ:Rho) (σ:St) (H:Hp):Prop
 |mk (os:List Addr) (S:Sto K Hin A₀ os ρ σ H):Stt K Hin A₀ ρ σ H
noncomputable def SRes (K:PySem.W.Frag) (cls:Nat->Addr) (E:XK) (Hin:Hp) (A₀:List Addr) (m:M Fl) (D:Ends):Prop:=match m with
 |.ok (.nx ρ)=>∀σ H,Stt K Hin A₀ ρ σ H->D.nx σ H
 |.ok (.bk ρ)=>∀σ H,Stt K Hin A₀ ρ σ H->D.bk σ H
 |.ok (.ct ρ)=>∀σ H,Stt K Hin A₀ ρ σ H->D.ct σ H
 |.ok (.rt d)=>∀v H,Same Hin H->Rep K (hid H A₀) d v->sm d->D.rt v H
 |.ex c=>∀H,Same Hin H->E (.ref (cls c)) none H
 |.bad=>False
inductive sM (K:PySem.W.Frag) (cls:Nat->Addr) (E:XK) (f:SM) (D:Ends) (σ:St) (H:Hp):Prop
 |mk (Hin:Hp) (A₀:List Addr) (ρ:Rho) (S:Stt K Hin A₀ ρ σ H) (q:SRes K cls E Hin A₀ (f ρ) D):sM K cls E f D σ H
noncomputable abbrev Sv (X:Cx) (cls:Nat->Addr) (E:XK) (st:Stmt) (f:SM):Prop:=PS X st (sM X.K cls E f)
noncomputable abbrev Bv (X:Cx) (cls:Nat->Addr) (E:XK) (st:List Stmt) (f:SM):Prop:=PSs X st (sM X.K cls E f)
theorem PS.imp {X:Cx}{e:Stmt}{t t':TS} (h:PS X e t') (i:∀D σ H,t D σ H->t' D σ H):PS X e t:=fun pins s σ H D I hw=>h pins s σ H D I (i D σ H hw)
theorem PSs.imp {X:Cx}{e:List Stmt}{t t':TS} (h:PSs X e t') (i:∀D σ H,t D σ H->t' D σ H):PSs X e t:=fun pins s σ H D I hw=>h pins s σ H D I (i D σ H hw)
theorem PS.nox {X:Cx}{st:Stmt}{t:TS} (h:PS X.nox st t):PS X st t:=fun pins s σ H D I hw=>
 wpAny_mono (h pins s σ H D (I.wish _) hw) (fun _ _ q=>q.unwish) fun _ _ z=>False.elim z
section
variable {K:PySem.W.Frag}{cls:Nat->Addr}{E:XK}{Hin:Hp}{A₀:List Addr}{ρ:Rho}{σ:St}{H:Hp}{D:Ends}
theorem hid_app {H:Hp}{A B:List Addr}:Same (hid H (A++B)) (hid H B):=fun b o e=>by
 obtain⟨h1,h2⟩:=of_hid e
 rw [hid_ne fun z=>h1 (List.mem_append_right _ z)]
 exact h2
theorem res_of {m:M Dt}{k:Dt->M Fl}{os:List Addr}{Q:VK} (s0:Same Hin H) (h:SRes K cls E Hin A₀ (m.bd k) D)
  (f:∀d v H',m=.ok d->SRes K cls E Hin A₀ (k d) D->Same H H'->Rep K (hid H' (os++A₀)) d v->sm d->Q v H'):Res K cls (os++A₀) E m H Q:=by
 cases m with
 |ok d=>exact fun v H' s r z=>f d v H' rfl h s r z
 |ex c=>exact fun H' s=>h H' (s0.trans s)
 |bad=>exact h
theorem resB_of {m:M Bool}{k:Bool->M Fl}{Q:Bool->Hp->Prop} (s0:Same Hin H) (h:SRes K cls E Hin A₀ (m.bd k) D)
  (f:∀d H',m=.ok d->SRes K cls E Hin A₀ (k d) D->Same H H'->Q d H'):ResB cls E m H Q:=by
 cases m with
 |ok d=>exact fun H' s=>f d H' rfl h s
 |ex c=>exact fun H' s=>h H' (s0.trans s)
 |bad=>exact h
end
section
variable {X:Cx}{cls:Nat->Addr}{E:XK}{a b c:Expr}{f g h:Rho->M Dt}{pos:Pos}{st:Stmt}{rest:List Stmt}{s t:SM}
theorem bv_nil:Bv X cls E [] sSkip:=pss_nil.imp fun D σ H ⟨Hin,A₀,ρ,S,q⟩=>q σ H S
theorem t_seq {D:Ends}{σ:St}{H:Hp} (q:sM X.K cls E (sSeq s t) D σ H):tSeq (sM X.K cls E s) (sM X.K cls E t) D σ H:=by
 obtain⟨Hin,A₀,ρ,S,q⟩:=q
 refine⟨Hin,A₀,ρ,S,?_⟩
 unfold sSeq at q
 cases hm:s ρ with
 |ok fl=>
  rw [hm] at q
  cases fl with
  |nx ρ'=>exact fun σ' H' S'=>⟨Hin,A₀,ρ',S',q⟩
  |bk ρ'=>exact q
  |ct ρ'=>exact q
  |rt d=>exact q
 |ex c=>rw [hm] at q; exact q
 |bad=>rw [hm] at q; exact q
theorem bv_cons (h1:Sv X cls E st s) (h2:Bv X cls E rest t):Bv X cls E (st::rest) (sSeq s t):=(pss_cons h1 h2).imp fun D σ H q=>t_seq q
theorem bv_one (h1:Sv X cls E st s):Bv X cls E [st] s:=pss_one h1
theorem filt_sub {os A₀:List Addr}{p:Addr->Bool}:∀b,b∈os.filter p++A₀->b∈os++A₀:=fun b z=>by
 rcases List.mem_append.mp z with z | z
 ·exact List.mem_append_left _ (List.mem_filter.mp z).1
 ·exact List.mem_append_right _ z
theorem Sto.let {K:PySem.W.Frag}{Hin:Hp}{A₀ os:List Addr}{ρ:Rho}{σ:St}{H H':Hp}{i:Nat}{a:Addr}{b:Bd}{d:Dt} (S:Sto K Hin A₀ os ρ σ H) (hi:ρ[i]?=some b) (hv:σ[i]?=some (some (.ref a))) (ho:isOw b=true) (hf:fpOf H (.ref a) b=[a])
  (hH:∀x,x≠a->H' x=H x) (ha:H' a≠none) (r:∀B,a∉B->(∀x,x∈B->x∈os++A₀)->Rep K (hid H' B) d (.ref a)) (z:sm d):Stt K Hin A₀ (ρ.set i (.val d)) σ H':=by
 obtain⟨s0,L0,fr,F⟩:=S
 obtain⟨v,h1,h2,h3⟩:=F.ow i b hi ho
 rw [hv] at h1
 cases h1
 have hao:a∈os:=h3 a (by rw [hf]; exact List.mem_cons_self)
 have haA:a∉A₀:=fun z=>L0 a z (fr a hao)
 have hfp:fpAt ρ σ H i=[a]:=by rw [fpAt_is hi hv ho]; exact hf
 refine⟨os.filter fun b=>decide (b≠a),fun b o e=>?_,L0,fun b hb=>fr b (List.mem_filter.mp hb).1,?_⟩
 ·rw [hH b (ne_of_none e (fr a hao))]
  exact s0 b o e
 ·have F2:=F.set (i:=i) (v':=.ref a) (b':=.val d) (O':=os.filter fun b=>decide (b≠a)) (A':=(os.filter fun b=>decide (b≠a))++A₀) (H':=H') (fun b hb=>?_) (fun b hb=>List.mem_append_left _ hb) (fun b o e=>?_) (fun b hb hn=>?_) (fun b hb hn=>⟨?_,fun z=>hn (List.mem_filter.mp z).1,hH b fun z=>hn (z ▸ hao)⟩) (.inl ⟨d,rfl,r _ ?_ filt_sub,z⟩)
  ·rwa [set_same hv] at F2
  ·by_cases hz:b=a
   ·rw [hz]; exact ha
   ·rw [hH b hz]; exact F.liv b (filt_sub b hb)
  ·obtain⟨e1,e2⟩:=of_hid e
   have hba:b≠a:=fun z=>e1 (by rw [z]; exact List.mem_append_left _ hao)
   rw [hid_ne fun z=>e1 (filt_sub b z),hH b hba]
   exact e2
  ·rw [hfp] at hn
   have hba:b≠a:=by simpa using hn
   exact⟨List.mem_filter.mpr ⟨hb,by simpa using hba⟩,hH b hba⟩
  ·rcases List.mem_append.mp hb with z | z
   ·exact(hn z).elim
   ·exact List.mem_append_right _ z
  ·intro z
   rcases List.mem_append.mp z with z | z
   ·simp at z
   ·exact haA z
theorem Stt.rel {K:PySem.W.Frag}{Hin:Hp}{A₀:List Addr}{ρ:Rho}{σ:St}{H:Hp} (S:Stt K Hin A₀ ρ σ H) (i:Nat) (hno:∀ks,ρ[i]?≠some (.owd ks)):Stt K Hin A₀ (L2.rel i ρ) σ H:=by
 unfold L2.rel relB
 split
 ·rename_i ds hd
  obtain⟨os,S⟩:=S
  obtain⟨a,xs,h1,h2,h3,h4,h5,h6⟩:=S.2.2.2.own i ds hd
  refine S.let hd h1 rfl rfl (fun _ _=>rfl) (by rw [h3]; simp) (fun B hB hs=>rep_lst (by rw [hid_ne hB]; exact h3) (h4.mono fun b o e=>?_)) ⟨h6,h5⟩
  obtain⟨e1,e2⟩:=of_hid e
  rw [hid_ne fun z=>e1 (hs b z)]
  exact e2
 ·rename_i ks hd
  exact(hno ks hd).elim
 ·exact S
theorem Inv.freeze {X:Cx}{pins:List (Addr×Obj)}{σ:St}{H:Hp}{s:Shared}{a:Addr}{kvs:List (Key×V)} (I:Inv X pins σ H s) (h:H a=some (.dK kvs)):∃o,Inv X pins σ (upd H a (.frz o (.dK kvs))) s:=by
 have ok:=I.hok a _ h
 obtain⟨z,na,vs,r,o,es,ep,g,x⟩:=id ok
 refine⟨o,?_⟩
 have:=I.write (x:=a) (e:=a) (o:=.frz o (.dK kvs)) (h':=s.heap) (t':=s.toks) (by rw [h]; exact True.intro) (.inl rfl) (fun _ _ _ q=>q) ⟨o,g⟩ ⟨g,z,na,vs,r,o,es,ep,g,x⟩
 exact this
theorem Stt.relD {K:PySem.W.Frag}{Hin:Hp}{A₀:List Addr}{ρ:Rho}{σ:St}{H:Hp}{i:Nat}{ds:List (List Nat×List Nat)} (S:Stt K Hin A₀ ρ σ H) (hd:ρ[i]?=some (.owd ds)) :
  ∃a,H a=some (.dK (dkv ds))/\∀o,Stt K Hin A₀ (ρ.set i (.val (.dic ds))) σ (upd H a (.frz o (.dK (dkv ds)))):=by
 obtain⟨os,S⟩:=S
 obtain⟨a,h1,h2,h3,h4⟩:=S.2.2.2.owd i ds hd
 exact⟨a,h3,fun ob=>S.let hd h1 rfl rfl (fun _ hx=>upd_ne hx) (by rw [upd_same]; simp) (fun B hB _=>rep_dic (o:=ob) (by rw [hid_ne hB]; exact upd_same)) h4⟩
theorem bv_rel (i:Nat) (h:Bv X cls E rest s):Bv X cls E rest (sRel i s):=fun pins sh σ H D I h_=>by
 obtain⟨Hin,A₀,ρ,S,q⟩:=h_
 by_cases hz:∃ks,ρ[i]?=some (.owd ks)
 ·obtain⟨ks,hk⟩:=hz
  obtain⟨a,h1,h2⟩:=S.relD hk
  obtain⟨o,I'⟩:=I.freeze h1
  refine h pins sh σ _ D I' ⟨Hin,A₀,_,h2 o,?_⟩
  unfold sRel L2.rel relB at q
  rw [hk] at q
  exact q
 ·exact h pins sh σ H D I ⟨Hin,A₀,L2.rel i ρ,S.rel i (fun ks e=>hz ⟨ks,e⟩),q⟩
theorem sv_ret (he:Ev X cls E a f):Sv X cls E (.Return (some a) pos) (sRet f):=(ps_ret he).imp fun D σ H ⟨Hin,A₀,ρ,⟨os,s0,L0,fr,F⟩,q⟩=>
 ⟨os,os++A₀,ρ,F,res_of s0 q fun d v H' _ q1 s' r z=>q1 v H' (s0.trans s') (r.mono hid_app) z⟩
theorem sv_drop (he:Ev X cls E a f) (hs:swapsWith a none pos.line X.env=pure false:=by rfl):Sv X cls E (.Expr a pos) (sDrop f):=(ps_expr he hs).imp fun D σ H ⟨Hin,A₀,ρ,⟨os,s0,L0,fr,F⟩,q⟩=>
 ⟨os,os++A₀,ρ,F,res_of s0 q fun d v H' _ q1 s' r z=>q1 σ H' ⟨os,s0.trans s',L0,fr,F.mono s'⟩⟩
theorem t_asgN {i:Nat}{te:TE} (ht:∀σ H Q,tM X.K cls E f σ H Q->te σ H Q){D:Ends}{σ:St}{H:Hp} (q:sM X.K cls E (sAsg f (gNm i)) D σ H):tAsg te (gName i) D σ H:=by
 obtain⟨Hin,A₀,ρ,⟨os,s0,L0,fr,F⟩,q⟩:=q
 refine ht σ H _ ⟨os,os++A₀,ρ,F,res_of s0 q fun d v H' _ q1 s' r z=>?_⟩
 exact q1 _ H' ⟨os,s0.trans s',L0,fr,(F.mono s').put i r z⟩
theorem sv_set {i:Nat}{x:Str}{pos':Pos} (hN:X.N.Nodup) (hi:X.N[i]?=some x) (hx:Loc X.env.scope x) (he:Ev X cls E a f) (hs:swapsWith a (some (.Name x pos')) pos.line X.env=pure false:=by rfl)
  (hf:X.fn x=true∨X.env.scope.names.lookup x=some .local:=by first | exact .inl rfl | exact .inr rfl | assumption):Sv X cls E (.Assign [.Name x pos'] a pos) (sAsg f (gNm i)):=(ps_set hN hi hx he hs hf).imp fun D σ H q=>t_asgN (fun _ _ _ z=>z) q
theorem sv_if {F G:SM}{tc:Rho->M Bool}{sa sb:List Stmt} (hc:Tv X cls E c tc) (ha:Bv X cls E sa F) (hb:Bv X cls E sb G):Sv X cls E (.If c sa sb pos) (sIf tc F G):=(ps_if hc ha hb).imp fun D σ H ⟨Hin,A₀,ρ,⟨os,s0,L0,fr,Ft⟩,q⟩=>
 ⟨os,os++A₀,ρ,Ft,resB_of s0 q fun b H' _ q1 s'=>by
  have S':Stt X.K Hin A₀ ρ σ H':=⟨os,s0.trans s',L0,fr,Ft.mono s'⟩
  cases b with
  |false=>
   simp only [Bool.false_eq_true,if_false] at q1 ⊢
   exact⟨Hin,A₀,ρ,S',q1⟩
  |true=>
   simp only [if_true] at q1 ⊢
   exact⟨Hin,A₀,ρ,S',q1⟩⟩
theorem sv_nox {st:Stmt} (h:Sv X.nox cls E0 st s):Sv X cls E st (fun ρ=>(s ρ).calm):=(PS.nox h).imp fun D σ H ⟨Hin,A₀,ρ,S,q⟩=>⟨Hin,A₀,ρ,S,by
 have q:SRes X.K cls E Hin A₀ (s ρ).calm D:=q
 cases hm:s ρ with
 |ok fl=>rw [hm] at q; cases fl <;> exact q
 |ex c=>rw [hm] at q; exact(show False from q).elim
 |bad=>rw [hm] at q; exact(show False from q).elim⟩
noncomputable abbrev Uv (X:Cx) (cls:Nat->Addr) (E:XK) (e:Expr) (f:Rho->M Unit):Prop:=PE X e (tMU X.K cls E f)
theorem uv_of (h:Ev X cls E a f):Uv X cls E a (uOf f):=PE.imp h fun σ H Q ⟨O,A,ρ,F,q⟩=>⟨O,A,ρ,F,Rg.bind q fun d _ q1 v H' s' _ _=>q1 v H' s'⟩
theorem sv_raise {x:Str}{np cpos:Pos}{cn:Nat}{fu:Rho->M Unit} (hc:X.calm=true) (R:Rz X E) (hg:Gl X x) (hm:X.mg x=some (.ref (cls cn))) (hK:excIn X.K (cls cn) veMro "ValueError.__new__" = true) (he:Uv X cls E a fu) (hst:isStar a=false:=by rfl)
  (hd:(x==("__debug__" : Str))=false:=by decide):Sv X cls E (.Raise (some (.Call (.Name x np) [a] [] cpos)) none pos) (sRz cn fu):=(ps_raise hc R hg hm hK he hst hd).imp fun D σ H ⟨Hin,A₀,ρ,⟨os,s0,L0,fr,F⟩,q⟩=>by
 refine⟨os,os++A₀,ρ,F,?_⟩
 unfold sRz at q
 cases hm':fu ρ with
 |ok u=>
  rw [hm'] at q
  exact fun v H' s'=>q H' (s0.trans s')
 |ex c=>rw [hm'] at q; exact fun H' s'=>q H' (s0.trans s')
 |bad=>rw [hm'] at q; exact q
theorem Sto.weak {K:PySem.W.Frag}{Hin Hin':Hp}{A₀ os:List Addr}{ρ:Rho}{σ:St}{H:Hp} (h:Sto K Hin' A₀ os ρ σ H) (s:Same Hin Hin') (L:Liv Hin A₀):Sto K Hin A₀ os ρ σ H:=by
 refine⟨s.trans h.1,L,fun a ha=>?_,h.2.2.2⟩
 cases q:Hin a with
 |none=>rfl
 |some o=>
  have e:=s a o q
  rw [h.2.2.1 a ha] at e
  exact nomatch e
theorem t_for {ι:IM}{g:GM}{D:Ends}{σ:St}{H:Hp} (q:sM X.K cls E0 (sFor ι g s) D σ H):tFor (iM X.K cls E0 ι) (gM X.K g) (sM X.K cls E0 s) D σ H:=by
 obtain⟨Hin,A₀,ρ,⟨os,s0,L0,fr,F⟩,q⟩:=q
 refine⟨os,os++A₀,ρ,F,?_⟩
 unfold sFor at q
 cases hm:ι ρ with
 |ex c=>rw [hm] at q; exact fun H' s'=>q H' (s0.trans s')
 |bad=>rw [hm] at q; exact q
 |ok ds=>
  rw [hm] at q
  simp only [bd_ok] at q
  intro J H1 s1 hJ
  have sI:Same Hin (hid H1 os):=fun b o e=>by
   rw [hid_ne fun z=>by rw [fr b z] at e; cases e]
   exact s1 b o (s0 b o e)
  have L1:Liv (hid H1 os) A₀:=L0.mono sI
  have sJ:∀{H2},Same (hid H1 os) H2->Same (hid H1 (os++A₀)) H2:=fun s2 b o e=>by
   obtain⟨e1,e2⟩:=of_hid e
   refine s2 b o ?_
   rw [hid_ne fun z=>e1 (List.mem_append_left _ z)]
   exact e2
  refine⟨fun i m σ' H'=>i<=ds.length/\m=ds.length - i/\∃ρ',Stt X.K (hid H1 os) A₀ ρ' σ' H'/\SRes X.K cls E0 Hin A₀ (forM' g s (ds.drop i) ρ') D,
   ⟨ds.length,Nat.zero_le _,rfl,ρ,⟨os,hid_same,L1,fun a ha=>hid_in ha,F.mono s1⟩,q⟩,?_⟩
  rintro i m σ' H' ⟨hi,rfl,ρ',⟨os',s',L',fr',F'⟩,q'⟩
  by_cases hlt:i<ds.length
  ·refine .inr ⟨hJ.go i H' hlt (sJ s'),fun σ2 H2=>i+1<=ds.length/\∃ρ2,Stt X.K (hid H1 os) A₀ ρ2 σ2 H2/\SRes X.K cls E0 Hin A₀ (forM' g s (ds.drop (i+1)) ρ2) D,fun σ2 H2 ⟨h1,h2⟩=>⟨ds.length - (i+1),by omega,h1,rfl,h2⟩,fun x H2 y=>?_⟩
   have sA:Same (hid H1 (os++A₀)) (hid H' (os'++A₀)):=fun b o e=>by
    obtain⟨e1,e2⟩:=of_hid e
    have e3:hid H1 os b=some o:=by rw [hid_ne fun z=>e1 (List.mem_append_left _ z)]; exact e2
    rw [hid_ne]
    ·exact s' b o e3
    ·intro z
     rcases List.mem_append.mp z with z | z
     ·rw [fr' b z] at e3; cases e3
     ·exact e1 (List.mem_append_right _ z)
   obtain⟨sy,d,hd,rd⟩:=hJ.yl i H' x H2 (os'++A₀) hlt F'.liv sA y
   have hd0:ds.drop i=d::ds.drop (i+1):=by
    rw [List.drop_eq_getElem_cons hlt]
    congr 1
    have:=List.getElem?_eq_getElem hlt
    rw [hd] at this
    exact(Option.some.inj this).symm
   rw [hd0] at q'
   simp only [forM'] at q'
   cases hg:g d ρ' with
   |ex c=>rw [hg] at q'; exact(show False from q').elim
   |bad=>rw [hg] at q'; exact(show False from q').elim
   |ok ρ1=>
    rw [hg] at q'
    simp only [calm_ok,bd_ok] at q'
    refine⟨os',os'++A₀,ρ',d,F'.mono sy,rd,sms_mem hJ.small (List.mem_of_getElem? hd),ρ1,hg,fun σ2 F2=>?_⟩
    refine⟨hid H1 os,A₀,ρ1,⟨os',s'.trans sy,L',fr',F2⟩,?_⟩
    cases hs:s ρ1 with
    |ex c=>rw [hs] at q'; exact(show False from q').elim
    |bad=>rw [hs] at q'; exact(show False from q').elim
    |ok fl=>
     rw [hs] at q'
     simp only [calm_ok,bd_ok] at q'
     cases fl with
     |nx ρ2=>exact fun σ3 H3 S3=>⟨hlt,ρ2,S3,q'⟩
     |ct ρ2=>exact fun σ3 H3 S3=>⟨hlt,ρ2,S3,q'⟩
     |bk ρ2=>exact fun σ3 H3 ⟨os3,S3⟩=>q' σ3 H3 ⟨os3,S3.weak sI L0⟩
     |rt d=>exact fun v H3 s3 r z=>q' v H3 (sI.trans s3) r z
  ·have e:i=ds.length:=by omega
   subst e
   rw [List.drop_length] at q'
   exact .inl ⟨hJ.stop H' (sJ s'),q' σ' H' ⟨os',Sto.weak ⟨s',L',fr',F'⟩ sI L0⟩⟩
theorem sv_for0 {iter tg:Expr}{body:List Stmt}{ι:IM}{g:GM} (hc:X.calm=true) (hi:Iv X.nox cls E0 tg iter ι) (hg:PG X.nox tg (gM X.K g)) (hb:Bv X.nox cls E0 body s)
  (hs:∀x,foldedSetIterable iter X.env x=pure x:=by intro _; rfl):Sv X cls E (.For tg iter body [] pos) (sForC ι g s):=
 sv_nox (X:=X) ((ps_for (X:=X.nox) PassesOwn.never hc hi hg hb hs).imp fun D σ H q=>t_for q)
theorem fn_start {K:PySem.W.Frag}{A:List Addr}{ds:List Dt}{vs:List V}{H:Hp} (L:Liv H A) (r:Reps K (hid H A) ds vs) (z:sms ds) (n:Nat):Fit K [] A (ds.map Bd.val++List.replicate n .no) (vs.map some++List.replicate n none) H:=by
 have hl:=r.length
 have key:∀(i:Nat) b,(ds.map Bd.val++List.replicate n .no)[i]?=some b->b=.no∨∃d,b=.val d/\ds[i]?=some d:=fun i b h=>by
  by_cases hi:i<ds.length
  ·rw [List.getElem?_append_left (by simpa using hi)] at h
   simp only [List.getElem?_map,Option.map_eq_some_iff] at h
   obtain⟨d,h1,h2⟩:=h
   exact .inr ⟨d,h2.symm,h1⟩
  ·rw [List.getElem?_append_right (by simp; omega)] at h
   exact .inl (List.eq_of_mem_replicate (List.mem_of_getElem? h))
 have no:∀{i b},(ds.map Bd.val++List.replicate n .no)[i]?=some b->isOw b=true->False:=fun {i b} h o=>by
  rcases key i b h with e | ⟨d',e,hd⟩ <;> rw [e] at o <;> cases o
 refine⟨by simp [hl],L,(fun a z=>nomatch z),fun i d h=>?_,fun i b h o=>(no h o).elim,fun i j b c v w _ h _ o=>(no h o).elim,fun i p x y h=>?_⟩
 ·rcases key i _ h with e | ⟨d',e,hd⟩
  ·cases e
  ·cases e
   have hi:i<ds.length:=(List.getElem?_eq_some_iff.mp hd).1
   have hx:vs[i]?=some (vs[i]'(by omega)):=by simp
   obtain⟨d2,h1,h2⟩:=r.get hx
   rw [hd] at h1
   cases h1
   refine⟨_,?_,h2,sms_mem z (List.mem_of_getElem? hd)⟩
   rw [List.getElem?_append_left (by simp; omega)]
   simp
 ·rcases key i _ h with e | ⟨d',e,hd⟩ <;> cases e
end
section
variable {P:Program}{w:World}{K:PySem.W.Frag}{mg:Str->Option Value}{base:Heap}{cls:Nat->Addr}
theorem fn_ok {x qual:Str}{st:Stmt}{f:Addr}{fd:FuncData}{N ps:List Str}{k np n:Nat}{b:SM} (F:Fun K x qual st f fd) (S:FnScope N ps (defScope st)) (hp:ps.length=np) (hn:N.length=np+n)
  (hbody:∀(cdv:Value) (A:Around) (outer:List Env) (s:Shared) (H:Hp) (E:XK),Room k (A.deeper (envOfC qual (defScope st) s.heap.objs.size f cdv))->
   Rz (cxOf (CX1 P w) P w K mg base N qual (defScope st) f cdv A outer s H E) E->Bv (cxOf (CX1 P w) P w K mg base N qual (defScope st) f cdv A outer s H E) cls E (defBody st) b) (hf:ps=[lawS]->(defScope st).names.lookup lawS=some .local:=by first | assumption | decide +kernel) :
  FnOk P w K mg base (CX1 P w) (k+1) f fd ps (spM K cls (fnM np n b)):=by
 have len:∀vs H Q E,spM K cls (fnM np n b) vs H Q E->vs.length=np:=fun vs H Q E h_=>by
  obtain⟨A,ds,L,r,z,q⟩:=h_
  unfold fnM at q
  split at q
  ·rename_i hl
   rw [← r.length]
   exact hl
  ·exact(show False from q).elim
 refine F.okX S (fun vs H Q E h=>by rw [hp]; exact len vs H Q E h) fun cdv A outer s H vs Q E hr h R=>?_
 have hv:=len vs H Q E h
 refine⟨_,hbody cdv A outer s H E hr R,?_⟩
 obtain⟨B,ds,L,r,z,q⟩:=h
 refine⟨H,B,ds.map Bd.val++List.replicate n .no,⟨[],.refl _,L,(fun a z=>nomatch z),?_⟩,?_⟩
 ·have e:start N vs=vs.map some++List.replicate n none:=by
   unfold start
   rw [hn,hv,Nat.add_sub_cancel_left]
  rw [e]
  exact fn_start L r z n
 ·unfold fnM at q
  split at q
  ·cases hm:b (ds.map Bd.val++List.replicate n .no) with
   |ok fl=>
    rw [hm] at q
    cases fl with
    |nx ρ=>exact fun σ H' ⟨os,s',_,_,_⟩=>q .non H' s' rep_non trivial
    |rt d=>exact fun v H' s' r' z'=>q v H' s' r' z'
    |bk ρ=>exact(show False from q).elim
    |ct ρ=>exact(show False from q).elim
   |ex c=>rw [hm] at q; exact q
   |bad=>rw [hm] at q; exact q
  ·exact(show False from q).elim
end
theorem pass_no {P:Program}{w:World}{X:Cx}:Passes (CX1 P w) X E0:=fun pins σ H s e s' I hc=>by
 obtain⟨ea,C,H',B,a0,_,_,_,_,_,_,_,_,_,hE⟩:=hc
 exact hE.elim
section
variable {X:Cx}{cls:Nat->Addr}{E:XK}{a b c:Expr}{f g h:Rho->M Dt}{pos:Pos}{st:Stmt}{rest:List Stmt}{s t:SM}{fs:Rho->M (List Dt)}{es:List Expr}
theorem Sto.anew {K:PySem.W.Frag}{Hin:Hp}{A₀ os:List Addr}{ρ:Rho}{σ:St}{H:Hp}{i:Nat}{p:Addr}{o:HO}{b:Bd} (S:Sto K Hin A₀ os ρ σ H) (hp:H p=none) (hf:fpOf (upd H p o) (.ref p) b=[p])
  (w:∀B,Same (hid H (os++A₀)) (hid (upd H p o) B)->OwAt K B (upd H p o) (.ref p) b):Sto K Hin A₀ (p::os) (ρ.set i b) (σ.set i (some (.ref p))) (upd H p o):=by
 obtain⟨s0,L0,fr,F⟩:=S
 have hpA:p∉os++A₀:=F.liv.fresh hp
 have s2:Same H (upd H p o):=.upd hp
 have sh:Same (hid H (os++A₀)) (hid (upd H p o) ((p::os)++A₀)):=fun b o' e=>by
  obtain⟨e1,e2⟩:=of_hid e
  have hb:b∉(p::os)++A₀:=fun z=>(List.mem_cons.mp z).elim (ne_of_none e2 hp) e1
  rw [hid_ne hb]
  exact s2 b o' e2
 refine⟨s0.trans s2,L0,fun a ha=>?_,F.set (fun a ha=>?_) (fun a ha=>List.mem_append_left _ ha) sh (fun a ha _=>⟨List.mem_cons_of_mem _ ha,upd_ne fun z=>hpA (z ▸ List.mem_append_left _ ha)⟩) (fun a ha hn=>⟨List.mem_cons_of_mem _ ha,fun z=>(List.mem_cons.mp z).elim (fun y=>hpA (y ▸ ha)) hn,upd_ne fun z=>hpA (z ▸ ha)⟩) (.inr ⟨w _ sh,fun a ha=>?_⟩)⟩
 ·rcases List.mem_cons.mp ha with z | z
  ·subst z
   cases e:Hin a with
   |none=>rfl
   |some q=>have:=s0 a q e; rw [hp] at this; cases this
  ·exact fr a z
 ·rcases List.mem_cons.mp ha with z | z
  ·subst z; rw [upd_same]; simp
  ·exact(F.liv.mono s2) a z
 ·rw [hf] at ha
  obtain rfl:a=p:=by simpa using ha
  exact⟨List.mem_cons_self,.inl fun z=>hpA (List.mem_append_left _ z)⟩
theorem Sto.fresh {K:PySem.W.Frag}{Hin:Hp}{A₀ os:List Addr}{ρ:Rho}{σ:St}{H:Hp}{i:Nat}{ds:List Dt}{vs:List V}{p:Addr} (S:Sto K Hin A₀ os ρ σ H) (hp:H p=none) (r:Reps K (hid H (os++A₀)) ds vs) (z:sms ds) (hl:ds.length<=10000) :
  Sto K Hin A₀ (p::os) (ρ.set i (.own ds)) (σ.set i (some (.ref p))) (upd H p (.lst vs)):=S.anew hp rfl fun B s=>⟨p,vs,rfl,upd_same,r.mono s,z,hl⟩
theorem Sto.turn {K:PySem.W.Frag}{Hin:Hp}{A₀ os:List Addr}{ρ:Rho}{σ:St}{H:Hp}{i:Nat}{p:Addr}{o:HO}{b b':Bd} (S:Sto K Hin A₀ os ρ σ H) (hi:ρ[i]?=some b) (hp:σ[i]?=some (some (.ref p))) (ho:isOw b=true) (hf:fpOf H (.ref p) b=[p]) (hf':fpOf (upd H p o) (.ref p) b'=[p])
  (w:hid (upd H p o) (os++A₀)=hid H (os++A₀)->OwAt K (os++A₀) (upd H p o) (.ref p) b'):Sto K Hin A₀ os (ρ.set i b') σ (upd H p o):=by
 obtain⟨s0,L0,fr,F⟩:=S
 obtain⟨v,h1,h2,h3⟩:=F.ow i b hi ho
 rw [hp] at h1
 cases h1
 have h2':p∈os:=h3 p (by rw [hf]; exact List.mem_cons_self)
 have e:=hid_upd_in (H:=H) (o:=o) (List.mem_append_left A₀ h2')
 have hfp:fpAt ρ σ H i=[p]:=by rw [fpAt_is hi hp ho]; exact hf
 refine⟨fun b o q=>?_,L0,fr,?_⟩
 ·rw [upd_ne (ne_of_none q (fr p h2'))]
  exact s0 b o q
 ·have F2:=F.set (i:=i) (v':=.ref p) (b':=b') (O':=os) (A':=os++A₀) (H':=upd H p o) (fun a ha=>?_) F.sub (by rw [e]; exact .refl _) (fun a ha hn=>⟨ha,upd_ne fun z=>hn (by rw [hfp,z]; exact List.mem_cons_self)⟩) (fun a ha hn=>⟨ha,hn,upd_ne fun z=>hn (z ▸ h2')⟩) (.inr ⟨w e,fun a ha=>?_⟩)
  ·rwa [set_same hp] at F2
  ·by_cases hz:a=p
   ·rw [hz,upd_same]; simp
   ·rw [upd_ne hz]; exact F.liv a ha
  ·rw [hf'] at ha
   obtain rfl:a=p:=by simpa using ha
   exact⟨h2',.inr (by rw [hfp]; exact List.mem_cons_self)⟩
theorem Sto.grow {K:PySem.W.Frag}{Hin:Hp}{A₀ os:List Addr}{ρ:Rho}{σ:St}{H:Hp}{i:Nat}{ds ns:List Dt}{p:Addr}{ys:List V} (S:Sto K Hin A₀ os ρ σ H) (hi:ρ[i]?=some (.own ds)) (hp:σ[i]?=some (some (.ref p)))
  (r:Reps K (hid H (os++A₀)) ns ys) (z:sms ns) (zl:ns.length<=10000):Sto K Hin A₀ os (ρ.set i (.own ns)) σ (upd H p (.lst ys)):=
 S.turn hi hp rfl rfl rfl fun e=>⟨p,ys,rfl,upd_same,by rw [e]; exact r,z,zl⟩
theorem sv_own {i:Nat}{x:Str}{pos' lp:Pos} (hN:X.N.Nodup) (hi:X.N[i]?=some x) (hx:Loc X.env.scope x) (he:Av X cls E es fs) (hs:swapsWith (.List es lp) (some (.Name x pos')) pos.line X.env=pure false:=by rfl)
  (hf:X.fn x=true∨X.env.scope.names.lookup x=some .local:=by first | exact .inl rfl | exact .inr rfl | assumption):Sv X cls E (.Assign [.Name x pos'] (.List es lp) pos) (sOwn i fs):=(ps_set hN hi hx (pe_lst he) hs hf).imp fun D σ H ⟨Hin,A₀,ρ,⟨os,s0,L0,fr,F⟩,q⟩=>by
 refine⟨os,os++A₀,ρ,F,?_⟩
 unfold sOwn at q
 cases hm:fs ρ with
 |ex c=>rw [hm] at q; exact fun H' s'=>q H' (s0.trans s')
 |bad=>rw [hm] at q; exact q
 |ok ds=>
  rw [hm] at q
  simp only [bd_ok] at q
  intro vs H' s' r z
  split at q
  ·rename_i hl
   have hlen:=r.length
   refine⟨sm10 (by omega),fun p hp=>q _ _ ?_⟩
   exact⟨p::os,Sto.fresh ⟨s0.trans s',L0,fr,F.mono s'⟩ hp r z hl⟩
  ·exact q.elim
theorem Sto.mono {K:PySem.W.Frag}{Hin:Hp}{A₀ os:List Addr}{ρ:Rho}{σ:St}{H H':Hp} (S:Sto K Hin A₀ os ρ σ H) (s:Same H H'):Sto K Hin A₀ os ρ σ H':=⟨S.1.trans s,S.2.1,S.2.2.1,S.2.2.2.mono s⟩
theorem sv_append {i:Nat}{x:Str}{np apos cpos:Pos} (hv:PE X (.Name x np) (tVar i)) (hst:isStar a=false) (he:Ev X cls E a f)
  (hs:swapsWith (.Call (.Attribute (.Name x np) "append" apos) [a] [] cpos) none pos.line X.env=pure false:=by rfl)
  (hbase:attributeBase (.Name x np) "append" X.env (eval (.Name x np) X.env)=eval (.Name x np) X.env:=by rfl)
  (hfew:((backTo cpos (starEach [a] X.env)).all (fun x=>!x.1)&&(backToKw cpos (keywordEach [] X.env)).all (fun x=>x.1.isSome)
   && decide (([a]:List Expr).length+([]:List Keyword).length+(if ([]:List Keyword).isEmpty then 0 else 1)<30))=true:=by rfl)
  (hline:(apos.endLine==cpos.line)=true:=by rfl) (hs1:starEach [a] X.env=(false,eval a X.env)::starEach [] X.env:=by rfl) (hplain:(backTo cpos (starEach [] X.env)).any (·.1)=false:=by rfl) :
  Sv X cls E (.Expr (.Call (.Attribute (.Name x np) "append" apos) [a] [] cpos) pos) (sAppend i f):=
 (ps_expr (pe_bm PySem.F.plainAttrs_list PySem.F.slot_list_append PySem.F.type_list_append mt_append hv (pax _ _ _ _ _ hst he pa_nil) hbase hfew hline hs1 hplain) hs).imp fun D σ H ⟨Hin,A₀,ρ,⟨os,S⟩,q⟩=>by
 unfold sAppend appK at q
 split at q
 ·rename_i ds hi
  have F:=S.2.2.2
  obtain⟨p,xs,h1,h2,h3,h4,h5,h6⟩:=F.own i ds hi
  refine⟨.ref p,h1,.inl ⟨rfl,xs,SqL.of h3⟩,os,os++A₀,ρ,F,res_of S.1 q fun d v H' _ q1 s' r z=>?_⟩
  split at q1
  ·rename_i hl
   have hlen:=h4.length
   refine⟨p,xs,v,rfl,rfl,s' _ _ h3,Nat.lt_of_le_of_lt (by omega:xs.length<=10000) (by decide),q1 _ _ ⟨os,?_⟩⟩
   exact(S.mono s').grow hi h1 ((h4.mono (s'.hid _)).append (.cons r .nil)) (sms_append h5 ⟨z,trivial⟩) (by simp; omega)
  ·exact q1.elim
 ·exact q.elim
end
section
variable {X:Cx}{cls:Nat->Addr}{E:XK}{a b c:Expr}{f g h:Rho->M Dt}{pos:Pos}{fs:Rho->M (List Dt)}{es:List Expr}
theorem ev_join {x:Str} {j p apos} (ha:Av X cls E [a] fs) (hst:isStar a=false) (hx:x=⟨([]:List Nat).toArray⟩:=by decide +kernel) (hline:(apos.endLine==pos.line)=true:=by rfl):Ev X cls E (.Call (.Attribute (.Constant (.str x) j p) "join" apos) [a] [] pos) (pMeth mJoin (pC (.str [])) fs):=by
 have hs:starEach [a] X.env=(false,eval a X.env)::starEach [] X.env:=starEach_cons hst
 exact ev_bm PySem.F.plainAttrs_str PySem.F.slot_str_join PySem.F.type_str_join md_join (ev_S (l:=[]) hx) ha rfl (by rw [hs]; rfl) hline hs rfl
end
noncomputable abbrev IsTA (h:Heap) (T:Addr) (xs:Array Value):Prop:=h.get? T=some {cls:=.type "tuple",data:=.seq xs}
theorem updSeq {prog:Program}{w:World}{A:Around}{E:Value->Shared->Prop}{s:Shared}{T:Addr}{xs:Array Value}{x:Value}{k:Nat}{Q:Unit->Shared->Prop} (hT:IsTA s.heap T xs)
  (h:∀h',IsTA h' T (xs.setIfInBounds k x)->Heap.SameBut T s.heap h'->Q () {s with heap:=h'}) (hx:xs.size<=100:=by simp) :
  wpAny (model prog w) A (updateSeq T (·.setIfInBounds k x)) Q E s:=by
 refine wpAny_updateSeq hT rfl (h _ ?_ (Heap.SameBut.update ..)) (hz:=Nat.le_trans hx (by decide)) (_hz':=by rw [Array.size_setIfInBounds]; exact Nat.le_trans hx (by decide))
 show Heap.get? _ _=_
 rw [Heap.get?_update_self _ hT rfl]
 simp [Obj.mapSeq]
structure ZA2 (z TI TO i1 i2:Addr) (f1:List Addr) (f2:List Addr):Prop where
 TIz:TI≠z
 TOz:TO≠z
 TITO:TI≠TO
 z1:i1≠z
 TI1:TI≠i1
 TO1:TO≠i1
 fz1:z∉f1
 fT1:TO∉f1
 i12:i1≠i2
 f12:i2∉f1
 z2:i2≠z
 TI2:TI≠i2
 TO2:TO≠i2
 fz2:z∉f2
 fT2:TO∉f2
 i21:i2≠i1
 f21:i1∉f2
section
variable {prog:Program}{w:World}{A:Around}{E:Value->Shared->Prop}{s:Shared}{z TI TO i1 i2:Addr}{f1:List Addr}{n1:Nat}{P1:Nat->Value->Prop}{S1:Nat->Heap->Prop}{f2:List Addr}{n2:Nat}{P2:Nat->Value->Prop}{S2:Nat->Heap->Prop}
theorem zn_item2 (L:ZA2 z TI TO i1 i2 f1 f2) (D1:Draws prog w A i1 f1 n1 P1 S1) (D2:Draws prog w A i2 f2 n2 P2 S2){m:Nat}{a1 a2:Value} (hz:IsZip s.heap z TI TO .none) (hTI:IsTA s.heap TI #[.ref i1,.ref i2]) (hTO:IsTA s.heap TO #[a1,a2]) (st1:S1 m s.heap) (st2:S2 m s.heap) (h1:m<n1) (h2:m<n2){Q:Value->Shared->Prop}
  (hQ:∀x1 x2 h' tk,P1 m x1->P2 m x2->IsZip h' z TI TO (rawInt s.heap.objs.size)->IsTA h' TO #[x1,x2]->S1 (m+1) h'->S2 (m+1) h'->IsTA h' s.heap.objs.size #[x1,x2]->(∀c o,c≠z->c≠TO->c≠i1->c≠i2->s.heap.get? c=some o->h'.get? c=some o)->Q (.ref s.heap.objs.size) {s with heap:=h',toks:=tk}) :
  wpAny (model prog w) A (Builtin.«zip.__next__» ⟨[.ref z],[]⟩) (fun fin s'=>∃v,fin=.done (.ret v)/\Q v s') E s:=by
 show wpAny _ _ (field (.ref z) 2 >>= _) _ _ _
 refine wpAny_bind (wpAny_field hz rfl (x:=.bool false) rfl ?_)
 show wpAny _ _ (field (.ref z) 3 >>= _) _ _ _
 refine wpAny_bind (wpAny_field hz rfl (x:=.ref TI) rfl ?_)
 refine wpAny_bind (wpAny_seqItems hTI rfl ?_)
 show wpAny _ _ (Builtin.SmallTypes.ownedTupleIsFree (.ref z) >>= _) _ _ _
 refine wpAny_bind ?_
 unfold Builtin.SmallTypes.ownedTupleIsFree
 refine wpAny_bind (wpAny_field hz rfl (x:=.none) rfl (wpAny_pure ?_))
 simp only [if_true]
 refine wpAny_bind (wpAny_rule ?_)
 refine wpAny_bind (wpAny_field hz rfl (x:=.ref TO) rfl ?_)
 refine wpAny_bind (wpAny_setField_rec hz (by simp) fun g0 hz0 hs0=>?_)
 replace hz0:IsZip g0 z TI TO .ellipsis:=hz0
 refine wpAny_bind ?_
 simp only [List.zipIdx_cons,List.zipIdx_nil,List.forIn_cons,List.forIn_nil]
 have tO0:IsTA g0 TO #[a1,a2]:=hs0.extBut _ _ L.TOz hTO
 have s0_1:=D1.frame _ _ _ st1 fun b hb o e=>hs0.extBut b o (fun q=>L.fz1 (q ▸ hb)) e
 have s0_2:=D2.frame _ _ _ st2 fun b hb o e=>hs0.extBut b o (fun q=>L.fz2 (q ▸ hb)) e
 refine wpAny_bind (wpAny_bind (wpAny_onRaise ?_))
 show wpAny _ _ (Builtin.SmallTypes.nextOf (.ref i1) >>= _) _ _ _
 refine wpAny_bind (D1.item m _ _ _ h1 s0_1 fun x1 g1a tk1 px1 s1a_1 hs1a=>wpAny_pure ?_)
 have tO1a:IsTA g1a TO #[a1,a2]:=hs1a.extBut _ _ L.TO1 tO0
 refine wpAny_bind (wpAny_seqItems tO1a rfl ?_)
 refine wpAny_bind (updSeq tO1a fun g1 tO1 hs1=>?_)
 replace tO1:IsTA g1 TO #[x1,a2]:=tO1
 refine wpAny_bind (wpAny_letGo (wpAny_pure ?_))
 have s1_1:=D1.frame _ _ _ s1a_1 fun b hb o e=>hs1.extBut b o (fun q=>L.fT1 (q ▸ hb)) e
 have s1_2:=D2.frame _ _ _ (D2.frame _ _ _ s0_2 fun b hb o e=>hs1a.extBut b o (fun q=>L.f21 (q ▸ hb)) e) fun b hb o e=>hs1.extBut b o (fun q=>L.fT2 (q ▸ hb)) e
 have hz1:IsZip g1 z TI TO .ellipsis:=hs1.extBut _ _ L.TOz.symm (hs1a.extBut _ _ L.z1.symm hz0)
 refine wpAny_bind (wpAny_bind (wpAny_onRaise ?_))
 show wpAny _ _ (Builtin.SmallTypes.nextOf (.ref i2) >>= _) _ _ _
 refine wpAny_bind (D2.item m _ _ _ h2 s1_2 fun x2 g2a tk2 px2 s2a_2 hs2a=>wpAny_pure ?_)
 have tO2a:IsTA g2a TO #[x1,a2]:=hs2a.extBut _ _ L.TO2 tO1
 refine wpAny_bind (wpAny_seqItems tO2a rfl ?_)
 refine wpAny_bind (updSeq tO2a fun g2 tO2 hs2=>?_)
 replace tO2:IsTA g2 TO #[x1,x2]:=tO2
 refine wpAny_bind (wpAny_letGo (wpAny_pure (wpAny_pure ?_)))
 have s2_1:=D1.frame _ _ _ (D1.frame _ _ _ s1_1 fun b hb o e=>hs2a.extBut b o (fun q=>L.f12 (q ▸ hb)) e) fun b hb o e=>hs2.extBut b o (fun q=>L.fT1 (q ▸ hb)) e
 have s2_2:=D2.frame _ _ _ s2a_2 fun b hb o e=>hs2.extBut b o (fun q=>L.fT2 (q ▸ hb)) e
 have hz2:IsZip g2 z TI TO .ellipsis:=hs2.extBut _ _ L.TOz.symm (hs2a.extBut _ _ L.z2.symm hz1)
 refine wpAny_bind (wpAny_seqItems tO2 rfl ?_)
 refine wpAny_bind (wpAny_newTuple ?_)
 have hsz:g2.objs.size=s.heap.objs.size:=by rw [hs2.1,hs2a.1,hs1.1,hs1a.1,hs0.1]
 have hk2:∀c o,c≠z->c≠TO->c≠i1->c≠i2->s.heap.get? c=some o->g2.get? c=some o:=fun c o c1 c2 d1 d2 e=>hs2.extBut _ _ c2 (hs2a.extBut _ _ d2 (hs1.extBut _ _ c2 (hs1a.extBut _ _ d1 (hs0.extBut _ _ c1 e))))
 have hzlt:z<g2.objs.size:=Heap.lt_size hz2
 show wpAny _ _ (Builtin.SmallTypes.ownedTupleHandOut (.ref z) (.ref g2.objs.size) >>= _) _ _ _
 refine wpAny_bind ?_
 unfold Builtin.SmallTypes.ownedTupleHandOut
 have hz6:IsZip (g2.push {cls:=.type "tuple",data:=.seq #[x1,x2]}) z TI TO .ellipsis:=Heap.get?_push_of_some _ hz2
 refine wpAny_bind (wpAny_setField_rec hz6 (by simp) fun h7 hz7 hs7=>?_)
 replace hz7:IsZip h7 z TI TO (rawInt g2.objs.size):=hz7
 refine wpAny_setField_rec hz7 (by simp) fun h8 hz8 hs8=>?_
 replace hz8:IsZip h8 z TI TO (rawInt g2.objs.size):=hz8
 have up:∀c o,c≠z->g2.get? c=some o->h8.get? c=some o:=fun c o c1 e=>hs8.extBut _ _ c1 (hs7.extBut _ _ c1 (Heap.get?_push_of_some _ e))
 have hT8:IsTA h8 g2.objs.size #[x1,x2]:=hs8.extBut _ _ (Nat.ne_of_gt hzlt) (hs7.extBut _ _ (Nat.ne_of_gt hzlt) (Heap.get?_push_size _ rfl))
 rw [hsz] at hz8 hT8
 refine wpAny_pure ⟨_,rfl,?_⟩
 show Q (.ref g2.objs.size) _
 rw [hsz]
 exact hQ x1 x2 h8 _ px1 px2 hz8 (up _ _ L.TOz tO2) (D1.frame _ _ _ s2_1 fun b hb o e=>up b o (fun q=>L.fz1 (q ▸ hb)) e) (D2.frame _ _ _ s2_2 fun b hb o e=>up b o (fun q=>L.fz2 (q ▸ hb)) e) hT8 fun c o c1 c2 d1 d2 e=>up c o c1 (hk2 c o c1 c2 d1 d2 e)
end
section
variable {prog:Program}{w:World}{A:Around}{E:Value->Shared->Prop}{s:Shared}{z TI TO i1 i2:Addr}{f1:List Addr}{n1:Nat}{P1:Nat->Value->Prop}{S1:Nat->Heap->Prop}{f2:List Addr}{n2:Nat}{P2:Nat->Value->Prop}{S2:Nat->Heap->Prop}
theorem zn_end2 (L:ZA2 z TI TO i1 i2 f1 f2) (D1:Draws prog w A i1 f1 n1 P1 S1) (D2:Draws prog w A i2 f2 n2 P2 S2){a1 a2:Value} (hz:IsZip s.heap z TI TO .none) (hTI:IsTA s.heap TI #[.ref i1,.ref i2]) (hTO:IsTA s.heap TO #[a1,a2]) (st1:S1 (min (n1) n2) s.heap) (st2:S2 (min (n1) n2) s.heap){Q:Fin->Shared->Prop}
  (hE:∀h' e tk,(∀c o,c≠z->c≠TO->c≠i1->c≠i2->s.heap.get? c=some o->h'.get? c=some o)->(∃o,h'.get? e=some o/\o.cls=.type "StopIteration")->E (.ref e) {s with heap:=h',toks:=tk}) :
  wpAny (model prog w) A (Builtin.«zip.__next__» ⟨[.ref z],[]⟩) Q E s:=by
 generalize hm:min (n1) n2=m at st1 st2
 show wpAny _ _ (field (.ref z) 2 >>= _) _ _ _
 refine wpAny_bind (wpAny_field hz rfl (x:=.bool false) rfl ?_)
 show wpAny _ _ (field (.ref z) 3 >>= _) _ _ _
 refine wpAny_bind (wpAny_field hz rfl (x:=.ref TI) rfl ?_)
 refine wpAny_bind (wpAny_seqItems hTI rfl ?_)
 show wpAny _ _ (Builtin.SmallTypes.ownedTupleIsFree (.ref z) >>= _) _ _ _
 refine wpAny_bind ?_
 unfold Builtin.SmallTypes.ownedTupleIsFree
 refine wpAny_bind (wpAny_field hz rfl (x:=.none) rfl (wpAny_pure ?_))
 simp only [if_true]
 refine wpAny_bind (wpAny_rule ?_)
 refine wpAny_bind (wpAny_field hz rfl (x:=.ref TO) rfl ?_)
 refine wpAny_bind (wpAny_setField_rec hz (by simp) fun g0 hz0 hs0=>?_)
 replace hz0:IsZip g0 z TI TO .ellipsis:=hz0
 refine wpAny_bind ?_
 simp only [List.zipIdx_cons,List.zipIdx_nil,List.forIn_cons,List.forIn_nil]
 have tO0:IsTA g0 TO #[a1,a2]:=hs0.extBut _ _ L.TOz hTO
 have s0_1:=D1.frame _ _ _ st1 fun b hb o e=>hs0.extBut b o (fun q=>L.fz1 (q ▸ hb)) e
 have s0_2:=D2.frame _ _ _ st2 fun b hb o e=>hs0.extBut b o (fun q=>L.fz2 (q ▸ hb)) e
 have k0:∀c o,c≠z->c≠TO->c≠i1->c≠i2->s.heap.get? c=some o->g0.get? c=some o:=fun c o c1 c2 d1 d2 e=>hs0.extBut _ _ c1 e
 refine wpAny_bind (wpAny_bind (wpAny_onRaise ?_))
 show wpAny _ _ (Builtin.SmallTypes.nextOf (.ref i1) >>= _) _ _ _
 by_cases q1:n1<=m
 ·have e1:n1=m:=by omega
  rw [← e1] at s0_1
  refine wpAny_bind (D1.done _ _ _ s0_1 fun g e he hS=>?_)
  obtain⟨oe,hoe,hce⟩:=hS
  have hzg:IsZip g z TI TO .ellipsis:=he _ _ L.z1.symm hz0
  have hez:e≠z:=fun q=>by subst q; rw [hzg] at hoe; cases hoe; simp at hce
  refine wpAny_setField_rec hzg (by simp) fun h3 _ hs3=>hE h3 e _ (fun c o c1 c2 d1 d2 x=>hs3.extBut _ _ c1 (he _ _ d1 (k0 c o c1 c2 d1 d2 x))) ⟨oe,hs3.extBut _ _ hez hoe,hce⟩
 ·refine wpAny_bind (D1.item m _ _ _ (by omega) s0_1 fun x1 g1a tk1 px1 s1a_1 hs1a=>wpAny_pure ?_)
  have tO1a:IsTA g1a TO #[a1,a2]:=hs1a.extBut _ _ L.TO1 tO0
  refine wpAny_bind (wpAny_seqItems tO1a rfl ?_)
  refine wpAny_bind (updSeq tO1a fun g1 tO1 hs1=>?_)
  replace tO1:IsTA g1 TO #[x1,a2]:=tO1
  refine wpAny_bind (wpAny_letGo (wpAny_pure ?_))
  have s1_1:=D1.frame _ _ _ s1a_1 fun b hb o e=>hs1.extBut b o (fun q=>L.fT1 (q ▸ hb)) e
  have s1_2:=D2.frame _ _ _ (D2.frame _ _ _ s0_2 fun b hb o e=>hs1a.extBut b o (fun q=>L.f21 (q ▸ hb)) e) fun b hb o e=>hs1.extBut b o (fun q=>L.fT2 (q ▸ hb)) e
  have hz1:IsZip g1 z TI TO .ellipsis:=hs1.extBut _ _ L.TOz.symm (hs1a.extBut _ _ L.z1.symm hz0)
  have k1:∀c o,c≠z->c≠TO->c≠i1->c≠i2->s.heap.get? c=some o->g1.get? c=some o:=fun c o c1 c2 d1 d2 e=>hs1.extBut _ _ c2 (hs1a.extBut _ _ d1 (k0 c o c1 c2 d1 d2 e))
  refine wpAny_bind (wpAny_bind (wpAny_onRaise ?_))
  show wpAny _ _ (Builtin.SmallTypes.nextOf (.ref i2) >>= _) _ _ _
  have e2:n2=m:=by omega
  rw [← e2] at s1_2
  refine wpAny_bind (D2.done _ _ _ s1_2 fun g e he hS=>?_)
  obtain⟨oe,hoe,hce⟩:=hS
  have hzg:IsZip g z TI TO .ellipsis:=he _ _ L.z2.symm hz1
  have hez:e≠z:=fun q=>by subst q; rw [hzg] at hoe; cases hoe; simp at hce
  refine wpAny_setField_rec hzg (by simp) fun h3 _ hs3=>hE h3 e _ (fun c o c1 c2 d1 d2 x=>hs3.extBut _ _ c1 (he _ _ d2 (k1 c o c1 c2 d1 d2 x))) ⟨oe,hs3.extBut _ _ hez hoe,hce⟩
end
section
variable {prog:Program}{w:World}{A:Around}{E:Value->Shared->Prop}{s:Shared}
theorem nextOf_tup_item {it l:Addr}{i:Nat} {items}{x:Value}{Q:Value->Shared->Prop} (hit:s.heap.IsTupleIter it l i) (hl:s.heap.IsTuple l items) (hx:items[i]?=some x)
  (hQ:∀h',h'.IsTupleIter it l (i+1)->Heap.SameBut it s.heap h'->Q x {s with heap:=h'}) :
  wpAny (model prog w) A (Builtin.SmallTypes.nextOf (.ref it)) Q E s:=by
 obtain⟨o,ho,hc,hd⟩:=id hit
 obtain⟨ol,hol,_,nl,hdl⟩:=hl
 unfold Builtin.SmallTypes.nextOf
 refine wpAny_bind (wpAny_callSpecial?_slot (name:=Str.ofString "__next__") hit.typeIs F.slot_tuple_iterator_next (wpAny_call_entry F.slot_tuple_iterator_next hit.typeIs F.entry_tuple_iterator_next ?_ (F.args_tuple_iterator_next_1 _)))
 show wpAny _ _ (field (.ref it) 0 >>= _) _ _ s
 refine wpAny_bind (wpAny_field ho hd (x:=.ref l) rfl ?_)
 show wpAny _ _ (if (Value.ref l==Value.none)=true then _ else _) _ _ s
 rw [if_neg (show ¬ ((Value.ref l==Value.none)=true) from Bool.false_ne_true)]
 show wpAny _ _ (field (.ref it) 1 >>= _) _ _ s
 refine wpAny_bind (wpAny_field ho hd (x:=.int i 0) rfl ?_)
 show wpAny _ _ (seqItems? (.ref l) >>= _) _ _ s
 refine wpAny_bind (wpAny_seqItems hol hdl ?_)
 simp only [Int.toNat_natCast,hx]
 refine wpAny_bind (wpAny_setField ho hd (by simp) (wpAny_pure ⟨x,rfl,wpAny_pure (hQ _ ?_ (Heap.SameBut.update ..))⟩))
 exact⟨_,Heap.get?_update_self _ ho (Obj.isFreed_of_fields (Obj.data_mapFields hd _)),(Obj.cls_mapFields ..).trans hc,by rw [Obj.data_mapFields hd]; simp [rawInt]⟩
theorem nextOf_tup_end {it l:Addr}{i:Nat} {items}{Q:Value->Shared->Prop} (hh:A.handled=none) (hit:s.heap.IsTupleIter it l i) (hl:s.heap.IsTuple l items) (hx:items[i]?=none)
  (hE:∀h' e,Heap.ExtBut it s.heap h'->(∃o,h'.get? e=some o/\o.cls=.type "StopIteration")->E (.ref e) {s with heap:=h'}) :
  wpAny (model prog w) A (Builtin.SmallTypes.nextOf (.ref it)) Q E s:=by
 obtain⟨o,ho,hc,hd⟩:=id hit
 obtain⟨ol,hol,_,nl,hdl⟩:=hl
 unfold Builtin.SmallTypes.nextOf
 refine wpAny_bind (wpAny_callSpecial?_slot (name:=Str.ofString "__next__") hit.typeIs F.slot_tuple_iterator_next (wpAny_call_entry F.slot_tuple_iterator_next hit.typeIs F.entry_tuple_iterator_next ?_ (F.args_tuple_iterator_next_1 _)))
 show wpAny _ _ (field (.ref it) 0 >>= _) _ _ s
 refine wpAny_bind (wpAny_field ho hd (x:=.ref l) rfl ?_)
 show wpAny _ _ (if (Value.ref l==Value.none)=true then _ else _) _ _ s
 rw [if_neg (show ¬ ((Value.ref l==Value.none)=true) from Bool.false_ne_true)]
 show wpAny _ _ (field (.ref it) 1 >>= _) _ _ s
 refine wpAny_bind (wpAny_field ho hd (x:=.int i 0) rfl ?_)
 show wpAny _ _ (seqItems? (.ref l) >>= _) _ _ s
 refine wpAny_bind (wpAny_seqItems hol hdl ?_)
 simp only [Int.toNat_natCast,hx]
 refine wpAny_bind (wpAny_rule (wpAny_bind (wpAny_setField ho hd (by simp) ?_)))
 show wpAny _ _ (newExc (.type "StopIteration") [] >>= _) _ _ _
 refine wpAny_bind ?_
 simp only [newExc,newTuple]
 refine wpAny_bind (wpAny_newObj_type ?_ (by size_fits))
 refine wpAny_bind (m:=firstArgMember _ _) (wpAny_of_eq (a:=Value.none) (by first | rfl | (simp only [firstArgMember]; rfl)) ?_)
 refine wpAny_newObj_type ?_ (by size_fits)
 simp only [raiseNew]
 refine wpAny_bind (wpAny_handled ?_)
 first | rw [show A.in1.handled=none from hh] | rw [hh]
 refine wpAny_bind (wpAny_pure (wpAny_throw ?_))
 exact hE _ _ (((Heap.SameBut.update ..).extBut.push _).push _) ⟨_,Heap.get?_push_size _ rfl,rfl⟩
theorem drawsTup (hh:A.handled=none) (it l:Addr) (hne:l≠it) (items:Array Value):Draws prog w A it [it,l] items.size (fun i v=>items[i]?=some v) (fun i h=>h.IsTupleIter it l i/\h.IsTuple l items) where
 live:=fun _ _ st=>let ⟨o,ho,_⟩:=st.1; ⟨o,ho⟩
 frame:=fun _ _ _ st hk=>⟨let ⟨o,ho,r⟩:=st.1; ⟨o,hk it (by simp) o ho,r⟩,let ⟨o,ho,r⟩:=st.2; ⟨o,hk l (by simp) o ho,r⟩⟩
 item:=fun i s Q E hi st hQ=>by
  refine nextOf_tup_item st.1 st.2 (x:=items[i]) (by simp [hi]) fun h' hit' hs'=>?_
  exact hQ _ h' s.toks (by simp [hi]) ⟨hit',st.2.extBut hs'.extBut hne⟩ hs'
 done:=fun s Q E st hE=>nextOf_tup_end hh st.1 st.2 (by simp) hE
end
inductive Src where
 |L (a:Addr) | T (l:List Nat) (t:Tok) | U (a:Addr)
noncomputable def Src.it:Src->Addr->Nat->Heap->Prop
 |.L a,j,i,h=>h.IsListIter j a i
 |.T l t,j,i,h=>h.IsStrIter j (strIterType ⟨l.toArray⟩) ⟨l.toArray⟩ t i
 |.U a,j,i,h=>h.IsTupleIter j a i
noncomputable def Src.vals (K:PySem.W.Frag) (H:Hp):Src->List V->Prop
 |.L a,xs=>SqL K H a xs
 |.T l _,xs=>xs=sgs l
 |.U a,xs=>SqT K H a xs
noncomputable def Src.fp:Src->Addr->List Addr
 |.L a,j=>[j,a]
 |.T _ _,j=>[j]
 |.U a,j=>[j,a]
noncomputable def Src.con:Src->List Value->Heap->Prop
 |.L a,us,h=>h.IsList a us.toArray
 |.T _ _,_,_=>True
 |.U a,us,h=>h.IsTuple a us.toArray
noncomputable def Src.num:Src->List Value->Nat
 |.L _,us=>us.length
 |.T l _,_=>l.length
 |.U _,us=>us.length
noncomputable def Src.P:Src->List Value->Nat->Value->Prop
 |.L _,us,i,v=>us.toArray[i]?=some v
 |.T l _,_,i,v=>∃c u,l[i]?=some c/\v=.str ⟨#[c]⟩ u
 |.U _,us,i,v=>us.toArray[i]?=some v
noncomputable def Src.lt:Src->Nat->Prop
 |.L a,n=>a<n
 |.T _ _,_=>True
 |.U a,n=>a<n
noncomputable def Src.val:Src->Value
 |.L a=>.ref a
 |.T l t=>.str ⟨l.toArray⟩ t
 |.U a=>.ref a
noncomputable def Src.obj:Src->Obj
 |.L a=>{cls:=.type "list_iterator",data:=.fields #[.ref a,.int 0 0]}
 |.T l t=>{cls:=.type (strIterType ⟨l.toArray⟩),data:=.fields #[.str ⟨l.toArray⟩ t,.int 0 0]}
 |.U a=>{cls:=.type "tuple_iterator",data:=.fields #[.ref a,.int 0 0]}
theorem Src.draws {prog:Program}{w:World}{A:Around} (hh:A.handled=none) (sc:Src){j:Addr} (hj:sc.lt j) (us:List Value):Draws prog w A j (sc.fp j) (sc.num us) (sc.P us) (fun i h=>sc.it j i h/\sc.con us h):=by
 cases sc with
 |L a=>exact Draws.list hh j a (Nat.ne_of_lt hj) us.toArray
 |U a=>exact drawsTup hh j a (Nat.ne_of_lt hj) us.toArray
 |T l t=>
  have go:∀ty,ty=strIterType ⟨l.toArray⟩->Draws prog w A j [j] l.length (fun i v=>∃c u,l[i]?=some c/\v=.str ⟨#[c]⟩ u) (fun i h=>h.IsStrIter j ty ⟨l.toArray⟩ t i):=fun ty hty=>by
   have ht:ty = "str_ascii_iterator" ∨ty = "str_iterator" := by
    rw [hty]
    unfold strIterType
    split
    ·exact .inl rfl
    ·exact .inr rfl
   rcases ht with h | h
   ·rw [h]; simpa using Draws.strAscii (prog:=prog) (w:=w) hh j ⟨l.toArray⟩ t
   ·rw [h]; simpa using Draws.strWide (prog:=prog) (w:=w) hh j ⟨l.toArray⟩ t
  have D:=go _ rfl
  exact⟨fun i h st=>D.live i h st.1,fun i h h' st k=>⟨D.frame i h h' st.1 k,trivial⟩,fun i s Q E hi st hQ=>D.item i s Q E hi st.1 fun x h' tk p st' sb=>hQ x h' tk p ⟨st',trivial⟩ sb,fun s Q E st hE=>D.done s Q E st.1 hE⟩
theorem Src.use {X:Cx}{pins:List (Addr×Obj)}{σ:St}{H:Hp}{s:Shared} (I:Inv X pins σ H s){sc:Src}{xs:List V} (hv:sc.vals X.K H xs):∃us,sc.con us s.heap/\sc.num us=xs.length/\∀i v,sc.P us i v->∃x,xs[i]?=some x/\RelV x v:=by
 cases sc with
 |L a=>
  obtain⟨us,rv,p,_⟩:=I.list hv
  refine⟨us,p.isList,rv.length.symm,fun i v h=>?_⟩
  have h':us[i]?=some v:=by simpa using (show us.toArray[i]?=some v from h)
  have hi:i<us.length:=(List.getElem?_eq_some_iff.mp h').1
  have hx:i<xs.length:=by rw [rv.length]; exact hi
  obtain⟨u,hu,ru⟩:=rv.get (x:=xs[i]) (i:=i) (by simp [hx])
  rw [h'] at hu
  cases hu
  exact⟨xs[i],by simp [hx],ru⟩
 |U a=>
  obtain⟨us,rv,p,_⟩:=I.tuple hv
  refine⟨us,p,rv.length.symm,fun i v h=>?_⟩
  have h':us[i]?=some v:=by simpa using (show us.toArray[i]?=some v from h)
  have hi:i<us.length:=(List.getElem?_eq_some_iff.mp h').1
  have hx:i<xs.length:=by rw [rv.length]; exact hi
  obtain⟨u,hu,ru⟩:=rv.get (x:=xs[i]) (i:=i) (by simp [hx])
  rw [h'] at hu
  cases hu
  exact⟨xs[i],by simp [hx],ru⟩
 |T l t=>
  have e:xs=sgs l:=hv
  subst e
  refine⟨[],trivial,(sgs_length l).symm,fun i v h=>?_⟩
  obtain⟨c,u,hc,rfl⟩:=h
  exact⟨S [c],by simp [sgs,hc],⟨u,rfl⟩⟩
theorem Src.inj {X:Cx}{pins:List (Addr×Obj)}{σ:St}{H:Hp}{s:Shared} (I:Inv X pins σ H s){sc:Src}{xs ys:List V} (h:sc.vals X.K H xs) (h':sc.vals X.K H ys):xs=ys:=by
 cases sc with
 |L a=>exact I.list_inj h h'
 |U a=>exact I.tuple_inj h h'
 |T l t=>exact(show xs=sgs l from h).trans (show ys=sgs l from h').symm
theorem Src.it_keep {sc:Src}{j:Addr}{i:Nat}{h h':Heap} (x:sc.it j i h) (k:∀o,h.get? j=some o->h'.get? j=some o):sc.it j i h':=by
 cases sc with
 |L a=>exact Heap.IsListIter.at x k
 |U a=>obtain⟨o,e,r⟩:=x; exact⟨o,k o e,r⟩
 |T l t=>obtain⟨o,e,r⟩:=x; exact⟨o,k o e,r⟩
theorem Src.it_obj {sc:Src}{j:Addr}{i:Nat}{h:Heap} (x:sc.it j i h):∃o,h.get? j=some o/\∀v,o.data≠.cell v:=by
 cases sc with
 |L a=>obtain⟨o,e,c,d⟩:=x; exact⟨o,e,fun v z=>by rw [d] at z; cases z⟩
 |U a=>obtain⟨o,e,c,d⟩:=x; exact⟨o,e,fun v z=>by rw [d] at z; cases z⟩
 |T l t=>obtain⟨o,e,c,d⟩:=x; exact⟨o,e,fun v z=>by rw [d] at z; cases z⟩
theorem Src.it_new {sc:Src}{j:Addr}{h:Heap} (e:h.get? j=some sc.obj):sc.it j 0 h:=by
 cases sc with
 |L a=>exact⟨_,e,rfl,rfl⟩
 |U a=>exact⟨_,e,rfl,rfl⟩
 |T l t=>exact⟨_,e,rfl,rfl⟩
noncomputable def Src.ok:Src->Heap->Prop
 |.L a,h=>∃items,h.IsList a items
 |.T _ _,_=>True
 |.U a,h=>∃items,h.IsTuple a items
theorem Src.iter {prog:Program}{w:World}{A:Around}{E:Value->Shared->Prop}{s:Shared}{sc:Src}{Q:Value->Shared->Prop} (ok:sc.ok s.heap) (hQ:Q (.ref s.heap.objs.size) {s with heap:=s.heap.push sc.obj}):wpAny (model prog w) A (pyIter sc.val) Q E s:=by
 cases sc with
 |L a=>obtain⟨items,hl⟩:=ok; exact wpAny_pyIter_list hl hQ
 |U a=>obtain⟨items,hl⟩:=ok; exact wpAny_pyIter_tuple hl hQ
 |T l t=>exact wpAny_pyIter_strU hQ
theorem Src.ok_push {sc:Src}{h:Heap}{o:Obj} (x:sc.ok h):sc.ok (h.push o):=by
 cases sc with
 |L a=>obtain⟨items,hl⟩:=x; exact⟨items,hl.push _⟩
 |U a=>obtain⟨items,hl⟩:=x; exact⟨items,hl.push _⟩
 |T l t=>trivial
noncomputable def Itz2 (K:PySem.W.Frag) (s1 s2:Src):It:=
 ⟨fun i H=>∃xs1 xs2,s1.vals K H xs1/\s2.vals K H xs2/\i<min (xs1.length) xs2.length,
  fun i H x H'=>∃T x1 x2,x=.ref T/\H T=none/\H'=upd H T (.tup [x1,x2])/\(∀xs,s1.vals K H xs->xs[i]?=some x1)/\(∀xs,s2.vals K H xs->xs[i]?=some x2),
  fun i H=>∃xs1 xs2,s1.vals K H xs1/\s2.vals K H xs2/\i=min (xs1.length) xs2.length⟩
theorem turn_z2 {P:Program}{w:World}{K:PySem.W.Frag}{elts:List Expr}{kk:Nat}{tpos:Pos}{z TI TO i1 i2:Addr}{s1 s2:Src} (L:ZA2 z TI TO i1 i2 (s1.fp i1) (s2.fp i2)) (l1:s1.lt i1) (l2:s2.lt i2) :
  Turn P w K (.Tuple elts kk tpos) (Itz2 K s1 s2) [z,TI,TO,i1,i2] z (fun i h=>IsZip h z TI TO .none/\IsTA h TI #[.ref i1,.ref i2]/\(∃a1 a2,IsTA h TO #[a1,a2])/\s1.it i1 i h/\s2.it i2 i h) where
 mem:=by simp
 obj:=fun i h st b hb=>by
  obtain⟨hz,hTI,⟨a1,a2,hTO⟩,t1,t2⟩:=st
  simp only [List.mem_cons,List.not_mem_nil,or_false] at hb
  rcases hb with rfl | rfl | rfl | rfl | rfl
  ·exact⟨_,hz,fun v z=>nomatch z⟩
  ·exact⟨_,hTI,fun v z=>nomatch z⟩
  ·exact⟨_,hTO,fun v z=>nomatch z⟩
  ·exact(Src.it_obj t1)
  ·exact(Src.it_obj t2)
 keep:=fun i h h' st k=>by
  obtain⟨hz,hTI,⟨a1,a2,hTO⟩,t1,t2⟩:=st
  exact⟨k z (by simp) _ hz,k TI (by simp) _ hTI,⟨a1,a2,k TO (by simp) _ hTO⟩,(Src.it_keep t1 fun o e=>k i1 (by simp) o e),(Src.it_keep t2 fun o e=>k i2 (by simp) o e)⟩
 item:=by
  intro X hP hw hK hc i pins s σ H E I hf st hg
  subst hP hw hK
  obtain⟨xs1,xs2,hq1,hq2,hi⟩:=hg
  obtain⟨us1,c1,m1,r1⟩:=Src.use I hq1
  obtain⟨us2,c2,m2,r2⟩:=Src.use I hq2
  obtain⟨hz,hTI,⟨a1,a2,hTO⟩,t1,t2⟩:=st
  have hT:s.TypeIs (.ref z) "zip" := ⟨_,hz,rfl⟩
  have D1:=Src.draws (prog:=X.prog) (w:=X.w) (A:=X.A.in1) (I.ok.hd hc) s1 l1 us1
  have D2:=Src.draws (prog:=X.prog) (w:=X.w) (A:=X.A.in1) (I.ok.hd hc) s2 l2 us2
  unfold pyNext
  refine wpAny_bind (wpAny_attempt (wpAny_callSpecial?_slot (name:=Str.ofString "__next__") hT F.slot_zip_next (wpAny_call_entry F.slot_zip_next hT F.entry_zip_next (zn_item2 L D1 D2 hz hTI hTO ⟨t1,c1⟩ ⟨t2,c2⟩ (by rw [m1]; omega) (by rw [m2]; omega) fun v1 v2 h' tk p1 p2 y1 y2 w1 w2 y3 hk=>wpAny_pure ?_) (F.args_zip_next_1 _))))
  refine(fun ht=>⟨_,rfl,wpAny_letOwnedTupleGo_zip y1 fun h'' hz'' hs''=>?_⟩)
  obtain⟨x1,gx1,rx1⟩:=r1 i v1 p1
  obtain⟨x2,gx2,rx2⟩:=r2 i v2 p2
  have lt:∀{c o},s.heap.get? c=some o->s.heap.objs.size≠c:=fun e=>Nat.ne_of_gt (Heap.lt_size e)
  have hTz:s.heap.objs.size≠z:=lt hz
  have kAll:∀b o,b∉[z,TO,i1,i2]->s.heap.get? b=some o->h''.get? b=some o:=fun b o hb e=>hs''.extBut _ _ (fun q=>hb (by simp [q])) (hk b o (fun q=>hb (by simp [q])) (fun q=>hb (by simp [q])) (fun q=>hb (by simp [q])) (fun q=>hb (by simp [q])) e)
  have I2:Inv X pins σ (upd H s.heap.objs.size (.tup [x1,x2])) {s with heap:=h'',toks:=tk}:=
   I.turnedT (ch:=[z,TO,i1,i2]) (fun b hb=>hf b (by simp only [List.mem_cons,List.not_mem_nil,or_false] at hb ⊢; rcases hb with h | h | h | h <;> simp [h])) kAll (Nat.le_refl _)
    ⟨by show 2<=sizeLine; decide,[v1,v2],(.cons rx1 (.cons rx2 .nil)),⟨_,hs''.extBut _ _ hTz y3,rfl,_,rfl⟩⟩
  refine(fun ht=>⟨.ref s.heap.objs.size,_,I2,rfl,⟨s.heap.objs.size,x1,x2,rfl,I.hok.fresh (Nat.le_refl _),rfl,(fun xs h=>by rw [Src.inj I h hq1]; exact gx1),(fun xs h=>by rw [Src.inj I h hq2]; exact gx2)⟩,⟨hz'',hs''.extBut _ _ L.TIz (hk _ _ L.TIz L.TITO L.TI1 L.TI2 hTI),⟨_,_,hs''.extBut _ _ L.TOz y2⟩,(Src.it_keep w1.1 fun o e=>hs''.extBut _ _ L.z1 e),(Src.it_keep w2.1 fun o e=>hs''.extBut _ _ L.z2 e)⟩,fun b hb=>?_⟩)
  have bne:b≠s.heap.objs.size:=by
   rintro rfl
   have st2:∃o,s.heap.get? s.heap.objs.size=some o:=by
    simp only [List.mem_cons,List.not_mem_nil,or_false] at hb
    rcases hb with h | h | h | h | h
    ·rw [h]; exact⟨_,hz⟩
    ·rw [h]; exact⟨_,hTI⟩
    ·rw [h]; exact⟨_,hTO⟩
    ·rw [h]; obtain⟨o,e,_⟩:=(Src.it_obj t1); exact⟨o,e⟩
    ·rw [h]; obtain⟨o,e,_⟩:=(Src.it_obj t2); exact⟨o,e⟩
   obtain⟨o,e⟩:=st2
   exact absurd (Heap.lt_size e) (Nat.lt_irrefl _)
  rw [upd_ne bne]
  exact(hf b hb).1
 done:=by
  intro X hP hw hK hc i pins s σ H E I hf st hg
  subst hP hw hK
  obtain⟨xs1,xs2,hq1,hq2,hi⟩:=hg
  obtain⟨us1,c1,m1,r1⟩:=Src.use I hq1
  obtain⟨us2,c2,m2,r2⟩:=Src.use I hq2
  obtain⟨hz,hTI,⟨a1,a2,hTO⟩,t1,t2⟩:=st
  have hT:s.TypeIs (.ref z) "zip" := ⟨_,hz,rfl⟩
  have D1:=Src.draws (prog:=X.prog) (w:=X.w) (A:=X.A.in1) (I.ok.hd hc) s1 l1 us1
  have D2:=Src.draws (prog:=X.prog) (w:=X.w) (A:=X.A.in1) (I.ok.hd hc) s2 l2 us2
  have ei:i=min (s1.num us1) (s2.num us2):=by rw [m1,m2]; exact hi
  rw [ei] at t1 t2
  unfold pyNext
  refine wpAny_bind (wpAny_attempt (wpAny_callSpecial?_slot (name:=Str.ofString "__next__") hT F.slot_zip_next (wpAny_call_entry F.slot_zip_next hT F.entry_zip_next (zn_end2 L D1 D2 hz hTI hTO ⟨t1,c1⟩ ⟨t2,c2⟩ fun h' e tk hk he=>?_) (F.args_zip_next_1 _))))
  obtain⟨o,ho,hc'⟩:=he
  refine wpAny_bind (wpAny_isInstance (T:="StopIteration") (b:=true) ⟨o,ho,hc'⟩ isSubtype_stop ?_)
  exact wpAny_pure (fun ht=>⟨rfl,I.turnedL (ch:=[z,TO,i1,i2]) (fun b hb=>hf b (by simp only [List.mem_cons,List.not_mem_nil,or_false] at hb ⊢; rcases hb with h | h | h | h <;> simp [h])) fun b u hb e=>hk b u (fun q=>hb (by simp [q])) (fun q=>hb (by simp [q])) (fun q=>hb (by simp [q])) (fun q=>hb (by simp [q])) e⟩)
 self:=fun _ _ _ _ _ st h=>wpAny_pyIter_zip st.1 h
noncomputable def Src.isV:Src->Nat->V->Prop
 |.L a,k,v=>k=0/\v=.ref a
 |.T l _,k,v=>k=1/\v=S l
 |.U a,k,v=>k=2/\v=.ref a
noncomputable def SeqV (k:Nat) (K:PySem.W.Frag) (H:Hp) (v:V):Prop:=(k=0/\∃a xs,v=.ref a/\SqL K H a xs)∨(k=1/\∃l,v=S l)∨(k=2/\∃a xs,v=.ref a/\SqT K H a xs)
theorem SeqV.mono {k:Nat}{K:PySem.W.Frag}{H H':Hp}{v:V} (h:SeqV k K H v) (s:Same H H'):SeqV k K H' v:=by
 rcases h with ⟨e,a,xs,rfl,hq⟩ | h | ⟨e,a,xs,rfl,hq⟩
 ·exact .inl ⟨e,a,xs,rfl,s.seq hq⟩
 ·exact .inr (.inl h)
 ·exact .inr (.inr ⟨e,a,xs,rfl,s.seqT hq⟩)
theorem SeqV.src {X:Cx}{pins:List (Addr×Obj)}{σ:St}{H:Hp}{s:Shared} (I:Inv X pins σ H s){v:V}{u:Value}{k:Nat} (h:SeqV k X.K H v) (r:RelV v u):∃sc:Src,sc.isV k v/\u=sc.val/\sc.ok s.heap/\sc.lt s.heap.objs.size:=by
 rcases h with ⟨rfl,a,xs,rfl,hq⟩ | ⟨rfl,l,rfl⟩ | ⟨rfl,a,xs,rfl,hq⟩
 ·cases r
  obtain⟨its,_,p,_⟩:=I.list hq
  obtain⟨o,e,_⟩:=id p.isList
  exact⟨.L a,⟨rfl,rfl⟩,rfl,⟨_,p.isList⟩,Heap.lt_size e⟩
 ·obtain⟨t,rfl⟩:=r
  exact⟨.T l t,⟨rfl,rfl⟩,rfl,trivial,trivial⟩
 ·cases r
  obtain⟨its,_,p,_⟩:=I.tuple hq
  obtain⟨o,e,_⟩:=id p
  exact⟨.U a,⟨rfl,rfl⟩,rfl,⟨_,p⟩,Heap.lt_size e⟩
theorem Src.mono {K:PySem.W.Frag}{H H':Hp}{sc:Src}{xs:List V} (h:sc.vals K H xs) (s:Same H H'):sc.vals K H' xs:=by
 cases sc with
 |L a=>exact s.seq h
 |U a=>exact s.seqT h
 |T l t=>exact h
theorem Src.lt_mono {sc:Src}{m n:Nat} (h:sc.lt m) (k:m<=n):sc.lt n:=by
 cases sc with
 |L a=>exact Nat.lt_of_lt_of_le h k
 |U a=>exact Nat.lt_of_lt_of_le h k
 |T l t=>trivial
theorem Src.not_fp {sc:Src}{m:Nat}{j b:Addr} (h:sc.lt m) (hb:m<=b) (hj:b≠j):b∉sc.fp j:=by
 cases sc with
 |L a=>
  intro z
  rcases List.mem_cons.mp z with z | z
  ·exact hj z
  ·have:b=a:=by simpa using z
   subst this
   exact absurd (Nat.lt_of_lt_of_le (show b<m from h) hb) (Nat.lt_irrefl _)
 |U a=>
  intro z
  rcases List.mem_cons.mp z with z | z
  ·exact hj z
  ·have:b=a:=by simpa using z
   subst this
   exact absurd (Nat.lt_of_lt_of_le (show b<m from h) hb) (Nat.lt_irrefl _)
 |T l t=>intro z; exact hj (by simpa [Src.fp] using z)
theorem seq_vals {K:PySem.W.Frag}{H:Hp}{d:Dt}{ds:List Dt}{v:V} (h:sqM d=.ok ds) (r:Rep K H d v):∃k,SeqV k K H v/\∀sc:Src,sc.isV k v->∃xs,sc.vals K H xs/\Reps K H ds xs:=by
 cases d with
 |lst l=>
  cases h
  obtain⟨a,xs,rfl,h1,h2⟩:=repL r
  refine⟨0,.inl ⟨rfl,a,xs,rfl,h1⟩,fun sc hs=>?_⟩
  cases sc with
  |L b=>cases (show V.ref a=.ref b from hs.2); exact⟨xs,h1,h2⟩
  |T m t=>exact nomatch hs.1
  |U b=>exact nomatch hs.1
 |str l=>
  cases h
  have e:v=S l:=by simpa only [Rep] using r
  subst e
  refine⟨1,.inr (.inl ⟨rfl,l,rfl⟩),fun sc hs=>?_⟩
  cases sc with
  |L b=>exact nomatch hs.1
  |U b=>exact nomatch hs.1
  |T m t=>
   have:=S_inj (show S l=S m from hs.2)
   subst this
   exact⟨sgs l,rfl,reps_sgs l⟩
 |_=>cases h
noncomputable def zA2 (hp:Heap) (s1 s2:Src):Heap:=((hp.push s1.obj).push s2.obj).push {cls:=.type "tuple",data:=.seq #[.ref (hp).objs.size,.ref ((hp.push s1.obj)).objs.size]}
noncomputable def zB2 (hp:Heap) (s1 s2:Src):Heap:=(zA2 hp s1 s2).push {cls:=.type "tuple",data:=.seq #[.none,.none]}
noncomputable def zC2 (hp:Heap) (s1 s2:Src):Heap:=(zB2 hp s1 s2).push {cls:=.type "zip",data:=.fields #[.none,.bool false,.bool false,.ref (((hp.push s1.obj).push s2.obj)).objs.size,.ref (zA2 hp s1 s2).objs.size]}
theorem mz2 (s1 s2:Src):Meets (Builtin.«zip.__new__» ⟨[.type "zip",s1.val,s2.val],[]⟩) (fun _ R s=>s1.ok s.heap/\s2.ok s.heap/\R (.ok (.ret (.ref (zB2 s.heap s1 s2).objs.size))) {s with heap:=zC2 s.heap s1 s2}):=
 .of_wp fun prog w A R s h=>by
  obtain⟨hp,g,d,tk,os⟩:=s
  obtain⟨o1,o2,h⟩:=h
  have hsub:=sub_zip
  have hI1:∀{A:Around} {E:Value->Shared->Prop} {Q:Value->Shared->Prop},Q (.ref (hp).objs.size) ⟨(hp.push s1.obj),g,d,tk,os⟩->wpAny (model prog w) A (pyIter s1.val) Q E ⟨hp,g,d,tk,os⟩:=fun q=>Src.iter (s:=⟨hp,g,d,tk,os⟩) o1 q
  have hI2:∀{A:Around} {E:Value->Shared->Prop} {Q:Value->Shared->Prop},Q (.ref ((hp.push s1.obj)).objs.size) ⟨((hp.push s1.obj).push s2.obj),g,d,tk,os⟩->wpAny (model prog w) A (pyIter s2.val) Q E ⟨(hp.push s1.obj),g,d,tk,os⟩:=fun q=>Src.iter (s:=⟨(hp.push s1.obj),g,d,tk,os⟩) (Src.ok_push o2) q
  wp_walk using hI1,hI2
  exact⟨_,rfl,h⟩
theorem len_z2 (hp:Heap) (s1 s2:Src):(zA2 hp s1 s2).objs.size=hp.objs.size+3/\(zB2 hp s1 s2).objs.size=hp.objs.size+4/\((hp.push s1.obj)).objs.size=hp.objs.size+1/\(((hp.push s1.obj).push s2.obj)).objs.size=hp.objs.size+2:=by
 simp [zA2,zB2,Heap.size_push]
theorem pi_zip2 {X:Cx}{tl:List Expr}{kk:Nat}{tpos p pos:Pos}{a b:Expr}{ta:TA} (hg:Gl X "zip") (hm:X.mg "zip" = none) (ha:PA X [a,b] ta) (hs:starEach [a,b] X.env=(false,eval a X.env)::starEach [b] X.env) (hs2:(backTo pos (starEach [b] X.env)).any (·.1)=false) :
  PI X (.Tuple tl kk tpos) (.Call (.Name "zip" p) [a,b] [] pos) (fun σ H R=>ta σ H fun vs H1=>∃v1 v2 k1 k2,vs=[v1,v2]/\SeqV k1 X.K H1 v1/\SeqV k2 X.K H1 v2/\∀s1 s2:Src,s1.isV k1 v1->s2.isV k2 v2->R (Itz2 X.K s1 s2) H1):=by
 intro pins s σ H R I h
 refine Call_ (ld_blt I hg hm boot_zip (PyProof.Rows.callWith_type1 (thn (ha pos pins s σ H _ I h) fun us s' ⟨vs,H1,I1,r1,q1⟩=>?_) hs hs2))
 obtain⟨v1,v2,k1,k2,e,w1,w2,q⟩:=q1
 subst e
 obtain⟨u1,u2,rfl,r1,r2⟩:∃u1 u2,us=[u1,u2]/\RelV v1 u1/\RelV v2 u2:=by
  cases r1 with | cons g1 r2=>cases r2 with | cons g2 r3=>cases r3; exact⟨_,_,rfl,g1,g2⟩
 obtain⟨s1,iv1,rfl,ok1,lt1⟩:=w1.src I1 r1
 obtain⟨s2,iv2,rfl,ok2,lt2⟩:=w2.src I1 r2
 refine callType_new F.called_zip (by decide) (F.typeCall_zip_2 _ _) (F.newCall_zip_2 _ _) (fun obj=>F.args_object_init_3 obj _ _) F.entry_zip_new (mz2 s1 s2) ⟨ok1,ok2,?_⟩
 obtain⟨zA,zB,z1,z2⟩:=len_z2 s'.heap s1 s2
 have gz:(zC2 s'.heap s1 s2).get? (zB2 s'.heap s1 s2).objs.size=some _:=Heap.get?_push_size _ rfl
 have gO:(zC2 s'.heap s1 s2).get? (zA2 s'.heap s1 s2).objs.size=some _:=Heap.get?_push_of_some _ (Heap.get?_push_size _ rfl)
 have gI:(zC2 s'.heap s1 s2).get? (((s'.heap.push s1.obj).push s2.obj)).objs.size=some _:=Heap.get?_push_of_some _ (Heap.get?_push_of_some _ (Heap.get?_push_size _ rfl))
 have g1:(zC2 s'.heap s1 s2).get? (s'.heap).objs.size=some s1.obj:=(Heap.get?_push_of_some _ (Heap.get?_push_of_some _ (Heap.get?_push_of_some _ (Heap.get?_push_of_some _ (Heap.get?_push_size _ (by cases s1 <;> rfl))))))
 have g2:(zC2 s'.heap s1 s2).get? ((s'.heap.push s1.obj)).objs.size=some s2.obj:=(Heap.get?_push_of_some _ (Heap.get?_push_of_some _ (Heap.get?_push_of_some _ (Heap.get?_push_size _ (by cases s2 <;> rfl)))))
 have kk':∀c o,s'.heap.get? c=some o->(zC2 s'.heap s1 s2).get? c=some o:=fun c o x=>(Heap.get?_push_of_some _ (Heap.get?_push_of_some _ (Heap.get?_push_of_some _ (Heap.get?_push_of_some _ (Heap.get?_push_of_some _ x)))))
 show _/\_
 rw [zB,zA,z2] at gz
 rw [zA] at gO
 rw [z2,z1] at gI
 rw [z1] at g2
 rw [zB]
 refine⟨⟨_,gz,rfl⟩,fun _=>wpAny_pyIter_zip gz fun _=>?_⟩
 have L:ZA2 (s'.heap.objs.size+4) (s'.heap.objs.size+2) (s'.heap.objs.size+3) (s'.heap.objs.size) (s'.heap.objs.size+1) (s1.fp (s'.heap.objs.size)) (s2.fp (s'.heap.objs.size+1)):=by
  have ne:∀i j:Nat,i≠j->s'.heap.objs.size+i≠s'.heap.objs.size+j:=fun i j h z=>h (Nat.add_left_cancel z)
  constructor
  all_goals first | exact ne _ _ (by decide) | exact ne 0 _ (by decide) | exact ne _ 0 (by decide) | exact Src.not_fp lt1 (Nat.le_add_right _ _) (by first | exact ne _ _ (by decide) | exact ne 0 _ (by decide) | exact ne _ 0 (by decide)) | exact Src.not_fp lt1 (Nat.le_refl _) (ne 0 _ (by decide)) | exact Src.not_fp lt2 (Nat.le_add_right _ _) (by first | exact ne _ _ (by decide) | exact ne 0 _ (by decide) | exact ne _ 0 (by decide)) | exact Src.not_fp lt2 (Nat.le_refl _) (ne 0 _ (by decide))
 refine⟨s'.heap.objs.size+4,[s'.heap.objs.size+4,s'.heap.objs.size+2,s'.heap.objs.size+3,s'.heap.objs.size,s'.heap.objs.size+1],_,_,H1,rfl,I1.kept (t':=s'.toks) kk',turn_z2 (s1:=s1) (s2:=s2) L (Src.lt_mono lt1 (by first | exact Nat.le_refl _ | exact Nat.le_add_right _ _)) (Src.lt_mono lt2 (by first | exact Nat.le_refl _ | exact Nat.le_add_right _ _)),⟨gz,gI,⟨_,_,gO⟩,Src.it_new g1,Src.it_new g2⟩,fun b hb=>?_,q s1 s2 iv1 iv2⟩
 have hb':s'.heap.objs.size<=b:=by
  simp only [List.mem_cons,List.not_mem_nil,or_false] at hb
  rcases hb with h | h | h | h | h <;> (rw [h]; first | exact Nat.le_refl _ | exact Nat.le_add_right _ _)
 exact I1.fpOk hb' (I1.hok.fresh hb')
theorem sq_ex {d:Dt}{c:Nat} (h:sqM d=.ex c):False:=by cases d <;> cases h
theorem itd_z2 {K:PySem.W.Frag}{A:List Addr}{s1 s2:Src}{d1 d2:List Dt}{xs1 xs2:List V}{H1:Hp} (h1:s1.vals K (hid H1 A) xs1) (r1:Reps K (hid H1 A) d1 xs1) (z1:sms d1) (l1:d1.length<=10000) (h2:s2.vals K (hid H1 A) xs2) (r2:Reps K (hid H1 A) d2 xs2) (z2:sms d2) (l2:d2.length<=10000):ItD K A (Itz2 K s1 s2) (zipD d1 d2) H1:=by
 have e1:=r1.length
 have e2:=r2.length
 have hz:(zipD d1 d2).length=min (d1.length) d2.length:=by simp [zipD]
 refine⟨fun i H hi s=>⟨xs1,xs2,Src.mono h1 s,Src.mono h2 s,by omega⟩,fun H s=>⟨xs1,xs2,Src.mono h1 s,Src.mono h2 s,by omega⟩,fun i H x H' A' hi L s y=>?_,sms_of fun d hd=>?_,by omega⟩
 ·obtain⟨T,x1,x2,rfl,hT,rfl,y1,y2⟩:=y
  have g1:=y1 xs1 (Src.mono h1 (s.trans hid_same))
  obtain⟨c1,k1,q1⟩:=r1.get g1
  have g2:=y2 xs2 (Src.mono h2 (s.trans hid_same))
  obtain⟨c2,k2,q2⟩:=r2.get g2
  have s2:Same H (upd H T (.tup [x1,x2])):=.upd hT
  refine⟨s2,.tup [c1,c2],?_,rep_tup (hid_new L hT) (.cons ((q1.mono s).mono (s2.hid _)) (.cons ((q2.mono s).mono (s2.hid _)) .nil))⟩
  simp [zipD,List.getElem?_zip_eq_some,k1,k2]
 ·obtain⟨p,hp,rfl⟩:=List.mem_map.mp hd
  have m1:=List.of_mem_zip hp
  exact⟨by show 2<=10000; decide,sms_mem z1 m1.1,sms_mem z2 m1.2,trivial⟩
theorem sq_small {d:Dt}{ds:List Dt} (h:sqM d=.ok ds) (z:sm d):sms ds/\ds.length<=10000:=by
 cases d with
 |lst l=>cases h; exact⟨z.2,z.1⟩
 |str l=>cases h; exact⟨sms_sgD l,by rw [sgD,List.length_map]; exact z⟩
 |_=>cases h
theorem iv_zip2 {X:Cx}{cls:Nat->Addr}{E:XK}{tl:List Expr}{kk:Nat}{tpos p pos:Pos}{a b:Expr}{fs:Rho->M (List Dt)} (hg:Gl X "zip") (hm:X.mg "zip" = none) (ha:Av X cls E [a,b] fs) (hs:starEach [a,b] X.env=(false,eval a X.env)::starEach [b] X.env:=by rfl) (hs2:(backTo pos (starEach [b] X.env)).any (·.1)=false:=by rfl) :
  Iv X cls E (.Tuple tl kk tpos) (.Call (.Name "zip" p) [a,b] [] pos) (iBy zip2N fs):=(pi_zip2 hg hm ha hs hs2).imp fun σ H R ⟨O,A,ρ,F,q⟩=>by
 refine⟨O,A,ρ,F,Rg.bind q fun ds hds q1=>?_⟩
 clear hds
 intro vs H1 s1 r1 z1
 unfold zip2N at q1
 split at q1
 ·rename_i e1 e2
  obtain⟨v1,v2,rfl,t1,t2⟩:=reps2 r1
  cases g1:sqM e1 with
  |ex c=>exact(sq_ex g1).elim
  |bad=>rw [g1] at q1; exact(show False from q1).elim
  |ok d1=>
   rw [g1] at q1
   simp only [bd_ok] at q1
   cases g2:sqM e2 with
   |ex c=>exact(sq_ex g2).elim
   |bad=>rw [g2] at q1; exact(show False from q1).elim
   |ok d2=>
    rw [g2] at q1
    simp only [bd_ok] at q1
    obtain⟨k1,a1,b1⟩:=seq_vals g1 t1
    obtain⟨sm1,ln1⟩:=sq_small g1 z1.1
    have aa1:SeqV k1 X.K H1 v1:=a1.mono hid_same
    obtain⟨k2,a2,b2⟩:=seq_vals g2 t2
    obtain⟨sm2,ln2⟩:=sq_small g2 z1.2.1
    have aa2:SeqV k2 X.K H1 v2:=a2.mono hid_same
    refine⟨v1,v2,k1,k2,rfl,aa1,aa2,fun c1 c2 i1 i2=>?_⟩
    obtain⟨xs1,m1,n1⟩:=b1 c1 i1
    obtain⟨xs2,m2,n2⟩:=b2 c2 i2
    exact q1 _ H1 s1 (itd_z2 m1 n1 sm1 ln1 m2 n2 sm2 ln2)
 ·exact(show False from q1).elim
noncomputable def dlook:List (List Nat×List Nat)->List Nat->Option (List Nat)
 | [],_=>none
 | (k,v)::r,l=>if l=k then some v else dlook r l
noncomputable def entD (P:Params) (q:List Nat×Tok×List Nat×Tok):DictEntry:=⟨PyData.keyHash P ⟨q.1.toArray⟩,.str ⟨q.1.toArray⟩ q.2.1,.str ⟨q.2.2.1.toArray⟩ q.2.2.2⟩
noncomputable def DcK (w:World) (K:PySem.W.Frag) (a:Addr) (kvs:List (List Nat×List Nat)):Prop:=
 ∃(qs:List (List Nat×Tok×List Nat×Tok)) (ep:Nat),K.lookup a=some {cls:=.type "dict",dict:=none,data:=.dict (qs.map (entD w.params)).toArray ep,slots:=#[]}/\kvs=qs.map fun q=>(q.1,q.2.2.1)
theorem key_hash (w:World) (x:Str):PyData.keyHash w.params x=hashStr w x:=by
 rfl
theorem find_ent {P:Params}:∀{qs:List (List Nat×Tok×List Nat×Tok)}{l v:List Nat},dlook (qs.map fun q=>(q.1,q.2.2.1)) l=some v->∃t,((qs.map (entD P)).find? fun e=>Value.isStrOf ⟨l.toArray⟩ e.key).map (·.val)=some (.str ⟨v.toArray⟩ t)
 | [],l,v,h=>by cases h
 |q::qs,l,v,h=>by
  simp only [List.map_cons,dlook] at h
  rw [List.map_cons,List.find?_cons]
  by_cases e:l=q.1
  ·rw [if_pos e] at h
   cases h
   have:Value.isStrOf ⟨l.toArray⟩ (entD P q).key=true:=by simp [entD,Value.isStrOf,e]
   rw [this]
   exact⟨q.2.2.2,rfl⟩
  ·rw [if_neg e] at h
   have:Value.isStrOf ⟨l.toArray⟩ (entD P q).key=false:=by
    simp only [entD,Value.isStrOf]
    rw [beq_eq_false_iff_ne]
    intro z
    injection z with z
    exact e (by simpa using (congrArg Array.toList z).symm)
   rw [this]
   exact find_ent h
theorem ix_dc {X:Cx}{a:Addr}{kvs:List (List Nat×List Nat)} (D:DcK X.w X.K a kvs):IxR X (fun x y H Q=>∃l v,x=.ref a/\y=S l/\dlook kvs l=some v/\Q (S v) H):=by
 intro value slice pins s σ H x y v u Q I rx ry h hs
 obtain⟨l,c,ex,ey,hd,q⟩:=h
 subst ex ey
 cases rx
 obtain⟨t,rfl⟩:=ry
 obtain⟨qs,ep,hk,rfl⟩:=D
 have ho:=I.kIn a _ hk
 obtain⟨t',ht⟩:=find_ent (P:=X.w.params) hd
 have hm:s.heap.MapOf (strKind X.prog X.w) a (fun k=>findBy Value.isStrOf (qs.map (entD X.w.params)).toArray k):=by
  refine⟨_,_,ep,ho,⟨rfl,rfl,rfl⟩,rfl,?_,fun _=>rfl⟩
  intro e he
  have he':e∈qs.map (entD X.w.params):=by simpa using he
  obtain⟨q,_,rfl⟩:=List.mem_map.mp he'
  exact⟨⟨q.1.toArray⟩,strKind_is X.prog X.w _ _,key_hash _ _⟩
 have hv:findBy Value.isStrOf (qs.map (entD X.w.params)).toArray ⟨l.toArray⟩=some (.str ⟨c.toArray⟩ t'):=by
  unfold findBy
  rw [List.find?_toArray]
  exact ht
 refine subscriptTail_builtinR (x:=.str ⟨c.toArray⟩ t') hm.typeIs slot_dict_getitem.lookup (wpAny_getItem_of (k:=⟨l.toArray⟩) (strKind_is X.prog X.w _ _) hm hv ⟨rfl,?_⟩) hs
 exact(fun ht=>⟨S c,H,I.tok _,⟨t',rfl⟩,q⟩)
section
variable {X:Cx}{cls:Nat->Addr}{E:XK}{a b v:Expr}{f g:Rho->M Dt}{fs:Rho->M (List Dt)}{pos:Pos}
theorem dget_look:∀{kvs:List (List Nat×List Nat)}{d e:Dt},dgetM (kvs.map fun q=>(q.1,Dt.str q.2)) d=.ok e->∃l m,d=.str l/\dlook kvs l=some m/\e=.str m/\∃k,(k,m)∈kvs
 | [],d,e,h=>by cases h
 | (k,m)::r,d,e,h=>by
  cases d with
  |str l=>
   simp only [List.map_cons,dgetM] at h
   by_cases z:l=k
   ·rw [if_pos z] at h
    cases h
    exact⟨l,m,rfl,if_pos z,rfl,k,List.mem_cons_self ..⟩
   ·rw [if_neg z] at h
    obtain⟨l',m',e1,e2,e3,k',e4⟩:=dget_look h
    cases e1
    exact⟨l,m',rfl,(if_neg z).trans e2,e3,k',List.mem_cons_of_mem _ e4⟩
  |_=>cases h
theorem dget_noex:∀{kvs:List (List Nat×Dt)}{d:Dt}{c:Nat},dgetM kvs d≠.ex c
 | [],d,c=>by intro h; cases h
 | (k,m)::r,d,c=>by
  intro h
  cases d with
  |str l=>
   simp only [dgetM] at h
   split at h
   ·cases h
   ·exact dget_noex h
  |_=>cases h
theorem ev_dgetG {x:Str}{p:Pos}{aD:Addr}{kvs:List (List Nat×List Nat)} (D:DcK X.w X.K aD kvs) (hg:Gl X x) (hm:X.mg x=some (.ref aD)) (hb:Ev X cls E b g) (hs:PlainIx b) (hz:∀q∈kvs,q.2.length<=10000:=by decide) (hd:(x==("__debug__" : Str))=false:=by decide) :
  Ev X cls E (.Subscript (.Name x p) b pos) (p1 (dgT kvs) g):=by
 refine(pe_ix (ix_dc D) (pe_glob hg hm (v:=.ref aD) rfl hd) hb hs).imp fun σ H Q h_=>?_
 obtain⟨O,A,ρ,F,q⟩:=h_
 refine⟨O,A,ρ,F,Rg.bind q fun d _ q1=>?_⟩
 intro u H1 s1 r1 z1
 unfold dgT at q1
 cases e:dgetM (kvs.map fun q=>(q.1,Dt.str q.2)) d with
 |ok c=>
  obtain⟨l,m,rfl,h2,rfl,k,hk⟩:=dget_look e
  rw [e] at q1
  exact⟨l,m,rfl,repS r1,h2,q1 _ H1 s1 rep_str (hz _ hk)⟩
 |ex c=>exact(dget_noex e).elim
 |bad=>rw [e] at q1; exact(show False from q1).elim
noncomputable def kz (ks:List (List Nat)) (us:List Value):List (Str×Value):=(ks.map fun k=>(⟨k.toArray⟩:Str)).zip us
noncomputable def PD (X:Cx) (cls:Nat->Addr) (E:XK) (pairs:List (Sem Value×Sem Value)) (ks:List (List Nat)) (fs:Rho->M (List Dt)):Prop:=
 ∀(pins:List (Addr×Obj)) (s:Shared) (σ:St) (H:Hp) (Q:List V->Hp->Prop),Inv X pins σ H s->tMA X.K cls E fs σ H Q->
  wpAny (model X.prog X.w) X.A (evalPairs pairs) (Lz fun vs s'=>∃xs us H',Inv X pins σ H' s'/\Vals xs us/\Q xs H'/\Carries (strKind X.prog X.w) vs (kz ks us)) X.xe s
end
section
variable {X:Cx}{cls:Nat->Addr}{E:XK}{a b e dE o:Expr}{f g:Rho->M Dt}{fs:Rho->M (List Dt)}{pos p kp:Pos}
theorem ev_isStr {p2:Pos} (hg:Gl X "isinstance") (hm:X.mg "isinstance" = none) (hg2:Gl X "str") (hm2:X.mg "str" = none) (ha:Ev X cls E e f) (hst:isStar e=false):Ev X cls E (.Call (.Name "isinstance" p) [e,.Name "str" p2] [] pos) (p1 oIsStr f):=by
 refine(pe_callB call_isStr hg hm boot_isinstance (@pax _ _ _ _ _ hst ha (@pax _ _ _ _ _ rfl (pe_bltn hg2 hm2 boot_str (v:=.ty "str") rfl) pa_nil)) (by decide) (by decide) (starEach_cons hst) rfl).imp fun σ H Q h_=>?_
 obtain⟨O,A,ρ,F,q⟩:=h_
 refine⟨O,A,ρ,F,Rg.bind q fun d _ q1=>?_⟩
 intro v H1 s1 r1 z1
 have q2:=Res.mono (Q:=Q) q1 s1
 show ∃x b,[v,V.ty "str"]=[x,.ty "str"]/\isStrV X.K x H1 b/\Q (.bl b) H1
 cases d with
 |str l=>exact⟨v,true,rfl,by rw [repS r1]; rfl,q2 _ H1 (.refl _) rep_bl trivial⟩
 |int i=>exact⟨v,false,rfl,by rw [repI r1]; rfl,q2 _ H1 (.refl _) rep_bl trivial⟩
 |bl i=>exact⟨v,false,rfl,by simp only [Rep] at r1; rw [r1]; rfl,q2 _ H1 (.refl _) rep_bl trivial⟩
 |non=>exact⟨v,false,rfl,by simp only [Rep] at r1; rw [r1]; rfl,q2 _ H1 (.refl _) rep_bl trivial⟩
 |lst l=>
  obtain⟨p,xs,rfl,h1,_⟩:=repL r1
  exact⟨_,false,rfl,⟨rfl,.inl ⟨xs,hid_same.seq h1⟩⟩,q2 _ H1 (.refl _) rep_bl trivial⟩
 |tup l=>
  obtain⟨p,xs,rfl,h1,_⟩:=repT r1
  exact⟨_,false,rfl,⟨rfl,.inr ⟨xs,hid_same.seqT h1⟩⟩,q2 _ H1 (.refl _) rep_bl trivial⟩
 |dic l=>exact(show False from q2).elim
end
section
variable {X:Cx}{cls:Nat->Addr}{E:XK}{a b e dE o:Expr}{f g:Rho->M Dt}{fs:Rho->M (List Dt)}{pos p kp:Pos}
theorem cd_tuple:CaD X cls E (.type "tuple") bTup:=by
 refine⟨_,call_tuple_of,fun A H Q ds vs L r z q=>?_⟩
 unfold bTup at q
 split at q
 ·rename_i l
  obtain⟨v,rfl,rv⟩:=reps1 r
  obtain⟨p,xs,rfl,h1,h2⟩:=repL rv
  refine⟨p,xs,rfl,.inl ⟨hid_same.seq h1,fun l' hl'=>?_⟩⟩
  exact q (.ref l') _ (.upd hl') (rep_tup (hid_new L hl') (h2.mono ((Same.upd hl').hid A))) z.1
 ·rename_i l
  obtain⟨v,rfl,rv⟩:=reps1 r
  obtain⟨p,xs,rfl,h1,h2⟩:=repT rv
  exact⟨p,xs,rfl,.inr ⟨hid_same.seqT h1,q (.ref p) H (.refl _) rv z.1⟩⟩
 ·exact(show False from q).elim
noncomputable def iv (ns:List Int) (i:Nat):Int:=ns.getD i 0
theorem pre_take (ns:List Int):∀k,k<=ns.length->preSum (iv ns) k=(ns.take k).sum
 |0,_=>by simp [preSum]
 |k+1,h=>by
  have hk:k<ns.length:=by omega
  simp only [preSum,pre_take ns k (by omega)]
  rw [List.take_add_one,List.sum_append]
  simp [iv,hk]
end
section
variable {X:Cx}{cls:Nat->Addr}{E:XK}{a b c o:Expr}{f g:Rho->M Dt}{fs:Rho->M (List Dt)}{pos:Pos}
theorem pe_fmtR {ta:TE} (ha:PE X a ta):PE X (.FormattedValue a 114 none pos) (fun σ H Q=>ta σ H fun v H1=>∃l:List Nat,v=S l/\l.length<=50/\(∀c∈l,c<1000)/\∀z:Str,z.length<=1000->Q (.str z) H1):=by
 intro pins s σ H Q I h
 refine wpAny_FormattedValue_repr (thn (ha pins s σ H _ I h) fun v s1 ⟨x,H1,I1,r1,l,e,hl,hc,q⟩=>?_)
 subst e
 obtain⟨t,rfl⟩:=r1
 have hlen:(reprText ⟨l.toArray⟩).length<=502:=by
  have h1:=StrLaws.reprText_len ⟨l.toArray⟩ (fun c hcc=>Nat.lt_trans (hc c (by simpa using hcc)) (by decide))
  have h2:(⟨l.toArray⟩:Str).length=l.length:=by simp [Str.length]
  omega
 have hs:1000<=sizeLine:=by decide
 refine wpAny_pyReprObj_str ?_ (by omega)
 exact wpAny_formatField_str (fun ht=>⟨.str _,H1,I1.tok _,⟨_,rfl⟩,q _ (by omega)⟩) (fun ht=>⟨.str _,H1,I1.tok _,⟨_,rfl⟩,q _ (by omega)⟩) (by omega)
theorem uv_r2 {x:Str} {j p p'} (h:Ev X cls E a f) (hx:x.length<=1000:=by decide +kernel):Uv X cls E (.JoinedStr [.FormattedValue a 114 none p',.Constant (.str x) j p] pos) (uRp f):=(pe_fstr2 (pe_fmtR h) (pe_str (x:=x))).imp fun σ H Q h_=>by
 obtain⟨O,A,ρ,F,q⟩:=h_
 refine⟨O,A,ρ,F,Rg.bind q fun d _ q1=>?_⟩
 intro v H' s' r z
 cases d with
 |str l=>
  simp only [uRpD] at q1
  split at q1
  ·rename_i hi
   refine⟨l,repS r,hi.1,fun c hc=>by simpa using List.all_eq_true.mp hi.2 c hc,fun z hz=>⟨z,rfl,hz,_,rfl,hx,fun z'=>q1 _ H' s'⟩⟩
  ·exact(show False from q1).elim
 |_=>exact(show False from q1).elim
end
structure LamB (mg:Str->Option Value) (base:Heap) (c P:Addr):Prop where
 code:CodeHd base c P
 bm:∃bm ob,mg "__builtins__" = some (.ref bm)/\bm≠builtinsNs/\base.get? bm=some ob/\ob.cls=.type "module" /\ob.dict=some builtinsNs/\ob.data=.plain
theorem among_snoc {pos:Pos}{a b:Int}{c cv:Value} (l:List Value) (h:TriplesOk l) (e:codeAmong pos (l++[rawInt a,rawInt b,c])=some cv):codeAmong pos l=some cv∨cv=c:=by
 fun_induction TriplesOk l with
 |case1=>
  simp only [List.nil_append,codeAmong,rawInt] at e
  split at e
  ·exact .inr (Option.some.inj e).symm
  ·cases e
 |case2 a' t b' u x rest ih=>
  simp only [List.cons_append,codeAmong] at e ⊢
  split at e
  ·rename_i hc; rw [if_pos hc]; exact .inl e
  ·rename_i hc; rw [if_neg hc]; exact ih h e
 |case3 l h1 h2=>exact h.elim
noncomputable def CodeO (H:Hp) (c:Addr) (q:Str):Prop:=∃oc u vs t,H c=some (.frz oc u)/\oc.data=.fields vs/\vs[1]?=some (.str q t)
section
variable {X:Cx}{pins:List (Addr×Obj)}{σ:St}{H:Hp}{s:Shared}{params:Arguments}{body:Expr}{scope:Scope}{pos:Pos}{c P:Addr}{q:Str}
noncomputable abbrev lamO (q:Str) (params:Arguments) (body:Expr) (scope:Scope) (cells:List (Str×Addr)) (mg:Str->Option Value) (cv ctv:Value):Obj:=
 {cls:=.type "function",data:=.func (kla_fn "<lambda>" q params body scope (closOf scope.names cells) ((mg "__name__").getD .none) cv ctv)}
theorem lam_made {Q:Value->Shared->Prop}{E:Value->Shared->Prop} (I:Inv X pins σ H s) (hfree:∀y∈scope.names,y.2=.free->∃c,X.env.cells.lookup y.1=some c) (hcode:X.env.code=.ref c) (B:LamB X.mg X.base c P) (hT:H P=some (.tbl q)) (hq:X.env.qual ++ "<lambda>" = q)
  (hdef:defaultsOf params X.env=([],[]))
  (h:∀(f c':Addr) (ctv:Value) (s':Shared) (H':Hp),Inv X pins σ H' s'->Same H H'->H' f=some (.frz (lamO q params body scope X.env.cells X.mg (.ref c') ctv) (.own 0))->CodeO H' c' q->Q (.ref f) s') :
  wpAny (model X.prog X.w) X.A (eval (.Lambda params body scope pos) X.env) Q E s:=by
 refine wpAny_with_toks (n:=1) I.tk ?_
 refine kla_eval hdef ?_
 rw [hq]
 obtain⟨ps,hP,tr,codes⟩:=I.hok P _ hT
 have hcl:closureFor scope X.env=pure (closOf scope.names X.env.cells):=closureFor_of hfree
 have hg:s.heap.Ns mainGlobals X.mg:=I.ok.mod.glob.keeps I.bk
 have C:CodeHd s.heap c P:=B.code.keeps I.bk
 have nP:∀b o,X.base.get? b=some o->b≠P:=fun b o e z=>by
  have:=(I.bs b o e).2
  rw [z,hT] at this
  cases this
 have hgP:mainGlobals≠P:=by
  obtain⟨o,es,ep,e,_⟩:=I.ok.mod.glob
  exact nP _ _ e
 obtain⟨bm,ob,b1,b2,b3,b4,b5,b6⟩:=B.bm
 have hbG:bm≠mainGlobals:=fun z=>by
  obtain⟨o,es,ep,e,hd,_⟩:=I.ok.mod.glob
  rw [z,e] at b3; cases b3; rw [hd] at b6; cases b6
 have hB:s.heap.BuiltinsAt X.mg P:=⟨bm,ob,b1,b2,hbG,nP _ _ b3,I.bk _ _ b3,b4,b5,b6⟩
 cases hf:codeAmong pos ps.toList with
 |some cv=>
  obtain⟨c',oc,u,rfl,hc',vs,t,hd,hv⟩:=codes pos cv hf
  refine kla_makeFunctionHit (mg:=X.mg) hcl I.ok.glob hg hcode C hP tr hf hB fun ctv h' tk hk hsz ht=>?_
  have hfr:H h'.objs.size=none:=I.hok.fresh hsz
  have k2:∀b o,s.heap.get? b=some o->(h'.push (lamO q params body scope X.env.cells X.mg (.ref c') ctv)).get? b=some o:=fun b o e=>Heap.get?_push_of_some _ (hk b o e)
  refine h h'.objs.size c' ctv _ (upd H h'.objs.size (.frz (lamO q params body scope X.env.cells X.mg (.ref c') ctv) (.own 0))) (I.laid (t':=tk) k2 hsz ⟨Heap.get?_push_size _ rfl,⟨_,Heap.get?_push_size _ rfl⟩⟩) (.upd hfr) upd_same ⟨oc,u,vs,t,by rw [upd_ne (ne_of_none hc' hfr)]; exact hc',hd,hv⟩
 |none=>
  refine kla_makeFunction (mg:=X.mg) hcl I.ok.glob hg hcode C hP tr hf hgP hB fun c' ctv h' tk hx hge hlt hrec htb ht=>?_
  obtain⟨c₂,oc,vs,t,e2,hoc,hd,hv⟩:=hrec
  cases e2
  have hfr:H h'.objs.size=none:=I.hok.fresh (Nat.le_trans hge (Nat.le_of_lt hlt))
  have hcr:H c'=none:=I.hok.fresh hge
  have hcf:c'≠h'.objs.size:=Nat.ne_of_lt hlt
  have lt:∀b o,s.heap.get? b=some o->b≠c'/\b≠h'.objs.size:=fun b o e=>⟨Nat.ne_of_lt (Nat.lt_of_lt_of_le (Heap.lt_size e) hge),Nat.ne_of_lt (Nat.lt_trans (Nat.lt_of_lt_of_le (Heap.lt_size e) hge) hlt)⟩
  have up:∀b u,H b=some u->upd (upd H c' (.frz oc (.own 0))) h'.objs.size (.frz (lamO q params body scope X.env.cells X.mg (.ref c') ctv) (.own 0)) b=some u:=fun b u e=>by
   rw [upd_ne (ne_of_none e hfr),upd_ne (ne_of_none e hcr)]
   exact e
  have k2:∀b o,b≠P->s.heap.get? b=some o->(h'.push (lamO q params body scope X.env.cells X.mg (.ref c') ctv)).get? b=some o:=fun b o hb e=>Heap.get?_push_of_some _ (hx b o hb e)
  have neP:∀b,H b=none->b≠P:=fun b n z=>by rw [z,hT] at n; cases n
  have un:Un X.fs [] H (upd (upd H c' (.frz oc (.own 0))) h'.objs.size (.frz (lamO q params body scope X.env.cells X.mg (.ref c') ctv) (.own 0))) s.heap (h'.push (lamO q params body scope X.env.cells X.mg (.ref c') ctv)):=by
   refine⟨fun b o e n _ _=>k2 b o (neP b n) e,fun b o e n _ _=>⟨o.slots,k2 b o (neP b n) e⟩,fun b o e n _=>?_,fun b o e _=>?_,fun b xs e=>up b _ e,fun b ob u e=>up b _ e,fun b n e=>up b _ e⟩
   ·rw [upd_ne (lt b o e).2,upd_ne (lt b o e).1]
    exact n
   ·by_cases hb:b=P
    ·subst hb
     exact⟨_,Heap.get?_push_of_some _ htb⟩
    ·exact⟨o,k2 b o hb e⟩
  have hok:HOk X.prog X.w (upd (upd H c' (.frz oc (.own 0))) h'.objs.size (.frz (lamO q params body scope X.env.cells X.mg (.ref c') ctv) (.own 0))) (h'.push (lamO q params body scope X.env.cells X.mg (.ref c') ctv)):=by
   intro a o e
   by_cases ha:a=h'.objs.size
   ·subst ha
    rw [upd_same] at e
    cases e
    exact⟨Heap.get?_push_size _ rfl,⟨_,Heap.get?_push_size _ rfl⟩⟩
   ·rw [upd_ne ha] at e
    by_cases hac:a=c'
    ·subst hac
     rw [upd_same] at e
     cases e
     exact⟨Heap.get?_push_of_some _ hoc,⟨_,Heap.get?_push_of_some _ hoc⟩⟩
    ·rw [upd_ne hac] at e
     by_cases hap:a=P
     ·subst hap
      rw [hT] at e
      cases e
      refine⟨_,Heap.get?_push_of_some _ htb,?_,fun pos' cv z=>?_⟩
      ·rw [Array.toList_append]
       exact TriplesOk_snoc _ _ _ _ tr
      ·rw [Array.toList_append] at z
       rcases among_snoc _ tr z with z | z
       ·obtain⟨c2,oc2,u2,z1,z2,z3⟩:=codes pos' cv z
        exact⟨c2,oc2,u2,z1,up _ _ z2,z3⟩
       ·exact⟨c',oc,.own 0,z,by rw [upd_ne hcf,upd_same],vs,t,hd,hv⟩
     ·refine(I.hok a o e).stay (fun b u hb r=>k2 b u ?_ r) (fun b r=>up b _ r) (fun b xs r=>up b _ r) fun b ob u r=>up b _ r
      rcases hb with rfl | hb
      ·exact hap
      ·rintro rfl
       rw [hT] at hb
       cases hb
  exact h h'.objs.size c' ctv _ _ (I.un (t':=tk) un hok) (fun b u e=>up b u e) upd_same ⟨oc,.own 0,vs,t,by rw [upd_ne hcf,upd_same],hd,hv⟩
end
noncomputable def cxL (CX:CXT) (P:Program) (w:World) (K:PySem.W.Frag) (mg:Str->Option Value) (base:Heap) (N:List Str) (qual:Str) (scope:Scope) (f:Addr) (cd:Value) (cl:List (Str×Addr)) (A:Around) (outer:List Env) (s:Shared) (H:Hp) (E:XK):Cx where
 prog:=P
 w:=w
 K:=K
 mg:=mg
 base:=base
 A:=A.deeper (envX qual scope s.heap.objs.size f cd cl)
 N:=N
 s₀:=s
 H₀:=H
 env:=envX qual scope s.heap.objs.size f cd cl
 outer:=outer
 stack:=envX qual scope s.heap.objs.size f cd cl::outer
 ex:=[]
 calm:=true
 fn:=fun _=>false
 pn:=[]
 xe:=fun e s'=>wpAny (model P w) (A.deeper (envX qual scope s.heap.objs.size f cd cl)) (leaving (envX qual scope s.heap.objs.size f cd cl) e) (fun _ s''=>CX outer H s E e s'') (fun e' s''=>CX outer H s E e' s'') s'
section
variable {P:Program}{w:World}{K:PySem.W.Frag}{mg:Str->Option Value}{base:Heap}{N:List Str}{qual:Str}{scope:Scope}{f:Addr}{cd:Value}{cl:List (Str×Addr)}{A:Around}{outer:List Env}{s₀:Shared}{H₀:Hp}{E:XK}
theorem rz_L:Rz (cxL (CX1 P w) P w K mg base N qual scope f cd cl A outer s₀ H₀ E) E where
 made:=by
  intro pins σ H s h' e C vs I hx hE
  have hfr:=I.ok.frames
  have hF:=I.stack
  have hin:∀env∈(cxL (CX1 P w) P w K mg base N qual scope f cd cl A outer s₀ H₀ E).stack,∀b,env.frame=some b->b∈frs (cxL (CX1 P w) P w K mg base N qual scope f cd cl A outer s₀ H₀ E).stack:=fun env he b hb=>List.mem_filterMap.mpr ⟨env,he,hb⟩
  refine wpAny_leaves_madeW (base:=hideAll s.heap (frs (cxL (CX1 P w) P w K mg base N qual scope f cd cl A outer s₀ H₀ E).stack)) (h:=s.heap) hfr rfl (fun b o q=>of_hideAll _ q) (funFrames_hide hF hin) hx fun h'' t fl _ _ up=>?_
  have inB:∀b o,s.heap.get? b=some o->b∉frs (cxL (CX1 P w) P w K mg base N qual scope f cd cl A outer s₀ H₀ E).stack->(hideAll s.heap (frs (cxL (CX1 P w) P w K mg base N qual scope f cd cl A outer s₀ H₀ E).stack)).get? b=some o:=fun b o q hb=>hideAll_get _ q hb
  have old:∀b o,s₀.heap.get? b=some o->b∉frs outer->b∉frs (cxL (CX1 P w) P w K mg base N qual scope f cd cl A outer s₀ H₀ E).stack:=fun b o q hb z=>by
   rcases List.mem_cons.mp (I.stkSub b z) with e | e
   ·exact absurd (Heap.lt_size q) (by have:=I.ok.above; rw [e]; exact Nat.not_lt.mpr this)
   ·exact hb e
  have noex:∀b:Addr,b∉(cxL (CX1 P w) P w K mg base N qual scope f cd cl A outer s₀ H₀ E).ex:=fun b z=>nomatch z
  have keepX:∀b o,s₀.heap.get? b=some o->H₀ b=none->b∉frs outer->(hideAll s.heap (frs (cxL (CX1 P w) P w K mg base N qual scope f cd cl A outer s₀ H₀ E).stack)).get? b=some o:=fun b o q n hb=>inB b o (I.base.keep b o q n hb (noex b)) (old b o q hb)
  have thereX:∀b o,s₀.heap.get? b=some o->b∉frs outer->∃o',(hideAll s.heap (frs (cxL (CX1 P w) P w K mg base N qual scope f cd cl A outer s₀ H₀ E).stack)).get? b=some o':=fun b o q hb=>by
   obtain⟨o',q'⟩:=I.base.there b o q (noex b)
   exact⟨o',inB b o' q' (old b o q hb)⟩
  have slotX:∀b o,s₀.heap.get? b=some o->H₀ b=none->b∈frs outer->∃sl,h''.get? b=some {o with slots:=sl}:=fun b o q n hb=>by
   obtain⟨sl,q'⟩:=I.base.slot b o q n hb (noex b)
   obtain⟨_,o2,q2,nf⟩:=I.ok.funs.mem hb
   have q2':s₀.heap.get? b=some o2:=q2
   rw [q] at q2'
   cases q2'
   obtain⟨sl',q3⟩:=up b _ (hx.keeps b _ q') (by intro vs z; exact nf vs z)
   exact⟨sl',q3⟩
  refine⟨e,C,H,_,_,rfl,I.os,I.bare,fl,fun a o q=>?_,⟨fun b o q n hb _=>fl.1 b o (keepX b o q n hb),fun b o q n hb _=>slotX b o q n hb,fun b o q n _=>I.base.free b o q n (noex b),fun b o q _=>?_,I.base.tups,I.base.frzs,I.base.tbls⟩,keepX,thereX,?_,hE⟩
  ·have na:∀b u,H b=some u->b∉frs (cxL (CX1 P w) P w K mg base N qual scope f cd cl A outer s₀ H₀ E).stack:=fun b u q z=>by
    have:=I.stkFree b z
    rw [q] at this
    cases this
   refine(I.hok a o q).stay (fun c u hc r=>inB c u r ?_) (fun _ z=>z) fun _ _ z=>z
   rcases hc with rfl | hc
   ·exact na _ _ q
   ·exact na _ _ hc
  ·by_cases hb:b∈frs outer
   ·have hn:H₀ b=none:=I.ok.frf b hb
    obtain⟨sl,q'⟩:=slotX b o q hn hb
    exact⟨_,q'⟩
   ·obtain⟨o',q'⟩:=thereX b o q hb
    exact⟨o',fl.1 b o' q'⟩
  ·cases q:H e with
   |none=>rfl
   |some u=>
    obtain⟨ob,z⟩:=(I.hok e u q).there
    rw [hx.new] at z
    cases z
 pass:=by
  intro pins σ H s e s' I hc
  obtain⟨ea,C,H',B,a0,rfl,hos,hb,fl,hok,un,keepB,thereB,hea,hE⟩:=hc
  have hfr:=I.ok.frames
  refine wpAny_leaves_onW hfr rfl fl fun h'' fl' up=>?_
  have old:∀b o,s₀.heap.get? b=some o->b∉frs outer->b∉frs (cxL (CX1 P w) P w K mg base N qual scope f cd cl A outer s₀ H₀ E).stack:=fun b o q hb z=>by
   rcases List.mem_cons.mp (I.stkSub b z) with e | e
   ·exact absurd (Heap.lt_size q) (by have:=I.ok.above; rw [e]; exact Nat.not_lt.mpr this)
   ·exact hb e
  have noex:∀b:Addr,b∉(cxL (CX1 P w) P w K mg base N qual scope f cd cl A outer s₀ H₀ E).ex:=fun b z=>nomatch z
  have keepX:∀b o,s₀.heap.get? b=some o->H₀ b=none->b∉frs outer->B.get? b=some o:=fun b o q n hb=>keepB b o (I.base.keep b o q n hb (noex b)) (I.base.free b o q n (noex b)) (old b o q hb)
  have thereX:∀b o,s₀.heap.get? b=some o->b∉frs outer->∃o',B.get? b=some o':=fun b o q hb=>by
   obtain⟨o',q'⟩:=I.base.there b o q (noex b)
   exact thereB b o' q' (old b o q hb)
  have sub:∀b,b∈frs outer->b∈frs (cxL (CX1 P w) P w K mg base N qual scope f cd cl A outer s₀ H₀ E).stack:=fun b hb=>by
   show b∈frs (_::outer)
   unfold frs
   rw [List.filterMap_cons]
   split
   ·exact hb
   ·exact List.mem_cons_of_mem _ hb
  have slotX:∀b o,s₀.heap.get? b=some o->H₀ b=none->b∈frs outer->∃sl,h''.get? b=some {o with slots:=sl}:=fun b o q n hb=>by
   obtain⟨sl,q'⟩:=I.base.slot b o q n hb (noex b)
   obtain⟨sl2,q2'⟩:=un.slot b _ q' (I.base.free b o q n (noex b)) (sub b hb) (by simp)
   obtain⟨_,o2,q2,nf⟩:=I.ok.funs.mem hb
   have q2'':s₀.heap.get? b=some o2:=q2
   rw [q] at q2''
   cases q2''
   obtain⟨sl',q3⟩:=up b _ q2' (by intro vs z; exact nf vs z)
   exact⟨sl',q3⟩
  refine⟨ea,C,H',B,a0,rfl,hos.trans I.os,hb,fl',hok,⟨fun b o q n hb _=>fl'.1 b o (keepX b o q n hb),fun b o q n hb _=>slotX b o q n hb,fun b o q n _=>?_,fun b o q _=>?_,fun b xs q=>un.tups b xs (I.base.tups b xs q),fun b o u q=>un.frzs b o u (I.base.frzs b o u q),fun b ps q=>?_⟩,keepX,thereX,hea,hE⟩
  ·obtain⟨o',q'⟩:=I.base.there b o q (noex b)
   exact un.free b o' q' (I.base.free b o q n (noex b)) (by simp)
  ·by_cases hb:b∈frs outer
   ·have hn:H₀ b=none:=I.ok.frf b hb
    obtain⟨sl,q'⟩:=slotX b o q hn hb
    exact⟨_,q'⟩
   ·obtain⟨o',q'⟩:=thereX b o q hb
    exact⟨o',fl'.1 b o' q'⟩
  ·exact un.tbls b ps (I.base.tbls b ps q)
end
structure LScope (X:Cx) (scope:Scope) (N:List Str) (fr:List Nat):Prop where
 c:CScope X scope N 0 fr
 co:scope.isCoroutine=false
 gen:scope.isGenerator=false
 nocell:∀x∈scope.names,x.2≠.cell
section
variable {X:Cx}{scope:Scope}{N:List Str}{fr:List Nat}{pins:List (Addr×Obj)}{σ:St}{H H2:Hp}{s s2:Shared}{A:Around}{outer:List Env}{E:XK}{q:Str}{f:Addr}{cv:Value}{h1:Heap}{t1:Nat}{m:Str->Option Value}
theorem invL (S:LScope X scope N fr) (I:Inv X pins σ H s) (un:Un (frs X.stack) [] H H2 s.heap s2.heap) (e0:Env0 X.prog X.w X.K X.mg X.base A outer s2 H2) (hd:A.handled=none) (hns:h1.Ns s2.heap.objs.size m) (hkeep:∀b o,s2.heap.get? b=some o->h1.get? b=some o) (ht1:0<t1) :
  Inv (cxL (CX1 X.prog X.w) X.prog X.w X.K X.mg X.base N q scope f cv (closOf scope.names X.env.cells) A outer s2 H2 E) [] (startC 0 fr σ) H2 {s2 with heap:=h1,toks:=t1}:=by
 have lk:∀{x:Str} {c:Addr},(closOf scope.names X.env.cells).lookup x=some c->X.env.cells.lookup x=some c:=fun h=>closOf_look (S.c.cells I.ok) h
 have cellK:∀x c v,X.env.cells.lookup x=some c->s.heap.IsCell c v->h1.IsCell c v:=fun x c v hc h_=>by
  obtain⟨o,ho,hd⟩:=h_
  obtain⟨sl,q⟩:=un.any ho (I.freeC x c hc) (by simp)
  exact⟨_,hkeep _ _ q,hd⟩
 have noA:∀b:Addr,b∉(cxL (CX1 X.prog X.w) X.prog X.w X.K X.mg X.base N q scope f cv (closOf scope.names X.env.cells) A outer s2 H2 E).ex:=fun b z=>nomatch z
 refine⟨⟨e0.mod,S.c.kind,rfl,rfl,Nat.le_refl _,fun y z c h1 h2=>I.ok.inj y z c (lk h1) (lk h2),fun y hy=>?_,(fun y c z _=>nomatch z),fun _=>hd,Around.frames_deeper e0.frames,.inr ⟨rfl,rfl⟩,fun b z=>absurd z (noA b),e0.bs,e0.bsz,fun b _ _=>noA b,fun b z=>absurd z (noA b),e0.funs,e0.frf⟩,
  rfl,e0.bare,Un.kept hkeep,⟨m,hns,fun i x v e1 e2 e3=>?_⟩,fun x c hc=>?_,e0.hok.fresh (Nat.le_refl _),fun x c hc=>?_,(fun p hp=>nomatch (show p∈([]:List (Addr×Obj)) from hp)),e0.hok.kept hkeep,?_,ht1⟩
 ·have hy:scope.names.lookup y=some .cell∨scope.names.lookup y=some .free:=hy
  rcases hy with hy | hy
  ·exact absurd rfl (S.nocell _ (lookup_mem hy))
  ·exact clos_mem (cells:=X.env.cells) scope.names [] (.inl (lookup_mem hy))
 ·unfold startC at e2
  simp only [List.replicate_zero,List.nil_append,List.getElem?_map] at e2
  have hj:i<fr.length:=by
   cases q:fr[i]? with
   |none=>rw [q] at e2; cases e2
   |some _=>exact(List.getElem?_eq_some_iff.mp q).1
  have ha:=List.all_eq_true.mp S.c.at_ i (by simpa using hj)
  have e1':N[0+i]?=some x:=by rw [Nat.zero_add]; exact e1
  cases q:fr[i]? with
  |none=>rw [q] at e2; cases e2
  |some p=>
   rw [q] at e2
   simp only [e1',q] at ha
   obtain⟨a1,a2⟩:=Bool.and_eq_true_iff.mp ha
   have a1':X.N[p]?=some x:=by simpa using a1
   have a2':scope.names.lookup x=some .free:=by simpa using a2
   have e2':(σ[p]?).getD none=some v:=by simpa using e2
   have e2'':σ[p]?=some (some v):=by
    cases z:σ[p]? with
    |none=>rw [z] at e2'; cases e2'
    |some y=>rw [z] at e2'; simpa using e2'
   have hfr:=S.c.frees (x,.free) (lookup_mem a2') rfl
   obtain⟨m0,hn0,hl0⟩:=I.loc
   have hvis:Vis X.env.scope x:=by
    rcases hfr with z | z
    ·exact .inr (.inl z)
    ·exact .inr (.inr z)
   obtain⟨u,r,l⟩:=hl0 p x v a1' e2'' hvis
   refine⟨u,r,.inr ⟨.inr a2',?_⟩⟩
   have hc:∃c,X.env.cells.lookup x=some c/\s.heap.IsCell c (some u):=by
    rcases l with ⟨z,_⟩ | ⟨_,c,hc,hv⟩
    ·rcases hfr with y | y
     ·have y':X.env.kindOf x=some .cell:=y
      rw [y'] at z; cases z
     ·have y':X.env.kindOf x=some .free:=y
      rw [y'] at z; cases z
    ·exact⟨c,hc,hv⟩
   obtain⟨c,hc,hv⟩:=hc
   obtain⟨c1,hc1⟩:=clos_mem (cells:=X.env.cells) scope.names [] (.inl (lookup_mem a2'))
   have hcc:=lk hc1
   rw [hc] at hcc
   cases hcc
   exact⟨c,hc1,cellK x c _ hc hv⟩
 ·obtain⟨v,z⟩:=I.cell x c (lk hc)
  exact⟨v,cellK x c v (lk hc) z⟩
 ·obtain⟨v,o,ho,_⟩:=I.cell x c (lk hc)
  exact un.free c o ho (I.freeC x c (lk hc)) (by simp)
 ·have:=S.c.len
  show (startC 0 fr σ).length=N.length
  unfold startC
  simp [this]
theorem lam_run {params:Arguments}{body:Expr}{ctv:Value}{c':Addr}{u:HO}{k:Nat}{cls:Nat->Addr}{g:Rho->M Dt}{Q:VK}{O B:List Addr}{ρ:Rho} (S:LScope X scope N fr) (I:Inv X pins σ H s) (un:Un (frs X.stack) [] H H2 s.heap s2.heap) (e0:Env0 X.prog X.w X.K X.mg X.base A outer s2 H2) (hr:Room (k+1) A)
  (hf:H2 f=some (.frz (lamO q params body scope X.env.cells X.mg (.ref c') ctv) u)) (hc:CodeO H2 c' q)
  (hbind:∀fd:FuncData,fd.params=params->fd.defaults=.none->fd.kwdefaults=.none->bindArgs fd ⟨[],[]⟩=pure [])
  (hbody:∀(f:Addr) (cv:Value) (A:Around) (outer:List Env) (s2:Shared) (H2:Hp) (E:XK),Room k (A.deeper (envX q scope s2.heap.objs.size f cv (closOf scope.names X.env.cells)))->Rz (cxL (CX1 X.prog X.w) X.prog X.w X.K X.mg X.base N q scope f cv (closOf scope.names X.env.cells) A outer s2 H2 E) E->
   Ev (cxL (CX1 X.prog X.w) X.prog X.w X.K X.mg X.base N q scope f cv (closOf scope.names X.env.cells) A outer s2 H2 E) cls E body g)
  (Ft:Fit X.K O B ρ (startC 0 fr σ) H2) (hq:Res X.K cls B E (g ρ) H2 Q) (ht2:0<s2.toks) :
  codeAny (model X.prog X.w) A (.call (.ref f) ⟨[],[]⟩) (CR (CX1 X.prog X.w) outer X.prog X.w H2 s2 Q E) s2:=by
 obtain⟨hfo,_⟩:=e0.hok f _ hf
 have hcr:s2.heap.CodeRec (.ref c') q:=by
  obtain⟨oc,u',vs,t,z1,z2,z3⟩:=hc
  obtain⟨z4,_⟩:=e0.hok c' _ z1
  exact⟨c',oc,vs,t,rfl,z4,z2,z3⟩
 have lim:s2.heap.NoLimit:=e0.mod.nolimit.keeps fun b o e=>(e0.bs b o e).1
 refine kla_callFunE hr.depth hfo rfl S.co S.gen rfl hcr ?_
 rw [hbind _ rfl rfl rfl]
 refine wpAny_pure (wpAny_newFunctionEnv S.nocell (fun x hx=>nomatch hx) (fun h₁ hns hsb=>⟨lim.fresh _ hsb,?_⟩) S.c.kind)
 have hk₁:∀b o,s2.heap.get? b=some o->h₁.get? b=some o:=fun b o e=>hsb.extBut b o (Nat.ne_of_lt (Heap.lt_size e)) (Heap.get?_push_of_some _ e)
 have IL:=invL (q:=q) (f:=f) (cv:=.ref c') (E:=E) (t1:=s2.toks+([]:List (Str×Value)).length) S I un e0 hr.hd hns hk₁ (Nat.lt_of_lt_of_le ht2 (Nat.le_add_right _ _))
 refine kla_codeExpr (thn (hbody f (.ref c') A outer s2 H2 E (hr.deeper _) rz_L [] _ _ _ Q IL ⟨O,B,ρ,Ft,hq⟩) (fun v s' ⟨v',H',J,rv,hQ⟩=>?_))
 exact⟨v',H',J.os,J.bare,J.base,J.hok,rv,hQ⟩
end
noncomputable abbrev cxOfM (cm:Bool) (CX:CXT) (P:Program) (w:World) (K:PySem.W.Frag) (mg:Str->Option Value) (base:Heap) (N:List Str) (qual:Str) (scope:Scope) (f:Addr) (cd:Value) (A:Around) (outer:List Env) (s:Shared) (H:Hp) (E:XK):Cx:=
 {cxOf CX P w K mg base N qual scope f cd A outer s H E with calm:=cm}
theorem inv_startM {cm:Bool}{CX:CXT}{P:Program}{w:World}{K:PySem.W.Frag}{mg:Str->Option Value}{base:Heap}{N ps:List Str}{qual:Str}{scope:Scope}{f:Addr}{cd:Value}{A:Around}{outer:List Env}{s s1:Shared}{H:Hp}{E:XK}{us:List Value}{vs:List V}
  (S:FnScope N ps scope) (hd:cm=true->A.handled=none) (e0:Env0 P w K mg base A outer s H) (hl:vs.length=ps.length) (r:Vals vs us)
  (x:InCallC s s.heap.objs.size (bindL (envOfC qual scope s.heap.objs.size f cd).kindOf (ps.zip us) fun _=>none) (cellsFrom (s.heap.objs.size+1) scope.names []) (bindC (envOfC qual scope s.heap.objs.size f cd).kindOf (ps.zip us) fun _=>none) s1) (ht1:0<s1.toks) :
  Inv (cxOfM cm CX P w K mg base N qual scope f cd A outer s H E) [] (start N vs) H s1:=by
 have hpl:ps.length<=N.length:=by have:=congrArg List.length S.pre; rw [List.length_take] at this; omega
 obtain⟨h1,tk,rfl,hk⟩:=x.done
 have noA:∀b:Addr,b∉(cxOfM cm CX P w K mg base N qual scope f cd A outer s H E).ex:=fun b z=>absurd (show b∈([]:List Addr) from z) (by simp)
 refine⟨⟨e0.mod,S.kind,rfl,rfl,Nat.le_refl _,fun y z c h1 h2=>?_,fun y hy=>?_,fun y c _ h=>?_,hd,Around.frames_deeper e0.frames,.inr ⟨rfl,rfl⟩,fun b z=>absurd z (noA b),e0.bs,e0.bsz,fun b _ _=>noA b,fun b z=>absurd z (noA b),e0.funs,e0.frf⟩,
  rfl,e0.bare,Un.kept hk,⟨_,x.toInCall.ns,fun i y v h1 h2 h3=>?_⟩,fun y c h=>⟨_,x.cell y c h⟩,e0.hok.fresh (Nat.le_refl _),fun y c h=>?_,fun p hp=>absurd (show p∈([]:List (Addr×Obj)) from hp) (by simp),e0.hok.kept hk,?_,ht1⟩
 ·exact name_of_addr x.apart (PySem.mem_of_lookup h1) (PySem.mem_of_lookup h2)
 ·have hy:scope.names.lookup y=some .cell∨scope.names.lookup y=some .free:=hy
  rcases hy with hy | hy
  ·exact cell_has hy
  ·exact absurd rfl (S.nofree _ (PySem.mem_of_lookup hy))
 ·exact Nat.le_of_lt (x.above y c (PySem.mem_of_lookup h))
 ·have hi:i<vs.length:=by
   unfold start at h2
   by_cases hi:i<vs.length
   ·exact hi
   ·rw [List.getElem?_append_right (by simpa using hi)] at h2
    rw [List.getElem?_replicate] at h2
    split at h2 <;> cases h2
  have ha:vs[i]?=some v:=by
   unfold start at h2
   rw [List.getElem?_append_left (by simpa using hi),List.getElem?_map] at h2
   cases e:vs[i]? with
   |none=>rw [e] at h2; cases h2
   |some a=>rw [e] at h2; cases h2; rfl
  obtain⟨u,hu,rv⟩:=r.get ha
  have hp:ps[i]?=some y:=by
   rw [← S.pre,List.getElem?_take_of_lt (by omega)]; exact h1
  have ndP:ps.Nodup:=by rw [← S.pre]; exact S.nd.sublist (List.take_sublist _ _)
  refine⟨u,rv,?_⟩
  rcases S.par y (List.mem_of_getElem? hp) with k | k
  ·exact .inl ⟨k,bindL_get ndP hp hu k⟩
  ·obtain⟨c,e⟩:=cell_has (n:=s.heap.objs.size+1) k
   refine .inr ⟨.inl k,c,e,?_⟩
   have q:=x.cell y c e
   rw [bindC_get ndP hp hu (by show scope.names.lookup y≠_; rw [k]; decide)] at q
   exact q
 ·exact e0.hok.fresh (Nat.le_of_lt (x.above y c (PySem.mem_of_lookup h)))
 ·unfold start
  show _=N.length
  rw [List.length_append,List.length_map,List.length_replicate]
  omega
theorem fn_run {cm:Bool}{CX:CXT}{P:Program}{w:World}{K:PySem.W.Frag}{mg:Str->Option Value}{base:Heap}{f:Addr}{name qual:Str}{params:Arguments}{body:List Stmt}{scope:Scope}{dV kV doc pm cdv ct oc:Value}{an od:Option Addr}
  {osl:Array (Option Value)} {N ps:List Str} (lk:K.lookup f=some ⟨oc,od,.func (PySem.W.fnOf name qual params body scope dV kV doc pm an cdv ct),osl⟩) (hcd:PySem.W.codeIn K cdv qual=true) (S:FnScope N ps scope)
  {A:Around} {outer:List Env} {s:Shared} {H:Hp} {args:Args} {us:List Value} {vs:List V} {Q:VK} {E:XK} (hdep:A.depth<recursionLimit) (hd:cm=true->A.handled=none) (e0:Env0 P w K mg base A outer s H) (ht0:0<s.toks∨False) (hb:BindsTo s (PySem.W.fnOf name qual params body scope dV kV doc pm an cdv ct) args (ps.zip us)) (r:Vals vs us) (hl:vs.length=ps.length)
  (hbody:∃t,PSs (cxOfM cm CX P w K mg base N qual scope f cdv A outer s H E) body t/\t {nx:=fun _ H'=>Q .non H',rt:=Q} (start N vs) H) :
  codeAny (model P w) A (.call (.ref f) args) (CR CX outer P w H s Q E) s:=by
 have KX:K.In s.heap:=e0.mod.kin.keeps fun b o e=>(e0.bs b o e).1
 have lim:s.heap.NoLimit:=e0.mod.nolimit.keeps fun b o e=>(e0.bs b o e).1
 have hkind:∀y∈ps.zip us,scope.names.lookup y.1=some .local∨(scope.names.lookup y.1=some .cell/\((cellsFrom (s.heap.objs.size+1) scope.names []).lookup y.1).isSome=true):=fun⟨n,v⟩ hy=>by
  rcases S.par n (List.of_mem_zip hy).1 with q | q
  ·exact .inl q
  ·exact .inr ⟨q,PySem.W.cellsFrom_some _ _ _ (.inl q)⟩
 refine codeAny_call_function hdep (KX _ _ lk) rfl S.co S.gen rfl (PySem.W.codeRec_of KX hcd) (hb _ _ _ _ ?_)
 refine wpAny_with_toks (n:=1) (ht0.resolve_right id) (wpAny_newFunctionEnv_cells S.kind hkind fun env he s1 x ht1=>?_)
 subst he
 refine⟨lim.keeps x.toInCall.keep,codeAny_func ?_⟩
 obtain⟨t,ht,hq⟩:=hbody
 have I:Inv (cxOfM cm CX P w K mg base N qual scope f cdv A outer s H E) [] (start N vs) H s1:=inv_startM S hd e0 hl r x ht1
 refine thn (ht [] s1 (start N vs) H _ I hq) fun fl s' hs=>?_
 have fin:∀{σ':St} {H':Hp} {v:V} {u:Value},Inv (cxOfM cm CX P w K mg base N qual scope f cdv A outer s H E) [] σ' H' s'->RelV v u->Q v H'->CE outer P w H s Q u s':=
  fun {σ' H' v u} J rv q=>⟨v,H',J.os,J.bare,J.base,J.hok,rv,q⟩
 cases fl with
 |ret u=>
  obtain⟨v,σ',H',J,rv,q⟩:=hs
  exact fin J rv q
 |next=>
  obtain⟨σ',H',J,q⟩:=hs
  exact fin (v:=V.non) (u:=Value.none) J rfl q
 |brk=>
  obtain⟨_,_,_,q⟩:=hs
  exact False.elim q
 |cont=>
  obtain⟨_,_,_,q⟩:=hs
  exact False.elim q
structure ClassK (K:PySem.W.Frag) (C c0 c1 c2 c3 c4 c5 c6 c7:Addr) (j:Nat):Prop where
 z:ExcK K C
 lt:j<8
 w0:kitOne K (.ref C) (.ref c0)=some (j==0)
 w1:kitOne K (.ref C) (.ref c1)=some (j==1)
 w2:kitOne K (.ref C) (.ref c2)=some (j==2)
 w3:kitOne K (.ref C) (.ref c3)=some (j==3)
 w4:kitOne K (.ref C) (.ref c4)=some (j==4)
 w5:kitOne K (.ref C) (.ref c5)=some (j==5)
 w6:kitOne K (.ref C) (.ref c6)=some (j==6)
 w7:kitOne K (.ref C) (.ref c7)=some (j==7)
 ve:kitOne K (.ref C) (.type "ValueError")=some true
noncomputable def wordC (j:Nat):List Nat:=[[99,108,97,115,104],[110,111,32,98,97,99,107],[110,111,32,110,97,109,101],[110,111,32,116,101,120,116],[110,111,32,116,105,99,107],[110,111,32,119,97,118,101],[116,111,111,32,108,111,110,103],[117,110,108,105,107,101]].getD j []
theorem wordZ8_len (c:Nat):(wordZ8 c).length<=8:=by
 unfold wordZ8
 match c with
 |0=>decide
 |1=>decide
 |2=>decide
 |3=>decide
 |4=>decide
 |5=>decide
 |6=>decide
 |7=>decide
 |n+8=>simp
noncomputable def ClsRun (P:Program) (w:World) (K:PySem.W.Frag) (mg:Str->Option Value) (base:Heap) (c0 c1 c2 c3 c4 c5 c6 c7:Addr):Prop:=
 ∃fc:Addr,mg "_law_class" = some (.ref fc)/\keepIn K (.ref fc)=true/\∀(A:Around) (outer:List Env) (s:Shared) (H:Hp) (a C:Addr) (j:Nat) (Q:VK),A.depth+8<recursionLimit->A.units+200<cLine->Env0 P w K mg base A outer s H->0<s.toks->H a=some (excO C a)->ClassK K C c0 c1 c2 c3 c4 c5 c6 c7 j->
  (∀H',Same H H'->Q (S (wordC j)) H')->codeAny (model P w) A (.call (.ref fc) ⟨[.ref a],[]⟩) (CR CX0 outer P w H s Q E0) s
noncomputable def ToldR (P:Program) (w:World) (K:PySem.W.Frag) (mg:Str->Option Value) (base:Heap) (cls:Nat->Addr) (cs:List Nat) (k:Nat):Prop:=
 ∃f:Addr,mg "_law_told" = some (.ref f)/\keepIn K (.ref f)=true/\∀(A:Around) (outer:List Env) (s:Shared) (H:Hp) (g:Addr) (o:Obj) (u:HO) (m:M Dt) (B:List Addr) (Q:VK) (E:XK),Room (k+2) A->Env0 P w K mg base A outer s H->0<s.toks->H g=some (.frz o u)->(∃fd,o.data=.func fd)->
  (∀(A':Around) (outer':List Env) (s2:Shared) (Q':VK) (E':XK),Room (k+1) A'->Env0 P w K mg base A' outer' s2 H->0<s2.toks->Un (frs outer) [] H H s.heap s2.heap->Res K cls B E' m H Q'->codeAny (model P w) A' (.call (.ref g) ⟨[],[]⟩) (CR (CX1 P w) outer' P w H s2 Q' E') s2)->
  Res K cls B E (toldM cs m) H Q->codeAny (model P w) A (.call (.ref f) ⟨[.ref g],[]⟩) (CR (CX1 P w) outer P w H s Q E) s
section
variable {P:Program}{w:World}{K:PySem.W.Frag}{mg:Str->Option Value}{base:Heap}{cls:Nat->Addr}
theorem told_run {x e T:Str}{st:Stmt}{cs:List Nat}{k:Nat}{CT c0 c1 c2 c3 c4 c5 c6 c7:Addr}{p1 p2 p3 p4 p5 p6 p7 p8 p9 p10:Pos} (FT:FnT K mg "_law_told" st [x]) (S:FnScope [x,e] [x] (defScope st))
  (hbody:defBody st=[.Try [.Return (some (.Call (.Name x p1) [] [] p2)) p3] [.ExceptHandler (some (.Name T p4)) (some e) [.Return (some (.Call (.Name "_law_class" p5) [.Name e p6] [] p7)) p8] p9] [] [] p10])
  (lx:(defScope st).names.lookup x=some .local) (le:(defScope st).names.lookup e=some .local) (gT:(defScope st).names.lookup T=some .globalImplicit) (gC:(defScope st).names.lookup ("_law_class" : Str)=some .globalImplicit)
  (hmT:mg T=some (.ref CT)) (HC:ClsRun P w K mg base c0 c1 c2 c3 c4 c5 c6 c7)
  (hw:∀c∈cs,∃j,ClassK K (cls c) c0 c1 c2 c3 c4 c5 c6 c7 j/\wordC j=wordZ8 c/\exmOne K (.ref (cls c)) (.ref CT)=some true)
  (dx:(x==("__debug__" : Str))=false:=by decide) (ddx:(x==("__classdict__" : Str))=false:=by decide) (de:(e==("__debug__" : Str))=false:=by decide) (dde:(e==("__classdict__" : Str))=false:=by decide) (dT:(T==("__debug__" : Str))=false:=by decide) :
  ToldR P w K mg base cls cs k:=by
 obtain⟨f,fd,F,hm,hb⟩:=FT
 obtain⟨fc,hmC,kC,runC⟩:=HC
 refine⟨f,hm,F.kp,fun A outer s H g o u m B Q E hr e0 ht0 hg ho run hq=>?_⟩
 obtain⟨oc,od,kV,doc,pm,an,cdv,ct,osl,rfl,lk,hcd⟩:=F.ex
 have KX:K.In s.heap:=e0.mod.kin.keeps fun b o e=>(e0.bs b o e).1
 refine fn_run (cm:=true) (N:=[x,e]) (ps:=[x]) (us:=[.ref g]) (vs:=[.ref g]) lk hcd S hr.depth (fun _=>hr.hd) e0 (.inl ht0) (hb s [.ref g] KX rfl) (.cons rfl .nil) rfl ?_
 rw [hbody]
 generalize hX:cxOfM true (CX1 P w) P w K mg base [x,e] "_law_told" (defScope st) f cdv A outer s H E=X
 have eA:X.A=A.deeper (envOfC "_law_told" (defScope st) s.heap.objs.size f cdv):=by rw [← hX]; rfl
 have PD:∀pn W E',Passes (CX1 P w) (X.inTry pn W) E'->PE (X.inTry pn W) (.Call (.Name x p1) [] [] p2) (fun σ H2 Q'=>σ[0]?=some (some (.ref g))/\H2=H/\Res K cls B E' m H Q'):=by
  subst hX
  intro pn W E' hp pins s1 σ H2 Q' I ⟨h1,h2,h3⟩
  subst h2
  refine wpAny_Call_Name_kw (thn (pe_var (X:=Cx.inTry _ pn W) (i:=0) rfl (.inl lx) dx ddx pins s1 σ H2 (fun v H'=>v=.ref g/\H'=H2) I ⟨_,h1,rfl,rfl⟩) fun v s2 ⟨v',H',I2,rv,z1,z2⟩=>?_)
  subst z1 z2
  cases rv
  obtain⟨hgo,_⟩:=I2.hok g _ hg
  obtain⟨fd',hfd⟩:=ho
  have hF:FnAt g s2.heap:=by
   obtain⟨oc',od',da',sl'⟩:=o
   simp only at hfd
   subst hfd
   exact⟨_,_,_,_,hgo⟩
  refine callWith_F0 hF (wpAny_call (codeAny_mono (run _ _ s2 Q' E' (hr.deeper _) I2.env0 I2.tk I2.base h3) fun r s' hq=>?_))
  cases r with
  |error e=>exact hp pins σ _ s2 e s' I2 hq
  |ok fl=>
   cases fl with
   |ret u=>exact I2.after hq
   |next=>exact False.elim hq
   |brk=>exact False.elim hq
   |cont=>exact False.elim hq
 have PC:∀pn ea,PE (X.inSuite pn ea) (.Call (.Name "_law_class" p5) [.Name e p6] [] p7) (fun σ H2 Q'=>∃a C j,σ[1]?=some (some (.ref a))/\H2 a=some (excO C a)/\ClassK K C c0 c1 c2 c3 c4 c5 c6 c7 j/\∀H',Same H2 H'->Q' (L2.S (wordC j)) H'):=by
  subst hX
  intro pn ea pins s1 σ H2 Q' I ⟨a,C,j,h1,h2,h3,h4⟩
  refine wpAny_Call_Name_kw (ld_glob I (show _ from gC) hmC ?_ (by decide))
  refine PySem.W.callWith_K (h₀:=base) I.ok.mod.kin kC (thn ((pax _ _ _ _ _ rfl (pe_var (X:=Cx.inSuite _ pn ea) (i:=1) rfl (.inl le) de dde) pa_nil) p7 pins s1 σ H2 (fun vs H'=>vs=[.ref a]/\H'=H2) I ⟨_,h1,rfl,rfl⟩) fun us s2 ⟨vs,H',I2,r,z1,z2⟩=>⟨I2.kIn,?_⟩) rfl rfl
  subst z1 z2
  obtain⟨u',rfl,ru⟩:=r.one
  cases ru
  have h8:(A.deeper (envOfC "_law_told" (defScope st) s.heap.objs.size f cdv)).depth+8<recursionLimit:=by have:=(hr.deeper (envOfC "_law_told" (defScope st) s.heap.objs.size f cdv)).dp; omega
  have h9:(A.deeper (envOfC "_law_told" (defScope st) s.heap.objs.size f cdv)).units+200<cLine:=by have:=(hr.deeper (envOfC "_law_told" (defScope st) s.heap.objs.size f cdv)).un; omega
  refine wpAny_call (codeAny_mono (runC _ _ s2 _ a C j Q' h8 h9 I2.env0 I2.tk h2 h3 h4) fun r s' hq=>?_)
  cases r with
  |error e=>exact False.elim hq
  |ok fl=>
   cases fl with
   |ret u=>exact I2.after hq
   |next=>exact False.elim hq
   |brk=>exact False.elim hq
   |cont=>exact False.elim hq
 refine⟨_,pss_one (ps_try (X:=X) (iN:=1) (CT:=CT) (tb:=fun E'=>tRet fun σ H2 Q'=>σ[0]?=some (some (.ref g))/\H2=H/\Res K cls B E' m H Q') (by rw [← hX]) (by rw [← hX]; exact⟨rfl,rfl⟩) (by rw [← hX]; rfl) (by rw [← hX]; exact S.nd) (by rw [← hX]; rfl) (by rw [← hX]; exact le) (by rw [← hX]; exact gT) (by rw [← hX]; exact hmT) (fun pn W E' hp=>pss_one (ps_ret (PD pn W E' (by rw [← hX] at hp ⊢; exact hp)))) (fun pn ea=>pss_one (ps_ret (PC pn ea))) dT),?_⟩
 have eK:X.K=K:=by rw [← hX]; rfl
 refine⟨rfl,rfl,?_⟩
 cases m with
 |ok d=>exact hq
 |bad=>exact hq
 |ex c=>
  have q':Res K cls B E (if c∈cs then .ok (.str (wordZ8 c)) else .bad) H Q:=hq
  split at q'
  ·rename_i hcs
   obtain⟨j,w1,w2,w3⟩:=hw c hcs
   intro H' s'
   intro ea C' ec hea
   cases ec
   rw [eK]
   refine⟨w3,?_⟩
   refine⟨_,_,j,rfl,upd_same,w1,fun H'' s''=>?_⟩
   rw [w2]
   exact q' _ _ ((s'.trans (Same.upd hea)).trans s'') rep_str (by have:=wordZ8_len c; simp only [sm]; omega)
  ·exact(show False from q').elim
end
theorem bind0 (fd:FuncData) (h1:fd.params={posonlyargs:=[],args:=[],vararg:=none,kwonlyargs:=[],kw_defaults:=[],kwarg:=none,defaults:=[]}) (h2:fd.defaults=.none) (h3:fd.kwdefaults=.none):bindArgs fd ⟨[],[]⟩=pure []:=by
 obtain⟨_,_,_,_,_,_,_,_,_,_,_,_,_,_⟩:=fd
 simp only at h1 h2 h3
 subst h1 h2 h3
 rfl
noncomputable abbrev Tabs:=List (Addr×Addr×Str)
noncomputable def tabH (tabs:Tabs) (b:Addr):Option HO:=(tabs.find? fun t=>t.2.1==b).map fun t=>.tbl t.2.2
theorem tabH_at:∀{tabs:Tabs},tabs.Pairwise (fun x y=>x.2.1≠y.2.1)->∀t∈tabs,tabH tabs t.2.1=some (.tbl t.2.2)
 |t::r,h,u,hu=>by
  rw [List.pairwise_cons] at h
  unfold tabH
  rw [List.find?_cons]
  rcases List.mem_cons.mp hu with rfl | hu
  ·simp
  ·have hne:(t.2.1==u.2.1)=false:=by simpa using h.1 u hu
   rw [hne]
   exact tabH_at h.2 u hu
theorem tabH_of {tabs:Tabs}{b:Addr}{u:HO} (h:tabH tabs b=some u):∃t∈tabs,t.2.1=b/\u=.tbl t.2.2:=by
 unfold tabH at h
 obtain⟨t,h1,h2⟩:=Option.map_eq_some_iff.mp h
 exact⟨t,List.mem_of_find?_eq_some h1,by simpa using List.find?_some h1,h2.symm⟩
theorem law_callT {P:Program}{w:World}{K:PySem.W.Frag}{mg mb:Str->Option Value}{CX:CXT}{k:Nat}{fa a:Addr}{fd:FuncData}{x:Str}{sp:Sp}{s₁:Shared}{vs:List Value}{ns:List Int}{tabs:Tabs}
  (KX:K.In s₁.heap) (hns:s₁.heap.Ns mainGlobals mg) (hb:s₁.heap.Ns builtinsNs mb) (hbb:∀x:Str,x≠"__name__" ->mb x=bootBuiltins x) (hlim:s₁.heap.NoLimit) (hg:s₁.gens=#[])
  (ha:s₁.heap.get? a=some {cls:=.type "list",data:=.seq vs.toArray}) (hi:IntsAre vs ns) (hl:ns.length<=sizeLine) (hr:Room k callerA)
  (hnd:tabs.Pairwise (fun x y=>x.2.1≠y.2.1)) (hT:∀t∈tabs,CodeHd s₁.heap t.1 t.2.1/\s₁.heap.get? t.2.1=some (tabObj #[])) (hKt:noTabs K=true)
  (hbm:∃bm ob,mg "__builtins__" = some (.ref bm)/\bm≠builtinsNs/\s₁.heap.get? bm=some ob/\ob.cls=.type "module" /\ob.dict=some builtinsNs/\ob.data=.plain)
  (F:∀base:Heap,K.In base->base.Ns mainGlobals mg->(∀t∈tabs,LamB mg base t.1 t.2.1)->FnOk P w K mg base CX k fa fd [x] sp) (hbind:∀(s:Shared) (u:Value),BindsTo s fd ⟨[u],[]⟩ [(x,u)])
  (hsp:∀H:Hp,(∀t∈tabs,H t.2.1=some (.tbl t.2.2))->SqL K H a (ns.map V.int)->sp [.ref a] H (fun v _=>v=.bl true) fun _ _ _=>False)
  (hCX:∀H e s',CX [] H s₁ (fun _ _ _=>False) e s'->False) (hx:x=lawS:=by rfl) :
  codeAny (model P w) callerA (.call (.ref fa) ⟨[.ref a],[]⟩) (fun r s'=>r=.ok (.ret (.bool true))/\OldK s₁.heap s'.heap/\s'.os=s₁.os/\AllBare s'.gens) s₁:=by
 have rv:=vals_ints hi
 have lenV:=hi.length
 have naP:∀t∈tabs,t.2.1≠a:=fun t ht z=>by
  have e:=(hT t ht).2
  rw [z,ha] at e
  cases e
 have core:∀H:Hp,(∀b,H b=tabH tabs b∨(b=a/\∃o xs,H b=some (.frz o (.lst xs))))->SqL K H a (ns.map V.int)->HOk P w H s₁.heap->(H a≠none->K.lookup a=none)->
   codeAny (model P w) callerA (.call (.ref fa) ⟨[.ref a],[]⟩) (fun r s'=>r=.ok (.ret (.bool true))/\OldK s₁.heap s'.heap/\s'.os=s₁.os/\AllBare s'.gens) s₁:=by
  intro H hO hS hok hK
  have base_of:∀{b:Addr} {o:Obj},s₁.heap.get? b=some o->H b=none->(hidT s₁.heap H).get? b=some o:=fun e n=>hidT_get e n
  have tabAt:∀t∈tabs,H t.2.1=some (.tbl t.2.2):=fun t ht=>by
   rcases hO t.2.1 with z | ⟨z,_⟩
   ·rw [z]; exact tabH_at hnd t ht
   ·exact absurd z (naP t ht)
  have kinds:∀b o,s₁.heap.get? b=some o->H b≠none->b=a∨o=tabObj #[]:=fun b o e n=>by
   rcases hO b with z | ⟨z,_⟩
   ·cases q:tabH tabs b with
    |none=>rw [z,q] at n; exact absurd rfl n
    |some u=>
     obtain⟨t,ht,h1,_⟩:=tabH_of q
     have e2:=(hT t ht).2
     rw [h1,e] at e2
     exact .inr (Option.some.inj e2)
   ·exact .inl z
  have free:∀b o,s₁.heap.get? b=some o->o.cls≠.type "list" ->o≠tabObj #[]->H b=none:=fun b o e n1 n2=>by
   cases q:H b with
   |none=>rfl
   |some u=>
    rcases kinds b o e (by rw [q]; simp) with z | z
    ·subst z
     rw [ha] at e; cases e
     exact absurd rfl n1
    ·exact absurd z n2
  have freeD:∀b o es ep,s₁.heap.get? b=some o->o.data=.dict es ep->H b=none:=fun b o es ep e d=>by
   cases q:H b with
   |none=>rfl
   |some u=>
    rcases kinds b o e (by rw [q]; simp) with z | z
    ·subst z
     rw [ha] at e; cases e
     have d':Data.seq vs.toArray _=Data.dict es ep:=d
     cases d'
    ·rw [z] at d
     cases d
  have nsK:∀{b:Addr} {m:Str->Option Value},s₁.heap.Ns b m->(hidT s₁.heap H).Ns b m:=fun {b m} ⟨o,es,ep,e,d,r⟩=>⟨o,es,ep,base_of e (freeD b o es ep e d),d,r⟩
  have hKb:K.In (hidT s₁.heap H):=fun b o e=>base_of (KX b o e) (by
   cases q:H b with
   |none=>rfl
   |some u=>
    rcases kinds b o (KX b o e) (by rw [q]; simp) with z | z
    ·subst z
     rw [hK (by rw [q]; simp)] at e; cases e
    ·have h2:=List.all_eq_true.mp hKt (b,o) (mem_of_lookupK e)
     rw [z] at h2
     exact absurd (show false=true from h2) Bool.false_ne_true)
  have hM:Mod K mg (hidT s₁.heap H):=⟨hKb,nsK hns,⟨mb,nsK hb,hbb⟩,let ⟨mc,h1,h2⟩:=hlim; ⟨mc,nsK h1,h2⟩⟩
  have hLB:∀t∈tabs,LamB mg (hidT s₁.heap H) t.1 t.2.1:=fun t ht=>by
   obtain⟨⟨o,vs',file,tf,flags,tg,inF,text,tt,e1,c1,r⟩,_⟩:=hT t ht
   obtain⟨bm,ob,b1,b2,b3,b4,b5⟩:=hbm
   exact⟨⟨o,vs',file,tf,flags,tg,inF,text,tt,base_of e1 (free _ _ e1 (by rw [c1]; intro z; injection z with z; exact absurd z (by decide)) (by intro z; rw [z] at c1; cases c1)),c1,r⟩,bm,ob,b1,b2,base_of b3 (free _ _ b3 (by rw [b4]; intro z; injection z with z; exact absurd z (by decide)) (by intro z; rw [z] at b4; cases b4)),b4,b5⟩
  have e0:Env0 P w K mg (hidT s₁.heap H) callerA [] s₁ H:=⟨rfl,hM,fun b o e=>of_hidT e,Nat.le_of_eq (hidT_size _ _),trivial,fun b hb=>absurd (show b∈([]:List Addr) from hb) (by simp),hok,.of_eq hg⟩
  refine codeAny_mono ((F _ hKb (nsK hns) hLB).run callerA [] s₁ H ⟨[.ref a],[]⟩ [.ref a] [.ref a] _ _ hr e0 (.inr (by rw [hx])) (hbind s₁ (.ref a)) (.cons rfl .nil) (hsp H tabAt hS)) fun r s' h=>?_
  cases r with
  |error e=>exact(hCX H e s' h).elim
  |ok fl=>
   cases fl with
   |next=>exact False.elim h
   |brk=>exact False.elim h
   |cont=>exact False.elim h
   |ret u=>
    obtain⟨v,H',os,bare,un,hok',r',q⟩:=h
    have q':v=.bl true:=q
    subst q'
    obtain rfl:u=Value.bool true:=r'
    refine⟨rfl,⟨fun b o e=>?_,fun b o e=>un.there b o e (by simp)⟩,os,bare⟩
    cases q:H b with
    |none=>exact .inl (un.keep b o e q (by intro z; exact absurd (show b∈([]:List Addr) from z) (by simp)) (by simp))
    |some u=>
     rcases hO b with z | ⟨_,ob,xs,z⟩
     ·rw [q] at z
      obtain⟨t,ht,h1,h2⟩:=tabH_of z.symm
      subst h1 h2
      have z2:=un.tbls _ _ q
      obtain⟨ps,hP,_⟩:=hok' _ _ z2
      have e2:=(hT t ht).2
      rw [e] at e2
      cases e2
      exact .inr (.inl ⟨((hT t ht).1.tab (hT t ht).2).isCodeTable,rfl,#[],ps,rfl,by rw [Array.empty_append]; exact hP⟩)
     ·have z2:=un.frzs b ob _ z
      obtain⟨e1,_⟩:=hok b _ z
      obtain⟨e2,_⟩:=hok' b _ z2
      rw [e] at e1; cases e1
      exact .inl e2
 have okT:∀(H:Hp) b u,tabH tabs b=some u->ObjOk P w H s₁.heap b u:=fun H b u z=>by
  obtain⟨t,ht,h1,h2⟩:=tabH_of z
  subst h1 h2
  exact⟨#[],(hT t ht).2,trivial,fun pos cv z=>by cases z⟩
 cases hk:K.lookup a with
 |some o=>
  have e:=KX a o hk
  rw [ha] at e
  cases e
  have hna:tabH tabs a=none:=by
   cases q:tabH tabs a with
   |none=>rfl
   |some u=>
    obtain⟨t,ht,h1,_⟩:=tabH_of q
    exact absurd h1 (naP t ht)
  refine core (tabH tabs) (fun _=>.inl rfl) (.inr ⟨_,vs.toArray,_,hk,rfl,rfl,rfl,by rw [List.size_toArray,lenV]; exact hl,by simpa using rv⟩) (fun b u z=>okT _ b u z) fun z=>absurd hna z
 |none=>
  refine core (fun b=>if b=a then some (.frz {cls:=.type "list",data:=.seq vs.toArray} (.lst (ns.map V.int))) else tabH tabs b) (fun b=>?_) (.inl (.inr ⟨{cls:=.type "list",data:=.seq vs.toArray},if_pos rfl⟩)) (fun b u z=>?_) fun _=>hk
  ·by_cases hb:b=a
   ·exact .inr ⟨hb,_,_,if_pos hb⟩
   ·exact .inl (if_neg hb)
  ·by_cases hb:b=a
   ·have z':=(if_pos hb).symm.trans z
    cases z'
    subst hb
    exact⟨ha,by rw [List.length_map]; exact hl,vs,_,rv,ha⟩
   ·have z':=(if_neg hb).symm.trans z
    exact okT _ b u z'
theorem walk_ofT {l:PySem.W.OpenLaw}{n k:Nat}{q:Program}{loose:List Str}{XP:(Str->Option Value)->Heap->Prop}{YP:World->Heap->Prop}{d:DefRec}{K:Params->PySem.W.Frag}{CX:World->CXT}{sp:World->Sp}{x:Str}{tabs:Tabs}
  (hn:l.most=some n) (hn2:n<=sizeLine) (hdf:d.params.defaults=[]) (hr:Room k callerA)
  (hY:∀(w:World) (h:Heap),YP w h->(K w.params).In h)
  (hnd:tabs.Pairwise (fun x y=>x.2.1≠y.2.1)) (hKt:∀w:World,noTabs (K w.params)=true)
  (hT:∀(w:World) (lz:List Str) (mean:ExcName->Option Value) (mg mb:Str->Option Value) (h:Heap),(K w.params).In h->Top q lz mean mg mb h->∀t∈tabs,CodeHd h t.1 t.2.1/\h.get? t.2.1=some (tabObj #[]))
  (F:∀(w:World) (mg:Str->Option Value) (fa:Addr) (h:Heap),(K w.params).In h->h.Ns mainGlobals mg->mg d.name=some (.ref fa)->
   ∃fd:FuncData,(∀(s:Shared) (u:Value),BindsTo s fd ⟨[u],[]⟩ [(x,u)])/\
    ∀base:Heap,(K w.params).In base->base.Ns mainGlobals mg->(∀t∈tabs,LamB mg base t.1 t.2.1)->FnOk l.prog w (K w.params) mg base (CX w) k fa fd [x] (sp w))
  (hsp:∀(w:World) (H:Hp) (a:Addr) (ns:List Int),ns.length<=n->(∀t∈tabs,H t.2.1=some (.tbl t.2.2))->SqL (K w.params) H a (ns.map V.int)->sp w [.ref a] H (fun v _=>v=.bl true) fun _ _ _=>False)
  (hCX:∀(w:World) (H:Hp) (s:Shared) (e:Value) (s':Shared),CX w [] H s (fun _ _ _=>False) e s'->False) (hx:x=lawS:=by rfl) :
  PySem.W.WalkO q loose XP YP l.row.toRowW d [] (fun f vs=>PySem.call f vs):=by
 refine Att.attach_call hn hdf fun w s₀ s₁ mg mb fa o pm cd doc a vs ns G Y ho hd hcd hmg hobj hints hlen hg=>?_
 have KX:=hY w _ Y
 obtain⟨fd,hb,hF⟩:=F w mg fa _ KX G.T.g hmg
 exact law_callT KX G.T.g G.T.b G.T.builtins G.T.nolimit hg hobj hints (Nat.le_trans hlen hn2) hr hnd (hT w _ _ mg mb _ KX G.T) (hKt w) G.T.bmain hF hb (fun H hO hS=>hsp w H a ns hlen hO hS) (fun H e s'=>hCX w H s₁ e s') hx
noncomputable def spMT (K:PySem.W.Frag) (cls:Nat->Addr) (tabs:Tabs) (F:List Dt->M Dt):Sp:=fun vs H Q E=>(∀t∈tabs,H t.2.1=some (.tbl t.2.2))/\spM K cls F vs H Q E
noncomputable def spLawT (K:PySem.W.Frag) (tabs:Tabs):Sp:=fun vs H Q E=>(∀t∈tabs,H t.2.1=some (.tbl t.2.2))/\spLaw K vs H Q E
section
variable {P:Program}{w:World}{K:PySem.W.Frag}{mg:Str->Option Value}{base:Heap}{cls:Nat->Addr}
theorem fn_okT {x qual:Str}{st:Stmt}{f:Addr}{fd:FuncData}{N ps:List Str}{k np n:Nat}{b:SM}{tabs:Tabs} (F:Fun K x qual st f fd) (S:FnScope N ps (defScope st)) (hp:ps.length=np) (hn:N.length=np+n)
  (hbody:∀(cdv:Value) (A:Around) (outer:List Env) (s:Shared) (H:Hp) (E:XK),cdv=fd.code->(∀t∈tabs,H t.2.1=some (.tbl t.2.2))->Room k (A.deeper (envOfC qual (defScope st) s.heap.objs.size f cdv))->
   Rz (cxOf (CX1 P w) P w K mg base N qual (defScope st) f cdv A outer s H E) E->Bv (cxOf (CX1 P w) P w K mg base N qual (defScope st) f cdv A outer s H E) cls E (defBody st) b) (hf:ps=[lawS]->(defScope st).names.lookup lawS=some .local:=by first | assumption | decide +kernel) :
  FnOk P w K mg base (CX1 P w) (k+1) f fd ps (spMT K cls tabs (fnM np n b)):=by
 have len:∀vs H Q E,spM K cls (fnM np n b) vs H Q E->vs.length=np:=fun vs H Q E h_=>by
  obtain⟨A,ds,L,r,z,q⟩:=h_
  unfold fnM at q
  split at q
  ·rename_i hl
   rw [← r.length]
   exact hl
  ·exact(show False from q).elim
 obtain⟨oc,od,kV,doc,pm,an,cdv,ct,osl,rfl,lk,hcd⟩:=F.ex
 refine fn_of lk hcd S hf (fun vs H Q E h=>by rw [hp]; exact len vs H Q E h.2) fun A outer s H vs Q E hr h=>?_
 obtain⟨ht,h⟩:=h
 have hv:=len vs H Q E h
 refine⟨_,hbody cdv A outer s H E rfl ht hr rz_of,?_⟩
 obtain⟨B,ds,L,r,z,q⟩:=h
 refine⟨H,B,ds.map Bd.val++List.replicate n .no,⟨[],.refl _,L,(fun a z=>nomatch z),?_⟩,?_⟩
 ·have e:start N vs=vs.map some++List.replicate n none:=by
   unfold start
   rw [hn,hv,Nat.add_sub_cancel_left]
  rw [e]
  exact fn_start L r z n
 ·unfold fnM at q
  split at q
  ·cases hm:b (ds.map Bd.val++List.replicate n .no) with
   |ok fl=>
    rw [hm] at q
    cases fl with
    |nx ρ=>exact fun σ H' ⟨os,s',_,_,_⟩=>q .non H' s' rep_non trivial
    |rt d=>exact fun v H' s' r' z'=>q v H' s' r' z'
    |bk ρ=>exact(show False from q).elim
    |ct ρ=>exact(show False from q).elim
   |ex c=>rw [hm] at q; exact q
   |bad=>rw [hm] at q; exact q
  ·exact(show False from q).elim
theorem law_okT {f:Addr}{fd:FuncData}{k:Nat}{x:Str}{G:List Dt->M Dt}{tabs:Tabs} (h:FnOk P w K mg base (CX1 P w) k f fd [x] (spMT K cls tabs G)) (hG:∀ns:List Int,ns.length<=63->G [.lst (ns.map Dt.int)]=.ok (.bl true)):FnOk P w K mg base (CX1 P w) k f fd [x] (spLawT K tabs):=by
 refine h.imp ?_
 intro vs H Q E ⟨ht,a,ns,e,hS,q⟩
 subst e
 refine⟨ht,[],[.lst (ns.map Dt.int)],(fun a z=>nomatch z),.cons (rep_script ?_) .nil,⟨⟨by simpa using (show ns.length<=10000 by have:=hS.2; omega),sms_of fun d hd=>?_⟩,trivial⟩,?_⟩
 ·have e:hid H []=H:=by funext b; unfold hid; simp
  rw [e]
  exact hS.1
 ·obtain⟨n,_,rfl⟩:=List.mem_map.mp hd
  trivial
 ·rw [hG ns hS.2]
  intro v H' _ r _
  simp only [Rep] at r
  rw [r]
  exact q H'
end
noncomputable def FH (K:PySem.W.Frag) (f:Str) (st:Stmt):Prop:=∃(a:Addr) (oc:Value) (od an:Option Addr) (sl:Array (Option Value)) (kV dc pm cd ct:Value),PySem.W.nsIn K mainGlobals f=some (some (.ref a))/\
 K.lookup a=some ⟨oc,od,.func (PySem.W.fnOf f f (defArgs st) (defBody st) (defScope st) .none kV dc pm an cd ct),sl⟩/\PySem.W.codeIn K cd f=true/\PySem.W.keepIn K (.ref a)=true
theorem FH.mk {K:PySem.W.Frag}{f:Str}{st:Stmt}{a:Addr}{oc:Value}{od an:Option Addr}{sl:Array (Option Value)}{kV dc pm cd ct:Value} (h1:PySem.W.nsIn K mainGlobals f=some (some (.ref a)))
  (h2:K.lookup a=some ⟨oc,od,.func (PySem.W.fnOf f f (defArgs st) (defBody st) (defScope st) .none kV dc pm an cd ct),sl⟩) (h3:PySem.W.codeIn K cd f=true) (h4:PySem.W.keepIn K (.ref a)=true):FH K f st:=⟨a,oc,od,an,sl,kV,dc,pm,cd,ct,h1,h2,h3,h4⟩
theorem FH.fn {K:PySem.W.Frag}{h:Heap}{mg:Str->Option Value}{f:Str}{st:Stmt}{ps:List Str} (H:FH K f st) (X:K.In h) (G:h.Ns mainGlobals mg)
  (hb:∀(kV dc pm:Value) (an:Option Addr) (cd ct:Value) (us:List Value),us.length=ps.length->bindArgs (PySem.W.fnOf f f (defArgs st) (defBody st) (defScope st) .none kV dc pm an cd ct) ⟨us,[]⟩=pure (ps.zip us)):FnT K mg f st ps:=by
 obtain⟨a,oc,od,an,sl,kV,dc,pm,cd,ct,h1,h2,h3,h4⟩:=H
 exact⟨a,_,fun_mk (st:=st) h2 h3 h4,PySem.W.mg_of X G h1,.all fun us hl=>hb kV dc pm an cd ct us hl⟩
theorem len_is {α:Type}:∀{n:Nat}{us:List α},us.length=n+1->∃a r,us=a::r/\r.length=n
 |n,a::r,h=>⟨a,r,rfl,by simpa using h⟩
theorem len1 {α:Type}{us:List α} (h:us.length=1):∃u0,us=[u0]:=List.length_eq_one_iff.mp h
theorem FH.fn1 {K:PySem.W.Frag}{h:Heap}{mg:Str->Option Value}{f p0:Str}{st:Stmt} (H:FH K f st) (X:K.In h) (G:h.Ns mainGlobals mg)
  (hb:∀(kV dc pm:Value) (an:Option Addr) (cd ct u0:Value),bindArgs (PySem.W.fnOf f f (defArgs st) (defBody st) (defScope st) .none kV dc pm an cd ct) ⟨[u0],[]⟩=pure ([p0].zip [u0])):FnT K mg f st [p0]:=H.fn X G fun kV dc pm an cd ct us hl=>by
 obtain⟨u0,rfl⟩:=len1 hl
 exact hb ..
theorem len2 {α:Type}{us:List α} (h:us.length=2):∃u0 u1,us=[u0,u1]:=by
 obtain⟨u0,r,rfl,h1⟩:=len_is h
 obtain⟨u1,rfl⟩:=len1 h1
 exact⟨u0,u1,rfl⟩
theorem FH.fn2 {K:PySem.W.Frag}{h:Heap}{mg:Str->Option Value}{f p0 p1:Str}{st:Stmt} (H:FH K f st) (X:K.In h) (G:h.Ns mainGlobals mg)
  (hb:∀(kV dc pm:Value) (an:Option Addr) (cd ct u0 u1:Value),bindArgs (PySem.W.fnOf f f (defArgs st) (defBody st) (defScope st) .none kV dc pm an cd ct) ⟨[u0,u1],[]⟩=pure ([p0,p1].zip [u0,u1])):FnT K mg f st [p0,p1]:=H.fn X G fun kV dc pm an cd ct us hl=>by
 obtain⟨u0,u1,rfl⟩:=len2 hl
 exact hb ..
theorem len3 {α:Type}{us:List α} (h:us.length=3):∃u0 u1 u2,us=[u0,u1,u2]:=by
 obtain⟨u0,r,rfl,h1⟩:=len_is h
 obtain⟨u1,u2,rfl⟩:=len2 h1
 exact⟨u0,u1,u2,rfl⟩
theorem FH.fn3 {K:PySem.W.Frag}{h:Heap}{mg:Str->Option Value}{f p0 p1 p2:Str}{st:Stmt} (H:FH K f st) (X:K.In h) (G:h.Ns mainGlobals mg)
  (hb:∀(kV dc pm:Value) (an:Option Addr) (cd ct u0 u1 u2:Value),bindArgs (PySem.W.fnOf f f (defArgs st) (defBody st) (defScope st) .none kV dc pm an cd ct) ⟨[u0,u1,u2],[]⟩=pure ([p0,p1,p2].zip [u0,u1,u2])):FnT K mg f st [p0,p1,p2]:=H.fn X G fun kV dc pm an cd ct us hl=>by
 obtain⟨u0,u1,u2,rfl⟩:=len3 hl
 exact hb ..
section
variable {P:Program}{w:World}{K:PySem.W.Frag}{mg:Str->Option Value}{base:Heap}{cls:Nat->Addr}
noncomputable abbrev Cq (P:Program) (w:World) (K:PySem.W.Frag) (mg:Str->Option Value) (base:Heap) (cls:Nat->Addr) (k:Nat) (x:Str) (ps:List Str) (F:List Dt->M Dt):Prop:=Cal P w K mg base (CX1 P w) k x ps (spM K cls F)
theorem Cal.of {x:Str}{st:Stmt}{N ps:List Str}{k np n:Nat}{b:SM} (t:FnT K mg x st ps) (S:FnScope N ps (defScope st)) (hp:ps.length=np) (hn:N.length=np+n)
  (hbody:∀(f:Addr) (cdv:Value) (A:Around) (outer:List Env) (s:Shared) (H:Hp) (E:XK),Room k (A.deeper (envOfC x (defScope st) s.heap.objs.size f cdv))->
   Rz (cxOf (CX1 P w) P w K mg base N x (defScope st) f cdv A outer s H E) E->Bv (cxOf (CX1 P w) P w K mg base N x (defScope st) f cdv A outer s H E) cls E (defBody st) b) (hf:ps=[lawS]->(defScope st).names.lookup lawS=some .local:=by first | assumption | decide +kernel) :
  Cq P w K mg base cls (k+1) x ps (fnM np n b):=by
 obtain⟨f,fd,F,hm,hb⟩:=t
 exact⟨f,fd,fn_ok F S hp hn (hbody f) hf,hm,F.kp,hb⟩
end
noncomputable abbrev Kt (l:List Nat):Key:=.inr ⟨l.toArray⟩
theorem kt_eq {a b:List Nat}:(Kt a=Kt b)↔a=b:=by
 constructor
 ·intro h
  injection h with h
  injection h with h
  simpa using congrArg Array.toList h
 ·intro h; rw [h]
theorem kt_dec (a b:List Nat):decide (Kt a=Kt b)=(a==b):=by
 rw [Bool.eq_iff_iff]
 simp only [decide_eq_true_eq,beq_iff_eq]
 exact kt_eq
theorem valV_dkv (l:List Nat):∀kvs:KVs,valV (dkv kvs) (Kt l)=(lkp kvs l).map S
 | []=>rfl
 |p::r=>by
  have ih:=valV_dkv l r
  unfold dkv lkp
  rw [List.map_cons,List.find?_cons]
  by_cases h:p.1=l
  ·rw [valV_pos (kt_eq.mpr h)]
   simp [h]
  ·rw [valV_neg (fun z=>h (kt_eq.mp z))]
   have:(p.1==l)=false:=by simpa using h
   rw [this]
   exact ih
theorem dkv_put (kvs:KVs) (k v:List Nat):putK (dkv kvs) (Kt k) (S v)=dkv (putP kvs k v):=by
 unfold putK putP dkv
 have e:((kvs.map fun p=>(Kt p.1,S p.2)).any fun kv=>decide (kv.1=Kt k))=kvs.any fun p=>p.1==k:=by
  rw [List.any_map]
  congr 1
  funext p
  exact kt_dec p.1 k
 rw [e]
 split
 ·rw [List.map_map,List.map_map]
  congr 1
  funext p
  simp only [Function.comp]
  by_cases h:p.1=k
  ·rw [if_pos (kt_eq.mpr h)]; simp [h]
  ·rw [if_neg (fun z=>h (kt_eq.mp z))]; simp [h]
 ·rw [List.map_append]; rfl
theorem dkv_drop (kvs:KVs) (k:List Nat):dropK (dkv kvs) (Kt k)=dkv (dropP kvs k):=by
 unfold dropK dropP dkv
 rw [List.filter_map]
 congr 1
 congr 1
 funext p
 simp only [Function.comp]
 have:=kt_dec p.1 k
 by_cases h:p.1=k
 ·simp [h]
 ·have h':¬ Kt p.1=Kt k:=fun z=>h (kt_eq.mp z)
  simp only [ne_eq,h',not_false_eq_true,decide_true]
  simp [h]
theorem dkv_len (kvs:KVs):(dkv kvs).length=kvs.length:=by simp [dkv]
theorem lkp_mem {kvs:KVs}{l v:List Nat} (h:lkp kvs l=some v):∃p∈kvs,p.1=l/\p.2=v:=by
 unfold lkp at h
 rw [Option.map_eq_some_iff] at h
 obtain⟨p,h1,h2⟩:=h
 exact⟨p,List.mem_of_find?_eq_some h1,by simpa using List.find?_some h1,h2⟩
theorem sm_lkp {kvs:KVs}{l v:List Nat} (z:sm (.dic kvs)) (h:lkp kvs l=some v):sm (.str v):=by
 obtain⟨p,h1,_,rfl⟩:=lkp_mem h
 exact(z.2 p h1).2
theorem sm_put {kvs:KVs}{k v:List Nat} (z:sm (.dic kvs)) (hk:sm (.str k)) (hv:sm (.str v)) (hl:kvs.length<10000):sm (.dic (putP kvs k v)):=by
 unfold putP
 split
 ·refine⟨by rw [List.length_map]; exact z.1,fun p hp=>?_⟩
  obtain⟨q,hq,rfl⟩:=List.mem_map.mp hp
  have:=z.2 q hq
  split
  ·exact⟨this.1,hv⟩
  ·exact this
 ·refine⟨by rw [List.length_append]; exact hl,fun p hp=>?_⟩
  rcases List.mem_append.mp hp with h | h
  ·exact z.2 p h
  ·have:p=(k,v):=by simpa using h
   subst this
   exact⟨hk,hv⟩
theorem sm_drop {kvs:KVs}{k:List Nat} (z:sm (.dic kvs)):sm (.dic (dropP kvs k)):=
 ⟨Nat.le_trans (List.length_filter_le _ _) z.1,fun p hp=>z.2 p (List.mem_filter.mp hp).1⟩
section
variable {X:Cx}{cls:Nat->Addr}{E:XK}{a b c o e:Expr}{f g h:Rho->M Dt}{pos p:Pos}{rest:List Stmt}{s:SM}
theorem repDc {K:PySem.W.Frag}{H:Hp}{A:List Addr}{kvs:KVs}{v:V} (r:Rep K (hid H A) (.dic kvs) v):∃a o,v=.ref a/\a∉A/\H a=some (.frz o (.dK (dkv kvs))):=by
 simp only [Rep] at r
 obtain⟨a,ks,rfl,rfl,o,h⟩:=r
 obtain⟨h1,h2⟩:=of_hid h
 exact⟨a,o,rfl,h1,h2⟩
theorem dget_of {H:Hp}{a:Addr}{ob:Obj}{kvs:KVs}{l:List Nat} (h:H a=some (.frz ob (.dK (dkv kvs)))):DGet H a (S l) ((lkp kvs l).map S):=.inl ⟨dkv kvs,Kt l,.inr ⟨ob,h⟩,rfl,(valV_dkv l kvs).symm⟩
theorem ev_dix (hu:X.A.units+50<cLine) (ha:Ev X cls E a f) (hb:Ev X cls E b g) (hs:NoSl b):Ev X cls E (.Subscript a b pos) (p2 oDix f g):=by
 refine(pe_dget (by omega) ha hb hs).imp (t2 (r:=fun x y H Q=>∃a v,x=.ref a/\DGet H a y (some v)/\Q v H) fun A H Q d1 d2 x y L r1 r2 z1 z2 q=>?_)
 cases d1 with
 |dic kvs=>
  cases d2 with
  |str l=>
   obtain⟨p,ob,rfl,hp,hH⟩:=repDc r1
   simp only [oDix,dixM] at q
   split at q
   ·rename_i v hv
    refine⟨p,S v,rfl,?_,q _ H (.refl _) rep_str (sm_lkp z1 hv)⟩
    have:=dget_of (l:=l) hH
    rw [hv] at this
    rw [repS r2]
    exact this
   ·exact(show False from q).elim
  |_=>exact(show False from q).elim
 |_=>exact(show False from q).elim
theorem op_inD (hu:X.A.units+50<cLine):OpR X (compareOp .In) (fun y x H Q=>∃a o,x=.ref a/\DGet H a y o/\Q (.bl o.isSome) H):=by
 intro pins s σ H y x v u Q I ry rx h
 obtain⟨a,ov,rfl,gd,q⟩:=h
 obtain rfl:u=Value.ref a:=rx
 exact d_in (by omega) I gd ry fun s3 I3=>fun _=>⟨.bl ov.isSome,H,I3,rfl,q⟩
theorem op_notInD (hu:X.A.units+50<cLine):OpR X (compareOp .NotIn) (fun y x H Q=>∃a o,x=.ref a/\DGet H a y o/\Q (.bl (!o.isSome)) H):=by
 intro pins s σ H y x v u Q I ry rx h
 obtain⟨a,ov,rfl,gd,q⟩:=h
 obtain rfl:u=Value.ref a:=rx
 exact d_notIn (by omega) I gd ry fun s3 I3=>fun _=>⟨.bl (!ov.isSome),H,I3,rfl,q⟩
theorem od_inD (hu:X.A.units+50<cLine):OpD X cls E (compareOp .In) oInD:=by
 refine⟨_,op_inD hu,fun A H Q d1 d2 x y L r1 r2 z1 z2 q=>?_⟩
 cases d1 with
 |str l=>
  cases d2 with
  |dic kvs=>
   obtain⟨p,ob,rfl,hp,hH⟩:=repDc r2
   refine⟨p,(lkp kvs l).map S,rfl,by rw [repS r1]; exact dget_of hH,?_⟩
   rw [Option.isSome_map]
   exact q _ H (.refl _) rep_bl trivial
  |_=>exact(show False from q).elim
 |_=>exact(show False from q).elim
theorem od_notinD (hu:X.A.units+50<cLine):OpD X cls E (compareOp .NotIn) oNotInD:=by
 refine⟨_,op_notInD hu,fun A H Q d1 d2 x y L r1 r2 z1 z2 q=>?_⟩
 cases d1 with
 |str l=>
  cases d2 with
  |dic kvs=>
   obtain⟨p,ob,rfl,hp,hH⟩:=repDc r2
   refine⟨p,(lkp kvs l).map S,rfl,by rw [repS r1]; exact dget_of hH,?_⟩
   rw [Option.isSome_map]
   exact q _ H (.refl _) rep_bl trivial
  |_=>exact(show False from q).elim
 |_=>exact(show False from q).elim
theorem Sto.freshD {K:PySem.W.Frag}{Hin:Hp}{A₀ os:List Addr}{ρ:Rho}{σ:St}{H:Hp}{i:Nat}{ds:KVs}{p:Addr} (S:Sto K Hin A₀ os ρ σ H) (hp:H p=none) (z:sm (.dic ds)) :
  Sto K Hin A₀ (p::os) (ρ.set i (.owd ds)) (σ.set i (some (.ref p))) (upd H p (.dK (dkv ds))):=S.anew hp rfl fun B s=>⟨p,rfl,upd_same,z⟩
theorem Sto.growD {K:PySem.W.Frag}{Hin:Hp}{A₀ os:List Addr}{ρ:Rho}{σ:St}{H:Hp}{i:Nat}{ds ns:KVs}{p:Addr} (S:Sto K Hin A₀ os ρ σ H) (hi:ρ[i]?=some (.owd ds)) (hp:σ[i]?=some (some (.ref p)))
  (z:sm (.dic ns)):Sto K Hin A₀ os (ρ.set i (.owd ns)) σ (upd H p (.dK (dkv ns))):=S.turn hi hp rfl rfl rfl fun e=>⟨p,rfl,upd_same,z⟩
theorem call_dcp:CallR X (.type "dict") (fun xs H Q=>∃a kvs,xs=[V.ref a]/\Rd H a (.dK kvs)/\∀p,H p=none->Q (.ref p) (upd H p (.dK kvs))):=by
 intro pins s σ H xs us Q I r h
 obtain⟨a,kvs,rfl,hd,q⟩:=h
 obtain⟨u,rfl,ru⟩:=vals1 r
 obtain rfl:u=Value.ref a:=ru
 exact d_copyOf I hd fun p s' hp I'=>fun _=>⟨.ref p,_,I',rfl,q p hp⟩
theorem boot_dict:bootBuiltins "dict" = some (.type "dict"):=by decide +kernel
theorem sv_ownC {i:Nat}{x:Str}{pos' dp cp:Pos} (hN:X.N.Nodup) (hi:X.N[i]?=some x) (hx:Loc X.env.scope x) (hg:Gl X "dict") (hm:X.mg "dict" = none) (he:Ev X cls E a f) (hst:isStar a=false)
  (hs:swapsWith (.Call (.Name "dict" dp) [a] [] cp) (some (.Name x pos')) pos.line X.env=pure false:=by rfl)
  (hf:X.fn x=true∨X.env.scope.names.lookup x=some .local:=by first | exact .inl rfl | exact .inr rfl | assumption):Sv X cls E (.Assign [.Name x pos'] (.Call (.Name "dict" dp) [a] [] cp) pos) (sOwnC i f):=
 (ps_set hN hi hx (pe_callTy call_dcp hg hm boot_dict (@pax _ _ _ _ _ hst he pa_nil) (by decide) (by decide) (starEach_cons hst) rfl) hs hf).imp fun D σ H ⟨Hin,A₀,ρ,⟨os,S⟩,q⟩=>by
 have F:=S.2.2.2
 refine⟨os,os++A₀,ρ,F,res_of S.1 q fun d v H' _ q1 s' r z=>?_⟩
 cases d with
 |dic kvs=>
  obtain⟨p,ob,rfl,hp,hH⟩:=repDc r
  exact⟨p,dkv kvs,rfl,.inr ⟨ob,hH⟩,fun p' hp'=>q1 _ _ ⟨p'::os,(S.mono s').freshD hp' z⟩⟩
 |_=>exact(show False from q1).elim
theorem sv_dput {i:Nat}{x:Str}{np pos':Pos} (hu:X.A.units+50<cLine) (hv:PE X (.Name x np) (tVar i)) (hk:Ev X cls E b g) (he:Ev X cls E a f)
  (hs:swapsWith a (some (.Subscript (.Name x np) b pos')) pos.line X.env=pure false:=by rfl):Sv X cls E (.Assign [.Subscript (.Name x np) b pos'] a pos) (sDput i g f):=
 (ps_dput (by omega) hv hk he hs).imp fun D σ H ⟨Hin,A₀,ρ,⟨os,S⟩,q⟩=>by
 unfold sDput dpK at q
 split at q
 ·rename_i kvs hi
  have F:=S.2.2.2
  refine⟨os,os++A₀,ρ,F,res_of S.1 q fun d v H' _ q1 s' r z=>?_⟩
  cases d with
  |str l=>
   have S':=S.mono s'
   have F':=S'.2.2.2
   obtain⟨p,h1,h2,h3,h4⟩:=F'.owd i kvs hi
   refine⟨.ref p,h1,os,os++A₀,ρ,F',res_of S'.1 q1 fun d2 v2 H2 _ q2 s2 r2 z2=>?_⟩
   cases d2 with
   |str k=>
    simp only [dpE] at q2
    split at q2
    ·rename_i hl
     refine⟨p,_,rfl,.inl ⟨dkv kvs,Kt k,s2 _ _ h3,repS r2,by rw [dkv_len]; exact Nat.lt_of_lt_of_le hl (by decide),rfl⟩,q2 _ _ ⟨os,?_⟩⟩
     rw [repS r,dkv_put]
     exact(S'.mono s2).growD hi h1 (sm_put h4 z2 z hl)
    ·exact(show False from q2).elim
   |_=>exact(show False from q2).elim
  |_=>exact(show False from q1).elim
 ·exact(show False from q).elim
theorem sv_dpop {i:Nat}{x:Str}{np apos cpos:Pos} (hv:PE X (.Name x np) (tVar i)) (hk:Ev X cls E b g) (m:M1 X (.Name x np) "pop" apos b cpos)
  (hs:swapsWith (.Call (.Attribute (.Name x np) "pop" apos) [b] [] cpos) none pos.line X.env=pure false:=by rfl):Sv X cls E (.Expr (.Call (.Attribute (.Name x np) "pop" apos) [b] [] cpos) pos) (sDpop i g):=
 (ps_expr (pe_dpop1 hv hk m) hs).imp fun D σ H ⟨Hin,A₀,ρ,⟨os,S⟩,q⟩=>by
 unfold sDpop poK at q
 split at q
 ·rename_i kvs hi
  have F:=S.2.2.2
  obtain⟨p,h1,h2,h3,h4⟩:=F.owd i kvs hi
  refine⟨.ref p,h1,p,rfl,.inl ⟨_,.inl h3⟩,os,os++A₀,ρ,F,res_of S.1 q fun d2 v2 H2 _ q2 s2 r2 z2=>?_⟩
  cases d2 with
  |str k=>
   simp only [poE] at q2
   split at q2
   ·rename_i hl
    obtain⟨w,hw⟩:=Option.isSome_iff_exists.mp hl
    refine⟨dkv kvs,Kt k,L2.S w,s2 _ _ h3,repS r2,by rw [valV_dkv,hw]; rfl,q2 _ _ ⟨os,?_⟩⟩
    rw [dkv_drop]
    exact(S.mono s2).growD hi h1 (sm_drop h4)
   ·exact(show False from q2).elim
  |_=>exact(show False from q2).elim
 ·exact(show False from q).elim
end
noncomputable def Itd (d:Addr) (ob:Obj) (u:HO) (xs:List V):It:=
 ⟨fun i H=>H d=some (.frz ob u)/\i<xs.length,fun i H x H'=>H'=H/\xs[i]?=some x,fun i H=>H d=some (.frz ob u)/\xs.length<=i⟩
theorem dict_pin {P:Program}{w:World}{H:Hp}{h:Heap}{d:Addr}{ob:Obj}{kvs:List (Key×V)} (ok:HOk P w H h) (e:H d=some (.frz ob (.dK kvs))) :
  ∃es ep,ob.data=.dict es ep/\(d==sysModules)=false/\h.get? d=some ob/\kvs.length<=sizeLine/\∃vs,KV kvs vs/\h.DictAt (mixKind P w) d vs ep:=by
 obtain⟨g,z,na,vs,r,o,es,ep,g',x,dt,k,p,n⟩:=ok d _ e
 rw [g] at g'
 cases g'
 exact⟨es,ep,dt,na,g,z,vs,r,ob,es,g,x,dt,k,p,n⟩
theorem dict_pin' {P:Program}{w:World}{H:Hp}{h:Heap}{d:Addr}{ob:Obj}{kvs:List (Key×V)}{es0:Array DictEntry}{ep:Nat} (hd:ob.data=.dict es0 ep) (ok:HOk P w H h) (e:H d=some (.frz ob (.dK kvs))) :
  ∃vs,KV kvs vs/\h.DictAt (mixKind P w) d vs ep:=by
 obtain⟨es,ep',h1,_,_,_,vs,r,a⟩:=dict_pin ok e
 rw [hd] at h1
 cases h1
 exact⟨vs,r,a⟩
theorem is_rel {P:Program}{w:World}{k:Key}{u:Value} (h:(mixKind P w).is k u=true):RelV (kV k) u:=by
 rcases keyIs_shape (k:=k) (v:=u) h with ⟨i,t,rfl,rfl⟩ | ⟨x,t,rfl,rfl⟩
 ·exact⟨t,rfl⟩
 ·exact⟨t,rfl⟩
theorem KV.at {kvs:List (Key×V)}{vs:List (Key×Value)} (r:KV kvs vs):∀{i:Nat}{p:Key×V},kvs[i]?=some p->∃q,vs[i]?=some q/\p.1=q.1/\RelV p.2 q.2:=by
 unfold KV at r
 induction r with
 |nil=>intro i p e; simp at e
 |cons h t ih=>
  intro i p e
  cases i with
  |zero=>simp at e; subst e; exact⟨_,by simp,h.1,h.2⟩
  |succ i=>obtain⟨q,h1,h2⟩:=ih (i:=i) (p:=p) (by simpa using e); exact⟨q,by simpa using h1,h2⟩
theorem turn_keys {P:Program}{w:World}{K:PySem.W.Frag}{tg:Expr} (d it:Addr) (ob:Obj) (kvs:List (Key×V)) (es:Array DictEntry) (ep:Nat) (hd:ob.data=.dict es ep) :
  Turn P w K tg (Itd d ob (.dK kvs) (kvs.map fun p=>kV p.1)) [it] it (fun i h=>h.IsKeyIter it d i kvs.length ep) where
 mem:=by simp
 obj:=fun i h st b hb=>by
  have e:b=it:=by simpa using hb
  subst e
  obtain⟨o,e,c,dd⟩:=st
  exact⟨o,e,fun v z=>by rw [dd] at z; cases z⟩
 keep:=fun i h h' st k=>st.at fun o e=>k it (by simp) o e
 item:=by
  intro X hP hw hK hc i pins s σ H E I hf st hg
  subst hP hw hK
  obtain⟨hH,hi⟩:=hg
  rw [List.length_map] at hi
  obtain⟨vs,r,da⟩:=dict_pin' hd I.hok hH
  obtain⟨q,hq,h1,h2⟩:=r.at (i:=i) (p:=kvs[i]) (by simp [hi])
  obtain⟨f0,f1,f2,f3,f4,f5⟩:=hf it (by simp)
  have hl:=KV.length r
  rw [hl] at st
  refine wpAny_pyNext_dict_item (k:=q.1) (v:=q.2) st da (by rw [hq]) fun key h' hkey st' sb=>?_
  have I1:Inv X pins σ H {s with heap:=h'}:=I.turned (t':=s.toks) (fun b o hb e=>(sb.2 b hb).trans e) f0 f1 f3 f4 f5
  obtain⟨o,e,c,dd⟩:=id st'
  refine(fun ht=>⟨key,rfl,go_of (s:={s with heap:=h'}) e c dd (by decide) (fun ht=>⟨kV kvs[i].1,H,I1,?_,⟨rfl,by simp [hi]⟩,by rw [hl]; exact st',fun b hb=>(hf b hb).1⟩)⟩)
  rw [h1]
  exact is_rel hkey
 done:=by
  intro X hP hw hK hc i pins s σ H E I hf st hg
  subst hP hw hK
  obtain⟨hH,hi⟩:=hg
  rw [List.length_map] at hi
  obtain⟨vs,r,da⟩:=dict_pin' hd I.hok hH
  obtain⟨f0,f1,f2,f3,f4,f5⟩:=hf it (by simp)
  have hl:=KV.length r
  rw [hl] at st hi
  exact wpAny_pyNext_dict_end (I.ok.hd hc) st da (by simp [hi]) fun h' eb=>(fun ht=>⟨rfl,I.turned (t':=s.toks) (fun b o hb e=>eb b o hb e) f0 f1 f3 f4 f5⟩)
 self:=fun _ _ _ _ _ st h=>wpAny_pyIter_keyiter st h
section
variable {X:Cx}{cls:Nat->Addr}{E:XK}{a b c o e tg:Expr}{f g h:Rho->M Dt}{pos p apos:Pos}
theorem itd_d {K:PySem.W.Frag}{A:List Addr}{d:Addr}{ob:Obj}{u:HO}{ds:List Dt}{xs:List V}{H1:Hp} (hd:hid H1 A d=some (.frz ob u)) (h2:Reps K (hid H1 A) ds xs) (z:sms ds) (zl:ds.length<=10000):ItD K A (Itd d ob u xs) ds H1:=by
 have hl:=h2.length
 refine⟨fun i H hi s=>⟨s _ _ hd,by omega⟩,fun H s=>⟨s _ _ hd,by omega⟩,fun i H x H' A' hi L s y=>?_,z,zl⟩
 obtain⟨rfl,hx⟩:=y
 obtain⟨d',hd',rd⟩:=h2.get hx
 exact⟨.refl _,d',hd',rd.mono s⟩
theorem reps_keys {K:PySem.W.Frag}{H:Hp}:∀kvs:KVs,Reps K H (keysD kvs) ((dkv kvs).map fun p=>kV p.1)
 | []=>.nil
 |p::r=>.cons rep_str (reps_keys r)
theorem sm_keys {kvs:KVs} (z:sm (.dic kvs)):sms (keysD kvs):=sms_of fun d hd=>by
 obtain⟨p,hp,rfl⟩:=List.mem_map.mp hd
 exact(z.2 p hp).1
theorem hid_of {H:Hp}{A:List Addr}{d:Addr}{u:HO} (h:H d=some u) (hA:d∉A):hid H A d=some u:=by rw [hid_ne hA]; exact h
theorem iv_keys (he:Ev X cls E e f):Iv X cls E tg e (iKeys f):=by
 intro pins s σ H R I ⟨O,A,ρ,F,q⟩
 refine thn (he pins s σ H (fun x H1=>∃d ob kvs,x=.ref d/\H1 d=some (.frz ob (.dK (dkv kvs)))/\R (Itd d ob (.dK (dkv kvs)) ((dkv kvs).map fun p=>kV p.1)) H1) I ⟨O,A,ρ,F,Rg.bind q fun d _ q1=>?_⟩) fun v s1 hz=>?_
 ·intro v H1 s1 r1 z1
  cases d with
  |dic kvs=>
   obtain⟨p,ob,rfl,hp,hH⟩:=repDc r1
   exact⟨p,ob,kvs,rfl,hH,q1 _ H1 s1 (itd_d (hid_of hH hp) (reps_keys kvs) (sm_keys z1) (by simp [keysD]; exact z1.1))⟩
  |_=>exact(show False from q1).elim
 ·obtain⟨x,H1,I1,r1,d,ob,kvs,rfl,hH,q1⟩:=hz
  obtain rfl:v=Value.ref d:=r1
  obtain⟨es,ep,hdat,na,g0,_,vs,r,da⟩:=dict_pin I1.hok hH
  refine fun _=>wpAny_pyIter_dict na da fun _=>?_
  refine⟨s1.heap.objs.size,[s1.heap.objs.size],_,_,H1,rfl,I1.kept (t':=s1.toks) fun b o e=>Heap.get?_push_of_some _ e,turn_keys d _ ob (dkv kvs) es ep hdat,?_,fun b hb=>?_,q1⟩
  ·rw [KV.length r]
   exact⟨_,Heap.get?_push_size _ rfl,rfl,rfl⟩
  ·have e:b=s1.heap.objs.size:=by simpa using hb
   subst e
   exact I1.fpOk (Nat.le_refl _) (I1.hok.fresh (Nat.le_refl _))
end
noncomputable def FrL (H:Hp) (v:V) (H':Hp):Prop:=∃D ys,v=.ref D/\H D=none/\H' D=some (.lst ys)
theorem rdComp_fresh {k:Nat}{fr:List Nat}{g:TG}{tc:TT}{te:TE}{σ:St}{J:It}{H1:Hp}{Q:VK} (h:rdComp k fr g tc te σ J H1 (fun v H'=>FrL H1 v H'->Q v H')):rdComp k fr g tc te σ J H1 Q:=by
 intro D hD
 obtain⟨W,h0,hs⟩:=h D hD
 refine⟨W,h0,fun i m ys σ' H' hw=>?_⟩
 obtain⟨h1,h2⟩:=hs i m ys σ' H' hw
 refine⟨h1,?_⟩
 rcases h2 with ⟨a,b⟩ | h2
 ·exact .inl ⟨a,b ⟨D,ys,rfl,hD,h1⟩⟩
 ·exact .inr h2
theorem Fit.startL {K:PySem.W.Frag}{O A:List Addr}{ρ:Rho}{σ:St}{H:Hp} (F:Fit K O A ρ σ H) (fr:List Nat):Fit K [] A (L2.startL fr ρ) (L2.startC 0 fr σ) H:=by
 have key:∀{i:Nat} {b},(L2.startL fr ρ)[i]?=some b->∃m,fr[i]?=some m/\b=vBor ρ[m]?:=fun {i b} h=>by
  have h':(fr.map fun j=>vBor ρ[j]?)[i]?=some b:=h
  rw [List.getElem?_map] at h'
  obtain⟨m,h1,h2⟩:=Option.map_eq_some_iff.mp h'
  exact⟨m,h1,h2.symm⟩
 have at_:∀{i m:Nat} {v},fr[i]?=some m->σ[m]?=some (some v)->(L2.startC 0 fr σ)[i]?=some (some v):=fun {i m v} h1 h2=>by
  unfold L2.startC
  simp [h1,h2]
 have no:∀{i:Nat} {b},(L2.startL fr ρ)[i]?=some b->isOw b=true->False:=fun {i b} h o=>by
  obtain⟨m,_,rfl⟩:=key h
  unfold vBor at o
  split at o <;> cases o
 refine⟨by simp [L2.startL,L2.startC],F.liv,(fun a z=>nomatch z),fun i d h=>?_,fun i b h o=>(no h o).elim,fun i j b c v w _ h _ o=>(no h o).elim,fun i p x y h=>?_⟩
 ·obtain⟨m,h1,h2⟩:=key h
  unfold vBor at h2
  split at h2
  ·rename_i d' hd
   cases h2
   obtain⟨v,g1,g2⟩:=F.val m d hd
   exact⟨v,at_ h1 g1,g2⟩
  all_goals cases h2
 ·obtain⟨m,h1,h2⟩:=key h
  unfold vBor at h2
  split at h2
  ·cases h2
  ·rename_i x' y' hd
   cases h2
   obtain⟨v,g1,g2,g3⟩:=F.ow m _ hd rfl
   exact⟨v,at_ h1 g1,(fun a z=>nomatch z),g2,fun a ha=>⟨F.sub a (g3 a ha),fun z=>nomatch z⟩⟩
  ·rename_i p' x' y' hd
   cases h2
   obtain⟨v,g1,gp,g2,g3⟩:=F.bo m p x y hd
   exact⟨v,at_ h1 g1,gp,g2,fun a ha=>⟨(g3 a ha).1,fun z=>nomatch z⟩⟩
  ·cases h2
end L2
namespace L2
open PySem PySem.SetTable
theorem getD_none {owner:Array (Option Nat)}{j:Nat} (h:(owner.getD j (some 0)).isNone=true):owner[j]?=some none:=by
 rw [Array.getD_eq_getD_getElem?] at h
 cases hj:owner[j]? with
 |none=>rw [hj] at h; cases h
 |some x=>
  rw [hj] at h
  cases x with
  |none=>rfl
  |some y=>cases h
end L2
namespace L2
open PySem PySem.Spec PyProof.Rows PySem.W PySem.SetTable
section
variable {X:Cx}{cls:Nat->Addr}{E:XK}{e e':Expr}{f g:Rho->M Dt}{pos pos2 pos3 pos4 p p2 p3:Pos}
theorem uv_2r {a:Expr}{x:Str} {j p p'} (h:Ev X cls E a f) (hx:x.length<=1000:=by decide +kernel):Uv X cls E (.JoinedStr [.Constant (.str x) j p,.FormattedValue a 114 none p'] pos) (uRp f):=(pe_fstr2 (pe_str (x:=x)) (pe_fmtR h)).imp fun σ H Q h_=>by
 obtain⟨O,A,ρ,F,q⟩:=h_
 refine⟨_,rfl,hx,O,A,ρ,F,Rg.bind q fun d _ q1=>?_⟩
 intro v H' s' r z
 cases d with
 |str l=>
  simp only [uRpD] at q1
  split at q1
  ·rename_i hi
   exact⟨l,repS r,hi.1,fun c hc=>by simpa using List.all_eq_true.mp hi.2 c hc,fun z hz=>⟨z,rfl,hz,fun z'=>q1 _ H' s'⟩⟩
  ·exact(show False from q1).elim
 |_=>exact(show False from q1).elim
end
end L2
namespace L2
open PySem PySem.Spec PyProof.Rows PySem.W
mutual
theorem repNL {K:PySem.W.Frag}{H:Hp}{p:Addr}{ys:List V} (hp:H p=some (.lst ys)):∀{d:Dt}{v:V},noL d=true->Rep K H d v->Rep K (hid H [p]) d v
 |.non,_,_,h=>by simpa only [Rep] using h
 |.bl _,_,_,h=>by simpa only [Rep] using h
 |.int _,_,_,h=>by simpa only [Rep] using h
 |.str _,_,_,h=>by simpa only [Rep] using h
 |.tup es,_,hz,h=>by
  simp only [Rep] at h ⊢
  obtain⟨a,xs,h1,h2,h3⟩:=h
  refine⟨a,xs,h1,?_,repsNL hp (by simpa only [noL] using hz) h3⟩
  rcases h2 with (h2 | ⟨o,h2⟩) | h2
  ·exact .inl (.inl (by rw [hid_ne (by simp only [List.mem_singleton]; intro z; rw [z,hp] at h2; cases h2)]; exact h2))
  ·exact .inl (.inr ⟨o,by rw [hid_ne (by simp only [List.mem_singleton]; intro z; rw [z,hp] at h2; cases h2)]; exact h2⟩)
  ·exact .inr h2
 |.lst es,v,hz,h=>by simp only [noL] at hz; cases hz
 |.dic kvs,_,_,h=>by
  simp only [Rep] at h ⊢
  obtain⟨a,ks,h1,h3,o,h2⟩:=h
  exact⟨a,ks,h1,h3,o,by rw [hid_ne (by simp only [List.mem_singleton]; intro z; rw [z,hp] at h2; cases h2)]; exact h2⟩
theorem repsNL {K:PySem.W.Frag}{H:Hp}{p:Addr}{ys:List V} (hp:H p=some (.lst ys)):∀{es:List Dt}{xs:List V},noLs es=true->Reps K H es xs->Reps K (hid H [p]) es xs
 | [],_,_,h=>by simpa only [Reps] using h
 |d::es,_,hz,h=>by
  simp only [Reps] at h ⊢
  simp only [noLs,Bool.and_eq_true] at hz
  obtain⟨x,r,h1,h2,h3⟩:=h
  exact⟨x,r,h1,repNL hp hz.1 h2,repsNL hp hz.2 h3⟩
end
noncomputable def BrdAt (K:PySem.W.Frag) (A:List Addr) (H:Hp) (v:V) (x y:List Dt):Prop:=OwAt K A H v (.brd x y)/\∀a∈fpOf H v (.brd x y),a∈A
section
variable {K:PySem.W.Frag}{O A A':List Addr}{ρ:Rho}{σ:St}{H H':Hp}{v:V}{x y:List Dt}
theorem BrdAt.mono (h:BrdAt K A H v x y) (s:Same H H'):BrdAt K A H' v x y:=by
 refine⟨h.1.off (fun a ha=>same_at s (h.1.live ha)) (s.hid A),?_⟩
 have fq:fpOf H' v (.brd x y)=fpOf H v (.brd x y):=fp_eq fun a e=>by
  obtain⟨a',e',ha⟩:=h.1.fst
  rw [e] at e'
  cases e'
  exact same_at s (h.1.live ha)
 rw [fq]
 exact h.2
theorem Fit.see {i:Nat} (F:Fit K O A ρ σ H) (h:brdOf ρ[i]?=some (x,y)):∃v,σ[i]?=some (some v)/\BrdAt K A H v x y:=by
 unfold brdOf at h
 split at h
 ·rename_i x' y' e
  cases h
  obtain⟨v,h1,h2,h3⟩:=F.ow i _ e rfl
  exact⟨v,h1,h2,fun a ha=>F.sub a (h3 a ha)⟩
 ·rename_i p' x' y' e
  cases h
  obtain⟨v,h1,_,h2,h3⟩:=F.bo i p' x y e
  exact⟨v,h1,h2,fun a ha=>(h3 a ha).1⟩
 ·cases h
inductive BrdP (K:PySem.W.Frag) (A:List Addr) (H:Hp) (v:V) (x y:List Dt):Prop
 |mk (a dx l m C:Addr) (xs ys:List V) (e:v=.ref a) (hC:BrdC K C) (h1:H a=some (.ins C dx (brdF l m))) (h2:H dx=some (.own a)) (h3:H l=some (.lst xs)) (h4:H m=some (.lst ys)) (h5:l≠m)
  (h6:Reps K (hid H A) x xs/\sms x/\x.length<=10000) (h7:Reps K (hid H A) y ys/\sms y/\y.length<=10000) (g1:a∈A) (g2:dx∈A) (g3:l∈A) (g4:m∈A):BrdP K A H v x y
theorem BrdAt.parts (h:BrdAt K A H v x y):BrdP K A H v x y:=by
 obtain⟨⟨a,dx,l,m,C,xs,ys,rfl,hC,h1,h2,h3,h4,h5,h6,h7⟩,h8⟩:=h
 rw [fp_brd h1] at h8
 exact⟨a,dx,l,m,C,xs,ys,rfl,hC,h1,h2,h3,h4,h5,h6,h7,h8 a (by simp),h8 dx (by simp),h8 l (by simp),h8 m (by simp)⟩
theorem BrdC.one {C C':Addr} (h:BrdC K C) (h':BrdC K C'):C=C':=by
 have e:=h.1.symm.trans h'.1
 injection e with e
 injection e with e
 injection e
end
noncomputable abbrev WR:=List Addr->Dt->V->Hp->Hp->Prop
noncomputable def wRep (K:PySem.W.Frag):WR:=fun A d v _ H'=>Rep K (hid H' A) d v
noncomputable def wLst (K:PySem.W.Frag):WR:=fun A d v H H'=>Rep K (hid H' A) d v/\FrL H v H'
noncomputable def wDic:WR:=fun _ d v H H'=>∃ks p,d=.dic ks/\v=.ref p/\H p=none/\H' p=some (.dK (dkv ks))
inductive spR (K:PySem.W.Frag) (cls:Nat->Addr) (W:WR) (F:List Dt->List Dt->M Dt) (vs:List V) (H:Hp) (Q:VK) (E:XK):Prop
 |mk (v:V) (A:List Addr) (x y:List Dt) (e:vs=[v]) (L:Liv H A) (b:BrdAt K A H v x y) (q:Rg cls E (F x y) H fun d=>∀v H',Same H H'->W A d v H H'->sm d->Q v H'):spR K cls W F vs H Q E
inductive spB (K:PySem.W.Frag) (cls:Nat->Addr) (F:Nat->BM) (vs:List V) (H:Hp) (Q:VK) (E:XK):Prop
 |mk (p:Nat) (v:V) (ws:List V) (A:List Addr) (x y ds:List Dt) (e:vs=v::ws) (e2:v=.ref p) (L:Liv H A) (b:BrdAt K A H v x y) (r:Reps K (hid H A) ds ws) (z:sms ds)
  (q:Rg cls E (F p x y ds) H fun r=>∀u H',Same (hid H (fpOf H v (.brd x y))) H'->BrdAt K A H' v r.2.1 r.2.2->fpOf H' v (.brd x y)=fpOf H v (.brd x y)->Rep K (hid H' A) r.1 u->sm r.1->Q u H'):spB K cls F vs H Q E
noncomputable def CalB (P:Program) (w:World) (K:PySem.W.Frag) (mg:Str->Option Value) (base:Heap) (k:Nat) (m:Str) (ps:List Str) (sp:Sp):Prop:=
 ∃C f fd,BrdC K C/\Meth K C m f/\FnOk P w K mg base (CX1 P w) k f fd ps sp/\Binds K fd ps []
inductive tMthB (K:PySem.W.Frag) (m:Str) (sp:Sp) (E:XK) (i:Nat) (t:TA) (σ:St) (H:Hp) (Q:VK):Prop
 |mk (v:V) (a C dx:Addr) (fs:List (Str×V)) (h1:σ[i]?=some (some v)) (h2:v=.ref a) (h3:H a=some (.ins C dx fs)) (h4:BrdC K C) (h5:fs.lookup m=none) (q:t σ H fun vs H2=>sp (v::vs) H2 Q E):tMthB K m sp E i t σ H Q
section
variable {X:Cx}{cls:Nat->Addr}{E:XK}{a b c o e:Expr}{f g h:Rho->M Dt}{pos apos:Pos}{i k:Nat}{m:Str}{ps:List Str}{sp:Sp}{t:TA}{es:List Expr}{fs:Rho->M (List Dt)}
theorem pe_mth0 {pl:Sem Bool} (C:CalB X.prog X.w X.K X.mg X.base k m ps sp) (hr:Room k X.A) (hx:Passes (CX1 X.prog X.w) X E) (ho:PE X o (tVar i))
  (ht:eval (.Call (.Attribute o m apos) [] [] pos) X.env=(do
   let ov ← eval o X.env
   standAt apos.atName
   let (f,first) ← holding [ov] (getMethod ov m pl)
   callWith pos f first (backTo pos (starEach [] X.env)) (backToKw pos (keywordEach [] X.env))):=by rfl):PE X (.Call (.Attribute o m apos) [] [] pos) (tMthB X.K m sp E i tNil):=by
 obtain⟨C,f,fd,hC,hM,F,hb⟩:=C
 refine(pe_meth0 (pl:=pl) (dvs:=[]) (ds:=[]) ho hC.2.1 hM F hr hb .nil hx ht).imp fun σ H Q h_=>?_
 obtain⟨v,a,C',dx,fs,h0,h1,h2,h3,h4,h5⟩:=h_
 rw [h3.one hC] at h2
 exact⟨v,h0,a,dx,fs,h1,h2,h4,h5⟩
theorem pe_mth {pl:Sem Bool} (C:CalB X.prog X.w X.K X.mg X.base k m ps sp) (hr:Room k X.A) (hx:Passes (CX1 X.prog X.w) X E) (ho:PE X o (tVar i)) (ha:PA X (e::es) (tMA X.K cls E fs))
  (hst:starEach (e::es) X.env=(false,eval e X.env)::starEach es X.env:=by rfl) (hpl:(backTo pos (starEach es X.env)).any (·.1)=false:=by rfl)
  (ht:eval (.Call (.Attribute o m apos) (e::es) [] pos) X.env=(do
   let ov ← eval o X.env
   standAt apos.atName
   let (f,first) ← holding [ov] (getMethod ov m pl)
   callWith pos f first (backTo pos (starEach (e::es) X.env)) (backToKw pos (keywordEach [] X.env))):=by rfl):PE X (.Call (.Attribute o m apos) (e::es) [] pos) (tMthB X.K m sp E i (tMA X.K cls E fs)):=by
 obtain⟨C,f,fd,hC,hM,F,hb⟩:=C
 refine(pe_meth (pl:=pl) (dvs:=[]) (ds:=[]) ho hC.2.1 hM F hr hb .nil hx ha hst hpl ht).imp fun σ H Q h_=>?_
 obtain⟨v,a,C',dx,fs',h0,h1,h2,h3,h4,h5⟩:=h_
 rw [h3.one hC] at h2
 refine⟨v,h0,a,dx,fs',h1,h2,h4,?_⟩
 simpa only [List.append_nil] using h5
theorem BrdAt.look {K:PySem.W.Frag}{A:List Addr}{H:Hp}{v:V}{x y:List Dt} (h:BrdAt K A H v x y) (hm1:(m==("done" : Str))=false) (hm2:(m==("undone" : Str))=false):∃a C dx fs,v=.ref a/\H a=some (.ins C dx fs)/\BrdC K C/\fs.lookup m=none:=by
 obtain⟨a,dx,l,n,C,xs,ys,rfl,hC,h1,_⟩:=h.parts
 refine⟨a,C,dx,_,rfl,h1,hC,?_⟩
 unfold brdF
 rw [List.lookup_cons,hm1,List.lookup_cons,hm2]
 rfl
theorem t_rd {W:WR}{F:List Dt->List Dt->M Dt}{σ:St}{H:Hp}{Q:VK}{O A:List Addr}{ρ:Rho} (hm1:(m==("done" : Str))=false) (hm2:(m==("undone" : Str))=false) (Ft:Fit X.K O A ρ σ H)
  (q:Rg cls E (pRd i F ρ) H fun d=>∀v H',Same H H'->W A d v H H'->sm d->Q v H'):tMthB X.K m (spR X.K cls W F) E i tNil σ H Q:=by
 unfold pRd rdK at q
 split at q
 ·rename_i p hb
  obtain⟨x,y⟩:=p
  obtain⟨v,h1,h2⟩:=Ft.see hb
  obtain⟨a,C,dx,fs,h3,h4,h5,h6⟩:=h2.look hm1 hm2
  exact⟨v,a,C,dx,fs,h1,h3,h4,h5,h6,v,A,x,y,rfl,Ft.liv,h2,q⟩
 ·exact(show False from q).elim
theorem ev_rd {pl:Sem Bool}{F:List Dt->List Dt->M Dt} (C:CalB X.prog X.w X.K X.mg X.base k m ps (spR X.K cls (wRep X.K) F)) (hr:Room k X.A) (hx:Passes (CX1 X.prog X.w) X E) (ho:PE X o (tVar i)) (hm1:(m==("done" : Str))=false:=by decide +kernel) (hm2:(m==("undone" : Str))=false:=by decide +kernel)
  (ht:eval (.Call (.Attribute o m apos) [] [] pos) X.env=(do
   let ov ← eval o X.env
   standAt apos.atName
   let (f,first) ← holding [ov] (getMethod ov m pl)
   callWith pos f first (backTo pos (starEach [] X.env)) (backToKw pos (keywordEach [] X.env))):=by rfl):Ev X cls E (.Call (.Attribute o m apos) [] [] pos) (pRd i F):=
 (pe_mth0 C hr hx ho ht).imp fun σ H Q ⟨O,A,ρ,Ft,q⟩=>t_rd hm1 hm2 Ft q
theorem ev_rdD {pl:Sem Bool}{F:List Dt->List Dt->M Dt} (C:CalB X.prog X.w X.K X.mg X.base k m ps (spR X.K cls wDic F)) (hr:Room k X.A) (hx:Passes (CX1 X.prog X.w) X E) (ho:PE X o (tVar i)) (hm1:(m==("done" : Str))=false:=by decide +kernel) (hm2:(m==("undone" : Str))=false:=by decide +kernel)
  (ht:eval (.Call (.Attribute o m apos) [] [] pos) X.env=(do
   let ov ← eval o X.env
   standAt apos.atName
   let (f,first) ← holding [ov] (getMethod ov m pl)
   callWith pos f first (backTo pos (starEach [] X.env)) (backToKw pos (keywordEach [] X.env))):=by rfl):Ev X cls E (.Call (.Attribute o m apos) [] [] pos) (pRd i F):=fun pins s σ H Q I ⟨O,A,ρ,Ft,q⟩=>by
 refine wpAny_mono (pe_mth0 C hr hx ho ht pins s σ H (fun v H'=>∃d,Same H H'/\wDic A d v H H'/\sm d/\pRd i F ρ=.ok d) I (t_rd hm1 hm2 Ft ?_)) (fun u s1 hz hT=>?_) fun _ _ z=>z
 ·exact Rg.ok q fun d e _ v H' s w z=>⟨d,s,w,z,e⟩
 ·obtain⟨v,H',I',rv,d,s',⟨ks,p,rfl,rfl,hp,hp'⟩,z,e⟩:=hz hT
  obtain⟨ob,I2⟩:=I'.freeze hp'
  rw [e] at q
  have s2:Same H (upd H' p (.frz ob (.dK (dkv ks)))):=fun b o e=>by
   rw [upd_ne (ne_of_none e hp)]
   exact s' b o e
  exact⟨.ref p,_,I2,rv,q _ _ s2 (rep_dic (o:=ob) (by rw [hid_ne (Ft.liv.fresh hp)]; exact upd_same)) z⟩
end
noncomputable abbrev tSelf (K:PySem.W.Frag) (f:Str):TE:=tFld K (tVar 0) f
noncomputable abbrev rLenQ (K:PySem.W.Frag):List V->Hp->VK->Prop:=fun xs H Q=>∃p ys,xs=[.ref p]/\(SqL K H p ys∨SqT K H p ys)/\Q (.int ys.length) H
noncomputable abbrev rDcp:List V->Hp->VK->Prop:=fun xs H Q=>∃a kvs,xs=[V.ref a]/\Rd H a (.dK kvs)/\∀p,H p=none->Q (.ref p) (upd H p (.dK kvs))
noncomputable abbrev tLenF (K:PySem.W.Frag) (f:Str):TE:=tCB (rLenQ K) (tCons (tSelf K f) tNil)
noncomputable abbrev tSizes (K:PySem.W.Frag):TS:=tRet (tTup (tCons (tLenF K "done") (tCons (tLenF K "undone") tNil)))
noncomputable abbrev tSheet (K:PySem.W.Frag):TS:=tRet (tIf (tTest (tOp (rI0 fun i j=>.bl (decide (j<i))) (tLenF K "done") (tC (.int 0))))
 (tCB rDcp (tCons (tOp (rIxT K) (tOp (rIxL K) (tSelf K "done") (tUn (rU fun i=>.int (-i)) (tC (.int 1)))) (tC (.int 1))) tNil)) tDNewK)
noncomputable abbrev gSt:GM:=gTp 2 (gZc (gNm 0) (gZc (gNm 1) gZn))
noncomputable abbrev tDo (K:PySem.W.Frag):TS:=tSeq (tDrop (tBM K "list" rAppend (tSelf K "done") (tCons (tTup (tCons (tVar 1) (tCons (tVar 2) tNil))) tNil))) (tDrop (tBM0 K "list" rClear (tSelf K "undone")))
noncomputable abbrev tInit (K:PySem.W.Frag):TS:=tSeq (sFld K (tVar 0) (tLst tNil) "done") (sFld K (tVar 0) (tLst tNil) "undone")
section
variable {P:Program}{w:World}{K:PySem.W.Frag}{mg:Str->Option Value}{base:Heap}{cls:Nat->Addr}{x qual:Str}{st:Stmt}{f:Addr}{fd:FuncData}{k:Nat}
noncomputable abbrev BodyT (P:Program) (w:World) (K:PySem.W.Frag) (mg:Str->Option Value) (base:Heap) (N:List Str) (qual:Str) (st:Stmt) (f:Addr) (k:Nat) (t:TS):Prop:=
 ∀(cdv:Value) (A:Around) (outer:List Env) (s:Shared) (H:Hp) (E:XK),Room k (A.deeper (envOfC qual (defScope st) s.heap.objs.size f cdv))->PSs (cxOf (CX1 P w) P w K mg base N qual (defScope st) f cdv A outer s H E) (defBody st) t
theorem self_is {H:Hp}{σ:St}{a dx C l m:Addr}{Q:VK}{g:Str}{z:Addr} (e:σ[0]?=some (some (.ref a))) (hC:BrdC K C) (h:H a=some (.ins C dx (brdF l m))) (hg:(g = "done" /\z=l)∨(g = "undone" /\z=m)) (q:Q (.ref z) H):tSelf K g σ H Q:=by
 refine⟨_,e,a,C,dx,_,.ref z,rfl,h,hC.2.1,?_,?_,q⟩
 ·rcases hg with ⟨rfl,rfl⟩ | ⟨rfl,rfl⟩
  ·exact hC.2.2.1
  ·exact hC.2.2.2
 ·rcases hg with ⟨rfl,rfl⟩ | ⟨rfl,rfl⟩
  ·rfl
  ·rfl
theorem sizes_ok (F:Fun K x qual st f fd) (S:FnScope ["self"] ["self"] (defScope st)) (hB:BodyT P w K mg base ["self"] qual st f k (tSizes K)):FnOk P w K mg base (CX1 P w) (k+1) f fd ["self"] (spR K cls (wRep K) bSizes):=by
 refine F.okX S (fun vs H Q E h=>by obtain⟨v,_,_,_,rfl,_⟩:=h; rfl) (fun cdv A outer s H vs Q E hr h R=>⟨_,hB cdv A outer s H E hr,?_⟩) (fun z=>by injection z with z; exact absurd z (by decide +kernel))
 obtain⟨v,B,x,y,rfl,L,hb,q⟩:=h
 obtain⟨a,dx,l,m,C,xs,ys,rfl,hC,h1,h2,h3,h4,h5,⟨h6,h7,h8⟩,⟨h9,h10,h11⟩,_⟩:=hb.parts
 refine self_is rfl hC h1 (.inl ⟨rfl,rfl⟩) ⟨l,xs,rfl,.inl (.of h3),self_is rfl hC h1 (.inr ⟨rfl,rfl⟩) ⟨m,ys,rfl,.inl (.of h4),by show (2:Nat)<=_; exact sm10 (by decide),fun p hp=>?_⟩⟩
 refine q _ _ (.upd hp) (rep_tup (hid_new L hp) ?_) ⟨by show (2:Nat)<=_; decide,trivial,trivial,trivial⟩
 rw [← h6.length,← h9.length]
 exact .cons rep_int (.cons rep_int .nil)
theorem lastB {x:List Dt}{xs:List V}{H:Hp}{d:Dt} (r:Reps K H x xs) (h:x.getLast?=some d):∃u,atI xs (-1)=some u/\Rep K H d u:=by
 have hl:=r.length
 have hx:x≠[]:=fun z=>by rw [z] at h; cases h
 have hp:0<x.length:=List.length_pos_iff.mpr hx
 have hlt:x.length - 1<xs.length:=by omega
 have hg:xs[x.length - 1]?=some (xs[x.length - 1]'hlt):=List.getElem?_eq_getElem hlt
 obtain⟨d',e1,e2⟩:=r.get hg
 rw [List.getLast?_eq_getElem?,e1] at h
 cases h
 refine⟨_,?_,e2⟩
 unfold atI
 rw [show ixN xs.length (-1)=some (x.length - 1) by
  unfold ixN
  rw [if_neg (by omega),if_pos (by omega)]
  congr 1
  omega]
 exact hg
theorem sheet_ok (F:Fun K x qual st f fd) (S:FnScope ["self"] ["self"] (defScope st)) (hB:BodyT P w K mg base ["self"] qual st f k (tSheet K)):FnOk P w K mg base (CX1 P w) (k+1) f fd ["self"] (spR K cls wDic bSheet):=by
 refine F.okX S (fun vs H Q E h=>by obtain⟨v,_,_,_,rfl,_⟩:=h; rfl) (fun cdv A outer s H vs Q E hr h R=>⟨_,hB cdv A outer s H E hr,?_⟩) (fun z=>by injection z with z; exact absurd z (by decide +kernel))
 obtain⟨v,B,x,y,rfl,L,hb,q⟩:=h
 obtain⟨a,dx,l,m,C,xs,ys,rfl,hC,h1,h2,h3,h4,h5,⟨h6,h7,h8⟩,⟨h9,h10,h11⟩,_⟩:=hb.parts
 have hl:=h6.length
 refine self_is rfl hC h1 (.inl ⟨rfl,rfl⟩) ⟨l,xs,rfl,.inl (.of h3),_,_,rfl,rfl,_,rfl,?_⟩
 unfold bSheet at q
 cases hx:x.getLast? with
 |none=>
  have e:x=[]:=List.getLast?_eq_none_iff.mp hx
  subst e
  rw [hx] at q
  rw [show decide ((0:Int)<(xs.length:Int))=false by rw [← hl]; rfl]
  simp only [Bool.false_eq_true,if_false]
  intro p hp
  exact q _ _ (.upd hp) ⟨[],p,rfl,rfl,hp,upd_same⟩ ⟨by simp,fun _ z=>nomatch z⟩
 |some d=>
  rw [hx] at q
  have hp:0<x.length:=List.length_pos_iff.mpr fun z=>by rw [z] at hx; cases hx
  rw [show decide ((0:Int)<(xs.length:Int))=true by rw [decide_eq_true_eq]; omega]
  simp only [if_true]
  obtain⟨u,hu,ru⟩:=lastB h6 hx
  refine(show tSelf K "done" [some (.ref a)] H (fun z H1=>∃i,V.int 1=.int i/\rIxL K z (.int (-i)) H1 fun z2 H2=>rIxT K z2 (.int 1) H2 fun z3 H3=>rDcp [z3] H3 Q) from self_is rfl hC h1 (.inl ⟨rfl,rfl⟩) ⟨1,rfl,l,xs,_,u,rfl,rfl,.of h3,hu,?_⟩)
  have hz:sm d:=sms_mem h7 (List.mem_of_getLast? hx)
  unfold shOf at q
  split at q
  ·rename_i e; cases e
  ·rename_i s' ks e
   cases e
   obtain⟨p,zs,rfl,r1,r2⟩:=repT ru
   obtain⟨v1,v2,rfl,r3,r4⟩:=reps2 r2
   obtain⟨p2,o2,rfl,_,hH⟩:=repDc r4
   refine⟨p,_,1,.ref p2,rfl,rfl,hid_same.seqT r1,rfl,p2,dkv ks,rfl,.inr ⟨o2,hH⟩,fun p' hp'=>?_⟩
   exact q _ _ (.upd hp') ⟨ks,p',rfl,rfl,hp',upd_same⟩ hz.2.2.1
  ·exact(show False from q).elim
end
section
variable {P:Program}{w:World}{K:PySem.W.Frag}{mg:Str->Option Value}{base:Heap}{cls:Nat->Addr}{x qual:Str}{st:Stmt}{f:Addr}{fd:FuncData}{k:Nat}
theorem do_ok (F:Fun K x qual st f fd) (S:FnScope ["self","step","behind"] ["self","step","behind"] (defScope st)) (hB:BodyT P w K mg base ["self","step","behind"] qual st f k (tDo K)):FnOk P w K mg base (CX1 P w) (k+1) f fd ["self","step","behind"] (spB K cls fun _=>bDo):=by
 have two:∀{vs H Q E},(spB K cls fun _=>bDo) vs H Q E->∃v w1 w2,vs=[v,w1,w2]:=fun {vs H Q E} h=>by
  obtain⟨p,v,ws,A,x,y,ds,rfl,_,L,hb,r,z,q⟩:=h
  simp only [bDo] at q
  split at q
  ·obtain⟨w1,w2,rfl,_⟩:=reps2 r
   exact⟨v,w1,w2,rfl⟩
  ·exact(show False from q).elim
 refine F.okX S (fun vs H Q E h=>by obtain⟨v,w1,w2,rfl⟩:=two h; rfl) (fun cdv A outer s H vs Q E hr h R=>⟨_,hB cdv A outer s H E hr,?_⟩) (fun z=>by injection z with z; exact absurd z (by decide +kernel))
 obtain⟨p0,v,ws,B,x,y,ds,rfl,_,L,hb,r,z,q⟩:=h
 obtain⟨a,dx,l,m,C,xs,ys,rfl,hC,h1,h2,h3,h4,h5,⟨h6,h7,h8⟩,⟨h9,h10,h11⟩,aB,dB,lB,mB⟩:=hb.parts
 simp only [bDo] at q
 split at q
 rotate_left
 ·exact(show False from q).elim
 rename_i sd bd
 obtain⟨w1,w2,rfl,r1,r2⟩:=reps2 r
 unfold stepB at q
 split at q
 rotate_left
 ·exact(show False from q).elim
 rename_i hl
 have hlen:=h6.length
 refine(show tSelf K "done" [some (.ref a),some w1,some w2] H (fun z H1=>tyV K "list" z H1/\tVar 1 [some (.ref a),some w1,some w2] H1 fun u1 H1=>tVar 2 [some (.ref a),some w1,some w2] H1 fun u2 H1=>[u1,u2].length<=sizeLine/\∀p,H1 p=none->rAppend z [.ref p] (upd H1 p (.tup [u1,u2])) fun _ H3=>tSelf K "undone" [some (.ref a),some w1,some w2] H3 fun z2 H4=>tyV K "list" z2 H4/\rClear z2 [] H4 fun _ H5=>Q .non H5) from
  self_is rfl hC h1 (.inl ⟨rfl,rfl⟩) ⟨.inl ⟨rfl,xs,.of h3⟩,w1,rfl,w2,rfl,by show (2:Nat)<=_; exact sm10 (by decide),fun p hp=>?_⟩)
 have nap:a≠p:=ne_of_none h1 hp
 have ndp:dx≠p:=ne_of_none h2 hp
 have nlp:l≠p:=ne_of_none h3 hp
 have nmp:m≠p:=ne_of_none h4 hp
 have nal:a≠l:=ne_of h1 h3 (by simp)
 have nam:a≠m:=ne_of h1 h4 (by simp)
 have ndl:dx≠l:=ne_of h2 h3 (by simp)
 have ndm:dx≠m:=ne_of h2 h4 (by simp)
 refine⟨l,xs,.ref p,rfl,rfl,by rw [upd_ne nlp]; exact h3,Nat.lt_of_lt_of_le (by omega:xs.length<10000) (by decide),?_⟩
 have g1:upd (upd H p (.tup [w1,w2])) l (.lst (xs++[.ref p])) a=some (.ins C dx (brdF l m)):=by rw [upd_ne nal,upd_ne nap]; exact h1
 have g4:upd (upd H p (.tup [w1,w2])) l (.lst (xs++[.ref p])) m=some (.lst ys):=by rw [upd_ne (Ne.symm h5),upd_ne nmp]; exact h4
 refine self_is rfl hC g1 (.inr ⟨rfl,rfl⟩) ⟨.inl ⟨rfl,ys,.of g4⟩,m,ys,rfl,rfl,g4,?_⟩
 rw [fp_brd h1] at q
 have keep:∀b,b≠l->b≠m->b≠p->upd (upd (upd H p (.tup [w1,w2])) l (.lst (xs++[.ref p]))) m (.lst []) b=H b:=fun b z1 z2 z3=>by rw [upd_ne z2,upd_ne z1,upd_ne z3]
 have gA:upd (upd (upd H p (.tup [w1,w2])) l (.lst (xs++[.ref p]))) m (.lst []) a=some (.ins C dx (brdF l m)):=by rw [keep a nal nam nap]; exact h1
 have pB:p∉B:=L.fresh hp
 have sB:Same (hid H B) (hid (upd (upd (upd H p (.tup [w1,w2])) l (.lst (xs++[.ref p]))) m (.lst [])) B):=fun b o e=>by
  obtain⟨e1,e2⟩:=of_hid e
  rw [hid_ne e1,keep b (fun z=>e1 (z ▸ lB)) (fun z=>e1 (z ▸ mB)) (ne_of_none e2 hp)]
  exact e2
 refine q .non _ (fun b o e=>?_) ⟨⟨a,dx,l,m,C,xs++[.ref p],[],rfl,hC,gA,?_,?_,?_,h5,⟨(h6.mono sB).append (.cons (rep_tup ?_ ((Reps.cons r1 (.cons r2 .nil)).mono sB)) .nil),sms_append h7 ⟨⟨by show (2:Nat)<=_; decide,z⟩,trivial⟩,by simp; omega⟩,.nil,trivial,by simp⟩,?_⟩ ?_ rep_non trivial
 ·obtain⟨e1,e2⟩:=of_hid e
  simp only [List.mem_cons,List.not_mem_nil,or_false,not_or] at e1
  rw [keep b e1.2.2.1 e1.2.2.2 (ne_of_none e2 hp)]
  exact e2
 ·rw [keep dx ndl ndm ndp]; exact h2
 ·rw [upd_ne h5,upd_same]
 ·rw [upd_same]
 ·rw [hid_ne pB,upd_ne (Ne.symm nmp),upd_ne (Ne.symm nlp),upd_same]
 ·rw [fp_brd gA]
  intro b hb
  simp only [List.mem_cons,List.not_mem_nil,or_false] at hb
  rcases hb with rfl | rfl | rfl | rfl <;> assumption
 ·rw [fp_brd gA]
noncomputable def tPre (K:PySem.W.Frag) (cls:Nat->Addr) (E:XK):List SM->TS->TS
 | [],t=>t
 |a::r,t=>tSeq (sM K cls E a) (tPre K cls E r t)
noncomputable def PreOk (K:PySem.W.Frag) (cls:Nat->Addr) (E:XK) (Hin:Hp) (A₀:List Addr) (m:M Fl) (t:St->Hp->Prop):Prop:=match m with
 |.ok (.nx ρ)=>∀σ H,Stt K Hin A₀ ρ σ H->t σ H
 |.ex c=>∀H,Same Hin H->E (.ref (cls c)) none H
 |_=>False
theorem pre_of {E:XK}{Hin:Hp}{A₀:List Addr}{t:TS}{D:Ends}:∀{pre:List SM}{ρ:Rho}{σ:St}{H:Hp},Stt K Hin A₀ ρ σ H->PreOk K cls E Hin A₀ (sSeqs pre ρ) (t D)->tPre K cls E pre t D σ H
 | [],ρ,σ,H,S,q=>q σ H S
 |a::r,ρ,σ,H,S,q=>by
  refine⟨Hin,A₀,ρ,S,?_⟩
  have q:PreOk K cls E Hin A₀ (sSeq a (sSeqs r) ρ) (t D):=q
  unfold sSeq at q
  cases hm:a ρ with
  |ok fl=>
   rw [hm] at q
   cases fl with
   |nx ρ'=>exact fun σ' H' S'=>pre_of S' q
   |bk ρ'=>exact(show False from q).elim
   |ct ρ'=>exact(show False from q).elim
   |rt d=>exact(show False from q).elim
  |ex c=>rw [hm] at q; exact q
  |bad=>rw [hm] at q; exact(show False from q).elim
noncomputable abbrev tDeed (K:PySem.W.Frag) (cls:Nat->Addr) (E:XK) (pre:List SM) (fs:Rho->M (List Dt)) (e:Rho->M Dt):TS:=
 tPre K cls E pre (tSeq (tDrop (tMthB K "do_step" (spB K cls fun _=>bDo) E 0 (tMA K cls E fs))) (tRet (tM K cls E e)))
theorem Fit.drop0 {O A:List Addr}{ρ:Rho}{σ:St}{H H':Hp}{b0:Bd} (F:Fit K O A ρ σ H) (h0:ρ[0]?=some b0) (L:Liv H' A) (hs:Same (hid H A) (hid H' A)) (ho:∀a∈O,H' a=H a) (hb:∀(i:Nat) p x y,i≠0->ρ[i]?≠some (.bor p x y)):Fit K O A (ρ.set 0 .no) σ H':=by
 have at_:∀{i:Nat} {b},(ρ.set 0 .no)[i]?=some b->(i=0/\b=.no)∨(i≠0/\ρ[i]?=some b):=fun {i b} e=>by
  by_cases hi:i=0
  ·subst hi
   have hlt:0<ρ.length:=(List.getElem?_eq_some_iff.mp h0).1
   rw [List.getElem?_set_self hlt] at e
   exact .inl ⟨rfl,(Option.some.inj e).symm⟩
  ·rw [List.getElem?_set_ne (Ne.symm hi)] at e
   exact .inr ⟨hi,e⟩
 have fe:∀{i:Nat} {b v},ρ[i]?=some b->isOw b=true->σ[i]?=some (some v)->fpOf H' v b=fpOf H v b:=fun {i b v} e o e'=>fp_eq fun a ea=>by
  obtain⟨v1,q1,q2,q3⟩:=F.ow i b e o
  rw [e'] at q1
  cases q1
  obtain⟨a',z,ha⟩:=q2.fst
  rw [ea] at z
  cases z
  exact ho a (q3 a ha)
 refine⟨by simp [F.len],L,F.sub,fun i d e=>?_,fun i b e o=>?_,fun i j b c v w hij e1 e2 o1 o2 e3 e4=>?_,fun i p x y e=>?_⟩
 ·rcases at_ e with ⟨_,z⟩ | ⟨_,e'⟩
  ·cases z
  ·obtain⟨v,q1,q2,q3⟩:=F.val i d e'
   exact⟨v,q1,q2.mono hs,q3⟩
 ·rcases at_ e with ⟨_,z⟩ | ⟨_,e'⟩
  ·rw [z] at o; cases o
  ·obtain⟨v,q1,q2,q3⟩:=F.ow i b e' o
   refine⟨v,q1,q2.off (fun a ha=>ho a (q3 a ha)) hs,?_⟩
   rw [fe e' o q1]
   exact q3
 ·rcases at_ e1 with ⟨_,z⟩ | ⟨_,e1'⟩
  ·rw [z] at o1; cases o1
  ·rcases at_ e2 with ⟨_,z⟩ | ⟨_,e2'⟩
   ·rw [z] at o2; cases o2
   ·rw [fe e1' o1 e3,fe e2' o2 e4]
    exact F.apart i j b c v w hij e1' e2' o1 o2 e3 e4
 ·rcases at_ e with ⟨_,z⟩ | ⟨hi,e'⟩
  ·cases z
  ·exact(hb i p x y hi e').elim
theorem fp_c {H:Hp}{v:V}{x y x' y':List Dt}:fpOf H v (.brd x y)=fpOf H v (.brd x' y'):=by cases v <;> rfl
theorem BrdAt.fp {A:List Addr}{H H':Hp}{v:V}{x y:List Dt} (h:BrdAt K A H v x y) (s:Same H H'):fpOf H' v (.brd x y)=fpOf H v (.brd x y):=fp_eq fun a e=>by
 obtain⟨a',e',ha⟩:=h.1.fst
 rw [e] at e'
 cases e'
 exact same_at s (h.1.live ha)
noncomputable def Keep0 (s:SM):Prop:=∀ρ ρ',s ρ=.ok (.nx ρ')->ρ'[0]?=ρ[0]?/\∀(i:Nat) p x y,ρ'[i]?=some (.bor p x y)->ρ[i]?=some (.bor p x y)
theorem keep_drop {g:Rho->M Dt}:Keep0 (sDrop g):=fun ρ ρ' h=>by
 unfold sDrop at h
 cases hg:g ρ <;> rw [hg] at h <;> cases h
 exact⟨rfl,fun _ _ _ _ z=>z⟩
theorem keep_asg {g:Rho->M Dt}{i:Nat}:Keep0 (sAsg g (gNm (i+1))):=fun ρ ρ' h=>by
 unfold sAsg at h
 cases hg:g ρ with
 |ex c=>rw [hg] at h; cases h
 |bad=>rw [hg] at h; cases h
 |ok d=>
  rw [hg] at h
  have h:M.ok (Fl.nx (ρ.set (i+1) (.val d)))=.ok (.nx ρ'):=h
  cases h
  refine⟨by rw [List.getElem?_set_ne (by omega)],fun j p x y z=>?_⟩
  by_cases hj:i+1=j
  ·subst hj
   rw [List.getElem?_set] at z
   simp only [if_true] at z
   split at z <;> cases z
  ·rw [List.getElem?_set_ne hj] at z
   exact z
theorem keep_seqs:∀{pre:List SM},(∀s∈pre,Keep0 s)->Keep0 (sSeqs pre)
 | [],_=>fun ρ ρ' h=>by cases h; exact⟨rfl,fun _ _ _ _ z=>z⟩
 |a::r,hk=>fun ρ ρ' h=>by
  have h:sSeq a (sSeqs r) ρ=.ok (.nx ρ'):=h
  unfold sSeq at h
  cases ha:a ρ with
  |ex c=>rw [ha] at h; cases h
  |bad=>rw [ha] at h; cases h
  |ok fl=>
   rw [ha] at h
   cases fl with
   |nx ρ1=>
    obtain⟨e1,e2⟩:=hk a List.mem_cons_self ρ ρ1 ha
    obtain⟨e3,e4⟩:=keep_seqs (fun s hs=>hk s (List.mem_cons_of_mem _ hs)) ρ1 ρ' h
    exact⟨e3.trans e1,fun i p x y z=>e2 i p x y (e4 i p x y z)⟩
   |bk _=>cases h
   |ct _=>cases h
   |rt _=>cases h
theorem deed_ok {N ps:List Str}{np n:Nat}{pre:List SM}{fs:Rho->M (List Dt)}{e:Rho->M Dt} (F:Fun K x qual st f fd) (S:FnScope N ps (defScope st)) (hp:ps.length=np+1) (hn:N.length=np+1+n) (hk:∀s∈pre,Keep0 s)
  (hB:∀(cdv:Value) (A:Around) (outer:List Env) (s:Shared) (H:Hp) (E:XK),Room k (A.deeper (envOfC qual (defScope st) s.heap.objs.size f cdv))->
   Rz (cxOf (CX1 P w) P w K mg base N qual (defScope st) f cdv A outer s H E) E->PSs (cxOf (CX1 P w) P w K mg base N qual (defScope st) f cdv A outer s H E) (defBody st) (tDeed K cls E pre fs e))
  (hf:ps=[lawS]->(defScope st).names.lookup lawS=some .local:=by first | assumption | decide +kernel):FnOk P w K mg base (CX1 P w) (k+1) f fd ps (spB K cls (fnB np n (sSeqs pre) fs e)):=by
 have len:∀vs H Q E,spB K cls (fnB np n (sSeqs pre) fs e) vs H Q E->vs.length=np+1:=fun vs H Q E h_=>by
  obtain⟨p,v,ws,A,x,y,ds,e1,_,L,hb,r,z,q⟩:=h_
  subst e1
  unfold fnB at q
  split at q
  ·rename_i hl
   rw [List.length_cons,← r.length,hl]
  ·exact(show False from q).elim
 refine F.okX S (fun vs H Q E h=>by rw [hp]; exact len vs H Q E h) (fun cdv A outer s H vs Q E hr h R=>⟨_,hB cdv A outer s H E hr R,?_⟩) hf
 have hv:=len vs H Q E h
 obtain⟨p,v,ws,B,x,y,ds,rfl,hvp,L,hb,r,z,q⟩:=h
 unfold fnB at q
 split at q
 rotate_left
 ·exact(show False from q).elim
 rename_i hl
 have hst:start N (v::ws)=some v::(ws.map some++List.replicate n none):=by
  unfold start
  rw [hn,hv,Nat.add_sub_cancel_left]
  rfl
 rw [hst]
 have F0:=fn_start L r z n
 have noF:∀(i:Nat) p x y,(ds.map Bd.val++List.replicate n Bd.no)[i]?≠some (.bor p x y):=fun i p x y e=>by
  rcases List.mem_append.mp (List.mem_of_getElem? e) with e | e
  ·obtain⟨d,_,z⟩:=List.mem_map.mp e
   cases z
  ·have:=List.eq_of_mem_replicate e
   cases this
 have Fb:Fit K [] B (.bor (some p) x y::(ds.map Bd.val++List.replicate n .no)) (some v::(ws.map some++List.replicate n none)) H:=by
  refine⟨by simp [r.length],L,(fun a z=>nomatch z),fun i d e=>?_,fun i b e o=>?_,fun i j b c v w hij e1 e2 o1 o2 e3 e4=>?_,fun i p' x' y' e=>?_⟩
  ·cases i with
   |zero=>cases e
   |succ i=>exact F0.val i d (by simpa using e)
  ·cases i with
   |zero=>cases e; cases o
   |succ i=>exact F0.ow i b (by simpa using e) o
  ·cases i with
   |zero=>cases e1; cases o1
   |succ i=>
    cases j with
    |zero=>cases e2; cases o2
    |succ j=>exact F0.apart i j b c v w (by omega) (by simpa using e1) (by simpa using e2) o1 o2 (by simpa using e3) (by simpa using e4)
  ·cases i with
   |zero=>cases e; exact⟨v,rfl,fun a ha=>by cases ha; exact hvp,hb.1,fun a ha=>⟨hb.2 a ha,fun z=>nomatch z⟩⟩
   |succ i=>exact F0.bo i p' x' y' (by simpa using e)
 refine pre_of (Hin:=H) (A₀:=B) (ρ:=.bor (some p) x y::(ds.map Bd.val++List.replicate n .no)) ⟨[],.refl _,L,(fun a z=>nomatch z),Fb⟩ ?_
 cases hm:sSeqs pre (.bor (some p) x y::(ds.map Bd.val++List.replicate n .no)) with
 |bad=>rw [hm] at q; exact(show False from q).elim
 |ex c=>rw [hm] at q; exact q
 |ok fl=>
  rw [hm] at q
  cases fl with
  |bk ρ=>exact(show False from q).elim
  |ct ρ=>exact(show False from q).elim
  |rt d=>exact(show False from q).elim
  |nx ρ=>
   obtain⟨h0,h1⟩:=keep_seqs hk _ _ hm
   have h0:ρ[0]?=some (.bor (some p) x y):=h0
   have hb3:∀(i:Nat) p x y,i≠0->ρ[i]?≠some (.bor p x y):=fun i p' x' y' hi e=>by
    have e':=h1 i p' x' y' e
    cases i with
    |zero=>exact hi rfl
    |succ i=>exact noF i p' x' y' (by simpa using e')
   rintro σ1 H1 ⟨os,s1,L1,fr,F1⟩
   obtain⟨v1,g1,gp,g2,g3⟩:=F1.bo 0 _ x y h0
   obtain rfl:v1=v:=(gp p rfl).trans hvp.symm
   have hbA:BrdAt K (os++B) H1 v1 x y:=⟨g2,fun a ha=>(g3 a ha).1⟩
   obtain⟨a,C,dx,fs',z1,z2,z3,z4⟩:=hbA.look (m:="do_step") (by decide +kernel) (by decide +kernel)
   have q:Rg cls E (deB fs e ρ ρ[0]?) H _:=q
   rw [h0] at q
   have q:Rg cls E ((fs ρ).bd fun ds=>(bDo x y ds).bd fun r=>(e (ρ.set 0 .no)).calm.bd fun d=>.ok (d,r.2.1,r.2.2)) H _:=q
   refine⟨v1,a,C,dx,fs',g1,z1,z2,z3,z4,os,os++B,ρ,F1,?_⟩
   refine Rg.heap (Rg.bind q fun ds' _ q2=>q2) s1 fun ds' _ q2=>?_
   intro vs H2 s2 r2 zz2
   have hb2:=hbA.mono s2
   refine⟨p,v1,vs,os++B,x,y,ds',rfl,hvp,F1.liv.mono s2,hb2,r2,zz2,?_⟩
   refine Rg.heap (Rg.bind q2 fun r _ q3=>q3) (s1.trans s2) fun r _ q3=>?_
   intro u H3 s3 b3 f3 _ _
   have e21:fpOf H2 v1 (.brd x y)=fpOf H1 v1 (.brd x y):=hbA.fp s2
   have e20:fpOf H2 v1 (.brd x y)=fpOf H v1 (.brd x y):=hb.fp (s1.trans s2)
   have k3:∀b,b∉fpOf H2 v1 (.brd x y)->H2 b≠none->H3 b=H2 b:=fun b hb hn=>by
    cases ee:H2 b with
    |none=>exact(hn ee).elim
    |some o=>exact s3 b o (by rw [hid_ne hb]; exact ee)
   have sub3:∀b,b∈fpOf H2 v1 (.brd x y)->b∈os++B:=fun b hb=>hb2.2 b hb
   have L3:Liv H3 (os++B):=fun b hb=>by
    by_cases hf:b∈fpOf H2 v1 (.brd x y)
    ·refine b3.1.live (a:=b) ?_
     rw [fp_c (x':=x) (y':=y),f3]
     exact hf
    ·rw [k3 b hf (F1.liv.mono s2 b hb)]
     exact F1.liv.mono s2 b hb
   have hs3:Same (hid H2 (os++B)) (hid H3 (os++B)):=fun b o ee=>by
    obtain⟨e1,e2⟩:=of_hid ee
    rw [hid_ne e1,k3 b (fun z=>e1 (sub3 b z)) (by rw [e2]; simp)]
    exact e2
   have ho3:∀b∈os,H3 b=H2 b:=fun b hb=>k3 b (fun z=>by rw [e21] at z; exact(g3 b z).2 hb) (F1.liv.mono s2 b (List.mem_append_left _ hb))
   refine⟨os,os++B,ρ.set 0 .no,(F1.mono s2).drop0 h0 L3 hs3 ho3 hb3,?_⟩
   cases he:e (ρ.set 0 .no) with
   |bad=>rw [he] at q3; exact(show False from q3).elim
   |ex c=>rw [he] at q3; exact(show False from q3).elim
   |ok d=>
    rw [he] at q3
    intro v4 H4 s4 r4 z4
    have sB:Same (hid H3 (os++B)) (hid H4 B):=fun b o ee=>hid_app b o (s4.hid _ b o ee)
    refine q3 v4 H4 (fun b o ee=>?_) ⟨b3.1.off (fun b hb=>same_at s4 (b3.1.live hb)) sB,?_⟩ ?_ (r4.mono hid_app) z4
    ·obtain⟨e1,e2⟩:=of_hid ee
     have e2':=s2 b o (s1 b o e2)
     refine s4 b o ?_
     rw [k3 b (by rw [e20]; exact e1) (by rw [e2']; simp)]
     exact e2'
    ·intro b hb'
     have e4:fpOf H4 v1 (.brd r.2.1 r.2.2)=fpOf H v1 (.brd x y):=by rw [b3.fp s4,fp_c (x':=x) (y':=y),f3,e20]
     rw [e4] at hb'
     exact hb.2 b hb'
    ·show fpOf H4 v1 (.brd x y)=_
     rw [fp_c (x':=r.2.1) (y':=r.2.2),b3.fp s4,fp_c (x':=x) (y':=y),f3,e20]
end
noncomputable def spI (K:PySem.W.Frag):Sp:=fun vs H Q E=>∃a dx C,vs=[.ref a]/\BrdC K C/\H a=some (.ins C dx [])/\H dx=some (.own a)/\
 ∀l m H',H l=none->H m=none->l≠m->H' a=some (.ins C dx (brdF l m))->H' l=some (.lst [])->H' m=some (.lst [])->(∀b,b≠a->b≠l->b≠m->H' b=H b)->Q .non H'
noncomputable def tNewB (K:PySem.W.Frag):TE:=fun σ H Q=>∀a dx l m C H',BrdC K C->(∀b∈[a,dx,l,m],H b=none)->[a,dx,l,m].Nodup->H' a=some (.ins C dx (brdF l m))->H' dx=some (.own a)->H' l=some (.lst [])->H' m=some (.lst [])->(∀b,b∉[a,dx,l,m]->H' b=H b)->Q (.ref a) H'
noncomputable def CalI (P:Program) (w:World) (K:PySem.W.Frag) (mg:Str->Option Value) (base:Heap) (k:Nat):Prop:=
 ∃C f fd,BrdC K C/\mg "Board" = some (.ref C)/\Mk K C f/\FnOk P w K mg base (CX1 P w) k f fd ["self"] (spI K)/\Binds K fd ["self"] []
section
variable {P:Program}{w:World}{K:PySem.W.Frag}{mg:Str->Option Value}{base:Heap}{cls:Nat->Addr}{x qual:Str}{st:Stmt}{f:Addr}{fd:FuncData}{k:Nat}
theorem init_ok (F:Fun K x qual st f fd) (S:FnScope ["self"] ["self"] (defScope st)) (hB:BodyT P w K mg base ["self"] qual st f k (tInit K)):FnOk P w K mg base (CX1 P w) (k+1) f fd ["self"] (spI K):=by
 refine F.okX S (fun vs H Q E h=>by obtain⟨a,_,_,rfl,_⟩:=h; rfl) (fun cdv A outer s H vs Q E hr h R=>⟨_,hB cdv A outer s H E hr,?_⟩) (fun z=>by injection z with z; exact absurd z (by decide +kernel))
 obtain⟨a,dx,C,rfl,hC,h1,h2,q⟩:=h
 refine⟨Nat.zero_le _,fun l hl=>⟨_,rfl,a,C,dx,[],rfl,by rw [upd_ne (ne_of_none h1 hl)]; exact h1,hC.2.1,hC.2.2.1,by decide,Nat.zero_le _,fun m hm=>⟨_,rfl,a,C,dx,[("done",.ref l)],rfl,?_,hC.2.1,hC.2.2.2,by show (1:Nat)<1000; decide,?_⟩⟩⟩
 ·have nam:a≠m:=fun z=>by rw [← z,upd_same] at hm; cases hm
  rw [upd_ne nam,upd_same]
  rfl
 ·have nam:m≠a:=fun z=>by rw [z,upd_same] at hm; cases hm
  have nla:l≠a:=(ne_of_none h1 hl).symm
  rw [upd_ne nam] at hm
  have nml:m≠l:=fun z=>by rw [z,upd_same] at hm; cases hm
  rw [upd_ne nml] at hm
  refine q l m _ hl hm (Ne.symm nml) ?_ ?_ ?_ fun b z1 z2 z3=>?_
  ·rw [upd_same]; rfl
  ·rw [upd_ne nla,upd_ne (Ne.symm nml),upd_ne nla,upd_same]
  ·rw [upd_ne nam,upd_same]
  ·rw [upd_ne z1,upd_ne z3,upd_ne z1,upd_ne z2]
end
section
variable {K:PySem.W.Frag}{Hin:Hp}{A₀ os O A:List Addr}{ρ:Rho}{σ:St}{H H':Hp}{i:Nat}{a dx l m C:Addr}
theorem Sto.newB (S:Sto K Hin A₀ os ρ σ H) (s:Same H H') (hC:BrdC K C) (hn:∀b∈[a,dx,l,m],H b=none) (nd:[a,dx,l,m].Nodup) (h1:H' a=some (.ins C dx (brdF l m))) (h2:H' dx=some (.own a)) (h3:H' l=some (.lst [])) (h4:H' m=some (.lst [])) :
  Sto K Hin A₀ ([a,dx,l,m]++os) (ρ.set i (.brd [] [])) (σ.set i (some (.ref a))) H':=by
 obtain⟨s0,L0,fr,F⟩:=S
 have nin:∀{b},H b≠none->b∉[a,dx,l,m]:=fun {b} h z=>h (hn b z)
 have hid':Same (hid H (os++A₀)) (hid H' (([a,dx,l,m]++os)++A₀)):=fun b o e=>by
  obtain⟨e1,e2⟩:=of_hid e
  rw [List.append_assoc,hid_ne fun z=>(List.mem_append.mp z).elim (nin (by rw [e2]; simp)) e1]
  exact s b o e2
 refine⟨s0.trans s,L0,fun b hb=>?_,F.set (fun b hb=>?_) (fun b hb=>List.mem_append_left _ hb) hid' (fun b hb _=>⟨List.mem_append_right _ hb,same_at s (F.liv b (List.mem_append_left _ hb))⟩) (fun b hb hn'=>⟨?_,?_,same_at s (F.liv b hb)⟩) (.inr ⟨?_,fun b hb=>?_⟩)⟩
 ·rcases List.mem_append.mp hb with z | z
  ·cases e:Hin b with
   |none=>rfl
   |some o=>have:=s0 b o e; rw [hn b z] at this; cases this
  ·exact fr b z
 ·rw [List.append_assoc] at hb
  rcases List.mem_append.mp hb with z | z
  ·simp only [List.mem_cons,List.not_mem_nil,or_false] at z
   rcases z with rfl | rfl | rfl | rfl <;> simp [*]
  ·exact F.liv.mono s b z
 ·rw [List.append_assoc]; exact List.mem_append_right _ hb
 ·intro z
  rcases List.mem_append.mp z with z | z
  ·exact nin (F.liv b hb) z
  ·exact hn' z
 ·refine⟨a,dx,l,m,C,[],[],rfl,hC,h1,h2,h3,h4,?_,⟨.nil,trivial,by simp⟩,.nil,trivial,by simp⟩
  intro z
  simp [z] at nd
 ·rw [fp_brd h1] at hb
  exact⟨List.mem_append_left _ hb,.inl fun z=>F.liv b (List.mem_append_left _ z) (hn b hb)⟩
end
section
variable {X:Cx}{cls:Nat->Addr}{E:XK}{a b c o e:Expr}{f g h:Rho->M Dt}{pos apos spos:Pos}{i j k:Nat}{m:Str}{ps:List Str}{es:List Expr}{fs:Rho->M (List Dt)}
theorem pe_newB {p:Pos} (C:CalI X.prog X.w X.K X.mg X.base k) (hr:Room (k+1) X.A) (hx:Passes (CX1 X.prog X.w) X E) (hg:Gl X "Board"):PE X (.Call (.Name "Board" p) [] [] pos) (tNewB X.K):=by
 obtain⟨C,f,fd,hC,hm,M,F,hb⟩:=C
 refine(pe_make0 (E:=E) (dvs:=[]) (ds:=[]) M F hr hg hm hb .nil hx).imp fun σ H Q q=>?_
 refine fun x dx hx' hdx hne=>⟨x,dx,C,rfl,hC,upd_same,by rw [upd_ne hne,upd_same],fun l m H' hl hm' hlm h1 h3 h4 hk=>⟨rfl,?_⟩⟩
 have nlx:l≠x:=fun z=>by rw [z,upd_same] at hl; cases hl
 have nmx:m≠x:=fun z=>by rw [z,upd_same] at hm'; cases hm'
 rw [upd_ne nlx] at hl
 rw [upd_ne nmx] at hm'
 have nld:l≠dx:=fun z=>by rw [z,upd_same] at hl; cases hl
 have nmd:m≠dx:=fun z=>by rw [z,upd_same] at hm'; cases hm'
 rw [upd_ne nld] at hl
 rw [upd_ne nmd] at hm'
 refine q x dx l m C H' hC (fun b hb=>?_) (by simp [Ne.symm hne,Ne.symm nlx,Ne.symm nmx,Ne.symm nld,Ne.symm nmd,hlm]) h1 ?_ h3 h4 fun b hb=>?_
 ·simp only [List.mem_cons,List.not_mem_nil,or_false] at hb
  rcases hb with rfl | rfl | rfl | rfl <;> assumption
 ·rw [hk dx hne (Ne.symm nld) (Ne.symm nmd),upd_ne hne,upd_same]
 ·simp only [List.mem_cons,List.not_mem_nil,or_false,not_or] at hb
  rw [hk b hb.1 hb.2.2.1 hb.2.2.2,upd_ne hb.1,upd_ne hb.2.1]
theorem newB_same {H H':Hp}{ls:List Addr} (hn:∀b∈ls,H b=none) (hk:∀b,b∉ls->H' b=H b):Same H H':=fun b o e=>by
 rw [hk b fun z=>by rw [hn b z] at e; cases e]
 exact e
theorem sv_brd {x:Str}{p pos':Pos} (C:CalI X.prog X.w X.K X.mg X.base k) (hr:Room (k+1) X.A) (hx:Passes (CX1 X.prog X.w) X E) (hg:Gl X "Board") (hN:X.N.Nodup) (hi:X.N[i]?=some x) (hl:Loc X.env.scope x)
  (hs:swapsWith (.Call (.Name "Board" p) [] [] pos) (some (.Name x pos')) spos.line X.env=pure false:=by rfl)
  (hf:X.fn x=true∨X.env.scope.names.lookup x=some .local:=by first | exact .inl rfl | exact .inr rfl | assumption):Sv X cls E (.Assign [.Name x pos'] (.Call (.Name "Board" p) [] [] pos) spos) (sBrd i):=
 (ps_set hN hi hl (pe_newB C hr hx hg) hs hf).imp fun D σ H ⟨Hin,A₀,ρ,⟨os,S⟩,q⟩=>by
 intro a dx l m C H' hC hn nd h1 h2 h3 h4 hk
 exact q _ _ ⟨_,S.newB (newB_same hn hk) hC hn nd h1 h2 h3 h4⟩
theorem sv_mt {pl:Sem Bool}{F:BM} (C:CalB X.prog X.w X.K X.mg X.base k m ps (spB X.K cls fun _=>F)) (hr:Room k X.A) (hx:Passes (CX1 X.prog X.w) X E) (ho:PE X o (tVar i)) (ha:Av X cls E (e::es) fs) (hm1:(m==("done" : Str))=false:=by decide +kernel) (hm2:(m==("undone" : Str))=false:=by decide +kernel)
  (hs:swapsWith (.Call (.Attribute o m apos) (e::es) [] pos) none spos.line X.env=pure false:=by rfl)
  (hst:starEach (e::es) X.env=(false,eval e X.env)::starEach es X.env:=by rfl) (hpl:(backTo pos (starEach es X.env)).any (·.1)=false:=by rfl)
  (ht:eval (.Call (.Attribute o m apos) (e::es) [] pos) X.env=(do
   let ov ← eval o X.env
   standAt apos.atName
   let (f,first) ← holding [ov] (getMethod ov m pl)
   callWith pos f first (backTo pos (starEach (e::es) X.env)) (backToKw pos (keywordEach [] X.env))):=by rfl):Sv X cls E (.Expr (.Call (.Attribute o m apos) (e::es) [] pos) spos) (sMt i F fs):=
 (ps_expr (pe_mth (pl:=pl) C hr hx ho ha hst hpl ht) hs).imp fun D σ H ⟨Hin,A₀,ρ,⟨os,S⟩,q⟩=>by
 have Ft:=S.2.2.2
 unfold sMt mtK at q
 split at q
 rotate_left
 ·exact q.elim
 rename_i x y hρ
 obtain⟨v,g1,g2,g3⟩:=Ft.ow i _ hρ rfl
 have hb:BrdAt X.K (os++A₀) H v x y:=⟨g2,fun a ha=>Ft.sub a (g3 a ha)⟩
 obtain⟨a,C',dx,fs',z1,z2,z3,z4⟩:=hb.look hm1 hm2
 refine⟨v,a,C',dx,fs',g1,z1,z2,z3,z4,os,os++A₀,ρ,Ft,?_⟩
 cases hm:fs ρ with
 |ex c=>rw [hm] at q; exact fun H' s'=>q H' (S.1.trans s')
 |bad=>rw [hm] at q; exact q
 |ok ds=>
  rw [hm] at q
  have q:SRes X.K cls E Hin A₀ ((F x y ds).bd fun r=>.ok (.nx (ρ.set i (.brd r.2.1 r.2.2)))) D:=q
  intro vs H1 s1 r1 zz1
  have hb1:=hb.mono s1
  refine⟨a,v,vs,os++A₀,x,y,ds,rfl,z1,Ft.liv.mono s1,hb1,r1,zz1,?_⟩
  show Rg cls E (F x y ds) H1 _
  cases hF:F x y ds with
  |ex c=>rw [hF] at q; exact fun H' s'=>q H' ((S.1.trans s1).trans s')
  |bad=>rw [hF] at q; exact q
  |ok r=>
   rw [hF] at q
   intro u H2 s2 b2 f2 _ _
   have F1:=Ft.mono s1
   have e1:fpOf H1 v (.brd x y)=fpOf H v (.brd x y):=hb.fp s1
   have inO:∀b∈fpOf H1 v (.brd x y),b∈os:=fun b hb=>g3 b (by rw [← e1]; exact hb)
   have k2:∀b,b∉fpOf H1 v (.brd x y)->H1 b≠none->H2 b=H1 b:=fun b hb hn=>by
    cases ee:H1 b with
    |none=>exact(hn ee).elim
    |some o=>exact s2 b o (by rw [hid_ne hb]; exact ee)
   refine q σ H2 ⟨os,fun b o ee=>?_,S.2.1,S.2.2.1,?_⟩
   ·have e2:=s1 b o (S.1 b o ee)
    rw [k2 b (fun z=>by rw [S.2.2.1 b (inO b z)] at ee; cases ee) (by rw [e2]; simp)]
    exact e2
   ·have hfp:fpAt ρ σ H1 i=fpOf H1 v (.brd x y):=fpAt_is hρ g1 rfl
    have F2:=F1.set (i:=i) (v':=v) (b':=.brd r.2.1 r.2.2) (O':=os) (A':=os++A₀) (H':=H2) (fun b hb=>?_) F1.sub (fun b o ee=>?_) (fun b hb hn=>⟨hb,k2 b (by rw [← hfp]; exact hn) (F1.liv b (F1.sub b hb))⟩) (fun b hb hn=>⟨hb,hn,k2 b (fun z=>hn (inO b z)) (F1.liv b hb)⟩) (.inr ⟨b2.1,fun b hb=>?_⟩)
    ·rwa [set_same g1] at F2
    ·by_cases hf:b∈fpOf H1 v (.brd x y)
     ·refine b2.1.live (a:=b) ?_
      rw [fp_c (x':=x) (y':=y),f2]
      exact hf
     ·rw [k2 b hf (F1.liv b hb)]
      exact F1.liv b hb
    ·obtain⟨e3,e4⟩:=of_hid ee
     rw [hid_ne e3,k2 b (fun z=>e3 (List.mem_append_left _ (inO b z))) (by rw [e4]; simp)]
     exact e4
    ·rw [fp_c (x':=x) (y':=y),f2] at hb
     exact⟨inO b hb,.inr (by rw [hfp]; exact hb)⟩
noncomputable def smK (ks:List (List Nat×List Nat)):Prop:=∀p∈ks,p.1.length<=10000/\p.2.length<=10000
theorem t_pairs {O A:List Addr}{ρ:Rho}{σ:St}:∀{prs:List ((Rho->M Dt)×(Rho->M Dt))}{H:Hp}{Q:List (V×V)->Hp->Prop},Fit X.K O A ρ σ H->Rg cls E (pPairs prs ρ) H (fun ks=>∀H',Same H H'->smK ks->Q (ks.map fun p=>(S p.1,S p.2)) H')->
  tPairs (prs.map fun p=>(tM X.K cls E p.1,tM X.K cls E p.2)) σ H Q
 | [],H,Q,F,q=>q H (.refl _) (fun _ z=>nomatch z)
 |p::r,H,Q,F,q=>by
  have q:Rg cls E ((p.1 ρ).bd fun a=>(p.2 ρ).bd fun b=>(pPairs r ρ).bd fun ks=>prK a b ks) H _:=q
  refine⟨O,A,ρ,F,Rg.bind q fun d1 _ q1=>?_⟩
  intro v1 H1 s1 r1 z1
  refine⟨O,A,ρ,F.mono s1,Rg.heap (Rg.bind q1 fun d2 _ q2=>q2) s1 fun d2 _ q2=>?_⟩
  intro v2 H2 s2 r2 z2
  refine t_pairs ((F.mono s1).mono s2) (Rg.heap (Rg.bind q2 fun ks _ q3=>q3) (s1.trans s2) fun ks _ q3=>?_)
  intro H3 s3 zk
  unfold prK at q3
  split at q3
  ·cases repS r1
   cases repS r2
   refine q3 H3 ((s1.trans s2).trans s3) fun q hq=>?_
   rcases List.mem_cons.mp hq with rfl | hq
   ·exact⟨z1,z2⟩
   ·exact zk q hq
  ·exact(show False from q3).elim
theorem merge_is:∀(ks acc:List (List Nat×List Nat)),mergeK (dkv acc) (ks.map fun p=>(Kt p.1,S p.2))=dkv (ks.foldl (fun acc p=>putP acc p.1 p.2) acc)
 | [],acc=>rfl
 |p::r,acc=>by
  have ih:=merge_is r (putP acc p.1 p.2)
  rw [← dkv_put] at ih
  exact ih
theorem sm_fold:∀(ks acc:List (List Nat×List Nat)),smK ks->sm (.dic acc)->acc.length+ks.length<10000->sm (.dic (ks.foldl (fun acc p=>putP acc p.1 p.2) acc))
 | [],acc,_,z,_=>z
 |p::r,acc,h,z,hl=>by
  have hp:=h p List.mem_cons_self
  have e:(putP acc p.1 p.2).length<=acc.length+1:=by
   have:=length_putK (dkv acc) (Kt p.1) (S p.2)
   rw [dkv_put,dkv_len,dkv_len] at this
   exact this
  simp only [List.length_cons] at hl
  exact sm_fold r (putP acc p.1 p.2) (fun q hq=>h q (List.mem_cons_of_mem _ hq)) (sm_put z hp.1 hp.2 (by omega)) (by omega)
theorem pv_cons {keys:List (Option Expr)}{values:List Expr}{prs:List ((Rho->M Dt)×(Rho->M Dt))} (ha:Ev X cls E a f) (hb:Ev X cls E b g) (hr:PPs X pos keys values (prs.map fun p=>(tM X.K cls E p.1,tM X.K cls E p.2))) :
  PPs X pos (some a::keys) (b::values) (((f,g)::prs).map fun p=>(tM X.K cls E p.1,tM X.K cls E p.2)):=pps_cons ha hb hr
theorem ev_disp {keys:List (Option Expr)}{values:List Expr}{prs:List ((Rho->M Dt)×(Rho->M Dt))} (h:PPs X pos keys values (prs.map fun p=>(tM X.K cls E p.1,tM X.K cls E p.2))) (hall:keys.all (·.isSome)=true) (hl:keys.length=values.length) (h0:keys≠[]) (h15:keys.length<=15) :
  Ev X cls E (.Dict keys values pos) (pDisp prs):=fun pins s σ H Q I ⟨O,A,ρ,F,q⟩=>by
 refine wpAny_mono (pe_disp h hall hl h0 h15 pins s σ H (fun v H'=>∃p ks,v=.ref p/\H p=none/\Same H H'/\H' p=some (.dK (dkv (ks.foldl (fun acc p=>putP acc p.1 p.2) [])))/\pPairs prs ρ=.ok ks/\ks.length<=15/\smK ks) I ?_) (fun u s1 hz hT=>?_) fun _ _ z=>z
 ·intro p hp
  refine t_pairs (F.mono (.upd hp)) (Rg.heap (Rg.bind q fun ks _ q1=>q1) (.upd hp) fun ks eks q1=>?_)
  intro H' s' zk
  unfold dspK at q1
  split at q1
  ·rename_i hl'
   refine⟨s' _ _ upd_same,ks.map fun p=>(Kt p.1,S p.2),by rw [List.map_map]; rfl,by rw [List.length_map]; exact hl',p,ks,rfl,hp,fun b o e=>?_,?_,eks,hl',zk⟩
   ·rw [upd_ne (ne_of_none e hp)]
    exact s' b o (by rw [upd_ne (ne_of_none e hp)]; exact e)
   ·rw [upd_same]
    exact congrArg (fun z=>some (HO.dK z)) (merge_is ks [])
  ·exact(show False from q1).elim
 ·obtain⟨v,H',I',rv,p,ks,rfl,hp,s',hp',eks,hl',zk⟩:=hz hT
  obtain⟨ob,I2⟩:=I'.freeze hp'
  unfold pDisp at q
  rw [eks] at q
  have q:Res X.K cls A E (dspK ks) H Q:=q
  unfold dspK at q
  rw [if_pos hl'] at q
  have s2:Same H (upd H' p (.frz ob (.dK (dkv (ks.foldl (fun acc p=>putP acc p.1 p.2) []))))):=fun b o e=>by
   rw [upd_ne (ne_of_none e hp)]
   exact s' b o e
  exact⟨.ref p,_,I2,rv,q _ _ s2 (rep_dic (o:=ob) (by rw [hid_ne (F.liv.fresh hp)]; exact upd_same)) (sm_fold ks [] zk ⟨by simp,fun _ z=>nomatch z⟩ (by simp; omega))⟩
end
section
variable {P:Program}{w:World}{K:PySem.W.Frag}{mg:Str->Option Value}{base:Heap}{cls:Nat->Addr}
noncomputable def FnM (K:PySem.W.Frag) (m qual:Str) (st:Stmt) (ps:List Str):Prop:=∃C f fd,BrdC K C/\Meth K C m f/\Fun K m qual st f fd/\Binds K fd ps []
noncomputable def FnI (K:PySem.W.Frag) (mg:Str->Option Value) (st:Stmt):Prop:=∃C f fd,BrdC K C/\mg "Board" = some (.ref C)/\Mk K C f/\Fun K "__init__" "Board.__init__" st f fd/\Binds K fd ["self"] []
theorem spB_one {F:Nat->BM}{G:BM} (h:∀p x y ds,F p x y ds=G x y ds):∀vs H Q E,spB K cls (fun _=>G) vs H Q E->spB K cls F vs H Q E:=fun vs H Q E ⟨p,v,ws,A,x,y,ds,h1,h2,h3,h4,h5,h6,q⟩=>
 ⟨p,v,ws,A,x,y,ds,h1,h2,h3,h4,h5,h6,by rw [h p x y ds]; exact q⟩
noncomputable def FBC (K:PySem.W.Frag):Prop:=∃C,BrdC K C
theorem FBC.mk {C:Addr} (h1:nsIn K mainGlobals "Board" = some (some (.ref C))) (h2:plainGet K C Str.empty=true) (h3:hasDictIn K C=true) (h4:plainOver K C=true) (h5:findIn K (.ref C) "__setattr__" = some (some (.builtin "object.__setattr__")))
  (h6:findIn K (.ref C) "done" = some none) (h7:findIn K (.ref C) "undone" = some none):FBC K:=⟨C,h1,⟨h2,h3,h4,h5⟩,h6,h7⟩
noncomputable def FHM (K:PySem.W.Frag) (m qual:Str) (st:Stmt):Prop:=∃(C f:Addr) (oc:Value) (od an:Option Addr) (sl:Array (Option Value)) (kV dc pm cd ct:Value),nsIn K mainGlobals "Board" = some (some (.ref C))/\findIn K (.ref C) m=some (some (.ref f))/\isFn K (.ref f)=true/\keepIn K (.ref f)=true/\
 K.lookup f=some ⟨oc,od,.func (fnOf m qual (defArgs st) (defBody st) (defScope st) .none kV dc pm an cd ct),sl⟩/\codeIn K cd qual=true
theorem FHM.mk {m qual:Str}{st:Stmt}{C f:Addr}{oc:Value}{od an:Option Addr}{sl:Array (Option Value)}{kV dc pm cd ct:Value} (h1:nsIn K mainGlobals "Board" = some (some (.ref C))) (h2:findIn K (.ref C) m=some (some (.ref f))) (h3:isFn K (.ref f)=true) (h4:keepIn K (.ref f)=true)
  (h5:K.lookup f=some ⟨oc,od,.func (fnOf m qual (defArgs st) (defBody st) (defScope st) .none kV dc pm an cd ct),sl⟩) (h6:codeIn K cd qual=true):FHM K m qual st:=⟨C,f,oc,od,an,sl,kV,dc,pm,cd,ct,h1,h2,h3,h4,h5,h6⟩
theorem FHM.fn {m qual:Str}{st:Stmt}{ps:List Str} (H:FHM K m qual st) (B:FBC K) (hb:∀(kV dc pm:Value) (an:Option Addr) (cd ct:Value) (us:List Value),us.length=ps.length->bindArgs (fnOf m qual (defArgs st) (defBody st) (defScope st) .none kV dc pm an cd ct) ⟨us,[]⟩=pure (ps.zip us)):FnM K m qual st ps:=by
 obtain⟨C,f,oc,od,an,sl,kV,dc,pm,cd,ct,h1,h2,h3,h4,h5,h6⟩:=H
 obtain⟨C',hC⟩:=B
 have e:=h1.symm.trans hC.1
 cases e
 exact⟨C,f,_,hC,⟨h2,h3,h4⟩,fun_mk (st:=st) h5 h6 h4,.all fun us hl=>hb kV dc pm an cd ct us hl⟩
theorem FHM.init {h:Heap}{mg:Str->Option Value}{st:Stmt} (H:FHM K "__init__" "Board.__init__" st) (B:FBC K) (X:K.In h) (G:h.Ns mainGlobals mg) (hmk:∃C,nsIn K mainGlobals "Board" = some (some (.ref C))/\makesIn K C=true/\keepIn K (.ref C)=true)
  (hb:∀(kV dc pm:Value) (an:Option Addr) (cd ct:Value) (us:List Value),us.length=1->bindArgs (fnOf "__init__" "Board.__init__" (defArgs st) (defBody st) (defScope st) .none kV dc pm an cd ct) ⟨us,[]⟩=pure ((["self"]:List Str).zip us)):FnI K mg st:=by
 obtain⟨C,f,oc,od,an,sl,kV,dc,pm,cd,ct,h1,h2,h3,h4,h5,h6⟩:=H
 obtain⟨C',hC⟩:=B
 obtain⟨C2,g1,g2,g3⟩:=hmk
 have e:=h1.symm.trans hC.1
 cases e
 have e:=h1.symm.trans g1
 cases e
 exact⟨C,f,_,hC,mg_of X G h1,⟨g2,h2,h3,g3⟩,fun_mk (st:=st) h5 h6 h4,.all fun us hl=>hb kV dc pm an cd ct us hl⟩
theorem mk_of {C:Addr} (h1:nsIn K mainGlobals "Board" = some (some (.ref C))) (h2:makesIn K C=true) (h3:keepIn K (.ref C)=true):∃C,nsIn K mainGlobals "Board" = some (some (.ref C))/\makesIn K C=true/\keepIn K (.ref C)=true:=⟨C,h1,h2,h3⟩
end
section
variable {M:Model}{A:Around}{E:Value->Shared->Prop}{s:Shared}{base:Heap}{l outer:List Env}{env env':Env}{e L:Addr}{cls a0:Value}{h h':Heap}
noncomputable def FlyA (base:Heap) (l:List Env) (e:Addr) (cls a0:Value) (h:Heap):Prop:=base.StaysIn h/\base.get? e=none/\h.FunFrames base l/\∃fl,h.TracedAtW base e cls a0 fl
theorem FlyA.of (x:Heap.FlyingW base l e cls a0 h):FlyA base l e cls a0 h:=⟨x.1,x.2.1,x.2.2.1,.none,x.2.2.2⟩
theorem FlyA.held (x:Heap.HeldW base l e cls a0 L h):FlyA base l e cls a0 h:=⟨x.1,x.2.1,x.2.2.1,_,x.2.2.2⟩
theorem noteFrame_of (h:env'.frame=env.frame) (v:Value):noteFrame v env'=noteFrame v env:=by
 unfold noteFrame PySem.frameOf
 rw [h]
theorem setFlight_any {fr:Option Addr}{Q:Unit->Shared->Prop} (x:FlyA base l e cls a0 s.heap)
  (hQ:∀h',(FlyA base l e cls a0 h'/\h'.TracedAtW base e cls a0 (fr.elim .none fun f=>rawInt f))->s.heap.UpToSlots h'->Q () {s with heap:=h'}):wpAny M A (setFlight (.ref e) fr) Q E s:=by
 obtain⟨hkb,hen,hl,fl,oe,vs,T,oT,ts,he,hcls,hd,h1,hnT,hTe,hT,hdT,h3⟩:=x
 have hsz3:3<ts.size:=(Array.getElem?_eq_some_iff.mp h3).1
 have other:∀b,b≠T->(s.heap.update T (Obj.mapFields (·.setIfInBounds 3 (fr.elim Value.none fun f=>rawInt f)))).get? b=s.heap.get? b:=
  fun b hb=>Heap.get?_update_other _ _ (Ne.symm hb)
 have noRecord:∀b o,s.heap.get? b=some o->(∀vs,o.data≠.fields vs)->b≠T:=fun b o hb hnf q=>by
  rw [q,hT] at hb; injection hb with hb; subst hb; exact hnf ts hdT
 have tr:(s.heap.update T (Obj.mapFields (·.setIfInBounds 3 (fr.elim Value.none fun f=>rawInt f)))).TracedAtW base e cls a0 (fr.elim .none fun f=>rawInt f):=
  ⟨oe,vs,T,_,_,(other e (Ne.symm hTe)).trans he,hcls,hd,h1,hnT,hTe,Heap.get?_update_self _ hT (Obj.isFreed_of_fields (Obj.data_mapFields hdT _)),Obj.data_mapFields hdT _,by simp [hsz3]⟩
 unfold setFlight
 refine wpAny_bind (wpAny_field he hd h1 ?_)
 rw [if_pos (show (Value.ref T != Value.none)=true from by simp)]
 refine wpAny_setField hT hdT hsz3 (hQ _ ⟨⟨fun b o hbo=>(other b fun q=>by rw [q,hnT] at hbo; cases hbo).trans (hkb b o hbo),hen,hl.of_keeps fun b o hb hnf=>⟨o,(other b (noRecord b o hb hnf)).trans hb,rfl⟩,_,tr⟩,tr⟩
  fun b o hb hnf=>⟨o.slots,(other b (noRecord b o hb hnf)).trans hb⟩)
theorem note_any {Q:Unit->Shared->Prop} (hfr:A.frames=some (env::outer)) (hf:env.frame=some L) (x:FlyA base (env::outer) e cls a0 s.heap)
  (hQ:∀h',Heap.HeldW base (env::outer) e cls a0 L h'->s.heap.UpToSlots h'->Q () {s with heap:=h'}):wpAny M A (noteFrame (.ref e) env) Q E s:=by
 obtain⟨hkb,hen,hl,fl,ht⟩:=x
 by_cases hfl:(fl==rawInt L)=true
 ·have e1:fl=rawInt L:=by simpa using hfl
  subst e1
  exact wpAny_noteFrame_againW hf ht (hQ s.heap ⟨hkb,hen,hl,ht⟩ (.refl _))
 ·obtain⟨oe,vs,T,oT,ts,he,⟨hcls,h0⟩,hd,h1,hnT,hTe,hT,hdT,h3⟩:=ht
  subst hcls
  unfold noteFrame
  simp only [hf]
  refine wpAny_bind (wpAny_field he hd h1 ?_)
  rw [if_pos (show (Value.ref T != Value.none)=true from by simp)]
  refine wpAny_bind (wpAny_field hT hdT h3 ?_)
  rw [if_neg hfl]
  refine wpAny_bind (wpAny_setField hT hdT (Array.getElem?_eq_some_iff.mp h3).1 ?_)
  have other:∀b,b≠T->(s.heap.update T (Obj.mapFields (·.setIfInBounds 3 Value.none))).get? b=s.heap.get? b:=fun b hb=>Heap.get?_update_other _ _ (Ne.symm hb)
  have noRecord:∀b o,s.heap.get? b=some o->(∀vs,o.data≠.fields vs)->b≠T:=fun b o hb hnf q=>by
   rw [q,hT] at hb; injection hb with hb; subst hb; exact hnf ts hdT
  refine wpAny_entryW hfr (hl.of_keeps fun b o hb hnf=>⟨o,(other b (noRecord b o hb hnf)).trans hb,rfl⟩) hf ((other e (Ne.symm hTe)).trans he)
   (fun b o hbo=>(other b fun q=>by rw [q,hnT] at hbo; cases hbo).trans (hkb b o hbo)) hen hd (Array.getElem?_eq_some_iff.mp h1).1 h0
   fun h' ⟨x1,x2,x3,x4⟩=>hQ h' ⟨x1,hen,x2,x3⟩ fun b o hb hnf=>x4 b o ((other b (noRecord b o hb hnf)).trans hb) hnf
theorem leave_any {Q:Unit->Shared->Prop} (hfr:A.frames=some (env::outer)) (hf:env.frame=some L) (x:FlyA base (env::outer) e cls a0 s.heap)
  (hQ:∀h',Heap.FlyingW base outer e cls a0 h'->s.heap.UpToSlots h'->Q () {s with heap:=h'}):wpAny M A (leaving env (.ref e)) Q E s:=by
 unfold leaving
 refine wpAny_bind (note_any hfr hf x fun h' hh up=>?_)
 refine wpAny_landsW hh fun h'' hfl up2=>?_
 obtain⟨k1,k2,⟨_,_,k3⟩,k4⟩:=hfl
 exact hQ h'' ⟨k1,k2,k3,k4⟩ (up.trans up2)
theorem pass_any {α:Type}{what:String}{Q:α->Shared->Prop} (x:FlyA base l e cls a0 s.heap) (hE:∀h',FlyA base l e cls a0 h'->s.heap.UpToSlots h'->E (.ref e) {s with heap:=h'}):wpAny M A (PySem.passOn what (.ref e) env:Sem α) Q E s:=by
 have x':=x
 obtain⟨hkb,hen,hl,fl,oe,vs,T,oT,ts,he,hcls,hd,h1,hnT,hTe,hT,hdT,h3⟩:=x
 unfold PySem.passOn
 refine wpAny_bind (wpAny_field he hd h1 ?_)
 rw [if_neg (show ¬ (Value.ref T==Value.none)=true from by simp)]
 refine wpAny_bind (setFlight_any x' fun h' hh up=>?_)
 exact wpAny_throw (hE h' hh.1 up)
theorem FlyA.off {C:Addr}{oC:Obj} (x:FlyA base l e cls a0 h) (hC:base.get? C=none) (hl:C∉frs l) (ho:h.get? C=some oC) (hd:∀vs,oC.data≠.fields vs) (sb:Heap.SameBut C h h'):FlyA base l e cls a0 h':=by
 obtain⟨hkb,hen,hfl,fl,oe,vs,T,oT,ts,he,hcls,hde,h1,hnT,hTe,hT,hdT,h3⟩:=x
 have ne:e≠C:=fun z=>by rw [z,ho] at he; injection he with he; subst he; exact hd vs hde
 have nT:T≠C:=fun z=>by rw [z,ho] at hT; injection hT with hT; subst hT; exact hd ts hdT
 refine⟨fun b o q=>(sb.2 b fun z=>by rw [z,hC] at q; cases q).trans (hkb b o q),hen,?_,fl,oe,vs,T,oT,ts,(sb.2 e ne).trans he,hcls,hde,h1,hnT,hTe,(sb.2 T nT).trans hT,hdT,h3⟩
 clear hkb he hT
 induction l with
 |nil=>trivial
 |cons v r ih=>
  obtain⟨k1,⟨L,o,k2,k3,k4,k5⟩,k6⟩:=hfl
  have hm:frs (v::r)=L::frs r:=by unfold frs; rw [List.filterMap_cons,k2]
  rw [hm] at hl
  exact⟨k1,⟨L,o,k2,k3,(sb.2 L fun z=>hl (z ▸ List.mem_cons_self)).trans k4,k5⟩,ih (fun z=>hl (List.mem_cons_of_mem _ z)) k6⟩
end
inductive XRest (X:Cx) (E:XK) (ea Cc:Addr) (H':Hp) (B:Heap) (s':Shared):Prop
 |mk (h1:s'.os=X.s₀.os) (h2:AllBare s'.gens) (h3:HOk X.prog X.w H' B)
  (h4:∀b o,X.s₀.heap.get? b=some o->X.H₀ b=none->b∉frs X.outer->B.get? b=some o) (h5:∀b o,X.s₀.heap.get? b=some o->b∉frs X.outer->∃o',B.get? b=some o')
  (h6:∀b o,X.s₀.heap.get? b=some o->X.H₀ b=none->H' b=none) (h7:∀b xs,X.H₀ b=some (.tup xs)->H' b=some (.tup xs)) (h8:∀b o u,X.H₀ b=some (.frz o u)->H' b=some (.frz o u)) (h9:∀b q,X.H₀ b=some (.tbl q)->H' b=some (.tbl q))
  (h10:H' ea=none) (h11:E (.ref Cc) none H')
  (h12:∀b o,X.s₀.heap.get? b=some o->X.H₀ b=none->b∈frs X.outer->(∀vs,o.data≠.fields vs)/\∃sl,s'.heap.get? b=some {o with slots:=sl}):XRest X E ea Cc H' B s'
inductive XHeld (X:Cx) (E:XK) (C:Addr) (e:Value) (s':Shared):Prop
 |mk (ea Cc:Addr) (H':Hp) (B:Heap) (a0:Value) (e1:e=.ref ea) (f:FlyA B X.stack ea (.ref Cc) a0 s'.heap) (n:B.get? C=none) (r:XRest X E ea Cc H' B s'):XHeld X E C e s'
structure Plain (X:Cx) (E:XK):Prop where
 ex:X.ex=[]
 st:X.stack=X.env::X.outer
 fr:∃L,X.env.frame=some L
 held:∀C e s',XHeld X E C e s'->X.xe e s'
section
variable {X:Cx}{E:XK}{pins:List (Addr×Obj)}{σ:St}{H:Hp}{s s':Shared}{C:Addr}{e:Value}
theorem less_none {B B':Heap} (k:∀b o,B'.get? b=some o->B.get? b=some o){b:Addr} (h:B.get? b=none):B'.get? b=none:=by
 cases q:B'.get? b with
 |none=>rfl
 |some o=>rw [k b o q] at h; cases h
theorem frames_less {B B' h:Heap} (k:∀b o,B'.get? b=some o->B.get? b=some o):∀{l:List Env},h.FunFrames B l->h.FunFrames B' l
 | [],_=>trivial
 |v::r,⟨k1,⟨L,o,k2,k3,k4,k5⟩,k6⟩=>⟨k1,⟨L,o,k2,less_none k k3,k4,k5⟩,frames_less k k6⟩
theorem FlyA.less {B B' h:Heap}{l:List Env}{e:Addr}{cls a0:Value} (x:FlyA B l e cls a0 h) (k:∀b o,B'.get? b=some o->B.get? b=some o):FlyA B' l e cls a0 h:=by
 obtain⟨hkb,hen,hfl,fl,oe,vs,T,oT,ts,he,hcls,hde,h1,hnT,hTe,hT,hdT,h3⟩:=x
 exact⟨fun b o q=>hkb b o (k b o q),less_none k hen,frames_less k hfl,fl,oe,vs,T,oT,ts,he,hcls,hde,h1,less_none k hnT,hTe,hT,hdT,h3⟩
theorem held_of (hX:Plain X E) (I:Inv X pins σ H s) (hc:CX1 X.prog X.w X.stack H s E e s'){oC:Obj} (hC:s.heap.get? C=some oC) (hn:H C=none) (hge:X.s₀.heap.objs.size<=C):XHeld X E C e s':=by
 obtain⟨ea,Cc,H',B,a0,rfl,hos,hb,fl,hok,un,keepB,thereB,hea,hE⟩:=hc
 have noex:∀b:Addr,b∉X.ex:=fun b z=>by rw [hX.ex] at z; exact nomatch z
 have hC':H' C=none:=un.free C oC hC hn (by simp)
 have sub:∀b o,(hideAll B [C]).get? b=some o->B.get? b=some o:=fun b o q=>of_hideAll [C] q
 have neC:∀{b o},X.s₀.heap.get? b=some o->b∉[C]:=fun {b o} q z=>by
  rw [List.mem_singleton] at z
  rw [z] at q
  exact absurd (Heap.lt_size q) (Nat.not_lt.mpr hge)
 have old:∀b o,X.s₀.heap.get? b=some o->b∉frs X.outer->b∉frs X.stack:=fun b o q hb z=>by
  rcases List.mem_cons.mp (I.stkSub b z) with e | e
  ·exact absurd (Heap.lt_size q) (by have:=I.ok.above; rw [e]; exact Nat.not_lt.mpr this)
  ·exact hb e
 have up:∀b,b∈frs X.outer->b∈frs X.stack:=fun b hb=>by
  rw [hX.st]
  unfold frs
  rw [List.filterMap_cons]
  split
  ·exact hb
  ·exact List.mem_cons_of_mem _ hb
 refine⟨ea,Cc,H',hideAll B [C],a0,rfl,(FlyA.of fl).less sub,hideAll_none [C] (List.mem_singleton.mpr rfl),hos.trans I.os,hb,fun a o q=>?_,fun b o q n hb=>?_,fun b o q hb=>?_,fun b o q n=>?_,fun b xs q=>un.tups b xs (I.base.tups b xs q),fun b o u q=>un.frzs b o u (I.base.frzs b o u q),fun b q z=>un.tbls b q (I.base.tbls b q z),hea,hE,fun b o q n hb=>?_⟩
 ·refine(hok a o q).stay (fun b u hb r=>hideAll_get [C] r fun z=>?_) (fun _ z=>z) fun _ _ z=>z
  rw [List.mem_singleton] at z
  subst z
  rcases hb with hb | hb
  ·rw [hb,q] at hC'; cases hC'
  ·rw [hb] at hC'; cases hC'
 ·exact hideAll_get [C] (keepB b o (I.base.keep b o q n hb (noex b)) (I.base.free b o q n (noex b)) (old b o q hb)) (neC q)
 ·obtain⟨o',q'⟩:=I.base.there b o q (noex b)
  obtain⟨o2,q2⟩:=thereB b o' q' (old b o q hb)
  exact⟨o2,hideAll_get [C] q2 (neC q)⟩
 ·obtain⟨o',q'⟩:=I.base.there b o q (noex b)
  exact un.free b o' q' (I.base.free b o q n (noex b)) (by simp)
 ·obtain⟨sl,q'⟩:=I.base.slot b o q n hb (noex b)
  obtain⟨sl2,q2'⟩:=un.slot b _ q' (I.base.free b o q n (noex b)) (up b hb) (by simp)
  obtain⟨_,o2,q2,nf⟩:=I.ok.funs.mem hb
  have q2'':X.s₀.heap.get? b=some o2:=q2
  rw [q] at q2''
  cases q2''
  exact⟨nf,sl2,q2'⟩
theorem XRest.up {ea Cc:Addr}{H':Hp}{B h':Heap} (x:XRest X E ea Cc H' B s') (hu:∀b o,X.s₀.heap.get? b=some o->(∀vs,o.data≠.fields vs)->∀sl,s'.heap.get? b=some {o with slots:=sl}->∃sl',h'.get? b=some {o with slots:=sl'}):XRest X E ea Cc H' B {s' with heap:=h'}:=by
 obtain⟨h1,h2,h3,h4,h5,h6,h7,h8,h9,h10,h11,h12⟩:=x
 refine⟨h1,h2,h3,h4,h5,h6,h7,h8,h9,h10,h11,fun b o q n hb=>?_⟩
 obtain⟨nf,sl,q2⟩:=h12 b o q n hb
 exact⟨nf,hu b o q nf sl q2⟩
theorem XRest.slots {ea Cc:Addr}{H':Hp}{B h':Heap} (x:XRest X E ea Cc H' B s') (up:s'.heap.UpToSlots h'):XRest X E ea Cc H' B {s' with heap:=h'}:=x.up fun b o q nf sl q2=>by
 obtain⟨sl',q3⟩:=up b _ q2 nf
 exact⟨sl',q3⟩
theorem held_out {C:Addr}{m:Str->Option Value} (hX:Plain X E) (hfr:X.A.frames=some X.stack) (x:XHeld X E C e s') (hge:X.s₀.heap.objs.size<=C) (hCs:C∉frs X.stack) (hm:s'.heap.Ns C m){cenv:Env} (hce:cenv.frame=X.env.frame){acc:Value}{use:Option (Value->Sem Unit)}{Q:Value->Shared->Prop} :
  notedBy (model X.prog X.w) X.A cenv (fun e s''=>compPost (model X.prog X.w) X.A X.xe use Q acc C (.error e) s'') e s':=by
 obtain⟨L,hL⟩:=hX.fr
 obtain⟨ea,Cc,H',B,a0,rfl,h3,h4,hr⟩:=x
 unfold notedBy
 rw [noteFrame_of hce]
 have h3':=h3
 rw [hX.st] at hfr h3'
 refine note_any hfr hL h3' fun h' hh up=>?_
 have hm':=up.ns hm
 refine⟨m,hm',fun h2 sb cenv' hl=>?_⟩
 have f1:FlyA B X.stack ea (.ref Cc) a0 h':=by rw [hX.st]; exact FlyA.held hh
 obtain⟨oC,es,ep,hoC,hdC,_⟩:=hm'
 have f2:=f1.off h4 hCs hoC (fun vs z=>by rw [hdC] at z; cases z) sb
 have r1:XRest X E ea Cc H' B {s' with heap:=h'}:=hr.slots up
 have r2:XRest X E ea Cc H' B {s' with heap:=h2}:=r1.up fun b o q nf sl q2=>⟨sl,(sb.2 b fun z=>by
  rw [z] at q
  exact absurd (Heap.lt_size q) (Nat.not_lt.mpr hge)).trans q2⟩
 refine pass_any f2 fun h5 f5 up5=>hX.held C _ _ ⟨ea,Cc,H',B,a0,rfl,f5,h4,r2.slots up5⟩
end
section
variable {P:Program}{w:World}{K:PySem.W.Frag}{mg:Str->Option Value}{base:Heap}{N:List Str}{qual:Str}{scope:Scope}{f:Addr}{cd:Value}{A:Around}{outer:List Env}{s₀:Shared}{H₀:Hp}{E:XK}
theorem plain_of (hfr:(cxOf (CX1 P w) P w K mg base N qual scope f cd A outer s₀ H₀ E).A.frames=some (cxOf (CX1 P w) P w K mg base N qual scope f cd A outer s₀ H₀ E).stack) (hfrf:∀b∈frs outer,H₀ b=none):Plain (cxOf (CX1 P w) P w K mg base N qual scope f cd A outer s₀ H₀ E) E where
 ex:=rfl
 st:=rfl
 fr:=⟨_,rfl⟩
 held:=by
  intro C e s' ⟨ea,Cc,H',B,a0,e1,fl,_,h1,h2,h3,h4,h5,h6,h7,h8,h9,h10,h11,h12⟩
  subst e1
  refine leave_any hfr rfl fl fun h'' fl' up=>?_
  refine⟨ea,Cc,H',B,a0,rfl,h1,h2,fl',h3,⟨fun b o q n hb _=>fl'.1 b o (h4 b o q n hb),fun b o q n hb _=>?_,fun b o q n _=>h6 b o q n,fun b o q _=>?_,h7,h8,h9⟩,h4,h5,h10,h11⟩
  ·obtain⟨nf,sl,q2⟩:=h12 b o q n hb
   obtain⟨sl',q3⟩:=up b _ q2 nf
   exact⟨sl',q3⟩
  ·by_cases hb:b∈frs outer
   ·obtain⟨nf,sl,q2⟩:=h12 b o q (hfrf b hb) hb
    obtain⟨sl',q3⟩:=up b _ q2 nf
    exact⟨_,q3⟩
   ·obtain⟨o',q'⟩:=h5 b o q hb
    exact⟨o',fl'.1 b o' q'⟩
end
theorem compLoop_anyX {prog:Program}{w:World}{A:Around}{R:Result->Shared->Prop}{s:Shared}{elt target iter:Expr}{ifs:List Expr}{scope:Scope}{pos:Pos}{it acc:Value}{env:Env} (I:Nat->Shared->Prop)
  (turn:∀n s,I n s->wpAny (model prog w) A (pyNext it) (fun r s₁=>match r with
   |none=>R (.ok .next) s₁
   |some v=>wpAny (model prog w) A (letOwnedTupleGo target it v) (fun _ s₁'=>wpAny (model prog w) A (assign target env v) (fun _ s₂=>
     wpAny (model prog w) A (forIn ifs true fun c r=>if r=true then do let ok ← isTrue c env (eval c env); pure (ForInStep.yield ok) else pure (ForInStep.yield r)) (fun ok s₃=>
      if ok=true then wpAny (model prog w) A (eval elt env) (fun x s₄=>
       wpAny (model prog w) A (call (.builtin "list.append") [acc,x]) (fun _ s₅=>∃m,m<n/\I m s₅) (notedBy (model prog w) A env fun x s'=>R (.error x) s') s₄) (notedBy (model prog w) A env fun x s'=>R (.error x) s') s₃
      else ∃m,m<n/\I m s₃) (notedBy (model prog w) A env fun x s'=>R (.error x) s') s₂) (notedBy (model prog w) A env fun x s'=>R (.error x) s') s₁') (notedBy (model prog w) A env fun x s'=>R (.error x) s') s₁) (notedBy (model prog w) A env fun x s'=>R (.error x) s') s)
  (n:Nat) (h:I n s) :
  codeAny (model prog w) A (.compLoop (.ListComp elt [⟨target,iter,ifs,0⟩] scope pos) 0 it acc env) R s:=by
 refine codeAny_loop rfl I (fun n s hI=>?_) n h
 show wpAny _ A ((compTurn (.ListComp elt [⟨target,iter,ifs,0⟩] scope pos) 0 it acc env).onRaise (fun x=>do noteFrame x env; theTreesLotGoes x)) _ _ s
 refine wpAny_noted ?_
 rw [compTurn_list]
 refine wpAny_bind (wpAny_standAt (wpAny_bind (wpAny_mono (turn n s hI) (fun r s₁ h₁=>?_) fun _ _ h'=>h')))
 cases r with
 |none=>exact wpAny_pure h₁
 |some v=>
  refine wpAny_bind (wpAny_mono h₁ (fun _ s₁' h₁'=>?_) fun _ _ h'=>h')
  refine wpAny_bind (wpAny_mono h₁' (fun _ s₂ h₂=>wpAny_bind (wpAny_mono h₂ (fun ok s₃ h₃=>?_) fun _ _ h'=>h')) fun _ _ h'=>h')
  cases ok with
  |false=>
   simp only [Bool.false_eq_true,if_false] at h₃ ⊢
   exact wpAny_bind (wpAny_pure (wpAny_pure ⟨rfl,h₃⟩))
  |true=>
   simp only [if_true] at h₃ ⊢
   refine wpAny_bind (wpAny_bind (wpAny_mono h₃ (fun x s₄ h₄=>wpAny_bind (wpAny_mono h₄ (fun _ s₅ h₅=>wpAny_pure (wpAny_pure ⟨rfl,h₅⟩)) fun _ _ h'=>h')) fun _ _ h'=>h'))
noncomputable def cxX (X:Cx) (E:XK) (scope:Scope) (N:List Str) (pins:List (Addr×Obj)) (fp:List Addr) (s:Shared) (H:Hp):Cx:=
 (cxC X scope N pins fp s H).wish fun e s'=>∃pins' σ' H' s1,Inv (cxC X scope N pins fp s H) pins' σ' H' s1/\CX1 X.prog X.w X.stack H' s1 E e s'
theorem pass_X {X:Cx}{E:XK}{scope:Scope}{N:List Str}{pins:List (Addr×Obj)}{fp:List Addr}{s:Shared}{H:Hp}:Passes (CX1 X.prog X.w) (cxX X E scope N pins fp s H) E:=fun pins' σ' H' s1 e s' I hc=>⟨pins',σ',H',s1,I.unwish,hc⟩
section
variable {X:Cx}{scope:Scope}{N:List Str}{k:Nat}{fr:List Nat}{tg iter elt:Expr}{ifs:List Expr}{wi:TI}{g:TG}{tc:TT}{te:TE}{pos:Pos}
theorem blockX {EX:XK}{pins:List (Addr×Obj)}{σ:St}{H:Hp}{s:Shared}{it:Addr}{fp:List Addr}{tn:Nat->Heap->Prop}{J:It}{Q:VK}{RR:Value->Addr->Result->Shared->Prop}{E:Value->Shared->Prop}
  (hc:X.calm=true) (S:CScope X scope N k fr) (hg:∀pins fp s H,PG (cxX X EX scope N pins fp s H) tg g) (ht:∀pins fp s H,PTs (cxX X EX scope N pins fp s H) ifs tc) (he:∀pins fp s H,PE (cxX X EX scope N pins fp s H) elt te) (hX:Plain X EX)
  (hRE:∀acc C e s' m,XHeld X EX C e s'->X.s₀.heap.objs.size<=C->C∉frs X.stack->s'.heap.Ns C m->∀cenv:Env,cenv.frame=X.env.frame->notedBy (model X.prog X.w) X.A cenv (fun x s''=>RR acc C (.error x) s'') e s')
  (I:Inv X pins σ H s) (T:Turn X.prog X.w X.K tg J fp it tn) (st:tn 0 s.heap) (hf:∀b∈fp,FpOk X pins H b) (h:rdComp k fr g tc te σ J H Q)
  (hR:∀D C s' (H':Hp),Q (.ref D) H'->FpOk X pins H' C->(∃m,s'.heap.Ns C m)->(∀h',Heap.SameBut C s'.heap h'->Inv X pins σ H' {s' with heap:=h'})->RR (.ref D) C (.ok .next) s') :
  wpAny (model X.prog X.w) X.A (newList []) (fun acc s₃=>wpAny (model X.prog X.w) X.A (newFunctionEnv scope X.env.globals (closOf scope.names X.env.cells) [] X.env.qual none .none (some X.env)) (fun cenv s₄=>
   codeAny (model X.prog X.w) X.A (.compStart (.ListComp elt [⟨tg,iter,ifs,0⟩] scope pos) 0 (.ref it) acc {cenv with scope:=relabel scope X.env}) (RR acc cenv.locals) s₄) E s₃) E s:=by
 refine wpAny_newObj_type (newEnvC ?_)
 dsimp only
 have I3:Inv X pins σ (upd H s.heap.objs.size (.lst [])) {s with heap:=s.heap.push {cls:=.type "list",dict:=none,data:=.seq ([]:List Value).toArray}}:=
  I.laid (t':=s.toks) (fun b u e=>Heap.get?_push_of_some _ e) (Nat.le_refl _) ⟨by simp,[],_,.nil,Heap.get?_push_size _ rfl⟩
 generalize hS3:({s with heap:=s.heap.push {cls:=.type "list",dict:=none,data:=.seq ([]:List Value).toArray}}:Shared)=s3 at I3
 have e3:s.heap.push {cls:=.type "list",dict:=none,data:=.seq ([]:List Value).toArray}=s3.heap:=by rw [← hS3]
 rw [e3]
 generalize hD:s.heap.objs.size=D at I3 ⊢
 have hDn:H D=none:=I.hok.fresh (by omega)
 obtain⟨W,⟨m0,w0⟩,turn⟩:=h D hDn
 have hfD:∀b∈fp,b≠D:=fun b hb z=>by
  obtain⟨o,e,_⟩:=T.obj 0 _ st b hb
  exact absurd (Heap.lt_size e) (by rw [z,← hD]; exact Nat.lt_irrefl _)
 have hf3:∀b∈fp,FpOk X pins (upd H D (.lst [])) b:=fun b hb=>⟨by rw [upd_ne (hfD b hb)]; exact(hf b hb).1,(hf b hb).2⟩
 have up3:∀b o,s.heap.get? b=some o->s3.heap.get? b=some o:=fun b o e=>by rw [← e3]; exact Heap.get?_push_of_some _ e
 have hlt:∀b∈fp,b<s3.heap.objs.size:=fun b hb=>by
  obtain⟨o,e,_⟩:=T.obj 0 _ st b hb
  exact Heap.lt_size (up3 b o e)
 have keep0:∀b o,s3.heap.get? b=some o->(pushCells (s3.heap.push {cls:=.type "dict",data:=.dict #[]}) scope.names).get? b=some o:=fun b o e=>pushCells_keeps _ _ b o (Heap.get?_push_of_some _ e)
 have ns0:=(Heap.Ns.new s3.heap (.type "dict")).keeps (pushCells_keeps scope.names _)
 have cl0:∀x c,(cellsFrom (s3.heap.objs.size+1) scope.names (closOf scope.names X.env.cells)).lookup x=some c->∃v,(pushCells (s3.heap.push {cls:=.type "dict",data:=.dict #[]}) scope.names).IsCell c v:=by
  have q:=cf_cell scope.names (s3.heap.push {cls:=.type "dict",data:=.dict #[]}) (closOf scope.names X.env.cells) fun z d e=>by
   obtain⟨v,q⟩:=I3.cell z d (closOf_look (S.cells I.ok) e)
   exact⟨v,q.keeps fun b o e=>Heap.get?_push_of_some _ e⟩
  rwa [Heap.size_push] at q
 generalize hh₁:pushCells (s3.heap.push {cls:=.type "dict",data:=.dict #[]}) scope.names=h₁ at keep0 ns0 cl0 ⊢
 have keep:∀b o,s3.heap.get? b=some o->h₁.get? b=some o:=keep0
 have hns₁:=ns0
 have st1:tn 0 h₁:=T.keep 0 _ _ st fun b hb o e=>keep b o (up3 b o e)
 have eos:({s with heap:=h₁,toks:=s.toks}:Shared)={s3 with heap:=h₁,toks:=s.toks}:=by rw [← hS3]
 have IC:Inv (cxC X scope N pins fp s3 (upd H D (.lst []))) [] (startC k fr σ) (upd H D (.lst [])) {s3 with heap:=h₁,toks:=s.toks}:=invC S I3 hf3 hlt hns₁ keep cl0
 rw [← eos] at IC
 have statC:∀{H':Hp},(∀b∈fp,H' b=none)->∀b∈fp,FpOk (cxC X scope N pins fp s3 (upd H D (.lst []))) [] H' b:=fun hn b hb=>
  ⟨hn b hb,Nat.ne_of_lt (hlt b hb),fun z=>by
   rcases List.mem_cons.mp (I3.stkSub b z) with q | q
   ·exact(hf b hb).2.1 q
   ·exact(hf b hb).2.2.1 q,.inl hb,fun x c hcx=>by
   rcases S.look I.ok hcx with ⟨a,_⟩ | ⟨a,_⟩
   ·intro z
    exact Nat.lt_irrefl _ (Nat.lt_of_lt_of_le (hlt b hb) (z ▸ Nat.le_trans (Nat.le_succ _) a))
   ·exact(hf b hb).2.2.2.2.1 x c a,fun p hp=>by
   have hp':p∈X.pn++pins:=by
    have hp2:p∈(X.pn++pins)++[]:=hp
    simpa using hp2
   exact(hf b hb).2.2.2.2.2 p hp'⟩
 have hCs:s3.heap.objs.size∉frs X.stack:=fun z=>by
  rcases List.mem_cons.mp (I3.stkSub _ z) with e | e
  ·exact absurd I3.lt (by rw [← e]; exact Nat.lt_irrefl _)
  ·exact I3.nofs (Nat.le_refl _) e
 have hXB:∀e s',(cxX X EX scope N pins fp s3 (upd H D (.lst []))).xe e s'->notedBy (model X.prog X.w) X.A (cxC X scope N pins fp s3 (upd H D (.lst []))).env (fun x s''=>RR (.ref D) s3.heap.objs.size (.error x) s'') e s':=by
  rintro e s' ⟨pins',σ',H',s1,I',hc'⟩
  have IX:=outC I3 hf3 I' (.refl ..)
  obtain⟨m,⟨oC,es,ep,hoC,rC⟩,_⟩:=I'.loc
  have hu:=hc'
  obtain⟨_,_,_,_,_,_,_,_,_,_,un,_⟩:=hu
  have hk:=un.keep _ oC hoC I'.free hCs (by simp)
  exact hRE (.ref D) _ e s' m (held_of hX IX hc' hoC I'.free I3.sz) I3.sz hCs ⟨oC,es,ep,hk,rC⟩ _ rfl
 have loop:∀s4:Shared,Inv (cxC X scope N pins fp s3 (upd H D (.lst []))) [] (startC k fr σ) (upd H D (.lst [])) s4->tn 0 s4.heap->
   codeAny (model X.prog X.w) X.A (.compLoop (.ListComp elt [⟨tg,iter,ifs,0⟩] scope pos) 0 (.ref it) (.ref D) (cxC X scope N pins fp s3 (upd H D (.lst []))).env) (RR (.ref D) s3.heap.objs.size) s4:=by
  intro s4 I4 st4
  refine compLoop_anyX (fun n s'=>∃i ys σ' H',Inv (cxC X scope N pins fp s3 (upd H D (.lst []))) [] σ' H' s'/\tn i s'.heap/\(∀b∈fp,H' b=none)/\W i n ys σ' H') ?_ m0 ⟨0,[],_,_,I4,st4,fun b hb=>(hf3 b hb).1,w0⟩
  rintro n s5 ⟨i,ys,σ5,H5,I5,st5,fr5,w5⟩
  obtain⟨hD5,hcase⟩:=turn i n ys σ5 H5 w5
  rcases hcase with ⟨stop,q⟩ | ⟨go,m',hm,step⟩
  ·refine thn (T.done (cxC X scope N pins fp s3 (upd H D (.lst []))) rfl rfl rfl hc i [] s5 σ5 H5 _ I5 (statC fr5) st5 stop) fun r s6 ⟨hr,I6⟩=>?_
   subst hr
   obtain⟨m6,hn6,_⟩:=I6.loc
   exact hR D _ s6 H5 q (I3.fpOk (Nat.le_refl _) I6.free) ⟨m6,hn6⟩ fun h' sb=>outC I3 hf3 I6 sb
  ·refine thnT (T.item (cxC X scope N pins fp s3 (upd H D (.lst []))) rfl rfl rfl hc i [] s5 σ5 H5 _ I5 (statC fr5) st5 go) fun r s6 ht_s6 ⟨u,hr,h6⟩=>?_
   subst hr
   refine thn h6 fun _ s7 h_=>?_
   obtain⟨x,H7,I7,r7,y7,st7,fr7⟩:=h_
   have I7':=I7.pinned (statC fr7) (T.obj _ _ st7)
   refine thn (wpAny_mono (hg pins fp s3 _ _ s7 σ5 H7 x u _ (I7'.wish _) r7 (step x H7 y7)) (fun _ _ z=>z) hXB) fun _ s8 h_=>?_
   obtain⟨σ8,H8,I8,q8⟩:=h_
   refine thn (wpAny_mono (ht pins fp s3 _ _ s8 σ8 H8 _ I8 q8) (fun _ _ z=>z) hXB) fun b s9 h_=>?_
   obtain⟨H9,I9x,q9⟩:=h_
   have I9:=I9x.unwish
   have again:∀{H':Hp} {s':Shared},Inv (cxC X scope N pins fp s3 (upd H D (.lst []))) ([]++pinsAt fp s7.heap) σ8 H' s'->tn (i+1) s'.heap/\(∀b∈fp,H' b=none):=fun {H' s'} I'=>by
    refine⟨T.keep _ _ _ st7 fun b hb o e=>(I'.pin (b,o) (List.mem_append_right _ (List.mem_append_right _ (mem_pinsAt hb e)))).1,fun b hb=>?_⟩
    obtain⟨o,e,d⟩:=T.obj _ _ st7 b hb
    exact(I'.pin (b,o) (List.mem_append_right _ (List.mem_append_right _ (mem_pinsAt hb e)))).2.1
   cases b with
   |false=>
    simp only [Bool.false_eq_true,if_false] at q9 ⊢
    obtain⟨a1,a2⟩:=again I9
    exact⟨m',hm,i+1,ys,σ8,H9,I9.unpinned,a1,a2,q9⟩
   |true=>
    simp only [if_true] at q9 ⊢
    refine thn (wpAny_mono (he pins fp s3 _ _ s9 σ8 H9 _ I9x q9) (fun _ _ z=>z) hXB) fun y s10 h_=>?_
    obtain⟨v,H10,I10x,r10,hD10,hl10,q10⟩:=h_
    have I10:=I10x.unwish
    refine thn (wpAny_mono (mt_append (X:=cxC X scope N pins fp s3 (upd H D (.lst []))) _ s10 σ8 H10 (.ref D) [v] (.ref D) [y] (fun z H'=>z=.non/\H'=upd H10 D (.lst (ys++[v]))) I10 rfl (.cons r10 .nil) ⟨D,ys,v,rfl,rfl,hD10,hl10,rfl,rfl⟩) (fun _ _ z=>z) fun _ _ z=>z.elim) fun z s11 h_=>?_
    obtain⟨v11,H11,I11,_,_,e11⟩:=h_
    subst e11
    obtain⟨a1,a2⟩:=again I11
    exact⟨m',hm,i+1,ys++[v],σ8,_,I11.unpinned,a1,a2,q10⟩
 exact codeAny_compStart_list (loop _ IC st1) (T.self X.A 0 _ _ _ st1 (loop _ IC st1))
theorem pe_compX {EX:XK} (hX:X.A.frames=some X.stack->(∀b∈frs X.outer,X.H₀ b=none)->Plain X EX) (hc:X.calm=true) (S:CScope X scope N k fr) (hi:PI X tg iter wi) (hg:∀pins fp s H,PG (cxX X EX scope N pins fp s H) tg g) (ht:∀pins fp s H,PTs (cxX X EX scope N pins fp s H) ifs tc)
  (he:∀pins fp s H,PE (cxX X EX scope N pins fp s H) elt te) (hs:∀x,foldedSetIterable iter X.env x=pure x:=by intro _; rfl):PE X (.ListComp elt [⟨tg,iter,ifs,0⟩] scope pos) (tComp k fr wi g tc te):=by
 intro pins s σ H Q I h
 have hP:=hX I.ok.frames I.ok.frf
 rw [eval_ListComp]
 refine wpAny_comprehension_free (use:=none) rfl hs (closureFor_of (S.cells I.ok)) S.kind S.locals (thnT (hi pins s σ H _ I h) fun v s1 t1 h1=>thn h1 fun itv s2 h2=>?_)
 obtain⟨it,fp,tn,J,H2,e,I2,T,st2,f2,q⟩:=h2
 subst e
 refine blockX (RR:=fun acc C=>compPost (model X.prog X.w) X.A X.xe none (EP X pins σ Q) acc C) hc S hg ht he hP (fun acc C e s' m x hge hCs hm cenv hce=>held_out hP I.ok.frames x hge hCs hm hce) I2 T st2 f2 q ?_
 intro D C s' H' q' _ hn inv
 obtain⟨m,hn⟩:=hn
 exact⟨m,hn,fun h' sb=>(fun ht=>⟨.ref D,H',inv h' sb,rfl,q'⟩)⟩
end
noncomputable def PostC (K:PySem.W.Frag) (cls:Nat->Addr) (A:List Addr) (E:XK) (H1:Hp) (Q:VK) (us:List Dt):M (List Dt)->Prop
 |.ok ws=>∀v H',Same H1 H'->Rep K (hid H' A) (.lst (us++ws)) v->sms (us++ws)->(us++ws).length<=10000->Q v H'
 |.ex c=>∀H',Same H1 H'->E (.ref (cls c)) none H'
 |.bad=>False
theorem PostC.cons {K:PySem.W.Frag}{cls:Nat->Addr}{A:List Addr}{E:XK}{H1:Hp}{Q:VK}{us:List Dt}{x:Dt}{m:M (List Dt)} (h:PostC K cls A E H1 Q us (m.bd fun xs=>.ok (x::xs))):PostC K cls A E H1 Q (us++[x]) m:=by
 cases m with
 |ok ws=>
  have h:∀v H',Same H1 H'->Rep K (hid H' A) (.lst (us++(x::ws))) v->sms (us++(x::ws))->(us++(x::ws)).length<=10000->Q v H':=h
  show ∀v H',Same H1 H'->Rep K (hid H' A) (.lst ((us++[x])++ws)) v->sms ((us++[x])++ws)->((us++[x])++ws).length<=10000->Q v H'
  rw [List.append_assoc]
  exact h
 |ex c=>exact h
 |bad=>exact h
theorem rd_compX {K:PySem.W.Frag}{cls:Nat->Addr}{E:XK}{k:Nat}{fr:List Nat}{g:GM}{tc:Rho->M Bool}{te:Rho->M Dt}{O A:List Addr}{ρ:Rho}{σ:St}{J:It}{H1:Hp}{Q:VK}{ds:List Dt} (F:Fit K O A ρ σ H1) (hk:GK k g) (hJ:ItD K A J ds H1)
  (hx:PostC K cls A E H1 Q [] (comX g tc te (startR k fr ρ) ds)):rdComp k fr (gM K g) (tMB K cls E tc) (tM K cls E te) σ J H1 Q:=by
 intro D hD
 have hDA:D∉A:=F.liv.fresh hD
 have ho:∀(i:Nat) b,(startR k fr ρ)[i]?=some b->isOw b=true∨(∃p x y,b=.bor p x y)->False:=fun i b h o=>by
  rcases startR_val h with z | ⟨j,m,d',_,_,_,z⟩ <;> rw [z] at o <;> rcases o with o | ⟨p,x,y,o⟩ <;> cases o
 have s0:Same H1 (upd H1 D (.lst [])):=.upd hD
 have sD:∀{H'},Same H1 H'->Same (hid H1 A) (hid H' (D::A)):=fun {H'} s b o e=>by
  obtain⟨h1,h2⟩:=of_hid e
  have hb:b∉D::A:=fun z=>by
   rcases List.mem_cons.mp z with z | z
   ·subst z; rw [hD] at h2; cases h2
   ·exact h1 z
  rw [hid_ne hb]
  exact s b o h2
 have FD:Fit K [] (D::A) (startR k fr ρ) (startC k fr σ) (upd H1 D (.lst [])):=by
  have F1:=F.startC k fr
  refine⟨F1.len,(F.liv.mono s0).cons upd_same,(fun a z=>nomatch z),fun i d h=>?_,fun i b h o=>(ho i b h (.inl o)).elim,fun i _ b _ _ _ _ h _ o=>(ho i b h (.inl o)).elim,fun i p x y h=>(ho i _ h (.inr ⟨p,x,y,rfl⟩)).elim⟩
  obtain⟨v,h1,h2,h3⟩:=F1.val i d h
  exact⟨v,h1,h2.mono (sD s0),h3⟩
 refine⟨fun i m ys σ' H'=>i<=ds.length/\m=ds.length - i/\H' D=some (.lst ys)/\Same H1 H'/\Fit K [] (D::A) (startR k fr ρ) σ' H'/\∃us,PostC K cls A E H1 Q us (comX g tc te (startR k fr ρ) (ds.drop i))/\Reps K (hid H' (D::A)) us ys/\sms us/\us.length<=i,
  ⟨ds.length,Nat.zero_le _,rfl,upd_same,s0,FD,[],hx,.nil,trivial,Nat.zero_le _⟩,?_⟩
 rintro i m ys σ' H' ⟨hi,rfl,hD',sm',F',us,hw,ru,zu,lu⟩
 refine⟨hD',?_⟩
 have few:=hJ.few
 by_cases hlt:i<ds.length
 ·refine .inr ⟨hJ.go i H' hlt (hid_same.trans sm'),ds.length - (i+1),by omega,fun x H2 y=>?_⟩
  obtain⟨sy,d,hd,rd⟩:=hJ.yl i H' x H2 (D::A) hlt F'.liv (sD sm') y
  have hd0:ds.drop i=d::ds.drop (i+1):=by
   rw [List.drop_eq_getElem_cons hlt]
   congr 1
   have:=List.getElem?_eq_getElem hlt
   rw [hd] at this
   exact(Option.some.inj this).symm
  rw [hd0] at hw
  unfold comX at hw
  cases hg:g d (startR k fr ρ) with
  |ex c=>rw [hg] at hw; exact(show False from hw).elim
  |bad=>rw [hg] at hw; exact(show False from hw).elim
  |ok ρ1=>
   rw [hg] at hw
   simp only [calm_ok,bd_ok] at hw
   refine⟨[],D::A,_,d,F'.mono sy,rd,sms_mem hJ.small (List.mem_of_getElem? hd),ρ1,hg,fun σ2 F2=>?_⟩
   obtain⟨k1,k2⟩:=hk d _ _ hg
   have bk:∀{σ3 H3},Fit K [] (D::A) ρ1 σ3 H3->Fit K [] (D::A) (startR k fr ρ) σ3 H3:=fun F3=>F3.back k1 (fun j e hj=>by
    have hkj:k<=j:=by
     by_cases z:j<k
     ·rw [startR_no z] at hj; cases hj
     ·omega
    rw [k2 j hkj]
    exact hj) ho
   refine⟨[],D::A,ρ1,F2,?_⟩
   cases ht:tc ρ1 with
   |ex c=>rw [ht] at hw; exact fun H4 s4=>hw H4 ((sm'.trans sy).trans s4)
   |bad=>rw [ht] at hw; exact(show False from hw).elim
   |ok b=>
    rw [ht] at hw
    simp only [bd_ok] at hw
    intro H4 s4
    cases b with
    |false=>
     simp only [Bool.false_eq_true,if_false] at hw ⊢
     have s24:=sy.trans s4
     exact⟨hlt,trivial,s24 _ _ hD',sm'.trans s24,bk (F2.mono s4),us,hw,ru.mono (s24.hid _),zu,by omega⟩
    |true=>
     simp only [if_true] at hw ⊢
     refine⟨[],D::A,ρ1,F2.mono s4,?_⟩
     cases hte:te ρ1 with
     |ex c=>rw [hte] at hw; exact fun H5 s5=>hw H5 (((sm'.trans sy).trans s4).trans s5)
     |bad=>rw [hte] at hw; exact(show False from hw).elim
     |ok x'=>
      rw [hte] at hw
      simp only [bd_ok] at hw
      intro v H5 s5 r5 z5
      have s25:=(sy.trans s4).trans s5
      have hl:=ru.length
      refine⟨s25 _ _ hD',Nat.lt_of_le_of_lt (by omega:ys.length<=10000) (by decide),hlt,trivial,upd_same,fun b o e=>?_,?_,us++[x'],hw.cons,?_,sms_append zu ⟨z5,trivial⟩,by simp; omega⟩
      ·rw [upd_ne (ne_of_none e hD)]
       exact s25 b o (sm' b o e)
      ·have F5:=bk ((F2.mono s4).mono s5)
       refine⟨F5.len,fun a' ha=>?_,(fun a z=>nomatch z),fun j e h=>?_,fun j b h o=>(ho j b h (.inl o)).elim,fun j _ b _ _ _ _ h _ o=>(ho j b h (.inl o)).elim,fun j p x y h=>(ho j _ h (.inr ⟨p,x,y,rfl⟩)).elim⟩
       ·by_cases hz:a'=D
        ·rw [hz,upd_same]; simp
        ·rw [upd_ne hz]; exact F5.liv a' ha
       ·rw [hid_upd_in List.mem_cons_self]
        exact F5.val j e h
      ·rw [hid_upd_in List.mem_cons_self]
       exact(ru.mono (s25.hid _)).append (.cons r5 .nil)
 ·have e:i=ds.length:=by omega
  subst e
  rw [List.drop_length] at hw
  have hw:∀v H',Same H1 H'->Rep K (hid H' A) (.lst (us++[])) v->sms (us++[])->(us++[]).length<=10000->Q v H':=hw
  rw [List.append_nil] at hw
  have hl:=ru.length
  refine .inl ⟨hJ.stop H' (hid_same.trans sm'),hw (.ref D) H' sm' (rep_lst (by rw [hid_ne hDA]; exact hD') (ru.mono fun b o e=>?_)) zu (by omega)⟩
  obtain⟨h1,h2⟩:=of_hid e
  rw [hid_ne fun z=>h1 (List.mem_cons_of_mem _ z)]
  exact h2
section
variable {X:Cx}{cls:Nat->Addr}{E:XK}{a b c:Expr}{f:Rho->M Dt}{pos:Pos}{scope:Scope}{N:List Str}{k:Nat}{fr:List Nat}{tg iter elt:Expr}{ifs:List Expr}{ι:IM}{g:GM}{tc:Rho->M Bool}{te:Rho->M Dt}
theorem t_compX (hk:GK k g) (σ:St) (H:Hp) (Q:VK) (q:tM X.K cls E (pCompX k fr ι g tc te) σ H Q):tComp k fr (iM X.K cls E ι) (gM X.K g) (tMB X.K cls E tc) (tM X.K cls E te) σ H Q:=by
 obtain⟨O,A,ρ,F,q⟩:=q
 refine⟨O,A,ρ,F,Rg.bind q fun ds _ q1=>?_⟩
 intro J H1 s1 hJ
 refine rd_compX (F.mono s1) hk hJ ?_
 cases hm:comX g tc te (startR k fr ρ) ds with
 |ok xs=>
  have q2:Res X.K cls A E (szL xs) H Q:=by rw [hm] at q1; exact q1
  intro v H' s' r z zl
  rw [List.nil_append] at r z zl
  unfold szL at q2
  rw [if_pos zl] at q2
  exact q2 v H' (s1.trans s') r ⟨zl,z⟩
 |ex c=>rw [hm] at q1; exact fun H' s'=>q1 H' (s1.trans s')
 |bad=>rw [hm] at q1; exact(show False from q1).elim
theorem ev_compX (hX:X.A.frames=some X.stack->(∀b∈frs X.outer,X.H₀ b=none)->Plain X E) (hk:GK k g) (hc:X.calm=true) (S:CScope X scope N k fr) (hi:Iv X cls E tg iter ι) (hg:∀pins fp s H,PG (cxX X E scope N pins fp s H) tg (gM X.K g)) (ht:∀pins fp s H,PTs (cxX X E scope N pins fp s H) ifs (tMB X.K cls E tc))
  (he:∀pins fp s H,PE (cxX X E scope N pins fp s H) elt (tM X.K cls E te)) (hs:∀x,foldedSetIterable iter X.env x=pure x:=by intro _; rfl):Ev X cls E (.ListComp elt [⟨tg,iter,ifs,0⟩] scope pos) (pCompX k fr ι g tc te):=
 (pe_compX hX hc S hi hg ht he hs).imp (t_compX hk)
end
section
variable {X:Cx}{cls:Nat->Addr}{E:XK}{a b c o e:Expr}{f g h:Rho->M Dt}{pos apos spos:Pos}{i j k:Nat}{m:Str}{ps:List Str}{es:List Expr}{fs:Rho->M (List Dt)}
theorem ev_rdL {pl:Sem Bool}{F:List Dt->List Dt->M Dt} (C:CalB X.prog X.w X.K X.mg X.base k m ps (spR X.K cls (wLst X.K) F)) (hr:Room k X.A) (hx:Passes (CX1 X.prog X.w) X E) (ho:PE X o (tVar i)) (hm1:(m==("done" : Str))=false:=by decide +kernel) (hm2:(m==("undone" : Str))=false:=by decide +kernel)
  (ht:eval (.Call (.Attribute o m apos) [] [] pos) X.env=(do
   let ov ← eval o X.env
   standAt apos.atName
   let (f,first) ← holding [ov] (getMethod ov m pl)
   callWith pos f first (backTo pos (starEach [] X.env)) (backToKw pos (keywordEach [] X.env))):=by rfl):Ev X cls E (.Call (.Attribute o m apos) [] [] pos) (pRd i F):=
 (pe_mth0 C hr hx ho ht).imp fun σ H Q ⟨O,A,ρ,Ft,q⟩=>t_rd hm1 hm2 Ft (Rg.ok q fun d _ p v H' s w z=>p v H' s w.1 z)
theorem pe_mthN {pl:Sem Bool}{sp:Sp} (C:CalB X.prog X.w X.K X.mg X.base k m ps sp) (hr:Room k X.A) (hx:Passes (CX1 X.prog X.w) X E) (ho:PE X o (tVar i))
  (ht:eval (.Call (.Attribute o m apos) [] [] pos) X.env=(do
   let ov ← eval o X.env
   standAt apos.atName
   let (f,first) ← holding [ov] (getMethod ov m pl)
   callWith pos f first (backTo pos (starEach [] X.env)) (backToKw pos (keywordEach [] X.env))):=by rfl):PE X (.Call (.Attribute o m apos) [] [] pos) (tMthB X.K m sp E i (tMA X.K cls E aNil)):=
 (pe_mth0 C hr hx ho ht).imp fun σ H Q ⟨v,a,C',dx,fs',g1,z1,z2,z3,z4,O,A,ρ,F,q⟩=>⟨v,a,C',dx,fs',g1,z1,z2,z3,z4,q [] H (.refl _) .nil trivial⟩
theorem Sto.mt {K:PySem.W.Frag}{Hin:Hp}{A₀ os:List Addr}{ρ:Rho}{σ:St}{H H1 H2:Hp}{v:V}{x y x' y':List Dt} (S:Sto K Hin A₀ os ρ σ H) (hρ:ρ[i]?=some (.brd x y)) (g1:σ[i]?=some (some v)) (hb:BrdAt K (os++A₀) H v x y) (g3:∀a∈fpOf H v (.brd x y),a∈os) (s1:Same H H1)
  (s2:Same (hid H1 (fpOf H1 v (.brd x y))) H2) (b2:BrdAt K (os++A₀) H2 v x' y') (f2:fpOf H2 v (.brd x y)=fpOf H1 v (.brd x y)):Sto K Hin A₀ os (ρ.set i (.brd x' y')) σ H2:=by
 have Ft:=S.2.2.2
 have F1:=Ft.mono s1
 have e1:fpOf H1 v (.brd x y)=fpOf H v (.brd x y):=hb.fp s1
 have inO:∀b∈fpOf H1 v (.brd x y),b∈os:=fun b hb=>g3 b (by rw [← e1]; exact hb)
 have k2:∀b,b∉fpOf H1 v (.brd x y)->H1 b≠none->H2 b=H1 b:=fun b hb hn=>by
  cases ee:H1 b with
  |none=>exact(hn ee).elim
  |some o=>exact s2 b o (by rw [hid_ne hb]; exact ee)
 refine⟨fun b o ee=>?_,S.2.1,S.2.2.1,?_⟩
 ·have e2:=s1 b o (S.1 b o ee)
  rw [k2 b (fun z=>by rw [S.2.2.1 b (inO b z)] at ee; cases ee) (by rw [e2]; simp)]
  exact e2
 ·have hfp:fpAt ρ σ H1 i=fpOf H1 v (.brd x y):=fpAt_is hρ g1 rfl
  have F2:=F1.set (i:=i) (v':=v) (b':=.brd x' y') (O':=os) (A':=os++A₀) (H':=H2) (fun b hb=>?_) F1.sub (fun b o ee=>?_) (fun b hb hn=>⟨hb,k2 b (by rw [← hfp]; exact hn) (F1.liv b (F1.sub b hb))⟩) (fun b hb hn=>⟨hb,hn,k2 b (fun z=>hn (inO b z)) (F1.liv b hb)⟩) (.inr ⟨b2.1,fun b hb=>?_⟩)
  ·rwa [set_same g1] at F2
  ·by_cases hf:b∈fpOf H1 v (.brd x y)
   ·refine b2.1.live (a:=b) ?_
    rw [fp_c (x':=x) (y':=y),f2]
    exact hf
   ·rw [k2 b hf (F1.liv b hb)]
    exact F1.liv b hb
  ·obtain⟨e3,e4⟩:=of_hid ee
   rw [hid_ne e3,k2 b (fun z=>e3 (List.mem_append_left _ (inO b z))) (by rw [e4]; simp)]
   exact e4
  ·rw [fp_c (x':=x) (y':=y),f2] at hb
   exact⟨inO b hb,.inr (by rw [hfp]; exact hb)⟩
noncomputable def PostM (K:PySem.W.Frag) (cls:Nat->Addr) (E:XK) (Hin:Hp) (A₀:List Addr) (σ:St) (Q:VK):M (Dt×Rho)->Prop
 |.ok r=>∀u H' os,Sto K Hin A₀ os r.2 σ H'->Rep K (hid H' (os++A₀)) r.1 u->sm r.1->Q u H'
 |.ex c=>∀H',Same Hin H'->E (.ref (cls c)) none H'
 |.bad=>False
theorem t_mt {F:BM}{σ:St}{H:Hp}{Q:VK}{Hin:Hp}{A₀:List Addr}{ρ:Rho} (hm1:(m==("done" : Str))=false) (hm2:(m==("undone" : Str))=false) (S:Stt X.K Hin A₀ ρ σ H)
  (q:PostM X.K cls E Hin A₀ σ Q (mtR i ρ F (fs ρ) ρ[i]?)):tMthB X.K m (spB X.K cls fun _=>F) E i (tMA X.K cls E fs) σ H Q:=by
 obtain⟨os,S⟩:=S
 have Ft:=S.2.2.2
 unfold mtR at q
 split at q
 rotate_left
 ·exact q.elim
 rename_i x y hρ
 obtain⟨v,g1,g2,g3⟩:=Ft.ow i _ hρ rfl
 have hb:BrdAt X.K (os++A₀) H v x y:=⟨g2,fun a ha=>Ft.sub a (g3 a ha)⟩
 obtain⟨a,C',dx,fs',z1,z2,z3,z4⟩:=hb.look hm1 hm2
 refine⟨v,a,C',dx,fs',g1,z1,z2,z3,z4,os,os++A₀,ρ,Ft,?_⟩
 cases hm:fs ρ with
 |ex c=>rw [hm] at q; exact fun H' s'=>q H' (S.1.trans s')
 |bad=>rw [hm] at q; exact q
 |ok ds=>
  rw [hm] at q
  intro vs H1 s1 r1 zz1
  refine⟨a,v,vs,os++A₀,x,y,ds,rfl,z1,Ft.liv.mono s1,hb.mono s1,r1,zz1,?_⟩
  show Rg cls E (F x y ds) H1 _
  simp only [bd_ok] at q
  cases hF:F x y ds with
  |ex c=>rw [hF] at q; exact fun H' s'=>q H' ((S.1.trans s1).trans s')
  |bad=>rw [hF] at q; exact q
  |ok r=>
   rw [hF] at q
   intro u H2 s2 b2 f2 ru zu
   exact q u H2 os (S.mt hρ g1 hb g3 s1 s2 b2 f2) ru zu
theorem sv_mt0 {pl:Sem Bool}{F:BM} (C:CalB X.prog X.w X.K X.mg X.base k m ps (spB X.K cls fun _=>F)) (hr:Room k X.A) (hx:Passes (CX1 X.prog X.w) X E) (ho:PE X o (tVar i)) (hm1:(m==("done" : Str))=false:=by decide +kernel) (hm2:(m==("undone" : Str))=false:=by decide +kernel)
  (hs:swapsWith (.Call (.Attribute o m apos) [] [] pos) none spos.line X.env=pure false:=by rfl)
  (ht:eval (.Call (.Attribute o m apos) [] [] pos) X.env=(do
   let ov ← eval o X.env
   standAt apos.atName
   let (f,first) ← holding [ov] (getMethod ov m pl)
   callWith pos f first (backTo pos (starEach [] X.env)) (backToKw pos (keywordEach [] X.env))):=by rfl):Sv X cls E (.Expr (.Call (.Attribute o m apos) [] [] pos) spos) (sMt i F aNil):=
 (ps_expr (pe_mthN (cls:=cls) (pl:=pl) C hr hx ho ht) hs).imp fun D σ H ⟨Hin,A₀,ρ,S,q⟩=>by
 refine t_mt (fs:=aNil) hm1 hm2 S ?_
 unfold sMt mtK at q
 unfold mtR
 split at q
 ·rename_i x y hρ
  have q:SRes X.K cls E Hin A₀ ((F x y []).bd fun r=>.ok (.nx (ρ.set i (.brd r.2.1 r.2.2)))) D:=q
  show PostM X.K cls E Hin A₀ σ _ ((F x y []).bd fun r=>.ok (r.1,ρ.set i (.brd r.2.1 r.2.2)))
  cases hF:F x y [] with
  |ok r=>rw [hF] at q; exact fun u H' os S' _ _=>q σ H' ⟨os,S'⟩
  |ex c=>rw [hF] at q; exact q
  |bad=>rw [hF] at q; exact q
 ·exact q.elim
theorem t_mtX {F:BM}{σ:St}{H:Hp}{Q:VK} (hm1:(m==("done" : Str))=false) (hm2:(m==("undone" : Str))=false) (q:tM X.K cls E (pMtX i F fs) σ H Q):tMthB X.K m (spB X.K cls fun _=>F) E i (tMA X.K cls E fs) σ H Q:=by
 obtain⟨O,A,ρ,Ft,q⟩:=q
 unfold pMtX exBK at q
 split at q
 rotate_left
 ·exact(show False from q).elim
 rename_i p hb
 obtain⟨x,y⟩:=p
 obtain⟨v,g1,hb⟩:=Ft.see hb
 obtain⟨a,C',dx,fs',z1,z2,z3,z4⟩:=hb.look hm1 hm2
 refine⟨v,a,C',dx,fs',g1,z1,z2,z3,z4,O,A,ρ,Ft,Rg.bind q fun ds _ q1=>?_⟩
 intro vs H1 s1 r1 zz1
 refine⟨a,v,vs,A,x,y,ds,rfl,z1,Ft.liv.mono s1,hb.mono s1,r1,zz1,?_⟩
 show Rg cls E (F x y ds) H1 _
 have q1:Rg cls E (exB (F x y ds)) H _:=q1
 cases hF:F x y ds with
 |ex c=>rw [hF] at q1; exact fun H' s'=>q1 H' (s1.trans s')
 |bad=>rw [hF] at q1; exact(show False from q1).elim
 |ok r=>rw [hF] at q1; exact(show False from q1).elim
theorem ev_mtX {pl:Sem Bool}{F:BM} (C:CalB X.prog X.w X.K X.mg X.base k m ps (spB X.K cls fun _=>F)) (hr:Room k X.A) (hx:Passes (CX1 X.prog X.w) X E) (ho:PE X o (tVar i)) (ha:Av X cls E (e::es) fs) (hm1:(m==("done" : Str))=false:=by decide +kernel) (hm2:(m==("undone" : Str))=false:=by decide +kernel)
  (hst:starEach (e::es) X.env=(false,eval e X.env)::starEach es X.env:=by rfl) (hpl:(backTo pos (starEach es X.env)).any (·.1)=false:=by rfl)
  (ht:eval (.Call (.Attribute o m apos) (e::es) [] pos) X.env=(do
   let ov ← eval o X.env
   standAt apos.atName
   let (f,first) ← holding [ov] (getMethod ov m pl)
   callWith pos f first (backTo pos (starEach (e::es) X.env)) (backToKw pos (keywordEach [] X.env))):=by rfl):Ev X cls E (.Call (.Attribute o m apos) (e::es) [] pos) (pMtX i F fs):=
 (pe_mth (pl:=pl) C hr hx ho ha hst hpl ht).imp fun σ H Q q=>t_mtX hm1 hm2 q
noncomputable def PostB (K:PySem.W.Frag) (cls:Nat->Addr) (E:XK) (Hin:Hp) (A₀:List Addr) (σ:St) (Q:Bool->Hp->Prop):M (Bool×Rho)->Prop
 |.ok r=>∀H',Stt K Hin A₀ r.2 σ H'->Q r.1 H'
 |.ex c=>∀H',Same Hin H'->E (.ref (cls c)) none H'
 |.bad=>False
noncomputable def tBB (K:PySem.W.Frag) (cls:Nat->Addr) (E:XK) (F:TB):TT:=fun σ H Q=>∃Hin A₀ ρ,Stt K Hin A₀ ρ σ H/\PostB K cls E Hin A₀ σ Q (F ρ)
noncomputable abbrev Tb (X:Cx) (cls:Nat->Addr) (E:XK) (e:Expr) (F:TB):Prop:=PT X e (tBB X.K cls E F)
theorem tb_pure {f:Rho->M Bool} (h:Tv X cls E a f):Tb X cls E a (tbP f):=h.imp fun σ H Q h_=>by
 obtain⟨Hin,A₀,ρ,⟨os,S⟩,q⟩:=h_
 refine⟨os,os++A₀,ρ,S.2.2.2,?_⟩
 unfold tbP at q
 cases hf:f ρ with
 |ok b=>rw [hf] at q; exact fun H' s'=>q H' ⟨os,S.mono s'⟩
 |ex c=>rw [hf] at q; exact fun H' s'=>q H' (S.1.trans s')
 |bad=>rw [hf] at q; exact q
theorem t_cmpM {F:BM}{r:R2}{op:Dt->Dt->M Dt} (ho:∀A H Q d1 d2 x y,Liv H A->Rep X.K (hid H A) d1 x->Rep X.K (hid H A) d2 y->sm d1->sm d2->Res X.K cls A E (op d1 d2) H Q->r x y H Q) (hm1:(m==("done" : Str))=false) (hm2:(m==("undone" : Str))=false) {σ:St} {H:Hp} {Q:Bool->Hp->Prop}
  (q:tBB X.K cls E (tbM i F fs op g) σ H Q):tTest (tOp r (tMthB X.K m (spB X.K cls fun _=>F) E i (tMA X.K cls E fs)) (tM X.K cls E g)) σ H Q:=by
 obtain⟨Hin,A₀,ρ,S,q⟩:=q
 refine t_mt hm1 hm2 S ?_
 unfold tbM at q
 cases hm:mtR i ρ F (fs ρ) ρ[i]? with
 |ex c=>rw [hm] at q; exact q
 |bad=>rw [hm] at q; exact q
 |ok p=>
  obtain⟨d,ρ'⟩:=p
  rw [hm] at q
  intro u H' os S' ru zu
  refine⟨os,os++A₀,ρ',S'.2.2.2,?_⟩
  have q:PostB X.K cls E Hin A₀ σ Q ((g ρ').bd fun d2=>(op d d2).bd (blK ρ')):=q
  cases hg:g ρ' with
  |ex c=>rw [hg] at q; exact fun H2 s2=>q H2 (S'.1.trans s2)
  |bad=>rw [hg] at q; exact q
  |ok d2=>
   rw [hg] at q
   intro v H2 s2 rv zv
   have q:PostB X.K cls E Hin A₀ σ Q ((op d d2).bd (blK ρ')):=q
   refine ho (os++A₀) H2 _ d d2 u v (S'.2.2.2.liv.mono s2) (ru.mono (s2.hid _)) rv zu zv ?_
   cases hop:op d d2 with
   |ex c=>rw [hop] at q; exact fun H3 s3=>q H3 ((S'.1.trans s2).trans s3)
   |bad=>rw [hop] at q; exact q
   |ok d3=>
    rw [hop] at q
    intro w3 H3 s3 r3 z3
    cases d3 with
    |bl b=>
     simp only [Rep] at r3
     exact⟨b,r3,q H3 ⟨os,(S'.mono s2).mono s3⟩⟩
    |_=>exact(show False from q).elim
theorem tb_cmpM {o':CmpOp}{op:Dt->Dt->M Dt}{pl:Sem Bool}{F:BM}{cpos:Pos} (hop:OpD X cls E (compareOp o') op) (C:CalB X.prog X.w X.K X.mg X.base k m ps (spB X.K cls fun _=>F)) (hr:Room k X.A) (hx:Passes (CX1 X.prog X.w) X E) (ho:PE X o (tVar i)) (ha:Av X cls E (e::es) fs) (hb:Ev X cls E b g) (hm:behindInMarks o' b=false)
  (hm1:(m==("done" : Str))=false:=by decide +kernel) (hm2:(m==("undone" : Str))=false:=by decide +kernel)
  (hst:starEach (e::es) X.env=(false,eval e X.env)::starEach es X.env:=by rfl) (hpl:(backTo pos (starEach es X.env)).any (·.1)=false:=by rfl)
  (ht:eval (.Call (.Attribute o m apos) (e::es) [] pos) X.env=(do
   let ov ← eval o X.env
   standAt apos.atName
   let (f,first) ← holding [ov] (getMethod ov m pl)
   callWith pos f first (backTo pos (starEach (e::es) X.env)) (backToKw pos (keywordEach [] X.env))):=by rfl):Tb X cls E (.Compare (.Call (.Attribute o m apos) (e::es) [] pos) [o'] [b] cpos) (tbM i F fs op g):=by
 obtain⟨r,h1,h2⟩:=hop
 exact(pt_cmpR h1 (pe_mth (pl:=pl) C hr hx ho ha hst hpl ht) hb hm).imp fun σ H Q q=>t_cmpM h2 hm1 hm2 q
theorem tb_cmpM0 {o':CmpOp}{op:Dt->Dt->M Dt}{pl:Sem Bool}{F:BM}{cpos:Pos} (hop:OpD X cls E (compareOp o') op) (C:CalB X.prog X.w X.K X.mg X.base k m ps (spB X.K cls fun _=>F)) (hr:Room k X.A) (hx:Passes (CX1 X.prog X.w) X E) (ho:PE X o (tVar i)) (hb:Ev X cls E b g) (hm:behindInMarks o' b=false)
  (hm1:(m==("done" : Str))=false:=by decide +kernel) (hm2:(m==("undone" : Str))=false:=by decide +kernel)
  (ht:eval (.Call (.Attribute o m apos) [] [] pos) X.env=(do
   let ov ← eval o X.env
   standAt apos.atName
   let (f,first) ← holding [ov] (getMethod ov m pl)
   callWith pos f first (backTo pos (starEach [] X.env)) (backToKw pos (keywordEach [] X.env))):=by rfl):Tb X cls E (.Compare (.Call (.Attribute o m apos) [] [] pos) [o'] [b] cpos) (tbM i F aNil op g):=by
 obtain⟨r,h1,h2⟩:=hop
 exact(pt_cmpR h1 (pe_mthN (cls:=cls) (pl:=pl) C hr hx ho ht) hb hm).imp fun σ H Q q=>t_cmpM h2 hm1 hm2 q
theorem t_orB {F G:TB}{σ:St}{H:Hp}{Q:Bool->Hp->Prop} (q:tBB X.K cls E (tbO F G) σ H Q):tOr (tBB X.K cls E F) (tBB X.K cls E G) σ H Q:=by
 obtain⟨Hin,A₀,ρ,S,q⟩:=q
 refine⟨Hin,A₀,ρ,S,?_⟩
 unfold tbO at q
 cases hF:F ρ with
 |ex c=>rw [hF] at q; exact q
 |bad=>rw [hF] at q; exact q
 |ok p=>
  obtain⟨b,ρ'⟩:=p
  rw [hF] at q
  intro H' S'
  have q:PostB X.K cls E Hin A₀ σ Q (if b=true then .ok (true,ρ') else G ρ'):=q
  cases b with
  |true=>
   rw [if_pos rfl] at q
   simp only [if_true]
   exact q H' S'
  |false=>
   rw [if_neg (by decide)] at q
   simp only [Bool.false_eq_true,if_false]
   exact⟨Hin,A₀,ρ',S',q⟩
theorem wb_or1 {F:TB} (ha:Tb X cls E a F):PW X (.BoolOp .Or [a] pos) (tBB X.K cls E F):=pw_or1 ha
theorem wb_or {F G:TB}{rest:List Expr} (ha:Tb X cls E a F) (hb:PW X (.BoolOp .Or (b::rest) pos) (tBB X.K cls E G)):PW X (.BoolOp .Or (a::b::rest) pos) (tBB X.K cls E (tbO F G)):=(pw_or ha hb).imp fun _ _ _ q=>t_orB q
theorem sv_ifB {F:TB}{s t:SM}{sa sb:List Stmt} (hc:Tb X cls E c F) (ha:Bv X cls E sa s) (hb:Bv X cls E sb t):Sv X cls E (.If c sa sb pos) (sIfB F s t):=(ps_if hc ha hb).imp fun D σ H h_=>by
 obtain⟨Hin,A₀,ρ,S,q⟩:=h_
 refine⟨Hin,A₀,ρ,S,?_⟩
 unfold sIfB at q
 cases hF:F ρ with
 |ex c=>rw [hF] at q; exact q
 |bad=>rw [hF] at q; exact q
 |ok p=>
  obtain⟨b,ρ'⟩:=p
  rw [hF] at q
  intro H' S'
  have q:SRes X.K cls E Hin A₀ (if b=true then s ρ' else t ρ') D:=q
  cases b with
  |true=>rw [if_pos rfl] at q; simp only [if_true]; exact⟨Hin,A₀,ρ',S',q⟩
  |false=>rw [if_neg (by decide)] at q; simp only [Bool.false_eq_true,if_false]; exact⟨Hin,A₀,ρ',S',q⟩
end
noncomputable abbrev tLenV (K:PySem.W.Frag) (i:Nat):TE:=tCB (rLenQ K) (tCons (tVar i) tNil)
noncomputable abbrev tMove (K:PySem.W.Frag) (cls:Nat->Addr) (E:XK) (u:Rho->M Unit):TS:=tSeq (tIfS (tTest (tOp (rEqD K) (tLenV K 0) (tC (.int 0)))) (sM K cls E (sRz 7 u)) tNext) (tSeq (tAsg (tBM0 K "list" rPop (tVar 0)) (gName 2)) (tSeq (tDrop (tBM K "list" rAppend (tVar 1) (tCons (tVar 2) tNil)))
 (tSeq (tAsg (tOp (rIxT K) (tVar 2) (tC (.int 0))) (gName 3)) (tRet (tOp (rIxT K) (tVar 3) (tC (.int 0)))))))
noncomputable def spV (K:PySem.W.Frag) (cls:Nat->Addr):Sp:=fun vs H Q E=>∃a b xs ys,vs=[.ref a,.ref b]/\H a=some (.lst xs)/\H b=some (.lst ys)/\a≠b/\ys.length<sizeLine/\
 ((xs=[]/\∀H',Same H H'->E (.ref (cls 7)) none H')∨∃T T2 sh w r,xs[xs.length - 1]?=some (.ref T)/\SqT K H T [.ref T2,sh]/\SqT K H T2 (w::r)/\Q w (upd (upd H a (.lst xs.dropLast)) b (.lst (ys++[.ref T]))))
theorem sqT_upd {K:PySem.W.Frag}{H:Hp}{a T:Addr}{xs ys zs:List V} (h:H a=some (.lst ys)) (q:SqT K H T xs):SqT K (upd H a (.lst zs)) T xs:=by
 rcases q with (q | ⟨o,q⟩) | q
 ·exact .inl (.inl (by rw [upd_ne (ne_of q h (by simp))]; exact q))
 ·exact .inl (.inr ⟨o,by rw [upd_ne (ne_of q h (by simp))]; exact q⟩)
 ·exact .inr q
theorem at0 {α:Type}{w:α}{r:List α}:atI (w::r) 0=some w:=by
 unfold atI ixN
 rw [if_pos (by decide),if_pos (by simp)]
 rfl
theorem fit_no {K:PySem.W.Frag}{H:Hp}{σ:St}:Fit K [] [] (List.replicate σ.length .no) σ H:=by
 have no:∀{i:Nat} {b},(List.replicate σ.length Bd.no)[i]?=some b->b=.no:=fun {i b} h=>List.eq_of_mem_replicate (List.mem_of_getElem? h)
 refine⟨by simp,(fun a z=>nomatch z),(fun a z=>nomatch z),fun i d h=>?_,fun i b h o=>?_,fun i j b c v w _ h _ o=>?_,fun i p x y h=>?_⟩
 ·cases no h
 ·rw [no h] at o; cases o
 ·rw [no h] at o; cases o
 ·cases no h
section
variable {P:Program}{w:World}{K:PySem.W.Frag}{mg:Str->Option Value}{base:Heap}{cls:Nat->Addr}{x qual:Str}{st:Stmt}{f:Addr}{fd:FuncData}{k:Nat}
theorem move_ok {u:Rho->M Unit} (hu:∀ρ,u ρ=.ok ()) (F:Fun K x qual st f fd) (S:FnScope ["source","target","row","step"] ["source","target"] (defScope st))
  (hB:∀(cdv:Value) (A:Around) (outer:List Env) (s:Shared) (H:Hp) (E:XK),Room k (A.deeper (envOfC qual (defScope st) s.heap.objs.size f cdv))->Rz (cxOf (CX1 P w) P w K mg base ["source","target","row","step"] qual (defScope st) f cdv A outer s H E) E->
   PSs (cxOf (CX1 P w) P w K mg base ["source","target","row","step"] qual (defScope st) f cdv A outer s H E) (defBody st) (tMove K cls E u)):FnOk P w K mg base (CX1 P w) (k+1) f fd ["source","target"] (spV K cls):=by
 refine F.okX S (fun vs H Q E h=>by obtain⟨a,b,_,_,rfl,_⟩:=h; rfl) (fun cdv A outer s H vs Q E hr h R=>⟨_,hB cdv A outer s H E hr R,?_⟩) (fun z=>by injection z with z z2; cases z2)
 obtain⟨a,b,xs,ys,rfl,ha,hb,hab,hl,h⟩:=h
 refine⟨_,rfl,a,xs,rfl,.inl (.of ha),.int xs.length,.int 0,rep_int,rep_int,by show (0:Nat)<=50; decide,_,rfl,?_⟩
 rcases h with ⟨rfl,hE⟩ | ⟨T,T2,sh,w',r,hT,q1,q2,q⟩
 ·rw [show eqD (.int (([]:List V).length:Nat)) (.int 0)=true from rfl]
  simp only [if_true]
  refine⟨H,[],_,⟨[],.refl _,(fun a z=>nomatch z),(fun a z=>nomatch z),fit_no⟩,?_⟩
  show SRes K cls E H [] ((u _).bd fun _=>.ex 7) _
  rw [hu]
  exact hE
 ·have hne:xs≠[]:=fun z=>by rw [z] at hT; cases hT
  have hpos:0<xs.length:=List.length_pos_iff.mpr hne
  rw [show eqD (.int (xs.length:Nat)) (.int 0)=false from by
   show ((xs.length:Int)==0)=false
   rw [beq_eq_false_iff_ne]; omega]
  simp only [Bool.false_eq_true,if_false]
  refine⟨_,rfl,.inl ⟨rfl,xs,.of ha⟩,a,xs,.ref T,rfl,rfl,ha,hT,?_⟩
  have hb1:upd H a (.lst xs.dropLast) b=some (.lst ys):=by rw [upd_ne (Ne.symm hab)]; exact hb
  refine⟨_,rfl,.inl ⟨rfl,ys,.of hb1⟩,_,rfl,b,ys,.ref T,rfl,rfl,hb1,hl,?_⟩
  exact⟨_,rfl,T,_,0,.ref T2,rfl,rfl,sqT_upd hb1 (sqT_upd ha q1),rfl,_,rfl,T2,_,0,w',rfl,rfl,sqT_upd hb1 (sqT_upd ha q2),at0,q⟩
theorem brd_two {A:List Addr}{H H2:Hp}{a dx l m C:Addr}{xs' ys':List V}{x y x' y':List Dt} (hC:BrdC K C) (h1:H a=some (.ins C dx (brdF l m))) (h2:H dx=some (.own a)) (h3:H l=some (.lst xs)) (h4:H m=some (.lst ys)) (h5:l≠m) (aA:a∈A) (dA:dx∈A) (lA:l∈A) (mA:m∈A)
  (e1:H2 l=some (.lst xs')) (e2:H2 m=some (.lst ys')) (e3:∀b,b≠l->b≠m->H2 b=H b) (r1:Reps K (hid H A) x' xs') (z1:sms x') (n1:x'.length<=10000) (r2:Reps K (hid H A) y' ys') (z2:sms y') (n2:y'.length<=10000) :
  Same (hid H (fpOf H (.ref a) (.brd x y))) H2/\BrdAt K A H2 (.ref a) x' y'/\fpOf H2 (.ref a) (.brd x y)=fpOf H (.ref a) (.brd x y)/\Same (hid H A) (hid H2 A):=by
 have nal:a≠l:=ne_of h1 h3 (by simp)
 have nam:a≠m:=ne_of h1 h4 (by simp)
 have ndl:dx≠l:=ne_of h2 h3 (by simp)
 have ndm:dx≠m:=ne_of h2 h4 (by simp)
 have gA:H2 a=some (.ins C dx (brdF l m)):=by rw [e3 a nal nam]; exact h1
 have sA:Same (hid H A) (hid H2 A):=fun b o e=>by
  obtain⟨q1,q2⟩:=of_hid e
  rw [hid_ne q1,e3 b (fun z=>q1 (z ▸ lA)) (fun z=>q1 (z ▸ mA))]
  exact q2
 refine⟨fun b o e=>?_,⟨⟨a,dx,l,m,C,xs',ys',rfl,hC,gA,?_,e1,e2,h5,⟨r1.mono sA,z1,n1⟩,r2.mono sA,z2,n2⟩,?_⟩,?_,sA⟩
 ·rw [fp_brd h1] at e
  obtain⟨q1,q2⟩:=of_hid e
  simp only [List.mem_cons,List.not_mem_nil,or_false,not_or] at q1
  rw [e3 b q1.2.2.1 q1.2.2.2]
  exact q2
 ·rw [e3 dx ndl ndm]; exact h2
 ·rw [fp_brd gA]
  intro b hb
  simp only [List.mem_cons,List.not_mem_nil,or_false] at hb
  rcases hb with rfl | rfl | rfl | rfl <;> assumption
 ·rw [fp_brd gA,fp_brd h1]
theorem Reps.dropLast {H:Hp}:∀{x:List Dt}{xs:List V},Reps K H x xs->Reps K H x.dropLast xs.dropLast
 | [],xs,h=>by simp only [Reps] at h; subst h; exact .nil
 | [d],xs,h=>by
  simp only [Reps] at h
  obtain⟨v,r,rfl,_,rfl⟩:=h
  exact .nil
 |d::e::x,xs,h=>by
  simp only [Reps] at h
  obtain⟨v,r,rfl,h1,v2,r2,rfl,h2,h3⟩:=h
  have:Reps K H (e::x) (v2::r2):=.cons h2 h3
  exact .cons h1 this.dropLast
theorem last_rep {H:Hp}{x:List Dt}{xs:List V}{d:Dt} (r:Reps K H x xs) (h:x.getLast?=some d):∃u,xs[xs.length - 1]?=some u/\Rep K H d u:=by
 have hl:=r.length
 have hx:x≠[]:=fun z=>by rw [z] at h; cases h
 have hp:0<x.length:=List.length_pos_iff.mpr hx
 have hlt:xs.length - 1<xs.length:=by omega
 obtain⟨d',e1,e2⟩:=r.get (List.getElem?_eq_getElem hlt)
 rw [List.getLast?_eq_getElem?,hl,e1] at h
 cases h
 exact⟨_,List.getElem?_eq_getElem hlt,e2⟩
theorem sms_dropLast {x:List Dt} (z:sms x):sms x.dropLast:=sms_of fun d hd=>sms_mem z ((List.dropLast_sublist x).subset hd)
theorem move_pre {A:List Addr}{H:Hp}{a b:Addr}{xs ys:List V}{x y:List Dt}{E:XK}{Q:VK} (ha:H a=some (.lst xs)) (hb:H b=some (.lst ys)) (hab:a≠b) (r1:Reps K (hid H A) x xs) (z1:sms x) (n1:x.length<=10000) (r2:Reps K (hid H A) y ys) (z2:sms y) (n2:y.length<=10000)
  (q:Rg cls E (mvK x y x.getLast?) H fun r=>∀u xs' ys',Reps K (hid H A) r.2.1 xs'->sms r.2.1->r.2.1.length<=10000->Reps K (hid H A) r.2.2 ys'->sms r.2.2->r.2.2.length<=10000->Rep K (hid H A) r.1 u->sm r.1->Q u (upd (upd H a (.lst xs')) b (.lst ys'))):spV K cls [.ref a,.ref b] H Q E:=by
 have hl2:=r2.length
 refine⟨a,b,xs,ys,rfl,ha,hb,hab,Nat.lt_of_le_of_lt (by omega:ys.length<=10000) (by decide),?_⟩
 cases hx:x.getLast? with
 |none=>
  have e:x=[]:=List.getLast?_eq_none_iff.mp hx
  rw [hx] at q
  refine .inl ⟨?_,q⟩
  have:=r1.length
  rw [e] at this
  exact List.length_eq_zero_iff.mp this.symm
 |some d=>
  rw [hx] at q
  unfold mvK at q
  split at q
  ·rename_i e; cases e
  ·rename_i w' r' b' e
   cases e
   split at q
   ·rename_i hy
    obtain⟨u,hu,ru⟩:=last_rep r1 hx
    obtain⟨T,zs,rfl,t1,t2⟩:=repT ru
    obtain⟨v1,v2,rfl,t3,t4⟩:=reps2 t2
    obtain⟨T2,ws,rfl,t5,t6⟩:=repT t3
    simp only [Reps] at t6
    obtain⟨w1,r1',rfl,t7,t8⟩:=t6
    have zd:sm (.tup [.tup (w'::r'),b']):=sms_mem z1 (List.mem_of_getLast? hx)
    refine .inr ⟨T,T2,v2,w1,r1',hu,hid_same.seqT t1,hid_same.seqT t5,?_⟩
    exact q w1 _ _ r1.dropLast (sms_dropLast z1) (by simp; omega) (r2.append (.cons ru .nil)) (sms_append z2 ⟨zd,trivial⟩) (by simp; omega) t7 zd.2.1.2.1
   ·exact(show False from q).elim
  ·exact(show False from q).elim
noncomputable abbrev tBack (K:PySem.W.Frag) (cls:Nat->Addr) (E:XK) (g h:Str):TS:=tRet (tCall (spV K cls) [] E (tCons (tSelf K g) (tCons (tSelf K h) tNil)))
theorem back_ok (F:Fun K x qual st f fd) (S:FnScope ["self"] ["self"] (defScope st))
  (hB:∀(cdv:Value) (A:Around) (outer:List Env) (s:Shared) (H:Hp) (E:XK),Room k (A.deeper (envOfC qual (defScope st) s.heap.objs.size f cdv))->Rz (cxOf (CX1 P w) P w K mg base ["self"] qual (defScope st) f cdv A outer s H E) E->
   PSs (cxOf (CX1 P w) P w K mg base ["self"] qual (defScope st) f cdv A outer s H E) (defBody st) (tBack K cls E "done" "undone")):FnOk P w K mg base (CX1 P w) (k+1) f fd ["self"] (spB K cls fun _=>bBack):=by
 have one:∀{vs H Q E},(spB K cls fun _=>bBack) vs H Q E->∃v,vs=[v]:=fun {vs H Q E} h=>by
  obtain⟨p,v,ws,A,x,y,ds,rfl,_,L,hb,r,z,q⟩:=h
  simp only [bBack] at q
  split at q
  ·simp only [Reps] at r; subst r; exact⟨v,rfl⟩
  ·exact(show False from q).elim
 refine F.okX S (fun vs H Q E h=>by obtain⟨v,rfl⟩:=one h; rfl) (fun cdv A outer s H vs Q E hr h R=>⟨_,hB cdv A outer s H E hr R,?_⟩) (fun z=>by injection z with z; exact absurd z (by decide +kernel))
 obtain⟨p,v,ws,B,x,y,ds,rfl,_,L,hb,r,z,q⟩:=h
 obtain⟨a,dx,l,m,C,xs,ys,rfl,hC,h1,h2,h3,h4,h5,⟨h6,h7,h8⟩,⟨h9,h10,h11⟩,aB,dB,lB,mB⟩:=hb.parts
 simp only [bBack] at q
 split at q
 rotate_left
 ·exact(show False from q).elim
 simp only [Reps] at r
 subst r
 refine(show tSelf K "done" [some (.ref a)] H (fun z1 H1=>tSelf K "undone" [some (.ref a)] H1 fun z2 H2=>spV K cls [z1,z2] H2 Q E) from self_is rfl hC h1 (.inl ⟨rfl,rfl⟩) (self_is rfl hC h1 (.inr ⟨rfl,rfl⟩) ?_))
 refine move_pre (A:=B) h3 h4 h5 h6 h7 h8 h9 h10 h11 (Rg.ok q fun r _ p=>?_)
 intro u xs' ys' r1 z1 n1 r2 z2 n2 ru zu
 obtain⟨t1,t2,t3,t4⟩:=brd_two (x:=x) (y:=y) hC h1 h2 h3 h4 h5 aB dB lB mB (H2:=upd (upd H l (.lst xs')) m (.lst ys')) (by rw [upd_ne h5,upd_same]) upd_same (fun b q1 q2=>by rw [upd_ne q2,upd_ne q1]) r1 z1 n1 r2 z2 n2
 exact p u _ t1 t2 t3 (ru.mono t4) zu
theorem forth_ok (F:Fun K x qual st f fd) (S:FnScope ["self"] ["self"] (defScope st))
  (hB:∀(cdv:Value) (A:Around) (outer:List Env) (s:Shared) (H:Hp) (E:XK),Room k (A.deeper (envOfC qual (defScope st) s.heap.objs.size f cdv))->Rz (cxOf (CX1 P w) P w K mg base ["self"] qual (defScope st) f cdv A outer s H E) E->
   PSs (cxOf (CX1 P w) P w K mg base ["self"] qual (defScope st) f cdv A outer s H E) (defBody st) (tBack K cls E "undone" "done")):FnOk P w K mg base (CX1 P w) (k+1) f fd ["self"] (spB K cls fun _=>bForth):=by
 have one:∀{vs H Q E},(spB K cls fun _=>bForth) vs H Q E->∃v,vs=[v]:=fun {vs H Q E} h=>by
  obtain⟨p,v,ws,A,x,y,ds,rfl,_,L,hb,r,z,q⟩:=h
  simp only [bForth] at q
  split at q
  ·simp only [Reps] at r; subst r; exact⟨v,rfl⟩
  ·exact(show False from q).elim
 refine F.okX S (fun vs H Q E h=>by obtain⟨v,rfl⟩:=one h; rfl) (fun cdv A outer s H vs Q E hr h R=>⟨_,hB cdv A outer s H E hr R,?_⟩) (fun z=>by injection z with z; exact absurd z (by decide +kernel))
 obtain⟨p,v,ws,B,x,y,ds,rfl,_,L,hb,r,z,q⟩:=h
 obtain⟨a,dx,l,m,C,xs,ys,rfl,hC,h1,h2,h3,h4,h5,⟨h6,h7,h8⟩,⟨h9,h10,h11⟩,aB,dB,lB,mB⟩:=hb.parts
 simp only [bForth] at q
 split at q
 rotate_left
 ·exact(show False from q).elim
 simp only [Reps] at r
 subst r
 refine(show tSelf K "undone" [some (.ref a)] H (fun z1 H1=>tSelf K "done" [some (.ref a)] H1 fun z2 H2=>spV K cls [z1,z2] H2 Q E) from self_is rfl hC h1 (.inr ⟨rfl,rfl⟩) (self_is rfl hC h1 (.inl ⟨rfl,rfl⟩) ?_))
 refine move_pre (A:=B) h4 h3 (Ne.symm h5) h9 h10 h11 h6 h7 h8 (Rg.bind q fun r _ p=>?_)
 intro u xs' ys' r1 z1 n1 r2 z2 n2 ru zu
 obtain⟨t1,t2,t3,t4⟩:=brd_two (x:=x) (y:=y) hC h1 h2 h3 h4 h5 aB dB lB mB (H2:=upd (upd H m (.lst xs')) l (.lst ys')) upd_same (by rw [upd_ne (Ne.symm h5),upd_same]) (fun b q1 q2=>by rw [upd_ne q1,upd_ne q2]) r2 z2 n2 r1 z1 n1
 exact p u _ t1 t2 t3 (ru.mono t4) zu
end
section
variable {X:Cx}{cls:Nat->Addr}{E:XK}{a b:Expr}{f g:Rho->M Dt}{pos p apos:Pos}
theorem od_addT:OpD X cls E (binaryOp .Add) oAddT:=by
 refine⟨_,op_catT,fun A H Q d1 d2 x y L r1 r2 z1 z2 q=>?_⟩
 unfold oAddT at q
 split at q
 ·rename_i d r b'
  split at q
  ·rename_i hl
   obtain⟨p,xs,rfl,h1,h2⟩:=repT r1
   obtain⟨p',ys,rfl,h1',h2'⟩:=repT r2
   have e1:=h2.length
   have e2:=h2'.length
   have hz:sm (.tup ((d::r)++b')):=⟨by rw [List.length_append]; exact hl,sms_append z1.2 z2.2⟩
   refine⟨p,p',xs,ys,rfl,rfl,hid_same.seqT h1,hid_same.seqT h1',fun z=>(by rw [z] at e1; cases e1),sm10 (by omega),fun z=>?_,fun _ p2 hp2=>?_⟩
   ·subst z
    have:b'=[]:=List.length_eq_zero_iff.mp e2
    subst this
    exact q _ H (.refl _) (by rw [List.append_nil]; exact r1) hz
   ·exact q _ _ (.upd hp2) (rep_tup (hid_new L hp2) ((h2.append h2').mono ((Same.upd hp2).hid A))) hz
  ·exact(show False from q).elim
 ·exact(show False from q).elim
noncomputable def entI (P:Params) (q:List Nat×Tok×Int×Tok):DictEntry:=⟨PyData.keyHash P ⟨q.1.toArray⟩,.str ⟨q.1.toArray⟩ q.2.1,.int q.2.2.1 q.2.2.2⟩
noncomputable def DcI (w:World) (K:PySem.W.Frag) (a:Addr) (kvs:List (List Nat×Int)):Prop:=
 ∃(qs:List (List Nat×Tok×Int×Tok)) (ep:Nat),K.lookup a=some {cls:=.type "dict",dict:=none,data:=.dict (qs.map (entI w.params)).toArray ep,slots:=#[]}/\kvs=qs.map fun q=>(q.1,q.2.2.1)
theorem find_entI {P:Params}:∀(qs:List (List Nat×Tok×Int×Tok)) (l:List Nat),(∃i t,ilook (qs.map fun q=>(q.1,q.2.2.1)) l=some i/\((qs.map (entI P)).find? fun e=>Value.isStrOf ⟨l.toArray⟩ e.key).map (·.val)=some (.int i t))∨
  (ilook (qs.map fun q=>(q.1,q.2.2.1)) l=none/\((qs.map (entI P)).find? fun e=>Value.isStrOf ⟨l.toArray⟩ e.key).map (·.val)=none)
 | [],l=>.inr ⟨rfl,rfl⟩
 |q::qs,l=>by
  simp only [List.map_cons,ilook]
  rw [List.find?_cons]
  by_cases e:l=q.1
  ·rw [if_pos e]
   have:Value.isStrOf ⟨l.toArray⟩ (entI P q).key=true:=by simp [entI,Value.isStrOf,e]
   rw [this]
   exact .inl ⟨_,q.2.2.2,rfl,rfl⟩
  ·rw [if_neg e]
   have:Value.isStrOf ⟨l.toArray⟩ (entI P q).key=false:=by
    simp only [entI,Value.isStrOf]
    rw [beq_eq_false_iff_ne]
    intro z
    injection z with z
    exact e (by simpa using (congrArg Array.toList z).symm)
   rw [this]
   exact find_entI qs l
theorem dc_mapI {aD:Addr}{kvs:List (List Nat×Int)} (D:DcI X.w X.K aD kvs){pins:List (Addr×Obj)}{s:Shared}{σ:St}{H:Hp} (I:Inv X pins σ H s):∃f,s.heap.MapOf (strKind X.prog X.w) aD f/\∀l,(∃i t,ilook kvs l=some i/\f ⟨l.toArray⟩=some (.int i t))∨(ilook kvs l=none/\f ⟨l.toArray⟩=none):=by
 obtain⟨qs,ep,hk,rfl⟩:=D
 have ho:=I.kIn aD _ hk
 refine⟨fun k=>findBy Value.isStrOf (qs.map (entI X.w.params)).toArray k,⟨_,_,ep,ho,⟨rfl,rfl,rfl⟩,rfl,?_,fun _=>rfl⟩,fun l=>?_⟩
 ·intro e he
  have he':e∈qs.map (entI X.w.params):=by simpa using he
  obtain⟨q,_,rfl⟩:=List.mem_map.mp he'
  exact⟨⟨q.1.toArray⟩,strKind_is X.prog X.w _ _,key_hash _ _⟩
 ·have ht:=find_entI (P:=X.w.params) qs l
  have e:findBy Value.isStrOf (qs.map (entI X.w.params)).toArray ⟨l.toArray⟩=((qs.map (entI X.w.params)).find? fun e=>Value.isStrOf ⟨l.toArray⟩ e.key).map (·.val):=by
   unfold findBy
   rw [List.find?_toArray]
  show (∃i t,_/\findBy Value.isStrOf (qs.map (entI X.w.params)).toArray ⟨l.toArray⟩=some (.int i t))∨(_/\findBy Value.isStrOf (qs.map (entI X.w.params)).toArray ⟨l.toArray⟩=none)
  rw [e]
  exact ht
theorem ev_dgetI {x:Str}{aD:Addr}{kvs:List (List Nat×Int)} (D:DcI X.w X.K aD kvs) (hds:(aD==sysModules)=false) (hg:Gl X x) (hm:X.mg x=some (.ref aD)) (ha:Ev X cls E a f) (hsa:isStar a=false)
  (hbase:attributeBase (.Name x p) "get" X.env (eval (.Name x p) X.env)=eval (.Name x p) X.env:=by rfl) (hline:(apos.endLine==pos.line)=true:=by rfl) (hd:(x==("__debug__" : Str))=false:=by decide) :
  Ev X cls E (.Call (.Attribute (.Name x p) "get" apos) [a] [] pos) (p1 (dgI kvs) f):=by
 have hs:starEach [a] X.env=[(false,eval a X.env)]:=by rw [starEach_cons hsa]; rfl
 intro pins s σ H Q I ⟨O,A,ρ,F,q⟩
 refine wpAny_Call_method_late hbase (by rw [hs]; rfl) hline (trees:=[(false,eval a X.env)]) (by rw [hs]; rfl) (thn (pe_glob hg hm (v:=.ref aD) rfl hd pins s σ H (fun v H1=>v=.ref aD/\H1=H) I ⟨rfl,rfl⟩) fun v s1 ⟨x,H1,I1,r1,ex,eH⟩=>?_)
 subst ex eH
 cases r1
 obtain⟨f0,m0,_⟩:=dc_mapI D I1
 refine⟨"dict","dict.get",PySem.F.plainAttrs_dict,PySem.F.slot_dict_get,PySem.F.type_dict_get,m0.typeIs,m0.noDict,wpAny_dict_get1 (knd:=strKind X.prog X.w) hds ?_⟩
 refine thn (ha pins s1 σ H1 (fun x H2=>∃d,Same H1 H2/\Rep X.K (hid H2 A) d x/\sm d/\Res X.K cls A E (dgI kvs d) H2 Q) I1 ⟨O,A,ρ,F,Rg.bind q fun d _ q1=>?_⟩) fun u s2 ⟨x,H2,I2,r2,d,sm2,rp,zd,q2⟩=>?_
 ·intro x H2 s2 r2 z2
  exact⟨d,s2,r2,z2,Res.mono q1 s2⟩
 obtain⟨f3,m3,k1⟩:=dc_mapI D I2
 cases d with
 |str l=>
  obtain rfl:=repS rp
  obtain⟨t,rfl⟩:=r2
  refine⟨⟨l.toArray⟩,f3,strKind_is X.prog X.w _ _,m3,?_⟩
  have q2:Res X.K cls A E (.ok (ioD (ilook kvs l))) H2 Q:=q2
  rcases k1 l with ⟨i,t2,h1,h2⟩ | ⟨h1,h2⟩
  ·rw [h2]
   rw [h1] at q2
   exact fun ht=>⟨.int i,H2,I2.tok _,⟨_,rfl⟩,q2 _ H2 (.refl _) rep_int trivial⟩
  ·rw [h2]
   rw [h1] at q2
   exact fun ht=>⟨.non,H2,I2.tok _,rfl,q2 _ H2 (.refl _) rep_non trivial⟩
 |_=>exact(show False from q2).elim
theorem smT_of {l:List Nat} (h:smT l=true):l.length<=50/\∀c∈l,c<1000:=by
 unfold smT at h
 simp only [Bool.and_eq_true,decide_eq_true_eq] at h
 exact⟨h.1,fun c hc=>by simpa using List.all_eq_true.mp h.2 c hc⟩
theorem rt_len {l:List Nat} (h:smT l=true):(reprText ⟨l.toArray⟩).length<=502:=by
 obtain⟨hl,hc⟩:=smT_of h
 have h1:=StrLaws.reprText_len ⟨l.toArray⟩ (fun c hcc=>Nat.lt_trans (hc c (by simpa using hcc)) (by decide))
 have h2:(⟨l.toArray⟩:Str).length=l.length:=by simp [Str.length]
 omega
noncomputable def ShowV (K:PySem.W.Frag) (v:V) (H:Hp):Prop:=(∃l,v=S l/\smT l=true)∨v=.non∨(∃i:Int,v=.int i/\-2<=i/\i<=20)∨∃a l,v=.ref a/\SqT K H a [S l]/\smT l=true
theorem pe_fmtQ {ta:TE}{k:Nat} (hr:Room k X.A) (ha:PE X a ta):PE X (.FormattedValue a 114 none pos) (fun σ H Q=>ta σ H fun v H1=>ShowV X.K v H1/\∀z:Str,z.length<=1000->Q (.str z) H1):=by
 intro pins s σ H Q I h
 refine wpAny_FormattedValue_repr (thn (ha pins s σ H _ I h) fun v s1 ⟨x,H1,I1,r1,e,q⟩=>?_)
 have hs:1000<=sizeLine:=by decide
 have fin:∀(z:Str) (t:Tok) (tk:Nat),z.length<=1000->wpAny (model X.prog X.w) X.A (formatField (.str z t) Str.empty) (EP X pins σ Q) X.xe {s1 with toks:=tk}:=fun z t tk hz=>
  wpAny_formatField_str (fun ht=>⟨.str _,H1,I1.tok _ ht,⟨_,rfl⟩,q _ hz⟩) (fun ht=>⟨.str _,H1,I1.tok _ ht,⟨_,rfl⟩,q _ hz⟩) (by omega)
 rcases e with ⟨l,rfl,hl⟩ | rfl | ⟨i,rfl,h1,h2⟩ | ⟨a',l,rfl,hq,hl⟩
 ·obtain⟨t,rfl⟩:=r1
  have:=rt_len hl
  exact wpAny_pyReprObj_str (fin _ _ _ (by omega)) (by omega)
 ·cases r1
  exact pyReprObj_none (fin _ _ _ (by decide +kernel))
 ·obtain⟨t,rfl⟩:=r1
  obtain⟨i1,i2⟩:=int_len h1 h2
  exact pyReprObj_int i2 (fin _ _ _ i1)
 ·cases r1
  obtain⟨its,rv,⟨o,ho,hc,n,hd⟩,_⟩:=I1.tuple hq
  cases rv with
  |cons r0 r1=>
   cases r1
   obtain⟨t0,rfl⟩:=r0
   have hlen:=rt_len hl
   have ht:(tupleText [reprText ⟨l.toArray⟩]).length<=1000:=by
    have:=tupleText_len_le [reprText ⟨l.toArray⟩]
    simp only [List.map_cons,List.map_nil,List.sum_cons,List.sum_nil,List.length_singleton] at this
    omega
   exact wpAny_pyReprObj_tuple (g:=[]) ⟨o,ho,hc⟩ hr.gd (fun c hc=>nomatch hc) (by have:=hr.un; omega) ho hd (.cons (.str _ _ (by omega)) .nil) (fun u tk=>fin _ _ _ ht) (by omega)
theorem uv_q2 {x:Str} {j p p'}{k:Nat} (hr:Room k X.A) (h:Ev X cls E a f) (hx:x.length<=1000:=by decide +kernel):Uv X cls E (.JoinedStr [.FormattedValue a 114 none p',.Constant (.str x) j p] pos) (uRq f):=(pe_fstr2 (pe_fmtQ hr h) (pe_str (x:=x))).imp fun σ H Q h_=>by
 obtain⟨O,A,ρ,F,q⟩:=h_
 refine⟨O,A,ρ,F,Rg.bind q fun d _ q1=>?_⟩
 intro v H' s' r z
 have key:ShowV X.K v H'/\∀w H2,Same H H2->Q w H2:=by
  unfold uRqD at q1
  split at q1
  ·rename_i l _
   split at q1
   ·rename_i hl; exact⟨.inl ⟨l,repS r,hl⟩,q1⟩
   ·exact(show False from q1).elim
  ·exact⟨.inr (.inl (repN r)),q1⟩
  ·rename_i i _
   split at q1
   ·rename_i hi; exact⟨.inr (.inr (.inl ⟨i,repI r,hi.1,hi.2⟩)),q1⟩
   ·exact(show False from q1).elim
  ·rename_i l _
   split at q1
   ·rename_i hl
    obtain⟨a',xs,rfl,h1,h2⟩:=repT r
    obtain⟨v1,rfl,rv⟩:=reps1 h2
    rw [repS rv] at h1
    exact⟨.inr (.inr (.inr ⟨a',l,rfl,hid_same.seqT h1,hl⟩)),q1⟩
   ·exact(show False from q1).elim
  ·exact(show False from q1).elim
 exact⟨key.1,fun z hz=>⟨z,rfl,hz,_,rfl,hx,fun z'=>key.2 _ H' s'⟩⟩
end
section
variable {X:Cx}{cls:Nat->Addr}{E:XK}{body:Expr}{g:Rho->M Dt}{params:Arguments}{scope:Scope}{N:List Str}{fr cs:List Nat}{c P:Addr}{q:Str}{k:Nat}{p lpos pos:Pos}
theorem ev_toldB (TR:ToldR X.prog X.w X.K X.mg X.base cls cs k) (hr:Room (k+2) X.A) (hx:Passes (CX1 X.prog X.w) X E) (hg:Gl X "_law_told") (S:LScope X scope N fr) (hcode:X.env.code=.ref c) (B:LamB X.mg X.base c P) (hT:X.H₀ P=some (.tbl q)) (hq:X.env.qual ++ "<lambda>" = q)
  (hdef:defaultsOf params X.env=([],[])) (hbind:∀fd:FuncData,fd.params=params->fd.defaults=.none->fd.kwdefaults=.none->bindArgs fd ⟨[],[]⟩=pure [])
  (hbody:∀(f:Addr) (cv:Value) (A:Around) (outer:List Env) (s2:Shared) (H2:Hp) (E:XK),Room k (A.deeper (envX q scope s2.heap.objs.size f cv (closOf scope.names X.env.cells)))->Rz (cxL (CX1 X.prog X.w) X.prog X.w X.K X.mg X.base N q scope f cv (closOf scope.names X.env.cells) A outer s2 H2 E) E->
   Ev (cxL (CX1 X.prog X.w) X.prog X.w X.K X.mg X.base N q scope f cv (closOf scope.names X.env.cells) A outer s2 H2 E) cls E body g) :
  Ev X cls E (.Call (.Name "_law_told" p) [.Lambda params body scope lpos] [] pos) (pToldB cs fr g):=by
 obtain⟨f,hm,hk,run⟩:=TR
 intro pins s σ H Q I ⟨O,A,ρ,Ft,hQ⟩
 refine wpAny_Call_Name_kw (ld_glob I hg hm ?_ (by decide))
 refine PySem.W.callWith_K (h₀:=X.base) I.ok.mod.kin hk ?_ rfl rfl
 refine Calls.spliced_cons (lam_made I (S.c.cells I.ok) hcode B (I.base.tbls P q hT) hq hdef fun g' c' ctv s' H' I' sm hg' hc'=>Calls.spliced_nil ⟨I'.kIn,?_⟩)
 refine wpAny_call (codeAny_mono (run X.A X.stack s' H' g' _ _ (g (startL fr ρ)) A Q E hr I'.env0 I'.tk hg' ⟨_,rfl⟩ (fun A' outer' s2 Q' E' hr' e0' ht2 un' q'=>?_) (Res.mono hQ sm)) fun r s2 hq=>?_)
 ·exact lam_run S I' un' e0' hr' hg' hc' hbind hbody ((Ft.mono sm).startL fr) q' ht2
 ·cases r with
  |error e=>exact hx pins σ H' s' e s2 I' hq
  |ok fl=>
   cases fl with
   |ret u=>exact I'.after hq
   |next=>exact False.elim hq
   |brk=>exact False.elim hq
   |cont=>exact False.elim hq
end
theorem comX_of {g:GM}{tc:Rho->M Bool}{te:Rho->M Dt}{ρ0:Rho}:∀{ds xs:List Dt},comM g tc te ρ0 ds=.ok xs->comX g tc te ρ0 ds=.ok xs:=by
 intro ds
 induction ds with
 |nil=>exact fun h=>h
 |cons d ds ih=>
  intro xs h
  obtain⟨ρ1,hg,hcase⟩:=comM_cons h
  unfold comX
  rw [hg]
  simp only [calm_ok,bd_ok]
  rcases hcase with ⟨ht,hr⟩ | ⟨ht,x',ys',hte,hr,rfl⟩
  ·rw [ht]
   exact ih hr
  ·rw [ht]
   show ((te ρ1).bd _:M (List Dt))=_
   rw [hte,bd_ok,ih hr]
   rfl
section
variable {X:Cx}{cls:Nat->Addr}{E:XK}{a b c:Expr}{f:Rho->M Dt}{pos:Pos}{scope:Scope}{N:List Str}{k:Nat}{fr:List Nat}{tg iter elt:Expr}{ifs:List Expr}{ι:IM}{g:GM}{tc:Rho->M Bool}{te:Rho->M Dt}
theorem ev_compC (hX:X.A.frames=some X.stack->(∀b∈frs X.outer,X.H₀ b=none)->Plain X E) (hk:GK k g) (hc:X.calm=true) (S:CScope X scope N k fr) (hi:Iv X cls E tg iter ι) (hg:∀pins fp s H,PG (cxX X E scope N pins fp s H) tg (gM X.K g)) (ht:∀pins fp s H,PTs (cxX X E scope N pins fp s H) ifs (tMB X.K cls E tc))
  (he:∀pins fp s H,PE (cxX X E scope N pins fp s H) elt (tM X.K cls E te)) (hs:∀x,foldedSetIterable iter X.env x=pure x:=by intro _; rfl):Ev X cls E (.ListComp elt [⟨tg,iter,ifs,0⟩] scope pos) (pComp k fr ι g tc te):=
 (ev_compX hX hk hc S hi hg ht he hs).imp fun σ H Q h=>by
 obtain⟨O,A,ρ,F,q⟩:=h
 refine⟨O,A,ρ,F,?_⟩
 unfold pComp at q
 unfold pCompX
 cases hi:ι ρ with
 |ex c=>rw [hi] at q; exact q
 |bad=>rw [hi] at q; exact q
 |ok ds=>
  rw [hi] at q
  simp only [bd_ok] at q ⊢
  cases hm:comM g tc te (startR k fr ρ) ds with
  |ex c=>rw [hm] at q; exact(show False from q).elim
  |bad=>rw [hm] at q; exact(show False from q).elim
  |ok xs=>rw [comX_of hm]; rw [hm] at q; exact q
end
noncomputable abbrev tStepsX (K:PySem.W.Frag) (cls:Nat->Addr) (E:XK):TS:=tRet (tComp 2 [] (iList K (tSelf K "done")) (gM K gSt) (tMB K cls E tYs) (tM K cls E (getV 0)))
section
variable {P:Program}{w:World}{K:PySem.W.Frag}{mg:Str->Option Value}{base:Heap}{cls:Nat->Addr}{x qual:Str}{st:Stmt}{f:Addr}{fd:FuncData}{k:Nat}
theorem com_stepsX:∀{x ds:List Dt},fstsM x=some ds->comX gSt tYs (getV 0) (startR 2 [] [.no]) x=.ok ds
 | [],ds,h=>by cases h; rfl
 |d::r,ds,h=>by
  unfold fstsM at h
  split at h
  ·rename_i e; cases e
  ·rename_i s' b' r' e
   injection e with e1 e2
   subst e1 e2
   cases hr:fstsM r with
   |none=>rw [hr] at h; cases h
   |some es=>
    rw [hr] at h
    cases h
    have ih:=com_stepsX hr
    show (comX gSt tYs (getV 0) (startR 2 [] [.no]) r).bd (fun xs=>.ok (s'::xs))=_
    rw [ih]
    rfl
  ·cases h
theorem steps_okX (F:Fun K x qual st f fd) (S:FnScope ["self"] ["self"] (defScope st))
  (hB:∀(cdv:Value) (A:Around) (outer:List Env) (s:Shared) (H:Hp) (E:XK),Room k (A.deeper (envOfC qual (defScope st) s.heap.objs.size f cdv))->Rz (cxOf (CX1 P w) P w K mg base ["self"] qual (defScope st) f cdv A outer s H E) E->
   PSs (cxOf (CX1 P w) P w K mg base ["self"] qual (defScope st) f cdv A outer s H E) (defBody st) (tStepsX K cls E)):FnOk P w K mg base (CX1 P w) (k+1) f fd ["self"] (spR K cls (wLst K) bSteps):=by
 refine F.okX S (fun vs H Q E h=>by obtain⟨v,_,_,_,rfl,_⟩:=h; rfl) (fun cdv A outer s H vs Q E hr h R=>⟨_,hB cdv A outer s H E hr R,?_⟩) (fun z=>by injection z with z; exact absurd z (by decide +kernel))
 obtain⟨v,B,x,y,rfl,L,hb,q⟩:=h
 obtain⟨a,dx,l,m,C,xs,ys,rfl,hC,h1,h2,h3,h4,h5,⟨h6,h7,h8⟩,_,_,_,_,_⟩:=hb.parts
 refine(show tSelf K "done" [some (.ref a)] H (fun u H1=>∃b,u=.ref b/\(∃zs,SqL K H1 b zs)/\rdComp 2 [] (gM K gSt) (tMB K cls E tYs) (tM K cls E (getV 0)) [some (.ref a)] (Itl K b) H1 Q) from self_is rfl hC h1 (.inl ⟨rfl,rfl⟩) ⟨l,rfl,⟨xs,.of h3⟩,?_⟩)
 unfold bSteps at q
 split at q
 ·rename_i ds hds
  split at q
  ·rename_i hn
   let B':=B.filter fun b=>decide (b≠l)
   have hlB':l∉B':=fun z=>by simpa using (List.mem_filter.mp z).2
   have sub:∀b,b∈B'->b∈B:=fun b z=>(List.mem_filter.mp z).1
   have sH:∀{H2:Hp},Same (hid H2 B) (hid H2 B'):=fun {H2} b o e=>by
    obtain⟨e1,e2⟩:=of_hid e
    rw [hid_ne fun z=>e1 (sub b z)]
    exact e2
   have F0:Fit K [] B' [.no] [some (.ref a)] H:=by
    refine⟨rfl,fun b hb=>L b (sub b hb),(fun b z=>nomatch z),fun i d e=>?_,fun i b e o=>?_,fun i j b c v w _ e _ o=>?_,fun i p x y e=>?_⟩
    all_goals
     (cases i with
     |zero=>cases e <;> cases o
     |succ i=>simp at e)
   refine rdComp_fresh (rd_compX (ds:=x) F0 (gk_tp (gks_cons (gk_nm (by decide)) (gks_cons (gk_nm (by decide)) gks_nil))) (itd_list (.of (by rw [hid_ne hlB']; exact h3)) (h6.mono sH) h7 h8) ?_)
   rw [com_stepsX hds]
   intro v H' s' r z zl hF
   refine q v H' s' ⟨?_,hF⟩ ⟨zl,z⟩
   obtain⟨D,zs,rfl,hD,hD'⟩:=hF
   obtain⟨D',zs',e1,e2,e3⟩:=repL r
   cases e1
   have hDB:D∉B:=fun z=>L D z hD
   have hl':hid H' B' l=some (.lst xs):=by rw [hid_ne hlB']; exact s' _ _ h3
   have e4:=(repsNL hl' hn.1 e3).mono (H':=hid H' B) fun b o e=>by
    obtain⟨e4,e5⟩:=of_hid e
    obtain⟨e6,e7⟩:=of_hid e5
    rw [hid_ne fun z=>e6 (List.mem_filter.mpr ⟨z,by simpa using e4⟩)]
    exact e7
   simp only [Rep]
   refine⟨D,zs',rfl,?_,e4⟩
   rw [show SqL K (hid H' B) D zs'=SqL K (hid H' B') D zs' by unfold SqL Rd; rw [hid_ne hDB,hid_ne fun z=>hDB (sub _ z)]]
   exact e2
  ·exact(show False from q).elim
 ·exact(show False from q).elim
end
end L2
namespace K89
open PySem L2 Pg PyProof.Rows PySem.W
local macro_rules
 | `(tactic| exists sc_) => `(tactic| exact ⟨rfl, rfl, rfl, by decide +kernel, rfl, by decide +kernel, by decide +kernel, by decide +kernel⟩)
noncomputable def top (i:Nat):Stmt:=PySem.Challenge.pw_tickrows_k89_boards_refused.main.body.getD i (.Pass ⟨0,0,0,0⟩)
noncomputable abbrev s_is_name:Stmt:=top 31
noncomputable abbrev s_refuse_no_name:Stmt:=top 35
noncomputable abbrev s_of_one_length:Stmt:=top 12
noncomputable abbrev s_refuse_unlike:Stmt:=top 13
noncomputable abbrev s_with_name:Stmt:=top 25
noncomputable abbrev s_with_wave:Stmt:=top 24
noncomputable abbrev s_unlike_at:Stmt:=top 22
noncomputable abbrev s_unlike:Stmt:=top 19
noncomputable abbrev s_no:Stmt:=top 16
noncomputable abbrev s_both_at:Stmt:=top 20
noncomputable abbrev s_both:Stmt:=top 17
noncomputable abbrev s_either_at:Stmt:=top 21
noncomputable abbrev s_either:Stmt:=top 18
noncomputable abbrev s_gate_wave:Stmt:=top 36
noncomputable abbrev s_wave_of:Stmt:=top 26
noncomputable abbrev s_without_wave:Stmt:=top 27
noncomputable abbrev s_move_last:Stmt:=top 37
noncomputable abbrev s_law_class:Stmt:=top 41
noncomputable abbrev s_law_told:Stmt:=top 42
noncomputable abbrev s_law_cell:Stmt:=top 39
noncomputable abbrev s_law_pick:Stmt:=top 40
noncomputable abbrev s_law:Stmt:=top 43
noncomputable def brdB (i:Nat):Stmt:=match top 34 with | .ClassDef _ _ _ b _ _ _ _ _ _ _=>b.getD i (.Pass ⟨0,0,0,0⟩) | _=>.Pass ⟨0,0,0,0⟩
noncomputable abbrev m_init:Stmt:=brdB 0
noncomputable abbrev m_put:Stmt:=brdB 1
noncomputable abbrev m_gate:Stmt:=brdB 2
noncomputable abbrev m_take:Stmt:=brdB 3
noncomputable abbrev m_do_step:Stmt:=brdB 4
noncomputable abbrev m_sheet:Stmt:=brdB 5
noncomputable abbrev m_steps:Stmt:=brdB 6
noncomputable abbrev m_back:Stmt:=brdB 7
noncomputable abbrev m_forth:Stmt:=brdB 8
noncomputable abbrev m_sizes:Stmt:=brdB 9
structure Tx (w:World) (K:PySem.W.Frag) (mg:Str->Option Value) (z:Nat->Addr):Prop where
 len:mg "len" = none
 range:mg "range" = none
 all:mg "all" = none
 str:mg "str" = none
 zip:mg "zip" = none
 isinstance:mg "isinstance" = none
 ValueError:mg "ValueError" = none
 dict:mg "dict" = none
 tuple:mg "tuple" = none
 TickError:mg "TickError" = some (.ref (z 8))
 Clash:mg "Clash" = some (.ref (z 0))
 NoName:mg "NoName" = some (.ref (z 1))
 NoText:mg "NoText" = some (.ref (z 2))
 NoTick:mg "NoTick" = some (.ref (z 3))
 NoWave:mg "NoWave" = some (.ref (z 4))
 TooLong:mg "TooLong" = some (.ref (z 5))
 Unlike:mg "Unlike" = some (.ref (z 6))
 NoBack:mg "NoBack" = some (.ref (z 7))
 LETTERS:∃t,mg "LETTERS" = some (.str ⟨#[97,98,99,100,101,102,103,104,105,106,107,108,109,110,111,112,113,114,115,116,117,118,119,120,121,122]⟩ t)
 MOST_LETTERS:∃t,mg "MOST_LETTERS" = some (.int 4 t)
 D_OPPOSITES:∃a,mg "OPPOSITES" = some (.ref a)/\DcK w K a [([48],[49]),([49],[48]),([120],[120])]
 D_GATE_SIZES:∃a,mg "GATE_SIZES" = some (.ref a)/\DcI w K a [([110,111],1),([98,111,116,104],2),([101,105,116,104,101,114],2),([117,110,108,105,107,101],2)]
 N_GATE_SIZES:∀a,mg "GATE_SIZES" = some (.ref a)->(a==sysModules)=false
 f_is_name:FnT K mg "is_name" s_is_name ["thing"]
 f_refuse_no_name:FnT K mg "refuse_no_name" s_refuse_no_name ["name"]
 f_of_one_length:FnT K mg "of_one_length" s_of_one_length ["waves"]
 f_refuse_unlike:FnT K mg "refuse_unlike" s_refuse_unlike ["waves"]
 f_with_name:FnT K mg "with_name" s_with_name ["sheet","name","wave"]
 f_with_wave:FnT K mg "with_wave" s_with_wave ["sheet","name","wave"]
 f_unlike_at:FnT K mg "unlike_at" s_unlike_at ["first","second"]
 f_unlike:FnT K mg "unlike" s_unlike ["one","other"]
 f_no:FnT K mg "no" s_no ["wave"]
 f_both_at:FnT K mg "both_at" s_both_at ["first","second"]
 f_both:FnT K mg "both" s_both ["one","other"]
 f_either_at:FnT K mg "either_at" s_either_at ["first","second"]
 f_either:FnT K mg "either" s_either ["one","other"]
 f_gate_wave:FnT K mg "gate_wave" s_gate_wave ["word","waves"]
 f_wave_of:FnT K mg "wave_of" s_wave_of ["sheet","name"]
 f_without_wave:FnT K mg "without_wave" s_without_wave ["sheet","name"]
 f_move_last:FnT K mg "move_last" s_move_last ["source","target"]
 f__law_class:FnT K mg "_law_class" s_law_class ["_law_kept"]
 f__law_told:FnT K mg "_law_told" s_law_told ["_law_deed"]
 f__law_cell:FnT K mg "_law_cell" s_law_cell ["_law_script","_law_k"]
 f__law_pick:FnT K mg "_law_pick" s_law_pick ["_law_script","_law_k","_law_many"]
 f_law:FnT K mg "law" s_law ["_law_script"]
 M_init:FnI K mg m_init
 M_put:FnM K "put" "Board.put" m_put ["self","name","wave"]
 M_gate:FnM K "gate" "Board.gate" m_gate ["self","name","word","names"]
 M_take:FnM K "take" "Board.take" m_take ["self","name"]
 M_do_step:FnM K "do_step" "Board.do_step" m_do_step ["self","step","behind"]
 M_sheet:FnM K "sheet" "Board.sheet" m_sheet ["self"]
 M_steps:FnM K "steps" "Board.steps" m_steps ["self"]
 M_back:FnM K "back" "Board.back" m_back ["self"]
 M_forth:FnM K "forth" "Board.forth" m_forth ["self"]
 M_sizes:FnM K "sizes" "Board.sizes" m_sizes ["self"]
 x_NoName:excIn K (z 1) veMro "ValueError.__new__" = true
 x_Unlike:excIn K (z 6) veMro "ValueError.__new__" = true
 x_NoBack:excIn K (z 7) veMro "ValueError.__new__" = true
 e1_NoName:isClsIn K (z 1)=true
 e2_NoName:findIn K (.ref (z 1)) "__getattribute__" = some (some (.builtin "BaseException.__getattribute__"))
 e3_NoName:findIn K (.ref (z 1)) "__getattr__" = some none
 e4_NoName:findIn K (.ref (z 1)) "__class__" = some (some (.builtin "object.__class__"))
 e5_NoName:specialIn K (.builtin "object.__class__") "__get__" = some (some (.builtin "getset_descriptor.__get__"))
 e6_NoName:takesIn K (.builtin "object.__class__")=some true
 e7_NoName:mroIn K (z 1) (.type "object")=some true
 e8_NoName:mroIn K (z 1) (.type "BaseException")=some true
 m_NoName:exmOne K (.ref (z 1)) (.ref (z 8))=some true
 w0_NoName:kitOne K (.ref (z 1)) (.ref (z 0))=some false
 w1_NoName:kitOne K (.ref (z 1)) (.ref (z 7))=some false
 w2_NoName:kitOne K (.ref (z 1)) (.ref (z 1))=some true
 w3_NoName:kitOne K (.ref (z 1)) (.ref (z 2))=some false
 w4_NoName:kitOne K (.ref (z 1)) (.ref (z 3))=some false
 w5_NoName:kitOne K (.ref (z 1)) (.ref (z 4))=some false
 w6_NoName:kitOne K (.ref (z 1)) (.ref (z 5))=some false
 w7_NoName:kitOne K (.ref (z 1)) (.ref (z 6))=some false
 v_NoName:kitOne K (.ref (z 1)) (.type "ValueError")=some true
 e1_Unlike:isClsIn K (z 6)=true
 e2_Unlike:findIn K (.ref (z 6)) "__getattribute__" = some (some (.builtin "BaseException.__getattribute__"))
 e3_Unlike:findIn K (.ref (z 6)) "__getattr__" = some none
 e4_Unlike:findIn K (.ref (z 6)) "__class__" = some (some (.builtin "object.__class__"))
 e5_Unlike:specialIn K (.builtin "object.__class__") "__get__" = some (some (.builtin "getset_descriptor.__get__"))
 e6_Unlike:takesIn K (.builtin "object.__class__")=some true
 e7_Unlike:mroIn K (z 6) (.type "object")=some true
 e8_Unlike:mroIn K (z 6) (.type "BaseException")=some true
 m_Unlike:exmOne K (.ref (z 6)) (.ref (z 8))=some true
 w0_Unlike:kitOne K (.ref (z 6)) (.ref (z 0))=some false
 w1_Unlike:kitOne K (.ref (z 6)) (.ref (z 7))=some false
 w2_Unlike:kitOne K (.ref (z 6)) (.ref (z 1))=some false
 w3_Unlike:kitOne K (.ref (z 6)) (.ref (z 2))=some false
 w4_Unlike:kitOne K (.ref (z 6)) (.ref (z 3))=some false
 w5_Unlike:kitOne K (.ref (z 6)) (.ref (z 4))=some false
 w6_Unlike:kitOne K (.ref (z 6)) (.ref (z 5))=some false
 w7_Unlike:kitOne K (.ref (z 6)) (.ref (z 6))=some true
 v_Unlike:kitOne K (.ref (z 6)) (.type "ValueError")=some true
 e1_NoBack:isClsIn K (z 7)=true
 e2_NoBack:findIn K (.ref (z 7)) "__getattribute__" = some (some (.builtin "BaseException.__getattribute__"))
 e3_NoBack:findIn K (.ref (z 7)) "__getattr__" = some none
 e4_NoBack:findIn K (.ref (z 7)) "__class__" = some (some (.builtin "object.__class__"))
 e5_NoBack:specialIn K (.builtin "object.__class__") "__get__" = some (some (.builtin "getset_descriptor.__get__"))
 e6_NoBack:takesIn K (.builtin "object.__class__")=some true
 e7_NoBack:mroIn K (z 7) (.type "object")=some true
 e8_NoBack:mroIn K (z 7) (.type "BaseException")=some true
 m_NoBack:exmOne K (.ref (z 7)) (.ref (z 8))=some true
 w0_NoBack:kitOne K (.ref (z 7)) (.ref (z 0))=some false
 w1_NoBack:kitOne K (.ref (z 7)) (.ref (z 7))=some true
 w2_NoBack:kitOne K (.ref (z 7)) (.ref (z 1))=some false
 w3_NoBack:kitOne K (.ref (z 7)) (.ref (z 2))=some false
 w4_NoBack:kitOne K (.ref (z 7)) (.ref (z 3))=some false
 w5_NoBack:kitOne K (.ref (z 7)) (.ref (z 4))=some false
 w6_NoBack:kitOne K (.ref (z 7)) (.ref (z 5))=some false
 w7_NoBack:kitOne K (.ref (z 7)) (.ref (z 6))=some false
 v_NoBack:kitOne K (.ref (z 7)) (.type "ValueError")=some true
section
variable {P:Program}{w:World}{K:PySem.W.Frag}{mg:Str->Option Value}{base:Heap}{z:Nat->Addr}
theorem sc_is_name:FnScope ["thing"] ["thing"] (defScope s_is_name):=by exists sc_
theorem ok_is_name (T:Tx w K mg z):Cq P w K mg base z 1 "is_name" ["thing"] F_is_name:=
 have SC:=sc_is_name
 .of (b:=B_is_name) T.f_is_name SC rfl rfl fun f cdv A outer s H E hr R=>(bv_cons (sv_if (PW.pt (wv_or (tv_not (tv_val (ev_isStr (by rfl) T.isinstance (by rfl) T.str (ev_var (pv 0)) rfl))) (wv_or1 (tv_not (tv_chain od_le od_le ev_int (ev_callB cd_len (by rfl) T.len PySem.boot_len (av_cons rfl (ev_var (pv 0)) av_nil)) (ev_of (pe_glob (by rfl) T.MOST_LETTERS.choose_spec (v:=.int 4) ⟨_,rfl⟩) (fun _=>rep_int) trivial)))))) (bv_one (sv_ret ev_bl)) bv_nil)
   (bv_one (sv_ret (ev_callB (cd_all rfl) (by rfl) T.all boot_all (av_cons rfl (ev_compC plain_of (N:=["sign"]) (k:=1) (fr:=[]) (gk_nm (by decide)) rfl ⟨rfl,rfl,rfl,rfl,rfl,rfl⟩ (iv_of (ev_var (pv 0))) (fun _ _ _ _=>(gv_name (pg_name (i:=0) (show List.Nodup (α:=Str) ["sign"] from by decide +kernel) rfl (Or.inl rfl) (Or.inr rfl)))) (fun _ _ _ _=>tv_none) (fun _ _ _ _=>(ev_cmp od_in (ev_var (pv 0)) (ev_of (pe_glob (by rfl) T.LETTERS.choose_spec (v:=S [97,98,99,100,101,102,103,104,105,106,107,108,109,110,111,112,113,114,115,116,117,118,119,120,121,122]) ⟨_,rfl⟩) (fun _=>rep_str) (by show _<=10000; decide)) (by with_unfolding_all rfl)))) av_nil)))))
theorem sc_refuse_no_name:FnScope ["name"] ["name"] (defScope s_refuse_no_name):=by exists sc_
theorem ok_refuse_no_name (T:Tx w K mg z):Cq P w K mg base z 2 "refuse_no_name" ["name"] F_refuse_no_name:=
 have SC:=sc_refuse_no_name
 .of (b:=B_refuse_no_name) T.f_refuse_no_name SC rfl rfl fun f cdv A outer s H E hr R=>(bv_one (sv_if (tv_not (tv_val (ev_cal (ok_is_name T) (hr.mono (by decide)) R.pass (av_cons rfl (ev_var (pv 0)) av_nil)))) (bv_one (sv_raise (cn:=1) rfl R (by rfl) (by exact T.NoName) (by exact T.x_NoName) (uv_q2 hr (ev_var (pv 0))))) bv_nil))
theorem sc_of_one_length:FnScope ["waves"] ["waves"] (defScope s_of_one_length):=by exists sc_
theorem ok_of_one_length (T:Tx w K mg z):Cq P w K mg base z 1 "of_one_length" ["waves"] F_of_one_length:=
 have SC:=sc_of_one_length
 .of (b:=B_of_one_length) T.f_of_one_length SC rfl rfl fun f cdv A outer s H E hr R=>(bv_one (sv_ret (ev_callB (cd_all rfl) (by rfl) T.all boot_all (av_cons rfl (ev_compC plain_of (N:=["wave","waves"]) (k:=1) (fr:=[0]) (gk_nm (by decide)) rfl ⟨rfl,rfl,rfl,rfl,rfl,rfl⟩ (iv_of (ev_var (pv 0))) (fun _ _ _ _=>(gv_name (pg_name (i:=0) (show List.Nodup (α:=Str) ["wave","waves"] from by decide +kernel) rfl (Or.inl rfl) (Or.inr rfl)))) (fun _ _ _ _=>tv_none) (fun _ _ _ _=>(ev_cmp (od_eq (hu50 hr)) (ev_callB cd_len (by rfl) T.len PySem.boot_len (av_cons rfl (ev_var (pv 0)) av_nil)) (ev_callB cd_len (by rfl) T.len PySem.boot_len (av_cons rfl (ev_ix (ev_var (pv 1)) ev_int (fun _ _=>rfl)) av_nil)) (nomark _)))) av_nil))))
theorem sc_refuse_unlike:FnScope ["waves"] ["waves"] (defScope s_refuse_unlike):=by exists sc_
theorem ok_refuse_unlike (T:Tx w K mg z):Cq P w K mg base z 2 "refuse_unlike" ["waves"] F_refuse_unlike:=
 have SC:=sc_refuse_unlike
 .of (b:=B_refuse_unlike) T.f_refuse_unlike SC rfl rfl fun f cdv A outer s H E hr R=>(bv_one (sv_if (tv_not (tv_val (ev_cal (ok_of_one_length T) (hr.mono (by decide)) R.pass (av_cons rfl (ev_var (pv 0)) av_nil)))) (bv_one (sv_raise (cn:=6) rfl R (by rfl) (by exact T.Unlike) (by exact T.x_Unlike) (uv_of (ev_S (l:=[116,104,101,32,119,97,118,101,115,32,104,97,118,101,32,117,110,108,105,107,101,32,108,101,110,103,116,104,115]))))) bv_nil))
theorem sc_with_name:FnScope ["sheet","name","wave","told"] ["sheet","name","wave"] (defScope s_with_name):=by exists sc_
theorem ok_with_name (T:Tx w K mg z):Cq P w K mg base z 1 "with_name" ["sheet","name","wave"] F_with_name:=
 have SC:=sc_with_name
 .of (b:=B_with_name) T.f_with_name SC rfl rfl fun f cdv A outer s H E hr R=>(bv_cons (sv_ownC (i:=3) SC.nd rfl (Or.inl rfl) (by rfl) T.dict (ev_var (pv 0)) rfl)
   (bv_cons (sv_dput (hu50 hr) (pv 3) (ev_var (pv 1)) (ev_var (pv 2)))
   (bv_rel 3 (bv_one (sv_ret (ev_var (pv 3)))))))
theorem sc_with_wave:FnScope ["sheet","name","wave"] ["sheet","name","wave"] (defScope s_with_wave):=by exists sc_
theorem ok_with_wave (T:Tx w K mg z):Cq P w K mg base z 3 "with_wave" ["sheet","name","wave"] F_with_wave:=
 have SC:=sc_with_wave
 .of (b:=B_with_wave) T.f_with_wave SC rfl rfl fun f cdv A outer s H E hr R=>(bv_cons (sv_drop (ev_cal (ok_refuse_unlike T) (hr.mono (by decide)) R.pass (av_cons rfl (ev_op od_add (ev_lst (av_cons rfl (ev_var (pv 2)) av_nil)) (ev_compC plain_of (N:=["other","sheet","name"]) (k:=1) (fr:=[0,1]) (gk_nm (by decide)) rfl ⟨rfl,rfl,rfl,rfl,rfl,rfl⟩ (iv_keys (ev_var (pv 0))) (fun _ _ _ _=>(gv_name (pg_name (i:=0) (show List.Nodup (α:=Str) ["other","sheet","name"] from by decide +kernel) rfl (Or.inl rfl) (Or.inr rfl)))) (fun _ _ _ _=>(tv_one (tv_cmp (od_ne (hu50 hr)) (ev_var (pv 0)) (ev_var (pv 2)) (nomark _)))) (fun _ _ _ _=>(ev_dix (hu50 hr) (ev_var (pv 1)) (ev_var (pv 0)) (fun _ _=>rfl))))) av_nil)))
   (bv_one (sv_ret (ev_cal (ok_with_name T) (hr.mono (by decide)) R.pass (av_cons rfl (ev_var (pv 0)) (av_cons rfl (ev_var (pv 1)) (av_cons rfl (ev_var (pv 2)) av_nil)))))))
theorem sc_unlike_at:FnScope ["first","second"] ["first","second"] (defScope s_unlike_at):=by exists sc_
theorem ok_unlike_at (T:Tx w K mg z):Cq P w K mg base z 1 "unlike_at" ["first","second"] F_unlike_at:=
 have SC:=sc_unlike_at
 .of (b:=B_unlike_at) T.f_unlike_at SC rfl rfl fun f cdv A outer s H E hr R=>(bv_cons (sv_if (PW.pt (wv_or (tv_cmp (od_eq (hu50 hr)) (ev_var (pv 0)) (ev_S (l:=[120])) (nomark _)) (wv_or1 (tv_cmp (od_eq (hu50 hr)) (ev_var (pv 1)) (ev_S (l:=[120])) (nomark _))))) (bv_one (sv_ret (ev_S (l:=[120])))) bv_nil)
   (bv_one (sv_ret (ev_if (tv_cmp (od_eq (hu50 hr)) (ev_var (pv 0)) (ev_var (pv 1)) (nomark _)) (ev_S (l:=[48])) (ev_S (l:=[49]))))))
theorem sc_unlike:FnScope ["one","other"] ["one","other"] (defScope s_unlike):=by exists sc_
theorem ok_unlike (T:Tx w K mg z):Cq P w K mg base z 3 "unlike" ["one","other"] F_unlike:=
 have SC:=sc_unlike
 .of (b:=B_unlike) T.f_unlike SC rfl rfl fun f cdv A outer s H E hr R=>(bv_cons (sv_drop (ev_cal (ok_refuse_unlike T) (hr.mono (by decide)) R.pass (av_cons rfl (ev_lst (av_cons rfl (ev_var (pv 0)) (av_cons rfl (ev_var (pv 1)) av_nil))) av_nil)))
   (bv_one (sv_ret (ev_join (av_cons rfl (ev_compC plain_of (N:=["first","second"]) (k:=2) (fr:=[]) (gk_tp (gks_cons (gk_nm (by decide)) (gks_cons (gk_nm (by decide)) gks_nil))) rfl ⟨rfl,rfl,rfl,rfl,rfl,rfl⟩ (iv_zip2 (by rfl) T.zip (av_cons rfl (ev_var (pv 0)) (av_cons rfl (ev_var (pv 1)) av_nil))) (fun _ _ _ _=>(gv_tup (n:=2) rfl (gvs_cons (gv_name (pg_name (i:=0) (show List.Nodup (α:=Str) ["first","second"] from by decide +kernel) rfl (Or.inl rfl) (Or.inr rfl))) (gvs_cons (gv_name (pg_name (i:=1) (show List.Nodup (α:=Str) ["first","second"] from by decide +kernel) rfl (Or.inl rfl) (Or.inr rfl))) gvs_nil)))) (fun _ _ _ _=>tv_none) (fun _ _ _ _=>(ev_cal (ok_unlike_at T) (hr.mono (by decide)) pass_X (av_cons rfl (ev_var (pv 0)) (av_cons rfl (ev_var (pv 1)) av_nil))))) av_nil) rfl))))
theorem sc_no:FnScope ["wave"] ["wave"] (defScope s_no):=by exists sc_
theorem ok_no (T:Tx w K mg z):Cq P w K mg base z 1 "no" ["wave"] F_no:=
 have SC:=sc_no
 .of (b:=B_no) T.f_no SC rfl rfl fun f cdv A outer s H E hr R=>(bv_one (sv_ret (ev_join (av_cons rfl (ev_compC plain_of (N:=["level"]) (k:=1) (fr:=[]) (gk_nm (by decide)) rfl ⟨rfl,rfl,rfl,rfl,rfl,rfl⟩ (iv_of (ev_var (pv 0))) (fun _ _ _ _=>(gv_name (pg_name (i:=0) (show List.Nodup (α:=Str) ["level"] from by decide +kernel) rfl (Or.inl rfl) (Or.inr rfl)))) (fun _ _ _ _=>tv_none) (fun _ _ _ _=>(ev_dgetG T.D_OPPOSITES.choose_spec.2 (by rfl) T.D_OPPOSITES.choose_spec.1 (ev_var (pv 0)) (fun _ _=>rfl)))) av_nil) rfl)))
theorem sc_both_at:FnScope ["first","second"] ["first","second"] (defScope s_both_at):=by exists sc_
theorem ok_both_at (T:Tx w K mg z):Cq P w K mg base z 1 "both_at" ["first","second"] F_both_at:=
 have SC:=sc_both_at
 .of (b:=B_both_at) T.f_both_at SC rfl rfl fun f cdv A outer s H E hr R=>(bv_cons (sv_if (PW.pt (wv_or (tv_cmp (od_eq (hu50 hr)) (ev_var (pv 0)) (ev_S (l:=[48])) (nomark _)) (wv_or1 (tv_cmp (od_eq (hu50 hr)) (ev_var (pv 1)) (ev_S (l:=[48])) (nomark _))))) (bv_one (sv_ret (ev_S (l:=[48])))) bv_nil)
   (bv_cons (sv_if (PW.pt (wv_or (tv_cmp (od_eq (hu50 hr)) (ev_var (pv 0)) (ev_S (l:=[120])) (nomark _)) (wv_or1 (tv_cmp (od_eq (hu50 hr)) (ev_var (pv 1)) (ev_S (l:=[120])) (nomark _))))) (bv_one (sv_ret (ev_S (l:=[120])))) bv_nil)
   (bv_one (sv_ret (ev_S (l:=[49]))))))
theorem sc_both:FnScope ["one","other"] ["one","other"] (defScope s_both):=by exists sc_
theorem ok_both (T:Tx w K mg z):Cq P w K mg base z 3 "both" ["one","other"] F_both:=
 have SC:=sc_both
 .of (b:=B_both) T.f_both SC rfl rfl fun f cdv A outer s H E hr R=>(bv_cons (sv_drop (ev_cal (ok_refuse_unlike T) (hr.mono (by decide)) R.pass (av_cons rfl (ev_lst (av_cons rfl (ev_var (pv 0)) (av_cons rfl (ev_var (pv 1)) av_nil))) av_nil)))
   (bv_one (sv_ret (ev_join (av_cons rfl (ev_compC plain_of (N:=["first","second"]) (k:=2) (fr:=[]) (gk_tp (gks_cons (gk_nm (by decide)) (gks_cons (gk_nm (by decide)) gks_nil))) rfl ⟨rfl,rfl,rfl,rfl,rfl,rfl⟩ (iv_zip2 (by rfl) T.zip (av_cons rfl (ev_var (pv 0)) (av_cons rfl (ev_var (pv 1)) av_nil))) (fun _ _ _ _=>(gv_tup (n:=2) rfl (gvs_cons (gv_name (pg_name (i:=0) (show List.Nodup (α:=Str) ["first","second"] from by decide +kernel) rfl (Or.inl rfl) (Or.inr rfl))) (gvs_cons (gv_name (pg_name (i:=1) (show List.Nodup (α:=Str) ["first","second"] from by decide +kernel) rfl (Or.inl rfl) (Or.inr rfl))) gvs_nil)))) (fun _ _ _ _=>tv_none) (fun _ _ _ _=>(ev_cal (ok_both_at T) (hr.mono (by decide)) pass_X (av_cons rfl (ev_var (pv 0)) (av_cons rfl (ev_var (pv 1)) av_nil))))) av_nil) rfl))))
theorem sc_either_at:FnScope ["first","second"] ["first","second"] (defScope s_either_at):=by exists sc_
theorem ok_either_at (T:Tx w K mg z):Cq P w K mg base z 1 "either_at" ["first","second"] F_either_at:=
 have SC:=sc_either_at
 .of (b:=B_either_at) T.f_either_at SC rfl rfl fun f cdv A outer s H E hr R=>(bv_cons (sv_if (PW.pt (wv_or (tv_cmp (od_eq (hu50 hr)) (ev_var (pv 0)) (ev_S (l:=[49])) (nomark _)) (wv_or1 (tv_cmp (od_eq (hu50 hr)) (ev_var (pv 1)) (ev_S (l:=[49])) (nomark _))))) (bv_one (sv_ret (ev_S (l:=[49])))) bv_nil)
   (bv_cons (sv_if (PW.pt (wv_or (tv_cmp (od_eq (hu50 hr)) (ev_var (pv 0)) (ev_S (l:=[120])) (nomark _)) (wv_or1 (tv_cmp (od_eq (hu50 hr)) (ev_var (pv 1)) (ev_S (l:=[120])) (nomark _))))) (bv_one (sv_ret (ev_S (l:=[120])))) bv_nil)
   (bv_one (sv_ret (ev_S (l:=[48]))))))
theorem sc_either:FnScope ["one","other"] ["one","other"] (defScope s_either):=by exists sc_
theorem ok_either (T:Tx w K mg z):Cq P w K mg base z 3 "either" ["one","other"] F_either:=
 have SC:=sc_either
 .of (b:=B_either) T.f_either SC rfl rfl fun f cdv A outer s H E hr R=>(bv_cons (sv_drop (ev_cal (ok_refuse_unlike T) (hr.mono (by decide)) R.pass (av_cons rfl (ev_lst (av_cons rfl (ev_var (pv 0)) (av_cons rfl (ev_var (pv 1)) av_nil))) av_nil)))
   (bv_one (sv_ret (ev_join (av_cons rfl (ev_compC plain_of (N:=["first","second"]) (k:=2) (fr:=[]) (gk_tp (gks_cons (gk_nm (by decide)) (gks_cons (gk_nm (by decide)) gks_nil))) rfl ⟨rfl,rfl,rfl,rfl,rfl,rfl⟩ (iv_zip2 (by rfl) T.zip (av_cons rfl (ev_var (pv 0)) (av_cons rfl (ev_var (pv 1)) av_nil))) (fun _ _ _ _=>(gv_tup (n:=2) rfl (gvs_cons (gv_name (pg_name (i:=0) (show List.Nodup (α:=Str) ["first","second"] from by decide +kernel) rfl (Or.inl rfl) (Or.inr rfl))) (gvs_cons (gv_name (pg_name (i:=1) (show List.Nodup (α:=Str) ["first","second"] from by decide +kernel) rfl (Or.inl rfl) (Or.inr rfl))) gvs_nil)))) (fun _ _ _ _=>tv_none) (fun _ _ _ _=>(ev_cal (ok_either_at T) (hr.mono (by decide)) pass_X (av_cons rfl (ev_var (pv 0)) (av_cons rfl (ev_var (pv 1)) av_nil))))) av_nil) rfl))))
theorem sc_gate_wave:FnScope ["word","waves"] ["word","waves"] (defScope s_gate_wave):=by exists sc_
theorem ok_gate_wave (T:Tx w K mg z):Cq P w K mg base z 4 "gate_wave" ["word","waves"] F_gate_wave:=
 have SC:=sc_gate_wave
 .of (b:=B_gate_wave) T.f_gate_wave SC rfl rfl fun f cdv A outer s H E hr R=>(bv_cons (sv_if (tv_cmp (od_ne (hu50 hr)) (ev_callB cd_len (by rfl) T.len PySem.boot_len (av_cons rfl (ev_var (pv 1)) av_nil)) (ev_dgetI T.D_GATE_SIZES.choose_spec.2 (T.N_GATE_SIZES _ T.D_GATE_SIZES.choose_spec.1) (by rfl) T.D_GATE_SIZES.choose_spec.1 (ev_var (pv 0)) rfl) (nomark _)) (bv_one (sv_raise (cn:=1) rfl R (by rfl) (by exact T.NoName) (by exact T.x_NoName) (uv_r2 (ev_var (pv 0))))) bv_nil)
   (bv_cons (sv_if (tv_cmp (od_eq (hu50 hr)) (ev_var (pv 0)) (ev_S (l:=[110,111])) (nomark _)) (bv_one (sv_ret (ev_cal (ok_no T) (hr.mono (by decide)) R.pass (av_cons rfl (ev_ix (ev_var (pv 1)) ev_int (fun _ _=>rfl)) av_nil)))) bv_nil)
   (bv_cons (sv_if (tv_cmp (od_eq (hu50 hr)) (ev_var (pv 0)) (ev_S (l:=[98,111,116,104])) (nomark _)) (bv_one (sv_ret (ev_cal (ok_both T) (hr.mono (by decide)) R.pass (av_cons rfl (ev_ix (ev_var (pv 1)) ev_int (fun _ _=>rfl)) (av_cons rfl (ev_ix (ev_var (pv 1)) ev_int (fun _ _=>rfl)) av_nil))))) bv_nil)
   (bv_cons (sv_if (tv_cmp (od_eq (hu50 hr)) (ev_var (pv 0)) (ev_S (l:=[101,105,116,104,101,114])) (nomark _)) (bv_one (sv_ret (ev_cal (ok_either T) (hr.mono (by decide)) R.pass (av_cons rfl (ev_ix (ev_var (pv 1)) ev_int (fun _ _=>rfl)) (av_cons rfl (ev_ix (ev_var (pv 1)) ev_int (fun _ _=>rfl)) av_nil))))) bv_nil)
   (bv_one (sv_ret (ev_cal (ok_unlike T) (hr.mono (by decide)) R.pass (av_cons rfl (ev_ix (ev_var (pv 1)) ev_int (fun _ _=>rfl)) (av_cons rfl (ev_ix (ev_var (pv 1)) ev_int (fun _ _=>rfl)) av_nil)))))))))
theorem sc_wave_of:FnScope ["sheet","name"] ["sheet","name"] (defScope s_wave_of):=by exists sc_
theorem ok_wave_of (T:Tx w K mg z):Cq P w K mg base z 1 "wave_of" ["sheet","name"] F_wave_of:=
 have SC:=sc_wave_of
 .of (b:=B_wave_of) T.f_wave_of SC rfl rfl fun f cdv A outer s H E hr R=>(bv_cons (sv_if (tv_cmp (od_notinD (hu50 hr)) (ev_var (pv 1)) (ev_var (pv 0)) (by with_unfolding_all rfl)) (bv_one (sv_raise (cn:=1) rfl R (by rfl) (by exact T.NoName) (by exact T.x_NoName) (uv_2r (ev_var (pv 1))))) bv_nil)
   (bv_one (sv_ret (ev_dix (hu50 hr) (ev_var (pv 0)) (ev_var (pv 1)) (fun _ _=>rfl)))))
theorem sc_without_wave:FnScope ["sheet","name","told"] ["sheet","name"] (defScope s_without_wave):=by exists sc_
theorem ok_without_wave (T:Tx w K mg z):Cq P w K mg base z 2 "without_wave" ["sheet","name"] F_without_wave:=
 have SC:=sc_without_wave
 .of (b:=B_without_wave) T.f_without_wave SC rfl rfl fun f cdv A outer s H E hr R=>(bv_cons (sv_drop (ev_cal (ok_wave_of T) (hr.mono (by decide)) R.pass (av_cons rfl (ev_var (pv 0)) (av_cons rfl (ev_var (pv 1)) av_nil))))
   (bv_cons (sv_ownC (i:=2) SC.nd rfl (Or.inl rfl) (by rfl) T.dict (ev_var (pv 0)) rfl)
   (bv_cons (sv_dpop (pv 2) (ev_var (pv 1)) ⟨rfl,rfl,rfl,rfl⟩)
   (bv_rel 2 (bv_one (sv_ret (ev_var (pv 2))))))))
theorem rel_ref {c:Addr}{K:PySem.W.Frag}{C:Addr}{b:Bool} (h:kitOne K (.ref C) (.ref c)=some b):∀u,RelV (.ref c) u->kitOne K (.ref C) u=some b:=fun u r=>by
 cases r
 exact h
theorem rel_ty {n:String}{K:PySem.W.Frag}{C:Addr}{b:Bool} (h:kitOne K (.ref C) (.type n)=some b):∀u,RelV (.ty n) u->kitOne K (.ref C) u=some b:=fun u r=>by
 cases r
 exact h
theorem sc_law_class:FnScope ["_law_kept","_law_kinds","_law_some"] ["_law_kept"] (defScope s_law_class):=by exists sc_
noncomputable abbrev l4 (j:Nat):List V:=[V.bl (j==0),V.bl (j==1),V.bl (j==2),V.bl (j==3)]
noncomputable abbrev l3 (j:Nat):List V:=[V.bl (j==4),V.bl (j==5),V.bl (j==6)]
noncomputable abbrev l1 (j:Nat):List V:=[V.bl (j==7)]
noncomputable abbrev l8 (j:Nat):List V:=[V.bl (j==0),V.bl (j==1),V.bl (j==2),V.bl (j==3),V.bl (j==4),V.bl (j==5),V.bl (j==6),V.bl (j==7)]
theorem cls_count {j:Nat} (h:j<8):(l8 j).countP (fun z=>eqV z (.bl true))=1:=by
 match j,h with
 |0,_=>rfl
 |1,_=>rfl
 |2,_=>rfl
 |3,_=>rfl
 |4,_=>rfl
 |5,_=>rfl
 |6,_=>rfl
 |7,_=>rfl
theorem cls_index {j:Nat} (hj:j<8):(∃z,(l8 j)[j]?=some z/\eqV z (.bl true)=true)/\(∀m z,m<j->(l8 j)[m]?=some z->eqV z (.bl true)=false):=by
 have key:∀(m:Nat),m<8->(l8 j)[m]?=some (V.bl (j==m)):=fun m hm=>by
  match m,hm with
  |0,_=>rfl
  |1,_=>rfl
  |2,_=>rfl
  |3,_=>rfl
  |4,_=>rfl
  |5,_=>rfl
  |6,_=>rfl
  |7,_=>rfl
 refine⟨⟨_,key j hj,by simp [eqV]⟩,fun m z hm hz=>?_⟩
 rw [key m (by omega)] at hz
 cases hz
 simp [eqV]
 omega
theorem cls_word {j:Nat} (hj:j<8):atI [S [99,108,97,115,104],S [110,111,32,98,97,99,107],S [110,111,32,110,97,109,101],S [110,111,32,116,101,120,116],S [110,111,32,116,105,99,107],S [110,111,32,119,97,118,101],S [116,111,111,32,108,111,110,103],S [117,110,108,105,107,101]] ((j:Nat):Int)=some (S (wordC j)):=by
 match j,hj with
 |0,_=>rfl
 |1,_=>rfl
 |2,_=>rfl
 |3,_=>rfl
 |4,_=>rfl
 |5,_=>rfl
 |6,_=>rfl
 |7,_=>rfl
theorem class_run (T:Tx w K mg z):ClsRun P w K mg base (z 0) (z 7) (z 1) (z 2) (z 3) (z 4) (z 5) (z 6):=by
 obtain⟨f,fd,F,hm,hb⟩:=T.f__law_class
 have SC:=sc_law_class
 refine⟨f,hm,F.kp,fun A outer s H a C j Q hdep hun e0 ht0 hH W q=>?_⟩
 obtain⟨oc,od,kV,doc,pm,an,cdv,ct,osl,rfl,lk,hcd⟩:=F.ex
 have KX:K.In s.heap:=e0.mod.kin.keeps fun b o e=>(e0.bs b o e).1
 refine fn_run (cm:=false) (N:=["_law_kept","_law_kinds","_law_some"]) (ps:=["_law_kept"]) (us:=[.ref a]) (vs:=[.ref a]) lk hcd SC (by omega) (fun z=>nomatch z) e0 (.inl ht0) (hb s [.ref a] KX rfl) (.cons rfl .nil) rfl ?_
 refine⟨_,(pss_cons (ps_set (i:=1) SC.nd rfl (Or.inl rfl) (pe_lst (@pax _ _ _ _ _ rfl (pe_callB call_isExc (by rfl) T.isinstance boot_isinstance (@pax _ _ _ _ _ rfl (pv 0) (@pax _ _ _ _ _ rfl (pe_glob (by rfl) T.Clash (v:=.ref (z 0)) rfl) pa_nil))) (@pax _ _ _ _ _ rfl (pe_callB call_isExc (by rfl) T.isinstance boot_isinstance (@pax _ _ _ _ _ rfl (pv 0) (@pax _ _ _ _ _ rfl (pe_glob (by rfl) T.NoBack (v:=.ref (z 7)) rfl) pa_nil))) (@pax _ _ _ _ _ rfl (pe_callB call_isExc (by rfl) T.isinstance boot_isinstance (@pax _ _ _ _ _ rfl (pv 0) (@pax _ _ _ _ _ rfl (pe_glob (by rfl) T.NoName (v:=.ref (z 1)) rfl) pa_nil))) (@pax _ _ _ _ _ rfl (pe_callB call_isExc (by rfl) T.isinstance boot_isinstance (@pax _ _ _ _ _ rfl (pv 0) (@pax _ _ _ _ _ rfl (pe_glob (by rfl) T.NoText (v:=.ref (z 2)) rfl) pa_nil))) pa_nil))))))
   (pss_cons (ps_set (i:=1) SC.nd rfl (Or.inl rfl) (pe_op op_catL (pv 1) (pe_lst (@pax _ _ _ _ _ rfl (pe_callB call_isExc (by rfl) T.isinstance boot_isinstance (@pax _ _ _ _ _ rfl (pv 0) (@pax _ _ _ _ _ rfl (pe_glob (by rfl) T.NoTick (v:=.ref (z 3)) rfl) pa_nil))) (@pax _ _ _ _ _ rfl (pe_callB call_isExc (by rfl) T.isinstance boot_isinstance (@pax _ _ _ _ _ rfl (pv 0) (@pax _ _ _ _ _ rfl (pe_glob (by rfl) T.NoWave (v:=.ref (z 4)) rfl) pa_nil))) (@pax _ _ _ _ _ rfl (pe_callB call_isExc (by rfl) T.isinstance boot_isinstance (@pax _ _ _ _ _ rfl (pv 0) (@pax _ _ _ _ _ rfl (pe_glob (by rfl) T.TooLong (v:=.ref (z 5)) rfl) pa_nil))) pa_nil))))))
   (pss_cons (ps_set (i:=1) SC.nd rfl (Or.inl rfl) (pe_op op_catL (pv 1) (pe_lst (@pax _ _ _ _ _ rfl (pe_callB call_isExc (by rfl) T.isinstance boot_isinstance (@pax _ _ _ _ _ rfl (pv 0) (@pax _ _ _ _ _ rfl (pe_glob (by rfl) T.Unlike (v:=.ref (z 6)) rfl) pa_nil))) pa_nil))))
   (pss_cons (ps_if (PW.pt (pw_or (pt_cmpR op_ne (pe_bm PySem.F.plainAttrs_list PySem.F.slot_list_count PySem.F.type_list_count mt_countV (pv 1) (@pax _ _ _ _ _ rfl pe_bl pa_nil)) pe_int (nomark _)) (pw_or1 (pt_not (pt_val (pe_callB call_isExc (by rfl) T.isinstance boot_isinstance (@pax _ _ _ _ _ rfl (pv 0) (@pax _ _ _ _ _ rfl (pe_bltn (by rfl) T.ValueError boot_ValueError (v:=.ty "ValueError") rfl) pa_nil)))))))) (pss_one (ps_ret (pe_S (l:=[119,114,111,110,103])))) pss_nil)
   (pss_cons (ps_set (i:=2) SC.nd rfl (Or.inl rfl) (pe_lst (@pax _ _ _ _ _ rfl (pe_S (l:=[99,108,97,115,104])) (@pax _ _ _ _ _ rfl (pe_S (l:=[110,111,32,98,97,99,107])) (@pax _ _ _ _ _ rfl (pe_S (l:=[110,111,32,110,97,109,101])) (@pax _ _ _ _ _ rfl (pe_S (l:=[110,111,32,116,101,120,116])) (@pax _ _ _ _ _ rfl (pe_S (l:=[110,111,32,116,105,99,107])) (@pax _ _ _ _ _ rfl (pe_S (l:=[110,111,32,119,97,118,101])) (@pax _ _ _ _ _ rfl (pe_S (l:=[116,111,111,32,108,111,110,103])) (@pax _ _ _ _ _ rfl (pe_S (l:=[117,110,108,105,107,101])) pa_nil))))))))))
   (pss_one (ps_ret (pe_ix ix_list (pv 2) (pe_bm PySem.F.plainAttrs_list PySem.F.slot_list_index PySem.F.type_list_index mt_indexV (pv 1) (@pax _ _ _ _ _ rfl pe_bl pa_nil)) (fun _ _=>rfl))))))))),?_⟩
 have w0:=rel_ref W.w0
 have w1:=rel_ref W.w1
 have w2:=rel_ref W.w2
 have w3:=rel_ref W.w3
 have w4:=rel_ref W.w4
 have w5:=rel_ref W.w5
 have w6:=rel_ref W.w6
 have w7:=rel_ref W.w7
 have wv:=rel_ty W.ve
 refine⟨_,rfl,a,C,_,_,rfl,hH,W.z,w0,_,rfl,a,C,_,_,rfl,hH,W.z,w1,_,rfl,a,C,_,_,rfl,hH,W.z,w2,_,rfl,a,C,_,_,rfl,hH,W.z,w3,big 4,fun p hp=>?_⟩
 have h1:Same H (upd H p (.lst (l4 j))):=.upd hp
 refine⟨_,rfl,_,rfl,a,C,_,_,rfl,h1 _ _ hH,W.z,w4,_,rfl,a,C,_,_,rfl,h1 _ _ hH,W.z,w5,_,rfl,a,C,_,_,rfl,h1 _ _ hH,W.z,w6,big 3,fun p2 hp2=>?_⟩
 have h2:Same (upd H p (.lst (l4 j))) (upd (upd H p (.lst (l4 j))) p2 (.lst (l3 j))):=.upd hp2
 refine⟨p,p2,l4 j,l3 j,rfl,rfl,.of (h2 _ _ upd_same),.of upd_same,big 7,fun p3 hp3=>?_⟩
 have h3:=h2.trans (Same.upd (o:=.lst (l4 j++l3 j)) hp3)
 have hH3:=h3 _ _ (h1 _ _ hH)
 refine⟨_,rfl,_,rfl,a,C,_,_,rfl,hH3,W.z,w7,big 1,fun p4 hp4=>?_⟩
 have h4:Same _ (upd (upd (upd (upd H p (.lst (l4 j))) p2 (.lst (l3 j))) p3 (.lst (l4 j++l3 j))) p4 (.lst (l1 j))):=Same.upd hp4
 refine⟨p3,p4,l4 j++l3 j,l1 j,rfl,rfl,.of (h4 _ _ upd_same),.of upd_same,big 8,fun p5 hp5=>?_⟩
 have h5:=h4.trans (Same.upd (o:=.lst ((l4 j++l3 j)++l1 j)) hp5)
 have hH5:=h5 _ _ hH3
 refine⟨_,rfl,.inl ⟨rfl,_,.of upd_same⟩,p5,l8 j,_,rfl,rfl,upd_same,rfl,rfl,rfl,_,rfl,?_⟩
 rw [cls_count W.lt]
 refine iteF ?_
 refine⟨_,rfl,a,C,_,_,rfl,hH5,W.z,wv,_,rfl,iteF ?_⟩
 refine⟨big 8,fun p6 hp6=>?_⟩
 have e5:∀o,upd (upd (upd (upd (upd (upd H p (.lst (l4 j))) p2 (.lst (l3 j))) p3 (.lst (l4 j++l3 j))) p4 (.lst (l1 j))) p5 (.lst ((l4 j++l3 j)++l1 j))) p6 o p5=some (.lst (l8 j)):=fun o=>by
  rw [upd_ne (ne_of_none upd_same hp6)]
  exact upd_same
 refine⟨_,rfl,_,rfl,.inl ⟨rfl,_,.of (e5 _)⟩,p5,l8 j,_,j,rfl,rfl,e5 _,rfl,rfl,(cls_index W.lt).1,(cls_index W.lt).2,p6,_,_,_,rfl,rfl,.of upd_same,cls_word W.lt,?_⟩
 exact q _ (((h1.trans h3).trans h5).trans (.upd hp6))
theorem class_NoName (T:Tx w K mg z):ClassK K (z 1) (z 0) (z 7) (z 1) (z 2) (z 3) (z 4) (z 5) (z 6) 2:=⟨⟨T.e1_NoName,T.e2_NoName,T.e3_NoName,T.e4_NoName,T.e5_NoName,T.e6_NoName,T.e7_NoName,T.e8_NoName⟩,by decide,T.w0_NoName,T.w1_NoName,T.w2_NoName,T.w3_NoName,T.w4_NoName,T.w5_NoName,T.w6_NoName,T.w7_NoName,T.v_NoName⟩
theorem class_Unlike (T:Tx w K mg z):ClassK K (z 6) (z 0) (z 7) (z 1) (z 2) (z 3) (z 4) (z 5) (z 6) 7:=⟨⟨T.e1_Unlike,T.e2_Unlike,T.e3_Unlike,T.e4_Unlike,T.e5_Unlike,T.e6_Unlike,T.e7_Unlike,T.e8_Unlike⟩,by decide,T.w0_Unlike,T.w1_Unlike,T.w2_Unlike,T.w3_Unlike,T.w4_Unlike,T.w5_Unlike,T.w6_Unlike,T.w7_Unlike,T.v_Unlike⟩
theorem class_NoBack (T:Tx w K mg z):ClassK K (z 7) (z 0) (z 7) (z 1) (z 2) (z 3) (z 4) (z 5) (z 6) 1:=⟨⟨T.e1_NoBack,T.e2_NoBack,T.e3_NoBack,T.e4_NoBack,T.e5_NoBack,T.e6_NoBack,T.e7_NoBack,T.e8_NoBack⟩,by decide,T.w0_NoBack,T.w1_NoBack,T.w2_NoBack,T.w3_NoBack,T.w4_NoBack,T.w5_NoBack,T.w6_NoBack,T.w7_NoBack,T.v_NoBack⟩
theorem clsK (T:Tx w K mg z):∀c∈[1,6,7],∃j,ClassK K (z c) (z 0) (z 7) (z 1) (z 2) (z 3) (z 4) (z 5) (z 6) j/\wordC j=wordZ8 c/\exmOne K (.ref (z c)) (.ref (z 8))=some true:=by
 intro c h
 simp only [List.mem_cons,List.not_mem_nil,or_false] at h
 rcases h with rfl | rfl | rfl
 ·exact⟨_,class_NoName T,rfl,T.m_NoName⟩
 ·exact⟨_,class_Unlike T,rfl,T.m_Unlike⟩
 ·exact⟨_,class_NoBack T,rfl,T.m_NoBack⟩
theorem sc_law_told:FnScope ["_law_deed","e"] ["_law_deed"] (defScope s_law_told):=by exists sc_
theorem ok__law_told (T:Tx w K mg z):ToldR P w K mg base z [1,6,7] 5:=told_run T.f__law_told sc_law_told rfl rfl rfl rfl rfl T.TickError (class_run T) (clsK T)
theorem sc_law_cell:FnScope ["_law_script","_law_k"] ["_law_script","_law_k"] (defScope s_law_cell):=by exists sc_
theorem ok__law_cell (T:Tx w K mg z):Cq P w K mg base z 1 "_law_cell" ["_law_script","_law_k"] F_L_cell:=
 have SC:=sc_law_cell
 .of (b:=B_L_cell) T.f__law_cell SC rfl rfl fun f cdv A outer s H E hr R=>(bv_cons (sv_if (tv_cmp od_lt (ev_var (pv 1)) (ev_callB cd_len (by rfl) T.len PySem.boot_len (av_cons rfl (ev_var (pv 0)) av_nil)) (nomark _)) (bv_one (sv_ret (ev_ix (ev_var (pv 0)) (ev_var (pv 1)) (fun _ _=>rfl)))) bv_nil)
   (bv_cons (sv_if (tv_cmp (od_eq (hu50 hr)) (ev_var (pv 0)) (ev_lst av_nil) (nomark _)) (bv_one (sv_ret ev_int)) bv_nil)
   (bv_one (sv_ret (ev_op od_add (ev_op od_mul (ev_ix (ev_var (pv 0)) (ev_op od_mod (ev_var (pv 1)) (ev_callB cd_len (by rfl) T.len PySem.boot_len (av_cons rfl (ev_var (pv 0)) av_nil))) (fun _ _=>rfl)) ev_int) (ev_var (pv 1)))))))
theorem sc_law_pick:FnScope ["_law_script","_law_k","_law_many","_law_drawn"] ["_law_script","_law_k","_law_many"] (defScope s_law_pick):=by exists sc_
theorem ok__law_pick (T:Tx w K mg z):Cq P w K mg base z 2 "_law_pick" ["_law_script","_law_k","_law_many"] F_L_pick:=
 have SC:=sc_law_pick
 .of (b:=B_L_pick) T.f__law_pick SC rfl rfl fun f cdv A outer s H E hr R=>(bv_cons (sv_set (i:=3) SC.nd rfl (Or.inl rfl) (ev_op od_mod (ev_op od_mul (ev_op od_add (ev_cal (ok__law_cell T) (hr.mono (by decide)) R.pass (av_cons rfl (ev_var (pv 0)) (av_cons rfl (ev_var (pv 1)) av_nil))) (ev_op od_mul ev_int (ev_op od_add (ev_var (pv 1)) ev_int))) ev_int) ev_int))
   (bv_one (sv_ret (ev_op od_mod (ev_op od_mod (ev_op od_add (ev_op od_mul (ev_var (pv 3)) (ev_var (pv 3))) (ev_op od_div (ev_var (pv 3)) ev_int)) ev_int) (ev_var (pv 2))))))
theorem sc_m_init:FnScope ["self"] ["self"] (defScope m_init):=by exists sc_
theorem ok_Board (T:Tx w K mg z):CalI P w K mg base 1:=by
 obtain⟨C,f,fd,hC,hm,hM,F,hb⟩:=T.M_init
 have SC:=sc_m_init
 exact⟨C,f,fd,hC,hm,hM,init_ok F SC fun cdv A outer s H E hr=>pss_cons (ps_fld (pv 0) (pe_lst pa_nil) rfl) (pss_one (ps_fld (pv 0) (pe_lst pa_nil) rfl)),hb⟩
theorem sc_m_do_step:FnScope ["self","step","behind"] ["self","step","behind"] (defScope m_do_step):=by exists sc_
theorem okM_do_step (T:Tx w K mg z):CalB P w K mg base 1 "do_step" ["self","step","behind"] (spB K z fun _=>bDo):=by
 obtain⟨C,f,fd,hC,hM,F,hb⟩:=T.M_do_step
 have SC:=sc_m_do_step
 exact⟨C,f,fd,hC,hM,do_ok F SC fun cdv A outer s H E hr=>pss_cons (ps_expr (pe_bm PySem.F.plainAttrs_list PySem.F.slot_list_append PySem.F.type_list_append mt_append (pe_fld (pv 0) rfl) (@pax _ _ _ _ _ rfl (pe_tup (@pax _ _ _ _ _ rfl (pv 1) (@pax _ _ _ _ _ rfl (pv 2) pa_nil))) pa_nil))) (pss_one (ps_expr (pe_bm0 PySem.F.plainAttrs_list PySem.F.slot_list_clear PySem.F.type_list_clear mt_clear (pe_fld (pv 0) rfl)))),hb⟩
theorem sc_m_sheet:FnScope ["self"] ["self"] (defScope m_sheet):=by exists sc_
theorem okM_sheet (T:Tx w K mg z):CalB P w K mg base 1 "sheet" ["self"] (spR K z wDic bSheet):=by
 obtain⟨C,f,fd,hC,hM,F,hb⟩:=T.M_sheet
 have SC:=sc_m_sheet
 exact⟨C,f,fd,hC,hM,sheet_ok F SC fun cdv A outer s H E hr=>pss_one (ps_ret (pe_ifExp (pt_cmpR op_gt (pe_callB call_len_seq (by rfl) T.len PySem.boot_len (@pax _ _ _ _ _ rfl (pe_fld (pv 0) rfl) pa_nil)) pe_int (nomark _)) (pe_callTy call_dcp (by rfl) T.dict L2.boot_dict (@pax _ _ _ _ _ rfl (pe_ix ix_tup (pe_ix ix_list (pe_fld (pv 0) rfl) (pe_un un_neg pe_int) (fun _ _=>rfl)) pe_int (fun _ _=>rfl)) pa_nil)) pe_dnewK)),hb⟩
theorem sc_m_steps:FnScope ["self"] ["self"] (defScope m_steps):=by exists sc_
theorem okM_steps (T:Tx w K mg z):CalB P w K mg base 1 "steps" ["self"] (spR K z (wLst K) bSteps):=by
 obtain⟨C,f,fd,hC,hM,F,hb⟩:=T.M_steps
 have SC:=sc_m_steps
 exact⟨C,f,fd,hC,hM,steps_okX F SC fun cdv A outer s H E hr R=>pss_one (ps_ret (pe_compX plain_of (N:=["step","behind"]) (k:=2) (fr:=[]) rfl ⟨rfl,rfl,rfl,rfl,rfl,rfl⟩ (pi_list (pe_fld (pv 0) rfl)) (fun _ _ _ _=>(gv_tup (n:=2) rfl (gvs_cons (gv_name (pg_name (i:=0) (show List.Nodup (α:=Str) ["step","behind"] from by decide +kernel) rfl (Or.inl rfl) (Or.inr rfl))) (gvs_cons (gv_name (pg_name (i:=1) (show List.Nodup (α:=Str) ["step","behind"] from by decide +kernel) rfl (Or.inl rfl) (Or.inr rfl))) gvs_nil)))) (fun _ _ _ _=>tv_none) (fun _ _ _ _=>ev_var (pv 0)))),hb⟩
theorem sc_m_sizes:FnScope ["self"] ["self"] (defScope m_sizes):=by exists sc_
theorem okM_sizes (T:Tx w K mg z):CalB P w K mg base 1 "sizes" ["self"] (spR K z (wRep K) bSizes):=by
 obtain⟨C,f,fd,hC,hM,F,hb⟩:=T.M_sizes
 have SC:=sc_m_sizes
 exact⟨C,f,fd,hC,hM,sizes_ok F SC fun cdv A outer s H E hr=>pss_one (ps_ret (pe_tup (@pax _ _ _ _ _ rfl (pe_callB call_len_seq (by rfl) T.len PySem.boot_len (@pax _ _ _ _ _ rfl (pe_fld (pv 0) rfl) pa_nil)) (@pax _ _ _ _ _ rfl (pe_callB call_len_seq (by rfl) T.len PySem.boot_len (@pax _ _ _ _ _ rfl (pe_fld (pv 0) rfl) pa_nil)) pa_nil)))),hb⟩
theorem sc_move_last:FnScope ["source","target","row","step"] ["source","target"] (defScope s_move_last):=by exists sc_
theorem ok_move_last (T:Tx w K mg z):Cal P w K mg base (CX1 P w) 1 "move_last" ["source","target"] (spV K z):=by
 obtain⟨f,fd,F,hm,hb⟩:=T.f_move_last
 have SC:=sc_move_last
 exact⟨f,fd,move_ok (u:=uOf (pC (.str [116,104,101,114,101,32,105,115,32,110,111,32,115,117,99,104,32,115,116,101,112]))) (fun _=>rfl) F SC fun cdv A outer s H E hr R=>pss_cons (ps_if (pt_cmpR (op_eqD (hu50 hr)) (pe_callB call_len_seq (by rfl) T.len PySem.boot_len (@pax _ _ _ _ _ rfl (pv 0) pa_nil)) pe_int (nomark _)) (pss_one (sv_raise (cn:=7) rfl R (by rfl) (by exact T.NoBack) (by exact T.x_NoBack) (uv_of (ev_S (l:=[116,104,101,114,101,32,105,115,32,110,111,32,115,117,99,104,32,115,116,101,112]))))) pss_nil) (pss_cons (ps_set (i:=2) SC.nd rfl (Or.inl rfl) (pe_bm0 PySem.F.plainAttrs_list PySem.F.slot_list_pop PySem.F.type_list_pop mt_pop (pv 0))) (pss_cons (ps_expr (pe_bm PySem.F.plainAttrs_list PySem.F.slot_list_append PySem.F.type_list_append mt_append (pv 1) (@pax _ _ _ _ _ rfl (pv 2) pa_nil))) (pss_cons (ps_set (i:=3) SC.nd rfl (Or.inl rfl) (pe_ix ix_tup (pv 2) pe_int (fun _ _=>rfl))) (pss_one (ps_ret (pe_ix ix_tup (pv 3) pe_int (fun _ _=>rfl))))))),hm,F.kp,hb⟩
theorem sc_m_back:FnScope ["self"] ["self"] (defScope m_back):=by exists sc_
theorem okM_back (T:Tx w K mg z):CalB P w K mg base 2 "back" ["self"] (spB K z fun _=>bBack):=by
 obtain⟨C,f,fd,hC,hM,F,hb⟩:=T.M_back
 have SC:=sc_m_back
 exact⟨C,f,fd,hC,hM,back_ok F SC fun cdv A outer s H E hr R=>pss_one (ps_ret (pe_cal (ok_move_last T) (hr.mono (by decide)) R.pass (@pax _ _ _ _ _ rfl (pe_fld (pv 0) rfl) (@pax _ _ _ _ _ rfl (pe_fld (pv 0) rfl) pa_nil)))),hb⟩
theorem sc_m_forth:FnScope ["self"] ["self"] (defScope m_forth):=by exists sc_
theorem okM_forth (T:Tx w K mg z):CalB P w K mg base 2 "forth" ["self"] (spB K z fun _=>bForth):=by
 obtain⟨C,f,fd,hC,hM,F,hb⟩:=T.M_forth
 have SC:=sc_m_forth
 exact⟨C,f,fd,hC,hM,forth_ok F SC fun cdv A outer s H E hr R=>pss_one (ps_ret (pe_cal (ok_move_last T) (hr.mono (by decide)) R.pass (@pax _ _ _ _ _ rfl (pe_fld (pv 0) rfl) (@pax _ _ _ _ _ rfl (pe_fld (pv 0) rfl) pa_nil)))),hb⟩
theorem sc_m_put:FnScope ["self","name","wave","ahead"] ["self","name","wave"] (defScope m_put):=by exists sc_
theorem one_put:∀p x y ds,fnB 2 1 (sSeqs pre_put) as_put re_put p x y ds=b_put x y ds:=fun p x y ds=>by
 unfold b_put fnB pre_put
 simp only [deK_drop,deK_asg,deK_nil]
 rcases ds with _ | ⟨d2,_ | ⟨d1,_ | ⟨d0,ds⟩⟩⟩ <;> rfl
theorem okM_put (T:Tx w K mg z):CalB P w K mg base 4 "put" ["self","name","wave"] (spB K z fun _=>b_put):=by
 obtain⟨C,f,fd,hC,hM,F,hb⟩:=T.M_put
 have SC:=sc_m_put
 refine⟨C,f,fd,hC,hM,(deed_ok (pre:=pre_put) (fs:=as_put) (e:=re_put) F SC rfl rfl (List.forall_mem_cons.mpr ⟨keep_drop,List.forall_mem_cons.mpr ⟨keep_asg,fun _ z=>nomatch z⟩⟩) fun cdv A outer s H E hr R=>?_).imp (spB_one one_put),hb⟩
 exact(pss_cons (sv_drop (ev_cal (ok_refuse_no_name T) (hr.mono (by decide)) R.pass (av_cons rfl (ev_var (pv 1)) av_nil))) (pss_cons (sv_set (i:=3) SC.nd rfl (Or.inl rfl) (ev_rdD (okM_sheet T) (hr.mono (by decide)) R.pass (pv 0))) (pss_cons (ps_expr (pe_mth (okM_do_step T) (hr.mono (by decide)) R.pass (pv 0) (av_cons rfl (ev_tup (av_cons rfl (ev_S (l:=[112,117,116])) (av_cons rfl (ev_var (pv 1)) (av_cons rfl (ev_var (pv 2)) av_nil)))) (av_cons rfl (ev_cal (ok_with_wave T) (hr.mono (by decide)) R.pass (av_cons rfl (ev_var (pv 3)) (av_cons rfl (ev_var (pv 1)) (av_cons rfl (ev_var (pv 2)) av_nil)))) av_nil)))) (pss_one (ps_ret (ev_cmp (od_inD (hu50 hr)) (ev_var (pv 1)) (ev_var (pv 3)) (by with_unfolding_all rfl)))))))
theorem sc_m_gate:FnScope ["self","name","word","names","ahead","wave"] ["self","name","word","names"] (defScope m_gate):=by exists sc_
theorem one_gate:∀p x y ds,fnB 3 2 (sSeqs pre_gate) as_gate re_gate p x y ds=b_gate x y ds:=fun p x y ds=>by
 unfold b_gate fnB pre_gate
 simp only [deK_drop,deK_asg,deK_nil]
 rcases ds with _ | ⟨d3,_ | ⟨d2,_ | ⟨d1,_ | ⟨d0,ds⟩⟩⟩⟩ <;> rfl
theorem okM_gate (T:Tx w K mg z):CalB P w K mg base 5 "gate" ["self","name","word","names"] (spB K z fun _=>b_gate):=by
 obtain⟨C,f,fd,hC,hM,F,hb⟩:=T.M_gate
 have SC:=sc_m_gate
 refine⟨C,f,fd,hC,hM,(deed_ok (pre:=pre_gate) (fs:=as_gate) (e:=re_gate) F SC rfl rfl (List.forall_mem_cons.mpr ⟨keep_drop,List.forall_mem_cons.mpr ⟨keep_asg,List.forall_mem_cons.mpr ⟨keep_asg,fun _ z=>nomatch z⟩⟩⟩) fun cdv A outer s H E hr R=>?_).imp (spB_one one_gate),hb⟩
 exact(pss_cons (sv_drop (ev_cal (ok_refuse_no_name T) (hr.mono (by decide)) R.pass (av_cons rfl (ev_var (pv 1)) av_nil))) (pss_cons (sv_set (i:=4) SC.nd rfl (Or.inr rfl) (ev_rdD (okM_sheet T) (hr.mono (by decide)) R.pass (pv 0))) (pss_cons (sv_set (i:=5) SC.nd rfl (Or.inl rfl) (ev_cal (ok_gate_wave T) (hr.mono (by decide)) R.pass (av_cons rfl (ev_var (pv 2)) (av_cons rfl (ev_compX plain_of (N:=["own","ahead"]) (k:=1) (fr:=[4]) (gk_nm (by decide)) rfl ⟨rfl,rfl,rfl,rfl,rfl,rfl⟩ (iv_of (ev_var (pv 3))) (fun _ _ _ _=>(gv_name (pg_name (i:=0) (show List.Nodup (α:=Str) ["own","ahead"] from by decide +kernel) rfl (Or.inl rfl) (Or.inr rfl)))) (fun _ _ _ _=>tv_none) (fun _ _ _ _=>(ev_cal (ok_wave_of T) (hr.mono (by decide)) pass_X (av_cons rfl (ev_var (pv 1)) (av_cons rfl (ev_var (pv 0)) av_nil))))) av_nil)))) (pss_cons (ps_expr (pe_mth (okM_do_step T) (hr.mono (by decide)) R.pass (pv 0) (av_cons rfl (ev_op od_addT (ev_tup (av_cons rfl (ev_S (l:=[103,97,116,101])) (av_cons rfl (ev_var (pv 1)) (av_cons rfl (ev_var (pv 2)) av_nil)))) (ev_callTy cd_tuple (by rfl) T.tuple (show PySem.bootBuiltins "tuple" = some (.type "tuple") from by decide +kernel) (av_cons rfl (ev_var (pv 3)) av_nil))) (av_cons rfl (ev_cal (ok_with_wave T) (hr.mono (by decide)) R.pass (av_cons rfl (ev_var (pv 4)) (av_cons rfl (ev_var (pv 1)) (av_cons rfl (ev_var (pv 5)) av_nil)))) av_nil)))) (pss_one (ps_ret (ev_var (pv 5))))))))
theorem sc_m_take:FnScope ["self","name","ahead"] ["self","name"] (defScope m_take):=by exists sc_
theorem one_take:∀p x y ds,fnB 1 1 (sSeqs pre_take) as_take re_take p x y ds=b_take x y ds:=fun p x y ds=>by
 unfold b_take fnB pre_take
 simp only [deK_drop,deK_asg,deK_nil]
 rcases ds with _ | ⟨d1,_ | ⟨d0,ds⟩⟩ <;> rfl
theorem okM_take (T:Tx w K mg z):CalB P w K mg base 3 "take" ["self","name"] (spB K z fun _=>b_take):=by
 obtain⟨C,f,fd,hC,hM,F,hb⟩:=T.M_take
 have SC:=sc_m_take
 refine⟨C,f,fd,hC,hM,(deed_ok (pre:=pre_take) (fs:=as_take) (e:=re_take) F SC rfl rfl (List.forall_mem_cons.mpr ⟨keep_asg,fun _ z=>nomatch z⟩) fun cdv A outer s H E hr R=>?_).imp (spB_one one_take),hb⟩
 exact(pss_cons (sv_set (i:=2) SC.nd rfl (Or.inl rfl) (ev_rdD (okM_sheet T) (hr.mono (by decide)) R.pass (pv 0))) (pss_cons (ps_expr (pe_mth (okM_do_step T) (hr.mono (by decide)) R.pass (pv 0) (av_cons rfl (ev_tup (av_cons rfl (ev_S (l:=[116,97,107,101])) (av_cons rfl (ev_var (pv 1)) av_nil))) (av_cons rfl (ev_cal (ok_without_wave T) (hr.mono (by decide)) R.pass (av_cons rfl (ev_var (pv 2)) (av_cons rfl (ev_var (pv 1)) av_nil))) av_nil)))) (pss_one (ps_ret (ev_dix (hu50 hr) (ev_var (pv 2)) (ev_var (pv 1)) (fun _ _=>rfl))))))
theorem sc_law:FnScope ["_law_script","_law_board","_law_k","_law_name","_law_gone","_law_told_here"] ["_law_script"] (defScope s_law):=by exists sc_
noncomputable abbrev qLaw:Str:=(("law" : Str) ++ ".<locals>.") ++ "<lambda>"
theorem ok_law (hG:∀ns:List Int,ns.length<=63->F_law [.lst (ns.map Dt.int)]=.ok (.bl true)) (T:Tx w K mg z){f:Addr}{fd:FuncData}{cT PT:Addr} (F:Fun K "law" "law" s_law f fd) (hcT:fd.code=.ref cT) (LB:LamB mg base cT PT):FnOk P w K mg base (CX1 P w) 8 f fd ["_law_script"] (spLawT K [(cT,PT,qLaw)]):=by
 have SC:=sc_law
 refine law_okT (cls:=z) (G:=F_law) ?_ hG
 refine fn_okT (b:=B_law) F SC rfl rfl fun cdv A outer s H E hcv hTb hr R=>?_
 have hcE:=hcv.trans hcT
 have hT0:H PT=some (.tbl qLaw):=hTb _ List.mem_cons_self
 exact(bv_cons (sv_brd (i:=1) (ok_Board T) (hr.mono (by decide)) R.pass (by rfl) SC.nd rfl (Or.inr rfl))
   (bv_cons (sv_mt (okM_put T) (hr.mono (by decide)) R.pass (pv 1) (av_cons rfl (ev_S (l:=[97])) (av_cons rfl (ev_S (l:=[48,120,49])) av_nil)))
   (bv_cons (sv_mt (okM_put T) (hr.mono (by decide)) R.pass (pv 1) (av_cons rfl (ev_S (l:=[98])) (av_cons rfl (ev_S (l:=[48,49,49])) av_nil)))
   (bv_cons (sv_mt (okM_gate T) (hr.mono (by decide)) R.pass (pv 1) (av_cons rfl (ev_S (l:=[98])) (av_cons rfl (ev_S (l:=[110,111])) (av_cons rfl (ev_tup (av_cons rfl (ev_S (l:=[97])) av_nil)) av_nil))))
   (bv_cons (sv_mt0 (okM_back T) (hr.mono (by decide)) R.pass (pv 1))
   (bv_rel 5 (bv_cons (sv_for0 rfl (iv_range1 (by rfl) T.range (av_cons rfl ev_int av_nil)) (gv_name (pg_name (i:=2) SC.nd rfl (Or.inr rfl))) (bv_cons (sv_set (i:=3) SC.nd rfl (Or.inr rfl) (ev_ix (ev_lst (av_cons rfl (ev_S (l:=[])) (av_cons rfl (ev_S (l:=[65])) (av_cons rfl (ev_S (l:=[97,98,99,100,101])) (av_cons rfl (ev_S (l:=[97,49])) (av_cons rfl (ev_S (l:=[97,32,98])) (av_cons rfl ev_non (av_cons rfl ev_int (av_cons rfl (ev_tup (av_cons rfl (ev_S (l:=[97])) av_nil)) av_nil))))))))) (ev_op od_mod (ev_op od_add (ev_cal (ok__law_pick T) (hr.mono (by decide)) pass_no (av_cons rfl (ev_var (pv 0)) (av_cons rfl ev_int (av_cons rfl ev_int av_nil)))) (ev_op od_mul ev_int (ev_var (pv 2)))) ev_int) (fun _ _=>rfl)))
   (bv_cons (sv_set (i:=4) SC.nd rfl (Or.inr rfl) (ev_ix (ev_lst (av_cons rfl (ev_S (l:=[99])) (av_cons rfl (ev_S (l:=[97,97])) (av_cons rfl (ev_S (l:=[120])) (av_cons rfl (ev_S (l:=[119,120,121,122])) av_nil))))) (ev_op od_mod (ev_op od_add (ev_cal (ok__law_pick T) (hr.mono (by decide)) pass_no (av_cons rfl (ev_var (pv 0)) (av_cons rfl ev_int (av_cons rfl ev_int av_nil)))) (ev_var (pv 2))) ev_int) (fun _ _=>rfl)))
   (bv_cons (sv_own (i:=5) SC.nd rfl (Or.inl rfl) (av_cons rfl (ev_toldB (N:=["_law_board","_law_name"]) (fr:=[1,3]) (cs:=[1,6,7]) (k:=5) (ok__law_told T) (hr.mono (by decide)) pass_no (by rfl) ⟨⟨rfl,rfl,rfl,rfl,rfl,rfl⟩,rfl,rfl,by decide +kernel⟩ hcE LB hT0 rfl rfl bind0 (fun _ _ _ _ _ _ _ hr2 R2=>(ev_mtX (okM_put T) (hr2.mono (by decide)) R2.pass (pv 0) (av_cons rfl (ev_var (pv 1)) (av_cons rfl (ev_S (l:=[48,48,48])) av_nil))))) av_nil))
   (bv_cons (sv_append (pv 5) rfl (ev_toldB (N:=["_law_board","_law_name"]) (fr:=[1,3]) (cs:=[1,6,7]) (k:=5) (ok__law_told T) (hr.mono (by decide)) pass_no (by rfl) ⟨⟨rfl,rfl,rfl,rfl,rfl,rfl⟩,rfl,rfl,by decide +kernel⟩ hcE LB hT0 rfl rfl bind0 (fun _ _ _ _ _ _ _ hr2 R2=>(ev_mtX (okM_gate T) (hr2.mono (by decide)) R2.pass (pv 0) (av_cons rfl (ev_var (pv 1)) (av_cons rfl (ev_S (l:=[110,111])) (av_cons rfl (ev_tup (av_cons rfl (ev_S (l:=[97])) av_nil)) av_nil)))))))
   (bv_cons (sv_append (pv 5) rfl (ev_toldB (N:=["_law_board","_law_gone"]) (fr:=[1,4]) (cs:=[1,6,7]) (k:=5) (ok__law_told T) (hr.mono (by decide)) pass_no (by rfl) ⟨⟨rfl,rfl,rfl,rfl,rfl,rfl⟩,rfl,rfl,by decide +kernel⟩ hcE LB hT0 rfl rfl bind0 (fun _ _ _ _ _ _ _ hr2 R2=>(ev_mtX (okM_take T) (hr2.mono (by decide)) R2.pass (pv 0) (av_cons rfl (ev_var (pv 1)) av_nil)))))
   (bv_cons (sv_append (pv 5) rfl (ev_toldB (N:=["_law_board","_law_gone"]) (fr:=[1,4]) (cs:=[1,6,7]) (k:=5) (ok__law_told T) (hr.mono (by decide)) pass_no (by rfl) ⟨⟨rfl,rfl,rfl,rfl,rfl,rfl⟩,rfl,rfl,by decide +kernel⟩ hcE LB hT0 rfl rfl bind0 (fun _ _ _ _ _ _ _ hr2 R2=>(ev_mtX (okM_gate T) (hr2.mono (by decide)) R2.pass (pv 0) (av_cons rfl (ev_S (l:=[97])) (av_cons rfl (ev_S (l:=[110,111])) (av_cons rfl (ev_tup (av_cons rfl (ev_var (pv 1)) av_nil)) av_nil)))))))
   (bv_cons (sv_append (pv 5) rfl (ev_toldB (N:=["_law_board","_law_gone"]) (fr:=[1,4]) (cs:=[1,6,7]) (k:=5) (ok__law_told T) (hr.mono (by decide)) pass_no (by rfl) ⟨⟨rfl,rfl,rfl,rfl,rfl,rfl⟩,rfl,rfl,by decide +kernel⟩ hcE LB hT0 rfl rfl bind0 (fun _ _ _ _ _ _ _ hr2 R2=>(ev_mtX (okM_gate T) (hr2.mono (by decide)) R2.pass (pv 0) (av_cons rfl (ev_S (l:=[97])) (av_cons rfl (ev_S (l:=[98,111,116,104])) (av_cons rfl (ev_tup (av_cons rfl (ev_S (l:=[98])) (av_cons rfl (ev_var (pv 1)) av_nil))) av_nil)))))))
   (bv_cons (sv_append (pv 5) rfl (ev_toldB (N:=["_law_board","_law_gone"]) (fr:=[1,4]) (cs:=[1,6,7]) (k:=5) (ok__law_told T) (hr.mono (by decide)) pass_no (by rfl) ⟨⟨rfl,rfl,rfl,rfl,rfl,rfl⟩,rfl,rfl,by decide +kernel⟩ hcE LB hT0 rfl rfl bind0 (fun _ _ _ _ _ _ _ hr2 R2=>(ev_mtX (okM_gate T) (hr2.mono (by decide)) R2.pass (pv 0) (av_cons rfl (ev_S (l:=[97])) (av_cons rfl (ev_S (l:=[117,110,108,105,107,101])) (av_cons rfl (ev_tup (av_cons rfl (ev_var (pv 1)) (av_cons rfl (ev_S (l:=[98])) av_nil))) av_nil)))))))
   (bv_rel 5 (bv_one (sv_if (PW.pt (wv_or (tv_cmp (od_ne (hu50 hr)) (ev_var (pv 5)) (ev_rep (av_cons rfl (ev_S (l:=[110,111,32,110,97,109,101])) av_nil) ev_int) (nomark _)) (wv_or1 (tv_cmp (od_ne (hu50 hr)) (ev_toldB (N:=["_law_board","_law_k"]) (fr:=[1,2]) (cs:=[1,6,7]) (k:=5) (ok__law_told T) (hr.mono (by decide)) pass_no (by rfl) ⟨⟨rfl,rfl,rfl,rfl,rfl,rfl⟩,rfl,rfl,by decide +kernel⟩ hcE LB hT0 rfl rfl bind0 (fun _ _ _ _ _ _ _ hr2 R2=>(ev_mtX (okM_put T) (hr2.mono (by decide)) R2.pass (pv 0) (av_cons rfl (ev_S (l:=[99])) (av_cons rfl (ev_ix (ev_lst (av_cons rfl (ev_S (l:=[48,48])) (av_cons rfl (ev_S (l:=[48,48,48,48])) (av_cons rfl (ev_S (l:=[120])) (av_cons rfl (ev_S (l:=[49])) av_nil))))) (ev_var (pv 1)) (fun _ _=>rfl)) av_nil))))) (ev_S (l:=[117,110,108,105,107,101])) (nomark _))))) (bv_one (sv_ret ev_bl)) bv_nil))))))))))))
   (bv_cons (sv_ifB (PW.pt (wb_or (tb_pure (tv_cmp (od_ne (hu50 hr)) (ev_rdD (okM_sheet T) (hr.mono (by decide)) R.pass (pv 1)) (ev_disp (prs:=[((pC (.str [97])),(pC (.str [48,120,49]))),((pC (.str [98])),(pC (.str [48,49,49])))]) (pv_cons (ev_S (l:=[97])) (ev_S (l:=[48,120,49])) (pv_cons (ev_S (l:=[98])) (ev_S (l:=[48,49,49])) (pps_nil))) rfl rfl (by simp) (by decide)) (nomark _))) (wb_or (tb_pure (tv_cmp (od_ne (hu50 hr)) (ev_rd (okM_sizes T) (hr.mono (by decide)) R.pass (pv 1)) (ev_tup (av_cons rfl ev_int (av_cons rfl ev_int av_nil))) (nomark _))) (wb_or1 (tb_cmpM0 (od_ne (hu50 hr)) (okM_forth T) (hr.mono (by decide)) R.pass (pv 1) (ev_S (l:=[103,97,116,101])) (nomark _)))))) (bv_one (sv_ret ev_bl)) bv_nil)
   (bv_cons (sv_ifB (PW.pt (wb_or (tb_pure (tv_cmp (od_ne (hu50 hr)) (ev_rdD (okM_sheet T) (hr.mono (by decide)) R.pass (pv 1)) (ev_disp (prs:=[((pC (.str [97])),(pC (.str [48,120,49]))),((pC (.str [98])),(pC (.str [49,120,48])))]) (pv_cons (ev_S (l:=[97])) (ev_S (l:=[48,120,49])) (pv_cons (ev_S (l:=[98])) (ev_S (l:=[49,120,48])) (pps_nil))) rfl rfl (by simp) (by decide)) (nomark _))) (wb_or (tb_cmpM (od_ne (hu50 hr)) (okM_take T) (hr.mono (by decide)) R.pass (pv 1) (av_cons rfl (ev_S (l:=[97])) av_nil) (ev_S (l:=[48,120,49])) (nomark _)) (wb_or1 (tb_cmpM od_isnot (okM_put T) (hr.mono (by decide)) R.pass (pv 1) (av_cons rfl (ev_S (l:=[98])) (av_cons rfl (ev_S (l:=[120])) av_nil)) ev_bl (nomark _)))))) (bv_one (sv_ret ev_bl)) bv_nil)
   (bv_one (sv_ret (ev_cmp (od_eq (hu50 hr)) (ev_slice (ev_rdL (okM_steps T) (hr.mono (by decide)) R.pass (pv 1)) (ov_some ev_int) ov_none) (ev_lst (av_cons rfl (ev_tup (av_cons rfl (ev_S (l:=[103,97,116,101])) (av_cons rfl (ev_S (l:=[98])) (av_cons rfl (ev_S (l:=[110,111])) (av_cons rfl (ev_S (l:=[97])) av_nil))))) (av_cons rfl (ev_tup (av_cons rfl (ev_S (l:=[116,97,107,101])) (av_cons rfl (ev_S (l:=[97])) av_nil))) (av_cons rfl (ev_tup (av_cons rfl (ev_S (l:=[112,117,116])) (av_cons rfl (ev_S (l:=[98])) (av_cons rfl (ev_S (l:=[120])) av_nil)))) av_nil)))) (nomark _)))))))))))))
end
theorem all_mk (hG:∀ns:List Int,ns.length<=63->F_law [.lst (ns.map Dt.int)]=.ok (.bl true)){l:PySem.W.OpenLaw}{w:World}{K:PySem.W.Frag}{h:Heap}{mg:Str->Option Value}{fa:Addr} (X:K.In h) (G:h.Ns mainGlobals mg) (hfa:mg "law" = some (.ref fa))
  {od21 an21:Option Addr} {sl21:Array (Option Value)} {oc21 kV21 dc21 pm21 cd21 ct21:Value} {a21:Addr}
  {cTickError:Addr}
  {cClash:Addr}
  {cNoName:Addr}
  {cNoText:Addr}
  {cNoTick:Addr}
  {cNoWave:Addr}
  {cTooLong:Addr}
  {cUnlike:Addr}
  {cNoBack:Addr}
  {t_LETTERS:Tok}
  {t_MOST_LETTERS:Tok}
  {a_OPPOSITES:Addr} {ep_OPPOSITES:Nat} {u0_OPPOSITES v0_OPPOSITES u1_OPPOSITES v1_OPPOSITES u2_OPPOSITES v2_OPPOSITES:Tok}
  {a_GATE_SIZES:Addr} {ep_GATE_SIZES:Nat} {u0_GATE_SIZES v0_GATE_SIZES u1_GATE_SIZES v1_GATE_SIZES u2_GATE_SIZES v2_GATE_SIZES u3_GATE_SIZES v3_GATE_SIZES:Tok}
  {cT PT:Addr}
  (a0_:FH K "is_name" s_is_name)
  (a1_:FH K "refuse_no_name" s_refuse_no_name)
  (a2_:FH K "of_one_length" s_of_one_length)
  (a3_:FH K "refuse_unlike" s_refuse_unlike)
  (a4_:FH K "with_name" s_with_name)
  (a5_:FH K "with_wave" s_with_wave)
  (a6_:FH K "unlike_at" s_unlike_at)
  (a7_:FH K "unlike" s_unlike)
  (a8_:FH K "no" s_no)
  (a9_:FH K "both_at" s_both_at)
  (a10_:FH K "both" s_both)
  (a11_:FH K "either_at" s_either_at)
  (a12_:FH K "either" s_either)
  (a13_:FH K "gate_wave" s_gate_wave)
  (a14_:FH K "wave_of" s_wave_of)
  (a15_:FH K "without_wave" s_without_wave)
  (a16_:FH K "move_last" s_move_last)
  (a17_:FH K "_law_class" s_law_class)
  (a18_:FH K "_law_told" s_law_told)
  (a19_:FH K "_law_cell" s_law_cell)
  (a20_:FH K "_law_pick" s_law_pick)
  (a21_:PySem.W.nsIn K mainGlobals "law" = some (some (.ref a21))) (l21:K.lookup a21=some ⟨oc21,od21,.func (PySem.W.fnOf "law" "law" (defArgs s_law) (defBody s_law) (defScope s_law) .none kV21 dc21 pm21 an21 cd21 ct21),sl21⟩) (c21:PySem.W.codeIn K cd21 "law" = true) (k21:PySem.W.keepIn K (.ref a21)=true)
  (z_len:PySem.W.nsIn K mainGlobals "len" = some none)
  (z_range:PySem.W.nsIn K mainGlobals "range" = some none)
  (z_all:PySem.W.nsIn K mainGlobals "all" = some none)
  (z_str:PySem.W.nsIn K mainGlobals "str" = some none)
  (z_zip:PySem.W.nsIn K mainGlobals "zip" = some none)
  (z_isinstance:PySem.W.nsIn K mainGlobals "isinstance" = some none)
  (z_ValueError:PySem.W.nsIn K mainGlobals "ValueError" = some none)
  (z_dict:PySem.W.nsIn K mainGlobals "dict" = some none)
  (z_tuple:PySem.W.nsIn K mainGlobals "tuple" = some none)
  (g_TickError:PySem.W.nsIn K mainGlobals "TickError" = some (some (.ref cTickError)))
  (g_Clash:PySem.W.nsIn K mainGlobals "Clash" = some (some (.ref cClash)))
  (g_NoName:PySem.W.nsIn K mainGlobals "NoName" = some (some (.ref cNoName)))
  (g_NoText:PySem.W.nsIn K mainGlobals "NoText" = some (some (.ref cNoText)))
  (g_NoTick:PySem.W.nsIn K mainGlobals "NoTick" = some (some (.ref cNoTick)))
  (g_NoWave:PySem.W.nsIn K mainGlobals "NoWave" = some (some (.ref cNoWave)))
  (g_TooLong:PySem.W.nsIn K mainGlobals "TooLong" = some (some (.ref cTooLong)))
  (g_Unlike:PySem.W.nsIn K mainGlobals "Unlike" = some (some (.ref cUnlike)))
  (g_NoBack:PySem.W.nsIn K mainGlobals "NoBack" = some (some (.ref cNoBack)))
  (g_LETTERS:PySem.W.nsIn K mainGlobals "LETTERS" = some (some (.str ⟨#[97,98,99,100,101,102,103,104,105,106,107,108,109,110,111,112,113,114,115,116,117,118,119,120,121,122]⟩ t_LETTERS)))
  (g_MOST_LETTERS:PySem.W.nsIn K mainGlobals "MOST_LETTERS" = some (some (.int 4 t_MOST_LETTERS)))
  (g_OPPOSITES:PySem.W.nsIn K mainGlobals "OPPOSITES" = some (some (.ref a_OPPOSITES)))
  (d_OPPOSITES:K.lookup a_OPPOSITES=some ⟨.type "dict",none,.dict #[⟨PyData.keyHash w.params ⟨#[48]⟩,.str ⟨#[48]⟩ u0_OPPOSITES,.str ⟨#[49]⟩ v0_OPPOSITES⟩,⟨PyData.keyHash w.params ⟨#[49]⟩,.str ⟨#[49]⟩ u1_OPPOSITES,.str ⟨#[48]⟩ v1_OPPOSITES⟩,⟨PyData.keyHash w.params ⟨#[120]⟩,.str ⟨#[120]⟩ u2_OPPOSITES,.str ⟨#[120]⟩ v2_OPPOSITES⟩] ep_OPPOSITES,#[]⟩)
  (g_GATE_SIZES:PySem.W.nsIn K mainGlobals "GATE_SIZES" = some (some (.ref a_GATE_SIZES)))
  (d_GATE_SIZES:K.lookup a_GATE_SIZES=some ⟨.type "dict",none,.dict #[⟨PyData.keyHash w.params ⟨#[110,111]⟩,.str ⟨#[110,111]⟩ u0_GATE_SIZES,.int 1 v0_GATE_SIZES⟩,⟨PyData.keyHash w.params ⟨#[98,111,116,104]⟩,.str ⟨#[98,111,116,104]⟩ u1_GATE_SIZES,.int 2 v1_GATE_SIZES⟩,⟨PyData.keyHash w.params ⟨#[101,105,116,104,101,114]⟩,.str ⟨#[101,105,116,104,101,114]⟩ u2_GATE_SIZES,.int 2 v2_GATE_SIZES⟩,⟨PyData.keyHash w.params ⟨#[117,110,108,105,107,101]⟩,.str ⟨#[117,110,108,105,107,101]⟩ u3_GATE_SIZES,.int 2 v3_GATE_SIZES⟩] ep_GATE_SIZES,#[]⟩)
  (n_GATE_SIZES:(a_GATE_SIZES==sysModules)=false)
  (x_NoName:excIn K cNoName veMro "ValueError.__new__" = true)
  (x_Unlike:excIn K cUnlike veMro "ValueError.__new__" = true)
  (x_NoBack:excIn K cNoBack veMro "ValueError.__new__" = true)
  (bB:FBC K)
  (bK:∃C,nsIn K mainGlobals "Board" = some (some (.ref C))/\makesIn K C=true/\keepIn K (.ref C)=true)
  (bM_init:FHM K "__init__" "Board.__init__" m_init)
  (bM_put:FHM K "put" "Board.put" m_put)
  (bM_gate:FHM K "gate" "Board.gate" m_gate)
  (bM_take:FHM K "take" "Board.take" m_take)
  (bM_do_step:FHM K "do_step" "Board.do_step" m_do_step)
  (bM_sheet:FHM K "sheet" "Board.sheet" m_sheet)
  (bM_steps:FHM K "steps" "Board.steps" m_steps)
  (bM_back:FHM K "back" "Board.back" m_back)
  (bM_forth:FHM K "forth" "Board.forth" m_forth)
  (bM_sizes:FHM K "sizes" "Board.sizes" m_sizes)
  (e1_NoName:isClsIn K cNoName=true)
  (e2_NoName:findIn K (.ref cNoName) "__getattribute__" = some (some (.builtin "BaseException.__getattribute__")))
  (e3_NoName:findIn K (.ref cNoName) "__getattr__" = some none)
  (e4_NoName:findIn K (.ref cNoName) "__class__" = some (some (.builtin "object.__class__")))
  (e5_NoName:specialIn K (.builtin "object.__class__") "__get__" = some (some (.builtin "getset_descriptor.__get__")))
  (e6_NoName:takesIn K (.builtin "object.__class__")=some true)
  (e7_NoName:mroIn K cNoName (.type "object")=some true)
  (e8_NoName:mroIn K cNoName (.type "BaseException")=some true)
  (m_NoName:exmOne K (.ref cNoName) (.ref cTickError)=some true)
  (w0_NoName:kitOne K (.ref cNoName) (.ref cClash)=some false)
  (w1_NoName:kitOne K (.ref cNoName) (.ref cNoBack)=some false)
  (w2_NoName:kitOne K (.ref cNoName) (.ref cNoName)=some true)
  (w3_NoName:kitOne K (.ref cNoName) (.ref cNoText)=some false)
  (w4_NoName:kitOne K (.ref cNoName) (.ref cNoTick)=some false)
  (w5_NoName:kitOne K (.ref cNoName) (.ref cNoWave)=some false)
  (w6_NoName:kitOne K (.ref cNoName) (.ref cTooLong)=some false)
  (w7_NoName:kitOne K (.ref cNoName) (.ref cUnlike)=some false)
  (v_NoName:kitOne K (.ref cNoName) (.type "ValueError")=some true)
  (e1_Unlike:isClsIn K cUnlike=true)
  (e2_Unlike:findIn K (.ref cUnlike) "__getattribute__" = some (some (.builtin "BaseException.__getattribute__")))
  (e3_Unlike:findIn K (.ref cUnlike) "__getattr__" = some none)
  (e4_Unlike:findIn K (.ref cUnlike) "__class__" = some (some (.builtin "object.__class__")))
  (e5_Unlike:specialIn K (.builtin "object.__class__") "__get__" = some (some (.builtin "getset_descriptor.__get__")))
  (e6_Unlike:takesIn K (.builtin "object.__class__")=some true)
  (e7_Unlike:mroIn K cUnlike (.type "object")=some true)
  (e8_Unlike:mroIn K cUnlike (.type "BaseException")=some true)
  (m_Unlike:exmOne K (.ref cUnlike) (.ref cTickError)=some true)
  (w0_Unlike:kitOne K (.ref cUnlike) (.ref cClash)=some false)
  (w1_Unlike:kitOne K (.ref cUnlike) (.ref cNoBack)=some false)
  (w2_Unlike:kitOne K (.ref cUnlike) (.ref cNoName)=some false)
  (w3_Unlike:kitOne K (.ref cUnlike) (.ref cNoText)=some false)
  (w4_Unlike:kitOne K (.ref cUnlike) (.ref cNoTick)=some false)
  (w5_Unlike:kitOne K (.ref cUnlike) (.ref cNoWave)=some false)
  (w6_Unlike:kitOne K (.ref cUnlike) (.ref cTooLong)=some false)
  (w7_Unlike:kitOne K (.ref cUnlike) (.ref cUnlike)=some true)
  (v_Unlike:kitOne K (.ref cUnlike) (.type "ValueError")=some true)
  (e1_NoBack:isClsIn K cNoBack=true)
  (e2_NoBack:findIn K (.ref cNoBack) "__getattribute__" = some (some (.builtin "BaseException.__getattribute__")))
  (e3_NoBack:findIn K (.ref cNoBack) "__getattr__" = some none)
  (e4_NoBack:findIn K (.ref cNoBack) "__class__" = some (some (.builtin "object.__class__")))
  (e5_NoBack:specialIn K (.builtin "object.__class__") "__get__" = some (some (.builtin "getset_descriptor.__get__")))
  (e6_NoBack:takesIn K (.builtin "object.__class__")=some true)
  (e7_NoBack:mroIn K cNoBack (.type "object")=some true)
  (e8_NoBack:mroIn K cNoBack (.type "BaseException")=some true)
  (m_NoBack:exmOne K (.ref cNoBack) (.ref cTickError)=some true)
  (w0_NoBack:kitOne K (.ref cNoBack) (.ref cClash)=some false)
  (w1_NoBack:kitOne K (.ref cNoBack) (.ref cNoBack)=some true)
  (w2_NoBack:kitOne K (.ref cNoBack) (.ref cNoName)=some false)
  (w3_NoBack:kitOne K (.ref cNoBack) (.ref cNoText)=some false)
  (w4_NoBack:kitOne K (.ref cNoBack) (.ref cNoTick)=some false)
  (w5_NoBack:kitOne K (.ref cNoBack) (.ref cNoWave)=some false)
  (w6_NoBack:kitOne K (.ref cNoBack) (.ref cTooLong)=some false)
  (w7_NoBack:kitOne K (.ref cNoBack) (.ref cUnlike)=some false)
  (v_NoBack:kitOne K (.ref cNoBack) (.type "ValueError")=some true)
  (tb:tabIn K "law" = some (cT,PT)) :
  ∃fd:FuncData,(∀(s:Shared) (v:Value),BindsTo s fd ⟨[v],[]⟩ [("_law_script",v)])/\∀base:Heap,K.In base->base.Ns mainGlobals mg->(∀t∈[(cT,PT,qLaw)],LamB mg base t.1 t.2.1)->FnOk l.prog w K mg base (CX1 l.prog w) 8 fa fd ["_law_script"] (spLawT K [(cT,PT,qLaw)]):=by
 have T:Tx w K mg (fun n=>match n with | 8=>cTickError | 0=>cClash | 1=>cNoName | 2=>cNoText | 3=>cNoTick | 4=>cNoWave | 5=>cTooLong | 6=>cUnlike | 7=>cNoBack | _=>0):={
  len:=PySem.W.mg_none_of X G z_len
  range:=PySem.W.mg_none_of X G z_range
  all:=PySem.W.mg_none_of X G z_all
  str:=PySem.W.mg_none_of X G z_str
  zip:=PySem.W.mg_none_of X G z_zip
  isinstance:=PySem.W.mg_none_of X G z_isinstance
  ValueError:=PySem.W.mg_none_of X G z_ValueError
  dict:=PySem.W.mg_none_of X G z_dict
  tuple:=PySem.W.mg_none_of X G z_tuple
  TickError:=PySem.W.mg_of X G g_TickError
  Clash:=PySem.W.mg_of X G g_Clash
  NoName:=PySem.W.mg_of X G g_NoName
  NoText:=PySem.W.mg_of X G g_NoText
  NoTick:=PySem.W.mg_of X G g_NoTick
  NoWave:=PySem.W.mg_of X G g_NoWave
  TooLong:=PySem.W.mg_of X G g_TooLong
  Unlike:=PySem.W.mg_of X G g_Unlike
  NoBack:=PySem.W.mg_of X G g_NoBack
  LETTERS:=⟨t_LETTERS,PySem.W.mg_of X G g_LETTERS⟩
  MOST_LETTERS:=⟨t_MOST_LETTERS,PySem.W.mg_of X G g_MOST_LETTERS⟩
  D_OPPOSITES:=⟨a_OPPOSITES,PySem.W.mg_of X G g_OPPOSITES,[([48],u0_OPPOSITES,[49],v0_OPPOSITES),([49],u1_OPPOSITES,[48],v1_OPPOSITES),([120],u2_OPPOSITES,[120],v2_OPPOSITES)],ep_OPPOSITES,d_OPPOSITES,rfl⟩
  D_GATE_SIZES:=⟨a_GATE_SIZES,PySem.W.mg_of X G g_GATE_SIZES,[([110,111],u0_GATE_SIZES,1,v0_GATE_SIZES),([98,111,116,104],u1_GATE_SIZES,2,v1_GATE_SIZES),([101,105,116,104,101,114],u2_GATE_SIZES,2,v2_GATE_SIZES),([117,110,108,105,107,101],u3_GATE_SIZES,2,v3_GATE_SIZES)],ep_GATE_SIZES,d_GATE_SIZES,rfl⟩
  N_GATE_SIZES:=fun a h=>by
   have e:=h.symm.trans (PySem.W.mg_of X G g_GATE_SIZES)
   cases e
   exact n_GATE_SIZES
  f_is_name:=a0_.fn1 X G fun _ _ _ _ _ _ _=>rfl
  f_refuse_no_name:=a1_.fn1 X G fun _ _ _ _ _ _ _=>rfl
  f_of_one_length:=a2_.fn1 X G fun _ _ _ _ _ _ _=>rfl
  f_refuse_unlike:=a3_.fn1 X G fun _ _ _ _ _ _ _=>rfl
  f_with_name:=a4_.fn3 X G fun _ _ _ _ _ _ _ _ _=>rfl
  f_with_wave:=a5_.fn3 X G fun _ _ _ _ _ _ _ _ _=>rfl
  f_unlike_at:=a6_.fn2 X G fun _ _ _ _ _ _ _ _=>rfl
  f_unlike:=a7_.fn2 X G fun _ _ _ _ _ _ _ _=>rfl
  f_no:=a8_.fn1 X G fun _ _ _ _ _ _ _=>rfl
  f_both_at:=a9_.fn2 X G fun _ _ _ _ _ _ _ _=>rfl
  f_both:=a10_.fn2 X G fun _ _ _ _ _ _ _ _=>rfl
  f_either_at:=a11_.fn2 X G fun _ _ _ _ _ _ _ _=>rfl
  f_either:=a12_.fn2 X G fun _ _ _ _ _ _ _ _=>rfl
  f_gate_wave:=a13_.fn2 X G fun _ _ _ _ _ _ _ _=>rfl
  f_wave_of:=a14_.fn2 X G fun _ _ _ _ _ _ _ _=>rfl
  f_without_wave:=a15_.fn2 X G fun _ _ _ _ _ _ _ _=>rfl
  f_move_last:=a16_.fn2 X G fun _ _ _ _ _ _ _ _=>rfl
  f__law_class:=a17_.fn1 X G fun _ _ _ _ _ _ _=>rfl
  f__law_told:=a18_.fn1 X G fun _ _ _ _ _ _ _=>rfl
  f__law_cell:=a19_.fn2 X G fun _ _ _ _ _ _ _ _=>rfl
  f__law_pick:=a20_.fn3 X G fun _ _ _ _ _ _ _ _ _=>rfl
  f_law:=⟨a21,_,fun_mk (st:=s_law) l21 c21 k21,PySem.W.mg_of X G a21_,(fun_mk (st:=s_law) l21 c21 k21).binds (ps:=["_law_script"]) fun _ _ _ _ _ _ us hl=>match us,hl with | [_],_=>rfl⟩
  M_init:=bM_init.init bB X G bK (fun _ _ _ _ _ _ us hl=>match us,hl with | [_],_=>rfl)
  M_put:=bM_put.fn bB (fun _ _ _ _ _ _ us hl=>match us,hl with | [_,_,_],_=>rfl)
  M_gate:=bM_gate.fn bB (fun _ _ _ _ _ _ us hl=>match us,hl with | [_,_,_,_],_=>rfl)
  M_take:=bM_take.fn bB (fun _ _ _ _ _ _ us hl=>match us,hl with | [_,_],_=>rfl)
  M_do_step:=bM_do_step.fn bB (fun _ _ _ _ _ _ us hl=>match us,hl with | [_,_,_],_=>rfl)
  M_sheet:=bM_sheet.fn bB (fun _ _ _ _ _ _ us hl=>match us,hl with | [_],_=>rfl)
  M_steps:=bM_steps.fn bB (fun _ _ _ _ _ _ us hl=>match us,hl with | [_],_=>rfl)
  M_back:=bM_back.fn bB (fun _ _ _ _ _ _ us hl=>match us,hl with | [_],_=>rfl)
  M_forth:=bM_forth.fn bB (fun _ _ _ _ _ _ us hl=>match us,hl with | [_],_=>rfl)
  M_sizes:=bM_sizes.fn bB (fun _ _ _ _ _ _ us hl=>match us,hl with | [_],_=>rfl)
  x_NoName:=x_NoName
  x_Unlike:=x_Unlike
  x_NoBack:=x_NoBack
  e1_NoName:=e1_NoName
  e2_NoName:=e2_NoName
  e3_NoName:=e3_NoName
  e4_NoName:=e4_NoName
  e5_NoName:=e5_NoName
  e6_NoName:=e6_NoName
  e7_NoName:=e7_NoName
  e8_NoName:=e8_NoName
  m_NoName:=m_NoName
  w0_NoName:=w0_NoName
  w1_NoName:=w1_NoName
  w2_NoName:=w2_NoName
  w3_NoName:=w3_NoName
  w4_NoName:=w4_NoName
  w5_NoName:=w5_NoName
  w6_NoName:=w6_NoName
  w7_NoName:=w7_NoName
  v_NoName:=v_NoName
  e1_Unlike:=e1_Unlike
  e2_Unlike:=e2_Unlike
  e3_Unlike:=e3_Unlike
  e4_Unlike:=e4_Unlike
  e5_Unlike:=e5_Unlike
  e6_Unlike:=e6_Unlike
  e7_Unlike:=e7_Unlike
  e8_Unlike:=e8_Unlike
  m_Unlike:=m_Unlike
  w0_Unlike:=w0_Unlike
  w1_Unlike:=w1_Unlike
  w2_Unlike:=w2_Unlike
  w3_Unlike:=w3_Unlike
  w4_Unlike:=w4_Unlike
  w5_Unlike:=w5_Unlike
  w6_Unlike:=w6_Unlike
  w7_Unlike:=w7_Unlike
  v_Unlike:=v_Unlike
  e1_NoBack:=e1_NoBack
  e2_NoBack:=e2_NoBack
  e3_NoBack:=e3_NoBack
  e4_NoBack:=e4_NoBack
  e5_NoBack:=e5_NoBack
  e6_NoBack:=e6_NoBack
  e7_NoBack:=e7_NoBack
  e8_NoBack:=e8_NoBack
  m_NoBack:=m_NoBack
  w0_NoBack:=w0_NoBack
  w1_NoBack:=w1_NoBack
  w2_NoBack:=w2_NoBack
  w3_NoBack:=w3_NoBack
  w4_NoBack:=w4_NoBack
  w5_NoBack:=w5_NoBack
  w6_NoBack:=w6_NoBack
  w7_NoBack:=w7_NoBack
  v_NoBack:=v_NoBack
 }
 refine⟨PySem.W.fnOf "law" "law" (defArgs s_law) (defBody s_law) (defScope s_law) .none kV21 dc21 pm21 an21 cd21 ct21,fun s v=>.of_eq rfl,fun base _ _ hLB=>?_⟩
 have e:=hfa.symm.trans (PySem.W.mg_of X G a21_)
 cases e
 exact ok_law (P:=l.prog) (w:=w) (base:=base) hG T (fun_mk (st:=s_law) l21 c21 k21) (law_code X G tb (PySem.W.mg_of X G a21_) (X _ _ l21) rfl) (hLB _ List.mem_cons_self)
theorem walk {l:PySem.W.OpenLaw}{q:Program}{loose:List Str}{XP:(Str->Option Value)->Heap->Prop}{YP:World->Heap->Prop}{d:DefRec}{K:Params->PySem.W.Frag}{cT PT:Addr} (hn:l.most=some 63) (hdf:d.params.defaults=[])
  (hY:∀(w:World) (h:Heap),YP w h->(K w.params).In h) (hKt:∀w:World,noTabs (K w.params)=true)
  (hT:∀(w:World) (lz:List Str) (mean:ExcName->Option Value) (mg mb:Str->Option Value) (h:Heap),(K w.params).In h->Top q lz mean mg mb h->CodeHd h cT PT/\h.get? PT=some (tabObj #[]))
  (F:∀(w:World) (mg:Str->Option Value) (fa:Addr) (h:Heap),(K w.params).In h->h.Ns mainGlobals mg->mg d.name=some (.ref fa)->
   ∃fd:FuncData,(∀(s:Shared) (u:Value),BindsTo s fd ⟨[u],[]⟩ [("_law_script",u)])/\∀base:Heap,(K w.params).In base->base.Ns mainGlobals mg->(∀t∈[(cT,PT,qLaw)],LamB mg base t.1 t.2.1)->FnOk l.prog w (K w.params) mg base (CX1 l.prog w) 8 fa fd ["_law_script"] (spLawT (K w.params) [(cT,PT,qLaw)])) :
  PySem.W.WalkO q loose XP YP l.row.toRowW d [] (fun f vs=>PySem.call f vs):=
 L2.walk_ofT (n:=63) (k:=8) (x:="_law_script") (tabs:=[(cT,PT,qLaw)]) (CX:=fun w=>CX1 l.prog w) (sp:=fun w=>spLawT (K w.params) [(cT,PT,qLaw)]) hn (by decide) hdf ⟨rfl,by decide,by decide,rfl⟩ hY (List.pairwise_singleton _ _) hKt (fun w lz mean mg mb h KX T=>List.forall_mem_cons.mpr ⟨hT w lz mean mg mb h KX T,fun _ h=>nomatch h⟩) F (fun _ _ a ns hl hTb hS=>⟨hTb,a,ns,rfl,⟨hS,hl⟩,fun _=>rfl⟩) fun _ _ _ _ _ z=>by
  obtain⟨ea,C,H',B,a0,_,_,_,_,_,_,_,_,_,hE⟩:=z
  exact hE
end K89
open PySem PySem.W PyProof.Rows
local macro_rules
 | `(tactic| exists fh_) => `(tactic| (refine' L2.FH.mk ?x1 ?x2 ?x3 ?x4; (case x1 => k_is); (case x2 => k_is); (case x3 => k_is); (case x4 => k_is)))
local macro_rules
 | `(tactic| exists kk_) => `(tactic| first | k_is | kit_is | kts_exm | k_exc)
def PySem.W.Fast.tw18412891581710440539:Unit:=()
def PySem.W.Fast.tw10493184161560639859:Unit:=()
def PySem.W.Fast.tw15279393024065361092:Unit:=()
def PySem.W.Fast.tw3696071939955706289:Unit:=()
def PySem.W.Fast.tw381057984537807638:Unit:=()
def PySem.W.Fast.tw13235919507351729023:Unit:=()
def PySem.W.Fast.tw5093053345056796448:Unit:=()
def PySem.W.Fast.tw5416430773623764556:Unit:=()
def PySem.W.Fast.tw15532117196607915762:Unit:=()
def PySem.W.Fast.tw9106842524745396560:Unit:=()
def PySem.W.Fast.tw13535631607715021352:Unit:=()
def PySem.W.Fast.tw16478078633326936367:Unit:=()
def PySem.W.Fast.tw17972540034710186421:Unit:=()
def PySem.W.Fast.tw17145353667649087374:Unit:=()
def PySem.W.Fast.tw4669013393571928362:Unit:=()
def PySem.W.Fast.tw3169555682184579203:Unit:=()
def PySem.W.Fast.tw5899860169656160458:Unit:=()
def PySem.W.Fast.tw13480070939949673290:Unit:=()
def PySem.W.Fast.tw755986436568009434:Unit:=()
set_option maxRecDepth 100000 in
set_option maxHeartbeats 0 in
theorem PySem.Challenge.cw_tickrows_k89_boards_refused_holds : PySem.Challenge.rw_tickrows_k89_boards_refused.Holds := by
 w_on; o_law; k_head; (case hw=>w_witness2)
 k_fill
 refine K89.walk (l:=PySem.Challenge.rw_tickrows_k89_boards_refused) (cT:=358) (PT:=354) rfl rfl (fun w h Y=>PySem.W.km_in_of Y) (fun w=>by kernel_rfl) (fun w lz mean mg mb h KX T=>tab_of (x:="law") T KX rfl (by kernel_rfl)) ?F
 case F=>
  intro w mg fa h KX G hmg
  refine' K89.all_mk K89.law_true KX G hmg ?a0_ ?a1_ ?a2_ ?a3_ ?a4_ ?a5_ ?a6_ ?a7_ ?a8_ ?a9_ ?a10_ ?a11_ ?a12_ ?a13_ ?a14_ ?a15_ ?a16_ ?a17_ ?a18_ ?a19_ ?a20_ ?a21_ ?l21 ?c21 ?k21 ?z_len ?z_range ?z_all ?z_str ?z_zip ?z_isinstance ?z_ValueError ?z_dict ?z_tuple ?g_TickError ?g_Clash ?g_NoName ?g_NoText ?g_NoTick ?g_NoWave ?g_TooLong ?g_Unlike ?g_NoBack ?g_LETTERS ?g_MOST_LETTERS ?g_OPPOSITES ?d_OPPOSITES ?g_GATE_SIZES ?d_GATE_SIZES ?n_GATE_SIZES ?x_NoName ?x_Unlike ?x_NoBack ?bB ?bK ?bM_init ?bM_put ?bM_gate ?bM_take ?bM_do_step ?bM_sheet ?bM_steps ?bM_back ?bM_forth ?bM_sizes ?e1_NoName ?e2_NoName ?e3_NoName ?e4_NoName ?e5_NoName ?e6_NoName ?e7_NoName ?e8_NoName ?m_NoName ?w0_NoName ?w1_NoName ?w2_NoName ?w3_NoName ?w4_NoName ?w5_NoName ?w6_NoName ?w7_NoName ?v_NoName ?e1_Unlike ?e2_Unlike ?e3_Unlike ?e4_Unlike ?e5_Unlike ?e6_Unlike ?e7_Unlike ?e8_Unlike ?m_Unlike ?w0_Unlike ?w1_Unlike ?w2_Unlike ?w3_Unlike ?w4_Unlike ?w5_Unlike ?w6_Unlike ?w7_Unlike ?v_Unlike ?e1_NoBack ?e2_NoBack ?e3_NoBack ?e4_NoBack ?e5_NoBack ?e6_NoBack ?e7_NoBack ?e8_NoBack ?m_NoBack ?w0_NoBack ?w1_NoBack ?w2_NoBack ?w3_NoBack ?w4_NoBack ?w5_NoBack ?w6_NoBack ?w7_NoBack ?v_NoBack ?tb
  (case a0_=>exists fh_)
  (case a1_=>exists fh_)
  (case a2_=>exists fh_)
  (case a3_=>exists fh_)
  (case a4_=>exists fh_)
  (case a5_=>exists fh_)
  (case a6_=>exists fh_)
  (case a7_=>exists fh_)
  (case a8_=>exists fh_)
  (case a9_=>exists fh_)
  (case a10_=>exists fh_)
  (case a11_=>exists fh_)
  (case a12_=>exists fh_)
  (case a13_=>exists fh_)
  (case a14_=>exists fh_)
  (case a15_=>exists fh_)
  (case a16_=>exists fh_)
  (case a17_=>exists fh_)
  (case a18_=>exists fh_)
  (case a19_=>exists fh_)
  (case a20_=>exists fh_)
  (case a21_=>exists kk_)
  (case l21=>exists kk_)
  (case c21=>exists kk_)
  (case k21=>exists kk_)
  (case z_len=>exists kk_)
  (case z_range=>exists kk_)
  (case z_all=>exists kk_)
  (case z_str=>exists kk_)
  (case z_zip=>exists kk_)
  (case z_isinstance=>exists kk_)
  (case z_ValueError=>exists kk_)
  (case z_dict=>exists kk_)
  (case z_tuple=>exists kk_)
  (case g_TickError=>exists kk_)
  (case g_Clash=>exists kk_)
  (case g_NoName=>exists kk_)
  (case g_NoText=>exists kk_)
  (case g_NoTick=>exists kk_)
  (case g_NoWave=>exists kk_)
  (case g_TooLong=>exists kk_)
  (case g_Unlike=>exists kk_)
  (case g_NoBack=>exists kk_)
  (case g_LETTERS=>exists kk_)
  (case g_MOST_LETTERS=>exists kk_)
  (case g_OPPOSITES=>exists kk_)
  (case d_OPPOSITES=>exists kk_)
  (case g_GATE_SIZES=>exists kk_)
  (case d_GATE_SIZES=>exists kk_)
  (case n_GATE_SIZES=>decide +kernel)
  (case x_NoName=>exists kk_)
  (case x_Unlike=>exists kk_)
  (case x_NoBack=>exists kk_)
  (case bB=>(refine' L2.FBC.mk ?x1 ?x2 ?x3 ?x4 ?x5 ?x6 ?x7; (case x1=>first | k_is | kit_is | decide +kernel); (case x2=>first | k_is | kit_is | decide +kernel); (case x3=>first | k_is | kit_is | decide +kernel); (case x4=>first | k_is | kit_is | decide +kernel); (case x5=>first | k_is | kit_is | decide +kernel); (case x6=>first | k_is | kit_is | decide +kernel); (case x7=>first | k_is | kit_is | decide +kernel)))
  (case bK=>(refine' L2.mk_of ?x1 ?x2 ?x3; (case x1=>first | k_is | kit_is | decide +kernel); (case x2=>first | k_is | kit_is | decide +kernel); (case x3=>first | k_is | kit_is | decide +kernel)))
  (case bM_init=>(refine' L2.FHM.mk ?x1 ?x2 ?x3 ?x4 ?x5 ?x6; (case x1=>first | k_is | kit_is | decide +kernel); (case x2=>first | k_is | kit_is | decide +kernel); (case x3=>first | k_is | kit_is | decide +kernel); (case x4=>first | k_is | kit_is | decide +kernel); (case x5=>first | k_is | kit_is | decide +kernel); (case x6=>first | k_is | kit_is | decide +kernel)))
  (case bM_put=>(refine' L2.FHM.mk ?x1 ?x2 ?x3 ?x4 ?x5 ?x6; (case x1=>first | k_is | kit_is | decide +kernel); (case x2=>first | k_is | kit_is | decide +kernel); (case x3=>first | k_is | kit_is | decide +kernel); (case x4=>first | k_is | kit_is | decide +kernel); (case x5=>first | k_is | kit_is | decide +kernel); (case x6=>first | k_is | kit_is | decide +kernel)))
  (case bM_gate=>(refine' L2.FHM.mk ?x1 ?x2 ?x3 ?x4 ?x5 ?x6; (case x1=>first | k_is | kit_is | decide +kernel); (case x2=>first | k_is | kit_is | decide +kernel); (case x3=>first | k_is | kit_is | decide +kernel); (case x4=>first | k_is | kit_is | decide +kernel); (case x5=>first | k_is | kit_is | decide +kernel); (case x6=>first | k_is | kit_is | decide +kernel)))
  (case bM_take=>(refine' L2.FHM.mk ?x1 ?x2 ?x3 ?x4 ?x5 ?x6; (case x1=>first | k_is | kit_is | decide +kernel); (case x2=>first | k_is | kit_is | decide +kernel); (case x3=>first | k_is | kit_is | decide +kernel); (case x4=>first | k_is | kit_is | decide +kernel); (case x5=>first | k_is | kit_is | decide +kernel); (case x6=>first | k_is | kit_is | decide +kernel)))
  (case bM_do_step=>(refine' L2.FHM.mk ?x1 ?x2 ?x3 ?x4 ?x5 ?x6; (case x1=>first | k_is | kit_is | decide +kernel); (case x2=>first | k_is | kit_is | decide +kernel); (case x3=>first | k_is | kit_is | decide +kernel); (case x4=>first | k_is | kit_is | decide +kernel); (case x5=>first | k_is | kit_is | decide +kernel); (case x6=>first | k_is | kit_is | decide +kernel)))
  (case bM_sheet=>(refine' L2.FHM.mk ?x1 ?x2 ?x3 ?x4 ?x5 ?x6; (case x1=>first | k_is | kit_is | decide +kernel); (case x2=>first | k_is | kit_is | decide +kernel); (case x3=>first | k_is | kit_is | decide +kernel); (case x4=>first | k_is | kit_is | decide +kernel); (case x5=>first | k_is | kit_is | decide +kernel); (case x6=>first | k_is | kit_is | decide +kernel)))
  (case bM_steps=>(refine' L2.FHM.mk ?x1 ?x2 ?x3 ?x4 ?x5 ?x6; (case x1=>first | k_is | kit_is | decide +kernel); (case x2=>first | k_is | kit_is | decide +kernel); (case x3=>first | k_is | kit_is | decide +kernel); (case x4=>first | k_is | kit_is | decide +kernel); (case x5=>first | k_is | kit_is | decide +kernel); (case x6=>first | k_is | kit_is | decide +kernel)))
  (case bM_back=>(refine' L2.FHM.mk ?x1 ?x2 ?x3 ?x4 ?x5 ?x6; (case x1=>first | k_is | kit_is | decide +kernel); (case x2=>first | k_is | kit_is | decide +kernel); (case x3=>first | k_is | kit_is | decide +kernel); (case x4=>first | k_is | kit_is | decide +kernel); (case x5=>first | k_is | kit_is | decide +kernel); (case x6=>first | k_is | kit_is | decide +kernel)))
  (case bM_forth=>(refine' L2.FHM.mk ?x1 ?x2 ?x3 ?x4 ?x5 ?x6; (case x1=>first | k_is | kit_is | decide +kernel); (case x2=>first | k_is | kit_is | decide +kernel); (case x3=>first | k_is | kit_is | decide +kernel); (case x4=>first | k_is | kit_is | decide +kernel); (case x5=>first | k_is | kit_is | decide +kernel); (case x6=>first | k_is | kit_is | decide +kernel)))
  (case bM_sizes=>(refine' L2.FHM.mk ?x1 ?x2 ?x3 ?x4 ?x5 ?x6; (case x1=>first | k_is | kit_is | decide +kernel); (case x2=>first | k_is | kit_is | decide +kernel); (case x3=>first | k_is | kit_is | decide +kernel); (case x4=>first | k_is | kit_is | decide +kernel); (case x5=>first | k_is | kit_is | decide +kernel); (case x6=>first | k_is | kit_is | decide +kernel)))
  (case e1_NoName=>exists kk_)
  (case e2_NoName=>exists kk_)
  (case e3_NoName=>exists kk_)
  (case e4_NoName=>exists kk_)
  (case e5_NoName=>exists kk_)
  (case e6_NoName=>exists kk_)
  (case e7_NoName=>exists kk_)
  (case e8_NoName=>exists kk_)
  (case m_NoName=>exists kk_)
  (case w0_NoName=>exists kk_)
  (case w1_NoName=>exists kk_)
  (case w2_NoName=>exists kk_)
  (case w3_NoName=>exists kk_)
  (case w4_NoName=>exists kk_)
  (case w5_NoName=>exists kk_)
  (case w6_NoName=>exists kk_)
  (case w7_NoName=>exists kk_)
  (case v_NoName=>exists kk_)
  (case e1_Unlike=>exists kk_)
  (case e2_Unlike=>exists kk_)
  (case e3_Unlike=>exists kk_)
  (case e4_Unlike=>exists kk_)
  (case e5_Unlike=>exists kk_)
  (case e6_Unlike=>exists kk_)
  (case e7_Unlike=>exists kk_)
  (case e8_Unlike=>exists kk_)
  (case m_Unlike=>exists kk_)
  (case w0_Unlike=>exists kk_)
  (case w1_Unlike=>exists kk_)
  (case w2_Unlike=>exists kk_)
  (case w3_Unlike=>exists kk_)
  (case w4_Unlike=>exists kk_)
  (case w5_Unlike=>exists kk_)
  (case w6_Unlike=>exists kk_)
  (case w7_Unlike=>exists kk_)
  (case v_Unlike=>exists kk_)
  (case e1_NoBack=>exists kk_)
  (case e2_NoBack=>exists kk_)
  (case e3_NoBack=>exists kk_)
  (case e4_NoBack=>exists kk_)
  (case e5_NoBack=>exists kk_)
  (case e6_NoBack=>exists kk_)
  (case e7_NoBack=>exists kk_)
  (case e8_NoBack=>exists kk_)
  (case m_NoBack=>exists kk_)
  (case w0_NoBack=>exists kk_)
  (case w1_NoBack=>exists kk_)
  (case w2_NoBack=>exists kk_)
  (case w3_NoBack=>exists kk_)
  (case w4_NoBack=>exists kk_)
  (case w5_NoBack=>exists kk_)
  (case w6_NoBack=>exists kk_)
  (case w7_NoBack=>exists kk_)
  (case v_NoBack=>exists kk_)
  (case tb=>kernel_rfl)
