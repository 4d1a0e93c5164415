import PyProof.Rows.All
import Wide.All
import OpenK.AllK
import Wide.FinOn
import Lean
import PyProof.EqAt
import PyProof.EqKinds
import PyProof.TupleCall
import PySem.Challenge.RW_swapbook_k74_lost
set_option Elab.async false
set_option linter.all false
set_option maxRecDepth 100000
set_option compiler.extract_closed false
set_option genSizeOf false
namespace Hd
open PySem PySem.W PyProof.Rows
def runT (p:Program) (w:World) (m:Nat) (a:Option Value):Nat->SharedT->Thread->Option SharedT
 | 0,_,_=>none
 | n+1,s,t=>match through t with
  | true=>some s
  | false=>match stepOk m a t with
   | true=>(match stepT (denote treeTable) p w s t with
    | some x=>runT p w m a n x.1 x.2
    | none=>none)
   | false=>none
theorem zqC {p:Program} {w:World} {m:Nat} {a:Option Value}:∀ {n:Nat} {s z:SharedT} {t:Thread},runT p w m a n s t=some z->topRun treeTable p w m a n s.abs t=some z.abs
 | 0,_,_,_,h=>by cases h
 | n+1,s,z,t,h=>by
  rw [runT] at h
  rw [topRun]
  cases h1:through t<;>rw [h1] at h
  ·cases h2:stepOk m a t<;>rw [h2] at h
   ·cases h
   ·cases h3:stepT (denote treeTable) p w s t with
    | none=>rw [h3] at h;cases h
    | some x=>rw [h3] at h;rw [stepT_spec (s':=x.1) (t':=x.2) h3];exact zqC h
  ·cases h;rfl
def tr:List Obj->Nat->BT->BT
 | [],_,t=>t
 | o :: r,n,t=>tr r (n+1) (t.ins n o)
noncomputable def boot (P:Params) (os:OsState):SharedT:=⟨tr (boot_heap P).objs.toList 0 .nil,11,(boot_heap P).life,Array.mk [],boot_drawn,boot_toks,os⟩
theorem zp4 (P:Params) (os:OsState):(boot P os).abs=⟨boot_heap P,Array.mk [],boot_drawn,boot_toks,os⟩:=by kernel_rfl
theorem zrY (P:Params):((boot_heap P).isNs mainGlobals&&(Array.mk ([]:List GenState)).size == 0)=true:=by kernel_rfl
theorem zrv (P:Params):(boot_heap P).objs.size=11:=by kernel_rfl
theorem zq1 (P:Params):(boot_heap P).nsMap mainGlobals "__annotations__"=some (.ref 6):=by kernel_rfl
noncomputable def lk (p:Program) (w:World) (s:Shared):Bool:=staticsOk (importedModules p.main.body) (boot_heap w.params) s.heap&&namesBound p s.heap&&gensDone s&&laidKept (boot_heap w.params) s.heap
def getT (s:SharedT) (a:Nat):Option Obj:=match Nat.blt a s.n with
 | true=>alive ((s.tree.get a).getD default)
 | false=>none
theorem zrw (s:SharedT) (a:Nat):s.abs.heap.get? a=getT s a:=by
 show (absHeap s.tree s.n s.life).get? a=_
 unfold Heap.get? getT
 rw [absHeap_at]
 by_cases h:a<s.n
 ·have e:Nat.blt a s.n=true:=by simpa [Nat.blt_eq] using h
  rw [if_pos h,e]
  generalize (s.tree.get a).getD default=o
  obtain ⟨c,d,dt,sl⟩:=o
  cases dt<;>rfl
 ·have e:Nat.blt a s.n=false:=by
   cases q:Nat.blt a s.n with
   | false=>rfl
   | true=>exact absurd (by simpa [Nat.blt_eq] using q) h
  rw [if_neg h,e]
theorem y_is (as:List Addr) (s:SharedT):as.map s.abs.heap.get?=as.map (getT s):=by
 congr 1
 funext a
 exact zrw s a
theorem left_of {p q:Program} {loose:List Str} {Xt:Shared->Bool} {α:Type} {Yf:Shared->α} {Ya:World->α} {N:Nat} {g0:Bool} {YT:SharedT->α}
  (e:opening p=plainProg p.main.scope.names) (hN:Nat.ble 600 N=true) (f:∀ s,fenceModules? p s=some s) (hy:∀ s:SharedT,Yf s.abs=YT s)
  (h:∀ w os,(runT p w 11 (some (.ref 6)) N (boot w.params os) (topStub p)).map (λs=>(lk p w s.abs,openSeen q loose (importedModules p.main.body) Xt g0 s.abs,YT s))=some (true,openGood q loose,Ya w)):LeftO p q loose Xt Yf Ya N g0:=λw=>by
 obtain ⟨s,h1,h2⟩:=Option.map_eq_some_iff.mp (boot_open e hN f w)
 obtain ⟨hp,gs,dr,tk,os⟩:=s
 have h3:hp=boot_heap w.params∧gs=Array.mk []∧dr=boot_drawn∧tk=boot_toks:=by simpa using h2
 obtain ⟨rfl,rfl,rfl,rfl⟩:=h3
 obtain ⟨z,h4,h5⟩:=Option.map_eq_some_iff.mp (h w os)
 have h6:=zqC h4
 rw [zp4] at h6
 obtain ⟨l1,l2,l3⟩:_∧_∧_:=by simpa only [Prod.mk.injEq] using h5
 unfold openEnds
 rw [h1]
 show (topFrom treeTable p w N _).map _=_
 have h7:topFrom treeTable p w N ⟨boot_heap w.params,Array.mk [],boot_drawn,boot_toks,os⟩=some z.abs:=by
  unfold topFrom
  dsimp only
  rw [zrY,zrv,zq1,h6]
  show (match lk p w z.abs with | true=>_ | false=>_)=_
  rw [l1]
 rw [h7]
 exact congrArg some (Prod.ext l2 ((hy z).trans l3))
end Hd
set_option maxRecDepth 100000
namespace My
open PySem PySem.W PyProof.Rows
noncomputable def hdF (q:Program) (as:List Addr) (N:Nat) (w:World) (os:OsState) (bh:Heap) :=
 (Hd.runT PySem.Challenge.rw_swapbook_k74_lost.row.prog w 11 (some (.ref 6)) N ⟨Hd.tr bh.objs.toList 0 .nil,11,bh.life,Array.mk [],boot_drawn,boot_toks,os⟩ (topStub PySem.Challenge.rw_swapbook_k74_lost.row.prog)).map (λs=>(staticsOk (importedModules PySem.Challenge.rw_swapbook_k74_lost.row.prog.main.body) bh s.abs.heap&&namesBound PySem.Challenge.rw_swapbook_k74_lost.row.prog s.abs.heap&&gensDone s.abs&&laidKept bh s.abs.heap,
  openSeen q [] (importedModules PySem.Challenge.rw_swapbook_k74_lost.row.prog.main.body) (λs=>xlAt q [] s&&recOk (RowW.records PySem.Challenge.rw_swapbook_k74_lost.row.toRowW) s) true s.abs,as.map (Hd.getT s)))
noncomputable def hdG (q:Program) (K:Params->Frag) (w:World):=some (true,openGood q [],(K w.params).map λp=>some p.2)
end My
set_option Elab.async false
lay_quick My.hdF My.hdG
namespace My
open PySem PySem.W PyProof.Rows
theorem zt0 {q:Program} {K:Params->Frag} {as:List Addr} {N:Nat} {e:∀ P,as=(K P).map (·.1)} (hN:Nat.ble 600 N=true)
  (h:∀ w os,W.Fast.tw6084617276858994590 q as N w os (boot_heap w.params)=W.Fast.tw7309032369996461460 q K w) :
  LeftO PySem.Challenge.rw_swapbook_k74_lost.row.prog q [] (λs=>xlAt q [] s&&recOk (RowW.records PySem.Challenge.rw_swapbook_k74_lost.row.toRowW) s) (kHook K as e).obs (kHook K as e).val N:=by
 rw [← W.Fast.te6084617276858994590,← W.Fast.te7309032369996461460] at h
 exact Hd.left_of (by kernel_rfl) hN (λs=>by kernel_rfl) (Hd.y_is as) h
end My
section
local macro_rules
 | `(tactic| refine $e:term)=>do
  if e.raw.isOfKind `Lean.Parser.Term.app&&e.raw[0].getId.eraseMacroScopes == `PySem.W.holds_open then
   let some _:=e.raw.find? (λs=>s.isOfKind `Lean.Parser.Term.syntheticHole&&s[1].getId.eraseMacroScopes == `hl) | Lean.Macro.throwUnsupported
   let h ← `(My.zt0 (by decide) (λw os=>by kernel_rfl))
   let e' ← e.raw.replaceM λs=>pure (if s.isOfKind `Lean.Parser.Term.syntheticHole&&s[1].getId.eraseMacroScopes == `hl then some h.raw else none)
   `(tactic| refine $(⟨e'⟩))
  else Lean.Macro.throwUnsupported
open PySem PySem.W PyProof.Rows
set_option maxRecDepth 100000 in
set_option maxHeartbeats 0 in
open_top My.headT for PySem.Challenge.rw_swapbook_k74_lost
end
set_option hygiene false in
local macro_rules
 | `(↑0)=>`(List.map)
 | `(↑3)=>`(List.mem_cons_self)
 | `(⇑3)=>`(List.mem_cons_of_mem)
 | `(⇑2)=>`(s.heap.objs.size)
 | `(⇑6)=>`(Nat.le_trans)
 | `(↑4)=>`(Nat.le_refl)
 | `(↥0)=>`(Or.inl)
 | `(↑11)=>`(PassesOwn.never)
 | `(↥5)=>`(⟨rfl,rfl,rfl,by decide+kernel,rfl,by decide+kernel,by decide+kernel⟩)
 | `(↑12)=>`((by first|(rw [List.map_map];rfl)|(simp only [cond_true,cond_false];rw [List.map_map];rfl)))
 | `(↑87)=>`((λ(r:(T3 ↥8 ↥8 Jq))=>Oc.rt true (dT [dT [dL (↑0 lI r.a.a),dL (↑0 lI r.a.b),dL (↑0 dI r.a.c),dL (↑0 lI r.a.d)],dT [dL (↑0 lI r.b.a),dL (↑0 lI r.b.b),dL (↑0 dI r.b.c),dL (↑0 lI r.b.d)],dL (↑0 lI r.c)])))
 | `(↑1)=>`((by assumption))
 | `(⇑0)=>`((by omega))
 | `(↑2)=>`((hr.mono ↥1))
 | `(↑13)=>`((.eq (.eq (.eq ↑74))))
 | `(↥2)=>`((zaa (i:=0) rfl))
 | `(⇑8)=>`((zaa (i:=1) rfl))
 | `(↑269)=>`((zbd (K:=K) (n:=2) rfl rfl (zaD (zal (i:=0) (show (["_law_a","_law_b","_law_many"]:List Str).Nodup by decide+kernel) rfl (↥0 rfl) ⇑7) (zaD (zal (i:=1) (show (["_law_a","_law_b","_law_many"]:List Str).Nodup by decide+kernel) rfl (↥0 rfl) ⇑7) zbL))))
 | `(↑10)=>`((λcdv Ar outer s H E x hr hp=> ?_))
 | `(↑8)=>`((λ(r:Bool)=>Oc.rt true (dB r)))
 | `(↑176)=>`(([⇑[dT [dL ↑22,dL ↑23,dL ↑21,dL ↑24]],⇑[dT [dL ↑77,dL ↑78,dL ↑76,dL ↑79]],⇑[dQ K ↑59],⇑[dQ K (↑0 lI P3)],.no,.no,.no]:L2.Ctx))
 | `(↑240)=>`(([⇑[dQ K ↑14],↥[dT [dL (↑0 lI p462.a.a),dL (↑0 lI p462.a.b),dL (↑0 dI p462.a.c),dL (↑0 lI p462.a.d)]],↥[dT [dL (↑0 lI p462.b.a),dL (↑0 lI p462.b.b),dL (↑0 dI p462.b.c),dL (↑0 lI p462.b.d)]],↥[dL (↑0 lI p462.c)],↥[zbG A.Book v466],↥[zbG A.Book v470],⇑[zdE A A.Sender v474],↥[zbG A.Book v475],↥[dL (↑0 lI v476)],.no,.no,.no,.no]:L2.Ctx))
 | `(⇑4)=>`(⟨by decide,by decide⟩)
 | `(↑211)=>`((λ(s292:Ji)=>([⇑[dT [dL ↑22,dL ↑23,dL ↑21,dL ↑24]],⇑[dT [dL ↑77,dL ↑78,dL ↑76,dL ↑79]],⇑[dI P2],⇑[dI P3],.ow true (↑0 lI s286),↥[dI x287],↥[dL (↑0 dI s292)],.no,.no,.no]:L2.Ctx)))
 | `(↑31)=>`((zaa (i:=2) rfl))
 | `(↑177)=>`((λ(s262:Jq×Jq)=>([⇑[dQ K ↥6],⇑[dQ K ↑7],⇑[dI P2],⇑[dQ K (↑0 dI P3)],.ow true (↑0 lI s262.1),.no,.no,↥[dI v250],.tl (dRI s262.2),.no,.no,.no,.no,.no]:L2.Ctx)))
 | `(↑178)=>`((T4.mk v335.a v335.b (↑0 (λ(x337:Int)=>((2:Int)+(x337%(3:Int)))) v335.c) ((zas v335.a (↑0 (λ(x337:Int)=>((2:Int)+(x337%(3:Int)))) v335.c) (4:Int) ↑167).1)))
 | `(↑17)=>`((Ev.weak (K:=K) ↑33))
 | `(↑20)=>`((Ev.any (m:=true) ↑105))
 | `(↑5)=>`((model X.prog X.w))
 | `(↑18)=>`((λ(r:Int)=>Oc.rt true (dI r)))
 | `(↑6)=>`((by decide+kernel))
 | `(↑145)=>`((zaz ↑85 rfl T.len PySem.boot_len ↑[↑198]))
 | `(↑179)=>`((λ(s21:Int×Int×Int×Int)=>([⇑[dI P0],⇑[dI P1],↥[dI s21.1],↥[dI s21.2.1],↥[dI s21.2.2.1],↥[dI s21.2.2.2],.no,.no]:L2.Ctx)))
 | `(↑124)=>`((wh.isSome && (decide ((((y.b.d.length:Nat):Int)+((y.c.length:Nat):Int))≤(12:Int)))))
 | `(↑180)=>`((λ(s211:Jq×Jq)=>([⇑[dI P0],⇑[dQ K ↑7],.ow true (↑0 lI s211.1),.ow true (↑0 lI s211.2),.no,.no,.no,.no]:L2.Ctx)))
 | `(↑36)=>`((Ev.any (m:=true) ↑94))
 | `(⇑1)=>`((CXE P w))
 | `(↑108)=>`((λ(r:(Jq×Jq))=>Oc.rt true (dT [dL (↑0 lI r.1),dL (↑0 lI r.2)])))
 | `(↑181)=>`((λ(s:Jq) (x:Ji×Int)=>Let (bif (decide ((0:Int)<x.2)) then (s++[↑0 (λ(y:Int)=>(x.2*y)) x.1]) else s) (λ(z:Jq)=>z)))
set_option hygiene false in
local macro_rules
 | `(↑241)=>`((bif (↑206 && (decide (v298=(0:Int)))) then (0:Int) else (bif ↑206 then (v297*(v298/(zaf v298 (↑101%v298)))) else v297)))
 | `(↑212)=>`(["_law_rows","_law_bottoms_here","_law_idle","_law_cells","_law_swaps","_law_row","_law_number","_law_kept","_law_trips","_law_cell_here","_law_one","_law_two","_law_many","_law_trip"])
 | `(↑44)=>`((Ev.any (m:=false) ↑105))
 | `(↥7)=>`((zaw (K:=K) rfl))
 | `(↑109)=>`((zaR ↑96 (pv 0) zag ↥4))
 | `(↑159)=>`((λ(x:Int)=>↑0 (λ(y:Int)=>(if (decide (y=x)) then (1:Int) else 0)) (zbz 0 w.toNat)))
 | `(↑30)=>`(((p462.b.c.length:Nat):Int))
 | `(↑110)=>`((EvO.ev (zdm ↑51 ↑238)))
 | `(↥1)=>`((by decide))
 | `(⇑9)=>`((Ev.any (m:=false) ⇑8))
 | `(↥4)=>`((λ_ _=>rfl))
 | `(↑19)=>`((Ev.any (m:=false) ↥2))
 | `(↥8)=>`((T4 Jq Jq Ji Jq))
 | `(↑60)=>`((λ(r:Ji)=>Oc.rt true (dL (↑0 dI r))))
 | `(↑242)=>`((bif (!decide (v216=v217)) then (zcW s211.2 v216 (↑0 (λ(x223:↑9)=>(x223.1-(v218*x223.2))) (List.zip (ixD s211.2 v216) (ixD s211.2 v217)))) else s211.2))
 | `(↑111)=>`((zaz ↑85 rfl T.len PySem.boot_len ↑[pv 0]))
 | `(↥6)=>`((↑0 lI P0))
 | `(↑69)=>`((λ(r:Jq)=>Oc.rt true (dL (↑0 lI r))))
 | `(↑61)=>`((λcdv Ar outer s H E P0 hr hp=> ?_))
 | `(↑32)=>`(((P0.length:Nat):Int))
 | `(↑33)=>`((zaa (i:=3) rfl))
 | `(↑7)=>`((↑0 dI P1))
 | `(↑88)=>`((.eq (.eq (.eq (.eq ↑13)))))
 | `(↑25)=>`(((f.c.length:Nat):Int))
 | `(↑62)=>`(((List.getElem?_eq_some_iff.mp e)))
 | `(↑270)=>`((by ((try simp only [decide_eq_true_eq,decide_eq_false_iff_not,Bool.not_eq_true',Bool.not_eq_false',Bool.and_eq_true,Bool.or_eq_false_iff,Bool.or_eq_true,Bool.and_eq_false_iff,Bool.cond_eq_ite] at*)<;>omega)))
 | `(↥3)=>`((Addr×Obj))
 | `(↑63)=>`((Ev.weak (K:=K) ↑94))
 | `(↑70)=>`(((s.c.length:Nat):Int))
 | `(↑182)=>`((λ(r:(Int×(Option (LineD⊕RestD))))=>Oc.rt true (dT [dI r.1,dOpt (dSc A) r.2])))
 | `(↑26)=>`((Ev.weak (K:=K) ↥2))
 | `(↑82)=>`((x419.2/(zaf x419.2 (x419.1%x419.2))))
 | `(↑243)=>`((bif (!decide (v267=v268)) then (↑0 (λ(ns274:Ji)=>zcW ns274 v267 ((ixD ns274 v267)-(v269*(ixD ns274 v268)))) s262.2) else s262.2))
 | `(↑213)=>`((↑0 (λ(x220:↑9)=>(x220.1+(v218*x220.2))) (List.zip (ixD s211.1 v217) (ixD s211.1 v216))))
 | `(↑214)=>`((↑0 (λ(x271:↑9)=>(x271.1+(v269*x271.2))) (List.zip (ixD s262.1 v268) (ixD s262.1 v267))))
 | `(↑45)=>`(((p462.a.c.length:Nat):Int))
 | `(↑244)=>`((bif ↑236 then (m_lowered ((↑142).2) (zbI P0 (some (x55.1+(1:Int))) none)) else s54.2))
 | `(↑160)=>`((zc3 (zcO (K:=K) rfl) rfl T.list PyProof.Rows.boot_list ↑[pv 0]))
 | `(↑39)=>`((Ev.any (m:=false) ↑31))
 | `(↑83)=>`((Ev.weak (K:=K) (za1 ↥2 zaJ rfl)))
set_option hygiene false in
local macro_rules
 | `(↑84)=>`((Ev.weak (K:=K) (za1 ⇑8 zaJ rfl)))
 | `(⇑7)=>`((Or.inr rfl))
 | `(↑89)=>`((Ev.weak (K:=K) ↑31))
 | `(↑245)=>`(["_law_script","_law_first","_law_second","_law_baskets","_law_one","_law_two","_law_sender","_law_found","_law_steps","_law_step","_law_cell_here","_law_whole","_law_rest"])
 | `(↑54)=>`((zaU (K:=K) rfl (pv 0) rfl))
 | `(↑42)=>`((Ev.any (m:=true) ⇑8))
 | `(↑215)=>`((λxs H Q=>∃p ys,xs=[.ref p]∧(SqL K H p ys∨SqT K H p ys)∧Q (.int ys.length) H))
 | `(↑96)=>`((zaE (K:=K) rfl))
 | `(↑216)=>`((λ(r:↥8)=>Oc.rt true (dT [dL (↑0 lI r.a),dL (↑0 lI r.b),dL (↑0 dI r.c),dL (↑0 lI r.d)])))
 | `(↑183)=>`((λ(s390:Int)=>([⇑[dL ↥6],⇑[dI P1],↥[dI s390],.no,.no,.no]:L2.Ctx)))
 | `(↑246)=>`((λ(s54:Jq×Ji)=>([⇑[dQ K ↥6],⇑[dQ K ↑7],↥[dL (↑0 dI s54.2)],.ow false (↑0 lI s54.1),.no,.no,.no]:L2.Ctx)))
 | `(↑217)=>`((λ(s108:Ji)=>([⇑[dQ K ↥6],⇑[dI P1],.ow true (↑0 dI s108),.no,.no,.no]:L2.Ctx)))
 | `(↑97)=>`((zci X (own++fvn) scope cl C fp s H))
 | `(↑46)=>`(((P1.c.length:Nat):Int))
 | `(↑47)=>`((Ev.any (m:=true) ↑31))
 | `(↑112)=>`((max (1:Int) ((s262.1.length:Nat):Int)))
 | `(↑218)=>`((zaz ↑85 rfl T.len PySem.boot_len ↑[↑199]))
 | `(↑40)=>`((zaa (i:=6) rfl))
 | `(↑247)=>`((λ(s30:Ji)=>([⇑[dQ K ↑14],⇑[dQ K ↑81],↥[dL (↑0 dI s30)],.no,.no,.no]:L2.Ctx)))
 | `(↑248)=>`((↑0 (λ(x319:↑9)=>(x319.1+((ixD (ixD P0.b x315) x309)*x319.2))) (List.zip s314 (ixD P1 x315))))
 | `(↑34)=>`((zbN I q ↥9))
 | `(↑219)=>`(["_law_wide","_law_cells","_law_rows","_law_duals","_law_cell_here","_law_one","_law_two","_law_many"])
 | `(↑71)=>`(((steps.length+1)*(s+9000)))
 | `(↑271)=>`(((scope.names.map λ(n,k)=>if (k==NameKind.free && X.env.scope.kind== .function && X.env.kindOf n==some .cell) then (n,NameKind.cell) else (n,k))))
 | `(↑113)=>`((max (1:Int) ((s.1.length:Nat):Int)))
 | `(⇑5)=>`((λ_=>rfl))
 | `(↑55)=>`(((P0.c.length:Nat):Int))
 | `(↑56)=>`(⟨by omega,by omega⟩)
 | `(↑249)=>`(((decide ((ixD x399 hv396)<(0:Int)))||(decide ((ixD ↑50 hv396)≤(ixD x399 hv396)))))
 | `(↑250)=>`((λ(s229:Ji)=>([⇑[dI P0],⇑[dI P1],⇑[dI P2],.ow true (↑0 dI s229),.no,.no,.no]:L2.Ctx)))
 | `(↑161)=>`((zci X (own++fvn) scope cl' G2.objs.size fp s H2))
 | `(↑251)=>`((λ(s406:Ji)=>([⇑[dQ K ↥6],⇑[dQ K ↑7],↥[dL (↑0 dI s406)],.no,.no,.no]:L2.Ctx)))
 | `(↑220)=>`((λ(r:(Ji×Ji))=>Oc.rt true (dT [dL (↑0 dI r.1),dL (↑0 dI r.2)])))
 | `(↑184)=>`((Ev.any (m:=false) (zbC ↥2 T.Book_cl T.Book_many rfl)))
 | `(↑64)=>`(((List.range B.length)))
 | `(↑252)=>`((zal (i:=0) (show (["row","book"]:List Str).Nodup by decide+kernel) rfl (↥0 rfl) ⇑7))
 | `(↑72)=>`(((y.b.c.length:Nat):Int))
 | `(↑73)=>`((Ev.any (m:=true) ↑33))
 | `(↑162)=>`((↑156 && (decide (b=(0:Int)))))
 | `(↑125)=>`((Ev.weak (K:=K) (za1 ↑31 zaJ rfl)))
set_option hygiene false in
local macro_rules
 | `(↑27)=>`((Sum.inr false))
 | `(↑253)=>`(["_law_first","_law_second","_law_baskets","_law_steps","_law_cell_here","_law_basket","_law_number","_law_made","_law_lost"])
 | `(↑48)=>`((zab (zaL zfl) zae))
 | `(↑254)=>`((↑0 (λ(x302:↑9)=>(x302.1+(v301*x302.2))) (List.zip s292 (ixD P1.a x293))))
 | `(↑146)=>`((some (.builtin "object.__setattr__")))
 | `(↑90)=>`((λb=> .inl ⟨_,_,rfl⟩))
 | `(↑185)=>`((⟨P0,P1,(↑0 (λ(x147:Ji)=>x147) P2)⟩:SenderD))
 | `(↑255)=>`((zb2 rfl T.range ↑[(zaz ↑85 rfl T.len PySem.boot_len ↑[↑109])]))
 | `(↑14)=>`((↑0 dI P0))
 | `(↑186)=>`((show (["a","b"]:List Str).Nodup by decide+kernel))
 | `(↑21)=>`((↑0 dI P0.c))
 | `(↑22)=>`((↑0 lI P0.a))
 | `(↑23)=>`((↑0 lI P0.b))
 | `(↑24)=>`((↑0 lI P0.d))
 | `(↑147)=>`((by rw [List.length_singleton];omega))
 | `(↑65)=>`((zax (zaj (zaA zaJ))))
 | `(↑74)=>`((.eq (.eq (.eq .nil))))
 | `(↑91)=>`((show false=true from hs))
 | `(↑85)=>`((zar (K:=K) rfl))
 | `(↑187)=>`((.ListComp elt [⟨tg,iter,ifs,0⟩] scope pos))
 | `(↑9)=>`((Int×Int))
 | `(↑163)=>`((λ(r:Jq)=>Oc.rt false (dL (↑0 lI r))))
 | `(↑126)=>`((List.getElem?_eq_getElem ⇑0))
 | `(↑127)=>`((by refine ⟨?_,?_⟩<;>omega))
 | `(↑114)=>`((λ(xs:Jq)=>dL (↑0 lI xs)))
 | `(↑221)=>`((Ev.any (m:=false) (zbC ⇑8 T.Book_cl T.Book_many rfl)))
 | `(↑222)=>`((zad P1 ((P2+(20:Int))+x230) ((10:Int) ^ (9:Int).toNat)))
 | `(↑128)=>`(["_law_cell_here","_law_k","_law_many"])
 | `(↑129)=>`((by with_reducible assumption))
 | `(↑188)=>`((decide (((v325/(72:Int))%(16:Int))=(5:Int))))
 | `(↑223)=>`((zad P2 (((P3+((8:Int)*x287))+x293)%(60:Int)) (7:Int)))
 | `(↑57)=>`((by simpa using q))
 | `(↑256)=>`((λ_ _ _ _ _=>⟨↑269,za7,(zav zbX (pv 0) (zav zbh (pv 2) (pv 1)))⟩))
 | `(↑130)=>`((by show 2≤sizeLine;decide))
 | `(↑98)=>`((Lat.clm Lat.MG b.swaps))
 | `(↑148)=>`((backTo pos (starEach es X.env)))
 | `(↑224)=>`((List.filter (λ(t:Ji)=>decide (zak t<b.many)) rows))
 | `(↑49)=>`((2147483647:Int))
 | `(↑257)=>`((thn (ha pos pins s σ H _ I h) λus s1 ⟨vs,H1,I1,r1,q1⟩=> ?_))
 | `(↑99)=>`(((rows.length:Nat):Int))
set_option hygiene false in
local macro_rules
 | `(↑37)=>`((model prog w))
 | `(↑100)=>`((x==("__debug__" :Str)))
 | `(↑272)=>`((λr s'=>r= .ok (.ret (.bool true))∧OldK s₁.heap s'.heap∧s'.os=s₁.os∧AllBare s'.gens))
 | `(↑189)=>`((.eq (.eq (.eq (.no (.no (.no .nil)))))))
 | `(↑225)=>`((Nat.lt_of_lt_of_le ↑119 I.ok.above))
 | `(↑226)=>`((↑0 (λ(x118:Ji)=>(x118++[(0:Int)])) P0.swaps))
 | `(↑258)=>`((List.mem_append_right _ (List.mem_append_right _ (zfK hb e))))
 | `(↑190)=>`((↑0 (λ(x440:Int)=>(v439*x440)) x435))
 | `(↑28)=>`((Sum.inl ()))
 | `(↑227)=>`((zaz ↑85 rfl T.len PySem.boot_len ↑[pv 1]))
 | `(↑228)=>`((zaz ↑85 rfl T.len PySem.boot_len ↑[pv 3]))
 | `(↑58)=>`((λ(x:Ji)=>x))
 | `(↥9)=>`((by simp))
 | `(↑229)=>`((λx=>[dQ K (↑0 dI x.1),dQ K (↑0 dI x.2)]))
 | `(↑191)=>`(((M.f (vec s (hd s)) (vec l (hd s)))))
 | `(↑273)=>`(((hs.2 b (Nat.ne_of_lt (Nat.lt_of_lt_of_le ↑119 (I.ok.cab x c hfn hc))))))
 | `(↑131)=>`((List.mem_of_getElem? hr))
 | `(↑192)=>`((backToKw pos (keywordEach [] X.env)))
 | `(↑15)=>`(["one","other"])
 | `(↑164)=>`((by rw [List.length_zip];omega))
 | `(↑230)=>`((λ(r:StairsD)=>Oc.rt true (zgb A.Stairs r)))
 | `(↑92)=>`((a.inj i j q e2 h2))
 | `(↑93)=>`((by simpa using hi))
 | `(↑149)=>`((zaU (K:=K) rfl (pv 1) rfl))
 | `(↑66)=>`((zbS (K:=K) rfl))
 | `(↑259)=>`((A.under (.builtin "type.__call__" ⟨.ref C::us,kw⟩)))
 | `(↑132)=>`(((y.a.c.length:Nat):Int))
 | `(↑133)=>`((Ev.any (m:=true) ↑40))
 | `(↑231)=>`(([⇑[dQ K ↑14],⇑[dQ K ↑7]]:L2.Ctx))
 | `(↑232)=>`((↑0 (λ(x245:Int)=>(x240.2*x245)) x240.1))
 | `(↑16)=>`((-(1:Int)))
 | `(↑101)=>`((ixD P0.c x287))
 | `(↑193)=>`((.eq (.eq (.eq (.no (.no .nil))))))
 | `(↑194)=>`((λv (d:Ds)=>d.pr (part m F Hb) v))
 | `(↑115)=>`((by unfold InB;omega))
 | `(↑274)=>`((k'==NameKind.free && env.scope.kind== .function && env.kindOf n==some .cell))
 | `(↑53)=>`((ns.map V.int))
 | `(↑165)=>`((λ(x:Int×Int)=>x.1-(q*x.2)))
 | `(↑166)=>`((λr=>Oc.rl true (↑0 dI r)))
 | `(↑75)=>`((zaa (i:=7) rfl))
set_option hygiene false in
local macro_rules
 | `(↑167)=>`((zbI v332 (some hv333) none))
 | `(↑134)=>`((.eq (.eq (.no .nil))))
 | `(↑135)=>`((ha pins s σ H _ I h))
 | `(↑136)=>`((he pins s σ H _ I h))
 | `(↑50)=>`((ixD P0 x391))
 | `(↑51)=>`((zac zaJ zah))
 | `(↑116)=>`(((a.length:Nat):Int))
 | `(↑195)=>`((zaN yab ↑2 rfl zaK ↑[pv 0]))
 | `(↑86)=>`((EP X pins σ Q))
 | `(↑168)=>`((zaV (f:=dI) (xs:=P0) ↥2))
 | `(↑102)=>`((ixD v331 (1:Int)))
 | `(↑103)=>`((zbz 0 idle.toNat))
 | `(↑150)=>`((.eq (.eq (.eq ↑88))))
 | `(↑151)=>`((Ev.any (m:=true) ↥2))
 | `(↑35)=>`((a.grow g1))
 | `(↑152)=>`((zaM (K:=K) rfl (pv 0)))
 | `(↑233)=>`((Ev.any (m:=true) (zaa (i:=10) rfl)))
 | `(↑260)=>`((if (decide (x258=(v250+x255))) then 1 else 0))
 | `(↑94)=>`((zaa (i:=5) rfl))
 | `(↑95)=>`((λz=>nomatch z))
 | `(↑234)=>`(((List.getElem?_eq_some_iff.mp hx)))
 | `(↑196)=>`((.builtin "object.__class__"))
 | `(↑169)=>`((List.mem_of_getElem? hx))
 | `(↑137)=>`((by intro z;cases z))
 | `(↑29)=>`((xs.map f))
 | `(↑153)=>`((λv (d:Ds)=>d.pr H v))
 | `(↑117)=>`(((zgS hO hT ↑1)))
 | `(↑118)=>`((by simpa using h))
 | `(↑76)=>`((↑0 dI P1.c))
 | `(↑77)=>`((↑0 lI P1.a))
 | `(↑78)=>`((↑0 lI P1.b))
 | `(↑79)=>`((↑0 lI P1.d))
 | `(↑235)=>`(((List.getElem?_eq_some_iff.mp h)))
 | `(↑236)=>`((decide ((zak s54.2)=(zak x55.2))))
 | `(↑197)=>`((show u=Value.ref a from rx))
 | `(↑198)=>`((zaR ↑96 (pv 1) zag ↥4))
 | `(↑199)=>`((zaR ↑96 (pv 2) zag ↥4))
 | `(↑200)=>`((zaR ↑96 (pv 6) zag ↥4))
 | `(↑41)=>`((Lat.vec x))
 | `(↑261)=>`((∀x c,X.env.cells.lookup x=some c->c≠b))
set_option hygiene false in
local macro_rules
 | `(↑154)=>`((.Attribute o m apos))
 | `(↑138)=>`((Lat.ziL b.swaps x))
 | `(↑67)=>`((g1.trans g2))
 | `(↑139)=>`((zdq (m:=true) zah))
 | `(↑68)=>`((λ_ _=>True))
 | `(↑262)=>`((by simp only [List.size_toArray]<;>omega))
 | `(↑201)=>`(["_law_baskets","_law_basket","_law_wide"])
 | `(↑104)=>`((zaF bs x ↑70))
 | `(↑105)=>`((zaa (i:=4) rfl))
 | `(↑106)=>`((zaa (i:=8) rfl))
 | `(↑43)=>`((Str×Addr))
 | `(↑237)=>`((by rw [List.length_drop];omega))
 | `(↑155)=>`(((l.length:Nat):Int))
 | `(↑156)=>`((decide ((0:Int)<y)))
 | `(↑202)=>`((zad P4 (10:Int) (12:Int)))
 | `(↑59)=>`((↑0 lI P2))
 | `(↑140)=>`(((↑1:StI W _ _)))
 | `(↑141)=>`((by simpa using e))
 | `(↑80)=>`((rows.take i))
 | `(↑170)=>`((λv (d:Ds)=>d.pr F v))
 | `(↑275)=>`(((zcc P0.baskets)++(zcT P0.second.swaps P0.first.many)))
 | `(↑203)=>`((Ev.any (m:=false) ↑33))
 | `(↑204)=>`((List.mem_of_mem_take hr))
 | `(↑205)=>`((Nat.lt_succ_self (hd s)))
 | `(↑38)=>`((a.grow g))
 | `(↑206)=>`((decide ((0:Int)<↑101)))
 | `(↑207)=>`((s.heap.push W.emptyDict))
 | `(↑208)=>`((tSeq (zk2 te (zdV i)) u))
 | `(↑119)=>`((Heap.lt_size e))
 | `(↑263)=>`((b∈X.ex∨X.s₀.heap.objs.size≤b))
 | `(↑120)=>`((λ_ _=>trivial))
 | `(↑157)=>`((Lat.zdk W1 bs s.d))
 | `(↑171)=>`((Ev.weak (K:=K) ⇑8))
 | `(↑276)=>`((HT.sIx xs.length xs.length hi-HT.sIx xs.length 0 lo))
 | `(↑238)=>`((by show 1≤sizeLine;decide))
 | `(↑239)=>`((envOfC qual scope ⇑2 f cd))
 | `(↑142)=>`((zbF x55.2 s54.2))
 | `(↑172)=>`((zcI ↑32 [(0:Int)]))
 | `(↑209)=>`(((List.range xs.length)))
 | `(↑81)=>`((↑0 lI P1))
set_option hygiene false in
local macro_rules
 | `(↑264)=>`(((List.getElem?_eq_some_iff.mp hr)))
 | `(↑121)=>`(((n+1:Nat):Int))
 | `(↑107)=>`((Ev.old ↑89))
 | `(↑143)=>`(((m_law_pair x)))
 | `(↑144)=>`((zaa (i:=9) rfl))
 | `(↑265)=>`(⟨by decide,by decide,by omega⟩)
 | `(↑52)=>`((.inl rfl))
 | `(↑210)=>`((List.range as.length))
 | `(↑266)=>`(((zbk x.1 x.2.1 x.2.2.1 x.2.2.2)))
 | `(↑158)=>`((Nat.lt_irrefl _))
 | `(↑267)=>`((Nat.pow_le_pow_right ↥1 ⇑0))
 | `(↑173)=>`((by rw [za4];omega))
 | `(↑174)=>`((↑0 ↑58 y.b.d))
 | `(↑175)=>`(["_law_a","_law_b"])
 | `(↑122)=>`((.ins C dx fs))
 | `(↑268)=>`((by rw [List.length_take];omega))
 | `(↑123)=>`((zca ↑[zag]))
set_option hygiene false in
local macro_rules
 | `(⇑[$x])=>`((.va false $x))
 | `(↥[$x])=>`((.va true $x))
 | `(↥($x))=>`((by exact $x))
set_option hygiene false in
local macro_rules
 | `(↥991)=>`((λ_ _ _ _ _ _ us hl=>match us,hl with | [_],_=>rfl))
 | `(↥992)=>`((λ_ _ _ _ _ _ us hl=>match us,hl with | [_,_],_=>rfl))
 | `(↥993)=>`((λ_ _ _ _ _ _ us hl=>match us,hl with | [_,_,_],_=>rfl))
 | `(↥994)=>`((λ_ _ _ _ _ _ us hl=>match us,hl with | [_,_,_,_],_=>rfl))
 | `(↥995)=>`((λ_ _ _ _ _ _ us hl=>match us,hl with | [_,_,_,_,_],_=>rfl))
abbrev Ji:=List Int
abbrev Jq:=List Ji
set_option hygiene false in
local macro_rules
 | `(↑[$a0])=>`((zbZ $a0 zem))
 | `(↑[$a0,$a1])=>`((zbZ $a0 (zbZ $a1 zem)))
 | `(↑[$a0,$a1,$a2])=>`((zbZ $a0 (zbZ $a1 (zbZ $a2 zem))))
 | `(↑[$a0,$a1,$a2,$a3])=>`((zbZ $a0 (zbZ $a1 (zbZ $a2 (zbZ $a3 zem)))))
 | `(↑[$a0,$a1,$a2,$a3,$a4])=>`((zbZ $a0 (zbZ $a1 (zbZ $a2 (zbZ $a3 (zbZ $a4 zem))))))
 | `(↑[$a0,$a1,$a2,$a3,$a4,$a5])=>`((zbZ $a0 (zbZ $a1 (zbZ $a2 (zbZ $a3 (zbZ $a4 (zbZ $a5 zem)))))))
namespace L2
open PySem PySem.Spec PyProof.Rows
abbrev Key:=Sum Int Str
def zs9:Key->Value->Bool
 | .inl k,v=>Value.isInt k v
 | .inr x,v=>Value.isStrOf x v
def zw5 (w:World):Key->Int
 | .inl k=>hashInt k
 | .inr x=>hashStr w x
theorem zcl:∀ {k:Key} {v:Value},zs9 k v=true->(∃ i t,k=Sum.inl i∧v=Value.int i t)∨(∃ x t,k=Sum.inr x∧v=Value.str x t)
 | .inl i,v,h=>by
  obtain ⟨t,e⟩:=Value.isInt_shape (k:=i) (v:=v) h
  exact .inl ⟨i,t,rfl,e⟩
 | .inr x,v,h=>by
  obtain ⟨t,e⟩:=Value.isStrOf_shape (x:=x) (v:=v) h
  exact .inr ⟨x,t,rfl,e⟩
theorem zsZ (a b:Int):decide ((Sum.inl a:Key)=Sum.inl b)=(a == b):=by
 by_cases e:a=b
 ·subst e;simp
 ·have h:¬ (Sum.inl a:Key)=Sum.inl b:=λq=>e (Sum.inl.inj q)
  rw [decide_eq_false h]
  exact (beq_eq_false_iff_ne.mpr e).symm
theorem ztZ (a b:Str):decide ((Sum.inr a:Key)=Sum.inr b)=decide (a=b):=by
 by_cases e:a=b
 ·subst e;simp
 ·have h:¬ (Sum.inr a:Key)=Sum.inr b:=λq=>e (Sum.inr.inj q)
  rw [decide_eq_false h,decide_eq_false e]
theorem zua (a:Int) (b:Str):decide ((Sum.inl a:Key)=Sum.inr b)=false:=decide_eq_false (λq=>nomatch q)
theorem zt1 (a:Str) (b:Int):decide ((Sum.inr a:Key)=Sum.inl b)=false:=decide_eq_false (λq=>nomatch q)
def znZ (prog:Program) (w:World):PySem.KeyKind prog w Key where
 is:=zs9
 hash:=zw5 w
 inj:=λv a b ha hb=>by
  rcases zcl ha with ⟨i,t,rfl,rfl⟩ | ⟨x,t,rfl,rfl⟩
  ·rcases zcl hb with ⟨j,u,rfl,e⟩ | ⟨y,u,rfl,e⟩
   ·injection e with e1 _;rw [e1]
   ·exact nomatch e
  ·rcases zcl hb with ⟨j,u,rfl,e⟩ | ⟨y,u,rfl,e⟩
   ·exact nomatch e
   ·injection e with e1 _;rw [e1]
 byValue:=λk v h=>by
  rcases zcl h with ⟨i,t,rfl,rfl⟩ | ⟨x,t,rfl,rfl⟩<;>rfl
 pyHash:=λhv h=>by
  rcases zcl hv with ⟨i,t,rfl,rfl⟩ | ⟨x,t,rfl,rfl⟩
  ·exact wpAny_pyHash_int h
  ·exact wpAny_pyHash_str h
 eqBool:=λhu hv h=>by
  rcases zcl hu with ⟨i,t,rfl,rfl⟩ | ⟨x,t,rfl,rfl⟩
  ·rcases zcl hv with ⟨j,u,rfl,rfl⟩ | ⟨y,u,rfl,rfl⟩
   ·rw [zsZ] at h;exact wpAny_eqBool_int h
   ·rw [zua] at h;exact SeqAt.EqAt.int_str i t y u _ _ _ _ h
  ·rcases zcl hv with ⟨j,u,rfl,rfl⟩ | ⟨y,u,rfl,rfl⟩
   ·rw [zt1] at h;exact SeqAt.EqAt.str_int x t j u _ _ _ _ h
   ·rw [ztZ] at h;exact wpAny_eqBool_str h
 «strs»:=λk x t v h=>by
  rcases zcl h with ⟨i,u,rfl,e⟩ | ⟨y,u,rfl,e⟩
  ·exact nomatch e
  ·injection e with e1 _
   subst e1
   cases v<;>rfl
inductive V where
 | non | bl (b:Bool) | int (i:Int) | str (x:Str) | byt (b:Array UInt8) | flt (b:UInt64) | ref (a:Addr) | ty (n:String)
 deriving DecidableEq
def RelV:V->Value->Prop
 | .non,u=>u=Value.none
 | .bl b,u=>u=Value.bool b
 | .int i,u=>∃ t,u=Value.int i t
 | .str x,u=>∃ t,u=Value.str x t
 | .byt b,u=>∃ t,u=Value.bytes b t
 | .flt b,u=>∃ t,u=Value.float b t
 | .ref a,u=>u=Value.ref a
 | .ty n,u=>u=Value.type n
abbrev zcg:List V->List Value->Prop:=Paired RelV
theorem zcg.length {xs:List V} {us:List Value} (r:zcg xs us):xs.length=us.length:=Paired.length r
theorem zcg.get:∀ {xs:List V} {us:List Value} {i:Nat} {x:V},zcg xs us->xs[i]?=some x->∃ u,us[i]?=some u∧RelV x u
 | _,_,_,_,.nil,e=>by simp at e
 | _,_,0,_,.cons r _,e=>by simp at e;subst e;exact ⟨_,rfl,r⟩
 | _,_,i+1,x,.cons _ t,e=>by
  obtain ⟨u,h1,h2⟩:=zcg.get (i:=i) (x:=x) t ↑141
  exact ⟨u,by simpa using h1,h2⟩
theorem zcg.set {x:V} {u:Value} (r:RelV x u):∀ {xs:List V} {us:List Value} (i:Nat),zcg xs us->zcg (xs.set i x) (us.set i u)
 | _,_,_,.nil=>.nil
 | _,_,0,.cons _ t=>.cons r t
 | _,_,i+1,.cons q t=>.cons q (zcg.set r i t)
theorem zcg.append:∀ {xs ys:List V} {us ws:List Value},zcg xs us->zcg ys ws->zcg (xs++ys) (us++ws)
 | _,_,_,_,.nil,s=>s
 | _,_,_,_,.cons r t,s=>.cons r (zcg.append t s)
theorem zcg.take:∀ {xs:List V} {us:List Value} (n:Nat),zcg xs us->zcg (xs.take n) (us.take n)
 | _,_,0,_=>.nil
 | _,_,_+1,.nil=>.nil
 | _,_,n+1,.cons r t=>.cons r (zcg.take n t)
theorem zcg.drop:∀ {xs:List V} {us:List Value} (n:Nat),zcg xs us->zcg (xs.drop n) (us.drop n)
 | _,_,0,r=>r
 | _,_,_+1,.nil=>.nil
 | _,_,n+1,.cons _ t=>zcg.drop n t
def zpg:Option V->Option Value->Prop
 | some v,some u=>RelV v u
 | none,none=>True
 | _,_=>False
def KV {κ:Type}:List (κ×V)->List (κ×Value)->Prop:=Paired λ(p:κ×V) (q:κ×Value)=>p.1=q.1∧RelV p.2 q.2
def kV:Key->V
 | .inl i=>.int i
 | .inr x=>.str x
inductive HO where
 | lst (xs:List V)
 | tup (xs:List V)
 | dK (kvs:List (Key×V)) | dT (kvs:List (List Key×V))
 | set (S:Int->Bool) (n:Nat)
 | ins (C dx:Addr) (fs:List (Str×V))
 | own (x:Addr)
 | xd (fs:List (Str×V))
 | met (f x:Addr)
 | rng (lo hi:Int)
 | frz (o:Obj) (u:HO)
 | tbl (ps:Array Value)
 | ext (φ:Heap->Prop)
abbrev Hp:=Addr->Option HO
def upd (H:Hp) (a:Addr) (o:HO):Hp:=λb=>if b=a then some o else H b
theorem zaO {H:Hp} {a:Addr} {o:HO}:upd H a o a=some o:=by unfold upd;rw [if_pos rfl]
theorem zaC {H:Hp} {a b:Addr} {o:HO} (h:b≠a):upd H a o b=H b:=by unfold upd;rw [if_neg h]
theorem zjp {H:Hp} {a b:Addr} {o u:HO} (h:H a=some o) (h':H b=some u) (d:o≠u):a≠b:=by
 intro e;subst e;rw [h] at h';exact d (Option.some.inj h')
theorem zbj {H:Hp} {a b:Addr} {o:HO} (h:H a=some o) (h':H b=none):a≠b:=by
 intro e;subst e;rw [h] at h';cases h'
section
variable (P:Program) (w:World)
def zen (H:Hp) (h:Heap) (a:Addr):HO->Prop
 | .lst xs=>xs.length≤sizeLine∧∃ (its:List Value) (n:Nat),zcg xs its∧h.get? a=some { cls:=.type "list",data:=.seq its.toArray n }
 | .tup xs=>xs.length≤sizeLine∧∃ its:List Value,zcg xs its∧IsTup h a its.toArray
 | .dK kvs=>kvs.length≤sizeLine∧(a == sysModules)=false∧∃ vs,KV kvs vs∧h.DictOf (znZ P w) a vs
 | .dT kvs=>kvs.length≤sizeLine∧(a == sysModules)=false∧∃ xs:List (List Key×Addr×Value),
   Paired (λ(p:List Key×V) (q:List Key×Addr×Value)=>p.1=q.1∧H q.2.1=some (.tup (p.1.map kV))∧RelV p.2 q.2.2) kvs xs ∧
   ∃ o es ep,h.get? a=some o∧o.ExactDict∧o.data=.dict es ep∧es.toList=xs.map (entryOfKey (tupleKind (znZ P w)))∧(xs.map (·.1)).Nodup
 | .set S n=>h.SetOf (intKind P w) a S n
 | .ins C dx fs=>H dx=some (.own a)∧fs.length≤1000∧dx≠a∧h.get? a=some (W.instObj C dx) ∧
   ∃ mA,h.Ns1 dx mA∧(∀ f,zpg (fs.lookup f) (mA f))∧PySem.Within mA (fs.map (·.1))
 | .own _=>∃ o,h.get? a=some o
 | .xd fs=>∃ mA,h.Ns1 a mA∧∀ f,zpg (fs.lookup f) (mA f)
 | .rng lo hi=>∃ t u v,h.get? a=some { cls:=.type "range",data:=.fields #[.int lo t,.int hi u,.int 1 v] }
 | .frz o u=>h.get? a=some o∧zen H h a u
 | .tbl ps=>h.get? a=some { cls:=.none,data:=.fields ps }
 | .met f x=>h.get? a=some (W.methodObj (.ref f) (.ref x))
 | .ext φ=>φ h∧(∃ o,h.get? a=some o)∧∀ h1 h2:Heap,φ h1->(∀ o,h1.get? a=some o->h2.get? a=some o)->φ h2
def HOk (H:Hp) (h:Heap):Prop:=∀ a o,H a=some o->zen P w H h a o
end
section
variable {P:Program} {w:World} {H H':Hp} {h h':Heap} {a:Addr} {o:HO}
theorem zen.lt (x:zen P w H h a o):a<h.objs.size:=by
 cases o with
 | lst xs=>obtain ⟨_,_,_,_,e⟩:=x;exact Heap.lt_size e
 | tup xs=>obtain ⟨_,_,_,p⟩:=x;exact p.lt
 | dK kvs=>obtain ⟨_,_,_,_,o,_,_,e,_⟩:=x;exact Heap.lt_size e
 | dT kvs=>obtain ⟨_,_,_,_,o,_,_,e,_⟩:=x;exact Heap.lt_size e
 | set S n=>obtain ⟨o,_,_,_,e,_⟩:=x;exact Heap.lt_size e
 | ins C dx fs=>obtain ⟨_,_,_,e,_⟩:=x;exact Heap.lt_size e
 | own y=>obtain ⟨_,e⟩:=x;exact Heap.lt_size e
 | xd fs=>obtain ⟨_,⟨_,_,_,e,_⟩,_⟩:=x;exact Heap.lt_size e
 | rng lo hi=>obtain ⟨_,_,_,e⟩:=x;exact Heap.lt_size e
 | frz ob u=>obtain ⟨e,_⟩:=x;exact Heap.lt_size e
 | tbl ps=>exact Heap.lt_size (show h.get? a=some _ from x)
 | met f y=>exact Heap.lt_size (show h.get? a=some _ from x)
 | ext φ=>obtain ⟨_,⟨_,e⟩,_⟩:=x;exact Heap.lt_size e
theorem Paired.mapP {α β:Type} {F G:α->β->Prop}:∀ {l₁:List α} {l₂:List β},Paired F l₁ l₂->(∀ a b,F a b->G a b)->Paired G l₁ l₂
 | _,_,.nil,_=>.nil
 | _,_,.cons r t,f=>.cons (f _ _ r) (Paired.mapP t f)
theorem zen.stay (x:zen P w H h a o) (k:∀ b u,(b=a∨H b=some (.own a))->h.get? b=some u->h'.get? b=some u)
  (ho:∀ b,H b=some (.own a)->H' b=some (.own a)) (ht:∀ b xs,H b=some (.tup xs)->H' b=some (.tup xs)):zen P w H' h' a o:=by
 induction o with
 | lst xs=>obtain ⟨z,its,n,r,e⟩:=x;exact ⟨z,its,n,r,k _ _ ↑52 e⟩
 | tup xs=>obtain ⟨z,its,r,ob,e,c⟩:=x;exact ⟨z,its,r,ob,k _ _ ↑52 e,c⟩
 | dK kvs=>obtain ⟨z,y,vs,r,ob,es,ep,e,c⟩:=x;exact ⟨z,y,vs,r,ob,es,ep,k _ _ ↑52 e,c⟩
 | dT kvs =>
  obtain ⟨z,y,xs,r,ob,es,ep,e,c⟩:=x
  exact ⟨z,y,xs,Paired.mapP r λp q z=>⟨z.1,ht _ _ z.2.1,z.2.2⟩,ob,es,ep,k _ _ ↑52 e,c⟩
 | set S n=>obtain ⟨ob,es,ep,t,e,c⟩:=x;exact ⟨ob,es,ep,t,k _ _ ↑52 e,c⟩
 | ins C dx fs =>
  obtain ⟨d,z,ne,e,mA,⟨od,es,ep,e2,c⟩,r⟩:=x
  exact ⟨ho _ d,z,ne,k _ _ ↑52 e,mA,⟨od,es,ep,k _ _ (.inr d) e2,c⟩,r⟩
 | own y=>obtain ⟨ob,e⟩:=x;exact ⟨ob,k _ _ ↑52 e⟩
 | xd fs=>obtain ⟨mA,⟨od,es,ep,e,c⟩,r⟩:=x;exact ⟨mA,⟨od,es,ep,k _ _ ↑52 e,c⟩,r⟩
 | rng lo hi=>obtain ⟨t,u,v,e⟩:=x;exact ⟨t,u,v,k _ _ ↑52 e⟩
 | frz ob u ih=>obtain ⟨e,q⟩:=x;exact ⟨k _ _ ↑52 e,ih q⟩
 | tbl ps =>
  have e:h.get? a=some { cls:=.none,data:=.fields ps }:=x
  show h'.get? a=some { cls:=.none,data:=.fields ps }
  exact k a _ ↑52 e
 | met f y =>
  have e:h.get? a=some (W.methodObj (.ref f) (.ref y)):=x
  show h'.get? a=some (W.methodObj (.ref f) (.ref y))
  exact k a _ ↑52 e
 | ext φ=>obtain ⟨p,⟨o,e⟩,st⟩:=x;exact ⟨st _ _ p λo q=>k _ _ ↑52 q,⟨o,k _ _ ↑52 e⟩,st⟩
theorem HOk.lt (x:HOk P w H h) (e:H a=some o):a<h.objs.size:=(x a o e).lt
theorem HOk.fresh (x:HOk P w H h) (e:h.objs.size≤a):H a=none:=by
 cases q:H a with
 | none=>rfl
 | some u=>exact absurd (Nat.lt_of_lt_of_le (x.lt q) e) ↑158
theorem HOk.kept (x:HOk P w H h) (k:∀ b u,h.get? b=some u->h'.get? b=some u):HOk P w H h':=λa o e =>
 (x a o e).stay (λb u _ q=>k b u q) (λ_ q=>q) λ_ _ q=>q
theorem HOk.laid (x:HOk P w H h) (k:∀ b u,h.get? b=some u->h'.get? b=some u) (hp:h.objs.size≤a) (new:zen P w (upd H a o) h' a o):HOk P w (upd H a o) h':=λb u e=>by
 have hn:=x.fresh hp
 by_cases hb:b=a
 ·subst hb;rw [zaO] at e;cases e;exact new
 ·rw [zaC hb] at e
  exact (x b u e).stay (λc v _ q=>k c v q) (λc q=>by rw [zaC (zbj q hn)];exact q) λc xs q=>by rw [zaC (zbj q hn)];exact q
end
def Rd (H:Hp) (a:Addr) (u:HO):Prop:=H a=some u∨∃ o,H a=some (.frz o u)
theorem Rd.ok {P:Program} {w:World} {H:Hp} {h:Heap} {a:Addr} {u:HO} (r:Rd H a u) (x:HOk P w H h):zen P w H h a u:=by
 rcases r with r | ⟨o,r⟩
 ·exact x a u r
 ·obtain ⟨_,q⟩:=x a _ r
  exact q
def Mut:Option HO->Prop
 | some (.lst _)=>True
 | some (.dK _)=>True
 | some (.dT _)=>True
 | some (.set _ _)=>True
 | some (.ins _ _ _)=>True
 | some (.ext _)=>True
 | _=>False
section
variable {P:Program} {w:World} {H:Hp} {h h':Heap} {x e:Addr} {o':HO}
theorem HOk.write (ok:HOk P w H h) (mu:Mut (H x)) (he:e=x∨H e=some (.own x)) (k:∀ b u,b≠e->h.get? b=some u->h'.get? b=some u) (heo:∃ u,h'.get? e=some u)
  (new:zen P w (upd H x o') h' x o'):HOk P w (upd H x o') h':=λb u q=>by
 have nown:∀ c y,H c=some (.own y)->c≠x:=λc y r z=>by subst z;rw [r] at mu;exact mu
 have ntup:∀ c xs,H c=some (.tup xs)->c≠x:=λc xs r z=>by subst z;rw [r] at mu;exact mu
 by_cases hb:b=x
 ·subst hb;rw [zaO] at q;cases q;exact new
 ·rw [zaC hb] at q
  by_cases hbe:b=e
  ·have q':H b=some (.own x):=by
    rcases he with z | z
    ·exact absurd (hbe.trans z) hb
    ·rw [hbe];exact z
   rw [q] at q';cases q'
   obtain ⟨v,hv⟩:=heo
   exact ⟨v,by rw [hbe];exact hv⟩
  ·refine (ok b u q).stay (λc v hc r=>k c v ?_ r) (λc r=>by rw [zaC (nown c b r)];exact r) λc xs r=>by rw [zaC (ntup c xs r)];exact r
   rcases hc with rfl | hc
   ·exact hbe
   ·rintro rfl
    rcases he with z | z
    ·exact nown c b hc z
    ·rw [hc] at z;cases z;exact hb rfl
end
structure Un (fs ex:List Addr) (H H':Hp) (h h':Heap):Prop where
 keep:∀ b o,h.get? b=some o->H b=none->b ∉ fs->b ∉ ex->h'.get? b=some o
 slot:∀ b o,h.get? b=some o->H b=none->b∈fs->b ∉ ex->∃ sl,h'.get? b=some { o with slots:=sl }
 free:∀ b o,h.get? b=some o->H b=none->b ∉ ex->H' b=none
 there:∀ b o,h.get? b=some o->b ∉ ex->∃ o',h'.get? b=some o'
 tups:∀ b xs,H b=some (.tup xs)->H' b=some (.tup xs)
 frzs:∀ b o u,H b=some (.frz o u)->H' b=some (.frz o u)
 tbls:∀ b ps,H b=some (.tbl ps)->∃ more,H' b=some (.tbl (ps++more))
section
variable {fs ex:List Addr} {H H1:Hp} {h h1 h':Heap} {a x e:Addr} {o:HO}
theorem Un.any (u:Un fs ex H H1 h h1) {b:Addr} {ob:Obj} (q:h.get? b=some ob) (n:H b=none) (hx:b ∉ ex):∃ sl,h1.get? b=some { ob with slots:=sl }:=by
 by_cases hb:b∈fs
 ·exact u.slot b ob q n hb hx
 ·exact ⟨ob.slots,u.keep b ob q n hb hx⟩
theorem Un.kept (k:∀ b u,h.get? b=some u->h'.get? b=some u):Un fs ex H H h h' :=
 ⟨λb ob q _ _ _=>k b ob q,λb ob q _ _ _=>⟨ob.slots,k b ob q⟩,λ_ _ _ n _=>n,λb ob q _=>⟨ob,k b ob q⟩,λ_ _ q=>q,λ_ _ _ q=>q,λ_ ps q=>⟨#[],by rw [q];simp⟩⟩
theorem Un.refl:Un fs ex H H h h:=Un.kept λ_ _ q=>q
theorem Un.laid (k:∀ b u,h.get? b=some u->h'.get? b=some u) (hp:h.objs.size≤a) (hn:H a=none):Un fs ex H (upd H a o) h h' where
 keep:=λb u q _ _ _=>k b u q
 slot:=λb u q _ _ _=>⟨u.slots,k b u q⟩
 free:=λb u q n _=>by rw [zaC (Nat.ne_of_lt (Nat.lt_of_lt_of_le (Heap.lt_size q) hp))];exact n
 there:=λb u q _=>⟨u,k b u q⟩
 tups:=λb xs q=>by rw [zaC (zbj q hn)];exact q
 frzs:=λb u xs q=>by rw [zaC (zbj q hn)];exact q
 tbls:=λb ps q=>⟨#[],by rw [zaC (zbj q hn),q];simp⟩
theorem Un.write (mu:Mut (H x)) (he:e=x∨H e=some (.own x)) (k:∀ b u,b≠e->h.get? b=some u->h'.get? b=some u) (heo:∃ u,h'.get? e=some u):Un fs ex H (upd H x o) h h':=by
 have hx:∀ b,H b=none->b≠x:=λb n z=>by subst z;rw [n] at mu;exact mu
 have hb:∀ b,H b=none->b≠e:=λb n z=>by
  subst z
  rcases he with r | r
  ·exact hx b n r
  ·rw [n] at r;cases r
 have hm:∀ b u,H b=some u->¬ Mut (some u)->b≠x:=λb u q nm z=>by subst z;rw [q] at mu;exact nm mu
 refine ⟨λb u q n _ _=>k b u (hb b n) q,λb u q n _ _=>⟨u.slots,k b u (hb b n) q⟩,λb u q n _=>by rw [zaC (hx b n)];exact n,λb u q _=>?_,
  λb xs q=>by rw [zaC (hm b _ q λz=>z)];exact q,λb u xs q=>by rw [zaC (hm b _ q λz=>z)];exact q,λb ps q=>⟨#[],by rw [zaC (hm b _ q λz=>z),q];simp⟩⟩
 by_cases hbe:b=e
 ·subst hbe;exact heo
 ·exact ⟨u,k b u hbe q⟩
end
def trk (h:Heap) (H:Hp):List Addr:=(List.range h.objs.size).filter λa=>(H a).isSome
def zqe (h:Heap) (H:Hp):Heap:=W.hideAll h (trk h H)
theorem zog (h:Heap) (H:Hp):(zqe h H).objs.size=h.objs.size:=W.hideAll_size _ _
theorem zpP {h:Heap} {H:Hp} {b:Addr} {o:Obj} (e:h.get? b=some o) (n:H b=none):(zqe h H).get? b=some o :=
 W.hideAll_get _ e λhm=>by
  have q:(H b).isSome=true:=(List.mem_filter.mp hm).2
  rw [n] at q;simp at q
theorem zrU {h:Heap} {H:Hp} {b:Addr} {o:Obj} (e:(zqe h H).get? b=some o):h.get? b=some o∧H b=none:=by
 have e':h.get? b=some o:=W.of_hideAll (trk h H) e
 refine ⟨e',?_⟩
 cases q:H b with
 | none=>rfl
 | some x =>
  have hm:b∈trk h H:=List.mem_filter.mpr ⟨List.mem_range.mpr (Heap.lt_size e'),by simp [q]⟩
  have z:(zqe h H).get? b=none:=W.hideAll_none (trk h H) hm
  rw [z] at e;cases e
def zrS (g h:Heap) (L:Addr):List ↥3:=(List.range h.objs.size).filterMap λa=>if a=L∨(g.get? a).isSome=true then none else (h.get? a).map λo=>(a,o)
def rest (g h:Heap) (L d:Addr):List ↥3:=(zrS g h L).filter λp=>decide (p.1≠d)
structure Mod (K:W.Frag) (mg:Str->Option Value) (base:Heap):Prop where
 kin:K.In base
 glob:base.Ns mainGlobals mg
 blt:∃ mb,base.Ns builtinsNs mb∧∀ x:Str,x≠"__name__"->mb x=bootBuiltins x
 nolimit:base.NoLimit
structure Cx where
 prog:Program
 w:World
 K:W.Frag
 mg:Str->Option Value
 base:Heap
 A:Around
 N:List Str
 s₀:Shared
 H₀:Hp
 env:Env
 outer:List Env
 stack:List Env
 ex:List Addr
 fn:Str->Bool
 calm:Bool
 pn:List ↥3
 xe:Value->Shared->Prop
def frs (l:List Env):List Addr:=l.filterMap (·.frame)
abbrev Cx.fs (X:Cx):List Addr:=frs X.outer
def Vis (sc:Scope) (x:Str):Prop:=sc.names.lookup x=some .local∨sc.names.lookup x=some .cell∨sc.names.lookup x=some .free
def Loc (sc:Scope) (x:Str):Prop:=sc.names.lookup x=some .local∨sc.names.lookup x=some .cell
def zwi (env:Env) (h:Heap) (m:Str->Option Value) (x:Str) (u:Value):Prop :=
 (env.kindOf x=some .local∧m x=some u)∨((env.kindOf x=some .cell∨env.kindOf x=some .free)∧∃ c,env.cells.lookup x=some c∧h.IsCell c (some u))
structure Cx.Ok (X:Cx):Prop where
 mod:Mod X.K X.mg X.base
 kind:X.env.scope.kind=.function
 glob:X.env.globals=mainGlobals
 blt:X.env.builtins=builtinsNs
 above:X.s₀.heap.objs.size≤X.env.locals
 inj:∀ x y c,X.env.cells.lookup x=some c->X.env.cells.lookup y=some c->x=y
 has:∀ x,(X.env.kindOf x=some .cell∨X.env.kindOf x=some .free)->∃ c,X.env.cells.lookup x=some c
 cab:∀ x c,X.fn x=true->X.env.cells.lookup x=some c->X.s₀.heap.objs.size≤c
 hd:X.calm=true->X.A.handled=none
 frames:X.A.frames=some X.stack
 stk:X.stack=X.outer∨(X.stack=X.env :: X.outer∧X.env.frame=some X.env.locals)
 exf:∀ b∈X.ex,b≠X.env.locals∧∀ x c,X.env.cells.lookup x=some c->c≠b
 bs:∀ b o,X.base.get? b=some o->X.s₀.heap.get? b=some o∧X.H₀ b=none
 bsz:X.base.objs.size≤X.s₀.heap.objs.size
 noex:∀ b o,X.base.get? b=some o->b ∉ X.ex
 exfs:∀ b∈X.ex,b ∉ X.fs
 funs:X.s₀.heap.FunFrames X.base X.outer
 frf:∀ b∈X.fs,X.H₀ b=none
structure Inv (X:Cx) (pins:List ↥3) (σ:List (Option V)) (H:Hp) (s:Shared):Prop where
 ok:X.Ok
 os:s.os=X.s₀.os
 bare:AllBare s.gens
 base:Un X.fs X.ex X.H₀ H X.s₀.heap s.heap
 loc:∃ m,s.heap.Ns X.env.locals m∧∀ (i:Nat) (x:Str) (v:V),X.N[i]?=some x->σ[i]?=some (some v)->Vis X.env.scope x->∃ u,RelV v u∧zwi X.env s.heap m x u
 cell:∀ x c,X.env.cells.lookup x=some c->∃ v,s.heap.IsCell c v
 free:H X.env.locals=none
 freeC:∀ x c,X.env.cells.lookup x=some c->H c=none
 pin:∀ p∈X.pn++pins,s.heap.get? p.1=some p.2∧H p.1=none∧p.1≠X.env.locals∧p.1 ∉ X.fs∧∀ v,p.2.data≠.cell v
 hok:HOk X.prog X.w H s.heap
 len:σ.length=X.N.length
section
variable {X:Cx} {pins:List ↥3} {σ:List (Option V)} {H H':Hp} {s:Shared} {h':Heap}
theorem Cx.Ok.nofr (ok:X.Ok) {b:Addr} {o:Obj} (e:X.base.get? b=some o):b ∉ X.fs:=λhb=>by
 have:=(ok.funs.mem hb).1
 rw [e] at this;cases this
theorem Inv.bs (I:Inv X pins σ H s):∀ b o,X.base.get? b=some o->s.heap.get? b=some o∧H b=none:=λb o e =>
 ⟨I.base.keep b o ((I.ok.bs b o e)).1 ((I.ok.bs b o e)).2 (I.ok.nofr e) (I.ok.noex b o e),I.base.free b o ((I.ok.bs b o e)).1 ((I.ok.bs b o e)).2 (I.ok.noex b o e)⟩
theorem Inv.bk (I:Inv X pins σ H s):∀ b o,X.base.get? b=some o->s.heap.get? b=some o:=λb o e=>(I.bs b o e).1
theorem Inv.mod (I:Inv X pins σ H s):Mod X.K X.mg X.base:=I.ok.mod
theorem Inv.kIn (I:Inv X pins σ H s):X.K.In s.heap:=I.ok.mod.kin.keeps I.bk
theorem Inv.nolimit (I:Inv X pins σ H s):s.heap.NoLimit:=I.ok.mod.nolimit.keeps I.bk
theorem Inv.fr (I:Inv X pins σ H s):∃ m,Fr X.base X.env.locals s.heap m :=
 let ⟨m,hn,_⟩:=I.loc
 ⟨m,hn,I.bk,⇑6 I.ok.bsz I.ok.above⟩
theorem Inv.lt (I:Inv X pins σ H s):X.env.locals<s.heap.objs.size:=let ⟨_,hn,_⟩:=I.loc;hn.lt
theorem Inv.sz (I:Inv X pins σ H s):X.s₀.heap.objs.size≤s.heap.objs.size:=⇑6 I.ok.above (Nat.le_of_lt I.lt)
theorem Inv.nofs (I:Inv X pins σ H s) {a:Addr} (h:⇑2≤a):a ∉ X.fs:=λhb=>by
 obtain ⟨_,o,ho,_⟩:=I.ok.funs.mem hb
 exact absurd (Nat.lt_of_lt_of_le (Heap.lt_size ho) (⇑6 I.sz h)) ↑158
theorem Inv.cne (I:Inv X pins σ H s):∀ x c,X.env.cells.lookup x=some c->c≠X.env.locals:=λx c e z=>by
 obtain ⟨v,o,ho,hd⟩:=I.cell x c e
 obtain ⟨m,⟨o',es,ep,ho',hd',_⟩,_⟩:=I.loc
 rw [z,ho'] at ho;cases ho;rw [hd'] at hd;cases hd
theorem Inv.funs (I:Inv X pins σ H s):s.heap.FunFrames X.base X.outer:=by
 have all:∀ (l:List Env),(∀ b∈frs l,b∈X.fs)->X.s₀.heap.FunFrames X.base l->s.heap.FunFrames X.base l:=by
  intro l
  induction l with
  | nil=>intro _ _;trivial
  | cons env r ih =>
   intro hs hl
   obtain ⟨hk,⟨L,o,hf,hn,ho,hd⟩,hr⟩:=hl
   have hL:L∈X.fs:=hs L (by unfold frs;rw [List.filterMap_cons,hf];exact ↑3)
   obtain ⟨sl,e⟩:=I.base.slot L o ho (I.ok.frf L hL) hL λz=>I.ok.exfs L z hL
   exact ⟨hk,⟨L,_,hf,hn,e,hd⟩,ih (λb hb=>hs b (by unfold frs;rw [List.filterMap_cons,hf];exact ⇑3 _ hb)) hr⟩
 exact all X.outer (λ_ hb=>hb) I.ok.funs
theorem Inv.stack (I:Inv X pins σ H s):s.heap.FunFrames X.base X.stack:=by
 rcases I.ok.stk with e | ⟨e,hf⟩
 ·rw [e];exact I.funs
 ·rw [e]
  obtain ⟨m,hn,_⟩:=I.loc
  refine .cons (by rw [I.ok.kind];decide) hf hn ?_ I.funs
  exact Heap.get?_none_of_le (⇑6 I.ok.bsz I.ok.above)
theorem Inv.stkSub (I:Inv X pins σ H s):∀ b∈frs X.stack,b∈X.env.locals :: X.fs:=λb hb=>by
 rcases I.ok.stk with e | ⟨e,hf⟩
 ·rw [e] at hb;exact ⇑3 _ hb
 ·rw [e] at hb
  unfold frs at hb
  rw [List.filterMap_cons,hf] at hb
  exact hb
theorem Inv.stkFree (I:Inv X pins σ H s):∀ b∈frs X.stack,H b=none:=λb hb=>by
 rcases List.mem_cons.mp (I.stkSub b hb) with e | hb
 ·rw [e];exact I.free
 ·obtain ⟨_,o,ho,_⟩:=I.ok.funs.mem hb
  exact I.base.free b o ho (I.ok.frf b hb) λz=>I.ok.exfs b z hb
theorem Inv.step {g':Array GenState} {t':Nat} {d':Drawn} {ch:List Addr} (I:Inv X pins σ H s)
  (hch:∀ b∈ch,↑263∧b≠X.env.locals∧↑261∧∀ p∈X.pn++pins,p.1≠b)
  (keep:∀ b o,b≠X.env.locals->b ∉ X.fs->b ∉ ch->s.heap.get? b=some o->H b=none->h'.get? b=some o)
  (slot:∀ b o,b≠X.env.locals->b∈X.fs->b ∉ ch->s.heap.get? b=some o->H b=none->∃ sl,h'.get? b=some { o with slots:=sl }) (free:∀ b o,b ∉ ch->s.heap.get? b=some o->H b=none->H' b=none)
  (there:∀ b o,b ∉ ch->s.heap.get? b=some o->∃ o',h'.get? b=some o')
  (tups:∀ b xs,H b=some (.tup xs)->H' b=some (.tup xs)) (frzs:∀ b o u,H b=some (.frz o u)->H' b=some (.frz o u)) (tbls:∀ b ps,H b=some (.tbl ps)->∃ more,H' b=some (.tbl (ps++more)))
  (ns:∀ m,s.heap.Ns X.env.locals m->h'.Ns X.env.locals m) (hok:HOk X.prog X.w H' h') (hg:AllBare g') :
  Inv X pins σ H' { s with heap:=h',gens:=g',drawn:=d',toks:=t' }:=by
 have neL:∀ b o,X.s₀.heap.get? b=some o->b≠X.env.locals:=λb o e=>Nat.ne_of_lt ↑225
 have neC:∀ b o,X.s₀.heap.get? b=some o->b ∉ X.ex->b ∉ ch:=λb o e hx hb=>by
  rcases (hch b hb).1 with z | z
  ·exact hx z
  ·exact absurd (Nat.lt_of_lt_of_le ↑119 z) ↑158
 have cellK:∀ x c,X.env.cells.lookup x=some c->∀ v,s.heap.IsCell c v->h'.IsCell c v:=λx c e v ⟨o,ho,hd⟩=>by
  have nch:c ∉ ch:=λz=>(hch c z).2.2.1 x c e rfl
  by_cases hc:c∈X.fs
  ·obtain ⟨sl,q⟩:=slot c o (I.cne x c e) hc nch ho (I.freeC x c e)
   exact ⟨_,q,hd⟩
  ·exact ⟨o,keep c o (I.cne x c e) hc nch ho (I.freeC x c e),hd⟩
 refine ⟨I.ok,I.os,hg,⟨λb o e n hb hx=>?_,λb o e n hb hx=>?_,λb o e n hx=>?_,λb o e hx=>?_,λb xs e=>tups b xs (I.base.tups b xs e),λb o xs e=>frzs b o xs (I.base.frzs b o xs e),λb ps e=>?_⟩,?_,λx c e=>?_,?_,λx c e=>?_,λp hp=>?_,hok,I.len⟩
 ·exact keep b o (neL b o e) hb (neC b o e hx) (I.base.keep b o e n hb hx) (I.base.free b o e n hx)
 ·obtain ⟨sl,e1⟩:=I.base.slot b o e n hb hx
  obtain ⟨sl',e2⟩:=slot b _ (neL b o e) hb (neC b o e hx) e1 (I.base.free b o e n hx)
  exact ⟨sl',e2⟩
 ·obtain ⟨o',e1⟩:=I.base.there b o e hx
  exact free b o' (neC b o e hx) e1 (I.base.free b o e n hx)
 ·obtain ⟨o',e1⟩:=I.base.there b o e hx
  exact there b o' (neC b o e hx) e1
 ·obtain ⟨m1,e1⟩:=I.base.tbls b ps e
  obtain ⟨m2,e2⟩:=tbls b _ e1
  exact ⟨m1++m2,by rw [e2,Array.append_assoc]⟩
 ·obtain ⟨m,hn,hl⟩:=I.loc
  refine ⟨m,ns m hn,λi x v e1 e2 e3=>?_⟩
  obtain ⟨u,r,l⟩:=hl i x v e1 e2 e3
  refine ⟨u,r,?_⟩
  rcases l with l | ⟨k,c,e,z⟩
  ·exact .inl l
  ·exact .inr ⟨k,c,e,cellK x c e _ z⟩
 ·obtain ⟨v,z⟩:=I.cell x c e
  exact ⟨v,cellK x c e v z⟩
 ·obtain ⟨m,⟨o,_,_,ho,_⟩,_⟩:=I.loc
  exact free _ o (λz=>(hch _ z).2.1 rfl) ho I.free
 ·obtain ⟨v,o,ho,hd⟩:=I.cell x c e
  exact free c o (λz=>(hch c z).2.2.1 x c e rfl) ho (I.freeC x c e)
 ·obtain ⟨e,n,ne,nf,d⟩:=I.pin p hp
  have nch:p.1 ∉ ch:=λz=>(hch p.1 z).2.2.2 p hp rfl
  exact ⟨keep p.1 p.2 ne nf nch e n,free p.1 p.2 nch e n,ne,nf,d⟩
theorem Inv.un {t':Nat} (I:Inv X pins σ H s) (u:Un X.fs [] H H' s.heap h') (hok:HOk X.prog X.w H' h'):Inv X pins σ H' { s with heap:=h',toks:=t' }:=by
 obtain ⟨m,⟨o,es,ep,ho,r⟩,_⟩:=id I.loc
 obtain ⟨sl,hL⟩:=u.any ho I.free ↥9
 exact I.step (g':=s.gens) (d':=s.drawn) (ch:=[]) (λ_ z=>nomatch z) (λb o _ hb _ e n=>u.keep b o e n hb ↥9) (λb o _ hb _ e n=>u.slot b o e n hb ↥9) (λb o _ e n=>u.free b o e n ↥9) (λb o _ e=>u.there b o e ↥9) u.tups u.frzs u.tbls (λm' hm=>by
  obtain ⟨o',es',ep',ho',r'⟩:=hm
  rw [ho] at ho';cases ho'
  exact ⟨_,es',ep',hL,r'⟩) hok I.bare
theorem Inv.call {g':Array GenState} {t':Nat} {d':Drawn} {ch:List Addr} (I:Inv X pins σ H s) (u:Un (frs X.stack) ch H H' s.heap h') (hok:HOk X.prog X.w H' h') (hg:AllBare g')
  (hch:∀ b∈ch,↑263∧b≠X.env.locals∧↑261∧∀ p∈X.pn++pins,p.1≠b) :
  Inv X pins σ H' { s with heap:=h',gens:=g',drawn:=d',toks:=t' }:=by
 obtain ⟨m,⟨o,es,ep,ho,r⟩,_⟩:=id I.loc
 obtain ⟨sl,hL⟩:=u.any ho I.free λz=>(hch _ z).2.1 rfl
 exact I.step (ch:=ch) hch (λb o hL hb hc e n=>u.keep b o e n (λz=>(List.mem_cons.mp (I.stkSub b z)).elim hL hb) hc) (λb o _ _ hc e n=>u.any e n hc) (λb o hc e n=>u.free b o e n hc) (λb o hc e=>u.there b o e hc) u.tups u.frzs u.tbls (λm' hm=>by
  obtain ⟨o',es',ep',ho',r'⟩:=hm
  rw [ho] at ho';cases ho'
  exact ⟨_,es',ep',hL,r'⟩) hok hg
theorem Inv.turned {t':Nat} {it:Addr} (I:Inv X pins σ H s) (k:∀ b o,b≠it->s.heap.get? b=some o->h'.get? b=some o) (hn:H it=none) (hL:it≠X.env.locals)
  (h1:it∈X.ex∨X.s₀.heap.objs.size≤it) (h2:∀ x c,X.env.cells.lookup x=some c->c≠it) (h3:∀ p∈X.pn++pins,p.1≠it):Inv X pins σ H { s with heap:=h',toks:=t' }:=by
 have nit:∀ b u,H b=some u->b≠it:=λb u e z=>by rw [z,hn] at e;cases e
 refine I.step (g':=s.gens) (d':=s.drawn) (ch:=[it]) (λb hb=>?_) (λb o _ _ hc e _=>k b o (λz=>hc (by simp [z])) e) (λb o _ _ hc e _=>⟨o.slots,k b o (λz=>hc (by simp [z])) e⟩) (λ_ _ _ _ n=>n)
  (λb o hc e=>⟨o,k b o (λz=>hc (by simp [z])) e⟩) (λ_ _ e=>e) (λ_ _ _ e=>e) (λb ps e=>⟨#[],by rw [e];simp⟩) (λm hm=>?_) (λb u e=>?_) I.bare
 ·have e:b=it:=by simpa using hb
  subst e
  exact ⟨h1,hL,h2,h3⟩
 ·obtain ⟨o,es,ep,ho,r⟩:=hm
  exact ⟨o,es,ep,k _ o (Ne.symm hL) ho,r⟩
 ·refine (I.hok b u e).stay (λc v hc q=>k c v ?_ q) (λ_ q=>q) λ_ _ q=>q
  rcases hc with z | z
  ·rw [z];exact nit b u e
  ·exact nit c _ z
theorem Inv.tok (I:Inv X pins σ H s) (t:Nat):Inv X pins σ H { s with toks:=t }:=I.un (h':=s.heap) (t':=t) Un.refl I.hok
theorem Inv.kept {t':Nat} (I:Inv X pins σ H s) (k:∀ b u,s.heap.get? b=some u->h'.get? b=some u):Inv X pins σ H { s with heap:=h',toks:=t' }:=I.un (Un.kept k) (I.hok.kept k)
theorem Inv.laid {a:Addr} {o:HO} {t':Nat} (I:Inv X pins σ H s) (k:∀ b u,s.heap.get? b=some u->h'.get? b=some u) (hp:⇑2≤a) (new:zen X.prog X.w (upd H a o) h' a o) :
  Inv X pins σ (upd H a o) { s with heap:=h',toks:=t' }:=I.un (Un.laid k hp (I.hok.fresh hp)) (I.hok.laid k hp new)
theorem Inv.write {x e:Addr} {o:HO} {t':Nat} (I:Inv X pins σ H s) (mu:Mut (H x)) (he:e=x∨H e=some (.own x)) (k:∀ b u,b≠e->s.heap.get? b=some u->h'.get? b=some u) (heo:∃ u,h'.get? e=some u)
  (new:zen X.prog X.w (upd H x o) h' x o):Inv X pins σ (upd H x o) { s with heap:=h',toks:=t' }:=I.un (Un.write mu he k heo) (I.hok.write mu he k heo new)
theorem Inv.pins_of {pins':List ↥3} (I:Inv X pins σ H s) (h:∀ p∈pins',s.heap.get? p.1=some p.2∧H p.1=none∧p.1≠X.env.locals∧p.1 ∉ X.fs∧∀ v,p.2.data≠.cell v):Inv X pins' σ H s :=
 ⟨I.ok,I.os,I.bare,I.base,I.loc,I.cell,I.free,I.freeC,λp hp=>(List.mem_append.mp hp).elim (λz=>I.pin p (List.mem_append_left _ z)) (h p),I.hok,I.len⟩
theorem zml {N:List Str} (hN:N.Nodup) {i j:Nat} {x:Str} (a:N[i]?=some x) (b:N[j]?=some x):i=j:=by
 obtain ⟨h1,e1⟩:=List.getElem?_eq_some_iff.mp a
 obtain ⟨h2,e2⟩:=List.getElem?_eq_some_iff.mp b
 exact (List.getElem_inj hN).mp (e1.trans e2.symm)
theorem zkC {M:Model} {A:Around} {E:Value->Shared->Prop} {i:Nat} {x:Str} {v:V} {u:Value} {Q:Unit->Shared->Prop} (I:Inv X pins σ H s) (hN:X.N.Nodup) (hi:X.N[i]?=some x) (hx:Loc X.env.scope x) (r:RelV v u)
  (h:∀ s',Inv X pins (σ.set i (some v)) H s'->(∃ a,Heap.SameBut a s.heap s'.heap∧(a=X.env.locals∨X.env.cells.lookup x=some a))->Q () s') (hf:X.fn x=true∨X.env.scope.names.lookup x=some .local:=by first | exact .inl rfl | exact .inr rfl | assumption):wpAny M A (storeName X.env x u) Q E s:=by
 obtain ⟨m,hn,hl⟩:=id I.loc
 have hcls:(X.env.scope.kind == .class||(X.env.scope.kind == .module&&X.env.locals != X.env.globals))=false:=by rw [I.ok.kind];rfl
 have hiσ:i<σ.length:=by rw [I.len];exact ((List.getElem?_eq_some_iff.mp hi)).1
 have cne:=I.cne
 have tracked:∀ {a:Addr} {h':Heap},(∃ o,s.heap.get? a=some o∧H a=none)->Heap.SameBut a s.heap h'->HOk X.prog X.w H h':=λ{a h'} ha hs b ob e=>by
  obtain ⟨_,_,hfree⟩:=ha
  refine (I.hok b ob e).stay (λc w' hc q=>(hs.2 c ?_).trans q) (λ_ q=>q) λ_ _ q=>q
  rintro rfl
  rcases hc with rfl | hc
  ·rw [hfree] at e;cases e
  ·rw [hfree] at hc;cases hc
 rcases hx with hk | hk
 ·refine wpAny_storeName_local hk hn (λh' hn' hs=>?_) hcls
  obtain ⟨oL,_,_,hoL,_⟩:=id hn
  refine h _ ⟨I.ok,I.os,I.bare,⟨λb o e n hb hx=>?_,λb o e n hb hx=>?_,I.base.free,λb o e hx=>?_,I.base.tups,I.base.frzs,I.base.tbls⟩,⟨_,hn',λj y v' e1 e2 e3=>?_⟩,λy c e=>?_,I.free,I.freeC,λp hp=>?_,tracked ⟨oL,hoL,I.free⟩ hs,by simpa using I.len⟩ ⟨_,hs,.inl rfl⟩
  ·exact ((hs.2 b (Nat.ne_of_lt ↑225))).trans (I.base.keep b o e n hb hx)
  ·obtain ⟨sl,e1⟩:=I.base.slot b o e n hb hx
   exact ⟨sl,((hs.2 b (Nat.ne_of_lt ↑225))).trans e1⟩
  ·obtain ⟨o',e1⟩:=I.base.there b o e hx
   exact ⟨o',((hs.2 b (Nat.ne_of_lt ↑225))).trans e1⟩
  ·by_cases hj:j=i
   ·subst hj
    rw [hi] at e1;cases e1
    rw [List.getElem?_set_self hiσ] at e2
    cases e2
    exact ⟨u,r,.inl ⟨hk,by simp⟩⟩
   ·rw [List.getElem?_set_ne (Ne.symm hj)] at e2
    obtain ⟨u',r',q⟩:=hl j y v' e1 e2 e3
    refine ⟨u',r',?_⟩
    rcases q with ⟨k,e⟩ | ⟨k,c,e,z⟩
    ·refine .inl ⟨k,?_⟩
     have:y≠x:=λe=>hj (zml hN e1 (e ▸ hi))
     simp [this,e]
    ·exact .inr ⟨k,c,e,z.sameBut hs (cne y c e)⟩
  ·obtain ⟨w',z⟩:=I.cell y c e
   exact ⟨w',z.sameBut hs (cne y c e)⟩
  ·obtain ⟨e,n,ne,nf,d⟩:=I.pin p hp
   exact ⟨(hs.2 p.1 ne).trans e,n,ne,nf,d⟩
 ·have hfn:X.fn x=true:=by
   rcases hf with z | z
   ·exact z
   ·rw [z] at hk;cases hk
  obtain ⟨c,hc⟩:=I.ok.has x (.inl hk)
  obtain ⟨w',z⟩:=I.cell x c hc
  refine wpAny_storeName_cell I.ok.kind hk hc z (λh' hc' hs=>?_)
  obtain ⟨oc,hoc,hocd⟩:=id z
  refine h { s with heap:=h' } ⟨I.ok,I.os,I.bare,⟨λb o e n hb hx=>?_,λb o e n hb hx=>?_,I.base.free,λb o e hx=>?_,I.base.tups,I.base.frzs,I.base.tbls⟩,⟨m,hn.sameBut hs (Ne.symm (cne x c hc)),λj y v' e1 e2 e3=>?_⟩,λy c' e=>?_,I.free,I.freeC,λp hp=>?_,tracked ⟨oc,hoc,I.freeC x c hc⟩ hs,by simpa using I.len⟩ ⟨c,hs,.inr hc⟩
  ·exact (↑273).trans (I.base.keep b o e n hb hx)
  ·obtain ⟨sl,e1⟩:=I.base.slot b o e n hb hx
   exact ⟨sl,(↑273).trans e1⟩
  ·obtain ⟨o',e1⟩:=I.base.there b o e hx
   exact ⟨o',(↑273).trans e1⟩
  ·by_cases hj:j=i
   ·subst hj
    rw [hi] at e1;cases e1
    rw [List.getElem?_set_self hiσ] at e2
    cases e2
    exact ⟨u,r,.inr ⟨.inl hk,c,hc,hc'⟩⟩
   ·rw [List.getElem?_set_ne (Ne.symm hj)] at e2
    obtain ⟨u',r',q⟩:=hl j y v' e1 e2 e3
    refine ⟨u',r',?_⟩
    rcases q with q | ⟨k,c',e,z'⟩
    ·exact .inl q
    ·refine .inr ⟨k,c',e,z'.sameBut hs ?_⟩
     rintro rfl
     exact hj (zml hN e1 (I.ok.inj _ _ _ e hc ▸ hi))
  ·by_cases hcc:c'=c
   ·subst hcc;exact ⟨_,hc'⟩
   ·obtain ⟨w2,z2⟩:=I.cell y c' e
    exact ⟨w2,z2.sameBut hs hcc⟩
  ·obtain ⟨e,n,ne,nf,d⟩:=I.pin p hp
   refine ⟨(hs.2 p.1 ?_).trans e,n,ne,nf,d⟩
   intro q
   rw [q,hoc] at e
   have q':oc=p.2:=Option.some.inj e
   exact d w' (by rw [← q'];exact hocd)
theorem zhE {M:Model} {A:Around} {E:Value->Shared->Prop} {i:Nat} {x:Str} {v:V} {u:Value} {Q:Unit->Shared->Prop} (I:Inv X pins σ H s) (hN:X.N.Nodup) (hi:X.N[i]?=some x) (hx:Loc X.env.scope x) (r:RelV v u)
  (h:∀ s',Inv X pins (σ.set i (some v)) H s'->Q () s') (hf:X.fn x=true∨X.env.scope.names.lookup x=some .local:=by first | exact .inl rfl | exact .inr rfl | assumption):wpAny M A (storeName X.env x u) Q E s :=
 zkC I hN hi hx r (λs' I' _=>h s' I') hf
theorem Inv.call' {s':Shared} {ch:List Addr} (I:Inv X pins σ H s) (ho:s'.os=s.os) (u:Un (frs X.stack) ch H H' s.heap s'.heap) (hok:HOk X.prog X.w H' s'.heap) (hg:AllBare s'.gens)
  (hch:∀ b∈ch,↑263∧b≠X.env.locals∧↑261∧∀ p∈X.pn++pins,p.1≠b):Inv X pins σ H' s':=by
 obtain ⟨h',g',d',t',o'⟩:=s'
 have e:o'=s.os:=ho
 subst e
 exact I.call (g':=g') (t':=t') (d':=d') u hok hg hch
end
abbrev XK:=Value->Option Addr->Hp->Prop
abbrev St:=List (Option V)
abbrev VK:=V->Hp->Prop
abbrev TE:=St->Hp->VK->Prop
abbrev TT:=St->Hp->(Bool->Hp->Prop)->Prop
abbrev TA:=St->Hp->(List V->Hp->Prop)->Prop
structure Ends where
 nx:St->Hp->Prop
 rt:VK
 bk:St->Hp->Prop:=λ_ _=>False
 ct:St->Hp->Prop:=λ_ _=>False
abbrev TS:=Ends->St->Hp->Prop
def EP (X:Cx) (pins:List ↥3) (σ:St) (Q:VK) (u:Value) (s':Shared):Prop:=∃ v H',Inv X pins σ H' s'∧RelV v u∧Q v H'
def TP (X:Cx) (pins:List ↥3) (σ:St) (Q:Bool->Hp->Prop) (b:Bool) (s':Shared):Prop:=∃ H',Inv X pins σ H' s'∧Q b H'
def AP (X:Cx) (pins:List ↥3) (σ:St) (Q:List V->Hp->Prop) (us:List Value) (s':Shared):Prop:=∃ vs H',Inv X pins σ H' s'∧zcg vs us∧Q vs H'
def SP (X:Cx) (pins:List ↥3) (D:Ends) (f:Flow) (s':Shared):Prop :=
 match f with
 | .next=>∃ σ' H',Inv X pins σ' H' s'∧D.nx σ' H'
 | .brk=>∃ σ' H',Inv X pins σ' H' s'∧D.bk σ' H'
 | .cont=>∃ σ' H',Inv X pins σ' H' s'∧D.ct σ' H'
 | .ret u=>∃ v σ' H',Inv X pins σ' H' s'∧RelV v u∧D.rt v H'
def PE (X:Cx) (e:Expr) (t:TE):Prop :=
 ∀ (pins:List ↥3) (s:Shared) (σ:St) (H:Hp) (Q:VK),Inv X pins σ H s->t σ H Q->wpAny ↑5 X.A (eval e X.env) ↑86 X.xe s
def PT (X:Cx) (e:Expr) (t:TT):Prop :=
 ∀ (pins:List ↥3) (s:Shared) (σ:St) (H:Hp) (Q:Bool->Hp->Prop),Inv X pins σ H s->t σ H Q->wpAny ↑5 X.A (isTrue e X.env (eval e X.env)) (TP X pins σ Q) X.xe s
def PW (X:Cx) (e:Expr) (t:TT):Prop :=
 ∀ (whole:Sem Value) (pins:List ↥3) (s:Shared) (σ:St) (H:Hp) (Q:Bool->Hp->Prop),Inv X pins σ H s->t σ H Q->wpAny ↑5 X.A (isTrue e X.env whole) (TP X pins σ Q) X.xe s
theorem PW.pt {X:Cx} {e:Expr} {t:TT} (h:PW X e t):PT X e t:=h _
def PA (X:Cx) (es:List Expr) (t:TA):Prop :=
 ∀ (pos:Pos) (pins:List ↥3) (s:Shared) (σ:St) (H:Hp) (Q:List V->Hp->Prop),Inv X pins σ H s->t σ H Q->wpAny ↑5 X.A (spliced ↑148) (AP X pins σ Q) X.xe s
def PS (X:Cx) (st:Stmt) (t:TS):Prop :=
 ∀ (pins:List ↥3) (s:Shared) (σ:St) (H:Hp) (D:Ends),Inv X pins σ H s->t D σ H->wpAny ↑5 X.A (exec st X.env) (SP X pins D) X.xe s
def PSs (X:Cx) (st:List Stmt) (t:TS):Prop :=
 ∀ (pins:List ↥3) (s:Shared) (σ:St) (H:Hp) (D:Ends),Inv X pins σ H s->t D σ H->wpAny ↑5 X.A (execs st X.env) (SP X pins D) X.xe s
theorem thn {α:Type} {t:Sem α} {Q Q':α->Shared->Prop} {M:Model} {A:Around} {E:Value->Shared->Prop} {s:Shared} (h:wpAny M A t Q E s) (hQ:∀ a s,Q a s->Q' a s):wpAny M A t Q' E s:=wpAny_mono h hQ λ_ _ x=>x
section
variable {X:Cx}
theorem bin {a b:Expr} {ta tb:TE} (ha:PE X a ta) (hb:PE X b tb) {pins:List ↥3} {s:Shared} {σ:St} {H:Hp} {R:V->V->Hp->Prop} (I:Inv X pins σ H s) (h:ta σ H λx H1=>tb σ H1 λy H2=>R x y H2)
  {α:Type} {Q:α->Shared->Prop} {f:Value->Value->Sem α}
  (hf:∀ v u s2 x y H2,Inv X pins σ H2 s2->RelV x v->RelV y u->R x y H2->wpAny ↑5 X.A (f v u) Q X.xe s2) :
  wpAny ↑5 X.A (eval a X.env) (λv s₁=>wpAny ↑5 X.A (eval b X.env) (λu s₂=>wpAny ↑5 X.A (f v u) Q X.xe s₂) X.xe s₁) X.xe s:=by
 refine thn ↑135 λv s1 ⟨x,H1,I1,r1,q1⟩=>?_
 refine thn (hb pins s1 σ H1 _ I1 q1) λu s2 ⟨y,H2,I2,r2,q2⟩=>?_
 exact hf v u s2 x y H2 I2 r1 r2 q2
def zjm (i:Nat):TE:=λσ H Q=>∃ v,σ[i]?=some (some v)∧Q v H
def tC (v:V):TE:=λ_ H Q=>Q v H
theorem zt8 {i:Nat} {x:Str} {pos:Pos} (hN:X.N[i]?=some x) (hv:Vis X.env.scope x) (hd:↑100=false:=by decide) (hcd:(x == ("__classdict__":Str))=false:=by decide):PE X (.Name x pos) (zjm i):=by
 intro pins s σ H Q I h
 obtain ⟨v,e,h⟩:=h
 obtain ⟨m,hn,hl⟩:=I.loc
 obtain ⟨u,r,l⟩:=hl i x v hN e hv
 have fin:EP X pins σ Q u s:=⟨v,H,I,r,h⟩
 rcases l with ⟨hk,hm⟩ | ⟨hk,c,hc,hcell⟩
 ·exact wpAny_Name (wpAny_loadName_local I.ok.kind hk hn hm fin) hd
 ·rcases hk with hk | hk
  ·exact wpAny_Name (wpAny_loadName_cell I.ok.kind hk hc hcell fin) hd
  ·exact wpAny_Name (wpAny_loadName_free I.ok.kind hk hc hcell fin hcd) hd
theorem zag {i j pos}:PE X (.Constant (.int i) j pos) (tC (.int i)):=λ_ _ _ H _ I h=>wpAny_Constant_int ⟨.int i,H,I.tok _,⟨_,rfl⟩,h⟩
theorem zfl {b j pos}:PE X (.Constant (.bool b) j pos) (tC (.bl b)):=λ_ _ _ H _ I h=>Constant_bool ⟨.bl b,H,I,rfl,h⟩
theorem zk0 {j pos}:PE X (.Constant .none j pos) (tC .non):=λ_ _ _ H _ I h=>Constant_none ⟨.non,H,I,rfl,h⟩
def Gl (X:Cx) (x:Str):Prop:=X.env.kindOf x=some .globalImplicit
theorem zls {E:Value->Shared->Prop} {pins:List ↥3} {s:Shared} {σ:St} {H:Hp} {x:Str} {u:Value} {pos:Pos} {Q:Value->Shared->Prop} (I:Inv X pins σ H s) (hg:Gl X x) (hm:X.mg x=some u) (h:Q u s)
  (hd:↑100=false:=by decide):wpAny ↑5 X.A (eval (.Name x pos) X.env) Q E s :=
 Calls.Name_function_global I.ok.kind hg (Calls.loadGlobal_global (by rw [I.ok.glob];exact I.mod.glob.keeps I.bk) hm h) hd
theorem zh3 {E:Value->Shared->Prop} {pins:List ↥3} {s:Shared} {σ:St} {H:Hp} {x:Str} {u:Value} {pos:Pos} {Q:Value->Shared->Prop} (I:Inv X pins σ H s) (hg:Gl X x) (hm:X.mg x=none) (hv:bootBuiltins x=some u) (h:Q u s)
  (hn:x≠"__name__":=by decide) (hd:↑100=false:=by decide):wpAny ↑5 X.A (eval (.Name x pos) X.env) Q E s:=by
 obtain ⟨mb,h1,h2⟩:=I.mod.blt
 exact Calls.Name_function_global I.ok.kind hg (Calls.loadGlobal_builtin (by rw [I.ok.glob];exact I.mod.glob.keeps I.bk) hm (by rw [I.ok.blt];exact h1.keeps I.bk) ((h2 x hn).trans hv) h) hd
theorem zoh {x:Str} {v:V} {u:Value} {pos:Pos} (hg:Gl X x) (hm:X.mg x=some u) (r:RelV v u) (hd:↑100=false:=by decide):PE X (.Name x pos) (tC v) :=
 λ_ _ _ H _ I h=>zls I hg hm ⟨v,H,I,r,h⟩ hd
theorem zj9 {x:Str} {v:V} {u:Value} {pos:Pos} (hg:Gl X x) (hm:X.mg x=none) (hv:bootBuiltins x=some u) (r:RelV v u) (hn:x≠"__name__":=by decide) (hd:↑100=false:=by decide):PE X (.Name x pos) (tC v) :=
 λ_ _ _ H _ I h=>zh3 I hg hm hv ⟨v,H,I,r,h⟩ hn hd
variable {a b:Expr} {ta tb:TE} {pos:Pos}
def PC (X:Cx) (op:CmpOp) (a b:Expr) (t:TE):Prop :=
 ∀ (pins:List ↥3) (s:Shared) (σ:St) (H:Hp) (Q:VK),Inv X pins σ H s->t σ H Q →
  wpAny ↑5 X.A (eval a X.env) (λv s₁=>wpAny ↑5 X.A (eval b X.env) (λu s₂=>wpAny ↑5 X.A (compareOp op v u) ↑86 X.xe s₂) X.xe s₁) X.xe s
theorem zpI (b:Expr) {op:CmpOp} (h:op≠.In) (h2:op≠.NotIn):behindInMarks op b=false:=by
 have e1:(op == CmpOp.In)=false:=by cases op<;>first | rfl | exact absurd rfl h
 have e2:(op == CmpOp.NotIn)=false:=by cases op<;>first | rfl | exact absurd rfl h2
 cases b<;>simp [behindInMarks,e1,e2]
def tB (t:TE):TT:=λσ H Q=>t σ H λx H1=>∃ c,x=.bl c∧Q c H1
theorem zv0 {op:CmpOp} {t:TE} (h:PC X op a b t) (h1:behindInMarks op b=false:=by first | exact zpI _ ↥1 ↥1 | rfl):PT X (.Compare a [op] [b] pos) (tB t):=by
 intro pins s σ H Q I hw
 refine wpAny_isTrue_Compare1 (thn (h pins s σ H _ I hw) λv s1 h1=>thn h1 λu s2 h2=>thn h2 λc s3 ⟨x,H1,I1,r1,q1⟩=>?_) h1
 obtain ⟨d,rfl,q⟩:=q1
 cases r1
 exact wpAny_truthy_bool ⟨H1,I1,q⟩
theorem zfD {e:Expr} {t:TE} (h:PE X e t) (he:∀ whole,isTrue e X.env whole=(do let v ← whole;standAt e.pos;holding [v] (truthy v)):=by intro _;rfl):PT X e (tB t):=by
 intro pins s σ H Q I hw
 refine isTrue_plain (thn (h pins s σ H _ I hw) λv s1 ⟨x,H1,I1,r1,q1⟩=>?_) (he _)
 obtain ⟨d,rfl,q⟩:=q1
 cases r1
 exact wpAny_truthy_bool ⟨H1,I1,q⟩
variable {tA tB':TT} {rest:List Expr}
def zwd (t u:TT):TT:=λσ H Q=>t σ H λc H1=>if c=true then u σ H1 Q else Q false H1
def tOr (t u:TT):TT:=λσ H Q=>t σ H λc H1=>if c=true then Q true H1 else u σ H1 Q
def zvU (t:TT):TT:=λσ H Q=>t σ H λc H1=>Q (!c) H1
theorem zgd (ha:PT X a tA):PW X (.BoolOp .And [a] pos) tA:=by
 intro wh pins s σ H Q I h
 refine isTrue_and (thn (ha pins s σ H Q I h) λc s1 e=> ?_)
 cases c with
 | true=>exact isTrue_and_nil e
 | false=>exact e
theorem zhn (ha:PT X a tA):PW X (.BoolOp .Or [a] pos) tA:=by
 intro wh pins s σ H Q I h
 refine isTrue_or (thn (ha pins s σ H Q I h) λc s1 e=> ?_)
 cases c with
 | false=>exact isTrue_or_nil e
 | true=>exact e
theorem zik (ha:PT X a tA) (hb:PW X (.BoolOp .And (b :: rest) pos) tB'):PW X (.BoolOp .And (a :: b :: rest) pos) (zwd tA tB'):=by
 intro wh pins s σ H Q I h
 refine isTrue_and (thn ↑135 λc s1 ⟨H1,I1,q1⟩=>?_)
 cases c with
 | true=>exact hb wh pins s1 σ H1 Q I1 q1
 | false=>exact ⟨H1,I1,q1⟩
theorem zjt (ha:PT X a tA) (hb:PW X (.BoolOp .Or (b :: rest) pos) tB'):PW X (.BoolOp .Or (a :: b :: rest) pos) (tOr tA tB'):=by
 intro wh pins s σ H Q I h
 refine isTrue_or (thn ↑135 λc s1 ⟨H1,I1,q1⟩=>?_)
 cases c with
 | true=>exact ⟨H1,I1,q1⟩
 | false=>exact hb wh pins s1 σ H1 Q I1 q1
theorem zhl (ha:PT X a tA):PT X (.UnaryOp .Not a pos) (zvU tA):=by
 intro pins s σ H Q I h
 exact isTrue_not (ha pins s σ H (λc H1=>Q (!c) H1) I h)
def zub (ta tb:TE):TE:=λσ H Q=>ta σ H λx H1=>∃ c,x=.bl c∧if c=true then tb σ H1 Q else Q (.bl false) H1
def zs4 (ta:TE):TE:=λσ H Q=>ta σ H λx H1=>∃ c,x=.bl c∧Q (.bl (!c)) H1
theorem ztj {op} {t:TE} (h:PE X a t):PE X (.BoolOp op [a] pos) t:=λpins s σ H Q I hw=>BoolOp_one (h pins s σ H Q I hw)
theorem ztt (ha:PE X a ta) (hb:PE X (.BoolOp .And (b :: rest) pos) tb):PE X (.BoolOp .And (a :: b :: rest) pos) (zub ta tb):=by
 intro pins s σ H Q I h
 refine BoolOp_and (thn ↑135 λv s1 ⟨x,H1,I1,r1,q1⟩=> ?_)
 obtain ⟨c,rfl,q1⟩:=q1
 cases r1
 refine wpAny_truthy_bool ?_
 cases c with
 | true=>exact hb pins s1 σ H1 Q I1 q1
 | false=>exact ⟨.bl false,H1,I1,rfl,q1⟩
theorem zs2 (ha:PE X a ta):PE X (.UnaryOp .Not a pos) (zs4 ta):=by
 intro pins s σ H Q I h
 refine UnaryOp_ (thn ↑135 λv s1 ⟨x,H1,I1,r1,q1⟩=> ?_)
 obtain ⟨c,rfl,q1⟩:=q1
 cases r1
 exact not_of (wpAny_truthy_bool ⟨.bl (!c),H1,I1,rfl,q1⟩)
def tIf (t:TT) (ta tb:TE):TE:=λσ H Q=>t σ H λc H1=>if c=true then ta σ H1 Q else tb σ H1 Q
theorem zmh {c:Expr} (hc:PT X c tA) (ha:PE X a ta) (hb:PE X b tb):PE X (.IfExp c a b pos) (tIf tA ta tb):=by
 intro pins s σ H Q I h
 refine wpAny_IfExp (thn (hc pins s σ H _ I h) λd s1 ⟨H1,I1,q1⟩=> ?_)
 cases d with
 | true=>exact ha pins s1 σ H1 Q I1 q1
 | false=>exact hb pins s1 σ H1 Q I1 q1
end
def SqL (K:W.Frag) (H:Hp) (a:Addr) (xs:List V):Prop :=
 Rd H a (.lst xs) ∨
  ∃ (o:Obj) (its:Array Value) (n:Nat),K.lookup a=some o∧o.cls=.type "list"∧o.dict=none∧o.data=.seq its n∧its.size≤sizeLine∧zcg xs its.toList
def SqT (K:W.Frag) (H:Hp) (a:Addr) (xs:List V):Prop :=
 Rd H a (.tup xs) ∨
  ∃ (o:Obj) (its:Array Value) (n:Nat),K.lookup a=some o∧o.cls=.type "tuple"∧o.data=.seq its n∧its.size≤sizeLine∧zcg xs its.toList
def zw2:Value->Option V
 | .none=>some .non
 | .bool b=>some (.bl b)
 | .int i _=>some (.int i)
 | .str x _=>some (.str x)
 | .bytes b _=>some (.byt b)
 | .float b _=>some (.flt b)
 | .ref a=>some (.ref a)
 | .type n=>some (.ty n)
 | _=>none
theorem RelV.abs {x:V} {u:Value} (r:RelV x u):zw2 u=some x:=by
 cases x with
 | non=>cases r;rfl
 | bl _=>cases r;rfl
 | int _=>obtain ⟨t,rfl⟩:=r;rfl
 | str _=>obtain ⟨t,rfl⟩:=r;rfl
 | byt _=>obtain ⟨t,rfl⟩:=r;rfl
 | flt _=>obtain ⟨t,rfl⟩:=r;rfl
 | ref _=>cases r;rfl
 | ty _=>cases r;rfl
theorem RelV.inj {x y:V} {u:Value} (r:RelV x u) (q:RelV y u):x=y:=Option.some.inj (r.abs.symm.trans q.abs)
theorem zcg.inj:∀ {xs ys:List V} {us:List Value},zcg xs us->zcg ys us->xs=ys
 | _,_,_,.nil,.nil=>rfl
 | _,_,_,.cons r t,.cons r' t'=>by rw [r.inj r',zcg.inj t t']
section
variable {X:Cx} {pins:List ↥3} {σ:St} {H:Hp} {s:Shared} {a:Addr} {xs ys:List V}
theorem SqL.of {K:W.Frag} (h:H a=some (.lst xs)):SqL K H a xs:=.inl (.inl h)
theorem Inv.list (I:Inv X pins σ H s) (h:SqL X.K H a xs):∃ its:List Value,zcg xs its∧PlainL s.heap a its.toArray∧xs.length≤sizeLine:=by
 rcases h with h | ⟨o,its,n,hk,hc,hd,hs,hz,r⟩
 ·obtain ⟨z,its,n,r,e⟩:=h.ok I.hok
  exact ⟨its,r,⟨_,n,e,rfl,rfl,rfl⟩,z⟩
 ·refine ⟨its.toList,r,⟨o,n,I.kIn a o hk,hc,hd,by simpa using hs⟩,?_⟩
  have e:=r.length
  simp only [Array.length_toList] at e
  omega
theorem Inv.tuple (I:Inv X pins σ H s) (h:SqT X.K H a xs):∃ its:List Value,zcg xs its∧IsTup s.heap a its.toArray∧xs.length≤sizeLine:=by
 rcases h with h | ⟨o,its,n,hk,hc,hs,hz,r⟩
 ·obtain ⟨z,its,r,p⟩:=h.ok I.hok
  exact ⟨its,r,p,z⟩
 ·refine ⟨its.toList,r,⟨o,I.kIn a o hk,hc,n,by simpa using hs⟩,?_⟩
  have e:=r.length
  simp only [Array.length_toList] at e
  omega
theorem Inv.list_inj (I:Inv X pins σ H s) (h:SqL X.K H a xs) (h':SqL X.K H a ys):xs=ys:=by
 obtain ⟨its,r,⟨o,n,e,_,_,d⟩,_⟩:=I.list h
 obtain ⟨its',r',⟨o',n',e',_,_,d'⟩,_⟩:=I.list h'
 rw [e] at e';cases e'
 rw [d] at d'
 injection d' with d1 _
 have:its=its':=by simpa using congrArg Array.toList d1
 subst this
 exact r.inj r'
end
abbrev Cx.wish (X:Cx) (E:Value->Shared->Prop):Cx:={ X with xe:=E }
abbrev Cx.nox (X:Cx):Cx:=X.wish λ_ _=>False
theorem Cx.Ok.wish {X:Cx} (ok:X.Ok) (E:Value->Shared->Prop):(X.wish E).Ok :=
 ⟨ok.mod,ok.kind,ok.glob,ok.blt,ok.above,ok.inj,ok.has,ok.cab,ok.hd,ok.frames,ok.stk,ok.exf,ok.bs,ok.bsz,ok.noex,ok.exfs,ok.funs,ok.frf⟩
theorem Cx.Ok.unwish {X:Cx} {E:Value->Shared->Prop} (ok:(X.wish E).Ok):X.Ok :=
 ⟨ok.mod,ok.kind,ok.glob,ok.blt,ok.above,ok.inj,ok.has,ok.cab,ok.hd,ok.frames,ok.stk,ok.exf,ok.bs,ok.bsz,ok.noex,ok.exfs,ok.funs,ok.frf⟩
section
variable {X:Cx} {pins:List ↥3} {σ:St} {H:Hp} {s:Shared} {E:Value->Shared->Prop}
theorem Inv.wish (I:Inv X pins σ H s) (E:Value->Shared->Prop):Inv (X.wish E) pins σ H s:=⟨I.ok.wish E,I.os,I.bare,I.base,I.loc,I.cell,I.free,I.freeC,I.pin,I.hok,I.len⟩
theorem Inv.unwish (I:Inv (X.wish E) pins σ H s):Inv X pins σ H s:=⟨I.ok.unwish,I.os,I.bare,I.base,I.loc,I.cell,I.free,I.freeC,I.pin,I.hok,I.len⟩
theorem SP.unwish {D:Ends} {f:Flow} {s':Shared} (h:SP (X.wish E) pins D f s'):SP X pins D f s':=by
 cases f with
 | next=>obtain ⟨σ',H',I,q⟩:=h;exact ⟨σ',H',I.unwish,q⟩
 | brk=>obtain ⟨σ',H',I,q⟩:=h;exact ⟨σ',H',I.unwish,q⟩
 | cont=>obtain ⟨σ',H',I,q⟩:=h;exact ⟨σ',H',I.unwish,q⟩
 | ret u=>obtain ⟨v,σ',H',I,r,q⟩:=h;exact ⟨v,σ',H',I.unwish,r,q⟩
end
section
variable {X:Cx} {st:Stmt} {rest:List Stmt} {t u:TS} {e:Expr} {te:TE} {pos:Pos}
def zp9:TS:=λD σ H=>D.nx σ H
def tSeq (t u:TS):TS:=λD σ H=>t { D with nx:=u D } σ H
theorem zae:PSs X [] zp9:=λ_ _ σ H _ I h=>wpAny_execs_nil ⟨σ,H,I,h⟩
theorem zab (h1:PS X st t) (h2:PSs X rest u):PSs X (st :: rest) (tSeq t u):=by
 intro pins s σ H D I h
 refine wpAny_execs_cons (thn (h1 pins s σ H { D with nx:=u D } I h) λf s1 q=>?_)
 cases f with
 | next =>
  obtain ⟨σ',H',I',q⟩:=q
  exact h2 pins s1 σ' H' D I' q
 | ret v=>exact q
 | brk=>exact q
 | cont=>exact q
theorem Inv.quiet {pins:List ↥3} {σ:St} {H:Hp} {s:Shared} (I:Inv X pins σ H s):interactive X.env=false:=by simp [interactive,I.ok.kind]
def zpl (te:TE):TS:=λD σ H=>te σ H λ_ H1=>D.nx σ H1
theorem zdv (he:PE X e te) (hs:swapsWith e none pos.line X.env=pure false:=by rfl):PS X (.Expr e pos) (zpl te):=by
 intro pins s σ H D I h
 exact wpAny_Expr_any (thn ↑136 λv s1 ⟨x,H1,I1,r1,q1⟩=>⟨σ,H1,I1,q1⟩) I.quiet hs
def zph (te:TE):TS:=λD σ H=>te σ H D.rt
theorem zaL (he:PE X e te):PS X (.Return (some e) pos) (zph te):=by
 intro pins s σ H D I h
 exact wpAny_Return_some (thn ↑136 λv s1 ⟨x,H1,I1,r1,q1⟩=>⟨x,σ,H1,I1,r1,q1⟩)
def zsS (c:TT) (t u:TS):TS:=λD σ H=>c σ H λb H1=>if b=true then t D σ H1 else u D σ H1
theorem zbQ {c:Expr} {a b:List Stmt} {tc:TT} (hc:PT X c tc) (ha:PSs X a t) (hb:PSs X b u):PS X (.If c a b pos) (zsS tc t u):=by
 intro pins s σ H D I h
 refine wpAny_If (thn (hc pins s σ H _ I h) λd s1 ⟨H1,I1,q1⟩=> ?_)
 cases d with
 | true=>exact ha pins s1 σ H1 D I1 q1
 | false=>exact hb pins s1 σ H1 D I1 q1
def ztf:TS:=λ_ _ _=>False
theorem zdp:PS X st ztf:=λ_ _ _ _ _ _ h=>h.elim
end
abbrev TG:=V->St->Hp->(St->Hp->Prop)->Prop
abbrev TGs:=List V->St->Hp->(St->Hp->Prop)->Prop
def PG (X:Cx) (target:Expr) (t:TG):Prop :=
 ∀ (pins:List ↥3) (s:Shared) (σ:St) (H:Hp) (v:V) (u:Value) (Q:St->Hp->Prop),Inv X pins σ H s->RelV v u->t v σ H Q →
  wpAny ↑5 X.A (assign target X.env u) (λ_ s'=>∃σ' H',Inv X pins σ' H' s'∧Q σ' H') X.xe s
def PGs (X:Cx) (ts:List Expr) (t:TGs):Prop :=
 ∀ (pins:List ↥3) (s:Shared) (σ:St) (H:Hp) (vs:List V) (us:List Value) (Q:St->Hp->Prop),Inv X pins σ H s->zcg vs us->t vs σ H Q →
  wpAny ↑5 X.A (assignInOrder ((assignEach ts X.env).map (·.2)) us) (λ_ s'=>∃σ' H',Inv X pins σ' H' s'∧Q σ' H') X.xe s
abbrev zvi:=V->V->V->Hp->(Hp->Prop)->Prop
def zvN (X:Cx) (t:zvi):Prop :=
 ∀ (pins:List ↥3) (s:Shared) (σ:St) (H:Hp) (o i v:V) (ov iv u:Value) (Q:Hp->Prop),Inv X pins σ H s->RelV o ov->RelV i iv->RelV v u->t o i v H Q →
  wpAny ↑5 X.A (setItem ov iv u) (λ_ s'=>∃ H',Inv X pins σ H' s'∧Q H') X.xe s
section
variable {X:Cx} {pos:Pos}
def zdV (i:Nat):TG:=λv σ H Q=>Q (σ.set i (some v)) H
theorem zal {i:Nat} {x:Str} (hN:X.N.Nodup) (hi:X.N[i]?=some x) (hx:Loc X.env.scope x) (hf:X.fn x=true∨X.env.scope.names.lookup x=some .local:=by first | exact .inl rfl | exact .inr rfl | assumption):PG X (.Name x pos) (zdV i):=by
 intro pins s σ H v u Q I r h
 exact wpAny_assign_Name (zhE I hN hi hx r (λs' I'=>⟨_,H,I',h⟩) hf)
def zsr:TGs:=λvs σ H Q=>vs=[]∧Q σ H
def zhw (t:TG) (u:TGs):TGs:=λvs σ H Q=>∃ v r,vs=v :: r∧t v σ H λσ' H'=>u r σ' H' Q
theorem zbL:PGs X [] zsr:=by
 intro pins s σ H vs us Q I r h
 obtain ⟨e,h⟩:=h
 subst e
 cases r
 exact assignInOrder_nil ⟨σ,H,I,h⟩
theorem zaD {e:Expr} {es:List Expr} {t:TG} {u:TGs} (h1:PG X e t) (h2:PGs X es u)
  (hs:(assignEach (e::es) X.env).map (·.2)=assign e X.env :: ((assignEach es X.env)).map (·.2):=by rfl):PGs X (e::es) (zhw t u):=by
 intro pins s σ H vs us Q I r h
 obtain ⟨v,vr,e1,h⟩:=h
 subst e1
 cases r with
 | cons r rr =>
  rw [hs]
  refine assignInOrder_cons (thn (h1 pins s σ H _ _ _ I r h) λ_ s1 ⟨σ1,H1,I1,q1⟩=>?_)
  exact h2 pins s1 σ1 H1 _ _ Q I1 rr q1
def zr9 (K:W.Frag) (n:Nat) (t:TGs):TG:=λv σ H Q=>∃ a xs,v=.ref a∧SqT K H a xs∧xs.length=n∧t xs σ H Q
theorem zuc {es:List Expr} {k:Nat} {t:TGs} {n:Nat} (hc:X.calm=true) (h:PGs X es t)
  (hn:((assignEach es X.env)).length=n:=by rfl) (hst:((assignEach es X.env)).findIdx? (·.1)=none:=by rfl):PG X (.Tuple es k pos) (zr9 X.K n t):=by
 intro pins s σ H v u Q I r hw
 obtain ⟨a,xs,e1,hq,hl,hw⟩:=hw
 subst e1
 cases r
 obtain ⟨its,rv,ht,hz⟩:=I.tuple hq
 refine assign_Tuple_tuple (I.ok.hd hc) ht (by simp [hn,← hl,rv.length]) hst λh' hx=>?_
 have I1:Inv X pins σ H { s with heap:=h' }:=I.kept (t':=s.toks) λb o e=>hx b o (Nat.ne_of_lt ↑119) e
 exact h pins _ σ H xs _ Q I1 (by simpa using rv) hw
def zsP (to ti:TE) (t:zvi):TG:=λv σ H Q=>to σ H λo H1=>ti σ H1 λi H2=>t o i v H2 λH3=>Q σ H3
theorem zi2 {o i:Expr} {to ti:TE} {t:zvi} (ho:PE X o to) (hi:PE X i ti) (hs:zvN X t)
  (ha:∀ v,assign (.Subscript o i pos) X.env v=(do
   let ov ← holding [v] (eval o X.env)
   let iv ← holding [v,ov] (eval i X.env)
   standAt pos
   holding [v,ov,iv] (setItem ov iv v)
   release [v,ov,iv] []):=by intro _;rfl):PG X (.Subscript o i pos) (zsP to ti t):=by
 intro pins s σ H v u Q I r h
 rw [ha]
 refine wpAny_bind (wpAny_holding (thn (ho pins s σ H _ I h) λov s1 ⟨x,H1,I1,r1,q1⟩=>?_))
 refine wpAny_bind (wpAny_holding (thn (hi pins s1 σ H1 _ I1 q1) λiv s2 ⟨y,H2,I2,r2,q2⟩=>?_))
 refine wpAny_bind (wpAny_standAt (wpAny_bind (wpAny_holding (thn (hs pins s2 σ H2 x y v ov iv u _ I2 r1 r2 r q2) λ_ s3 ⟨H3,I3,q3⟩=>?_))))
 exact wpAny_release ⟨σ,H3,I3,q3⟩
def zk2 (te:TE) (g:TG):TS:=λD σ H=>te σ H λx H1=>g x σ H1 D.nx
theorem zhj {tg e:Expr} {te:TE} {g:TG} (he:PE X e te) (hg:PG X tg g) (hs:swapsWithSole [tg] e pos.line X.env=pure false:=by rfl) (hw:swappedStores [tg] e X.env=pure none:=by rfl)
  (h1:(assignEach [tg] X.env).map (·.2)=[assign tg X.env]:=by rfl):PS X (.Assign [tg] e pos) (zk2 te g):=by
 intro pins s σ H D I h
 refine wpAny_Assign_stores (thn ↑136 λv s1 ⟨x,H1,I1,r1,q1⟩=> ?_) hs hw
 rw [h1]
 exact thn (hg pins s1 σ H1 x v _ I1 r1 q1) λ_ s2 q=>q
theorem zap {i:Nat} {x:Str} {e:Expr} {te:TE} {pos':Pos} (hN:X.N.Nodup) (hi:X.N[i]?=some x) (hx:Loc X.env.scope x) (he:PE X e te) (hs:swapsWith e (some (.Name x pos')) pos.line X.env=pure false:=by rfl) (hf:X.fn x=true∨X.env.scope.names.lookup x=some .local:=by first | exact .inl rfl | exact .inr rfl | assumption) :
  PS X (.Assign [.Name x pos'] e pos) (zk2 te (zdV i)):=by
 intro pins s σ H D I h
 refine wpAny_Assign_Name (thn ↑136 λv s1 ⟨y,H1,I1,r1,q1⟩=>?_) hs
 exact zhE I1 hN hi hx r1 (λs2 I2=>⟨_,H1,I2,q1⟩) hf
def tPar (i j:Nat) (ta:TA):TS:=λD σ H=>ta σ H λvs H1=>∃ v w,vs=[v,w]∧D.nx (((σ.set i (some v))).set j (some w)) H1
theorem ztc {i j:Nat} {x y:Str} {a b:Expr} {ta:TA} {px py pt:Pos} {kt k2 pt2} (hc:X.calm=true) (hN:X.N.Nodup) (hi:X.N[i]?=some x) (hj:X.N[j]?=some y) (hij:i≠j)
  (hx:X.env.scope.names.lookup x=some .local) (hy:X.env.scope.names.lookup y=some .local) (ha:PA X [a,b] ta)
  (hw:swappedStores [.Tuple [.Name x px,.Name y py] kt pt] (.Tuple [a,b] k2 pt2) X.env=pure (some [x,y]))
  (hs:swapsWithSole [.Tuple [.Name x px,.Name y py] kt pt] (.Tuple [a,b] k2 pt2) pos.line X.env=pure false:=by rfl) :
  PS X (.Assign [.Tuple [.Name x px,.Name y py] kt pt] (.Tuple [a,b] k2 pt2) pos) (tPar i j ta):=by
 intro pins s σ H D I h
 rw [exec_Assign_arm]
 refine wpAny_bind (wpAny_standAt ?_)
 rw [hs]
 refine wpAny_bind (wpAny_pure ?_)
 rw [if_neg ↥1]
 refine wpAny_bind (Tuple_ (thn (ha _ pins s σ H _ I h) λus s1 ⟨vs,H1,I1,r1,q1⟩=>?_))
 obtain ⟨v,w,e1,q1⟩:=q1
 subst e1
 obtain ⟨u1,u2,rfl,rv,rw'⟩:∃ u1 u2,us=[u1,u2]∧RelV v u1∧RelV w u2:=by
  cases r1 with
  | cons p q =>
   cases q with
   | cons p' q' =>
    cases q'
    exact ⟨_,_,rfl,p,p'⟩
 refine wpAny_newObj_type ?_ ↑130
 have I2:Inv X pins σ H1 { s1 with heap:=s1.heap.push { cls:=.type "tuple",data:=.seq [u1,u2].toArray } }:=I1.kept (t':=s1.toks) λb o e=>Heap.get?_push_of_some _ e
 rw [hw]
 refine wpAny_bind (wpAny_pure ?_)
 show wpAny ↑5 X.A (do rule "assign.swapped-stores";let items ← unpackItems (.ref s1.heap.objs.size) 2 none;assignInOrder [λv=>bindName X.env y v,λv=>bindName X.env x v] items.reverse;pure Flow.next) _ _ _
 refine wpAny_bind (wpAny_rule (wpAny_bind (unpackItems_tuple (items:=#[u1,u2]) (I.ok.hd hc) (IsTup.new s1.heap _) λh' hx'=>?_)))
 have I3:=I2.kept (h':=h') (t':=s1.toks) λb o e=>hx' b o (Nat.ne_of_lt ↑119) e
 show wpAny _ _ (assignInOrder [λv=>bindName X.env y v,λv=>bindName X.env x v] [u2,u1] >>= λ_=>pure Flow.next) _ _ _
 refine wpAny_bind (assignInOrder_cons (wpAny_bindName (zhE I3 hN hj (.inl hy) rw' (λs2 I4=>?_) (.inr hy))))
 refine assignInOrder_cons (wpAny_bindName (zhE I4 hN hi (.inl hx) rv (λs3 I5=>assignInOrder_nil (wpAny_pure ?_)) (.inr hx)))
 rw [List.set_comm _ _ (Ne.symm hij)] at I5
 exact ⟨_,H1,I5,q1⟩
end
section
variable {X:Cx} {pos:Pos}
def zqF (c:TT) (tb:TS):TS:=λD σ H=>∃ W:Nat->St->Hp->Prop,(∃ m,W m σ H)∧∀ m σ H,W m σ H →
 c σ H λb H1=>if b=true then ∃ N:St->Hp->Prop,(∀ σ' H',N σ' H'->∃ m',m'<m∧W m' σ' H')∧tb { D with nx:=N,ct:=N,bk:=D.nx } σ H1 else D.nx σ H1
theorem zlU {c:Expr} {body:List Stmt} {tc:TT} {tb:TS} (hp:PassesOwn ↑5 X.A X.env X.xe) (hc:PT X c tc) (hb:PSs X body tb):PS X (.While c body [] pos) (zqF tc tb):=by
 intro pins s σ H D I h
 obtain ⟨W,⟨m0,w0⟩,turn⟩:=h
 refine wpAny_While (codeAny_whileLoop (λn s'=>∃ σ' H',Inv X pins σ' H' s'∧W n σ' H') ?_ m0 ⟨σ,H,I,w0⟩)
 rintro n s1 ⟨σ1,H1,I1,w1⟩
 refine wpAny_passesOwn hp (thn (hc pins s1 σ1 H1 _ I1 (turn n σ1 H1 w1)) λb s2 ⟨H2,I2,q2⟩=>?_)
 cases b with
 | true =>
  obtain ⟨N,hN,q2⟩:=q2
  rw [if_pos rfl]
  refine wpAny_passesOwn hp (thn (hb pins s2 σ1 H2 _ I2 q2) λf s3 q3=>?_)
  cases f with
  | next =>
   obtain ⟨σ3,H3,I3,n3⟩:=q3
   obtain ⟨m',hm,w3⟩:=hN σ3 H3 n3
   exact ⟨m',hm,σ3,H3,I3,w3⟩
  | cont =>
   obtain ⟨σ3,H3,I3,n3⟩:=q3
   obtain ⟨m',hm,w3⟩:=hN σ3 H3 n3
   exact ⟨m',hm,σ3,H3,I3,w3⟩
  | brk=>exact q3
  | ret v=>exact q3
 | false =>
  rw [if_neg Bool.false_ne_true]
  exact wpAny_execs_nil ⟨σ1,H2,I2,q2⟩
end
structure It where
 go:Nat->Hp->Prop
 yld:Nat->Hp->V->Hp->Prop
 stop:Nat->Hp->Prop
def zmo (X:Cx) (pins:List ↥3) (H:Hp) (b:Addr):Prop :=
 H b=none∧b≠X.env.locals∧b ∉ X.fs∧↑263∧↑261∧∀ p∈X.pn++pins,p.1≠b
theorem Inv.fpOk {X:Cx} {pins:List ↥3} {σ:St} {H H':Hp} {s:Shared} {b:Addr} (I:Inv X pins σ H s) (hb:⇑2≤b) (hn:H' b=none):zmo X pins H' b:=by
 refine ⟨hn,Nat.ne_of_gt (Nat.lt_of_lt_of_le I.lt hb),I.nofs hb,.inr (⇑6 I.sz hb),λx c e z=>?_,λp hp z=>?_⟩
 ·obtain ⟨v,q⟩:=I.cell x c e
  exact absurd (Nat.lt_of_lt_of_le q.lt (by rw [z];exact hb)) ↑158
 ·exact absurd (Nat.lt_of_lt_of_le (Heap.lt_size (I.pin p hp).1) (by rw [z];exact hb)) ↑158
structure Turn (P:Program) (w:World) (K:W.Frag) (tg:Expr) (J:It) (fp:List Addr) (it:Addr) (tn:Nat->Heap->Prop):Prop where
 mem:it∈fp
 obj:∀ i h,tn i h->∀ b∈fp,∃ o,h.get? b=some o∧∀ v,o.data≠.cell v
 keep:∀ i h h',tn i h->(∀ b∈fp,∀ o,h.get? b=some o->h'.get? b=some o)->tn i h'
 item:∀ (X:Cx),X.prog=P->X.w=w->X.K=K->X.calm=true->∀ (i:Nat) (pins:List ↥3) (s:Shared) (σ:St) (H:Hp) (E:Value->Shared->Prop),Inv X pins σ H s->(∀ b∈fp,zmo X pins H b)->tn i s.heap->J.go i H →
  wpAny (model P w) X.A (pyNext (.ref it)) (λr s1=>∃ u,r=some u ∧
   wpAny (model P w) X.A (letOwnedTupleGo tg (.ref it) u) (λ_ s2=>∃ x H',Inv X pins σ H' s2∧RelV x u∧J.yld i H x H'∧tn (i+1) s2.heap∧∀ b∈fp,H' b=none) E s1) E s
 done:∀ (X:Cx),X.prog=P->X.w=w->X.K=K->X.calm=true->∀ (i:Nat) (pins:List ↥3) (s:Shared) (σ:St) (H:Hp) (E:Value->Shared->Prop),Inv X pins σ H s->(∀ b∈fp,zmo X pins H b)->tn i s.heap->J.stop i H →
  wpAny (model P w) X.A (pyNext (.ref it)) (λr s1=>r=none∧Inv X pins σ H s1) E s
 self:∀ (A:Around) (i:Nat) (s:Shared) (Q:Value->Shared->Prop) (E:Value->Shared->Prop),tn i s.heap->Q (.ref it) s->wpAny (model P w) A (pyIter (.ref it)) Q E s
abbrev TI:=St->Hp->(It->Hp->Prop)->Prop
def PIE (X:Cx) (pins:List ↥3) (σ:St) (tg:Expr) (R:It->Hp->Prop) (itv:Value) (s2:Shared):Prop :=
 ∃ (it:Addr) (fp:List Addr) (tn:Nat->Heap->Prop) (J:It) (H':Hp),itv=.ref it∧Inv X pins σ H' s2∧Turn X.prog X.w X.K tg J fp it tn∧tn 0 s2.heap∧(∀ b∈fp,zmo X pins H' b)∧R J H'
def PI (X:Cx) (tg iter:Expr) (wi:TI):Prop :=
 ∀ (pins:List ↥3) (s:Shared) (σ:St) (H:Hp) (R:It->Hp->Prop),Inv X pins σ H s->wi σ H R →
  wpAny ↑5 X.A (eval iter X.env) (λv s1=>wpAny ↑5 X.A (pyIter v) (PIE X pins σ tg R) X.xe s1) X.xe s
theorem zri {M:Model} {A:Around} {E:Value->Shared->Prop} {s:Shared} {tg:Expr} {it:Addr} {u:Value} {o:Obj} {n:String} {vs:Array Value} {Q:Unit->Shared->Prop} (ho:s.heap.get? it=some o) (hc:o.cls=.type n) (hd:o.data=.fields vs)
  (hn:["enumerate","zip","dict_itemiterator","dict_reverseitemiterator","odict_iterator","itertools.zip_longest","itertools.pairwise"].contains n=false) (hQ:Q () s):wpAny M A (letOwnedTupleGo tg (.ref it) u) Q E s:=by
 unfold letOwnedTupleGo
 cases tg<;>first
  | exact wpAny_pure hQ
  | (cases u<;>first
    | exact wpAny_pure hQ
    | (refine wpAny_bind (wpAny_load ho ?_)
       rw [hc,hd]
       show wpAny M A (if (["enumerate","zip","dict_itemiterator","dict_reverseitemiterator","odict_iterator","itertools.zip_longest","itertools.pairwise"].contains n&&vs[0]? == some (rawInt _))=true then _ else _) Q E s
       rw [if_neg (by intro h;rw [hn,Bool.false_and] at h;cases h)]
       exact wpAny_pure hQ))
def Itl (K:W.Frag) (a:Addr):It :=
 ⟨λi H=>∃ xs x,SqL K H a xs∧xs[i]?=some x,λi H x H'=>H'=H∧∀ xs,SqL K H a xs->xs[i]?=some x,λi H=>∃ xs,SqL K H a xs∧xs.length≤i⟩
def Itr (lo:Int) (n:Nat):It:=⟨λi _=>i<n,λi H x H'=>H'=H∧x=.int (lo+i),λi _=>n≤i⟩
theorem znG {P:Program} {w:World} {K:W.Frag} {tg:Expr} (a it:Addr):Turn P w K tg (Itl K a) [it] it (λi h=>h.IsListIter it a i) where
 mem:=by simp
 obj:=λi h st b hb=>by
  have e:b=it:=by simpa using hb
  subst e
  obtain ⟨o,e,c,d⟩:=st
  exact ⟨o,e,λv z=>by rw [d] at z;cases z⟩
 keep:=λi h h' st k=>st.at λo e=>k it ↥9 o e
 item:=by
  intro X hP hw hK hc i pins s σ H E I hf st hg
  subst hP hw hK
  obtain ⟨xs,x,hq,hx⟩:=hg
  obtain ⟨its,rv,p,hz⟩:=I.list hq
  obtain ⟨u,hu,ru⟩:=rv.get hx
  obtain ⟨f0,f1,f2,f3,f4,f5⟩:=hf it ↥9
  refine wpAny_pyNext_list_item st p.isList (x:=u) (by simpa using hu) λh' st' sb=>?_
  have I1:Inv X pins σ H { s with heap:=h' }:=I.turned (t':=s.toks) (λb o hb e=>(sb.2 b hb).trans e) f0 f1 f3 f4 f5
  obtain ⟨o,e,c,d⟩:=id st'
  exact ⟨u,rfl,zri (s:= {s with heap:=h'}) e c d ↥1 ⟨x,H,I1,ru,⟨rfl,λys hy=>by rw [I.list_inj hy hq];exact hx⟩,st',λb hb=>(hf b hb).1⟩⟩
 done:=by
  intro X hP hw hK hc i pins s σ H E I hf st hg
  subst hP hw hK
  obtain ⟨xs,hq,hx⟩:=hg
  obtain ⟨its,rv,p,hz⟩:=I.list hq
  obtain ⟨f0,f1,f2,f3,f4,f5⟩:=hf it ↥9
  have hl:=rv.length
  exact wpAny_pyNext_list_end (I.ok.hd hc) st p.isList (by simp;omega) λh' eb=>⟨rfl,I.turned (t':=s.toks) (λb o hb e=>eb b o hb e) f0 f1 f3 f4 f5⟩
 self:=λ_ _ _ _ _ st h=>wpAny_pyIter_listiter st h
theorem zmJ {P:Program} {w:World} {K:W.Frag} {tg:Expr} (it:Addr) (lo:Int) (n:Nat):Turn P w K tg (Itr lo n) [it] it (λi h=>IsRangeIter h it (lo+(i:Nat)*1) ((n:Int)-(i:Nat)) 1) where
 mem:=by simp
 obj:=λi h st b hb=>by
  have e:b=it:=by simpa using hb
  subst e
  exact ⟨_,st,λv z=>by
   have z':Data.fields _=Data.cell v:=z
   cases z'⟩
 keep:=λi h h' st k=>k it ↥9 _ st
 item:=by
  intro X hP hw hK hc i pins s σ H E I hf st hg
  subst hP hw hK
  obtain ⟨f0,f1,f2,f3,f4,f5⟩:=hf it ↥9
  have W:=Walks.range (prog:=X.prog) (w:=X.w) (I.ok.hd hc) it lo 1 n
  refine W.item i s _ _ hg st λv h' tk hv st' kk=>?_
  obtain ⟨t,rfl⟩:=hv
  have I1:Inv X pins σ H { s with heap:=h',toks:=tk }:=I.turned (λb o hb e=>kk b o (by simpa using hb) e) f0 f1 f3 f4 f5
  refine ⟨_,rfl,zri (s:={ s with heap:=h',toks:=tk }) (n:="range_iterator") st' rfl rfl ↥1 ⟨.int (lo+i),H,I1,⟨t,?_⟩,⟨rfl,rfl⟩,st',λb hb=>(hf b hb).1⟩⟩
  rw [Int.mul_one]
 done:=by
  intro X hP hw hK hc i pins s σ H E I hf st hg
  subst hP hw hK
  obtain ⟨f0,f1,f2,f3,f4,f5⟩:=hf it ↥9
  exact wpAny_pyNext_range_end (I.ok.hd hc) st (by have:n≤i:=hg;omega) λh' eb=>⟨rfl,I.turned (t':=s.toks) (λb o hb e=>eb b o hb e) f0 f1 f3 f4 f5⟩
 self:=λ_ _ _ _ _ st h=>wpAny_pyIter_rangeiter st h
section
variable {X:Cx} {tg:Expr}
def zp1 (K:W.Frag) (tl:TE):TI:=λσ H R=>tl σ H λx H1=>∃ a,x=.ref a∧(∃ xs,SqL K H1 a xs)∧R (Itl K a) H1
theorem zrr {l:Expr} {tl:TE} (hl:PE X l tl):PI X tg l (zp1 X.K tl):=by
 intro pins s σ H R I h
 refine thn (hl pins s σ H _ I h) λv s1 ⟨x,H1,I1,r1,q1⟩=>?_
 obtain ⟨a,e,⟨xs,hq⟩,q⟩:=q1
 subst e
 cases r1
 obtain ⟨its,rv,p,hz⟩:=I1.list hq
 refine wpAny_pyIter_list p.isList ?_
 refine ⟨s1.heap.objs.size,[s1.heap.objs.size],_,_,H1,rfl,I1.kept (t':=s1.toks) λb o e=>Heap.get?_push_of_some _ e,znG a _,⟨_,Heap.get?_push_size _ rfl,rfl,rfl⟩,λb hb=>?_,q⟩
 have e:b=s1.heap.objs.size:=by simpa using hb
 subst e
 exact I1.fpOk (↑4 _) (I1.hok.fresh (↑4 _))
theorem zpz {pins:List ↥3} {σ:St} {H:Hp} {s:Shared} {R:It->Hp->Prop} {E:Value->Shared->Prop} {lo hi:Int} {t u v:Tok} {tk:Nat} (I:Inv X pins σ H s) (h1:-(2^62)≤lo) (h2:lo<2^62) (h3:-(2^62)≤hi) (h4:hi<2^62)
  (q:R (Itr lo (hi-lo).toNat) H):wpAny ↑5 X.A (pyIter (.ref ⇑2)) (PIE X pins σ tg R) E { s with heap:=s.heap.push { cls:=.type "range",data:=.fields #[.int lo t,.int hi u,.int 1 v] },toks:=tk }:=by
 refine wpAny_pyIter_range (IsRange.new ..) (small_one h1 h2 h3 h4) ?_
 have I1:Inv X pins σ H { s with heap:=s.heap.push { cls:=.type "range",data:=.fields #[.int lo t,.int hi u,.int 1 v] },toks:=tk }:=I.kept λb o e=>Heap.get?_push_of_some _ e
 refine ⟨((s.heap.push {cls:= .type "range",data:= .fields #[.int lo t,.int hi u,.int 1 v]})).objs.size,[((s.heap.push {cls:= .type "range",data:= .fields #[.int lo t,.int hi u,.int 1 v]})).objs.size],_,_,H,rfl,
  I1.kept (t':=tk) λb o e=>Heap.get?_push_of_some _ e,zmJ _ lo (hi-lo).toNat,?_,λb hb=>?_,q⟩
 ·have e1:lo+((0:Nat):Int)*1=lo:=by simp
  have e2:(((hi-lo).toNat:Nat):Int)-((0:Nat):Int)=Builtin.Range.rangeSize lo hi 1:=by rw [rangeSize_one];split<;>omega
  show IsRangeIter _ _ (lo+((0:Nat):Int)*1) ((((hi-lo).toNat:Nat):Int)-((0:Nat):Int)) 1
  rw [e1,e2]
  exact Heap.get?_push_size _ rfl
 ·have e:b=((s.heap.push {cls:= .type "range",data:= .fields #[.int lo t,.int hi u,.int 1 v]})).objs.size:=by simpa using hb
  subst e
  exact I1.fpOk (↑4 _) (I1.hok.fresh (↑4 _))
def zud (ta:TA):TI:=λσ H R=>ta σ H λvs H1=>∃ j:Int,vs=[.int j]∧-(2^62)≤j∧j<2^62∧R (Itr 0 j.toNat) H1
theorem zb2 {a:Expr} {ta:TA} {p pos:Pos} (hg:Gl X "range") (hm:X.mg "range"=none) (ha:PA X [a] ta) (hs:starEach [a] X.env=[(false,eval a X.env)]:=by rfl):PI X tg (.Call (.Name "range" p) [a] [] pos) (zud ta):=by
 intro pins s σ H R I h
 refine Call_ (zh3 I hg hm boot_range (PyProof.Rows.callWith_type1 ↑257 hs rfl))
 obtain ⟨j,e,q1,q2,q⟩:=q1
 subst e
 cases r1 with
 | cons r rr =>
  cases rr
  obtain ⟨t,rfl⟩:=r
  exact call_range_1 (zpz I1 ⇑0 ⇑0 q1 q2 ↑57)
def zsp (wi:TI) (g:TG) (tb:TS):TS:=λD σ H=>wi σ H λJ H1=>∃ W:Nat->Nat->St->Hp->Prop,(∃ m,W 0 m σ H1)∧∀ i m σ H,W i m σ H →
 (J.stop i H∧D.nx σ H)∨(J.go i H∧∃ N:St->Hp->Prop,(∀ σ' H',N σ' H'->∃ m',m'<m∧W (i+1) m' σ' H')∧∀ x H',J.yld i H x H'->g x σ H' λσ2 H2=>tb { D with nx:=N,ct:=N,bk:=D.nx } σ2 H2)
def zkV (fp:List Addr) (h:Heap):List ↥3:=fp.filterMap λb=>(h.get? b).map λo=>(b,o)
theorem zfK {fp:List Addr} {h:Heap} {b:Addr} {o:Obj} (hb:b∈fp) (e:h.get? b=some o):(b,o)∈zkV fp h:=List.mem_filterMap.mpr ⟨b,hb,by rw [e];rfl⟩
theorem zno {fp:List Addr} {h:Heap} {p:Addr×Obj} (hp:p∈zkV fp h):p.1∈fp∧h.get? p.1=some p.2:=by
 obtain ⟨b,hb,e⟩:=List.mem_filterMap.mp hp
 cases q:h.get? b with
 | none=>rw [q] at e;cases e
 | some o =>
  rw [q] at e
  have e':(b,o)=p:=Option.some.inj e
  subst e'
  exact ⟨hb,q⟩
theorem Inv.pinned {pins:List ↥3} {σ:St} {H:Hp} {s:Shared} {fp:List Addr} (I:Inv X pins σ H s) (hf:∀ b∈fp,zmo X pins H b) (ho:∀ b∈fp,∃ o,s.heap.get? b=some o∧∀ v,o.data≠.cell v):Inv X (pins++zkV fp s.heap) σ H s :=
 I.pins_of λp hp=>(List.mem_append.mp hp).elim (λz=>I.pin p (List.mem_append_right _ z)) λz=>by
  obtain ⟨hb,e⟩:=zno z
  obtain ⟨f0,f1,f2,_⟩:=hf p.1 hb
  obtain ⟨o,e',d⟩:=ho p.1 hb
  rw [e] at e';cases e'
  exact ⟨e,f0,f1,f2,d⟩
theorem Inv.unpinned {pins pl:List ↥3} {σ:St} {H:Hp} {s:Shared} (I:Inv X (pins++pl) σ H s):Inv X pins σ H s:=I.pins_of λp hp=>I.pin p (List.mem_append_right _ (List.mem_append_left _ hp))
theorem zbx {iter:Expr} {body:List Stmt} {wi:TI} {g:TG} {tb:TS} {pos:Pos} (hp:PassesOwn ↑5 X.A X.env X.xe) (hc:X.calm=true) (hi:PI X tg iter wi) (hg:PG X tg g) (hb:PSs X body tb)
  (hs:∀ x,foldedSetIterable iter X.env x=pure x:=by intro _;rfl):PS X (.For tg iter body [] pos) (zsp wi g tb):=by
 intro pins s σ H D I h
 refine wpAny_For (thn (hi pins s σ H _ I h) λv s1 h1=>thn h1 λitv s2 h2=>?_) hs
 obtain ⟨it,fp,tn,J,H2,e,I2,T,st2,f2,W,⟨m0,w0⟩,turn⟩:=h2
 subst e
 have stat:∀ {H':Hp},(∀b∈fp,H' b=none)->∀ b∈fp,zmo X pins H' b:=λhn b hb=>⟨hn b hb,(f2 b hb).2⟩
 refine codeAny_forLoop_any (λn s'=>∃ i σ' H',Inv X pins σ' H' s'∧tn i s'.heap∧(∀b∈fp,H' b=none)∧W i n σ' H') ?_ m0 ⟨0,σ,H2,I2,st2,λb hb=>(f2 b hb).1,w0⟩
 rintro n s3 ⟨i,σ3,H3,I3,st3,fr3,w3⟩
 rcases turn i n σ3 H3 w3 with ⟨stop,qn⟩ | ⟨go,N,hN,step⟩
 ·refine wpAny_passesOwn hp (thn (T.done X rfl rfl rfl hc i pins s3 σ3 H3 X.xe I3 (stat fr3) st3 stop) λr s4 ⟨hr,I4⟩=>?_)
  subst hr
  exact wpAny_execs_nil ⟨σ3,H3,I4,qn⟩
 ·refine wpAny_passesOwn hp (thn (T.item X rfl rfl rfl hc i pins s3 σ3 H3 X.xe I3 (stat fr3) st3 go) λr s4 ⟨u,hr,h4⟩=>?_)
  subst hr
  refine wpAny_passesOwn hp (thn h4 λ_ s5 ⟨x,H5,I5,r5,y5,st5,fr5⟩=>?_)
  have I5':=I5.pinned (stat fr5) (T.obj _ _ st5)
  refine wpAny_passesOwn hp (thn (hg _ s5 σ3 H5 x u _ I5' r5 (step x H5 y5)) λ_ s6 ⟨σ6,H6,I6,q6⟩=>?_)
  refine wpAny_passesOwn hp (thn (hb _ s6 σ6 H6 _ I6 q6) λf s7 q7=>?_)
  have again:∀ {σ7:St} {H7:Hp},Inv X (pins++zkV fp s5.heap) σ7 H7 s7->N σ7 H7->∃ m,m<n∧∃ i σ' H',Inv X pins σ' H' s7∧tn i s7.heap∧(∀b∈fp,H' b=none)∧W i m σ' H':=λ{σ7 H7} I7 n7=>by
   obtain ⟨m',hm,w7⟩:=hN σ7 H7 n7
   refine ⟨m',hm,i+1,σ7,H7,I7.unpinned,T.keep _ _ _ st5 λb hb o e=>(I7.pin (b,o) ↑258).1,λb hb=>?_,w7⟩
   obtain ⟨o,e,d⟩:=T.obj _ _ st5 b hb
   exact (I7.pin (b,o) ↑258).2.1
  cases f with
  | next=>obtain ⟨σ7,H7,I7,n7⟩:=q7;exact again I7 n7
  | cont=>obtain ⟨σ7,H7,I7,n7⟩:=q7;exact again I7 n7
  | brk=>obtain ⟨σ7,H7,I7,q7⟩:=q7;exact ⟨σ7,H7,I7.unpinned,q7⟩
  | ret v=>obtain ⟨x7,σ7,H7,I7,r7,q7⟩:=q7;exact ⟨x7,σ7,H7,I7.unpinned,r7,q7⟩
end
abbrev R2:=V->V->Hp->VK->Prop
def OpR (X:Cx) (f:Value->Value->Sem Value) (r:R2):Prop :=
 ∀ (pins:List ↥3) (s:Shared) (σ:St) (H:Hp) (x y:V) (v u:Value) (Q:VK),Inv X pins σ H s->RelV x v->RelV y u->r x y H Q →
  wpAny ↑5 X.A (f v u) ↑86 X.xe s
def UnR (X:Cx) (f:Value->Sem Value) (r:V->Hp->VK->Prop):Prop :=
 ∀ (pins:List ↥3) (s:Shared) (σ:St) (H:Hp) (x:V) (v:Value) (Q:VK),Inv X pins σ H s->RelV x v->r x H Q →
  wpAny ↑5 X.A (f v) ↑86 X.xe s
def zga (X:Cx) (f:Value) (r:List V->Hp->VK->Prop):Prop :=
 ∀ (pins:List ↥3) (s:Shared) (σ:St) (H:Hp) (xs:List V) (us:List Value) (Q:VK),Inv X pins σ H s->zcg xs us->r xs H Q →
  wpAny ↑5 X.A (call f us) ↑86 X.xe s
def tOp (r:R2) (ta tb:TE):TE:=λσ H Q=>ta σ H λx H1=>tb σ H1 λy H2=>r x y H2 Q
def tUn (r:V->Hp->VK->Prop) (ta:TE):TE:=λσ H Q=>ta σ H λx H1=>r x H1 Q
def rI (C:Int->Int->Prop) (g:Int->Int->V):R2:=λx y H Q=>∃ i j,x=.int i∧y=.int j∧C i j∧Q (g i j) H
def rI0 (g:Int->Int->V):R2:=λx y H Q=>∃ i j,x=.int i∧y=.int j∧Q (g i j) H
def rU (g:Int->V):V->Hp->VK->Prop:=λx H Q=>∃ i,x=.int i∧Q (g i) H
section
variable {X:Cx} {a b:Expr} {ta tb:TE} {pos:Pos}
theorem zvc (ha:PE X a ta) (hb:PE X b tb) {pins:List ↥3} {s:Shared} {σ:St} {H:Hp} {R:V->V->Hp->Prop} (I:Inv X pins σ H s)
  (h:ta σ H λx H1=>tb σ H1 λy H2=>R x y H2) {Q:Value->Shared->Prop} {f:Value->Value->Sem Value}
  (hf:∀ v u s2 x y H2,Inv X pins σ H2 s2->RelV x v->RelV y u->R x y H2->wpAny ↑5 X.A (f v u) Q X.xe s2) :
  wpAny ↑5 X.A (eval a X.env) (λv s₁=>wpAny ↑5 X.A (eval b X.env) (λu s₂=>wpAny ↑5 X.A (f v u) Q X.xe s₂) X.xe s₁) X.xe s:=by
 refine thn ↑135 λv s1 ⟨x,H1,I1,r1,q1⟩=>?_
 refine thn (hb pins s1 σ H1 _ I1 q1) λu s2 ⟨y,H2,I2,r2,q2⟩=>?_
 exact hf v u s2 x y H2 I2 r1 r2 q2
theorem zav {op:Operator} {r:R2} (ho:OpR X (binaryOp op) r) (ha:PE X a ta) (hb:PE X b tb):PE X (.BinOp a op b pos) (tOp r ta tb):=by
 intro pins s σ H Q I h
 exact wpAny_BinOp (zvc ha hb I h λv u s2 x y H2 I2 rx ry q=>ho pins s2 σ H2 x y v u Q I2 rx ry q)
theorem zoL {op:UnaryOp} {r:V->Hp->VK->Prop} (ho:UnR X (unaryOp op) r) (ha:PE X a ta):PE X (.UnaryOp op a pos) (tUn r ta):=by
 intro pins s σ H Q I h
 exact UnaryOp_ (thn ↑135 λv s1 ⟨x,H1,I1,r1,q1⟩=>ho pins s1 σ H1 x v Q I1 r1 q1)
theorem opI {f:Value->Value->Sem Value} {C:Int->Int->Prop} {g:Int->Int->Int}
  (rule:∀ (i j:Int) (t u:Tok) (s:Shared) (Q:Value->Shared->Prop) (E:Value->Shared->Prop),C i j->Q (.int (g i j) s.toks) { s with toks:=s.toks+1 }->wpAny ↑5 X.A (f (.int i t) (.int j u)) Q E s) :
  OpR X f (rI C λi j=>.int (g i j)):=by
 intro pins s σ H x y v u Q I rx ry h
 obtain ⟨i,j,rfl,rfl,hc,q⟩:=h
 obtain ⟨t,rfl⟩:=rx
 obtain ⟨t',rfl⟩:=ry
 exact rule i j t t' s _ _ hc ⟨.int (g i j),H,I.tok _,⟨_,rfl⟩,q⟩
theorem zvY {f:Value->Value->Sem Value} {g:Int->Int->Int}
  (rule:∀ (i j:Int) (t u:Tok) (s:Shared) (Q:Value->Shared->Prop) (E:Value->Shared->Prop),Q (.int (g i j) s.toks) { s with toks:=s.toks+1 }->wpAny ↑5 X.A (f (.int i t) (.int j u)) Q E s) :
  OpR X f (rI0 λi j=>.int (g i j)):=by
 intro pins s σ H x y v u Q I rx ry h
 obtain ⟨i,j,rfl,rfl,q⟩:=h
 obtain ⟨t,rfl⟩:=rx
 obtain ⟨t',rfl⟩:=ry
 exact rule i j t t' s _ _ ⟨.int (g i j),H,I.tok _,⟨_,rfl⟩,q⟩
theorem zuo {f:Value->Value->Sem Value} {g:Int->Int->Bool}
  (rule:∀ (i j:Int) (t u:Tok) (s:Shared) (Q:Value->Shared->Prop) (E:Value->Shared->Prop),Q (.bool (g i j)) s->wpAny ↑5 X.A (f (.int i t) (.int j u)) Q E s) :
  OpR X f (rI0 λi j=>.bl (g i j)):=by
 intro pins s σ H x y v u Q I rx ry h
 obtain ⟨i,j,rfl,rfl,q⟩:=h
 obtain ⟨t,rfl⟩:=rx
 obtain ⟨t',rfl⟩:=ry
 exact rule i j t t' s _ _ ⟨.bl (g i j),H,I,rfl,q⟩
def zwr (i j:Int):Prop:=0≤j∧j≤1000000∧i.natAbs<2^64
theorem zbX:OpR X (binaryOp .Add) (rI0 λi j=>.int (i+j)):=zvY λ_ _ _ _ _ _ _ q=>add_int q
theorem zeT:OpR X (binaryOp .Sub) (rI0 λi j=>.int (i-j)):=zvY λ_ _ _ _ _ _ _ q=>sub_int q
theorem zcb:OpR X (binaryOp .Mod) (rI (λ_ j=>0<j) λi j=>.int (i%j)):=opI λi j _ _ _ _ _ hc q=>by
 have h1:(0:Int)<j:=hc
 exact mod_int' ⇑0 (by rw [Int.fmod_eq_emod_of_nonneg i ⇑0];exact q)
theorem ztB:OpR X (binaryOp .Pow) (rI zwr λi j=>.int (i^j.toNat)):=opI λ_ _ _ _ _ _ _ hc q=>pow_int_small hc.1 hc.2.1 hc.2.2 q
theorem unI {f:Value->Sem Value} {g:Int->Int}
  (rule:∀ (i:Int) (t:Tok) (s:Shared) (Q:Value->Shared->Prop) (E:Value->Shared->Prop),Q (.int (g i) s.toks) { s with toks:=s.toks+1 }->wpAny ↑5 X.A (f (.int i t)) Q E s) :
  UnR X f (rU λi=>.int (g i)):=by
 intro pins s σ H x v Q I rx h
 obtain ⟨i,rfl,q⟩:=h
 obtain ⟨t,rfl⟩:=rx
 exact rule i t s _ _ ⟨.int (g i),H,I.tok _,⟨_,rfl⟩,q⟩
theorem zkq:UnR X (unaryOp .USub) (rU λi=>.int (-i)):=unI λ_ _ _ _ _ q=>neg_int q
end
def scal:V->V->Bool
 | .non,.non=>true | .non,.int _=>true | .int _,.non=>true | .non,.bl _=>true | .bl _,.non=>true | .non,.str _=>true | .str _,.non=>true
 | .int _,.int _=>true | .bl _,.bl _=>true | .str _,.str _=>true | .byt _,.byt _=>true
 | .int _,.str _=>true | .str _,.int _=>true | .bl _,.str _=>true | .str _,.bl _=>true
 | _,_=>false
def rEq:R2:=λx y H Q=>scal x y=true∧Q (.bl (decide (x=y))) H
def rNe:R2:=λx y H Q=>scal x y=true∧Q (.bl (!decide (x=y))) H
theorem znI {i j:Int}:decide (V.int i=V.int j)=(i == j):=by
 rw [Bool.eq_iff_iff]
 simp
theorem zqJ {i j:Bool}:decide (V.bl i=V.bl j)=(i == j):=by
 rw [Bool.eq_iff_iff]
 simp
theorem zoo {i j:Str}:decide (V.str i=V.str j)=(i == j):=by
 rw [Bool.eq_iff_iff]
 simp
theorem zo2 {i j:Array UInt8}:decide (V.byt i=V.byt j)=(i.toList == j.toList):=by
 rw [Bool.eq_iff_iff]
 cases i
 cases j
 simp
section
variable {X:Cx} {a b:Expr} {ta tb:TE} {pos:Pos}
theorem zbN {pins:List ↥3} {σ:St} {H:Hp} {s:Shared} {Q:VK} {k k':Bool} (I:Inv X pins σ H s) (q:Q (.bl k) H) (e:k=k'):EP X pins σ Q (.bool k') s:=by
 subst e
 exact ⟨.bl k,H,I,rfl,q⟩
theorem zfg:OpR X (compareOp .Eq) rEq:=by
 intro pins s σ H x y v u Q I rx ry h
 obtain ⟨hs,q⟩:=h
 cases x with
 | non =>
  cases rx
  cases y with
  | non=>cases ry;exact PySem.EqNone.eq_none_none ↑34
  | bl j=>cases ry;exact PySem.EqNone.eq_none_bool ↑34
  | int j=>obtain ⟨t',rfl⟩:=ry;exact PySem.EqNone.eq_none_int ↑34
  | str j=>obtain ⟨t',rfl⟩:=ry;exact PySem.EqNone.eq_none_str ↑34
  | _=>exact absurd ↑91 Bool.false_ne_true
 | bl i =>
  cases rx
  cases y with
  | non=>cases ry;exact PySem.EqNone.eq_bool_none ↑34
  | bl j=>cases ry;exact eq_bool (zbN I q zqJ)
  | str j=>obtain ⟨t',rfl⟩:=ry;exact PySem.EqMixed.eq_bool_str ↑34
  | _=>exact absurd ↑91 Bool.false_ne_true
 | int i =>
  obtain ⟨t,rfl⟩:=rx
  cases y with
  | non=>cases ry;exact PySem.EqNone.eq_int_none ↑34
  | int j=>obtain ⟨t',rfl⟩:=ry;exact eq_int (zbN I q znI)
  | str j=>obtain ⟨t',rfl⟩:=ry;exact PySem.EqMixed.eq_int_str ↑34
  | _=>exact absurd ↑91 Bool.false_ne_true
 | str i =>
  obtain ⟨t,rfl⟩:=rx
  cases y with
  | non=>cases ry;exact PySem.EqNone.eq_str_none ↑34
  | bl j=>cases ry;exact PySem.EqMixed.eq_str_bool ↑34
  | int j=>obtain ⟨t',rfl⟩:=ry;exact PySem.EqMixed.eq_str_int ↑34
  | str j=>obtain ⟨t',rfl⟩:=ry;exact eq_str (zbN I q zoo)
  | _=>exact absurd ↑91 Bool.false_ne_true
 | byt i =>
  obtain ⟨t,rfl⟩:=rx
  cases y with
  | byt j=>obtain ⟨t',rfl⟩:=ry;exact W.eq_bytes (zbN I q zo2)
  | _=>exact absurd ↑91 Bool.false_ne_true
 | _=>cases y<;>exact absurd ↑91 Bool.false_ne_true
theorem zfn:OpR X (compareOp .NotEq) rNe:=by
 intro pins s σ H x y v u Q I rx ry h
 obtain ⟨hs,q⟩:=h
 cases x with
 | non =>
  cases rx
  cases y with
  | non=>cases ry;exact PySem.EqNone.ne_none_none ↑34
  | bl j=>cases ry;exact PySem.EqNone.ne_none_bool ↑34
  | int j=>obtain ⟨t',rfl⟩:=ry;exact PySem.EqNone.ne_none_int ↑34
  | str j=>obtain ⟨t',rfl⟩:=ry;exact PySem.EqNone.ne_none_str ↑34
  | _=>exact absurd ↑91 Bool.false_ne_true
 | bl i =>
  cases rx
  cases y with
  | non=>cases ry;exact PySem.EqNone.ne_bool_none ↑34
  | bl j=>cases ry;exact ne_bool (zbN I q (congrArg not zqJ))
  | str j=>obtain ⟨t',rfl⟩:=ry;exact PySem.EqMixed.ne_bool_str ↑34
  | _=>exact absurd ↑91 Bool.false_ne_true
 | int i =>
  obtain ⟨t,rfl⟩:=rx
  cases y with
  | non=>cases ry;exact PySem.EqNone.ne_int_none ↑34
  | int j=>obtain ⟨t',rfl⟩:=ry;exact ne_int (zbN I q (congrArg not znI))
  | str j=>obtain ⟨t',rfl⟩:=ry;exact PySem.EqMixed.ne_int_str ↑34
  | _=>exact absurd ↑91 Bool.false_ne_true
 | str i =>
  obtain ⟨t,rfl⟩:=rx
  cases y with
  | non=>cases ry;exact PySem.EqNone.ne_str_none ↑34
  | bl j=>cases ry;exact PySem.EqMixed.ne_str_bool ↑34
  | int j=>obtain ⟨t',rfl⟩:=ry;exact PySem.EqMixed.ne_str_int ↑34
  | str j=>obtain ⟨t',rfl⟩:=ry;exact ne_str (zbN I q (congrArg not zoo))
  | _=>exact absurd ↑91 Bool.false_ne_true
 | byt i =>
  obtain ⟨t,rfl⟩:=rx
  cases y with
  | byt j=>obtain ⟨t',rfl⟩:=ry;exact W.ne_bytes (zbN I q (congrArg not zo2))
  | _=>exact absurd ↑91 Bool.false_ne_true
 | _=>cases y<;>exact absurd ↑91 Bool.false_ne_true
theorem zj3:OpR X (compareOp .Lt) (rI0 λi j=>.bl (decide (i<j))):=zuo λ_ _ _ _ _ _ _ q=>lt_int q
theorem zsf:OpR X (compareOp .LtE) (rI0 λi j=>.bl (decide (i≤j))):=zuo λ_ _ _ _ _ _ _ q=>le_int q
theorem ziO:OpR X (compareOp .Gt) (rI0 λi j=>.bl (decide (j<i))):=zuo λ_ _ _ _ _ _ _ q=>gt_int q
theorem zsy:OpR X (compareOp .GtE) (rI0 λi j=>.bl (decide (j≤i))):=zuo λ_ _ _ _ _ _ _ q=>ge_int q
theorem zsz:OpR X (compareOp .Is) (λx y H Q=>y= .non∧Q (.bl (decide (x= .non))) H):=by
 intro pins s σ H x y v u Q I rx ry h
 obtain ⟨rfl,q⟩:=h
 cases ry
 refine is_none_gen (zbN I q ?_)
 cases x<;>first
  | (cases rx;rfl)
  | (obtain ⟨t,rfl⟩:=rx;rfl)
theorem zoC:OpR X (compareOp .IsNot) (λx y H Q=>y= .non∧Q (.bl (!decide (x= .non))) H):=by
 intro pins s σ H x y v u Q I rx ry h
 obtain ⟨rfl,q⟩:=h
 cases ry
 refine isnot_none_gen (zbN I q ?_)
 cases x<;>first
  | (cases rx;rfl)
  | (obtain ⟨t,rfl⟩:=rx;rfl)
theorem zaQ (b:Expr) {op:CmpOp} (h:op≠.In:=by decide) (h2:op≠.NotIn:=by decide):behindInMarks op b=false:=by
 have e1:(op == CmpOp.In)=false:=by cases op<;>first | rfl | exact absurd rfl h
 have e2:(op == CmpOp.NotIn)=false:=by cases op<;>first | rfl | exact absurd rfl h2
 cases b<;>simp [behindInMarks,e1,e2]
theorem zio {op:CmpOp} {r:R2} (ho:OpR X (compareOp op) r) (ha:PE X a ta) (hb:PE X b tb) (hm:behindInMarks op b=false):PE X (.Compare a [op] [b] pos) (tOp r ta tb):=by
 intro pins s σ H Q I h
 exact wpAny_Compare1 (zvc ha hb I h λv u s2 x y H2 I2 rx ry q=>ho pins s2 σ H2 x y v u Q I2 rx ry q) hm
def zsv (t:TE):TT:=λσ H Q=>t σ H λx H'=>∃ k,x=.bl k∧Q k H'
theorem zaG {op:CmpOp} {r:R2} (ho:OpR X (compareOp op) r) (ha:PE X a ta) (hb:PE X b tb) (hm:behindInMarks op b=false):PT X (.Compare a [op] [b] pos) (zsv (tOp r ta tb)):=by
 intro pins s σ H Q I h
 refine wpAny_isTrue_Compare1 (thn ↑135 λv s1 ⟨x,H1,I1,r1,q1⟩=>thn (hb pins s1 σ H1 _ I1 q1) λu s2 ⟨y,H2,I2,r2,q2⟩ =>
  thn (ho pins s2 σ H2 x y v u _ I2 r1 r2 q2) λc s3 ⟨z,H3,I3,r3,k,e,q3⟩=>?_) hm
 subst e
 cases r3
 exact wpAny_truthy_bool ⟨H3,I3,q3⟩
theorem zmd:(sizeLine:Nat)<2^63:=by rw [sizeLine_eq];decide
theorem zm4 {x:V} {us:List Value} (r:zcg [x] us):∃ u,us=[u]∧RelV x u:=by
 cases r with
 | cons r1 r2=>cases r2;exact ⟨_,rfl,r1⟩
theorem zp0 {x y:V} {us:List Value} (r:zcg [x,y] us):∃ u w',us=[u,w']∧RelV x u∧RelV y w':=by
 cases r with
 | cons r1 r2 =>
  cases r2 with
  | cons r3 r4=>cases r4;exact ⟨_,_,rfl,r1,r3⟩
theorem zkr (hc:X.calm=true):zga X (.builtin "max") (λxs H Q=>∃i j,xs=[.int i,.int j]∧Q (.int (if j>i then j else i)) H):=by
 intro pins s σ H xs us Q I r h
 obtain ⟨i,j,rfl,q⟩:=h
 obtain ⟨u,w',rfl,⟨t,rfl⟩,⟨t',rfl⟩⟩:=zp0 r
 refine max_two_ints (I.ok.hd hc) λh' tk k=>⟨_,H,I.kept k,?_,q⟩
 by_cases hj:j > i
 ·rw [if_pos hj,if_pos hj];exact ⟨_,rfl⟩
 ·rw [if_neg hj,if_neg hj];exact ⟨_,rfl⟩
theorem zkh:zga X (.type "int") (λxs H Q=>(∃i,xs=[.int i]∧Q (.int i) H)∨∃k,xs=[.bl k]∧Q (.int (if k then 1 else 0)) H):=by
 intro pins s σ H xs us Q I r h
 rcases h with ⟨i,rfl,q⟩ | ⟨k,rfl,q⟩
 ·obtain ⟨u,rfl,t,rfl⟩:=zm4 r
  exact call_int_int ⟨.int i,H,I,⟨_,rfl⟩,q⟩
 ·obtain ⟨u,rfl,r1⟩:=zm4 r
  cases r1
  exact call_int_bool ⟨.int (if k then 1 else 0),H,I.tok _,⟨_,rfl⟩,q⟩
end
structure ObjM (h:Heap) (x dx C:Addr) (mA:Str->Option Value):Prop where
 obj:h.get? x=some (W.instObj C dx)
 ns:h.Ns1 dx mA
 ne:dx≠x
theorem zpc {h:Heap} {dx:Addr} {mA:Str->Option Value} (n:h.Ns1 dx mA):∃ od,h.get? dx=some od∧∀ name,W.lookIn name od=some (mA name):=by
 obtain ⟨o,es,ep,ho,hd,hk,_,hm⟩:=n
 refine ⟨o,ho,λname=>?_⟩
 have e:=hm name
 unfold nsFind findBy at e
 rw [← Array.find?_toList] at e
 unfold W.lookIn
 rw [hd]
 dsimp only
 split
 ·rename_i y q
  rw [q] at e
  exact congrArg some e
 ·rename_i q
  rw [q] at e
  have a:es.toList.any (·.refKey)=false:=by
   rw [List.any_eq_false]
   intro y hy
   obtain ⟨z,t,hkey⟩:=hk y (Array.mem_toList_iff.mp hy)
   simp [DictEntry.refKey,hkey]
  have a':¬ es.toList.any (·.refKey)=true:=by rw [a];exact Bool.false_ne_true
  rw [if_neg a']
  exact congrArg some e
theorem ObjM.look {h:Heap} {x dx C:Addr} {mA:Str->Option Value} (I:ObjM h x dx C mA):∃ od,W.InstAt h x (W.instObj C dx) C (some od)∧∀ name,W.lookIn name od=some (mA name) :=
 let ⟨od,ho,hl⟩:=zpc I.ns
 ⟨od,⟨I.obj,rfl,rfl,ho⟩,hl⟩
section
variable {prog:Program} {w:World} {A:Around} {E:Value->Shared->Prop} {s:Shared} {K:W.Frag} {x dx C f:Addr} {mA:Str->Option Value} {name:Str} {v:Value}
theorem zrj {expr:Bool} {Q:Value->Shared->Prop} (X:K.In s.heap) (I:ObjM s.heap x dx C mA) (hg:W.plainGet K C name=true) (hh:W.hasDictIn K C=true)
  (ha:W.findIn K (.ref C) name=some none) (hv:mA name=some v) (hv':W.handedIn v=true) (h:Q v { s with toks:=s.toks+1 }) :
  wpAny ↑37 A (getAttr (.ref x) name expr) Q E s:=by
 obtain ⟨od,J,hl⟩:=I.look
 exact W.get_value X J (W.plainGet_of hg).1 (W.findObj_own hh ha rfl (by rw [hl,hv])) hv' h
theorem zpC {pl:Sem Bool} {Q:Value×List Value->Shared->Prop} (X:K.In s.heap) (I:ObjM s.heap x dx C mA) (hg:W.plainGet K C name=true)
  (hf:W.findIn K (.ref C) name=some (some (.ref f))) (ht:W.isFn K (.ref f)=true) (hv:mA name=none) (h:Q (.ref f,[.ref x]) s) :
  wpAny ↑37 A (getMethod (.ref x) name pl) Q E s:=by
 obtain ⟨od,J,hl⟩:=I.look
 exact W.method_fn X J (W.plainGet_of hg).1 (W.plainGet_of hg).2 hf (beq_iff_eq.mp ht) (by show (W.lookIn name od).map (·.isSome)=some false;rw [hl,hv];rfl) h
theorem zrR {ns:List Str} {Q:Unit->Shared->Prop} (X:K.In s.heap) (I:ObjM s.heap x dx C mA)
  (hs:W.findIn K (.ref C) "__setattr__"=some ↑146) (hp:W.plainOver K C=true) (ht:W.takerIn K C name=some none) (hh:W.hasDictIn K C=true)
  (hw:PySem.Within mA ns) (hsz:ns.length≤sizeLine)
  (h:∀ h',ObjM h' x dx C (λy=>if y=name then some v else mA y)->Heap.SameBut dx s.heap h'->Q () { s with heap:=h',toks:=s.toks+2 }) :
  wpAny ↑37 A (setAttr (.ref x) name v) Q E s:=by
 obtain ⟨od,J,hl⟩:=I.look
 refine W.set_plain X J hs (W.osa_open (s:={ s with toks:=s.toks+1 }) (r:=none) X J hp ht λb=>?_)
 obtain ⟨cd,hc,hd'⟩:=W.any_some hh
 have hx:s.heap.get? x=some ⟨.ref C,some dx,.plain,#[]⟩:=I.obj
 refine wpAny_bind (wpAny_pure (wpAny_bind (wpAny_bind (wpAny_loadPart hx (wpAny_bind (W.Looks.here (s:={ s with toks:=s.toks+1 }) (W.looks_clsIn X hc) ?_))))))
 rw [hd']
 refine wpAny_pure (a:=some dx) (wpAny_bind (wpAny_pure (wpAny_bind ?_)))
 refine wpAny_nsSet1 (s:={ s with toks:=s.toks+1 }) I.ns λh' hn2 hs2=>?_
 obtain ⟨oD,esD,epD,hoD,hdD,hcD⟩:=hn2.count (PySem.Within.cons name v hw)
 refine wpAny_bind (wpAny_lookBehind hoD (by rw [hdD];exact pastItsLine_dict (⇑6 hcD (by rw [List.length_cons];omega))) ?_)
 exact wpAny_pure (h _ ⟨(hs2.2 _ (Ne.symm I.ne)).trans I.obj,hn2,I.ne⟩ hs2)
theorem zpy {R:Result->Shared->Prop} {vs:List Value} {kw:List (Str×Value)} (X:K.In s.heap) (hm:W.makesIn K C=true)
  (hi:W.findIn K (.ref C) "__init__"=some (some (.ref f))) (hf:W.typeIn K (.ref f)=some (.type "function"))
  (h:codeAny ↑37 (A.under (.builtin "type.__call__" ⟨.ref C :: vs,kw⟩)) (.call (.ref f) ⟨.ref (⇑2+1) :: vs,kw⟩) (W.InitBack (⇑2+1) R)
   { s with heap:=(↑207).push (W.instObj C ⇑2) }) :
  codeAny ↑37 A (.call (.ref C) ⟨vs,kw⟩) R s:=by
 obtain ⟨hh,g,d,t,os⟩:=s
 exact W.make_core (W.makes_of X hm) (W.looks_findIn X hi) (λself=>W.bind_fn X self hf) ↑52 h
end
def putF (f:Str) (v:V):List (Str×V)->List (Str×V)
 | []=>[(f,v)]
 | (g,x) :: r=>if g=f then (g,v) :: r else (g,x) :: putF f v r
theorem zii (f g:Str) (v:V):∀ fs:List (Str×V),(putF f v fs).lookup g=if g=f then some v else fs.lookup g
 | []=>by
  show List.lookup g [(f,v)]=_
  by_cases h:g=f
  ·have hb:(g == f)=true:=beq_iff_eq.mpr h
   simp only [List.lookup,hb,if_pos h]
  ·have hb:(g == f)=false:=beq_eq_false_iff_ne.mpr h
   simp only [List.lookup,hb,if_neg h]
 | (k,x) :: r=>by
  have ih:=zii f g v r
  rw [show putF f v ((k,x) :: r)=(if k=f then (k,v)::r else (k,x)::putF f v r) from rfl]
  by_cases hk:k=f
  ·rw [if_pos hk]
   by_cases h:g=k
   ·have hb:(g == k)=true:=beq_iff_eq.mpr h
    simp only [List.lookup,hb,if_pos (h.trans hk)]
   ·have hb:(g == k)=false:=beq_eq_false_iff_ne.mpr h
    simp only [List.lookup,hb,if_neg (λe:g=f=>h (e.trans hk.symm))]
  ·rw [if_neg hk]
   by_cases h:g=k
   ·have hb:(g == k)=true:=beq_iff_eq.mpr h
    simp only [List.lookup,hb,if_neg (λe:g=f=>hk (h.symm.trans e))]
   ·have hb:(g == k)=false:=beq_eq_false_iff_ne.mpr h
    simp only [List.lookup,hb]
    exact ih
theorem ziy (f:Str) (v:V):∀ fs:List (Str×V),f∈(putF f v fs).map (·.1)∧∀ g,g∈fs.map (·.1)->g∈(putF f v fs).map (·.1)
 | []=>⟨by simp [putF],λg h=>by simp at h⟩
 | (k,x) :: r=>by
  obtain ⟨i1,i2⟩:=ziy f v r
  rw [show putF f v ((k,x) :: r)=(if k=f then (k,v)::r else (k,x)::putF f v r) from rfl]
  by_cases hk:k=f
  ·rw [if_pos hk]
   subst hk
   exact ⟨by simp,λg h=>by simpa using h⟩
  ·rw [if_neg hk]
   refine ⟨?_,λg h=>?_⟩
   ·rw [List.map_cons]
    exact ⇑3 _ i1
   ·rw [List.map_cons] at h ⊢
    rcases List.mem_cons.mp h with e | e
    ·exact List.mem_cons.mpr (.inl e)
    ·exact ⇑3 _ (i2 g e)
theorem ziK (f:Str) (v:V):∀ fs:List (Str×V),(putF f v fs).length≤fs.length+1
 | []=>by simp [putF]
 | (k,x) :: r=>by
  have ih:=ziK f v r
  rw [show putF f v ((k,x) :: r)=(if k=f then (k,v)::r else (k,x)::putF f v r) from rfl]
  by_cases hk:k=f
  ·rw [if_pos hk,List.length_cons,List.length_cons];omega
  ·rw [if_neg hk,List.length_cons,List.length_cons];omega
theorem zpg.some_of {v:V} {o:Option Value} (r:zpg (some v) o):∃ u,o=some u∧RelV v u:=by
 cases o with
 | none=>exact (show False from r).elim
 | some u=>exact ⟨u,rfl,r⟩
theorem zpg.none_of {o:Option Value} (r:zpg none o):o=none:=by
 cases o with
 | none=>rfl
 | some u=>exact (show False from r).elim
theorem znA {v:V} {u:Value} (r:RelV v u):W.handedIn u=true:=by
 cases v with
 | non=>cases (show u=Value.none from r);rfl
 | bl b=>cases (show u=Value.bool b from r);rfl
 | int i=>obtain ⟨t,e⟩:=(show ∃ t,u=Value.int i t from r);cases e;rfl
 | str x=>obtain ⟨t,e⟩:=(show ∃ t,u=Value.str x t from r);cases e;rfl
 | byt b=>obtain ⟨t,e⟩:=(show ∃ t,u=Value.bytes b t from r);cases e;rfl
 | flt b=>obtain ⟨t,e⟩:=(show ∃ t,u=Value.float b t from r);cases e;rfl
 | ref a=>cases (show u=Value.ref a from r);rfl
 | ty n=>cases (show u=Value.type n from r);rfl
section
variable {P:Program} {w:World} {H:Hp} {h:Heap} {a C dx:Addr} {fs:List (Str×V)}
theorem zjT (hok:HOk P w H h) (e:H a=some ↑122):∃ mA,ObjM h a dx C mA∧(∀ f,zpg (fs.lookup f) (mA f))∧PySem.Within mA (fs.map (·.1))∧fs.length≤1000∧H dx=some (.own a):=by
 obtain ⟨d,z,ne,ob,mA,n,r,q⟩:=(show zen P w H h a ↑122 from hok a _ e)
 exact ⟨mA,⟨ob,n,ne⟩,r,q,z,d⟩
end
structure Cls (K:W.Frag) (C:Addr):Prop where
 pg:W.plainGet K C Str.empty=true
 hd:W.hasDictIn K C=true
 po:W.plainOver K C=true
 sa:W.findIn K (.ref C) "__setattr__"=some ↑146
theorem Cls.get {K:W.Frag} {C:Addr} (c:Cls K C) (f:Str):W.plainGet K C f=true:=c.pg
def NoAttr (K:W.Frag) (C:Addr) (f:Str):Prop:=W.findIn K (.ref C) f=some none
theorem NoAttr.taker {K:W.Frag} {C:Addr} {f:Str} (n:NoAttr K C f):W.takerIn K C f=some none:=by
 unfold W.takerIn
 rw [show W.findIn K (.ref C) f=some none from n]
 rfl
structure Con (K:W.Frag) (C:Addr) (f:Str) (v:V) (u:Value):Prop where
 at_:W.findIn K (.ref C) f=some (some u)
 rel:RelV v u
 get:W.specialIn K u "__get__"=some none
 cp:W.copiedNames.contains f=false
structure Meth (K:W.Frag) (C:Addr) (m:Str) (f:Addr):Prop where
 at_:W.findIn K (.ref C) m=some (some (.ref f))
 fn:W.isFn K (.ref f)=true
 kp:W.keepIn K (.ref f)=true
section
variable {X:Cx} {pins:List ↥3} {σ:St} {H:Hp} {s:Shared} {a C dx:Addr} {fs:List (Str×V)} {f:Str} {v:V} {A:Around} {E:Value->Shared->Prop}
theorem zmS {b:Bool} {Q:Value->Shared->Prop} (I:Inv X pins σ H s) (e:H a=some ↑122) (c:Cls X.K C) (n:NoAttr X.K C f) (l:fs.lookup f=some v)
  (h:∀ u s',Inv X pins σ H s'->RelV v u->Q u s'):wpAny ↑5 A (getAttr (.ref a) f b) Q E s:=by
 obtain ⟨mA,O,r,_,_,_⟩:=zjT I.hok e
 obtain ⟨u,hu,ru⟩:=zpg.some_of (v:=v) (o:=mA f) (by rw [← l];exact r f)
 exact zrj I.kIn O (c.get f) c.hd n hu (znA ru) (h u _ (I.tok _) ru)
theorem zg6 {m:Str} {g:Addr} {pl:Sem Bool} {Q:Value×List Value->Shared->Prop} (I:Inv X pins σ H s) (e:H a=some ↑122) (c:Cls X.K C) (k:Meth X.K C m g) (l:fs.lookup m=none)
  (h:Q (.ref g,[.ref a]) s):wpAny ↑5 A (getMethod (.ref a) m pl) Q E s:=by
 obtain ⟨mA,O,r,_,_,_⟩:=zjT I.hok e
 have hn:mA m=none:=zpg.none_of (by rw [← l];exact r m)
 exact zpC I.kIn O (c.get m) k.at_ k.fn hn h
theorem zmV {y:V} {u:Value} {Q:Unit->Shared->Prop} (I:Inv X pins σ H s) (e:H a=some ↑122) (c:Cls X.K C) (n:NoAttr X.K C f) (hl:fs.length<1000) (ry:RelV y u)
  (h:∀ s',Inv X pins σ (upd H a (.ins C dx (putF f y fs))) s'->Q () s'):wpAny ↑5 A (setAttr (.ref a) f u) Q E s:=by
 obtain ⟨mA,O,r,wi,_,ho⟩:=zjT I.hok e
 have hz:(fs.map (·.1)).length≤sizeLine:=by rw [List.length_map,sizeLine_eq];omega
 refine zrR I.kIn O c.sa c.po n.taker c.hd wi hz λh' O' sb=>h _ ?_
 have hd:∃ o,h'.get? dx=some o:=let ⟨o,_,_,e',_⟩:=O'.ns;⟨o,e'⟩
 refine I.write (x:=a) (e:=dx) (by rw [e];exact True.intro) (.inr ho) (λb q hb z=>(sb.2 b hb).trans z) hd ?_
 refine ⟨by rw [zaC O.ne];exact ho,?_,O.ne,O'.obj,_,O'.ns,λg=>?_,λg hg=>?_⟩
 ·have:=ziK f y fs;omega
 ·show zpg ((putF f y fs).lookup g) (if g=f then some u else mA g)
  rw [zii]
  by_cases q:g=f
  ·rw [if_pos q,if_pos q];exact ry
  ·rw [if_neg q,if_neg q];exact r g
 ·by_cases q:g=f
  ·rw [q];exact (ziy f y fs).1
  ·refine (ziy f y fs).2 g (wi g λz=>hg ?_)
   show (if g=f then some u else mA g)=none
   rw [if_neg q];exact z
theorem Inv.made (I:Inv X pins σ H s):Inv X pins σ (upd (upd H ⇑2 (.own (⇑2+1))) (⇑2+1) (.ins C ⇑2 []))
  { s with heap:=(↑207).push (W.instObj C ⇑2) }:=by
 have e1:(↑207).get? ⇑2=some W.emptyDict:=Heap.get?_push_size s.heap rfl
 have e2:((↑207).push (W.instObj C ⇑2)).get? (⇑2+1)=some (W.instObj C ⇑2):=by
  have:=Heap.get?_push_size ↑207 (o:=W.instObj C ⇑2) rfl
  rwa [Heap.size_push] at this
 have e3:(↑207).Ns ⇑2 (λ_=>none):=⟨W.emptyDict,#[],_,e1,rfl,(λe he=>absurd he ↥9),λ_=>rfl⟩
 have I1:=I.laid (a:=⇑2) (o:=.own (⇑2+1)) (h':=s.heap.push W.emptyDict) (t':=s.toks) (λb u q=>Heap.get?_push_of_some _ q) (↑4 _) ⟨_,e1⟩
 refine I1.laid (a:=⇑2+1) (o:=.ins C ⇑2 []) (t':=s.toks) (λb u q=>Heap.get?_push_of_some _ q) (Nat.le_of_eq (Heap.size_push _ _)) ?_
 have ne:⇑2≠⇑2+1:=Nat.ne_of_lt (Nat.lt_succ_self _)
 refine ⟨by rw [zaC ne,zaO],Nat.zero_le _,ne,e2,λ_=>none,(Heap.Ns1.of_empty e3).at λo q=>Heap.get?_push_of_some _ q,λ_=>True.intro,λy hy=>absurd rfl hy⟩
theorem zrb {prog:Program} {w:World} {env:Env} {e:Expr} {f:Str} {pos:Pos} {s:Shared} {Q:Value->Shared->Prop} (hb:attributeBase e f env (eval e env)=eval e env)
  (h:wpAny ↑37 A (eval e env) (λo s₁=>wpAny ↑37 A (getAttr o f true) Q E s₁) E s):wpAny ↑37 A (eval (.Attribute e f pos) env) Q E s :=
 Attribute_any_ h (by rw [arm_eval_Attribute,hb])
end
def tFld (K:W.Frag) (ta:TE) (f:Str):TE:=λσ H Q=>ta σ H λx H1=>∃ a C dx fs v,x=.ref a∧H1 a=some ↑122∧Cls K C∧NoAttr K C f∧fs.lookup f=some v∧Q v H1
def zu5 (K:W.Frag) (ta tv:TE) (f:Str):TS:=λD σ H=>tv σ H λy H1=>ta σ H1 λx H2=>∃ a C dx fs,x=.ref a∧H2 a=some ↑122∧Cls K C∧NoAttr K C f∧fs.length<1000 ∧
 D.nx σ (upd H2 a (.ins C dx (putF f y fs)))
section
variable {X:Cx} {o e value:Expr} {f:Str} {pos pos':Pos} {ta tv:TE}
theorem zth (he:PE X e ta) (hb:attributeBase e f X.env (eval e X.env)=eval e X.env):PE X (.Attribute e f pos) (tFld X.K ta f):=by
 intro pins s σ H Q I h
 refine zrb hb (thn ↑136 λu s1 ⟨x,H1,I1,rx,a,C,dx,fs,v,ex,ea,c,n,l,q⟩=>?_)
 subst ex
 obtain rfl:u=Value.ref a:=rx
 exact zmS I1 ea c n l λu' s2 I2 ru=>⟨v,H1,I2,ru,q⟩
theorem zhq (ha:PE X o ta) (hv:PE X value tv) (hs:swapsWith value (some (.Attribute o f pos')) pos.line X.env=pure false):PS X (.Assign [.Attribute o f pos'] value pos) (zu5 X.K ta tv f):=by
 intro pins s σ H D I h
 refine plainObj_wpAny_Assign_Attribute (thn (hv pins s σ H _ I h) λu s1 ⟨y,H1,I1,ry,q⟩=>thn (ha pins s1 σ H1 _ I1 q) λov s2 ⟨x,H2,I2,rx,a,C,dx,fs,ex,ea,c,n,l,q2⟩=>?_) hs
 subst ex
 obtain rfl:ov=Value.ref a:=rx
 exact zmV I2 ea c n l ry λs3 I3=>⟨σ,_,I3,q2⟩
theorem zsc {pl:Sem Bool} {m:Str} {apos:Pos} {args:List Expr} {pins:List ↥3} {s:Shared} {σ:St} {H:Hp} {Q:Value->Shared->Prop} {te:TE} (he:PE X e te) (I:Inv X pins σ H s)
  (h:te σ H λx H1=>∃ a C dx fs g,x=.ref a∧H1 a=some ↑122∧Cls X.K C∧Meth X.K C m g∧fs.lookup m=none ∧
   ∀ s1,Inv X pins σ H1 s1->wpAny ↑5 X.A (callWith pos (.ref g) [.ref a] (backTo pos (starEach args X.env)) ↑192) Q X.xe s1)
  (ht:eval (.Call (.Attribute e m apos) args [] pos) X.env=(do
   let ov ← eval e X.env
   standAt apos.atName
   let (f,first) ← holding [ov] (getMethod ov m pl)
   callWith pos f first (backTo pos (starEach args X.env)) ↑192)) :
  wpAny ↑5 X.A (eval (.Call (.Attribute e m apos) args [] pos) X.env) Q X.xe s:=by
 refine W.methodCall_KW (pl:=pl) (thn ↑136 λu s1 ⟨x,H1,I1,rx,a,C,dx,fs,g,ex,ea,c,k,l,q⟩=>?_) ht
 subst ex
 obtain rfl:u=Value.ref a:=rx
 exact zg6 I1 ea c k l (q s1 I1)
end
section
variable {X:Cx} {pins:List ↥3} {σ:St} {H:Hp} {s:Shared} {A:Around} {E:Value->Shared->Prop} {Q:Value->Shared->Prop} {c:Value} {b:Bool}
inductive TyOf (K:W.Frag) (H:Hp):V->Value->Prop where
 | non:TyOf K H .non (.type "NoneType")
 | bl (x:Bool):TyOf K H (.bl x) (.type "bool")
 | int (i:Int):TyOf K H (.int i) (.type "int")
 | str (x:Str):TyOf K H (.str x) (.type "str")
 | flt (x:UInt64):TyOf K H (.flt x) (.type "float")
 | lst {a:Addr} {xs:List V} (e:H a=some (.lst xs)):TyOf K H (.ref a) (.type "list")
 | frz {a:Addr} {o:Obj} {xs:List V} (e:H a=some (.frz o (.lst xs))):TyOf K H (.ref a) (.type "list")
 | tup {a:Addr} {xs:List V} (e:H a=some (.tup xs)):TyOf K H (.ref a) (.type "tuple")
 | dK {a:Addr} {kvs:List (Key×V)} (e:H a=some (.dK kvs)):TyOf K H (.ref a) (.type "dict")
 | dT {a:Addr} {kvs:List (List Key×V)} (e:H a=some (.dT kvs)):TyOf K H (.ref a) (.type "dict")
 | ins {a C dx:Addr} {fs:List (Str×V)} (e:H a=some ↑122) (cl:Cls K C) (ha:W.findIn K (.ref C) "__class__"=some (some ↑196))
   (hn:W.specialIn K ↑196 "__get__"=some (some (.builtin "getset_descriptor.__get__"))) (htk:W.takesIn K ↑196=some true)
   (hm:W.mroIn K C (.type "object")=some true):TyOf K H (.ref a) (.ref C)
theorem zko {x:V} {u t:Value} (I:Inv X pins σ H s) (rx:RelV x u) (ty:TyOf X.K H x t) (e:W.kitOne X.K t c=some b) (h:∀ tk,Q (.bool b) { s with toks:=tk }) :
  wpAny ↑5 A (call (.builtin "isinstance") [u,c]) Q E s:=by
 cases ty with
 | non=>cases (show u=Value.none from rx);exact W.kia_one W.kitx_none I.kIn True.intro e ↑95 h
 | bl y=>cases (show u=Value.bool y from rx);exact W.kia_one W.kitx_bool I.kIn True.intro e ↑95 h
 | int i=>obtain ⟨t,q⟩:=(show ∃ t,u=Value.int i t from rx);cases q;exact W.kia_one W.kitx_int I.kIn True.intro e ↑95 h
 | str y=>obtain ⟨t,q⟩:=(show ∃ t,u=Value.str y t from rx);cases q;exact W.kia_one W.kitx_str I.kIn True.intro e ↑95 h
 | flt y=>obtain ⟨t,q⟩:=(show ∃ t,u=Value.float y t from rx);cases q;exact W.kia_one W.kitx_float I.kIn True.intro e ↑95 h
 | @lst a xs ea =>
  cases ↑197
  obtain ⟨_,_,n,_,h1⟩:=(show zen X.prog X.w H s.heap a (.lst xs) from I.hok a _ ea)
  exact W.kia_one W.kitx_list I.kIn ⟨_,h1,rfl⟩ e ↑95 h
 | @frz a ob xs ea =>
  cases ↑197
  obtain ⟨_,_,_,n,_,h1⟩:=(show zen X.prog X.w H s.heap a (.frz ob (.lst xs)) from I.hok a _ ea)
  exact W.kia_one W.kitx_list I.kIn ⟨_,h1,rfl⟩ e ↑95 h
 | @tup a xs ea =>
  cases ↑197
  obtain ⟨_,_,_,p⟩:=(show zen X.prog X.w H s.heap a (.tup xs) from I.hok a _ ea)
  obtain ⟨o,h1,h2,_⟩:=p
  exact W.kia_one W.kitx_tuple I.kIn ⟨o,h1,h2⟩ e ↑95 h
 | @dK a kvs ea =>
  cases ↑197
  obtain ⟨_,_,vs,_,p⟩:=(show zen X.prog X.w H s.heap a (.dK kvs) from I.hok a _ ea)
  obtain ⟨o,es,ep,h1,h2,_⟩:=p
  exact W.kia_one W.kitx_dict I.kIn ⟨o,h1,h2.1⟩ e ↑95 h
 | @dT a kvs ea =>
  cases ↑197
  obtain ⟨_,_,xs,_,o,es,ep,h1,h2,_⟩:=(show zen X.prog X.w H s.heap a (.dT kvs) from I.hok a _ ea)
  exact W.kia_one W.kitx_dict I.kIn ⟨o,h1,h2.1⟩ e ↑95 h
 | @ins a C dx fs ea cl ha hn htk hm =>
  cases ↑197
  obtain ⟨mA,O,_⟩:=zjT I.hok ea
  obtain ⟨od,J,_⟩:=O.look
  exact W.kia_one (W.kitx_own (cl.get _) cl.hd ha hn htk hm) I.kIn J e ↑95 h
end
structure Room (k:Nat) (A:Around):Prop where
 hd:A.handled=none
 dp:A.depth+3*k+5<recursionLimit
 un:A.units+16*k+200<cLine
theorem Room.mono {j k:Nat} {A:Around} (r:Room k A) (h:j≤k):Room j A:=⟨r.hd,by have:=r.dp;omega,by have:=r.un;omega⟩
theorem Room.deeper {k:Nat} {A:Around} (r:Room (k+1) A) (env:Env):Room k (A.deeper env) :=
 ⟨r.hd,by have:=r.dp;show A.depth+1+3*k+5<_;omega,by have:=r.un;show A.units+3+16*k+200<_;omega⟩
theorem Room.in1 {k:Nat} {A:Around} (r:Room (k+1) A):Room k A.in1 :=
 ⟨r.hd,by have:=r.dp;show A.depth+3*k+5<_;omega,by have:=r.un;show A.units+1+16*k+200<_;omega⟩
theorem zm5 {A:Around} {C:Addr} {us:List Value} {kw:List (Str×Value)}:(↑259).depth=A.depth+1:=by
 first | rfl | simp [Around.under,Code.weight,Code.isCreation,Code.isGuard,Code.isCaller,Code.frames,Code.isFrame,guardIds]
theorem zm6 {A:Around} {C:Addr} {us:List Value} {kw:List (Str×Value)}:(↑259).units=A.units+1:=by
 first | rfl | simp [Around.under,Code.cUnits,Code.frames,Code.isFrame]
theorem Room.make {k:Nat} {A:Around} (r:Room (k+1) A) (C:Addr) (us:List Value) (kw:List (Str×Value)):Room k ↑259 :=
 ⟨r.hd,by have:=r.dp;rw [zm5];omega,by have:=r.un;rw [zm6];omega⟩
theorem Room.depth {k:Nat} {A:Around} (r:Room k A):A.depth<recursionLimit:=by have:=r.dp;omega
theorem Room.units {k:Nat} {A:Around} (r:Room k A):A.units+64<cLine:=by have:=r.un;omega
def tNil:TA:=λ_ H Q=>Q [] H
def tCons (ta:TE) (tr:TA):TA:=λσ H Q=>ta σ H λx H1=>tr σ H1 λxs H2=>Q (x :: xs) H2
section
variable {X:Cx} {e:Expr} {es:List Expr} {te:TE} {t:TA} {pos:Pos}
theorem zem:PA X [] tNil:=λ_ _ _ _ H Q I h=>Calls.spliced_nil ⟨[],H,I,.nil,h⟩
theorem zbZ (ha:PE X e te) (hr:PA X es t) (hs:starEach (e::es) X.env=(false,eval e X.env) :: starEach es X.env:=by rfl):PA X (e::es) (tCons te t):=by
 intro pos pins s σ H Q I h
 rw [hs]
 show wpAny _ _ (spliced ((false,eval e X.env) :: backTo pos (starEach es X.env))) _ _ s
 refine Calls.spliced_cons (thn ↑135 λu s1 ⟨x,H1,I1,r1,q1⟩=>?_)
 exact thn (hr pos pins s1 σ H1 _ I1 q1) λus s2 ⟨xs,H2,I2,r2,q2⟩=>⟨x :: xs,H2,I2,.cons r1 r2,q2⟩
def zv8 (t:TA):TE:=λσ H Q=>t σ H λxs H1=>xs.length≤sizeLine∧∀ p,H1 p=none->Q (.ref p) (upd H1 p (.tup xs))
def zu4 (t:TA):TE:=λσ H Q=>t σ H λxs H1=>xs.length≤sizeLine∧∀ p,H1 p=none->Q (.ref p) (upd H1 p (.lst xs))
theorem zhg {x1} (h:PA X es t):PE X (.Tuple es x1 pos) (zv8 t):=by
 intro pins s σ H Q I hq
 refine wpAny_Tuple_spliced (thn (h pos pins s σ H _ I hq) λus s1 ⟨xs,H1,I1,r,z,q⟩=>⟨by rw [←r.length];exact z,?_⟩)
 have hf:H1 s1.heap.objs.size=none:=I1.hok.fresh (↑4 _)
 refine ⟨.ref s1.heap.objs.size,upd H1 s1.heap.objs.size (.tup xs),I1.laid (t':=s1.toks) (λb u e=>Heap.get?_push_of_some _ e) (↑4 _) ?_,rfl,q _ hf⟩
 exact ⟨z,us,r,⟨_,Heap.get?_push_size _ rfl,rfl,_,rfl⟩⟩
theorem zca (h:PA X es t):PE X (.List es pos) (zu4 t):=by
 intro pins s σ H Q I hq
 refine wpAny_List_spliced (thn (h pos pins s σ H _ I hq) λus s1 ⟨xs,H1,I1,r,z,q⟩=>⟨by rw [←r.length];exact z,?_⟩)
 have hf:H1 s1.heap.objs.size=none:=I1.hok.fresh (↑4 _)
 refine ⟨.ref s1.heap.objs.size,upd H1 s1.heap.objs.size (.lst xs),I1.laid (t':=s1.toks) (λb u e=>Heap.get?_push_of_some _ e) (↑4 _) ?_,rfl,q _ hf⟩
 exact ⟨z,us,0,r,Heap.get?_push_size _ rfl⟩
end
abbrev Sp:=List V->Hp->VK->XK->Prop
abbrev CXT:=List Env->Hp->Shared->XK->Value->Shared->Prop
structure Env0 (P:Program) (w:World) (K:W.Frag) (mg:Str->Option Value) (base:Heap) (A:Around) (outer:List Env) (s:Shared) (H:Hp):Prop where
 frames:A.frames=some outer
 mod:Mod K mg base
 bs:∀ b o,base.get? b=some o->s.heap.get? b=some o∧H b=none
 bsz:base.objs.size≤⇑2
 funs:s.heap.FunFrames base outer
 frf:∀ b∈frs outer,H b=none
 hok:HOk P w H s.heap
 bare:AllBare s.gens
def CE (outer:List Env) (P:Program) (w:World) (H:Hp) (s:Shared) (Q:VK) (u:Value) (s':Shared):Prop :=
 ∃ v H',s'.os=s.os∧AllBare s'.gens∧Un (frs outer) [] H H' s.heap s'.heap∧HOk P w H' s'.heap∧RelV v u∧Q v H'
def CR (CX:CXT) (outer:List Env) (P:Program) (w:World) (H:Hp) (s:Shared) (Q:VK) (E:XK) (r:Result) (s':Shared):Prop :=
 match r with
 | .ok (.ret u)=>CE outer P w H s Q u s'
 | .ok _=>False
 | .error e=>CX outer H s E e s'
structure FnOk (P:Program) (w:World) (K:W.Frag) (mg:Str->Option Value) (base:Heap) (CX:CXT) (k:Nat) (f:Addr) (fd:FuncData) (ps:List Str) (sp:Sp):Prop where
 len:∀ vs H Q E,sp vs H Q E->vs.length=ps.length
 run:∀ (A:Around) (outer:List Env) (s:Shared) (H:Hp) (args:Args) (us:List Value) (vs:List V) (Q:VK) (E:XK),Room k A->Env0 P w K mg base A outer s H->BindsTo s fd args (ps.zip us)->zcg vs us->sp vs H Q E →
  codeAny (model P w) A (.call (.ref f) args) (CR CX outer P w H s Q E) s
theorem FnOk.imp {P:Program} {w:World} {K:W.Frag} {mg:Str->Option Value} {base:Heap} {CX:CXT} {k:Nat} {f:Addr} {fd:FuncData} {ps:List Str} {sp sp':Sp} (F:FnOk P w K mg base CX k f fd ps sp)
  (h:∀ vs H Q E,sp' vs H Q E->sp vs H Q E):FnOk P w K mg base CX k f fd ps sp' :=
 ⟨λvs H Q E q=>F.len vs H Q E (h _ _ _ _ q),λA outer s H args us vs Q E hr he hb hv hs=>F.run A outer s H args us vs Q E hr he hb hv (h _ _ _ _ hs)⟩
theorem Env0.make {P:Program} {w:World} {K:W.Frag} {mg:Str->Option Value} {base:Heap} {A:Around} {outer:List Env} {s:Shared} {H:Hp} (e:Env0 P w K mg base A outer s H) (C:Addr) (us:List Value) (kw:List (Str×Value)) :
  Env0 P w K mg base ↑259 outer s H:=⟨by first | exact e.frames | (simpa [Around.under,Code.envs,Code.isFrame,pushEnvs] using e.frames),e.mod,e.bs,e.bsz,e.funs,e.frf,e.hok,e.bare⟩
theorem Env0.in1 {P:Program} {w:World} {K:W.Frag} {mg:Str->Option Value} {base:Heap} {A:Around} {outer:List Env} {s:Shared} {H:Hp} (e:Env0 P w K mg base A outer s H) :
  Env0 P w K mg base A.in1 outer s H:=⟨e.frames,e.mod,e.bs,e.bsz,e.funs,e.frf,e.hok,e.bare⟩
section
variable {X:Cx} {pins:List ↥3} {σ:St} {H:Hp} {s s':Shared}
theorem Inv.env0 (I:Inv X pins σ H s):Env0 X.prog X.w X.K X.mg X.base X.A X.stack s H :=
 ⟨I.ok.frames,I.ok.mod,I.bs,⇑6 I.ok.bsz I.sz,I.stack,I.stkFree,I.hok,I.bare⟩
theorem Inv.after {Q:VK} {u:Value} (I:Inv X pins σ H s) (h:CE X.stack X.prog X.w H s Q u s'):EP X pins σ Q u s':=by
 obtain ⟨v,H',os,bare,un,hok,r,q⟩:=h
 obtain ⟨hh,g,d,t,os'⟩:=s'
 obtain rfl:os'=s.os:=os
 exact ⟨v,H',I.call (h':=hh) (g':=g) (d':=d) (t':=t) (ch:=[]) un hok bare (λb z=>absurd z ↥9),r,q⟩
end
def tCall (sp:Sp) (dvs:List V) (E:XK) (t:TA):TE:=λσ H Q=>t σ H λvs H1=>sp (vs++dvs) H1 Q E
def zo1 (C:Addr) (m:Str) (sp:Sp) (dvs:List V) (E:XK) (ta:TE) (t:TA):TE:=λσ H Q=>ta σ H λx H1=>∃ a dx fs,x=.ref a∧H1 a=some ↑122∧fs.lookup m=none ∧
 t σ H1 λvs H2=>sp (x :: (vs++dvs)) H2 Q E
def zpW (C:Addr) (sp:Sp) (dvs:List V) (E:XK) (t:TA):TE:=λσ H Q=>t σ H λvs H1=>∀ x dx,H1 x=none->H1 dx=none->dx≠x →
 sp (.ref x :: (vs++dvs)) (upd (upd H1 dx (.own x)) x (.ins C dx [])) (λv H2=>v=.non∧Q (.ref x) H2) E
def zf5 (K:W.Frag) (fd:FuncData) (ps:List Str) (ds:List Value):Prop :=
 ∀ (s:Shared) (us:List Value),K.In s.heap->(us++ds).length=ps.length->BindsTo s fd ⟨us,[]⟩ (ps.zip (us++ds))
theorem zf5.all {K:W.Frag} {fd:FuncData} {ps:List Str} (h:∀ us:List Value,us.length=ps.length->bindArgs fd ⟨us,[]⟩=pure (ps.zip us)):zf5 K fd ps []:=λs us _ hl=>by
 rw [List.append_nil] at hl ⊢
 exact .of_eq (h us hl)
def zf8 (CX:CXT) (X:Cx) (E:XK):Prop:=∀ (pins:List ↥3) (σ:St) (H:Hp) (s:Shared) (e:Value) (s':Shared),Inv X pins σ H s->CX X.stack H s E e s'->X.xe e s'
section
variable {X:Cx} {CX:CXT} {k:Nat} {f C:Addr} {fd:FuncData} {ps:List Str} {sp:Sp} {dvs:List V} {ds:List Value} {E:XK} {x m:Str} {p pos apos:Pos} {e o:Expr} {es:List Expr} {ta:TE} {t:TA}
theorem znN {pins:List ↥3} {σ:St} {H:Hp} {s:Shared} {Q:VK} {us:List Value} {vs:List V} (F:FnOk X.prog X.w X.K X.mg X.base CX k f fd ps sp) (hr:Room k X.A) (hb:zf5 X.K fd ps ds) (hd:zcg dvs ds) (hx:zf8 CX X E)
  (I:Inv X pins σ H s) (r:zcg vs us) (h:sp (vs++dvs) H Q E):wpAny ↑5 X.A (call (.ref f) us) ↑86 X.xe s:=by
 have r2:zcg (vs++dvs) (us++ds):=r.append hd
 have hl:(us++ds).length=ps.length:=by rw [← r2.length];exact F.len _ _ _ _ h
 refine wpAny_call (codeAny_mono (F.run X.A X.stack s H ⟨us,[]⟩ (us++ds) (vs++dvs) Q E hr I.env0 (hb s us I.kIn hl) r2 h) λr s' hq=>?_)
 cases r with
 | error e=>exact hx pins σ H s e s' I hq
 | ok fl =>
  cases fl with
  | ret u=>exact I.after hq
  | next=>exact False.elim hq
  | brk=>exact False.elim hq
  | cont=>exact False.elim hq
theorem zq2 (F:FnOk X.prog X.w X.K X.mg X.base CX k f fd ps sp) (hr:Room k X.A) (hg:Gl X x) (hm:X.mg x=some (.ref f)) (hk:W.keepIn X.K (.ref f)=true) (hb:zf5 X.K fd ps ds) (hd:zcg dvs ds) (hx:zf8 CX X E)
  (ha:PA X (e::es) t) (hdb:↑100=false:=by decide) (he:starEach (e::es) X.env=(false,eval e X.env) :: starEach es X.env:=by rfl) (hpl:(↑148).any (·.1)=false:=by rfl) :
  PE X (.Call (.Name x p) (e::es) [] pos) (tCall sp dvs E t):=by
 intro pins s σ H Q I h
 refine wpAny_Call_Name_kw (zls I hg hm ?_ hdb)
 refine W.callWith_K (h₀:=X.base) I.ok.mod.kin hk (thn (ha pos pins s σ H _ I h) λus s1 ⟨vs,H1,I1,r,q⟩=>⟨I1.kIn,?_⟩) he hpl
 exact znN F hr hb hd hx I1 r q
theorem zsl {pl:Sem Bool} (he:PE X o ta) (c:Cls X.K C) (hm:Meth X.K C m f) (F:FnOk X.prog X.w X.K X.mg X.base CX k f fd ps sp) (hr:Room k X.A) (hb:zf5 X.K fd ps ds) (hd:zcg dvs ds) (hx:zf8 CX X E) (ha:PA X (e::es) t)
  (hst:starEach (e::es) X.env=(false,eval e X.env) :: starEach es X.env:=by rfl) (hpl:(↑148).any (·.1)=false:=by rfl)
  (ht:eval (.Call ↑154 (e::es) [] pos) X.env=(do
   let ov ← eval o X.env
   standAt apos.atName
   let (f,first) ← holding [ov] (getMethod ov m pl)
   callWith pos f first (backTo pos (starEach (e::es) X.env)) ↑192):=by rfl) :
  PE X (.Call ↑154 (e::es) [] pos) (zo1 C m sp dvs E ta t):=by
 intro pins s σ H Q I h
 refine W.methodCall_KW (pl:=pl) (thn ↑136 λu s1 ⟨x,H1,I1,rx,a,dx,fs,ex,ea,l,q⟩=> ?_) ht
 subst ex
 obtain rfl:u=Value.ref a:=rx
 refine zg6 I1 ea c hm l ?_
 refine W.callWith_K (first:=[.ref a]) (h₀:=X.base) I.ok.mod.kin hm.kp (thn (ha pos pins s1 σ H1 _ I1 q) λus s2 ⟨vs,H2,I2,r,q2⟩=>⟨I2.kIn,?_⟩) hst hpl
 exact znN (us:=.ref a :: us) (vs:=.ref a :: vs) F hr hb hd hx I2 (.cons rfl r) q2
theorem zqi {pl:Sem Bool} (he:PE X o ta) (c:Cls X.K C) (hm:Meth X.K C m f) (F:FnOk X.prog X.w X.K X.mg X.base CX k f fd ps sp) (hr:Room k X.A) (hb:zf5 X.K fd ps ds) (hd:zcg dvs ds) (hx:zf8 CX X E)
  (ht:eval (.Call ↑154 [] [] pos) X.env=(do
   let ov ← eval o X.env
   standAt apos.atName
   let (f,first) ← holding [ov] (getMethod ov m pl)
   callWith pos f first (backTo pos (starEach [] X.env)) ↑192):=by rfl) :
  PE X (.Call ↑154 [] [] pos) (zo1 C m sp dvs E ta tNil):=by
 intro pins s σ H Q I h
 refine W.methodCall_KW (pl:=pl) (thn ↑136 λu s1 ⟨x,H1,I1,rx,a,dx,fs,ex,ea,l,q⟩=> ?_) ht
 subst ex
 obtain rfl:u=Value.ref a:=rx
 refine zg6 I1 ea c hm l ?_
 exact W.callWith_K0 (first:=[.ref a]) I1.kIn hm.kp (znN (us:=[.ref a]) (vs:=[.ref a]) F hr hb hd hx I1 (.cons rfl .nil) q)
structure Mk (K:W.Frag) (C f:Addr):Prop where
 makes:W.makesIn K C=true
 init:W.findIn K (.ref C) "__init__"=some (some (.ref f))
 fn:W.isFn K (.ref f)=true
 kp:W.keepIn K (.ref C)=true
theorem zp8 {pins:List ↥3} {σ:St} {H:Hp} {s:Shared} {Q:VK} {us:List Value} {vs:List V} (M:Mk X.K C f) (F:FnOk X.prog X.w X.K X.mg X.base CX k f fd ps sp) (hr:Room (k+1) X.A) (hb:zf5 X.K fd ps ds) (hd:zcg dvs ds)
  (hx:zf8 CX X E) (I:Inv X pins σ H s) (r:zcg vs us)
  (h:∀ x dx,H x=none->H dx=none->dx≠x->sp (.ref x :: (vs++dvs)) (upd (upd H dx (.own x)) x (.ins C dx [])) (λv H2=>v=.non∧Q (.ref x) H2) E) :
  wpAny ↑5 X.A (call (.ref C) us) ↑86 X.xe s:=by
 have hq:=h (⇑2+1) ⇑2 (I.hok.fresh (Nat.le_succ _)) (I.hok.fresh (↑4 _)) (Nat.ne_of_lt (Nat.lt_succ_self _))
 have I2:=Inv.made (C:=C) I
 have r2:zcg (V.ref (⇑2+1) :: (vs++dvs)) (Value.ref (⇑2+1) :: (us++ds)):=.cons rfl (r.append hd)
 have hl:(Value.ref (⇑2+1) :: us++ds).length=ps.length:=by
  have e:=r2.length
  rw [F.len _ _ _ _ hq] at e
  exact e.symm
 refine wpAny_call (zpy (f:=f) I.kIn M.makes M.init (beq_iff_eq.mp M.fn) (codeAny_mono (F.run _ X.stack _ _ ⟨Value.ref (⇑2+1) :: us,[]⟩ (Value.ref (⇑2+1) :: (us++ds)) _ _ E (hr.make C us [])
  (I2.env0.make C us []) (hb _ (Value.ref (⇑2+1) :: us) I2.kIn hl) r2 hq) λr s' hq'=>?_))
 cases r with
 | error e=>exact hx pins σ _ _ e s' I2 hq'
 | ok fl =>
  cases fl with
  | ret u =>
   obtain ⟨v,H',I3,rv,ev,q3⟩:=I2.after hq'
   subst ev
   exact ⟨rv,⟨V.ref (⇑2+1),H',I3,rfl,q3⟩⟩
  | next=>exact False.elim hq'
  | brk=>exact False.elim hq'
  | cont=>exact False.elim hq'
theorem zjP (M:Mk X.K C f) (F:FnOk X.prog X.w X.K X.mg X.base CX k f fd ps sp) (hr:Room (k+1) X.A) (hg:Gl X x) (hm:X.mg x=some (.ref C)) (hb:zf5 X.K fd ps ds) (hd:zcg dvs ds) (hx:zf8 CX X E)
  (ha:PA X (e::es) t) (hdb:↑100=false:=by decide) (he:starEach (e::es) X.env=(false,eval e X.env) :: starEach es X.env:=by rfl) (hpl:(↑148).any (·.1)=false:=by rfl) :
  PE X (.Call (.Name x p) (e::es) [] pos) (zpW C sp dvs E t):=by
 intro pins s σ H Q I h
 refine wpAny_Call_Name_kw (zls I hg hm ?_ hdb)
 refine W.callWith_K (h₀:=X.base) I.ok.mod.kin M.kp (thn (ha pos pins s σ H _ I h) λus s1 ⟨vs,H1,I1,r,q⟩=>⟨I1.kIn,?_⟩) he hpl
 exact zp8 M F hr hb hd hx I1 r q
end
section
variable {fd:FuncData} {ps ks:List Str}
structure KBinds (K:W.Frag) (fd:FuncData) (ps ks:List Str) (g:List Value->List Value->List Value) (gV:List V->List V->List V):Prop where
 to:∀ (s:Shared) (us ws:List Value),K.In s.heap->(g us ws).length=ps.length->BindsTo s fd ⟨us,ks.zip ws⟩ (ps.zip (g us ws))
 rel:∀ {vs:List V} {us:List Value} {zs:List V} {ws:List Value},zcg vs us->zcg zs ws->zcg (gV vs zs) (g us ws)
end
structure FnScope (N P:List Str) (sc:Scope):Prop where
 kind:sc.kind=.function
 co:sc.isCoroutine=false
 gen:sc.isGenerator=false
 nd:N.Nodup
 pre:N.take P.length=P
 par:∀ x∈P,sc.names.lookup x=some .local∨sc.names.lookup x=some .cell
 nofree:∀ y∈sc.names,y.2≠.free
theorem zke {kindOf:Str->Option NameKind} {x:Str}:∀ {binds:List (Str×Value)} {m:Str->Option Value},(∀ v,(x,v) ∉ binds)->bindL kindOf binds m x=m x
 | [],_,_=>rfl
 | (n,v) :: r,m,h=>by
  unfold bindL
  rw [zke λw hw=>h w (⇑3 _ hw)]
  split
  ·have:x≠n:=by rintro rfl;exact h v ↑3
   simp [this]
  ·rfl
theorem zkm {kindOf:Str->Option NameKind} {x:Str}:∀ {binds:List (Str×Value)} {m:Str->Option Value},(∀ v,(x,v) ∉ binds)->bindC kindOf binds m x=m x
 | [],_,_=>rfl
 | (n,v) :: r,m,h=>by
  unfold bindC
  rw [zkm λw hw=>h w (⇑3 _ hw)]
  split
  ·rfl
  ·have:x≠n:=by rintro rfl;exact h v ↑3
   simp [this]
theorem zkE {kindOf:Str->Option NameKind} {x:Str} {v:Value}:∀ {P:List Str} {vs:List Value} {i:Nat} {m:Str->Option Value},P.Nodup->P[i]?=some x->vs[i]?=some v->kindOf x=some .local →
  bindL kindOf (P.zip vs) m x=some v
 | [],_,_,_,_,h,_,_=>by simp at h
 | _ :: _,[],_,_,_,_,h,_=>by simp at h
 | p :: P,w :: vs,0,m,nd,h1,h2,hk=>by
  simp at h1 h2;subst h1;subst h2
  show bindL kindOf ((p,w)::P.zip vs) m p=_
  unfold bindL
  rw [zke λv hv=>((List.nodup_cons.mp nd)).1 (List.of_mem_zip hv).1,if_pos hk]
  simp
 | p :: P,w :: vs,i+1,m,nd,h1,h2,hk=>by
  show bindL kindOf ((p,w)::P.zip vs) m x=_
  unfold bindL
  exact zkE (i:=i) ((List.nodup_cons.mp nd)).2 (by simpa using h1) (by simpa using h2) hk
theorem zkz {kindOf:Str->Option NameKind} {x:Str} {v:Value}:∀ {P:List Str} {vs:List Value} {i:Nat} {m:Str->Option Value},P.Nodup->P[i]?=some x->vs[i]?=some v->kindOf x≠some .local →
  bindC kindOf (P.zip vs) m x=some v
 | [],_,_,_,_,h,_,_=>by simp at h
 | _ :: _,[],_,_,_,_,h,_=>by simp at h
 | p :: P,w :: vs,0,m,nd,h1,h2,hk=>by
  simp at h1 h2;subst h1;subst h2
  show bindC kindOf ((p,w)::P.zip vs) m p=_
  unfold bindC
  rw [zkm λv hv=>((List.nodup_cons.mp nd)).1 (List.of_mem_zip hv).1,if_neg hk]
  simp
 | p :: P,w :: vs,i+1,m,nd,h1,h2,hk=>by
  show bindC kindOf ((p,w)::P.zip vs) m x=_
  unfold bindC
  exact zkz (i:=i) ((List.nodup_cons.mp nd)).2 (by simpa using h1) (by simpa using h2) hk
def start (N:List Str) (vs:List V):St:=vs.map some++List.replicate (N.length-vs.length) none
def zqs (CX:CXT) (P:Program) (w:World) (K:W.Frag) (mg:Str->Option Value) (base:Heap) (N:List Str) (qual:Str) (scope:Scope) (f:Addr) (cd:Value) (A:Around) (outer:List Env) (s:Shared) (H:Hp) (E:XK):Cx where
 prog:=P
 w:=w
 K:=K
 mg:=mg
 base:=base
 A:=A.deeper ↑239
 N:=N
 s₀:=s
 H₀:=H
 env:=envOfC qual scope ⇑2 f cd
 outer:=outer
 stack:=envOfC qual scope ⇑2 f cd :: outer
 ex:=[]
 calm:=true
 fn:=λ_=>true
 pn:=[]
 xe:=λe s'=>wpAny (model P w) (A.deeper ↑239) (leaving ↑239 e) (λ_ s''=>CX outer H s E e s'') (λe' s''=>CX outer H s E e' s'') s'
theorem zl3 {sc:Scope} {n:Nat} {x:Str} (h:sc.names.lookup x=some .cell):∃ c,(cellsFrom n sc.names []).lookup x=some c:=by
 have q:=W.cellsFrom_some sc.names n [] (.inl h)
 exact Option.isSome_iff_exists.mp q
theorem znu {CX:CXT} {P:Program} {w:World} {K:W.Frag} {mg:Str->Option Value} {base:Heap} {N ps:List Str} {qual:Str} {scope:Scope} {f:Addr} {cd:Value} {A:Around} {outer:List Env} {s s1:Shared} {H:Hp} {E:XK} {us:List Value} {vs:List V}
  (S:FnScope N ps scope) (hd:A.handled=none) (e0:Env0 P w K mg base A outer s H) (hl:vs.length=ps.length) (r:zcg vs us)
  (x:InCallC s ⇑2 (bindL (↑239).kindOf (ps.zip us) λ_=>none) (cellsFrom (⇑2+1) scope.names []) (bindC (↑239).kindOf (ps.zip us) λ_=>none) s1) :
  Inv (zqs CX P w K mg base N qual scope f cd A outer s H E) [] (start N vs) H s1:=by
 have hpl:ps.length≤N.length:=by have:=congrArg List.length S.pre;rw [List.length_take] at this;omega
 obtain ⟨h1,tk,rfl,hk⟩:=x.done
 have noA:∀ b:Addr,b ∉ ((zqs CX P w K mg base N qual scope f cd A outer s H E)).ex:=λb z=>absurd (show b∈([]:List Addr) from z) ↥9
 refine ⟨⟨e0.mod,S.kind,rfl,rfl,↑4 _,λy z c h1 h2=>?_,λy hy=>?_,λy c _ h=>?_,λ_=>hd,Around.frames_deeper e0.frames,.inr ⟨rfl,rfl⟩,λb z=>absurd z (noA b),e0.bs,e0.bsz,λb _ _=>noA b,λb z=>absurd z (noA b),e0.funs,e0.frf⟩,
  rfl,e0.bare,Un.kept hk,⟨_,x.toInCall.ns,λi y v h1 h2 h3=>?_⟩,λy c h=>⟨_,x.cell y c h⟩,e0.hok.fresh (↑4 _),λy c h=>?_,λp hp=>absurd (show p∈([]:List ↥3) from hp) ↥9,e0.hok.kept hk,?_⟩
 ·exact name_of_addr x.apart (PySem.mem_of_lookup h1) (PySem.mem_of_lookup h2)
 ·have hy:scope.names.lookup y=some .cell∨scope.names.lookup y=some .free:=hy
  rcases hy with hy | hy
  ·exact zl3 hy
  ·exact absurd rfl (S.nofree _ (PySem.mem_of_lookup hy))
 ·exact Nat.le_of_lt (x.above y c (PySem.mem_of_lookup h))
 ·have hi:i<vs.length:=by
   unfold start at h2
   by_cases hi:i<vs.length
   ·exact hi
   ·rw [List.getElem?_append_right ↑93] at h2
    rw [List.getElem?_replicate] at h2
    split at h2<;>cases h2
  have ha:vs[i]?=some v:=by
   unfold start at h2
   rw [List.getElem?_append_left ↑93,List.getElem?_map] at h2
   cases e:vs[i]? with
   | none=>rw [e] at h2;cases h2
   | some a=>rw [e] at h2;cases h2;rfl
  obtain ⟨u,hu,rv⟩:=r.get ha
  have hp:ps[i]?=some y:=by
   rw [← S.pre,List.getElem?_take_of_lt ⇑0];exact h1
  have ndP:ps.Nodup:=by rw [← S.pre];exact S.nd.sublist (List.take_sublist _ _)
  refine ⟨u,rv,?_⟩
  rcases S.par y (List.mem_of_getElem? hp) with k | k
  ·exact .inl ⟨k,zkE ndP hp hu k⟩
  ·obtain ⟨c,e⟩:=zl3 (n:=⇑2+1) k
   refine .inr ⟨.inl k,c,e,?_⟩
   have q:=x.cell y c e
   rw [zkz ndP hp hu (by show scope.names.lookup y≠_;rw [k];decide)] at q
   exact q
 ·exact e0.hok.fresh (Nat.le_of_lt (x.above y c (PySem.mem_of_lookup h)))
 ·unfold start
  show _=N.length
  rw [List.length_append,List.length_map,List.length_replicate]
  omega
theorem zuM {CX:CXT} {P:Program} {w:World} {K:W.Frag} {mg:Str->Option Value} {base:Heap} {k:Nat} {f:Addr} {name qual:Str} {params:Arguments} {body:List Stmt} {scope:Scope} {dV kV doc pm cdv ct oc:Value} {an od:Option Addr}
  {osl:Array (Option Value)} {N ps:List Str} {sp:Sp} (lk:K.lookup f=some ⟨oc,od,.func (W.fnOf name qual params body scope dV kV doc pm an cdv ct),osl⟩) (hcd:W.codeIn K cdv qual=true) (S:FnScope N ps scope)
  (len:∀ vs H Q E,sp vs H Q E->vs.length=ps.length)
  (hbody:∀ (A:Around) (outer:List Env) (s:Shared) (H:Hp) (vs:List V) (Q:VK) (E:XK),Room k (A.deeper (envOfC qual scope ⇑2 f cdv))->sp vs H Q E →
   ∃ t,PSs (zqs CX P w K mg base N qual scope f cdv A outer s H E) body t∧t { nx:=λ_ H'=>Q .non H',rt:=Q } (start N vs) H) :
  FnOk P w K mg base CX (k+1) f (W.fnOf name qual params body scope dV kV doc pm an cdv ct) ps sp:=by
 refine ⟨len,λA outer s H args us vs Q E hr e0 hb r hsp=>?_⟩
 have hl:=len _ _ _ _ hsp
 have KX:K.In s.heap:=e0.mod.kin.keeps λb o e=>(e0.bs b o e).1
 have lim:s.heap.NoLimit:=e0.mod.nolimit.keeps λb o e=>(e0.bs b o e).1
 have hkind:∀ y∈ps.zip us,scope.names.lookup y.1=some .local∨(scope.names.lookup y.1=some .cell∧((cellsFrom (⇑2+1) scope.names []).lookup y.1).isSome=true):=λ⟨n,v⟩ hy=>by
  rcases S.par n (List.of_mem_zip hy).1 with q | q
  ·exact .inl q
  ·exact .inr ⟨q,W.cellsFrom_some _ _ _ (.inl q)⟩
 refine codeAny_call_function hr.depth (KX _ _ lk) rfl S.co S.gen rfl (W.codeRec_of KX hcd) (hb _ _ _ _ ?_)
 refine wpAny_newFunctionEnv_cells S.kind hkind λenv he s1 x=>?_
 subst he
 refine ⟨lim.keeps x.toInCall.keep,codeAny_func ?_⟩
 obtain ⟨t,ht,hq⟩:=hbody A outer s H vs Q E (hr.deeper _) hsp
 have I:Inv (zqs CX P w K mg base N qual scope f cdv A outer s H E) [] (start N vs) H s1:=znu S hr.hd e0 hl r x
 refine wpAny_mono (ht [] s1 (start N vs) H _ I hq) (λfl s' hs=>?_) λe s' hs=>hs
 have fin:∀ {σ':St} {H':Hp} {v:V} {u:Value},Inv (zqs CX P w K mg base N qual scope f cdv A outer s H E) [] σ' H' s'->RelV v u->Q v H'->CE outer P w H s Q u s' :=
  λ{σ' H' v u} J rv q=>⟨v,H',J.os,J.bare,J.base,J.hok,rv,q⟩
 cases fl with
 | ret u =>
  obtain ⟨v,σ',H',J,rv,q⟩:=hs
  exact fin J rv q
 | next =>
  obtain ⟨σ',H',J,q⟩:=hs
  exact fin (v:=V.non) (u:=Value.none) J rfl q
 | brk =>
  obtain ⟨_,_,_,q⟩:=hs
  exact False.elim q
 | cont =>
  obtain ⟨_,_,_,q⟩:=hs
  exact False.elim q
section
variable {X:Cx} {x:Str} {p pos:Pos} {e:Expr} {es:List Expr} {t:TA} {id T:String} {r:List V->Hp->VK->Prop}
def tCB (r:List V->Hp->VK->Prop) (t:TA):TE:=λσ H Q=>t σ H λvs H1=>r vs H1 Q
theorem zaz (hc:zga X (.builtin id) r) (hg:Gl X x) (hm:X.mg x=none) (hv:bootBuiltins x=some (.builtin id)) (ha:PA X (e::es) t) (hn:x≠"__name__":=by decide) (hdb:↑100=false:=by decide)
  (he:starEach (e::es) X.env=(false,eval e X.env) :: starEach es X.env:=by rfl) (hpl:(↑148).any (·.1)=false:=by rfl):PE X (.Call (.Name x p) (e::es) [] pos) (tCB r t):=by
 intro pins s σ H Q I h
 refine wpAny_Call_Name_kw (zh3 I hg hm hv ?_ hn hdb)
 exact PyProof.Rows.callWith_builtin1 (thn (ha pos pins s σ H _ I h) λus s1 ⟨vs,H1,I1,r1,q1⟩=>hc pins s1 σ H1 vs us Q I1 r1 q1) he hpl
theorem zc3 (hc:zga X (.type T) r) (hg:Gl X x) (hm:X.mg x=none) (hv:bootBuiltins x=some (.type T)) (ha:PA X (e::es) t) (hn:x≠"__name__":=by decide) (hdb:↑100=false:=by decide)
  (he:starEach (e::es) X.env=(false,eval e X.env) :: starEach es X.env:=by rfl) (hpl:(↑148).any (·.1)=false:=by rfl):PE X (.Call (.Name x p) (e::es) [] pos) (tCB r t):=by
 intro pins s σ H Q I h
 refine wpAny_Call_Name_kw (zh3 I hg hm hv ?_ hn hdb)
 exact PyProof.Rows.callWith_type1 (thn (ha pos pins s σ H _ I h) λus s1 ⟨vs,H1,I1,r1,q1⟩=>hc pins s1 σ H1 vs us Q I1 r1 q1) he hpl
end
end L2
namespace HT
open PySem PyProof.Rows
section
def sIx (n d:Nat):Option Int->Nat
 | none=>d
 | some v=>if v<0 then (v+(n:Int)).toNat else min v.toNat n
theorem sIx_none (n d:Nat):sIx n d none=d:=rfl
theorem sIx_nat (n d k:Nat):sIx n d (some (k:Int))=min k n:=by
 show (if (k:Int)<0 then ((k:Int)+(n:Int)).toNat else min (k:Int).toNat n)=min k n
 rw [if_neg ⇑0,Int.toNat_natCast]
end
end HT
namespace L2
open PySem PySem.Spec PyProof.Rows
abbrev TO:=St->Hp->(Option Int->Hp->Prop)->Prop
def PO (X:Cx) (e:Option Expr) (t:TO):Prop :=
 ∀ (pins:List ↥3) (s:Shared) (σ:St) (H:Hp) (Q:Option Int->Hp->Prop),Inv X pins σ H s->t σ H Q →
  wpAny ↑5 X.A (evalPart e X.env) (λu s'=>∃ o H',Inv X pins σ H' s'∧IsPart u o∧Q o H') X.xe s
def zoX:TO:=λ_ H Q=>Q none H
def ztC (t:TE):TO:=λσ H Q=>t σ H λx H1=>∃ i,x=.int i∧Q (some i) H1
section
variable {X:Cx} {e:Expr} {te:TE} {lo hi:Option Expr} {tl th:TO} {pos p2:Pos}
theorem zdI:PO X none zoX:=by
 intro pins s σ H Q I h
 rw [evalPart_none]
 exact wpAny_pure ⟨none,H,I,.none,h⟩
theorem zcM (h:PE X e te):PO X (some e) (ztC te):=by
 intro pins s σ H Q I hw
 rw [evalPart_some]
 refine thn (h pins s σ H _ I hw) λu s1 ⟨x,H1,I1,r1,q1⟩=>?_
 obtain ⟨i,rfl,q⟩:=q1
 obtain ⟨t,rfl⟩:=r1
 exact ⟨some i,H1,I1,.int i t,q⟩
def SlR (X:Cx) (r:V->Option Int->Option Int->Hp->VK->Prop):Prop :=
 ∀ (pins:List ↥3) (s:Shared) (σ:St) (H:Hp) (x:V) (v vl vu:Value) (lo hi:Option Int) (sl:Addr) (Q:VK),Inv X pins σ H s->RelV x v->s.heap.IsSliceOf sl vl vu .none->IsPart vl lo->IsPart vu hi->r x lo hi H Q →
  ∃ T id,typeLookup (.type T) "__getitem__"=pure (some (.builtin id))∧s.TypeIs v T∧wpAny ↑5 X.A (getItem v (.ref sl)) ↑86 X.xe s
def tSl (r:V->Option Int->Option Int->Hp->VK->Prop) (te:TE) (tl th:TO):TE:=λσ H Q=>te σ H λx H1=>tl σ H1 λl H2=>th σ H2 λu H3=>r x l u H3 Q
theorem zch {r:V->Option Int->Option Int->Hp->VK->Prop} (hr:SlR X r) (he:PE X e te) (hl:PO X lo tl) (hu:PO X hi th):PE X (.Subscript e (.Slice lo hi none p2) pos) (tSl r te tl th):=by
 intro pins s σ H Q I h
 refine Subscript_ (thn ↑136 λv s1 ⟨x,H1,I1,r1,q1⟩=> ?_)
 refine wpAny_Slice (thn (hl pins s1 σ H1 _ I1 q1) λvl s2 ⟨l,H2,I2,pl,q2⟩=>thn (hu pins s2 σ H2 _ I2 q2) λvu s3 ⟨u,H3,I3,pu,q3⟩=>?_)
 rw [evalPart_none]
 refine wpAny_pure ?_
 have I4:Inv X pins σ H3 { s3 with heap:=s3.heap.push { cls:=.type "slice",data:=.fields #[vl,vu,.none] } }:=I3.kept (t':=s3.toks) λb ob q=>Heap.get?_push_of_some _ q
 obtain ⟨T,id,hT,ht,hg⟩:=hr pins { s3 with heap:=s3.heap.push { cls:=.type "slice",data:=.fields #[vl,vu,.none] } } σ H3 x v vl vu l u s3.heap.objs.size Q I4 r1 (Heap.IsSliceOf.new ..) pl pu q3
 show wpAny ↑5 X.A (subscriptTail e (.Slice lo hi none p2) v (.ref s3.heap.objs.size)) ↑86 X.xe { s3 with heap:=s3.heap.push { cls:=.type "slice",data:=.fields #[vl,vu,.none] } }
 exact tail_any (ops:=[.ref s3.heap.objs.size,v]) ht hT hg (by with_unfolding_all rfl)
def zsQ (xs:List V) (lo hi:Option Int):List V:=(xs.drop (HT.sIx xs.length 0 lo)).take ↑276
theorem zlD (xs:List V) (lo hi:Option Int):(zsQ xs lo hi).length≤xs.length:=by
 unfold zsQ
 rw [List.length_take,List.length_drop]
 omega
end
def ixN (n:Nat) (i:Int):Option Nat:=if 0≤i then (if i<n then some i.toNat else none) else if -(n:Int)≤i then some (i+n).toNat else none
def atI {α:Type} (xs:List α) (i:Int):Option α:=(ixN xs.length i).bind λj=>xs[j]?
theorem znb {n:Nat} {i:Int} {j:Nat} (h:ixN n i=some j):seqIndex? i n=some j∧j<n∧-(n:Int)≤i∧i<n:=by
 unfold ixN at h
 by_cases h0:0≤i
 ·rw [if_pos h0] at h
  by_cases h1:i<n
  ·rw [if_pos h1] at h
   have e:i.toNat=j:=Option.some.inj h
   exact ⟨by rw [seqIndex_of h0 h1,e],by omega,by omega,h1⟩
  ·rw [if_neg h1] at h;cases h
 ·rw [if_neg h0] at h
  by_cases h1:-(n:Int)≤i
  ·rw [if_pos h1] at h
   have e:(i+n).toNat=j:=Option.some.inj h
   exact ⟨by rw [seqIndex_neg ⇑0 h1,e],by omega,h1,by omega⟩
  ·rw [if_neg h1] at h;cases h
theorem znE {α:Type} {xs:List α} {i:Int} {v:α} (h:atI xs i=some v):∃ j,seqIndex? i xs.length=some j∧xs[j]?=some v∧j<xs.length∧-(xs.length:Int)≤i∧i<xs.length:=by
 unfold atI at h
 cases e:ixN xs.length i with
 | none=>rw [e] at h;cases h
 | some j =>
  rw [e] at h
  obtain ⟨h1,h2,h3,h4⟩:=znb e
  exact ⟨j,h1,h,h2,h3,h4⟩
def zrW (b:Expr):Prop:=∀ o i,subscripted b false o i=operate [o,i] (getItem o i)
def IxR (X:Cx) (r:R2):Prop :=
 ∀ (value slice:Expr) (pins:List ↥3) (s:Shared) (σ:St) (H:Hp) (x y:V) (v u:Value) (Q:VK),Inv X pins σ H s->RelV x v->RelV y u->r x y H Q →
  subscripted slice false v u=operate [v,u] (getItem v u)->wpAny ↑5 X.A (subscriptTail value slice v u) ↑86 X.xe s
def MtR (X:Cx) (id:String) (r:V->List V->Hp->VK->Prop):Prop :=
 ∀ (pins:List ↥3) (s:Shared) (σ:St) (H:Hp) (x:V) (xs:List V) (v:Value) (us:List Value) (Q:VK),Inv X pins σ H s->RelV x v->zcg xs us->r x xs H Q →
  wpAny ↑5 X.A (call (.builtin id) (v :: us)) ↑86 X.xe s
section
variable {X:Cx} {a b:Expr} {ta tb:TE} {pos:Pos}
theorem zaR {r:R2} (hr:IxR X r) (ha:PE X a ta) (hb:PE X b tb) (hs:zrW b):PE X (.Subscript a b pos) (tOp r ta tb):=by
 intro pins s σ H Q I h
 exact Subscript_ (zvc ha hb I h λv u s2 x y H2 I2 rx ry q=>hr a b pins s2 σ H2 x y v u Q I2 rx ry q (hs _ _))
def zss (K:W.Frag):R2:=λx y H Q=>∃ p xs i v,x=.ref p∧y=.int i∧SqL K H p xs∧atI xs i=some v∧Q v H
def zva (K:W.Frag):R2:=λx y H Q=>∃ p xs i v,x=.ref p∧y=.int i∧SqT K H p xs∧atI xs i=some v∧Q v H
theorem zqW:IxR X (zss X.K):=by
 intro value slice pins s σ H x y v u Q I rx ry h hs
 obtain ⟨p,xs,i,z,rfl,rfl,hq,he,q⟩:=h
 cases rx
 obtain ⟨t,rfl⟩:=ry
 obtain ⟨its,r,pl,hz⟩:=I.list hq
 obtain ⟨j,h1,h2,h3,h4,h5⟩:=znE he
 obtain ⟨w,ew,rw'⟩:=r.get h2
 have hl:=r.length
 have hn:=zmd
 have fin:EP X pins σ Q w s:=⟨z,H,I,rw',q⟩
 by_cases h0:0≤i
 ·have hj:i.toNat=j:=by
   rw [seqIndex_of h0 h5] at h1
   exact Option.some.inj h1
  exact item_listR pl.isList h0 ⇑0 (by rw [hj];simpa using ew) fin hs
 ·have hj:(i+(its.toArray.size:Int)).toNat=j:=by
   rw [seqIndex_neg ⇑0 h4] at h1
   rw [List.size_toArray,← hl]
   exact Option.some.inj h1
  exact subscriptTail_builtinR (x:=w) pl.isList.typeIs slot_list_getitem.lookup
   (wpAny_getItem_list_neg (Q:=λr s'=>r=w∧EP X pins σ Q r s') pl.isList ⇑0 (by rw [List.size_toArray]<;>omega) ⇑0 (by rw [hj];simpa using ew) ⟨rfl,fin⟩) hs
theorem zsU:IxR X (zva X.K):=by
 intro value slice pins s σ H x y v u Q I rx ry h hs
 obtain ⟨p,xs,i,z,rfl,rfl,hq,he,q⟩:=h
 cases rx
 obtain ⟨t,rfl⟩:=ry
 obtain ⟨its,r,pl,hz⟩:=I.tuple hq
 obtain ⟨j,h1,h2,h3,h4,h5⟩:=znE he
 obtain ⟨w,ew,rw'⟩:=r.get h2
 have hl:=r.length
 have hn:=zmd
 have fin:EP X pins σ Q w s:=⟨z,H,I,rw',q⟩
 exact subscriptTail_builtinR (x:=w) pl.typeIs slot_tuple_getitem.lookup
  (getItem_tuple (j:=j) (Q:=λr s'=>r=w∧EP X pins σ Q r s') pl ⇑0 ⇑0 (by rw [List.size_toArray,← hl];exact h1) (by simpa using ew) ⟨rfl,fin⟩) hs
theorem zmO (its:List Value) (n j:Nat) (u:Value):Obj.mapSeq (·.setIfInBounds j u) { cls:=.type "list",data:=.seq its.toArray n }={ cls:=.type "list",data:=.seq (its.set j u).toArray n }:=by
 simp [Obj.mapSeq]
theorem Inv.lst {pins:List ↥3} {σ:St} {H:Hp} {s:Shared} {p:Addr} {xs:List V} (I:Inv X pins σ H s) (h:H p=some (.lst xs)) :
  ∃ (its:List Value) (n:Nat),zcg xs its∧s.heap.get? p=some { cls:=.type "list",data:=.seq its.toArray n }∧xs.length≤sizeLine:=by
 obtain ⟨z,its,n,r,e⟩:=I.hok p _ h
 exact ⟨its,n,r,e,z⟩
theorem Inv.lstUpd {pins:List ↥3} {σ:St} {H:Hp} {s:Shared} {p:Addr} {xs ys:List V} {its its':List Value} {n n':Nat} {f:Obj->Obj} (I:Inv X pins σ H s) (h:H p=some (.lst xs))
  (ho:s.heap.get? p=some { cls:=.type "list",data:=.seq its.toArray n }) (hf:f { cls:=.type "list",data:=.seq its.toArray n }={ cls:=.type "list",data:=.seq its'.toArray n' }) (r:zcg ys its') (hz:ys.length≤sizeLine) (t:Nat) :
  Inv X pins σ (upd H p (.lst ys)) { s with heap:=s.heap.update p f,toks:=t }:=by
 have e:(s.heap.update p f).get? p=some { cls:=.type "list",data:=.seq its'.toArray n' }:=by
  rw [Heap.get?_update_self f ho (by rw [hf]<;>rfl),hf]
 refine I.write (x:=p) (e:=p) (by rw [h];trivial) ↑52 (λb u hb q=>(Heap.get?_update_other _ _ (Ne.symm hb)).trans q) ⟨_,e⟩ ?_
 exact ⟨hz,its',n',r,e⟩
def zox:V->V->V->Hp->(Hp->Prop)->Prop:=λo i v H Q=>∃ p xs k j,o=.ref p∧i=.int k∧H p=some (.lst xs)∧ixN xs.length k=some j∧Q (upd H p (.lst (xs.set j v)))
theorem zfM:zvN X zox:=by
 intro pins s σ H o i v ov iv u Q I ro ri rv h
 obtain ⟨p,xs,k,j,rfl,rfl,hp,hj,q⟩:=h
 cases ro
 obtain ⟨t,rfl⟩:=ri
 obtain ⟨its,n,r,ho,hz⟩:=I.lst hp
 obtain ⟨h1,h2,h3,h4⟩:=znb hj
 have hl:=r.length
 have hn:=zmd
 have I':Inv X pins σ (upd H p (.lst (xs.set j v))) { s with heap:=s.heap.update p (Obj.mapSeq (·.setIfInBounds j u)) } :=
  I.lstUpd hp ho (zmO its n j u) (r.set rv j) (by rw [List.length_set];exact hz) s.toks
 by_cases h0:0≤k
 ·have hk:k.toNat=j:=by
   rw [seqIndex_of h0 h4] at h1
   exact Option.some.inj h1
  exact W.ki_setAt ho h0 ⇑0 (by rw [List.size_toArray,← hl];exact h4) (by rw [hk];exact ⟨_,I',q⟩)
 ·have hk:(k+(its.toArray.size:Int)).toNat=j:=by
   rw [seqIndex_neg ⇑0 h3] at h1
   rw [List.size_toArray,← hl]
   exact Option.some.inj h1
  exact W.ki_setBack ho ⇑0 (by rw [List.size_toArray,← hl];exact h3) ⇑0 (by rw [hk];exact ⟨_,I',q⟩)
theorem zkK (lo hi:Option Int) (n:Nat):((sliceBounds lo hi none n)).1=((HT.sIx n 0 lo:Nat):Int)∧((sliceBounds lo hi none n)).2.1=((HT.sIx n n hi:Nat):Int)∧((sliceBounds lo hi none n)).2.2=1:=by
 refine ⟨?_,?_,rfl⟩
 ·cases lo with
  | none=>simp [sliceBounds,HT.sIx]
  | some i =>
   simp only [sliceBounds,HT.sIx,Option.getD_none,show (1:Int) > 0 by decide,if_true]
   by_cases h:i<0
   ·simp only [h,if_true]<;>omega
   ·simp only [h,if_false]<;>omega
 ·cases hi with
  | none=>simp [sliceBounds,HT.sIx]
  | some i =>
   simp only [sliceBounds,HT.sIx,Option.getD_none,show (1:Int) > 0 by decide,if_true]
   by_cases h:i<0
   ·simp only [h,if_true]<;>omega
   ·simp only [h,if_false]<;>omega
theorem zj8 (its:List Value) (lo hi:Option Int):slicePick its.toArray lo hi none=((its.drop (HT.sIx its.length 0 lo)).take (HT.sIx its.length its.length hi-HT.sIx its.length 0 lo)).toArray:=by
 obtain ⟨h1,h2,h3⟩:=zkK lo hi its.toArray.size
 unfold slicePick
 rw [h1,h2,h3]
 simp only [sliceRange_one,pick_run,List.size_toArray]<;>rfl
def zur (K:W.Frag):V->Option Int->Option Int->Hp->VK->Prop:=λx lo hi H Q=>∃ a xs,x=.ref a∧SqL K H a xs∧∀ p,H p=none->Q (.ref p) (upd H p (.lst (zsQ xs lo hi)))
theorem zse:SlR X (zur X.K):=by
 intro pins s σ H x v vl vu lo hi sl Q I rx hs pl pu h
 obtain ⟨a,xs,rfl,hx,q⟩:=h
 cases rx
 obtain ⟨its,r,ht,hz⟩:=I.list hx
 have hlen:=r.length
 refine ⟨"list",_,slot_list_getitem.lookup,ht.isList.typeIs,?_⟩
 refine wpAny_getItem_list_slice ht.isList hs pl pu .none ↥9 ?_ (by rw [List.size_toArray]<;>omega)
 rw [zj8,← hlen]
 refine ⟨.ref ⇑2,_,I.laid (t':=s.toks) (o:=.lst (zsQ xs lo hi)) (λb ob q=>Heap.get?_push_of_some _ q) (↑4 _) ?_,rfl,q _ (I.hok.fresh (↑4 _))⟩
 exact ⟨⇑6 (zlD xs lo hi) hz,_,0,(r.drop (HT.sIx xs.length 0 lo)).take ↑276,Heap.get?_push_size _ rfl⟩
def zpF:V->Bool
 | .non=>true
 | .bl _=>true
 | .int _=>true
 | .str _=>true
 | _=>false
def eqV:V->V->Bool
 | .non,.non=>true
 | .bl a,.bl b=>a == b
 | .bl a,.int b=>(if a then 1 else 0) == b
 | .int a,.bl b=>a == (if b then 1 else 0)
 | .int a,.int b=>a == b
 | .str a,.str b=>a == b
 | _,_=>false
theorem zsF {A:Around} {s:Shared} {y x:V} {u v:Value} (ry:RelV y u) (rx:RelV x v) (fy:zpF y=true) (fx:zpF x=true):SeqAt.EqAt A s u v (eqV y x):=by
 cases y with
 | non =>
  cases ry
  cases x with
  | non=>cases rx;exact SeqAt.EqAt.same _
  | bl b=>cases rx;exact SeqAt.EqAt.none_bool b
  | int b=>obtain ⟨t,rfl⟩:=rx;exact SeqAt.EqAt.none_int b t
  | str b=>obtain ⟨t,rfl⟩:=rx;exact SeqAt.EqAt.none_str b t
  | _=>exact absurd (show false=true from fx) Bool.false_ne_true
 | bl a =>
  cases ry
  cases x with
  | non=>cases rx;exact SeqAt.EqAt.bool_none a
  | bl b=>cases rx;exact SeqAt.EqAt.bool_bool a b
  | int b=>obtain ⟨t,rfl⟩:=rx;exact SeqAt.EqAt.bool_int a b t
  | str b=>obtain ⟨t,rfl⟩:=rx;exact SeqAt.EqAt.bool_str a b t
  | _=>exact absurd (show false=true from fx) Bool.false_ne_true
 | int a =>
  obtain ⟨t',rfl⟩:=ry
  cases x with
  | non=>cases rx;exact SeqAt.EqAt.int_none a t'
  | bl b=>cases rx;exact SeqAt.EqAt.int_bool a t' b
  | int b=>obtain ⟨t,rfl⟩:=rx;exact SeqAt.EqAt.int_int a t' b t
  | str b=>obtain ⟨t,rfl⟩:=rx;exact SeqAt.EqAt.int_str a t' b t
  | _=>exact absurd (show false=true from fx) Bool.false_ne_true
 | str a =>
  obtain ⟨t',rfl⟩:=ry
  cases x with
  | non=>cases rx;exact SeqAt.EqAt.str_none a t'
  | bl b=>cases rx;exact SeqAt.EqAt.str_bool a t' b
  | int b=>obtain ⟨t,rfl⟩:=rx;exact SeqAt.EqAt.str_int a t' b t
  | str b=>obtain ⟨t,rfl⟩:=rx;exact SeqAt.EqAt.str_str a t' b t
  | _=>exact absurd (show false=true from fx) Bool.false_ne_true
 | _=>exact absurd (show false=true from fy) Bool.false_ne_true
theorem zkl:zga X (.builtin "len") (λxs H Q=>∃ p ys,xs=[.ref p]∧(SqL X.K H p ys∨SqT X.K H p ys)∧Q (.int ys.length) H):=by
 intro pins s σ H xs us Q I r h
 obtain ⟨p,ys,rfl,hq,q⟩:=h
 obtain ⟨u,rfl,rx⟩:=zm4 r
 cases rx
 have hn:=zmd
 rcases hq with hq | hq
 ·obtain ⟨its,r',pl,hz⟩:=I.list hq
  have hlen:=r'.length
  exact Calls.call_len_list pl.isList ↑262 ⟨.int ys.length,H,I.tok _,⟨s.toks+1,by rw [List.size_toArray,hlen]⟩,q⟩
 ·obtain ⟨its,r',pl,hz⟩:=I.tuple hq
  have hlen:=r'.length
  exact len_tuple pl ↑262 ⟨.int ys.length,H,I.tok _,⟨s.toks+1,by rw [List.size_toArray,hlen]⟩,q⟩
theorem zkQ:zga X (.type "list") (λxs H Q=>∃ p ys,xs=[.ref p]∧(SqL X.K H p ys∨SqT X.K H p ys)∧∀ l,H l=none->Q (.ref l) (upd H l (.lst ys))):=by
 intro pins s σ H xs us Q I r h
 obtain ⟨p,ys,rfl,hq,q⟩:=h
 obtain ⟨u,rfl,rx⟩:=zm4 r
 cases rx
 have fin:∀ (its:List Value),zcg ys its->ys.length≤sizeLine->∀ (h':Heap) (c':Nat),(∀ b o',s.heap.get? b=some o'->h'.get? b=some o') →
   h'.get? ⇑2=some { cls:=.type "list",dict:=none,data:=.seq its.toArray c',slots:=#[] }->EP X pins σ Q (.ref ⇑2) { s with heap:=h' }:=λits r' hz h' c' kp e =>
  ⟨.ref ⇑2,_,I.laid (t':=s.toks) kp (↑4 _) (show zen X.prog X.w _ h' _ (.lst ys) from ⟨hz,its,c',r',e⟩),rfl,q _ (I.hok.fresh (↑4 _))⟩
 rcases hq with hq | hq
 ·obtain ⟨its,r',pl,hz⟩:=I.list hq
  have hlen:=r'.length
  obtain ⟨o,ho,hc,n,hd⟩:=pl.isList
  exact call_list_seq p ↑52 ho hc hd (λh' c' kp e=>fin its r' hz h' c' kp e) ↑262
 ·obtain ⟨its,r',pl,hz⟩:=I.tuple hq
  have hlen:=r'.length
  obtain ⟨o,ho,hc,n,hd⟩:=pl
  exact call_list_seq p (.inr rfl) ho hc hd (λh' c' kp e=>fin its r' hz h' c' kp e) ↑262
def tyV (K:W.Frag) (T:String) (x:V) (H:Hp):Prop:=match x with
 | .str _=>T="str"
 | .int _=>T="int"
 | .ref p=>(T="list"∧∃ xs,SqL K H p xs)∨(T="tuple"∧∃ o,K.lookup p=some o∧o.cls=.type "tuple"∧o.dict=none) ∨
   (T="dict"∧((∃ kvs,H p=some (.dK kvs))∨∃ kvs,H p=some (.dT kvs)))∨(T="set"∧∃ S n,H p=some (.set S n))
 | _=>False
theorem ztE {pins:List ↥3} {σ:St} {H:Hp} {s:Shared} {T:String} {x:V} {v:Value} (I:Inv X pins σ H s) (r:RelV x v) (ty:tyV X.K T x H) :
  s.TypeIs v T∧∀ a,v=.ref a->∃ ob,s.heap.get? a=some ob∧ob.dict=none:=by
 cases x with
 | str z =>
  obtain ⟨t,rfl⟩:=r
  cases (show T="str" from ty)
  exact ⟨typeIs_str s z t,λ_ e=>nomatch e⟩
 | int i =>
  obtain ⟨t,rfl⟩:=r
  cases (show T="int" from ty)
  exact ⟨typeIs_int s i t,λ_ e=>nomatch e⟩
 | ref p =>
  cases r
  rcases ty with ⟨rfl,xs,hq⟩ | ⟨rfl,o,hk,hc,hd⟩ | ⟨rfl,hk⟩ | ⟨rfl,S,n,hk⟩
  ·obtain ⟨its,_,pl,_⟩:=I.list hq
   refine ⟨pl.isList.typeIs,λa e=>?_⟩
   cases e
   obtain ⟨o,n,e,c,hd,_⟩:=pl
   exact ⟨o,e,hd⟩
  ·refine ⟨⟨o,I.kIn p o hk,hc⟩,λa e=>?_⟩
   cases e
   exact ⟨o,I.kIn _ o hk,hd⟩
  ·have z:∃ o,s.heap.get? p=some o∧o.ExactDict:=by
    rcases hk with ⟨kvs,hk⟩ | ⟨kvs,hk⟩
    ·obtain ⟨_,_,_,_,o,_,_,e,ex,_⟩:=I.hok p _ hk
     exact ⟨o,e,ex⟩
    ·obtain ⟨_,_,_,_,o,_,_,e,ex,_⟩:=I.hok p _ hk
     exact ⟨o,e,ex⟩
   obtain ⟨o,e,ex⟩:=z
   refine ⟨⟨o,e,ex.1⟩,λa e2=>?_⟩
   cases e2
   exact ⟨o,e,ex.2.1⟩
  ·obtain ⟨o,_,_,_,e,ex,_⟩:=I.hok p _ hk
   refine ⟨⟨o,e,ex.1⟩,λa e2=>?_⟩
   cases e2
   exact ⟨o,e,ex.2.1⟩
 | _=>exact False.elim ty
def tBM (K:W.Frag) (T:String) (r:V->List V->Hp->VK->Prop) (to:TE) (t:TA):TE:=λσ H Q=>to σ H λx H1=>tyV K T x H1∧t σ H1 λxs H2=>r x xs H2 Q
variable {o e:Expr} {es:List Expr} {to:TE} {t:TA} {name:Str} {apos cpos:Pos} {T id:String} {r:V->List V->Hp->VK->Prop}
theorem zvD (pa:PlainAttrs T) (slot:Slot T name id) (hty:typeOf (.builtin id)=pure (.type "method_descriptor")) (hm:MtR X id r) (ho:PE X o to) (ha:PA X (e::es) t)
  (hbase:attributeBase o name X.env (eval o X.env)=eval o X.env:=by rfl)
  (hfew:((backTo cpos (starEach (e::es) X.env)).all (λx=>!x.1)&&(backToKw cpos (keywordEach [] X.env)).all (λx=>x.1.isSome)
   &&decide (((e::es)).length+([]:List Keyword).length+(if ([]:List Keyword).isEmpty then 0 else 1)<30))=true:=by rfl)
  (hline:(apos.endLine == cpos.line)=true:=by rfl) (hs:starEach (e::es) X.env=(false,eval e X.env) :: starEach es X.env:=by rfl) (hplain:(backTo cpos (starEach es X.env)).any (·.1)=false:=by rfl) :
  PE X (.Call (.Attribute o name apos) (e::es) [] cpos) (tBM X.K T r to t):=by
 intro pins s σ H Q I h
 refine wpAny_Call_method_late hbase hfew hline rfl (thn (ho pins s σ H _ I h) λv s1 ⟨x,H1,I1,r1,ty,q1⟩=>?_)
 obtain ⟨h1,h2⟩:=ztE I1 r1 ty
 refine ⟨T,id,pa,slot,hty,h1,h2,?_⟩
 have hA:=ha cpos pins s1 σ H1 _ I1 q1
 rw [hs] at hA ⊢
 refine Calls.callWith_builtin (by show (false||(backTo cpos (starEach es X.env)).any (·.1))=false;rw [hplain]<;>rfl) (Calls.evalArgs_plain ?_)
 exact thn hA λus s2 ⟨vs,H2,I2,r2,q2⟩=>hm pins s2 σ H2 x vs v us Q I2 r1 r2 q2
end
def MtM (X:Cx) (id:String) (r:V->List V->Hp->VK->Prop):Prop :=
 ∀ (pins:List ↥3) (s:Shared) (σ:St) (H:Hp) (x:V) (xs:List V) (v:Value) (us:List Value) (Q:VK),Inv X pins σ H s->RelV x v->zcg xs us->r x xs H Q →
  wpAny ↑5 X.A (call (.builtin id) (v :: us)) ↑86 X.xe s
theorem zcg.one:∀ {x:V} {us:List Value},zcg [x] us->∃ u,us=[u]∧RelV x u
 | _,_,.cons r .nil=>⟨_,rfl,r⟩
theorem zcg.two:∀ {x y:V} {us:List Value},zcg [x,y] us->∃ u v,us=[u,v]∧RelV x u∧RelV y v
 | _,_,_,.cons r (.cons q .nil)=>⟨_,_,rfl,r,q⟩
theorem zcg.zero:∀ {us:List Value},zcg [] us->us=[]
 | _,.nil=>rfl
theorem zcg.dropLast {xs:List V} {us:List Value} (h:zcg xs us):zcg xs.dropLast us.dropLast:=by
 induction h with
 | nil=>exact .nil
 | cons r t ih =>
  cases t with
  | nil=>exact .nil
  | cons q t'=>exact .cons r ih
theorem zcg.reverse {xs:List V} {us:List Value} (h:zcg xs us):zcg xs.reverse us.reverse:=by
 induction h with
 | nil=>exact .nil
 | cons r t ih=>rw [List.reverse_cons,List.reverse_cons];exact zcg.append ih (.cons r .nil)
theorem zcg.rep {xs:List V} {us:List Value} (h:zcg xs us):∀ k:Nat,zcg (List.replicate k xs).flatten (List.replicate k us).flatten
 | 0=>.nil
 | k+1=>by
  rw [List.replicate_succ,List.replicate_succ,List.flatten_cons,List.flatten_cons]
  exact zcg.append h (zcg.rep h k)
theorem zkp (its:List Value):∀ (k:Nat) (acc:List Value),
  List.foldl (λx1 x2=>x1++x2) acc.toArray (List.replicate k its.toArray)=(acc++(List.replicate k its).flatten).toArray
 | 0,acc=>by simp
 | k+1,acc=>by
  have e:acc.toArray++its.toArray=(acc++its).toArray:=by simp
  have e2:(acc++its)++(List.replicate k its).flatten=acc++(List.replicate (k+1) its).flatten:=by
   rw [List.replicate_succ,List.flatten_cons,List.append_assoc]
  rw [← e2,← zkp its k (acc++its),← e,List.replicate_succ,List.foldl_cons]
section
variable {X:Cx} {pins:List ↥3} {σ:St} {H:Hp} {s:Shared} {l:Addr} {xs ys:List V}
theorem Inv.lset {its its':List Value} {n:Nat} {f:Array Value->Array Value} {t':Nat} (I:Inv X pins σ H s) (hH:H l=some (.lst xs))
  (e:s.heap.get? l=some { cls:=.type "list",data:=.seq its.toArray n }) (hf:f its.toArray=its'.toArray) (hv:zcg ys its') (hz:ys.length≤sizeLine) :
  Inv X pins σ (upd H l (.lst ys)) { s with heap:=s.heap.update l (Obj.mapSeq f),toks:=t' }:=by
 have q:=PySem.IsL.update e f
 rw [hf] at q
 refine I.write (x:=l) (e:=l) (by rw [hH];exact trivial) ↑52 (λb' u hb hu=>(Heap.get?_update_other s.heap (Obj.mapSeq f) (Ne.symm hb)).trans hu) ⟨_,q⟩ ?_
 exact ⟨hz,its',_,hv,q⟩
theorem Inv.lnew {its:List Value} {t':Nat} (I:Inv X pins σ H s) (hv:zcg ys its) (hz:ys.length≤sizeLine) :
  Inv X pins σ (upd H ⇑2 (.lst ys)) { s with heap:=s.heap.push { cls:=.type "list",data:=.seq its.toArray },toks:=t' } :=
 I.laid (λ_ _ q=>Heap.get?_push_of_some _ q) (↑4 _) ⟨hz,its,0,hv,Heap.get?_push_size _ rfl⟩
theorem Inv.fresh (I:Inv X pins σ H s):H ⇑2=none:=I.hok.fresh (↑4 _)
theorem Inv.lstM (I:Inv X pins σ H s) (hH:H l=some (.lst xs)):xs.length≤sizeLine∧∃ (its:List Value) (n:Nat),zcg xs its∧xs.length=its.length∧s.heap.get? l=some { cls:=.type "list",data:=.seq its.toArray n }:=by
 obtain ⟨z,its,n,r,e⟩:=I.hok l _ hH
 exact ⟨z,its,n,r,r.length,e⟩
theorem zmn {n:Nat} (h:n≤sizeLine):Builtin.List.listTooLong n=false:=by
 unfold Builtin.List.listTooLong
 exact decide_eq_false ⇑0
end
section
variable {X:Cx}
def zjE:V->List V->Hp->VK->Prop:=λx vs H Q=>∃ l xs y,x=.ref l∧vs=[y]∧H l=some (.lst xs)∧xs.length<sizeLine∧Q .non (upd H l (.lst (xs++[y])))
theorem zkA:MtM X "list.append" zjE:=by
 intro pins s σ H x vs v us Q I rx rv h
 obtain ⟨l,xs,y,rfl,rfl,hH,hz,q⟩:=h
 cases rx
 obtain ⟨u,rfl,ru⟩:=rv.one
 obtain ⟨z,its,n,r,hl,e⟩:=I.lstM hH
 refine call_meets F.slot_list_append ⟨_,e,rfl⟩ F.entry_list_append (F.args_list_append_2 _ _) (PySem.list_append l its.toArray n u (by rw [List.size_toArray];omega)) ⟨e,?_⟩
 refine ⟨.non,_,I.lset (its':=its++[u]) hH e ↥9 (r.append (.cons ru .nil)) ?_,rfl,q⟩
 rw [List.length_append,List.length_singleton]
 omega
def zrx:V->List V->Hp->VK->Prop:=λx vs H Q=>∃ l b xs zs,x=.ref l∧vs=[.ref b]∧H l=some (.lst xs)∧H b=some (.lst zs)∧xs.length+zs.length≤sizeLine∧Q .non (upd H l (.lst (xs++zs)))
theorem ztS:MtM X "list.extend" zrx:=by
 intro pins s σ H x vs v us Q I rx rv h
 obtain ⟨l,b,xs,zs,rfl,rfl,hH,hB,hz,q⟩:=h
 cases rx
 obtain ⟨u,rfl,ru⟩:=rv.one
 cases ru
 obtain ⟨z,its,n,r,hl,e⟩:=I.lstM hH
 obtain ⟨z2,its2,n2,r2,hl2,e2⟩:=I.lstM hB
 have hsz:its.toArray.size+its2.toArray.size≤sizeLine:=by rw [List.size_toArray,List.size_toArray];omega
 have hlong:¬ (!its.toArray.isEmpty&&Builtin.List.listTooLong (its.toArray.size+its2.toArray.size))=true:=by
  rw [zmn hsz,Bool.and_false]
  exact Bool.false_ne_true
 refine call_meets F.slot_list_extend ⟨_,e,rfl⟩ F.entry_list_extend (F.args_list_extend_2 _ _)
  (AutoSeq1.list_extend_list_list_0 l its.toArray n b its2.toArray n2 hlong (by rw [List.size_toArray];omega) ⇑0) ⟨e,e2,?_⟩
 refine ⟨.non,_,I.lset (its':=its++its2) hH e ↥9 (r.append r2) ?_,rfl,q⟩
 rw [List.length_append]
 omega
def zvC:R2:=λx y H Q=>∃ l b xs zs,x=.ref l∧y=.ref b∧H l=some (.lst xs)∧H b=some (.lst zs)∧xs.length+zs.length≤sizeLine∧∀ p,H p=none->Q (.ref p) (upd H p (.lst (xs++zs)))
theorem zeR:OpR X (binaryOp .Add) zvC:=by
 intro pins s σ H x y v u Q I rx ry h
 obtain ⟨l,b,xs,zs,rfl,rfl,hH,hB,hz,q⟩:=h
 cases rx
 cases ry
 obtain ⟨z,its,n,r,hl,e⟩:=I.lstM hH
 obtain ⟨z2,its2,n2,r2,hl2,e2⟩:=I.lstM hB
 refine PySem.P.add_list e e2 ?_ (by rw [List.size_toArray,List.size_toArray];omega)
 have ea:its.toArray++its2.toArray=(its++its2).toArray:=by simp
 rw [ea]
 exact ⟨.ref _,_,I.lnew (t':=s.toks) (r.append r2) (by rw [List.length_append];omega),rfl,q _ I.fresh⟩
def zvl:R2:=λx y H Q=>∃ l k xs,x=.ref l∧y=.int k∧H l=some (.lst xs)∧-(2^63)≤k∧k<2^63∧xs.length*k.toNat≤sizeLine ∧
 ∀ p,H p=none->Q (.ref p) (upd H p (.lst (List.replicate k.toNat xs).flatten))
theorem zrB {α:Type} (xs:List α) (k:Nat):(List.replicate k xs).flatten.length=k*xs.length:=by
 induction k with
 | zero=>simp
 | succ k ih=>rw [List.replicate_succ,List.flatten_cons,List.length_append,ih,Nat.succ_mul,Nat.add_comm]
theorem zhf:OpR X (binaryOp .Mult) zvl:=by
 intro pins s σ H x y v u Q I rx ry h
 obtain ⟨l,k,xs,rfl,rfl,hH,h1,h2,hz,q⟩:=h
 cases rx
 obtain ⟨t,rfl⟩:=ry
 obtain ⟨z,its,n,r,hl,e⟩:=I.lstM hH
 have hlen:its.toArray.size*k.toNat≤sizeLine:=by rw [List.size_toArray,← hl];exact hz
 have hcap:¬ its.toArray.size*k.toNat > (2^63-1)/8:=by
  have:(sizeLine:Nat)≤(2^63-1)/8:=by decide
  omega
 have hfit:¬ (!Builtin.List.listFitsIndex k)=true:=by
  rw [fitsIndex_both h1 h2]
  exact Bool.false_ne_true
 have hlong:¬ Builtin.List.listTooLong (its.toArray.size*k.toNat)=true:=by
  rw [zmn hlen]
  exact Bool.false_ne_true
 have hnew:List.foldl (λx1 x2=>x1++x2) #[] (List.replicate (if its.toArray.isEmpty=true then 0 else k.toNat) its.toArray)=(List.replicate k.toNat its).flatten.toArray:=by
  have f0:∀ m:Nat,List.foldl (λx1 x2=>x1++x2) #[] (List.replicate m its.toArray)=(List.replicate m its).flatten.toArray:=λm=>by
   have:=zkp its m []
   rw [List.nil_append] at this
   exact this
  rw [f0]
  cases its with
  | nil=>simp
  | cons a r'=>rw [if_neg ↥9]
 refine wpAny_binaryOp_repeat_ref (T:="list") (U:="int") ↥1 ⟨_,e,rfl⟩ (λs'=>typeIs_int s' k t) noFill_list_mul F.fills_int_mul F.slot_int_rmul repeat_list F.slot_int_index.lookup
  (call_meets F.slot_int_rmul (typeIs_int s k t) F.entry_int_rmul (F.args_int_rmul_2 _ _) (int___rmul___int_list k t l its.toArray n)
   ⟨e,rfl,⟨_,e,rfl⟩,call_meets F.slot_list_mul ⟨_,e,rfl⟩ F.entry_list_mul (F.args_list_mul_2 _ _) (AutoListH.list___mul___list_int_3 l its.toArray n k t hfit hcap hlong) ⟨e,?_⟩⟩)
 rw [hnew]
 exact ⟨.ref _,_,I.lnew (t':=s.toks) (r.rep k.toNat) (by rw [zrB,Nat.mul_comm];exact hz),rfl,q _ I.fresh⟩
end
end L2
namespace Att
open PySem PySem.W PySem.Calls PyProof.Rows
theorem zh2 {P:Params} {h:Heap}:∀ (ns:Ji) (vs:List Value),WellAll P h vs (ns.map WData.int)->IntsAre vs ns:=by
 intro ns
 induction ns with
 | nil =>
  intro vs w
  rw [List.map_nil] at w
  cases w
  exact .nil
 | cons n ns ih =>
  intro vs w
  rw [List.map_cons] at w
  cases w with
  | cons a b =>
   cases a
   exact .cons _ _ (ih _ b)
theorem znz {l:OpenLaw} {n:Nat} (hn:l.most=some n) {P:Params} {h:Heap} {args:List WData} {vals:List Value}
  (hpre:l.row.toRowW.claim.pre args=true) (hwl:WellAll P h vals args) :
  ∃ a vs ns,vals=[Value.ref a]∧args=[WData.list (ns.map WData.int)]∧h.get? a=some { cls:=.type "list",data:=.seq vs.toArray }∧IntsAre vs ns∧ns.length≤n:=by
 have hsh:WShape.hasAll [] args [.list .int]=true:=(pre_splitW hpre).1
 have hc:l.pre.holds [] { args:=args }=true:=(pre_splitW hpre).2
 obtain ⟨d,r,rfl,h1,h2⟩:=hasAllW_cons hsh
 obtain rfl:=hasAllW_nil h2
 obtain ⟨xs,rfl,h3⟩:=hasW_list h1
 obtain ⟨ns,rfl⟩:=items_int h3
 have hlen:ns.length≤n:=by
  unfold OpenLaw.pre at hc
  have h4:(WTm.not (.lt (.lit (.int (n:Int))) (.len (.arg 0)))).holds [] { args:=[.list (ns.map .int)] }=true:=by
   have h4:=(holds_andW hc).1
   rw [hn] at h4
   exact h4
  have h5:=condW_of h4 (w_not (w_lt w_lit (w_len_list (w_arg rfl))))
  rw [List.length_map] at h5
  refine Nat.le_of_not_lt λq=>?_
  have q':(n:Int)<((ns.length:Nat):Int):=by omega
  first
   | (rw [decide_eq_true q'] at h5;exact absurd h5 ↥1)
   | (simp at h5;omega)
 cases hwl with
 | cons w1 w2 =>
  cases w2
  cases w1 with
  | list ho hall=>exact ⟨_,_,ns,rfl,rfl,ho,zh2 ns _ hall,hlen⟩
theorem zoi (l:OpenLaw) (args:List WData):l.row.toRowW.claim.post args (.bool true) args=true :=
 postW_of (r:=l.row.toRowW) (X:=(true == true))
  (show WShape.has [] (.bool true) .bool=true by first | rfl | decide | simp [WShape.has,WShape.arms,WShape.armsAll])
  (show (WTm.eq .res (.lit (.bool true))).value [] { args:=args,res:=some (.bool true),after:=args }=some (.bool (true == true)) from w_eq_bool (w_res rfl) w_lit) rfl
theorem attach_call {l:OpenLaw} {n:Nat} {q:Program} {loose:List Str} {XP:(Str->Option Value)->Heap->Prop} {YP:World->Heap->Prop} {d:DefRec}
  (hn:l.most=some n) (hdf:d.params.defaults=[])
  (call:∀ (w:World) (s₀ s₁:Shared) (mg mb:Str->Option Value) (fa:Addr) (o:Obj) (pm cd doc:Value) (a:Addr) (vs:List Value) (ns:Ji),
   Ground q loose [] XP w s₀ mg mb s₁.heap->YP w s₁.heap →
   s₁.heap.get? fa=some o->o.data=.func (docDef d.name d.params d.body d.scope pm cd doc)->s₁.heap.CodeRec cd d.name->mg d.name=some (.ref fa) →
   s₁.heap.get? a=some { cls:=.type "list",data:=.seq vs.toArray }->IntsAre vs ns->ns.length≤n->s₁.gens=#[] →
   codeAny (model l.prog w) callerA (.call (.ref fa) ⟨[.ref a],[]⟩) ↑272 s₁) :
  WalkO q loose XP YP l.row.toRowW d [] (λf vs=>PySem.call f vs):=by
 intro w s₀ s₁ mg mb G Y fa o pm cd doc dV kV ho hd hcd hD hmg hg args vals as hpre hlay hrd hwl hlo
 obtain rfl:dV=.none:=Dflts.none hD hdf
 obtain rfl:kV=.none:=Dflts.noKw hD
 obtain ⟨a,vs,ns,rfl,rfl,hobj,hints,hlen⟩:=znz hn hpre hwl
 refine enter_call (codeAny_mono (call w s₀ s₁ mg mb fa o pm cd doc a vs ns G Y ho (fd_plain hd) hcd hmg hobj hints hlen hg) λr s' hq=>?_)
 obtain ⟨rfl,h2,h3,h4⟩:=hq
 exact ⟨.inl ⟨.bool true,.bool true,[],rfl,λ_=>rfl,.bool true,zoi l _,λ_=>⟨List.Pairwise.nil,λ_ hm=>(nomatch hm)⟩⟩,h2,h3,h4⟩
end Att
namespace L2
open PySem PySem.Spec PyProof.Rows
theorem zkU:∀ {vs:List Value} {ns:Ji},IntsAre vs ns->zcg ↑53 vs
 | _,_,.nil=>.nil
 | _,_,.cons n t h=>.cons ⟨t,rfl⟩ (zkU h)
def zu6 (H:Hp):Prop:=∀ b,H b=none∨∃ o xs,H b=some (.frz o (.lst xs))
theorem zpk {P:Program} {w:World} {K:W.Frag} {mg mb:Str->Option Value} {CX:CXT} {k:Nat} {fa a:Addr} {fd:FuncData} {x:Str} {sp:Sp} {s₁:Shared} {vs:List Value} {ns:Ji}
  (KX:K.In s₁.heap) (hns:s₁.heap.Ns mainGlobals mg) (hb:s₁.heap.Ns builtinsNs mb) (hbb:∀ x:Str,x≠"__name__"->mb x=bootBuiltins x) (hlim:s₁.heap.NoLimit) (hg:s₁.gens=#[])
  (ha:s₁.heap.get? a=some { cls:=.type "list",data:=.seq vs.toArray }) (hi:IntsAre vs ns) (hl:ns.length≤sizeLine) (hr:Room k callerA)
  (F:∀ base:Heap,K.In base->base.Ns mainGlobals mg->FnOk P w K mg base CX k fa fd [x] sp) (hbind:∀ (s:Shared) (u:Value),BindsTo s fd ⟨[u],[]⟩ [(x,u)])
  (hsp:∀ H:Hp,zu6 H->SqL K H a ↑53->sp [.ref a] H (λv _=>v=.bl true) λ_ _ _=>False)
  (hCX:∀ H e s',CX [] H s₁ (λ_ _ _=>False) e s'->False) :
  codeAny (model P w) callerA (.call (.ref fa) ⟨[.ref a],[]⟩) ↑272 s₁:=by
 have rv:=zkU hi
 have lenV:=hi.length
 have core:∀ H:Hp,zu6 H->SqL K H a ↑53->HOk P w H s₁.heap->(∀ b,H b≠none->b=a)->(H a≠none->K.lookup a=none) →
   codeAny (model P w) callerA (.call (.ref fa) ⟨[.ref a],[]⟩) ↑272 s₁:=by
  intro H hO hS hok hA hK
  have base_of:∀ {b:Addr} {o:Obj},s₁.heap.get? b=some o->H b=none->((zqe s₁.heap H)).get? b=some o:=λe n=>zpP e n
  have noA:∀ {b:Addr} {o:Obj} {es:Array DictEntry} {ep:Nat},s₁.heap.get? b=some o->o.data=.dict es ep->H b=none:=λ{b o es ep} e d=>by
   cases q:H b with
   | none=>rfl
   | some u =>
    have e':b=a:=hA b (by rw [q];simp)
    subst e'
    rw [ha] at e;cases e
    have d':Data.seq vs.toArray _=Data.dict es ep:=d
    cases d'
  have nsK:∀ {b:Addr} {m:Str->Option Value},s₁.heap.Ns b m->((zqe s₁.heap H)).Ns b m:=λ{b m} ⟨o,es,ep,e,d,r⟩=>⟨o,es,ep,base_of e (noA e d),d,r⟩
  have hKb:K.In (zqe s₁.heap H):=λb o e=>base_of (KX b o e) (by
   cases q:H b with
   | none=>rfl
   | some u =>
    have e':b=a:=hA b (by rw [q];simp)
    subst e'
    rw [hK (by rw [q];simp)] at e;cases e)
  have hM:Mod K mg (zqe s₁.heap H):=⟨hKb,nsK hns,⟨mb,nsK hb,hbb⟩,let ⟨mc,h1,h2⟩:=hlim;⟨mc,nsK h1,h2⟩⟩
  have e0:Env0 P w K mg (zqe s₁.heap H) callerA [] s₁ H:=⟨rfl,hM,λb o e=>zrU e,Nat.le_of_eq (zog _ _),trivial,λb hb=>absurd (show b∈([]:List Addr) from hb) ↥9,hok,.of_eq hg⟩
  refine codeAny_mono ((F _ hKb (nsK hns)).run callerA [] s₁ H ⟨[.ref a],[]⟩ [.ref a] [.ref a] _ _ hr e0 (hbind s₁ (.ref a)) (.cons rfl .nil) (hsp H hO hS)) λr s' h=>?_
  cases r with
  | error e=>exact (hCX H e s' h).elim
  | ok fl =>
   cases fl with
   | next=>exact False.elim h
   | brk=>exact False.elim h
   | cont=>exact False.elim h
   | ret u =>
    obtain ⟨v,H',os,bare,un,hok',r',q⟩:=h
    have q':v=.bl true:=q
    subst q'
    obtain rfl:u=Value.bool true:=r'
    refine ⟨rfl,OldK.of_keep λb o e=>?_,os,bare⟩
    cases q:H b with
    | none=>exact un.keep b o e q (by intro z;exact absurd (show b∈([]:List Addr) from z) ↥9) ↥9
    | some u =>
     rcases hO b with z | ⟨ob,xs,z⟩
     ·rw [q] at z;cases z
     ·have z2:=un.frzs b ob _ z
      obtain ⟨e1,_⟩:=hok b _ z
      obtain ⟨e2,_⟩:=hok' b _ z2
      rw [e] at e1;cases e1
      exact e2
 cases hk:K.lookup a with
 | some o =>
  have e:=KX a o hk
  rw [ha] at e
  cases e
  refine core (λ_=>none) (λ_=>.inl rfl) (.inr ⟨_,vs.toArray,_,hk,rfl,rfl,rfl,by rw [List.size_toArray,lenV];exact hl,by simpa using rv⟩) (λb u z=>by have z':(none:Option HO)=some u:=z;cases z') (λb z=>absurd rfl z) λz=>absurd rfl z
 | none =>
  refine core (λb=>if b=a then some (.frz { cls:=.type "list",data:=.seq vs.toArray } (.lst ↑53)) else none) (λb=>?_) (.inl (.inr ⟨{ cls:=.type "list",data:=.seq vs.toArray },if_pos rfl⟩)) (λb u z=>?_) (λb z=>?_) λ_=>hk
  ·by_cases hb:b=a
   ·exact .inr ⟨_,_,if_pos hb⟩
   ·exact .inl (if_neg hb)
  ·by_cases hb:b=a
   ·have z':=(if_pos hb).symm.trans z
    cases z'
    subst hb
    exact ⟨ha,by rw [List.length_map];exact hl,vs,_,rv,ha⟩
   ·have z':=(if_neg hb).symm.trans z
    cases z'
  ·by_cases hb:b=a
   ·exact hb
   ·exact absurd (if_neg hb) z
theorem zqY {l:W.OpenLaw} {n k:Nat} {q:Program} {loose:List Str} {XP:(Str->Option Value)->Heap->Prop} {YP:World->Heap->Prop} {d:DefRec} {K:Params->W.Frag} {CX:World->CXT} {sp:World->Sp} {x:Str}
  (hn:l.most=some n) (hn2:n≤sizeLine) (hdf:d.params.defaults=[]) (hr:Room k callerA)
  (hY:∀ (w:World) (h:Heap),YP w h->(K w.params).In h)
  (F:∀ (w:World) (mg:Str->Option Value) (fa:Addr) (h:Heap),(K w.params).In h->h.Ns mainGlobals mg->mg d.name=some (.ref fa) →
   ∃ fd:FuncData,(∀ (s:Shared) (u:Value),BindsTo s fd ⟨[u],[]⟩ [(x,u)]) ∧
    ∀ base:Heap,(K w.params).In base->base.Ns mainGlobals mg->FnOk l.prog w (K w.params) mg base (CX w) k fa fd [x] (sp w))
  (hsp:∀ (w:World) (H:Hp) (a:Addr) (ns:Ji),ns.length≤n->zu6 H->SqL (K w.params) H a ↑53->sp w [.ref a] H (λv _=>v=.bl true) λ_ _ _=>False)
  (hCX:∀ (w:World) (H:Hp) (s:Shared) (e:Value) (s':Shared),CX w [] H s (λ_ _ _=>False) e s'->False) :
  W.WalkO q loose XP YP l.row.toRowW d [] (λf vs=>PySem.call f vs):=by
 refine Att.attach_call hn hdf λw s₀ s₁ mg mb fa o pm cd doc a vs ns G Y ho hd hcd hmg hobj hints hlen hg=>?_
 have KX:=hY w _ Y
 obtain ⟨fd,hb,hF⟩:=F w mg fa _ KX G.T.g hmg
 exact zpk KX G.T.g G.T.b G.T.builtins G.T.nolimit hg hobj hints (⇑6 hlen hn2) hr hF hb (λH hO hS=>hsp w H a ns hlen hO hS) λH e s'=>hCX w H s₁ e s'
def zg0 (s:Stmt) (j:Nat):Stmt:=match s with
 | .ClassDef _ _ _ body _ _ _ _ _ _ _=>body.getD j (.Pass ⟨0,0,0,0⟩)
 | _=>.Pass ⟨0,0,0,0⟩
def zgg (s:Stmt):Arguments:=match s with
 | .FunctionDef _ a _ _ _ _ _ _ _ _=>a
 | _=>{ posonlyargs:=[],args:=[],vararg:=none,kwonlyargs:=[],kw_defaults:=[],kwarg:=none,defaults:=[] }
def zeE (s:Stmt):List Stmt:=match s with
 | .FunctionDef _ _ b _ _ _ _ _ _ _=>b
 | _=>[]
def zai (s:Stmt):Scope:=match s with
 | .FunctionDef _ _ _ _ _ _ sc _ _ _=>sc
 | _=>{ kind:=.function,names:=[],isGenerator:=false,isCoroutine:=false }
abbrev E0:XK:=λ_ _ _=>False
structure Fun (K:W.Frag) (x qual:Str) (st:Stmt) (f:Addr) (fd:FuncData):Prop where
 ex:∃ (oc:Value) (od:Option Addr) (kV doc pm:Value) (an:Option Addr) (cdv ct:Value) (osl:Array (Option Value)),
  fd=W.fnOf x qual (zgg st) (zeE st) (zai st) .none kV doc pm an cdv ct∧K.lookup f=some ⟨oc,od,.func fd,osl⟩∧W.codeIn K cdv qual=true
 kp:W.keepIn K (.ref f)=true
section
variable {K:W.Frag}
theorem Fun.binds {x qual:Str} {st:Stmt} {f:Addr} {fd:FuncData} {ps:List Str} (F:Fun K x qual st f fd)
  (h:∀ (kV doc pm:Value) (an:Option Addr) (cdv ct:Value) (us:List Value),us.length=ps.length->bindArgs (W.fnOf x qual (zgg st) (zeE st) (zai st) .none kV doc pm an cdv ct) ⟨us,[]⟩=pure (ps.zip us)):zf5 K fd ps []:=by
 obtain ⟨oc,od,kV,doc,pm,an,cdv,ct,osl,rfl,lk,hcd⟩:=F.ex
 exact .all (h kV doc pm an cdv ct)
theorem zqL {x qual:Str} {st:Stmt} {f:Addr} {oc:Value} {od an:Option Addr} {osl:Array (Option Value)} {kV doc pm cdv ct:Value} (l:K.lookup f=some ⟨oc,od,.func (W.fnOf x qual (zgg st) (zeE st) (zai st) .none kV doc pm an cdv ct),osl⟩)
  (c:W.codeIn K cdv qual=true) (k:W.keepIn K (.ref f)=true):Fun K x qual st f (W.fnOf x qual (zgg st) (zeE st) (zai st) .none kV doc pm an cdv ct):=⟨⟨oc,od,kV,doc,pm,an,cdv,ct,osl,rfl,l,c⟩,k⟩
end
section
variable {X:Cx}
theorem pv (i:Nat) {x:Str} {pos:Pos} (hN:X.N[i]?=some x:=by rfl) (hv:Vis X.env.scope x:=by first | exact ↥0 rfl | exact Or.inr (↥0 rfl) | exact Or.inr ⇑7) (hd:↑100=false:=by decide)
  (hcd:(x == ("__classdict__":Str))=false:=by decide):PE X (.Name x pos) (zjm i):=zt8 hN hv hd hcd
end
def Same (H H':Hp):Prop:=∀ b o,H b=some o->H' b=some o
theorem Same.refl (H:Hp):Same H H:=λ_ _ h=>h
theorem Same.trans {H H1 H2:Hp} (a:Same H H1) (b:Same H1 H2):Same H H2:=λc o h=>b c o (a c o h)
theorem Same.free {H H':Hp} (e:Same H H') {l:Addr} (h:H' l=Option.none):H l=Option.none:=by
 cases q:H l with
 | none=>rfl
 | some o =>
  rw [e l o q] at h
  cases h
theorem Same.seq {K:W.Frag} {H H':Hp} {a:Addr} {xs:List V} (e:Same H H') (h:SqL K H a xs):SqL K H' a xs:=by
 rcases h with (h | ⟨o,h⟩) | h
 ·exact .inl (.inl (e _ _ h))
 ·exact .inl (.inr ⟨o,e _ _ h⟩)
 ·exact .inr h
theorem zgT {env:Env}:∀ (names:List (Str×NameKind)) (acc:List ↑43),(∀ x∈names,x.2=.free->∃ c,env.cells.lookup x.1=some c) →
  ∃ cl:List ↑43,(forIn (m:=Sem) names acc λ(x:Str×NameKind) (cs:List ↑43)=>if (x.2 == NameKind.free)=true then (do let a ← cellOf env x.1;pure (ForInStep.yield ((x.1,a) :: cs))) else pure (ForInStep.yield cs))=pure cl ∧
   (∀ x c,cl.lookup x=some c->acc.lookup x=some c∨env.cells.lookup x=some c)∧(∀ x,((x,NameKind.free)∈names∨∃ c,acc.lookup x=some c)->∃ c,cl.lookup x=some c)
 | [],acc,_=>⟨acc,rfl,λ_ _ h=>.inl h,λx h=>by
   rcases h with h | h
   ·cases h
   ·exact h⟩
 | (n,k) :: r,acc,h=>by
  have hr:∀ x∈r,x.2=.free->∃ c,env.cells.lookup x.1=some c:=λx hx=>h x (⇑3 _ hx)
  by_cases hk:k=.free
  ·subst hk
   obtain ⟨c,hc⟩:=h (n,.free) ↑3 rfl
   obtain ⟨cl,e,h1,h2⟩:=zgT r ((n,c) :: acc) hr
   refine ⟨cl,?_,λx c' q=>?_,λx q=>?_⟩
   ·rw [List.forIn_cons]
    have e1:cellOf env n=pure c:=by unfold cellOf;rw [hc]
    simp only [beq_self_eq_true,if_true,e1]
    exact e
   ·rcases h1 x c' q with z | z
    ·rw [List.lookup_cons] at z
     cases hx:x == n with
     | true =>
      rw [hx] at z
      have z':some c=some c':=z
      cases z'
      have:x=n:=eq_of_beq hx
      subst this
      exact .inr hc
     | false=>rw [hx] at z;exact .inl z
    ·exact .inr z
   ·refine h2 x ?_
    by_cases hx:x=n
    ·subst hx
     exact .inr ⟨c,by rw [List.lookup_cons];simp⟩
    ·rcases q with q | ⟨c',q⟩
     ·rcases List.mem_cons.mp q with q | q
      ·exact absurd (congrArg Prod.fst q) hx
      ·exact .inl q
     ·refine .inr ⟨c',?_⟩
      have:(x == n)=false:=by simpa using hx
      rw [List.lookup_cons,this]
      exact q
  ·obtain ⟨cl,e,h1,h2⟩:=zgT r acc hr
   refine ⟨cl,?_,h1,λx q=>h2 x ?_⟩
   ·rw [List.forIn_cons]
    have e1:(k == NameKind.free)=false:=by simpa using hk
    simp only [e1,Bool.false_eq_true,if_false]
    exact e
   ·rcases q with q | q
    ·rcases List.mem_cons.mp q with q | q
     ·exact absurd (congrArg Prod.snd q).symm hk
     ·exact .inl q
    ·exact .inr q
theorem zm2 {scope:Scope} {env:Env} (h:∀ x∈scope.names,x.2=.free->∃ c,env.cells.lookup x.1=some c) :
  ∃ cl,closureFor scope env=pure cl∧(∀ x c,cl.lookup x=some c->env.cells.lookup x=some c)∧∀ x,(x,NameKind.free)∈scope.names->∃ c,cl.lookup x=some c:=by
 obtain ⟨cl,e,h1,h2⟩:=zgT (env:=env) scope.names [] h
 refine ⟨cl,?_,λx c q=>(h1 x c q).elim (λz=>by cases z) id,λx q=>h2 x (.inl q)⟩
 have e2:closureFor scope env=(forIn (m:=Sem) scope.names [] λ(x:Str×NameKind) (cs:List ↑43)=>if (x.2 == NameKind.free)=true then (do let a ← cellOf env x.1;pure (ForInStep.yield ((x.1,a) :: cs))) else pure (ForInStep.yield cs)) >>= λr=>pure r:=by
  unfold closureFor
  rfl
 rw [e2,e]
 rfl
theorem zdM {env:Env}:∀ {names:List (Str×NameKind)} {x:Str} {k:NameKind},
  (names.map λ(n,k)=>if (k==NameKind.free && env.scope.kind== .function && env.kindOf n==some .cell) then (n,NameKind.cell) else (n,k)).lookup x=some k →
   names.lookup x=some k∨(k=.cell∧names.lookup x=some .free)
 | [],_,_,h=>by simp at h
 | (n,k') :: r,x,k,h=>by
  have ih:=@zdM env r x k
  have h:List.lookup x ((if ↑274=true then (n,NameKind.cell) else (n,k')) :: _)=some k:=h
  cases hx:x == n with
  | true =>
   by_cases hc:↑274=true
   ·rw [if_pos hc] at h
    simp only [List.lookup_cons,hx] at h
    cases h
    simp only [Bool.and_eq_true,beq_iff_eq] at hc
    refine .inr ⟨rfl,?_⟩
    simp [List.lookup_cons,hx,hc.1.1]
   ·rw [if_neg hc] at h
    simp only [List.lookup_cons,hx] at h
    cases h
    exact .inl (by simp [List.lookup_cons,hx])
  | false =>
   have h':(r.map λ(n,k)=>if (k==NameKind.free && env.scope.kind== .function && env.kindOf n==some .cell) then (n,NameKind.cell) else (n,k)).lookup x=some k:=by
    by_cases hc:↑274=true
    ·rw [if_pos hc] at h
     simpa only [List.lookup_cons,hx] using h
    ·rw [if_neg hc] at h
     simpa only [List.lookup_cons,hx] using h
   simpa only [List.lookup_cons,hx] using ih h'
theorem zfS:∀ (names:List (Str×NameKind)) (a:Nat) (acc:List ↑43) (x:Str) (c:Addr),((cellsFrom a names acc)).lookup x=some c->((x,NameKind.cell)∈names∧a≤c)∨((x,NameKind.cell) ∉ names∧acc.lookup x=some c)
 | [],_,_,_,_,h=>.inr ⟨by simp,h⟩
 | (n,k) :: r,a,acc,x,c,h=>by
  unfold cellsFrom at h
  by_cases hk:k=.cell
  ·subst hk
   rw [if_pos (by rfl)] at h
   rcases zfS r (a+1) ((n,a) :: acc) x c h with ⟨h1,h2⟩ | ⟨h1,h2⟩
   ·exact .inl ⟨⇑3 _ h1,Nat.le_of_succ_le h2⟩
   ·rw [List.lookup_cons] at h2
    cases hx:x == n with
    | true =>
     rw [hx] at h2
     have h2:some a=some c:=h2
     cases h2
     rw [eq_of_beq hx]
     exact .inl ⟨↑3,↑4 _⟩
    | false =>
     rw [hx] at h2
     refine .inr ⟨λz=>?_,h2⟩
     rcases List.mem_cons.mp z with z | z
     ·have:=congrArg Prod.fst z
      have:x=n:=this
      rw [this] at hx
      simp at hx
     ·exact h1 z
  ·have hk':(k == NameKind.cell)=false:=by simpa using hk
   rw [hk',if_neg ↥9] at h
   rcases zfS r a acc x c h with ⟨h1,h2⟩ | ⟨h1,h2⟩
   ·exact .inl ⟨⇑3 _ h1,h2⟩
   ·refine .inr ⟨λz=>?_,h2⟩
    rcases List.mem_cons.mp z with z | z
    ·exact hk (congrArg Prod.snd z).symm
    ·exact h1 z
theorem ziv:∀ (names:List (Str×NameKind)) (a:Nat) (acc:List ↑43) (x:Str),((x,NameKind.cell)∈names∨∃ c,acc.lookup x=some c)->∃ c,((cellsFrom a names acc)).lookup x=some c
 | [],_,_,_,h=>by
  rcases h with h | h
  ·simp at h
  ·exact h
 | (n,k) :: r,a,acc,x,h=>by
  unfold cellsFrom
  by_cases hk:k=.cell
  ·subst hk
   rw [if_pos (by rfl)]
   refine ziv r (a+1) ((n,a) :: acc) x ?_
   by_cases hx:x=n
   ·subst hx
    exact .inr ⟨a,by rw [List.lookup_cons];simp⟩
   ·rcases h with h | ⟨c,h⟩
    ·rcases List.mem_cons.mp h with h | h
     ·exact absurd (congrArg Prod.fst h) hx
     ·exact .inl h
    ·refine .inr ⟨c,?_⟩
     have:(x == n)=false:=by simpa using hx
     rw [List.lookup_cons,this]
     exact h
  ·have hk':(k == NameKind.cell)=false:=by simpa using hk
   rw [hk',if_neg ↥9]
   refine ziv r a acc x ?_
   rcases h with h | h
   ·rcases List.mem_cons.mp h with h | h
    ·exact absurd (congrArg Prod.snd h).symm hk
    ·exact .inl h
   ·exact .inr h
theorem zgs:∀ (names:List (Str×NameKind)) (a:Nat) (acc acc':List ↑43) (x:Str),((x,NameKind.cell)∈names∨acc.lookup x=acc'.lookup x)->((cellsFrom a names acc)).lookup x=(cellsFrom a names acc').lookup x
 | [],_,_,_,_,h=>by
  rcases h with h | h
  ·simp at h
  ·exact h
 | (n,k) :: r,a,acc,acc',x,h=>by
  unfold cellsFrom
  by_cases hk:k=.cell
  ·subst hk
   rw [if_pos (by rfl),if_pos (by rfl)]
   refine zgs r (a+1) _ _ x ?_
   by_cases hx:x=n
   ·subst hx
    exact .inr (by rw [List.lookup_cons,List.lookup_cons];simp)
   ·have hx':(x == n)=false:=by simpa using hx
    rcases h with h | h
    ·rcases List.mem_cons.mp h with h | h
     ·exact absurd (congrArg Prod.fst h) hx
     ·exact .inl h
    ·exact .inr (by rw [List.lookup_cons,List.lookup_cons,hx'];exact h)
  ·have hk':(k == NameKind.cell)=false:=by simpa using hk
   rw [hk',if_neg ↥9,if_neg ↥9]
   refine zgs r a _ _ x ?_
   rcases h with h | h
   ·rcases List.mem_cons.mp h with h | h
    ·exact absurd (congrArg Prod.snd h).symm hk
    ·exact .inl h
   ·exact .inr h
theorem zeN {M:Model} {A:Around} {E:Value->Shared->Prop} {s:Shared} {scope:Scope} {globals:Addr} {closure:List ↑43} {qual:Str} {func:Option Addr} {code:Value} {outer:Env} {builtins:Addr} {Q:Env->Shared->Prop}
  (hQ:∀ h',h'.Ns ⇑2 (λ_=>none)->(∀ b o,s.heap.get? b=some o->h'.get? b=some o) →
   (∀ x c,(x,NameKind.cell)∈scope.names->(cellsFrom (⇑2+1) scope.names closure).lookup x=some c->h'.IsCell c none) →
   Q (newEnv scope ⇑2 globals (cellsFrom (⇑2+1) scope.names closure) qual func code (some outer) builtins) { s with heap:=h' }) :
  wpAny M A (newFunctionEnv scope globals closure [] qual func code (some outer) builtins) Q E s:=by
 simp only [newFunctionEnv,Option.isSome_some,if_true]
 refine wpAny_bind (wpAny_alloc ?_)
 refine wpAny_bind (wpAny_layCells _ (λname kind cells=>by cases hkc:kind == NameKind.cell<;>simp [hkc]) _ _ _ _ ?_)
 have ok:=cellsFrom_ok scope.names (s.heap.push { cls:=.type "dict",data:=.dict #[] }) (⇑2+1) [] ⟨λ_ _ hm=>(nomatch hm),List.Pairwise.nil⟩ (by rw [Heap.size_push];exact ↑4 _)
 rw [Heap.size_push] at ok
 rw [show ({ s with heap:=s.heap.push { cls:=.type "dict",data:=.dict #[] } }:Shared).heap.objs.size=⇑2+1 from Heap.size_push ..]
 simp only [List.forIn_nil]
 refine wpAny_bind (wpAny_pure (wpAny_pure (hQ _ ((Heap.Ns.new s.heap (.type "dict")).keeps (pushCells_keeps _ _)) (λb o e=>pushCells_keeps _ _ b o (Heap.get?_push_of_some _ e)) λx c hx hc=>?_)))
 rw [zgs _ _ closure [] x (.inl hx)] at hc
 exact (ok.empty x c (PySem.mem_of_lookup hc)).1
def zci (X:Cx) (N':List Str) (scope:Scope) (cl:List ↑43) (C:Addr) (fp:List Addr) (s:Shared) (H:Hp):Cx where
 prog:=X.prog
 w:=X.w
 K:=X.K
 mg:=X.mg
 base:=X.base
 A:=X.A
 N:=N'
 s₀:=s
 H₀:=H
 env:=compEnvC scope cl C X.env
 outer:=X.stack
 stack:=X.stack
 ex:=fp
 fn:=λx=>scope.names.lookup x == some .cell
 calm:=true
 pn:=X.pn
 xe:=λ_ _=>False
def ziG (own:Nat) (fv:List Nat) (σ:St):St:=List.replicate own none++fv.map λi=>(σ[i]?).join
structure BlkScope (X:Cx) (scope:Scope) (own fvn:List Str) (fv:List Nat):Prop where
 cell:∀ y∈scope.names,y.2=.cell->scope.names.lookup y.1=some .cell
 fre:∀ y∈scope.names,y.2=.free->scope.names.lookup y.1=some .free
 kind:scope.kind=.function
 names:∀ y∈scope.names,y.2=.local->scope.names.lookup y.1=some .local
 free:∀ y∈scope.names,y.2=.free->X.env.scope.names.lookup y.1=some .cell∨X.env.scope.names.lookup y.1=some .free
 map:fvn.map some=fv.map λi=>X.N[i]?
 vis:∀ x∈fvn,scope.names.lookup x=some .free
section
variable {X:Cx} {pins:List ↥3} {σ:St} {H:Hp} {s:Shared}
def zqh (X:Cx) (scope:Scope) (cl:List ↑43) (C:Addr):Prop:=(∀ x c,cl.lookup x=some c->(X.env.cells.lookup x=some c∧scope.names.lookup x≠some .cell)∨(C<c∧scope.names.lookup x=some .cell)) ∧
 (∀ x y c,C<c->cl.lookup x=some c->cl.lookup y=some c->x=y)∧∀ x,((x,NameKind.free)∈scope.names∨(x,NameKind.cell)∈scope.names)->∃ c,cl.lookup x=some c
theorem zuj {scope:Scope} {own fvn:List Str} {fv:List Nat} {cl:List ↑43} {C:Addr} (B:BlkScope X scope own fvn fv) (h1:∀ x c,cl.lookup x=some c->X.env.cells.lookup x=some c) (h2:∀ x,(x,NameKind.free)∈scope.names->∃ c,cl.lookup x=some c)
  (hlt:∀ x c,X.env.cells.lookup x=some c->c≤C):zqh X scope (cellsFrom (C+1) scope.names cl) C:=by
 refine ⟨λx c e=>?_,λx y c hc e1 e2=>?_,λx hx=>?_⟩
 ·rcases zfS _ _ _ _ _ e with ⟨z1,z2⟩ | ⟨z1,z2⟩
  ·exact .inr ⟨z2,B.cell _ z1 rfl⟩
  ·exact .inl ⟨h1 x c z2,λq=>z1 (PySem.mem_of_lookup q)⟩
 ·have key:∀ x,(cellsFrom (C+1) scope.names cl).lookup x=some c->(x,c)∈cellsFrom (C+1) scope.names []:=λx e=>by
   rcases zfS _ _ _ _ _ e with ⟨z1,z2⟩ | ⟨z1,z2⟩
   ·rw [zgs _ _ cl [] x (.inl z1)] at e
    exact PySem.mem_of_lookup e
   ·exact absurd (hlt x c (h1 x c z2)) (Nat.not_le.mpr hc)
  have ap:∀ (names:List (Str×NameKind)) (a:Nat) (acc:List ↑43),(∀ e∈acc,e.2<a)->(acc.Pairwise λx y=>x.2≠y.2)->((cellsFrom a names acc)).Pairwise λx y=>x.2≠y.2:=by
   intro names
   induction names with
   | nil=>intro a acc _ h;exact h
   | cons nk r ih =>
    intro a acc h h'
    obtain ⟨n,k⟩:=nk
    unfold cellsFrom
    split
    ·refine ih (a+1) _ (λe he=>?_) (List.pairwise_cons.mpr ⟨λy hy=>Nat.ne_of_gt (h y hy),h'⟩)
     rcases List.mem_cons.mp he with rfl | he
     ·exact Nat.lt_succ_self _
     ·exact Nat.lt_succ_of_lt (h e he)
    ·exact ih a acc h h'
  exact PySem.name_of_addr (ap scope.names (C+1) [] ↥9 .nil) (key x e1) (key y e2)
 ·refine ziv _ _ _ _ ?_
  rcases hx with hx | hx
  ·exact .inr (h2 x hx)
  ·exact .inl hx
theorem zpX {scope:Scope} {own fvn:List Str} {fv:List Nat} {cl:List ↑43} {C:Addr} {fp:List Addr} (I:Inv X pins σ H s) (B:BlkScope X scope own fvn fv) (hc:X.calm=true)
  (hb:zqh X scope cl C)
  (hC:⇑2≤C) (hf:∀ b∈fp,zmo X pins H b) (hl:∀ b∈fp,b<⇑2):(↑97).Ok where
 mod:=I.ok.mod
 kind:=B.kind
 glob:=I.ok.glob
 blt:=I.ok.blt
 above:=hC
 inj:=λx y c e1 e2=>by
  have lt:∀ z,X.env.cells.lookup z=some c->c<s.heap.objs.size:=λz e=>by obtain ⟨v,q⟩:=I.cell z c e;exact q.lt
  rcases hb.1 x c e1 with ⟨z1,_⟩ | ⟨z1,_⟩
  ·rcases hb.1 y c e2 with ⟨z2,_⟩ | ⟨z2,_⟩
   ·exact I.ok.inj x y c z1 z2
   ·exact absurd (Nat.lt_of_lt_of_le (lt x z1) hC) (Nat.not_lt.mpr (Nat.le_of_lt z2))
  ·exact hb.2.1 x y c z1 e1 e2
 has:=λx hx=>by
  have hx:(↑271).lookup x=some .cell ∨
   (↑271).lookup x=some .free:=hx
  refine hb.2.2 x ?_
  rcases hx with hx | hx
  ·rcases zdM hx with z | ⟨_,z⟩
   ·exact .inr (PySem.mem_of_lookup z)
   ·exact .inl (PySem.mem_of_lookup z)
  ·rcases zdM hx with z | ⟨z,_⟩
   ·exact .inl (PySem.mem_of_lookup z)
   ·cases z
 cab:=λx c h e=>by
  have h:(scope.names.lookup x == some NameKind.cell)=true:=h
  rcases hb.1 x c e with ⟨_,z⟩ | ⟨z,_⟩
  ·exact absurd (eq_of_beq h) z
  ·exact ⇑6 hC (Nat.le_of_lt z)
 hd:=λ_=>I.ok.hd hc
 frames:=I.ok.frames
 stk:=.inl rfl
 exf:=λb hb'=>⟨Nat.ne_of_lt (Nat.lt_of_lt_of_le (hl b hb') hC),λx c e=>by
  rcases hb.1 x c e with ⟨z,_⟩ | ⟨z,_⟩
  ·exact (hf b hb').2.2.2.2.1 x c z
  ·exact Nat.ne_of_gt (Nat.lt_trans (Nat.lt_of_lt_of_le (hl b hb') hC) z)⟩
 bs:=I.bs
 bsz:=⇑6 I.ok.bsz I.sz
 noex:=λb o e hb=>by
  rcases (hf b hb).2.2.2.1 with z | z
  ·exact I.ok.noex b o e z
  ·exact absurd (Nat.lt_of_lt_of_le (Heap.lt_size ((I.ok.bs b o e)).1) z) ↑158
 exfs:=λb hb z=>by
  rcases List.mem_cons.mp (I.stkSub b z) with q | q
  ·exact (hf b hb).2.1 q
  ·exact (hf b hb).2.2.1 q
 funs:=I.stack
 frf:=I.stkFree
theorem zsi {own:List Str} {fvn:List Str} {fv:List Nat} {i:Nat} {x:Str} {v:V} (hm:fvn.map some=fv.map λi=>X.N[i]?) (h1:(own++fvn)[i]?=some x) (h2:((ziG own.length fv σ))[i]?=some (some v)) :
  x∈fvn∧∃ j:Nat,X.N[j]?=some x∧σ[j]?=some (some v):=by
 unfold ziG at h2
 by_cases hi:i<own.length
 ·rw [List.getElem?_append_left ↑93,List.getElem?_replicate] at h2
  split at h2<;>cases h2
 ·rw [List.getElem?_append_right ↑93,List.length_replicate,List.getElem?_map] at h2
  rw [List.getElem?_append_right ↑93] at h1
  have q:(fvn.map some)[i-own.length]?=(fv.map λi=>X.N[i]?)[i-own.length]?:=by rw [hm]
  rw [List.getElem?_map,List.getElem?_map,h1] at q
  cases e:fv[i-own.length]? with
  | none=>rw [e] at h2;cases h2
  | some j =>
   rw [e] at h2 q
   have q':X.N[j]?=some x:=(Option.some.inj q).symm
   have h2':(σ[j]?).join=some v:=Option.some.inj h2
   refine ⟨List.mem_of_getElem? h1,j,q',?_⟩
   cases e2:σ[j]? with
   | none=>rw [e2] at h2';cases h2'
   | some o =>
    rw [e2] at h2'
    have:o=some v:=h2'
    rw [this]
theorem zld {scope:Scope} {own fvn:List Str} {fv:List Nat} {cl:List ↑43} {C D:Addr} {fp:List Addr} {h':Heap} {t':Nat} {m:Str->Option Value} (I:Inv X pins σ H s) (B:BlkScope X scope own fvn fv) (hc:X.calm=true)
  (hb:zqh X scope cl C) (hnew:∀ x c,C<c->cl.lookup x=some c->h'.IsCell c none)
  (hf:∀ b∈fp,zmo X pins H b) (hl:∀ b∈fp,b<⇑2) (hD:⇑2≤D) (hC:⇑2≤C) (hDC:D<C)
  (k:∀ b o,s.heap.get? b=some o->h'.get? b=some o) (hn:h'.Ns C m) (ho:h'.get? D=some { cls:=.type "list",data:=.seq #[] 0 }) :
  Inv ↑97 pins (ziG own.length fv σ) (upd H D (.lst [])) { s with heap:=h',toks:=t' }:=by
 have hDn:H D=none:=I.hok.fresh hD
 have hCn:H C=none:=I.hok.fresh hC
 have lt:∀ b o,s.heap.get? b=some o->b≠D:=λb o e=>Nat.ne_of_lt (Nat.lt_of_lt_of_le ↑119 hD)
 refine ⟨zpX I B hc hb hC hf hl,rfl,I.bare,Un.laid k hD hDn,⟨m,hn,λi x v e1 e2 e3=>?_⟩,λx c e=>?_,?_,λx c e=>?_,λp hp=>?_,?_,?_⟩
 ·obtain ⟨hx,j,e4,e5⟩:=zsi B.map e1 e2
  have hfr:=B.vis x hx
  obtain ⟨c,hcl⟩:=hb.2.2 x (.inl (PySem.mem_of_lookup hfr))
  have h1x:X.env.cells.lookup x=some c:=by
   rcases hb.1 x c hcl with ⟨z,_⟩ | ⟨_,z⟩
   ·exact z
   ·rw [hfr] at z;cases z
  obtain ⟨m0,hn0,hl0⟩:=I.loc
  have ok:=B.free _ (PySem.mem_of_lookup hfr) rfl
  have hv:Vis X.env.scope x:=by
   rcases ok with z | z
   ·exact .inr (.inl z)
   ·exact .inr (.inr z)
  obtain ⟨u,r,l⟩:=hl0 j x v e4 e5 hv
  refine ⟨u,r,.inr ⟨?_,c,hcl,?_⟩⟩
  ·rcases e3 with z | z | z
   ·have z':(↑271).lookup x=some .local:=z
    rcases zdM z' with y | ⟨y,_⟩
    ·rw [hfr] at y;cases y
    ·cases y
   ·exact .inl z
   ·exact .inr z
  ·rcases l with ⟨k0,_⟩ | ⟨_,c',e6,o,ho',hd⟩
   ·have k0':X.env.scope.names.lookup x=some .local:=k0
    rcases ok with z | z<;>(rw [k0'] at z;cases z)
   ·rw [h1x] at e6
    cases e6
    exact ⟨o,k _ _ ho',hd⟩
 ·rcases hb.1 x c e with ⟨z,_⟩ | ⟨z,_⟩
  ·obtain ⟨v,o,ho',hd⟩:=I.cell x c z
   exact ⟨v,o,k _ _ ho',hd⟩
  ·exact ⟨none,hnew x c z e⟩
 ·show upd H D (.lst []) C=none
  rw [zaC (Nat.ne_of_gt hDC)];exact hCn
 ·rcases hb.1 x c e with ⟨z,_⟩ | ⟨z,_⟩
  ·obtain ⟨v,o,ho',hd⟩:=I.cell x c z
   rw [zaC (lt _ _ ho')]
   exact I.freeC x c z
  ·rw [zaC (Nat.ne_of_gt (Nat.lt_trans hDC z))]
   exact I.hok.fresh (⇑6 hC (Nat.le_of_lt z))
 ·obtain ⟨e,n,ne,nf,d⟩:=I.pin p hp
  refine ⟨k _ _ e,?_,Nat.ne_of_lt (Nat.lt_of_lt_of_le ↑119 hC),λz=>?_,d⟩
  ·rw [zaC (lt _ _ e)];exact n
  ·rcases List.mem_cons.mp (I.stkSub _ z) with q | q
   ·exact ne q
   ·exact nf q
 ·exact I.hok.laid k hD ⟨Nat.zero_le _,[],0,.nil,ho⟩
 ·have hm:=congrArg List.length B.map
  rw [List.length_map,List.length_map] at hm
  show ((ziG own.length fv σ)).length=(own++fvn).length
  unfold ziG
  rw [List.length_append,List.length_append,List.length_replicate,List.length_map,hm]
theorem znq {scope:Scope} {N':List Str} {cl:List ↑43} {C:Addr} {fp:List Addr} {σ':St} {H':Hp} {s':Shared} (I:Inv X pins σ H s) (hC:⇑2≤C) (hf:∀ b∈fp,zmo X pins H b)
  (J:Inv (zci X N' scope cl C fp s H) pins σ' H' s'):Inv X pins σ H' s'∧zmo X pins H' C:=by
 have I':Inv X pins σ H' s':=I.call' (ch:=fp) J.os J.base J.hok J.bare λb hb=>⟨(hf b hb).2.2.2.1,(hf b hb).2.1,(hf b hb).2.2.2.2.1,(hf b hb).2.2.2.2.2⟩
 refine ⟨I',J.free,Nat.ne_of_gt (Nat.lt_of_lt_of_le I.lt hC),I.nofs hC,.inr (⇑6 I.sz hC),λx c e z=>?_,λp hp z=>?_⟩
 ·obtain ⟨v,q⟩:=I.cell x c e
  exact absurd (Nat.lt_of_lt_of_le q.lt (by rw [z];exact hC)) ↑158
 ·exact absurd (Nat.lt_of_lt_of_le (Heap.lt_size (I.pin p hp).1) (by rw [z];exact hC)) ↑158
end
section
variable {prog:Program} {w:World} {A:Around} {R:Result->Shared->Prop} {s:Shared}
theorem zoD {elt target iter:Expr} {ifs:List Expr} {scope:Scope} {pos:Pos} {it acc:Value} {env:Env} (I:Nat->Shared->Prop)
  (turn:∀ n s,I n s->wpAny ↑37 A (pyNext it) (λr s₁=>match r with
   | none=>R (.ok .next) s₁
   | some v=>wpAny ↑37 A (letOwnedTupleGo target it v) (λ_ s₁'=>wpAny ↑37 A (assign target env v) (λ_ s₂ =>
     wpAny ↑37 A (forIn ifs true λc r=>if r=true then do let ok ← isTrue c env (eval c env);pure (ForInStep.yield ok) else pure (ForInStep.yield r)) (λok s₃ =>
      if ok=true then wpAny ↑37 A (eval elt env) (λx s₄ =>
       wpAny ↑37 A (call (.builtin "list.append") [acc,x]) (λ_ s₅=>∃ m,m<n∧I m s₅) (λ_ _=>False) s₄) (λ_ _=>False) s₃
      else ∃ m,m<n∧I m s₃) (λ_ _=>False) s₂) (λ_ _=>False) s₁') (λ_ _=>False) s₁) (λ_ _=>False) s)
  (n:Nat) (h:I n s) :
  codeAny ↑37 A (.compLoop (.ListComp elt [⟨target,iter,ifs,0⟩] scope pos) 0 it acc env) R s:=by
 refine codeAny_loop rfl I (λn s hI=>?_) n h
 show wpAny _ A ((compTurn (.ListComp elt [⟨target,iter,ifs,0⟩] scope pos) 0 it acc env).onRaise (λx=>do noteFrame x env;theTreesLotGoes x)) _ _ s
 refine wpAny_noted ?_
 rw [compTurn_list]
 refine wpAny_bind (wpAny_standAt (wpAny_bind (wpAny_mono (turn n s hI) (λr s₁ h₁=>?_) λ_ _ h'=>h'.elim)))
 cases r with
 | none=>exact wpAny_pure h₁
 | some v =>
  refine wpAny_bind (wpAny_mono h₁ (λ_ s₁' h₁'=>?_) λ_ _ h'=>h'.elim)
  refine wpAny_bind (wpAny_mono h₁' (λ_ s₂ h₂=>wpAny_bind (wpAny_mono h₂ (λok s₃ h₃=>?_) λ_ _ h'=>h'.elim)) λ_ _ h'=>h'.elim)
  cases ok with
  | false=>exact wpAny_pure ⟨rfl,h₃⟩
  | true =>
   exact wpAny_bind (wpAny_bind (wpAny_mono h₃ (λx s₄ h₄=>wpAny_bind (wpAny_mono h₄ (λ_ s₅ h₅=>wpAny_pure (wpAny_pure ⟨rfl,h₅⟩)) λ_ _ h'=>h'.elim)) λ_ _ h'=>h'.elim))
end
abbrev TTs:=St->Hp->(Bool->Hp->Prop)->Prop
def PTs (X:Cx) (ifs:List Expr) (t:TTs):Prop :=
 ∀ (pins:List ↥3) (s:Shared) (σ:St) (H:Hp) (Q:Bool->Hp->Prop),Inv X pins σ H s->t σ H Q →
  wpAny ↑5 X.A (forIn ifs true λc r=>if r=true then do let ok ← isTrue c X.env (eval c X.env);pure (ForInStep.yield ok) else pure (ForInStep.yield r)) (TP X pins σ Q) X.xe s
def zpj:TTs:=λ_ H Q=>Q true H
theorem za7 {X:Cx}:PTs X [] zpj:=λ_ _ _ H _ I h=>wpAny_tests_nil ⟨H,I,h⟩
theorem zlL {X:Cx} {c:Expr} {t:TT} (h:PT X c t):PTs X [c] t:=λpins s σ H Q I hw=>wpAny_tests_one (h pins s σ H Q I hw)
def zoc (own:Nat) (fv:List Nat) (wi:TI) (g:TG) (tt:TTs) (te:TE):TE:=λσ H Q=>wi σ H λJ H1=>∀ D,H1 D=none →
 ∃ W:Nat->Nat->List V->St->Hp->Prop,(∃ m,W 0 m [] (ziG own fv σ) (upd H1 D (.lst [])))∧∀ i m ys σb H,W i m ys σb H->H D=some (.lst ys) ∧
  ((J.stop i H∧Q (.ref D) H)∨(J.go i H∧∀ x H',J.yld i H x H'->g x σb H' λσ2 H2=>tt σ2 H2 λok H3=>if ok=true then te σ2 H3 λy H4=>H4 D=some (.lst ys)∧ys.length<sizeLine∧∃ m',m'<m∧W (i+1) m' (ys++[y]) σ2 (upd H4 D (.lst (ys++[y])))
   else ∃ m',m'<m∧W (i+1) m' ys σ2 H3))
section
variable {X:Cx} {tg iter elt:Expr} {ifs:List Expr} {scope:Scope} {pos:Pos} {wi:TI} {g:TG} {tt:TTs} {te:TE} {own fvn:List Str} {fv:List Nat}
theorem zmx {pins:List ↥3} {σ:St} {s:Shared} {Q:VK} {E:Value->Shared->Prop} {cl:List ↑43} {RR:Value->Addr->Result->Shared->Prop} {itv:Value}
  (hc:X.calm=true) (B:BlkScope X scope own fvn fv) (h1:∀ x c,cl.lookup x=some c->X.env.cells.lookup x=some c) (h2:∀ x,(x,NameKind.free)∈scope.names->∃ c,cl.lookup x=some c)
  (hb:∀ (cl:List ↑43) (C:Addr) (fp:List Addr) (s:Shared) (H:Hp),PG ↑97 tg g∧PTs ↑97 ifs tt∧PE ↑97 elt te)
  (P:PIE X pins σ tg (λJ H1=>∀ D,H1 D=none →
   ∃ W:Nat->Nat->List V->St->Hp->Prop,(∃ m,W 0 m [] (ziG own.length fv σ) (upd H1 D (.lst [])))∧∀ i m ys σb H,W i m ys σb H->H D=some (.lst ys) ∧
    ((J.stop i H∧Q (.ref D) H)∨(J.go i H∧∀ x H',J.yld i H x H'->g x σb H' λσ2 H2=>tt σ2 H2 λok H3=>if ok=true then te σ2 H3 λy H4=>H4 D=some (.lst ys)∧ys.length<sizeLine∧∃ m',m'<m∧W (i+1) m' (ys++[y]) σ2 (upd H4 D (.lst (ys++[y])))
     else ∃ m',m'<m∧W (i+1) m' ys σ2 H3))) itv s)
  (hRR:∀ D C s' H' m,Inv X pins σ H' s'->s'.heap.Ns C m->zmo X pins H' C->Q (.ref D) H'->RR (.ref D) C (.ok .next) s') :
  wpAny ↑5 X.A (newList []) (λacc s₃=>wpAny ↑5 X.A (newFunctionEnv scope X.env.globals cl [] X.env.qual none .none (some X.env)) (λcenv s₄ =>
   codeAny ↑5 X.A (.compStart ↑187 0 itv acc { cenv with scope:=relabel scope X.env }) (RR acc cenv.locals) s₄) E s₃) E s:=by
 obtain ⟨it,fp,tn,J,H2,rfl,I2,T,st2,f2,hW⟩:=P
 have hl:∀ b∈fp,b<s.heap.objs.size:=λb hb=>by
  obtain ⟨o,e,_⟩:=T.obj _ _ st2 b hb
  exact Heap.lt_size e
 refine wpAny_newObj_type (zeN (λh₁ hns₁ hsb₁ hcl₁=>?_))
 dsimp only at hns₁ hsb₁ hcl₁ ⊢
 generalize hH2:s.heap.push { cls:=.type "list",dict:=none,data:=.seq ([]:List Value).toArray }=G2 at hns₁ hsb₁ hcl₁ ⊢
 have hC:G2.objs.size=⇑2+1:=by rw [← hH2,Heap.size_push]
 have hDC:⇑2<G2.objs.size:=by rw [hC];exact Nat.lt_succ_self _
 have hCle:⇑2≤G2.objs.size:=by rw [hC];exact Nat.le_succ _
 have old:∀ b o,s.heap.get? b=some o->h₁.get? b=some o:=λb o e=>hsb₁ b o (hH2 ▸ Heap.get?_push_of_some _ e)
 have hacc:h₁.get? ⇑2=some { cls:=.type "list",data:=.seq #[] 0 }:=hsb₁ _ _ (hH2 ▸ Heap.get?_push_size _ rfl)
 have hbc:zqh X scope (cellsFrom (G2.objs.size+1) scope.names cl) G2.objs.size:=zuj B h1 h2 λx c e=>by
  obtain ⟨v,q⟩:=I2.cell x c e
  exact ⇑6 (Nat.le_of_lt q.lt) hCle
 have hnew:∀ x c,G2.objs.size<c->((cellsFrom (G2.objs.size+1) scope.names cl)).lookup x=some c->h₁.IsCell c none:=λx c hc' e=>by
  rcases hbc.1 x c e with ⟨z,_⟩ | ⟨_,z⟩
  ·obtain ⟨v,q⟩:=I2.cell x c z
   exact absurd (Nat.lt_of_lt_of_le q.lt hCle) (Nat.not_lt.mpr (Nat.le_of_lt hc'))
  ·exact hcl₁ x c (PySem.mem_of_lookup z) e
 generalize cellsFrom (G2.objs.size+1) scope.names cl=cl' at hbc hnew ⊢
 clear h1 h2 hcl₁
 obtain ⟨W,⟨m0,w0⟩,turn⟩:=hW ⇑2 (I2.hok.fresh (↑4 _))
 have J0:∀ t',Inv ↑161 pins (ziG own.length fv σ) (upd H2 ⇑2 (.lst [])) { s with heap:=h₁,toks:=t' }:=λt' =>
  zld I2 B hc hbc hnew f2 hl (↑4 _) hCle hDC old hns₁ hacc
 obtain ⟨hpg,hpt,hpe⟩:=hb cl' G2.objs.size fp s H2
 have stat:∀ {H':Hp},(∀b∈fp,H' b=none)->∀ b∈fp,zmo ↑161 pins H' b:=λhn b hb =>
  ⟨hn b hb,Nat.ne_of_lt (Nat.lt_of_lt_of_le (hl b hb) hCle),λz=>by
   rcases List.mem_cons.mp (I2.stkSub b z) with q | q
   ·exact (f2 b hb).2.1 q
   ·exact (f2 b hb).2.2.1 q,.inl hb,λx c e=>(by
    rcases hbc.1 x c e with ⟨z,_⟩ | ⟨z,_⟩
    ·exact (f2 b hb).2.2.2.2.1 x c z
    ·exact Nat.ne_of_gt (Nat.lt_trans (Nat.lt_of_lt_of_le (hl b hb) hCle) z)),(f2 b hb).2.2.2.2.2⟩
 have st1:tn 0 h₁:=T.keep _ _ _ st2 λb hb o e=>old b o e
 have fr1:∀ b∈fp,upd H2 ⇑2 (.lst []) b=none:=λb hb=>by
  rw [zaC (Nat.ne_of_lt (hl b hb))];exact (f2 b hb).1
 have loop:∀ s₃:Shared,s₃={ s with heap:=h₁ } →
   codeAny ↑5 X.A (.compLoop ↑187 0 (.ref it) (.ref ⇑2) (compEnvC scope cl' G2.objs.size X.env)) (RR (.ref ⇑2) G2.objs.size) s₃:=by
  rintro s₃ rfl
  refine zoD (λn s'=>∃ i ys σ' H',Inv ↑161 pins σ' H' s'∧tn i s'.heap∧(∀b∈fp,H' b=none)∧W i n ys σ' H') ?_ m0 ⟨0,[],_,_,J0 s.toks,st1,fr1,w0⟩
  rintro n s3 ⟨i,ys,σ3,H3,I3,st3,fr3,w3⟩
  obtain ⟨hD,w3⟩:=turn i n ys σ3 H3 w3
  rcases w3 with ⟨stop,qn⟩ | ⟨go,step⟩
  ·refine thn (T.done ↑161 rfl rfl rfl rfl i pins s3 σ3 H3 _ I3 (stat fr3) st3 stop) λr s4 ⟨hr,I4⟩=>?_
   subst hr
   obtain ⟨I5,fC⟩:=znq I2 hCle f2 I4
   obtain ⟨m,hn,_⟩:=I4.loc
   exact hRR _ _ s4 H3 m I5 hn fC qn
  ·refine thn (T.item ↑161 rfl rfl rfl rfl i pins s3 σ3 H3 _ I3 (stat fr3) st3 go) λr s4 ⟨u,hr,h4⟩=>?_
   subst hr
   refine thn h4 λ_ s5 ⟨x,H5,I5,r5,y5,st5,fr5⟩=>?_
   have I5':=I5.pinned (stat fr5) (T.obj _ _ st5)
   refine thn (hpg _ s5 σ3 H5 x u _ I5' r5 (step x H5 y5)) λ_ s6 ⟨σ6,H6,I6,q6⟩=>?_
   refine thn (hpt _ s6 σ6 H6 _ I6 q6) λok s7 ⟨H7,I7,q7⟩=>?_
   have again:∀ {s8:Shared} {σ8:St} {H8:Hp} {ys':List V} {m':Nat},Inv ↑161 (pins++zkV fp s5.heap) σ8 H8 s8->m'<n->W (i+1) m' ys' σ8 H8 →
     ∃ m,m<n∧∃ i ys σ' H',Inv ↑161 pins σ' H' s8∧tn i s8.heap∧(∀b∈fp,H' b=none)∧W i m ys σ' H':=λ{s8 σ8 H8 ys' m'} I8 hm w8=>by
    refine ⟨m',hm,i+1,ys',σ8,H8,I8.unpinned,T.keep _ _ _ st5 λb hb o e=>(I8.pin (b,o) ↑258).1,λb hb=>?_,w8⟩
    obtain ⟨o,e,d⟩:=T.obj _ _ st5 b hb
    exact (I8.pin (b,o) ↑258).2.1
   cases ok with
   | false =>
    rw [if_neg Bool.false_ne_true] at q7 ⊢
    obtain ⟨m',hm,w8⟩:=q7
    exact again I7 hm w8
   | true =>
    rw [if_pos rfl] at q7 ⊢
    refine thn (hpe _ s7 σ6 H7 _ I7 q7) λyv s8 ⟨y,H8,I8,r8,hD8,hz8,m',hm,w8⟩=>?_
    refine thn (zkA _ s8 σ6 H8 (.ref ⇑2) [y] _ [yv] (λ_ H9=>H9=upd H8 ⇑2 (.lst (ys++[y]))) I8 rfl (.cons r8 .nil) ⟨_,ys,y,rfl,rfl,hD8,hz8,rfl⟩) λ_ s9 ⟨_,H9,I9,_,e9⟩=>?_
    subst e9
    exact again I9 hm w8
 exact codeAny_compStart_list (loop _ rfl) (T.self _ 0 _ _ _ st1 (loop _ rfl))
theorem zhJ (B:BlkScope X scope own fvn fv) (ok:X.Ok):∃ cl,closureFor scope X.env=pure cl∧(∀ x c,cl.lookup x=some c->X.env.cells.lookup x=some c)∧∀ x,(x,NameKind.free)∈scope.names->∃ c,cl.lookup x=some c :=
 zm2 λx hx hk=>ok.has x.1 (B.free x hx hk)
theorem zb9 (hc:X.calm=true) (B:BlkScope X scope own fvn fv) (hi:PI X tg iter wi)
  (hb:∀ (cl:List ↑43) (C:Addr) (fp:List Addr) (s:Shared) (H:Hp),PG ↑97 tg g∧PTs ↑97 ifs tt∧PE ↑97 elt te)
  (hs:∀ x,foldedSetIterable iter X.env x=pure x:=by intro _;rfl):PE X ↑187 (zoc own.length fv wi g tt te):=by
 intro pins s σ H Q I h
 obtain ⟨cl,hcl,h1,h2⟩:=zhJ B I.ok
 rw [eval_ListComp]
 refine wpAny_comprehension_free (use:=none) rfl hs hcl B.kind B.names (thn (hi pins s σ H _ I h) λv s1 q1=>thn q1 λitv s2 q2=> ?_)
 refine zmx (RR:=λacc C=>compPost ↑5 X.A X.xe none ↑86 acc C) hc B h1 h2 hb q2 λD C s' H' m I' hn fC q=>?_
 exact ⟨m,hn,λh' hs'=>⟨.ref D,H',I'.turned (t':=s'.toks) (λb o hb e=>(hs'.2 b hb).trans e) fC.1 fC.2.1 fC.2.2.2.1 fC.2.2.2.2.1 fC.2.2.2.2.2,rfl,q⟩⟩
theorem zc1 {i:Nat} {x:Str} {pos' spos:Pos} (hc:X.calm=true) (hN:X.N.Nodup) (hix:X.N[i]?=some x) (hx:X.env.scope.names.lookup x=some .local) (B:BlkScope X scope own fvn fv) (hi:PI X tg iter wi)
  (hb:∀ (cl:List ↑43) (C:Addr) (fp:List Addr) (s:Shared) (H:Hp),PG ↑97 tg g∧PTs ↑97 ifs tt∧PE ↑97 elt te)
  (hsw:swapsWith ↑187 (some (.Name x pos')) spos.line X.env=pure true:=by rfl)
  (hs:∀ x,foldedSetIterable iter X.env x=pure x:=by intro _;rfl) :
  PS X (.Assign [.Name x pos'] ↑187 spos) (zk2 (zoc own.length fv wi g tt te) (zdV i)):=by
 intro pins s σ H D I h
 obtain ⟨cl,hcl,h1,h2⟩:=zhJ B I.ok
 rw [exec_Assign_Name_used _ _ _ _ hsw]
 refine wpAny_bind (wpAny_standAt (wpAny_bind ?_))
 show wpAny _ _ (do let _ ← comprehension ↑187 scope X.env _ (newList []) false (eval iter X.env) (some (assign (.Name x pos') X.env))) _ _ s
 refine wpAny_bind (wpAny_mono (wpAny_comprehension_free (use:=some (assign (.Name x pos') X.env)) (Q:=λ_ s'=>SP X pins D .next s') rfl hs hcl B.kind B.names
  (thn (hi pins s σ H _ I h) λv s1 q1=>thn q1 λitv s2 q2=> ?_)) (λ_ s' hq=>wpAny_pure (wpAny_pure hq)) λ_ _ e=>e)
 refine zmx (Q:=λv H1=>zdV i v σ H1 D.nx) (RR:=λacc C=>compPost ↑5 X.A X.xe (some (assign (.Name x pos') X.env)) (λ_ s'=>SP X pins D .next s') acc C) hc B h1 h2 hb q2 λDa C s' H' m I' hn fC q=>?_
 show wpAny _ _ (assign (.Name x pos') X.env (.ref Da)) _ _ _
 refine wpAny_assign_Name (zkC I' hN hix (.inl hx) (v:=.ref Da) rfl (λs'' I'' ⟨a,hsb,ha⟩=>?_) (.inr hx))
 have hCa:C≠a:=by
  rcases ha with z | z
  ·rw [z];exact fC.2.1
  ·exact Ne.symm (fC.2.2.2.2.1 x a z)
 refine ⟨m,hn.sameBut hsb hCa,λh'' hs''=>⟨_,H',I''.turned (t':=s''.toks) (λb o hb e=>(hs''.2 b hb).trans e) fC.1 fC.2.1 fC.2.2.2.1 fC.2.2.2.2.1 fC.2.2.2.2.2,q⟩⟩
end
section
variable {X:Cx} {pins:List ↥3} {σ:St} {H:Hp} {s:Shared} {h':Heap}
theorem Inv.turnedNew {t':Nat} {ch:List Addr} {T:Addr} {o:HO} (I:Inv X pins σ H s) (hf:∀ b∈ch,zmo X pins H b) (k:∀ b u,b ∉ ch->s.heap.get? b=some u->h'.get? b=some u) (hT:⇑2≤T)
  (new:zen X.prog X.w (upd H T o) h' T o):Inv X pins σ (upd H T o) { s with heap:=h',toks:=t' }:=by
 have hn:H T=none:=I.hok.fresh hT
 have lt:∀ b u,s.heap.get? b=some u->b≠T:=λb u e=>Nat.ne_of_lt (Nat.lt_of_lt_of_le ↑119 hT)
 refine I.step (g':=s.gens) (d':=s.drawn) (ch:=ch) (λb hb=>⟨(hf b hb).2.2.2.1,(hf b hb).2.1,(hf b hb).2.2.2.2.1,(hf b hb).2.2.2.2.2⟩) (λb u _ _ hc e _=>k b u hc e) (λb u _ _ hc e _=>⟨u.slots,k b u hc e⟩)
  (λb u _ e n=>by rw [zaC (lt b u e)];exact n) (λb u hc e=>⟨u,k b u hc e⟩) (λb xs e=>by rw [zaC (zbj e hn)];exact e) (λb u xs e=>by rw [zaC (zbj e hn)];exact e)
  (λb ps e=>⟨#[],by rw [zaC (zbj e hn),e];simp⟩) (λm hm=>?_) (λb u e=>?_) I.bare
 ·obtain ⟨o,es,ep,ho,r⟩:=hm
  exact ⟨o,es,ep,k _ o (λz=>(hf _ z).2.1 rfl) ho,r⟩
 ·by_cases hb:b=T
  ·subst hb;rw [zaO] at e;cases e;exact new
  ·rw [zaC hb] at e
   refine (I.hok b u e).stay (λc v hc q=>k c v (λz=>?_) q) (λc q=>by rw [zaC (zbj q hn)];exact q) λc xs q=>by rw [zaC (zbj q hn)];exact q
   have z':=(hf c z).1
   rcases hc with hc | hc
   ·rw [hc,e] at z';cases z'
   ·rw [hc] at z';cases z'
theorem Inv.turnedL {t':Nat} {ch:List Addr} (I:Inv X pins σ H s) (hf:∀ b∈ch,zmo X pins H b) (k:∀ b u,b ∉ ch->s.heap.get? b=some u->h'.get? b=some u):Inv X pins σ H { s with heap:=h',toks:=t' }:=by
 refine I.step (g':=s.gens) (d':=s.drawn) (ch:=ch) (λb hb=>⟨(hf b hb).2.2.2.1,(hf b hb).2.1,(hf b hb).2.2.2.2.1,(hf b hb).2.2.2.2.2⟩) (λb u _ _ hc e _=>k b u hc e) (λb u _ _ hc e _=>⟨u.slots,k b u hc e⟩)
  (λb u _ e n=>n) (λb u hc e=>⟨u,k b u hc e⟩) (λb xs e=>e) (λb u xs e=>e) (λb ps e=>⟨#[],by rw [e];simp⟩) (λm hm=>?_) (λb u e=>?_) I.bare
 ·obtain ⟨o,es,ep,ho,r⟩:=hm
  exact ⟨o,es,ep,k _ o (λz=>(hf _ z).2.1 rfl) ho,r⟩
 ·refine (I.hok b u e).stay (λc v hc q=>k c v (λz=>?_) q) (λc q=>q) λc xs q=>q
  have z':=(hf c z).1
  rcases hc with hc | hc
  ·rw [hc,e] at z';cases z'
  ·rw [hc] at z';cases z'
end
def Itz (K:W.Frag) (a b:Addr):It :=
 ⟨λi H=>∃ xs ys x y,SqL K H a xs∧SqL K H b ys∧xs[i]?=some x∧ys[i]?=some y,
  λi H v H'=>∃ p x y,v=.ref p∧H p=none∧H'=upd H p (.tup [x,y])∧∀ xs ys,SqL K H a xs->SqL K H b ys->xs[i]?=some x∧ys[i]?=some y,
  λi H=>∃ xs ys,SqL K H a xs∧SqL K H b ys∧(xs.length≤i∨ys.length≤i)⟩
theorem zp7 {P:Program} {w:World} {K:W.Frag} {elts:List Expr} {x1:Nat} {tp:Pos} {a b z TI TO i1 i2:Addr} (D:ZipApart z TI TO i1 i2 a b) :
  Turn P w K (.Tuple elts x1 tp) (Itz K a b) [z,TI,TO,i1,i2] z
   (λi h=>IsZip h z TI TO .none∧IsPair h TI (.ref i1) (.ref i2)∧(∃ p q,IsPair h TO p q)∧h.IsListIter i1 a i∧h.IsListIter i2 b i) where
 mem:=by simp
 obj:=λi h st c hc=>by
  obtain ⟨hz,hTI,⟨p,q,hTO⟩,⟨o1,e1,_,d1⟩,⟨o2,e2,_,d2⟩⟩:=st
  simp only [List.mem_cons,List.not_mem_nil,or_false] at hc
  rcases hc with rfl | rfl | rfl | rfl | rfl
  ·exact ⟨_,hz,λv z=>by cases z⟩
  ·exact ⟨_,hTI,λv z=>by cases z⟩
  ·exact ⟨_,hTO,λv z=>by cases z⟩
  ·exact ⟨o1,e1,λv z=>by rw [d1] at z;cases z⟩
  ·exact ⟨o2,e2,λv z=>by rw [d2] at z;cases z⟩
 keep:=λi h h' st k=>by
  obtain ⟨hz,hTI,⟨p,q,hTO⟩,h1,h2⟩:=st
  exact ⟨k z ↥9 _ hz,k TI ↥9 _ hTI,⟨p,q,k TO ↥9 _ hTO⟩,h1.at λo e=>k i1 ↥9 o e,h2.at λo e=>k i2 ↥9 o e⟩
 item:=by
  intro X hP hw hK hc i pins s σ H E I hf st hg
  subst hP hw hK
  obtain ⟨xs,ys,x,y,hxs,hys,hx,hy⟩:=hg
  obtain ⟨itx,rx,px,hzx⟩:=I.list hxs
  obtain ⟨ity,ry,py,hzy⟩:=I.list hys
  obtain ⟨u,hu,ru⟩:=rx.get hx
  obtain ⟨v,hv,rv⟩:=ry.get hy
  obtain ⟨hz,hTI,⟨p,q,hTO⟩,h1,h2⟩:=st
  refine wpAny_pyNext_zip_item (x:=u) (y:=v) D hz hTI hTO h1 h2 px.isList py.isList (by simpa using hu) (by simpa using hv) λh' a1 a2 a3 a4 a5 a6 hk=>?_
  refine ⟨_,rfl,wpAny_letOwnedTupleGo_zip a1 λh'' b1 b2=>?_⟩
  have zlt:z<s.heap.objs.size:=Heap.lt_size hz
  have lt:∀ c∈[z,TI,TO,i1,i2],c<s.heap.objs.size:=λc hc=>by
   simp only [List.mem_cons,List.not_mem_nil,or_false] at hc
   rcases hc with rfl | rfl | rfl | rfl | rfl
   ·exact zlt
   ·exact Heap.lt_size hTI
   ·exact Heap.lt_size hTO
   ·obtain ⟨_,e,_⟩:=h1;exact Heap.lt_size e
   ·obtain ⟨_,e,_⟩:=h2;exact Heap.lt_size e
  have tup:IsPair h'' ⇑2 u v:=b2.extBut _ _ (Nat.ne_of_gt zlt) a5
  have I1:Inv X pins σ (upd H ⇑2 (.tup [x,y])) { s with heap:=h'' }:=by
   refine I.turnedNew (t':=s.toks) (ch:=[z,TO,i1,i2]) (λc hc=>hf c ?_) (λc ob hc e=>?_) (↑4 _) ?_
   ·simp only [List.mem_cons,List.not_mem_nil,or_false] at hc ⊢
    rcases hc with z | z | z | z<;>simp [z]
   ·simp only [List.mem_cons,List.not_mem_nil,or_false,not_or] at hc
    exact b2.extBut _ _ hc.1 (hk c ob hc.1 hc.2.1 hc.2.2.1 hc.2.2.2 e)
   ·exact ⟨by show 2≤sizeLine;decide,[u,v],.cons ru (.cons rv .nil),⟨_,tup,rfl,_,rfl⟩⟩
  refine ⟨.ref ⇑2,_,I1,rfl,⟨_,x,y,rfl,I.hok.fresh (↑4 _),rfl,λxs' ys' q1 q2=>?_⟩,⟨b1,?_,⟨_,_,b2.extBut _ _ D.TOz a2⟩,a3.extBut b2.extBut D.i1z,a4.extBut b2.extBut D.i2z⟩,λc hc=>?_⟩
  ·rw [I.list_inj q1 hxs,I.list_inj q2 hys];exact ⟨hx,hy⟩
  ·exact b2.extBut _ _ D.TIz (hk _ _ D.TIz D.TITO D.TIi1 D.TIi2 hTI)
  ·rw [zaC (Nat.ne_of_lt (lt c hc))];exact (hf c hc).1
 done:=by
  intro X hP hw hK hc i pins s σ H E I hf st hg
  subst hP hw hK
  obtain ⟨xs,ys,hxs,hys,hend⟩:=hg
  obtain ⟨itx,rx,px,hzx⟩:=I.list hxs
  obtain ⟨ity,ry,py,hzy⟩:=I.list hys
  obtain ⟨hz,hTI,⟨p,q,hTO⟩,h1,h2⟩:=st
  have lx:=rx.length
  have ly:=ry.length
  refine wpAny_pyNext_zip_end (I.ok.hd hc) D hz hTI hTO h1 h2 px.isList py.isList ?_ λh' hk=>⟨rfl,?_⟩
  ·rcases hend with e | e
   ·exact .inl (by simp;omega)
   ·exact .inr (by simp;omega)
  ·refine I.turnedL (t':=s.toks) (ch:=[z,TO,i1,i2]) (λc hc=>hf c ?_) (λc ob hc e=>?_)
   ·simp only [List.mem_cons,List.not_mem_nil,or_false] at hc ⊢
    rcases hc with z | z | z | z<;>simp [z]
   ·simp only [List.mem_cons,List.not_mem_nil,or_false,not_or] at hc
    exact hk c ob hc.1 hc.2.1 hc.2.2.1 hc.2.2.2 e
 self:=λ_ _ _ _ _ st h=>wpAny_pyIter_zip st.1 h
section
variable {X:Cx}
def zut (K:W.Frag) (ta:TA):TI:=λσ H R=>ta σ H λvs H1=>∃ a b,vs=[.ref a,.ref b]∧(∃ xs,SqL K H1 a xs)∧(∃ ys,SqL K H1 b ys)∧R (Itz K a b) H1
theorem zsY {a b:Expr} {ta:TA} {p pos tp:Pos} {elts:List Expr} {x1:Nat} (hg:Gl X "zip") (hm:X.mg "zip"=none) (ha:PA X [a,b] ta) (hs:starEach [a,b] X.env=[(false,eval a X.env),(false,eval b X.env)]:=by rfl) (hs2:starEach [b] X.env=[(false,eval b X.env)]:=by rfl) :
  PI X (.Tuple elts x1 tp) (.Call (.Name "zip" p) [a,b] [] pos) (zut X.K ta):=by
 intro pins s σ H R I h
 refine Call_ (zh3 I hg hm boot_zip (PyProof.Rows.callWith_type1 ↑257 (by rw [hs,hs2]) (by rw [hs2];rfl)))
 obtain ⟨l1,l2,e,⟨xs,hx⟩,⟨ys,hy⟩,q⟩:=q1
 subst e
 cases r1 with
 | cons r rr =>
  cases rr with
  | cons r' rr =>
   cases rr
   cases r
   cases r'
   obtain ⟨itx,rx,px,hzx⟩:=I1.list hx
   obtain ⟨ity,ry,py,hzy⟩:=I1.list hy
   have lt1:@LT.lt Nat _ l1 s1.heap.objs.size:=by obtain ⟨o,e,_⟩:=px.isList;exact Heap.lt_size e
   have lt2:@LT.lt Nat _ l2 s1.heap.objs.size:=by obtain ⟨o,e,_⟩:=py.isList;exact Heap.lt_size e
   refine call_zip_2 px.isList py.isList λh' hz hTI hTO h1 h2 hsz hk=>?_
   refine wpAny_pyIter_zip hz ?_
   have D:ZipApart (s1.heap.objs.size+4) (s1.heap.objs.size+2) (s1.heap.objs.size+3) s1.heap.objs.size (s1.heap.objs.size+1) l1 l2:=by
    constructor<;>(show @Ne Nat _ _;omega)
   refine ⟨s1.heap.objs.size+4,[s1.heap.objs.size+4,s1.heap.objs.size+2,s1.heap.objs.size+3,s1.heap.objs.size,s1.heap.objs.size+1],_,Itz X.K l1 l2,H1,rfl,I1.kept (t':=s1.toks) hk,zp7 D,⟨hz,hTI,⟨_,_,hTO⟩,h1,h2⟩,λc hc=>?_,q⟩
   have hle:@LE.le Nat _ s1.heap.objs.size c:=by
    simp only [List.mem_cons,List.not_mem_nil,or_false] at hc
    rcases hc with rfl | rfl | rfl | rfl | rfl<;>omega
   exact I1.fpOk hle (I1.hok.fresh hle)
end
theorem preSum_list:∀ (ns:Ji) (k:Nat),k≤ns.length->preSum (λi=>(ns[i]?).getD 0) k=(ns.take k).sum
 | _,0,_=>by simp [preSum]
 | ns,k+1,h=>by
  have ih:=preSum_list ns k ⇑0
  have hk:k<ns.length:=by omega
  have e1:preSum (λi=>(ns[i]?).getD 0) (k+1)=preSum (λi=>(ns[i]?).getD 0) k+(ns[k]?).getD 0:=rfl
  have e2:ns.take (k+1)=ns.take k++[ns[k]]:=by rw [List.take_add_one,List.getElem?_eq_getElem hk];rfl
  rw [e1,ih,e2,List.sum_append,List.getElem?_eq_getElem hk]
  simp
section
variable {X:Cx}
theorem zn0 (hc:X.calm=true):zga X (.builtin "sum") (λxs H Q=>∃ (a:Addr) (ns:Ji),xs=[.ref a]∧SqL X.K H a ↑53∧Q (.int ns.sum) H):=by
 intro pins s σ H xs us Q I r h
 obtain ⟨a,ns,rfl,hq,q⟩:=h
 obtain ⟨u,rfl,rx⟩:=zm4 r
 cases rx
 obtain ⟨its,rv,p,hz⟩:=I.list hq
 have hl:=rv.length
 rw [List.length_map] at hl
 have alt:a<s.heap.objs.size:=by obtain ⟨o,e,_⟩:=p.isList;exact Heap.lt_size e
 have hl1:((s.heap.push {cls:= .type "list_iterator",data:= .fields #[.ref a,.int 0 0]})).IsList a its.toArray:=Heap.IsList.push p.isList _
 refine call_sum_walkG (wpAny_pyIter_list p.isList ?_)
 refine ⟨⇑2,[s.heap.objs.size,a],[s.heap.objs.size],its.toArray.size,_,_,λi=>(ns[i]?).getD 0,rfl,Walks.list (A:=X.A.in1) (I.ok.hd hc) ⇑2 a (Nat.ne_of_lt alt) its.toArray,⟨⟨_,Heap.get?_push_size _ rfl,rfl,rfl⟩,hl1⟩,λb hb=>?_,λi v hv=>?_,λh' tk t' hk=>?_⟩
 ·show b<(s.heap.push _).objs.size
  rw [Heap.size_push]
  simp only [List.mem_cons,List.not_mem_nil,or_false] at hb
  rcases hb with rfl | rfl
  ·exact Nat.lt_succ_self _
  ·exact Nat.lt_succ_of_lt alt
 ·have hv':its[i]?=some v:=by simpa using hv
  have hi:i<its.length:=(List.getElem?_eq_some_iff.mp hv').1
  obtain ⟨u,hu,ru⟩:=rv.get (i:=i) (x:=.int (ns[i]' ⇑0)) (by rw [List.getElem?_map,List.getElem?_eq_getElem ⇑0];rfl)
  rw [hv'] at hu
  cases hu
  obtain ⟨t,rfl⟩:=ru
  have e:(ns[i]?).getD 0=ns[i]' ⇑0:=by rw [List.getElem?_eq_getElem (show i<ns.length by omega)];rfl
  exact ⟨t,congrArg (λz=>Value.int z t) e.symm⟩
 ·have e:preSum (λi=>(ns[i]?).getD 0) its.toArray.size=ns.sum:=by
   rw [List.size_toArray,← hl,preSum_list ns _ (↑4 _),List.take_length]
  rw [e]
  exact ⟨.int ns.sum,H,I.kept (h':=h') (t':=tk) λb o e=>hk b o (by simp only [List.mem_singleton];exact Nat.ne_of_lt ↑119) (Heap.get?_push_of_some _ e),⟨t',rfl⟩,q⟩
def rIsi (K:W.Frag):List V->Hp->VK->Prop:=λxs H Q=>∃ x t b,((∃ n,xs=[x,.ty n]∧W.kitOne K t (.type n)=some b)∨(∃ C,xs=[x,.ref C]∧W.kitOne K t (.ref C)=some b))∧TyOf K H x t∧Q (.bl b) H
theorem zp6:zga X (.builtin "isinstance") (rIsi X.K):=by
 intro pins s σ H xs us Q I r h
 obtain ⟨x,t,b,hx,ty,q⟩:=h
 rcases hx with ⟨n,rfl,e⟩ | ⟨C,rfl,e⟩
 ·obtain ⟨u,w',rfl,rx,ry⟩:=zp0 r
  cases ry
  exact zko I rx ty e λtk=>⟨.bl b,H,I.tok _,rfl,q⟩
 ·obtain ⟨u,w',rfl,rx,ry⟩:=zp0 r
  cases ry
  exact zko I rx ty e λtk=>⟨.bl b,H,I.tok _,rfl,q⟩
end
theorem kit_int_bool (K:W.Frag):W.kitOne K (.type "int") (.type "bool")=some false:=by with_unfolding_all rfl
inductive EqV (K:W.Frag) (H:Hp):Nat->V->V->Bool->Prop where
 | flat {n:Nat} {x y:V} (fx:zpF x=true) (fy:zpF y=true):EqV K H n x y (eqV x y)
 | same {n:Nat} {a:Addr}:EqV K H n (.ref a) (.ref a) true
 | lists {n:Nat} {a b:Addr} {xs ys:List V} {e:Nat->Bool} (ne:a≠b) (ha:SqL K H a xs) (hb:SqL K H b ys) (hl:xs.length=ys.length)
   (he:∀ (j:Nat) (x y:V),xs[j]?=some x->ys[j]?=some y->EqV K H n x y (e j)):EqV K H (n+1) (.ref a) (.ref b) ((↑209).all e)
 | lens {n:Nat} {a b:Addr} {xs ys:List V} (ne:a≠b) (ha:SqL K H a xs) (hb:SqL K H b ys) (hl:xs.length≠ys.length):EqV K H (n+1) (.ref a) (.ref b) false
theorem EqV.at {X:Cx} {pins:List ↥3} {σ:St} {H:Hp} {s:Shared} (I:Inv X pins σ H s) {n:Nat} {x y:V} {k:Bool} (h:EqV X.K H n x y k) :
  ∀ {A:Around} {u v:Value},RelV x u->RelV y v->A.units+n<cLine->SeqAt.EqAt A s u v k:=by
 induction h with
 | flat fx fy=>intro A u v rx ry _;exact zsF rx ry fx fy
 | same=>intro A u v rx ry _;cases rx;cases ry;exact SeqAt.EqAt.same _
 | @lists n a b xs ys e ne ha hb hl he ih =>
  intro A u v rx ry hu
  cases rx
  cases ry
  obtain ⟨ita,ra,pa,za⟩:=I.list ha
  obtain ⟨itb,rb,pb,zb⟩:=I.list hb
  have la:=ra.length
  have lb:=rb.length
  have q:=SeqAt.RcAt.lists (A:=A) (e:=e) pa.isList pb.isList (by simp;omega) ⇑0 λj h1 h2=>?_
  ·rw [List.size_toArray,← la] at q
   exact SeqAt.EqAt.of_refs ne q
  ·have h1':j<ita.length:=by simpa using h1
   have h2':j<itb.length:=by simpa using h2
   obtain ⟨u',hu',ru⟩:=ra.get (i:=j) (x:=xs[j]' ⇑0) ↑126
   obtain ⟨v',hv',rv⟩:=rb.get (i:=j) (x:=ys[j]' ⇑0) ↑126
   have eu:ita.toArray[j]=u':=by
    rw [List.getElem?_eq_getElem h1'] at hu'
    simpa using hu'
   have ev:itb.toArray[j]=v':=by
    rw [List.getElem?_eq_getElem h2'] at hv'
    simpa using hv'
   rw [eu,ev]
   exact ih j _ _ ↑126 ↑126 ru rv (by show A.units+1+n<cLine;omega)
 | @lens n a b xs ys ne ha hb hl =>
  intro A u v rx ry hu
  cases rx
  cases ry
  obtain ⟨ita,ra,pa,za⟩:=I.list ha
  obtain ⟨itb,rb,pb,zb⟩:=I.list hb
  have la:=ra.length
  have lb:=rb.length
  exact SeqAt.EqAt.of_refs ne (SeqAt.RcAt.lists_lengths pa.isList pb.isList (by simp;omega) ⇑0)
def zre (K:W.Frag) (neg:Bool):R2:=λx y H Q=>∃ a b n xs ys,x=.ref a∧y=.ref b∧SqL K H a xs∧SqL K H b ys∧n≤50 ∧
 ((xs.length≠ys.length∧Q (.bl neg) H)∨∃ e:Nat->Bool,xs.length=ys.length∧(∀ (j:Nat) (x y:V),xs[j]?=some x->ys[j]?=some y->EqV K H n x y (e j))∧Q (.bl (if neg then !(↑209).all e else (↑209).all e)) H)
section
variable {X:Cx}
theorem zn8 {pins:List ↥3} {σ:St} {H:Hp} {s:Shared} (I:Inv X pins σ H s) {n:Nat} {xs ys:List V} {ita itb:List Value} {e:Nat->Bool} (ra:zcg xs ita) (rb:zcg ys itb) (he:∀ (j:Nat) (x y:V),xs[j]?=some x->ys[j]?=some y->EqV X.K H n x y (e j))
  {A:Around} (hu:A.units+1+n<cLine):∀ j (h1:j<ita.toArray.size) (h2:j<itb.toArray.size),SeqAt.EqAt A.in1 s ita.toArray[j] itb.toArray[j] (e j):=λj h1 h2=>by
 have la:=ra.length
 have lb:=rb.length
 have h1':j<ita.length:=by simpa using h1
 have h2':j<itb.length:=by simpa using h2
 obtain ⟨u',hu',ru⟩:=ra.get (i:=j) (x:=xs[j]' ⇑0) ↑126
 obtain ⟨v',hv',rv⟩:=rb.get (i:=j) (x:=ys[j]' ⇑0) ↑126
 have eu:ita.toArray[j]=u':=by
  rw [List.getElem?_eq_getElem h1'] at hu'
  simpa using hu'
 have ev:itb.toArray[j]=v':=by
  rw [List.getElem?_eq_getElem h2'] at hv'
  simpa using hv'
 rw [eu,ev]
 exact (he j _ _ ↑126 ↑126).at I ru rv hu
theorem ztV (hu:X.A.units+64<cLine):OpR X (compareOp .Eq) (zre X.K false):=by
 intro pins s σ H x y v u Q I rx ry h
 obtain ⟨a,b,n,xs,ys,rfl,rfl,ha,hb,hn,h⟩:=h
 cases rx
 cases ry
 obtain ⟨ita,ra,pa,za⟩:=I.list ha
 obtain ⟨itb,rb,pb,zb⟩:=I.list hb
 have la:=ra.length
 have lb:=rb.length
 rcases h with ⟨hl,q⟩ | ⟨e,hl,he,q⟩
 ·exact SeqAt.eq_list_lengthsAt pa.isList pb.isList (by simp;omega) ⇑0 ⟨.bl false,H,I,rfl,q⟩
 ·refine SeqAt.eq_listAt (e:=e) pa.isList pb.isList (by simp;omega) ⇑0 (zn8 I ra rb he ⇑0) ?_
  rw [List.size_toArray,← la]
  exact ⟨.bl _,H,I,rfl,q⟩
end
theorem all_eq {α:Type} [DecidableEq α] {xs ys:List α} (h:xs.length=ys.length):(↑209).all (λj=>decide (xs[j]?=ys[j]?))=decide (xs=ys):=by
 rw [Bool.eq_iff_iff,List.all_eq_true,decide_eq_true_iff]
 constructor
 ·intro z
  refine List.ext_getElem? λi=>?_
  by_cases hi:i<xs.length
  ·exact of_decide_eq_true (z i (List.mem_range.mpr hi))
  ·rw [List.getElem?_eq_none ⇑0,List.getElem?_eq_none ⇑0]
 ·rintro rfl i _
  exact decide_eq_true rfl
theorem zre.ints {K:W.Frag} {neg:Bool} {H:Hp} {Q:VK} {a b:Addr} {ns ms:Ji} (ha:SqL K H a ↑53) (hb:SqL K H b (ms.map V.int)) (q:Q (.bl (if neg then !decide (ns=ms) else decide (ns=ms))) H) :
  zre K neg (.ref a) (.ref b) H Q:=by
 refine ⟨a,b,0,_,_,rfl,rfl,ha,hb,by omega,?_⟩
 by_cases hl:ns.length=ms.length
 ·refine .inr ⟨λj=>decide (ns[j]?=ms[j]?),by simp [hl],λj x y hx hy=>?_,?_⟩
  ·rw [List.getElem?_map] at hx hy
   cases e1:ns[j]? with
   | none=>rw [e1] at hx;cases hx
   | some i =>
    cases e2:ms[j]? with
    | none=>rw [e2] at hy;cases hy
    | some k =>
     rw [e1] at hx
     rw [e2] at hy
     cases hx
     cases hy
     have q:=EqV.flat (K:=K) (H:=H) (n:=0) (x:=.int i) (y:=.int k) rfl rfl
     have e:eqV (.int i) (.int k)=decide (some i=some k):=by
      show (i == k)=_
      rw [Bool.beq_eq_decide_eq]
      simp
     rw [e] at q
     show EqV K H 0 (V.int i) (V.int k) (decide (ns[j]?=ms[j]?))
     rw [e1,e2]
     exact q
  ·rw [List.length_map,all_eq hl]
   exact q
 ·refine .inl ⟨by simpa using hl,?_⟩
  have e:decide (ns=ms)=false:=decide_eq_false (λz=>hl (by rw [z]))
  rw [e] at q
  cases neg<;>exact q
def Rows (K:W.Frag) (H:Hp) (a:Addr) (xss:Jq):Prop :=
 ∃ as:List Addr,SqL K H a (as.map V.ref)∧as.length=xss.length∧∀ (j:Nat) (p:Addr) (ns:Ji),as[j]?=some p->xss[j]?=some ns->H p=some (.lst ↑53)
theorem zli {ns ms:Ji} (h:ns.map V.int=ms.map V.int):ns=ms:=by
 induction ns generalizing ms with
 | nil=>cases ms with
  | nil=>rfl
  | cons _ _=>cases h
 | cons x r ih=>cases ms with
  | nil=>cases h
  | cons y s =>
   injection h with h1 h2
   injection h1 with h1
   rw [h1,ih h2]
theorem EqV.ints {K:W.Frag} {H:Hp} {n:Nat} {a b:Addr} {ns ms:Ji} (ha:H a=some (.lst ↑53)) (hb:H b=some (.lst (ms.map V.int))):EqV K H (n+1) (.ref a) (.ref b) (decide (ns=ms)):=by
 by_cases hab:a=b
 ·subst hab
  rw [ha] at hb
  have e:ns=ms:=zli (by injection hb with hb;injection hb)
  rw [decide_eq_true e]
  exact .same
 ·by_cases hl:ns.length=ms.length
  ·have q:=EqV.lists (K:=K) (H:=H) (n:=n) (e:=λj=>decide (ns[j]?=ms[j]?)) hab (SqL.of ha) (SqL.of hb) (by simp [hl]) λj x y hx hy=>?_
   ·rw [List.length_map,all_eq hl] at q
    exact q
   ·rw [List.getElem?_map] at hx hy
    cases e1:ns[j]? with
    | none=>rw [e1] at hx;cases hx
    | some i =>
     cases e2:ms[j]? with
     | none=>rw [e2] at hy;cases hy
     | some k =>
      rw [e1] at hx
      rw [e2] at hy
      cases hx
      cases hy
      have q:=EqV.flat (K:=K) (H:=H) (n:=n) (x:=.int i) (y:=.int k) rfl rfl
      have e:eqV (.int i) (.int k)=decide (some i=some k):=by
       show (i == k)=_
       rw [Bool.beq_eq_decide_eq]
       simp
      rw [e] at q
      exact q
  ·rw [decide_eq_false (λz=>hl (by rw [z]))]
   exact .lens hab (SqL.of ha) (SqL.of hb) (by simpa using hl)
theorem zre.rows {K:W.Frag} {neg:Bool} {H:Hp} {Q:VK} {a b:Addr} {xss yss:Jq} (ha:Rows K H a xss) (hb:Rows K H b yss) (q:Q (.bl (if neg then !decide (xss=yss) else decide (xss=yss))) H) :
  zre K neg (.ref a) (.ref b) H Q:=by
 obtain ⟨as,hsa,hla,hra⟩:=ha
 obtain ⟨bs,hsb,hlb,hrb⟩:=hb
 refine ⟨a,b,1,_,_,rfl,rfl,hsa,hsb,by omega,?_⟩
 by_cases hl:xss.length=yss.length
 ·refine .inr ⟨λj=>decide (xss[j]?=yss[j]?),by simp;omega,λj x y hx hy=>?_,?_⟩
  ·rw [List.getElem?_map] at hx hy
   cases e1:as[j]? with
   | none=>rw [e1] at hx;cases hx
   | some p =>
    cases e2:bs[j]? with
    | none=>rw [e2] at hy;cases hy
    | some p2 =>
     rw [e1] at hx
     rw [e2] at hy
     cases hx
     cases hy
     have h1:j<xss.length:=by have:=(List.getElem?_eq_some_iff.mp e1).1;omega
     have h2:j<yss.length:=by omega
     have q:=EqV.ints (K:=K) (n:=0) (hra j p _ e1 (List.getElem?_eq_getElem h1)) (hrb j p2 _ e2 (List.getElem?_eq_getElem h2))
     show EqV K H 1 (V.ref p) (V.ref p2) (decide (xss[j]?=yss[j]?))
     rw [List.getElem?_eq_getElem h1,List.getElem?_eq_getElem h2]
     have e:decide (xss[j]=yss[j])=decide (some xss[j]=some yss[j]):=by simp
     rw [e] at q
     exact q
  ·rw [List.length_map,hla,all_eq hl]
   exact q
 ·refine .inl ⟨by simp;omega,?_⟩
  have e:decide (xss=yss)=false:=decide_eq_false (λz=>hl (by rw [z]))
  rw [e] at q
  cases neg<;>exact q
section
variable {X:Cx}
theorem znk {n k m:Nat} (h:n<2^k) (hk:k≤m) (hm:0<m):n.log2<m:=by
 by_cases hn:n=0
 ·subst hn
  exact Nat.lt_of_le_of_lt (by decide:Nat.log2 0≤0) hm
 ·exact Nat.lt_of_lt_of_le ((Nat.log2_lt hn).mpr h) hk
theorem zov {i:Int} {k:Nat} (h:i.natAbs.log2<k):Builtin.Int.intBits i≤k:=by
 unfold Builtin.Int.intBits
 split
 ·exact Nat.zero_le _
 ·omega
def ze5 (i j:Int):Prop:=0<j∧j.natAbs.log2<9000
theorem zbo:OpR X (binaryOp .FloorDiv) (rI ze5 λi j=>.int (i/j)):=opI λi j _ _ _ _ _ hc q=>by
 have hj:j≠0:=by have:=hc.1;omega
 have e:i.fdiv j=i/j:=Int.fdiv_eq_ediv_of_nonneg _ (by have:=hc.1;omega)
 exact floordiv_int hj (by rw [e];exact q) (.inl (PyProof.noPylong_of_log2 hc.2))
end
def zqK (scope osc:Scope) (N own fvn:List Str) (fv:List Nat):Bool :=
 (scope.names.all λy=>y.2 != .cell||scope.names.lookup y.1 == some .cell)&&(scope.names.all λy=>y.2 != .free||scope.names.lookup y.1 == some .free)&&(scope.kind == .function)&&(scope.names.all λy=>y.2 != .local||scope.names.lookup y.1 == some .local) &&
 (scope.names.all λy=>y.2 != .free||osc.names.lookup y.1 == some .cell||osc.names.lookup y.1 == some .free)&&(fvn.map some == fv.map λi=>N[i]?)&&(fvn.all λx=>scope.names.lookup x == some .free)
theorem BlkScope.of {X:Cx} {scope osc:Scope} {N own fvn:List Str} {fv:List Nat} (hX:X.env.scope=osc) (hN:X.N=N) (h:zqK scope osc N own fvn fv=true):BlkScope X scope own fvn fv:=by
 subst hX hN
 unfold zqK at h
 simp only [Bool.and_eq_true,List.all_eq_true,bne_iff_ne,beq_iff_eq,Bool.or_eq_true] at h
 obtain ⟨⟨⟨⟨⟨⟨h1,h1'⟩,h2⟩,h3⟩,h4⟩,h5⟩,h6⟩:=h
 refine ⟨λy hy e=>?_,λy hy e=>?_,h2,λy hy e=>?_,λy hy e=>?_,h5,h6⟩
 ·rcases h1 y hy with z | z
  ·exact absurd e z
  ·exact z
 ·rcases h1' y hy with z | z
  ·exact absurd e z
  ·exact z
 ·rcases h3 y hy with z | z
  ·exact absurd e z
  ·exact z
 ·rcases h4 y hy with (z | z) | z
  ·exact absurd e z
  ·exact .inl z
  ·exact .inr z
theorem Same.new {H:Hp} {p:Addr} (h:H p=none) (o:HO):Same H (upd H p o):=λb u q=>by rw [zaC (zbj q h)];exact q
theorem Same.tup {K:W.Frag} {H H':Hp} {a:Addr} {xs:List V} (e:Same H H') (h:SqT K H a xs):SqT K H' a xs:=by
 rcases h with (h | ⟨o,h⟩) | h
 ·exact .inl (.inl (e _ _ h))
 ·exact .inl (.inr ⟨o,e _ _ h⟩)
 ·exact .inr h
theorem Same.rows {K:W.Frag} {H H':Hp} {a:Addr} {xss:Jq} (e:Same H H') (h:Rows K H a xss):Rows K H' a xss:=by
 obtain ⟨as,h1,h2,h3⟩:=h
 exact ⟨as,e.seq h1,h2,λj p ns q1 q2=>e _ _ (h3 j p ns q1 q2)⟩
structure Callee (P:Program) (w:World) (K:W.Frag) (mg:Str->Option Value) (base:Heap) (CX:CXT) (k:Nat) (x:Str) (ps:List Str) (sp:Sp):Prop where
 ex:∃ f fd,FnOk P w K mg base CX k f fd ps sp∧mg x=some (.ref f)∧W.keepIn K (.ref f)=true∧zf5 K fd ps []
section
variable {X:Cx} {CX:CXT} {k:Nat} {ps:List Str} {sp:Sp} {E:XK} {x:Str} {p pos:Pos} {e:Expr} {es:List Expr} {t:TA}
theorem zaN (F:Callee X.prog X.w X.K X.mg X.base CX k x ps sp) (hr:Room k X.A) (hg:Gl X x) (hx:zf8 CX X E)
  (ha:PA X (e::es) t) (hdb:↑100=false:=by decide) (he:starEach (e::es) X.env=(false,eval e X.env) :: starEach es X.env:=by rfl) (hpl:(↑148).any (·.1)=false:=by rfl) :
  PE X (.Call (.Name x p) (e::es) [] pos) (tCall sp [] E t):=by
 obtain ⟨f,fd,G,hm,hk,hb⟩:=F.ex
 exact zq2 G hr hg hm hk hb .nil hx ha hdb he hpl
end
section
variable {X:Cx} {K:W.Frag}
theorem zar (hK:X.K=K):zga X (.builtin "len") ↑215:=by subst hK;exact zkl
theorem zcO (hK:X.K=K):zga X (.type "list") (λxs H Q=>∃p ys,xs=[.ref p]∧(SqL K H p ys∨SqT K H p ys)∧∀l,H l=none->Q (.ref l) (upd H l (.lst ys))):=by subst hK;exact zkQ
theorem zmR (hK:X.K=K):zga X (.builtin "isinstance") (rIsi K):=by subst hK;exact zp6
theorem zmN (hK:X.K=K) (hc:X.calm=true):zga X (.builtin "sum") (λxs H Q=>∃(a:Addr) (ns:Ji),xs=[.ref a]∧SqL K H a ↑53∧Q (.int ns.sum) H):=by subst hK;exact zn0 hc
theorem zaw (hK:X.K=K):IxR X (zss K):=by subst hK;exact zqW
theorem zaE (hK:X.K=K):IxR X (zva K):=by subst hK;exact zsU
theorem zbS (hK:X.K=K):SlR X (zur K):=by subst hK;exact zse
theorem zoN (hK:X.K=K) (hu:X.A.units+64<cLine):OpR X (compareOp .Eq) (zre K false):=by subst hK;exact ztV hu
theorem zaU {e:Expr} {f:Str} {pos:Pos} {ta:TE} (hK:X.K=K) (he:PE X e ta) (hb:attributeBase e f X.env (eval e X.env)=eval e X.env):PE X (.Attribute e f pos) (tFld K ta f):=by subst hK;exact zth he hb
theorem zaM {tg l:Expr} {tl:TE} (hK:X.K=K) (hl:PE X l tl):PI X tg l (zp1 K tl):=by subst hK;exact zrr hl
theorem zb4 {a b:Expr} {ta:TA} {p pos tp:Pos} {elts:List Expr} {x1:Nat} (hK:X.K=K) (hg:Gl X "zip") (hm:X.mg "zip"=none) (ha:PA X [a,b] ta) (hs:starEach [a,b] X.env=[(false,eval a X.env),(false,eval b X.env)]:=by rfl) (hs2:starEach [b] X.env=[(false,eval b X.env)]:=by rfl) :
  PI X (.Tuple elts x1 tp) (.Call (.Name "zip" p) [a,b] [] pos) (zut K ta):=by subst hK;exact zsY hg hm ha hs hs2
theorem zbd {es:List Expr} {k:Nat} {t:TGs} {n:Nat} {pos:Pos} (hK:X.K=K) (hc:X.calm=true) (h:PGs X es t)
  (hn:((assignEach es X.env)).length=n:=by rfl) (hst:((assignEach es X.env)).findIdx? (·.1)=none:=by rfl):PG X (.Tuple es k pos) (zr9 K n t):=by subst hK;exact zuc hc h hn hst
theorem zcr {o e:Expr} {to:TE} {t:TA} {apos cpos:Pos} (hK:X.K=K) (ho:PE X o to) (ha:PA X [e] t)
  (hbase:attributeBase o "append" X.env (eval o X.env)=eval o X.env:=by rfl)
  (hfew:((backTo cpos (starEach [e] X.env)).all (λx=>!x.1)&&(backToKw cpos (keywordEach [] X.env)).all (λx=>x.1.isSome)
   &&decide (([e]:List Expr).length+([]:List Keyword).length+(if ([]:List Keyword).isEmpty then 0 else 1)<30))=true:=by rfl)
  (hline:(apos.endLine == cpos.line)=true:=by rfl) (hs:starEach [e] X.env=(false,eval e X.env) :: starEach [] X.env:=by rfl) (hplain:(backTo cpos (starEach [] X.env)).any (·.1)=false:=by rfl) :
  PE X (.Call (.Attribute o "append" apos) [e] [] cpos) (tBM K "list" zjE to t):=by
 subst hK
 exact zvD PySem.F.plainAttrs_list PySem.F.slot_list_append PySem.F.type_list_append zkA ho ha hbase hfew hline hs hplain
end
theorem zao {n:Nat} (h:n≤10000):n≤sizeLine:=⇑6 h ↥1
def ExcAt (h:Heap) (H:Hp) (Fz:Addr->Prop) (L e:Addr) (cls:Value) (dct:Option Addr):Prop :=
 ∃ oe vs a0,h.get? e=some oe∧oe.cls=cls∧oe.dict=dct∧oe.data=.fields vs∧vs[0]?=some a0∧1<vs.size∧H e=none∧Fz e ∧
  (vs[1]?=some .none∨∃ T oT ts,vs[1]?=some (.ref T)∧T≠e∧h.get? T=some oT∧oT.data=.fields ts∧(ts[3]?=some .none∨ts[3]?=some (rawInt L))∧H T=none∧Fz T)
def zvm (h:Heap) (H:Hp) (Fz:Addr->Prop) (fl:Value) (e:Addr) (cls:Value) (dct:Option Addr):Prop :=
 ∃ oe vs a0,h.get? e=some oe∧oe.cls=cls∧oe.dict=dct∧oe.data=.fields vs∧vs[0]?=some a0∧1<vs.size∧H e=none∧Fz e ∧
  ∃ T oT ts,vs[1]?=some (.ref T)∧T≠e∧h.get? T=some oT∧oT.data=.fields ts∧ts[3]?=some fl∧H T=none∧Fz T
structure Own (X:Cx):Prop where
 stk:X.stack=X.env :: X.outer
 fr:X.env.frame=some X.env.locals
 ex:X.ex=[]
theorem zen.there {P:Program} {w:World} {H:Hp} {h:Heap} {a:Addr} {o:HO} (x:zen P w H h a o):∃ ob,h.get? a=some ob:=by
 cases o with
 | lst xs=>obtain ⟨_,_,_,_,e⟩:=x;exact ⟨_,e⟩
 | tup xs=>obtain ⟨_,_,_,o,e,_⟩:=x;exact ⟨_,e⟩
 | dK kvs=>obtain ⟨_,_,_,_,o,_,_,e,_⟩:=x;exact ⟨_,e⟩
 | dT kvs=>obtain ⟨_,_,_,_,o,_,_,e,_⟩:=x;exact ⟨_,e⟩
 | set S n=>obtain ⟨o,_,_,_,e,_⟩:=x;exact ⟨_,e⟩
 | ins C dx fs=>obtain ⟨_,_,_,e,_⟩:=x;exact ⟨_,e⟩
 | own y=>obtain ⟨_,e⟩:=x;exact ⟨_,e⟩
 | xd fs=>obtain ⟨_,⟨_,_,_,e,_⟩,_⟩:=x;exact ⟨_,e⟩
 | rng lo hi=>obtain ⟨_,_,_,e⟩:=x;exact ⟨_,e⟩
 | frz ob u=>obtain ⟨e,_⟩:=x;exact ⟨_,e⟩
 | tbl ps=>exact ⟨_,(show h.get? a=some _ from x)⟩
 | met f y=>exact ⟨_,(show h.get? a=some _ from x)⟩
 | ext φ=>obtain ⟨_,e,_⟩:=x;exact e
section
variable {X:Cx} {pins:List ↥3}
def Fz (X:Cx) (pins:List ↥3) (b:Addr):Prop:=X.s₀.heap.get? b=none∧∀ p∈X.pn++pins,p.1≠b
end
def XP (X:Cx) (pins:List ↥3) (σ:St) (E:XK) (ev:Value) (s':Shared):Prop :=
 ∃ e cls dct H',ev=.ref e∧Inv X pins σ H' s'∧ExcAt s'.heap H' (Fz X pins) X.env.locals e cls dct∧E cls dct H'
abbrev XS:=St->XK
def CXE (P:Program) (w:World):CXT:=λouter H s E ev s'=>∃ e cls dct H',ev=.ref e∧s'.os=s.os∧AllBare s'.gens∧Un (frs outer) [] H H' s.heap s'.heap∧HOk P w H' s'.heap ∧
 zvm s'.heap H' (λb=>s.heap.get? b=none) .none e cls dct∧E cls dct H'
theorem zaK {P:Program} {w:World} {X:Cx}:zf8 ⇑1 X E0:=λ_ _ _ _ _ _ _ h=>by
 obtain ⟨_,_,_,_,_,_,_,_,_,_,f⟩:=h
 exact False.elim f
abbrev TEX:=St->Hp->VK->XK->Prop
section
variable {P:Program} {w:World} {K:W.Frag} {mg:Str->Option Value} {base:Heap}
theorem Fun.okN {x qual:Str} {st:Stmt} {f:Addr} {fd:FuncData} {N ps:List Str} {k:Nat} {sp:Sp} (F:Fun K x qual st f fd) (S:FnScope N ps (zai st)) (len:∀ vs H Q E,sp vs H Q E->vs.length=ps.length)
  (hbody:∀ (cdv:Value) (A:Around) (outer:List Env) (s:Shared) (H:Hp) (vs:List V) (Q:VK) (E:XK),Room k (A.deeper (envOfC qual (zai st) ⇑2 f cdv))->sp vs H Q E →
   ∃ t,PSs ((zqs ⇑1 P w K mg base N qual (zai st) f cdv A outer s H E)).nox (zeE st) t∧t { nx:=λ_ H'=>Q .non H',rt:=Q } (start N vs) H):FnOk P w K mg base ⇑1 (k+1) f fd ps sp:=by
 obtain ⟨oc,od,kV,doc,pm,an,cdv,ct,osl,rfl,lk,hcd⟩:=F.ex
 refine zuM lk hcd S len λA outer s H vs Q E hr hsp=>?_
 obtain ⟨t,h,q⟩:=hbody cdv A outer s H vs Q E hr hsp
 exact ⟨t,λpins s1 σ H1 D I hw=>wpAny_mono (h pins s1 σ H1 D (I.wish _) hw) (λ_ _ q=>SP.unwish q) λ_ _ f=>f.elim,q⟩
end
structure Ds where
 pr:Hp->V->Prop
 up:∀ {H H':Hp} {v:V},Same H H'->pr H v->pr H' v
theorem zdz {ds:List Ds} {H H':Hp} (e:Same H H'):∀ {vs:List V} {ds:List Ds},Paired ↑153 vs ds->Paired (λv (d:Ds)=>d.pr H' v) vs ds
 | _,_,.nil=>.nil
 | _,_,.cons (b:=d) h t=>.cons (d.up e h) (zdz (ds:=[]) e t)
theorem zb0 {α β:Type} {R S:α->β->Prop} (h:∀ a b,R a b->S a b):∀ {xs:List α} {ys:List β},Paired R xs ys->Paired S xs ys
 | _,_,.nil=>.nil
 | _,_,.cons q t=>.cons (h _ _ q) (zb0 h t)
theorem zbt {α β:Type} {R:α->β->Prop}:∀ {xs:List α} {ys:List β} {i:Nat} {y:β},Paired R xs ys->ys[i]?=some y->∃ x,xs[i]?=some x∧R x y
 | _,_,_,_,.nil,e=>by simp at e
 | _,_,0,_,.cons r _,e=>by simp at e;subst e;exact ⟨_,rfl,r⟩
 | _,_,i+1,y,.cons _ t,e=>by
  obtain ⟨u,h1,h2⟩:=zbt (i:=i) (y:=y) t ↑141
  exact ⟨u,by simpa using h1,h2⟩
theorem zcX {α β:Type} {R:α->β->Prop}:∀ {xs xs':List α} {ys ys':List β},Paired R xs ys->Paired R xs' ys'->Paired R (xs++xs') (ys++ys')
 | _,_,_,_,.nil,s=>s
 | _,_,_,_,.cons r t,s=>.cons r (zcX t s)
theorem zjg {α β:Type} {R:α->β->Prop} {x:α} {y:β} (r:R x y):∀ {xs:List α} {ys:List β} (i:Nat),Paired R xs ys->Paired R (xs.set i x) (ys.set i y)
 | _,_,_,.nil=>.nil
 | _,_,0,.cons _ t=>.cons r t
 | _,_,i+1,.cons q t=>.cons q (zjg r i t)
theorem ziu {α β:Type} {R:α->β->Prop}:∀ {xs:List α} {ys:List β} (n:Nat),Paired R xs ys->Paired R (xs.take n) (ys.take n)
 | _,_,0,_=>.nil
 | _,_,_+1,.nil=>.nil
 | _,_,n+1,.cons r t=>.cons r (ziu n t)
theorem zhK {α β:Type} {R:α->β->Prop}:∀ {xs:List α} {ys:List β} (n:Nat),Paired R xs ys->Paired R (xs.drop n) (ys.drop n)
 | _,_,0,r=>r
 | _,_,_+1,.nil=>.nil
 | _,_,n+1,.cons _ t=>zhK n t
theorem zi8 {α β:Type} {R:α->β->Prop} {xs:List α} {ys:List β} (h:Paired R xs ys):∀ n:Nat,Paired R (List.replicate n xs).flatten (List.replicate n ys).flatten
 | 0=>.nil
 | n+1=>by
  rw [List.replicate_succ,List.replicate_succ,List.flatten_cons,List.flatten_cons]
  exact zcX h (zi8 h n)
abbrev dV (v:V):Ds:=⟨λ_ u=>u=v,λ_ h=>h⟩
abbrev dI (n:Int):Ds:=dV (.int n)
abbrev dB (b:Bool):Ds:=dV (.bl b)
abbrev dN:Ds:=dV .non
abbrev dS (x:Str):Ds:=dV (.str x)
def dL (ds:List Ds):Ds:=⟨λH v=>∃ p vs,v=.ref p∧H p=some (.lst vs)∧Paired ↑153 vs ds,λe ⟨p,vs,h1,h2,h3⟩=>⟨p,vs,h1,e _ _ h2,zdz (ds:=[]) e h3⟩⟩
def dQ (K:W.Frag) (ds:List Ds):Ds:=⟨λH v=>∃ p vs,v=.ref p∧SqL K H p vs∧Paired ↑153 vs ds,λe ⟨p,vs,h1,h2,h3⟩=>⟨p,vs,h1,e.seq h2,zdz (ds:=[]) e h3⟩⟩
def dT (ds:List Ds):Ds:=⟨λH v=>∃ p vs,v=.ref p∧H p=some (.tup vs)∧Paired ↑153 vs ds,λe ⟨p,vs,h1,h2,h3⟩=>⟨p,vs,h1,e _ _ h2,zdz (ds:=[]) e h3⟩⟩
def dO (C:Addr) (fs:List (Str×Ds)):Ds:=⟨λH v=>∃ p dx vs,v=.ref p∧H p=some (.ins C dx vs)∧H dx=some (.own p)∧Paired (λ(a:Str×V) (b:Str×Ds)=>a.1=b.1∧b.2.pr H a.2) vs fs,
 λe ⟨p,dx,vs,h1,h2,h3,h4⟩=>⟨p,dx,vs,h1,e _ _ h2,e _ _ h3,zb0 (λ_ b q=>⟨q.1,b.2.up e q.2⟩) h4⟩⟩
class Enc (α:Type) where
 d:α->Ds
instance:Enc Int:=⟨dI⟩
instance:Enc Bool:=⟨dB⟩
instance:Enc Unit:=⟨λ_=>dN⟩
instance:Enc Str:=⟨dS⟩
instance {α:Type} [Enc α]:Enc (List α):=⟨λxs=>dL (xs.map Enc.d)⟩
instance {α β:Type} [Enc α] [Enc β]:Enc (α×β):=⟨λp=>dT [Enc.d p.1,Enc.d p.2]⟩
instance {α:Type} [Enc α]:Enc (Option α):=⟨λo=>match o with | none=>dN | some x=>Enc.d x⟩
structure T3 (α β γ:Type) where
 a:α
 b:β
 c:γ
instance {α β γ:Type} [Enc α] [Enc β] [Enc γ]:Enc (T3 α β γ):=⟨λp=>dT [Enc.d p.a,Enc.d p.b,Enc.d p.c]⟩
structure Grow (F H F' H':Hp):Prop where
 f:Same F F'
 fh:Same F' H'
 h:Same H H'
 no:∀ a,H a≠none->F a=none->F' a=none
theorem Grow.refl {F H:Hp} (e:Same F H):Grow F H F H:=⟨Same.refl _,e,Same.refl _,λ_ _ h=>h⟩
theorem Same.some {H H':Hp} (e:Same H H') {a:Addr} (h:H a≠none):H' a≠none:=by
 cases q:H a with
 | none=>exact absurd q h
 | some o=>rw [e _ _ q];simp
theorem Grow.trans {F H F' H' F'' H'':Hp} (g:Grow F H F' H') (k:Grow F' H' F'' H''):Grow F H F'' H'' :=
 ⟨g.f.trans k.f,k.fh,g.h.trans k.h,λa h1 h2=>k.no a (g.h.some h1) (g.no a h1 h2)⟩
theorem Grow.new {F H F' H':Hp} (g:Grow F H F' H') {p:Addr} {o:HO} (hp:H' p=none):Grow F H (upd F' p o) (upd H' p o):=by
 have hf:F' p=none:=by
  cases q:F' p with
  | none=>rfl
  | some u=>rw [g.fh _ _ q] at hp;cases hp
 refine ⟨g.f.trans (Same.new hf _),λa u q=>?_,g.h.trans (Same.new hp _),λa h1 h2=>?_⟩
 ·by_cases e:a=p
  ·subst e;rw [zaO] at q ⊢;exact q
  ·rw [zaC e] at q ⊢;exact g.fh _ _ q
 ·have:a≠p:=λe=>by subst e;exact (g.h.some h1) hp
  rw [zaC this];exact g.no a h1 h2
theorem Grow.newH {F H F' H':Hp} (g:Grow F H F' H') {p:Addr} {o:HO} (hp:H' p=none):Grow F H F' (upd H' p o) :=
 ⟨g.f,g.fh.trans (Same.new hp _),g.h.trans (Same.new hp _),g.no⟩
theorem Grow.setH {F H F' H':Hp} (g:Grow F H F' H') {p:Addr} {o:HO} (hf:F' p=none) (hp:H p=none):Grow F H F' (upd H' p o) :=
 ⟨g.f,λa u q=>by rw [zaC (zbj q hf)];exact g.fh _ _ q,λa u q=>by rw [zaC (zbj q hp)];exact g.h _ _ q,g.no⟩
theorem Grow.take {F H F' H':Hp} (g:Grow F H F' H') {p:Addr} {o:HO} (hp:H p=none) (e:H' p=some o):Grow F H (upd F' p o) H':=by
 refine ⟨λa u q=>?_,λa u q=>?_,g.h,λa h1 h2=>?_⟩
 ·by_cases z:a=p
  ·subst z
   have:=g.fh _ _ (g.f _ _ q)
   rw [e] at this;cases this;exact zaO
  ·rw [zaC z];exact g.f _ _ q
 ·by_cases z:a=p
  ·subst z;rw [zaO] at q;cases q;exact e
  ·rw [zaC z] at q;exact g.fh _ _ q
 ·have:a≠p:=λz=>by subst z;exact h1 hp
  rw [zaC this];exact g.no a h1 h2
def off (F Hb:Hp):Hp:=λa=>match Hb a with | none=>F a | some _=>none
theorem zcu {F Hb:Hp} {a:Addr} {o:HO}:off F Hb a=some o ↔ Hb a=none∧F a=some o:=by
 unfold off
 cases q:Hb a with
 | none=>simp
 | some u=>simp
theorem zmp {F F' Hb:Hp} (e:Same F F'):Same (off F Hb) (off F' Hb):=λa o q=>by
 rw [zcu] at q ⊢;exact ⟨q.1,e _ _ q.2⟩
theorem zlG {F Hb:Hp}:Same (off F Hb) F:=λa o q=>(zcu.mp q).2
theorem zll {F Hb Hc:Hp} (e:Same Hb Hc):Same (off F Hc) (off F Hb):=λa o q=>by
 rw [zcu] at q ⊢
 refine ⟨?_,q.2⟩
 cases z:Hb a with
 | none=>rfl
 | some u=>rw [e _ _ z] at q;cases q.1
def part (m:Bool) (F Hb:Hp):Hp:=match m with | true=>off F Hb | false=>F
theorem zbm {m:Bool} {F F' Hb:Hp} (e:Same F F'):Same (part m F Hb) (part m F' Hb):=by
 cases m with
 | true=>exact zmp e
 | false=>exact e
theorem zbn {m:Bool} {F Hb:Hp}:Same (part m F Hb) F:=by
 cases m with
 | true=>exact zlG
 | false=>exact Same.refl _
theorem zea {m:Bool} {F Hb:Hp} {p:Addr} {o:HO} (hb:Hb p=none) (hp:F p=some o):part m F Hb p=some o:=by
 cases m with
 | true=>exact zcu.mpr ⟨hb,hp⟩
 | false=>exact hp
inductive Slot where
 | no
 | va (m:Bool) (d:Ds)
 | ow (m:Bool) (ds:List Ds)
 | ob (m:Bool) (C p dx:Addr) (fs:List (Str×Ds))
 | tl (d:Ds)
 | ol (p:Addr) (ds:List Ds)
abbrev Ctx:=List Slot
def zgB (Hb F H:Hp) (own:Nat->Option Addr) (i:Nat) (v:Option V):Slot->Prop
 | .tl d=>∃ x R,v=some x∧Same R H∧(∀ a o,R a=some o->F a=none∧Hb a=none)∧(∀ j p,own j=some p->R p=none)∧d.pr R x
 | .no=>True
 | .va m d=>∃ x,v=some x∧d.pr (part m F Hb) x
 | .ow m ds=>∃ p vs,v=some (.ref p)∧own i=some p∧F p=none∧Hb p=none∧H p=some (.lst vs)∧Paired ↑194 vs ds
 | .ol p ds=>∃ vs,v=some (.ref p)∧own i=some p∧F p=none∧Hb p=none∧H p=some (.lst vs)∧Paired ↑170 vs ds
 | .ob m C p dx fs=>∃ vs,v=some (.ref p)∧own i=some p∧(F p=none∧F dx=none)∧(Hb p=none∧Hb dx=none)∧(H p=some (.ins C dx vs)∧H dx=some (.own p))∧Paired (λ(a:Str×V) (b:Str×Ds)=>a.1=b.1∧b.2.pr (part m F Hb) a.2) vs fs
structure At (F0 Hb F H:Hp) (σ:St) (own:Nat->Option Addr) (Γ:Ctx):Prop where
 g:Grow F0 Hb F H
 inj:∀ i j p,own i=some p->own j=some p->i=j
 liv:∀ i p,own i=some p->H p≠none
 sl:∀ i s,Γ[i]?=some s->zgB Hb F H own i (σ[i]?).join s
 len:σ.length=Γ.length
theorem zgB.grow {Hb F H F' H':Hp} {own:Nat->Option Addr} {i:Nat} {v:Option V} {s:Slot} (h:zgB Hb F H own i v s) (g:Grow F H F' H'):zgB Hb F' H' own i v s:=by
 cases s with
 | no=>trivial
 | tl d =>
  obtain ⟨x,R,e,h1,h2,h3,h4⟩:=h
  exact ⟨x,R,e,h1.trans g.h,λa o q=>⟨g.no a (by rw [h1 _ _ q];simp) (h2 a o q).1,(h2 a o q).2⟩,h3,h4⟩
 | va m d=>obtain ⟨x,e,q⟩:=h;exact ⟨x,e,d.up (zbm g.f) q⟩
 | ow m ds =>
  obtain ⟨p,vs,e,ho,hf,hb,hp,q⟩:=h
  exact ⟨p,vs,e,ho,g.no p (by rw [hp];simp) hf,hb,g.h _ _ hp,zdz (ds:=[]) (zbm g.f) q⟩
 | ol p ds =>
  obtain ⟨vs,e,ho,hf,hb,hp,q⟩:=h
  exact ⟨vs,e,ho,g.no p (by rw [hp];simp) hf,hb,g.h _ _ hp,zdz (ds:=[]) g.f q⟩
 | ob m C p dx fs =>
  obtain ⟨vs,e,ho,hf,hb,hp,q⟩:=h
  exact ⟨vs,e,ho,⟨g.no p (by rw [hp.1];simp) hf.1,g.no dx (by rw [hp.2];simp) hf.2⟩,hb,⟨g.h _ _ hp.1,g.h _ _ hp.2⟩,zb0 (λ_ b z=>⟨z.1,b.2.up (zbm g.f) z.2⟩) q⟩
theorem At.grow {F0 Hb F H F' H':Hp} {σ:St} {own:Nat->Option Addr} {Γ:Ctx} (a:At F0 Hb F H σ own Γ) (g:Grow F H F' H'):At F0 Hb F' H' σ own Γ :=
 ⟨a.g.trans g,a.inj,λi p e=>g.h.some (a.liv i p e),λi s e=>(a.sl i s e).grow g,a.len⟩
theorem At.fh {F0 Hb F H:Hp} {σ:St} {own:Nat->Option Addr} {Γ:Ctx} (a:At F0 Hb F H σ own Γ):Same F H:=a.g.fh
theorem ze8 {σ:St} {i:Nat} {x:Option V} (h:i<σ.length):((σ.set i x)[i]?).join=x:=by
 rw [List.getElem?_set_self h];rfl
theorem zgk {σ:St} {i j:Nat} {x:Option V} (h:i≠j):((σ.set i x)[j]?).join=(σ[j]?).join:=by
 rw [List.getElem?_set_ne h]
theorem At.set {F0 Hb F H:Hp} {σ:St} {own:Nat->Option Addr} {Γ:Ctx} (a:At F0 Hb F H σ own Γ) (i:Nat) {m:Bool} {d:Ds} {v:V} (h:d.pr (part m F Hb) v) :
  At F0 Hb F H (σ.set i (some v)) own (Γ.set i (.va m d)):=by
 refine ⟨a.g,a.inj,a.liv,λj s e=>?_,by simp [a.len]⟩
 by_cases z:i=j
 ·subst z
  have hi:i<Γ.length:=by
   have:=(↑62).1
   simpa using this
  rw [List.getElem?_set_self hi] at e
  cases e
  rw [ze8 (by rw [a.len];exact hi)]
  exact ⟨v,rfl,h⟩
 ·rw [List.getElem?_set_ne z] at e
  rw [zgk z]
  exact a.sl j s e
theorem At.setOwn {F0 Hb F1 H1 F H:Hp} {σ:St} {own:Nat->Option Addr} {Γ:Ctx} (a1:At F0 Hb F1 H1 σ own Γ) (g:Grow F1 H1 F H) (i:Nat) {m:Bool} {ds:List Ds} {p:Addr} {vs:List V} (h1:H1 p=none) (hf:F p=none) (hp:H p=some (.lst vs))
  (h:Paired ↑194 vs ds):At F0 Hb F H (σ.set i (some (.ref p))) (λj=>if j=i then some p else own j) (Γ.set i (.ow m ds)):=by
 have a:=a1.grow g
 have hb:Hb p=none:=a1.g.h.free h1
 have ho:∀ j,own j≠some p:=λj e=>a1.liv j p e h1
 refine ⟨a.g,λj k q e1 e2=>?_,λj q e=>?_,λj s e=>?_,by simp [a.len]⟩
 ·skip
  split at e1<;>split at e2
  ·omega
  ·cases e1;exact absurd e2 (ho k)
  ·cases e2;exact absurd e1 (ho j)
  ·exact a.inj j k q e1 e2
 ·skip
  split at e
  ·cases e;rw [hp];simp
  ·exact a.liv j q e
 ·by_cases z:i=j
  ·subst z
   have hi:i<Γ.length:=by
    have:=(↑62).1
    simpa using this
   rw [List.getElem?_set_self hi] at e
   cases e
   rw [ze8 (by rw [a.len];exact hi)]
   exact ⟨p,vs,rfl,by simp,hf,hb,hp,h⟩
  ·rw [List.getElem?_set_ne z] at e
   rw [zgk z]
   have z':¬ j=i:=Ne.symm z
   cases s with
   | tl d =>
    obtain ⟨x,R,q1,q2,q3,q4,q5⟩:=a1.sl j _ e
    refine ⟨x,R,q1,q2.trans g.h,λb o w=>⟨g.no b (by rw [q2 _ _ w];simp) (q3 b o w).1,(q3 b o w).2⟩,λk q w=>?_,q5⟩
    dsimp only at w
    split at w
    ·cases w;exact q2.free h1
    ·exact q4 k q w
   | no=>trivial
   | va m d=>exact a.sl j _ e
   | ow m ds =>
    obtain ⟨q,us,w1,w2,w3⟩:=a.sl j _ e
    exact ⟨q,us,w1,(if_neg z').trans w2,w3⟩
   | ol q ds =>
    obtain ⟨us,w1,w2,w3⟩:=a.sl j _ e
    exact ⟨us,w1,(if_neg z').trans w2,w3⟩
   | ob m C q dx fs =>
    obtain ⟨us,w1,w2,w3⟩:=a.sl j _ e
    exact ⟨us,w1,(if_neg z').trans w2,w3⟩
theorem At.turn {F0 Hb F H:Hp} {σ:St} {own:Nat->Option Addr} {Γ:Ctx} (a:At F0 Hb F H σ own Γ) {i:Nat} {m n:Bool} {ds es:List Ds} {p:Addr} {ws:List V} (e:Γ[i]?=some (.ow m ds)) (ep:σ[i]?=some (some (.ref p)))
  (h:Paired (λv (d:Ds)=>d.pr (part n F Hb) v) ws es):At F0 Hb F (upd H p (.lst ws)) σ own (Γ.set i (.ow n es)):=by
 obtain ⟨p',vs,e1,e2,hf,hb,hp,_⟩:=a.sl i _ e
 rw [ep] at e1
 have e1':p=p':=by
  have:some (V.ref p)=some (V.ref p'):=e1
  cases this;rfl
 subst e1'
 refine ⟨a.g.setH hf hb,a.inj,λj q ej=>?_,λj s es'=>?_,by simp [a.len]⟩
 ·by_cases z:q=p
  ·subst z;rw [zaO];simp
  ·rw [zaC z];exact a.liv j q ej
 ·by_cases z:i=j
  ·subst z
   have hi:i<Γ.length:=(↑62).1
   rw [List.getElem?_set_self hi] at es'
   cases es'
   exact ⟨p,ws,by rw [ep];rfl,e2,hf,hb,zaO,h⟩
  ·rw [List.getElem?_set_ne z] at es'
   have:=a.sl j s es'
   cases s with
   | no=>trivial
   | tl d =>
    obtain ⟨x,R,q1,q2,q3,q4,q5⟩:=this
    exact ⟨x,R,q1,λb o w=>by rw [zaC (zbj w (q4 i p e2))];exact q2 b o w,q3,q4,q5⟩
   | va m d=>exact this
   | ow m ds =>
    obtain ⟨q,us,h1,h2,h3,h4,h5,h6⟩:=this
    have:q≠p:=λw=>by subst w;exact z ↑92
    exact ⟨q,us,h1,h2,h3,h4,by rw [zaC this];exact h5,h6⟩
   | ol q ds =>
    obtain ⟨us,h1,h2,h3,h4,h5,h6⟩:=this
    have:q≠p:=λw=>by subst w;exact z ↑92
    exact ⟨us,h1,h2,h3,h4,by rw [zaC this];exact h5,h6⟩
   | ob m C q dx fs =>
    obtain ⟨us,h1,h2,h3,h4,h5,h6⟩:=this
    have n1:q≠p:=λw=>by subst w;exact z ↑92
    have n2:dx≠p:=zjp h5.2 hp ↑137
    exact ⟨us,h1,h2,h3,h4,⟨by rw [zaC n1];exact h5.1,by rw [zaC n2];exact h5.2⟩,h6⟩
theorem At.turnOb {F0 Hb F H:Hp} {σ:St} {own:Nat->Option Addr} {Γ:Ctx} (a:At F0 Hb F H σ own Γ) {i:Nat} {m n:Bool} {C p dx:Addr} {fs gs:List (Str×Ds)} {ws:List (Str×V)} (e:Γ[i]?=some (.ob m C p dx fs))
  (h:Paired (λ(a:Str×V) (b:Str×Ds)=>a.1=b.1∧b.2.pr (part n F Hb) a.2) ws gs):At F0 Hb F (upd H p (.ins C dx ws)) σ own (Γ.set i (.ob n C p dx gs)):=by
 obtain ⟨vs,e1,e2,hf,hb,hp,_⟩:=a.sl i _ e
 have ndp:dx≠p:=zjp hp.2 hp.1 ↑137
 refine ⟨a.g.setH hf.1 hb.1,a.inj,λj q ej=>?_,λj s es'=>?_,by simp [a.len]⟩
 ·by_cases z:q=p
  ·subst z;rw [zaO];simp
  ·rw [zaC z];exact a.liv j q ej
 ·by_cases z:i=j
  ·subst z
   have hi:i<Γ.length:=(↑62).1
   rw [List.getElem?_set_self hi] at es'
   cases es'
   exact ⟨ws,e1,e2,hf,hb,⟨zaO,by rw [zaC ndp];exact hp.2⟩,h⟩
  ·rw [List.getElem?_set_ne z] at es'
   have:=a.sl j s es'
   cases s with
   | no=>trivial
   | tl d =>
    obtain ⟨x,R,q1,q2,q3,q4,q5⟩:=this
    exact ⟨x,R,q1,λb o w=>by rw [zaC (zbj w (q4 i p e2))];exact q2 b o w,q3,q4,q5⟩
   | va m d=>exact this
   | ow m ds =>
    obtain ⟨q,us,h1,h2,h3,h4,h5,h6⟩:=this
    have:q≠p:=λw=>by subst w;exact z ↑92
    exact ⟨q,us,h1,h2,h3,h4,by rw [zaC this];exact h5,h6⟩
   | ol q ds =>
    obtain ⟨us,h1,h2,h3,h4,h5,h6⟩:=this
    have:q≠p:=λw=>by subst w;exact z ↑92
    exact ⟨us,h1,h2,h3,h4,by rw [zaC this];exact h5,h6⟩
   | ob m C q dy fs =>
    obtain ⟨us,h1,h2,h3,h4,h5,h6⟩:=this
    have n1:q≠p:=λw=>by subst w;exact z ↑92
    have n2:dy≠p:=zjp h5.2 hp.1 ↑137
    exact ⟨us,h1,h2,h3,h4,⟨by rw [zaC n1];exact h5.1,by rw [zaC n2];exact h5.2⟩,h6⟩
inductive Wk:Ctx->Ctx->Prop where
 | nil:Wk [] []
 | eq {s Γ Δ}:Wk Γ Δ->Wk (s :: Γ) (s :: Δ)
 | no {s Γ Δ}:Wk Γ Δ->Wk (s :: Γ) (.no :: Δ)
 | old {m d Γ Δ}:Wk Γ Δ->Wk (.va m d :: Γ) (.va false d :: Δ)
 | oldL {m d Γ Δ}:Wk Γ Δ->Wk (.ow m d :: Γ) (.ow false d :: Δ)
theorem Wk.refl:∀ Γ:Ctx,Wk Γ Γ
 | []=>.nil
 | _ :: Γ=>.eq (Wk.refl Γ)
theorem Wk.len {Γ Δ:Ctx} (h:Wk Γ Δ):Γ.length=Δ.length:=by
 induction h<;>simp_all
theorem Wk.slot {Γ Δ:Ctx} (h:Wk Γ Δ):∀ {i:Nat} {s:Slot},Δ[i]?=some s->∃ r,Γ[i]?=some r∧∀ {Hb F H:Hp} {own:Nat->Option Addr} {j:Nat} {v:Option V},zgB Hb F H own j v r->zgB Hb F H own j v s:=by
 induction h with
 | nil=>intro i s e;simp at e
 | eq _ ih =>
  intro i s e
  cases i with
  | zero=>simp at e;subst e;exact ⟨_,rfl,λh=>h⟩
  | succ i=>simpa using ih (i:=i) (s:=s) ↑141
 | no _ ih =>
  intro i s e
  cases i with
  | zero=>simp at e;subst e;exact ⟨_,rfl,λ_=>trivial⟩
  | succ i=>simpa using ih (i:=i) (s:=s) ↑141
 | old _ ih =>
  intro i s e
  cases i with
  | zero=>simp at e;subst e;exact ⟨_,rfl,λ⟨x,h1,h2⟩=>⟨x,h1,Ds.up _ zbn h2⟩⟩
  | succ i=>simpa using ih (i:=i) (s:=s) ↑141
 | oldL _ ih =>
  intro i s e
  cases i with
  | zero=>simp at e;subst e;exact ⟨_,rfl,λ⟨p,vs,h1,h2,h3,h4,h5,h6⟩=>⟨p,vs,h1,h2,h3,h4,h5,zdz (ds:=[]) zbn h6⟩⟩
  | succ i=>simpa using ih (i:=i) (s:=s) ↑141
theorem At.wk {F0 Hb F H:Hp} {σ:St} {own:Nat->Option Addr} {Γ Δ:Ctx} (a:At F0 Hb F H σ own Γ) (w:Wk Γ Δ):At F0 Hb F H σ own Δ :=
 ⟨a.g,a.inj,a.liv,λi s e=>by
  obtain ⟨r,e1,h⟩:=w.slot e
  exact h (a.sl i r e1),by rw [a.len,w.len]⟩
theorem At.share {F0 Hb F H:Hp} {σ:St} {own:Nat->Option Addr} {Γ:Ctx} (a:At F0 Hb F H σ own Γ) {i:Nat} {m:Bool} {ds:List Ds} (e:Γ[i]?=some (.ow m ds)) :
  ∃ F' own',Grow F0 Hb F' H∧At F0 Hb F' H σ own' (Γ.set i (.va m (dL ds))):=by
 obtain ⟨p,vs,e1,e2,hf,hb,hp,hq⟩:=a.sl i _ e
 have g:=a.g.take hb hp
 have fs:Same F (upd F p (.lst vs)):=Same.new hf _
 refine ⟨upd F p (.lst vs),λj=>if j=i then none else own j,g,g,λj k q h1 h2=>?_,λj q h1=>?_,λj s es=>?_,by simp [a.len]⟩
 ·skip
  split at h1
  ·cases h1
  ·split at h2
   ·cases h2
   ·exact a.inj j k q h1 h2
 ·skip
  split at h1
  ·cases h1
  ·exact a.liv j q h1
 ·by_cases z:i=j
  ·subst z
   have hi:i<Γ.length:=(↑62).1
   rw [List.getElem?_set_self hi] at es
   cases es
   exact ⟨.ref p,e1,p,vs,rfl,zea hb zaO,zdz (ds:=[]) (zbm fs) hq⟩
  ·rw [List.getElem?_set_ne z] at es
   have z':¬ j=i:=Ne.symm z
   have:=a.sl j s es
   cases s with
   | no=>trivial
   | tl d =>
    obtain ⟨x,R,q1,q2,q3,q4,q5⟩:=this
    refine ⟨x,R,q1,q2,λb o w=>⟨by rw [zaC (zbj w (q4 i p e2))];exact (q3 b o w).1,(q3 b o w).2⟩,λk q w=>?_,q5⟩
    dsimp only at w
    split at w
    ·cases w
    ·exact q4 k q w
   | va m d=>obtain ⟨x,h1,h2⟩:=this;exact ⟨x,h1,d.up (zbm fs) h2⟩
   | ow m ds =>
    obtain ⟨q,us,h1,h2,h3,h4,h5,h6⟩:=this
    have:q≠p:=λw=>by subst w;exact z ↑92
    exact ⟨q,us,h1,(if_neg z').trans h2,by rw [zaC this];exact h3,h4,h5,zdz (ds:=[]) (zbm fs) h6⟩
   | ol q ds =>
    obtain ⟨us,h1,h2,h3,h4,h5,h6⟩:=this
    have:q≠p:=λw=>by subst w;exact z ↑92
    exact ⟨us,h1,(if_neg z').trans h2,by rw [zaC this];exact h3,h4,h5,zdz (ds:=[]) fs h6⟩
   | ob m C q dx gs =>
    obtain ⟨us,h1,h2,h3,h4,h5,h6⟩:=this
    have n1:q≠p:=λw=>by subst w;exact z ↑92
    have n2:dx≠p:=zjp h5.2 hp ↑137
    exact ⟨us,h1,(if_neg z').trans h2,⟨by rw [zaC n1];exact h3.1,by rw [zaC n2];exact h3.2⟩,h4,h5,zb0 (λ_ b z=>⟨z.1,b.2.up (zbm fs) z.2⟩) h6⟩
def Ev (Γ:Ctx) (t:TE) (m:Bool) (d:Ds):Prop:=∀ (F0 Hb F H:Hp) (σ:St) (own:Nat->Option Addr) (Q:VK),At F0 Hb F H σ own Γ →
 (∀ v F' H',Grow F H F' H'->d.pr (part m F' Hb) v->Q v H')->t σ H Q
def EvO (Γ:Ctx) (t:TE) (m:Bool) (ds:List Ds):Prop:=∀ (F0 Hb F H:Hp) (σ:St) (own:Nat->Option Addr) (Q:VK),At F0 Hb F H σ own Γ →
 (∀ p vs F' H',Grow F H F' H'->H p=none->F' p=none->H' p=some (.lst vs)->Paired (λv (d:Ds)=>d.pr (part m F' Hb) v) vs ds->Q (.ref p) H')->t σ H Q
def EvT (Γ:Ctx) (t:TT) (b:Bool):Prop:=∀ (F0 Hb F H:Hp) (σ:St) (own:Nat->Option Addr) (Q:Bool->Hp->Prop),At F0 Hb F H σ own Γ →
 (∀ F' H',Grow F H F' H'->Q b H')->t σ H Q
def EvA (Γ:Ctx) (t:TA) (m:Bool) (ds:List Ds):Prop:=∀ (F0 Hb F H:Hp) (σ:St) (own:Nat->Option Addr) (Q:List V->Hp->Prop),At F0 Hb F H σ own Γ →
 (∀ vs F' H',Grow F H F' H'->Paired (λv (d:Ds)=>d.pr (part m F' Hb) v) vs ds->Q vs H')->t σ H Q
def EvP (Γ:Ctx) (t:TO) (i:Option Int):Prop:=∀ (F0 Hb F H:Hp) (σ:St) (own:Nat->Option Addr) (Q:Option Int->Hp->Prop),At F0 Hb F H σ own Γ →
 (∀ F' H',Grow F H F' H'->Q i H')->t σ H Q
theorem At.free {F0 Hb F H:Hp} {σ:St} {own:Nat->Option Addr} {Γ:Ctx} (a:At F0 Hb F H σ own Γ) {F' H':Hp} (g:Grow F H F' H') {p:Addr} (h:H' p=none):H p=none∧F' p=none∧Hb p=none:=by
 have h1:=g.h.free h
 exact ⟨h1,g.fh.free h,a.g.h.free h1⟩
section
variable {Γ:Ctx} {t ta tb:TE} {m n:Bool} {d e:Ds} {ds es:List Ds} {K:W.Frag}
theorem Ev.old (h:Ev Γ t m d):Ev Γ t false d:=λF0 Hb F H σ own Q a k=>h F0 Hb F H σ own Q a λv F' H' g q=>k v F' H' g (d.up zbn q)
theorem Ev.conv (h:Ev Γ t m d) (e':d=e):Ev Γ t m e:=e' ▸ h
theorem EvO.conv (h:EvO Γ t m ds) (e':ds=es):EvO Γ t m es:=e' ▸ h
theorem EvT.conv {t:TT} {b c:Bool} (h:EvT Γ t b) (e':b=c):EvT Γ t c:=e' ▸ h
theorem EvO.ev (h:EvO Γ t m ds):Ev Γ t m (dL ds):=λF0 Hb F H σ own Q a k=>h F0 Hb F H σ own Q a λp vs F' H' g h1 h2 h3 q=>by
 have fs:Same F' (upd F' p (.lst vs)):=Same.new h2 _
 exact k (.ref p) (upd F' p (.lst vs)) H' (g.take h1 h3) ⟨p,vs,rfl,zea (a.g.h.free h1) zaO,zdz (ds:=[]) (zbm fs) q⟩
theorem Ev.weak (h:Ev Γ t m (dL ds)):Ev Γ t m (dQ K ds):=λF0 Hb F H σ own Q a k=>h F0 Hb F H σ own Q a λv F' H' g ⟨p,vs,h1,h2,h3⟩=>k v F' H' g ⟨p,vs,h1,SqL.of h2,h3⟩
theorem zaa {i:Nat} (h:Γ[i]?=some (.va m d)):Ev Γ (zjm i) m d:=λF0 Hb F H σ own Q a k=>by
 obtain ⟨x,e,q⟩:=a.sl i _ h
 have hi:i<σ.length:=by rw [a.len];exact (↑235).1
 rw [List.getElem?_eq_getElem hi] at e
 have e':σ[i]=some x:=e
 exact ⟨x,by rw [List.getElem?_eq_getElem hi,e'],k x F H (Grow.refl a.fh) q⟩
theorem zaJ {v:V}:Ev Γ (tC v) m (dV v):=λF0 Hb F H σ own Q a k=>k v F H (Grow.refl a.fh) rfl
theorem zaP {g:Int->Int->V} {x y:Int} (h1:Ev Γ ta false (dI x)) (h2:Ev Γ tb false (dI y)):Ev Γ (tOp (rI0 g) ta tb) m (dV (g x y)):=λF0 Hb F H σ own Q a k =>
 h1 F0 Hb F H σ own _ a λu F1 H1 g1 q1=>h2 F0 Hb F1 H1 σ own _ ↑35 λv F2 H2 g2 q2=>⟨x,y,q1,q2,k _ F2 H2 ↑67 rfl⟩
theorem zaH {C:Int->Int->Prop} {g:Int->Int->V} {x y:Int} (h1:Ev Γ ta false (dI x)) (h2:Ev Γ tb false (dI y)) (c:C x y):Ev Γ (tOp (rI C g) ta tb) m (dV (g x y)):=λF0 Hb F H σ own Q a k =>
 h1 F0 Hb F H σ own _ a λu F1 H1 g1 q1=>h2 F0 Hb F1 H1 σ own _ ↑35 λv F2 H2 g2 q2=>⟨x,y,q1,q2,c,k _ F2 H2 ↑67 rfl⟩
theorem zoM {g:Int->V} {x:Int} (h1:Ev Γ ta false (dI x)):Ev Γ (tUn (rU g) ta) m (dV (g x)):=λF0 Hb F H σ own Q a k =>
 h1 F0 Hb F H σ own _ a λu F1 H1 g1 q1=>⟨x,q1,k _ F1 H1 g1 rfl⟩
theorem ztP {v w:V} (h1:Ev Γ ta false (dV v)) (h2:Ev Γ tb false (dV w)) (hs:scal v w=true):Ev Γ (tOp rEq ta tb) m (dB (decide (v=w))):=λF0 Hb F H σ own Q a k =>
 h1 F0 Hb F H σ own _ a λu F1 H1 g1 q1=>h2 F0 Hb F1 H1 σ own _ ↑35 λv F2 H2 g2 q2=>by
  cases q1;cases q2;exact ⟨hs,k _ F2 H2 ↑67 rfl⟩
theorem zuL {v w:V} (h1:Ev Γ ta false (dV v)) (h2:Ev Γ tb false (dV w)) (hs:scal v w=true):Ev Γ (tOp rNe ta tb) m (dB (!decide (v=w))):=λF0 Hb F H σ own Q a k =>
 h1 F0 Hb F H σ own _ a λu F1 H1 g1 q1=>h2 F0 Hb F1 H1 σ own _ ↑35 λv F2 H2 g2 q2=>by
  cases q1;cases q2;exact ⟨hs,k _ F2 H2 ↑67 rfl⟩
theorem zn2 (x y:Int):decide (V.int x=V.int y)=decide (x=y):=by simp
theorem zdA {x y:Int} (h1:Ev Γ ta false (dI x)) (h2:Ev Γ tb false (dI y)):Ev Γ (tOp rEq ta tb) m (dB (decide (x=y))):=(ztP h1 h2 rfl).conv (by rw [zn2])
theorem zdX {x y:Int} (h1:Ev Γ ta false (dI x)) (h2:Ev Γ tb false (dI y)):Ev Γ (tOp rNe ta tb) m (dB (!decide (x=y))):=(zuL h1 h2 rfl).conv (by rw [zn2])
theorem zau {b:Bool} (h:Ev Γ t false (dB b)):EvT Γ (zsv t) b:=λF0 Hb F H σ own Q a k=>h F0 Hb F H σ own _ a λv F' H' g q=>⟨b,q,k F' H' g⟩
theorem zeh {b:Bool} (h:Ev Γ t false (dB b)):EvT Γ (tB t) b:=λF0 Hb F H σ own Q a k=>h F0 Hb F H σ own _ a λv F' H' g q=>⟨b,q,k F' H' g⟩
theorem zft {t:TT} {b:Bool} (h:EvT Γ t b):EvT Γ (zvU t) (!b):=λF0 Hb F H σ own Q a k=>h F0 Hb F H σ own _ a λF' H' g=>k F' H' g
theorem zgi {t u:TT} {b c:Bool} (h:EvT Γ t b) (h2:b=true->EvT Γ u c):EvT Γ (zwd t u) (b&&c):=λF0 Hb F H σ own Q a k=>h F0 Hb F H σ own _ a λF' H' g=>by
 cases b with
 | true=>exact h2 rfl F0 Hb F' H' σ own Q ↑38 λF2 H2 g2=>k F2 H2 (g.trans g2)
 | false=>exact k F' H' g
theorem zgN {t u:TT} {b c:Bool} (h:EvT Γ t b) (h2:b=false->EvT Γ u c):EvT Γ (tOr t u) (b||c):=λF0 Hb F H σ own Q a k=>h F0 Hb F H σ own _ a λF' H' g=>by
 cases b with
 | false=>exact h2 rfl F0 Hb F' H' σ own Q ↑38 λF2 H2 g2=>k F2 H2 (g.trans g2)
 | true=>exact k F' H' g
theorem zqy {b c:Bool} (h:Ev Γ ta false (dB b)) (h2:b=true->Ev Γ tb false (dB c)):Ev Γ (zub ta tb) m (dB (b&&c)):=λF0 Hb F H σ own Q a k=>h F0 Hb F H σ own _ a λv F' H' g q=>⟨b,q,by
 cases b with
 | true=>exact h2 rfl F0 Hb F' H' σ own Q ↑38 λv F2 H2 g2 q2=>k v F2 H2 (g.trans g2) q2
 | false=>exact k _ F' H' g rfl⟩
theorem zsL {b:Bool} (h:Ev Γ ta false (dB b)):Ev Γ (zs4 ta) m (dB (!b)):=λF0 Hb F H σ own Q a k=>h F0 Hb F H σ own _ a λv F' H' g q=>⟨b,q,k _ F' H' g rfl⟩
theorem zsD {tc:TT} {α:Type} {b:Bool} {x y:α} (f:α->Ds) (h:EvT Γ tc b) (h1:b=true->Ev Γ ta m (f x)) (h2:b=false->Ev Γ tb m (f y)):Ev Γ (tIf tc ta tb) m (f (bif b then x else y)):=λF0 Hb F H σ own Q a k=>h F0 Hb F H σ own _ a λF' H' g=>by
 cases b with
 | true=>exact h1 rfl F0 Hb F' H' σ own Q ↑38 λv F2 H2 g2 q2=>k v F2 H2 (g.trans g2) q2
 | false=>exact h2 rfl F0 Hb F' H' σ own Q ↑38 λv F2 H2 g2 q2=>k v F2 H2 (g.trans g2) q2
theorem zah:EvA Γ tNil m []:=λF0 Hb F H σ own Q a k=>k [] F H (Grow.refl a.fh) .nil
theorem zac {tr:TA} (h:Ev Γ ta m d) (h2:EvA Γ tr m ds):EvA Γ (tCons ta tr) m (d :: ds):=λF0 Hb F H σ own Q a k =>
 h F0 Hb F H σ own _ a λv F1 H1 g1 q1=>h2 F0 Hb F1 H1 σ own _ ↑35 λvs F2 H2 g2 q2=>k _ F2 H2 ↑67 (.cons (d.up (zbm g2.f) q1) q2)
theorem zdm {tr:TA} (h:EvA Γ tr m ds) (hz:ds.length≤sizeLine):EvO Γ (zu4 tr) m ds:=λF0 Hb F H σ own Q a k =>
 h F0 Hb F H σ own _ a λvs F1 H1 g1 q1=>⟨by rw [Paired.length q1];exact hz,λp hp=>by
  obtain ⟨h1,h2,h3⟩:=a.free g1 hp
  exact k p vs F1 _ (g1.newH hp) h1 h2 zaO q1⟩
theorem zhr {tr:TA} (h:EvA Γ tr m ds) (hz:ds.length≤sizeLine):Ev Γ (zv8 tr) m (dT ds):=λF0 Hb F H σ own Q a k =>
 h F0 Hb F H σ own _ a λvs F1 H1 g1 q1=>⟨by rw [Paired.length q1];exact hz,λp hp=>by
  obtain ⟨h1,h2,h3⟩:=a.free g1 hp
  exact k (.ref p) _ _ (g1.new hp) ⟨p,vs,rfl,zea h3 zaO,zdz (ds:=[]) (zbm (Same.new h2 _)) q1⟩⟩
theorem zdq {tr:TA} (h:EvA Γ tr m []):EvO Γ (zu4 tr) m []:=zdm h (Nat.zero_le _)
theorem zhc {R:V->Ds->Prop} {vs:List V} {ds:List Ds} {i:Int} {d:Ds} (h:Paired R vs ds) (e:atI ds i=some d):∃ v,atI vs i=some v∧R v d:=by
 unfold atI at e ⊢
 rw [Paired.length h]
 cases q:ixN ds.length i with
 | none=>rw [q] at e;cases e
 | some j =>
  rw [q] at e
  obtain ⟨v,e1,r⟩:=zbt h (show ds[j]?=some d from e)
  exact ⟨v,e1,r⟩
theorem zoA {α β:Type} {f:α->β} {xs:List α} {i:Int} {x:α} (e:atI xs i=some x):atI ↑29 i=some (f x):=by
 unfold atI at e ⊢
 rw [List.length_map]
 cases q:ixN xs.length i with
 | none=>rw [q] at e;cases e
 | some j =>
  rw [q] at e
  have e':xs[j]?=some x:=e
  show (↑29)[j]?=_
  rw [List.getElem?_map,e']
  rfl
theorem zvp {i:Int} (h1:Ev Γ ta m (dQ K ds)) (h2:Ev Γ tb false (dI i)) (e:atI ds i=some d):Ev Γ (tOp (zss K) ta tb) m d:=λF0 Hb F H σ own Q a k =>
 h1 F0 Hb F H σ own _ a λu F1 H1 g1 ⟨p,vs,e1,e2,e3⟩=>h2 F0 Hb F1 H1 σ own _ ↑35 λv F2 H2 g2 q2=>by
  obtain ⟨x,ex,rx⟩:=zhc e3 e
  exact ⟨p,vs,i,x,e1,q2,((zbn.trans (g2.f.trans g2.fh))).seq e2,ex,k x F2 H2 ↑67 (d.up (zbm g2.f) rx)⟩
theorem za1 {i:Int} (h1:Ev Γ ta m (dT ds)) (h2:Ev Γ tb false (dI i)) (e:atI ds i=some d):Ev Γ (tOp (zva K) ta tb) m d:=λF0 Hb F H σ own Q a k =>
 h1 F0 Hb F H σ own _ a λu F1 H1 g1 ⟨p,vs,e1,e2,e3⟩=>h2 F0 Hb F1 H1 σ own _ ↑35 λv F2 H2 g2 q2=>by
  obtain ⟨x,ex,rx⟩:=zhc e3 e
  exact ⟨p,vs,i,x,e1,q2,.inl (.inl ((zbn.trans (g2.f.trans g2.fh)) _ _ e2)),ex,k x F2 H2 ↑67 (d.up (zbm g2.f) rx)⟩
theorem ztm {t:TE} (h1:Ev Γ t false (dQ K ds)):Ev Γ (tCB ↑215 (tCons t tNil)) m (dI ds.length):=λF0 Hb F H σ own Q a k =>
 h1 F0 Hb F H σ own _ a λu F1 H1 g1 ⟨p,vs,e1,e2,e3⟩=>⟨p,vs,by rw [e1],.inl (g1.fh.seq e2),k _ F1 H1 g1 (by show V.int _=_;rw [Paired.length e3])⟩
theorem zfp {t:TE} (h1:Ev Γ t m (dQ K ds)):EvO Γ (tCB (λxs H Q=>∃p ys,xs=[.ref p]∧(SqL K H p ys∨SqT K H p ys)∧∀l,H l=none->Q (.ref l) (upd H l (.lst ys))) (tCons t tNil)) m ds:=λF0 Hb F H σ own Q a k =>
 h1 F0 Hb F H σ own _ a λu F1 H1 g1 ⟨p,vs,e1,e2,e3⟩=>⟨p,vs,by rw [e1],.inl ((zbn.trans g1.fh).seq e2),λl hl=>by
  obtain ⟨h1,h2,h3⟩:=a.free g1 hl
  exact k l vs F1 _ (g1.newH hl) h1 h2 zaO e3⟩
theorem zcU:EvP Γ zoX none:=λF0 Hb F H σ own Q a k=>k F H (Grow.refl a.fh)
theorem zb5 {i:Int} (h:Ev Γ t false (dI i)):EvP Γ (ztC t) (some i):=λF0 Hb F H σ own Q a k=>h F0 Hb F H σ own _ a λv F' H' g q=>⟨i,q,k F' H' g⟩
def zbI {α:Type} (xs:List α) (lo hi:Option Int):List α:=(xs.drop (HT.sIx xs.length 0 lo)).take ↑276
theorem zqf {α β:Type} {f:α->β} {xs:List α} {lo hi:Option Int}:(zbI xs lo hi).map f=zbI ↑29 lo hi:=by
 unfold zbI;rw [List.map_take,List.map_drop,List.length_map]
theorem zt9 {tl th:TO} {lo hi:Option Int} (h1:Ev Γ t m (dQ K ds)) (h2:EvP Γ tl lo) (h3:EvP Γ th hi):EvO Γ (tSl (zur K) t tl th) m (zbI ds lo hi):=λF0 Hb F H σ own Q a k =>
 h1 F0 Hb F H σ own _ a λu F1 H1 g1 ⟨p,vs,e1,e2,e3⟩=>h2 F0 Hb F1 H1 σ own _ ↑35 λF2 H2 g2=>h3 F0 Hb F2 H2 σ own _ ((↑35).grow g2) λF3 H3 g3 =>
  ⟨p,vs,e1,(zbn.trans (g1.fh.trans (g2.h.trans g3.h))).seq e2,λl hl=>by
   have g:=g1.trans (g2.trans g3)
   obtain ⟨h1,h2,h3⟩:=a.free g hl
   refine k l _ F3 _ (g.newH hl) h1 h2 zaO ?_
   unfold zsQ zbI
   rw [Paired.length e3]
   exact ziu _ (zhK _ (zdz (ds:=[]) (zbm (g2.f.trans g3.f)) e3))⟩
theorem ztW {es:List Ds} (h1:Ev Γ ta m (dL ds)) (h2:Ev Γ tb m (dL es)) (hz:ds.length+es.length≤sizeLine):EvO Γ (tOp zvC ta tb) m (ds++es):=λF0 Hb F H σ own Q a k =>
 h1 F0 Hb F H σ own _ a λu F1 H1 g1 ⟨p,vs,e1,e2,e3⟩=>h2 F0 Hb F1 H1 σ own _ ↑35 λv F2 H2 g2 ⟨q,ws,f1,f2,f3⟩ =>
  ⟨p,q,vs,ws,e1,f1,(zbn.trans (g2.f.trans g2.fh)) _ _ e2,(zbn.trans g2.fh) _ _ f2,by rw [Paired.length e3,Paired.length f3];exact hz,λl hl=>by
   have g:=g1.trans g2
   obtain ⟨h1,h2,h3⟩:=a.free g hl
   exact k l _ F2 _ (g.newH hl) h1 h2 zaO (zcX (zdz (ds:=[]) (zbm g2.f) e3) f3)⟩
theorem zs6 {n:Int} (h1:Ev Γ ta m (dL ds)) (h2:Ev Γ tb false (dI n)) (hn:-(2^63)≤n∧n<2^63) (hz:ds.length*n.toNat≤sizeLine):EvO Γ (tOp zvl ta tb) m (List.replicate n.toNat ds).flatten:=λF0 Hb F H σ own Q a k =>
 h1 F0 Hb F H σ own _ a λu F1 H1 g1 ⟨p,vs,e1,e2,e3⟩=>h2 F0 Hb F1 H1 σ own _ ↑35 λv F2 H2 g2 q2 =>
  ⟨p,n,vs,e1,q2,(zbn.trans (g2.f.trans g2.fh)) _ _ e2,hn.1,hn.2,by rw [Paired.length e3];exact hz,λl hl=>by
   have g:=g1.trans g2
   obtain ⟨h1,h2,h3⟩:=a.free g hl
   exact k l _ F2 _ (g.newH hl) h1 h2 zaO (zi8 (zdz (ds:=[]) (zbm g2.f) e3) _)⟩
theorem ztu {d:Ds} {b:Bool} (h1:Ev Γ ta false d) (h2:Ev Γ tb false dN) (hb:∀ H v,d.pr H v->decide (v=V.non)=b):Ev Γ (tOp (λx y H Q=>y= .non∧Q (.bl (decide (x= .non))) H) ta tb) m (dB b):=λF0 Hb F H σ own Q a k =>
 h1 F0 Hb F H σ own _ a λu F1 H1 g1 q1=>h2 F0 Hb F1 H1 σ own _ ↑35 λv F2 H2 g2 q2=>⟨q2,k _ F2 H2 ↑67 (by show V.bl _=_;rw [hb _ _ q1])⟩
theorem zr0 {d:Ds} {b:Bool} (h1:Ev Γ ta false d) (h2:Ev Γ tb false dN) (hb:∀ H v,d.pr H v->decide (v=V.non)=b):Ev Γ (tOp (λx y H Q=>y= .non∧Q (.bl (!decide (x= .non))) H) ta tb) m (dB (!b)):=λF0 Hb F H σ own Q a k =>
 h1 F0 Hb F H σ own _ a λu F1 H1 g1 q1=>h2 F0 Hb F1 H1 σ own _ ↑35 λv F2 H2 g2 q2=>⟨q2,k _ F2 H2 ↑67 (by show V.bl _=_;rw [hb _ _ q1])⟩
theorem zql {x y:Int} {tr:TA} (h:EvA Γ tr false [dI x,dI y]):Ev Γ (tCB (λxs H Q=>∃i j,xs=[.int i,.int j]∧Q (.int (if j>i then j else i)) H) tr) m (dI (max x y)):=λF0 Hb F H σ own Q a k =>
 h F0 Hb F H σ own _ a λvs F1 H1 g1 q=>by
  cases q with | cons q1 q=>cases q with | cons q2 q=>cases q;cases q1;cases q2;exact ⟨x,y,rfl,k _ F1 H1 g1 (by show V.int _=V.int _;congr 1;omega)⟩
theorem znx {b:Bool} {tr:TA} (h:EvA Γ tr false [dB b]):Ev Γ (tCB (λxs H Q=>(∃i,xs=[.int i]∧Q (.int i) H)∨∃k,xs=[.bl k]∧Q (.int (if k then 1 else 0)) H) tr) m (dI (if b then 1 else 0)):=λF0 Hb F H σ own Q a k =>
 h F0 Hb F H σ own _ a λvs F1 H1 g1 q=>by
  cases q with | cons q1 q=>cases q;cases q1;exact .inr ⟨b,rfl,k _ F1 H1 g1 rfl⟩
theorem zge {f:α->V} {R:Hp} {xs:List α}:∀ {vs:List V},Paired (λv (d:Ds)=>d.pr R v) vs (xs.map λx=>dV (f x))->vs=xs.map f:=by
 induction xs with
 | nil=>intro vs h;cases h;rfl
 | cons x xs ih=>intro vs h;cases h with | cons h1 h2=>rw [ih h2,h1];rfl
theorem zui {xs:Ji} {t:TE} (h1:Ev Γ t false (dQ K (xs.map dI))):Ev Γ (tCB (λxs H Q=>∃(a:Addr) (ns:Ji),xs=[.ref a]∧SqL K H a ↑53∧Q (.int ns.sum) H) (tCons t tNil)) m (dI xs.sum):=λF0 Hb F H σ own Q a k =>
 h1 F0 Hb F H σ own _ a λu F1 H1 g1 ⟨p,vs,e1,e2,e3⟩=>⟨p,xs,by rw [e1],by rw [←zge e3];exact g1.fh.seq e2,k _ F1 H1 g1 rfl⟩
theorem zgr {H:Hp} {f:Str} {d:Ds}:∀ {vs:List (Str×V)} {fs:List (Str×Ds)},Paired (λ(a:Str×V) (b:Str×Ds)=>a.1=b.1∧b.2.pr H a.2) vs fs->fs.lookup f=some d->∃ v,vs.lookup f=some v∧d.pr H v
 | _,_,.nil,e=>by cases e
 | _,_,.cons (a:=(x,v)) (b:=(y,d')) ⟨h1,h2⟩ t,e=>by
  have h1:x=y:=h1
  subst h1
  simp only [List.lookup_cons] at e ⊢
  cases q:f == x with
  | true=>rw [q] at e;cases e;exact ⟨v,rfl,h2⟩
  | false=>rw [q] at e;exact zgr t e
theorem zbC {C:Addr} {fs:List (Str×Ds)} {f:Str} (h1:Ev Γ ta m (dO C fs)) (c:Cls K C) (nf:NoAttr K C f) (e:fs.lookup f=some d):Ev Γ (tFld K ta f) m d:=λF0 Hb F H σ own Q a k =>
 h1 F0 Hb F H σ own _ a λu F1 H1 g1 ⟨p,dx,vs,e1,e2,e3,e4⟩=>by
  obtain ⟨v,ev,qv⟩:=zgr e4 e
  exact ⟨p,C,dx,vs,v,e1,(zbn.trans g1.fh) _ _ e2,c,nf,ev,k v F1 H1 g1 qv⟩
inductive Rs where
 | va (m:Bool) (d:Ds)
 | ow (m:Bool) (ds:List Ds)
 | ex (C:Addr)
def Spv {ι:Type} (args:ι->List Ds) (pre:ι->Prop) (res:ι->Rs):Sp:=λvs H Q E=>∃ (x:ι) (F:Hp),Same F H∧Paired ↑170 vs (args x)∧pre x∧match res x with
 | .ex C=>∀ dct F' H',Grow F H F' H'->E (.ref C) dct H'
 | .va m d=>∀ v F' H',Grow F H F' H'->d.pr (part m F' H) v->Q v H'
 | .ow m ds=>∀ p ws F' H',Grow F H F' H'->H p=none->F' p=none->H' p=some (.lst ws)->Paired (λv (d:Ds)=>d.pr (part m F' H) v) ws ds->Q (.ref p) H'
theorem zhB {m:Bool} {F Hb H:Hp} (e:Same Hb H):Same (part m F H) (part m F Hb):=by
 cases m with
 | true=>exact zll e
 | false=>exact Same.refl _
theorem zam {ι:Type} {args:ι->List Ds} {pre:ι->Prop} {res:ι->Rs} {tr:TA} {E:XK} (x:ι) (h:EvA Γ tr false ds) (ha:ds=args x) (hp:pre x) (hr:res x=.va m d):Ev Γ (tCall (Spv args pre res) [] E tr) m d:=λF0 Hb F H σ own Q a k=>by
 subst ha
 refine h F0 Hb F H σ own _ a λvs F1 H1 g1 q1=>⟨x,F1,g1.fh,by rw [List.append_nil];exact q1,hp,?_⟩
 rw [hr]
 exact λv F' H' g q=>k v F' H' (g1.trans g) (d.up (zhB (a.g.h.trans g1.h)) q)
theorem zcp {ι:Type} {args:ι->List Ds} {pre:ι->Prop} {res:ι->Rs} {tr:TA} {E:XK} (x:ι) (h:EvA Γ tr false es) (ha:es=args x) (hp:pre x) (hr:res x=.ow m ds):EvO Γ (tCall (Spv args pre res) [] E tr) m ds:=λF0 Hb F H σ own Q a k=>by
 subst ha
 refine h F0 Hb F H σ own _ a λvs F1 H1 g1 q1=>⟨x,F1,g1.fh,by rw [List.append_nil];exact q1,hp,?_⟩
 rw [hr]
 exact λp ws F' H' g h1 h2 h3 q=>k p ws F' H' (g1.trans g) (g1.h.free h1) h2 h3 (zdz (ds:=[]) (zhB (a.g.h.trans g1.h)) q)
end
def zvs:List Nat->List V->St->St
 | j :: js,v :: vs,σ=>zvs js vs (σ.set j (some v))
 | _,_,σ=>σ
def zm9:List Nat->List Ds->Bool->Ctx->Ctx
 | j :: js,d :: ds,m,Γ=>zm9 js ds m (Γ.set j (.va m d))
 | _,_,_,Γ=>Γ
theorem At.setMany {F0 Hb F H:Hp} {own:Nat->Option Addr} {m:Bool}:∀ {js:List Nat} {vs:List V} {ds:List Ds} {σ:St} {Γ:Ctx},At F0 Hb F H σ own Γ->Paired ↑194 vs ds →
  At F0 Hb F H (zvs js vs σ) own (zm9 js ds m Γ)
 | [],_,_,_,_,a,.nil=>a
 | [],_,_,_,_,a,.cons _ _=>a
 | _ :: _,_,_,_,_,a,.nil=>a
 | j :: js,_,_,_,_,a,.cons h t=>At.setMany (js:=js) (a.set j h) t
theorem At.unset {F0 Hb F H:Hp} {own:Nat->Option Addr} {σ:St} {Γ:Ctx} {j:Nat} {s:Slot} (a:At F0 Hb F H σ own (Γ.set j s)) (h:Γ[j]?=some .no):At F0 Hb F H σ own Γ :=
 ⟨a.g,a.inj,a.liv,λi r e=>by
  by_cases z:j=i
  ·subst z;rw [h] at e;cases e;trivial
  ·exact a.sl i r (by rw [List.getElem?_set_ne z];exact e),by rw [a.len];simp⟩
theorem At.unsetMany {F0 Hb F H:Hp} {own:Nat->Option Addr} {σ:St} {m:Bool}:∀ {js:List Nat} {ds:List Ds} {Γ:Ctx},At F0 Hb F H σ own (zm9 js ds m Γ)->(∀ j∈js,Γ[j]?=some .no)->js.Nodup->At F0 Hb F H σ own Γ
 | [],[],_,a,_,_=>a
 | [],_ :: _,_,a,_,_=>a
 | _ :: _,[],_,a,_,_=>a
 | j :: js,d :: ds,Γ,a,h,hn=>by
  have hn:=List.nodup_cons.mp hn
  refine At.unset (At.unsetMany (js:=js) (ds:=ds) (Γ:=Γ.set j (.va m d)) a (λi hi=>?_) hn.2) (h j ↑3)
  rw [List.getElem?_set_ne (λ(z:j=i)=>hn.1 (by rw [z];exact hi))]
  exact h i (⇑3 _ hi)
def zsA {γ:Type} (Hb F:Hp) (J:It) (g:TG) (js:List Nat) (xs:List γ) (bds:γ->List Ds) (m:Bool):Prop:=∀ H,Same F H->J.stop xs.length H∧∀ i x,xs[i]?=some x->J.go i H ∧
 ∀ v H',J.yld i H v H'->Grow F H F H'∧∀ (σ:St) (Q:St->Hp->Prop),(∀ vs,Paired ↑194 vs (bds x)->Q (zvs js vs σ) H')->g v σ H' Q
def Iv {γ:Type} (Γ:Ctx) (wi:TI) (g:TG) (js:List Nat) (xs:List γ) (bds:γ->List Ds) (m:Bool):Prop:=∀ (F0 Hb F H:Hp) (σ:St) (own:Nat->Option Addr) (R:It->Hp->Prop),At F0 Hb F H σ own Γ →
 (∀ J F' H',Grow F H F' H'->zsA Hb F' J g js xs bds m->R J H')->wi σ H R
section
variable {Γ:Ctx} {m:Bool} {K:W.Frag} {γ δ:Type}
theorem zsA.up {Hb F F':Hp} {J:It} {g:TG} {js:List Nat} {xs:List γ} {bds:γ->List Ds} (h:zsA Hb F J g js xs bds m) (e:Same F F'):zsA Hb F' J g js xs bds m:=λH hs=>by
 obtain ⟨h1,h2⟩:=h H (e.trans hs)
 refine ⟨h1,λi x ex=>?_⟩
 obtain ⟨h3,h4⟩:=h2 i x ex
 refine ⟨h3,λv H' y=>?_⟩
 obtain ⟨h5,h6⟩:=h4 v H' y
 exact ⟨⟨Same.refl _,hs.trans h5.h,h5.h,λ_ _ z=>z⟩,λσ Q k=>h6 σ Q λvs q=>k vs (zdz (ds:=[]) (zbm e) q)⟩
theorem za6 {tl:TE} {j:Nat} {xs:List γ} (f:γ->Ds) (h:Ev Γ tl m (dQ K ↑29)):Iv Γ (zp1 K tl) (zdV j) [j] xs (λx=>[f x]) m:=λF0 Hb F H σ own R a k =>
 h F0 Hb F H σ own _ a λu F1 H1 g1 ⟨p,vs,e1,e2,e3⟩=>by
  have e2':SqL K F1 p vs:=zbn.seq e2
  refine ⟨p,e1,⟨vs,g1.fh.seq e2'⟩,k _ F1 H1 g1 λH hs=>⟨⟨vs,hs.seq e2',by rw [Paired.length e3,List.length_map];exact ↑4 _⟩,λi x ex=>?_⟩⟩
  obtain ⟨v,ev,qv⟩:=zbt e3 (show (↑29)[i]?=some (f x) by rw [List.getElem?_map,ex];rfl)
  refine ⟨⟨vs,v,hs.seq e2',ev⟩,λw H' y=>?_⟩
  obtain ⟨rfl,y⟩:=y
  have:=y vs (hs.seq e2')
  rw [ev] at this
  cases this
  exact ⟨Grow.refl hs,λσ Q k=>k [v] (.cons qv .nil)⟩
def zbz (lo:Int) (n:Nat):Ji:=((List.range n)).map λ(i:Nat)=>lo+(i:Int)
theorem za4 {lo:Int} {n:Nat}:(zbz lo n).length=n:=by simp [zbz]
theorem zby {lo:Int} {n i:Nat} {x:Int} (h:(zbz lo n)[i]?=some x):i<n∧x=lo+i:=by
 unfold zbz at h
 rw [List.getElem?_map] at h
 by_cases z:i<n
 ·rw [List.getElem?_range z] at h
  exact ⟨z,(Option.some.inj h).symm⟩
 ·rw [List.getElem?_eq_none (by simp;omega)] at h;cases h
theorem zmm {lo:Int} {n:Nat} {x:Int}:x∈zbz lo n ↔ lo≤x∧x<lo+n:=by
 unfold zbz
 rw [List.mem_map]
 constructor
 ·rintro ⟨i,hi,rfl⟩;have:=List.mem_range.mp hi;omega
 ·intro h;exact ⟨(x-lo).toNat,List.mem_range.mpr ⇑0,by omega⟩
theorem zt2 {Hb F:Hp} {lo:Int} {n j:Nat}:zsA Hb F (Itr lo n) (zdV j) [j] (zbz lo n) (λx=>[dI x]) m:=λH hs =>
 ⟨by show n≤_;rw [za4];exact ↑4 _,λi x ex=>by
  obtain ⟨hi,rfl⟩:=zby ex
  refine ⟨hi,λv H' y=>?_⟩
  obtain ⟨rfl,rfl⟩:=y
  exact ⟨Grow.refl hs,λσ Q k=>k [_] (.cons rfl .nil)⟩⟩
theorem zdy {t:TE} {j:Nat} {n:Int} (h:Ev Γ t false (dI n)) (hn:-(2^62)≤n∧n<2^62):Iv Γ (zud (tCons t tNil)) (zdV j) [j] (zbz 0 n.toNat) (λx=>[dI x]) m:=λF0 Hb F H σ own R a k =>
 h F0 Hb F H σ own _ a λu F1 H1 g1 q1=>⟨n,by rw [q1],hn.1,hn.2,k _ F1 H1 g1 zt2⟩
theorem zbV {α β:Type} {xs:List α} {ys:List β} {i:Nat} {p:α×β} (h:(xs.zip ys)[i]?=some p):xs[i]?=some p.1∧ys[i]?=some p.2:=by
 rw [List.getElem?_zip_eq_some] at h;exact h
theorem zdT {ta tb:TE} {j1 j2:Nat} {xs:List γ} {ys:List δ} (f1:γ->Ds) (f2:δ->Ds) (h1:Ev Γ ta m (dQ K (xs.map f1))) (h2:Ev Γ tb m (dQ K (ys.map f2))) :
  Iv Γ (zut K (tCons ta (tCons tb tNil))) (zr9 K 2 (zhw (zdV j1) (zhw (zdV j2) zsr))) [j1,j2] (xs.zip ys) (λx=>[f1 x.1,f2 x.2]) m:=λF0 Hb F H σ own R a k =>
 h1 F0 Hb F H σ own _ a λu F1 H1 g1 ⟨p,vs,e1,e2,e3⟩=>h2 F0 Hb F1 H1 σ own _ ↑35 λu' F2 H2 g2 ⟨q,ws,d1,d2,d3⟩=>by
  have e2':SqL K F2 p vs:=g2.f.seq (zbn.seq e2)
  have d2':SqL K F2 q ws:=zbn.seq d2
  have e3':=zdz (ds:=[]) (zbm (m:=m) (Hb:=Hb) g2.f) e3
  have le:=Paired.length e3
  have ld:=Paired.length d3
  rw [List.length_map] at le ld
  refine ⟨p,q,by rw [e1,d1],⟨vs,g2.fh.seq e2'⟩,⟨ws,g2.fh.seq d2'⟩,k _ F2 H2 ↑67 λH hs=>⟨⟨vs,ws,hs.seq e2',hs.seq d2',by rw [le,ld,List.length_zip];omega⟩,λi x ex=>?_⟩⟩
  obtain ⟨x1,x2⟩:=zbV ex
  obtain ⟨v,ev,qv⟩:=zbt e3' (show (xs.map f1)[i]?=some (f1 x.1) by rw [List.getElem?_map,x1];rfl)
  obtain ⟨w,ew,qw⟩:=zbt d3 (show (ys.map f2)[i]?=some (f2 x.2) by rw [List.getElem?_map,x2];rfl)
  refine ⟨⟨vs,ws,v,w,hs.seq e2',hs.seq d2',ev,ew⟩,λz H' y=>?_⟩
  obtain ⟨r,x',y',rfl,hr,rfl,hxy⟩:=y
  obtain ⟨hx,hy⟩:=hxy vs ws (hs.seq e2') (hs.seq d2')
  rw [ev] at hx;rw [ew] at hy
  cases hx;cases hy
  exact ⟨(Grow.refl hs).newH hr,λσ Q k=>⟨r,_,rfl,.inl (.inl zaO),rfl,_,_,rfl,_,_,rfl,rfl,k [v,w] (.cons qv (.cons qw .nil))⟩⟩
def zun:Option Slot->Slot
 | some (.va m d)=>.va m d
 | _=>.no
def zk1 (own:Nat) (fv:List Nat) (Γ:Ctx):Ctx:=List.replicate own .no++fv.map λi=>zun Γ[i]?
theorem At.block {F0 Hb F H:Hp} {own:Nat->Option Addr} {σ:St} (a:At F0 Hb F H σ own Γ) (k:Nat) (fv:List Nat):At F0 Hb F H (ziG k fv σ) (λ_=>none) (zk1 k fv Γ):=by
 refine ⟨a.g,λ_ _ _ h=>(by cases h),λ_ _ h=>(by cases h),λi s e=>?_,?_⟩
 ·unfold zk1 at e
  unfold ziG
  by_cases hi:i<k
  ·rw [List.getElem?_append_left ↑93,List.getElem?_replicate,if_pos hi] at e
   cases e;trivial
  ·rw [List.getElem?_append_right ↑93,List.length_replicate,List.getElem?_map] at e
   rw [List.getElem?_append_right ↑93,List.length_replicate,List.getElem?_map]
   cases q:fv[i-k]? with
   | none=>rw [q] at e;cases e
   | some j =>
    rw [q] at e
    have e':zun Γ[j]?=s:=Option.some.inj e
    subst e'
    show zgB Hb F H (λ_=>none) _ ((σ[j]?).join) (zun Γ[j]?)
    cases z:Γ[j]? with
    | none=>trivial
    | some r =>
     cases r with
     | no=>trivial
     | va m d=>exact (show zgB Hb F H own j _ (.va m d) from a.sl j _ z)
     | ow m ds=>trivial
     | ob m C p dx fs=>trivial
     | ol p ds=>trivial
     | tl d=>trivial
 ·unfold ziG zk1;simp
theorem znQ {k:Nat} {fv:List Nat} {j:Nat} {d:Ds} (e:(zk1 k fv Γ)[j]?=some (.tl d)):False:=by
 unfold zk1 at e
 have:=List.mem_of_getElem? e
 rcases List.mem_append.mp this with q | q
 ·cases (List.mem_replicate.mp q).2
 ·obtain ⟨l,_,q⟩:=List.mem_map.mp q
  unfold zun at q
  split at q<;>cases q
theorem zmr:EvT Γ zpj true:=λF0 Hb F H σ own Q a k=>k F H (Grow.refl a.fh)
theorem zkI {xs:List γ} {i:Nat} {x:γ} (h:xs[i]?=some x):xs.take (i+1)=xs.take i++[x]:=by
 rw [List.take_succ,h];rfl
theorem zjR {own:Nat} {fv:List Nat} {wi:TI} {tg:TG} {tt:TTs} {te:TE} {js:List Nat} {xs:List γ} {bds:γ->List Ds} {mi:Bool} {c:γ->Bool} {g:γ->Ds} (it:Iv Γ wi tg js xs bds mi) (hz:xs.length≤sizeLine) (hj:(∀ j∈js,j<own)∧js.Nodup)
  (ht:∀ (i:Nat) (x:γ),xs[i]?=some x->EvT (zm9 js (bds x) mi (zk1 own fv Γ)) tt (c x)) (he:∀ (i:Nat) (x:γ),xs[i]?=some x->c x=true->Ev (zm9 js (bds x) mi (zk1 own fv Γ)) te m (g x)):EvO Γ (zoc own fv wi tg tt te) m ((xs.filter c).map g):=λF0 Hb F H σ ow Q a k =>
 it F0 Hb F H σ ow _ a λJ F1 H1 g1 ok D hD=>by
  have hno:∀ j∈js,((zk1 own fv Γ))[j]?=some .no:=λj hj'=>by
   have:=hj.1 j hj'
   unfold zk1
   rw [List.getElem?_append_left (by simpa using this),List.getElem?_replicate,if_pos this]
  obtain ⟨hD0,hDF,hDb⟩:=a.free g1 hD
  refine ⟨λi mm ys σb H2=>mm=xs.length-i∧i≤xs.length∧ys.length≤i∧∃ F2,Grow F1 H1 F2 H2∧F2 D=none∧H2 D=some (.lst ys)∧Paired (λv (d:Ds)=>d.pr (part m F2 Hb) v) ys (((xs.take i).filter c).map g)∧At F0 Hb F2 H2 σb (λ_=>none) (zk1 own fv Γ),
   ⟨_,rfl,Nat.zero_le _,Nat.zero_le _,F1,((Grow.refl g1.fh)).newH hD,hDF,zaO,by simpa using Paired.nil,((↑35).block own fv).grow (((Grow.refl g1.fh)).newH hD)⟩,?_⟩
  rintro i mm ys σb H2 ⟨rfl,hi,hy,F2,g2,hF2,hH2,hP,a2⟩
  refine ⟨hH2,?_⟩
  obtain ⟨hstop,hitem⟩:=ok.up g2.f H2 g2.fh
  by_cases hlt:i<xs.length
  ·obtain ⟨go,yl⟩:=hitem i xs[i] (List.getElem?_eq_getElem hlt)
   refine .inr ⟨go,λx H' y=>?_⟩
   obtain ⟨g3,bind⟩:=yl x H' y
   refine bind σb _ λvs hvs=>?_
   have a3:=(a2.grow g3).setMany (js:=js) hvs
   have hx:xs[i]?=some xs[i]:=List.getElem?_eq_getElem hlt
   refine ht i _ hx F0 Hb F2 H' _ _ _ a3 λF4 H4 g4=>?_
   have tk:=zkI hx
   have gD:∀ {F5 H5:Hp},Grow F2 H2 F5 H5->F5 D=none∧H5 D=some (.lst ys):=λg=>⟨g.no D (by rw [hH2];simp) hF2,g.h _ _ hH2⟩
   cases hc:c xs[i] with
   | true =>
    rw [if_pos rfl]
    refine he i _ hx hc F0 Hb F4 H4 _ _ _ (a3.grow g4) λv F5 H5 g5 q5=>?_
    have g25:=g3.trans (g4.trans g5)
    obtain ⟨n1,n2⟩:=gD g25
    have sD:Same H5 H5:=Same.refl _
    have n3:H1 D=none:=hD
    refine ⟨n2,by omega,xs.length-(i+1),by omega,rfl,hlt,by simp;omega,F5,?_,n1,zaO,?_,?_⟩
    ·exact (g2.trans g25).setH n1 n3
    ·rw [tk,List.filter_append,List.map_append]
     refine zcX (zdz (ds:=[]) (zbm g25.f) hP) ?_
     rw [List.filter_cons,hc]
     exact .cons q5 .nil
    ·have a5:=((a3.grow g4).grow g5).unsetMany hno hj.2
     refine ⟨a5.g.setH n1 hDb,a5.inj,λ_ _ h=>(nomatch h),λj s es=>?_,a5.len⟩
     ·have:=a5.sl j s es
      cases s with
      | no=>trivial
      | va m d=>exact this
      | ow m ds=>obtain ⟨_,_,_,h,_⟩:=this;exact (nomatch h)
      | ob m C p dx fs=>obtain ⟨_,_,h,_⟩:=this;exact (nomatch h)
      | ol p ds=>obtain ⟨_,_,h,_⟩:=this;exact (nomatch h)
      | tl d=>exact (znQ es).elim
   | false =>
    rw [if_neg Bool.false_ne_true]
    have g25:=g3.trans g4
    obtain ⟨n1,n2⟩:=gD g25
    refine ⟨xs.length-(i+1),by omega,rfl,hlt,by omega,F4,g2.trans g25,n1,n2,?_,(a3.grow g4).unsetMany hno hj.2⟩
    rw [tk,List.filter_append,List.map_append,List.filter_cons,hc]
    simpa using zdz (ds:=[]) (zbm g25.f) hP
  ·have e:i=xs.length:=by omega
   subst e
   rw [List.take_length] at hP
   exact .inl ⟨hstop,k D ys F2 H2 ↑67 hD0 hF2 hH2 hP⟩
theorem zbJ {own:Nat} {fv:List Nat} {wi:TI} {tg:TG} {te:TE} {js:List Nat} {xs:List γ} {bds:γ->List Ds} {mi:Bool} {g:γ->Ds} (it:Iv Γ wi tg js xs bds mi) (hz:xs.length≤sizeLine) (hj:(∀ j∈js,j<own)∧js.Nodup)
  (he:∀ (i:Nat) (x:γ),xs[i]?=some x->Ev (zm9 js (bds x) mi (zk1 own fv Γ)) te m (g x)):EvO Γ (zoc own fv wi tg zpj te) m (xs.map g):=by
 have:=zjR (c:=λ_=>true) it hz hj (λ_ _ _=>zmr) (λi x hx _=>he i x hx)
 rwa [show xs.filter (λ_=>true)=xs from List.filter_eq_self.mpr λ_ _=>rfl] at this
end
inductive Oc where
 | nx (Γ:Ctx)
 | rt (m:Bool) (d:Ds)
 | rl (m:Bool) (ds:List Ds)
 | bk (Γ:Ctx)
 | ct (Γ:Ctx)
 | ex (C:Addr) (Γ:Ctx)
 | rw (Γ:Ctx) (d:Ds)
def zhu (E:XS) (F0 Hb:Hp) (D:Ends):Oc->Prop
 | .ex C Γ=>∀ dct F H σ own,At F0 Hb F H σ own Γ->E σ (.ref C) dct H
 | .rw Γ d=>∀ v F H σ own,At F0 Hb F H σ own Γ->d.pr F v->D.rt v H
 | .nx Γ=>∀ F H σ own,At F0 Hb F H σ own Γ->D.nx σ H
 | .bk Γ=>∀ F H σ own,At F0 Hb F H σ own Γ->D.bk σ H
 | .ct Γ=>∀ F H σ own,At F0 Hb F H σ own Γ->D.ct σ H
 | .rt m d=>∀ v F H,Grow F0 Hb F H->d.pr (part m F Hb) v->D.rt v H
 | .rl m ds=>∀ p vs F H,Grow F0 Hb F H->Hb p=none->F p=none->H p=some (.lst vs)->Paired ↑194 vs ds->D.rt (.ref p) H
def Run (E:XS) (Γ:Ctx) (t:TS) (o:Oc):Prop:=∀ (F0 Hb F H:Hp) (σ:St) (own:Nat->Option Addr) (D:Ends),At F0 Hb F H σ own Γ->zhu E F0 Hb D o->t D σ H
def Let {α:Type} {β:Type} (a:α) (k:α->β):β:=k a
def loopR {σ:Type} {γ:Type} {β:Type} (f:σ->γ->σ ⊕ β):σ->List γ->σ ⊕ β
 | s,[]=>.inl s
 | s,x :: xs=>match f s x with | .inl s'=>loopR f s' xs | .inr b=>.inr b
section
variable {E:XS} {Γ Δ:Ctx} {m:Bool} {K:W.Frag} {γ β:Type} {te:TE} {t u:TS} {d:Ds} {ds:List Ds} {o:Oc} {i:Nat}
theorem zan (w:Wk Γ Δ):Run E Γ zp9 (.nx Δ):=λF0 Hb F H σ own D a k=>k F H σ own (a.wk w)
theorem zaA (h:Ev Γ te m d):Run E Γ (zph te) (.rt m d):=λF0 Hb F H σ own D a k=>h F0 Hb F H σ own _ a λv F' H' g q=>k v F' H' (a.g.trans g) q
theorem zjF (h:EvO Γ te m ds):Run E Γ (zph te) (.rl m ds):=λF0 Hb F H σ own D a k=>h F0 Hb F H σ own _ a λp vs F' H' g h1 h2 h3 q=>k p vs F' H' (a.g.trans g) (a.g.h.free h1) h2 h3 q
theorem zi9 (e:Γ[i]?=some (.ow m ds)):Run E Γ (zph (zjm i)) (.rl m ds):=λF0 Hb F H σ own D a k=>by
 obtain ⟨p,vs,e1,e2,e3,e4,e5,e6⟩:=a.sl i _ e
 have hi:i<σ.length:=by rw [a.len];exact (↑62).1
 rw [List.getElem?_eq_getElem hi] at e1
 have e':σ[i]=some (.ref p):=e1
 exact ⟨_,by rw [List.getElem?_eq_getElem hi,e'],k p vs F H a.g e4 e3 e5 e6⟩
theorem zhM (h:Run E Γ (zph te) o) (ho:∀ F0 Hb D D',D.rt=D'.rt->zhu E F0 Hb D o->zhu E F0 Hb D' o):Run E Γ (tSeq (zph te) u) o:=λF0 Hb F H σ own D a k=>h F0 Hb F H σ own _ a (ho F0 Hb D { D with nx:=u D } rfl k)
theorem zaj (h:Run E Γ (zph te) (.rt m d)):Run E Γ (tSeq (zph te) u) (.rt m d):=zhM h λ_ _ _ _ e q v F H g p=>e ▸ q v F H g p
theorem zeV (h:Run E Γ (zph te) (.rl m ds)):Run E Γ (tSeq (zph te) u) (.rl m ds):=zhM h λ_ _ _ _ e q p vs F H g h1 h2 h3 h4=>e ▸ q p vs F H g h1 h2 h3 h4
theorem zba (h:Ev Γ te m d) (k:Run E (Γ.set i (.va m d)) u o):Run E Γ ↑208 o:=λF0 Hb F H σ own D a q =>
 h F0 Hb F H σ own _ a λv F' H' g p=>k F0 Hb F' H' _ own D ((↑38).set i p) q
theorem zeu (h:EvO Γ te m ds) (k:Run E (Γ.set i (.ow m ds)) u o):Run E Γ ↑208 o:=λF0 Hb F H σ own D a q =>
 h F0 Hb F H σ own _ a λp vs F' H' g h1 h2 h3 h4=>k F0 Hb F' H' _ _ D (a.setOwn g i h1 h2 h3 h4) q
theorem zaq {α:Type} {x:α} (f:α->Ds) (fo:β->Oc) {kk:α->β} (h:Ev Γ te m (f x)) (k:∀ y,y=x->Run E (Γ.set i (.va m (f y))) u (fo (kk y))):Run E Γ ↑208 (fo (Let x kk)):=zba h (k x rfl)
theorem zfR {α:Type} {x:α} (f:α->List Ds) (fo:β->Oc) {kk:α->β} (h:EvO Γ te m (f x)) (k:∀ y,y=x->Run E (Γ.set i (.ow m (f y))) u (fo (kk y))):Run E Γ ↑208 (fo (Let x kk)):=zeu h (k x rfl)
theorem zgp (h:Ev Γ te m d) (k:Run E Γ u o):Run E Γ (tSeq (zpl te) u) o:=λF0 Hb F H σ own D a q =>
 h F0 Hb F H σ own _ a λv F' H' g p=>k F0 Hb F' H' σ own D ↑38 q
theorem zcw (e:Γ[i]?=some (.ow m ds)) (k:Run E (Γ.set i (.va m (dL ds))) t o):Run E Γ t o:=λF0 Hb F H σ own D a q=>by
 obtain ⟨F',own',_,a'⟩:=a.share e
 exact k F0 Hb F' H σ own' D a' q
theorem zaW {α:Type} {tc:TT} {b:Bool} {x y:α} {r:TS} (fo:α->Oc) (h:EvT Γ tc b) (h1:b=true->Run E Γ (tSeq t r) (fo x)) (h2:b=false->Run E Γ (tSeq u r) (fo y)):Run E Γ (tSeq (zsS tc t u) r) (fo (bif b then x else y)):=λF0 Hb F H σ own D a q =>
 h F0 Hb F H σ own _ a λF' H' g=>by
  cases b with
  | true=>rw [if_pos rfl];exact h1 rfl F0 Hb F' H' σ own D ↑38 q
  | false=>rw [if_neg Bool.false_ne_true];exact h2 rfl F0 Hb F' H' σ own D ↑38 q
theorem zk7 {tc:TT} {r:TS} (h:EvT Γ tc true) (h1:Run E Γ (tSeq t r) o):Run E Γ (tSeq (zsS tc t u) r) o:=λF0 Hb F H σ own D a q=>h F0 Hb F H σ own _ a λF' H' g=>by
 rw [if_pos rfl];exact h1 F0 Hb F' H' σ own D ↑38 q
theorem zb6 {tc:TT} {r:TS} (h:EvT Γ tc false) (h1:Run E Γ (tSeq u r) o):Run E Γ (tSeq (zsS tc t u) r) o:=λF0 Hb F H σ own D a q=>h F0 Hb F H σ own _ a λF' H' g=>by
 rw [if_neg Bool.false_ne_true];exact h1 F0 Hb F' H' σ own D ↑38 q
theorem zcm {tc:TT} {b:Bool} {r:TS} (G:Bool->Ctx) (h:EvT Γ tc b) (h1:b=true->Run E Γ t (.nx (G true))) (h2:b=false->Run E Γ u (.nx (G false))) (k:Run E (G b) r o):Run E Γ (tSeq (zsS tc t u) r) o:=λF0 Hb F H σ own D a q =>
 h F0 Hb F H σ own _ a λF' H' g=>by
  cases b with
  | true=>rw [if_pos rfl];exact h1 rfl F0 Hb F' H' σ own _ ↑38 λF H σ own a'=>k F0 Hb F H σ own D a' q
  | false=>rw [if_neg Bool.false_ne_true];exact h2 rfl F0 Hb F' H' σ own _ ↑38 λF H σ own a'=>k F0 Hb F H σ own D a' q
theorem zat (k:Run E Γ u o):Run E Γ (tSeq zp9 u) o:=λF0 Hb F H σ own D a q=>k F0 Hb F H σ own D a q
theorem zoe {Δ:Ctx} (h:Run E Γ t (.nx Δ)) (k:Run E Δ u o):Run E Γ (tSeq t u) o:=λF0 Hb F H σ own D a q=>h F0 Hb F H σ own _ a λF H σ own a'=>k F0 Hb F H σ own D a' q
theorem zax {r:TS} (h:Run E Γ (tSeq t (tSeq u r)) o):Run E Γ (tSeq (tSeq t u) r) o:=λF0 Hb F H σ own D a q=>h F0 Hb F H σ own D a q
theorem zje {F0 Hb F H:Hp} {σ:St} {own:Nat->Option Addr} (a:At F0 Hb F H σ own Γ) (e:Γ[i]?=some (.ow m ds)) :
  ∃ p vs,σ[i]?=some (some (.ref p))∧own i=some p∧F p=none∧Hb p=none∧H p=some (.lst vs)∧Paired ↑194 vs ds:=by
 obtain ⟨p,vs,e1,e2,e3,e4,e5,e6⟩:=a.sl i _ e
 have hi:i<σ.length:=by rw [a.len];exact (↑62).1
 rw [List.getElem?_eq_getElem hi] at e1
 have e':σ[i]=some (.ref p):=e1
 exact ⟨p,vs,by rw [List.getElem?_eq_getElem hi,e'],e2,e3,e4,e5,e6⟩
theorem zmG {te:TE} (e:Γ[i]?=some (.ow m ds)) (h:Ev Γ te m d) (hz:ds.length<sizeLine) (k:Run E (Γ.set i (.ow m (ds++[d]))) u o):Run E Γ (tSeq (zpl (tBM K "list" zjE (zjm i) (tCons te tNil))) u) o:=λF0 Hb F H σ own D a q=>by
 obtain ⟨p,vs,e1,e2,e3,e4,e5,e6⟩:=zje a e
 refine ⟨_,e1,.inl ⟨rfl,_,SqL.of e5⟩,?_⟩
 refine h F0 Hb F H σ own _ a λv F' H' g qv=>?_
 obtain ⟨p',vs',f1,f2,f3,f4,f5,f6⟩:=zje ↑38 e
 rw [e1] at f1
 cases f1
 exact ⟨p,vs',v,rfl,rfl,f5,by rw [Paired.length f6];exact hz,k F0 Hb F' _ σ own D ((↑38).turn e e1 (zcX f6 (.cons qv .nil))) q⟩
theorem zpm {tb:TE} {n:Bool} {j:Int} (e:Γ[i]?=some (.ow m ds)) (h2:Ev Γ tb false (dI j)) (ej:atI ds j=some d):Ev Γ (tOp (zss K) (zjm i) tb) m d:=λF0 Hb F H σ own Q a k=>by
 obtain ⟨p,vs,e1,e2,e3,e4,e5,e6⟩:=zje a e
 refine ⟨_,e1,h2 F0 Hb F H σ own _ a λv F' H' g qv=>?_⟩
 obtain ⟨x,ex,rx⟩:=zhc e6 ej
 exact ⟨p,vs,j,x,rfl,qv,SqL.of (g.h _ _ e5),ex,k x F' H' g (d.up (zbm g.f) rx)⟩
theorem znY {n:Bool} (e:Γ[i]?=some (.ow m ds)):Ev Γ (tCB ↑215 (tCons (zjm i) tNil)) n (dI ds.length):=λF0 Hb F H σ own Q a k=>by
 obtain ⟨p,vs,e1,e2,e3,e4,e5,e6⟩:=zje a e
 exact ⟨_,e1,p,vs,rfl,.inl (SqL.of e5),k _ F H (Grow.refl a.fh) (by show V.int _=_;rw [Paired.length e6])⟩
theorem zpa {te tj:TE} {j:Int} {n:Nat} (e:Γ[i]?=some (.ow m ds)) (h:Ev Γ te m d) (hj:Ev Γ tj false (dI j)) (ej:ixN ds.length j=some n) (k:Run E (Γ.set i (.ow m (ds.set n d))) u o):Run E Γ (tSeq (zk2 te (zsP (zjm i) tj zox)) u) o:=λF0 Hb F H σ own D a q=>by
 refine h F0 Hb F H σ own _ a λv F' H' g qv=>?_
 obtain ⟨p,vs,e1,e2,e3,e4,e5,e6⟩:=zje ↑38 e
 refine ⟨_,e1,hj F0 Hb F' H' σ own _ ↑38 λw F2 H2 g2 qw=>?_⟩
 obtain ⟨p',vs',f1,f2,f3,f4,f5,f6⟩:=zje ((↑38).grow g2) e
 rw [e1] at f1
 cases f1
 exact ⟨p,vs',j,n,rfl,qw,f5,by rw [Paired.length f6];exact ej,k F0 Hb F2 _ σ own D (((↑38).grow g2).turn e e1 (zjg (R:=λv (d:Ds)=>d.pr (part m F2 Hb) v) (d.up (zbm g2.f) qv) n f6)) q⟩
theorem zjb {S:Type} (f:S->γ->S ⊕ β):∀ (xs:List γ) (s:S) (i:Nat) (s':S),loopR f s (xs.take i)=.inl s'->∀ x,xs[i]?=some x->loopR f s (xs.take (i+1))=f s' x
 | [],_,_,_,_,_,h=>by simp at h
 | y :: ys,s,0,s',e,x,h=>by
  simp at h;subst h
  have e':s=s':=by simpa [loopR] using e
  subst e'
  show loopR f s [y]=_
  simp only [loopR]
  cases f s y<;>rfl
 | y :: ys,s,i+1,s',e,x,h=>by
  simp only [List.take_succ_cons,loopR] at e ⊢
  cases q:f s y with
  | inl s1=>rw [q] at e;exact zjb f ys s1 i s' e x ↑118
  | inr b=>rw [q] at e;cases e
theorem ziY {S:Type} (f:S->γ->S ⊕ β):∀ (xs:List γ) (s:S) (i:Nat) (b:β),loopR f s (xs.take i)=.inr b->loopR f s xs=.inr b
 | [],s,i,b,e=>by simpa using e
 | y :: ys,s,0,b,e=>by simp [loopR] at e
 | y :: ys,s,i+1,b,e=>by
  simp only [List.take_succ_cons,loopR] at e ⊢
  cases q:f s y with
  | inl s1=>rw [q] at e;exact ziY f ys s1 i b e
  | inr b'=>rw [q] at e;exact e
def zeg {S:Type} (G:S->Ctx) (res:β->Oc):S ⊕ β->Oc
 | .inl s=>.nx (G s)
 | .inr b=>res b
theorem Grow.rebase {F0 Hb F1 H1 F H:Hp} (g1:Grow F0 Hb F1 H1) (g:Grow F0 Hb F H) (e:Same F1 F):Grow F1 Hb F H :=
 ⟨e,g.fh,g.h,λa h1 h2=>g.no a h1 (g1.f.free h2)⟩
theorem Grow.unbase {F0 Hb F1 H1 F H:Hp} (g1:Grow F0 Hb F1 H1) (g:Grow F1 Hb F H):Grow F0 Hb F H :=
 ⟨g1.f.trans g.f,g.fh,g.h,λa h1 h2=>g.no a h1 (g1.no a h1 h2)⟩
theorem At.rebase {F0 Hb F1 H1 F H:Hp} {σ:St} {own:Nat->Option Addr} (g1:Grow F0 Hb F1 H1) (a:At F0 Hb F H σ own Γ) (e:Same F1 F):At F1 Hb F H σ own Γ:=⟨g1.rebase a.g e,a.inj,a.liv,a.sl,a.len⟩
theorem At.unbase {F0 Hb F1 H1 F H:Hp} {σ:St} {own:Nat->Option Addr} (g1:Grow F0 Hb F1 H1) (a:At F1 Hb F H σ own Γ):At F0 Hb F H σ own Γ:=⟨g1.unbase a.g,a.inj,a.liv,a.sl,a.len⟩
theorem zhu.rebase {F0 Hb F1 H1:Hp} {D:Ends} (g1:Grow F0 Hb F1 H1) (h:zhu E F0 Hb D o):zhu E F1 Hb D o:=by
 cases o with
 | nx Γ=>exact λF H σ own a=>h F H σ own (a.unbase g1)
 | bk Γ=>exact λF H σ own a=>h F H σ own (a.unbase g1)
 | ct Γ=>exact λF H σ own a=>h F H σ own (a.unbase g1)
 | rt m d=>exact λv F H g q=>h v F H (g1.unbase g) q
 | rl m ds=>exact λp vs F H g h1 h2 h3 q=>h p vs F H (g1.unbase g) h1 h2 h3 q
 | ex C Γ=>exact λdct F H σ own a=>h dct F H σ own (a.unbase g1)
 | rw Γ d=>exact λv F H σ own a q=>h v F H σ own (a.unbase g1) q
theorem zng {S:Type} {wi:TI} {g:TG} {tb:TS} {js:List Nat} {xs:List γ} {bds:γ->List Ds} {mi:Bool} {s0:S} (G:S->Ctx) (res:β->Oc) (f:S->γ->S ⊕ β) (I:Nat->S->Prop) (it:Iv Γ wi g js xs bds mi) (w:Wk Γ (G s0)) (h0:I 0 s0)
  (hres:∀ (b:β) (F0 Hb:Hp) (D D':Ends),D.rt=D'.rt->zhu E F0 Hb D (res b)->zhu E F0 Hb D' (res b))
  (body:∀ (i:Nat) (x:γ) (s:S),xs[i]?=some x->I i s->(∀ s',f s x=.inl s'->I (i+1) s')∧Run E (zm9 js (bds x) mi (G s)) tb (zeg G res (f s x))):Run E Γ (zsp wi g tb) (zeg G res (loopR f s0 xs)):=λF0 Hb F H σ own D a q =>
 it F0 Hb F H σ own _ a λJ F1 H1 g1 ok=>by
  have gb:Grow F0 Hb F1 H1:=a.g.trans g1
  refine ⟨λi mm σ H2=>mm=xs.length-i∧i≤xs.length∧∃ s F2 own2,loopR f s0 (xs.take i)=.inl s∧I i s∧At F1 Hb F2 H2 σ own2 (G s),⟨_,rfl,Nat.zero_le _,s0,F1,own,by simp [loopR],h0,((↑35).wk w).rebase gb (Same.refl _)⟩,?_⟩
  rintro i mm σ2 H2 ⟨rfl,hi,s,F2,own2,es,hI,a2⟩
  obtain ⟨hstop,hitem⟩:=ok.up a2.g.f H2 a2.fh
  by_cases hlt:i<xs.length
  ·have hx:xs[i]?=some xs[i]:=List.getElem?_eq_getElem hlt
   obtain ⟨go,yl⟩:=hitem i xs[i] hx
   obtain ⟨hI',hb⟩:=body i _ s hx hI
   have tk:=zjb f xs s0 i s es _ hx
   refine .inr ⟨go,λσ' H'=>∃ s' F3 own3,f s xs[i]=.inl s'∧At F1 Hb F3 H' σ' own3 (G s'),λσ' H' ⟨s',F3,own3,e3,a3⟩=>⟨xs.length-(i+1),by omega,rfl,hlt,s',F3,own3,by rw [tk,e3],hI' s' e3,a3⟩,λx H' y=>?_⟩
   obtain ⟨g3,bind⟩:=yl x H' y
   refine bind σ2 _ λvs hvs=>?_
   have a3:=(a2.grow g3).setMany (js:=js) hvs
   refine hb F1 Hb F2 H' _ own2 _ a3 ?_
   cases e3:f s xs[i] with
   | inl s'=>exact λF3 H3 σ3 own3 a4=>⟨s',F3,own3,rfl,a4⟩
   | inr b =>
    have:=ziY f xs s0 (i+1) b (by rw [tk,e3])
    rw [this] at q
    exact hres b F1 Hb D _ rfl (zhu.rebase (o:=res b) gb q)
  ·have e:i=xs.length:=by omega
   subst e
   rw [List.take_length] at es
   rw [es] at q
   exact .inl ⟨hstop,q F2 H2 σ2 own2 (a2.unbase gb)⟩
end
structure EqD {α:Type} [DecidableEq α] (K:W.Frag) (f:α->Ds) (n:Nat):Prop where
 eq:∀ H x y v w,(f x).pr H v->(f y).pr H w->EqV K H n v w (decide (x=y))
 inj:∀ H x y v,(f x).pr H v->(f y).pr H v->x=y
theorem EqD.int {K:W.Frag} {n:Nat}:EqD K dI n:=⟨λH x y v w h1 h2=>by
 cases h1;cases h2
 have:decide (x=y)=eqV (.int x) (.int y):=Bool.eq_iff_iff.mpr (by unfold eqV;simp)
 rw [this];exact .flat rfl rfl,λH x y v h1 h2=>by cases h1;cases h2;rfl⟩
theorem EqD.bool {K:W.Frag} {n:Nat}:EqD K dB n:=⟨λH x y v w h1 h2=>by
 cases h1;cases h2
 have:decide (x=y)=eqV (.bl x) (.bl y):=by cases x<;>cases y<;>rfl
 rw [this];exact .flat rfl rfl,λH x y v h1 h2=>by cases h1;cases h2;rfl⟩
theorem EqD.str {K:W.Frag} {n:Nat}:EqD K dS n:=⟨λH x y v w h1 h2=>by
 cases h1;cases h2
 have:decide (x=y)=eqV (.str x) (.str y):=Bool.eq_iff_iff.mpr (by unfold eqV;simp)
 rw [this];exact .flat rfl rfl,λH x y v h1 h2=>by cases h1;cases h2;rfl⟩
theorem zgY {α:Type} {f:α->Ds} {H:Hp} (h:∀ x y v,(f x).pr H v->(f y).pr H v->x=y):∀ {xs ys:List α} {vs:List V},Paired ↑153 vs ↑29->Paired ↑153 vs (ys.map f)->xs=ys
 | [],[],_,_,_=>rfl
 | [],_ :: _,_,.nil,h2=>by cases h2
 | _ :: _,[],_,h1,.nil=>by cases h1
 | x :: xs,y :: ys,_,.cons a s,.cons b t=>by rw [h x y _ a b,zgY h s t]
theorem zoT {α:Type} [DecidableEq α] {xs ys:List α} (h:xs.length=ys.length):((↑209).all λj=>decide (xs[j]? =ys[j]?))=decide (xs=ys):=by
 by_cases e:xs=ys
 ·subst e;simp
 ·rw [decide_eq_false e]
  by_cases z:((↑209).all λj=>decide (xs[j]? =ys[j]?))=true
  ·exfalso
   apply e
   rw [List.all_eq_true] at z
   refine List.ext_getElem? λj=>?_
   by_cases hj:j<xs.length
   ·simpa using z j (List.mem_range.mpr hj)
   ·rw [List.getElem?_eq_none ⇑0,List.getElem?_eq_none ⇑0]
  ·simpa using z
theorem zms {α:Type} [DecidableEq α] {K:W.Frag} {f:α->Ds} {n:Nat} (E:EqD K f n) {H:Hp} {xs ys:List α} {vs ws:List V} (h1:Paired ↑153 vs ↑29) (h2:Paired ↑153 ws (ys.map f)) (hl:xs.length=ys.length) :
  ∀ (j:Nat) (x y:V),vs[j]?=some x->ws[j]?=some y->EqV K H n x y (decide (xs[j]?=ys[j]?)):=λj x y e1 e2=>by
 have l1:=Paired.length h1
 have l2:=Paired.length h2
 rw [List.length_map] at l1 l2
 have hj:j<vs.length:=(List.getElem?_eq_some_iff.mp e1).1
 have q1:xs[j]?=some (xs[j]' ⇑0):=List.getElem?_eq_getElem ⇑0
 have q2:ys[j]?=some (ys[j]' ⇑0):=List.getElem?_eq_getElem ⇑0
 obtain ⟨v,ev,rv⟩:=zbt h1 (show (↑29)[j]?=some (f (xs[j]' ⇑0)) by rw [List.getElem?_map,q1];rfl)
 obtain ⟨w,ew,rw'⟩:=zbt h2 (show (ys.map f)[j]?=some (f (ys[j]' ⇑0)) by rw [List.getElem?_map,q2];rfl)
 rw [e1] at ev;rw [e2] at ew
 cases ev;cases ew
 have:=E.eq H _ _ _ _ rv rw'
 rw [q1,q2]
 simpa using this
theorem EqD.list {α:Type} [DecidableEq α] {K:W.Frag} {f:α->Ds} {n:Nat} (E:EqD K f n):EqD K (λxs:List α=>dL ↑29) (n+1):=⟨λH xs ys v w h1 h2=>by
 obtain ⟨p,vs,rfl,hp,qp⟩:=h1
 obtain ⟨q,ws,rfl,hq,qq⟩:=h2
 by_cases e:p=q
 ·subst e
  rw [hp] at hq
  cases hq
  rw [zgY (E.inj H) qp qq,decide_eq_true rfl]
  exact .same
 ·have l1:=Paired.length qp
  have l2:=Paired.length qq
  rw [List.length_map] at l1 l2
  by_cases hl:xs.length=ys.length
  ·rw [← zoT hl,← l1]
   exact .lists e (SqL.of hp) (SqL.of hq) ⇑0 (zms E qp qq hl)
  ·have:decide (xs=ys)=false:=decide_eq_false λz=>hl (by rw [z])
   rw [this]
   exact .lens e (SqL.of hp) (SqL.of hq) ⇑0,λH xs ys v h1 h2=>by
 obtain ⟨p,vs,rfl,hp,qp⟩:=h1
 obtain ⟨q,ws,e,hq,qq⟩:=h2
 cases e
 rw [hp] at hq
 cases hq
 exact zgY (E.inj H) qp qq⟩
theorem zlW {α:Type} [DecidableEq α] {K:W.Frag} {f:α->Ds} {n:Nat} (E:EqD K f n) {Γ:Ctx} {ta tb:TE} {m neg:Bool} {xs ys:List α} (h1:Ev Γ ta false (dQ K ↑29)) (h2:Ev Γ tb false (dQ K (ys.map f))) (hn:n≤50:=by decide) :
  Ev Γ (tOp (zre K neg) ta tb) m (dB (bif neg then !decide (xs=ys) else decide (xs=ys))):=λF0 Hb F H σ own Q a k =>
 h1 F0 Hb F H σ own _ a λu F1 H1 g1 ⟨p,vs,e1,e2,e3⟩=>h2 F0 Hb F1 H1 σ own _ ↑35 λu' F2 H2 g2 ⟨q,ws,d1,d2,d3⟩=>by
  have e2':SqL K H2 p vs:=(g1.fh.trans g2.h).seq e2
  have d2':SqL K H2 q ws:=g2.fh.seq d2
  have e3':=zdz (ds:=[]) (g1.fh.trans g2.h) e3
  have d3':=zdz (ds:=[]) g2.fh d3
  have l1:=Paired.length e3'
  have l2:=Paired.length d3'
  rw [List.length_map] at l1 l2
  refine ⟨p,q,n,vs,ws,e1,d1,e2',d2',hn,?_⟩
  by_cases hl:xs.length=ys.length
  ·refine .inr ⟨_,by omega,zms E e3' d3' hl,k _ F2 H2 ↑67 ?_⟩
   rw [l1,zoT hl]
   cases neg<;>rfl
  ·refine .inl ⟨by omega,k _ F2 H2 ↑67 ?_⟩
   rw [show decide (xs=ys)=false from decide_eq_false λz=>hl (by rw [z])]
   cases neg<;>rfl
def zh9 (N:List Str) (ds:List Ds):Ctx:=ds.map (.va false)++List.replicate (N.length-ds.length) .no
def zvR (n:Nat):Rs->Oc
 | .va m d=>.rt m d
 | .ow m ds=>.rl m ds
 | .ex C=>.ex C (List.replicate n .no)
theorem zl6 {F H:Hp} {N:List Str} {vs:List V} {ds:List Ds} (hF:Same F H) (hv:Paired ↑170 vs ds):At F H F H (start N vs) (λ_=>none) (zh9 N ds):=by
 have hl:=Paired.length hv
 refine ⟨Grow.refl hF,λ_ _ _ h=>(nomatch h),λ_ _ h=>(nomatch h),λi s e=>?_,by unfold start zh9;simp [hl]⟩
 unfold zh9 at e
 unfold start
 by_cases hi:i<ds.length
 ·rw [List.getElem?_append_left ↑93,List.getElem?_map] at e
  rw [List.getElem?_append_left (by simpa [hl] using hi),List.getElem?_map]
  obtain ⟨v,ev,rv⟩:=zbt hv (List.getElem?_eq_getElem hi)
  rw [List.getElem?_eq_getElem hi] at e
  have e':Slot.va false ds[i]=s:=Option.some.inj e
  subst e'
  exact ⟨v,by rw [ev];rfl,rv⟩
 ·rw [List.getElem?_append_right ↑93,List.getElem?_replicate] at e
  split at e
  ·cases e;trivial
  ·cases e
def zrG (H F:Hp) (Q:VK) (E:XK):Rs->Prop
 | .ex C=>∀ dct F' H',Grow F H F' H'->E (.ref C) dct H'
 | .va m d=>∀ v F' H',Grow F H F' H'->d.pr (part m F' H) v->Q v H'
 | .ow m ds=>∀ p ws F' H',Grow F H F' H'->H p=none->F' p=none->H' p=some (.lst ws)->Paired (λv (d:Ds)=>d.pr (part m F' H) v) ws ds->Q (.ref p) H'
theorem zrX {E:XK} {F H:Hp} {N:List Str} {vs:List V} {ds:List Ds} {Q:VK} {t:TS} {r:Rs} (hF:Same F H) (hv:Paired ↑170 vs ds) (hq:zrG H F Q E r) (h:Run (λ_=>E) (zh9 N ds) t (zvR N.length r)):t { nx:=λ_ H'=>Q .non H',rt:=Q } (start N vs) H:=by
 refine h F H F H _ _ _ (zl6 hF hv) ?_
 cases r with
 | va m d=>exact λv F' H' g q=>hq v F' H' g q
 | ow m ds=>exact λp ws F' H' g h1 h2 h3 q=>hq p ws F' H' g h1 h2 h3 q
 | ex C=>exact λdct F' H' σ own a=>hq dct F' H' a.g
theorem zpw {E:XK} {F H:Hp} {N:List Str} {vs:List V} {ds:List Ds} {Q:VK} {t:TS} {m:Bool} {Δ:Ctx} (hF:Same F H) (hv:Paired ↑170 vs ds) (hq:zrG H F Q E (.va m dN)) (h:Run (λ_=>E) (zh9 N ds) t (.nx Δ)):t { nx:=λ_ H'=>Q .non H',rt:=Q } (start N vs) H :=
 h F H F H _ _ _ (zl6 hF hv) λF' H' σ own a=>hq _ F' H' a.g rfl
section
variable {P:Program} {w:World} {K:W.Frag} {mg:Str->Option Value} {base:Heap} {x qual:Str} {st:Stmt} {f:Addr} {fd:FuncData} {N ps:List Str} {k:Nat}
theorem Fun.okV {ι:Type} {args:ι->List Ds} {pre:ι->Prop} {res:ι->Rs} (F:Fun K x qual st f fd) (S:FnScope N ps (zai st)) (hl:∀ i,(args i).length=ps.length)
  (hbody:∀ (cdv:Value) (A:Around) (outer:List Env) (s:Shared) (H:Hp) (E:XK) (i:ι),Room k (A.deeper (envOfC qual (zai st) ⇑2 f cdv))->pre i →
   ∃ t,PSs ((zqs ⇑1 P w K mg base N qual (zai st) f cdv A outer s H E)).nox (zeE st) t∧(Run (λ_=>E) (zh9 N (args i)) t (zvR N.length (res i))∨∃ m Δ,res i=.va m dN∧Run (λ_=>E) (zh9 N (args i)) t (.nx Δ))):FnOk P w K mg base ⇑1 (k+1) f fd ps (Spv args pre res):=by
 refine F.okN S (λvs H Q E ⟨i,F',_,hv,_⟩=>by rw [Paired.length hv];exact hl i) λcdv A outer s H vs Q E hr ⟨i,F',hF,hv,hp,hq⟩=>?_
 obtain ⟨t,h1,h2⟩:=hbody cdv A outer s H E i hr hp
 have hq':zrG H F' Q E (res i):=by
  cases e:res i with
  | va m d=>rw [e] at hq;exact hq
  | ow m ds=>rw [e] at hq;exact hq
  | ex C=>rw [e] at hq;exact hq
 refine ⟨_,h1,?_⟩
 rcases h2 with h2 | ⟨m,Δ,e,h2⟩
 ·exact zrX hF hv hq' h2
 ·rw [e] at hq'
  exact zpw hF hv hq' h2
end
def putD (f:Str) (d:Ds):List (Str×Ds)->List (Str×Ds)
 | []=>[(f,d)]
 | (g,x) :: r=>if g=f then (g,d) :: r else (g,x) :: putD f d r
theorem zja {R:V->Ds->Prop} {f:Str} {v:V} {d:Ds} (h:R v d):∀ {vs:List (Str×V)} {fs:List (Str×Ds)},Paired (λ(a:Str×V) (b:Str×Ds)=>a.1=b.1∧R a.2 b.2) vs fs->Paired (λ(a:Str×V) (b:Str×Ds)=>a.1=b.1∧R a.2 b.2) (putF f v vs) (putD f d fs)
 | _,_,.nil=>.cons ⟨rfl,h⟩ .nil
 | _,_,.cons (a:=(x,u)) (b:=(y,e)) ⟨h1,h2⟩ t=>by
  have h1:x=y:=h1
  subst h1
  unfold putF putD
  split
  ·exact .cons ⟨rfl,h⟩ t
  ·exact .cons ⟨rfl,h2⟩ (zja h t)
theorem zrs {Γ:Ctx} {i:Nat} {m:Bool} {C p dx:Addr} {fs:List (Str×Ds)} {K:W.Frag} {tv:TE} {d:Ds} {f:Str} {u:TS} {o:Oc} {E:XS} (e:Γ[i]?=some (.ob m C p dx fs)) (h:Ev Γ tv m d) (c:Cls K C) (nf:NoAttr K C f) (hz:fs.length<1000) (k:Run E (Γ.set i (.ob m C p dx (putD f d fs))) u o):Run E Γ (tSeq (zu5 K (zjm i) tv f) u) o:=λF0 Hb F H σ own D a q=>by
 refine h F0 Hb F H σ own _ a λv F' H' g qv=>?_
 have a':=a.grow g
 obtain ⟨vs,e1,e2,e3,e4,e5,e6⟩:=a'.sl i _ e
 have hi:i<σ.length:=by rw [a.len];exact (↑62).1
 rw [List.getElem?_eq_getElem hi] at e1
 have e':σ[i]=some (.ref p):=e1
 have ei:σ[i]?=some (some (.ref p)):=by rw [List.getElem?_eq_getElem hi,e']
 exact ⟨_,ei,p,C,dx,vs,rfl,e5.1,c,nf,by rw [Paired.length e6];exact hz,k F0 Hb F' _ σ own D (a'.turnOb e (zja (R:=λv (d:Ds)=>d.pr (part m F' Hb) v) qv e6)) q⟩
def zsq {ι:Type} (C:Addr) (args:ι->List Ds) (pre:ι->Prop) (m:Bool) (fs:ι->List (Str×Ds)):Sp:=λvs H Q _=>∃ (i:ι) (p dx:Addr) (ws:List V) (H1 F:Hp),vs=.ref p :: ws∧H1 p=none∧H1 dx=none∧dx≠p∧H=upd (upd H1 dx (.own p)) p (.ins C dx [])∧Same F H1 ∧
 Paired ↑170 ws (args i)∧pre i∧∀ us F' H',Grow F H1 F' H'->F' p=none->F' dx=none->H' p=some (.ins C dx us)->H' dx=some (.own p)->Paired (λ(a:Str×V) (b:Str×Ds)=>a.1=b.1∧b.2.pr (part m F' H1) a.2) us (fs i)->Q .non H'
def znh (m:Bool) (C p dx:Addr) (N:List Str) (ds:List Ds):Ctx:=.ob m C p dx [] :: (ds.map (.va false)++List.replicate (N.length-(ds.length+1)) .no)
section
variable {P:Program} {w:World} {K:W.Frag} {mg:Str->Option Value} {base:Heap} {x qual:Str} {st:Stmt} {f:Addr} {fd:FuncData} {N ps:List Str} {k:Nat}
theorem zom {m:Bool} {F H1:Hp} {C p dx:Addr} {N:List Str} {ws:List V} {ds:List Ds} (hF:Same F H1) (hv:Paired ↑170 ws ds) (h1:H1 p=none) (h2:H1 dx=none) (h3:dx≠p) :
  At F H1 F (upd (upd H1 dx (.own p)) p (.ins C dx [])) (start N (.ref p :: ws)) (λi=>if i=0 then some p else none) (znh m C p dx N ds):=by
 have hl:=Paired.length hv
 have n1:upd H1 dx (.own p) p=none:=by rw [zaC (Ne.symm h3)];exact h1
 have g:Grow F H1 F (upd (upd H1 dx (.own p)) p (.ins C dx [])):=((Grow.refl hF).newH h2).newH n1
 refine ⟨g,λi j q e1 e2=>?_,λi q e=>?_,λi s e=>?_,?_⟩
 ·split at e1
  ·split at e2
   ·omega
   ·cases e2
  ·cases e1
 ·split at e
  ·cases e;rw [zaO];simp
  ·cases e
 ·cases i with
  | zero =>
   have e':Slot.ob m C p dx []=s:=Option.some.inj e
   subst e'
   exact ⟨[],rfl,rfl,⟨hF.free h1,hF.free h2⟩,⟨h1,h2⟩,⟨zaO,by rw [zaC h3];exact zaO⟩,.nil⟩
  | succ i =>
   have e:(ds.map (Slot.va false)++List.replicate (N.length-(ds.length+1)) Slot.no)[i]?=some s:=e
   show zgB H1 F _ _ _ ((ws.map some++List.replicate (N.length-(ws.length+1)) none)[i]?).join s
   by_cases hi:i<ds.length
   ·rw [List.getElem?_append_left ↑93,List.getElem?_map] at e
    rw [List.getElem?_append_left (by simpa [hl] using hi),List.getElem?_map]
    obtain ⟨v,ev,rv⟩:=zbt hv (List.getElem?_eq_getElem hi)
    rw [List.getElem?_eq_getElem hi] at e
    have e':Slot.va false ds[i]=s:=Option.some.inj e
    subst e'
    exact ⟨v,by rw [ev];rfl,rv⟩
   ·rw [List.getElem?_append_right ↑93,List.getElem?_replicate] at e
    split at e
    ·cases e;trivial
    ·cases e
 ·unfold start znh;simp [hl]
theorem Fun.okI {ι:Type} {C:Addr} {args:ι->List Ds} {pre:ι->Prop} {m:Bool} {fs:ι->List (Str×Ds)} (F:Fun K x qual st f fd) (S:FnScope N ps (zai st)) (hl:∀ i,(args i).length+1=ps.length)
  (hbody:∀ (cdv:Value) (A:Around) (outer:List Env) (s:Shared) (H:Hp) (E:XK) (i:ι),Room k (A.deeper (envOfC qual (zai st) ⇑2 f cdv))->pre i →
   ∃ t,PSs ((zqs ⇑1 P w K mg base N qual (zai st) f cdv A outer s H E)).nox (zeE st) t∧∀ p dx,∃ Δ,Run (λ_=>E) (znh m C p dx N (args i)) t (.nx Δ)∧Δ[0]?=some (.ob m C p dx (fs i))):FnOk P w K mg base ⇑1 (k+1) f fd ps (zsq C args pre m fs):=by
 refine F.okN S (λvs H Q E ⟨i,p,dx,ws,H1,F',e,_,_,_,_,_,hv,_⟩=>by rw [e,List.length_cons,Paired.length hv];exact hl i) λcdv A outer s H vs Q E hr ⟨i,p,dx,ws,H1,F',e,h1,h2,h3,h4,hF,hv,hp,hq⟩=>?_
 subst e h4
 obtain ⟨t,t1,t2⟩:=hbody cdv A outer s _ E i hr hp
 obtain ⟨Δ,t2,t3⟩:=t2 p dx
 refine ⟨_,t1,?_⟩
 refine t2 F' H1 F' _ _ _ _ (zom hF hv h1 h2 h3) λF2 H2 σ2 own2 a2=>?_
 obtain ⟨us,e1,e2,e3,e4,e5,e6⟩:=a2.sl 0 _ t3
 exact hq us F2 H2 a2.g e3.1 e3.2 e5.1 e5.2 e6
end
section
variable {Γ:Ctx} {ds:List Ds} {tr:TA} {E:XK}
theorem znj {ι:Type} {C:Addr} {args:ι->List Ds} {pre:ι->Prop} {m:Bool} {fs:ι->List (Str×Ds)} (i:ι) (h:EvA Γ tr false ds) (ha:ds=args i) (hp:pre i):Ev Γ (zpW C (zsq C args pre m fs) [] E tr) m (dO C (fs i)):=λF0 Hb F H σ own Q a k=>by
 subst ha
 refine h F0 Hb F H σ own _ a λvs F1 H1 g1 q1 p dx h1 h2 h3=>⟨i,p,dx,vs,H1,F1,by rw [List.append_nil],h1,h2,h3,rfl,g1.fh,q1,hp,λus F' H' g n1 n2 e1 e2 e3=>⟨rfl,?_⟩⟩
 have g2:=g1.trans g
 obtain ⟨p0,_,pb⟩:=a.free g1 h1
 obtain ⟨d0,_,db⟩:=a.free g1 h2
 have g3:=(g2.take p0 e1).take d0 e2
 have s1:Same F' (upd F' p (.ins C dx us)):=Same.new n1 _
 have n3:upd F' p (.ins C dx us) dx=none:=by rw [zaC h3];exact n2
 have s2:Same F' (upd (upd F' p (.ins C dx us)) dx (.own p)):=s1.trans (Same.new n3 _)
 refine k _ _ _ g3 ⟨p,dx,us,rfl,zea pb (by rw [zaC (Ne.symm h3)];exact zaO),zea db zaO,?_⟩
 exact zb0 (λ_ b q=>⟨q.1,b.2.up (((zhB (a.g.h.trans g1.h))).trans (zbm s2)) q.2⟩) e3
end
def Ite (K:W.Frag) (a:Addr):It :=
 ⟨λi H=>∃ xs x,SqL K H a xs∧xs[i]?=some x,
  λi H v H'=>∃ p x,v=.ref p∧H p=none∧H'=upd H p (.tup [.int (i:Int),x])∧∀ xs,SqL K H a xs->xs[i]?=some x,
  λi H=>∃ xs,SqL K H a xs∧xs.length≤i⟩
theorem zoU {P:Program} {w:World} {K:W.Frag} {elts:List Expr} {x1:Nat} {tp:Pos} {a e it:Addr} (hne:e≠it) :
  Turn P w K (.Tuple elts x1 tp) (Ite K a) [e,it] e (λi h=>(∃ old,IsEnum h e it (i:Int) old)∧h.IsListIter it a i) where
 mem:=by simp
 obj:=λi h st c hc=>by
  obtain ⟨⟨old,he⟩,⟨o1,e1,_,d1⟩⟩:=st
  simp only [List.mem_cons,List.not_mem_nil,or_false] at hc
  rcases hc with rfl | rfl
  ·exact ⟨_,he,λv z=>by cases z⟩
  ·exact ⟨o1,e1,λv z=>by rw [d1] at z;cases z⟩
 keep:=λi h h' st k=>by
  obtain ⟨⟨old,he⟩,h1⟩:=st
  exact ⟨⟨old,k e ↥9 _ he⟩,h1.at λo q=>k it ↥9 o q⟩
 item:=by
  intro X hP hw hK hc i pins s σ H E I hf st hg
  subst hP hw hK
  obtain ⟨xs,x,hxs,hx⟩:=hg
  obtain ⟨itx,rx,px,hzx⟩:=I.list hxs
  obtain ⟨u,hu,ru⟩:=rx.get hx
  obtain ⟨⟨old,he⟩,h1⟩:=st
  refine wpAny_pyNext_enum_item (x:=u) he h1 px.isList (by simpa using hu) hne λh' a1 a2 a3 a4 hk=>?_
  refine ⟨_,rfl,wpAny_letOwnedTupleGo_enum a1 λh'' b1 b2=>?_⟩
  have elt:e<s.heap.objs.size:=Heap.lt_size he
  have itl:it<s.heap.objs.size:=by obtain ⟨_,q,_⟩:=h1;exact Heap.lt_size q
  have tup:h''.get? ⇑2=some { cls:=.type "tuple",data:=.seq #[.int i s.toks,u] }:=b2.extBut _ _ (Nat.ne_of_gt elt) a3
  have I1:Inv X pins σ (upd H ⇑2 (.tup [.int (i:Int),x])) { s with heap:=h'',toks:=s.toks+1 }:=by
   refine I.turnedNew (t':=s.toks+1) (ch:=[e,it]) (λc hc=>hf c hc) (λc ob hc q=>?_) (↑4 _) ?_
   ·simp only [List.mem_cons,List.not_mem_nil,or_false,not_or] at hc
    exact b2.extBut _ _ hc.1 (hk c ob hc.1 hc.2 q)
   ·exact ⟨by show 2≤sizeLine;decide,[.int i s.toks,u],.cons ⟨_,rfl⟩ (.cons ru .nil),⟨_,tup,rfl,_,rfl⟩⟩
  refine ⟨.ref ⇑2,_,I1,rfl,⟨_,x,rfl,I.hok.fresh (↑4 _),rfl,λxs' q1=>?_⟩,⟨⟨u,?_⟩,a2.extBut b2.extBut (Ne.symm hne)⟩,λc hc=>?_⟩
  ·rw [I.list_inj q1 hxs];exact hx
  ·exact b1
  ·have:c≠s.heap.objs.size:=by
    simp only [List.mem_cons,List.not_mem_nil,or_false] at hc
    rcases hc with rfl | rfl
    ·exact Nat.ne_of_lt elt
    ·exact Nat.ne_of_lt itl
   rw [zaC this];exact (hf c hc).1
 done:=by
  intro X hP hw hK hc i pins s σ H E I hf st hg
  subst hP hw hK
  obtain ⟨xs,hxs,hend⟩:=hg
  obtain ⟨itx,rx,px,hzx⟩:=I.list hxs
  obtain ⟨⟨old,he⟩,h1⟩:=st
  have lx:=rx.length
  refine wpAny_pyNext_enum_end (I.ok.hd hc) he h1 px.isList (by simp;omega) λh' hk=>⟨rfl,?_⟩
  refine I.turnedL (t':=s.toks) (ch:=[e,it]) (λc hc=>hf c hc) (λc ob hc q=>?_)
  simp only [List.mem_cons,List.not_mem_nil,or_false,not_or] at hc
  exact hk c ob hc.2 q
 self:=λ_ _ _ _ _ st h=>by obtain ⟨⟨old,he⟩,_⟩:=st;exact wpAny_pyIter_enum he h
section
variable {X:Cx} {K:W.Frag}
def zuf (K:W.Frag) (ta:TA):TI:=λσ H R=>ta σ H λvs H1=>∃ a,vs=[.ref a]∧(∃ xs,SqL K H1 a xs)∧R (Ite K a) H1
theorem zig {a:Expr} {ta:TA} {p pos tp:Pos} {elts:List Expr} {x1:Nat} (hK:X.K=K) (hg:Gl X "enumerate") (hm:X.mg "enumerate"=none) (ha:PA X [a] ta) (hs:starEach [a] X.env=[(false,eval a X.env)]:=by rfl) :
  PI X (.Tuple elts x1 tp) (.Call (.Name "enumerate" p) [a] [] pos) (zuf K ta):=by
 subst hK
 intro pins s σ H R I h
 refine Call_ (zh3 I hg hm boot_enumerate (PyProof.Rows.callWith_type1 ↑257 (by rw [hs];rfl) rfl))
 obtain ⟨l,e,⟨xs,hx⟩,q⟩:=q1
 subst e
 cases r1 with
 | cons r rr =>
  cases rr
  cases r
  obtain ⟨itx,rx,px,hzx⟩:=I1.list hx
  refine call_enumerate_list px.isList λh' he h1 hsz hk=>wpAny_pyIter_enum he ?_
  have hne:(s1.heap.objs.size+1:Nat)≠s1.heap.objs.size:=by omega
  refine ⟨s1.heap.objs.size+1,[s1.heap.objs.size+1,s1.heap.objs.size],_,Ite X.K l,H1,rfl,I1.kept (t':=s1.toks) hk,zoU hne,⟨⟨_,he⟩,h1⟩,λc hc=>?_,q⟩
  have hle:@LE.le Nat _ s1.heap.objs.size c:=by
   simp only [List.mem_cons,List.not_mem_nil,or_false] at hc
   rcases hc with rfl | rfl<;>omega
  exact I1.fpOk hle (I1.hok.fresh hle)
end
def Itv (K:W.Frag) (a:Addr) (n:Nat):It :=
 ⟨λi H=>i<n∧∃ xs x,SqL K H a xs∧xs.length=n∧xs[n-1-i]?=some x,λi H x H'=>H'=H∧∀ xs,SqL K H a xs->xs[n-1-i]?=some x,λi _=>i=n⟩
theorem zpS {P:Program} {w:World} {K:W.Frag} {tg:Expr} (a it:Addr) (n:Nat):Turn P w K tg (Itv K a n) [it] it (λi h=>h.IsRevIter it a ((n:Int)-1-(i:Int))) where
 mem:=by simp
 obj:=λi h st b hb=>by
  have e:b=it:=by simpa using hb
  subst e
  obtain ⟨o,e,c,d⟩:=st
  exact ⟨o,e,λv z=>by rw [d] at z;cases z⟩
 keep:=λi h h' st k=>st.at λo e=>k it ↥9 o e
 item:=by
  intro X hP hw hK hc i pins s σ H E I hf st hg
  subst hP hw hK
  obtain ⟨hi,xs,x,hq,hn,hx⟩:=hg
  obtain ⟨its,rv,p,hz⟩:=I.list hq
  obtain ⟨u,hu,ru⟩:=rv.get hx
  obtain ⟨f0,f1,f2,f3,f4,f5⟩:=hf it ↥9
  have e1:(n:Int)-1-(i:Int)=((n-1-i:Nat):Int):=by omega
  have e2:((n-1-i:Nat):Int)-1=(n:Int)-1-((i+1:Nat):Int):=by omega
  rw [e1] at st
  refine wpAny_pyNext_rev_item st p.isList (x:=u) (by simpa using hu) λh' st' sb=>?_
  rw [e2] at st'
  have I1:Inv X pins σ H { s with heap:=h' }:=I.turned (t':=s.toks) (λb o hb e=>(sb.2 b hb).trans e) f0 f1 f3 f4 f5
  obtain ⟨o,e,c,d⟩:=id st'
  exact ⟨u,rfl,zri (s:= {s with heap:=h'}) e c d ↥1 ⟨x,H,I1,ru,⟨rfl,λys hy=>by rw [I.list_inj hy hq];exact hx⟩,st',λb hb=>(hf b hb).1⟩⟩
 done:=by
  intro X hP hw hK hc i pins s σ H E I hf st hg
  subst hP hw hK
  have hg:i=n:=hg
  subst hg
  obtain ⟨f0,f1,f2,f3,f4,f5⟩:=hf it ↥9
  have e1:(i:Int)-1-(i:Int)=-1:=by omega
  rw [e1] at st
  exact wpAny_pyNext_rev_end (I.ok.hd hc) st λh' eb=>⟨rfl,I.turned (t':=s.toks) (λb o hb e=>eb b o hb e) f0 f1 f3 f4 f5⟩
 self:=λ_ _ _ _ _ st h=>wpAny_pyIter_revIter st h
section
variable {X:Cx} {K:W.Frag}
def zwk (K:W.Frag) (ta:TA):TI:=λσ H R=>ta σ H λvs H1=>∃ a xs,vs=[.ref a]∧SqL K H1 a xs∧R (Itv K a xs.length) H1
theorem zqw {a tg:Expr} {ta:TA} {p pos:Pos} (hK:X.K=K) (hg:Gl X "reversed") (hm:X.mg "reversed"=none) (ha:PA X [a] ta) (hs:starEach [a] X.env=[(false,eval a X.env)]:=by rfl) :
  PI X tg (.Call (.Name "reversed" p) [a] [] pos) (zwk K ta):=by
 subst hK
 intro pins s σ H R I h
 refine Call_ (zh3 I hg hm boot_reversed (PyProof.Rows.callWith_type1 ↑257 (by rw [hs];rfl) rfl))
 obtain ⟨l,xs,e,hx,q⟩:=q1
 subst e
 cases r1 with
 | cons r rr =>
  cases rr
  cases r
  obtain ⟨itx,rx,px,hzx⟩:=I1.list hx
  have hl:=rx.length
  refine call_reversed_list px.isList ?_
  have ho:=Heap.get?_push_size s1.heap (o:=revObj l ((itx.toArray.size:Int)-1)) rfl
  have st:(s1.heap.push (revObj l ((itx.toArray.size:Int)-1))).IsRevIter s1.heap.objs.size l ((xs.length:Int)-1-((0:Nat):Int)):=⟨_,ho,rfl,by rw [List.size_toArray,← hl];simp [revObj]⟩
  refine wpAny_pyIter_revIter st ?_
  refine ⟨s1.heap.objs.size,[s1.heap.objs.size],_,Itv X.K l xs.length,H1,rfl,I1.kept (t':=s1.toks) (λb o e=>Heap.get?_push_of_some _ e),zpS l s1.heap.objs.size xs.length,st,λc hc=>?_,q⟩
  have hle:@LE.le Nat _ s1.heap.objs.size c:=by
   simp only [List.mem_cons,List.not_mem_nil,or_false] at hc
   rw [hc];exact ↑4 _
  exact I1.fpOk hle (I1.hok.fresh hle)
theorem ziC (hK:X.K=K) (hc:X.calm=true):zga X (.builtin "any") (λxs H Q=>∃(a:Addr) (ns:Ji),xs=[.ref a]∧SqL K H a ↑53∧Q (.bl (ns.any (· !=0))) H):=by
 subst hK
 intro pins s σ H xs us Q I r h
 obtain ⟨a,bs,rfl,hq,q⟩:=h
 obtain ⟨u,rfl,rx⟩:=zm4 r
 cases rx
 obtain ⟨its,rv,p,hz⟩:=I.list hq
 have hl:=rv.length
 rw [List.length_map] at hl
 have alt:a<s.heap.objs.size:=by obtain ⟨o,e,_⟩:=p.isList;exact Heap.lt_size e
 have hl1:((s.heap.push {cls:= .type "list_iterator",data:= .fields #[.ref a,.int 0 0]})).IsList a its.toArray:=Heap.IsList.push p.isList _
 refine call_any_walk (wpAny_pyIter_list p.isList ?_)
 refine ⟨⇑2,[s.heap.objs.size,a],[s.heap.objs.size],its.toArray.size,_,_,λi=>(bs[i]?).getD 0 != 0,rfl,Walks.list (A:=X.A.in1) (I.ok.hd hc) ⇑2 a (Nat.ne_of_lt alt) its.toArray,⟨⟨_,Heap.get?_push_size _ rfl,rfl,rfl⟩,hl1⟩,λi v s' Q' E' hv hQ'=>?_,λh' tk hk=>?_⟩
 ·have hv':its[i]?=some v:=by simpa using hv
  have hi:i<its.length:=(List.getElem?_eq_some_iff.mp hv').1
  obtain ⟨u,hu,ru⟩:=rv.get (i:=i) (x:=.int (bs[i]' ⇑0)) (by rw [List.getElem?_map,List.getElem?_eq_getElem ⇑0];rfl)
  rw [hv'] at hu
  cases hu
  obtain ⟨t,rfl⟩:=ru
  have e:(bs[i]?).getD 0=bs[i]' ⇑0:=by rw [List.getElem?_eq_getElem (show i<bs.length by omega)];rfl
  have hQ2:Q' ((bs[i]?).getD 0 != 0) s':=hQ'
  rw [e] at hQ2
  exact PySem.P.truthy_int hQ2
 ·have e:(List.range its.toArray.size).any (λi=>(bs[i]?).getD 0 != 0)=bs.any (· != 0):=by
   rw [List.size_toArray,← hl,Bool.eq_iff_iff,List.any_eq_true,List.any_eq_true]
   constructor
   ·rintro ⟨i,hi,z⟩
    have hi':=List.mem_range.mp hi
    rw [List.getElem?_eq_getElem hi'] at z
    exact ⟨_,List.getElem_mem hi',z⟩
   ·rintro ⟨x,hx,z⟩
    obtain ⟨i,hi,rfl⟩:=List.getElem_of_mem hx
    exact ⟨i,List.mem_range.mpr hi,by rw [List.getElem?_eq_getElem hi];exact z⟩
  rw [e]
  exact ⟨.bl _,H,I.kept (h':=h') (t':=tk) λb o e=>hk b o (by simp only [List.mem_singleton];exact Nat.ne_of_lt ↑119) (Heap.get?_push_of_some _ e),rfl,q⟩
end
section
variable {Γ:Ctx} {m:Bool} {K:W.Frag} {γ:Type}
def zfH {α:Type} (xs:List α):List (Int×α):=(zbz 0 xs.length).zip xs
theorem ziH {α:Type} {xs:List α}:(zfH xs).length=xs.length:=by simp [zfH,List.length_zip,za4]
theorem zdU {α:Type} {xs:List α} {i:Nat} {p:Int×α} (h:(zfH xs)[i]?=some p):i<xs.length∧p.1=i∧xs[i]?=some p.2:=by
 obtain ⟨h1,h2⟩:=zbV h
 obtain ⟨h3,h4⟩:=zby h1
 exact ⟨h3,by rw [h4];omega,h2⟩
theorem ziD {tl:TE} {j1 j2:Nat} {xs:List γ} (f:γ->Ds) (h:Ev Γ tl m (dQ K ↑29)) :
  Iv Γ (zuf K (tCons tl tNil)) (zr9 K 2 (zhw (zdV j1) (zhw (zdV j2) zsr))) [j1,j2] (zfH xs) (λx=>[dI x.1,f x.2]) m:=λF0 Hb F H σ own R a k =>
 h F0 Hb F H σ own _ a λu F1 H1 g1 ⟨p,vs,e1,e2,e3⟩=>by
  have e2':SqL K F1 p vs:=zbn.seq e2
  have le:=Paired.length e3
  rw [List.length_map] at le
  refine ⟨p,by rw [e1],⟨vs,g1.fh.seq e2'⟩,k _ F1 H1 g1 λH hs=>⟨⟨vs,hs.seq e2',by rw [le,ziH];exact ↑4 _⟩,λi x ex=>?_⟩⟩
  obtain ⟨hi,x1,x2⟩:=zdU ex
  obtain ⟨v,ev,qv⟩:=zbt e3 (show (↑29)[i]?=some (f x.2) by rw [List.getElem?_map,x2];rfl)
  refine ⟨⟨vs,v,hs.seq e2',ev⟩,λz H' y=>?_⟩
  obtain ⟨r,x',rfl,hr,rfl,hxy⟩:=y
  have hx:=hxy vs (hs.seq e2')
  rw [ev] at hx
  cases hx
  exact ⟨(Grow.refl hs).newH hr,λσ Q k=>⟨r,_,rfl,.inl (.inl zaO),rfl,_,_,rfl,_,_,rfl,rfl,k [.int i,v] (.cons (by show V.int _=V.int _;rw [x1]) (.cons qv .nil))⟩⟩
theorem zqS {tl:TE} {j:Nat} {xs:List γ} (f:γ->Ds) (h:Ev Γ tl m (dQ K ↑29)):Iv Γ (zwk K (tCons tl tNil)) (zdV j) [j] xs.reverse (λx=>[f x]) m:=λF0 Hb F H σ own R a k =>
 h F0 Hb F H σ own _ a λu F1 H1 g1 ⟨p,vs,e1,e2,e3⟩=>by
  have e2':SqL K F1 p vs:=zbn.seq e2
  have le:=Paired.length e3
  rw [List.length_map] at le
  refine ⟨p,vs,by rw [e1],g1.fh.seq e2',k _ F1 H1 g1 λH hs=>⟨by show xs.reverse.length=vs.length;rw [List.length_reverse,le],λi x ex=>?_⟩⟩
  have hi:i<xs.length:=by simpa using (List.getElem?_eq_some_iff.mp ex).1
  rw [List.getElem?_reverse hi] at ex
  obtain ⟨v,ev,qv⟩:=zbt e3 (show (↑29)[xs.length-1-i]?=some (f x) by rw [List.getElem?_map,ex];rfl)
  rw [← le] at ev
  refine ⟨⟨by rw [le];exact hi,vs,v,hs.seq e2',rfl,ev⟩,λw H' y=>?_⟩
  obtain ⟨rfl,y⟩:=y
  have:=y vs (hs.seq e2')
  rw [ev] at this
  cases this
  exact ⟨Grow.refl hs,λσ Q k=>k [v] (.cons qv .nil)⟩
theorem znJ {xs:Ji} {t:TE} (h1:Ev Γ t false (dQ K (xs.map dI))):Ev Γ (tCB (λxs H Q=>∃(a:Addr) (ns:Ji),xs=[.ref a]∧SqL K H a ↑53∧Q (.bl (ns.any (· !=0))) H) (tCons t tNil)) m (dB (xs.any (· != 0))):=λF0 Hb F H σ own Q a k =>
 h1 F0 Hb F H σ own _ a λu F1 H1 g1 ⟨p,vs,e1,e2,e3⟩=>⟨p,xs,by rw [e1],by rw [←zge e3];exact g1.fh.seq e2,k _ F1 H1 g1 rfl⟩
end
theorem Ev.any {Γ:Ctx} {t:TE} {m n:Bool} {v:V} (h:Ev Γ t m (dV v)):Ev Γ t n (dV v):=λF0 Hb F H σ own Q a k=>h F0 Hb F H σ own Q a λu F' H' g q=>k u F' H' g q
theorem znp {α:Type} {R R':Hp} {g:α->V} {vs:List V} {xs:List α} (h:Paired (λv (d:Ds)=>d.pr R v) vs (xs.map λx=>dV (g x))):Paired (λv (d:Ds)=>d.pr R' v) vs (xs.map λx=>dV (g x)):=by
 rw [zge h]
 clear h
 induction xs with
 | nil=>exact .nil
 | cons x xs ih=>exact .cons rfl ih
theorem EvO.anyV {Γ:Ctx} {t:TE} {m n:Bool} {α:Type} {g:α->V} {xs:List α} (h:EvO Γ t m (xs.map λx=>dV (g x))):EvO Γ t n (xs.map λx=>dV (g x)):=λF0 Hb F H σ own Q a k=>h F0 Hb F H σ own Q a λp vs F' H' g h1 h2 h3 q=>k p vs F' H' g h1 h2 h3 (znp q)
theorem EvO.anyI {Γ:Ctx} {t:TE} {m n:Bool} {xs:Ji} (h:EvO Γ t m (xs.map dI)):EvO Γ t n (xs.map dI):=EvO.anyV h
section
variable {X:Cx}
def zcK (i j:Int):Prop:=(-(2^64)<i∧i<2^64)∨(-(2^64)<j∧j<2^64)∨(i.natAbs.log2<60000000∧j.natAbs.log2<60000000)
theorem znO {a b:Int} (ha:Builtin.Int.intBits a≤60000000) (hb:Builtin.Int.intBits b≤60000000):IntMulOk a b:=by
 have h:Builtin.Int.intTooBig (Builtin.Int.intBits a+Builtin.Int.intBits b)=false:=by
  unfold Builtin.Int.intTooBig bitsLine
  exact decide_eq_false ⇑0
 unfold IntMulOk
 rw [h]
 simp
theorem zbh:OpR X (binaryOp .Mult) (rI zcK λi j=>.int (i*j)):=opI λ_ _ _ _ _ _ _ hc q=>mul_int q (by
 rcases hc with h | h | h
 ·exact .of_left (intBits_le_64 h.1 h.2)
 ·exact .of_right (intBits_le_64 h.1 h.2)
 ·exact znO (zov h.1) (zov h.2))
end
def ixD {α:Type} [Inhabited α] (xs:List α) (i:Int):α:=(atI xs i).getD default
def InB (n:Nat) (i:Int):Prop:=-(n:Int)≤i∧i<n
theorem zkZ {n:Nat} {i:Int} (h:InB n i):∃ j,ixN n i=some j∧j<n∧(0≤i->j=i.toNat):=by
 unfold InB at h
 unfold ixN
 by_cases h0:0≤i
 ·rw [if_pos h0,if_pos h.2];exact ⟨_,rfl,by omega,λ_=>rfl⟩
 ·rw [if_neg h0,if_pos h.1];exact ⟨_,rfl,by omega,λz=>absurd z h0⟩
theorem zoI {α:Type} [Inhabited α] {xs:List α} {i:Int} (h:InB xs.length i):atI xs i=some (ixD xs i):=by
 obtain ⟨j,e,hj,_⟩:=zkZ h
 unfold ixD atI
 rw [e]
 show xs[j]?=some (xs[j]?.getD default)
 rw [List.getElem?_eq_getElem hj];rfl
theorem zbY {α:Type} [Inhabited α] {xs:List α} {n:Nat} {x:α} (h:xs[n]?=some x):ixD xs (n:Int)=x:=by
 have hn:n<xs.length:=(↑235).1
 unfold ixD atI ixN
 rw [if_pos ⇑0,if_pos ⇑0]
 show (xs[(n:Int).toNat]?).getD default=x
 rw [Int.toNat_natCast,h];rfl
theorem zbK {α:Type} [Inhabited α] {xs:List α} {i:Int} (h:InB xs.length i):ixD xs i∈xs:=by
 have:=zoI h
 unfold atI at this
 obtain ⟨j,e,hj,_⟩:=zkZ h
 rw [e] at this
 exact List.mem_of_getElem? this
def zcW {α:Type} (xs:List α) (i:Int) (x:α):List α:=match ixN xs.length i with
 | some n=>xs.set n x
 | none=>xs
theorem zex {α:Type} {xs:List α} {i:Int} {x:α}:(zcW xs i x).length=xs.length:=by
 unfold zcW;split<;>simp
def zcI {α:Type} (n:Int) (xs:List α):List α:=(List.replicate n.toNat xs).flatten
def dOpt {α:Type} (f:α->Ds):Option α->Ds
 | none=>dN
 | some x=>f x
def NN {α:Type} (f:α->Ds):Prop:=∀ x H v,(f x).pr H v->v≠.non
theorem NN.tup {α:Type} {f:α->List Ds}:NN (λx=>dT (f x)):=λ_ _ _ ⟨_,_,e,_⟩=>by rw [e];simp
theorem NN.obj {α:Type} {C:Addr} {f:α->List (Str×Ds)}:NN (λx=>dO C (f x)):=λ_ _ _ ⟨_,_,_,e,_⟩=>by rw [e];simp
theorem NN.int:NN dI:=λ_ _ _ e=>by rw [show _=_ from e];simp
section
variable {E:XS} {Γ:Ctx} {m:Bool} {K:W.Frag} {α β γ:Type} {f:α->Ds} {t ta tb te:TE} {u r:TS} {o:Oc} {xs ys:List α} {i:Nat}
theorem zbe [Inhabited α] {j:Int} (h1:Ev Γ ta m (dQ K ↑29)) (h2:Ev Γ tb false (dI j)) (h:InB xs.length j):Ev Γ (tOp (zss K) ta tb) m (f (ixD xs j)):=zvp h1 h2 (zoA (zoI h))
theorem zaV {n:Bool} (h1:Ev Γ t false (dQ K ↑29)):Ev Γ (tCB ↑215 (tCons t tNil)) n (dI (xs.length:Nat)):=(ztm h1).conv (by rw [List.length_map])
theorem zdj {tl th:TO} {lo hi:Option Int} (h1:Ev Γ t m (dQ K ↑29)) (h2:EvP Γ tl lo) (h3:EvP Γ th hi):EvO Γ (tSl (zur K) t tl th) m ((zbI xs lo hi).map f):=(zt9 h1 h2 h3).conv zqf.symm
theorem zdG (h1:Ev Γ ta m (dL ↑29)) (h2:Ev Γ tb m (dL (ys.map f))) (hz:xs.length+ys.length≤sizeLine):EvO Γ (tOp zvC ta tb) m ((xs++ys).map f):=(ztW h1 h2 (by rw [List.length_map,List.length_map];exact hz)).conv (List.map_append ..).symm
theorem zhP {n:Nat}:(List.replicate n ↑29).flatten=((List.replicate n xs).flatten).map f:=by
 induction n with
 | zero=>rfl
 | succ n ih=>rw [List.replicate_succ,List.replicate_succ,List.flatten_cons,List.flatten_cons,List.map_append,ih]
theorem zfo {n:Int} (h1:Ev Γ ta m (dL ↑29)) (h2:Ev Γ tb false (dI n)) (hn:-(2^63)≤n∧n<2^63) (hz:xs.length*n.toNat≤sizeLine):EvO Γ (tOp zvl ta tb) m ((zcI n xs).map f):=(zs6 h1 h2 hn (by rw [List.length_map];exact hz)).conv zhP
theorem zoH {x:Option α} {n:Bool} (h1:Ev Γ ta false (dOpt f x)) (h2:Ev Γ tb false dN) (hf:NN f):Ev Γ (tOp (λx y H Q=>y= .non∧Q (.bl (decide (x= .non))) H) ta tb) n (dB x.isNone):=ztu h1 h2 λH v q=>by
 cases x with
 | none=>rw [show v=V.non from q];rfl
 | some x=>exact decide_eq_false (hf x H v q)
theorem zhm {x:Option α} {n:Bool} (h1:Ev Γ ta false (dOpt f x)) (h2:Ev Γ tb false dN) (hf:NN f):Ev Γ (tOp (λx y H Q=>y= .non∧Q (.bl (!decide (x= .non))) H) ta tb) n (dB x.isSome):=(zr0 (b:=x.isNone) h1 h2 λH v q=>by
 cases x with
 | none=>rw [show v=V.non from q];rfl
 | some x=>exact decide_eq_false (hf x H v q)).conv (by cases x<;>rfl)
theorem zeX [Inhabited α] {j:Int} (e:Γ[i]?=some (.ow m ↑29)) (h2:Ev Γ tb false (dI j)) (h:InB xs.length j):Ev Γ (tOp (zss K) (zjm i) tb) m (f (ixD xs j)):=zpm (n:=m) e h2 (zoA (zoI h))
theorem zgW {n:Bool} (e:Γ[i]?=some (.ow m ↑29)):Ev Γ (tCB ↑215 (tCons (zjm i) tNil)) n (dI (xs.length:Nat)):=(znY (n:=n) e).conv (by rw [List.length_map])
theorem zcj {x:α} (e:Γ[i]?=some (.ow m ↑29)) (h:Ev Γ te m (f x)) (hz:xs.length<sizeLine) (k:Run E (Γ.set i (.ow m ((xs++[x]).map f))) u o):Run E Γ (tSeq (zpl (tBM K "list" zjE (zjm i) (tCons te tNil))) u) o :=
 zmG e h (by rw [List.length_map];exact hz) (by rw [List.map_append] at k;exact k)
theorem zfU {tj:TE} {x:α} {j:Int} (e:Γ[i]?=some (.ow m ↑29)) (h:Ev Γ te m (f x)) (hj:Ev Γ tj false (dI j)) (hb:InB xs.length j) (k:Run E (Γ.set i (.ow m ((zcW xs j x).map f))) u o):Run E Γ (tSeq (zk2 te (zsP (zjm i) tj zox)) u) o:=by
 obtain ⟨n,en,hn,_⟩:=zkZ hb
 refine zpa (n:=n) e h hj (by rw [List.length_map];exact en) ?_
 unfold zcW at k
 rw [en] at k
 rw [← List.map_set]
 exact k
theorem zjj {tj:TE} {x:α} {j:Int} (fo:β->Oc) {kk:List α->β} (e:Γ[i]?=some (.ow m ↑29)) (h:Ev Γ te m (f x)) (hj:Ev Γ tj false (dI j)) (hb:InB xs.length j) (k:∀ y,y=zcW xs j x->Run E (Γ.set i (.ow m (y.map f))) u (fo (kk y))):Run E Γ (tSeq (zk2 te (zsP (zjm i) tj zox)) u) (fo (Let (zcW xs j x) kk)) :=
 zfU e h hj hb (k _ rfl)
theorem zlm {d1 d2:Ds} {i j:Nat} (h:Ev Γ te m (dT [d1,d2])) (k:Run E ((Γ.set i (.va m d1)).set j (.va m d2)) u o):Run E Γ (tSeq (zk2 te (zr9 K 2 (zhw (zdV i) (zhw (zdV j) zsr)))) u) o:=λF0 Hb F H σ own D a q =>
 h F0 Hb F H σ own _ a λv F' H' g ⟨p,vs,e1,e2,e3⟩=>by
  cases e3 with | cons q1 t=>cases t with | cons q2 t=>cases t;exact ⟨p,_,e1,.inl (.inl ((zbn.trans g.fh) _ _ e2)),rfl,_,_,rfl,_,_,rfl,rfl,k F0 Hb F' H' _ own D (((↑38).set i q1).set j q2) q⟩
theorem zcA {x:α} (G:α->Ctx) (fo:β->Oc) {kk:α->β} (k:∀ y,y=x->Run E (G y) u (fo (kk y))):Run E (G x) u (fo (Let x kk)):=k x rfl
def zr8 (o:Oc):Prop:=(∃ m d,o=.rt m d)∨(∃ m ds,o=.rl m ds)∨∃ C Γ,o=.ex C Γ
theorem zr8.meets (h:zr8 o) {F0 Hb:Hp} {D D':Ends} (e:D.rt=D'.rt) (q:zhu E F0 Hb D o):zhu E F0 Hb D' o:=by
 rcases h with ⟨m,d,rfl⟩ | ⟨m,ds,rfl⟩ | ⟨C,Γ',rfl⟩
 ·exact λv F H g p=>e ▸ q v F H g p
 ·exact λp vs F H g h1 h2 h3 h4=>e ▸ q p vs F H g h1 h2 h3 h4
 ·exact q
def LetR {S:Type} (x:S ⊕ β) (k:S->α) (w:β->α):α:=match x with
 | .inl s=>k s
 | .inr b=>w b
theorem zl0 {f:Str} {d:Ds}:∀ {fs:List (Str×Ds)} {ns:List Str},fs.map Prod.fst=ns->ns.contains f=false->putD f d fs=fs++[(f,d)]
 | [],_,_,_=>rfl
 | (g,e) :: r,_,rfl,h=>by
  have h':f≠g∧f ∉ r.map Prod.fst:=by simpa using h
  unfold putD
  rw [if_neg (Ne.symm h'.1),zl0 rfl (by simpa using h'.2)]
  rfl
theorem zes {C p dx:Addr} {fs:List (Str×Ds)} {tv:TE} {d:Ds} {f:Str} (e:Γ[i]?=some (.ob m C p dx fs)) (h:Ev Γ tv m d) (c:Cls K C) (nf:NoAttr K C f) (ns:List Str) (hns:fs.map Prod.fst=ns) (hn:ns.contains f=false) (hz:ns.length<1000) (k:Run E (Γ.set i (.ob m C p dx (fs++[(f,d)]))) u o) :
  Run E Γ (tSeq (zu5 K (zjm i) tv f) u) o:=zrs e h c nf (by rw [← List.length_map (f:=Prod.fst),hns];exact hz) (by rw [zl0 hns hn];exact k)
theorem zjf {S:Type} (f:S->γ->S):∀ (xs:List γ) (s:S),loopR (β:=Empty) (λs x=>.inl (f s x)) s xs=.inl (xs.foldl f s)
 | [],_=>rfl
 | x :: xs,s=>zjf f xs (f s x)
theorem zkT {S:Type} {f:S->γ->S} {I:Nat->S->Prop}:∀ {xs:List γ} {s:S} {n:Nat},I n s->(∀ (i:Nat) (x:γ) (s:S),xs[i]?=some x->I (n+i) s->I (n+i+1) (f s x))->I (n+xs.length) (xs.foldl f s)
 | [],s,n,h,_=>h
 | x :: xs,s,n,h,k=>by
  have h1:=k 0 x s rfl h
  have:=zkT (xs:=xs) (s:=f s x) (n:=n+1) h1 λi y s' e q=>by
   have:=k (i+1) y s' ↑141 (by rw [show n+(i+1)=n+1+i by omega];exact q)
   rw [show n+1+i+1=n+(i+1)+1 by omega];exact this
  rw [List.length_cons,show n+(xs.length+1)=n+1+xs.length by omega]
  exact this
theorem zbp {S:Type} {wi:TI} {g:TG} {tb:TS} {js:List Nat} {xs:List γ} {bds:γ->List Ds} {mi:Bool} {s0:S} (G:S->Ctx) (fo:β->Oc) {kk:S->β} (f:S->γ->S) (I:Nat->S->Prop) (it:Iv Γ wi g js xs bds mi) (w:Wk Γ (G s0)) (h0:I 0 s0)
  (body:∀ (i:Nat) (x:γ) (s:S),xs[i]?=some x->I i s->I (i+1) (f s x)∧Run E (zm9 js (bds x) mi (G s)) tb (.nx (G (f s x)))) (k:∀ s,s=xs.foldl f s0->I xs.length s->Run E (G s) u (fo (kk s))):Run E Γ (tSeq (zsp wi g tb) u) (fo (Let (xs.foldl f s0) kk)):=by
 refine zoe (Δ:=G (xs.foldl f s0)) ?_ (k _ rfl (by simpa using zkT (n:=0) (I:=I) h0 λi x s e q=>by rw [Nat.zero_add] at q ⊢;exact (body i x s e q).1))
 have:=zng (β:=Empty) G (λz=>z.elim) (λs x=>.inl (f s x)) I it w h0 (λb=>b.elim) λi x s e q=>⟨λs' z=>by cases z;exact (body i x s e q).1,(body i x s e q).2⟩
 rw [zjf] at this
 exact this
theorem zkx {S:Type} {f:S->γ->S ⊕ β} {I:Nat->S->Prop}:∀ {xs:List γ} {s s':S} {n:Nat},I n s->(∀ (i:Nat) (x:γ) (s:S),xs[i]?=some x->I (n+i) s->∀ s',f s x=.inl s'->I (n+i+1) s')->loopR f s xs=.inl s'->I (n+xs.length) s'
 | [],s,s',n,h,_,e=>by cases e;exact h
 | x :: xs,s,s',n,h,k,e=>by
  unfold loopR at e
  cases q:f s x with
  | inr b=>rw [q] at e;cases e
  | inl s1 =>
   rw [q] at e
   have h1:=k 0 x s rfl h s1 q
   have:=zkx (xs:=xs) (s:=s1) (n:=n+1) h1 (λi y s' e q=>by
    have:=k (i+1) y s' ↑141 (by rw [show n+(i+1)=n+1+i by omega];exact q)
    rw [show n+1+i+1=n+(i+1)+1 by omega];exact this) e
   rw [List.length_cons,show n+(xs.length+1)=n+1+xs.length by omega]
   exact this
theorem zc9 {S:Type} {wi:TI} {g:TG} {tb:TS} {js:List Nat} {xs:List γ} {bds:γ->List Ds} {mi:Bool} {s0:S} (G:S->Ctx) (fo:α->Oc) (wr:β->α) {kk:S->α} (f:S->γ->S ⊕ β) (I:Nat->S->Prop) (hres:∀ b,zr8 (fo (wr b))) (it:Iv Γ wi g js xs bds mi) (w:Wk Γ (G s0)) (h0:I 0 s0)
  (body:∀ (i:Nat) (x:γ) (s:S),xs[i]?=some x->I i s->(∀ s',f s x=.inl s'->I (i+1) s')∧Run E (zm9 js (bds x) mi (G s)) tb (zeg G (λb=>fo (wr b)) (f s x))) (k:∀ s,loopR f s0 xs=.inl s->I xs.length s->Run E (G s) u (fo (kk s))):Run E Γ (tSeq (zsp wi g tb) u) (fo (LetR (loopR f s0 xs) kk wr)):=by
 have h:=zng G (λb=>fo (wr b)) f I it w h0 (λb F0 Hb D D' e q=>(hres b).meets e q) body
 cases e:loopR f s0 xs with
 | inl s =>
  rw [e] at h
  exact zoe h (k s e (by simpa using zkx (n:=0) h0 (λi x s e q=>by rw [Nat.zero_add] at q ⊢;exact (body i x s e q).1) e))
 | inr b =>
  rw [e] at h
  exact λF0 Hb F H σ own D a q=>h F0 Hb F H σ own _ a ((hres b).meets (D:=D) rfl (show zhu E F0 Hb D (fo (wr b)) from q))
end
end L2
namespace L2
open PySem PySem.Spec PyProof.Rows PySem.Builtin PySem.Builtin.Getset_descriptor
structure XCls (K:W.Frag) (C:Addr):Prop where
 ga:W.findIn K (.ref C) "__getattribute__"=some (some (.builtin "BaseException.__getattribute__"))
 gn:W.findIn K (.ref C) "__getattr__"=some none
 cl:W.findIn K (.ref C) "__class__"=some (some ↑196)
 ob:W.mroIn K C (.type "object")=some true
 be:W.mroIn K C (.type "BaseException")=some true
 gt:W.specialIn K ↑196 "__get__"=some (some (.builtin "getset_descriptor.__get__"))
 tk:W.takesIn K ↑196=some true
def XAt (h:Heap) (a C:Addr):Prop:=∃ o vs,h.get? a=some o∧o.cls=.ref C∧o.data=.fields vs
section
variable {prog:Program} {w:World} {A:Around} {E:Value->Shared->Prop} {K:W.Frag} {C a:Addr} {h:Heap} {g:Array GenState} {d:Drawn} {t:Nat} {os:OsState}
theorem XAt.ty {M:Model} (x:XAt h a C):W.Looks M h (typeOf (.ref a)) (.ref C):=by
 obtain ⟨o,vs,hx,hc,hd⟩:=x
 exact hc ▸ (W.Looks.ld hx).andThen .now
theorem zlv {tp:Value} {R:Result->Shared->Prop} (X:K.In h) (c:XCls K C) (x:XAt h a C) (hr:R (.ok (.ret (.ref C))) ⟨h,g,d,t,os⟩) :
  codeAny ↑37 A (.call (.builtin "getset_descriptor.__get__") ⟨[.builtin "object.__class__",.ref a,tp],[]⟩) R ⟨h,g,d,t,os⟩:=by
 have L0:=x.ty (M:=model prog w)
 have L1:=W.looks_mroIn (M:=model prog w) X c.ob
 refine codeAny_call_builtin W.KF.slot_gs.plain W.KF.entry_gs (W.KF.slot_gs.check _ _ _ _ _ _ _ _ W.KF.type_class (W.KF.args_gs _ _ _) ?_)
 unfold Builtin.«getset_descriptor.__get__»
 unfold descrGet
 rw [W.dga_obj]
 refine wpAny_bind (wpAny_pure ?_)
 unfold descrGetter
 unfold descrCheckInstance descrNameAndClass
 unfold isInstance
 simp only [W.KF.owner_class]
 repeat (any_goals (first | assumption | with_reducible refine wpAny_bind (L0.at ?_) | with_reducible refine wpAny_bind (L1.at ?_) | with_reducible refine L0.at ?_ | with_reducible refine L1.at ?_ | wp_step))
 refine ⟨Code.quiet_builtin _ ↑6,codeAny_builtin (W.KF.entry_class) ?_⟩
 unfold Builtin.«object.__class__»
 unfold shownTypeOf
 repeat (any_goals (first | assumption | with_reducible refine wpAny_bind (L0.at ?_) | with_reducible refine L0.at ?_ | wp_step))
theorem zoE {tk:Tok} {Q:Fin->Shared->Prop} (X:K.In h) (c:XCls K C) (x:XAt h a C) (hq:Q (.done (.ret (.ref C))) ⟨h,g,d,t,os⟩) :
  wpAny ↑37 A (Builtin.«object.__getattribute__» ⟨[.ref a,.str "__class__" tk],[]⟩) Q E ⟨h,g,d,t,os⟩:=by
 have L0:=x.ty (M:=model prog w)
 have L1:=W.looks_findIn (M:=model prog w) X c.cl
 have L2:=W.looks_specialIn (M:=model prog w) X c.gt
 have L3:=W.looks_takesIn (M:=model prog w) X c.tk
 unfold Builtin.«object.__getattribute__»
 repeat (any_goals (first | assumption | with_reducible refine wpAny_bind (L0.at ?_) | with_reducible refine wpAny_bind (L1.at ?_) | with_reducible refine wpAny_bind (L2.at ?_) | with_reducible refine wpAny_bind (L3.at ?_) | wp_step))
 refine zlv X c x ?_
 repeat (any_goals (first | assumption | wp_step))
theorem znw {nameV:Value} {Q:Unit->Shared->Prop} (X:K.In h) (c:XCls K C) (x:XAt h a C) (hq:Q () ⟨h,g,d,t,os⟩):wpAny ↑37 A (checkBuiltinCall "BaseException.__getattribute__" ⟨[.ref a,nameV],[]⟩) Q E ⟨h,g,d,t,os⟩:=by
 have hk:builtinKind "BaseException.__getattribute__"=some .slot:=by decide +kernel
 have hsplit:splitId "BaseException.__getattribute__"=some ("BaseException","__getattribute__"):=by decide +kernel
 have L0:=x.ty (M:=model prog w)
 have L1:=W.looks_mroIn (M:=model prog w) X c.be
 have LI:W.Looks ↑37 h (isInstance (.ref a) (.type "BaseException")) true:=L0.andThen L1
 have ha:=F.args_bexc_ga (.ref a) nameV
 simp only [checkBuiltinCall,hk,hsplit]
 refine wpAny_bind (LI.at ?_)
 repeat (any_goals (first | assumption | wp_step))
 all_goals (try exact hq)
theorem zsR {tk:Tok} {fill expr:Bool} {Q:Value->Shared->Prop} (X:K.In h) (c:XCls K C) (x:XAt h a C) (hq:Q (.ref C) ⟨h,g,d,t,os⟩) :
  wpAny ↑37 A (getAttrBy (.ref a) (.str "__class__" tk) fill expr) Q E ⟨h,g,d,t,os⟩:=by
 have L0:=x.ty (M:=model prog w)
 have L1:=W.looks_findIn (M:=model prog w) X c.ga
 have L2:=W.looks_findIn (M:=model prog w) X c.gn
 have f3:=(PySem.F.attr_ValueError.ga).bind (.ref a)
 have hx0:(expr&&onTheHeap (Value.builtin "BaseException.__getattribute__"))=false:=by cases expr<;>rfl
 have hx2:(Value.builtin "BaseException.__getattribute__" == Value.builtin "object.__getattribute__")=false:=by decide +kernel
 have hx1:(onTheHeap (Value.ref C)&&Value.builtin "BaseException.__getattribute__" == Value.builtin "object.__getattribute__")=false:=by rw [hx2];rfl
 unfold getAttrBy
 repeat (any_goals (first | assumption | with_reducible refine wpAny_bind (L0.at ?_) | with_reducible refine wpAny_bind (L1.at ?_) | with_reducible refine wpAny_bind (L2.at ?_) | wp_step))
 refine codeAny_call_builtin PySem.F.attr_ValueError.ga.plain F.entry_bexc_ga (znw X c x (zoE X c x ?_))
 repeat (any_goals (first | assumption | wp_step))
theorem zpE {Q:Option Value->Shared->Prop} (X:K.In h) (c:XCls K C) (x:XAt h a C) (hq:Q (some (.ref C)) ⟨h,g,d,t+1,os⟩) :
  wpAny ↑37 A (getAttr? (.ref a) "__class__") Q E ⟨h,g,d,t,os⟩:=by
 unfold getAttr? getAttrBy?
 repeat (any_goals (first | assumption | with_reducible apply zsR X c x | wp_step))
end
theorem cls_at {K:W.Frag} {C:Addr} {T:Value} {r:Bool} (e:W.mroIn K C T=some r):∃ c d cd sl,K.lookup C=some ⟨c,d,.cls cd,sl⟩:=by
 obtain ⟨cd,hc,_⟩:=Option.bind_eq_some_iff.mp e
 unfold W.clsIn at hc
 split at hc
 ·exact ⟨_,_,_,_,by assumption⟩
 ·cases hc
theorem zqk {K:W.Frag} {a C:Addr} (c:XCls K C):W.KitX K (.ref a) (.ref C) (λh=>XAt h a C) where
 ty:=λ_ _ _ x=>x.ty
 it:=λM h X _=>by
  obtain ⟨c',d',cd',sl',ho⟩:=cls_at c.ob
  intro A' Q' E' s' k q
  unfold isType loadHead
  exact wpAny_bind (wpAny_loadPart (k _ _ (X _ _ ho)) (wpAny_pure q))
 ne:=λh tp dd its n sl X htp=>by
  obtain ⟨c',d',cd',sl',ho⟩:=cls_at c.ob
  refine Bool.eq_false_iff.mpr λq=>?_
  have e:C=tp:=Value.ref.inj (beq_iff_eq.mp q)
  subst e
  have z:=(X _ _ ho).symm.trans htp
  cases z
 ca:=λ{prog w A E Q s} X x k=>by
  obtain ⟨h,g,d,t,os⟩:=s
  exact zpE X c x k
def excO (a C:Addr) (fs:List (Str×V)):HO:=.ext λh=>∃ o vs,h.get? a=some o∧o.cls=.ref C∧o.data=.fields vs∧fs=[]
section
variable {X:Cx} {K:W.Frag}
theorem znW (hK:X.K=K):zga X (.builtin "isinstance") (λxs H Q=>∃ a C c b,(xs=[.ref a,c])∧H a=some (excO a C [])∧XCls K C∧(∃u,RelV c u∧(∀u',RelV c u'->u'=u)∧W.kitOne K (.ref C) u=some b)∧Q (.bl b) H):=by
 subst hK
 intro pins s σ H xs us Q I r h
 obtain ⟨a,C,c,b,rfl,ha,hc,⟨u,hu,hu2,hk⟩,q⟩:=h
 obtain ⟨v,w',rfl,rx,ry⟩:=zp0 r
 cases rx
 rw [hu2 w' ry]
 obtain ⟨⟨o,vs,h1,h2,h3,_⟩,_⟩:=(show zen X.prog X.w H s.heap a (excO a C []) from I.hok a _ ha)
 exact W.kia_one (zqk hc) I.kIn ⟨o,vs,h1,h2,h3⟩ hk ↑95 λtk=>⟨.bl b,H,I.tok _,rfl,q⟩
end
end L2
namespace L2
open PySem PySem.Spec PyProof.Rows
section
variable {X:Cx} {pins:List ↥3} {σ:St} {H:Hp} {s:Shared}
theorem Inv.locals {h':Heap} {t':Nat} {m':Str->Option Value} {σ':St} (I:Inv X pins σ H s) (hs:Heap.SameBut X.env.locals s.heap h') (hn':h'.Ns X.env.locals m')
  (hl:∀ (j:Nat) (y:Str) (v:V),X.N[j]?=some y->σ'[j]?=some (some v)->Vis X.env.scope y->∃ u,RelV v u∧zwi X.env h' m' y u) (len:σ'.length=X.N.length):Inv X pins σ' H { s with heap:=h',toks:=t' }:=by
 have lt:∀ b o,X.s₀.heap.get? b=some o->b≠X.env.locals:=λb o e=>Nat.ne_of_lt ↑225
 refine ⟨I.ok,I.os,I.bare,⟨λb o e n hb hx=>(hs.2 b (lt b o e)).trans (I.base.keep b o e n hb hx),λb o e n hb hx=>?_,I.base.free,λb o e hx=>?_,I.base.tups,I.base.frzs,I.base.tbls⟩,⟨m',hn',hl⟩,λy c e=>?_,I.free,I.freeC,λp hp=>?_,λb u e=>?_,len⟩
 ·obtain ⟨sl,q⟩:=I.base.slot b o e n hb hx
  exact ⟨sl,(hs.2 b (lt b o e)).trans q⟩
 ·obtain ⟨o',q⟩:=I.base.there b o e hx
  exact ⟨o',(hs.2 b (lt b o e)).trans q⟩
 ·obtain ⟨w',z⟩:=I.cell y c e
  exact ⟨w',z.sameBut hs (I.cne y c e)⟩
 ·obtain ⟨e,n,ne,nf,d⟩:=I.pin p hp
  exact ⟨(hs.2 p.1 ne).trans e,n,ne,nf,d⟩
 ·refine (I.hok b u e).stay (λc v hc q=>(hs.2 c ?_).trans q) (λ_ q=>q) λ_ _ q=>q
  intro z
  have z':=I.free
  rw [← z] at z'
  rcases hc with hc | hc
  ·rw [hc,e] at z';cases z'
  ·rw [hc] at z';cases z'
abbrev Cx.marked (X:Cx) (e:Addr):Cx:={ X with A:=X.A.mark (some (.ref e)),calm:=false,xe:=λ_ _=>False }
theorem Inv.marked {e:Addr} (I:Inv X pins σ H s):Inv (X.marked e) pins σ H s :=
 ⟨⟨I.ok.mod,I.ok.kind,I.ok.glob,I.ok.blt,I.ok.above,I.ok.inj,I.ok.has,I.ok.cab,(λz=>(nomatch z)),I.ok.frames,I.ok.stk,I.ok.exf,I.ok.bs,I.ok.bsz,I.ok.noex,I.ok.exfs,I.ok.funs,I.ok.frf⟩,I.os,I.bare,I.base,I.loc,I.cell,I.free,I.freeC,I.pin,I.hok,I.len⟩
end
def rIsiB (K:W.Frag):List V->Hp->VK->Prop:=λxs H Q=>rIsi K xs H Q∨∃ a C c b,(xs=[.ref a,c])∧H a=some (excO a C [])∧XCls K C∧(∃u,RelV c u∧(∀u',RelV c u'->u'=u)∧W.kitOne K (.ref C) u=some b)∧Q (.bl b) H
theorem zgP {X:Cx} {K:W.Frag} (hK:X.K=K):zga X (.builtin "isinstance") (rIsiB K):=λpins s σ H xs us Q I r h=>by
 rcases h with h | h
 ·exact zmR hK pins s σ H xs us Q I r h
 ·exact znW hK pins s σ H xs us Q I r h
section
variable {Γ:Ctx} {m:Bool} {K:W.Frag} {ds:List Ds}
theorem zow {v:V} {t:Value} {ta:TE} {T:String} {b:Bool} (ty:∀ H,TyOf K H v t) (h:Ev Γ ta false (dV v)) (hk:W.kitOne K t (.type T)=some b):Ev Γ (tCB (rIsiB K) (tCons ta (tCons (tC (.ty T)) tNil))) m (dB b):=λF0 Hb F H σ own Q a k =>
 h F0 Hb F H σ own _ a λv' F1 H1 g1 q1=>by
  cases q1
  exact .inl ⟨v,t,b,.inl ⟨T,rfl,hk⟩,ty H1,k _ F1 H1 g1 rfl⟩
theorem zoj {ta:TE} {T:String} {b:Bool} (h:Ev Γ ta false (dL ds)) (hk:W.kitOne K (.type "list") (.type T)=some b):Ev Γ (tCB (rIsiB K) (tCons ta (tCons (tC (.ty T)) tNil))) m (dB b):=λF0 Hb F H σ own Q a k =>
 h F0 Hb F H σ own _ a λv' F1 H1 g1 ⟨p,vs,e1,e2,e3⟩=>by
  subst e1
  exact .inl ⟨.ref p,_,b,.inl ⟨T,rfl,hk⟩,.lst (g1.fh _ _ e2),k _ F1 H1 g1 rfl⟩
end
def EvN (Γ:Ctx) (t:TE) (d:Ds):Prop:=∀ (F0 Hb F H:Hp) (σ:St) (own:Nat->Option Addr) (Q:VK),At F0 Hb F H σ own Γ->(∀ v F' H',Grow F H F' H'->d.pr (off F' H) v->Q v H')->t σ H Q
def zv1:Slot->Slot
 | .va _ d=>.va false d
 | _=>.no
def zsx (Γ:Ctx):Ctx:=Γ.map zv1
theorem At.now {F0 Hb F H:Hp} {σ:St} {own:Nat->Option Addr} {Γ:Ctx} (a:At F0 Hb F H σ own Γ):At F H F H σ (λ_=>none) (zsx Γ):=by
 refine ⟨Grow.refl a.fh,λ_ _ _ h=>(nomatch h),λ_ _ h=>(nomatch h),λi s e=>?_,by unfold zsx;rw [List.length_map];exact a.len⟩
 unfold zsx at e
 rw [List.getElem?_map] at e
 cases q:Γ[i]? with
 | none=>rw [q] at e;cases e
 | some r =>
  rw [q] at e
  have e':zv1 r=s:=Option.some.inj e
  subst e'
  have h:=a.sl i r q
  cases r with
  | va m d =>
   obtain ⟨x,h1,h2⟩:=h
   exact ⟨x,h1,d.up zbn h2⟩
  | no=>trivial
  | ow m ds=>trivial
  | ob m C p dx fs=>trivial
  | ol p ds=>trivial
  | tl d=>trivial
theorem zqq {Γ:Ctx} {t:TE} {d:Ds} (h:Ev (zsx Γ) t true d):EvN Γ t d:=λF0 Hb F H σ own Q a k=>h F H F H σ _ Q a.now λv F' H' g q=>k v F' H' g q
theorem At.setTl {F0 Hb F H F' H':Hp} {σ:St} {own:Nat->Option Addr} {Γ:Ctx} (a:At F0 Hb F H σ own Γ) (g:Grow F H F' H') (i:Nat) {d:Ds} {v:V} (h:d.pr (off F' H) v):At F0 Hb F H' (σ.set i (some v)) own (Γ.set i (.tl d)):=by
 have gF:Grow F H F H':=⟨Same.refl _,a.fh.trans g.h,g.h,λ_ _ z=>z⟩
 have a':=a.grow gF
 refine ⟨a'.g,a'.inj,a'.liv,λj s e=>?_,by simp [a.len]⟩
 by_cases z:i=j
 ·subst z
  have hi:i<Γ.length:=by simpa using (↑62).1
  rw [List.getElem?_set_self hi] at e
  cases e
  rw [ze8 (by rw [a.len];exact hi)]
  refine ⟨v,off F' H,rfl,zlG.trans g.fh,λb o q=>?_,λj p q=>?_,h⟩
  ·have hb:=(zcu.mp q).1
   exact ⟨a.fh.free hb,a.g.h.free hb⟩
  ·have:=a.liv j p q
   cases w:off F' H p with
   | none=>rfl
   | some o=>exact absurd (zcu.mp w).1 this
 ·rw [List.getElem?_set_ne z] at e
  rw [zgk z]
  exact a'.sl j s e
section
variable {E:XS} {Γ:Ctx} {te:TE} {u:TS} {o:Oc} {d:Ds} {i:Nat}
theorem zpi (h:EvN Γ te d) (k:Run E (Γ.set i (.tl d)) u o):Run E Γ ↑208 o:=λF0 Hb F H σ own D a q =>
 h F0 Hb F H σ own _ a λv F' H' g p=>k F0 Hb F H' _ own D (a.setTl g i p) q
theorem zpV {α β:Type} {x:α} (f:α->Ds) (fo:β->Oc) {kk:α->β} (h:EvN Γ te (f x)) (k:∀ y,y=x->Run E (Γ.set i (.tl (f y))) u (fo (kk y))):Run E Γ ↑208 (fo (Let x kk)):=zpi h (k x rfl)
end
def shS:Slot->Slot
 | .tl d=>.va true d
 | s=>s
def shC (Γ:Ctx):Ctx:=Γ.map shS
def zpZ (Γ:Ctx):Bool:=Γ.all λs=>match s with | .ob _ _ _ _ _=>false | _=>true
open Classical in
noncomputable def wide (F Hb H:Hp) (own:Nat->Option Addr):Hp:=λa=>match F a with
 | some o=>some o
 | none=>if Hb a=none∧∀ j,own j≠some a then H a else none
theorem zl5 {F Hb H:Hp} {own:Nat->Option Addr}:Same F (wide F Hb H own):=λa o q=>by unfold wide;rw [q]
theorem zsH {F Hb H:Hp} {own:Nat->Option Addr} (e:Same F H):Same (wide F Hb H own) H:=λa o q=>by
 unfold wide at q
 cases z:F a with
 | some o'=>rw [z] at q;cases q;exact e _ _ z
 | none =>
  rw [z] at q
  dsimp only at q
  split at q
  ·exact q
  ·cases q
theorem At.wide {F0 Hb F H:Hp} {σ:St} {own:Nat->Option Addr} {Γ:Ctx} (a:At F0 Hb F H σ own Γ) (hno:zpZ Γ=true):At F0 Hb (wide F Hb H own) H σ own (shC Γ):=by
 refine ⟨⟨a.g.f.trans zl5,zsH a.fh,a.g.h,λb h1 h2=>?_⟩,a.inj,a.liv,λi s e=>?_,by unfold shC;rw [List.length_map];exact a.len⟩
 ·unfold L2.wide
  rw [a.g.no b h1 h2]
  dsimp only
  rw [if_neg (λz=>h1 z.1)]
 ·unfold shC at e
  rw [List.getElem?_map] at e
  cases q:Γ[i]? with
  | none=>rw [q] at e;cases e
  | some r =>
   rw [q] at e
   have e':shS r=s:=Option.some.inj e
   subst e'
   have h:=a.sl i r q
   cases r with
   | va m d =>
    obtain ⟨x,h1,h2⟩:=h
    exact ⟨x,h1,d.up (zbm zl5) h2⟩
   | no=>trivial
   | ow m ds =>
    obtain ⟨p,vs,h1,h2,h3,h4,h5,h6⟩:=h
    refine ⟨p,vs,h1,h2,?_,h4,h5,zdz (ds:=[]) (zbm zl5) h6⟩
    unfold L2.wide
    rw [h3]
    dsimp only
    rw [if_neg (λz=>z.2 i h2)]
   | ol p ds =>
    obtain ⟨vs,h1,h2,h3,h4,h5,h6⟩:=h
    refine ⟨vs,h1,h2,?_,h4,h5,zdz (ds:=[]) zl5 h6⟩
    unfold L2.wide
    rw [h3]
    dsimp only
    rw [if_neg (λz=>z.2 i h2)]
   | ob m C p dx fs =>
    have:=List.all_eq_true.mp hno _ (List.mem_of_getElem? q)
    cases this
   | tl d =>
    obtain ⟨x,R,h1,h2,h3,h4,h5⟩:=h
    refine ⟨x,h1,d.up (λb o w=>?_) h5⟩
    refine zcu.mpr ⟨(h3 b o w).2,?_⟩
    unfold L2.wide
    rw [(h3 b o w).1]
    dsimp only
    rw [if_pos ⟨(h3 b o w).2,λj z=>by rw [h4 j b z] at w;cases w⟩]
    exact h2 b o w
section
variable {E:XS} {Γ:Ctx} {t:TE} {d:Ds} {m n:Bool} {o:Oc}
theorem Grow.only {F H H':Hp} (e:Same F H) (g:Same H H'):Grow F H F H':=⟨Same.refl _,e.trans g,g,λ_ _ z=>z⟩
theorem Ev.borrow {v:V} (hno:zpZ Γ=true) (h:Ev (shC Γ) t m (dV v)):Ev Γ t n (dV v):=λF0 Hb F H σ own Q a k =>
 h F0 Hb _ H σ own Q (a.wide hno) λx F' H' g q=>k x F H' (Grow.only a.fh g.h) q
theorem EvN.ev (h:EvN Γ t d):Ev Γ t true d:=λF0 Hb F H σ own Q a k=>h F0 Hb F H σ own Q a λv F' H' g q=>k v F' H' g (d.up (zll a.g.h) q)
theorem zmW {t:TS} (hno:zpZ Γ=true) (k:Run E (shC Γ) t o):Run E Γ t o:=λF0 Hb F H σ own D a q=>k F0 Hb _ H σ own D (a.wide hno) q
def unS:Slot->Slot
 | .tl _=>.no
 | s=>s
def unC (Γ:Ctx):Ctx:=Γ.map unS
theorem At.spoil {F0 Hb F H:Hp} {σ:St} {own:Nat->Option Addr} (a:At F0 Hb F H σ own Γ) (hno:zpZ Γ=true) {p:Addr} (w:HO) (h1:F p=none) (h2:Hb p=none) (h3:∀ j,own j≠some p):At F0 Hb F (upd H p w) σ own (unC Γ):=by
 refine ⟨a.g.setH h1 h2,a.inj,λj q e=>?_,λi s e=>?_,by unfold unC;rw [List.length_map];exact a.len⟩
 ·have:q≠p:=λz=>h3 j (z ▸ e)
  rw [zaC this];exact a.liv j q e
 ·unfold unC at e
  rw [List.getElem?_map] at e
  cases q:Γ[i]? with
  | none=>rw [q] at e;cases e
  | some r =>
   rw [q] at e
   have e':unS r=s:=Option.some.inj e
   subst e'
   have h:=a.sl i r q
   cases r with
   | va m d=>exact h
   | no=>trivial
   | ow m ds =>
    obtain ⟨x,vs,q1,q2,q3,q4,q5,q6⟩:=h
    have:x≠p:=λz=>h3 i (z ▸ q2)
    exact ⟨x,vs,q1,q2,q3,q4,by rw [zaC this];exact q5,q6⟩
   | ol x ds =>
    obtain ⟨vs,q1,q2,q3,q4,q5,q6⟩:=h
    have:x≠p:=λz=>h3 i (z ▸ q2)
    exact ⟨vs,q1,q2,q3,q4,by rw [zaC this];exact q5,q6⟩
   | ob m C p dx fs =>
    have:=List.all_eq_true.mp hno _ (List.mem_of_getElem? q)
    cases this
   | tl d=>trivial
end
theorem ev_some {Γ:Ctx} {t:TE} {m:Bool} {α:Type} [Inhabited α] {f:α->Ds} {x:Option α} (h:Ev Γ t m (dOpt f x)) (hs:x.isSome=true):Ev Γ t m (f (x.getD default)):=by
 cases x with
 | none=>cases hs
 | some v=>exact h
def gS {α:Type} [Inhabited α] (x:Option α):α:=x.getD default
end L2
namespace Lat
abbrev Vc:=Nat->Int
inductive Sp (A:Vc->Prop):Vc->Prop
 | zero:Sp A (λ_=>0)
 | add {u a:Vc} (x:Int):Sp A u->A a->Sp A (λi=>u i+x*a i)
section
variable {A B:Vc->Prop} {u v a:Vc}
theorem Sp.conv (h:Sp A u) (e:∀ i,u i=v i):Sp A v:=(funext e:u=v) ▸ h
theorem Sp.mem (h:A a):Sp A a:=(Sp.add 1 Sp.zero h).conv λi=>by grind
theorem Sp.smul (x:Int) (h:Sp A u):Sp A (λi=>x*u i):=by
 induction h with
 | zero=>exact Sp.zero.conv λi=>by grind
 | @add u a z _ ha ih=>exact (Sp.add (x*z) ih ha).conv λi=>by grind
theorem Sp.plus (h:Sp A u) (k:Sp A v):Sp A (λi=>u i+v i):=by
 induction k with
 | zero=>exact h.conv λi=>by grind
 | @add w a z _ ha ih=>exact (Sp.add z ih ha).conv λi=>by grind
theorem Sp.lin (x y:Int) (h:Sp A u) (k:Sp A v):Sp A (λi=>x*u i+y*v i):=(h.smul x).plus (k.smul y)
theorem Sp.sub (k:∀ a,A a->Sp B a) (h:Sp A u):Sp B u:=by
 induction h with
 | zero=>exact Sp.zero
 | @add u a z _ ha ih=>exact (ih.plus ((k a ha).smul z)).conv λi=>by grind
theorem Sp.mono (k:∀ a,A a->B a) (h:Sp A u):Sp B u:=h.sub λa ha=>.mem (k a ha)
theorem Sp.at0 {i:Nat} (k:∀ a,A a->a i=0) (h:Sp A u):u i=0:=by
 induction h with
 | zero=>rfl
 | @add u a z _ ha ih=>show u i+z*a i=0;rw [ih,k a ha];simp
theorem Sp.split {a:Vc} (h:Sp (λu=>A u∨u=a) v):∃ w y,Sp A w∧∀ i,v i=w i+y*a i:=by
 induction h with
 | zero=>exact ⟨_,0,.zero,λi=>by grind⟩
 | @add u b z _ hb ih =>
  obtain ⟨w,y,hw,e⟩:=ih
  rcases hb with hb | rfl
  ·exact ⟨_,y,.add z hw hb,λi=>by grind⟩
  ·exact ⟨w,y+z,hw,λi=>by grind⟩
end
noncomputable def comb:Ji->List Vc->Vc
 | x :: xs,a :: as=>λi=>x*a i+comb xs as i
 | _,_=>λ_=>0
theorem ziF {A:Vc->Prop}:∀ {xs:Ji} {as:List Vc},(∀ a∈as,A a)->Sp A (comb xs as)
 | [],_,_=>.zero
 | _ :: _,[],_=>.zero
 | x :: xs,a :: as,h=>(((Sp.mem (h a ↑3)).smul x).plus (ziF (xs:=xs) λb hb=>h b (⇑3 _ hb))).conv λi=>by simp only [comb]
theorem zlX:∀ {xs ys:Ji} {as:List Vc} (i:Nat),xs.length=ys.length->comb (List.zipWith (·-·) xs ys) as i=comb xs as i-comb ys as i
 | [],[],_,_,_=>by simp [comb]
 | x :: xs,y :: ys,[],_,_=>by simp [comb]
 | x :: xs,y :: ys,a :: as,i,h=>by
  have:=zlX (xs:=xs) (ys:=ys) (as:=as) i ↑118
  simp only [comb,List.zipWith_cons_cons,this]
  grind
theorem zkd:∀ {xs:Ji} {as:List Vc} (c:Int) (i:Nat),comb (xs.map (c*·)) as i=c*comb xs as i
 | [],_,_,_=>by simp [comb]
 | x :: xs,[],_,_=>by simp [comb]
 | x :: xs,a :: as,c,i=>by
  have:=zkd (xs:=xs) (as:=as) c i
  simp only [comb,List.map_cons,this]
  grind
theorem zjA {X B:Nat} {i:Nat}:∀ {xs:Ji} {as:List Vc},(∀ x∈xs,x.natAbs≤X)->(∀ a∈as,(a i).natAbs≤B)->(comb xs as i).natAbs≤as.length*(X*B)
 | [],_,_,_=>by simp [comb]
 | _ :: _,[],_,_=>by simp [comb]
 | x :: xs,a :: as,h,k=>by
  have h1:=zjA (xs:=xs) (as:=as) (λy hy=>h y (⇑3 _ hy)) λb hb=>k b (⇑3 _ hb)
  have h2:(x*a i).natAbs≤X*B:=by rw [Int.natAbs_mul];exact Nat.mul_le_mul (h x ↑3) (k a ↑3)
  simp only [comb,List.length_cons,Nat.succ_mul]
  omega
theorem zqP:∀ (M N:Nat) (f:Nat->Nat),M<N->(∀ n,n<N->f n<M)->∃ i j,i<j∧j<N∧f i=f j
 | 0,N,f,h,k=>absurd (k 0 h) (Nat.not_lt_zero _)
 | M+1,N,f,h,k=>by
  by_cases q:∃ i,i<N-1∧f i=f (N-1)
  ·obtain ⟨i,h1,h2⟩:=q
   exact ⟨i,N-1,h1,by omega,h2⟩
  ·have q:∀ i,i<N-1->f i≠f (N-1):=λi h1 h2=>q ⟨i,h1,h2⟩
   obtain ⟨i,j,h1,h2,h3⟩:=zqP M (N-1) (λn=>if f (N-1)<f n then f n-1 else f n) ⇑0 λn hn=>by
    have a:=k n ⇑0
    have b:=k (N-1) ⇑0
    have c:=q n hn
    show (if f (N-1)<f n then f n-1 else f n)<M
    split<;>omega
   refine ⟨i,j,h1,by omega,?_⟩
   have a:=q i ⇑0
   have b:=q j h2
   split at h3<;>split at h3<;>omega
noncomputable def ziV (b:Nat):Nat->Nat->Ji
 | 0,_=>[]
 | k+1,n=>((n%b:Nat):Int) :: ziV b k (n/b)
theorem zev {b:Nat}:∀ {k n:Nat},(ziV b k n).length=k
 | 0,_=>rfl
 | k+1,n=>by simp [ziV,zev]
theorem zjN {b:Nat} (hb:0<b):∀ {k n:Nat},∀ x∈ziV b k n,0≤x∧x<b
 | 0,_,x,h=>by simp [ziV] at h
 | k+1,n,x,h=>by
  simp only [ziV,List.mem_cons] at h
  rcases h with rfl | h
  ·have:=Nat.mod_lt n hb
   omega
  ·exact zjN hb x h
theorem zl8 {b:Nat} (hb:0<b):∀ {k n m:Nat},n<b^k->m<b^k->ziV b k n=ziV b k m->n=m
 | 0,n,m,h1,h2,_=>by simp at h1 h2;omega
 | k+1,n,m,h1,h2,e=>by
  simp only [ziV,List.cons.injEq] at e
  have h3:=zl8 hb (k:=k) (Nat.div_lt_of_lt_mul (by rw [Nat.pow_succ,Nat.mul_comm] at h1;exact h1)) (Nat.div_lt_of_lt_mul (by rw [Nat.pow_succ,Nat.mul_comm] at h2;exact h2)) e.2
  have h4:=Nat.div_add_mod n b
  have h5:=Nat.div_add_mod m b
  rw [h3] at h4
  omega
noncomputable def enc (W:Nat) (u:Vc):List Nat->Nat
 | []=>0
 | h :: hs=>(u h+W).toNat+(2*W+1)*enc W u hs
theorem zqt {W:Nat} {u:Vc}:∀ {hs:List Nat},(∀ h∈hs,(u h).natAbs≤W)->enc W u hs<(2*W+1)^hs.length
 | [],_=>by simp [enc]
 | h :: hs,k=>by
  have h1:=zqt (hs:=hs) λg hg=>k g (⇑3 _ hg)
  have h2:=k h ↑3
  simp only [enc,List.length_cons,Nat.pow_succ]
  have h3:(2*W+1)*(enc W u hs+1)≤(2*W+1)*(2*W+1)^hs.length:=Nat.mul_le_mul_left _ h1
  rw [Nat.mul_comm ((2*W+1)^hs.length)]
  rw [Nat.mul_add] at h3
  omega
theorem zo5 {W:Nat} {u v:Vc}:∀ {hs:List Nat},(∀ h∈hs,(u h).natAbs≤W∧(v h).natAbs≤W)->enc W u hs=enc W v hs->∀ h∈hs,u h=v h
 | [],_,_,h,hh=>by simp at hh
 | g :: hs,k,e,h,hh=>by
  have h2:=k g ↑3
  simp only [enc] at e
  have e1:((u g+W).toNat+(2*W+1)*enc W u hs)%(2*W+1)=((v g+W).toNat+(2*W+1)*enc W v hs)%(2*W+1):=by rw [e]
  rw [Nat.add_mul_mod_self_left,Nat.add_mul_mod_self_left,Nat.mod_eq_of_lt ⇑0,Nat.mod_eq_of_lt ⇑0] at e1
  have e2:u g=v g:=by omega
  rcases List.mem_cons.mp hh with rfl | hh
  ·exact e2
  ·refine zo5 (λx hx=>k x (⇑3 _ hx)) ?_ h hh
   rw [e1] at e
   exact Nat.eq_of_mul_eq_mul_left (show 0<2*W+1 by omega) (Nat.add_left_cancel e)
theorem ztv {as:List Vc} {hs:List Nat} {B:Nat} (hl:hs.length<as.length) (hB:∀ a∈as,∀ h∈hs,(a h).natAbs≤B) :
  ∃ xs:Ji,xs.length=as.length∧(∃ x∈xs,x≠0)∧(∀ x∈xs,x.natAbs≤(2*(as.length*B)+1)^hs.length)∧∀ h∈hs,comb xs as h=0:=by
 generalize hY:2*(as.length*B)+1=Y
 have hY1:1≤Y:=by omega
 generalize hX:Y^hs.length=X
 have hX1:1≤X:=by rw [← hX];exact Nat.one_le_pow _ _ hY1
 have key:∀ n,∀ h∈hs,(comb (ziV (X+1) as.length n) as h).natAbs≤as.length*(X*B):=λn h hh =>
  zjA (λx hx=>by have:=zjN ⇑0 x hx;omega) λa ha=>hB a ha h hh
 obtain ⟨i,j,h1,h2,h3⟩:=zqP ((2*(as.length*(X*B))+1)^hs.length) ((X+1)^as.length) (λn=>enc (as.length*(X*B)) (comb (ziV (X+1) as.length n) as) hs) (by
  have e1:2*(as.length*(X*B))+1≤Y*X:=by
   rw [← hY,Nat.add_mul,Nat.one_mul,Nat.mul_assoc,Nat.mul_assoc,Nat.mul_comm B X]
   omega
  calc (2*(as.length*(X*B))+1)^hs.length≤(Y*X)^hs.length:=Nat.pow_le_pow_left e1 _
   _=X*X^hs.length:=by rw [Nat.mul_pow,hX]
   _=X^(hs.length+1):=by rw [Nat.pow_succ,Nat.mul_comm]
   _≤X^as.length:=Nat.pow_le_pow_right hX1 hl
   _<(X+1)^as.length:=Nat.pow_lt_pow_left ⇑0 ⇑0) λn _=>zqt (key n)
 refine ⟨List.zipWith (·-·) (ziV (X+1) as.length i) (ziV (X+1) as.length j),by simp [zev],?_,λx hx=>?_,λh hh=>?_⟩
 ·refine Classical.byContradiction λq=>?_
  have q:∀ x∈List.zipWith (·-·) (ziV (X+1) as.length i) (ziV (X+1) as.length j),x=0:=λx hx=>Classical.byContradiction λz=>q ⟨x,hx,z⟩
  have e:ziV (X+1) as.length i=ziV (X+1) as.length j:=by
   refine List.ext_getElem (by simp [zev]) λk k1 k2=>?_
   have:=q _ (List.getElem_mem (l:=List.zipWith (·-·) (ziV (X+1) as.length i) (ziV (X+1) as.length j)) (n:=k) (by simp [zev] at *;omega))
   rw [List.getElem_zipWith] at this
   omega
  have:=zl8 ⇑0 (Nat.lt_trans h1 h2) h2 e
  omega
 ·obtain ⟨k,hk,rfl⟩:=List.getElem_of_mem hx
  have hk':k<as.length:=by simpa [zev] using hk
  rw [List.getElem_zipWith]
  have:=zjN (b:=X+1) ⇑0 _ (List.getElem_mem (l:=ziV (X+1) as.length i) (n:=k) (by rw [zev];exact hk'))
  have:=zjN (b:=X+1) ⇑0 _ (List.getElem_mem (l:=ziV (X+1) as.length j) (n:=k) (by rw [zev];exact hk'))
  omega
 ·rw [zlX _ (by simp [zev])]
  have:=zo5 (λh hh=>⟨key i h hh,key j h hh⟩) h3 h hh
  omega
theorem first {u:Vc} {c:Nat} (h:u c≠0):∃ d,d≤c∧u d≠0∧∀ i,i<d->u i=0:=by
 induction c using Nat.strongRecOn with
 | _ c ih =>
  by_cases q:∃ i,i<c∧u i≠0
  ·obtain ⟨i,h1,h2⟩:=q
   obtain ⟨d,h3,h4⟩:=ih i h1 h2
   exact ⟨d,by omega,h4⟩
  ·exact ⟨c,↑4 c,h,λi hi=>Classical.byContradiction λz=>q ⟨i,hi,z⟩⟩
noncomputable def bnd (k B C:Nat):Nat:=(k+1)*((2*((k+1)*C)+1)^k*B)
theorem zmt {k l B C:Nat} (h:k≤l):bnd k B C≤bnd l B C:=by
 unfold bnd
 refine Nat.mul_le_mul ⇑0 (Nat.mul_le_mul_right _ ?_)
 refine ⇑6 (Nat.pow_le_pow_right ⇑0 h) (Nat.pow_le_pow_left ?_ _)
 have:=Nat.mul_le_mul_right C (show k+1≤l+1 by omega)
 omega
structure Wit (A:Vc->Prop) (B E:Nat) (hs:List Nat) (as:List Vc):Prop where
 len:hs.length=as.length
 mem:∀ a∈as,A a
 bd:∀ a∈as,∀ i,(a i).natAbs≤B
 van:∀ u,Sp A u->(∀ h∈hs,u h=0)->∀ i,u i=0
 hd:∀ h∈hs,∃ v,Sp A v∧(∀ i,i<h->v i=0)∧v h≠0∧∀ i,(v i).natAbs≤E
 ind:∀ xs:Ji,xs.length=as.length->(∀ i,comb xs as i=0)->∀ x∈xs,x=0
theorem Wit.nil {B E:Nat}:Wit (λ_=>False) B E [] [] where
 len:=rfl
 mem:=by simp
 bd:=by simp
 van:=λu h _ i=>h.at0 λ_ z=>z.elim
 hd:=by simp
 ind:=λxs h _ x hx=>by rw [List.length_eq_zero_iff.mp h] at hx;simp at hx
theorem Wit.rel {A:Vc->Prop} {B C E:Nat} {hs:List Nat} {as:List Vc} {u:Vc} (W:Wit A B E hs as) (hBC:B≤C) (hu:∀ h∈hs,(u h).natAbs≤C) :
  ∃ (x:Int) (xs:Ji),x≠0∧xs.length=as.length∧x.natAbs≤(2*((as.length+1)*C)+1)^as.length∧(∀ y∈xs,y.natAbs≤(2*((as.length+1)*C)+1)^as.length)∧∀ h∈hs,x*u h+comb xs as h=0:=by
 obtain ⟨xs,h1,⟨z,hz,hz0⟩,h3,h4⟩:=ztv (as:=u :: as) (hs:=hs) (B:=C) (by simp [W.len]) λa ha h hh=>by
  rcases List.mem_cons.mp ha with rfl | ha
  ·exact hu h hh
  ·exact ⇑6 (W.bd a ha h) hBC
 rw [W.len,List.length_cons] at h3
 match xs,h1 with
 | x :: xs,h1 =>
  refine ⟨x,xs,λq=>?_,by simpa using h1,h3 x ↑3,λy hy=>h3 y (⇑3 _ hy),λh hh=>by have:=h4 h hh;simpa [comb] using this⟩
  subst q
  have k1:∀ i,comb xs as i=0:=W.van _ (ziF W.mem) λh hh=>by have:=h4 h hh;simpa [comb] using this
  have k2:=W.ind xs (by simpa using h1) k1
  rcases List.mem_cons.mp hz with rfl | hz
  ·exact hz0 rfl
  ·exact hz0 (k2 z hz)
theorem Wit.step {A:Vc->Prop} {B E:Nat} {hs:List Nat} {as:List Vc} {a:Vc} (W:Wit A B E hs as) (ha:∀ i,(a i).natAbs≤B) (hE:bnd as.length B B≤E) :
  ∃ hs' as',Wit (λu=>A u∨u=a) B E hs' as'∧as'.length≤as.length+1:=by
 obtain ⟨x,xs,hx,hl,b1,b2,h0⟩:=W.rel (u:=a) (↑4 B) λh _=>ha h
 have sp1:Sp A (comb xs as):=ziF W.mem
 have up:∀ u,Sp A u->Sp (λu=>A u∨u=a) u:=λu hu=>hu.mono λ_=>.inl
 have hva:Sp (λu=>A u∨u=a) (λi=>x*a i+comb xs as i):=((Sp.mem (.inr rfl)).smul x).plus (up _ sp1)
 by_cases q:∃ i,x*a i+comb xs as i≠0
 ·obtain ⟨i,hi⟩:=q
  obtain ⟨c,_,hc,hc0⟩:=first (u:=λi=>x*a i+comb xs as i) hi
  refine ⟨c :: hs,a :: as,⟨by simp [W.len],λb hb=>?_,λb hb=>?_,λu hu hv=>?_,λh hh=>?_,λys hy hys=>?_⟩,by simp⟩
  ·rcases List.mem_cons.mp hb with rfl | hb
   ·exact .inr rfl
   ·exact .inl (W.mem b hb)
  ·rcases List.mem_cons.mp hb with rfl | hb
   ·exact ha
   ·exact W.bd b hb
  ·obtain ⟨w,y,hw,e⟩:=hu.split
   have k1:∀ i,x*w i-y*comb xs as i=0:=λi=>by
    have:=W.van _ (hw.lin x (-y) sp1) (λh hh=>by
     have e1:=e h
     rw [hv h (⇑3 _ hh)] at e1
     have e2:=h0 h hh
     grind) i
    grind
   have k2:y=0:=by
    have e1:=e c
    rw [hv c List.mem_cons_self] at e1
    have e2:=k1 c
    have e3:y*(x*a c+comb xs as c)=0:=by grind
    rcases Int.mul_eq_zero.mp e3 with z | z
    ·exact z
    ·exact (hc z).elim
   intro i
   have e1:=e i
   have e2:=k1 i
   have e3:x*u i=0:=by grind
   exact (Int.mul_eq_zero.mp e3).resolve_left hx
  ·rcases List.mem_cons.mp hh with rfl | hh
   ·refine ⟨_,hva,hc0,hc,λi=>?_⟩
    have e1:=zjA (i:=i) b2 λb hb=>W.bd b hb i
    have e2:(x*a i).natAbs≤(2*((as.length+1)*B)+1)^as.length*B:=by rw [Int.natAbs_mul];exact Nat.mul_le_mul b1 (ha i)
    unfold bnd at hE
    rw [Nat.add_mul,Nat.one_mul] at hE
    show (x*a i+comb xs as i).natAbs≤E
    omega
   ·obtain ⟨v,q1,q2⟩:=W.hd h hh
    exact ⟨v,up v q1,q2⟩
  ·match ys,hy with
   | y :: ys,hy =>
    have k1:∀ i,x*comb ys as i-y*comb xs as i=0:=λi=>by
     have:=W.van _ ((ziF (xs:=ys) W.mem).lin x (-y) sp1) (λh hh=>by
      have e1:=hys h
      simp only [comb] at e1
      have e2:=h0 h hh
      grind) i
     grind
    have k2:y=0:=by
     have e1:=hys c
     simp only [comb] at e1
     have e2:=k1 c
     have e3:y*(x*a c+comb xs as c)=0:=by grind
     rcases Int.mul_eq_zero.mp e3 with z | z
     ·exact z
     ·exact (hc z).elim
    subst k2
    have k3:=W.ind ys (by simpa using hy) λi=>by have:=hys i;simpa [comb] using this
    intro z hz
    rcases List.mem_cons.mp hz with rfl | hz
    ·rfl
    ·exact k3 z hz
 ·have q:∀ i,x*a i+comb xs as i=0:=λi=>Classical.byContradiction λz=>q ⟨i,z⟩
  refine ⟨hs,as,⟨W.len,λb hb=>.inl (W.mem b hb),W.bd,λu hu hv=>?_,λh hh=>?_,W.ind⟩,by omega⟩
  ·obtain ⟨w,y,hw,e⟩:=hu.split
   have k1:∀ i,x*w i-y*comb xs as i=0:=λi=>by
    have:=W.van _ (hw.lin x (-y) sp1) (λh hh=>by
     have e1:=e h
     rw [hv h hh] at e1
     have e2:=h0 h hh
     grind) i
    grind
   intro i
   have e1:=e i
   have e2:=k1 i
   have e3:=q i
   have e4:x*u i=0:=by grind
   exact (Int.mul_eq_zero.mp e4).resolve_left hx
  ·obtain ⟨v,q1,q2⟩:=W.hd h hh
   exact ⟨v,up v q1,q2⟩
theorem Wit.small {A:Vc->Prop} {B C E:Nat} {hs:List Nat} {as:List Vc} {u:Vc} (W:Wit A B E hs as) (hBC:B≤C) (hs_:Sp A u) (hu:∀ h∈hs,(u h).natAbs≤C) (i:Nat):(u i).natAbs≤bnd as.length B C:=by
 obtain ⟨x,xs,hx,hl,b1,b2,h0⟩:=W.rel hBC hu
 have k:=W.van _ ((hs_.smul x).plus (ziF (xs:=xs) W.mem)) h0 i
 have e1:=zjA (i:=i) b2 λb hb=>W.bd b hb i
 have e2:(x*u i).natAbs=(comb xs as i).natAbs:=by
  have k:x*u i+comb xs as i=0:=k
  omega
 rw [Int.natAbs_mul] at e2
 have e3:(u i).natAbs≤x.natAbs*(u i).natAbs:=Nat.le_mul_of_pos_left _ (Int.natAbs_pos.mpr hx)
 unfold bnd
 rw [Nat.add_mul]
 omega
theorem Wit.head {A:Vc->Prop} {B E:Nat} {hs:List Nat} {as:List Vc} {u:Vc} {h:Nat} (W:Wit A B E hs as) (hu:Sp A u) (h0:∀ i,i<h->u i=0) (h1:u h≠0):h∈hs:=by
 refine Classical.byContradiction λq=>?_
 have hm:∃ n,∀ g∈hs,g<n:=by
  clear W q
  induction hs with
  | nil=>exact ⟨0,by simp⟩
  | cons g hs ih =>
   obtain ⟨n,hn⟩:=ih
   exact ⟨max n (g+1),λk hk=>by
    rcases List.mem_cons.mp hk with rfl | hk
    ·omega
    ·have:=hn k hk;omega⟩
 obtain ⟨n,hn⟩:=hm
 have main:∀ (d t:Nat) (u:Vc),n-t=d->h<t->Sp A u->u h≠0->(∀ g∈hs,g<t->u g=0)->False:=by
  intro d
  induction d with
  | zero=>exact λt u e _ hu h1 k=>h1 (W.van u hu (λg hg=>k g hg (by have:=hn g hg;omega)) h)
  | succ d ih =>
   intro t u e ht hu h1 k
   by_cases z:t∈hs
   ·obtain ⟨v,v1,v2,v3,_⟩:=W.hd t z
    refine ih (t+1) _ ⇑0 ⇑0 (hu.lin (v t) (-(u t)) v1) ?_ λg hg hgt=>?_
    ·show v t*u h+-u t*v h≠0
     rw [v2 h ht]
     intro y
     rcases Int.mul_eq_zero.mp (show v t*u h=0 by grind) with y | y
     ·exact v3 y
     ·exact h1 y
    ·show v t*u g+-u t*v g=0
     by_cases y:g=t
     ·subst y;grind
     ·rw [v2 g ⇑0,k g hg ⇑0];grind
   ·exact ih (t+1) u ⇑0 ⇑0 hu h1 λg hg hgt=>k g hg (by
     have:g≠t:=λy=>z (y ▸ hg)
     omega)
 exact main _ (h+1) u rfl ⇑0 hu h1 λg hg hgt=>by
  by_cases y:g=h
  ·exact (q (y ▸ hg)).elim
  ·exact h0 g ⇑0
end Lat
namespace L2
open PySem PySem.Spec PyProof.Rows
def whl {S:Type} (c:S->Bool) (f:S->S):Nat->S->S
 | 0,s=>s
 | n+1,s=>bif c s then whl c f n (f s) else s
theorem zl1 {S:Type} {c:S->Bool} {f:S->S} {s:S} (h:c s=false):∀ n,whl c f n s=s
 | 0=>rfl
 | n+1=>by rw [whl,h];rfl
theorem zqH {S:Type} {c:S->Bool} {f:S->S} {s:S} (h:c s=true) (n:Nat):whl c f (n+1) s=whl c f n (f s):=by rw [whl,h];rfl
theorem zj0 {S:Type} {c:S->Bool} {f:S->S} {I:S->Prop} {μ:S->Nat} (hs:∀ s,I s->c s=true->I (f s)∧μ (f s)<μ s):∀ {n:Nat} {s:S},I s->μ s≤n->I (whl c f n s)∧c (whl c f n s)=false
 | 0,s,h,k=>⟨h,by
  show c s=false
  cases q:c s with
  | false=>rfl
  | true=>have:=(hs s h q).2;omega⟩
 | n+1,s,h,k=>by
  cases q:c s with
  | false=>rw [zl1 q];exact ⟨h,q⟩
  | true =>
   rw [zqH q]
   exact zj0 hs (hs s h q).1 (by have:=(hs s h q).2;omega)
section
variable {E:XS} {Γ:Ctx} {β:Type} {u:TS}
theorem zkL {S:Type} {tc:TT} {tb:TS} {s0:S} (G:S->Ctx) (fo:β->Oc) {kk:S->β} (c:S->Bool) (f:S->S) (I:S->Prop) (μ:S->Nat) (n:Nat) (w:Wk Γ (G s0)) (h0:I s0) (hn:μ s0≤n)
  (body:∀ s,I s->EvT (G s) tc (c s)∧(c s=true->(I (f s)∧μ (f s)<μ s)∧Run E (G s) tb (.nx (G (f s)))))
  (k:∀ s,s=whl c f n s0->I s->c s=false->Run E (G s) u (fo (kk s))):Run E Γ (tSeq (zqF tc tb) u) (fo (Let (whl c f n s0) kk)):=λF0 Hb F H σ own D a q=>by
 obtain ⟨i1,i2⟩:=zj0 (n:=n) (λs hi hc=>((body s hi).2 hc).1) h0 hn
 have kf:=k _ rfl i1 i2
 refine ⟨λm σ H=>∃ s F own,At F0 Hb F H σ own (G s)∧I s∧μ s=m∧∃ j,μ s≤j∧whl c f j s=whl c f n s0,⟨_,s0,F,own,a.wk w,h0,rfl,n,hn,rfl⟩,?_⟩
 rintro m σ1 H1 ⟨s,F1,own1,a1,hI,rfl,j,hj,ej⟩
 obtain ⟨b1,b2⟩:=body s hI
 refine b1 F0 Hb F1 H1 σ1 own1 _ a1 λF2 H2 g=>?_
 cases e:c s with
 | false =>
  rw [if_neg Bool.false_ne_true]
  rw [zl1 e] at ej
  rw [← ej] at kf
  exact kf F0 Hb F2 H2 σ1 own1 D (a1.grow g) (by rw [ej];exact q)
 | true =>
  rw [if_pos rfl]
  obtain ⟨⟨c1,c2⟩,c3⟩:=b2 e
  refine ⟨λσ' H'=>∃ F own,At F0 Hb F H' σ' own (G (f s)),λσ' H' ⟨F',own',a'⟩=>⟨_,c2,f s,F',own',a',c1,rfl,j-1,by omega,?_⟩,?_⟩
  ·rw [← ej,show j=(j-1)+1 by omega,zqH e];simp
  ·exact c3 F0 Hb F2 H2 σ1 own1 _ (a1.grow g) λF' H' σ' own' a'=>⟨F',own',a'⟩
end
end L2
namespace Lat
noncomputable def vec (l:Ji):Vc:=λi=>l.getD i 0
noncomputable def hd:Ji->Nat
 | []=>0
 | x :: xs=>bif (!decide (x=0)) then 0 else hd xs+1
noncomputable def add (l s:Ji):Ji:=↑0 (λ(x:Int×Int)=>x.1+x.2) (List.zip l s)
noncomputable def sub (l s:Ji):Ji:=↑0 (λ(x:Int×Int)=>x.1-x.2) (List.zip l s)
noncomputable def mul (l:Ji) (c:Int):Ji:=↑0 (λ(x:Int)=>x*c) l
theorem zod {x:Int} {xs:Ji}:vec (x :: xs) 0=x:=rfl
theorem zbg {x:Int} {xs:Ji} {i:Nat}:vec (x :: xs) (i+1)=vec xs i:=by simp [vec]
theorem za8 {l:Ji} {i:Nat} (h:l.length≤i):vec l i=0:=by simp [vec,List.getD_eq_getElem?_getD,List.getElem?_eq_none h]
theorem zna {l:Ji} {i:Nat} (h:i<l.length):vec l i∈l:=by
 simp only [vec,List.getD_eq_getElem?_getD,List.getElem?_eq_getElem h,Option.getD_some];exact List.getElem_mem h
theorem zjG {l:Ji} {x:Int} (h:x∈l):∃ i,i<l.length∧vec l i=x:=by
 obtain ⟨i,hi,e⟩:=List.getElem_of_mem h
 exact ⟨i,hi,by simp [vec,List.getD_eq_getElem?_getD,List.getElem?_eq_getElem hi,e]⟩
theorem zih {l s:Ji} (h:l.length=s.length) (e:∀ i,vec l i=vec s i):l=s:=by
 refine List.ext_getElem h λi h1 h2=>?_
 have:=e i
 simpa [vec,List.getD_eq_getElem?_getD,List.getElem?_eq_getElem h1,List.getElem?_eq_getElem h2] using this
theorem zqN {l:Ji} {B:Nat} (h:∀ x∈l,x.natAbs≤B) (i:Nat):(vec l i).natAbs≤B:=by
 by_cases q:i<l.length
 ·exact h _ (zna q)
 ·rw [za8 ⇑0];exact Nat.zero_le _
theorem znV {l s:Ji} (h:l.length=s.length):(sub l s).length=l.length:=by simp [sub,h]
theorem zlJ {l s:Ji} (h:l.length=s.length):(add l s).length=l.length:=by simp [add,h]
theorem zbw {l:Ji} {c:Int}:(mul l c).length=l.length:=by simp [mul]
theorem zlg:∀ {l s:Ji} {i:Nat},l.length=s.length->vec (sub l s) i=vec l i-vec s i
 | [],[],i,_=>by simp [sub,vec]
 | x :: l,y :: s,0,_=>rfl
 | x :: l,y :: s,i+1,h=>by
  have:=zlg (l:=l) (s:=s) (i:=i) ↑118
  rw [zbg,zbg,← this]
  exact zbg
theorem zlM:∀ {l s:Ji} {i:Nat},l.length=s.length->vec (add l s) i=vec l i+vec s i
 | [],[],i,_=>by simp [add,vec]
 | x :: l,y :: s,0,_=>rfl
 | x :: l,y :: s,i+1,h=>by
  have:=zlM (l:=l) (s:=s) (i:=i) ↑118
  rw [zbg,zbg,← this]
  exact zbg
theorem zd4:∀ {l:Ji} {c:Int} {i:Nat},vec (mul l c) i=vec l i*c
 | [],c,i=>by simp [mul,vec]
 | x :: l,c,0=>rfl
 | x :: l,c,i+1=>by
  have:=zd4 (l:=l) (c:=c) (i:=i)
  rw [zbg,← this]
  exact zbg
theorem znr:∀ {l:Ji},hd l≤l.length
 | []=>↑4 0
 | x :: xs=>by
  unfold hd
  cases (!decide (x=0))
  ·exact Nat.succ_le_succ znr
  ·exact Nat.zero_le _
theorem zbl:∀ {l:Ji} {i:Nat},i<hd l->vec l i=0
 | [],i,h=>absurd h (Nat.not_lt_zero i)
 | x :: xs,i,h=>by
  unfold hd at h
  by_cases q:x=0
  ·rw [show (!decide (x=0))=false by simp [q]] at h
   have h:i<hd xs+1:=h
   cases i with
   | zero=>exact q
   | succ i=>rw [zbg];exact zbl ⇑0
  ·rw [show (!decide (x=0))=true by simp [q]] at h
   exact absurd h (Nat.not_lt_zero i)
theorem zg9:∀ {l:Ji},hd l<l.length->vec l (hd l)≠0
 | [],h=>absurd h (Nat.not_lt_zero _)
 | x :: xs,h=>by
  unfold hd at h ⊢
  by_cases q:x=0
  ·rw [show (!decide (x=0))=false by simp [q]] at h ⊢
   have h:hd xs+1<xs.length+1:=h
   show vec (x :: xs) (hd xs+1)≠0
   rw [zbg]
   exact zg9 ⇑0
  ·rw [show (!decide (x=0))=true by simp [q]]
   exact q
theorem zjo {l:Ji} {d:Nat} (h:vec l d≠0) (k:∀ i,i<d->vec l i=0):hd l=d:=by
 have h1:¬ hd l<d:=λq=>by
  have hl:d<l.length:=Nat.lt_of_not_le λz=>h (za8 z)
  exact zg9 ⇑0 (k _ q)
 have h2:¬ d<hd l:=λq=>h (zbl q)
 omega
theorem zr5 {l:Ji} {d:Nat} (hl:d≤l.length) (k:∀ i,i<d->vec l i=0):d≤hd l:=by
 refine Nat.le_of_not_lt λq=>?_
 exact zg9 ⇑0 (k _ q)
noncomputable def quo (l s:Ji):Int:=vec l (hd s)/vec s (hd s)
noncomputable def ziX (l s:Ji):Ji:=bif (!decide (quo l s=0)) then sub l (mul s (quo l s)) else l
noncomputable def low (l:Ji) (ss:Jq):Ji:=ss.foldl ziX l
theorem zgv {l s:Ji} (h:l.length=s.length):(ziX l s).length=l.length:=by
 unfold ziX
 cases (!decide (quo l s=0))
 ·rfl
 ·show (sub l (mul s (quo l s))).length=_
  rw [znV (by rw [zbw];exact h)]
theorem zgF {l s:Ji} (h:l.length=s.length) (i:Nat):vec (ziX l s) i=vec l i-vec s i*quo l s:=by
 unfold ziX
 by_cases q:quo l s=0
 ·rw [show (!decide (quo l s=0))=false by simp [q],q]
  show vec l i=_
  omega
 ·rw [show (!decide (quo l s=0))=true by simp [q]]
  show vec (sub l (mul s (quo l s))) i=_
  rw [zlg (by rw [zbw];exact h),zd4]
def Ech (n:Nat):Nat->Jq->Prop
 | _,[]=>True
 | lo,s :: ss=>s.length=n∧lo≤hd s∧hd s<n∧0<vec s (hd s)∧Ech n (hd s+1) ss
def SpL (ss:Jq):Vc->Prop:=Sp (λu=>∃ s∈ss,u=vec s)
theorem Ech.mono {n:Nat}:∀ {ss:Jq} {lo lo':Nat},Ech n lo ss->lo'≤lo->Ech n lo' ss
 | [],_,_,_,_=>trivial
 | s :: ss,lo,lo',h,k=>⟨h.1,⇑6 k h.2.1,h.2.2⟩
theorem Ech.mem {n:Nat}:∀ {ss:Jq} {lo:Nat},Ech n lo ss->∀ t∈ss,t.length=n∧lo≤hd t∧hd t<n∧0<vec t (hd t)
 | [],_,_,t,h=>by simp at h
 | s :: ss,lo,h,t,ht=>by
  rcases List.mem_cons.mp ht with rfl | ht
  ·exact ⟨h.1,h.2.1,h.2.2.1,h.2.2.2.1⟩
  ·obtain ⟨a,b,c,d⟩:=Ech.mem h.2.2.2.2 t ht
   have:=h.2.1
   exact ⟨a,by omega,c,d⟩
theorem Ech.before {n lo i:Nat} {ss:Jq} (h:Ech n lo ss) (hi:i<lo):∀ t∈ss,vec t i=0:=λt ht=>zbl (by have:=(h.mem t ht).2.1;omega)
theorem SpL.before {n lo i:Nat} {ss:Jq} {u:Vc} (h:Ech n lo ss) (hi:i<lo) (hu:SpL ss u):u i=0:=Sp.at0 (λa ⟨s,hs,e⟩=>by rw [e];exact h.before hi s hs) hu
theorem SpL.cons {s:Ji} {ss:Jq} {u:Vc} (h:SpL (s :: ss) u):∃ w y,SpL ss w∧∀ i,u i=w i+y*vec s i:=by
 have:Sp (λu=>(∃ t∈ss,u=vec t)∨u=vec s) u:=Sp.mono (λa ⟨t,ht,e⟩=>by
  rcases List.mem_cons.mp ht with rfl | ht
  ·exact .inr e
  ·exact .inl ⟨t,ht,e⟩) h
 exact this.split
theorem SpL.mem {ss:Jq} {s:Ji} (h:s∈ss):SpL ss (vec s):=Sp.mem ⟨s,h,rfl⟩
theorem SpL.up {s:Ji} {ss:Jq} {u:Vc} (h:SpL ss u):SpL (s :: ss) u:=Sp.mono (λ_ ⟨t,ht,e⟩=>⟨t,⇑3 _ ht,e⟩) h
theorem SpL.sub {ss tt:Jq} {u:Vc} (k:∀ s∈ss,SpL tt (vec s)) (h:SpL ss u):SpL tt u:=Sp.sub (λ_ ⟨s,hs,e⟩=>e ▸ k s hs) h
theorem zmD {n:Nat}:∀ {ss:Jq} {lo:Nat} {u:Vc},Ech n lo ss->SpL ss u->(∀ t∈ss,0≤u (hd t)∧u (hd t)<vec t (hd t))->∀ i,u i=0
 | [],_,u,_,h,_,i=>Sp.at0 (λ_ ⟨_,z,_⟩=>by simp at z) h
 | s :: ss,lo,u,e,h,k,i=>by
  obtain ⟨w,y,hw,hu⟩:=h.cons
  have e1:=SpL.before e.2.2.2.2 ↑205 hw
  have e2:=hu (hd s)
  have e3:=k s ↑3
  have e4:=e.2.2.2.1
  rw [e1] at e2
  have y0:y=0:=by
   rw [e2,Int.zero_add] at e3
   refine Classical.byContradiction λq=>?_
   rcases Int.lt_or_gt_of_ne q with q | q
   ·have:=Int.mul_neg_of_neg_of_pos q e4
    omega
   ·have:=Int.mul_le_mul_of_nonneg_right (show (1:Int)≤y by omega) (Int.le_of_lt e4)
    omega
  have hu':∀ i,u i=w i:=λi=>by rw [hu i,y0];omega
  have:u=w:=funext hu'
  subst this
  exact zmD e.2.2.2.2 hw (λt ht=>k t (⇑3 _ ht)) i
theorem zhZ {n:Nat}:∀ {ss:Jq} {lo:Nat} {u:Vc} {t:Ji},Ech n lo ss->SpL ss u->t∈ss->(∀ i,i<hd t->u i=0)->vec t (hd t) ∣ u (hd t)
 | [],_,_,t,_,_,h,_=>by simp at h
 | s :: ss,lo,u,t,e,h,ht,k=>by
  obtain ⟨w,y,hw,hu⟩:=h.cons
  have e1:=SpL.before e.2.2.2.2 ↑205 hw
  rcases List.mem_cons.mp ht with rfl | ht
  ·rw [hu,e1];exact ⟨y,by grind⟩
  ·have e5:=(Ech.mem e.2.2.2.2 t ht).2.1
   have e6:=hu (hd s)
   rw [k (hd s) ⇑0,e1] at e6
   have y0:y=0:=(Int.mul_eq_zero.mp (show y*vec s (hd s)=0 by omega)).resolve_right (by have:=e.2.2.2.1;omega)
   have:u=w:=funext λi=>by rw [hu i,y0];omega
   subst this
   exact zhZ e.2.2.2.2 hw ht k
theorem zgt {n:Nat}:∀ {ss:Jq} {lo:Nat} {u:Vc} {h:Nat},Ech n lo ss->SpL ss u->(∀ i,i<h->u i=0)->u h≠0->∃ t∈ss,hd t=h
 | [],_,u,h,_,hu,_,q=>(q (Sp.at0 (λ_ ⟨_,z,_⟩=>by simp at z) hu)).elim
 | s :: ss,lo,u,h,e,hu,k,q=>by
  obtain ⟨w,y,hw,hu⟩:=hu.cons
  by_cases z:hd s=h
  ·exact ⟨s,List.mem_cons_self,z⟩
  ·have e1:=SpL.before e.2.2.2.2 ↑205 hw
   by_cases y0:y=0
   ·have:u=w:=funext λi=>by rw [hu i,y0];omega
    subst this
    obtain ⟨t,ht,e⟩:=zgt e.2.2.2.2 hw k q
    exact ⟨t,⇑3 _ ht,e⟩
   ·have e6:=hu (hd s)
    rw [e1,Int.zero_add] at e6
    have e7:u (hd s)≠0:=by
     rw [e6];intro z;rcases Int.mul_eq_zero.mp z with z | z
     ·exact y0 z
     ·have:=e.2.2.2.1;omega
    have e8:h<hd s:=Nat.lt_of_not_le λz'=>e7 (k _ ⇑0)
    have e9:w h=0:=SpL.before e.2.2.2.2 (Nat.lt_succ_of_lt e8) hw
    rw [hu h,e9,zbl e8] at q
    simp at q
theorem zbW {n:Nat}:∀ {ss:Jq} {lo:Nat} {l:Ji},Ech n lo ss->l.length=n →
  (low l ss).length=n∧SpL ss (λi=>vec l i-vec (low l ss) i)∧(∀ t∈ss,0≤vec (low l ss) (hd t)∧vec (low l ss) (hd t)<vec t (hd t))∧∀ i,i<lo->vec (low l ss) i=vec l i
 | [],lo,l,_,h=>⟨h,Sp.zero.conv λi=>by show (0:Int)=vec l i-vec l i;omega,by simp,λ_ _=>rfl⟩
 | s :: ss,lo,l,e,h=>by
  have hl:l.length=s.length:=by rw [h,e.1]
  obtain ⟨a,b,c,d⟩:=zbW (l:=ziX l s) e.2.2.2.2 (by rw [zgv hl,h])
  refine ⟨a,?_,λt ht=>?_,λi hi=>?_⟩
  ·refine ((SpL.up (s:=s) b).plus (((SpL.mem (ss:=s::ss) ↑3)).smul (quo l s))).conv λi=>?_
   rw [zgF hl]
   show vec l i-vec s i*quo l s-vec (low (ziX l s) ss) i+quo l s*vec s i=vec l i-vec (low (ziX l s) ss) i
   rw [Int.mul_comm (quo l s)];omega
  ·rcases List.mem_cons.mp ht with rfl | ht
   ·show 0≤vec (low (ziX l t) ss) (hd t)∧vec (low (ziX l t) ss) (hd t)<_
    rw [d (hd t) (Nat.lt_succ_self _),zgF hl]
    have p:=e.2.2.2.1
    have e1:=Int.mul_ediv_add_emod (vec l (hd t)) (vec t (hd t))
    have e2:=Int.emod_nonneg (vec l (hd t)) (show vec t (hd t)≠0 by omega)
    have e3:=Int.emod_lt_of_pos (vec l (hd t)) p
    unfold quo
    omega
   ·exact c t ht
  ·show vec (low (ziX l s) ss) i=_
   have:=e.2.1
   rw [d i ⇑0,zgF hl,zbl (show i<hd s by omega)];omega
abbrev G4:=Int×Int×Int×Int
noncomputable def cmC (s:G4):Bool:=!decide (s.2.1=(0:Int))
noncomputable def cmF (s:G4):G4:=(s.2.1,s.1-s.1/s.2.1*s.2.1,s.2.2.2,s.2.2.1-s.1/s.2.1*s.2.2.2)
structure GI (one other:Int) (s:G4):Prop where
 g:0<s.1
 m:0≤s.2.1
 gb:s.1≤one+other
 mb:s.2.1≤one+other
 tb:-other≤s.2.2.1∧s.2.2.1≤other
 lb:-other≤s.2.2.2∧s.2.2.2≤other
 sg:(0≤s.2.2.1∧s.2.2.2≤0∧s.2.1*s.2.2.1-s.1*s.2.2.2=other)∨(s.2.2.1≤0∧0≤s.2.2.2∧s.1*s.2.2.2-s.2.1*s.2.2.1=other)
 bg:∃ y,s.1=s.2.2.1*one+y*other
 bm:∃ y,s.2.1=s.2.2.2*one+y*other
 d1:∃ p q,one=p*s.1+q*s.2.1
 d2:∃ p q,other=p*s.1+q*s.2.1
theorem GI.start {one other:Int} (h1:0<one) (h2:0<other):GI one other (one,other,1,0) where
 g:=h1
 m:=by show 0≤other;omega
 gb:=by show one≤one+other;omega
 mb:=by show other≤one+other;omega
 tb:=by show -other≤1∧1≤other;omega
 lb:=by show -other≤0∧0≤other;omega
 sg:=.inl (by show (0:Int)≤1∧(0:Int)≤0∧other*1-one*0=other;omega)
 bg:=⟨0,by show one=1*one+0*other;omega⟩
 bm:=⟨1,by show other=0*one+1*other;omega⟩
 d1:=⟨1,0,by show one=1*one+0*other;omega⟩
 d2:=⟨0,1,by show other=0*one+1*other;omega⟩
theorem GI.step {one other:Int} {s:G4} (I:GI one other s) (hc:cmC s=true):GI one other (cmF s)∧(cmF s).2.1.toNat<s.2.1.toNat:=by
 obtain ⟨g,m,t,l⟩:=s
 obtain ⟨h1,h2,h3,h4,h5,h6,h7,⟨y1,h8⟩,⟨y2,h9⟩,⟨p1,q1,hA⟩,⟨p2,q2,hB⟩⟩:=I
 simp only at h1 h2 h3 h4 h5 h6 h7 h8 h9 hA hB
 have hm:0<m:=by
  unfold cmC at hc
  simp only [Bool.not_eq_true',decide_eq_false_iff_not] at hc
  omega
 have e1:=Int.mul_ediv_add_emod g m
 have e2:=Int.emod_nonneg g (show m≠0 by omega)
 have e3:=Int.emod_lt_of_pos g hm
 have e4:0≤g/m:=Int.ediv_nonneg ⇑0 ⇑0
 have e5:g-g/m*m=g%m:=by rw [Int.mul_comm];omega
 show GI one other (m,g-g/m*m,l,t-g/m*l)∧(g-g/m*m).toNat<m.toNat
 rw [e5]
 generalize hq:g/m=q at *
 generalize hr:g%m=r at *
 have eg:g=m*q+r:=by omega
 have sg:(0≤l∧t-q*l≤0∧r*l-m*(t-q*l)=other)∨(l≤0∧0≤t-q*l∧m*(t-q*l)-r*l=other):=by
  rcases h7 with ⟨a,b,c⟩ | ⟨a,b,c⟩
  ·refine .inr ⟨b,?_,by grind⟩
   have:=Int.mul_nonneg e4 (show (0:Int)≤-l by omega)
   grind
  ·refine .inl ⟨b,?_,by grind⟩
   have:=Int.mul_nonneg e4 b
   omega
 have hl:-other≤t-q*l∧t-q*l≤other:=by
  rcases sg with ⟨a,b,c⟩ | ⟨a,b,c⟩
  ·have k1:=Int.mul_nonneg e2 a
   have k2:=Int.mul_le_mul_of_nonneg_right (show (1:Int)≤m by omega) (show (0:Int)≤-(t-q*l) by omega)
   have k3:m*-(t-q*l)=-(m*(t-q*l)):=by grind
   rw [k3] at k2
   omega
  ·have k1:=Int.mul_nonneg e2 (show (0:Int)≤-l by omega)
   have k2:=Int.mul_le_mul_of_nonneg_right (show (1:Int)≤m by omega) b
   have k3:r*-l=-(r*l):=by grind
   rw [k3] at k1
   omega
 refine ⟨⟨hm,e2,h4,by show r≤_;omega,h6,hl,sg,⟨y2,h9⟩,⟨y1-q*y2,?_⟩,⟨p1*q+q1,p1,?_⟩,⟨p2*q+q2,p2,?_⟩⟩,by omega⟩
 ·show r=(t-q*l)*one+(y1-q*y2)*other
  grind
 ·show one=(p1*q+q1)*m+p1*r
  grind
 ·show other=(p2*q+q2)*m+p2*r
  grind
structure Cm (one other g x y:Int):Prop where
 pos:0<g
 le:g≤one+other
 xb:-other≤x∧x≤other
 eq:g=x*one+y*other
 d1:one/g*g=one
 d2:other/g*g=other
theorem GI.done {one other:Int} {s:G4} (h2:0<other) (I:GI one other s) (hc:cmC s=false):Cm one other s.1 s.2.2.1 ((s.1-s.2.2.1*one)/other):=by
 obtain ⟨g,m,t,l⟩:=s
 obtain ⟨h1,_,h3,_,h5,_,_,⟨y1,h8⟩,_,⟨p1,q1,hA⟩,⟨p2,q2,hB⟩⟩:=I
 simp only at h1 h3 h5 h8 hA hB
 have hm:m=0:=by
  unfold cmC at hc
  simpa using hc
 subst hm
 have e:(g-t*one)/other=y1:=by
  rw [show g-t*one=y1*other by omega]
  exact Int.mul_ediv_cancel _ ⇑0
 refine ⟨h1,h3,h5,?_,?_,?_⟩
 ·show g=t*one+(g-t*one)/other*other
  rw [e];exact h8
 ·exact Int.ediv_mul_cancel ⟨p1,by show one=g*p1;rw [Int.mul_comm];omega⟩
 ·exact Int.ediv_mul_cancel ⟨p2,by show other=g*p2;rw [Int.mul_comm];omega⟩
noncomputable def mg1 (s l:Ji) (x y:Int):Ji:=add (mul s x) (mul l y)
noncomputable def mg2 (s l:Ji) (g:Int):Ji:=sub (mul l (vec s (hd s)/g)) (mul s (vec l (hd s)/g))
theorem zhY {s l:Ji} {x y:Int} (h:s.length=l.length) (i:Nat):vec (mg1 s l x y) i=x*vec s i+y*vec l i:=by
 unfold mg1
 rw [zlM (by rw [zbw,zbw,h]),zd4,zd4,Int.mul_comm,Int.mul_comm (vec l i)]
theorem zjy {s l:Ji} {g:Int} (h:s.length=l.length) (i:Nat):vec (mg2 s l g) i=vec s (hd s)/g*vec l i-vec l (hd s)/g*vec s i:=by
 unfold mg2
 rw [zlg (by rw [zbw,zbw,h]),zd4,zd4,Int.mul_comm,Int.mul_comm (vec s i)]
theorem zoV {s l:Ji} {x y:Int} (h:s.length=l.length):((mg1 s l x y)).length=s.length:=by unfold mg1;rw [zlJ (by rw [zbw,zbw,h]),zbw]
theorem zo8 {s l:Ji} {g:Int} (h:s.length=l.length):((mg2 s l g)).length=s.length:=by unfold mg2;rw [znV (by rw [zbw,zbw,h]),zbw,h]
theorem znT {s l:Ji} {g x y:Int} (h:s.length=l.length) (C:Cm (vec s (hd s)) (vec l (hd s)) g x y) (i:Nat) :
  vec s i=vec s (hd s)/g*vec (mg1 s l x y) i-y*vec (mg2 s l g) i∧vec l i=vec l (hd s)/g*vec (mg1 s l x y) i+x*vec (mg2 s l g) i:=by
 rw [zhY h,zjy h]
 have e1:=C.eq
 have e2:=C.d1
 have e3:=C.d2
 have e4:=C.pos
 generalize vec s (hd s)=a at *
 generalize vec l (hd s)=b at *
 generalize a/g=p at *
 generalize b/g=q at *
 have u:x*p+y*q=1:=by
  have:(x*p+y*q-1)*g=0:=by grind
  rcases Int.mul_eq_zero.mp this with z | z<;>omega
 constructor<;>grind
noncomputable def upr (l:Ji):Ji:=bif decide (vec l (hd l)<(0:Int)) then mul l ↑16 else l
theorem zo3 {l:Ji}:(upr l).length=l.length:=by
 unfold upr
 cases decide (vec l (hd l)<(0:Int))
 ·rfl
 ·exact zbw
theorem zlI {l:Ji}:∃ c:Int,c*c=1∧(∀ i,vec (upr l) i=c*vec l i)∧0≤c*vec l (hd l):=by
 unfold upr
 by_cases q:vec l (hd l)<0
 ·rw [show decide (vec l (hd l)<(0:Int))=true by simp [q]]
  exact ⟨-1,by decide,λi=>by show vec (mul l ↑16) i=_;rw [zd4];omega,by omega⟩
 ·rw [show decide (vec l (hd l)<(0:Int))=false by simp [q]]
  exact ⟨1,by decide,λi=>by show vec l i=_;omega,by omega⟩
theorem zqQ {l:Ji} (h:hd l<l.length):hd (upr l)=hd l∧0<vec (upr l) (hd l):=by
 obtain ⟨c,c1,c2,c3⟩:=zlI (l:=l)
 have e:=zg9 h
 have c0:c≠0:=by intro z;subst z;simp at c1
 have e1:c*vec l (hd l)≠0:=λz=>by
  rcases Int.mul_eq_zero.mp z with z | z
  ·exact c0 z
  ·exact e z
 refine ⟨zjo (by rw [c2];exact e1) λi hi=>by rw [c2,zbl hi];simp,by rw [c2];omega⟩
theorem zqU {l:Ji} {ss:Jq} (h:SpL ss (vec l)):SpL ss (vec (upr l)):=by
 obtain ⟨c,_,c2,_⟩:=zlI (l:=l)
 exact (Sp.smul c h).conv λi=>(c2 i).symm
theorem zoG {l:Ji} {ss:Jq} (h:SpL ss (vec (upr l))):SpL ss (vec l):=by
 obtain ⟨c,c1,c2,_⟩:=zlI (l:=l)
 exact (Sp.smul c h).conv λi=>by rw [c2,← Int.mul_assoc,c1,Int.one_mul]
structure Mg where
 f:Int->Int->Int×Int×Int
 ok:∀ a b:Int,0<a->0<b->Cm a b (f a b).1 (f a b).2.1 (f a b).2.2
noncomputable def tin (M:Mg):Jq->Ji->Jq
 | [],l=>bif decide (hd l<l.length) then [upr l] else []
 | s :: ss,l=>bif decide (hd l<hd s) then upr l :: s :: ss else
   bif decide (hd l=hd s) then mg1 s l (↑191).2.1 (↑191).2.2 :: tin M ss (low (mg2 s l (↑191).1) ss) else s :: tin M ss l
theorem zgM (M:Mg) {n:Nat}:∀ {ss:Jq} {lo:Nat} {l:Ji},Ech n lo ss->l.length=n->(∀ i,i<lo->vec l i=0)->(∀t∈ss,0≤vec l (hd t)∧vec l (hd t)<vec t (hd t))->lo≤n →
  Ech n lo (tin M ss l)∧(tin M ss l).length≤ss.length+1∧(∀ t∈tin M ss l,SpL (l :: ss) (vec t))∧(∀ t∈l :: ss,SpL (tin M ss l) (vec t))
 | [],lo,l,_,hl,h0,_,hlo=>by
  unfold tin
  by_cases q:hd l<l.length
  ·rw [show decide (hd l<l.length)=true by simp [q],cond_true]
   obtain ⟨e1,e2⟩:=zqQ q
   refine ⟨⟨by rw [zo3,hl],by rw [e1];exact zr5 ⇑0 h0,by rw [e1];omega,by rw [e1];exact e2,trivial⟩,by simp,λt ht=>?_,λt ht=>?_⟩
   ·rw [List.mem_singleton.mp ht];exact zqU (SpL.mem ↑3)
   ·rw [List.mem_singleton.mp ht];exact zoG (SpL.mem ↑3)
  ·rw [show decide (hd l<l.length)=false by simp [q],cond_false]
   have hz:hd l=l.length:=by have:=znr (l:=l);omega
   refine ⟨trivial,by simp,by simp,λt ht=>?_⟩
   rw [List.mem_singleton.mp ht]
   exact Sp.zero.conv λi=>by
    by_cases z:i<l.length
    ·rw [zbl ⇑0]
    ·rw [za8 ⇑0]
 | s :: ss,lo,l,e,hl,h0,hr,hlo=>by
  unfold tin
  have hsl:s.length=l.length:=by rw [e.1,hl]
  by_cases q:hd l<hd s
  ·rw [show decide (hd l<hd s)=true by simp [q],cond_true]
   have hsn:=e.2.2.1
   obtain ⟨e1,e2⟩:=zqQ (l:=l) ⇑0
   refine ⟨⟨by rw [zo3,hl],by rw [e1];exact zr5 ⇑0 h0,by rw [e1];omega,by rw [e1];exact e2,e.1,by rw [e1];omega,e.2.2⟩,by simp,λt ht=>?_,λt ht=>?_⟩
   ·rcases List.mem_cons.mp ht with rfl | ht
    ·exact zqU (SpL.mem ↑3)
    ·exact SpL.mem (⇑3 _ ht)
   ·rcases List.mem_cons.mp ht with rfl | ht
    ·exact zoG (SpL.mem ↑3)
    ·exact SpL.mem (⇑3 _ ht)
  ·rw [show decide (hd l<hd s)=false by simp [q],cond_false]
   by_cases z:hd l=hd s
   ·rw [show decide (hd l=hd s)=true by simp [z],cond_true]
    have hb:0<vec l (hd s):=by
     have:=(hr s ↑3).1
     have:=zg9 (l:=l) (by rw [z,hl];exact e.2.2.1)
     rw [z] at this;omega
    have C:=M.ok _ _ e.2.2.2.1 hb
    generalize hg:(↑191).1=g at *
    generalize hx:(↑191).2.1=x at *
    generalize hy:(↑191).2.2=y at *
    have f0:∀ i,i<hd s->vec (mg1 s l x y) i=0:=λi hi=>by rw [zhY hsl,zbl hi,zbl (show i<hd l by omega)];omega
    have f1:vec (mg1 s l x y) (hd s)=g:=by rw [zhY hsl];exact C.eq.symm
    have f2:hd (mg1 s l x y)=hd s:=zjo (by rw [f1];have:=C.pos;omega) f0
    have g0:∀ i,i<hd s+1->vec (mg2 s l g) i=0:=λi hi=>by
     rw [zjy hsl]
     by_cases zi:i=hd s
     ·subst zi
      have:=C.d1;have:=C.d2
      generalize vec s (hd s)/g=p at *
      generalize vec l (hd s)/g=r at *
      generalize vec s (hd s)=a at *
      generalize vec l (hd s)=b at *
      grind
     ·rw [zbl (show i<hd s by omega),zbl (show i<hd l by omega)];omega
    obtain ⟨k1,k2,k3,k4⟩:=zbW (l:=mg2 s l g) e.2.2.2.2 (by rw [zo8 hsl,e.1])
    obtain ⟨i1,i2,i3,i4⟩:=zgM M (l:=low (mg2 s l g) ss) e.2.2.2.2 k1 (λi hi=>by rw [k4 i hi,g0 i hi]) k3 (by have:=e.2.2.1;omega)
    have low_in:∀ {tt:Jq},(∀t∈ss,SpL tt (vec t))->SpL tt (vec (mg2 s l g))->SpL tt (vec (low (mg2 s l g) ss)):=λh1 h2=>(Sp.lin 1 (-1) h2 (k2.sub h1)).conv λi=>by omega
    have low_out:∀ {tt:Jq},(∀t∈ss,SpL tt (vec t))->SpL tt (vec (low (mg2 s l g) ss))->SpL tt (vec (mg2 s l g)):=λh1 h2=>(Sp.plus h2 (k2.sub h1)).conv λi=>by omega
    have hS:SpL (l :: s :: ss) (vec s):=SpL.mem (⇑3 _ ↑3)
    have hL:SpL (l :: s :: ss) (vec l):=SpL.mem ↑3
    refine ⟨⟨by rw [zoV hsl,e.1],by rw [f2];exact e.2.1,by rw [f2];exact e.2.2.1,by rw [f2,f1];exact C.pos,by rw [f2];exact i1⟩,by simp only [List.length_cons];omega,λt ht=>?_,λt ht=>?_⟩
    ·rcases List.mem_cons.mp ht with rfl | ht
     ·exact (Sp.lin x y hS hL).conv λi=>(zhY hsl i).symm
     ·refine (i3 t ht).sub λv hv=>?_
      rcases List.mem_cons.mp hv with rfl | hv
      ·refine low_in (λt ht=>SpL.mem (⇑3 _ (⇑3 _ ht))) ((Sp.lin (vec s (hd s)/g) (-(vec l (hd s)/g)) hL hS).conv λi=>?_)
       rw [zjy hsl];grind
      ·exact SpL.mem (⇑3 _ (⇑3 _ hv))
    ·have u1:∀ v∈low (mg2 s l g) ss :: ss,SpL (mg1 s l x y::tin M ss (low (mg2 s l g) ss)) (vec v):=λv hv=>(i4 v hv).up
     have u2:=low_out (λt ht=>u1 t (⇑3 _ ht)) (u1 _ ↑3)
     have u3:SpL (mg1 s l x y::tin M ss (low (mg2 s l g) ss)) (vec (mg1 s l x y)):=SpL.mem ↑3
     rcases List.mem_cons.mp ht with rfl | ht
     ·exact (Sp.lin (vec t (hd s)/g) x u3 u2).conv λi=>((znT hsl C i).2).symm
     ·rcases List.mem_cons.mp ht with rfl | ht
      ·exact (Sp.lin (vec t (hd t)/g) (-y) u3 u2).conv λi=>by rw [(znT hsl C i).1];grind
      ·exact u1 t (⇑3 _ ht)
   ·rw [show decide (hd l=hd s)=false by simp [z],cond_false]
    obtain ⟨i1,i2,i3,i4⟩:=zgM M (l:=l) e.2.2.2.2 hl (λi hi=>zbl ⇑0) (λt ht=>hr t (⇑3 _ ht)) (by have:=e.2.2.1;omega)
    refine ⟨⟨e.1,e.2.1,e.2.2.1,e.2.2.2.1,i1⟩,by simp only [List.length_cons];omega,λt ht=>?_,λt ht=>?_⟩
    ·rcases List.mem_cons.mp ht with rfl | ht
     ·exact SpL.mem (⇑3 _ ↑3)
     ·refine (i3 t ht).sub λv hv=>?_
      rcases List.mem_cons.mp hv with rfl | hv
      ·exact SpL.mem ↑3
      ·exact SpL.mem (⇑3 _ (⇑3 _ hv))
    ·rcases List.mem_cons.mp ht with rfl | ht
     ·exact (i4 t ↑3).up
     ·rcases List.mem_cons.mp ht with rfl | ht
      ·exact SpL.mem ↑3
      ·exact (i4 t (⇑3 _ ht)).up
noncomputable def stl:Jq->Jq
 | []=>[]
 | s :: ss=>low s (stl ss) :: stl ss
def Red:Jq->Prop
 | []=>True
 | s :: ss=>(∀ t∈ss,0≤vec s (hd t)∧vec s (hd t)<vec t (hd t))∧Red ss
theorem zlS {n:Nat}:∀ {ss:Jq} {lo:Nat},Ech n lo ss->Ech n lo (stl ss)∧Red (stl ss)∧(stl ss).length=ss.length∧(∀ t∈stl ss,SpL ss (vec t))∧∀ t∈ss,SpL (stl ss) (vec t)
 | [],_,_=>⟨trivial,trivial,rfl,by simp [stl],by simp⟩
 | s :: ss,lo,e=>by
  obtain ⟨a,b,c,d,f⟩:=zlS e.2.2.2.2
  obtain ⟨k1,k2,k3,k4⟩:=zbW (l:=s) a e.1
  have h1:hd (low s (stl ss))=hd s:=zjo (by rw [k4 _ (Nat.lt_succ_self _)];have:=e.2.2.2.1;omega) λi hi=>by rw [k4 _ ⇑0,zbl hi]
  refine ⟨⟨k1,by rw [h1];exact e.2.1,by rw [h1];exact e.2.2.1,by rw [h1,k4 _ (Nat.lt_succ_self _)];exact e.2.2.2.1,by rw [h1];exact a⟩,⟨k3,b⟩,by simp [stl,c],λt ht=>?_,λt ht=>?_⟩
  ·rcases List.mem_cons.mp ht with rfl | ht
   ·exact (Sp.lin 1 (-1) (SpL.mem (ss:=s::ss) ↑3) (k2.sub λv hv=>(d v hv).up)).conv λi=>by omega
   ·exact (d t ht).up
  ·rcases List.mem_cons.mp ht with rfl | ht
   ·exact (Sp.plus (SpL.mem (ss:=stl (t :: ss)) (s:=low t (stl ss)) ↑3) (k2.sub λv hv=>SpL.mem (⇑3 _ hv))).conv λi=>by omega
   ·exact (f t ht).up
noncomputable def clm (M:Mg) (rows:Jq):Jq:=rows.foldl (λss r=>stl (tin M ss (low r ss))) []
structure Stairs (n:Nat) (rows ss:Jq):Prop where
 ech:Ech n 0 ss
 red:Red ss
 inn:∀ t∈ss,SpL rows (vec t)
 out:∀ r∈rows,SpL ss (vec r)
theorem Stairs.nil {n:Nat}:Stairs n [] []:=⟨trivial,trivial,by simp,by simp⟩
theorem Stairs.step {n:Nat} {rows ss:Jq} {r:Ji} (M:Mg) (h:Stairs n rows ss) (hr:r.length=n):Stairs n (rows++[r]) (stl (tin M ss (low r ss)))∧(stl (tin M ss (low r ss))).length≤ss.length+1:=by
 obtain ⟨k1,k2,k3,_⟩:=zbW (l:=r) h.ech hr
 obtain ⟨t1,t2,t3,t4⟩:=zgM M h.ech k1 (λi hi=>absurd hi (Nat.not_lt_zero i)) k3 (Nat.zero_le n)
 obtain ⟨s1,s2,s3,s4,s5⟩:=zlS t1
 have inn:∀ t∈ss,SpL (rows++[r]) (vec t):=λt ht=>(h.inn t ht).sub λv hv=>SpL.mem (List.mem_append_left _ hv)
 have hr':SpL (rows++[r]) (vec r):=SpL.mem (List.mem_append_right _ ↑3)
 have f1:∀ t∈low r ss :: ss,SpL (stl (tin M ss (low r ss))) (vec t):=λt ht=>(t4 t ht).sub s5
 refine ⟨⟨s1,s2,λt ht=>(s4 t ht).sub λv hv=>(t3 v hv).sub λw hw=>?_,λt ht=>?_⟩,by rw [s3];exact t2⟩
 ·rcases List.mem_cons.mp hw with rfl | hw
  ·exact (Sp.lin 1 (-1) hr' (k2.sub inn)).conv λi=>by omega
  ·exact inn w hw
 ·rcases List.mem_append.mp ht with ht | ht
  ·exact (h.out t ht).sub λv hv=>f1 v (⇑3 _ hv)
  ·rw [List.mem_singleton.mp ht]
   exact (Sp.plus (f1 _ ↑3) (k2.sub λv hv=>f1 v (⇑3 _ hv))).conv λi=>by omega
theorem zpd {n:Nat}:∀ {ss:Jq} {lo:Nat},Ech n lo ss->Red ss->∀ t∈ss,∀ t'∈ss,hd t'<hd t∨t=t'∨(0≤vec t (hd t')∧vec t (hd t')<vec t' (hd t'))
 | [],_,_,_,t,h,_,_=>by simp at h
 | s :: ss,lo,e,r,t,ht,t',ht'=>by
  rcases List.mem_cons.mp ht with h1 | h1
  ·rcases List.mem_cons.mp ht' with h2 | h2
   ·exact .inr (.inl (h1.trans h2.symm))
   ·rw [h1];exact .inr (.inr (r.1 t' h2))
  ·rcases List.mem_cons.mp ht' with h2 | h2
   ·rw [h2]
    have:=(Ech.mem e.2.2.2.2 t h1).2.1
    exact .inl ⇑0
   ·exact zpd e.2.2.2.2 r.2 t h1 t' h2
theorem zfe {n:Nat}:∀ {ss:Jq} {lo:Nat},Ech n lo ss->lo≤n->ss.length+lo≤n
 | [],_,_,h=>by simpa using h
 | s :: ss,lo,e,h=>by
  have:=zfe e.2.2.2.2 (by have:=e.2.2.1;omega)
  have:=e.2.1
  simp only [List.length_cons]
  omega
abbrev Rw (rows:Jq):Vc->Prop:=λu=>∃ r∈rows,u=vec r
theorem zlQ {B E R:Nat} (hE:bnd R B B≤E):∀ (k:Nat) (rows:Jq),rows.length=k->k≤R+1->(∀ r∈rows,∀ x∈r,x.natAbs≤B)->∃ hs as,Wit (Rw rows) B E hs as∧as.length≤rows.length
 | 0,rows,h,_,_=>by
  rw [List.length_eq_zero_iff.mp h]
  refine ⟨[],[],?_,by simp⟩
  have e:Rw []=λ_=>False:=funext λu=>propext ⟨λ⟨_,z,_⟩=>by simp at z,λz=>z.elim⟩
  rw [e]
  exact Wit.nil
 | k+1,rows,h,hk,hb=>by
  have hne:rows≠[]:=by intro z;rw [z] at h;simp at h
  obtain ⟨rs,r,rfl⟩:∃ rs r,rows=rs++[r]:=⟨rows.dropLast,rows.getLast hne,(List.dropLast_concat_getLast hne).symm⟩
  have hl:rs.length=k:=by simpa using h
  obtain ⟨hs,as,W,h1⟩:=zlQ hE k rs hl ⇑0 λr hr=>hb r (List.mem_append_left _ hr)
  obtain ⟨hs',as',W',h2⟩:=W.step (a:=vec r) (λi=>zqN (hb r (List.mem_append_right _ ↑3)) i) (⇑6 (zmt ⇑0) hE)
  refine ⟨hs',as',?_,by simp only [List.length_append,List.length_singleton];omega⟩
  have e:Rw (rs++[r])=λu=>Rw rs u∨u=vec r:=funext λu=>propext ⟨λ⟨s,hs,e⟩=>by
   rcases List.mem_append.mp hs with z | z
   ·exact .inl ⟨s,z,e⟩
   ·rw [List.mem_singleton.mp z] at e;exact .inr e,λz=>by
   rcases z with ⟨s,hs,e⟩ | z
   ·exact ⟨s,List.mem_append_left _ hs,e⟩
   ·exact ⟨r,List.mem_append_right _ ↑3,z⟩⟩
  rw [e]
  exact W'
theorem Stairs.wit {n B E:Nat} {rows ss:Jq} {hs:List Nat} {as:List Vc} (h:Stairs n rows ss) (W:Wit (Rw rows) B E hs as) (hBE:B≤E):∀ t∈ss,((vec t (hd t))).natAbs≤E∧∀ i,(vec t i).natAbs≤bnd as.length B E:=by
 have hd1:∀ t∈ss,((vec t (hd t))).natAbs≤E:=λt ht=>by
  obtain ⟨m1,m2,m3,m4⟩:=h.ech.mem t ht
  obtain ⟨v,v1,v2,v3,v4⟩:=W.hd _ (W.head (h.inn t ht) (λi hi=>zbl hi) ⇑0)
  have d:=zhZ h.ech (v1.sub λa ⟨r,hr,e⟩=>e ▸ h.out r hr) ht v2
  exact ⇑6 (Nat.le_of_dvd (Int.natAbs_pos.mpr v3) (Int.natAbs_dvd_natAbs.mpr d)) (v4 _)
 refine λt ht=>⟨hd1 t ht,λi=>W.small hBE (h.inn t ht) (λg hg=>?_) i⟩
 obtain ⟨v,v1,v2,v3,v4⟩:=W.hd g hg
 obtain ⟨t',ht',rfl⟩:=zgt h.ech (v1.sub λa ⟨r,hr,e⟩=>e ▸ h.out r hr) v2 v3
 rcases zpd h.ech h.red t ht t' ht' with z | rfl | ⟨z1,z2⟩
 ·rw [zbl z];exact Nat.zero_le _
 ·exact hd1 t ht
 ·have:=hd1 t' ht';omega
theorem zmi {k R b c:Nat} (hk:k≤R) (hR:R≤31) (hbc:b≤c):bnd k (2^b) (2^c)≤2^((c+7)*(R+1)):=by
 refine ⇑6 (zmt hk) ?_
 unfold bnd
 have h1:R+1≤2^5:=by omega
 have h2:2*((R+1)*2^c)+1≤2^(c+7):=by
  have e1:(R+1)*2^c≤2^5*2^c:=Nat.mul_le_mul_right _ h1
  have e2:2^(c+7)=4*(2^5*2^c):=by rw [Nat.pow_add];omega
  have e3:0<2^c:=Nat.pow_pos ↥1
  omega
 calc (R+1)*((2*((R+1)*2^c)+1)^R*2^b)≤2^5*((2^(c+7))^R*2^b):=Nat.mul_le_mul h1 (Nat.mul_le_mul_right _ (Nat.pow_le_pow_left h2 _))
  _=2^(5+((c+7)*R+b)):=by rw [← Nat.pow_mul,← Nat.pow_add,← Nat.pow_add]
  _≤2^((c+7)*(R+1)):=Nat.pow_le_pow_right ↥1 (by rw [Nat.mul_add];omega)
def Bit (a:Nat) (l:Ji):Prop:=∀ x∈l,x.natAbs≤2^a
theorem Bit.vec {a:Nat} {l:Ji} (h:Bit a l) (i:Nat):(vec l i).natAbs≤2^a:=zqN h i
theorem Bit.of {a:Nat} {l:Ji} (h:∀ i,(Lat.vec l i).natAbs≤2^a):Bit a l:=λx hx=>by
 obtain ⟨i,_,rfl⟩:=zjG hx
 exact h i
theorem Bit.mono {a b:Nat} {l:Ji} (h:Bit a l) (k:a≤b):Bit b l:=λx hx=>⇑6 (h x hx) (Nat.pow_le_pow_right ↥1 k)
noncomputable def eB (b R:Nat):Nat:=(b+7)*(R+1)
noncomputable def sB (b R:Nat):Nat:=(eB b R+7)*(R+1)
theorem Stairs.bits {n b R:Nat} {rows ss:Jq} (h:Stairs n rows ss) (hR:R≤31) (hr:rows.length≤R) (hb:∀ r∈rows,Bit b r):∀ t∈ss,((vec t (hd t))).natAbs≤2^eB b R∧Bit (sB b R) t:=by
 obtain ⟨hs,as,W,hl⟩:=zlQ (B:=2^b) (E:=2^eB b R) (R:=R) (zmi (↑4 _) hR (↑4 _)) rows.length rows rfl ⇑0 hb
 have e:b≤eB b R:=by unfold eB;exact ⇑6 ⇑0 (Nat.le_mul_of_pos_right _ (Nat.succ_pos R))
 refine λt ht=>?_
 obtain ⟨a1,a2⟩:=h.wit W (Nat.pow_le_pow_right ↥1 e) t ht
 exact ⟨a1,Bit.of λi=>⇑6 (a2 i) (zmi (⇑6 hl hr) hR e)⟩
theorem zgl {x y a b:Nat} (h1:x≤2^a) (h2:y≤2^b):x*y≤2^(a+b):=by rw [Nat.pow_add];exact Nat.mul_le_mul h1 h2
theorem zka {x d:Int} (_h:0<d):(x/d).natAbs≤x.natAbs:=by
 have:=Int.natAbs_ediv_le_natAbs x d
 exact this
structure Sd (n s:Nat) (t:Ji):Prop where
 len:t.length=n
 hd:hd t<n
 pos:0<vec t (Lat.hd t)
 top:(vec t (Lat.hd t)).natAbs≤2^8980
 bit:Bit s t
theorem zo4 {n s a:Nat} {l t:Ji} (T:Sd n s t) (hb:Bit a l):(quo l t).natAbs≤2^a:=⇑6 (zka T.pos) (hb.vec _)
theorem zma {n s a:Nat} {l t:Ji} (T:Sd n s t) (hl:l.length=n) (hb:Bit a l):Bit (a+(s+1)) (ziX l t):=Bit.of λi=>by
 rw [zgF (by rw [hl,T.len])]
 have e1:=hb.vec i
 have e2:(vec t i*quo l t).natAbs≤2^(s+a):=by rw [Int.natAbs_mul];exact zgl (T.bit.vec i) (zo4 T hb)
 have e3:2^a≤2^(s+a):=Nat.pow_le_pow_right ↥1 ⇑0
 have e4:2^(a+(s+1))=2^(s+a)+2^(s+a):=by rw [show a+(s+1)=(s+a)+1 by omega,Nat.pow_succ];omega
 omega
theorem zg1 {n s:Nat}:∀ {ss:Jq} {a:Nat} {l:Ji},(∀ t∈ss,Sd n s t)->l.length=n->Bit a l->Bit (a+ss.length*(s+1)) (low l ss)
 | [],a,l,_,_,h=>by simpa [low] using h
 | t :: ss,a,l,T,hl,h=>by
  have T1:=T t ↑3
  have:=zg1 (ss:=ss) (λt ht=>T t (⇑3 _ ht)) (by rw [zgv (by rw [hl,T1.len]),hl]) (zma T1 hl h)
  refine Bit.mono this ?_
  rw [List.length_cons,Nat.succ_mul]
  omega
theorem Cm.bd {one other g x y:Int} (C:Cm one other g x y) (h2:0<other) (hy:y=(g-x*one)/other) {c:Nat} (b1:one.natAbs≤2^c) (b2:other.natAbs≤2^c):g.natAbs≤2^(c+1)∧x.natAbs≤2^c∧y.natAbs≤2^(2*c+2):=by
 have e1:=C.le
 have e2:=C.xb
 have e3:=C.pos
 have g1:g.natAbs≤2^(c+1):=by
  rw [Nat.pow_succ]
  omega
 have x1:x.natAbs≤2^c:=by omega
 refine ⟨g1,x1,?_⟩
 rw [hy]
 refine ⇑6 (zka h2) ?_
 have e4:(x*one).natAbs≤2^(c+c):=by rw [Int.natAbs_mul];exact zgl x1 b1
 have e5:2^(c+1)≤2^(c+c+1):=Nat.pow_le_pow_right ↥1 ⇑0
 have e6:2^(2*c+2)=2^(c+c+1)+2^(c+c+1):=by rw [show 2*c+2=(c+c+1)+1 by omega,Nat.pow_succ];omega
 have e7:2^(c+c)≤2^(c+c+1):=Nat.pow_le_pow_right ↥1 ⇑0
 omega
theorem zg7 {a g:Int} (hg:0<g) {c:Nat} (h:a.natAbs≤2^c):(a/g).natAbs≤2^c:=⇑6 (zka hg) h
theorem zrQ {n s a:Nat} {l t:Ji} {g x y:Int} (T:Sd n s t) (hl:l.length=n) (hb:Bit a l) (C:Cm (vec t (hd t)) (vec l (hd t)) g x y) (hlt:vec l (hd t)<vec t (hd t)) (h0:0≤vec l (hd t)):Bit (a+(s+8982)) (mg2 t l g):=Bit.of λi=>by
 rw [zjy (by rw [hl,T.len])]
 have e1:(vec t (hd t)/g*vec l i).natAbs≤2^(8980+a):=by rw [Int.natAbs_mul];exact zgl (zg7 C.pos T.top) (hb.vec i)
 have e2:(vec l (hd t)/g*vec t i).natAbs≤2^(8980+s):=by rw [Int.natAbs_mul];exact zgl (zg7 C.pos (by have:=T.top;omega)) (T.bit.vec i)
 have e3:2^(8980+a)≤2^(a+(s+8981)):=Nat.pow_le_pow_right ↥1 ⇑0
 have e4:2^(8980+s)≤2^(a+(s+8981)):=Nat.pow_le_pow_right ↥1 ⇑0
 have e5:2^(a+(s+8982))=2^(a+(s+8981))+2^(a+(s+8981)):=by rw [show a+(s+8982)=(a+(s+8981))+1 by omega,Nat.pow_succ];omega
 omega
theorem zq0 {n s a:Nat} {l t:Ji} {x y:Int} (T:Sd n s t) (hl:l.length=n) (hb:Bit a l) (hx:x.natAbs≤2^8980) (hy:y.natAbs≤2^17962):Bit (a+(s+17964)) (mg1 t l x y):=Bit.of λi=>by
 rw [zhY (by rw [hl,T.len])]
 have e1:(x*vec t i).natAbs≤2^(8980+s):=by rw [Int.natAbs_mul];exact zgl hx (T.bit.vec i)
 have e2:(y*vec l i).natAbs≤2^(17962+a):=by rw [Int.natAbs_mul];exact zgl hy (hb.vec i)
 have e3:2^(8980+s)≤2^(a+(s+17963)):=Nat.pow_le_pow_right ↥1 ⇑0
 have e4:2^(17962+a)≤2^(a+(s+17963)):=Nat.pow_le_pow_right ↥1 ⇑0
 have e5:2^(a+(s+17964))=2^(a+(s+17963))+2^(a+(s+17963)):=by rw [show a+(s+17964)=(a+(s+17963))+1 by omega,Nat.pow_succ];omega
 omega
theorem zn6 {a:Nat} {l:Ji} (h:Bit a l):Bit a (upr l):=by
 unfold upr
 cases decide (vec l (hd l)<(0:Int))
 ·exact h
 ·exact Bit.of λi=>by
   show (vec (mul l ↑16) i).natAbs≤_
   rw [zd4]
   have:=h.vec i
   omega
open L2
theorem zbc (l:Ji) (k:Nat):ixD l (k:Int)=vec l k:=by
 by_cases h:k<l.length
 ·rw [zbY (List.getElem?_eq_getElem h)]
  simp [vec,List.getD_eq_getElem?_getD,List.getElem?_eq_getElem h]
 ·rw [za8 ⇑0]
  unfold ixD atI ixN
  rw [if_pos ⇑0,if_neg ⇑0]
  rfl
theorem zfw {lo:Int} {n:Nat}:zbz lo (n+1)=lo :: zbz (lo+1) n:=by
 unfold zbz
 rw [List.range_succ_eq_map,List.map_cons,List.map_map]
 congr 1
 ·simp
 ·exact List.map_congr_left λi _=>by show lo+((i+1:Nat):Int)=lo+1+(i:Int);omega
noncomputable abbrev hdB:Unit->Int×Int->Unit ⊕ Int:=λ_ x=>bif (!decide (x.2=(0:Int))) then (Sum.inr x.1) else ↑28
theorem zoR:∀ (xs:Ji) (lo:Int),LetR (loopR hdB () ((zbz lo xs.length).zip xs)) (λ(_:Unit)=>lo+(xs.length:Int)) (λb=>b)=lo+(hd xs:Int)
 | [],lo=>rfl
 | x :: xs,lo=>by
  rw [List.length_cons,zfw,List.zip_cons_cons]
  unfold loopR hd
  cases q:(!decide (x=(0:Int))) with
  | true =>
   rw [show hdB () (lo,x)=.inr lo by unfold hdB;dsimp only;rw [q];rfl]
   show lo=lo+((0:Nat):Int)
   omega
  | false =>
   rw [show hdB () (lo,x)=.inl () by unfold hdB;dsimp only;rw [q];rfl]
   have:=zoR xs (lo+1)
   have e:(λ(_:Unit)=>lo+1+(xs.length:Int))=(λ(_:Unit)=>lo+((xs.length+1:Nat):Int)):=funext λ_=>by omega
   rw [e] at this
   show LetR (loopR hdB () ((zbz (lo+1) xs.length).zip xs)) _ _=_
   rw [this]
   show lo+1+(hd xs:Int)=lo+((hd xs+1:Nat):Int)
   omega
theorem zvr (xs:Ji):LetR (loopR hdB () (zfH xs)) (λ(_:Unit)=>((xs.length:Nat):Int)) (λb=>b)=(hd xs:Int):=by
 have:=zoR xs 0
 simp only [Int.zero_add] at this
 exact this
theorem zfX {α:Type} {xs:List α} {k:Nat}:zbI xs (some (k:Int)) none=xs.drop k:=by
 unfold zbI
 rw [HT.sIx_nat,HT.sIx_none]
 by_cases h:k≤xs.length
 ·rw [Nat.min_eq_left h,List.take_of_length_le ↑237]
 ·rw [Nat.min_eq_right ⇑0,List.drop_eq_nil_of_le ⇑0,List.drop_eq_nil_of_le ⇑0];simp
noncomputable def cmn (a b:Int):T3 Int Int Int:=Let (whl cmC cmF b.toNat (a,b,(1:Int),(0:Int))) (λ(r:G4)=>T3.mk r.1 r.2.2.1 ((r.1-(r.2.2.1*a))/b))
theorem znH {a b:Int} (h1:0<a) (h2:0<b):Cm a b (cmn a b).a (cmn a b).b (cmn a b).c:=by
 obtain ⟨i1,i2⟩:=zj0 (n:=b.toNat) (c:=cmC) (f:=cmF) (I:=GI a b) (μ:=λs=>s.2.1.toNat) (λs h c=>h.step c) (GI.start h1 h2) (↑4 _)
 exact i1.done h2 i2
theorem zuF {a b:Int}:(cmn a b).c=((cmn a b).a-(cmn a b).b*a)/b:=rfl
noncomputable def MG:Mg:=⟨λa b=>((cmn a b).a,(cmn a b).b,(cmn a b).c),λ_ _ h1 h2=>znH h1 h2⟩
noncomputable def mrg (s l:Ji):Ji×Ji:=(mg1 s l ((cmn (vec s (hd s)) (vec l (hd s)))).b ((cmn (vec s (hd s)) (vec l (hd s)))).c,mg2 s l ((cmn (vec s (hd s)) (vec l (hd s)))).a)
theorem zlO {s:Ji} {ss:Jq} {l:Ji}:tin MG (s :: ss) l=bif decide (hd l<hd s) then upr l :: s :: ss else bif decide (hd l=hd s) then (mrg s l).1 :: tin MG ss (low (mrg s l).2 ss) else s :: tin MG ss l:=rfl
abbrev TS2:=Jq×Ji
noncomputable def zm8 (steps:Jq):TS2->Int×Ji->TS2 ⊕ Jq:=λs x =>
 bif decide ((hd s.2:Int)<(hd x.2:Int)) then (Sum.inr ((s.1++[upr s.2])++(zbI steps (some x.1) none)))
 else Let (bif decide ((hd s.2:Int)=(hd x.2:Int)) then (s.1++[(mrg x.2 s.2).1]) else (s.1++[x.2])) (λ(g:Jq) =>
  Let (bif decide ((hd s.2:Int)=(hd x.2:Int)) then (low ((mrg x.2 s.2).2) (zbI steps (some (x.1+(1:Int))) none)) else s.2) (λ(l:Ji)=>Sum.inl (g,l)))
noncomputable abbrev zuk:TS2->Jq:=λr=>Let (bif decide ((hd r.2:Int)<((r.2.length:Nat):Int)) then (r.1++[upr r.2]) else r.1) (λ(g:Jq)=>g)
theorem zjB {steps:Jq}:∀ (ss:Jq) (k:Nat) (g:Jq) (l:Ji),steps.drop k=ss->LetR (loopR (zm8 steps) (g,l) ((zbz (k:Int) ss.length).zip ss)) zuk (λb=>b)=g++tin MG ss l
 | [],k,g,l,_=>by
  show zuk (g,l)=_
  unfold zuk Let tin
  dsimp only
  by_cases q:hd l<l.length
  ·rw [show decide ((hd l:Int)<↑155)=true by simp [q],show decide (hd l<l.length)=true by simp [q]];rfl
  ·rw [show decide ((hd l:Int)<↑155)=false by simpa using q,show decide (hd l<l.length)=false by simp [q]]
   simp
 | s :: ss,k,g,l,e=>by
  have e':steps.drop (k+1)=ss:=by rw [← List.drop_drop,e];rfl
  have e2:((k:Int)+(1:Int))=((k+1:Nat):Int):=by omega
  rw [List.length_cons,zfw,List.zip_cons_cons,zlO]
  unfold loopR
  by_cases q:hd l<hd s
  ·rw [show zm8 steps (g,l) ((k:Int),s)=.inr ((g++[upr l])++(s :: ss)) by
    unfold zm8;dsimp only
    rw [show decide ((hd l:Int)<(hd s:Int))=true by simp [q],cond_true,zfX,e]]
   rw [show decide (hd l<hd s)=true by simp [q],cond_true]
   show (g++[upr l])++(s :: ss)=_
   simp
  ·rw [show decide (hd l<hd s)=false by simp [q],cond_false]
   have q':decide ((hd l:Int)<(hd s:Int))=false:=by simp;omega
   by_cases z:hd l=hd s
   ·rw [show zm8 steps (g,l) ((k:Int),s)=.inl (g++[(mrg s l).1],low (mrg s l).2 ss) by
     unfold zm8 Let;dsimp only
     rw [q',show decide ((hd l:Int)=(hd s:Int))=true by simp [z],cond_false,cond_true,cond_true,e2,zfX,e']]
    rw [show decide (hd l=hd s)=true by simp [z],cond_true]
    show LetR (loopR (zm8 steps) _ ((zbz ((k:Int)+1) ss.length).zip ss)) _ _=_
    rw [e2,zjB ss (k+1) _ _ e']
    simp
   ·rw [show zm8 steps (g,l) ((k:Int),s)=.inl (g++[s],l) by
     unfold zm8 Let;dsimp only
     rw [q',show decide ((hd l:Int)=(hd s:Int))=false by simp;omega,cond_false,cond_false,cond_false]]
    rw [show decide (hd l=hd s)=false by simp [z],cond_false]
    show LetR (loopR (zm8 steps) _ ((zbz ((k:Int)+1) ss.length).zip ss)) _ _=_
    rw [e2,zjB ss (k+1) _ _ e']
    simp
theorem zw0 (steps:Jq) (l:Ji):LetR (loopR (zm8 steps) ([],l) (zfH steps)) zuk (λb=>b)=tin MG steps l:=by
 have:=zjB (steps:=steps) steps 0 [] l rfl
 simp only [List.nil_append] at this
 exact this
theorem zwj:∀ (ss:Jq),List.foldl (λ(s:Jq) (x:Ji)=>[low x s]++s) [] ss.reverse=stl ss
 | []=>rfl
 | s :: ss=>by
  rw [List.reverse_cons,List.foldl_append,zwj ss]
  rfl
theorem zjl:∀ {ss:Jq} {j:Nat},stl (ss.drop j)=(stl ss).drop j
 | [],j=>by simp [stl]
 | s :: ss,0=>rfl
 | s :: ss,j+1=>by rw [List.drop_succ_cons,zjl];rfl
theorem zcK.of {x y:Int} {a b:Nat} (h1:x.natAbs≤2^a) (h2:y.natAbs≤2^b) (ha:a≤50000000) (hb:b≤50000000):zcK x y :=
 .inr (.inr ⟨znk (k:=a+1) (by have:2^a<2^(a+1):=Nat.pow_lt_pow_right ↥1 (Nat.lt_succ_self a);omega) ⇑0 ⇑0,znk (k:=b+1) (by have:2^b<2^(b+1):=Nat.pow_lt_pow_right ↥1 (Nat.lt_succ_self b);omega) ⇑0 ⇑0⟩)
theorem ze5.of {x y:Int} {b:Nat} (h:0<y) (h2:y.natAbs≤2^b) (hb:b≤8990):ze5 x y :=
 ⟨h,znk (k:=b+1) (by have:2^b<2^(b+1):=Nat.pow_lt_pow_right ↥1 (Nat.lt_succ_self b);omega) ⇑0 ⇑0⟩
def zlw (a b:Int):Prop:=0<a∧0<b∧a.natAbs≤2^8980∧b.natAbs≤2^8980
section
variable {one other:Int} {s:G4}
theorem GI.gn (I:GI one other s) (h:zlw one other):s.1.natAbs≤2^8981:=by
 have:=I.g;have:=I.gb;obtain ⟨h1,h2,h3,h4⟩:=h
 rw [Nat.pow_succ]
 omega
theorem GI.mn (I:GI one other s) (h:zlw one other):s.2.1.natAbs≤2^8981:=by
 have:=I.m;have:=I.mb;obtain ⟨h1,h2,h3,h4⟩:=h
 rw [Nat.pow_succ]
 omega
theorem GI.tn (I:GI one other s) (h:zlw one other):s.2.2.1.natAbs≤2^8980:=by
 have:=I.tb;obtain ⟨h1,h2,h3,h4⟩:=h
 omega
theorem GI.ln (I:GI one other s) (h:zlw one other):s.2.2.2.natAbs≤2^8980:=by
 have:=I.lb;obtain ⟨h1,h2,h3,h4⟩:=h
 omega
theorem GI.pos (I:GI one other s) (hc:(!decide (s.2.1=(0:Int)))=true):0<s.2.1:=by
 have:=I.m
 simp only [Bool.not_eq_true',decide_eq_false_iff_not] at hc
 omega
theorem GI.div (I:GI one other s) (h:zlw one other) (hc:(!decide (s.2.1=(0:Int)))=true):ze5 s.1 s.2.1:=ze5.of (I.pos hc) (I.mn h) ↥1
theorem GI.mul1 (I:GI one other s) (h:zlw one other) (hc:(!decide (s.2.1=(0:Int)))=true) {p:Int} (e:p=s.1/s.2.1):zcK p s.2.1:=by
 subst e;exact zcK.of (zg7 (I.pos hc) (I.gn h)) (I.mn h) ↥1 ↥1
theorem GI.mul2 (I:GI one other s) (h:zlw one other) (hc:(!decide (s.2.1=(0:Int)))=true) {p:Int} (e:p=s.1/s.2.1):zcK p s.2.2.2:=by
 subst e;exact zcK.of (zg7 (I.pos hc) (I.gn h)) (I.ln h) ↥1 ↥1
theorem GI.mul3 (I:GI one other s) (h:zlw one other):zcK s.2.2.1 one:=zcK.of (I.tn h) h.2.2.1 ↥1 ↥1
theorem zlw.div (h:zlw one other) {x:Int}:ze5 x other:=ze5.of h.2.1 h.2.2.2 ↥1
end
def LowP (row:Ji) (steps:Jq):Prop:=∃ n a s,n≤1000∧row.length=n∧steps.length≤1000∧Bit a row∧(∀ t∈steps,Sd n s t)∧a+steps.length*(s+1)+s≤50000000
section
variable {n s a i:Nat} {l t:Ji} {h q:Int}
theorem zmc (T:Sd n s t) (e:h=(hd t:Int)) (hl:l.length=n):InB l.length h:=by
 have:=T.hd
 unfold InB
 omega
theorem zny (T:Sd n s t) (e:h=(hd t:Int)):ze5 (ixD l h) (ixD t h):=by
 subst e
 rw [zbc,zbc]
 exact ze5.of T.pos T.top ↥1
theorem zq7 (T:Sd n s t) (e:h=(hd t:Int)) (hb:Bit a l) (eq:q=ixD l h/ixD t h) (ha:a+s≤50000000):∀ y∈t,zcK y q:=by
 subst e eq
 rw [zbc,zbc]
 exact λy hy=>zcK.of (T.bit y hy) (zo4 T hb) ⇑0 ⇑0
theorem zol (T:Sd n s t) (hl:l.length=n∧Bit (a+i*(s+1)) l) {y:Ji} (e:y=ziX l t):y.length=n∧Bit (a+(i+1)*(s+1)) y:=by
 subst e
 refine ⟨by rw [zgv (by rw [hl.1,T.len]),hl.1],(zma T hl.1 hl.2).mono ?_⟩
 rw [Nat.succ_mul];omega
theorem zn5 {k i:Nat} (h:a+k*(s+1)+s≤50000000) (hi:i<k):a+i*(s+1)+s≤50000000:=by
 have:=Nat.mul_le_mul_right (s+1) (show i≤k by omega)
 omega
end
def MrgP (t l:Ji):Prop:=∃ n a s,n≤1000∧Sd n s t∧l.length=n∧Bit a l∧0<vec l (hd t)∧vec l (hd t)<vec t (hd t)∧a+s≤40000000
section
variable {n s a:Nat} {l t:Ji} {h:Int}
theorem znF (T:Sd n s t) (e:h=(hd t:Int)) (h0:0<vec l (hd t)) (h1:vec l (hd t)<vec t (hd t)):zlw (ixD t h) (ixD l h):=by
 subst e
 rw [zbc,zbc]
 exact ⟨T.pos,h0,T.top,by have:=T.top;omega⟩
theorem zqp {x y:Int} (h:zlw x y):0<(cmn x y).a∧(cmn x y).a.natAbs≤2^8981∧(cmn x y).b.natAbs≤2^8980∧(cmn x y).c.natAbs≤2^17962:=by
 have C:=znH h.1 h.2.1
 have:=C.bd h.2.1 zuF h.2.2.1 h.2.2.2
 exact ⟨C.pos,this⟩
theorem zjK {x:Int} {a b:Nat} {l:Ji} (h1:Bit a l) (h2:x.natAbs≤2^b) (ha:a≤50000000) (hb:b≤50000000):∀ y∈l,zcK y x:=λy hy=>zcK.of (h1 y hy) h2 ha hb
end
def TinP (steps:Jq) (row:Ji):Prop:=∃ n a s,n≤1000∧Ech n 0 steps∧(∀ t∈steps,Sd n s t)∧row.length=n∧Bit a row∧steps.length≤100∧a+(steps.length+2)*↑71+s≤40000000
theorem zl9 {n:Nat}:∀ {ss:Jq} {lo j:Nat},Ech n lo ss->Ech n lo (ss.drop j)
 | [],_,_,_=>by simp [Ech]
 | _ :: _,_,0,h=>h
 | s :: ss,lo,j+1,h=>by
  rw [List.drop_succ_cons]
  exact zl9 (h.2.2.2.2.mono (by have:=h.2.1;omega))
section
variable {n s a i:Nat} {steps:Jq} {st:TS2} {x:Int×Ji}
structure TI (steps:Jq) (n a s i:Nat) (st:TS2):Prop where
 g:st.1.length≤i
 len:st.2.length=n
 bit:Bit (a+steps.length*(s+1)+i*↑71) st.2
 red:∀ t∈steps.drop i,0≤vec st.2 (hd t)∧vec st.2 (hd t)<vec t (hd t)
theorem TI.start {row:Ji} (e:Ech n 0 steps) (T:∀ t∈steps,Sd n s t) (hl:row.length=n) (hb:Bit a row):TI steps n a s 0 ([],low row steps):=by
 obtain ⟨k1,k2,k3,k4⟩:=zbW (l:=row) e hl
 exact ⟨↑4 0,k1,by simpa using zg1 T hl hb,by simpa using k3⟩
theorem TI.mem (hx:i<steps.length∧x.1=(i:Int)∧steps[i]?=some x.2):x.2∈steps∧x.2∈steps.drop i∧steps.drop i=x.2 :: steps.drop (i+1):=by
 have e:steps.drop i=x.2 :: steps.drop (i+1):=by
  rw [List.drop_eq_getElem_cons hx.1]
  congr 1
  have:=hx.2.2
  rw [List.getElem?_eq_getElem hx.1] at this
  exact Option.some.inj this
 exact ⟨List.mem_of_getElem? hx.2.2,by rw [e];exact ↑3,e⟩
theorem TI.num (hi:i≤steps.length) (h:a+(steps.length+2)*↑71+s≤40000000):a+steps.length*(s+1)+i*↑71+(s+9000)≤40000000:=by
 have e1:i*↑71≤steps.length*↑71:=Nat.mul_le_mul_right _ hi
 have e2:steps.length*(s+1)≤(steps.length+1)*(s+9000):=Nat.mul_le_mul ⇑0 ⇑0
 have e3:s+9000≤(steps.length+1)*(s+9000):=Nat.le_mul_of_pos_left _ ⇑0
 rw [Nat.add_mul] at h
 omega
theorem TI.mrg (I:TI steps n a s i st) (hn:n≤1000) (T:∀ t∈steps,Sd n s t) (hx:i<steps.length∧x.1=(i:Int)∧steps[i]?=some x.2) (hh:hd st.2=hd x.2) (hN:a+(steps.length+2)*↑71+s≤40000000):MrgP x.2 st.2:=by
 obtain ⟨m1,m2,m3⟩:=TI.mem hx
 have r:=I.red _ m2
 have T1:=T _ m1
 have ne:=zg9 (l:=st.2) (by rw [hh,I.len];exact T1.hd)
 rw [hh] at ne
 exact ⟨n,_,s,hn,T1,I.len,I.bit,by omega,r.2,by have:=TI.num (Nat.le_of_lt hx.1) hN;omega⟩
theorem zlf {t l:Ji} {b:Nat} (T:Sd n s t) (hl:l.length=n) (hb:Bit b l) (h0:0<vec l (hd t)) (h1:vec l (hd t)<vec t (hd t)):(mrg t l).2.length=n∧Bit (b+(s+8982)) (mrg t l).2∧(mrg t l).1.length=n∧Bit (b+(s+17964)) (mrg t l).1:=by
 have e:t.length=l.length:=by rw [hl,T.len]
 have P:zlw (vec t (hd t)) (vec l (hd t)):=⟨T.pos,h0,T.top,by have:=T.top;omega⟩
 have C:=zqp P
 exact ⟨by rw [show (mrg t l).2=mg2 t l _ from rfl,zo8 e,T.len],zrQ T hl hb (znH T.pos h0) h1 ⇑0,by rw [show (mrg t l).1=mg1 t l _ _ from rfl,zoV e,T.len],zq0 T hl hb C.2.2.1 C.2.2.2⟩
theorem TI.low (I:TI steps n a s i st) (hn:n≤1000) (hk:steps.length≤100) (T:∀ t∈steps,Sd n s t) (hx:i<steps.length∧x.1=(i:Int)∧steps[i]?=some x.2) (hh:hd st.2=hd x.2) (hN:a+(steps.length+2)*↑71+s≤40000000):LowP (Lat.mrg x.2 st.2).2 (zbI steps (some (x.1+(1:Int))) none):=by
 obtain ⟨m1,m2,m3⟩:=TI.mem hx
 have r:=I.red _ m2
 have T1:=T _ m1
 have ne:=zg9 (l:=st.2) (by rw [hh,I.len];exact T1.hd)
 rw [hh] at ne
 obtain ⟨b1,b2,_⟩:=zlf T1 I.len I.bit ⇑0 r.2
 rw [hx.2.1,show ((i:Int)+(1:Int))=((i+1:Nat):Int) by omega,zfX]
 refine ⟨n,_,s,hn,b1,by rw [List.length_drop];omega,b2,λt ht=>T t (List.mem_of_mem_drop ht),?_⟩
 have hp:(List.drop (i+1) steps).length*(s+1)≤steps.length*(s+9000):=Nat.mul_le_mul ↑237 ⇑0
 have hm:steps.length*(s+1)≤(steps.length+1)*(s+9000):=Nat.mul_le_mul ⇑0 ⇑0
 have ho:i*↑71≤steps.length*↑71:=Nat.mul_le_mul_right _ ⇑0
 have hq:(steps.length+1)*(s+9000)=steps.length*(s+9000)+(s+9000):=Nat.succ_mul _ _
 rw [Nat.add_mul steps.length 2] at hN
 omega
theorem TI.step (I:TI steps n a s i st) (e:Ech n 0 steps) (T:∀ t∈steps,Sd n s t) (hx:i<steps.length∧x.1=(i:Int)∧steps[i]?=some x.2) {st':TS2} (hf:zm8 steps st x=.inl st'):TI steps n a s (i+1) st':=by
 obtain ⟨m1,m2,m3⟩:=TI.mem hx
 have r:=I.red _ m2
 have T1:=T _ m1
 have dd:∀ t∈steps.drop (i+1),t∈steps.drop i:=λt ht=>by rw [m3];exact ⇑3 _ ht
 have mo:a+steps.length*(s+1)+i*↑71≤a+steps.length*(s+1)+(i+1)*↑71:=by
  have:=Nat.mul_le_mul_right ↑71 (show i≤i+1 by omega)
  omega
 unfold zm8 Let at hf
 by_cases q:hd st.2<hd x.2
 ·rw [show decide ((hd st.2:Int)<(hd x.2:Int))=true by simp [q],cond_true] at hf
  cases hf
 ·rw [show decide ((hd st.2:Int)<(hd x.2:Int))=false by simp;omega,cond_false] at hf
  by_cases z:hd st.2=hd x.2
  ·rw [show decide ((hd st.2:Int)=(hd x.2:Int))=true by simp [z],cond_true,cond_true] at hf
   cases hf
   have ne:=zg9 (l:=st.2) (by rw [z,I.len];exact T1.hd)
   rw [z] at ne
   obtain ⟨b1,b2,_⟩:=zlf T1 I.len I.bit ⇑0 r.2
   rw [hx.2.1,show ((i:Int)+(1:Int))=((i+1:Nat):Int) by omega,zfX]
   have ed:Ech n 0 (steps.drop (i+1)):=zl9 e
   obtain ⟨k1,k2,k3,k4⟩:=zbW (l:=(Lat.mrg x.2 st.2).2) ed b1
   refine ⟨by have:=I.g;simp;omega,k1,(zg1 (λt ht=>T t (List.mem_of_mem_drop ht)) b1 b2).mono ?_,k3⟩
   have e5:(List.drop (i+1) steps).length*(s+1)≤steps.length*(s+9000):=Nat.mul_le_mul ↑237 ⇑0
   rw [Nat.succ_mul i,Nat.add_mul steps.length 1]
   omega
  ·rw [show decide ((hd st.2:Int)=(hd x.2:Int))=false by simp;omega,cond_false,cond_false] at hf
   cases hf
   exact ⟨by have:=I.g;simp;omega,I.len,I.bit.mono mo,λt ht=>I.red t (dd t ht)⟩
end
theorem tin_bit {n s K:Nat}:∀ {ss:Jq} {lo a:Nat} {l:Ji},Ech n lo ss->(∀ t∈ss,Sd n s t)->l.length=n->(∀t∈ss,0≤vec l (hd t)∧vec l (hd t)<vec t (hd t))->Bit a l->ss.length≤K →
  ∀ t∈tin MG ss l,Bit (a+ss.length*((K+1)*(s+9000))+s+18000) t
 | [],lo,a,l,_,_,_,_,hb,_,t,ht=>by
  unfold tin at ht
  cases q:decide (hd l<l.length) with
  | true=>rw [q,cond_true] at ht;rw [List.mem_singleton.mp ht];exact (zn6 hb).mono ⇑0
  | false=>rw [q,cond_false] at ht;simp at ht
 | s' :: ss,lo,a,l,e,T,hl,r,hb,hK,t,ht=>by
  have T1:=T s' ↑3
  have hS:∀ t∈s' :: ss,Bit (a+(s' :: ss).length*((K+1)*(s+9000))+s+18000) t:=λt ht=>(T t ht).bit.mono ⇑0
  rw [zlO] at ht
  cases q:decide (hd l<hd s') with
  | true =>
   rw [q,cond_true] at ht
   rcases List.mem_cons.mp ht with rfl | ht
   ·exact (zn6 hb).mono ⇑0
   ·exact hS t ht
  | false =>
   rw [q,cond_false] at ht
   by_cases z:hd l=hd s'
   ·rw [show decide (hd l=hd s')=true by simp [z],cond_true] at ht
    have ne:=zg9 (l:=l) (by rw [z,hl];exact T1.hd)
    rw [z] at ne
    have r1:=r s' ↑3
    obtain ⟨b1,b2,b3,b4⟩:=zlf T1 hl hb ⇑0 r1.2
    rcases List.mem_cons.mp ht with rfl | ht
    ·exact b4.mono ⇑0
    ·obtain ⟨k1,k2,k3,k4⟩:=zbW (l:=(mrg s' l).2) e.2.2.2.2 b1
     have:=tin_bit (K:=K) e.2.2.2.2 (λt ht=>T t (⇑3 _ ht)) k1 k3 (zg1 (λt ht=>T t (⇑3 _ ht)) b1 b2) (by simp at hK;omega) t ht
     refine this.mono ?_
     have e5:ss.length*(s+1)≤K*(s+9000):=Nat.mul_le_mul (by simp at hK;omega) ⇑0
     rw [List.length_cons,Nat.succ_mul ss.length ((K+1)*(s+9000))]
     have e6:(K+1)*(s+9000)=K*(s+9000)+(s+9000):=Nat.succ_mul _ _
     omega
   ·rw [show decide (hd l=hd s')=false by simp [z],cond_false] at ht
    rcases List.mem_cons.mp ht with rfl | ht
    ·exact hS t ↑3
    ·refine (tin_bit (K:=K) e.2.2.2.2 (λt ht=>T t (⇑3 _ ht)) hl (λt ht=>r t (⇑3 _ ht)) hb (by simp at hK;omega) t ht).mono ?_
     have:ss.length*((K+1)*(s+9000))≤(s' :: ss).length*((K+1)*(s+9000)):=Nat.mul_le_mul_right _ ↥9
     omega
def zrL (steps:Jq):Prop:=steps.length≤1000∧∀ j x,steps[j]?=some x->LowP x (stl (steps.drop (j+1)))
section
variable {steps fl:Jq} {i:Nat} {x:Ji}
theorem zlC (hx:steps.reverse[i]?=some x):∃ j,j+1+i=steps.length∧steps[j]?=some x∧steps.drop j=x :: steps.drop (j+1):=by
 have hi:i<steps.reverse.length:=(↑234).1
 rw [List.length_reverse] at hi
 rw [List.getElem?_reverse hi] at hx
 have hj:steps.length-1-i<steps.length:=by omega
 refine ⟨steps.length-1-i,by omega,hx,?_⟩
 rw [List.getElem?_eq_getElem hj] at hx
 rw [List.drop_eq_getElem_cons hj,Option.some.inj hx]
theorem zr4 (h:zrL steps) (hx:steps.reverse[i]?=some x) (e:fl=stl (steps.drop (steps.length-i))):LowP x fl:=by
 obtain ⟨j,h1,h2,h3⟩:=zlC hx
 rw [e,show steps.length-i=j+1 by omega]
 exact h.2 j x h2
theorem zq4 (hx:steps.reverse[i]?=some x) (e:fl=stl (steps.drop (steps.length-i))) {y:Jq} (hy:y=[low x fl]++fl):y=stl (steps.drop (steps.length-(i+1))):=by
 obtain ⟨j,h1,h2,h3⟩:=zlC hx
 rw [hy,e,show steps.length-i=j+1 by omega,show steps.length-(i+1)=j by omega,h3]
 rfl
theorem zju:∀ {ss:Jq},(stl ss).length=ss.length
 | []=>rfl
 | s :: ss=>by simp [stl,zju]
theorem zuh (h:zrL steps) (hi:i<steps.length) (e:fl=stl (steps.drop (steps.length-i))):fl.length≤1000:=by
 rw [e,zju,List.length_drop]
 have:=h.1
 omega
end
def Fit (n b R:Nat):Prop:=n≤1000∧R≤31∧eB b R≤8980∧b+(min n R+2)*((min n R+1)*(sB b R+9000))+3*sB b R+18001+(min n R+1)*(sB b R+1)≤40000000
def zwz (rows:Jq):Prop:=∃ n b R,Fit n b R∧rows.length≤R∧∀ r∈rows,r.length=n∧Bit b r
section
variable {n b R i:Nat} {rows ss:Jq} {r:Ji}
theorem zhC (hr:rows[i]?=some r):clm MG (rows.take (i+1))=stl (tin MG (clm MG ↑80) (low r (clm MG ↑80))):=by
 have hi:=(↑264).1
 rw [List.take_succ_eq_append_getElem hi]
 unfold clm
 rw [List.foldl_append]
 rw [List.getElem?_eq_getElem hi] at hr
 rw [← Option.some.inj hr]
 rfl
theorem zbv (h:∀ r∈rows,r.length=n):Stairs n rows (clm MG rows)∧((clm MG rows)).length≤rows.length:=by
 have:∀ i,i≤rows.length->Stairs n ↑80 (clm MG ↑80)∧((clm MG ↑80)).length≤i:=by
  intro i
  induction i with
  | zero=>exact λ_=>⟨by simpa [clm] using Stairs.nil,by simp [clm]⟩
  | succ i ih =>
   intro hi
   obtain ⟨s1,s2⟩:=ih ⇑0
   have e:rows[i]?=some rows[i]:=List.getElem?_eq_getElem ⇑0
   obtain ⟨t1,t2⟩:=s1.step MG (r:=rows[i]) (h _ (List.getElem_mem _))
   rw [zhC e,List.take_succ_eq_append_getElem ⇑0]
   exact ⟨t1,by omega⟩
 obtain ⟨t1,t2⟩:=this rows.length (↑4 _)
 rw [List.take_length] at t1 t2
 exact ⟨t1,t2⟩
theorem zkw (F:Fit n b R) (hl:rows.length≤R) (h:∀ r∈rows,r.length=n∧Bit b r):Stairs n rows (clm MG rows)∧((clm MG rows)).length≤min n R∧∀ t∈clm MG rows,Sd n (sB b R) t:=by
 obtain ⟨s1,s2⟩:=zbv (rows:=rows) λr hr=>(h r hr).1
 refine ⟨s1,?_,λt ht=>?_⟩
 ·have:=zfe s1.ech (Nat.zero_le n)
  omega
 ·obtain ⟨a1,a2,a3,a4⟩:=s1.ech.mem t ht
  obtain ⟨b1,b2⟩:=s1.bits F.2.1 hl (λr hr=>(h r hr).2) t ht
  exact ⟨a1,a3,a4,⇑6 b1 (Nat.pow_le_pow_right ↥1 F.2.2.1),b2⟩
theorem zra (F:Fit n b R) (hl:rows.length≤R) (h:∀ r∈rows,r.length=n∧Bit b r) (hr:rows[i]?=some r) (e:ss=clm MG ↑80):LowP r ss∧TinP ss r∧zrL (tin MG ss (low r ss)):=by
 subst e
 have hi:=(↑264).1
 have hrm:=h r ↑131
 obtain ⟨s1,s2,s3⟩:=zkw F (rows:=rows.take i) ↑268 λr hr=>h r ↑204
 obtain ⟨t1,t2,t3⟩:=zkw F (rows:=rows.take (i+1)) ↑268 λr hr=>h r ↑204
 rw [zhC hr] at t1 t2 t3
 obtain ⟨f1,f2,f3,f4⟩:=F
 generalize clm MG ↑80=ss at *
 generalize hs:sB b R=s at *
 generalize hk:min n R=k at *
 obtain ⟨k1,k2,k3,k4⟩:=zbW (l:=r) s1.ech hrm.1
 have m1:ss.length*(s+1)≤(k+1)*(s+1):=Nat.mul_le_mul_right _ ⇑0
 have m2:(ss.length+2)*((ss.length+1)*(s+9000))≤(k+2)*((k+1)*(s+9000)):=Nat.mul_le_mul ⇑0 (Nat.mul_le_mul_right _ ⇑0)
 have hk32:k≤31:=by omega
 refine ⟨⟨n,b,s,f1,hrm.1,by omega,hrm.2,s3,by omega⟩,⟨n,b,s,f1,s1.ech,s3,hrm.1,hrm.2,by omega,by omega⟩,?_,λj x hx=>?_⟩
 ·rw [zju] at t2;omega
 ·have hxm:=List.mem_of_getElem? hx
  have g1:=tin_bit (K:=k) s1.ech s3 k1 k3 (zg1 s3 hrm.1 hrm.2) s2 x hxm
  obtain ⟨e1,_⟩:=zgM MG s1.ech k1 (λi hi=>absurd hi (Nat.not_lt_zero i)) k3 (Nat.zero_le n)
  rw [zjl]
  refine ⟨n,_,s,f1,(e1.mem x hxm).1,by rw [List.length_drop];omega,g1,λt ht=>t3 t (List.mem_of_mem_drop ht),?_⟩
  have m3:(List.drop (j+1) (stl (tin MG ss (low r ss)))).length*(s+1)≤(k+1)*(s+1):=Nat.mul_le_mul_right _ ↑237
  have m4:ss.length*((k+1)*(s+9000))≤k*((k+1)*(s+9000)):=Nat.mul_le_mul_right _ s2
  have m5:(k+1)*(s+1)≤(k+1)*(s+9000):=Nat.mul_le_mul_left _ ⇑0
  rw [Nat.add_mul k 2] at f4
  omega
theorem zrp (F:Fit n b R) (hl:rows.length≤R) (h:∀ r∈rows,r.length=n∧Bit b r):((clm MG ↑80)).length≤31:=by
 obtain ⟨s1,s2,s3⟩:=zkw F (rows:=rows.take i) ↑268 λr hr=>h r ↑204
 have:=F.2.1
 omega
end
end Lat
namespace L2
open PySem PySem.Spec PyProof.Rows
section
variable {Γ:Ctx}
theorem zoZ {k:Nat} {s:Slot} (h:(unC Γ)[k]?=some s):∃ r,Γ[k]?=some r∧unS r=s:=by
 unfold unC at h
 rw [List.getElem?_map] at h
 cases q:Γ[k]? with
 | none=>rw [q] at h;cases h
 | some r=>rw [q] at h;exact ⟨r,rfl,Option.some.inj h⟩
theorem zs5:unC (unC Γ)=unC Γ:=by
 unfold unC
 rw [List.map_map]
 refine List.map_congr_left λs _=>?_
 cases s<;>rfl
theorem zrl (h:zpZ Γ=true):zpZ (unC Γ)=true:=by
 unfold zpZ unC at *
 rw [List.all_map]
 refine List.all_eq_true.mpr λs hs=>?_
 have:=List.all_eq_true.mp h s hs
 cases s<;>first | rfl | exact this
theorem zhV {R:Hp}:∀ {vs:List V} {ns:Ji},Paired (λv (d:Ds)=>d.pr R v) vs (ns.map dI)->vs=ns.map V.int
 | [],[],_=>rfl
 | _ :: _,_ :: _,.cons h t=>by
  have h:_=V.int _:=h
  rw [h,zhV t];rfl
end
end L2
namespace Lat
open L2
noncomputable abbrev hdC (l:Ji):Unit->Int->Unit ⊕ Int:=λ_ x=>bif (!decide ((ixD l x)=(0:Int))) then (Sum.inr x) else ↑28
theorem zme {l:Ji}:∀ (m k:Nat),k+m=l.length->(∀ i,i<k->vec l i=0)->LetR (loopR (hdC l) () (zbz (k:Int) m)) (λ(_:Unit)=>↑155) (λb=>b)=(hd l:Int)
 | 0,k,h,z=>by
  show ↑155=(hd l:Int)
  have:=zr5 (l:=l) (d:=k) ⇑0 z
  have:=znr (l:=l)
  omega
 | m+1,k,h,z=>by
  rw [zfw]
  unfold loopR
  by_cases q:vec l k=0
  ·rw [show hdC l () (k:Int)=.inl () by unfold hdC;rw [zbc,q];rfl]
   have:=zme (l:=l) m (k+1) ⇑0 λi hi=>by
    by_cases e:i=k
    ·rw [e];exact q
    ·exact z i ⇑0
   exact this
  ·rw [show hdC l () (k:Int)=.inr (k:Int) by
    unfold hdC;rw [zbc,show (!decide (vec l k=0))=true by simp [q]];rfl]
   show (k:Int)=(hd l:Int)
   rw [zjo q z]
theorem zvt (l:Ji):LetR (loopR (hdC l) () (zbz 0 (↑155).toNat)) (λ(_:Unit)=>↑155) (λb=>b)=(hd l:Int):=by
 rw [Int.toNat_natCast]
 exact zme l.length 0 ⇑0 λi hi=>absurd hi (Nat.not_lt_zero i)
theorem zjs {S γ β:Type} {f:S->γ->S ⊕ β} {I:Nat->S->Prop}:∀ {xs:List γ} {s:S} {n:Nat},I n s->(∀ (i:Nat) (x:γ) (s:S),xs[i]?=some x->I (n+i) s->∃ s',f s x=.inl s'∧I (n+i+1) s')->∃ s',loopR f s xs=.inl s'∧I (n+xs.length) s'
 | [],s,n,h,_=>⟨s,rfl,h⟩
 | x :: xs,s,n,h,k=>by
  obtain ⟨s1,e1,h1⟩:=k 0 x s rfl h
  obtain ⟨s2,e2,h2⟩:=zjs (xs:=xs) (s:=s1) (n:=n+1) h1 λi y s e q=>by
   have:=k (i+1) y s ↑141 (by rw [show n+(i+1)=n+1+i by omega];exact q)
   rw [show n+(i+1)+1=n+1+i+1 by omega] at this
   exact this
  refine ⟨s2,?_,by rw [List.length_cons,show n+(xs.length+1)=n+1+xs.length by omega];exact h2⟩
  unfold loopR
  rw [e1]
  exact e2
theorem zoS {n:Nat}:∀ {ss:Jq} {lo i k:Nat} {t' t:Ji},Ech n lo ss->Red ss->i<k->ss[i]?=some t'->ss[k]?=some t->hd t'<hd t∧0≤vec t' (hd t)∧vec t' (hd t)<vec t (hd t)
 | [],_,_,_,_,_,_,_,_,h,_=>by simp at h
 | s :: ss,lo,0,0,_,_,_,_,h,_,_=>absurd h (Nat.lt_irrefl 0)
 | s :: ss,lo,i+1,0,_,_,_,_,h,_,_=>absurd h (Nat.not_lt_zero _)
 | s :: ss,lo,0,k+1,t',t,e,r,_,h1,h2=>by
  have h1:s=t':=by simpa using h1
  subst h1
  have hm:t∈ss:=List.mem_of_getElem? (by simpa using h2)
  have:=(Ech.mem e.2.2.2.2 t hm).2.1
  exact ⟨by omega,r.1 t hm⟩
 | s :: ss,lo,i+1,k+1,t',t,e,r,h,h1,h2=>zoS (i:=i) (k:=k) e.2.2.2.2 r.2 ⇑0 (by simpa using h1) (by simpa using h2)
theorem zo0 {n lo:Nat} {ss:Jq} {k:Nat} {t:Ji} (e:Ech n lo ss) (h:ss[k]?=some t):t.length=n∧lo≤hd t∧hd t<n∧0<vec t (hd t):=e.mem t (List.mem_of_getElem? h)
theorem zqG {l t:Ji} (h:l.length=t.length):↑0 (λ(x:Int×Int)=>x.1-(quo l t*x.2)) (List.zip l t)=ziX l t:=by
 refine zih (by rw [zgv h];simp [h]) λi=>?_
 rw [zgF h]
 have:∀ {l t:Ji} {q:Int} {i:Nat},l.length=t.length->vec (↑0 ↑165 (List.zip l t)) i=vec l i-q*vec t i:=by
  intro l
  induction l with
  | nil=>intro t q i h;rw [List.length_eq_zero_iff.mp h.symm];simp [vec]
  | cons a l ih =>
   intro t q i h
   match t,h with
   | b :: t,h =>
    cases i with
    | zero=>rfl
    | succ i =>
     rw [zbg,zbg,← ih ↑118]
     exact zbg
 rw [this h,Int.mul_comm]
theorem zpp {n:Nat} {ss:Jq} {lo:Nat} {l:Ji} (e:Ech n lo ss) (hl:l.length=n) (h:SpL ss (vec l)):low l ss=↑0 (λ(_:Int)=>(0:Int)) l:=by
 obtain ⟨k1,k2,k3,k4⟩:=zbW e hl
 refine zih (by rw [k1,List.length_map,hl]) λi=>?_
 rw [zmD e ((Sp.lin 1 (-1) h k2).conv λi=>by omega) k3 i]
 show (0:Int)=(↑0 (λ(_:Int)=>(0:Int)) l).getD i 0
 rw [List.getD_eq_getElem?_getD,List.getElem?_map]
 cases l[i]?<;>rfl
def RB (w b:Nat) (rows:Jq):Prop:=∀ r∈rows,r.length=w∧Bit b r
theorem zgI {α:Type} {xs:List α} {i:Int} {x y:α} (h:y∈zcW xs i x):y=x∨y∈xs:=by
 unfold zcW at h
 split at h
 ·rcases List.mem_or_eq_of_mem_set h with h | h
  ·exact .inr h
  ·exact .inl h
 ·exact .inr h
theorem zrc {α:Type} {xs:List α} {lo hi:Option Int} {x:α} (h:x∈zbI xs lo hi):x∈xs:=List.mem_of_mem_drop (List.mem_of_mem_take h)
theorem zfW {α β:Type} (g:α->β):∀ (xs:List α) (acc:List β),List.foldl (λs x=>s++[g x]) acc xs=acc++xs.map g
 | [],acc=>by simp
 | x :: xs,acc=>by rw [List.foldl_cons,zfW g xs];simp
end Lat
namespace Lat
theorem zic {n:Nat}:∀ {ss:Jq} {lo:Nat} {u:Vc},Ech n lo ss->SpL ss u->(∀ t∈ss,-vec t (hd t)<u (hd t)∧u (hd t)<vec t (hd t))->∀ i,u i=0
 | [],_,u,_,h,_,i=>Sp.at0 (λ_ ⟨_,z,_⟩=>by simp at z) h
 | s :: ss,lo,u,e,h,k,i=>by
  obtain ⟨w,y,hw,hu⟩:=h.cons
  have e1:=SpL.before e.2.2.2.2 ↑205 hw
  have e2:=hu (hd s)
  have e3:=k s ↑3
  have e4:=e.2.2.2.1
  rw [e1] at e2
  have y0:y=0:=by
   rw [e2,Int.zero_add] at e3
   refine Classical.byContradiction λq=>?_
   rcases Int.lt_or_gt_of_ne q with q | q
   ·have:=Int.mul_le_mul_of_nonneg_right (show y≤(-1:Int) by omega) (Int.le_of_lt e4)
    omega
   ·have:=Int.mul_le_mul_of_nonneg_right (show (1:Int)≤y by omega) (Int.le_of_lt e4)
    omega
  have hu':∀ i,u i=w i:=λi=>by rw [hu i,y0];omega
  have:u=w:=funext hu'
  subst this
  exact zic e.2.2.2.2 hw (λt ht=>k t (⇑3 _ ht)) i
theorem SpL.tail {n lo:Nat} {s:Ji} {ss:Jq} {u:Vc} (e:Ech n lo (s :: ss)) (h:SpL (s :: ss) u) (h0:u (hd s)=0):SpL ss u:=by
 obtain ⟨w,y,hw,hu⟩:=h.cons
 have e1:=SpL.before e.2.2.2.2 ↑205 hw
 have e2:=hu (hd s)
 rw [e1,h0,Int.zero_add] at e2
 have y0:y=0:=(Int.mul_eq_zero.mp e2.symm).resolve_right (by have:=e.2.2.2.1;omega)
 exact hw.conv λi=>by rw [hu i,y0];omega
theorem zpf {n:Nat}:∀ {ss tt:Jq} {lo lo':Nat},Ech n lo ss->Red ss->Ech n lo' tt->Red tt->(∀t∈ss,SpL tt (vec t))->(∀ t∈tt,SpL ss (vec t))->ss=tt
 | [],[],_,_,_,_,_,_,_,_=>rfl
 | [],t :: tt,_,_,_,_,e,_,_,k=>by
  have:=Sp.at0 (i:=hd t) (λ_ ⟨_,z,_⟩=>by simp at z) (k t ↑3)
  have:=e.2.2.2.1
  omega
 | s :: ss,[],_,_,e,_,_,_,k,_=>by
  have:=Sp.at0 (i:=hd s) (λ_ ⟨_,z,_⟩=>by simp at z) (k s ↑3)
  have:=e.2.2.2.1
  omega
 | s :: ss,t :: tt,lo,lo',e,r,e',r',k,k'=>by
  have ks:=k s ↑3
  have kt:=k' t ↑3
  have ps:=e.2.2.2.1
  have pt:=e'.2.2.2.1
  have hh:hd s=hd t:=by
   obtain ⟨x,hx,ex⟩:=zgt e' ks (λi hi=>zbl hi) ⇑0
   obtain ⟨y,hy,ey⟩:=zgt e kt (λi hi=>zbl hi) ⇑0
   have h1:hd t≤hd s:=by
    rcases List.mem_cons.mp hx with rfl | hx
    ·omega
    ·have:=(Ech.mem e'.2.2.2.2 x hx).2.1;omega
   have h2:hd s≤hd t:=by
    rcases List.mem_cons.mp hy with rfl | hy
    ·omega
    ·have:=(Ech.mem e.2.2.2.2 y hy).2.1;omega
   omega
  have hn:vec s (hd s)=vec t (hd t):=by
   have d1:=zhZ e' ks ↑3 (λi hi=>zbl ⇑0)
   have d2:=zhZ e kt ↑3 (λi hi=>zbl ⇑0)
   rw [← hh] at d1
   rw [hh] at d2
   have d1':vec t (hd t) ∣ vec s (hd s):=by rw [← hh];exact d1
   have d2':vec s (hd s) ∣ vec t (hd t):=by rw [hh] at ps ⊢;exact d2
   exact Int.dvd_antisymm ⇑0 ⇑0 d2' d1'
  have tails:ss=tt:=zpf e.2.2.2.2 r.2 e'.2.2.2.2 r'.2 (λx hx=>by
   refine SpL.tail e' (k x (⇑3 _ hx)) ?_
   exact zbl (by have:=(Ech.mem e.2.2.2.2 x hx).2.1;omega)) λx hx=>by
   refine SpL.tail e (k' x (⇑3 _ hx)) ?_
   exact zbl (by have:=(Ech.mem e'.2.2.2.2 x hx).2.1;omega)
  subst tails
  have hst:s=t:=by
   refine zih (by rw [e.1,e'.1]) λi=>?_
   have:=zic (u:=λi=>vec s i-vec t i) e'.2.2.2.2 (SpL.tail e' ((Sp.lin 1 (-1) ks (SpL.mem ↑3)).conv λi=>by omega) (by rw [← hh] at hn ⊢;omega)) (λx hx=>by
    have h1:=r.1 x hx
    have h2:=r'.1 x hx
    show -vec x (hd x)<vec s (hd x)-vec t (hd x)∧vec s (hd x)-vec t (hd x)<vec x (hd x)
    omega) i
   have this:vec s i-vec t i=0:=this
   omega
  rw [hst]
theorem Stairs.one {n:Nat} {rows rows' ss tt:Jq} (h:Stairs n rows ss) (h':Stairs n rows' tt) (k:∀ r∈rows,SpL rows' (vec r)) (k':∀ r∈rows',SpL rows (vec r)):ss=tt :=
 zpf h.ech h.red h'.ech h'.red (λt ht=>((h.inn t ht).sub k).sub h'.out) λt ht=>((h'.inn t ht).sub k').sub h.out
theorem Sp.image {A B:Vc->Prop} {g:Vc->Vc} {u:Vc} (h0:∀ i,g (λ_=>0) i=0) (hl:∀ (u a:Vc) (x:Int) i,g (λi=>u i+x*a i) i=g u i+x*g a i) (hA:∀ a,A a->Sp B (g a)) (h:Sp A u):Sp B (g u):=by
 induction h with
 | zero=>exact Sp.zero.conv λi=>(h0 i).symm
 | @add u a z _ ha ih=>exact (ih.plus ((hA a ha).smul z)).conv λi=>(hl u a z i).symm
theorem zez {l:Ji} {n i:Nat}:vec (l.take n) i=if i<n then vec l i else 0:=by
 unfold vec
 rw [List.getD_eq_getElem?_getD,List.getD_eq_getElem?_getD,List.getElem?_take]
 split<;>rfl
theorem zda {l:Ji} {n i:Nat}:vec (l.drop n) i=vec l (n+i):=by
 unfold vec
 rw [List.getD_eq_getElem?_getD,List.getD_eq_getElem?_getD,List.getElem?_drop]
theorem zcC {l t:Ji} {i:Nat}:vec (l++t) i=if i<l.length then vec l i else vec t (i-l.length):=by
 unfold vec
 rw [List.getD_eq_getElem?_getD,List.getD_eq_getElem?_getD,List.getD_eq_getElem?_getD,List.getElem?_append]
 split<;>rfl
theorem zjH {l:Ji} {n:Nat} (h:hd l<n) (hl:hd l<l.length):hd (l.take n)=hd l:=zjo (by rw [zez,if_pos h];exact zg9 hl) λi hi=>by
 rw [zez]
 split
 ·exact zbl hi
 ·rfl
noncomputable def zi6 (n:Nat) (ss:Jq):Jq:=↑0 (λ(x:Ji)=>x.take n) (List.filter (λ(x:Ji)=>decide (hd x<n)) ss)
theorem zjz {n m:Nat} (hnm:n≤m):∀ {ss:Jq} {lo:Nat},Ech m lo ss->Ech n lo (zi6 n ss)
 | [],_,_=>trivial
 | s :: ss,lo,e=>by
  unfold zi6
  by_cases q:hd s<n
  ·rw [List.filter_cons_of_pos ↑57,List.map_cons]
   have hl:=e.1
   have e1:=zjH q (by rw [hl];exact e.2.2.1)
   refine ⟨by rw [List.length_take,hl];omega,by rw [e1];exact e.2.1,by rw [e1];exact q,by rw [e1,zez,if_pos q];exact e.2.2.2.1,?_⟩
   rw [e1]
   exact zjz hnm e.2.2.2.2
  ·rw [List.filter_cons_of_neg ↑57]
   exact (zjz hnm e.2.2.2.2).mono (by have:=e.2.1;omega)
theorem zmk {n:Nat} {ss:Jq} {t:Ji} (h:t∈zi6 n ss):∃ s∈ss,hd s<n∧t=s.take n:=by
 unfold zi6 at h
 obtain ⟨s,hs,rfl⟩:=List.mem_map.mp h
 obtain ⟨h1,h2⟩:=List.mem_filter.mp hs
 exact ⟨s,h1,by simpa using h2,rfl⟩
theorem zjD {n m:Nat} (hnm:n≤m):∀ {ss:Jq} {lo:Nat},Ech m lo ss->Red ss->Red (zi6 n ss)
 | [],_,_,_=>trivial
 | s :: ss,lo,e,r=>by
  unfold zi6
  by_cases q:hd s<n
  ·rw [List.filter_cons_of_pos ↑57,List.map_cons]
   refine ⟨λt ht=>?_,zjD hnm e.2.2.2.2 r.2⟩
   obtain ⟨x,hx,h1,rfl⟩:=zmk ht
   have ex:=Ech.mem e.2.2.2.2 x hx
   rw [zjH h1 (by rw [ex.1];exact ex.2.2.1),zez,zez,if_pos h1,if_pos h1]
   exact r.1 x hx
  ·rw [List.filter_cons_of_neg ↑57]
   exact zjD hnm e.2.2.2.2 r.2
noncomputable abbrev rst (n:Nat) (u:Vc):Vc:=λi=>if i<n then u i else 0
theorem zhA {n:Nat} {l:Ji}:rst n (vec l)=vec (l.take n):=funext λi=>by rw [zez]
theorem znB {n:Nat} (u a:Vc) (x:Int) (i:Nat):rst n (λi=>u i+x*a i) i=rst n u i+x*rst n a i:=by
 unfold rst;dsimp only;split<;>omega
theorem Stairs.cut {n m:Nat} {rows marked ss:Jq} (hnm:n≤m) (h:Stairs m marked ss) (k:∀ r∈marked,∃ r'∈rows,r.take n=r') (k':∀ r'∈rows,∃ r∈marked,r.take n=r'):Stairs n rows (zi6 n ss):=by
 refine ⟨zjz hnm h.ech,zjD hnm h.ech h.red,λt ht=>?_,λr' hr'=>?_⟩
 ·obtain ⟨s,hs,_,rfl⟩:=zmk ht
  rw [← zhA]
  refine Sp.image (g:=rst n) (λi=>by unfold rst;split<;>rfl) znB (λa ⟨r,hr,e⟩=>?_) (h.inn s hs)
  obtain ⟨r',hr',e'⟩:=k r hr
  rw [e,zhA,e']
  exact SpL.mem hr'
 ·obtain ⟨r,hr,rfl⟩:=k' r' hr'
  rw [← zhA]
  refine Sp.image (g:=rst n) (λi=>by unfold rst;split<;>rfl) znB (λa ⟨s,hs,e⟩=>?_) (h.out r hr)
  rw [e,zhA]
  by_cases q:hd s<n
  ·refine SpL.mem ?_
   unfold zi6
   exact List.mem_map.mpr ⟨s,List.mem_filter.mpr ⟨hs,by simpa using q⟩,rfl⟩
  ·exact Sp.zero.conv λi=>by
    rw [zez]
    split
    ·rw [zbl ⇑0]
    ·rfl
def Led (n k:Nat) (rows:Jq) (u:Vc):Prop:=∀ j,j<n->u j=comb (↑0 (λi=>u (n+i)) (List.range k)) (rows.map vec) j
theorem Led.sp {n k:Nat} {rows:Jq} {A:Vc->Prop} {u:Vc} (hk:rows.length=k) (hA:∀ a,A a->Led n k rows a) (h:Sp A u):Led n k rows u:=by
 induction h with
 | zero =>
  intro j _
  have:=zkd (xs:=↑0 (λi=>(0:Int)) (List.range k)) (as:=rows.map vec) 0 j
  rw [List.map_map] at this
  have e:(↑0 ((λx=>(0:Int)*x) ∘ λ(i:Nat)=>(0:Int)) (List.range k))=↑0 (λ_=>(0:Int)) (List.range k):=List.map_congr_left λ_ _=>rfl
  rw [e] at this
  show (0:Int)=comb (↑0 (λ(_:Nat)=>(0:Int)) (List.range k)) (rows.map vec) j
  omega
 | @add u a z _ ha ih =>
  intro j hj
  have e1:=ih j hj
  have e2:=hA a ha j hj
  have e3:∀ (xs:List Nat) (as:List Vc),comb (↑0 (λi=>u (n+i)+z*a (n+i)) xs) as j=comb (↑0 (λi=>u (n+i)) xs) as j+z*comb (↑0 (λi=>a (n+i)) xs) as j:=by
   intro xs
   induction xs with
   | nil=>intro as;simp [comb]
   | cons x xs ihx =>
    intro as
    match as with
    | []=>simp [comb]
    | b :: as =>
     simp only [List.map_cons,comb,ihx as]
     grind
  show u j+z*a j=comb (↑0 (λi=>u (n+i)+z*a (n+i)) (List.range k)) (rows.map vec) j
  rw [e3,← e1,← e2]
end Lat
namespace L2
open PySem PySem.Spec PyProof.Rows
theorem zpA {Γ:Ctx} {ds:List Ds} {tr:TA} {E:XK} {ι:Type} {C:Addr} {args:ι->List Ds} {pre:ι->Prop} {fs:ι->List (Str×Ds)} (i:ι) (h:EvA Γ tr true ds) (ha:ds=args i) (hp:pre i):Ev Γ (zpW C (zsq C args pre false fs) [] E tr) true (dO C (fs i)):=λF0 Hb F H σ own Q a k=>by
 subst ha
 refine h F0 Hb F H σ own _ a λvs F1 H1 g1 q1 p dx h1 h2 h3=>⟨i,p,dx,vs,H1,off F1 Hb,by rw [List.append_nil],h1,h2,h3,rfl,zlG.trans g1.fh,q1,hp,λus F' H' g n1 n2 e1 e2 e3=>⟨rfl,?_⟩⟩
 have hb1:Same Hb H1:=a.g.h.trans g1.h
 have nb:∀ b o,F' b=some o->Hb b=none:=λb o z=>by
  cases w:Hb b with
  | none=>rfl
  | some o' =>
   have:off F1 Hb b=none:=by unfold off;rw [w]
   have:=g.no b (by rw [hb1 _ _ w];simp) this
   rw [this] at z;cases z
 have gW:Grow F1 H1 (λb=>match F1 b with | some o=>some o | none=>F' b) H':=by
  refine ⟨λb o z=>by show (match F1 b with | some o=>some o | none=>F' b)=some o;rw [z],λb o z=>?_,g.h,λb z1 z2=>?_⟩
  ·have z:(match F1 b with | some o=>some o | none=>F' b)=some o:=z
   cases w:F1 b with
   | some o'=>rw [w] at z;cases z;exact g.h _ _ (g1.fh _ _ w)
   | none=>rw [w] at z;exact g.fh _ _ z
  ·show (match F1 b with | some o=>some o | none=>F' b)=none
   rw [z2]
   exact g.no b z1 (by unfold off;cases Hb b<;>first | rfl | exact z2)
 have sW:Same F' (off (λb=>match F1 b with | some o=>some o | none=>F' b) Hb):=λb o z=>by
  refine zcu.mpr ⟨nb b o z,?_⟩
  show (match F1 b with | some o=>some o | none=>F' b)=some o
  cases w:F1 b with
  | none=>exact z
  | some o' =>
   have u1:=g.h _ _ (g1.fh _ _ w)
   have u2:=g.fh _ _ z
   rw [u1] at u2
   exact u2
 have g2:=g1.trans gW
 obtain ⟨p0,_,pb⟩:=a.free g1 h1
 obtain ⟨d0,_,db⟩:=a.free g1 h2
 have np:(λb=>match F1 b with | some o=>some o | none=>F' b) p=none:=by
  show (match F1 p with | some o=>some o | none=>F' p)=none
  rw [g1.fh.free h1];exact n1
 have nd:(λb=>match F1 b with | some o=>some o | none=>F' b) dx=none:=by
  show (match F1 dx with | some o=>some o | none=>F' dx)=none
  rw [g1.fh.free h2];exact n2
 have g3:=(g2.take p0 e1).take d0 e2
 have s1:=Same.new (H:=λb=>match F1 b with | some o=>some o | none=>F' b) (p:=p) np (.ins C dx us)
 have n3:upd (λb=>match F1 b with | some o=>some o | none=>F' b) p (.ins C dx us) dx=none:=by rw [zaC h3];exact nd
 have s2:=s1.trans (Same.new n3 (.own p))
 refine k _ _ _ g3 ⟨p,dx,us,rfl,zea pb (by rw [zaC (Ne.symm h3)];exact zaO),zea db zaO,?_⟩
 exact zb0 (λ_ b q=>⟨q.1,b.2.up (sW.trans (zmp s2)) q.2⟩) e3
end L2
namespace Lat
open L2
noncomputable def ze0 (k:Nat) (i:Int):Ji:=zcW (zcI (k:Int) [(0:Int)]) i (1:Int)
noncomputable def mark (rows:Jq):Jq:=↑0 (λ(x:Int×Ji)=>x.2++ze0 rows.length x.1) (zfH rows)
theorem zce {k:Nat}:((zcI (k:Int) [(0:Int)])).length=k:=by unfold zcI;simp
theorem ze9 {k:Nat} {i:Int}:(ze0 k i).length=k:=by unfold ze0;rw [zex,zce]
theorem zeC {k j:Nat}:vec (zcI (k:Int) [(0:Int)]) j=0:=by
 by_cases h:j<((zcI (k:Int) [(0:Int)])).length
 ·have:=zna h
  unfold zcI at this
  obtain ⟨l,h1,h2⟩:=List.mem_flatten.mp this
  rw [(List.mem_replicate.mp h1).2] at h2
  exact List.mem_singleton.mp h2
 ·exact za8 ⇑0
theorem zgu {k i j:Nat} (h:i<k):vec (ze0 k (i:Int)) j=if j=i then 1 else 0:=by
 unfold ze0 zcW ixN
 rw [if_pos ⇑0,zce,if_pos ⇑0]
 show vec (((zcI (k:Int) [(0:Int)])).set (i:Int).toNat 1) j=_
 rw [Int.toNat_natCast]
 unfold vec
 rw [List.getD_eq_getElem?_getD,List.getElem?_set]
 by_cases q:j=i
 ·subst q
  rw [if_pos rfl,if_pos (by rw [zce];exact h),if_pos rfl];rfl
 ·rw [if_neg (λz=>q z.symm),if_neg q,← List.getD_eq_getElem?_getD]
  exact zeC
theorem zlR {k:Nat} {i:Int} {b:Nat}:Bit b (ze0 k i):=λx hx=>by
 unfold ze0 at hx
 rcases zgI hx with rfl | hx
 ·exact Nat.one_le_two_pow
 ·obtain ⟨j,_,rfl⟩:=zjG hx
  rw [zeC];exact Nat.zero_le _
theorem zdO {rows:Jq} {m:Ji} (h:m∈mark rows):∃ (i:Nat) (r:Ji),rows[i]?=some r∧m=r++ze0 rows.length (i:Int):=by
 unfold mark at h
 obtain ⟨x,hx,rfl⟩:=List.mem_map.mp h
 obtain ⟨i,hi⟩:=List.getElem?_of_mem hx
 obtain ⟨h1,h2,h3⟩:=zdU hi
 exact ⟨i,x.2,h3,by rw [h2]⟩
theorem ziz {rows:Jq} {i:Nat} {r:Ji} (h:rows[i]?=some r):r++ze0 rows.length (i:Int)∈mark rows:=by
 unfold mark
 have hi:=(↑235).1
 refine List.mem_map.mpr ⟨((i:Int),r),?_,rfl⟩
 refine List.mem_of_getElem? (i:=i) ?_
 unfold zfH
 rw [List.getElem?_zip_eq_some]
 refine ⟨?_,h⟩
 unfold zbz
 rw [List.getElem?_map,List.getElem?_range hi]
 show some ((0:Int)+(i:Int))=some (i:Int)
 rw [Int.zero_add]
theorem zmu {rows:Jq}:(mark rows).length=rows.length:=by unfold mark;rw [List.length_map,ziH]
theorem zoa {n b:Nat} {rows:Jq} (h:∀ r∈rows,r.length=n∧Bit b r):∀ m∈mark rows,m.length=n+rows.length∧Bit b m:=λm hm=>by
 obtain ⟨i,r,hr,rfl⟩:=zdO hm
 have h1:=h r ↑131
 refine ⟨by rw [List.length_append,h1.1,ze9],λx hx=>?_⟩
 rcases List.mem_append.mp hx with hx | hx
 ·exact h1.2 x hx
 ·exact zlR x hx
theorem zkR:∀ {as:List Vc} {i c j:Nat} {a:Vc},as[i]?=some a->comb (↑0 (λt=>if t=i+c then (1:Int) else 0) (↑0 (·+c) ↑210)) as j=a j
 | [],i,c,j,a,h=>by simp at h
 | b :: as,0,c,j,a,h=>by
  have h:b=a:=by simpa using h
  subst h
  rw [List.length_cons,List.range_succ_eq_map,List.map_cons,List.map_cons,List.map_map,List.map_map]
  simp only [comb,Nat.zero_add,if_true]
  have z:∀ (xs:List Nat) (as:List Vc),(∀ x∈xs,x≠0)->comb (↑0 (λx=>if x+c=c then (1:Int) else 0) xs) as j=0:=by
   intro xs
   induction xs with
   | nil=>intro as _;simp [comb]
   | cons x xs ih =>
    intro as hx
    match as with
    | []=>simp [comb]
    | d :: as =>
     simp only [List.map_cons,comb]
     rw [if_neg (by have:=hx x ↑3;omega),ih as λy hy=>hx y (⇑3 _ hy)]
     omega
  have:=z (↑0 Nat.succ ↑210) as (λx hx=>by obtain ⟨y,_,rfl⟩:=List.mem_map.mp hx;omega)
  rw [List.map_map] at this
  have e:(↑0 (((λt=>if t=c then (1:Int) else 0) ∘ λx=>x+c) ∘ Nat.succ) ↑210)=↑0 ((λx=>if x+c=c then (1:Int) else 0) ∘ Nat.succ) ↑210:=List.map_congr_left λ_ _=>rfl
  rw [e,this]
  omega
 | b :: as,i+1,c,j,a,h=>by
  have ih:=zkR (as:=as) (i:=i) (c:=c+1) (j:=j) (a:=a) ↑118
  rw [List.length_cons,List.range_succ_eq_map,List.map_cons,List.map_cons,List.map_map,List.map_map]
  simp only [comb]
  rw [if_neg ⇑0]
  rw [List.map_map] at ih
  have e:(↑0 (((λt=>if t=i+1+c then (1:Int) else 0) ∘ λx=>x+c) ∘ Nat.succ) ↑210)=↑0 ((λt=>if t=i+(c+1) then (1:Int) else 0) ∘ λx=>x+(c+1)) ↑210:=List.map_congr_left λx _=>by
   show (if x.succ+c=i+1+c then (1:Int) else 0)=if x+(c+1)=i+(c+1) then 1 else 0
   by_cases q:x=i
   ·rw [if_pos ⇑0,if_pos ⇑0]
   ·rw [if_neg ⇑0,if_neg ⇑0]
  rw [e,ih]
  omega
theorem zpo {n:Nat} {rows:Jq} (h:∀ r∈rows,r.length=n):∀ m∈mark rows,Led n rows.length rows (vec m):=λm hm j hj=>by
 obtain ⟨i,r,hr,rfl⟩:=zdO hm
 have hi:=(↑264).1
 have hl:=h r ↑131
 have:=zkR (as:=rows.map vec) (i:=i) (c:=0) (j:=j) (a:=vec r) (by rw [List.getElem?_map,hr];rfl)
 rw [zcC,if_pos ⇑0,← this,List.map_map,List.length_map]
 congr 1
 refine List.map_congr_left λt ht=>?_
 show (if t+0=i+0 then (1:Int) else 0)=vec (r++ze0 rows.length (i:Int)) (n+t)
 rw [zcC,hl,if_neg (show ¬ n+t<n by omega),Nat.add_sub_cancel_left,zgu hi]
 rfl
structure Tr (n:Nat) (rows ss:Jq):Prop where
 st:Stairs (n+rows.length) (mark rows) ss
 sw:Stairs n rows (zi6 n ss)
 led:∀ t∈ss,Led n rows.length rows (vec t)
theorem zkv {n:Nat} {rows:Jq} (h:∀ r∈rows,r.length=n):Tr n rows (clm MG (mark rows)):=by
 have S:=(zbv (rows:=mark rows) (n:=n+rows.length) λm hm=>by
  obtain ⟨i,r,hr,rfl⟩:=zdO hm
  rw [List.length_append,ze9,h r ↑131]).1
 have tk:∀ {i:Nat} {r:Ji},rows[i]?=some r->(r++ze0 rows.length (i:Int)).take n=r:=λhr=>by
  rw [List.take_append_of_le_length (by rw [h _ ↑131];exact ↑4 _),List.take_of_length_le (by rw [h _ ↑131];exact ↑4 _)]
 refine ⟨S,S.cut ⇑0 (λm hm=>?_) λr hr=>?_,λt ht=>?_⟩
 ·obtain ⟨i,r,hr,rfl⟩:=zdO hm
  exact ⟨r,List.mem_of_getElem? hr,tk hr⟩
 ·obtain ⟨i,hi⟩:=List.getElem?_of_mem hr
  exact ⟨_,ziz hi,tk hi⟩
 ·exact Led.sp rfl (λa ⟨m,hm,e⟩=>e ▸ zpo h m hm) (S.inn t ht)
end Lat
namespace Lat
theorem zfE:∀ {l t:Ji} {q:Int} {i:Nat},l.length=t.length->vec (↑0 (λ(x:Int×Int)=>x.1+(q*x.2)) (List.zip l t)) i=vec l i+q*vec t i
 | [],[],q,i,_=>by simp [vec]
 | a :: l,b :: t,q,0,_=>rfl
 | a :: l,b :: t,q,i+1,h=>by
  rw [zbg,zbg,← zfE (l:=l) (t:=t) ↑118]
  exact zbg
theorem zpM {α:Type} {l:List α} {i:Nat}:vec (↑0 (λ(_:α)=>(0:Int)) l) i=0:=by
 unfold vec
 rw [List.getD_eq_getElem?_getD,List.getElem?_map]
 cases l[i]?<;>rfl
end Lat
namespace L2
open PySem PySem.Spec PyProof.Rows
section
variable {Γ:Ctx} {ta tb:TE} {m:Bool} {α:Type}
theorem zt7 {x y:Bool}:decide (V.bl x=V.bl y)=decide (x=y):=by cases x<;>cases y<;>rfl
theorem zta {x y:Bool} (h1:Ev Γ ta false (dB x)) (h2:Ev Γ tb false (dB y)):Ev Γ (tOp rEq ta tb) m (dB (decide (x=y))):=(ztP h1 h2 rfl).conv (by rw [zt7])
end
def zhT (R:Hp) (v:V) (ns:Ji):Prop:=∃ r,v=.ref r∧R r=some (.lst (↑0 V.int ns))
def dRI (nss:Jq):Ds:=⟨λR v=>∃ p vs,v=.ref p∧R p=some (.lst vs)∧vs.Nodup∧V.ref p ∉ vs∧Paired (zhT R) vs nss,λe ⟨p,vs,h1,h2,h3,h4,h5⟩=>⟨p,vs,h1,e _ _ h2,h3,h4,zb0 (λ_ _ ⟨r,q1,q2⟩=>⟨r,q1,e _ _ q2⟩) h5⟩⟩
theorem zlc {R:Hp}:∀ {ns:Ji},Paired (λv (d:Ds)=>d.pr R v) ↑53 (ns.map dI)
 | []=>.nil
 | _ :: _=>.cons rfl zlc
theorem zsV {R:Hp} {v:V} {nss:Jq} (h:(dRI nss).pr R v):(dL (nss.map λl=>dL (l.map dI))).pr R v:=by
 obtain ⟨p,vs,rfl,h2,h3,h4,h5⟩:=h
 refine ⟨p,vs,rfl,h2,?_⟩
 clear h2 h3 h4
 induction h5 with
 | nil=>exact .nil
 | cons q _ ih =>
  obtain ⟨r,rfl,q2⟩:=q
  exact .cons ⟨r,_,rfl,q2,zlc⟩ ih
section
variable {Γ:Ctx} {m:Bool} {γ:Type} {te:TE} {i:Nat} {nss:Jq}
theorem zvB {t:TE} (h:Ev Γ t m (dRI nss)):Ev Γ t m (dL (nss.map λl=>dL (l.map dI))):=λF0 Hb F H σ own Q a k=>h F0 Hb F H σ own Q a λv F' H' g q=>k v F' H' g (zsV q)
theorem zpH {own:Nat} {fv:List Nat} {wi:TI} {tg:TG} {js:List Nat} {xs:List γ} {bds:γ->List Ds} {mi:Bool} {ns:γ->Ji} (it:Iv Γ wi tg js xs bds mi) (hz:xs.length≤sizeLine) (hj:(∀ j∈js,j<own)∧js.Nodup)
  (he:∀ (i:Nat) (x:γ),xs[i]?=some x->EvO (zm9 js (bds x) mi (zk1 own fv Γ)) te true ((ns x).map dI)):Ev Γ (zoc own fv wi tg zpj te) true (dRI (xs.map ns)):=λF0 Hb F H σ ow Q a k =>
 it F0 Hb F H σ ow _ a λJ F1 H1 g1 ok D hD=>by
  have hno:∀ j∈js,((zk1 own fv Γ))[j]?=some .no:=λj hj'=>by
   have:=hj.1 j hj'
   unfold zk1
   rw [List.getElem?_append_left (by simpa using this),List.getElem?_replicate,if_pos this]
  obtain ⟨hD0,hDF,hDb⟩:=a.free g1 hD
  refine ⟨λi mm ys σb H2=>mm=xs.length-i∧i≤xs.length∧ys.length≤i∧∃ F2,Grow F1 H1 F2 H2∧F2 D=none∧H2 D=some (.lst ys)∧(ys.Nodup∧V.ref D ∉ ys∧Paired (zhT (off F2 Hb)) ys ((xs.take i).map ns))∧At F0 Hb F2 H2 σb (λ_=>none) (zk1 own fv Γ),
   ⟨_,rfl,Nat.zero_le _,Nat.zero_le _,F1,((Grow.refl g1.fh)).newH hD,hDF,zaO,⟨.nil,by simp,by simpa using Paired.nil⟩,((↑35).block own fv).grow (((Grow.refl g1.fh)).newH hD)⟩,?_⟩
  rintro i mm ys σb H2 ⟨rfl,hi,hy,F2,g2,hF2,hH2,⟨hN,hDy,hP⟩,a2⟩
  refine ⟨hH2,?_⟩
  obtain ⟨hstop,hitem⟩:=ok.up g2.f H2 g2.fh
  by_cases hlt:i<xs.length
  ·obtain ⟨go,yl⟩:=hitem i xs[i] (List.getElem?_eq_getElem hlt)
   refine .inr ⟨go,λx H' y=>?_⟩
   obtain ⟨g3,bind⟩:=yl x H' y
   refine bind σb _ λvs hvs=>?_
   have a3:=(a2.grow g3).setMany (js:=js) hvs
   have hx:xs[i]?=some xs[i]:=List.getElem?_eq_getElem hlt
   refine zmr (Γ:=zm9 js (bds xs[i]) mi (zk1 own fv Γ)) F0 Hb F2 H' _ _ _ a3 λF4 H4 g4=>?_
   have tk:=zkI hx
   rw [if_pos rfl]
   refine he i _ hx F0 Hb F4 H4 _ _ _ (a3.grow g4) λp ws F5 H5 g5 p1 p2 p3 q5=>?_
   have ew:=zhV q5
   subst ew
   have g24:=g3.trans g4
   have g6:=g5.take p1 p3
   have g26:=g24.trans g6
   have n2:H5 D=some (.lst ys):=g26.h _ _ hH2
   have hpD:D≠p:=λz=>by rw [← z] at p1;rw [g24.h _ _ hH2] at p1;cases p1
   have n1:upd F5 p (.lst (↑0 V.int (ns xs[i]))) D=none:=g26.no D (by rw [hH2];simp) hF2
   have hbp:Hb p=none:=(a2.g.h.trans g24.h).free p1
   have n3:H1 D=none:=hD
   refine ⟨n2,by omega,xs.length-(i+1),by omega,rfl,hlt,by simp;omega,upd F5 p (.lst (↑0 V.int (ns xs[i]))),?_,n1,zaO,⟨?_,?_,?_⟩,?_⟩
   ·exact (g2.trans g26).setH n1 n3
   ·
    refine List.nodup_append.mpr ⟨hN,by simp,λv hv w hw z=>?_⟩
    rw [List.mem_singleton.mp hw] at z
    subst z
    obtain ⟨n,hn⟩:=List.getElem?_of_mem hv
    have hl:=Paired.length hP
    obtain ⟨v',e',⟨r,er,hr⟩⟩:=zbt hP (List.getElem?_eq_getElem (l:=(xs.take i).map ns) (i:=n) (by have:=((List.getElem?_eq_some_iff.mp hn)).1;omega))
    rw [hn] at e'
    cases e'
    cases er
    have:=(zcu.mp hr).2
    have:=g24.h _ _ (g2.fh _ _ this)
    rw [p1] at this;cases this
   ·intro z
    rcases List.mem_append.mp z with z | z
    ·exact hDy z
    ·have:=List.mem_singleton.mp z
     cases this
     exact hpD rfl
   ·rw [tk,List.map_append]
    refine zcX (zb0 (λ_ _ ⟨r,q1,q2⟩=>⟨r,q1,zmp g26.f _ _ q2⟩) hP) (.cons ⟨p,rfl,zcu.mpr ⟨hbp,zaO⟩⟩ .nil)
   ·have a5:=((a3.grow g4).grow g6).unsetMany hno hj.2
    refine ⟨a5.g.setH n1 hDb,a5.inj,λ_ _ h=>(nomatch h),λj s es=>?_,a5.len⟩
    have:=a5.sl j s es
    cases s with
    | no=>trivial
    | va m d=>exact this
    | ow m ds=>obtain ⟨_,_,_,h,_⟩:=this;exact (nomatch h)
    | ob m C p dx fs=>obtain ⟨_,_,h,_⟩:=this;exact (nomatch h)
    | ol p ds=>obtain ⟨_,_,h,_⟩:=this;exact (nomatch h)
    | tl d=>exact (znQ es).elim
  ·have e:i=xs.length:=by omega
   subst e
   rw [List.take_length] at hP
   refine .inl ⟨hstop,k (.ref D) (upd F2 D (.lst ys)) H2 ((↑67).take hD0 hH2) ⟨D,ys,rfl,zcu.mpr ⟨hDb,zaO⟩,hN,hDy,?_⟩⟩
   exact zb0 (λ_ _ ⟨r,q1,q2⟩=>⟨r,q1,zmp (Same.new hF2 _) _ _ q2⟩) hP
end
section
variable {Γ:Ctx} {i:Nat} {nss:Jq}
theorem zj7 {R:Hp} {r:Addr} {new:Ji}:∀ {vs:List V} {nss:Jq} {j:Nat},Paired (zhT R) vs nss->vs.Nodup->vs[j]?=some (.ref r)->Paired (zhT (upd R r (.lst (new.map V.int)))) vs (nss.set j new)
 | _,_,_,.nil,_,h=>by simp at h
 | v :: vs,ns :: nss,0,.cons q t,hN,h=>by
  have h:v=.ref r:=by simpa using h
  subst h
  refine .cons ⟨r,rfl,zaO⟩ ?_
  have hn1:=(List.nodup_cons.mp hN).1
  clear q h hN
  induction t with
  | nil=>exact .nil
  | @cons a b as bs q t ih =>
   obtain ⟨r',rfl,q2⟩:=q
   have hne:r'≠r:=λz=>hn1 (by rw [z];exact ↑3)
   exact .cons ⟨r',rfl,by rw [zaC hne];exact q2⟩ (ih λz=>hn1 (⇑3 _ z))
 | v :: vs,ns :: nss,j+1,.cons q t,hN,h=>by
  have hN:=List.nodup_cons.mp hN
  have h:vs[j]?=some (.ref r):=by simpa using h
  obtain ⟨r',rfl,q2⟩:=q
  have hne:r'≠r:=λz=>hN.1 (by rw [z];exact List.mem_of_getElem? h)
  exact .cons ⟨r',rfl,by rw [zaC hne];exact q2⟩ (zj7 t hN.2 h)
theorem At.row {F0 Hb F H:Hp} {σ:St} {own:Nat->Option Addr} (a:At F0 Hb F H σ own Γ) (e:Γ[i]?=some (.tl (dRI nss))) (hno:zpZ Γ=true) {k:Int} (hk:InB nss.length k) :
  ∃ p vs r,σ[i]?=some (some (.ref p))∧H p=some (.lst vs)∧atI vs k=some (.ref r)∧H r=some (.lst ((ixD nss k).map V.int))∧∀ (H':Hp) (new:Ji),Same H H'->At F0 Hb F (upd H' r (.lst (new.map V.int))) σ own ((unC Γ).set i (.tl (dRI (zcW nss k new)))):=by
 obtain ⟨x,R,h1,h2,h3,h4,p,vs,rfl,h6,h7,h8,h9⟩:=a.sl i _ e
 have hi:i<σ.length:=by rw [a.len];exact (↑62).1
 have e':σ[i]?=some (some (.ref p)):=by
  rw [List.getElem?_eq_getElem hi] at h1 ⊢
  exact congrArg some h1
 have hl:=Paired.length h9
 obtain ⟨j,ej,hj,_⟩:=zkZ hk
 obtain ⟨v,ev,⟨r,rfl,hr⟩⟩:=zbt h9 (List.getElem?_eq_getElem (l:=nss) (i:=j) hj)
 have ex:ixD nss k=nss[j]:=by
  unfold ixD atI
  rw [ej]
  show (nss[j]?).getD default=_
  rw [List.getElem?_eq_getElem hj];rfl
 have es:∀ new,zcW nss k new=nss.set j new:=λnew=>by unfold zcW;rw [ej]
 have rF:=h3 r _ hr
 have rO:∀ l,own l≠some r:=λl z=>by rw [h4 l r z] at hr;cases hr
 have rp:p≠r:=λz=>h8 (by rw [z];exact List.mem_of_getElem? ev)
 refine ⟨p,vs,r,e',h2 _ _ h6,?_,by rw [ex];exact h2 _ _ hr,λH' new hs=>?_⟩
 ·unfold atI
  rw [hl,ej]
  exact ev
 ·have a1:=(a.grow (Grow.only a.fh hs)).spoil hno (.lst (new.map V.int)) rF.1 rF.2 rO
  refine ⟨a1.g,a1.inj,a1.liv,λl s es'=>?_,by rw [List.length_set];exact a1.len⟩
  by_cases z:i=l
  ·subst z
   rw [List.getElem?_set_self (by rw [← a1.len];exact hi)] at es'
   cases es'
   rw [e']
   refine ⟨.ref p,upd R r (.lst (new.map V.int)),rfl,λb w q=>?_,λb w q=>?_,λl' b q=>?_,p,vs,rfl,by rw [zaC rp];exact h6,h7,h8,by rw [es];exact zj7 h9 h7 ev⟩
   ·by_cases y:b=r
    ·subst y;rw [zaO] at q ⊢;exact q
    ·rw [zaC y] at q ⊢;exact hs _ _ (h2 _ _ q)
   ·by_cases y:b=r
    ·subst y;exact rF
    ·rw [zaC y] at q;exact h3 b w q
   ·have y:b≠r:=λy=>rO l' (y ▸ q)
    rw [zaC y];exact h4 l' b q
  ·rw [List.getElem?_set_ne z] at es'
   exact a1.sl l s es'
end
section
variable {E:XS} {Γ:Ctx} {tb:TE} {u:TS} {o:Oc} {i:Nat} {α β:Type} {f:α->Ds} {xs:List α}
theorem zkJ {γ S:Type} {wi:TI} {g:TG} {tb:TS} {js:List Nat} {xs:List γ} {bds:γ->List Ds} {mi:Bool} {s0:S} (G:S->Ctx) (f:S->γ->S) (I:Nat->S->Prop) (it:Iv Γ wi g js xs bds mi) (w:Wk Γ (G s0)) (h0:I 0 s0)
  (body:∀ (i:Nat) (x:γ) (s:S),xs[i]?=some x->I i s->I (i+1) (f s x)∧Run E (zm9 js (bds x) mi (G s)) tb (.nx (G (f s x)))) (k:Run E (G (xs.foldl f s0)) u o):Run E Γ (tSeq (zsp wi g tb) u) o :=
 zbp (β:=Unit) (kk:=λ_=>()) G (λ_=>o) f I it w h0 body λs e _=>e ▸ k
end
structure T5 (α β γ δ ε:Type) where
 a:α
 b:β
 c:γ
 d:δ
 e:ε
section
variable {E:XS} {Γ:Ctx} {m:Bool} {K:W.Frag} {te tj:TE} {u:TS} {o:Oc} {i j:Nat} {nss:Jq} {α β:Type}
def zqv (Γ:Ctx) (t:TE) (ds:List Ds):Prop:=∀ (F0 Hb F H:Hp) (σ:St) (own:Nat->Option Addr) (Q:VK),At F0 Hb F H σ own Γ →
 (∀ p vs F' H',Grow F H F' H'->H p=none->F' p=none->H' p=some (.lst vs)->Paired (λv (d:Ds)=>d.pr (off F' H) v) vs ds->Q (.ref p) H')->t σ H Q
theorem zr3 {ds:List Ds} (h:EvO (zsx Γ) te true ds):zqv Γ te ds:=λF0 Hb F H σ own Q a k=>h F H F H σ _ Q a.now λp vs F' H' g h1 h2 h3 q=>k p vs F' H' g h1 h2 h3 q
theorem zqv.evo {ds:List Ds} (h:zqv Γ te ds):EvO Γ te true ds:=λF0 Hb F H σ own Q a k=>h F0 Hb F H σ own Q a λp vs F' H' g h1 h2 h3 q=>k p vs F' H' g h1 h2 h3 (zdz (ds:=[]) (zll a.g.h) q)
theorem zqv.borrowO {ds es:List Ds} (e:Γ[i]?=some (.ow m es)) (h:zqv (Γ.set i (.va m (dL es))) te ds):zqv Γ te ds:=λF0 Hb F H σ own Q a k=>by
 obtain ⟨F1,own1,_,a1⟩:=a.share e
 refine h F0 Hb F1 H σ own1 Q a1 λp vs F' H' g h1 h2 h3 q=>?_
 have e:∀ b o,off F' H b=some o->H b=none∧F' b=some o:=λb o z=>zcu.mp z
 refine k p vs (λb=>match H b with | some _=>F b | none=>F' b) H' ⟨λb o z=>?_,λb o z=>?_,g.h,λb z1 z2=>?_⟩ h1 (by rw [h1];exact h2) h3 (zdz (ds:=[]) (λb o z=>?_) q)
 ·show (match H b with | some _=>F b | none=>F' b)=some o
  rw [a.fh _ _ z];exact z
 ·have z:(match H b with | some _=>F b | none=>F' b)=some o:=z
  cases w:H b with
  | some o'=>rw [w] at z;exact g.h _ _ (a.fh _ _ z)
  | none=>rw [w] at z;exact g.fh _ _ z
 ·show (match H b with | some _=>F b | none=>F' b)=none
  cases w:H b with
  | some o'=>exact z2
  | none=>exact absurd w z1
 ·obtain ⟨h1,h2⟩:=e b o z
  refine zcu.mpr ⟨h1,?_⟩
  show (match H b with | some _=>F b | none=>F' b)=some o
  rw [h1];exact h2
theorem zkb {x:α} {i j:Nat} (d1 d2:α->Ds) (fo:β->Oc) {kk:α->β} (h:Ev Γ te m (dT [d1 x,d2 x])) (k:∀ y,y=x->Run E ((Γ.set i (.va m (d1 y))).set j (.va m (d2 y))) u (fo (kk y))):Run E Γ (tSeq (zk2 te (zr9 K 2 (zhw (zdV i) (zhw (zdV j) zsr)))) u) (fo (Let x kk)):=zlm h (k x rfl)
theorem zf9 {R R':Hp} (e:Same R R') {vs:List V} (h:Paired (zhT R) vs nss):Paired (zhT R') vs nss:=zb0 (λ_ _ ⟨r,q1,q2⟩=>⟨r,q1,e _ _ q2⟩) h
open Classical in
theorem zk4 {v:Ji->Int} {k:Int} {P:Ji->Prop} (e:Γ[i]?=some (.tl (dRI nss))) (ej:Γ[j]?=some .no) (hno:zpZ Γ=true) (hP:∀ ns∈nss,P ns) (hk:∀ ns,P ns->InB ns.length k)
  (h:∀ ns,P ns->Ev ((unC Γ).set j (.tl (dL (ns.map dI)))) te false (dI (v ns))) (hj:∀ ns,P ns->Ev ((unC Γ).set j (.tl (dL (ns.map dI)))) tj false (dI k))
  (kk:Run E ((unC Γ).set i (.tl (dRI (nss.map λns=>zcW ns k (v ns))))) u o):Run E Γ (tSeq (zsp (zp1 K (zjm i)) (zdV j) (tSeq (zk2 te (zsP (zjm j) tj zox)) zp9)) u) o:=λF0 Hb F H σ own D a q=>by
 obtain ⟨x,R,h1,h2,h3,h4,p,vs,rfl,h6,h7,h8,h9⟩:=a.sl i _ e
 have hi:i<σ.length:=by rw [a.len];exact (↑62).1
 have e':σ[i]?=some (some (.ref p)):=by
  rw [List.getElem?_eq_getElem hi] at h1 ⊢
  exact congrArg some h1
 have hij:i≠j:=λz=>by rw [z,ej] at e;cases e
 have hl:=Paired.length h9
 have st:∀ v'∈vs,∃ r,v'=.ref r∧F r=none∧Hb r=none∧(∀ l,own l≠some r)∧r≠p:=λv' hv=>by
  obtain ⟨n,hn⟩:=List.getElem?_of_mem hv
  have hn':=((List.getElem?_eq_some_iff.mp hn)).1
  obtain ⟨v2,ev,⟨r,er,hr⟩⟩:=zbt h9 (List.getElem?_eq_getElem (l:=nss) (i:=n) ⇑0)
  rw [hn] at ev
  cases ev
  refine ⟨r,er,(h3 r _ hr).1,(h3 r _ hr).2,(λl z=>by rw [h4 l r z] at hr;cases hr),λz=>h8 ?_⟩
  subst z;rw [← er];exact hv
 have hp:H p=some (.lst vs):=h2 _ _ h6
 have pF:=h3 p _ h6
 have pO:∀ l,own l≠some p:=λl z=>by rw [h4 l p z] at h6;cases h6
 have a0:At F0 Hb F H σ own (unC Γ):=⟨a.g,a.inj,a.liv,λk s es=>by
  obtain ⟨r,e1,rfl⟩:=zoZ es
  have:=a.sl k r e1
  cases r with
  | tl d=>trivial
  | no=>trivial
  | va m d=>exact this
  | ow m ds=>exact this
  | ol p ds=>exact this
  | ob m C p dx fs=>exact this,by unfold unC;rw [List.length_map];exact a.len⟩
 have gst:∀ n ns,nss[n]?=some ns->(((nss.take n).map (λns=>zcW ns k (v ns))++nss.drop n)).set n (zcW ns k (v ns))=(nss.take (n+1)).map (λns=>zcW ns k (v ns))++nss.drop (n+1):=λn ns hn=>by
  have hlt:=((List.getElem?_eq_some_iff.mp hn)).1
  have en:nss[n]=ns:=by rw [List.getElem?_eq_getElem hlt] at hn;exact Option.some.inj hn
  rw [List.set_append_right _ _ (by rw [List.length_map,List.length_take];omega),List.length_map,List.length_take,Nat.min_eq_left ⇑0,Nat.sub_self,List.drop_eq_getElem_cons hlt,List.set_cons_zero,List.take_succ_eq_append_getElem hlt,List.map_append,List.append_assoc,en]
  rfl
 refine ⟨_,e',p,rfl,⟨vs,SqL.of hp⟩,λn m σ' H'=>m=vs.length-n∧n≤vs.length∧At F0 Hb F H' σ' own (unC Γ)∧σ'[i]?=some (some (.ref p))∧H' p=some (.lst vs)∧Paired (zhT H') vs ((nss.take n).map (λns=>zcW ns k (v ns))++nss.drop n),⟨_,rfl,Nat.zero_le _,a0,e',hp,by simpa using zf9 h2 h9⟩,?_⟩
 rintro n m σ1 H1 ⟨rfl,hn,a1,s1,p1,rows1⟩
 by_cases hlt:n<vs.length
 ·refine .inr ⟨⟨vs,vs[n],SqL.of p1,List.getElem?_eq_getElem hlt⟩,λσ' H'=>At F0 Hb F H' σ' own (unC Γ)∧σ'[i]?=some (some (.ref p))∧H' p=some (.lst vs)∧Paired (zhT H') vs ((nss.take (n+1)).map (λns=>zcW ns k (v ns))++nss.drop (n+1)),λσ' H' z=>⟨_,by omega,rfl,by omega,z⟩,λv' H' y=>?_⟩
  obtain ⟨rfl,y⟩:=y
  have hv:=y vs (SqL.of p1)
  obtain ⟨ns,hns⟩:∃ ns,nss[n]?=some ns:=⟨_,List.getElem?_eq_getElem ⇑0⟩
  have hrow:(((nss.take n).map (λns=>zcW ns k (v ns))++nss.drop n))[n]?=some ns:=by
   rw [List.getElem?_append_right (by rw [List.length_map,List.length_take];omega),List.length_map,List.length_take,Nat.min_eq_left ⇑0,Nat.sub_self,List.getElem?_drop]
   exact hns
  obtain ⟨v2,ev,⟨r,er,hr⟩⟩:=zbt rows1 hrow
  rw [hv] at ev
  cases ev
  subst er
  obtain ⟨r',er',rF,rB,rO,rp⟩:=st _ (List.mem_of_getElem? hv)
  cases er'
  have Pn:P ns:=hP ns (List.mem_of_getElem? hns)
  have hjl:j<σ1.length:=by rw [a1.len];unfold unC;rw [List.length_map];exact (List.getElem?_eq_some_iff.mp ej).1
  have sj:((σ1.set j (some (.ref r))))[j]?=some (some (.ref r)):=List.getElem?_set_self hjl
  have a2:At F0 Hb F H' (σ1.set j (some (.ref r))) own (unC Γ):=⟨a1.g,a1.inj,a1.liv,λk s es=>by
   by_cases z:j=k
   ·subst z
    obtain ⟨r',e1,rfl⟩:=zoZ es
    rw [ej] at e1
    cases e1
    trivial
   ·rw [List.getElem?_set_ne z]
    exact a1.sl k s es,by simp [a1.len]⟩
  have a3:At F0 Hb F H' (σ1.set j (some (.ref r))) own ((unC Γ).set j (.tl (dL (ns.map dI)))):=⟨a2.g,a2.inj,a2.liv,λk s es=>by
   by_cases z:j=k
   ·subst z
    rw [List.getElem?_set_self (by rw [← a1.len];exact hjl)] at es
    cases es
    rw [sj]
    refine ⟨.ref r,λb=>if b=r then some (.lst ↑53) else none,rfl,λb o z=>?_,λb o z=>?_,λl b z=>?_,r,ns.map V.int,rfl,if_pos rfl,zlc⟩
    ·dsimp only at z
     split at z
     ·cases z;rename_i w;rw [w];exact hr
     ·cases z
    ·dsimp only at z
     split at z
     ·rename_i w;rw [w];exact ⟨rF,rB⟩
     ·cases z
    ·dsimp only
     rw [if_neg (λw=>rO l (by rw [← w];exact z))]
   ·rw [List.getElem?_set_ne z] at es
    exact a2.sl k s es,by simpa using a2.len⟩
  obtain ⟨nn,en,hnn,_⟩:=zkZ (hk ns Pn)
  refine h ns Pn F0 Hb F H' _ own _ a3 λw F2 H2 g2 qw=>?_
  have qw:w=.int (v ns):=qw
  subst qw
  have a4:=a3.grow (Grow.only a3.fh g2.h)
  refine ⟨_,sj,hj ns Pn F0 Hb F H2 _ own _ a4 λw F3 H3 g3 qk=>?_⟩
  have qk:w=.int k:=qk
  subst qk
  have s13:Same H' H3:=g2.h.trans g3.h
  refine ⟨r,ns.map V.int,k,nn,rfl,rfl,s13 _ _ hr,by rw [List.length_map];exact en,?_⟩
  have enew:(↑53).set nn (.int (v ns))=(zcW ns k (v ns)).map V.int:=by
   unfold zcW
   rw [en]
   show _=(ns.set nn (v ns)).map V.int
   rw [List.map_set]
  rw [enew]
  refine ⟨?_,?_,?_,?_⟩
  ·have:=(a2.grow (Grow.only a2.fh s13)).spoil (zrl hno) (.lst ((zcW ns k (v ns)).map V.int)) rF rB rO
   rwa [zs5] at this
  ·rw [List.getElem?_set_ne (Ne.symm hij)];exact s1
  ·rw [zaC (Ne.symm rp)];exact s13 _ _ p1
  ·rw [← gst n ns hns]
   exact zj7 (zf9 s13 rows1) h7 hv
 ·have en:n=nss.length:=by omega
  subst en
  refine .inl ⟨⟨vs,SqL.of p1,by omega⟩,kk F0 Hb F H1 σ1 own D ?_ q⟩
  refine ⟨a1.g,a1.inj,a1.liv,λl s es=>?_,by rw [List.length_set];exact a1.len⟩
  by_cases z:i=l
  ·subst z
   rw [List.getElem?_set_self (by rw [← a1.len];exact (List.getElem?_eq_some_iff.mp s1).1)] at es
   cases es
   rw [s1]
   have rows2:Paired (zhT H1) vs (nss.map λns=>zcW ns k (v ns)):=by simpa using rows1
   refine ⟨.ref p,λb=>if b=p then some (.lst vs) else if V.ref b∈vs then H1 b else none,rfl,λb o z=>?_,λb o z=>?_,λl b z=>?_,p,vs,rfl,if_pos rfl,h7,h8,?_⟩
   ·dsimp only at z
    split at z
    ·cases z;rename_i w;rw [w];exact p1
    ·split at z
     ·exact z
     ·cases z
   ·dsimp only at z
    split at z
    ·rename_i w;rw [w];exact pF
    ·split at z
     ·rename_i w
      obtain ⟨r,er,t1,t2,_⟩:=st _ w
      cases er
      exact ⟨t1,t2⟩
     ·cases z
   ·dsimp only
    rw [if_neg (λw=>pO l (by rw [← w];exact z)),if_neg]
    intro w
    obtain ⟨r,er,_,_,t3,_⟩:=st _ w
    cases er
    exact t3 l z
   ·clear q rows1 h9 hp h6 h kk
    have key:∀ {ws:List V} {mss:Jq},(∀ w∈ws,w∈vs)->Paired (zhT H1) ws mss->Paired (zhT λb=>if b=p then some (.lst vs) else if V.ref b∈vs then H1 b else none) ws mss:=by
     intro ws mss hw hq
     induction hq with
     | nil=>exact .nil
     | cons q1 _ ih =>
      obtain ⟨r,rfl,q2⟩:=q1
      have hm:=hw _ ↑3
      refine .cons ⟨r,rfl,?_⟩ (ih λw hw'=>hw w (⇑3 _ hw'))
      dsimp only
      rw [if_neg (λz=>h8 (by rw [← z];exact hm)),if_pos hm]
      exact q2
    exact key (λ_ hw=>hw) rows2
  ·rw [List.getElem?_set_ne z] at es
   exact a1.sl l s es
end
end L2
namespace Lat
open L2
theorem zkD {j:Nat}:∀ {xs:Ji} {as:List Vc} {i:Nat} {x x0:Int} {a:Vc},xs[i]?=some x0->as[i]?=some a->comb (xs.set i x) as j=comb xs as j+(x-x0)*a j
 | [],_,_,_,_,_,h,_=>by simp at h
 | _ :: _,[],_,_,_,_,_,h=>by simp at h
 | y :: xs,b :: as,0,x,x0,a,h,k=>by
  have h:y=x0:=by simpa using h
  have k:b=a:=by simpa using k
  subst h k
  simp only [List.set_cons_zero,comb]
  grind
 | y :: xs,b :: as,i+1,x,x0,a,h,k=>by
  have:=zkD (j:=j) (xs:=xs) (as:=as) (i:=i) (x:=x) (x0:=x0) (a:=a) ↑118 (by simpa using k)
  simp only [List.set_cons_succ,comb,this]
  omega
theorem zkg {j:Nat}:∀ {xs:Ji} {as:List Vc} {i:Nat} {x:Int} {a a0:Vc},xs[i]?=some x->as[i]?=some a0->comb xs (as.set i a) j=comb xs as j+x*(a j-a0 j)
 | [],_,_,_,_,_,h,_=>by simp at h
 | _ :: _,[],_,_,_,_,_,h=>by simp at h
 | y :: xs,b :: as,0,x,a,a0,h,k=>by
  have h:y=x:=by simpa using h
  have k:b=a0:=by simpa using k
  subst h k
  simp only [List.set_cons_zero,comb]
  grind
 | y :: xs,b :: as,i+1,x,a,a0,h,k=>by
  have:=zkg (j:=j) (xs:=xs) (as:=as) (i:=i) (x:=x) (a:=a) (a0:=a0) ↑118 (by simpa using k)
  simp only [List.set_cons_succ,comb,this]
  omega
theorem zif {j:Nat}:∀ {xs:Ji} {as:List Vc},(∀ (i:Nat) (x:Int) (a:Vc),xs[i]?=some x->as[i]?=some a->x*a j=0)->comb xs as j=0
 | [],_,_=>rfl
 | _ :: _,[],_=>rfl
 | x :: xs,a :: as,h=>by
  have h0:=h 0 x a rfl rfl
  have:=zif (j:=j) (xs:=xs) (as:=as) λi y b h1 h2=>h (i+1) y b (by simpa using h1) (by simpa using h2)
  simp only [comb,h0,this]
  rfl
theorem zkj {j x y:Nat} {q:Int} {t:Ji} {as:List Vc} {t1 t2:Int} {a1 a2:Vc} (hxy:x≠y) (h1:t[x]?=some t1) (h2:t[y]?=some t2) (k1:as[x]?=some a1) (k2:as[y]?=some a2) {b:Vc} (hb:b j=a2 j+q*a1 j) :
  comb (t.set x (t1-q*t2)) (as.set y b) j=comb t as j:=by
 rw [zkD h1 (by rw [List.getElem?_set_ne (Ne.symm hxy)];exact k1),zkg h2 k2,hb]
 grind
noncomputable def zd0 (n:Nat) (ss:Jq):Jq:=↑0 (λ(x:Ji)=>x.drop n) (List.filter (λ(x:Ji)=>decide (n≤hd x)) ss)
theorem zjY {l:Ji} {n:Nat} (h:n≤hd l) (hl:hd l<l.length):hd (l.drop n)=hd l-n:=zjo (by rw [zda,show n+(hd l-n)=hd l by omega];exact zg9 hl) λi hi=>by
 rw [zda];exact zbl ⇑0
theorem zh8 {n:Nat} {ss:Jq} {t:Ji} (h:t∈zd0 n ss):∃ s∈ss,n≤hd s∧t=s.drop n:=by
 unfold zd0 at h
 obtain ⟨s,hs,rfl⟩:=List.mem_map.mp h
 obtain ⟨h1,h2⟩:=List.mem_filter.mp hs
 exact ⟨s,h1,by simpa using h2,rfl⟩
theorem zhR {n k:Nat}:∀ {ss:Jq} {lo:Nat},Ech (n+k) lo ss->Ech k (lo-n) (zd0 n ss)
 | [],_,_=>trivial
 | s :: ss,lo,e=>by
  unfold zd0
  by_cases q:n≤hd s
  ·rw [List.filter_cons_of_pos ↑57,List.map_cons]
   have hl:=e.1
   have e1:=zjY q (by rw [hl];exact e.2.2.1)
   have e3:=e.2.2.1
   have e2:=e.2.1
   refine ⟨by rw [List.length_drop,hl];omega,by rw [e1];omega,by rw [e1];omega,by rw [e1,zda,show n+(hd s-n)=hd s by omega];exact e.2.2.2.1,?_⟩
   have:=zhR e.2.2.2.2
   rw [e1]
   exact this.mono ⇑0
  ·rw [List.filter_cons_of_neg ↑57]
   have:=zhR e.2.2.2.2
   exact this.mono (by have:=e.2.1;omega)
theorem zhW {n k:Nat}:∀ {ss:Jq} {lo:Nat},Ech (n+k) lo ss->Red ss->Red (zd0 n ss)
 | [],_,_,_=>trivial
 | s :: ss,lo,e,r=>by
  unfold zd0
  by_cases q:n≤hd s
  ·rw [List.filter_cons_of_pos ↑57,List.map_cons]
   refine ⟨λt ht=>?_,zhW e.2.2.2.2 r.2⟩
   obtain ⟨x,hx,h1,rfl⟩:=zh8 ht
   have ex:=Ech.mem e.2.2.2.2 x hx
   rw [zjY h1 (by rw [ex.1];exact ex.2.2.1),zda,zda,show n+(hd x-n)=hd x by omega]
   exact r.1 x hx
  ·rw [List.filter_cons_of_neg ↑57]
   exact zhW e.2.2.2.2 r.2
theorem zlh {m n:Nat}:∀ {ss:Jq} {lo:Nat} {u:Vc},Ech m lo ss->SpL ss u->(∀ i,i<n->u i=0)->SpL (List.filter (λ(x:Ji)=>decide (n≤hd x)) ss) u
 | [],_,_,_,h,_=>h
 | s :: ss,lo,u,e,h,hz=>by
  obtain ⟨w,y,hw,hu⟩:=h.cons
  have e1:=SpL.before e.2.2.2.2 ↑205 hw
  by_cases q:n≤hd s
  ·rw [List.filter_cons_of_pos ↑57]
   have hw0:∀ i,i<n->w i=0:=λi hi=>SpL.before e.2.2.2.2 ⇑0 hw
   exact ((SpL.up (s:=s) (zlh e.2.2.2.2 hw hw0)).plus ((SpL.mem (ss:=s :: _) ↑3).smul y)).conv λi=>(hu i).symm
  ·rw [List.filter_cons_of_neg ↑57]
   have e2:=hu (hd s)
   rw [hz _ ⇑0,e1] at e2
   have e4:=e.2.2.2.1
   have hy:y=0:=by
    rcases Int.mul_eq_zero.mp (show y*vec s (hd s)=0 by omega) with z | z
    ·exact z
    ·omega
   refine zlh e.2.2.2.2 (hw.conv λi=>?_) hz
   rw [hu i,hy];simp
theorem zvK {m:Nat} {z:Int} {i:Nat}:vec (↑0 (λ(y:Int)=>(if (decide (y=z)) then (1:Int) else 0)) (zbz 0 m)) i=if i<m∧(i:Int)=z then 1 else 0:=by
 unfold vec
 rw [List.getD_eq_getElem?_getD,List.getElem?_map]
 by_cases hi:i<m
 ·have:(zbz 0 m)[i]?=some (i:Int):=by
   unfold zbz
   rw [List.getElem?_map,List.getElem?_range hi]
   show some ((0:Int)+(i:Int))=some (i:Int)
   rw [Int.zero_add]
  rw [this]
  show (if (decide ((i:Int)=z)) then (1:Int) else 0)=_
  by_cases e:(i:Int)=z
  ·rw [decide_eq_true e,if_pos rfl,if_pos ⟨hi,e⟩]
  ·rw [decide_eq_false e,if_neg ↥9,if_neg (λq=>e q.2)]
 ·rw [List.getElem?_eq_none ↑173,if_neg (λq=>hi q.1)]
  rfl
theorem zjd {m:Nat} {c:Int}:∀ (ys:Ji) (s:Int) (i:Nat),i<m->0≤c+s->comb ys (↑0 (λ(x:Int)=>vec (↑0 (λ(y:Int)=>(if (decide (y=(c+x))) then (1:Int) else 0)) (zbz 0 m))) (zbz s ys.length)) i=if c+s≤(i:Int) then vec ys ((i:Int)-(c+s)).toNat else 0
 | [],s,i,_,_=>by
  rw [show comb [] _ i=0 from rfl]
  split
  ·simp [vec]
  ·rfl
 | y :: ys,s,i,hi,hs=>by
  have ih:=zjd (c:=c) ys (s+1) i hi ⇑0
  rw [List.length_cons,zfw,List.map_cons]
  simp only [comb,ih]
  rw [zvK]
  by_cases e:(i:Int)=c+s
  ·rw [if_pos ⟨hi,e⟩,if_neg ⇑0,if_pos ⇑0,show ((i:Int)-(c+s)).toNat=0 by omega,zod]
   omega
  ·rw [if_neg (λq=>e q.2)]
   by_cases e2:c+s≤(i:Int)
   ·rw [if_pos ⇑0,if_pos e2,show ((i:Int)-(c+s)).toNat=((i:Int)-(c+(s+1))).toNat+1 by omega,zbg]
    omega
   ·rw [if_neg ⇑0,if_neg e2]
    omega
end Lat
namespace L2
open PySem PySem.Spec PyProof.Rows
section
variable {Γ:Ctx} {u:TS} {m:Bool} {i:Nat}
def dX (v:V) (d:Ds):Ds:=⟨λH u=>u=v∧d.pr H u,λe h=>⟨h.1,d.up e h.2⟩⟩
theorem zjv {v:V} {d:Ds} (e:Γ[i]?=some (.va m (dX v d))):Ev Γ (zjm i) m d:=λF0 Hb F H σ own Q a k =>
 (zaa e) F0 Hb F H σ own Q a λx F' H' g q=>k x F' H' g q.2
end
section
variable {f C:Addr} {m:Str}
structure ByCls (K:W.Frag) (C f:Addr) (m:Str):Prop where
 ga:W.specialIn K (.ref C) "__getattribute__"=some (some (.builtin "type.__getattribute__"))
 rd:W.readsIn K C (.type "type")=true
 fn:W.findCls K (.ref C) (.type "type") m=some (.val (.ref f))
 kp:W.keepIn K (.ref f)=true
end
section
variable {f C:Addr} {E:XK} {m:Str} {ta:TE} {t:TA}
theorem zhI {Γ:Ctx} {b:Bool} {ι:Type} {args:ι->List Ds} {pre:ι->Prop} {res:ι->Rs} {ds:List Ds} {d:Ds} {fs:List (Str×Ds)} (x:ι) (h1:Ev Γ ta false (dO C fs)) (h:EvA Γ t false ds) (ha:dO C fs :: ds=args x) (hp:pre x) (hr:res x=.va b d) (hn:(fs.map Prod.fst).contains m=false) :
  Ev Γ (zo1 C m (Spv args pre res) [] E ta t) b d:=λF0 Hb F H σ own Q a kk=>by
 refine h1 F0 Hb F H σ own _ a λu F1 H1 g1 ⟨p,dx,vs,e1,e2,e3,e4⟩=>⟨p,dx,vs,e1,g1.fh _ _ e2,?_,?_⟩
 ·have:∀ {vs:List (Str×V)} {fs:List (Str×Ds)} {R:Str×V->Str×Ds->Prop},Paired (λa b=>a.1=b.1∧R a b) vs fs->(fs.map Prod.fst).contains m=false->vs.lookup m=none:=by
   intro vs fs R hq
   induction hq with
   | nil=>intro _;rfl
   | @cons a b _ _ w _ ih =>
    intro z
    rw [List.map_cons,List.contains_cons,Bool.or_eq_false_iff] at z
    obtain ⟨a1,a2⟩:=a
    rw [List.lookup_cons]
    have:(m == a1)=false:=by rw [show a1=b.1 from w.1];exact z.1
    rw [this]
    exact ih z.2
  exact this e4 hn
 ·refine h F0 Hb F1 H1 σ own _ ↑35 λws F2 H2 g2 q2=>⟨x,F2,g2.fh,?_,hp,?_⟩
  ·rw [← ha,List.append_nil]
   refine .cons ((dO C fs).up (show Same F1 F2 from g2.f) ⟨p,dx,vs,e1,e2,e3,e4⟩) q2
  ·rw [hr]
   exact λv F' H' g q=>kk v F' H' ((↑67).trans g) (d.up (zhB ((↑35).g.h.trans g2.h)) q)
end
end L2
namespace Lat
open L2
noncomputable def dv:Ji->Vc->Int
 | [],_=>0
 | a :: w,u=>a*u 0+dv w λi=>u (i+1)
theorem znd:∀ (w t:Ji),((↑0 (λ(x:Int×Int)=>x.1*x.2) (List.zip w t))).sum=dv w (vec t)
 | [],_=>rfl
 | a :: w,[]=>by
  have:∀ (w:Ji),dv w (λ_=>0)=0:=by
   intro w
   induction w with
   | nil=>rfl
   | cons a w ih=>show a*0+dv w (λ_=>0)=0;rw [ih];omega
  exact (this (a :: w)).symm
 | a :: w,b :: t=>by
  show a*b+((↑0 (λ(x:Int×Int)=>x.1*x.2) (List.zip w t))).sum=a*b+dv w λi=>vec (b :: t) (i+1)
  rw [znd w t]
  congr 2
theorem ziB:∀ (w:Ji) (u v:Vc) (x:Int),dv w (λi=>u i+x*v i)=dv w u+x*dv w v
 | [],_,_,x=>by show (0:Int)=0+x*0;omega
 | a :: w,u,v,x=>by
  show a*(u 0+x*v 0)+dv w (λi=>u (i+1)+x*v (i+1))=_
  rw [ziB w (λi=>u (i+1)) (λi=>v (i+1)) x]
  show _=a*u 0+dv w (λi=>u (i+1))+x*(a*v 0+dv w λi=>v (i+1))
  grind
theorem zjQ (w:Ji):dv w (λ_=>0)=0:=by
 have:=ziB w (λ_=>0) (λ_=>0) (-1)
 have e:(λ(i:Nat)=>(0:Int)+-1*0)=λ_=>0:=by funext i;omega
 rw [e] at this
 omega
theorem zhG {w:Ji} {u v:Vc} (h:∀ i,u i=v i):dv w u=dv w v:=by rw [show u=v from funext h]
theorem zts {A:Vc->Prop} {w:Ji} {M:Int} {u:Vc} (h:∀ a,A a->M ∣ dv w a) (hu:Sp A u):M ∣ dv w u:=by
 induction hu with
 | zero=>rw [zjQ];exact Int.dvd_zero _
 | @add u a z _ ha ih=>rw [ziB];exact Int.dvd_add ih (Int.dvd_trans (h a ha) (Int.dvd_mul_left _ _))
theorem ztM {X B:Nat}:∀ {w:Ji} {u:Vc},(∀ x∈w,x.natAbs≤X)->(∀ i,(u i).natAbs≤B)->(dv w u).natAbs≤w.length*(X*B)
 | [],u,_,_=>by show (0:Int).natAbs≤_;simp
 | a :: w,u,h,k=>by
  have h1:=ztM (w:=w) (u:=λi=>u (i+1)) (λy hy=>h y (⇑3 _ hy)) λi=>k (i+1)
  have h2:(a*u 0).natAbs≤X*B:=by rw [Int.natAbs_mul];exact Nat.mul_le_mul (h a ↑3) (k 0)
  show (a*u 0+dv w λi=>u (i+1)).natAbs≤(w.length+1)*(X*B)
  rw [Nat.succ_mul]
  omega
noncomputable def lv1 (w t:Ji):Ji:=zcW (mul w (vec t (hd t))) (hd t:Int) (-(dv w (vec t)))
noncomputable def lv (N:Nat):Jq->Ji
 | []=>zcI ((N:Int)-1) [(0:Int)]++[(1:Int)]
 | t :: ss=>lv1 (lv N ss) t
theorem zsX {n:Nat}:(lv (n+1) []).length=n+1∧(∀ i,i<n->vec (lv (n+1) []) i=0)∧vec (lv (n+1) []) n=1:=by
 have hl:(zcI (↑121-1) [(0:Int)]).length=n:=by rw [show ↑121-1=(n:Int) by omega];exact zce
 refine ⟨by show ((zcI (↑121-1) [(0:Int)]++[(1:Int)])).length=_;rw [List.length_append,hl];rfl,λi hi=>?_,?_⟩
 ·show vec (zcI (↑121-1) [(0:Int)]++[(1:Int)]) i=0
  rw [zcC,hl,if_pos hi]
  rw [show ↑121-1=(n:Int) by omega]
  unfold zcI vec
  rw [List.getD_eq_getElem?_getD]
  cases q:((List.replicate (n:Int).toNat [(0:Int)]).flatten)[i]? with
  | none=>rfl
  | some y =>
   obtain ⟨l,h1,h2⟩:=List.mem_flatten.mp (List.mem_of_getElem? q)
   rw [List.eq_of_mem_replicate h1] at h2
   rw [List.mem_singleton.mp h2];rfl
 ·show vec (zcI (↑121-1) [(0:Int)]++[(1:Int)]) n=1
  rw [zcC,hl,if_neg ⇑0,Nat.sub_self];rfl
theorem zsj {n s a:Nat} {w t:Ji} (T:Sd n s t) (hw:w.length≤1000) (hb:Bit a w):Bit (a+(s+9000)) (lv1 w t):=λx hx=>by
 rcases zgI hx with rfl | hx
 ·have h1:=ztM hb T.bit.vec
  have h2:w.length*(2^a*2^s)≤2^10*(2^a*2^s):=Nat.mul_le_mul_right _ ⇑0
  rw [← Nat.pow_add,← Nat.pow_add] at h2
  have h3:2^(10+(a+s))≤2^(a+(s+9000)):=Nat.pow_le_pow_right ↥1 ⇑0
  rw [← Nat.pow_add] at h1
  rw [Int.natAbs_neg]
  exact ⇑6 h1 (⇑6 h2 h3)
 ·unfold mul at hx
  obtain ⟨y,hy,rfl⟩:=List.mem_map.mp hx
  show (y*vec t (hd t)).natAbs≤_
  rw [Int.natAbs_mul]
  exact ⇑6 (zgl (hb y hy) T.top) ↑267
theorem zrE {w t:Ji}:(lv1 w t).length=w.length:=by unfold lv1;rw [zex,zbw]
def lvI (N:Nat) (ss:Jq) (i:Nat) (w:Ji):Prop:=w=lv N (ss.drop (ss.length-i))
theorem zuV {N:Nat} {ss:Jq}:lvI N ss 0 (lv N []):=by
 unfold lvI
 rw [Nat.sub_zero,List.drop_length]
theorem zvo {N i:Nat} {ss:Jq} {t w:Ji} (hx:ss.reverse[i]?=some t) (I:lvI N ss i w):lvI N ss (i+1) (lv1 w t):=by
 have hi:i<ss.length:=by have:=(↑234).1;rwa [List.length_reverse] at this
 have e:ss[ss.length-(i+1)]?=some t:=by rw [← hx,List.getElem?_reverse hi];congr 1;omega
 unfold lvI at *
 have hj:ss.length-(i+1)<ss.length:=by omega
 rw [List.drop_eq_getElem_cons hj,show ss.length-(i+1)+1=ss.length-i by omega]
 rw [List.getElem?_eq_getElem hj] at e
 cases e
 show lv1 w _=lv1 (lv N _) _
 rw [← I]
theorem zqr {n s:Nat}:∀ {ss:Jq},(∀ t∈ss,Sd (n+1) s t)->n≤900->(lv (n+1) ss).length=n+1∧Bit (1+ss.length*(s+9000)) (lv (n+1) ss)
 | [],_,_=>⟨zsX.1,λx hx=>by
  have hx:x∈zcI (↑121-1) [(0:Int)]++[(1:Int)]:=hx
  rcases List.mem_append.mp hx with hx | hx
  ·unfold zcI at hx
   obtain ⟨l,h1,h2⟩:=List.mem_flatten.mp hx
   rw [List.eq_of_mem_replicate h1] at h2
   rw [List.mem_singleton.mp h2];exact Nat.zero_le _
  ·rw [List.mem_singleton.mp hx]
   exact Nat.one_le_two_pow⟩
 | t :: ss,h,hn=>by
  obtain ⟨h1,h2⟩:=zqr (λs hs=>h s (⇑3 _ hs)) hn
  refine ⟨by show (lv1 _ _).length=_;rw [zrE,h1],(zsj (h t ↑3) ⇑0 h2).mono ?_⟩
  rw [List.length_cons,Nat.succ_mul];omega
noncomputable def ziL (sw:Jq) (x:Ji):Jq:=↑0 (λ(r:Ji)=>r++[(0:Int)]) sw++[x++[↑16]]
theorem zbM {l:Ji}:vec (l++[(0:Int)])=vec l:=by
 funext i
 rw [zcC]
 split
 ·rfl
 ·rename_i h
  rw [za8 (l:=l) ⇑0]
  cases q:i-l.length with
  | zero=>rfl
  | succ k=>rw [zbg];rfl
theorem zhD {l:Ji} {n:Nat} (h:l.length=n) (i:Nat):vec (l++[↑16]) i=vec l i-(if i=n then 1 else 0):=by
 rw [zcC,h]
 by_cases q:i<n
 ·rw [if_pos q,if_neg ⇑0];omega
 ·rw [if_neg q,za8 (l:=l) ⇑0]
  by_cases z:i=n
  ·rw [if_pos z,z,Nat.sub_self];rfl
  ·rw [if_neg z]
   obtain ⟨k,hk⟩:∃ k,i-n=k+1:=⟨i-n-1,by omega⟩
   rw [hk,zbg];rfl
theorem zof {n:Nat} {sw:Jq} {x:Ji} (h:∀ r∈sw,r.length=n) (hx:x.length=n):∀ r∈ziL sw x,r.length=n+1:=λr hr=>by
 rcases List.mem_append.mp hr with hr | hr
 ·obtain ⟨s,hs,rfl⟩:=List.mem_map.mp hr
  rw [List.length_append,h s hs];rfl
 ·rw [List.mem_singleton.mp hr,List.length_append,hx];rfl
theorem zrn {b:Nat} {sw:Jq} {x:Ji} (h:∀ r∈sw,Bit b r) (hx:Bit b x):∀ r∈ziL sw x,Bit b r:=λr hr y hy=>by
 rcases List.mem_append.mp hr with hr | hr
 ·obtain ⟨s,hs,rfl⟩:=List.mem_map.mp hr
  rcases List.mem_append.mp hy with hy | hy
  ·exact h s hs y hy
  ·rw [List.mem_singleton.mp hy];exact Nat.zero_le _
 ·rw [List.mem_singleton.mp hr] at hy
  rcases List.mem_append.mp hy with hy | hy
  ·exact hx y hy
  ·rw [List.mem_singleton.mp hy];exact Nat.one_le_two_pow
theorem zvP {n:Nat} {sw:Jq} {x:Ji} (h:∀ r∈sw,r.length=n) (hx:x.length=n) {v:Vc} (hv:SpL (ziL sw x) v):SpL sw (λi=>v i+v n*(vec x i-if i=n then 1 else 0)):=by
 have hv:Sp (λu=>(∃ s∈sw,u=vec s)∨u=vec (x++[↑16])) v:=Sp.mono (λa ⟨r,hr,e⟩=>by
  rcases List.mem_append.mp hr with hr | hr
  ·obtain ⟨s,hs,rfl⟩:=List.mem_map.mp hr
   exact .inl ⟨s,hs,by rw [e,zbM]⟩
  ·rw [List.mem_singleton.mp hr] at e
   exact .inr e) hv
 obtain ⟨u,y,hu,e⟩:=hv.split
 have u0:u n=0:=Sp.at0 (λa ⟨s,hs,e⟩=>by rw [e];exact za8 (by rw [h s hs];exact ↑4 _)) hu
 have en:=e n
 rw [u0,zhD hx,if_pos rfl,za8 (l:=x) ⇑0] at en
 have hy:v n=-y:=by omega
 refine Sp.conv (A:=λu=>∃ s∈sw,u=vec s) hu λi=>?_
 rw [e i,hy,zhD hx]
 grind
theorem zst {n:Nat} {sw:Jq} {x:Ji} (hx:x.length=n) {d:Int} (h:SpL sw (λi=>d*vec x i)):SpL (ziL sw x) (λi=>if i=n then d else 0):=by
 have h1:SpL (ziL sw x) (λi=>d*vec x i):=Sp.mono (λa ⟨s,hs,e⟩=>⟨s++[(0:Int)],List.mem_append_left _ (List.mem_map.mpr ⟨s,hs,rfl⟩),by rw [e,zbM]⟩) h
 have h2:SpL (ziL sw x) (vec (x++[↑16])):=Sp.mem ⟨_,List.mem_append_right _ (List.mem_singleton.mpr rfl),rfl⟩
 refine (Sp.lin 1 (-d) h1 h2).conv λi=>?_
 rw [zhD hx]
 by_cases z:i=n
 ·rw [if_pos z,if_pos z];grind
 ·rw [if_neg z,if_neg z];grind
end Lat
namespace L2
open PySem PySem.Spec PyProof.Rows
structure CalleeM (P:Program) (w:World) (K:W.Frag) (mg:Str->Option Value) (base:Heap) (CX:CXT) (k:Nat) (C:Addr) (m:Str) (ps:List Str) (sp:Sp):Prop where
 ex:∃ f fd,FnOk P w K mg base CX k f fd ps sp∧Meth K C m f∧zf5 K fd ps []
def zwa (t u:TE):TE:=λσ H Q=>t σ H Q∨u σ H Q
section
variable {X:Cx} {CX:CXT} {k:Nat} {C:Addr} {ps:List Str} {sp:Sp} {E:XK} {m:Str} {pos apos:Pos} {o e:Expr} {es:List Expr} {ta:TE} {t:TA}
theorem zsN {pl:Sem Bool} (he:PE X o ta) (c:Cls X.K C) (F:CalleeM X.prog X.w X.K X.mg X.base CX k C m ps sp) (hr:Room k X.A) (hx:zf8 CX X E) (ha:PA X (e::es) t)
  (hst:starEach (e::es) X.env=(false,eval e X.env) :: starEach es X.env:=by rfl) (hpl:(↑148).any (·.1)=false:=by rfl)
  (ht:eval (.Call ↑154 (e::es) [] pos) X.env=(do
   let ov ← eval o X.env
   standAt apos.atName
   let (f,first) ← holding [ov] (getMethod ov m pl)
   callWith pos f first (backTo pos (starEach (e::es) X.env)) ↑192):=by rfl) :
  PE X (.Call ↑154 (e::es) [] pos) (zo1 C m sp [] E ta t):=by
 obtain ⟨f,fd,G,hm,hb⟩:=F.ex
 exact zsl he c hm G hr hb .nil hx ha hst hpl ht
theorem Ev.inl {Γ:Ctx} {t u:TE} {b:Bool} {d:Ds} (h:Ev Γ t b d):Ev Γ (zwa t u) b d:=λF0 Hb F H σ own Q a k=>.inl (h F0 Hb F H σ own Q a k)
theorem Ev.inr {Γ:Ctx} {t u:TE} {b:Bool} {d:Ds} (h:Ev Γ u b d):Ev Γ (zwa t u) b d:=λF0 Hb F H σ own Q a k=>.inr (h F0 Hb F H σ own Q a k)
end
section
variable {E:XS} {Γ:Ctx} {m:Bool} {K:W.Frag} {te:TE} {u:TS} {α β:Type}
theorem zjw {x:α} {i1 i2 i3:Nat} (d1 d2 d3:α->Ds) (fo:β->Oc) {kk:α->β} (h:Ev Γ te m (dT [d1 x,d2 x,d3 x])) (k:∀ y,y=x->Run E (((Γ.set i1 (.va m (d1 y))).set i2 (.va m (d2 y))).set i3 (.va m (d3 y))) u (fo (kk y))) :
  Run E Γ (tSeq (zk2 te (zr9 K 3 (zhw (zdV i1) (zhw (zdV i2) (zhw (zdV i3) zsr))))) u) (fo (Let x kk)):=λF0 Hb F H σ own D a q =>
 h F0 Hb F H σ own _ a λv F' H' g ⟨p,vs,e1,e2,e3⟩=>by
  cases e3 with | cons q1 t=>cases t with | cons q2 t=>cases t with | cons q3 t =>
   cases t
   exact ⟨p,_,e1,.inl (.inl ((zbn.trans g.fh) _ _ e2)),rfl,_,_,rfl,_,_,rfl,_,_,rfl,rfl,k x rfl F0 Hb F' H' _ own D ((((↑38).set i1 q1).set i2 q2).set i3 q3) q⟩
end
def orX (t u:TEX):TEX:=λσ H Q E=>t σ H Q E∨u σ H Q E
def EvX {α ε:Type} (xc:ε->Addr) (Γ:Ctx) (te:TEX) (m:Bool) (d:α->Ds) (r:Except ε α):Prop:=∀ (F0 Hb F H:Hp) (σ:St) (own:Nat->Option Addr) (Q:VK) (E:XK),At F0 Hb F H σ own Γ →
 (match r with | .ok v=>∀ v' F' H',Grow F H F' H'->(d v).pr (part m F' Hb) v'->Q v' H' | .error e=>∀ dct F' H',Grow F H F' H'->E (.ref (xc e)) dct H')->te σ H Q E
section
variable {α ε:Type} {xc:ε->Addr} {Γ:Ctx} {m:Bool} {d:α->Ds} {r:Except ε α} {u:TS} {E:XS}
theorem EvX.inl {t u:TEX} (h:EvX xc Γ t m d r):EvX xc Γ (orX t u) m d r:=λF0 Hb F H σ own Q E a k=>.inl (h F0 Hb F H σ own Q E a k)
theorem EvX.inr {t u:TEX} (h:EvX xc Γ u m d r):EvX xc Γ (orX t u) m d r:=λF0 Hb F H σ own Q E a k=>.inr (h F0 Hb F H σ own Q E a k)
end
end L2
namespace Lat
open L2
theorem zoQ:∀ (w v:Ji) (q:Int) (u:Vc),w.length=v.length->dv (↑0 ↑165 (List.zip w v)) u=dv w u-q*dv v u
 | [],[],q,u,_=>by show (0:Int)=0-q*0;omega
 | a :: w,b :: v,q,u,h=>by
  show (a-q*b)*u 0+dv (↑0 ↑165 (List.zip w v)) (λi=>u (i+1))=(a*u 0+dv w λi=>u (i+1))-q*(b*u 0+dv v λi=>u (i+1))
  rw [zoQ w v q (λi=>u (i+1)) ↑118]
  grind
theorem zrC (w:Ji) (c:Int) (v:Vc):dv w (λi=>c*v i)=c*dv w v:=by
 have:=ziB w (λ_=>0) v c
 rw [zjQ,Int.zero_add] at this
 rw [← this]
 exact zhG λi=>by omega
theorem zmE {c:Int} {l:Ji} {k:Nat}:vec (↑0 (λ(y:Int)=>c*y) l) k=c*vec l k:=by
 have e:↑0 (λ(y:Int)=>c*y) l=mul l c:=by unfold mul;congr 1;funext y;exact Int.mul_comm _ _
 rw [e,zd4,Int.mul_comm]
theorem zlp:∀ (n:Nat) (s i:Int) (u:Vc),dv (↑0 (λ(y:Int)=>(if (decide (y=i)) then (1:Int) else 0)) (zbz s n)) u=if s≤i∧i<s+n then u (i-s).toNat else 0
 | 0,s,i,u=>by
  rw [if_neg ⇑0]
  rfl
 | n+1,s,i,u=>by
  rw [zfw,List.map_cons]
  show (if (decide (s=i)) then (1:Int) else 0)*u 0+dv (↑0 (λ(y:Int)=>(if (decide (y=i)) then (1:Int) else 0)) (zbz (s+1) n)) (λk=>u (k+1))=_
  rw [zlp n (s+1) i]
  by_cases e:s=i
  ·have n1:¬ (s+1≤i∧i<s+1+(n:Int)):=by omega
   have n2:s≤i∧i<s+↑121:=by omega
   rw [decide_eq_true e,if_neg n1,if_pos n2,show (i-s).toNat=0 by omega]
   simp
  ·rw [decide_eq_false e]
   by_cases h:s+1≤i∧i<s+1+(n:Int)
   ·have n2:s≤i∧i<s+↑121:=by omega
    rw [if_pos h,if_pos n2,show (i-s).toNat=(i-(s+1)).toNat+1 by omega]
    simp
   ·have n2:¬ (s≤i∧i<s+↑121):=by omega
    rw [if_neg h,if_neg n2]
    simp
structure Du (W:Nat) (s:Jq×Jq):Prop where
 l1:s.1.length=W
 l2:s.2.length=W
 r:∀ t∈s.1,t.length=W
 d:∀ t∈s.2,t.length=W
 A:∀ (i j:Nat) (t v:Ji),s.2[i]?=some t->s.1[j]?=some v->dv t (vec v)=if i=j then 1 else 0
 B:∀ u:Vc,(∀ k,W≤k->u k=0)->∀ j,comb (s.2.map λt=>dv t u) (s.1.map vec) j=u j
theorem Du.step {W o t:Nat} {s:Jq×Jq} {ro rt d_o dt:Ji} (h:Du W s) (q:Int) (hot:o≠t) (ho:s.1[o]?=some ro) (ht:s.1[t]?=some rt) (hdo:s.2[o]?=some d_o) (hdt:s.2[t]?=some dt) :
  Du W (s.1.set t (↑0 (λ(x:Int×Int)=>x.1+(q*x.2)) (List.zip rt ro)),s.2.set o (↑0 ↑165 (List.zip d_o dt))):=by
 have m1:=h.r _ (List.mem_of_getElem? ho);have m2:=h.r _ (List.mem_of_getElem? ht)
 have m3:=h.d _ (List.mem_of_getElem? hdo);have m4:=h.d _ (List.mem_of_getElem? hdt)
 have hr:∀ (w:Ji),dv w (vec (↑0 (λ(x:Int×Int)=>x.1+(q*x.2)) (List.zip rt ro)))=dv w (vec rt)+q*dv w (vec ro):=λw=>by
  rw [← ziB]
  exact zhG λi=>zfE (by rw [m1,m2])
 have hd:∀ u,dv (↑0 ↑165 (List.zip d_o dt)) u=dv d_o u-q*dv dt u:=λu=>zoQ _ _ _ _ (by rw [m3,m4])
 refine ⟨by show (s.1.set t _).length=W;rw [List.length_set];exact h.l1,by show (s.2.set o _).length=W;rw [List.length_set];exact h.l2,λx hx=>?_,λx hx=>?_,λi j x v hx hv=>?_,λu hu j=>?_⟩
 ·rcases List.mem_or_eq_of_mem_set hx with hx | rfl
  ·exact h.r x hx
  ·rw [List.length_map,List.length_zip,m1,m2];omega
 ·rcases List.mem_or_eq_of_mem_set hx with hx | rfl
  ·exact h.d x hx
  ·rw [List.length_map,List.length_zip,m3,m4];omega
 ·have hx2:(s.2.set o (↑0 ↑165 (List.zip d_o dt)))[i]?=some x:=hx
  have hv2:(s.1.set t (↑0 (λ(x:Int×Int)=>x.1+(q*x.2)) (List.zip rt ro)))[j]?=some v:=hv
  clear hx hv
  have lo:=(List.getElem?_eq_some_iff.mp hdo).1
  have lt:=(List.getElem?_eq_some_iff.mp ht).1
  by_cases hi:i=o
  ·subst hi
   rw [List.getElem?_set_self lo] at hx2
   cases hx2
   rw [hd]
   by_cases hj:j=t
   ·subst hj
    rw [List.getElem?_set_self lt] at hv2
    cases hv2
    rw [hr,hr,h.A _ _ _ _ hdo ht,h.A _ _ _ _ hdo ho,h.A _ _ _ _ hdt ht,h.A _ _ _ _ hdt ho,if_neg hot,if_pos rfl,if_pos rfl,if_neg (Ne.symm hot)]
    omega
   ·rw [List.getElem?_set_ne (Ne.symm hj)] at hv2
    rw [h.A _ _ _ _ hdo hv2,h.A _ _ _ _ hdt hv2,if_neg (Ne.symm hj)]
    omega
  ·rw [List.getElem?_set_ne (Ne.symm hi)] at hx2
   by_cases hj:j=t
   ·subst hj
    rw [List.getElem?_set_self lt] at hv2
    cases hv2
    rw [hr,h.A _ _ _ _ hx2 ht,h.A _ _ _ _ hx2 ho,if_neg hi]
    omega
   ·rw [List.getElem?_set_ne (Ne.symm hj)] at hv2
    exact h.A _ _ _ _ hx2 hv2
 ·show comb ((s.2.set o _).map λt=>dv t u) ((s.1.set t _).map vec) j=u j
  rw [List.map_set,List.map_set,hd]
  rw [zkj (a1:=vec ro) (a2:=vec rt) hot (by rw [List.getElem?_map,hdo];rfl) (by rw [List.getElem?_map,hdt];rfl) (by rw [List.getElem?_map,ho];rfl) (by rw [List.getElem?_map,ht];rfl) (zfE (by rw [m1,m2]))]
  exact h.B u hu j
theorem Du.start {W:Nat} {a:Jq} (ha:a=↑0 (λ(x:Int)=>↑0 (λ(y:Int)=>(if (decide (y=x)) then (1:Int) else 0)) (zbz 0 W)) (zbz 0 W)):Du W (a,a):=by
 have hm:∀ t∈a,t.length=W:=λt ht=>by
  rw [ha] at ht
  obtain ⟨x,_,rfl⟩:=List.mem_map.mp ht
  rw [List.length_map,za4]
 have hl:a.length=W:=by rw [ha,List.length_map,za4]
 have hg:∀ (i:Nat) (t:Ji),a[i]?=some t->i<W∧t=↑0 (λ(y:Int)=>(if (decide (y=(i:Int))) then (1:Int) else 0)) (zbz 0 W):=λi t h=>by
  have hi:=(↑235).1
  rw [ha,List.getElem?_map] at h
  cases q:(zbz 0 W)[i]? with
  | none=>rw [q] at h;cases h
  | some z =>
   rw [q] at h
   obtain ⟨g1,g2⟩:=zby q
   have h:↑0 (λ(y:Int)=>(if (decide (y=z)) then (1:Int) else 0)) (zbz 0 W)=t:=Option.some.inj h
   rw [← h,g2,Int.zero_add]
   exact ⟨g1,rfl⟩
 refine ⟨hl,hl,hm,hm,λi j t v ht hv=>?_,λu hu j=>?_⟩
 ·obtain ⟨hi,rfl⟩:=hg i t ht
  obtain ⟨hj,rfl⟩:=hg j v hv
  rw [zlp,if_pos ⇑0]
  rw [zvK]
  by_cases e:i=j
  ·rw [if_pos ↑56,if_pos e]
  ·rw [if_neg (λq=>e (by have:=q.2;omega)),if_neg e]
 ·show comb (a.map λt=>dv t u) (a.map vec) j=u j
  have e1:(a.map λt=>dv t u)=↑0 (λ(x:Int)=>u x.toNat) (zbz 0 W):=by
   rw [ha,List.map_map]
   refine List.map_congr_left λx hx=>?_
   obtain ⟨x1,x2⟩:=zmm.mp hx
   show dv (↑0 (λ(y:Int)=>(if (decide (y=x)) then (1:Int) else 0)) (zbz 0 W)) u=_
   rw [zlp,if_pos ⇑0,Int.sub_zero]
  have e2:a.map vec=↑0 (λ(x:Int)=>vec (↑0 (λ(y:Int)=>(if (decide (y=(0+x))) then (1:Int) else 0)) (zbz 0 W))) (zbz 0 (↑0 (λ(x:Int)=>u x.toNat) (zbz 0 W)).length):=by
   rw [ha,List.map_map,List.length_map,za4]
   refine List.map_congr_left λx _=>?_
   rw [Int.zero_add];rfl
  rw [e1,e2]
  by_cases hj:j<W
  ·rw [zjd _ 0 j hj ⇑0,if_pos ⇑0]
   rw [show ((j:Int)-(0+0)).toNat=j by omega]
   unfold vec
   rw [List.getD_eq_getElem?_getD,List.getElem?_map]
   have q:(zbz 0 W)[j]?=some (j:Int):=by
    unfold zbz
    rw [List.getElem?_map,List.getElem?_range hj]
    show some ((0:Int)+(j:Int))=_
    rw [Int.zero_add]
   rw [q]
   show u ((j:Int)).toNat=u j
   rw [Int.toNat_natCast]
  ·rw [hu j ⇑0]
   refine zif λi x v _ hv=>?_
   rw [List.getElem?_map] at hv
   cases q:((zbz 0 (↑0 (λ(x:Int)=>u x.toNat) (zbz 0 W)).length))[i]? with
   | none=>rw [q] at hv;cases hv
   | some z =>
    rw [q] at hv
    have hv:=Option.some.inj hv
    rw [← hv]
    show x*vec (↑0 (λ(y:Int)=>(if (decide (y=0+z)) then (1:Int) else 0)) (zbz 0 W)) j=0
    rw [za8 (by rw [List.length_map,za4];omega),Int.mul_zero]
noncomputable def scl (rows:Jq) (bs:Ji):Jq:=((List.zip rows bs).filter λp=>decide (0<p.2)).map λp=>↑0 (λ(y:Int)=>p.2*y) p.1
theorem zqB {W:Nat} {s:Jq×Jq} {bs:Ji} {u:Vc} (h:Du W s) (hu:SpL (scl s.1 bs) u) {i:Nat} {t:Ji} {b:Int} (ht:s.2[i]?=some t) (hb:bs[i]?=some b):b ∣ dv t u:=by
 refine zts (λa ⟨r,hr,e⟩=>?_) hu
 subst e
 obtain ⟨p,hp,rfl⟩:=List.mem_map.mp hr
 have hp:=(List.mem_filter.mp hp).1
 obtain ⟨j,hj⟩:=List.getElem?_of_mem hp
 obtain ⟨j1,j2⟩:=zbV hj
 rw [show vec (↑0 (λ(y:Int)=>p.2*y) p.1)=λk=>p.2*vec p.1 k from funext λk=>zmE,zrC,h.A _ _ _ _ ht j1]
 by_cases e:i=j
 ·subst e
  rw [hb] at j2
  cases j2
  exact Int.dvd_mul_right _ _
 ·rw [if_neg e,Int.mul_zero];exact Int.dvd_zero _
theorem znf:∀ (xs:Ji) (rows:Jq) (bs:Ji),xs.length=rows.length->bs.length=rows.length->(∀ (i:Nat) (x b:Int),xs[i]?=some x->bs[i]?=some b->0≤b∧b ∣ x)->SpL (scl rows bs) (comb xs (rows.map vec))
 | [],[],_,_,_,_=>Sp.zero
 | x :: xs,r :: rows,b :: bs,h1,h2,h=>by
  have ih:=znf xs rows bs (by simpa using h1) (by simpa using h2) λi x b hx hb=>h (i+1) x b (by simpa using hx) (by simpa using hb)
  obtain ⟨b0,c,hc⟩:=h 0 x b rfl rfl
  have up:SpL (scl (r :: rows) (b :: bs)) (comb xs (rows.map vec)):=by
   refine SpL.sub (λs hs=>SpL.mem ?_) ih
   unfold scl at hs ⊢
   obtain ⟨p,hp,rfl⟩:=List.mem_map.mp hs
   refine List.mem_map.mpr ⟨p,?_,rfl⟩
   obtain ⟨p1,p2⟩:=List.mem_filter.mp hp
   exact List.mem_filter.mpr ⟨⇑3 _ p1,p2⟩
  by_cases q:b=0
  ·refine up.conv λi=>?_
   show comb xs (rows.map vec) i=x*vec r i+comb xs (rows.map vec) i
   rw [hc,q];simp
  ·have hm:↑0 (λ(y:Int)=>b*y) r∈scl (r :: rows) (b :: bs):=by
    unfold scl
    refine List.mem_map.mpr ⟨(r,b),List.mem_filter.mpr ⟨↑3,decide_eq_true (show 0<b by omega)⟩,rfl⟩
   refine ((Sp.smul c (SpL.mem hm)).plus up).conv λi=>?_
   show c*vec (↑0 (λ(y:Int)=>b*y) r) i+comb xs (rows.map vec) i=x*vec r i+comb xs (rows.map vec) i
   rw [zmE,hc,← Int.mul_assoc,Int.mul_comm c b]
theorem znK {W:Nat} {s:Jq×Jq} {bs:Ji} {u:Vc} (h:Du W s) (hl:bs.length=W) (hb:∀ b∈bs,0≤b) (hu:∀ k,W≤k->u k=0) (hd:∀ (i:Nat) (t:Ji) (b:Int),s.2[i]?=some t->bs[i]?=some b->b ∣ dv t u):SpL (scl s.1 bs) u:=by
 refine (znf (s.2.map λt=>dv t u) s.1 bs (by rw [List.length_map,h.l1,h.l2]) (by rw [hl,h.l1]) λi x b hx hbi=>?_).conv λj=>h.B u hu j
 rw [List.getElem?_map] at hx
 cases q:s.2[i]? with
 | none=>rw [q] at hx;cases hx
 | some t =>
  rw [q] at hx
  have hx:dv t u=x:=Option.some.inj hx
  exact ⟨hb b (List.mem_of_getElem? hbi),hx ▸ hd i t b q hbi⟩
theorem zqa {rows:Jq} {o t:Nat} {ro rt y:Ji} {q:Int} (hot:o≠t) (ho:rows[o]?=some ro) (ht:rows[t]?=some rt) (hy:∀ k,vec y k=vec rt k+q*vec ro k) {u:Vc}:SpL (rows.set t y) u ↔ SpL rows u:=by
 constructor
 ·refine SpL.sub λs hs=>?_
  rcases List.mem_or_eq_of_mem_set hs with hs | rfl
  ·exact SpL.mem hs
  ·exact ((SpL.mem (List.mem_of_getElem? ht)).plus (Sp.smul q (SpL.mem (List.mem_of_getElem? ho)))).conv λk=>(hy k).symm
 ·refine SpL.sub λs hs=>?_
  have lt:=(List.getElem?_eq_some_iff.mp ht).1
  have ny:SpL (rows.set t y) (vec y):=SpL.mem (List.mem_of_getElem? (List.getElem?_set_self lt))
  have no:SpL (rows.set t y) (vec ro):=SpL.mem (List.mem_of_getElem? (by rw [List.getElem?_set_ne (Ne.symm hot)];exact ho))
  obtain ⟨j,hj⟩:=List.getElem?_of_mem hs
  by_cases e:j=t
  ·subst e
   rw [hj] at ht
   cases ht
   refine (ny.plus (Sp.smul (-q) no)).conv λk=>?_
   rw [hy k]
   grind
  ·exact SpL.mem (List.mem_of_getElem? (by rw [List.getElem?_set_ne (Ne.symm e)];exact hj))
theorem znv {a z:Jq} (hz:∀ s∈z,∀ k,vec s k=0) {u:Vc}:SpL (a++z) u ↔ SpL a u:=by
 constructor
 ·refine SpL.sub λs hs=>?_
  rcases List.mem_append.mp hs with hs | hs
  ·exact SpL.mem hs
  ·exact (Sp.zero:Sp _ _).conv λk=>(hz s hs k).symm
 ·exact SpL.sub λs hs=>SpL.mem (List.mem_append_left _ hs)
end Lat
namespace L2
open PySem PySem.Spec PyProof.Rows
structure T6 (α β γ δ ε ζ:Type) where
 a:α
 b:β
 c:γ
 d:δ
 e:ε
 f:ζ
end L2
namespace PySem
open Sem (wp)
abbrev zsu (h:Heap) (T:Addr) (a b c:Value):Prop:=h.get? T=some { cls:=.type "tuple",data:=.seq #[a,b,c] }
structure Zip3 (h:Heap) (n:Nat) (l1 l2 l3:Addr) (k:Nat) (f0:Value):Prop where
 z:IsZip h (n+5) (n+3) (n+4) f0
 ti:zsu h (n+3) (.ref n) (.ref (n+1)) (.ref (n+2))
 to:∃ a b c,zsu h (n+4) a b c
 i1:h.IsListIter n l1 k
 i2:h.IsListIter (n+1) l2 k
 i3:h.IsListIter (n+2) l3 k
end PySem
namespace L2
open PySem PySem.Spec PyProof.Rows
theorem run_par {E:XS} {Γ:Ctx} {ta tb:TE} {u:TS} {o:Oc} {x y:Int} {i j:Nat} (h1:Ev Γ ta false (dI x)) (h2:Ev Γ tb false (dI y)) (k:Run E ((Γ.set i (.va false (dI x))).set j (.va false (dI y))) u o):Run E Γ (tSeq (tPar i j (tCons ta (tCons tb tNil))) u) o:=λF0 Hb F H σ own D a q =>
 h1 F0 Hb F H σ own _ a λv F1 H1 g1 q1=>h2 F0 Hb F1 H1 σ own _ ↑35 λw F2 H2 g2 q2=>⟨v,w,rfl,k F0 Hb F2 H2 _ own D ((((↑35).grow g2).set i q1).set j q2) q⟩
structure T4 (α β γ δ:Type) where
 a:α
 b:β
 c:γ
 d:δ
 deriving Inhabited
def zuG:Slot->Bool
 | .tl _=>false
 | _=>true
theorem At.shareB {F0 Hb F H:Hp} {σ:St} {own:Nat->Option Addr} {Γ:Ctx} (a:At F0 Hb F H σ own Γ) {i:Nat} {m:Bool} {C p dx:Addr} {fs:List (Str×Ds)} (e:Γ[i]?=some (.ob m C p dx fs)) (ht:Γ.all zuG=true) :
  ∃ F' own',Grow F0 Hb F' H∧At F0 Hb F' H σ own' (Γ.set i (.va m (dO C fs))):=by
 obtain ⟨vs,e1,e2,hf,hb,hp,hq⟩:=a.sl i _ e
 have ne:dx≠p:=zjp hp.2 hp.1 ↑137
 have g:=(a.g.take hb.1 hp.1).take hb.2 hp.2
 have n3:upd F p (.ins C dx vs) dx=none:=by rw [zaC ne];exact hf.2
 have fs':Same F (upd (upd F p (.ins C dx vs)) dx (.own p)):=(Same.new hf.1 _).trans (Same.new n3 _)
 refine ⟨upd (upd F p (.ins C dx vs)) dx (.own p),λj=>if j=i then none else own j,g,g,λj k q h1 h2=>?_,λj q h1=>?_,λj s es=>?_,by simp [a.len]⟩
 ·skip
  split at h1
  ·cases h1
  ·split at h2
   ·cases h2
   ·exact a.inj j k q h1 h2
 ·skip
  split at h1
  ·cases h1
  ·exact a.liv j q h1
 ·by_cases z:i=j
  ·subst z
   have hi:i<Γ.length:=(↑62).1
   rw [List.getElem?_set_self hi] at es
   cases es
   exact ⟨.ref p,e1,p,dx,vs,rfl,zea hb.1 (by rw [zaC (Ne.symm ne)];exact zaO),zea hb.2 zaO,zb0 (λ_ b z=>⟨z.1,b.2.up (zbm fs') z.2⟩) hq⟩
  ·rw [List.getElem?_set_ne z] at es
   have z':¬ j=i:=Ne.symm z
   have:=a.sl j s es
   cases s with
   | no=>trivial
   | tl d =>
    have:=List.all_eq_true.mp ht _ (List.mem_of_getElem? es)
    cases this
   | va m d=>obtain ⟨x,h1,h2⟩:=this;exact ⟨x,h1,d.up (zbm fs') h2⟩
   | ow m ds =>
    obtain ⟨q,us,h1,h2,h3,h4,h5,h6⟩:=this
    have n1:q≠p:=λw=>by subst w;exact z ↑92
    have n2:q≠dx:=zjp h5 hp.2 ↑137
    exact ⟨q,us,h1,(if_neg z').trans h2,by rw [zaC n2,zaC n1];exact h3,h4,h5,zdz (ds:=[]) (zbm fs') h6⟩
   | ol q ds =>
    obtain ⟨us,h1,h2,h3,h4,h5,h6⟩:=this
    have n1:q≠p:=λw=>by subst w;exact z ↑92
    have n2:q≠dx:=zjp h5 hp.2 ↑137
    exact ⟨us,h1,(if_neg z').trans h2,by rw [zaC n2,zaC n1];exact h3,h4,h5,zdz (ds:=[]) fs' h6⟩
   | ob m C q dy gs =>
    obtain ⟨us,h1,h2,h3,h4,h5,h6⟩:=this
    have n1:q≠p:=λw=>by subst w;exact z ↑92
    have n2:dy≠p:=zjp h5.2 hp.1 ↑137
    have n3:q≠dx:=zjp h5.1 hp.2 ↑137
    have n4:dy≠dx:=λw=>by
     have:=h5.2
     rw [w,hp.2] at this
     cases this;exact n1 rfl
    exact ⟨us,h1,(if_neg z').trans h2,⟨by rw [zaC n3,zaC n1];exact h3.1,by rw [zaC n4,zaC n2];exact h3.2⟩,h4,h5,zb0 (λ_ b z=>⟨z.1,b.2.up (zbm fs') z.2⟩) h6⟩
section
variable {Γ:Ctx} {te:TE} {d:Ds} {i:Nat} {m:Bool}
theorem EvN.borrowB {C p dx:Addr} {fs:List (Str×Ds)} (e:Γ[i]?=some (.ob m C p dx fs)) (ht:Γ.all zuG=true) (h:EvN (Γ.set i (.va m (dO C fs))) te d):EvN Γ te d:=λF0 Hb F H σ own Q a k=>by
 obtain ⟨F1,own1,_,a1⟩:=a.shareB e ht
 refine h F0 Hb F1 H σ own1 Q a1 λx F' H' g q=>?_
 have e:∀ b o,off F' H b=some o->H b=none∧F' b=some o:=λb o z=>zcu.mp z
 refine k x (λb=>match H b with | some _=>F b | none=>F' b) H' ⟨λb o z=>?_,λb o z=>?_,g.h,λb z1 z2=>?_⟩ (d.up (λb o z=>?_) q)
 ·show (match H b with | some _=>F b | none=>F' b)=some o
  rw [a.fh _ _ z];exact z
 ·have z:(match H b with | some _=>F b | none=>F' b)=some o:=z
  cases w:H b with
  | some o'=>rw [w] at z;exact g.h _ _ (a.fh _ _ z)
  | none=>rw [w] at z;exact g.fh _ _ z
 ·show (match H b with | some _=>F b | none=>F' b)=none
  cases w:H b with
  | some o'=>exact z2
  | none=>exact absurd w z1
 ·obtain ⟨h1,h2⟩:=e b o z
  refine zcu.mpr ⟨h1,?_⟩
  show (match H b with | some _=>F b | none=>F' b)=some o
  rw [h1];exact h2
end
theorem At.reset {F0 Hb F H:Hp} {σ:St} {own:Nat->Option Addr} {Γ:Ctx} (a:At F0 Hb F H σ own Γ) {i:Nat} {m m':Bool} {d d':Ds} (e:Γ[i]?=some (.va m d)) (h:∀ x,(σ[i]?).join=some x->d.pr (part m F Hb) x->d'.pr (part m' F Hb) x):At F0 Hb F H σ own (Γ.set i (.va m' d')):=by
 obtain ⟨x,e1,e2⟩:=a.sl i _ e
 have hi:i<σ.length:=by rw [a.len];exact (↑62).1
 have:=a.set i (h x e1 e2)
 rw [List.getElem?_eq_getElem hi] at e1
 have e1:σ[i]=some x:=e1
 rw [← e1,List.set_getElem_self] at this
 exact this
theorem At.looks {F0 Hb F H:Hp} {σ:St} {own:Nat->Option Addr} {Γ:Ctx} (a:At F0 Hb F H σ own Γ) {i:Nat} {m:Bool} {d:Ds} (e:Γ[i]?=some (.va m d)):∃ x,σ[i]?=some (some x)∧d.pr F x:=by
 obtain ⟨x,e1,e2⟩:=a.sl i _ e
 have hi:i<σ.length:=by rw [a.len];exact (↑62).1
 rw [List.getElem?_eq_getElem hi] at e1
 have e1:σ[i]=some x:=e1
 exact ⟨x,by rw [List.getElem?_eq_getElem hi,e1],d.up zbn e2⟩
section
variable {Γ:Ctx} {te:TE} {d d1 d2 d3:Ds} {i i1 i2:Nat} {m m1 m2:Bool} {v v1 v2:V} {f g k:Str} {C:Addr}
theorem zor (e:Γ[i]?=some (.va m (dX v d))) {m':Bool}:Ev Γ (zjm i) m' (dV v):=λF0 Hb F H σ own Q a k =>
 (zaa e) F0 Hb F H σ own Q a λx F' H' g q=>k x F' H' g q.1
theorem zsn {H H1:Hp} {x:V} (s:Same H H1) (h:(dO C [(f,dV v1),(g,dV v2),(k,d3)]).pr H x) (h1:d1.pr H1 v1) (h2:d2.pr H1 v2):(dO C [(f,d1),(g,d2),(k,d3)]).pr H1 x:=by
 obtain ⟨p,dx,vs,q1,q2,q3,q4⟩:=h
 refine ⟨p,dx,vs,q1,s _ _ q2,s _ _ q3,?_⟩
 cases q4 with | cons r1 t=>cases t with | cons r2 t=>cases t with | cons r3 t =>
  cases t
  exact .cons ⟨r1.1,by rw [r1.2];exact h1⟩ (.cons ⟨r2.1,by rw [r2.2];exact h2⟩ (.cons ⟨r3.1,d3.up s r3.2⟩ .nil))
theorem EvN.borrowBX {p dx:Addr} (e:Γ[i]?=some (.ob m C p dx [(f,dV v1),(g,dV v2),(k,d3)])) (ht:Γ.all zuG=true) (n1:i≠i1) (n2:i≠i2) (e1:Γ[i1]?=some (.va m1 (dX v1 d1))) (e2:Γ[i2]?=some (.va m2 (dX v2 d2))) (h:EvN (Γ.set i (.va false (dO C [(f,d1),(g,d2),(k,d3)]))) te d):EvN Γ te d :=
 EvN.borrowB e ht λF0 Hb F H σ own Q a kk=>by
  have hi:i<Γ.length:=(↑62).1
  obtain ⟨x1,_,q1⟩:=a.looks (i:=i1) (by rw [List.getElem?_set_ne n1];exact e1)
  obtain ⟨x2,_,q2⟩:=a.looks (i:=i2) (by rw [List.getElem?_set_ne n2];exact e2)
  have a1:=a.reset (i:=i) (m':=false) (d':=dO C [(f,d1),(g,d2),(k,d3)]) (List.getElem?_set_self hi) λx _ q=>zsn zbn q (by rw [← q1.1];exact q1.2) (by rw [← q2.1];exact q2.2)
  rw [List.set_set] at a1
  exact h F0 Hb F H σ own Q a1 kk
def zvL {ι:Type} (C:Addr) (f g k:Str) (a1 a2 a3:ι->Ds) (pre:ι->Prop) (d3:ι->Ds):Sp:=zsq (ι:=V×V×ι) C (λy=>[dX y.1 (a1 y.2.2),dX y.2.1 (a2 y.2.2),a3 y.2.2]) (λy=>pre y.2.2) true (λy=>[(f,dV y.1),(g,dV y.2.1),(k,d3 y.2.2)])
variable {ι:Type} {a1 a2 a3 b3:ι->Ds} {pre:ι->Prop} {ds:List Ds} {tr:TA} {E:XK}
theorem zp3 (x:ι) (h:EvA Γ tr false ds) (ha:ds=[a1 x,a2 x,a3 x]) (hp:pre x):Ev Γ (zpW C (zvL C f g k a1 a2 a3 pre b3) [] E tr) false (dO C [(f,a1 x),(g,a2 x),(k,b3 x)]):=λF0 Hb F H σ own Q a kk=>by
 subst ha
 refine h F0 Hb F H σ own _ a λvs F1 H1 g1 q1 p dx h1 h2 h3=>?_
 cases q1 with | cons r1 t=>cases t with | cons r2 t=>cases t with | cons r3 t =>
  cases t
  refine ⟨(_,_,x),p,dx,_,H1,F1,by rw [List.append_nil],h1,h2,h3,rfl,g1.fh,.cons ⟨rfl,r1⟩ (.cons ⟨rfl,r2⟩ (.cons r3 .nil)),hp,λus F' H' g n1 n2 e1 e2 e3=>⟨rfl,?_⟩⟩
  have g2:=g1.trans g
  obtain ⟨p0,_,pb⟩:=a.free g1 h1
  obtain ⟨d0,_,db⟩:=a.free g1 h2
  have g3:=(g2.take p0 e1).take d0 e2
  have n3:upd F' p (.ins C dx us) dx=none:=by rw [zaC h3];exact n2
  have s2:Same F' (upd (upd F' p (.ins C dx us)) dx (.own p)):=(Same.new n1 _).trans (Same.new n3 _)
  refine kk _ _ _ g3 ⟨p,dx,us,rfl,by show upd _ _ _ p=_;rw [zaC (Ne.symm h3)];exact zaO,zaO,?_⟩
  cases e3 with | cons z1 t=>cases t with | cons z2 t=>cases t with | cons z3 t =>
   cases t
   exact .cons ⟨z1.1,by rw [z1.2];exact (a1 x).up (g.f.trans s2) r1⟩ (.cons ⟨z2.1,by rw [z2.2];exact (a2 x).up (g.f.trans s2) r2⟩ (.cons ⟨z3.1,(b3 x).up (zbn.trans s2) z3.2⟩ .nil))
end
end L2
namespace Lat
open L2
noncomputable def lsum:Ji->Int
 | []=>0
 | x :: xs=>x+lsum xs
section
variable {α β:Type}
theorem zj1 (f g:α->Int):∀ l:List α,lsum (l.map λa=>f a+g a)=lsum (l.map f)+lsum (l.map g)
 | []=>rfl
 | a :: l=>by
  simp only [List.map_cons,lsum]
  rw [zj1 f g l];omega
theorem zgK (c:Int) (f:α->Int):∀ l:List α,lsum (l.map λa=>c*f a)=c*lsum (l.map f)
 | []=>by simp [lsum]
 | a :: l=>by
  simp only [List.map_cons,lsum]
  rw [zgK c f l,Int.mul_add]
theorem zdu:∀ l:List α,lsum (l.map λ_=>(0:Int))=0
 | []=>rfl
 | a :: l=>by
  simp only [List.map_cons,lsum]
  rw [zdu l];omega
theorem zkf (h:α->β->Int) (m:List β):∀ l:List α,lsum (l.map λa=>lsum (m.map λb=>h a b))=lsum (m.map λb=>lsum (l.map λa=>h a b))
 | []=>(zdu m).symm
 | a :: l=>by
  simp only [List.map_cons,lsum]
  rw [zkf h m l,← zj1]
theorem zjU {d:Int} {f:α->Int}:∀ {l:List α},(∀ a∈l,d ∣ f a)->d ∣ lsum (l.map f)
 | [],_=>⟨0,by simp [lsum]⟩
 | a :: l,h=>by
  simp only [List.map_cons,lsum]
  exact Int.dvd_add (h a ↑3) (zjU λb hb=>h b (⇑3 _ hb))
theorem znl {B:Nat} {f:α->Int}:∀ {l:List α},(∀ a∈l,(f a).natAbs≤B)->(lsum (l.map f)).natAbs≤l.length*B
 | [],_=>by simp [lsum]
 | a :: l,h=>by
  simp only [List.map_cons,lsum,List.length_cons]
  have h1:=h a ↑3
  have h2:=znl (l:=l) λb hb=>h b (⇑3 _ hb)
  rw [Nat.add_mul]
  omega
theorem zbE {f g:α->Int} {l:List α} (h:∀ a∈l,f a=g a):lsum (l.map f)=lsum (l.map g):=by rw [List.map_congr_left h]
theorem zgD {W:Nat} {F:Ji->α->Ji} {c:α->Nat->Int}:∀ (l:List α) (acc:Ji),acc.length=W->(∀ s a,a∈l->s.length=W->(F s a).length=W∧∀ i,vec (F s a) i=vec s i+c a i)->(l.foldl F acc).length=W∧∀ i,vec (l.foldl F acc) i=vec acc i+lsum (l.map λa=>c a i)
 | [],acc,h,_=>⟨h,λi=>by simp [lsum]⟩
 | a :: l,acc,h,k=>by
  obtain ⟨h1,h2⟩:=k acc a ↑3 h
  obtain ⟨h3,h4⟩:=zgD l (F acc a) h1 λs b hb=>k s b (⇑3 _ hb)
  refine ⟨h3,λi=>?_⟩
  rw [List.foldl_cons,h4 i,h2 i]
  simp only [List.map_cons,lsum]
  omega
theorem zlz (t:Ji) (c:α->Int) (v:α->Vc):∀ l:List α,dv t (λi=>lsum (l.map λa=>c a*v a i))=lsum (l.map λa=>c a*dv t (v a))
 | []=>zjQ t
 | a :: l=>by
  simp only [List.map_cons,lsum]
  exact (zhG λi=>Int.add_comm _ _).trans ((ziB t _ (v a) (c a)).trans (by rw [zlz t c v l];exact Int.add_comm _ _))
end
theorem dv_sum:∀ (t:Ji) (u:Vc),dv t u=lsum ((List.range t.length).map λw=>vec t w*u w)
 | [],_=>rfl
 | a :: t,u=>by
  rw [List.length_cons,List.range_succ_eq_map,List.map_cons,List.map_map]
  show a*u 0+dv t (λi=>u (i+1))=_
  rw [dv_sum t]
  rfl
noncomputable def Phi (W:Nat) (ds im:Jq) (u:Vc):Vc:=λi=>lsum (((List.range W)).map λ(k:Nat)=>dv (ixD ds (k:Int)) u*vec (ixD im (k:Int)) i)
section
variable {W:Nat} {ds im Bs:Jq} {u:Vc}
theorem zfk {rows:Jq} {k:Nat} (h:k<rows.length):ixD rows (k:Int)∈rows:=zbK ↑115
theorem zqX {rows:Jq} {k:Nat} {t:Ji} (h:rows[k]?=some t):k<rows.length∧ixD rows (k:Int)=t:=⟨(↑235).1,zbY h⟩
theorem zt6 (hl:ds.length=W) (hd:∀ t∈ds,t.length=W) (hB:∀ w,w<W->∀ i,vec (ixD Bs (w:Int)) i=lsum (((List.range W)).map λ(k:Nat)=>vec (ixD ds (k:Int)) w*vec (ixD im (k:Int)) i)) (i:Nat) :
  lsum (((List.range W)).map λ(w:Nat)=>u w*vec (ixD Bs (w:Int)) i)=Phi W ds im u i:=by
 unfold Phi
 have e:∀ k∈List.range W,dv (ixD ds (k:Int)) u*vec (ixD im (k:Int)) i=lsum (((List.range W)).map λ(w:Nat)=>u w*(vec (ixD ds (k:Int)) w*vec (ixD im (k:Int)) i)):=λk hk=>by
  rw [dv_sum,hd _ (zfk (by rw [hl];exact List.mem_range.mp hk)),Int.mul_comm,← zgK]
  exact zbE λw _=>by grind
 rw [zbE e,← zkf]
 exact zbE λw hw=>by rw [hB w (List.mem_range.mp hw) i,← zgK]
theorem zr2 {cs:Ji} {t:Ji} {b:Int} (h1:∀ k,k<W->ixD cs (k:Int) ∣ dv (ixD ds (k:Int)) u) (h2:∀ k,k<W->b ∣ ixD cs (k:Int)*dv t (vec (ixD im (k:Int)))):b ∣ dv t (Phi W ds im u):=by
 unfold Phi
 rw [zlz]
 refine zjU λk hk=>?_
 obtain ⟨q,hq⟩:=h1 k (List.mem_range.mp hk)
 rw [hq,Int.mul_comm (ixD cs (k:Int)) q,Int.mul_assoc]
 exact Int.dvd_trans (h2 k (List.mem_range.mp hk)) (Int.dvd_mul_left _ _)
theorem zkN {α β:Type} [Inhabited α] [Inhabited β] {as:List α} {bs:List β} (h1:as.length=W) (h2:bs.length=W):List.zip as bs=((List.range W)).map λ(w:Nat)=>(ixD as (w:Int),ixD bs (w:Int)):=by
 refine List.ext_getElem (by rw [List.length_zip,List.length_map,List.length_range];omega) λk hk _=>?_
 rw [List.length_zip] at hk
 rw [List.getElem_zip,List.getElem_map,List.getElem_range,zbY (List.getElem?_eq_getElem (show k<as.length by omega)),zbY (List.getElem?_eq_getElem (show k<bs.length by omega))]
theorem zlx {α:Type} {t:Ji} {l:List α} {c:α->Nat->Int} {n b:Nat} (h:∀ i,vec t i=lsum (l.map λa=>c a i)) (hl:l.length≤2^n) (hc:∀ a∈l,∀ i,(c a i).natAbs≤2^b):Bit (n+b) t:=Bit.of λi=>by
 rw [h i]
 refine ⇑6 (znl λa ha=>hc a ha i) ?_
 rw [Nat.pow_add]
 exact Nat.mul_le_mul_right _ hl
theorem zgU {x y:Int} {a b:Nat} (h1:x.natAbs≤2^a) (h2:y.natAbs≤2^b):(x*y).natAbs≤2^(a+b):=by
 rw [Int.natAbs_mul,Nat.pow_add]
 exact Nat.mul_le_mul h1 h2
end
end Lat
namespace L2
open PySem PySem.Spec PyProof.Rows
def FA (K:W.Frag) (f:Addr) (sn n:Str) (st:Stmt):Prop:=∃ (oc kV dc pm cd ct:Value) (od an:Option Addr) (sl:Array (Option Value)),K.lookup f=some ⟨oc,od,.func (W.fnOf sn n (zgg st) (zeE st) (zai st) .none kV dc pm an cd ct),sl⟩∧W.codeIn K cd n=true∧W.keepIn K (.ref f)=true
theorem FA.m {K:W.Frag} {f:Addr} {sn n:Str} {st:Stmt} {oc kV dc pm cd ct:Value} {od an:Option Addr} {sl:Array (Option Value)} (l:K.lookup f=some ⟨oc,od,.func (W.fnOf sn n (zgg st) (zeE st) (zai st) .none kV dc pm an cd ct),sl⟩) (c:W.codeIn K cd n=true) (k:W.keepIn K (.ref f)=true):FA K f sn n st:=⟨_,_,_,_,_,_,_,_,_,l,c,k⟩
theorem ztR {K:W.Frag} {f:Addr} {sn n:Str} {st:Stmt} (q:FA K f sn n st):∃ fd,Fun K sn n st f fd:=by
 obtain ⟨_,_,_,_,_,_,_,_,_,l,c,k⟩:=q
 exact ⟨_,zqL (st:=st) l c k⟩
noncomputable def FA.fd {K:W.Frag} {f:Addr} {sn n:Str} {st:Stmt} (q:FA K f sn n st):FuncData:=Classical.choose (ztR q)
theorem FA.f {K:W.Frag} {f:Addr} {sn n:Str} {st:Stmt} (q:FA K f sn n st):Fun K sn n st f q.fd:=Classical.choose_spec (ztR q)
theorem FA.k {K:W.Frag} {f:Addr} {sn n:Str} {st:Stmt} (q:FA K f sn n st):W.keepIn K (.ref f)=true:=by
 obtain ⟨_,_,_,_,_,_,_,_,_,l,c,k⟩:=q
 exact k
theorem cm (l:W.OpenLaw) (w:World) (base:Heap) {K:W.Frag} {mg:Str->Option Value} {k:Nat} {x:Str} {f:Addr} {fd:FuncData} {ps:List Str} {sp:Sp} (h:FnOk l.prog w K mg base (CXE l.prog w) k f fd ps sp) (m:mg x=some (.ref f)) (z:W.keepIn K (.ref f)=true) (b:zf5 K fd ps []):Callee l.prog w K mg base (CXE l.prog w) k x ps sp:=⟨_,_,h,m,z,b⟩
end L2
namespace Lat
def Cb (n s:Nat) (rows:Jq):Prop:=n≤9∧s≤200000∧rows.length≤31∧∀ i r,rows[i]?=some r->r.length=n∧Bit s r∧∀ t∈clm MG (rows.take (i+1)),Sd n s t
def zot (rows:Jq):Prop:=zwz rows∨∃ n s,Cb n s rows
section
variable {n s i:Nat} {rows ss more:Jq} {r x:Ji}
theorem Cb.mem (h:Cb n s rows) (hr:r∈rows):r.length=n∧Bit s r:=by
 obtain ⟨i,hi⟩:=List.getElem?_of_mem hr
 exact ⟨(h.2.2.2 i r hi).1,(h.2.2.2 i r hi).2.1⟩
theorem Cb.way (h:Cb n s rows) (hi:i≤rows.length):∀ t∈clm MG ↑80,Sd n s t:=by
 cases i with
 | zero=>intro t ht;rw [List.take_zero] at ht;exact absurd ht (by simp [clm])
 | succ i=>exact (h.2.2.2 i rows[i] ↑126).2.2
theorem Cb.sd (h:Cb n s rows):∀ t∈clm MG rows,Sd n s t:=by
 have:=h.way (i:=rows.length) (↑4 _)
 rwa [List.take_length] at this
theorem Cb.len (h:Cb n s rows):((clm MG ↑80)).length≤n:=by
 have:=((zbv (n:=n) (rows:=rows.take i) λr hr=>(h.mem ↑204).1)).1
 have:=zfe this.ech (Nat.zero_le n)
 omega
theorem Cb.low (h:Cb n s rows) (hr:rows[i]?=some r) (e:ss=clm MG ↑80):LowP r ss∧TinP ss r∧zrL (tin MG ss (low r ss)):=by
 subst e
 have hi:=(↑264).1
 obtain ⟨r1,r2,t3⟩:=h.2.2.2 i r hr
 have s3:=h.way (i:=i) ⇑0
 have s2:=h.len (i:=i)
 have t2:=h.len (i:=i+1)
 have s1:=((zbv (n:=n) (rows:=rows.take i) λr hr=>(h.mem ↑204).1)).1
 rw [zhC hr] at t3 t2
 obtain ⟨hn,hs,_,_⟩:=h
 generalize clm MG ↑80=ss at *
 obtain ⟨k1,k2,k3,k4⟩:=zbW (l:=r) s1.ech r1
 have m1:ss.length*(s+1)≤9*200001:=Nat.mul_le_mul ⇑0 ⇑0
 have m2:(ss.length+2)*((ss.length+1)*(s+9000))≤11*(10*209000):=Nat.mul_le_mul ⇑0 (Nat.mul_le_mul ⇑0 ⇑0)
 refine ⟨⟨n,s,s,by omega,r1,by omega,r2,s3,by omega⟩,⟨n,s,s,by omega,s1.ech,s3,r1,r2,by omega,by omega⟩,?_,λj x hx=>?_⟩
 ·rw [zju] at t2;omega
 ·have hxm:=List.mem_of_getElem? hx
  have g1:=tin_bit (K:=9) s1.ech s3 k1 k3 (zg1 s3 r1 r2) ⇑0 x hxm
  obtain ⟨e1,_⟩:=zgM MG s1.ech k1 (λi hi=>absurd hi (Nat.not_lt_zero i)) k3 (Nat.zero_le n)
  rw [zjl]
  refine ⟨n,_,s,by omega,(e1.mem x hxm).1,by rw [List.length_drop];omega,g1,λt ht=>t3 t (List.mem_of_mem_drop ht),?_⟩
  have m3:(List.drop (j+1) (stl (tin MG ss (Lat.low r ss)))).length*(s+1)≤9*200001:=Nat.mul_le_mul ↑237 ⇑0
  have m4:ss.length*((9+1)*(s+9000))≤9*((9+1)*209000):=Nat.mul_le_mul ⇑0 (Nat.mul_le_mul_left _ ⇑0)
  omega
theorem zot.low (h:zot rows) (hr:rows[i]?=some r) (e:ss=clm MG ↑80):LowP r ss∧TinP ss r∧zrL (tin MG ss (low r ss)):=by
 rcases h with ⟨n,b,R,p1,p2,p3⟩ | ⟨n,s,h⟩
 ·exact zra p1 p2 p3 hr e
 ·exact h.low hr e
theorem Cb.fit {b R:Nat} (F:Fit n b R) (hn:n≤9) (h1:sB b R≤s) (h2:s≤200000) (hl:rows.length≤R) (h:∀ r∈rows,r.length=n∧Bit b r):Cb n s rows:=by
 have eb:b≤sB b R:=by
  unfold sB eB
  exact ⇑6 (⇑6 (⇑6 ⇑0 (Nat.le_mul_of_pos_right (b+7) (Nat.succ_pos R))) (Nat.le_add_right _ 7)) (Nat.le_mul_of_pos_right _ (Nat.succ_pos R))
 refine ⟨hn,h2,by have:=F.2.1;omega,λi r hr=>?_⟩
 obtain ⟨r1,r2⟩:=h r ↑131
 refine ⟨r1,r2.mono ⇑0,λt ht=>?_⟩
 obtain ⟨a1,a2,a3,a4,a5⟩:=(zkw F (rows:=rows.take (i+1)) ↑268 λr hr=>h r ↑204).2.2 t ht
 exact ⟨a1,a2,a3,a4,a5.mono h1⟩
theorem zl4:∀ {ss:Jq} {lo i:Nat},Ech n lo ss->Ech n lo (ss.take i)
 | [],_,_,_=>by rw [List.take_nil];trivial
 | _ :: _,_,0,_=>trivial
 | _ :: _,_,_+1,h=>⟨h.1,h.2.1,h.2.2.1,h.2.2.2.1,zl4 h.2.2.2.2⟩
theorem zmg:∀ {ss:Jq} {i:Nat},Red ss->Red (ss.take i)
 | [],_,_=>by rw [List.take_nil];trivial
 | _ :: _,0,_=>trivial
 | _ :: _,_+1,h=>⟨λt ht=>h.1 t (List.mem_of_mem_take ht),zmg h.2⟩
theorem zmw (e:Ech n 0 ss) (r:Red ss):clm MG ss=ss :=
 (zbv λt ht=>(e.mem t ht).1).1.one ⟨e,r,λ_ ht=>SpL.mem ht,λ_ ht=>SpL.mem ht⟩ (λ_ ht=>SpL.mem ht) λ_ ht=>SpL.mem ht
theorem Cb.self (hn:n≤9) (hs:s≤200000) (e:Ech n 0 ss) (r:Red ss) (h:∀ t∈ss,Sd n s t):Cb n s ss:=by
 have hl:=zfe e (Nat.zero_le n)
 refine ⟨hn,hs,by omega,λi x hx=>?_⟩
 have T:=h x ↑169
 refine ⟨T.len,T.bit,λt ht=>?_⟩
 rw [zmw (zl4 e) (zmg r)] at ht
 exact h t (List.mem_of_mem_take ht)
theorem SpL.left {u:Vc} (h:SpL rows u):SpL (rows++more) u:=Sp.mono (λ_ ⟨t,ht,e⟩=>⟨t,List.mem_append_left _ ht,e⟩) h
noncomputable abbrev ap0 (ss:Jq):Jq:=↑0 (λ(r:Ji)=>r++[(0:Int)]) ss
noncomputable def zlr (n:Nat):Ji:=List.replicate n (0:Int)++[(1:Int)]
theorem zdR {i:Nat}:vec (zlr n) i=if i=n then 1 else 0:=by
 unfold zlr
 rw [zcC,List.length_replicate]
 by_cases q:i<n
 ·rw [if_pos q,if_neg ⇑0]
  unfold vec
  rw [List.getD_eq_getElem?_getD,List.getElem?_replicate]
  split<;>rfl
 ·rw [if_neg q]
  by_cases z:i=n
  ·rw [if_pos z,z,Nat.sub_self];rfl
  ·rw [if_neg z];exact za8 ↑147
theorem zfr:hd (zlr n)=n:=zjo (by rw [zdR,if_pos rfl];decide) λi hi=>by rw [zdR,if_neg ⇑0]
theorem zg8 {t:Ji} (h:hd t<t.length):hd (t++[(0:Int)])=hd t:=zjo (by rw [zbM];exact zg9 h) λi hi=>by rw [zbM];exact zbl hi
theorem zpe:∀ {ss:Jq} {lo:Nat},Ech n lo ss->Ech (n+1) lo (ap0 ss)
 | [],_,_=>trivial
 | t :: ss,lo,⟨h1,h2,h3,h4,h5⟩=>by
  have e:=zg8 (t:=t) ⇑0
  exact ⟨by rw [List.length_append,h1];rfl,by rw [e];exact h2,by rw [e];omega,by rw [e,zbM];exact h4,by rw [e];exact zpe h5⟩
theorem zo7:∀ {ss:Jq} {lo:Nat},Ech n lo ss->Red ss->Red (ap0 ss)
 | [],_,_,_=>trivial
 | t :: ss,lo,⟨h1,h2,h3,h4,h5⟩,⟨r1,r2⟩=>⟨λy hy=>by
   obtain ⟨z,hz,rfl⟩:=List.mem_map.mp hy
   have:=(h5.mem z hz)
   rw [zg8 ⇑0,zbM,zbM]
   exact r1 z hz,zo7 h5 r2⟩
theorem zoJ:∀ {ss:Jq} {lo:Nat},lo≤n->Ech n lo ss->Ech (n+1) lo (ap0 ss++[zlr n])
 | [],lo,hlo,_=>⟨by unfold zlr;rw [List.length_append,List.length_replicate];rfl,by rw [zfr];exact hlo,by rw [zfr];omega,by rw [zfr,zdR,if_pos rfl];decide,trivial⟩
 | t :: ss,lo,_,⟨h1,h2,h3,h4,h5⟩=>by
  have e:=zg8 (t:=t) ⇑0
  exact ⟨by rw [List.length_append,h1];rfl,by rw [e];exact h2,by rw [e];omega,by rw [e,zbM];exact h4,by rw [e];exact zoJ ⇑0 h5⟩
theorem znU:∀ {ss:Jq} {lo:Nat},Ech n lo ss->Red ss->Red (ap0 ss++[zlr n])
 | [],_,_,_=>⟨λ_ h=>absurd h ↥9,trivial⟩
 | t :: ss,lo,⟨h1,h2,h3,h4,h5⟩,⟨r1,r2⟩=>⟨λy hy=>by
   rcases List.mem_append.mp hy with hy | hy
   ·obtain ⟨z,hz,rfl⟩:=List.mem_map.mp hy
    have:=(h5.mem z hz)
    rw [zg8 ⇑0,zbM,zbM]
    exact r1 z hz
   ·rw [List.mem_singleton.mp hy,zfr,zbM,zdR,if_pos rfl,za8 ⇑0]
    decide,znU h5 r2⟩
theorem zie {u:Vc}:SpL (ap0 rows) u ↔ SpL rows u :=
 ⟨Sp.mono λa ⟨t,ht,e⟩=>by
  obtain ⟨z,hz,rfl⟩:=List.mem_map.mp ht
  exact ⟨z,hz,by rw [e,zbM]⟩,
  Sp.mono λa ⟨t,ht,e⟩=>⟨t++[(0:Int)],List.mem_map.mpr ⟨t,ht,rfl⟩,by rw [e,zbM]⟩⟩
theorem zrf (h:∀ r∈rows,r.length=n):clm MG (ap0 rows)=ap0 (clm MG rows):=by
 have S:=(zbv h).1
 have h':∀ r∈ap0 rows,r.length=n+1:=λr hr=>by
  obtain ⟨z,hz,rfl⟩:=List.mem_map.mp hr
  rw [List.length_append,h z hz];rfl
 exact (zbv h').1.one (rows':=ap0 rows) ⟨zpe S.ech,zo7 S.ech S.red,λt ht=>by
  obtain ⟨z,hz,rfl⟩:=List.mem_map.mp ht
  rw [zbM];exact zie.mpr (S.inn z hz),λt ht=>by
  obtain ⟨z,hz,rfl⟩:=List.mem_map.mp ht
  rw [zbM];exact zie.mpr (S.out z hz)⟩ (λ_ hr=>SpL.mem hr) λ_ hr=>SpL.mem hr
theorem Sd.app0 {t:Ji} (T:Sd n s t):Sd (n+1) s (t++[(0:Int)]):=by
 have e:=zg8 (t:=t) (by have:=T.len;have:=T.hd;omega)
 refine ⟨by rw [List.length_append,T.len];rfl,by rw [e];have:=T.hd;omega,by rw [e,zbM];exact T.pos,by rw [e,zbM];exact T.top,λy hy=>?_⟩
 rcases List.mem_append.mp hy with hy | hy
 ·exact T.bit y hy
 ·rw [List.mem_singleton.mp hy];exact Nat.zero_le _
theorem znC (h:∀ r∈rows,r.length=n) (hx:x.length=n) (k:SpL rows (vec x)):clm MG (ziL rows x)=ap0 (clm MG rows)++[zlr n]:=by
 have S:=(zbv h).1
 have hu:SpL (ziL rows x) (vec (zlr n)):=(zst (d:=1) hx (Sp.conv (A:=λu=>∃ s∈rows,u=vec s) k λi=>by omega)).conv λi=>by rw [zdR]
 refine (zbv (zof h hx)).1.one (rows':=ziL rows x) ⟨zoJ (Nat.zero_le n) S.ech,znU S.ech S.red,λt ht=>?_,λt ht=>?_⟩ (λ_ hr=>SpL.mem hr) λ_ hr=>SpL.mem hr
 ·rcases List.mem_append.mp ht with ht | ht
  ·obtain ⟨z,hz,rfl⟩:=List.mem_map.mp ht
   rw [zbM]
   exact SpL.left (zie.mpr (S.inn z hz))
  ·rw [List.mem_singleton.mp ht];exact hu
 ·rcases List.mem_append.mp ht with ht | ht
  ·obtain ⟨z,hz,rfl⟩:=List.mem_map.mp ht
   rw [zbM]
   exact SpL.left (zie.mpr (S.out z hz))
  ·rw [List.mem_singleton.mp ht]
   have a1:SpL (ap0 (clm MG rows)++[zlr n]) (vec x):=SpL.left (zie.mpr (SpL.sub S.out k))
   have a2:SpL (ap0 (clm MG rows)++[zlr n]) (vec (zlr n)):=SpL.mem (List.mem_append_right _ (List.mem_singleton.mpr rfl))
   refine (Sp.lin 1 (-1) a1 a2).conv λi=>?_
   rw [zhD hx,zdR]
   omega
theorem Cb.ask (h:Cb n s rows) (hn:n≤8) (hl:rows.length≤30) (hx:x.length=n) (hb:Bit s x) (k:SpL rows (vec x)):Cb (n+1) s (ziL rows x):=by
 have hr:∀ r∈rows,r.length=n:=λr hr=>(h.mem hr).1
 have L:(ap0 rows).length=rows.length:=List.length_map _
 refine ⟨by omega,h.2.1,by unfold ziL;rw [List.length_append,L,List.length_singleton];omega,λi y hy=>⟨zof hr hx y (List.mem_of_getElem? hy),zrn (λr hr=>(h.mem hr).2) hb y (List.mem_of_getElem? hy),λt ht=>?_⟩⟩
 by_cases q:i<rows.length
 ·unfold ziL at ht
  rw [List.take_append_of_le_length (by rw [L];omega),← List.map_take,zrf λr h=>hr r (List.mem_of_mem_take h)] at ht
  obtain ⟨z,hz,rfl⟩:=List.mem_map.mp ht
  exact (h.way (i:=i+1) ⇑0 z hz).app0
 ·rw [List.take_of_length_le (by unfold ziL;rw [List.length_append,L,List.length_singleton];omega),znC hr hx k] at ht
  rcases List.mem_append.mp ht with ht | ht
  ·obtain ⟨z,hz,rfl⟩:=List.mem_map.mp ht
   exact (h.sd z hz).app0
  ·rw [List.mem_singleton.mp ht]
   refine ⟨by unfold zlr;rw [List.length_append,List.length_replicate];rfl,by rw [zfr];omega,by rw [zfr,zdR,if_pos rfl];decide,by rw [zfr,zdR,if_pos rfl];exact Nat.one_le_two_pow,Bit.of λi=>?_⟩
   rw [zdR]
   split
   ·exact Nat.one_le_two_pow
   ·exact Nat.zero_le _
end
open L2
noncomputable def Snd (B:Jq) (u:Vc):Vc:=λi=>lsum ((↑64).map λ(w:Nat)=>u w*vec (ixD B (w:Int)) i)
noncomputable def zdk (n:Nat) (B S:Jq):Jq:=mark B++↑0 (λ(x:Ji)=>x++zcI (n:Int) [(0:Int)]) S
section
variable {n m:Nat} {B S ss:Jq} {u v:Vc}
theorem zir (x:Int) (i:Nat):Snd B (λj=>u j+x*v j) i=Snd B u i+x*Snd B v i:=by
 unfold Snd
 rw [← zgK,← zj1]
 exact zbE λa _=>by rw [Int.add_mul,Int.mul_assoc]
theorem zfZ (i:Nat):Snd B (λ_=>0) i=0:=by
 unfold Snd
 rw [show ((↑64).map λ(w:Nat)=>(0:Int)*vec (ixD B (w:Int)) i)=(↑64).map λ_=>(0:Int) from List.map_congr_left λa _=>Int.zero_mul _]
 exact zdu _
theorem zfC {f:Nat->Int} {k:Nat}:∀ {l:List Nat},l.Nodup->k∈l->lsum (l.map λw=>(if w=k then (1:Int) else 0)*f w)=f k
 | [],_,h=>absurd h ↥9
 | a :: l,hn,h=>by
  obtain ⟨h1,h2⟩:=List.nodup_cons.mp hn
  show (if a=k then (1:Int) else 0)*f a+lsum (l.map λw=>(if w=k then (1:Int) else 0)*f w)=f k
  by_cases q:a=k
  ·subst q
   have z:(l.map λw=>(if w=a then (1:Int) else 0)*f w)=l.map λ_=>(0:Int):=List.map_congr_left λw hw=>by
    rw [if_neg (show ¬ w=a from λe=>h1 (by rw [← e];exact hw))];exact Int.zero_mul _
   rw [z,zdu,if_pos rfl];omega
  ·rw [if_neg q,zfC h2 ((List.mem_cons.mp h).resolve_left λe=>q e.symm)];omega
theorem zmz {k:Nat} (hk:k<B.length) (i:Nat):Snd B (λw=>if w=k then 1 else 0) i=vec (ixD B (k:Int)) i:=by
 unfold Snd
 exact zfC (f:=λw=>vec (ixD B (w:Int)) i) List.nodup_range (List.mem_range.mpr hk)
theorem zk3 (hB:∀ r∈B,r.length=m) {i:Nat} (hi:m≤i):Snd B u i=0:=by
 unfold Snd
 rw [show ((↑64).map λ(w:Nat)=>u w*vec (ixD B (w:Int)) i)=(↑64).map λ_=>(0:Int) from List.map_congr_left λa ha=>by
  rw [za8 (by rw [hB _ (zfk (List.mem_range.mp ha))];exact hi)];exact Int.mul_zero _]
 exact zdu _
theorem zjZ {A:Vc->Prop} {g:Nat->Vc} {c:Nat->Int}:∀ {l:List Nat},(∀ w∈l,Sp A (g w))->Sp A (λi=>lsum (l.map λw=>c w*g w i))
 | [],_=>Sp.zero.conv λ_=>rfl
 | a :: l,h=>((((h a ↑3)).smul (c a)).plus (zjZ λw hw=>h w (⇑3 _ hw))).conv λ_=>rfl
theorem zil {x:Ji}:vec (x++zcI (n:Int) [(0:Int)])=vec x:=by
 funext i
 rw [zcC,zeC]
 split
 ·rfl
 ·exact (za8 ⇑0).symm
theorem zmb (hn:B.length=n) (hB:∀ r∈B,r.length=m) (hS:∀ r∈S,r.length=m) (h:SpL (zdk n B S) u):SpL S (λi=>(if i<m then u i else 0)-Snd B (λw=>u (m+w)) i):=by
 refine Sp.image (A:=λa=>∃ s∈zdk n B S,a=vec s) (B:=λa=>∃ s∈S,a=vec s) (g:=λu i=>(if i<m then u i else 0)-Snd B (λw=>u (m+w)) i) (λi=>?_) (λu a x i=>?_) (λa ha=>?_) h
 ·show (if i<m then (0:Int) else 0)-Snd B (λ_=>0) i=0
  rw [zfZ];split<;>rfl
 ·show (if i<m then u i+x*a i else 0)-Snd B (λw=>u (m+w)+x*a (m+w)) i=_
  rw [zir x i]
  show _=(if i<m then u i else 0)-Snd B (λw=>u (m+w)) i+x*((if i<m then a i else 0)-Snd B (λw=>a (m+w)) i)
  rw [Int.mul_sub]
  split<;>omega
 ·obtain ⟨s,hs,rfl⟩:=ha
  rcases List.mem_append.mp hs with hs | hs
  ·obtain ⟨k,r,hr,rfl⟩:=zdO hs
   obtain ⟨k1,k2⟩:=zqX hr
   have hl:=hB r ↑131
   refine Sp.zero.conv λi=>?_
   have e:(λw=>vec (r++ze0 B.length (k:Int)) (m+w))=λw=>if w=k then 1 else 0:=funext λw=>by
    rw [zcC,hl,if_neg ⇑0,Nat.add_sub_cancel_left,zgu k1]
   show (0:Int)=(if i<m then vec (r++ze0 B.length (k:Int)) i else 0)-Snd B (λw=>vec (r++ze0 B.length (k:Int)) (m+w)) i
   rw [e,zmz k1,k2]
   by_cases q:i<m
   ·rw [if_pos q,zcC,hl,if_pos q];omega
   ·rw [if_neg q,za8 (l:=r) ⇑0];rfl
  ·obtain ⟨t,ht,rfl⟩:=List.mem_map.mp hs
   refine Sp.conv (A:=λa=>∃ s∈S,a=vec s) (SpL.mem ht) λi=>?_
   have e:(λw=>vec (t++zcI (n:Int) [(0:Int)]) (m+w))=λ_=>0:=funext λw=>by
    rw [zil];exact za8 (by rw [hS t ht];omega)
   show vec t i=(if i<m then vec (t++zcI (n:Int) [(0:Int)]) i else 0)-Snd B (λw=>vec (t++zcI (n:Int) [(0:Int)]) (m+w)) i
   rw [e,zfZ,zil]
   by_cases q:i<m
   ·rw [if_pos q];omega
   ·rw [if_neg q,za8 (by rw [hS t ht];omega)];rfl
theorem zsd (hn:B.length=n) (hB:∀ r∈B,r.length=m) (hS:∀ r∈S,r.length=m) (St:Stairs (m+n) (zdk n B S) ss) :
  Ech n 0 (zd0 m ss)∧Red (zd0 m ss)∧(∀ t∈zd0 m ss,SpL S (Snd B (vec t)))∧∀ x:Ji,x.length=n->SpL S (Snd B (vec x))->SpL (zd0 m ss) (vec x):=by
 refine ⟨by have:=zhR St.ech;exact this.mono (Nat.zero_le _),zhW St.ech St.red,λt ht=>?_,λx hx h=>?_⟩
 ·obtain ⟨s,hs,h1,rfl⟩:=zh8 ht
  refine ((zmb hn hB hS (St.inn s hs)).smul (-1)).conv λi=>?_
  have e:(λw=>vec s (m+w))=vec (s.drop m):=funext λw=>zda.symm
  show -1*((if i<m then vec s i else 0)-Snd B (λw=>vec s (m+w)) i)=Snd B (vec (s.drop m)) i
  rw [e]
  by_cases q:i<m
  ·rw [if_pos q,zbl ⇑0];omega
  ·rw [if_neg q];omega
 ·have a1:SpL (zdk n B S) (λi=>lsum ((↑64).map λw=>vec x w*vec (ixD B (w:Int)++ze0 B.length (w:Int)) i)):=zjZ (g:=λw=>vec (ixD B (w:Int)++ze0 B.length (w:Int))) λw hw=>by
   have hw:=List.mem_range.mp hw
   refine SpL.mem (List.mem_append_left _ (ziz (List.getElem?_eq_getElem hw ▸ ?_)))
   rw [zbY (List.getElem?_eq_getElem hw)]
  have a2:SpL (zdk n B S) (Snd B (vec x)):=SpL.sub (λs hs=>by
   have:=SpL.mem (ss:=zdk n B S) (List.mem_append_right _ (List.mem_map.mpr ⟨s,hs,rfl⟩))
   rwa [zil] at this) h
  have a3:SpL (zdk n B S) (λi=>if i<m then 0 else vec x (i-m)):=(Sp.lin 1 (-1) a1 a2).conv λi=>by
   have e:lsum ((↑64).map λw=>vec x w*vec (ixD B (w:Int)++ze0 B.length (w:Int)) i)=if i<m then Snd B (vec x) i else lsum ((↑64).map λw=>(if w=i-m then (1:Int) else 0)*vec x w):=by
    by_cases q:i<m
    ·rw [if_pos q]
     exact zbE λw hw=>by rw [zcC,hB _ (zfk (List.mem_range.mp hw)),if_pos q]
    ·rw [if_neg q]
     refine zbE λw hw=>?_
     have hw:=List.mem_range.mp hw
     rw [zcC,hB _ (zfk hw),if_neg q,zgu hw,Int.mul_comm]
     by_cases z:i-m=w
     ·rw [if_pos z,if_pos z.symm]
     ·rw [if_neg z,if_neg λk=>z k.symm]
   rw [e]
   by_cases q:i<m
   ·rw [if_pos q,if_pos q];omega
   ·rw [if_neg q,if_neg q,zk3 hB ⇑0]
    by_cases z:i-m<B.length
    ·rw [zfC (f:=vec x) List.nodup_range (List.mem_range.mpr z)];omega
    ·rw [za8 (l:=x) ⇑0,show ((↑64).map λw=>(if w=i-m then (1:Int) else 0)*vec x w)=(↑64).map λ_=>(0:Int) from List.map_congr_left λw hw=>by
      rw [if_neg (by have:=List.mem_range.mp hw;omega)];exact Int.zero_mul _,zdu]
     rfl
  have a4:=zlh (n:=m) St.ech (SpL.sub St.out a3) λi hi=>if_pos hi
  have a5:=Sp.image (B:=λa=>∃ s∈zd0 m ss,a=vec s) (g:=λu i=>u (m+i)) ⇑5 (λ_ _ _ _=>rfl) (λa ⟨s,hs,e⟩=>by
   refine Sp.mem ⟨s.drop m,List.mem_map.mpr ⟨s,hs,rfl⟩,?_⟩
   rw [e];funext i;exact zda.symm) a4
  refine Sp.conv a5 λi=>?_
  ·show (if m+i<m then 0 else vec x (m+i-m))=vec x i
   rw [if_neg ⇑0,Nat.add_sub_cancel_left]
end
section
variable {n k s:Nat}
theorem zfh {t u:Ji} {i:Nat} (h:i<t.length):vec (t++u) i=vec t i:=by rw [zcC,if_pos h]
theorem zlq {t u:Ji} (h:hd t<t.length):hd (t++u)=hd t:=zjo (by rw [zfh h];exact zg9 h) λi hi=>by rw [zfh ⇑0];exact zbl hi
theorem zn9:∀ {is:Ji} {ss:Jq} {lo:Nat},Ech n lo ss->Ech (n+k) lo (↑0 (λ(x:Int×Ji)=>x.2++ze0 k x.1) (List.zip is ss))
 | [],_,_,_=>by rw [List.zip_nil_left];trivial
 | _ :: _,[],_,_=>trivial
 | i :: is,t :: ss,lo,⟨h1,h2,h3,h4,h5⟩=>by
  have e:=zlq (t:=t) (u:=ze0 k i) ⇑0
  exact ⟨by rw [List.length_append,h1,ze9],by show lo≤hd (t++ze0 k i);rw [e];exact h2,by show hd (t++ze0 k i)<_;rw [e];omega,by show 0<vec (t++ze0 k i) (hd (t++ze0 k i));rw [e,zfh ⇑0];exact h4,by show Ech _ (hd (t++ze0 k i)+1) _;rw [e];exact zn9 h5⟩
theorem zn4:∀ {is:Ji} {ss:Jq} {lo:Nat},Ech n lo ss->Red ss->Red (↑0 (λ(x:Int×Ji)=>x.2++ze0 k x.1) (List.zip is ss))
 | [],_,_,_,_=>by rw [List.zip_nil_left];trivial
 | _ :: _,[],_,_,_=>trivial
 | i :: is,t :: ss,lo,⟨h1,h2,h3,h4,h5⟩,⟨r1,r2⟩=>⟨λy hy=>by
   obtain ⟨p,hp,rfl⟩:=List.mem_map.mp hy
   have hm:=((List.of_mem_zip hp)).2
   have:=h5.mem _ hm
   show 0≤vec (t++ze0 k i) (hd (p.2++ze0 k p.1))∧vec (t++ze0 k i) (hd (p.2++ze0 k p.1))<vec (p.2++ze0 k p.1) (hd (p.2++ze0 k p.1))
   rw [zlq ⇑0,zfh ⇑0,zfh ⇑0]
   exact r1 _ hm,zn4 h5 r2⟩
theorem Cb.mark {ss:Jq} (hn:n+ss.length≤9) (hs:s≤200000) (e:Ech n 0 ss) (r:Red ss) (h:∀ t∈ss,Sd n s t):Cb (n+ss.length) s (mark ss):=by
 refine Cb.self hn hs (zn9 (k:=ss.length) e) (zn4 e r) λy hy=>?_
 obtain ⟨i,t,ht,rfl⟩:=zdO hy
 have T:=h t (List.mem_of_getElem? ht)
 have hl:=T.len
 have hh:=T.hd
 have e:=zlq (t:=t) (u:=ze0 ss.length (i:Int)) ⇑0
 refine ⟨by rw [List.length_append,hl,ze9],by rw [e];omega,by rw [e,zfh ⇑0];exact T.pos,by rw [e,zfh ⇑0];exact T.top,λy hy=>?_⟩
 rcases List.mem_append.mp hy with hy | hy
 ·exact T.bit y hy
 ·exact zlR y hy
end
end Lat
namespace L2
open PySem PySem.Spec PyProof.Rows
theorem zlk {X:Cx} {CX:CXT} {k:Nat} {C:Addr} {ps:List Str} {sp:Sp} {E:XK} {m:Str} {pos apos:Pos} {o:Expr} {ta:TE} {pl:Sem Bool} (he:PE X o ta) (c:Cls X.K C) (F:CalleeM X.prog X.w X.K X.mg X.base CX k C m ps sp) (hr:Room k X.A) (hx:zf8 CX X E)
  (ht:eval (.Call ↑154 [] [] pos) X.env=(do
   let ov ← eval o X.env
   standAt apos.atName
   let (f,first) ← holding [ov] (getMethod ov m pl)
   callWith pos f first (backTo pos (starEach [] X.env)) ↑192):=by rfl) :
  PE X (.Call ↑154 [] [] pos) (zo1 C m sp [] E ta tNil):=by
 obtain ⟨f,fd,G,hm,hb⟩:=F.ex
 exact zqi he c hm G hr hb .nil hx ht
end L2
namespace Lat
open L2
theorem zim {α:Type} [DecidableEq α]:∀ {l m:List α},l.Nodup->(∀ x∈l,x∈m)->l.length≤m.length
 | [],_,_,_=>Nat.zero_le _
 | x :: l,m,h,k=>by
  have hx:=k x ↑3
  have:=zim (l:=l) (m:=m.erase x) (List.nodup_cons.mp h).2 λy hy=>(List.mem_erase_of_ne (a:=y) (b:=x) λ(e:y=x)=>(List.nodup_cons.mp h).1 (by rw [← e];exact hy)).mpr (k y (⇑3 _ hy))
  rw [List.length_erase_of_mem hx] at this
  have:0<m.length:=List.length_pos_of_mem hx
  rw [List.length_cons];omega
theorem zla {α β:Type} [DecidableEq β] {l:List α} {m:List β} {f:α->β} (h:l.Nodup) (hf:∀ x∈l,f x∈m) (hi:∀ x∈l,∀ y∈l,f x=f y->x=y):l.length≤m.length:=by
 have:(l.map f).Nodup:=by
  unfold List.Nodup at *
  rw [List.pairwise_map]
  exact List.Pairwise.imp_of_mem (λ{x y} hx hy n e=>n (hi x hx y hy e)) h
 have:=zim this (m:=m) λy hy=>by
  obtain ⟨x,hx,rfl⟩:=List.mem_map.mp hy
  exact hf x hx
 rwa [List.length_map] at this
noncomputable def zeJ:Ji->Jq
 | []=>[[]]
 | d :: ds=>(List.range d.toNat).flatMap λ(k:Nat)=>(zeJ ds).map λl=>(k:Int) :: l
noncomputable def prd:Ji->Int
 | []=>1
 | d :: ds=>d*prd ds
theorem zpb:∀ (xs ys:Ji),prd (xs++ys)=prd xs*prd ys
 | [],ys=>(Int.one_mul _).symm
 | x :: xs,ys=>by show x*prd (xs++ys)=x*prd xs*prd ys;rw [zpb,Int.mul_assoc]
theorem zru:∀ {xs:Ji},(∀ x∈xs,0<x)->0<prd xs
 | [],_=>by decide
 | x :: xs,h=>Int.mul_pos (h x ↑3) (zru λy hy=>h y (⇑3 _ hy))
theorem zmC {α β:Type} {f:α->List β} {n:Nat}:∀ {l:List α},(∀ x∈l,(f x).length=n)->(l.flatMap f).length=l.length*n
 | [],_=>(Nat.zero_mul _).symm
 | x :: l,h=>by rw [List.flatMap_cons,List.length_append,h x ↑3,zmC λy hy=>h y (⇑3 _ hy),List.length_cons,Nat.succ_mul];omega
theorem zia:∀ {ds:Ji},(∀ d∈ds,0<d)->(((zeJ ds).length:Nat):Int)=prd ds
 | [],_=>rfl
 | d :: ds,h=>by
  have h1:=h d ↑3
  have ih:=zia (ds:=ds) λx hx=>h x (⇑3 _ hx)
  show (((List.flatMap _ _).length:Nat):Int)=d*prd ds
  rw [zmC (n:=(zeJ ds).length) λx _=>List.length_map _,List.length_range,Int.natCast_mul,ih,Int.toNat_of_nonneg ⇑0]
theorem zeW:∀ {ds l:Ji},l∈zeJ ds ↔ l.length=ds.length∧∀ (i:Nat) (d:Int),ds[i]?=some d->0≤vec l i∧vec l i<d
 | [],l=>by
  show l∈[[]] ↔ _
  rw [List.mem_singleton]
  refine ⟨λe=>⟨by rw [e],λi d h=>by cases h⟩,λh=>List.length_eq_zero_iff.mp h.1⟩
 | d :: ds,l=>by
  show l∈List.flatMap _ _ ↔ _
  rw [List.mem_flatMap]
  constructor
  ·rintro ⟨k,hk,hl⟩
   obtain ⟨m,hm,rfl⟩:=List.mem_map.mp hl
   obtain ⟨m1,m2⟩:=zeW.mp hm
   have hk:=List.mem_range.mp hk
   refine ⟨by rw [List.length_cons,List.length_cons,m1],λi e he=>?_⟩
   cases i with
   | zero=>cases he;show 0≤(k:Int)∧(k:Int)<d;omega
   | succ i=>exact m2 i e he
  ·rintro ⟨h1,h2⟩
   cases l with
   | nil=>cases h1
   | cons x l =>
    have hx:=h2 0 d rfl
    have hx:0≤x∧x<d:=hx
    refine ⟨x.toNat,List.mem_range.mpr ⇑0,List.mem_map.mpr ⟨l,zeW.mpr ⟨by simpa using h1,λi e he=>h2 (i+1) e he⟩,?_⟩⟩
    rw [Int.toNat_of_nonneg hx.1]
theorem zgf:∀ {ds:Ji},(zeJ ds).Nodup
 | []=>List.nodup_cons.mpr ⟨by simp,List.nodup_nil⟩
 | d :: ds=>by
  show (List.flatMap _ _).Nodup
  unfold List.Nodup
  rw [List.pairwise_flatMap]
  refine ⟨λk _=>?_,?_⟩
  ·rw [List.pairwise_map]
   exact List.Pairwise.imp (λ{x y} n e=>n (List.cons.inj e).2) zgf
  ·refine List.Pairwise.imp (λ{x y} n a ha b hb e=>n ?_) (List.nodup_range (n:=d.toNat))
   obtain ⟨u,_,rfl⟩:=List.mem_map.mp ha
   obtain ⟨v,_,rfl⟩:=List.mem_map.mp hb
   have:=(List.cons.inj e).1
   omega
noncomputable def hds (ss:Jq):Ji:=ss.map λt=>vec t (hd t)
theorem zjJ {n:Nat}:∀ {ss:Jq} {lo:Nat},Ech n lo ss->ss.length+lo=n->∀ (k:Nat) (t:Ji),ss[k]?=some t->hd t=lo+k
 | [],lo,_,_,k,t,h=>by cases h
 | s :: ss,lo,e,h,k,t,ht=>by
  obtain ⟨e1,e2,e3,e4,e5⟩:=e
  have h1:=zfe e5 ⇑0
  rw [List.length_cons] at h
  cases k with
  | zero=>cases ht;omega
  | succ k =>
   have:=zjJ e5 ⇑0 k t ht
   omega
theorem zlE {n:Nat} {ss:Jq} (e:Ech n 0 ss):∀ d∈hds ss,0<d:=λd hd=>by
 obtain ⟨t,ht,rfl⟩:=List.mem_map.mp hd
 exact (e.mem t ht).2.2.2
theorem zjI {n:Nat} {ss:Jq} {x:Ji} (e:Ech n 0 ss) (hl:ss.length=n) (hx:x.length=n):low x ss∈zeJ (hds ss):=by
 obtain ⟨a1,a2,a3,a4⟩:=zbW (l:=x) e hx
 refine zeW.mpr ⟨by rw [a1];unfold hds;rw [List.length_map,hl],λi d h=>?_⟩
 unfold hds at h
 rw [List.getElem?_map] at h
 cases q:ss[i]? with
 | none=>rw [q] at h;cases h
 | some t =>
  rw [q] at h
  have h:vec t (hd t)=d:=Option.some.inj h
  have hh:=zjJ e ⇑0 i t q
  rw [Nat.zero_add] at hh
  have:=a3 t (List.mem_of_getElem? q)
  rw [hh] at this h
  omega
theorem zlH {n:Nat} {ss:Jq} {x y:Ji} (e:Ech n 0 ss) (hl:ss.length=n) (hx:x∈zeJ (hds ss)) (hy:y∈zeJ (hds ss)) (k:SpL ss (λi=>vec x i-vec y i)):x=y:=by
 obtain ⟨x1,x2⟩:=zeW.mp hx
 obtain ⟨y1,y2⟩:=zeW.mp hy
 refine zih (x1.trans y1.symm) λi=>?_
 have:=zic (u:=λi=>vec x i-vec y i) e k (λt ht=>by
  obtain ⟨j,hj⟩:=List.getElem?_of_mem ht
  have hh:=zjJ e ⇑0 j t hj
  rw [Nat.zero_add] at hh
  have hd:(hds ss)[j]?=some (vec t (hd t)):=by unfold hds;rw [List.getElem?_map,hj];rfl
  have:=x2 j _ hd;have:=y2 j _ hd
  show -vec t (Lat.hd t)<vec x (Lat.hd t)-vec y (Lat.hd t)∧vec x (Lat.hd t)-vec y (Lat.hd t)<vec t (Lat.hd t)
  rw [hh] at *
  omega) i
 have this:vec x i-vec y i=0:=this
 omega
theorem zso {n:Nat} {tt:Jq} {x:Ji} (et:Ech n 0 tt) (lt:tt.length=n) (hx:x.length=n):∃ k:Int,0<k∧SpL tt (λi=>k*vec x i):=by
 refine Classical.byContradiction λz=>?_
 have key:∀ a b:Nat,a<b->low (mul x (a:Int)) tt=low (mul x (b:Int)) tt->False:=λa b hab e=>by
  obtain ⟨_,a2,_⟩:=zbW (l:=mul x (a:Int)) et (by rw [zbw];exact hx)
  obtain ⟨_,b2,_⟩:=zbW (l:=mul x (b:Int)) et (by rw [zbw];exact hx)
  rw [e] at a2
  refine z ⟨(b:Int)-a,by omega,(Sp.lin 1 (-1) b2 a2).conv λi=>?_⟩
  rw [zd4,zd4]
  grind
 have:=zla (l:=List.range ((zeJ (hds tt)).length+1)) (m:=zeJ (hds tt)) (f:=λa=>low (mul x (a:Int)) tt) List.nodup_range (λa _=>zjI et lt (by rw [zbw];exact hx)) λa _ b _ e=>by
  rcases Nat.lt_trichotomy a b with h | h | h
  ·exact (key a b h e).elim
  ·exact h
  ·exact (key b a h e.symm).elim
 rw [List.length_range] at this
 omega
noncomputable def lst (m:Nat) (f:Nat->Int):Ji:=(List.range m).map f
theorem zeK {m:Nat} {f:Nat->Int}:(lst m f).length=m:=by unfold lst;rw [List.length_map,List.length_range]
theorem ziJ {m i:Nat} {f:Nat->Int}:vec (lst m f) i=if i<m then f i else 0:=by
 unfold vec lst
 rw [List.getD_eq_getElem?_getD,List.getElem?_map]
 by_cases q:i<m
 ·rw [List.getElem?_range q,if_pos q];rfl
 ·rw [List.getElem?_eq_none (by rw [List.length_range];omega),if_neg q];rfl
theorem zkB {es b:Ji} (hb:b∈zeJ es):∀ {ds a:Ji},a∈zeJ ds->a++b∈zeJ (ds++es)
 | [],a,ha=>by
  have ha:a∈[[]]:=ha
  rw [List.mem_singleton.mp ha];exact hb
 | d :: ds,a,ha=>by
  obtain ⟨k,hk,hl⟩:=List.mem_flatMap.mp ha
  obtain ⟨l,hm,rfl⟩:=List.mem_map.mp hl
  exact List.mem_flatMap.mpr ⟨k,hk,List.mem_map.mpr ⟨l++b,zkB hb hm,rfl⟩⟩
theorem zfb {es:Ji}:∀ {ds x:Ji},x∈zeJ (ds++es)->∃ a b,x=a++b∧a∈zeJ ds∧b∈zeJ es
 | [],x,h=>⟨[],x,rfl,List.mem_singleton.mpr rfl,h⟩
 | d :: ds,x,h=>by
  obtain ⟨k,hk,hl⟩:=List.mem_flatMap.mp h
  obtain ⟨l,hm,rfl⟩:=List.mem_map.mp hl
  obtain ⟨a,b,rfl,ha,hb⟩:=zfb (ds:=ds) hm
  exact ⟨(k:Int) :: a,b,rfl,List.mem_flatMap.mpr ⟨k,hk,List.mem_map.mpr ⟨a,ha,rfl⟩⟩,hb⟩
theorem zjC {ss:Jq}:(hds ss).length=ss.length:=List.length_map _
theorem znP {m n:Nat} {S P Q:Jq} {D:Vc->Vc} (eS:Ech (m+n) 0 S) (lS:S.length=m+n) (eP:Ech m 0 P) (lP:P.length=m) (eQ:Ech n 0 Q) (lQ:Q.length=n)
  (hD:∀ u v i,D (λj=>u j-v j) i=D u i-D v i)
  (hk:∀ u:Vc,(∀ i,m+n≤i->u i=0)->(SpL S u ↔ SpL P (λi=>if i<m then u i-D (λw=>u (m+w)) i else 0)∧SpL Q (λw=>u (m+w)))):prd (hds S)=prd (hds P)*prd (hds Q):=by
 have pos:∀ d∈hds P++hds Q,0<d:=λd hd=>by
  rcases List.mem_append.mp hd with h | h
  ·exact zlE eP d h
  ·exact zlE eQ d h
 rw [← zpb,← zia (zlE eS),← zia pos]
 have lb:∀ {N:Nat} {T:Jq} {x:Ji},T.length=N->x∈zeJ (hds T)->x.length=N:=λhT hx=>by
  have:=(zeW.mp hx).1
  rw [zjC] at this;omega
 have sm:∀ {N:Nat} {T:Jq} {x y:Ji},Ech N 0 T->x.length=N->y.length=N->low x T=low y T->SpL T (λi=>vec x i-vec y i):=λe hx hy h=>by
  obtain ⟨_,a2,_⟩:=zbW e hx
  obtain ⟨_,b2,_⟩:=zbW e hy
  rw [h] at a2
  exact (Sp.lin 1 (-1) a2 b2).conv λi=>by omega
 have h1:(zeJ (hds S)).length≤(zeJ (hds P++hds Q)).length:=by
  refine zla (f:=λx=>low (lst m (λi=>vec x i-D (λw=>vec x (m+w)) i)) P++low (x.drop m) Q) zgf (λx hx=>zkB (zjI eQ lQ (by rw [List.length_drop,lb lS hx];omega)) (zjI eP lP zeK)) λx hx y hy e=>?_
  have xl:=lb lS hx;have yl:=lb lS hy
  have hxl:(x.drop m).length=n:=by rw [List.length_drop];omega
  have hyl:(y.drop m).length=n:=by rw [List.length_drop];omega
  obtain ⟨e1,e2⟩:=List.append_inj e (by rw [(zbW eP zeK).1,(zbW eP zeK).1])
  refine zlH eS lS hx hy ((hk (λi=>vec x i-vec y i) λi hi=>by rw [za8 ⇑0,za8 ⇑0];rfl).mpr ⟨(sm eP zeK zeK e1).conv λi=>?_,(sm eQ hxl hyl e2).conv λi=>by rw [zda,zda]⟩)
  rw [ziJ,ziJ]
  by_cases q:i<m
  ·rw [if_pos q,if_pos q,if_pos q,hD];omega
  ·rw [if_neg q,if_neg q,if_neg q];rfl
 have h2:(zeJ (hds P++hds Q)).length≤(zeJ (hds S)).length:=by
  refine zla (f:=λy=>low (lst m (λi=>vec y i+D (λw=>vec y (m+w)) i)++y.drop m) S) zgf (λy hy=>?_) λx hx y hy e=>?_
  ·obtain ⟨a,b,rfl,ha,hb⟩:=zfb hy
   exact zjI eS lS (by rw [List.length_append,zeK,List.length_drop,List.length_append,lb lP ha,lb lQ hb];omega)
  ·obtain ⟨a,b,rfl,ha,hb⟩:=zfb hx
   obtain ⟨c,d,rfl,hc,hd⟩:=zfb hy
   have al:=lb lP ha;have bl:=lb lQ hb;have cl:=lb lP hc;have dl:=lb lQ hd
   have el:∀ {a b:Ji},a.length=m->b.length=n->((lst m (λi=>vec (a++b) i+D (λw=>vec (a++b) (m+w)) i)++(a++b).drop m)).length=m+n∧(∀ i,vec (lst m (λi=>vec (a++b) i+D (λw=>vec (a++b) (m+w)) i)++(a++b).drop m) i=if i<m then vec a i+D (vec b) i else vec b (i-m)):=λ{a b} ha hb=>by
    have e1:(a++b).drop m=b:=by rw [← ha,List.drop_left]
    have e2:(λw=>vec (a++b) (m+w))=vec b:=funext λw=>by rw [zcC,ha,if_neg ⇑0,Nat.add_sub_cancel_left]
    rw [e1,e2]
    refine ⟨by rw [List.length_append,zeK,hb],λi=>?_⟩
    rw [zcC,zeK]
    by_cases q:i<m
    ·rw [if_pos q,if_pos q,ziJ,if_pos q,zcC,ha,if_pos q]
    ·rw [if_neg q,if_neg q]
   obtain ⟨x1,x2⟩:=el al bl
   obtain ⟨y1,y2⟩:=el cl dl
   obtain ⟨k1,k2⟩:=(hk _ λi hi=>by rw [x2,y2,if_neg ⇑0,if_neg ⇑0,za8 ⇑0,za8 ⇑0];rfl).mp (sm eS x1 y1 e)
   have eb:∀ w,vec (lst m (λi=>vec (a++b) i+D (λw=>vec (a++b) (m+w)) i)++(a++b).drop m) (m+w)-vec (lst m (λi=>vec (c++d) i+D (λw=>vec (c++d) (m+w)) i)++(c++d).drop m) (m+w)=vec b w-vec d w:=λw=>by
    rw [x2,y2,if_neg ⇑0,if_neg ⇑0,Nat.add_sub_cancel_left]
   have hb':=zlH eQ lQ hb hd (k2.conv eb)
   have ha':=zlH eP lP ha hc (k1.conv λi=>by
    rw [show (λw=>vec (lst m (λi=>vec (a++b) i+D (λw=>vec (a++b) (m+w)) i)++(a++b).drop m) (m+w)-vec (lst m (λi=>vec (c++d) i+D (λw=>vec (c++d) (m+w)) i)++(c++d).drop m) (m+w))=λw=>vec b w-vec d w from funext eb,x2,y2]
    by_cases q:i<m
    ·rw [if_pos q,if_pos q,if_pos q,hD];omega
    ·rw [if_neg q,za8 ⇑0,za8 ⇑0];rfl)
   rw [ha',hb']
 omega
theorem zkS {m N:Nat}:∀ {S:Jq},m≤N->(∀ t∈S,t.length=N∧hd t<N)->prd (hds S)=prd (hds (zi6 m S))*prd (hds (zd0 m S))
 | [],_,_=>rfl
 | t :: S,hm,h=>by
  have ih:=zkS (m:=m) (S:=S) hm λs hs=>h s (⇑3 _ hs)
  obtain ⟨t1,t2⟩:=h t ↑3
  show vec t (hd t)*prd (hds S)=_
  by_cases q:hd t<m
  ·have e1:zi6 m (t :: S)=t.take m :: zi6 m S:=by unfold zi6;rw [List.filter_cons_of_pos ↑57];rfl
   have e2:zd0 m (t :: S)=zd0 m S:=by unfold zd0;rw [List.filter_cons_of_neg ↑57]
   have e3:vec (t.take m) (hd (t.take m))=vec t (hd t):=by rw [zjH q ⇑0,zez,if_pos q]
   rw [e1,e2]
   show _=vec (t.take m) (hd (t.take m))*prd (hds (zi6 m S))*_
   rw [e3,ih,Int.mul_assoc]
  ·have e1:zi6 m (t :: S)=zi6 m S:=by unfold zi6;rw [List.filter_cons_of_neg ↑57]
   have e2:zd0 m (t :: S)=t.drop m :: zd0 m S:=by unfold zd0;rw [List.filter_cons_of_pos ↑57];rfl
   have e3:vec (t.drop m) (hd (t.drop m))=vec t (hd t):=by rw [zjY ⇑0 ⇑0,zda,show m+(hd t-m)=hd t by omega]
   rw [e1,e2]
   show _=_*(vec (t.drop m) (hd (t.drop m))*prd (hds (zd0 m S)))
   rw [e3,ih,← Int.mul_assoc,← Int.mul_assoc,Int.mul_comm (vec t (hd t))]
theorem zhy {n:Nat} {ss:Jq} (e:Ech n 0 ss) (h:∀ j,j<n->∃ u,SpL ss u∧(∀ i,i<j->u i=0)∧u j≠0):ss.length=n:=by
 have h1:=zfe e (Nat.zero_le n)
 have h2:=zim (l:=List.range n) (m:=ss.map hd) List.nodup_range λj hj=>by
  obtain ⟨u,u1,u2,u3⟩:=h j (List.mem_range.mp hj)
  obtain ⟨t,ht,e1⟩:=zgt e u1 u2 u3
  exact List.mem_map.mpr ⟨t,ht,e1⟩
 rw [List.length_range,List.length_map] at h2
 omega
theorem zou {n:Nat} {ss:Jq} (e:Ech n 0 ss) (hl:ss.length=n) {j:Nat} (hj:j<n):∃ t∈ss,(∀ i,i<j->vec t i=0)∧vec t j≠0:=by
 have hk:ss[j]?=some ss[j]:=List.getElem?_eq_getElem ⇑0
 have h1:=zjJ e ⇑0 j _ hk
 rw [Nat.zero_add] at h1
 have hm:=List.mem_of_getElem? hk
 refine ⟨_,hm,λi hi=>zbl ⇑0,?_⟩
 have:=(e.mem _ hm).2.2.2
 rw [h1] at this
 omega
end Lat
set_option maxHeartbeats 4000000
set_option maxRecDepth 100000
set_option maxHeartbeats 4000000
namespace My
open PySem L2
def top (i:Nat):Stmt:=PySem.Challenge.pw_swapbook_k74_lost.main.body.getD i (.Pass ⟨0,0,0,0⟩)
abbrev zej:Stmt:=top 13
abbrev zmj:Stmt:=top 14
abbrev zmv:Stmt:=top 15
abbrev zjx:Stmt:=top 16
abbrev zgA:Stmt:=top 17
abbrev zdx:Stmt:=zg0 (top 21) 0
abbrev zib:Stmt:=top 22
abbrev zde:Stmt:=top 23
abbrev ziA:Stmt:=top 25
abbrev zj6:Stmt:=top 26
abbrev ziI:Stmt:=top 27
abbrev zhF:Stmt:=top 28
abbrev zj4:Stmt:=top 29
abbrev zha:Stmt:=top 30
abbrev zhN:Stmt:=top 31
abbrev zh7:Stmt:=top 32
abbrev zjV:Stmt:=top 33
abbrev zhz:Stmt:=top 34
abbrev zjW:Stmt:=top 35
abbrev zjq:Stmt:=top 36
abbrev zgR:Stmt:=top 41
abbrev zh6:Stmt:=top 44
abbrev zc2:Stmt:=top 46
abbrev zcY:Stmt:=zg0 (top 48) 0
abbrev ze4:Stmt:=zg0 (top 48) 1
abbrev zeH:Stmt:=zg0 (top 48) 2
abbrev ze3:Stmt:=zg0 (top 48) 5
abbrev zdC:Stmt:=zg0 (top 50) 0
abbrev zff:Stmt:=top 51
abbrev zdQ:Stmt:=top 53
abbrev zid:Stmt:=top 54
abbrev zfF:Stmt:=top 55
abbrev zg4:Stmt:=top 57
abbrev zhX:Stmt:=top 58
abbrev zgc:Stmt:=top 59
abbrev zdf:Stmt:=top 60
abbrev zfd:Stmt:=top 61
abbrev zcn:Stmt:=top 62
abbrev zhd:Stmt:=top 63
abbrev zfz:Stmt:=top 64
abbrev zep:Stmt:=top 65
abbrev zdd:Stmt:=top 66
abbrev zfJ:Stmt:=top 67
abbrev zf1:Stmt:=top 68
abbrev zfA:Stmt:=top 69
abbrev zfc:Stmt:=top 70
abbrev zfG:Stmt:=top 71
abbrev zhe:Stmt:=top 72
abbrev zd3:Stmt:=top 73
abbrev zeb:Stmt:=top 74
abbrev zgj:Stmt:=top 75
abbrev zdP:Stmt:=top 76
abbrev zgm:Stmt:=top 77
abbrev zdH:Stmt:=top 78
abbrev ziP:Stmt:=top 79
abbrev lI:Ji->Ds:=λxs=>dL (↑0 dI xs)
structure Adr where
 no:Unit:=()
 Book:Addr
 Scale:Addr
 Line:Addr
 Rest:Addr
 Sender:Addr
 Stairs:Addr
structure BookD where
 many:Int
 swaps:Jq
 deriving Inhabited
def zbG (C:Addr) (b:BookD):Ds:=dO C [("many",dI b.many),("swaps",dL (↑0 lI b.swaps))]
structure ScaleD where
 weights:Ji
 deriving Inhabited
structure LineD where
 weights:Ji
 deriving Inhabited
def zu9 (C:Addr) (b:LineD):Ds:=dO C [("weights",dL (↑0 dI b.weights))]
structure RestD where
 weights:Ji
 rest:Int
 deriving Inhabited
def zvy (C:Addr) (b:RestD):Ds:=dO C [("weights",dL (↑0 dI b.weights)),("rest",dI b.rest)]
structure SenderD where
 first:BookD
 second:BookD
 baskets:Jq
 deriving Inhabited
def zdE (A:Adr) (C:Addr) (b:SenderD):Ds:=dO C [("first",zbG A.Book b.first),("second",zbG A.Book b.second),("baskets",dL (↑0 lI b.baskets))]
structure StairsD where
 steps:Jq
 heads:Ji
 roads:Jq
 deriving Inhabited
def zgb (C:Addr) (b:StairsD):Ds:=dO C [("steps",dL (↑0 lI b.steps)),("heads",dL (↑0 dI b.heads)),("roads",dL (↑0 lI b.roads))]
instance:Inhabited (LineD⊕RestD):=⟨.inl default⟩
noncomputable def dSc (A:Adr):LineD ⊕ RestD->Ds
 | .inl l=>zu9 A.Line l
 | .inr r=>zvy A.Rest r
theorem zwm {A:Adr}:NN (dSc A):=λx H v h=>match x,h with
 | .inl l,h=>NN.obj (f:=λ(b:LineD)=>[("weights",dL (↑0 dI b.weights))]) l H v h
 | .inr r,h=>NN.obj (f:=λ(b:RestD)=>[("weights",dL (↑0 dI b.weights)),("rest",dI b.rest)]) r H v h
structure Txt (K:W.Frag) (mg:Str->Option Value) (A:Adr):Prop where
 any:mg "any"=none
 bool:mg "bool"=none
 enumerate:mg "enumerate"=none
 int:mg "int"=none
 isinstance:mg "isinstance"=none
 len:mg "len"=none
 list:mg "list"=none
 max:mg "max"=none
 range:mg "range"=none
 reversed:mg "reversed"=none
 sum:mg "sum"=none
 zip:mg "zip"=none
 Book:mg "Book"=some (.ref A.Book)
 Book_cl:Cls K A.Book
 Book_many:NoAttr K A.Book "many"
 Book_swaps:NoAttr K A.Book "swaps"
 Scale:mg "Scale"=some (.ref A.Scale)
 Scale_cl:Cls K A.Scale
 Scale_weights:NoAttr K A.Scale "weights"
 Line:mg "Line"=some (.ref A.Line)
 Line_cl:Cls K A.Line
 Line_weights:NoAttr K A.Line "weights"
 Rest:mg "Rest"=some (.ref A.Rest)
 Rest_cl:Cls K A.Rest
 Rest_weights:NoAttr K A.Rest "weights"
 Rest_rest:NoAttr K A.Rest "rest"
 Sender:mg "Sender"=some (.ref A.Sender)
 Sender_cl:Cls K A.Sender
 Sender_first:NoAttr K A.Sender "first"
 Sender_second:NoAttr K A.Sender "second"
 Sender_baskets:NoAttr K A.Sender "baskets"
 Stairs:mg "Stairs"=some (.ref A.Stairs)
 Stairs_cl:Cls K A.Stairs
 Stairs_steps:NoAttr K A.Stairs "steps"
 Stairs_heads:NoAttr K A.Stairs "heads"
 Stairs_roads:NoAttr K A.Stairs "roads"
 g_MOST_WARES:∃ t,mg "MOST_WARES"=some (.int 8 t)
 g_MOST_SWAPS:∃ t,mg "MOST_SWAPS"=some (.int 12 t)
 kit_int_bool:W.kitOne K (.type "int") (.type "bool")=some false
 kit_int_int:W.kitOne K (.type "int") (.type "int")=some true
 kit_list_list:W.kitOne K (.type "list") (.type "list")=some true
section
variable {P:Program} {w:World} {K:W.Frag} {mg:Str->Option Value} {base:Heap} {f:Addr} {fd:FuncData} {A:Adr}
noncomputable def zfm (P0:Ji) (P1:Ji):Unit:=()
def zbO (P0:Ji) (P1:Ji):Prop:=P0.length=P1.length
def zc7 (K:W.Frag) (A:Adr):Sp:=Spv (ι:=Ji×Ji) ↑229 (λx=>zbO x.1 x.2) (λx=>↥[dN])
theorem zhs:FnScope ↑15 ↑15 (zai zej):=↥5
theorem zhx (F:Fun K "refuse_unlike" "refuse_unlike" zej f fd) (T:Txt K mg A) :FnOk P w K mg base ⇑1 1 f fd ↑15 (zc7 K A):=by
 refine F.okV zhs ⇑5 ↑10
 obtain ⟨P0,P1⟩:=x
 have hu:=hr.units
 replace hp:zbO P0 P1:=hp
 unfold zbO at hp
 refine ⟨_,(zab (zbQ (zaG zfn ↑111 ↑227 (zaQ _)) (zab zdp zae) zae) zae),.inr ⟨_,↑231,rfl,?_⟩⟩
 show L2.Run _ ↑231 _ _
 exact (zb6 (EvT.conv (zau (zdX (x:=↑32) (y:=((P1.length:Nat):Int)) ↑168 (zaV (f:=dI) (xs:=P1) ⇑8))) ↑270) (zat (zan (Wk.refl _))))
noncomputable def zeP (P0:Ji) (P1:Ji):Ji :=
 (↑0 (λ(x2:↑9)=>(x2.1+x2.2)) (List.zip P0 P1))
def zfa (P0:Ji) (P1:Ji):Prop:=P0.length=P1.length∧P0.length≤1000
def zln (K:W.Frag) (A:Adr):Sp:=Spv (ι:=Ji×Ji) ↑229 (λx=>zfa x.1 x.2) (λx=>.ow true (↑0 dI (zeP x.1 x.2)))
theorem zrJ:FnScope ↑15 ↑15 (zai zmj):=↥5
theorem zrO (F:Fun K "plus" "plus" zmj f fd) (T:Txt K mg A) (yad:Callee P w K mg base ⇑1 1 "refuse_unlike" ↑15 (zc7 K A)):FnOk P w K mg base ⇑1 2 f fd ↑15 (zln K A):=by
 refine F.okV zrJ ⇑5 ↑10
 obtain ⟨P0,P1⟩:=x
 have hu:=hr.units
 replace hp:zfa P0 P1:=hp
 unfold zfa at hp
 refine ⟨_,(zab (zdv (zaN yad ↑2 rfl zaK ↑[pv 0,pv 1])) (zab (zaL (zb9 rfl (.of (osc:=(zai zmj)) (N:=↑15) (own:=["a","b"]) (fvn:=[]) (fv:=[]) rfl rfl ↑6) (zb4 (K:=K) rfl rfl T.zip ↑[pv 0,pv 1]) (λ_ _ _ _ _=>⟨(zbd (K:=K) (n:=2) rfl rfl (zaD (zal (i:=0) ↑186 rfl (↥0 rfl) ⇑7) (zaD (zal (i:=1) ↑186 rfl (↥0 rfl) ⇑7) zbL))),za7,(zav zbX (pv 0) (pv 1))⟩))) zae)),.inl ?_⟩
 show L2.Run _ ↑231 _ (↑166 (zeP P0 P1))
 unfold zeP
 exact (zgp (m:=true) (Ev.any (m:=true) (zam (x:=(P0,P1)) (zac ↥2 (zac ⇑8 zah)) rfl (by show zbO P0 P1;exact hp.1) rfl)) (zeV (zjF (EvO.conv (zbJ (g:=(λ(x2:↑9)=>dI (x2.1+x2.2))) (zdT (m:=false) dI dI (xs:=P0) (ys:=P1) ↥2 ⇑8) ↥(zao ↑164) ⇑4 (λi3 x2 hx4=>have qhx4:=zbV hx4;(zaP (x:=x2.1) (y:=x2.2) ↑19 ⇑9))) ↑12))))
noncomputable def zfj (P0:Ji) (P1:Ji):Ji :=
 (↑0 (λ(x5:↑9)=>(x5.1-x5.2)) (List.zip P0 P1))
def ze2 (P0:Ji) (P1:Ji):Prop:=P0.length=P1.length∧P0.length≤1000
def zly (K:W.Frag) (A:Adr):Sp:=Spv (ι:=Ji×Ji) ↑229 (λx=>ze2 x.1 x.2) (λx=>.ow true (↑0 dI (zfj x.1 x.2)))
theorem zsm:FnScope ↑15 ↑15 (zai zmv):=↥5
theorem zro (F:Fun K "less" "less" zmv f fd) (T:Txt K mg A) (yad:Callee P w K mg base ⇑1 1 "refuse_unlike" ↑15 (zc7 K A)):FnOk P w K mg base ⇑1 2 f fd ↑15 (zly K A):=by
 refine F.okV zsm ⇑5 ↑10
 obtain ⟨P0,P1⟩:=x
 have hu:=hr.units
 replace hp:ze2 P0 P1:=hp
 unfold ze2 at hp
 refine ⟨_,(zab (zdv (zaN yad ↑2 rfl zaK ↑[pv 0,pv 1])) (zab (zaL (zb9 rfl (.of (osc:=(zai zmv)) (N:=↑15) (own:=["a","b"]) (fvn:=[]) (fv:=[]) rfl rfl ↑6) (zb4 (K:=K) rfl rfl T.zip ↑[pv 0,pv 1]) (λ_ _ _ _ _=>⟨(zbd (K:=K) (n:=2) rfl rfl (zaD (zal (i:=0) ↑186 rfl (↥0 rfl) ⇑7) (zaD (zal (i:=1) ↑186 rfl (↥0 rfl) ⇑7) zbL))),za7,(zav zeT (pv 0) (pv 1))⟩))) zae)),.inl ?_⟩
 show L2.Run _ ↑231 _ (↑166 (zfj P0 P1))
 unfold zfj
 exact (zgp (m:=true) (Ev.any (m:=true) (zam (x:=(P0,P1)) (zac ↥2 (zac ⇑8 zah)) rfl (by show zbO P0 P1;exact hp.1) rfl)) (zeV (zjF (EvO.conv (zbJ (g:=(λ(x5:↑9)=>dI (x5.1-x5.2))) (zdT (m:=false) dI dI (xs:=P0) (ys:=P1) ↥2 ⇑8) ↥(zao ↑164) ⇑4 (λi6 x5 hx7=>have qhx7:=zbV hx7;(zaP (x:=x5.1) (y:=x5.2) ↑19 ⇑9))) ↑12))))
noncomputable def zaB (P0:Ji) (P1:Int):Ji :=
 (↑0 (λ(x8:Int)=>(x8*P1)) P0)
def zb1 (P0:Ji) (P1:Int):Prop:=P0.length≤1000∧∀ x∈P0,zcK x P1
def zfO (K:W.Frag) (A:Adr):Sp:=Spv (ι:=Ji×Int) (λx=>[dQ K (↑0 dI x.1),dI x.2]) (λx=>zb1 x.1 x.2) (λx=>.ow true (↑0 dI (zaB x.1 x.2)))
theorem zpv:FnScope ["some","many"] ["some","many"] (zai zjx):=↥5
theorem zpq (F:Fun K "times" "times" zjx f fd) (T:Txt K mg A) :FnOk P w K mg base ⇑1 1 f fd ["some","many"] (zfO K A):=by
 refine F.okV zpv ⇑5 ↑10
 obtain ⟨P0,P1⟩:=x
 have hu:=hr.units
 replace hp:zb1 P0 P1:=hp
 unfold zb1 at hp
 refine ⟨_,(zab (zaL (zb9 rfl (.of (osc:=(zai zjx)) (N:=["some","many"]) (own:=["number"]) (fvn:=["many"]) (fv:=[1]) rfl rfl ↑6) ↑152 (λ_ _ _ _ _=>⟨(zal (i:=0) (show (["number","many"]:List Str).Nodup by decide +kernel) rfl (↥0 rfl) ⇑7),za7,(zav zbh (pv 0) (pv 1))⟩))) zae),.inl ?_⟩
 show L2.Run _ ([⇑[dQ K ↑14],⇑[dI P1]]:L2.Ctx) _ (↑166 (zaB P0 P1))
 unfold zaB
 exact (zeV (zjF (EvO.conv (zbJ (g:=(λ(x8:Int)=>dI (x8*P1))) (za6 (m:=false) dI (xs:=P0) ↥2) ↥(zao ⇑0) ⇑4 (λi9 x8 hx10=>have v10:=List.mem_of_getElem? hx10;(zaH (x:=x8) (y:=P1) ↑19 ⇑9 ↥(hp.2 _ (List.mem_of_getElem? ↑1))))) ↑12)))
theorem zpK {α:Type} {xs:List α} {i:Nat} {p:Int×α} (h:(zfH xs)[i]?=some p):p.2∈xs:=List.mem_of_getElem? (zdU h).2.2
noncomputable def zcR (P0:Ji) (P1:Ji):Int :=
 ((↑0 (λ(x11:↑9)=>(x11.1*x11.2)) (List.zip P0 P1))).sum
def zee (P0:Ji) (P1:Ji):Prop:=P0.length=P1.length∧P0.length≤1000∧∀ p∈List.zip P0 P1,zcK p.1 p.2
def zi7 (K:W.Frag) (A:Adr):Sp:=Spv (ι:=Ji×Ji) ↑229 (λx=>zee x.1 x.2) (λx=>↥[dI (zcR x.1 x.2)])
theorem zmM:FnScope ↑15 ↑15 (zai zgA):=↥5
theorem zmP (F:Fun K "weighed" "weighed" zgA f fd) (T:Txt K mg A) (yad:Callee P w K mg base ⇑1 1 "refuse_unlike" ↑15 (zc7 K A)):FnOk P w K mg base ⇑1 2 f fd ↑15 (zi7 K A):=by
 refine F.okV zmM ⇑5 ↑10
 obtain ⟨P0,P1⟩:=x
 have hu:=hr.units
 replace hp:zee P0 P1:=hp
 unfold zee at hp
 refine ⟨_,(zab (zdv (zaN yad ↑2 rfl zaK ↑[pv 0,pv 1])) (zab (zaL (zaz (zmN (K:=K) rfl rfl) rfl T.sum PyProof.Rows.boot_sum ↑[(zb9 rfl (.of (osc:=(zai zgA)) (N:=↑15) (own:=["a","b"]) (fvn:=[]) (fv:=[]) rfl rfl ↑6) (zb4 (K:=K) rfl rfl T.zip ↑[pv 0,pv 1]) (λ_ _ _ _ _=>⟨(zbd (K:=K) (n:=2) rfl rfl (zaD (zal (i:=0) ↑186 rfl (↥0 rfl) ⇑7) (zaD (zal (i:=1) ↑186 rfl (↥0 rfl) ⇑7) zbL))),za7,(zav zbh (pv 0) (pv 1))⟩))])) zae)),.inl ?_⟩
 show L2.Run _ ↑231 _ (↑18 (zcR P0 P1))
 unfold zcR
 exact (zgp (m:=true) (Ev.any (m:=true) (zam (x:=(P0,P1)) (zac ↥2 (zac ⇑8 zah)) rfl (by show zbO P0 P1;exact hp.1) rfl)) (zaj (zaA (zui (xs:=(↑0 (λ(x11:↑9)=>(x11.1*x11.2)) (List.zip P0 P1))) (Ev.weak (K:=K) (EvO.ev (EvO.conv (zbJ (g:=(λ(x11:↑9)=>dI (x11.1*x11.2))) (zdT (m:=false) dI dI (xs:=P0) (ys:=P1) ↥2 ⇑8) ↥(zao ↑164) ⇑4 (λi12 x11 hx13=>have v13:=zbV hx13;(zaH (x:=x11.1) (y:=x11.2) ↑19 ⇑9 ↥(hp.2.2 _ (List.mem_of_getElem? ↑1))))) ↑12)))))))
theorem zmT (w t:Ji):zcR w t=Lat.dv w (Lat.vec t):=Lat.znd w t
noncomputable def zak (P0:Ji):Int :=
 (LetR (loopR (λ(s14:Unit) (x15:↑9)=>(((bif (!decide (x15.2=(0:Int))) then (Sum.inr x15.1)
 else ↑28)):(Unit) ⊕ Int)) () (zfH P0)) (λ(r20:Unit) =>
 ↑32) (λb=>b))
def za9 (P0:Ji):Prop:=True
def zcZ (K:W.Frag) (A:Adr):Sp:=Spv (ι:=Ji) (λx=>[dQ K (↑0 dI x)]) (λx=>za9 x) (λx=>↥[dI (zak x)])
theorem zgX:FnScope ["row","place","number"] ["row"] (zai ziA):=↥5
theorem zm3 (F:Fun K "head_of" "head_of" ziA f fd) (T:Txt K mg A) :FnOk P w K mg base ⇑1 1 f fd ["row"] (zcZ K A):=by
 refine F.okV zgX ⇑5 ↑61
 have hu:=hr.units
 replace hp:za9 P0:=hp
 unfold za9 at hp
 refine ⟨_,(zab (zbx ↑11 rfl (zig rfl rfl T.enumerate ↑[pv 0]) (zbd (K:=K) (n:=2) rfl rfl (zaD (zal (i:=1) zgX.nd rfl (↥0 rfl) (↥0 rfl)) (zaD (zal (i:=2) zgX.nd rfl (↥0 rfl) (↥0 rfl)) zbL))) (zab (zbQ (zaG zfn (pv 2) zag (zaQ _)) (zab (zaL (pv 1)) zae) zae) zae)) (zab (zaL ↑111) zae)),.inl ?_⟩
 show L2.Run _ ([⇑[dQ K ↑14],.no,.no]:L2.Ctx) _ (↑18 (zak P0))
 unfold zak
 exact (zc9 (s0:=()) (λ(s14:Unit)=>([⇑[dQ K ↑14],.no,.no]:L2.Ctx)) ↑18 (λb=>b) (λ(s14:Unit) (x15:↑9)=>(((bif (!decide (x15.2=(0:Int))) then (Sum.inr x15.1) else ↑28)):(Unit) ⊕ Int)) ↑68 ↑90 (ziD (m:=false) dI (xs:=P0) ↥2) ↑74 trivial (λi16 x15 s14 hx17 hI18=>have v17:=zdU hx17;⟨↑120,(zaW (b:=(!decide (x15.2=(0:Int)))) (zeg (λ(s14:Unit)=>([⇑[dQ K ↑14],.no,.no]:L2.Ctx)) ↑18) (zau (zdX (x:=x15.2) (y:=(0:Int)) ↑39 zaJ)) (λh19=>(zax (zaj (zaA ⇑9)))) (λh19=>(zat (zan (.eq (.no (.no .nil)))))))⟩) (λr20 hr20 hI=>(zaj (zaA ↑168))))
theorem zcB (r:Ji):zak r=(Lat.hd r:Int):=Lat.zvr r
noncomputable def zdt (P0:Int) (P1:Int):(T3 Int Int Int) :=
 (Let (whl (λ(s21:Int×Int×Int×Int)=>(!decide (s21.2.1=(0:Int)))) (λ(s21:Int×Int×Int×Int)=>(Let (s21.1/s21.2.1) (λ(v24:Int) =>
 (Let (s21.1-(v24*s21.2.1)) (λ(v25:Int) =>
 (Let s21.2.1 (λ(v26:Int) =>
 (Let (s21.2.2.1-(v24*s21.2.2.2)) (λ(v27:Int) =>
 (Let s21.2.2.2 (λ(v28:Int) =>
 (v26,v25,v28,v27)))))))))))) (P1.toNat) (P0,P1,(1:Int),(0:Int))) (λ(r29:Int×Int×Int×Int) =>
 (T3.mk r29.1 r29.2.2.1 ((r29.1-(r29.2.2.1*P0))/P1))))
def zfY (P0:Int) (P1:Int):Prop:=Lat.zlw P0 P1
def zku (K:W.Frag) (A:Adr):Sp:=Spv (ι:=Int×Int) (λx=>[dI x.1,dI x.2]) (λx=>zfY x.1 x.2) (λx=>↥[dT [dI ((zdt x.1 x.2).a),dI ((zdt x.1 x.2).b),dI ((zdt x.1 x.2).c)]])
theorem zcv:FnScope ["one","other","great","small","taken","later","part","left"] ↑15 (zai zj6):=↥5
theorem zni (F:Fun K "common" "common" zj6 f fd) (T:Txt K mg A) :FnOk P w K mg base ⇑1 1 f fd ↑15 (zku K A):=by
 refine F.okV zcv ⇑5 ↑10
 obtain ⟨P0,P1⟩:=x
 have hu:=hr.units
 replace hp:zfY P0 P1:=hp
 unfold zfY at hp
 refine ⟨_,(zab (zap (i:=2) zcv.nd rfl (↥0 rfl) (pv 0)) (zab (zap (i:=3) zcv.nd rfl (↥0 rfl) (pv 1)) (zab (zap (i:=4) zcv.nd rfl (↥0 rfl) zag) (zab (zap (i:=5) zcv.nd rfl (↥0 rfl) zag) (zab (zlU ↑11 (zaG zfn (pv 3) zag (zaQ _)) (zab (zap (i:=6) zcv.nd rfl (↥0 rfl) (zav zbo (pv 2) (pv 3))) (zab (zap (i:=7) zcv.nd rfl (↥0 rfl) (zav zeT (pv 2) (zav zbh (pv 6) (pv 3)))) (zab (zap (i:=2) zcv.nd rfl (↥0 rfl) (pv 3)) (zab (zap (i:=3) zcv.nd rfl (↥0 rfl) (pv 7)) (zab (zap (i:=7) zcv.nd rfl (↥0 rfl) (zav zeT (pv 4) (zav zbh (pv 6) (pv 5)))) (zab (zap (i:=4) zcv.nd rfl (↥0 rfl) (pv 5)) (zab (zap (i:=5) zcv.nd rfl (↥0 rfl) (pv 7)) zae)))))))) (zab (zaL (zhg ↑[pv 2,pv 4,zav zbo (zav zeT (pv 2) (zav zbh (pv 4) (pv 0))) (pv 1)])) zae)))))),.inl ?_⟩
 show L2.Run _ ([⇑[dI P0],⇑[dI P1],.no,.no,.no,.no,.no,.no]:L2.Ctx) _ ((λ(r:(T3 Int Int Int))=>Oc.rt true (dT [dI r.a,dI r.b,dI r.c])) (zdt P0 P1))
 unfold zdt
 exact (zba (m:=true) ↑19 (zba (m:=true) ⇑9 (zba (m:=true) zaJ (zba (m:=true) zaJ (zkL (s0:=(P0,P1,(1:Int),(0:Int))) ↑179 (λ(r:(T3 Int Int Int))=>Oc.rt true (dT [dI r.a,dI r.b,dI r.c])) (λ(s21:Int×Int×Int×Int)=>(!decide (s21.2.1=(0:Int)))) (λ(s21:Int×Int×Int×Int)=>(Let (s21.1/s21.2.1) (λ(v24:Int)=>(Let (s21.1-(v24*s21.2.1)) (λ(v25:Int)=>(Let s21.2.1 (λ(v26:Int)=>(Let (s21.2.2.1-(v24*s21.2.2.2)) (λ(v27:Int)=>(Let s21.2.2.2 (λ(v28:Int)=>(v26,v25,v28,v27)))))))))))) (λ(s21:Int×Int×Int×Int)=>Lat.GI P0 P1 s21) (λ(s21:Int×Int×Int×Int)=>(s21.2.1).toNat) (P1.toNat) (.eq (.eq ↑13)) ↥(Lat.GI.start hp.1 hp.2.1) ↥(↑4 _) (λs21 hI22=>⟨(zau (zdX (x:=s21.2.1) (y:=(0:Int)) ↑73 zaJ)),λhc23=>⟨↥(Lat.GI.step ↑1 ↑1),(zaq (m:=true) (x:=(s21.1/s21.2.1)) dI (λz=>Oc.nx (↑179 z)) (zaH (x:=s21.1) (y:=s21.2.1) ↑47 ↑73 ↥(Lat.GI.div ↑1 hp ↑1)) (λv24 hv24=>(zaq (m:=true) (x:=(s21.1-(v24*s21.2.1))) dI (λz=>Oc.nx (↑179 z)) (zaP (x:=s21.1) (y:=(v24*s21.2.1)) ↑47 (zaH (x:=v24) (y:=s21.2.1) ↑133 ↑73 ↥(Lat.GI.mul1 ↑1 hp ↑1 ↑1))) (λv25 hv25=>(zaq (m:=true) (x:=s21.2.1) dI (λz=>Oc.nx (↑179 z)) ↑73 (λv26 hv26=>(zba (m:=true) (Ev.any (m:=true) ↑75) (zaq (m:=true) (x:=(s21.2.2.1-(v24*s21.2.2.2))) dI (λz=>Oc.nx (↑179 z)) (zaP (x:=s21.2.2.1) (y:=(v24*s21.2.2.2)) ↑20 (zaH (x:=v24) (y:=s21.2.2.2) ↑133 ↑36 ↥(Lat.GI.mul2 ↑1 hp ↑1 ↑1))) (λv27 hv27=>(zaq (m:=true) (x:=s21.2.2.2) dI (λz=>Oc.nx (↑179 z)) ↑36 (λv28 hv28=>(zba (m:=true) (Ev.any (m:=true) ↑75) (zan (.eq (.eq (.eq ↑193))))))))))))))))⟩⟩) (λr29 hr29 hI hc=>(zaj (zaA (zhr (zac ↑47 (zac ↑20 (zac (zaH (x:=(r29.1-(r29.2.2.1*P0))) (y:=P1) (zaP (x:=r29.1) (y:=(r29.2.2.1*P0)) ↑47 (zaH (x:=r29.2.2.1) (y:=P0) ↑20 ↑19 ↥(Lat.GI.mul3 ↑1 hp))) ⇑9 ↥(Lat.zlw.div hp)) zah))) (by show 3≤sizeLine;decide))))))))))
theorem znX (a b:Int):zdt a b=Lat.cmn a b:=rfl
noncomputable def zbT (P0:Ji):Ji :=
 (bif (decide ((ixD P0 (zak P0))<(0:Int))) then (zaB P0 ↑16) else P0)
def zdg (P0:Ji):Prop:=P0.length≤1000∧Lat.hd P0<P0.length
def zjh (K:W.Frag) (A:Adr):Sp:=Spv (ι:=Ji) (λx=>[dL (↑0 dI x)]) (λx=>zdg x) (λx=>⇑[dL (↑0 dI (zbT x))])
theorem zm7:FnScope ["row"] ["row"] (zai ziI):=↥5
theorem zmH (F:Fun K "upright" "upright" ziI f fd) (T:Txt K mg A) (yab:Callee P w K mg base ⇑1 1 "head_of" ["row"] (zcZ K A)) (yae:Callee P w K mg base ⇑1 1 "times" ["some","many"] (zfO K A)):FnOk P w K mg base ⇑1 2 f fd ["row"] (zjh K A):=by
 refine F.okV zm7 ⇑5 ↑61
 have hu:=hr.units
 replace hp:zdg P0:=hp
 unfold zdg at hp
 refine ⟨_,(zab (zaL (zmh (zaG zj3 (zaR ↥7 (pv 0) ↑195 ↥4) zag (zaQ _)) (zaN yae ↑2 rfl zaK ↑[pv 0,zoL zkq zag]) (pv 0))) zae),.inl ?_⟩
 show L2.Run _ ([⇑[dL ↑14]]:L2.Ctx) _ ((λ(r:Ji)=>Oc.rt false (dL (↑0 dI r))) (zbT P0))
 unfold zbT
 exact (zaj (zaA (zsD lI (b:=(decide ((ixD P0 (zak P0))<(0:Int)))) (x:=(zaB P0 ↑16)) (y:=P0) (zau (zaP (x:=(ixD P0 (zak P0))) (y:=(0:Int)) (Ev.any (m:=false) (zbe (f:=dI) (xs:=P0) ↑26 (Ev.any (m:=true) (zam (x:=P0) (zac ↑26 zah) rfl (by show za9 P0;exact trivial) rfl)) (by have:=hp.2;rw [zcB];unfold InB;omega))) zaJ)) (λhb=>(EvO.ev (EvO.anyI (m:=true) (zcp (x:=(P0,↑16)) (zac ↑26 (zac (zoM (x:=(1:Int)) zaJ) zah)) rfl (by show zb1 P0 ↑16;exact ⟨hp.1,λ_ _=>.inr (.inl ⇑4)⟩) rfl)))) (λhb=>↥2))))
theorem zi4 (l:Ji):zbT l=Lat.upr l:=by unfold zbT;rw [zcB,Lat.zbc];rfl
theorem zmq (s x:Ji):Let (zak x) (λ(h:Int)=>Let ((ixD s h)/(ixD x h)) (λ(q:Int)=>Let (bif (!decide (q=(0:Int))) then (zfj s (zaB x q)) else s) (λ(y:Ji)=>y)))=Lat.ziX s x:=by
 unfold Let
 dsimp only
 rw [zcB,Lat.zbc,Lat.zbc];rfl
section
variable {n s a b i:Nat} {l t:Ji} {h q:Int} {steps:Jq}
theorem zsO (T:Lat.Sd n s t) (e:h=(Lat.hd t:Int)) (hl:l.length=n∧Lat.Bit b l):InB l.length h:=Lat.zmc T e hl.1
theorem zkG (T:Lat.Sd n s t) (e:h=(Lat.hd t:Int)):InB t.length h:=Lat.zmc T e T.len
theorem zti (p1:n≤1000) (p6:a+steps.length*(s+1)+s≤50000000) (hx:steps[i]?=some t) (T:∀ t∈steps,Lat.Sd n s t) (hl:l.length=n∧Lat.Bit (a+i*(s+1)) l) (e:h=(Lat.hd t:Int)) (eq:q=ixD l h/ixD t h):zb1 t q:=by
 have T1:=T t ↑169
 exact ⟨by rw [T1.len];exact p1,Lat.zq7 T1 e hl.2 eq (Lat.zn5 p6 (↑234).1)⟩
theorem zq3 (p1:n≤1000) (T:Lat.Sd n s t) (hl:l.length=n∧Lat.Bit b l):ze2 l (zaB t q):=⟨by rw [hl.1,show (zaB t q).length=t.length from Lat.zbw,T.len],by omega⟩
theorem zvG {sh:T3 Int Int Int} (e:h=(Lat.hd t:Int)) (T:Lat.Sd n s t) (h0:0<Lat.vec l (Lat.hd t)) (h1:Lat.vec l (Lat.hd t)<Lat.vec t (Lat.hd t)) (hs:sh=zdt (ixD t h) (ixD l h)):0<sh.a∧sh.a.natAbs≤2^8981∧sh.b.natAbs≤2^8980∧sh.c.natAbs≤2^17962:=by
 subst hs
 exact Lat.zqp (Lat.znF T e h0 h1)
theorem zr6 {x y:Int} (p1:n≤1000) (h1:t.length=n) (h2:l.length=n):zfa (zaB t x) (zaB l y):=⟨by rw [show (zaB t x).length=t.length from Lat.zbw,show (zaB l y).length=l.length from Lat.zbw,h1,h2],by rw [show (zaB t x).length=t.length from Lat.zbw,h1];exact p1⟩
theorem zpU {x y:Int} (p1:n≤1000) (h1:t.length=n) (h2:l.length=n):ze2 (zaB l x) (zaB t y):=⟨by rw [show (zaB t y).length=t.length from Lat.zbw,show (zaB l x).length=l.length from Lat.zbw,h1,h2],by rw [show (zaB l x).length=l.length from Lat.zbw,h2];exact p1⟩
theorem ztN (e:h=(Lat.hd t:Int)) (T:Lat.Sd n s t):(ixD t h).natAbs≤2^8980:=by subst e;rw [Lat.zbc];exact T.top
theorem zrT (e:h=(Lat.hd t:Int)) (T:Lat.Sd n s t) (h0:0<Lat.vec l (Lat.hd t)) (h1:Lat.vec l (Lat.hd t)<Lat.vec t (Lat.hd t)):(ixD l h).natAbs≤2^8980:=by subst e;rw [Lat.zbc];have:=T.top;omega
end
noncomputable def m_lowered (P0:Ji) (P1:Jq):Ji :=
 (Let (List.foldl (λ(s30:Ji) (x31:Ji)=>(Let (zak x31) (λ(hv35:Int) =>
 (Let ((ixD s30 hv35)/(ixD x31 hv35)) (λ(v36:Int) =>
 (Let (bif (!decide (v36=(0:Int))) then (zfj s30 (zaB x31 v36)) else s30) (λ(v38:Ji) =>
 v38))))))) P0 P1) (λ(r39:Ji) =>
 r39))
def zdi (P0:Ji) (P1:Jq):Prop:=Lat.LowP P0 P1
def zg3 (K:W.Frag) (A:Adr):Sp:=Spv (ι:=Ji×Jq) (λx=>[dQ K (↑0 dI x.1),dQ K (↑0 lI x.2)]) (λx=>zdi x.1 x.2) (λx=>↥[dL (↑0 dI (m_lowered x.1 x.2))])
theorem zed:FnScope ["row","steps","left","step","head","many"] ["row","steps"] (zai zhF):=↥5
theorem zmZ (F:Fun K "lowered" "lowered" zhF f fd) (T:Txt K mg A) (yab:Callee P w K mg base ⇑1 1 "head_of" ["row"] (zcZ K A)) (ybj:Callee P w K mg base ⇑1 2 "less" ↑15 (zly K A)) (yae:Callee P w K mg base ⇑1 1 "times" ["some","many"] (zfO K A)):FnOk P w K mg base ⇑1 3 f fd ["row","steps"] (zg3 K A):=by
 refine F.okV zed ⇑5 ↑10
 obtain ⟨P0,P1⟩:=x
 have hu:=hr.units
 replace hp:zdi P0 P1:=hp
 unfold zdi at hp
 obtain ⟨N0,A0,S0,p1,p2,p3,p4,p5,p6⟩:=hp
 refine ⟨_,(zab (zap (i:=2) zed.nd rfl (↥0 rfl) ↑160) (zab (zbx ↑11 rfl (zaM (K:=K) rfl (pv 1)) (zal (i:=3) zed.nd rfl (↥0 rfl) (↥0 rfl)) (zab (zap (i:=4) zed.nd rfl (↥0 rfl) (zaN yab ↑2 rfl zaK ↑[pv 3])) (zab (zap (i:=5) zed.nd rfl (↥0 rfl) (zav zbo (zaR ↥7 (pv 2) (pv 4) ↥4) (zaR ↥7 (pv 3) (pv 4) ↥4))) (zab (zbQ (zaG zfn (pv 5) zag (zaQ _)) (zab (zap (i:=2) zed.nd rfl (↥0 rfl) (zaN ybj ↑2 rfl zaK ↑[pv 2,zaN yae ↑2 rfl zaK ↑[pv 3,pv 5]])) zae) zae) zae)))) (zab (zaL (pv 2)) zae))),.inl ?_⟩
 show L2.Run _ ([⇑[dQ K ↑14],⇑[dQ K ↑81],.no,.no,.no,.no]:L2.Ctx) _ (↑60 (m_lowered P0 P1))
 unfold m_lowered
 exact (zba (m:=true) (EvO.ev (EvO.anyI (m:=false) (zfp ↥2))) (zbp (s0:=P0) ↑247 ↑60 (λ(s30:Ji) (x31:Ji)=>(Let (zak x31) (λ(hv35:Int)=>(Let ((ixD s30 hv35)/(ixD x31 hv35)) (λ(v36:Int)=>(Let (bif (!decide (v36=(0:Int))) then (zfj s30 (zaB x31 v36)) else s30) (λ(v38:Ji)=>v38))))))) (λ(i:Nat) (s30:Ji)=>s30.length=N0∧Lat.Bit (A0+i*(S0+1)) s30) (za6 (m:=false) lI (xs:=P1) ⇑8) ↑13 ↥(⟨p2,by simpa using p4⟩) (λi32 x31 s30 hx33 hI34=>have v33:=List.mem_of_getElem? hx33;⟨↥(Lat.zol (p5 _ ↑1) ↑1 (zmq _ _)),(zaq (m:=true) (x:=(zak x31)) dI (λz=>Oc.nx (↑247 z)) (Ev.any (m:=true) (zam (x:=x31) (zac ↑17 zah) rfl (by show za9 x31;exact trivial) rfl)) (λhv35 hhead35=>have hH:=(hhead35).trans (zcB _);(zaq (m:=true) (x:=((ixD s30 hv35)/(ixD x31 hv35))) dI (λz=>Oc.nx (↑247 z)) (zaH (x:=(ixD s30 hv35)) (y:=(ixD x31 hv35)) (Ev.any (m:=true) (zbe (f:=dI) (xs:=s30) ↑89 ↑20 ↥(zsO (p5 _ ↑1) hH ↑1))) (Ev.any (m:=false) (zbe (f:=dI) (xs:=x31) ↑17 ↑20 ↥(zkG (p5 _ ↑1) hH))) ↥(Lat.zny (p5 _ ↑1) hH)) (λv36 hv36=>(zcm (b:=(!decide (v36=(0:Int)))) (λbb=>([⇑[dQ K ↑14],⇑[dQ K ↑81],↥[dL (↑0 dI (bif bb then (zfj s30 (zaB x31 v36)) else s30))],⇑[dL (↑0 dI x31)],↥[dI hv35],↥[dI v36]]:L2.Ctx)) (zau (zdX (x:=v36) (y:=(0:Int)) ↑36 zaJ)) (λh37=>(zba (m:=true) (EvO.ev (EvO.anyI (m:=true) (zcp (x:=(s30,(zaB x31 v36))) (zac ↑107 (zac (Ev.weak (K:=K) (EvO.ev (EvO.anyI (m:=true) (zcp (x:=(x31,v36)) (zac ↑17 (zac ↑36 zah)) rfl (by show zb1 x31 v36;exact zti p1 p6 ↑1 p5 ↑1 hH ↑1) rfl)))) zah)) rfl (by show ze2 s30 (zaB x31 v36);exact zq3 p1 (p5 _ ↑1) ↑1) rfl))) (zan ↑13))) (λh37=>(zan ↑13)) (zcA (x:=(bif (!decide (v36=(0:Int))) then (zfj s30 (zaB x31 v36)) else s30)) (λv38=>([⇑[dQ K ↑14],⇑[dQ K ↑81],↥[dL (↑0 dI v38)],⇑[dL (↑0 dI x31)],↥[dI hv35],↥[dI v36]]:L2.Ctx)) (λz=>Oc.nx (↑247 z)) (λv38 hv38=>(zan ↑189))))))))⟩) (λr39 hr39 hI=>(zaj (zaA ↑31)))))
theorem zeQ (l:Ji) (ss:Jq):m_lowered l ss=Lat.low l ss:=by
 unfold m_lowered
 show List.foldl _ l ss=List.foldl Lat.ziX l ss
 congr 1
 funext s x
 exact zmq s x
noncomputable def zbF (P0:Ji) (P1:Ji):(Ji×Ji) :=
 (Let (zak P0) (λ(hv40:Int) =>
 (Let (zdt (ixD P0 hv40) (ixD P1 hv40)) (λ(v41:(T3 Int Int Int)) =>
 (Let (zeP (zaB P0 v41.b) (zaB P1 v41.c)) (λ(v42:Ji) =>
 (Let (zfj (zaB P1 ((ixD P0 hv40)/v41.a)) (zaB P0 ((ixD P1 hv40)/v41.a))) (λ(v43:Ji) =>
 (v42,v43)))))))))
def zfP (P0:Ji) (P1:Ji):Prop:=Lat.MrgP P0 P1
def zki (K:W.Frag) (A:Adr):Sp:=Spv (ι:=Ji×Ji) ↑229 (λx=>zfP x.1 x.2) (λx=>↥[dT [dL (↑0 dI ((zbF x.1 x.2).1)),dL (↑0 dI ((zbF x.1 x.2).2))]])
theorem zfy:FnScope ["step","row","head","shared","first","second"] ["step","row"] (zai zj4):=↥5
theorem zob (F:Fun K "merged" "merged" zj4 f fd) (T:Txt K mg A) (yb8:Callee P w K mg base ⇑1 1 "common" ↑15 (zku K A)) (yab:Callee P w K mg base ⇑1 1 "head_of" ["row"] (zcZ K A)) (ybj:Callee P w K mg base ⇑1 2 "less" ↑15 (zly K A)) (ybk:Callee P w K mg base ⇑1 2 "plus" ↑15 (zln K A)) (yae:Callee P w K mg base ⇑1 1 "times" ["some","many"] (zfO K A)):FnOk P w K mg base ⇑1 3 f fd ["step","row"] (zki K A):=by
 refine F.okV zfy ⇑5 ↑10
 obtain ⟨P0,P1⟩:=x
 have hu:=hr.units
 replace hp:zfP P0 P1:=hp
 unfold zfP at hp
 obtain ⟨N0,A0,S0,p1,p2,p3,p4,p5,p6,p7⟩:=hp
 refine ⟨_,(zab (zap (i:=2) zfy.nd rfl (↥0 rfl) ↑195) (zab (zap (i:=3) zfy.nd rfl (↥0 rfl) (zaN yb8 ↑2 rfl zaK ↑[(zaR ↥7 (pv 0) (pv 2) ↥4),(zaR ↥7 (pv 1) (pv 2) ↥4)])) (zab (zap (i:=4) zfy.nd rfl (↥0 rfl) (zaN ybk ↑2 rfl zaK ↑[(zaN yae ↑2 rfl zaK ↑[pv 0,(zaR ↑96 (pv 3) zag ↥4)]),(zaN yae ↑2 rfl zaK ↑[pv 1,(zaR ↑96 (pv 3) zag ↥4)])])) (zab (zap (i:=5) zfy.nd rfl (↥0 rfl) (zaN ybj ↑2 rfl zaK ↑[(zaN yae ↑2 rfl zaK ↑[pv 1,(zav zbo (zaR ↥7 (pv 0) (pv 2) ↥4) (zaR ↑96 (pv 3) zag ↥4))]),(zaN yae ↑2 rfl zaK ↑[pv 0,(zav zbo (zaR ↥7 (pv 1) (pv 2) ↥4) (zaR ↑96 (pv 3) zag ↥4))])])) (zab (zaL (zhg ↑[pv 4,pv 5])) zae))))),.inl ?_⟩
 show L2.Run _ ([⇑[dQ K ↑14],⇑[dQ K ↑7],.no,.no,.no,.no]:L2.Ctx) _ (↑220 (zbF P0 P1))
 unfold zbF
 exact (zaq (m:=true) (x:=(zak P0)) dI ↑220 (Ev.any (m:=true) (zam (x:=P0) (zac ↥2 zah) rfl (by show za9 P0;exact trivial) rfl)) (λhv40 hhead40=>have hH:=(hhead40).trans (zcB _);(zaq (m:=true) (x:=(zdt (ixD P0 hv40) (ixD P1 hv40))) (λ(p:(T3 Int Int Int))=>dT [dI p.a,dI p.b,dI p.c]) ↑220 (zam (x:=((ixD P0 hv40),(ixD P1 hv40))) (zac (Ev.any (m:=false) (zbe (f:=dI) (xs:=P0) ↥2 ↑47 ↥(zkG p2 hH))) (zac (Ev.any (m:=false) (zbe (f:=dI) (xs:=P1) ⇑8 ↑47 ↥(Lat.zmc p2 hH p3))) zah)) rfl (by show zfY (ixD P0 hv40) (ixD P1 hv40);exact Lat.znF p2 hH p5 p6) rfl) (λv41 hv41=>have hC:=zvG hH p2 p5 p6 hv41;(zaq (m:=true) (x:=(zeP (zaB P0 v41.b) (zaB P1 v41.c))) lI ↑220 (EvO.ev (EvO.anyI (m:=true) (zcp (x:=((zaB P0 v41.b),(zaB P1 v41.c))) (zac (Ev.weak (K:=K) (EvO.ev (EvO.anyI (m:=true) (zcp (x:=(P0,v41.b)) (zac ↥2 (zac (Ev.any (m:=true) (za1 ↑33 zaJ rfl)) zah)) rfl (by show zb1 P0 v41.b;exact ⟨by rw [p2.len];exact p1,Lat.zjK p2.bit hC.2.2.1 ⇑0 ↥1⟩) rfl)))) (zac (Ev.weak (K:=K) (EvO.ev (EvO.anyI (m:=true) (zcp (x:=(P1,v41.c)) (zac ⇑8 (zac (Ev.any (m:=true) (za1 ↑33 zaJ rfl)) zah)) rfl (by show zb1 P1 v41.c;exact ⟨by rw [p3];exact p1,Lat.zjK p4 hC.2.2.2 ⇑0 ↥1⟩) rfl)))) zah)) rfl (by show zfa (zaB P0 v41.b) (zaB P1 v41.c);exact zr6 p1 p2.len p3) rfl))) (λv42 hv42=>(zaq (m:=true) (x:=(zfj (zaB P1 ((ixD P0 hv40)/v41.a)) (zaB P0 ((ixD P1 hv40)/v41.a)))) lI ↑220 (EvO.ev (EvO.anyI (m:=true) (zcp (x:=((zaB P1 ((ixD P0 hv40)/v41.a)),(zaB P0 ((ixD P1 hv40)/v41.a)))) (zac (Ev.weak (K:=K) (EvO.ev (EvO.anyI (m:=true) (zcp (x:=(P1,((ixD P0 hv40)/v41.a))) (zac ⇑8 (zac (zaH (x:=(ixD P0 hv40)) (y:=v41.a) (Ev.any (m:=false) (zbe (f:=dI) (xs:=P0) ↥2 ↑47 ↥(zkG p2 hH))) (Ev.any (m:=true) (za1 ↑33 zaJ rfl)) ↥(Lat.ze5.of hC.1 hC.2.1 ↥1)) zah)) rfl (by show zb1 P1 ((ixD P0 hv40)/v41.a);exact ⟨by rw [p3];exact p1,Lat.zjK p4 (Lat.zg7 hC.1 (ztN hH p2)) ⇑0 ↥1⟩) rfl)))) (zac (Ev.weak (K:=K) (EvO.ev (EvO.anyI (m:=true) (zcp (x:=(P0,((ixD P1 hv40)/v41.a))) (zac ↥2 (zac (zaH (x:=(ixD P1 hv40)) (y:=v41.a) (Ev.any (m:=false) (zbe (f:=dI) (xs:=P1) ⇑8 ↑47 ↥(Lat.zmc p2 hH p3))) (Ev.any (m:=true) (za1 ↑33 zaJ rfl)) ↥(Lat.ze5.of hC.1 hC.2.1 ↥1)) zah)) rfl (by show zb1 P0 ((ixD P1 hv40)/v41.a);exact ⟨by rw [p2.len];exact p1,Lat.zjK p2.bit (Lat.zg7 hC.1 (zrT hH p2 p5 p6)) ⇑0 ↥1⟩) rfl)))) zah)) rfl (by show ze2 (zaB P1 ((ixD P0 hv40)/v41.a)) (zaB P0 ((ixD P1 hv40)/v41.a));exact zpU p1 p2.len p3) rfl))) (λv43 hv43=>(zaj (zaA (zhr (zac ↑105 (zac ↑94 zah)) ↑130)))))))))))
theorem ziq (s l:Ji):zbF s l=Lat.mrg s l:=by
 unfold zbF Let
 dsimp only
 rw [zcB,Lat.zbc,Lat.zbc,znX];rfl
section
variable {n s a i:Nat} {row:Ji} {steps:Jq} {st:Lat.TS2} {x:Int×Ji}
theorem ztT (p1:n≤1000) (p2:Lat.Ech n 0 steps) (p3:∀ t∈steps,Lat.Sd n s t) (p4:row.length=n) (p5:Lat.Bit a row) (p6:steps.length≤100) (p7:a+(steps.length+2)*↑71+s≤40000000):Lat.LowP row steps:=by
 refine ⟨n,a,s,p1,p4,by omega,p5,p3,?_⟩
 have e2:steps.length*(s+1)≤(steps.length+1)*(s+9000):=Nat.mul_le_mul ⇑0 ⇑0
 rw [Nat.add_mul steps.length 2] at p7
 omega
theorem zqM (p1:n≤1000) (I:Lat.TI steps n a s i st) (T:Lat.Sd n s x.2) (h:decide (zak st.2<zak x.2)=true):zdg st.2:=by
 rw [zcB,zcB] at h
 simp only [decide_eq_true_eq] at h
 have:=T.hd;have:=I.len
 exact ↑56
theorem zqz (p1:n≤1000) (I:Lat.TI steps n a s i st) (h:decide (zak st.2<((st.2.length:Nat):Int))=true):zdg st.2:=by
 rw [zcB] at h
 simp only [decide_eq_true_eq] at h
 have:=I.len
 exact ↑56
theorem zsC (h:decide (zak st.2=zak x.2)=true):Lat.hd st.2=Lat.hd x.2:=by
 rw [zcB,zcB] at h
 simp only [decide_eq_true_eq] at h
 omega
theorem zt4 (I:Lat.TI steps n a s i st) (hx:i<steps.length∧x.1=(i:Int)∧steps[i]?=some x.2) (p6:steps.length≤100):st.1.length<PySem.sizeLine:=Nat.lt_of_le_of_lt (show _≤1000 by have:=I.g;omega) ↥1
theorem ztl (I:Lat.TI steps n a s (zfH steps).length st) (p6:steps.length≤100):st.1.length<PySem.sizeLine:=Nat.lt_of_le_of_lt (show _≤1000 by have:=I.g;rw [ziH] at this;omega) ↥1
theorem zrH {y:Ji} (I:Lat.TI steps n a s i st) (hx:i<steps.length∧x.1=(i:Int)∧steps[i]?=some x.2) (p6:steps.length≤100):st.1.length+[y].length≤PySem.sizeLine:=by
 apply zao
 have:=I.g
 simp;omega
theorem zrk {lo hi:Option Int}:(zbI steps lo hi).length≤steps.length:=by
 unfold zbI;rw [List.length_take,List.length_drop];omega
theorem zqZ {y:Ji} {lo hi:Option Int} (I:Lat.TI steps n a s i st) (hx:i<steps.length∧x.1=(i:Int)∧steps[i]?=some x.2) (p6:steps.length≤100):(st.1++[y]).length+(zbI steps lo hi).length≤PySem.sizeLine:=by
 apply zao
 have:=I.g
 have:=zrk (steps:=steps) (lo:=lo) (hi:=hi)
 simp;omega
end
noncomputable def m_taken_in (P0:Jq) (P1:Ji):Jq :=
 (Let (m_lowered P1 P0) (λ(v44:Ji) =>
 (LetR (loopR (λ(s54:Jq×Ji) (x55:(Int×Ji))=>(((bif (decide ((zak s54.2)<(zak x55.2))) then (Sum.inr ((s54.1++[(zbT s54.2)])++(zbI P0 (some x55.1) none)))
 else (Let (bif ↑236 then (s54.1++[(↑142).1]) else (s54.1++[x55.2])) (λ(v61:Jq) =>
 (Let ↑244 (λ(v62:Ji) =>
 (Sum.inl (v61,v62)))))))):(Jq×Ji) ⊕ Jq)) ([],v44) (zfH P0)) (λ(r63:Jq×Ji) =>
 (Let (bif (decide ((zak r63.2)<((r63.2.length:Nat):Int))) then (r63.1++[(zbT r63.2)]) else r63.1) (λ(v65:Jq) =>
 v65))) (λb=>b))))
def zet (P0:Jq) (P1:Ji):Prop:=Lat.TinP P0 P1
def zhQ (K:W.Frag) (A:Adr):Sp:=Spv (ι:=Jq×Ji) (λx=>[dQ K (↑0 lI x.1),dQ K (↑0 dI x.2)]) (λx=>zet x.1 x.2) (λx=>⇑[dL (↑0 lI (m_taken_in x.1 x.2))])
theorem zdh:FnScope ["steps","row","loose","grown","place","step","pair"] ["steps","row"] (zai zha):=↥5
theorem zlK (F:Fun K "taken_in" "taken_in" zha f fd) (T:Txt K mg A) (yab:Callee P w K mg base ⇑1 1 "head_of" ["row"] (zcZ K A)) (yat:Callee P w K mg base ⇑1 3 "lowered" ["row","steps"] (zg3 K A)) (yb9:Callee P w K mg base ⇑1 3 "merged" ["step","row"] (zki K A)) (ya9:Callee P w K mg base ⇑1 2 "upright" ["row"] (zjh K A)):FnOk P w K mg base ⇑1 4 f fd ["steps","row"] (zhQ K A):=by
 refine F.okV zdh ⇑5 ↑10
 obtain ⟨P0,P1⟩:=x
 have hu:=hr.units
 replace hp:zet P0 P1:=hp
 unfold zet at hp
 obtain ⟨N0,A0,S0,p1,p2,p3,p4,p5,p6,p7⟩:=hp
 refine ⟨_,(zab (zap (i:=2) zdh.nd rfl (↥0 rfl) (zaN yat ↑2 rfl zaK ↑[pv 1,pv 0])) (zab (zap (i:=3) zdh.nd rfl (↥0 rfl) (zca zem)) (zab (zbx ↑11 rfl (zig rfl rfl T.enumerate ↑[pv 0]) (zbd (K:=K) (n:=2) rfl rfl (zaD (zal (i:=4) zdh.nd rfl (↥0 rfl) (↥0 rfl)) (zaD (zal (i:=5) zdh.nd rfl (↥0 rfl) (↥0 rfl)) zbL))) (zab (zbQ (zaG zj3 (zaN yab ↑2 rfl zaK ↑[pv 2]) (zaN yab ↑2 rfl zaK ↑[pv 5]) (zaQ _)) (zab (zaL (zav zeR (zav zeR (pv 3) (zca ↑[zaN ya9 ↑2 rfl zaK ↑[pv 2]])) (zch ↑66 (pv 0) (zcM (pv 4)) zdI))) zae) zae) (zab (zbQ (zaG zfg (zaN yab ↑2 rfl zaK ↑[pv 2]) (zaN yab ↑2 rfl zaK ↑[pv 5]) (zaQ _)) (zab (zap (i:=6) zdh.nd rfl (↥0 rfl) (zaN yb9 ↑2 rfl zaK ↑[pv 5,pv 2])) (zab (zdv (zcr (K:=K) rfl (pv 3) ↑[↑200])) (zab (zap (i:=2) zdh.nd rfl (↥0 rfl) (zaN yat ↑2 rfl zaK ↑[↑200,(zch ↑66 (pv 0) (zcM (zav zbX (pv 4) zag)) zdI)])) zae))) (zab (zdv (zcr (K:=K) rfl (pv 3) ↑[pv 5])) zae)) zae))) (zab (zbQ (zaG zj3 (zaN yab ↑2 rfl zaK ↑[pv 2]) (zaz ↑85 rfl T.len PySem.boot_len ↑[pv 2]) (zaQ _)) (zab (zdv (zcr (K:=K) rfl (pv 3) ↑[zaN ya9 ↑2 rfl zaK ↑[pv 2]])) zae) zae) (zab (zaL (pv 3)) zae))))),.inl ?_⟩
 show L2.Run _ ([⇑[dQ K ↥6],⇑[dQ K ↑7],.no,.no,.no,.no,.no]:L2.Ctx) _ (↑163 (m_taken_in P0 P1))
 unfold m_taken_in
 exact (zaq (m:=true) (x:=(m_lowered P1 P0)) lI ↑163 (zam (x:=(P1,P0)) (zac ⇑8 (zac ↥2 zah)) rfl (by show zdi P1 P0;exact ztT p1 p2 p3 p4 p5 p6 p7) rfl) (λv44 hv44=>have hL:=(hv44).trans (zeQ _ _);(zeu (m:=true) (ds:=↑0 lI []) ↑139 (zc9 (s0:=([],v44)) ↑246 ↑163 (λb=>b) (λ(s54:Jq×Ji) (x55:(Int×Ji))=>(((bif (decide ((zak s54.2)<(zak x55.2))) then (Sum.inr ((s54.1++[(zbT s54.2)])++(zbI P0 (some x55.1) none))) else (Let (bif ↑236 then (s54.1++[(↑142).1]) else (s54.1++[x55.2])) (λ(v61:Jq)=>(Let ↑244 (λ(v62:Ji)=>(Sum.inl (v61,v62)))))))):(Jq×Ji) ⊕ Jq)) (λ(i:Nat) (s54:Jq×Ji)=>Lat.TI P0 N0 A0 S0 i s54) ↑90 (ziD (m:=false) lI (xs:=P0) ↥2) (.eq (.eq (.eq (.oldL ↑74)))) (by rw [hL];exact Lat.TI.start p2 p3 p4 p5) (λi56 x55 s54 hx57 hI58=>have v57:=zdU hx57;⟨(by intro z hz;simp only [zcB,zi4,ziq,zeQ] at hz;exact Lat.TI.step ↑1 p2 p3 ↑1 hz),(zaW (b:=(decide ((zak s54.2)<(zak x55.2)))) (zeg ↑246 ↑163) (zau (zaP (x:=(zak s54.2)) (y:=(zak x55.2)) (Ev.any (m:=true) (zam (x:=s54.2) (zac ↑107 zah) rfl (by show za9 s54.2;exact trivial) rfl)) (Ev.any (m:=true) (zam (x:=x55.2) (zac ↑63 zah) rfl (by show za9 x55.2;exact trivial) rfl)))) (λh59=>(zax (zcw (i:=3) rfl (zaj (zaA (EvO.ev (zdG (f:=lI) (xs:=(s54.1++[(zbT s54.2)])) (ys:=(zbI P0 (some x55.1) none)) (EvO.ev (zdG (f:=lI) (xs:=s54.1) (ys:=[(zbT s54.2)]) ↑33 (EvO.ev (zdm (zac (zam (x:=s54.2) (zac (Ev.old ↑31) zah) rfl (by show zdg s54.2;first | exact zqM p1 ↑1 (p3 _ (Lat.TI.mem ↑1).1) ↑1 | exact zqz p1 ↑1 ↑1) rfl) zah) ↑238)) ↥(zrH ↑1 ↑1 p6))) (EvO.ev (zdj (f:=lI) (xs:=P0) ↥2 (zb5 ↑44) zcU)) ↥(zqZ ↑1 ↑1 p6)))))))) (λh59=>(zat (zcm (b:=↑236) (λbb=>([⇑[dQ K ↥6],⇑[dQ K ↑7],↥[dL (↑0 dI (bif bb then (m_lowered ((↑142).2) (zbI P0 (some (x55.1+(1:Int))) none)) else s54.2))],.ow false (↑0 lI (bif bb then (s54.1++[(↑142).1]) else (s54.1++[x55.2]))),⇑[dI x55.1],⇑[dL (↑0 dI x55.2)],.no]:L2.Ctx)) (zau (zdA (x:=(zak s54.2)) (y:=(zak x55.2)) (Ev.any (m:=true) (zam (x:=s54.2) (zac ↑107 zah) rfl (by show za9 s54.2;exact trivial) rfl)) (Ev.any (m:=true) (zam (x:=x55.2) (zac ↑63 zah) rfl (by show za9 x55.2;exact trivial) rfl)))) (λh60=>(zba (m:=true) (zam (x:=(x55.2,s54.2)) (zac ↑63 (zac ↑107 zah)) rfl (by show zfP x55.2 s54.2;exact Lat.TI.mrg ↑1 p1 p3 ↑1 (zsC ↑1) p7) rfl) (zcj (f:=lI) (xs:=s54.1) (x:=(↑142).1) rfl (Ev.old (za1 ↑40 zaJ rfl)) ↥(zt4 ↑1 ↑1 p6) (zba (m:=true) (zam (x:=((↑142).2,(zbI P0 (some (x55.1+(1:Int))) none))) (zac (Ev.old (Ev.weak (K:=K) (za1 ↑40 zaJ rfl))) (zac (Ev.weak (K:=K) (EvO.ev (zdj (f:=lI) (xs:=P0) ↥2 (zb5 (zaP (x:=x55.1) (y:=(1:Int)) ↑44 zaJ)) zcU))) zah)) rfl (by show zdi ((↑142).2) (zbI P0 (some (x55.1+(1:Int))) none);unfold zdi;rw [ziq];exact Lat.TI.low ↑1 p1 p6 p3 ↑1 (zsC ↑1) p7) rfl) (zan (.eq (.eq (.eq (.eq ↑134))))))))) (λh60=>(zcj (f:=lI) (xs:=s54.1) (x:=x55.2) rfl ↑94 ↥(zt4 ↑1 ↑1 p6) (zan (.eq ↑13)))) (zcA (x:=(bif ↑236 then (s54.1++[(↑142).1]) else (s54.1++[x55.2]))) (λv61=>([⇑[dQ K ↥6],⇑[dQ K ↑7],↥[dL (↑0 dI ↑244)],.ow false (↑0 lI v61),⇑[dI x55.1],⇑[dL (↑0 dI x55.2)],.no]:L2.Ctx)) (zeg ↑246 ↑163) (λv61 hv61=>(zcA (x:=↑244) (λv62=>([⇑[dQ K ↥6],⇑[dQ K ↑7],↥[dL (↑0 dI v62)],.ow false (↑0 lI v61),⇑[dI x55.1],⇑[dL (↑0 dI x55.2)],.no]:L2.Ctx)) (zeg ↑246 ↑163) (λv62 hv62=>(zan (.eq (.eq (.eq (.eq (.no (.no (.eq .nil))))))))))))))))⟩) (λr63 hr63 hI=>(zcm (b:=(decide ((zak r63.2)<((r63.2.length:Nat):Int)))) (λbb=>([⇑[dQ K ↥6],⇑[dQ K ↑7],↥[dL (↑0 dI r63.2)],.ow false (↑0 lI (bif bb then (r63.1++[(zbT r63.2)]) else r63.1)),.no,.no,.no]:L2.Ctx)) (zau (zaP (x:=(zak r63.2)) (y:=((r63.2.length:Nat):Int)) (Ev.any (m:=true) (zam (x:=r63.2) (zac ↑107 zah) rfl (by show za9 r63.2;exact trivial) rfl)) (zaV (f:=dI) (xs:=r63.2) ↑107))) (λh64=>(zcj (f:=lI) (xs:=r63.1) (x:=(zbT r63.2)) rfl (zam (x:=r63.2) (zac (Ev.old ↑31) zah) rfl (by show zdg r63.2;first | exact zqM p1 ↑1 (p3 _ (Lat.TI.mem ↑1).1) ↑1 | exact zqz p1 ↑1 ↑1) rfl) ↥(ztl ↑1 p6) (zan (.eq ↑13)))) (λh64=>(zan (.eq ↑13))) (zcA (x:=(bif (decide ((zak r63.2)<((r63.2.length:Nat):Int))) then (r63.1++[(zbT r63.2)]) else r63.1)) (λv65=>([⇑[dQ K ↥6],⇑[dQ K ↑7],↥[dL (↑0 dI r63.2)],.ow false (↑0 lI v65),.no,.no,.no]:L2.Ctx)) ↑163 (λv65 hv65=>(zcw (i:=3) rfl (zaj (zaA ↑33)))))))))))
theorem zjO (ss:Jq) (l:Ji):m_taken_in ss l=Lat.tin Lat.MG ss (Lat.low l ss):=by
 unfold m_taken_in
 simp only [zcB,zi4,ziq,zeQ]
 exact Lat.zw0 ss _
theorem zsa (x:Ji) (fl:Jq):Let ([(m_lowered x fl)]++fl) (λ(y:Jq)=>y)=[Lat.low x fl]++fl:=by unfold Let;rw [zeQ]
theorem ztO {steps fl:Jq} {i:Nat} {x y:Ji} (h:Lat.zrL steps) (hx:steps.reverse[i]?=some x) (e:fl=Lat.stl (steps.drop (steps.length-i))):[y].length+fl.length≤PySem.sizeLine:=by
 obtain ⟨j,h1,_⟩:=Lat.zlC hx
 have:=Lat.zuh h ⇑0 e
 apply zao
 simp;omega
noncomputable def zcQ (P0:Jq):Jq :=
 (Let (List.foldl (λ(s66:Jq) (x67:Ji)=>(Let ([(m_lowered x67 s66)]++s66) (λ(v71:Jq) =>
 v71))) [] (List.reverse P0)) (λ(r72:Jq) =>
 r72))
def zef (P0:Jq):Prop:=Lat.zrL P0
def zi0 (K:W.Frag) (A:Adr):Sp:=Spv (ι:=Jq) (λx=>[dQ K (↑0 lI x)]) (λx=>zef x) (λx=>↥[dL (↑0 lI (zcQ x))])
theorem zfV:FnScope ["steps","flat","step"] ["steps"] (zai zhN):=↥5
theorem zmU (F:Fun K "settled" "settled" zhN f fd) (T:Txt K mg A) (yat:Callee P w K mg base ⇑1 3 "lowered" ["row","steps"] (zg3 K A)):FnOk P w K mg base ⇑1 4 f fd ["steps"] (zi0 K A):=by
 refine F.okV zfV ⇑5 ↑61
 have hu:=hr.units
 replace hp:zef P0:=hp
 unfold zef at hp
 refine ⟨_,(zab (zap (i:=1) zfV.nd rfl (↥0 rfl) (zca zem)) (zab (zbx ↑11 rfl (zqw rfl rfl T.reversed ↑[pv 0]) (zal (i:=2) zfV.nd rfl (↥0 rfl) (↥0 rfl)) (zab (zap (i:=1) zfV.nd rfl (↥0 rfl) (zav zeR (zca ↑[zaN yat ↑2 rfl zaK ↑[pv 2,pv 1]]) (pv 1))) zae)) (zab (zaL (pv 1)) zae))),.inl ?_⟩
 show L2.Run _ ([⇑[dQ K ↥6],.no,.no]:L2.Ctx) _ (↑69 (zcQ P0))
 unfold zcQ
 exact (zba (m:=true) (EvO.ev ↑139) (zbp (s0:=[]) (λ(s66:Jq)=>([⇑[dQ K ↥6],↥[dL (↑0 lI s66)],.no]:L2.Ctx)) ↑69 (λ(s66:Jq) (x67:Ji)=>(Let ([(m_lowered x67 s66)]++s66) (λ(v71:Jq)=>v71))) (λ(i:Nat) (s66:Jq)=>s66=Lat.stl (P0.drop (P0.length-i))) (zqS (m:=false) lI (xs:=P0) ↥2) ↑74 (by simp [Lat.stl]) (λi68 x67 s66 hx69 hI70=>have v69:=List.mem_of_getElem? hx69;⟨↥(Lat.zq4 ↑1 ↑1 (zsa _ _)),(zaq (m:=true) (x:=([(m_lowered x67 s66)]++s66)) ↑114 (λz=>Oc.nx ((λ(s66:Jq)=>([⇑[dQ K ↥6],↥[dL (↑0 lI s66)],.no]:L2.Ctx)) z)) (EvO.ev (zdG (f:=lI) (xs:=[(m_lowered x67 s66)]) (ys:=s66) (EvO.ev (zdm (zac (zam (x:=(x67,s66)) (zac ↑89 (zac (Ev.old ↑171) zah)) rfl (by show zdi x67 s66;exact Lat.zr4 hp ↑1 ↑1) rfl) zah) ↑238)) ⇑8 ↥(ztO hp ↑1 ↑1))) (λv71 hv71=>(zan ↑134)))⟩) (λr72 hr72 hI=>(zaj (zaA ⇑8)))))
theorem ziZ (ss:Jq):zcQ ss=Lat.stl ss:=by
 unfold zcQ
 simp only [zeQ]
 exact Lat.zwj ss
theorem zrh {rows ss:Jq} {r:Ji} {i:Nat} (hr:rows[i]?=some r) (e:ss=Lat.clm Lat.MG ↑80):Let (zcQ (m_taken_in ss r)) (λ(y:Jq)=>y)=Lat.clm Lat.MG (rows.take (i+1)):=by
 unfold Let
 rw [ziZ,zjO,Lat.zhC hr,e]
noncomputable def zbq (P0:Jq):Jq :=
 (Let (List.foldl (λ(s73:Jq) (x74:Ji)=>(Let (zcQ (m_taken_in s73 x74)) (λ(v78:Jq) =>
 v78))) [] P0) (λ(r79:Jq) =>
 r79))
def zdK (P0:Jq):Prop:=Lat.zot P0
def zfN (K:W.Frag) (A:Adr):Sp:=Spv (ι:=Jq) (λx=>[dQ K (↑0 lI x)]) (λx=>zdK x) (λx=>↥[dL (↑0 lI (zbq x))])
theorem zfQ:FnScope ["rows","steps","row"] ["rows"] (zai zh7):=↥5
theorem zmX (F:Fun K "climbed" "climbed" zh7 f fd) (T:Txt K mg A) (ybG:Callee P w K mg base ⇑1 4 "settled" ["steps"] (zi0 K A)) (ybq:Callee P w K mg base ⇑1 4 "taken_in" ["steps","row"] (zhQ K A)):FnOk P w K mg base ⇑1 5 f fd ["rows"] (zfN K A):=by
 refine F.okV zfQ ⇑5 ↑61
 have hu:=hr.units
 replace hp:zdK P0:=hp
 unfold zdK at hp
 refine ⟨_,(zab (zap (i:=1) zfQ.nd rfl (↥0 rfl) (zca zem)) (zab (zbx ↑11 rfl ↑152 (zal (i:=2) zfQ.nd rfl (↥0 rfl) (↥0 rfl)) (zab (zap (i:=1) zfQ.nd rfl (↥0 rfl) (zaN ybG ↑2 rfl zaK ↑[zaN ybq ↑2 rfl zaK ↑[pv 1,pv 2]])) zae)) (zab (zaL (pv 1)) zae))),.inl ?_⟩
 show L2.Run _ ([⇑[dQ K ↥6],.no,.no]:L2.Ctx) _ (↑69 (zbq P0))
 unfold zbq
 exact (zba (m:=true) (EvO.ev ↑139) (zbp (s0:=[]) (λ(s73:Jq)=>([⇑[dQ K ↥6],↥[dL (↑0 lI s73)],.no]:L2.Ctx)) ↑69 (λ(s73:Jq) (x74:Ji)=>(Let (zcQ (m_taken_in s73 x74)) (λ(v78:Jq)=>v78))) (λ(i:Nat) (s73:Jq)=>s73=Lat.clm Lat.MG (P0.take i)) (za6 (m:=false) lI (xs:=P0) ↥2) ↑74 (by rfl) (λi75 x74 s73 hx76 hI77=>have v76:=List.mem_of_getElem? hx76;⟨↥(zrh ↑1 ↑1),(zaq (m:=true) (x:=(zcQ (m_taken_in s73 x74))) ↑114 (λz=>Oc.nx ((λ(s73:Jq)=>([⇑[dQ K ↥6],↥[dL (↑0 lI s73)],.no]:L2.Ctx)) z)) (zam (x:=(m_taken_in s73 x74)) (zac (Ev.weak (K:=K) (zam (x:=(s73,x74)) (zac (Ev.old ↑171) (zac ↑89 zah)) rfl (by show zet s73 x74;exact (Lat.zot.low hp ↑1 ↑1).2.1) rfl)) zah) rfl (by show zef (m_taken_in s73 x74);unfold zef;rw [zjO];exact (Lat.zot.low hp ↑1 ↑1).2.2) rfl) (λv78 hv78=>(zan ↑134)))⟩) (λr79 hr79 hI=>(zaj (zaA ⇑8)))))
theorem zhb (rows:Jq):zbq rows=Lat.clm Lat.MG rows:=by
 unfold zbq Lat.clm
 simp only [ziZ,zjO]
 rfl
theorem zoB {s:Jq} {i:Nat} {y:Ji} (h:s.length≤i):(s++[y]).length≤i+1:=by simp;omega
theorem zu3 {rows:Jq} {i:Nat} {p:Int×Ji} {c:Ji} (q:i<rows.length∧p.1=(i:Int)∧rows[i]?=some p.2) (e:c=zcI ↑99 [(0:Int)]):InB c.length p.1:=by
 rw [e,Lat.zce];unfold InB;omega
theorem zrM {rows:Jq}:List.foldl (λ(s:Jq) (x:Int×Ji)=>Let (zcW (zcI ↑99 [(0:Int)]) x.1 (1:Int)) (λ(c:Ji)=>s++[x.2++c])) [] (zfH rows)=Lat.mark rows:=by
 show List.foldl (λ(s:Jq) (x:Int×Ji)=>s++[x.2++Lat.ze0 rows.length x.1]) [] (zfH rows)=_
 rw [Lat.zfW]
 rfl
theorem zpJ {l:Ji} {n:Nat}:zbI l none (some (n:Int))=l.take n:=by
 unfold zbI
 rw [HT.sIx_nat,HT.sIx_none]
 show (l.drop 0).take (min n l.length-0)=_
 rw [List.drop_zero,Nat.sub_zero]
 by_cases h:n≤l.length
 ·rw [Nat.min_eq_left h]
 ·rw [Nat.min_eq_right ⇑0,List.take_of_length_le ⇑0,List.take_of_length_le ⇑0]
def MkQ (rows:Jq):Prop:=rows.length≤31∧∀ r∈rows,r.length≤900
def TrQ (rows:Jq):Prop:=MkQ rows∧Lat.zot (Lat.mark rows)
theorem zus {i:Nat} {rows:Jq} {p:Int×Ji} {c c0:Ji} {y:Int} (h:MkQ rows) (q:i<rows.length∧p.1=(i:Int)∧rows[i]?=some p.2) (e0:c0=zcI ↑99 [(0:Int)]) (e:c=zcW c0 p.1 y):p.2.length+c.length≤PySem.sizeLine:=by
 have h1:=h.2 _ (List.mem_of_getElem? q.2.2)
 have h2:=h.1
 rw [e,zex,e0,Lat.zce]
 exact zao ⇑0
theorem zvw {i:Nat} {rows s:Jq} {p:Int×Ji} (p1:MkQ rows) (h:s.length≤i) (q:i<rows.length∧p.1=(i:Int)∧rows[i]?=some p.2):s.length<PySem.sizeLine:=Nat.lt_of_le_of_lt (show _≤1000 by have:=p1.1;omega) ↥1
theorem zsE {rows ms:Jq} (h:Lat.zot (Lat.mark rows)) (e:ms=List.foldl (λ(s:Jq) (x:Int×Ji)=>Let (zcW (zcI ↑99 [(0:Int)]) x.1 (1:Int)) (λ(c:Ji)=>s++[x.2++c])) [] (zfH rows)):Lat.zot ms:=by
 rw [e,zrM];exact h
theorem zrq {rows:Jq} (h:Lat.zot rows):(Lat.clm Lat.MG rows).length≤31:=by
 rcases h with ⟨n,b,R,p1,p2,p3⟩ | ⟨n,s,h⟩
 ·have:=Lat.zrp (i:=rows.length) p1 p2 p3
  rwa [List.take_length] at this
 ·have:=h.len (i:=rows.length)
  rw [List.take_length] at this
  have:=h.1
  omega
def PdP (rows:Jq) (m:Int):Prop:=(0≤m∧m≤8)∧(∀ r∈rows,r.length≤8)∧rows.length≤1000
theorem zwo {rows:Jq} {m:Int} {r:Ji} (h:PdP rows m) (hr:r∈rows):r.length+(zcI m [(0:Int)]).length≤PySem.sizeLine:=by
 obtain ⟨k,rfl⟩:∃ k:Nat,m=(k:Int):=⟨m.toNat,by have:=h.1;omega⟩
 have:=h.1;have:=h.2.1 r hr
 rw [Lat.zce];exact zao ⇑0
noncomputable def zcc (P0:Jq):Jq :=
 (Let (List.foldl (λ(s80:Jq) (x81:(Int×Ji))=>(Let ↑172 (λ(v85:Ji) =>
 (Let (zcW v85 x81.1 (1:Int)) (λ(v86:Ji) =>
 (s80++[(x81.2++v86)])))))) [] (zfH P0)) (λ(r87:Jq) =>
 r87))
def zeS (P0:Jq):Prop:=MkQ P0
def zij (K:W.Frag) (A:Adr):Sp:=Spv (ι:=Jq) (λx=>[dQ K (↑0 lI x)]) (λx=>zeS x) (λx=>↥[dL (↑0 lI (zcc x))])
theorem zfq:FnScope ["rows","longer","place","row","counts"] ["rows"] (zai zjV):=↥5
theorem zoY (F:Fun K "marked" "marked" zjV f fd) (T:Txt K mg A) :FnOk P w K mg base ⇑1 1 f fd ["rows"] (zij K A):=by
 refine F.okV zfq ⇑5 ↑61
 have hu:=hr.units
 replace hp:zeS P0:=hp
 unfold zeS at hp
 refine ⟨_,(zab (zap (i:=1) zfq.nd rfl (↥0 rfl) (zca zem)) (zab (zbx ↑11 rfl (zig rfl rfl T.enumerate ↑[pv 0]) (zbd (K:=K) (n:=2) rfl rfl (zaD (zal (i:=2) zfq.nd rfl (↥0 rfl) (↥0 rfl)) (zaD (zal (i:=3) zfq.nd rfl (↥0 rfl) (↥0 rfl)) zbL))) (zab (zap (i:=4) zfq.nd rfl (↥0 rfl) (zav zhf ↑123 ↑111)) (zab (zhj zag (zi2 (pv 4) (pv 2) zfM)) (zab (zdv (zcr (K:=K) rfl (pv 1) ↑[zav zeR (pv 3) (pv 4)])) zae)))) (zab (zaL (pv 1)) zae))),.inl ?_⟩
 show L2.Run _ ([⇑[dQ K ↥6],.no,.no,.no,.no]:L2.Ctx) _ (↑69 (zcc P0))
 unfold zcc
 exact (zeu (m:=true) (ds:=↑0 lI []) ↑139 (zbp (s0:=[]) (λ(s80:Jq)=>([⇑[dQ K ↥6],.ow true (↑0 lI s80),.no,.no,.no]:L2.Ctx)) ↑69 (λ(s80:Jq) (x81:(Int×Ji))=>(Let ↑172 (λ(v85:Ji)=>(Let (zcW v85 x81.1 (1:Int)) (λ(v86:Ji)=>(s80++[(x81.2++v86)])))))) (λ(i:Nat) (s80:Jq)=>s80.length≤i) (ziD (m:=false) lI (xs:=P0) ↥2) (.eq (.eq ↑74)) ↥(↑4 0) (λi82 x81 s80 hx83 hI84=>have v83:=zdU hx83;⟨↥(zoB ↑1),(zfR (m:=true) (x:=↑172) (λz=>↑0 dI z) (λz=>Oc.nx ((λ(s80:Jq)=>([⇑[dQ K ↥6],.ow true (↑0 lI s80),.no,.no,.no]:L2.Ctx)) z)) (zfo (f:=dI) (xs:=[(0:Int)]) (n:=↑32) ↑110 (zaV (f:=lI) (xs:=P0) ↥2) (by have z:=hp.1;constructor<;>omega) (by show 1*_≤PySem.sizeLine;apply zao;have z:=hp.1;omega)) (λv85 hv85=>(zjj (f:=dI) (xs:=v85) (x:=(1:Int)) (j:=x81.1) (λz=>Oc.nx ((λ(s80:Jq)=>([⇑[dQ K ↥6],.ow true (↑0 lI s80),.no,.no,.no]:L2.Ctx)) z)) rfl zaJ ↑39 ↥(zu3 ↑1 ↑1) (λv86 hv86=>(zcw (i:=4) rfl (zcj (f:=lI) (xs:=s80) (x:=(x81.2++v86)) rfl (EvO.ev (EvO.anyI (m:=false) (zdG (f:=dI) (xs:=x81.2) (ys:=v86) ↑33 (Ev.old ↑105) ↥(zus hp ↑1 ↑1 ↑1)))) ↥(zvw hp ↑1 ↑1) (zan (.eq (.eq (.no (.no (.no .nil))))))))))))⟩) (λr87 hr87 hI=>(zcw (i:=1) rfl (zaj (zaA ⇑8))))))
noncomputable def zcT (P0:Jq) (P1:Int):Jq :=
 (↑0 (λ(x88:Ji)=>(x88++(zcI P1 [(0:Int)]))) P0)
def zf2 (P0:Jq) (P1:Int):Prop:=PdP P0 P1
def zkn (K:W.Frag) (A:Adr):Sp:=Spv (ι:=Jq×Int) (λx=>[dQ K (↑0 lI x.1),dI x.2]) (λx=>zf2 x.1 x.2) (λx=>↥[dL (↑0 lI (zcT x.1 x.2))])
theorem zn1:FnScope ["rows","many"] ["rows","many"] (zai zhz):=↥5
theorem zok (F:Fun K "padded" "padded" zhz f fd) (T:Txt K mg A) :FnOk P w K mg base ⇑1 1 f fd ["rows","many"] (zkn K A):=by
 refine F.okV zn1 ⇑5 ↑10
 obtain ⟨P0,P1⟩:=x
 have hu:=hr.units
 replace hp:zf2 P0 P1:=hp
 unfold zf2 at hp
 refine ⟨_,(zab (zaL (zb9 rfl (.of (osc:=(zai zhz)) (N:=["rows","many"]) (own:=["row"]) (fvn:=["many"]) (fv:=[1]) rfl rfl ↑6) ↑152 (λ_ _ _ _ _=>⟨(zal (i:=0) (show (["row","many"]:List Str).Nodup by decide +kernel) rfl (↥0 rfl) ⇑7),za7,(zav zeR (pv 0) (zav zhf ↑123 (pv 1)))⟩))) zae),.inl ?_⟩
 show L2.Run _ ([⇑[dQ K ↥6],⇑[dI P1]]:L2.Ctx) _ (↑69 (zcT P0 P1))
 unfold zcT
 exact (zaj (zaA (EvO.ev (EvO.conv (zbJ (g:=(λ(x88:Ji)=>dL (↑0 dI (x88++(zcI P1 [(0:Int)]))))) (za6 (m:=false) lI (xs:=P0) ↥2) ↥(zao (by have z:=hp.2.2;omega)) ⇑4 (λi89 x88 hx90=>have v90:=List.mem_of_getElem? hx90;(EvO.ev (EvO.anyI (m:=false) (zdG (f:=dI) (xs:=x88) (ys:=(zcI P1 [(0:Int)])) ↥2 (EvO.ev (zfo (f:=dI) (xs:=[(0:Int)]) (n:=P1) ↑110 ⇑9 (by have z:=hp.1;constructor<;>omega) (by have z:=hp.1;exact zao ↑147))) ↥(zwo hp ↑1)))))) ↑12))))
noncomputable def zcV (P0:Jq):Jq :=
 (zbq (zcc P0))
def zfT (P0:Jq):Prop:=TrQ P0
def zkY (K:W.Frag) (A:Adr):Sp:=Spv (ι:=Jq) (λx=>[dQ K (↑0 lI x)]) (λx=>zfT x) (λx=>↥[dL (↑0 lI (zcV x))])
theorem zn7:FnScope ["rows"] ["rows"] (zai zjW):=↥5
theorem zne (F:Fun K "traced" "traced" zjW f fd) (T:Txt K mg A) (yan:Callee P w K mg base ⇑1 5 "climbed" ["rows"] (zfN K A)) (yaK:Callee P w K mg base ⇑1 1 "marked" ["rows"] (zij K A)):FnOk P w K mg base ⇑1 6 f fd ["rows"] (zkY K A):=by
 refine F.okV zn7 ⇑5 ↑61
 have hu:=hr.units
 replace hp:zfT P0:=hp
 unfold zfT at hp
 refine ⟨_,(zab (zaL (zaN yan ↑2 rfl zaK ↑[zaN yaK ↑2 rfl zaK ↑[pv 0]])) zae),.inl ?_⟩
 show L2.Run _ ([⇑[dQ K ↥6]]:L2.Ctx) _ (↑69 (zcV P0))
 unfold zcV
 exact (zaj (zaA (zam (x:=(zcc P0)) (zac (Ev.old (Ev.weak (K:=K) (zam (x:=P0) (zac ↥2 zah) rfl (by show zeS P0;exact hp.1) rfl))) zah) rfl (by show zdK (zcc P0);exact zsE hp.2 rfl) rfl)))
theorem zkk (rows:Jq):zcV rows=Lat.clm Lat.MG (Lat.mark rows):=by
 unfold zcV
 rw [zhb]
 exact congrArg _ zrM
theorem zl2 {rows:Jq} (h:TrQ rows):(zcV rows).length≤31:=by rw [zkk];exact zrq h.2
theorem zsw {rows:Jq} (h:TrQ rows):(zcV rows).length≤PySem.sizeLine:=zao (by have:=zl2 h;omega)
theorem zpt {rows ys:Jq} {c:Ji->Bool} (h:TrQ rows) (e:ys=↑0 ↑58 (List.filter c (zcV rows))):ys.length≤31:=by
 rw [e,List.length_map]
 exact ⇑6 (List.length_filter_le _ _) (zl2 h)
noncomputable def zdo (P0:Jq) (P1:Int):Jq :=
 (↑0 (λ(x91:Ji)=>(zbI x91 (some P1) none)) (List.filter (λ(x91:Ji)=>(decide (P1≤(zak x91)))) P0))
def zgH (P0:Jq) (P1:Int):Prop:=P0.length≤1000
def zl7 (K:W.Frag) (A:Adr):Sp:=Spv (ι:=Jq×Int) (λx=>[dQ K (↑0 lI x.1),dI x.2]) (λx=>zgH x.1 x.2) (λx=>↥[dL (↑0 lI (zdo x.1 x.2))])
theorem zpn:FnScope ["steps","many"] ["steps","many"] (zai zjq):=↥5
theorem zpN (F:Fun K "tails" "tails" zjq f fd) (T:Txt K mg A) (yab:Callee P w K mg base ⇑1 1 "head_of" ["row"] (zcZ K A)):FnOk P w K mg base ⇑1 2 f fd ["steps","many"] (zl7 K A):=by
 refine F.okV zpn ⇑5 ↑10
 obtain ⟨P0,P1⟩:=x
 have hu:=hr.units
 replace hp:zgH P0 P1:=hp
 unfold zgH at hp
 refine ⟨_,(zab (zaL (zb9 rfl (.of (osc:=(zai zjq)) (N:=["steps","many"]) (own:=["step"]) (fvn:=["many"]) (fv:=[1]) rfl rfl ↑6) ↑152 (λ_ _ _ _ _=>⟨(zal (i:=0) (show (["step","many"]:List Str).Nodup by decide +kernel) rfl (↥0 rfl) ⇑7),(zlL (zaG zsy ↑195 (pv 1) (zaQ _))),(zch ↑66 (pv 0) (zcM (pv 1)) zdI)⟩))) zae),.inl ?_⟩
 show L2.Run _ ([⇑[dQ K ↥6],⇑[dI P1]]:L2.Ctx) _ (↑69 (zdo P0 P1))
 unfold zdo
 exact (zaj (zaA (EvO.ev (EvO.conv (zjR (c:=λ(x91:Ji)=>(decide (P1≤(zak x91)))) (g:=(λ(x91:Ji)=>dL (↑0 dI (zbI x91 (some P1) none)))) (za6 (m:=false) lI (xs:=P0) ↥2) ↥(zao ⇑0) ⇑4 (λi92 x91 hx93=>have v93:=List.mem_of_getElem? hx93;(zau (zaP (x:=(zak x91)) (y:=P1) (Ev.any (m:=true) (zam (x:=x91) (zac ↑26 zah) rfl (by show za9 x91;exact trivial) rfl)) ⇑9))) (λi92 x91 hx93 hc=>have v93:=List.mem_of_getElem? hx93;(EvO.ev (EvO.anyI (m:=false) (zdj (f:=dI) (xs:=x91) ↑26 (zb5 ⇑9) zcU))))) ↑12))))
theorem zqd {ss:Jq} {n:Nat}:zdo ss (n:Int)=Lat.zd0 n ss:=by
 unfold zdo Lat.zd0
 simp only [zcB,Lat.zfX]
 have e:(λ(x:Ji)=>decide ((n:Int)≤(Lat.hd x:Int)))=λ(x:Ji)=>decide (n≤Lat.hd x):=funext λx=>by simp
 rw [e]
noncomputable def zi5 (P0:Int) (P1:Jq):BookD:=⟨P0,(↑0 (λ(x94:Ji)=>x94) P1)⟩
def zbu (P0:Int) (P1:Jq):Prop:=P1.length≤1000
def zd2 (K:W.Frag) (A:Adr):Sp:=zsq (ι:=Int×Jq) A.Book (λx=>[dI x.1,dQ K (↑0 lI x.2)]) (λx=>zbu x.1 x.2) true (λx=>[("many",dI ((zi5 x.1 x.2).many)),("swaps",dL (↑0 lI ((zi5 x.1 x.2).swaps)))])
theorem zhv:FnScope ["self","many","swaps"] ["self","many","swaps"] (zai zdx):=↥5
theorem zht (F:Fun K "__init__" "Book.__init__" zdx f fd) (T:Txt K mg A) :FnOk P w K mg base ⇑1 1 f fd ["self","many","swaps"] (zd2 K A):=by
 refine F.okI zhv ⇑5 ↑10
 obtain ⟨P0,P1⟩:=x
 have hu:=hr.units
 replace hp:zbu P0 P1:=hp
 unfold zbu at hp
 refine ⟨_,(zab (zhq (pv 0) (pv 1) rfl) (zab (zhq (pv 0) (zb9 rfl (.of (osc:=(zai zdx)) (N:=["self","many","swaps"]) (own:=["swap"]) (fvn:=[]) (fv:=[]) rfl rfl ↑6) (zaM (K:=K) rfl (pv 2)) (λ_ _ _ _ _=>⟨(zal (i:=0) (show (["swap"]:List Str).Nodup by decide+kernel) rfl (↥0 rfl) ⇑7),za7,↑160⟩)) rfl) zae)),λp dx=>⟨([.ob true A.Book p dx [("many",dI P0),("swaps",dL (↑0 lI (↑0 (λ(x94:Ji)=>x94) P1)))],⇑[dI P0],⇑[dQ K ↑81]]:L2.Ctx),?_,rfl⟩⟩
 show L2.Run _ ([.ob true A.Book p dx [],⇑[dI P0],⇑[dQ K ↑81]]:L2.Ctx) _ _
 exact (zes (i:=0) rfl ⇑9 T.Book_cl T.Book_many [] rfl ↑6 ↥1 (zes (i:=0) rfl (EvO.ev (EvO.conv (zbJ (g:=(λ(x94:Ji)=>dL (↑0 dI x94))) (za6 (m:=false) lI (xs:=P1) ↑31) ↥(zao ⇑0) ⇑4 (λi95 x94 hx96=>have v96:=List.mem_of_getElem? hx96;(EvO.ev (EvO.anyI (m:=false) (zfp ↑26))))) ↑12)) T.Book_cl T.Book_swaps ["many"] rfl ↑6 ↥1 (zan (Wk.refl _))))
noncomputable def zaX (P0:Int) (P1:Jq):BookD :=
 (Let (List.foldl (λ(s99:Unit) (x100:(Int×Ji))=>()) () (zfH P1)) (λ(r105:Unit) =>
 (zi5 P0 P1)))
def zb8 (P0:Int) (P1:Jq):Prop:=1≤P0∧P0≤8∧P1.length≤12∧∀ s∈P1,(s.length:Int)=P0
def zji (K:W.Frag) (A:Adr):Sp:=Spv (ι:=Int×Jq) (λx=>[dI x.1,dQ K (↑0 lI x.2)]) (λx=>zb8 x.1 x.2) (λx=>↥[zbG A.Book (zaX x.1 x.2)])
theorem zgV:FnScope ["many","swaps","place","swap"] ["many","swaps"] (zai zib):=↥5
theorem zm1 (F:Fun K "book_of" "book_of" zib f fd) (T:Txt K mg A)  {ybH:Addr} {ybl:FuncData} (ybm:Mk K A.Book ybH) (yag:FnOk P w K mg base ⇑1 1 ybH ybl ["self","many","swaps"] (zd2 K A)) (yah:zf5 K ybl ["self","many","swaps"] []):FnOk P w K mg base ⇑1 3 f fd ["many","swaps"] (zji K A):=by
 refine F.okV zgV ⇑5 ↑10
 obtain ⟨P0,P1⟩:=x
 have hu:=hr.units
 replace hp:zb8 P0 P1:=hp
 unfold zb8 at hp
 obtain ⟨ya1,yc8⟩:=T.g_MOST_SWAPS
 obtain ⟨ya2,yc9⟩:=T.g_MOST_WARES
 refine ⟨_,(zab (zbQ (PW.pt (zjt (zaG zj3 (pv 0) zag (zaQ _)) (zhn (zaG ziO (pv 0) (zoh (v:=.int 8) rfl yc9 ⟨_,rfl⟩) (zaQ _))))) (zab zdp zae) zae) (zab (zbQ (zaG ziO ↑227 (zoh (v:=.int 12) rfl yc8 ⟨_,rfl⟩) (zaQ _)) (zab zdp zae) zae) (zab (zbx ↑11 rfl (zig rfl rfl T.enumerate ↑[pv 1]) (zbd (K:=K) (n:=2) rfl rfl (zaD (zal (i:=2) zgV.nd rfl (↥0 rfl) (↥0 rfl)) (zaD (zal (i:=3) zgV.nd rfl (↥0 rfl) (↥0 rfl)) zbL))) (zab (zbQ (zaG zfn ↑228 (pv 0) (zaQ _)) (zab zdp zae) zae) zae)) (zab (zaL (zjP ybm yag ↑2 rfl T.Book yah .nil zaK ↑[pv 0,pv 1])) zae)))),.inl ?_⟩
 show L2.Run _ ([⇑[dI P0],⇑[dQ K ↑81],.no,.no]:L2.Ctx) _ ((λ(r:BookD)=>Oc.rt true (zbG A.Book r)) (zaX P0 P1))
 unfold zaX
 exact (zb6 (EvT.conv (zgN (b:=(decide (P0<(1:Int)))) (zau (zaP (x:=P0) (y:=(1:Int)) ↑19 zaJ)) (λhb=>(zau (zaP (x:=P0) (y:=8) ↑19 zaJ)))) (by simp only [Bool.or_eq_false_iff,decide_eq_false_iff_not];omega)) (zat (zb6 (EvT.conv (zau (zaP (x:=((P1.length:Nat):Int)) (y:=12) (zaV (f:=lI) (xs:=P1) ⇑8) zaJ)) ↑270) (zat (zbp (s0:=()) (λ(s99:Unit)=>([⇑[dI P0],⇑[dQ K ↑81],.no,.no]:L2.Ctx)) (λ(r:BookD)=>Oc.rt true (zbG A.Book r)) (λ(s99:Unit) (x100:(Int×Ji))=>()) ↑68 (ziD (m:=false) lI (xs:=P1) ⇑8) (.eq ↑74) trivial (λi101 x100 s99 hx102 hI103=>have v102:=zdU hx102;⟨trivial,(zb6 (EvT.conv (zau (zdX (x:=((x100.2.length:Nat):Int)) (y:=P0) (zaV (f:=dI) (xs:=x100.2) ↑17) ↑19)) (by have:=hp.2.2.2 _ (zpK ↑1);simp only [Bool.not_eq_false',decide_eq_true_eq];exact this)) (zat (zan (.eq (.eq (.no (.no .nil)))))))⟩) (λr105 hr105 hI=>(zaj (zaA (znj (i:=(P0,P1)) (zac ↑19 (zac ⇑8 zah)) rfl (by show zbu P0 P1;unfold zbu;omega))))))))))
theorem zgG {w:Int} {sw:Jq}:zaX w sw=⟨w,sw⟩:=by
 unfold zaX zi5 Let
 simp
theorem zc0 (sw:Jq):↑0 ↑58 sw=sw:=by simp
theorem ztI {a b:Int} (h:a=b):(!decide (a=b))=false:=by rw [decide_eq_true h];rfl
noncomputable def zei (P0:BookD) (P1:Ji):Unit:=()
def zb3 (P0:BookD) (P1:Ji):Prop:=(P1.length:Int)=P0.many
def zd6 (K:W.Frag) (A:Adr):Sp:=Spv (ι:=BookD×Ji) (λx=>[zbG A.Book x.1,dQ K (↑0 dI x.2)]) (λx=>zb3 x.1 x.2) (λx=>↥[dN])
theorem zf4:FnScope ["book","basket"] ["book","basket"] (zai zde):=↥5
theorem zf3 (F:Fun K "refuse_bad_basket" "refuse_bad_basket" zde f fd) (T:Txt K mg A) :FnOk P w K mg base ⇑1 1 f fd ["book","basket"] (zd6 K A):=by
 refine F.okV zf4 ⇑5 ↑10
 obtain ⟨P0,P1⟩:=x
 have hu:=hr.units
 replace hp:zb3 P0 P1:=hp
 unfold zb3 at hp
 refine ⟨_,(zab (zbQ (zaG zfn ↑227 ↑54 (zaQ _)) (zab zdp zae) zae) zae),.inr ⟨_,([⇑[zbG A.Book P0],⇑[dQ K ↑7]]:L2.Ctx),rfl,?_⟩⟩
 show L2.Run _ ([⇑[zbG A.Book P0],⇑[dQ K ↑7]]:L2.Ctx) _ _
 exact (zb6 (EvT.conv (zau (zdX (x:=((P1.length:Nat):Int)) (y:=P0.many) (zaV (f:=dI) (xs:=P1) ⇑8) ↑184)) ↑270) (zat (zan (Wk.refl _))))
def LvP (ss:Jq) (l:Int):Prop:=∃ n s:Nat,l=(n:Int)+1∧n≤900∧ss.length≤100∧(∀ t∈ss,Lat.Sd (n+1) s t)∧1+(ss.length+1)*(s+9000)≤50000000
theorem zwl {n:Nat} {l:Int} {ss:Jq} {w:Ji} (p1:l=(n:Int)+1) (e:w=zcI (l-(1:Int)) [(0:Int)]++[(1:Int)]):Lat.lvI (n+1) ss 0 w:=by
 have:w=Lat.lv (n+1) []:=by rw [e,p1];rfl
 rw [this];exact Lat.zuV
theorem zrA (s x:Ji):Let (zak x) (λ(head:Int)=>Let (zcR s x) (λ(weight:Int)=>Let (zaB s (ixD x head)) (λ(numbers:Ji)=>Let (zcW numbers head (-weight)) (λ(y:Ji)=>y))))=Lat.lv1 s x:=by
 unfold Let
 dsimp only
 rw [zcB,Lat.zbc,zmT]
 rfl
theorem zwE {n i:Nat} {ss:Jq} {s x:Ji} (hx:ss.reverse[i]?=some x) (I:Lat.lvI n ss i s):Lat.lvI n ss (i+1) (Let (zak x) (λ(head:Int)=>Let (zcR s x) (λ(weight:Int)=>Let (zaB s (ixD x head)) (λ(numbers:Ji)=>Let (zcW numbers head (-weight)) (λ(y:Ji)=>y))))):=by
 rw [zrA];exact Lat.zvo hx I
theorem zvI {n:Nat} {l:Int} (p1:l=(n:Int)+1) (p2:n≤900):[(0:Int)].length*(l-(1:Int)).toNat≤PySem.sizeLine:=zao ↑147
theorem zvh {n:Nat} {l:Int} (p1:l=(n:Int)+1) (p2:n≤900):(zcI (l-(1:Int)) [(0:Int)]).length+[(1:Int)].length≤PySem.sizeLine:=zao (by rw [p1,show (n:Int)+1-1=(n:Int) by omega,Lat.zce,List.length_singleton];omega)
theorem zlo {n s i:Nat} {ss:Jq} {w x:Ji} (p2:n≤900) (p4:∀ t∈ss,Lat.Sd (n+1) s t) (I:Lat.lvI (n+1) ss i w):w.length=n+1∧Lat.Bit (1+ss.length*(s+9000)) w:=by
 unfold Lat.lvI at I
 obtain ⟨h1,h2⟩:=Lat.zqr (ss:=ss.drop (ss.length-i)) (λt ht=>p4 t (List.mem_of_mem_drop ht)) p2
 rw [← I] at h1 h2
 refine ⟨h1,h2.mono ?_⟩
 have:=Nat.mul_le_mul_right (s+9000) (show (ss.drop (ss.length-i)).length≤ss.length by rw [List.length_drop];omega)
 omega
theorem zqg {ss:Jq} {x:Ji} {i:Nat} (hx:ss.reverse[i]?=some x):x∈ss:=List.mem_reverse.mp ↑169
theorem zvb {n s i:Nat} {ss:Jq} {w x:Ji} (p2:n≤900) (p3:ss.length≤100) (p4:∀ t∈ss,Lat.Sd (n+1) s t) (p5:1+(ss.length+1)*(s+9000)≤50000000) (hx:ss.reverse[i]?=some x) (I:Lat.lvI (n+1) ss i w):zee w x:=by
 obtain ⟨h1,h2⟩:=zlo (x:=x) p2 p4 I
 have T:=p4 x (zqg hx)
 rw [Nat.succ_mul] at p5
 refine ⟨by rw [h1,T.len],by omega,λp hp=>?_⟩
 have hm:=List.of_mem_zip (a:=p.1) (b:=p.2) hp
 exact Lat.zcK.of (h2 _ hm.1) (T.bit _ hm.2) ⇑0 ⇑0
theorem zu8 {n s i:Nat} {ss:Jq} {w x:Ji} {h:Int} (p2:n≤900) (p3:ss.length≤100) (p4:∀ t∈ss,Lat.Sd (n+1) s t) (p5:1+(ss.length+1)*(s+9000)≤50000000) (hx:ss.reverse[i]?=some x) (I:Lat.lvI (n+1) ss i w) (hH:h=(Lat.hd x:Int)):zb1 w (ixD x h):=by
 obtain ⟨h1,h2⟩:=zlo (x:=x) p2 p4 I
 have T:=p4 x (zqg hx)
 rw [Nat.succ_mul] at p5
 subst hH
 rw [Lat.zbc]
 exact ⟨by omega,λy hy=>Lat.zcK.of (h2 _ hy) T.top ⇑0 ↥1⟩
theorem zuN {n s i:Nat} {ss:Jq} {w x:Ji} {h c:Int} (p2:n≤900) (p4:∀ t∈ss,Lat.Sd (n+1) s t) (hx:ss.reverse[i]?=some x) (I:Lat.lvI (n+1) ss i w) (hH:h=(Lat.hd x:Int)) {y:Ji} (e:y=zaB w c):InB y.length h:=by
 obtain ⟨h1,h2⟩:=zlo (x:=x) p2 p4 I
 have T:=(p4 x (zqg hx)).hd
 rw [e,show (zaB w c).length=w.length from Lat.zbw,h1]
 unfold InB;omega
noncomputable def zdF (P0:Jq) (P1:Int):Ji :=
 (Let ((zcI (P1-(1:Int)) [(0:Int)])++[(1:Int)]) (λ(v107:Ji) =>
 (Let (List.foldl (λ(s108:Ji) (x109:Ji)=>(Let (zak x109) (λ(hv113:Int) =>
 (Let (zcR s108 x109) (λ(v114:Int) =>
 (Let (zaB s108 (ixD x109 hv113)) (λ(v115:Ji) =>
 (Let (zcW v115 hv113 (-v114)) (λ(v116:Ji) =>
 v116))))))))) v107 (List.reverse P0)) (λ(r117:Ji) =>
 r117))))
def zer (P0:Jq) (P1:Int):Prop:=LvP P0 P1
def zhS (K:W.Frag) (A:Adr):Sp:=Spv (ι:=Jq×Int) (λx=>[dQ K (↑0 lI x.1),dI x.2]) (λx=>zer x.1 x.2) (λx=>↥[dL (↑0 dI (zdF x.1 x.2))])
theorem zdB:FnScope ["steps","length","numbers","step","head","weight"] ["steps","length"] (zai zgR):=↥5
theorem zle (F:Fun K "levelled" "levelled" zgR f fd) (T:Txt K mg A) (yab:Callee P w K mg base ⇑1 1 "head_of" ["row"] (zcZ K A)) (yae:Callee P w K mg base ⇑1 1 "times" ["some","many"] (zfO K A)) (ybI:Callee P w K mg base ⇑1 2 "weighed" ↑15 (zi7 K A)):FnOk P w K mg base ⇑1 3 f fd ["steps","length"] (zhS K A):=by
 refine F.okV zdB ⇑5 ↑10
 obtain ⟨P0,P1⟩:=x
 have hu:=hr.units
 replace hp:zer P0 P1:=hp
 unfold zer at hp
 obtain ⟨N0,S0,p1,p2,p3,p4,p5⟩:=hp
 refine ⟨_,(zab (zap (i:=2) zdB.nd rfl (↥0 rfl) (zav zeR (zav zhf ↑123 (zav zeT (pv 1) zag)) ↑123)) (zab (zbx ↑11 rfl (zqw rfl rfl T.reversed ↑[pv 0]) (zal (i:=3) zdB.nd rfl (↥0 rfl) (↥0 rfl)) (zab (zap (i:=4) zdB.nd rfl (↥0 rfl) (zaN yab ↑2 rfl zaK ↑[pv 3])) (zab (zap (i:=5) zdB.nd rfl (↥0 rfl) (zaN ybI ↑2 rfl zaK ↑[pv 2,pv 3])) (zab (zap (i:=2) zdB.nd rfl (↥0 rfl) (zaN yae ↑2 rfl zaK ↑[pv 2,(zaR ↥7 (pv 3) (pv 4) ↥4)])) (zab (zhj (zoL zkq (pv 5)) (zi2 (pv 2) (pv 4) zfM)) zae))))) (zab (zaL (pv 2)) zae))),.inl ?_⟩
 show L2.Run _ ([⇑[dQ K ↥6],⇑[dI P1],.no,.no,.no,.no]:L2.Ctx) _ (↑60 (zdF P0 P1))
 unfold zdF
 exact (zfR (m:=true) (x:=((zcI (P1-(1:Int)) [(0:Int)])++[(1:Int)])) (λz=>↑0 dI z) ↑60 (zdG (f:=dI) (xs:=(zcI (P1-(1:Int)) [(0:Int)])) (ys:=[(1:Int)]) (EvO.ev (zfo (f:=dI) (xs:=[(0:Int)]) (n:=(P1-(1:Int))) ↑110 (zaP (x:=P1) (y:=(1:Int)) ⇑9 zaJ) (by constructor<;>omega) ↥(zvI p1 p2))) ↑110 ↥(zvh p1 p2)) (λv107 hv107=>have h0_numbers107:=hv107;(zbp (s0:=v107) ↑217 ↑60 (λ(s108:Ji) (x109:Ji)=>(Let (zak x109) (λ(hv113:Int)=>(Let (zcR s108 x109) (λ(v114:Int)=>(Let (zaB s108 (ixD x109 hv113)) (λ(v115:Ji)=>(Let (zcW v115 hv113 (-v114)) (λ(v116:Ji)=>v116))))))))) (λ(i:Nat) (s108:Ji)=>Lat.lvI (N0+1) P0 i s108) (zqS (m:=false) lI (xs:=P0) ↥2) ↑13 ↥(zwl p1 ↑1) (λi110 x109 s108 hx111 hI112=>have v111:=List.mem_of_getElem? hx111;⟨↥(zwE ↑1 ↑1),(zaq (m:=true) (x:=(zak x109)) dI (λz=>Oc.nx (↑217 z)) (Ev.any (m:=true) (zam (x:=x109) (zac ↑17 zah) rfl (by show za9 x109;exact trivial) rfl)) (λhv113 hhead113=>have hH:=(hhead113).trans (zcB _);(zcw (i:=2) rfl (zaq (m:=true) (x:=(zcR s108 x109)) dI (λz=>Oc.nx (↑217 z)) (Ev.any (m:=true) (zam (x:=(s108,x109)) (zac ↑107 (zac ↑17 zah)) rfl (by show zee s108 x109;exact zvb p2 p3 p4 p5 ↑1 ↑1) rfl)) (λv114 hv114=>(zfR (m:=true) (x:=(zaB s108 (ixD x109 hv113))) (λz=>↑0 dI z) (λz=>Oc.nx (↑217 z)) (EvO.anyI (m:=true) (zcp (x:=(s108,(ixD x109 hv113))) (zac ↑107 (zac (Ev.any (m:=false) (zbe (f:=dI) (xs:=x109) ↑17 ↑20 ↥(zkG (p4 _ (zqg ↑1)) hH))) zah)) rfl (by show zb1 s108 (ixD x109 hv113);exact zu8 p2 p3 p4 p5 ↑1 ↑1 hH) rfl)) (λv115 hv115=>have h0_numbers115:=hv115;(zjj (f:=dI) (xs:=v115) (x:=(-v114)) (j:=hv113) (λz=>Oc.nx (↑217 z)) rfl (zoM (x:=v114) ↑36) ↑20 ↥(zuN p2 p4 ↑1 ↑1 hH ↑1) (λv116 hv116=>(zan ↑189))))))))))⟩) (λr117 hr117 hI=>(zcw (i:=2) rfl (zaj (zaA ↑31)))))))
theorem zsg {α:Type} [Inhabited α] {xs:List α} {t:α}:ixD (xs++[t]) ↑16=t:=by
 unfold ixD atI ixN
 rw [if_neg ↥1,if_pos (by rw [List.length_append,List.length_singleton];omega)]
 have:(↑16+(((xs++[t]).length:Nat):Int)).toNat=xs.length:=by rw [List.length_append,List.length_singleton];omega
 first
  | (show ((xs++[t])[_]?).getD _=t;rw [this];simp)
  | (simp [this])
def SnS (b:BookD) (x:Ji):Prop:=∃ n s:Nat,b.many=(n:Int)∧1≤n∧n≤8∧x.length=n∧b.swaps.length≤30∧Lat.Cb n s b.swaps∧Lat.Bit s x∧Lat.SpL b.swaps ↑41
noncomputable def snR (b:BookD) (x:Ji):Jq:=Lat.clm Lat.MG ↑138
noncomputable def snS (n:Nat) (b:BookD) (x:Ji):Jq:=List.filter (λ(t:Ji)=>decide (Lat.hd t<n)) (snR b x)
section
variable {b:BookD} {x:Ji} {rows ss:Jq}
theorem zsB (hR:rows=zbq ↑138):rows=snR b x:=hR.trans (zhb _)
theorem zv2 {n:Nat} (hn:b.many=(n:Int)) (hR:rows=snR b x) (hS:ss=↑0 (λ(t:Ji)=>t) ↑224):ss=snS n b x:=by
 rw [hS,List.map_id',hR,hn]
 unfold snS
 congr 1
 funext t
 rw [zcB]
 simp
theorem zmB (h:SnS b x):∃ n s:Nat,b.many=(n:Int)∧1≤n∧n≤8∧x.length=n∧s≤200000∧snR b x=Lat.ap0 ↑98++[Lat.zlr n]∧snS n b x=Lat.ap0 ↑98∧(↑98).length≤n∧(∀ t∈Lat.clm Lat.MG b.swaps,Lat.Sd n s t):=by
 obtain ⟨n,s,h1,h2,h3,h4,h5,h6,h7,h8⟩:=h
 have hl:∀ r∈b.swaps,r.length=n:=λr hr=>(h6.mem hr).1
 have eR:snR b x=Lat.ap0 ↑98++[Lat.zlr n]:=Lat.znC hl h4 h8
 have eS:snS n b x=Lat.ap0 ↑98:=by
  unfold snS
  rw [eR,List.filter_append,List.filter_eq_self.mpr,List.filter_eq_nil_iff.mpr,List.append_nil]
  ·intro t ht
   rw [List.mem_singleton.mp ht,Lat.zfr];simp
  ·intro t ht
   obtain ⟨z,hz,rfl⟩:=List.mem_map.mp ht
   have T:=h6.sd z hz
   rw [Lat.zg8 (by have:=T.len;have:=T.hd;omega)]
   simpa using T.hd
 exact ⟨n,s,h1,h2,h3,h4,h6.2.1,eR,eS,by have:=h6.len (i:=b.swaps.length);rwa [List.take_length] at this,h6.sd⟩
theorem zlP (h:SnS b x):b.swaps.length≤PySem.sizeLine∧(∀ s∈b.swaps,s.length+[(0:Int)].length≤PySem.sizeLine)∧x.length+[↑16].length≤PySem.sizeLine∧(↑0 (λ(r:Ji)=>r++[(0:Int)]) b.swaps).length+[x++[↑16]].length≤PySem.sizeLine:=by
 obtain ⟨n,s,h1,h2,h3,h4,h5,h6,h7,h8⟩:=h
 exact ⟨zao ⇑0,λs hs=>zao (by rw [(h6.mem hs).1,List.length_singleton];omega),zao ↑147,zao (by rw [List.length_map,List.length_singleton];omega)⟩
theorem ztU (h:SnS b x):Lat.zot ↑138:=by
 obtain ⟨n,s,h1,h2,h3,h4,h5,h6,h7,h8⟩:=h
 exact .inr ⟨n+1,s,h6.ask h3 h5 h4 h7 h8⟩
theorem zuS (h:SnS b x) (hR:rows=zbq ↑138):rows.length≤PySem.sizeLine:=by
 obtain ⟨n,s,h1,h2,h3,h4,h5,h6,h7,h8,h9⟩:=zmB h
 rw [zsB hR,h6,List.length_append,List.length_map,List.length_singleton]
 exact zao ⇑0
theorem zvA (h:SnS b x) (hR:rows=zbq ↑138) (hS:ss=↑0 (λ(t:Ji)=>t) ↑224):LvP ss (b.many+(1:Int)):=by
 obtain ⟨n,s,h1,h2,h3,h4,h5,h6,h7,h8,h9⟩:=zmB h
 rw [zv2 h1 (zsB hR) hS,h7]
 have:=Nat.mul_le_mul (show (Lat.ap0 ↑98).length+1≤9 by rw [List.length_map];omega) (show s+9000≤209000 by omega)
 exact ⟨n,s,by omega,by omega,by rw [List.length_map];omega,λt ht=>by
  obtain ⟨z,hz,rfl⟩:=List.mem_map.mp ht
  exact (h9 z hz).app0,by omega⟩
theorem ztD (h:SnS b x) (hR:rows=zbq ↑138) (hS:ss=↑0 (λ(t:Ji)=>t) ↑224):rows.length=ss.length+1:=by
 obtain ⟨n,s,h1,h2,h3,h4,h5,h6,h7,h8,h9⟩:=zmB h
 rw [zv2 h1 (zsB hR) hS,zsB hR,h6,h7,List.length_append,List.length_singleton]
theorem zw6 (h:SnS b x) (hR:rows=zbq ↑138) (hS:ss=↑0 (λ(t:Ji)=>t) ↑224):decide (((ss.length:Nat):Int)=↑99)=false:=decide_eq_false (by have:=ztD h hR hS;omega)
theorem zqo (h:SnS b x) (hR:rows=zbq ↑138):ixD (ixD rows ↑16) b.many=1∧(ixD rows ↑16).length=b.many.toNat+1:=by
 obtain ⟨n,s,h1,h2,h3,h4,h5,h6,h7,h8,h9⟩:=zmB h
 rw [zsB hR,h6,zsg,h1,Lat.zbc,Lat.zdR,if_pos rfl]
 exact ⟨rfl,by unfold Lat.zlr;rw [List.length_append,List.length_replicate];rfl⟩
theorem ztY (h:SnS b x) (hR:rows=zbq ↑138) (hS:ss=↑0 (λ(t:Ji)=>t) ↑224):InB rows.length ↑16∧InB (ixD rows ↑16).length b.many:=by
 have z:=ztD h hR hS
 have y:=(zqo h hR).2
 obtain ⟨n,s,h1,_⟩:=h
 unfold InB
 omega
end
noncomputable def m_shown (P0:BookD) (P1:Ji):(Int×(Option (LineD⊕RestD))) :=
 (Let (zbq (↑226++[(P1++[↑16])])) (λ(v121:Jq) =>
 (Let (↑0 (λ(x122:Ji)=>x122) (List.filter (λ(x122:Ji)=>(decide ((zak x122)<P0.many))) v121)) (λ(v125:Jq) =>
 (Let (zdF v125 (P0.many+(1:Int))) (λ(v126:Ji) =>
 (Let (zbI v126 none (some P0.many)) (λ(v127:Ji) =>
 (Let (ixD (ixD v121 ↑16) P0.many) (λ(v129:Int) =>
 ((1:Int),none)))))))))))
def zgE (P0:BookD) (P1:Ji):Prop:=SnS P0 P1
def zmy (K:W.Frag) (A:Adr):Sp:=Spv (ι:=BookD×Ji) (λx=>[zbG A.Book x.1,dL (↑0 dI x.2)]) (λx=>zgE x.1 x.2) (λx=>↥[dT [dI ((m_shown x.1 x.2).1),dOpt (dSc A) ((m_shown x.1 x.2).2)]])
theorem zfL:FnScope ["book","basket","rows","steps","numbers","weights","many","short"] ["book","basket"] (zai zh6):=↥5
theorem zpx (F:Fun K "shown" "shown" zh6 f fd) (T:Txt K mg A) (yan:Callee P w K mg base ⇑1 5 "climbed" ["rows"] (zfN K A)) (yab:Callee P w K mg base ⇑1 1 "head_of" ["row"] (zcZ K A)) (ybr:Callee P w K mg base ⇑1 3 "levelled" ["steps","length"] (zhS K A)):FnOk P w K mg base ⇑1 6 f fd ["book","basket"] (zmy K A):=by
 refine F.okV zfL ⇑5 ↑10
 obtain ⟨P0,P1⟩:=x
 have hu:=hr.units
 replace hp:zgE P0 P1:=hp
 unfold zgE at hp
 refine ⟨_,(zab (zap (i:=2) zfL.nd rfl (↥0 rfl) (zaN yan ↑2 rfl zaK ↑[(zav zeR (zb9 rfl (.of (osc:=(zai zh6)) (N:=["book","basket","rows","steps","numbers","weights","many","short"]) (own:=["swap"]) (fvn:=[]) (fv:=[]) rfl rfl ↑6) (zaM (K:=K) rfl ↑54) (λ_ _ _ _ _=>⟨(zal (i:=0) (show (["swap"]:List Str).Nodup by decide+kernel) rfl (↥0 rfl) ⇑7),za7,(zav zeR (pv 0) ↑123)⟩)) (zca ↑[zav zeR (pv 1) (zca ↑[zoL zkq zag])]))])) (zab (zc1 (i:=3) rfl zfL.nd rfl rfl (.of (osc:=(zai zh6)) (N:=["book","basket","rows","steps","numbers","weights","many","short"]) (own:=["row"]) (fvn:=["book"]) (fv:=[0]) rfl rfl ↑6) (zaM (K:=K) rfl (pv 2)) (λ_ _ _ _ _=>⟨↑252,(zlL (zaG zj3 ↑195 ↑149 (zaQ _))),(pv 0)⟩)) (zab (zap (i:=4) zfL.nd rfl (↥0 rfl) (zaN ybr ↑2 rfl zaK ↑[pv 3,(zav zbX ↑54 zag)])) (zab (zap (i:=5) zfL.nd rfl (↥0 rfl) (zch ↑66 (pv 4) zdI (zcM ↑54))) (zab (zbQ (zaG zfg ↑228 (zaz ↑85 rfl T.len PySem.boot_len ↑[pv 2]) (zaQ _)) (zab zdp zae) zae) (zab (zap (i:=6) zfL.nd rfl (↥0 rfl) (zaR ↥7 (zaR ↥7 (pv 2) (zoL zkq zag) ↥4) ↑54 ↥4)) (zab (zbQ (zaG zfg (pv 6) zag (zaQ _)) (zab (zaL (zhg ↑[zag,zk0])) zae) zae) (zab zdp (zab zdp zae))))))))),.inl ?_⟩
 show L2.Run _ ([⇑[zbG A.Book P0],⇑[dL ↑7],.no,.no,.no,.no,.no,.no]:L2.Ctx) _ (↑182 (m_shown P0 P1))
 unfold m_shown
 exact (zaq (m:=true) (x:=(zbq (↑226++[(P1++[↑16])]))) ↑114 ↑182 (zam (x:=(↑226++[(P1++[↑16])])) (zac (Ev.weak (K:=K) (EvO.ev (zdG (f:=lI) (xs:=↑226) (ys:=[(P1++[↑16])]) (EvO.ev (EvO.conv (zbJ (g:=(λ(x118:Ji)=>dL (↑0 dI (x118++[(0:Int)])))) (za6 (m:=false) lI (xs:=P0.swaps) (Ev.weak (K:=K) (zbC ↥2 T.Book_cl T.Book_swaps rfl))) ↥((zlP hp).1) ⇑4 (λi119 x118 hx120=>have v120:=List.mem_of_getElem? hx120;(EvO.ev (EvO.anyI (m:=false) (zdG (f:=dI) (xs:=x118) (ys:=[(0:Int)]) ↥2 ↑110 ↥((zlP hp).2.1 _ ↑1)))))) ↑12)) (EvO.ev (zdm (zac (EvO.ev (EvO.anyI (m:=false) (zdG (f:=dI) (xs:=P1) (ys:=[↑16]) ⇑8 (EvO.ev (zdm (zac (zoM (x:=(1:Int)) zaJ) zah) ↑238)) ↥((zlP hp).2.2.1)))) zah) ↑238)) ↥((zlP hp).2.2.2)))) zah) rfl (by show zdK (↑226++[(P1++[↑16])]);exact ztU hp) rfl) (λv121 hv121=>have hR:=hv121;(zaq (m:=true) (x:=(↑0 (λ(x122:Ji)=>x122) (List.filter (λ(x122:Ji)=>(decide ((zak x122)<P0.many))) v121))) ↑114 ↑182 (EvO.ev (EvO.conv (zjR (c:=λ(x122:Ji)=>(decide ((zak x122)<P0.many))) (g:=(λ(x122:Ji)=>dL (↑0 dI x122))) (za6 (m:=true) lI (xs:=v121) ↑89) ↥(zuS hp hR) ⇑4 (λi123 x122 hx124=>have v124:=List.mem_of_getElem? hx124;(zau (zaP (x:=(zak x122)) (y:=P0.many) (Ev.any (m:=true) (zam (x:=x122) (zac (Ev.old ↑26) zah) rfl (by show za9 x122;exact trivial) rfl)) ↑221))) (λi123 x122 hx124 hc=>have v124:=List.mem_of_getElem? hx124;↥2)) ↑12)) (λv125 hv125=>have hS:=hv125;(zaq (m:=true) (x:=(zdF v125 (P0.many+(1:Int)))) lI ↑182 (zam (x:=(v125,(P0.many+(1:Int)))) (zac (Ev.old ↑17) (zac (zaP (x:=P0.many) (y:=(1:Int)) ↑184 zaJ) zah)) rfl (by show zer v125 (P0.many+(1:Int));exact zvA hp hR hS) rfl) (λv126 hv126=>(zaq (m:=true) (x:=(zbI v126 none (some P0.many))) lI ↑182 (EvO.ev (EvO.anyI (m:=true) (zdj (f:=dI) (xs:=v126) (Ev.weak (K:=K) ↑105) zcU (zb5 ↑184)))) (λv127 hv127=>(zb6 (EvT.conv (zau (zdA (x:=((v125.length:Nat):Int)) (y:=((v121.length:Nat):Int)) (zaV (f:=lI) (xs:=v125) (Ev.old ↑17)) (zaV (f:=lI) (xs:=v121) ↑107))) ↥(zw6 hp hR hS)) (zat (zaq (m:=true) (x:=(ixD (ixD v121 ↑16) P0.many)) dI ↑182 (Ev.any (m:=true) (zbe (f:=dI) (xs:=(ixD v121 ↑16)) (Ev.weak (K:=K) (zbe (f:=lI) (xs:=v121) ↑89 (zoM (x:=(1:Int)) zaJ) ↥((ztY hp hR hS).1))) ↑184 ↥((ztY hp hR hS).2))) (λv129 hv129=>have hM:=hv129;(zk7 (EvT.conv (zau (zdA (x:=v129) (y:=(1:Int)) ↑133 zaJ)) ↥(decide_eq_true (hM.trans (zqo hp hR).1))) (zax (zaj (zaA (zhr (zac zaJ ↑51) ↑130)))))))))))))))))
noncomputable def zd5 (P0:BookD) (P1:BookD) (P2:Jq):Unit:=()
def zbr (P0:BookD) (P1:BookD) (P2:Jq):Prop:=(P2.length:Int)=P0.many∧∀ r∈P2,(r.length:Int)=P1.many
def zdS (K:W.Frag) (A:Adr):Sp:=Spv (ι:=BookD×BookD×Jq) (λx=>[zbG A.Book x.1,zbG A.Book x.2.1,dQ K (↑0 lI x.2.2)]) (λx=>zbr x.1 x.2.1 x.2.2) (λx=>↥[dN])
theorem zdY:FnScope ["first","second","baskets","basket"] ["first","second","baskets"] (zai zc2):=↥5
theorem zfB (F:Fun K "refuse_bad_baskets" "refuse_bad_baskets" zc2 f fd) (T:Txt K mg A) :FnOk P w K mg base ⇑1 1 f fd ["first","second","baskets"] (zdS K A):=by
 refine F.okV zdY ⇑5 ↑10
 obtain ⟨P0,P1,P2⟩:=x
 have hu:=hr.units
 replace hp:zbr P0 P1 P2:=hp
 unfold zbr at hp
 refine ⟨_,(zab (zbQ (zaG zfn (zaz ↑85 rfl T.len PySem.boot_len ↑[pv 2]) ↑54 (zaQ _)) (zab zdp zae) zae) (zab (zbx ↑11 rfl (zaM (K:=K) rfl (pv 2)) (zal (i:=3) zdY.nd rfl (↥0 rfl) (↥0 rfl)) (zab (zbQ (zaG zfn ↑228 ↑149 (zaQ _)) (zab zdp zae) zae) zae)) zae)),.inr ⟨_,([⇑[zbG A.Book P0],⇑[zbG A.Book P1],⇑[dQ K ↑59],.no]:L2.Ctx),rfl,?_⟩⟩
 show L2.Run _ ([⇑[zbG A.Book P0],⇑[zbG A.Book P1],⇑[dQ K ↑59],.no]:L2.Ctx) _ _
 exact (zb6 (EvT.conv (zau (zdX (x:=((P2.length:Nat):Int)) (y:=P0.many) (zaV (f:=lI) (xs:=P2) ↑31) ↑184)) ↥(ztI hp.1)) (zat (zkJ (s0:=()) (λ(s132:Unit)=>([⇑[zbG A.Book P0],⇑[zbG A.Book P1],⇑[dQ K ↑59],.no]:L2.Ctx)) (λ(s132:Unit) (x133:Ji)=>()) ↑68 (za6 (m:=false) lI (xs:=P2) ↑31) (.eq ↑74) trivial (λi134 x133 s132 hx135 hI136=>have v135:=List.mem_of_getElem? hx135;⟨trivial,(zb6 (EvT.conv (zau (zdX (x:=((x133.length:Nat):Int)) (y:=P1.many) (zaV (f:=dI) (xs:=x133) ↑17) ↑221)) ↥(ztI (hp.2 _ (List.mem_of_getElem? ↑1)))) (zat (zan (.eq ↑134))))⟩) (zan (Wk.refl _)))))
def SeX (S:SenderD) (x:Ji):Prop:=∃ W2:Nat,S.second.many=(W2:Int)∧W2≤8∧(∀ r∈S.baskets,r.length=W2)∧∀ p∈List.zip S.baskets x,∀ y∈p.1,zcK y p.2
def SeP (S:SenderD) (x:Ji):Prop:=(x.length:Int)=S.first.many∧SeX S x
section
variable {S:SenderD} {x s r:Ji} {i:Nat} {p:Ji×Int}
theorem zwC (h:SeX S x):-(2^63)≤S.second.many∧S.second.many<2^63:=by obtain ⟨W,h1,h2,_⟩:=h;omega
theorem zuK (h:SeX S x):[(0:Int)].length*S.second.many.toNat≤PySem.sizeLine:=by obtain ⟨W,h1,h2,_⟩:=h;exact zao ↑147
theorem zww (h:SeX S x) (hx:((List.zip S.baskets x))[i]?=some p):zb1 p.1 p.2:=by
 obtain ⟨W,h1,h2,h3,h4⟩:=h
 exact ⟨by rw [h3 _ (List.mem_of_getElem? (zbV hx).1)];omega,h4 _ ↑169⟩
theorem zqI (h:SeX S x) (hx:((List.zip S.baskets x))[i]?=some p) (hs:(s.length:Int)=S.second.many):s.length=((zaB p.1 p.2)).length∧s.length≤1000:=by
 obtain ⟨W,h1,h2,h3,h4⟩:=h
 have e:((zaB p.1 p.2)).length=p.1.length:=Lat.zbw
 rw [e,h3 _ (List.mem_of_getElem? (zbV hx).1)]
 omega
theorem zwt (h:SeX S x) (hx:((List.zip S.baskets x))[i]?=some p) (hs:(s.length:Int)=S.second.many):zfa s (zaB p.1 p.2):=zqI h hx hs
theorem zwF (h:SeX S x) (hR:r=zcI S.second.many [(0:Int)]):(r.length:Int)=S.second.many:=by
 obtain ⟨W,h1,h2,h3,h4⟩:=h
 rw [hR,h1,Lat.zce]
theorem zwI (h:SeX S x) (hx:((List.zip S.baskets x))[i]?=some p) (hs:(s.length:Int)=S.second.many):((Let (zeP s (zaB p.1 p.2)) (λ(y:Ji)=>y)).length:Int)=S.second.many:=by
 have e:(zeP s (zaB p.1 p.2)).length=s.length:=Lat.zlJ (zqI h hx hs).1
 unfold Let
 rw [e];exact hs
end
noncomputable def m_Sender_sent (P0:SenderD) (P1:Ji):Ji :=
 (Let (zcI P0.second.many [(0:Int)]) (λ(v139:Ji) =>
 (Let (List.foldl (λ(s140:Ji) (x141:(Ji×Int))=>(Let (zeP s140 (zaB x141.1 x141.2)) (λ(v145:Ji) =>
 v145))) v139 (List.zip P0.baskets P1)) (λ(r146:Ji) =>
 r146))))
def zds (P0:SenderD) (P1:Ji):Prop:=SeP P0 P1
def zeD (K:W.Frag) (A:Adr):Sp:=Spv (ι:=SenderD×Ji) (λx=>[zdE A A.Sender x.1,dQ K (↑0 dI x.2)]) (λx=>zds x.1 x.2) (λx=>↥[dL (↑0 dI (m_Sender_sent x.1 x.2))])
theorem zc5:FnScope ["self","basket","reached","image","many"] ["self","basket"] (zai ze4):=↥5
theorem ziS (F:Fun K "sent" "Sender.sent" ze4 f fd) (T:Txt K mg A) (ybk:Callee P w K mg base ⇑1 2 "plus" ↑15 (zln K A)) (yas:Callee P w K mg base ⇑1 1 "refuse_bad_basket" ["book","basket"] (zd6 K A)) (yae:Callee P w K mg base ⇑1 1 "times" ["some","many"] (zfO K A)):FnOk P w K mg base ⇑1 3 f fd ["self","basket"] (zeD K A):=by
 refine F.okV zc5 ⇑5 ↑10
 obtain ⟨P0,P1⟩:=x
 have hu:=hr.units
 replace hp:zds P0 P1:=hp
 unfold zds at hp
 refine ⟨_,(zab (zdv (zaN yas ↑2 rfl zaK ↑[↑54,pv 1])) (zab (zap (i:=2) zc5.nd rfl (↥0 rfl) (zav zhf ↑123 (zaU (K:=K) rfl ↑54 rfl))) (zab (zbx ↑11 rfl (zb4 (K:=K) rfl rfl T.zip ↑[↑54,pv 1]) (zbd (K:=K) (n:=2) rfl rfl (zaD (zal (i:=3) zc5.nd rfl (↥0 rfl) (↥0 rfl)) (zaD (zal (i:=4) zc5.nd rfl (↥0 rfl) (↥0 rfl)) zbL))) (zab (zap (i:=2) zc5.nd rfl (↥0 rfl) (zaN ybk ↑2 rfl zaK ↑[pv 2,zaN yae ↑2 rfl zaK ↑[pv 3,pv 4]])) zae)) (zab (zaL (pv 2)) zae)))),.inl ?_⟩
 show L2.Run _ ([⇑[zdE A A.Sender P0],⇑[dQ K ↑7],.no,.no,.no]:L2.Ctx) _ (↑60 (m_Sender_sent P0 P1))
 unfold m_Sender_sent
 exact (zgp (m:=true) (Ev.any (m:=true) (zam (x:=(P0.first,P1)) (zac (zbC ↥2 T.Sender_cl T.Sender_first rfl) (zac ⇑8 zah)) rfl (by show zb3 P0.first P1;exact hp.1) rfl)) (zaq (m:=true) (x:=(zcI P0.second.many [(0:Int)])) lI ↑60 (EvO.ev (zfo (f:=dI) (xs:=[(0:Int)]) (n:=P0.second.many) ↑110 (Ev.any (m:=false) (zbC (zbC ↥2 T.Sender_cl T.Sender_second rfl) T.Book_cl T.Book_many rfl)) ↥(zwC hp.2) ↥(zuK hp.2))) (λv139 hv139=>have hR:=hv139;(zbp (s0:=v139) (λ(s140:Ji)=>([⇑[zdE A A.Sender P0],⇑[dQ K ↑7],↥[dL (↑0 dI s140)],.no,.no]:L2.Ctx)) ↑60 (λ(s140:Ji) (x141:(Ji×Int))=>(Let (zeP s140 (zaB x141.1 x141.2)) (λ(v145:Ji)=>v145))) (λ(i:Nat) (s140:Ji)=>(s140.length:Int)=P0.second.many) (zdT (m:=false) lI dI (xs:=P0.baskets) (ys:=P1) (Ev.weak (K:=K) (zbC ↥2 T.Sender_cl T.Sender_baskets rfl)) ⇑8) (.eq (.eq ↑74)) ↥(zwF hp.2 hR) (λi142 x141 s140 hx143 hI144=>have v143:=zbV hx143;⟨↥(zwI hp.2 ↑1 ↑1),(zaq (m:=true) (x:=(zeP s140 (zaB x141.1 x141.2))) lI (λz=>Oc.nx ((λ(s140:Ji)=>([⇑[zdE A A.Sender P0],⇑[dQ K ↑7],↥[dL (↑0 dI s140)],.no,.no]:L2.Ctx)) z)) (EvO.ev (EvO.anyI (m:=true) (zcp (x:=(s140,(zaB x141.1 x141.2))) (zac ↑107 (zac (Ev.weak (K:=K) (EvO.ev (EvO.anyI (m:=true) (zcp (x:=(x141.1,x141.2)) (zac ↑17 (zac ↑44 zah)) rfl (by show zb1 x141.1 x141.2;exact zww hp.2 ↑1) rfl)))) zah)) rfl (by show zfa s140 (zaB x141.1 x141.2);exact zwt hp.2 ↑1 ↑1) rfl))) (λv145 hv145=>have hR:=hv145;(zan ↑193)))⟩) (λr146 hr146 hI=>(zaj (zaA ↑31)))))))
theorem zjM {S:SenderD} {x:Ji} {W1 W2:Nat} (h:S.second.many=(W2:Int)) (hb:∀ r∈S.baskets,r.length=W2) (hl:S.baskets.length=W1) (hx:x.length=W1):(m_Sender_sent S x).length=W2∧∀ i,Lat.vec (m_Sender_sent S x) i=Lat.lsum ((List.range W1).map λ(w:Nat)=>Lat.vec x w*Lat.vec (ixD S.baskets (w:Int)) i):=by
 have k:=Lat.zgD (W:=W2) (F:=λ(s:Ji) (p:Ji×Int)=>zeP s (zaB p.1 p.2)) (c:=λp i=>Lat.vec p.1 i*p.2) (List.zip S.baskets x) (zcI S.second.many [(0:Int)]) (by rw [h,Lat.zce]) λs p hp hs=>by
  have hq:=hb _ ((List.of_mem_zip hp)).1
  have e:((zaB p.1 p.2)).length=p.1.length:=Lat.zbw
  have e1:s.length=((zaB p.1 p.2)).length:=by omega
  exact ⟨(Lat.zlJ (s:=zaB p.1 p.2) e1).trans hs,λi=>(Lat.zlM e1).trans (by rw [show Lat.vec (zaB p.1 p.2) i=Lat.vec p.1 i*p.2 from Lat.zd4])⟩
 refine ⟨k.1,λi=>(k.2 i).trans ?_⟩
 rw [h,Lat.zeC,Int.zero_add,Lat.zkN hl hx,List.map_map]
 exact Lat.zbE λw _=>by
  show Lat.vec (ixD S.baskets (w:Int)) i*ixD x (w:Int)=_
  rw [Lat.zbc,Int.mul_comm]
def SiP (a b:BookD) (bs:Jq):Prop:=zbr a b bs∧bs.length≤1000∧∀ s∈a.swaps,SeP ⟨a,b,bs⟩ s∧SnS b (m_Sender_sent ⟨a,b,bs⟩ s)∧Lat.SpL b.swaps (Lat.vec (m_Sender_sent ⟨a,b,bs⟩ s))
section
variable {a b:BookD} {bs:Jq} {i:Nat} {p:Int×Ji}
theorem zwV (h:SiP a b bs):bs.length≤PySem.sizeLine:=zao (by have:=h.2.1;omega)
theorem zvQ (q:i<a.swaps.length∧p.1=(i:Int)∧a.swaps[i]?=some p.2):p.2∈a.swaps:=List.mem_of_getElem? q.2.2
theorem zwX (h:SiP a b bs) (q:i<a.swaps.length∧p.1=(i:Int)∧a.swaps[i]?=some p.2):SeP ⟨a,b,↑0 ↑58 bs⟩ p.2:=by rw [zc0];exact (h.2.2 _ (zvQ q)).1
theorem zwx (h:SiP a b bs) (q:i<a.swaps.length∧p.1=(i:Int)∧a.swaps[i]?=some p.2):SnS b (m_Sender_sent ⟨a,b,↑0 ↑58 bs⟩ p.2):=by rw [zc0];exact (h.2.2 _ (zvQ q)).2.1
theorem zwS {c:Option (LineD⊕RestD)} (h:SiP a b bs) (q:i<a.swaps.length∧p.1=(i:Int)∧a.swaps[i]?=some p.2) (hC:c=(m_shown b (m_Sender_sent ⟨a,b,↑0 ↑58 bs⟩ p.2)).2):c.isSome=false:=by
 rw [hC];rfl
end
noncomputable def m_Sender (P0:BookD) (P1:BookD) (P2:Jq):SenderD:=⟨P0,P1,(↑0 (λ(x147:Ji)=>x147) P2)⟩
def zcq (P0:BookD) (P1:BookD) (P2:Jq):Prop:=SiP P0 P1 P2
def zey (K:W.Frag) (A:Adr):Sp:=zvL (ι:=BookD×BookD×Jq) A.Sender "first" "second" "baskets" (λx=>zbG A.Book x.1) (λx=>zbG A.Book x.2.1) (λx=>dQ K (↑0 lI x.2.2)) (λx=>zcq x.1 x.2.1 x.2.2) (λx=>dL (↑0 lI ((m_Sender x.1 x.2.1 x.2.2).baskets)))
theorem zcF:FnScope ["self","first","second","baskets","place","swap","scale"] ["self","first","second","baskets"] (zai zcY):=↥5
theorem zgJ (F:Fun K "__init__" "Sender.__init__" zcY f fd) (T:Txt K mg A) (yaW:CalleeM P w K mg base ⇑1 3 A.Sender "sent" ["self","basket"] (zeD K A)) (yaq:Callee P w K mg base ⇑1 1 "refuse_bad_baskets" ["first","second","baskets"] (zdS K A)) (ycu:Callee P w K mg base ⇑1 6 "shown" ["book","basket"] (zmy K A)):FnOk P w K mg base ⇑1 7 f fd ["self","first","second","baskets"] (zey K A):=by
 refine F.okI (ι:=V×V×BookD×BookD×Jq) zcF ⇑5 ↑10
 obtain ⟨v1,v2,P0,P1,P2⟩:=x
 have hu:=hr.units
 replace hp:zcq P0 P1 P2:=hp
 unfold zcq at hp
 refine ⟨_,(zab (zdv (zaN yaq ↑2 rfl zaK ↑[pv 1,pv 2,pv 3])) (zab (zhq (pv 0) (pv 1) rfl) (zab (zhq (pv 0) (pv 2) rfl) (zab (zhq (pv 0) (zb9 rfl (.of (osc:=(zai zcY)) (N:=["self","first","second","baskets","place","swap","scale"]) (own:=["basket"]) (fvn:=[]) (fv:=[]) rfl rfl ↑6) (zaM (K:=K) rfl (pv 3)) (λ_ _ _ _ _=>⟨(zal (i:=0) (show (["basket"]:List Str).Nodup by decide +kernel) rfl (↥0 rfl) ⇑7),za7,↑160⟩)) rfl) (zab (zbx ↑11 rfl (zig rfl rfl T.enumerate ↑[↑149]) (zbd (K:=K) (n:=2) rfl rfl (zaD (zal (i:=4) zcF.nd rfl (↥0 rfl) (↥0 rfl)) (zaD (zal (i:=5) zcF.nd rfl (↥0 rfl) (↥0 rfl)) zbL))) (zab (zap (i:=6) zcF.nd rfl (↥0 rfl) (zaR ↑96 (zaN ycu ↑2 rfl zaK ↑[pv 2,zsN (pv 0) T.Sender_cl yaW ↑2 zaK ↑[pv 5]]) zag ↥4)) (zab (zbQ (zaG zoC (pv 6) zk0 (zaQ _)) (zab zdp zae) zae) zae))) zae))))),λp dx=>⟨([.ob true A.Sender p dx [("first",dV v1),("second",dV v2),("baskets",dL (↑0 lI (↑0 (λ(x147:Ji)=>x147) P2)))],⇑[dX (v1) (zbG A.Book P0)],⇑[dX (v2) (zbG A.Book P1)],⇑[dQ K ↑59],.no,.no,.no]:L2.Ctx),?_,rfl⟩⟩
 show L2.Run _ ([.ob true A.Sender p dx [],⇑[dX (v1) (zbG A.Book P0)],⇑[dX (v2) (zbG A.Book P1)],⇑[dQ K ↑59],.no,.no,.no]:L2.Ctx) _ _
 exact (zgp (m:=true) (Ev.any (m:=true) (zam (x:=(P0,P1,P2)) (zac (zjv (i:=1) rfl) (zac (zjv (i:=2) rfl) (zac ↑33 zah))) rfl (by show zbr P0 P1 P2;exact hp.1) rfl)) (zes (i:=0) rfl (zor (i:=1) rfl) T.Sender_cl T.Sender_first [] rfl ↑6 ↥1 (zes (i:=0) rfl (zor (i:=2) rfl) T.Sender_cl T.Sender_second ["first"] rfl ↑6 ↥1 (zes (i:=0) rfl (EvO.ev (EvO.conv (zbJ (g:=(λ(x147:Ji)=>dL (↑0 dI x147))) (za6 (m:=false) lI (xs:=P2) ↑33) ↥(zwV hp) ⇑4 (λi148 x147 hx149=>have v149:=List.mem_of_getElem? hx149;(EvO.ev (EvO.anyI (m:=false) (zfp ↑26))))) ↑12)) T.Sender_cl T.Sender_baskets ["first","second"] rfl ↑6 ↥1 (zkJ (s0:=()) (λ(s150:Unit)=>([.ob true A.Sender p dx [("first",dV v1),("second",dV v2),("baskets",dL (↑0 lI (↑0 (λ(x147:Ji)=>x147) P2)))],⇑[dX (v1) (zbG A.Book P0)],⇑[dX (v2) (zbG A.Book P1)],⇑[dQ K ↑59],.no,.no,.no]:L2.Ctx)) (λ(s150:Unit) (x151:(Int×Ji))=>(Let ((m_shown P1 (m_Sender_sent ↑185 x151.2)).2) (λ(v155:(Option (LineD⊕RestD)))=>()))) ↑68 (ziD (m:=false) lI (xs:=P0.swaps) (Ev.weak (K:=K) (zbC (zjv (i:=1) rfl) T.Book_cl T.Book_swaps rfl))) (.eq ↑13) trivial (λi152 x151 s150 hx153 hI154=>have v153:=zdU hx153;⟨trivial,(zaq (m:=true) (x:=(m_shown P1 (m_Sender_sent ↑185 x151.2)).2) (kk:=λ(v155:(Option (LineD⊕RestD)))=>()) (dOpt (dSc A)) (λz=>Oc.nx ((λ(s150:Unit)=>([.ob true A.Sender p dx [("first",dV v1),("second",dV v2),("baskets",dL (↑0 lI (↑0 (λ(x147:Ji)=>x147) P2)))],⇑[dX (v1) (zbG A.Book P0)],⇑[dX (v2) (zbG A.Book P1)],⇑[dQ K ↑59],.no,.no,.no]:L2.Ctx)) z)) (EvN.ev (EvN.borrowBX (i:=0) (i1:=1) (i2:=2) rfl rfl ↥1 ↥1 rfl rfl (zqq (za1 (zam (x:=(P1,(m_Sender_sent ↑185 x151.2))) (zac (zjv (i:=2) rfl) (zac (Ev.old (zhI (x:=(↑185,x151.2)) ↥2 (zac ↑63 zah) rfl (by show zds ↑185 x151.2;exact zwX hp ↑1) rfl rfl)) zah)) rfl (by show zgE P1 (m_Sender_sent ↑185 x151.2);exact zwx hp ↑1) rfl) zaJ rfl)))) (λv155 hv155=>have hC:=hv155;(zb6 (EvT.conv (zau (zhm (x:=v155) (f:=(dSc A)) (Ev.old ↑40) zaJ zwm)) ↥(zwS hp ↑1 hC)) (zat (zan (.eq ↑189))))))⟩) (zan (Wk.refl _)))))))
def ClP (f:SenderD):Prop:=MkQ f.baskets∧PdP f.second.swaps f.first.many∧(zcc f.baskets).length+(zcT f.second.swaps f.first.many).length≤PySem.sizeLine∧Lat.zot (zcc f.baskets++zcT f.second.swaps f.first.many)
noncomputable def za3 (P0:SenderD):Jq :=
 (zbq ↑275)
def zdc (P0:SenderD):Prop:=ClP P0
def zel (K:W.Frag) (A:Adr):Sp:=Spv (ι:=SenderD) (λx=>[zdE A A.Sender x]) (λx=>zdc x) (λx=>↥[dL (↑0 lI (za3 x))])
theorem zin:FnScope ["self"] ["self"] (zai zeH):=↥5
theorem zh5 (F:Fun K "climb" "Sender.climb" zeH f fd) (T:Txt K mg A) (yan:Callee P w K mg base ⇑1 5 "climbed" ["rows"] (zfN K A)) (yaK:Callee P w K mg base ⇑1 1 "marked" ["rows"] (zij K A)) (yca:Callee P w K mg base ⇑1 1 "padded" ["rows","many"] (zkn K A)):FnOk P w K mg base ⇑1 6 f fd ["self"] (zel K A):=by
 refine F.okV zin ⇑5 ↑61
 have hu:=hr.units
 replace hp:zdc P0:=hp
 unfold zdc at hp
 refine ⟨_,(zab (zaL (zaN yan ↑2 rfl zaK ↑[(zav zeR (zaN yaK ↑2 rfl zaK ↑[↑54]) (zaN yca ↑2 rfl zaK ↑[(zaU (K:=K) rfl ↑54 rfl),(zaU (K:=K) rfl ↑54 rfl)]))])) zae),.inl ?_⟩
 show L2.Run _ ([⇑[zdE A A.Sender P0]]:L2.Ctx) _ (↑69 (za3 P0))
 unfold za3
 exact (zaj (zaA (zam (x:=↑275) (zac (Ev.old (Ev.weak (K:=K) (EvO.ev (zdG (f:=lI) (xs:=(zcc P0.baskets)) (ys:=(zcT P0.second.swaps P0.first.many)) (zam (x:=P0.baskets) (zac (Ev.weak (K:=K) (zbC ↥2 T.Sender_cl T.Sender_baskets rfl)) zah) rfl (by show zeS P0.baskets;exact hp.1) rfl) (zam (x:=(P0.second.swaps,P0.first.many)) (zac (Ev.weak (K:=K) (zbC (zbC ↥2 T.Sender_cl T.Sender_second rfl) T.Book_cl T.Book_swaps rfl)) (zac (Ev.any (m:=false) (zbC (zbC ↥2 T.Sender_cl T.Sender_first rfl) T.Book_cl T.Book_many rfl)) zah)) rfl (by show zf2 P0.second.swaps P0.first.many;exact hp.2.1) rfl) ↥(hp.2.2.1))))) zah) rfl (by show zdK ↑275;exact hp.2.2.2) rfl)))
def LoP (f:SenderD):Prop:=ClP f∧(za3 f).length≤1000∧zbu f.first.many (zdo (za3 f) f.second.many)
noncomputable def zaS (P0:SenderD):BookD :=
 (zi5 P0.first.many (zdo (za3 P0) P0.second.many))
def zcf (P0:SenderD):Prop:=LoP P0
def zeB (K:W.Frag) (A:Adr):Sp:=Spv (ι:=SenderD) (λx=>[zdE A A.Sender x]) (λx=>zcf x) (λx=>↥[zbG A.Book (zaS x)])
theorem ziT:FnScope ["self"] ["self"] (zai ze3):=↥5
theorem ziM (F:Fun K "lost" "Sender.lost" ze3 f fd) (T:Txt K mg A) (yaL:CalleeM P w K mg base ⇑1 6 A.Sender "climb" ["self"] (zel K A)) (ycv:Callee P w K mg base ⇑1 2 "tails" ["steps","many"] (zl7 K A)) {ybH:Addr} {ybl:FuncData} (ybm:Mk K A.Book ybH) (yag:FnOk P w K mg base ⇑1 1 ybH ybl ["self","many","swaps"] (zd2 K A)) (yah:zf5 K ybl ["self","many","swaps"] []):FnOk P w K mg base ⇑1 7 f fd ["self"] (zeB K A):=by
 refine F.okV ziT ⇑5 ↑61
 have hu:=hr.units
 replace hp:zcf P0:=hp
 unfold zcf at hp
 refine ⟨_,(zab (zaL (zjP ybm yag ↑2 rfl T.Book yah .nil zaK ↑[(zaU (K:=K) rfl ↑54 rfl),(zaN ycv ↑2 rfl zaK ↑[zlk (pv 0) T.Sender_cl yaL ↑2 zaK,(zaU (K:=K) rfl ↑54 rfl)])])) zae),.inl ?_⟩
 show L2.Run _ ([⇑[zdE A A.Sender P0]]:L2.Ctx) _ ((λ(r:BookD)=>Oc.rt true (zbG A.Book r)) (zaS P0))
 unfold zaS
 exact (zaj (zaA (znj (i:=(P0.first.many,(zdo (za3 P0) P0.second.many))) (zac (Ev.any (m:=false) (zbC (zbC ↥2 T.Sender_cl T.Sender_first rfl) T.Book_cl T.Book_many rfl)) (zac (Ev.old (Ev.weak (K:=K) (zam (x:=((za3 P0 ),P0.second.many)) (zac (Ev.old (Ev.weak (K:=K) (zhI (x:=(P0)) ↥2 zah rfl (by show zdc P0;exact hp.1) rfl rfl))) (zac (Ev.any (m:=false) (zbC (zbC ↥2 T.Sender_cl T.Sender_second rfl) T.Book_cl T.Book_many rfl)) zah)) rfl (by show zgH (za3 P0 ) P0.second.many;exact hp.2.1) rfl))) zah)) rfl (by show zbu P0.first.many (zdo (za3 P0) P0.second.many);exact hp.2.2))))
noncomputable def zgw (P0:Jq) (P1:Ji) (P2:Jq):StairsD:=⟨P0,P1,P2⟩
def zck (P0:Jq) (P1:Ji) (P2:Jq):Prop:=True
def zeq (K:W.Frag) (A:Adr):Sp:=zsq (ι:=Jq×Ji×Jq) A.Stairs (λx=>[dL (↑0 lI x.1),dL (↑0 dI x.2.1),dL (↑0 lI x.2.2)]) (λx=>zck x.1 x.2.1 x.2.2) false (λx=>[("steps",dL (↑0 lI ((zgw x.1 x.2.1 x.2.2).steps))),("heads",dL (↑0 dI ((zgw x.1 x.2.1 x.2.2).heads))),("roads",dL (↑0 lI ((zgw x.1 x.2.1 x.2.2).roads)))])
theorem zgq:FnScope ["self","steps","heads","roads"] ["self","steps","heads","roads"] (zai zdC):=↥5
theorem zgO (F:Fun K "__init__" "Stairs.__init__" zdC f fd) (T:Txt K mg A) :FnOk P w K mg base ⇑1 1 f fd ["self","steps","heads","roads"] (zeq K A):=by
 refine F.okI zgq ⇑5 ↑10
 obtain ⟨P0,P1,P2⟩:=x
 have hu:=hr.units
 replace hp:zck P0 P1 P2:=hp
 unfold zck at hp
 refine ⟨_,(zab (zhq (pv 0) (pv 1) rfl) (zab (zhq (pv 0) (pv 2) rfl) (zab (zhq (pv 0) (pv 3) rfl) zae))),λp dx=>⟨([.ob false A.Stairs p dx [("steps",dL ↥6),("heads",dL ↑7),("roads",dL ↑59)],⇑[dL ↥6],⇑[dL ↑7],⇑[dL ↑59]]:L2.Ctx),?_,rfl⟩⟩
 show L2.Run _ ([.ob false A.Stairs p dx [],⇑[dL ↥6],⇑[dL ↑7],⇑[dL ↑59]]:L2.Ctx) _ _
 exact (zes (i:=0) rfl ⇑8 T.Stairs_cl T.Stairs_steps [] rfl ↑6 ↥1 (zes (i:=0) rfl ↑31 T.Stairs_cl T.Stairs_heads ["steps"] rfl ↑6 ↥1 (zes (i:=0) rfl ↑33 T.Stairs_cl T.Stairs_roads ["steps","heads"] rfl ↑6 ↥1 (zan (Wk.refl _)))))
noncomputable def zco (P0:BookD):StairsD :=
 (Let (↑0 (λ(x158:Ji)=>x158) (List.filter (λ(x158:Ji)=>(decide ((zak x158)<P0.many))) (zcV P0.swaps))) (λ(v161:Jq) =>
 (Let (↑0 (λ(x162:Ji)=>(zbI x162 none (some P0.many))) v161) (λ(v165:Jq) =>
 (Let (↑0 (λ(x166:Ji)=>(zak x166)) v161) (λ(hv169:Ji) =>
 (Let (↑0 (λ(x170:Ji)=>(zbI x170 (some P0.many) none)) v161) (λ(v173:Jq) =>
 (zgw v165 hv169 v173)))))))))
def zeL (P0:BookD):Prop:=TrQ P0.swaps∧0≤P0.many∧P0.many≤100
def zks (K:W.Frag) (A:Adr):Sp:=Spv (ι:=BookD) (λx=>[zbG A.Book x]) (λx=>zeL x) (λx=>↥[zgb A.Stairs (zco x)])
theorem zfu:FnScope ["book","rows","steps","heads","roads"] ["book"] (zai zff):=↥5
theorem zoO (F:Fun K "stairs" "stairs" zff f fd) (T:Txt K mg A) (yab:Callee P w K mg base ⇑1 1 "head_of" ["row"] (zcZ K A)) (ycb:Callee P w K mg base ⇑1 6 "traced" ["rows"] (zkY K A)) {yda:Addr} {ycR:FuncData} (ycc:Mk K A.Stairs yda) (yaw:FnOk P w K mg base ⇑1 1 yda ycR ["self","steps","heads","roads"] (zeq K A)) (yax:zf5 K ycR ["self","steps","heads","roads"] []):FnOk P w K mg base ⇑1 7 f fd ["book"] (zks K A):=by
 refine F.okV zfu ⇑5 ↑61
 have hu:=hr.units
 replace hp:zeL P0:=hp
 unfold zeL at hp
 refine ⟨_,(zab (zc1 (i:=1) rfl zfu.nd rfl rfl (.of (osc:=(zai zff)) (N:=["book","rows","steps","heads","roads"]) (own:=["row"]) (fvn:=["book"]) (fv:=[0]) rfl rfl ↑6) (zaM (K:=K) rfl (zaN ycb ↑2 rfl zaK ↑[↑54])) (λ_ _ _ _ _=>⟨↑252,(zlL (zaG zj3 ↑195 ↑149 (zaQ _))),(pv 0)⟩)) (zab (zc1 (i:=2) rfl zfu.nd rfl rfl (.of (osc:=(zai zff)) (N:=["book","rows","steps","heads","roads"]) (own:=["row"]) (fvn:=["book"]) (fv:=[0]) rfl rfl ↑6) (zaM (K:=K) rfl (pv 1)) (λ_ _ _ _ _=>⟨↑252,za7,(zch ↑66 (pv 0) zdI (zcM ↑149))⟩)) (zab (zc1 (i:=3) rfl zfu.nd rfl rfl (.of (osc:=(zai zff)) (N:=["book","rows","steps","heads","roads"]) (own:=["row"]) (fvn:=[]) (fv:=[]) rfl rfl ↑6) (zaM (K:=K) rfl (pv 1)) (λ_ _ _ _ _=>⟨(zal (i:=0) (show (["row"]:List Str).Nodup by decide +kernel) rfl (↥0 rfl) ⇑7),za7,↑195⟩)) (zab (zc1 (i:=4) rfl zfu.nd rfl rfl (.of (osc:=(zai zff)) (N:=["book","rows","steps","heads","roads"]) (own:=["row"]) (fvn:=["book"]) (fv:=[0]) rfl rfl ↑6) (zaM (K:=K) rfl (pv 1)) (λ_ _ _ _ _=>⟨↑252,za7,(zch ↑66 (pv 0) (zcM ↑149) zdI)⟩)) (zab (zaL (zjP ycc yaw ↑2 rfl T.Stairs yax .nil zaK ↑[pv 2,pv 3,pv 4])) zae))))),.inl ?_⟩
 show L2.Run _ ([⇑[zbG A.Book P0],.no,.no,.no,.no]:L2.Ctx) _ (↑230 (zco P0))
 unfold zco
 exact (zaq (m:=true) (x:=(↑0 (λ(x158:Ji)=>x158) (List.filter (λ(x158:Ji)=>(decide ((zak x158)<P0.many))) (zcV P0.swaps)))) ↑114 ↑230 (EvO.ev (EvO.conv (zjR (c:=λ(x158:Ji)=>(decide ((zak x158)<P0.many))) (g:=(λ(x158:Ji)=>dL (↑0 dI x158))) (za6 (m:=true) lI (xs:=(zcV P0.swaps)) (Ev.weak (K:=K) (zam (x:=P0.swaps) (zac (Ev.weak (K:=K) (zbC ↥2 T.Book_cl T.Book_swaps rfl)) zah) rfl (by show zfT P0.swaps;exact hp.1) rfl))) ↥(zsw hp.1) ⇑4 (λi159 x158 hx160=>have v160:=List.mem_of_getElem? hx160;(zau (zaP (x:=(zak x158)) (y:=P0.many) (Ev.any (m:=true) (zam (x:=x158) (zac (Ev.old ↑26) zah) rfl (by show za9 x158;exact trivial) rfl)) ↑221))) (λi159 x158 hx160 hc=>have v160:=List.mem_of_getElem? hx160;↥2)) ↑12)) (λv161 hv161=>have hR:=zpt hp.1 hv161;(zaq (m:=true) (x:=(↑0 (λ(x162:Ji)=>(zbI x162 none (some P0.many))) v161)) ↑114 ↑230 (EvO.ev (EvO.conv (zbJ (g:=(λ(x162:Ji)=>dL (↑0 dI (zbI x162 none (some P0.many))))) (za6 (m:=true) lI (xs:=v161) ↑171) ↥(zao ⇑0) ⇑4 (λi163 x162 hx164=>have v164:=List.mem_of_getElem? hx164;(EvO.ev (EvO.anyI (m:=true) (zdj (f:=dI) (xs:=x162) ↑26 zcU (zb5 ↑221)))))) ↑12)) (λv165 hv165=>(zaq (m:=true) (x:=(↑0 (λ(x166:Ji)=>(zak x166)) v161)) lI ↑230 (EvO.ev (EvO.conv (zbJ (g:=(λ(x166:Ji)=>dI (zak x166))) (za6 (m:=true) lI (xs:=v161) ↑171) ↥(zao ⇑0) ⇑4 (λi167 x166 hx168=>have v168:=List.mem_of_getElem? hx168;(Ev.any (m:=true) (zam (x:=x166) (zac (Ev.old ↑26) zah) rfl (by show za9 x166;exact trivial) rfl)))) ↑12)) (λhv169 hheads169=>(zaq (m:=true) (x:=(↑0 (λ(x170:Ji)=>(zbI x170 (some P0.many) none)) v161)) ↑114 ↑230 (EvO.ev (EvO.conv (zbJ (g:=(λ(x170:Ji)=>dL (↑0 dI (zbI x170 (some P0.many) none)))) (za6 (m:=true) lI (xs:=v161) ↑171) ↥(zao ⇑0) ⇑4 (λi171 x170 hx172=>have v172:=List.mem_of_getElem? hx172;(EvO.ev (EvO.anyI (m:=true) (zdj (f:=dI) (xs:=x170) ↑26 (zb5 ↑221) zcU))))) ↑12)) (λv173 hv173=>(zaj (zaA (zpA (i:=(v165,hv169,v173)) (zac ↑31 (zac ↑33 (zac ↑105 zah))) rfl (by show zck v165 hv169 v173;exact trivial))))))))))))
noncomputable def zf6 (n:Nat) (sw:Jq):Jq:=List.filter (λ(x:Ji)=>decide (Lat.hd x<n)) (Lat.clm Lat.MG (Lat.mark sw))
theorem zhO {b:BookD} {n:Nat} (hn:b.many=(n:Int)):zco b=⟨Lat.zi6 n (Lat.clm Lat.MG (Lat.mark b.swaps)),↑0 (λ(x:Ji)=>(Lat.hd x:Int)) (zf6 n b.swaps),↑0 (λ(x:Ji)=>x.drop n) (zf6 n b.swaps)⟩:=by
 unfold zco zgw Let
 simp only [zkk,zcB,hn,zpJ,Lat.zfX]
 have e:(λ(x:Ji)=>decide ((Lat.hd x:Int)<(n:Int)))=λ(x:Ji)=>decide (Lat.hd x<n):=funext λx=>by simp
 rw [e,List.map_id']
 rfl
theorem zqR {n:Nat} {sw:Jq} (h:∀ r∈sw,r.length=n):Lat.zi6 n (Lat.clm Lat.MG (Lat.mark sw))=Lat.clm Lat.MG sw:=by
 have T:=Lat.zbv (n:=n+sw.length) (rows:=Lat.mark sw) λm hm=>by
  obtain ⟨i,r,hr,rfl⟩:=Lat.zdO hm
  rw [List.length_append,h r ↑131,Lat.ze9]
 refine (Lat.Stairs.cut (rows:=sw) (Nat.le_add_right n _) T.1 (λm hm=>?_) λr hr=>?_).one (Lat.zbv h).1 (λ_ hr=>Lat.SpL.mem hr) λ_ hr=>Lat.SpL.mem hr
 ·obtain ⟨i,r,hr,rfl⟩:=Lat.zdO hm
  have hm:=List.mem_of_getElem? hr
  exact ⟨r,hm,by rw [List.take_append_of_le_length (by rw [h r hm];exact ↑4 _),List.take_of_length_le (by rw [h r hm];exact ↑4 _)]⟩
 ·obtain ⟨i,hi⟩:=List.getElem?_of_mem hr
  exact ⟨_,Lat.ziz hi,by rw [List.take_append_of_le_length (by rw [h r hr];exact ↑4 _),List.take_of_length_le (by rw [h r hr];exact ↑4 _)]⟩
def BkQ (b:BookD):Prop:=∃ n s:Nat,b.many=(n:Int)∧1≤n∧n≤8∧TrQ b.swaps∧Lat.Cb n s b.swaps
theorem BkQ.st {b:BookD} (h:BkQ b):zeL b:=by
 obtain ⟨n,s,h1,h2,h3,h4,h5⟩:=h
 exact ⟨h4,by omega,by omega⟩
theorem BkQ.sd {b:BookD} (h:BkQ b):∃ n s:Nat,b.many=(n:Int)∧n≤8∧(zco b).steps=Lat.clm Lat.MG b.swaps∧(zco b).steps.length≤n∧∀ t∈(zco b).steps,Lat.Sd n s t:=by
 obtain ⟨n,s,h1,h2,h3,h4,h5⟩:=h
 have e:(zco b).steps=Lat.clm Lat.MG b.swaps:=by rw [zhO h1];exact zqR λr hr=>(h5.mem hr).1
 have hl:=h5.len (i:=b.swaps.length)
 rw [List.take_length] at hl
 exact ⟨n,s,h1,h3,e,by rw [e];exact hl,by rw [e];exact h5.sd⟩
theorem zuv {b:BookD} {f:StairsD} {i:Nat} {x:Ji×Int} (h:BkQ b) (e:f=zco b) (q:f.steps[i]?=some x.1∧f.heads[i]?=some x.2):InB x.1.length x.2:=by
 obtain ⟨n,s,h1,h2,h3,h4,h5⟩:=h
 have T:=Lat.zkv λr hr=>(h5.mem hr).1
 rw [e,zhO h1] at q
 obtain ⟨q1,q2⟩:=q
 have q1:((↑0 (λ(x:Ji)=>x.take n) (zf6 n b.swaps)))[i]?=some x.1:=q1
 have q2:((↑0 (λ(x:Ji)=>(Lat.hd x:Int)) (zf6 n b.swaps)))[i]?=some x.2:=q2
 rw [List.getElem?_map] at q1 q2
 cases hk:(zf6 n b.swaps)[i]? with
 | none=>rw [hk] at q1;cases q1
 | some t =>
  rw [hk] at q1 q2
  have q1:t.take n=x.1:=Option.some.inj q1
  have q2:(Lat.hd t:Int)=x.2:=Option.some.inj q2
  have hm:=List.mem_of_getElem? hk
  unfold zf6 at hm
  obtain ⟨m1,m2⟩:=List.mem_filter.mp hm
  have r1:=T.st.ech.mem t m1
  have m2:Lat.hd t<n:=by simpa using m2
  rw [← q1,← q2]
  unfold InB
  rw [List.length_take]
  omega
theorem ztQ {b:BookD} {f:StairsD} (h:BkQ b) (e:f=zco b):(List.zip f.steps f.heads).length≤PySem.sizeLine:=by
 obtain ⟨n,s,h1,h2,h3,h4,h5⟩:=h.sd
 rw [e];exact zao ↑164
def PrP (xs:Ji):Prop:=xs.length≤13∧∀ x∈xs,0<x∧x.natAbs≤2^8980
def PrI (i:Nat) (s:Int):Prop:=0<s∧s.natAbs≤2^(8980*i)
theorem zwM:PrI 0 1:=⇑4
theorem zwL {xs:Ji} {i:Nat} {s x:Int} (hp:PrP xs) (h:x∈xs) (I:PrI i s):PrI (i+1) (Let (s*x) (λ(y:Int)=>y)):=by
 have:=hp.2 x h
 refine ⟨Int.mul_pos I.1 this.1,?_⟩
 show (s*x).natAbs≤_
 rw [Int.natAbs_mul,Nat.mul_succ,Nat.pow_add]
 exact Nat.mul_le_mul I.2 this.2
theorem zsW {xs:Ji} {i:Nat} {s x:Int} (hp:PrP xs) (hx:xs[i]?=some x) (I:PrI i s):zcK s x :=
 Lat.zcK.of I.2 (hp.2 x ↑169).2 (by have:=(↑234).1;have:=hp.1;omega) ↥1
noncomputable def zbf (P0:BookD):Ji :=
 (Let (zco P0) (λ(v174:StairsD) =>
 (↑0 (λ(x175:(Ji×Int))=>(ixD x175.1 x175.2)) (List.zip v174.steps v174.heads))))
def zc6 (P0:BookD):Prop:=BkQ P0
def zfv (K:W.Frag) (A:Adr):Sp:=Spv (ι:=BookD) (λx=>[zbG A.Book x]) (λx=>zc6 x) (λx=>↥[dL (↑0 dI (zbf x))])
theorem zfx:FnScope ["book","flight"] ["book"] (zai zdQ):=↥5
theorem zhH (F:Fun K "head_numbers" "head_numbers" zdQ f fd) (T:Txt K mg A) (ycd:Callee P w K mg base ⇑1 7 "stairs" ["book"] (zks K A)):FnOk P w K mg base ⇑1 8 f fd ["book"] (zfv K A):=by
 refine F.okV zfx ⇑5 ↑61
 have hu:=hr.units
 replace hp:zc6 P0:=hp
 unfold zc6 at hp
 refine ⟨_,(zab (zap (i:=1) zfx.nd rfl (↥0 rfl) (zaN ycd ↑2 rfl zaK ↑[pv 0])) (zab (zaL (zb9 rfl (.of (osc:=(zai zdQ)) (N:=["book","flight"]) (own:=["step","head"]) (fvn:=[]) (fv:=[]) rfl rfl ↑6) (zb4 (K:=K) rfl rfl T.zip ↑[↑149,↑149]) (λ_ _ _ _ _=>⟨(zbd (K:=K) (n:=2) rfl rfl (zaD (zal (i:=0) (show (["step","head"]:List Str).Nodup by decide+kernel) rfl (↥0 rfl) ⇑7) (zaD (zal (i:=1) (show (["step","head"]:List Str).Nodup by decide+kernel) rfl (↥0 rfl) ⇑7) zbL))),za7,(zaR ↥7 (pv 0) (pv 1) ↥4)⟩))) zae)),.inl ?_⟩
 show L2.Run _ ([⇑[zbG A.Book P0],.no]:L2.Ctx) _ (↑60 (zbf P0))
 unfold zbf
 exact (zaq (m:=true) (x:=(zco P0)) (zgb A.Stairs) ↑60 (zam (x:=P0) (zac ↥2 zah) rfl (by show zeL P0;exact hp.st) rfl) (λv174 hv174=>have hF:=hv174;(zaj (zaA (EvO.ev (EvO.conv (zbJ (g:=(λ(x175:(Ji×Int))=>dI (ixD x175.1 x175.2))) (zdT (m:=true) lI dI (xs:=v174.steps) (ys:=v174.heads) (Ev.weak (K:=K) (zbC ⇑8 T.Stairs_cl T.Stairs_steps rfl)) (Ev.weak (K:=K) (zbC ⇑8 T.Stairs_cl T.Stairs_heads rfl))) ↥(ztQ hp hF) ⇑4 (λi176 x175 hx177=>have v177:=zbV hx177;(Ev.any (m:=true) (zbe (f:=dI) (xs:=x175.1) ↑26 ↑42 ↥(zuv hp hF ↑1))))) ↑12))))))
theorem BkQ.hn {b:BookD} (h:BkQ b):zbf b=Lat.hds ↑98:=by
 obtain ⟨n,s,h1,h2,h3,h4,h5⟩:=h
 have hl:∀ r∈b.swaps,r.length=n:=λr hr=>(h5.mem hr).1
 have T:=Lat.zkv hl
 unfold zbf Let
 dsimp only
 rw [zhO h1,← zqR hl]
 show ↑0 (λ(x:Ji×Int)=>ixD x.1 x.2) (List.zip (↑0 (λ(x:Ji)=>x.take n) (zf6 n b.swaps)) (↑0 (λ(x:Ji)=>(Lat.hd x:Int)) (zf6 n b.swaps)))=↑0 (λ(t:Ji)=>Lat.vec t (Lat.hd t)) (↑0 (λ(x:Ji)=>x.take n) (zf6 n b.swaps))
 rw [List.zip_map',List.map_map,List.map_map]
 refine List.map_congr_left λx hx=>?_
 unfold zf6 at hx
 obtain ⟨h1,h2⟩:=List.mem_filter.mp hx
 have h3:=T.st.ech.mem x h1
 have h4:Lat.hd x<n:=by simpa using h2
 show ixD (x.take n) (Lat.hd x:Int)=Lat.vec (x.take n) (Lat.hd (x.take n))
 rw [Lat.zjH h4 ⇑0,Lat.zbc]
theorem BkQ.prp {b:BookD} (h:BkQ b):PrP (zbf b):=by
 obtain ⟨n,s,h1,h2,h3,h4,h5⟩:=h.sd
 rw [h.hn,← h3]
 refine ⟨by rw [Lat.zjC];omega,λx hx=>?_⟩
 obtain ⟨t,ht,rfl⟩:=List.mem_map.mp hx
 exact ⟨(h5 t ht).pos,(h5 t ht).top⟩
noncomputable def zdZ (P0:Ji):Int :=
 (Let (List.foldl (λ(s178:Int) (x179:Int)=>(Let (s178*x179) (λ(v183:Int) =>
 v183))) (1:Int) P0) (λ(r184:Int) =>
 r184))
def ze6 (P0:Ji):Prop:=PrP P0
def zi3 (K:W.Frag) (A:Adr):Sp:=Spv (ι:=Ji) (λx=>[dQ K (↑0 dI x)]) (λx=>ze6 x) (λx=>↥[dI (zdZ x)])
theorem zf0:FnScope ["numbers","many","number"] ["numbers"] (zai zid):=↥5
theorem zmF (F:Fun K "product" "product" zid f fd) (T:Txt K mg A) :FnOk P w K mg base ⇑1 1 f fd ["numbers"] (zi3 K A):=by
 refine F.okV zf0 ⇑5 ↑61
 have hu:=hr.units
 replace hp:ze6 P0:=hp
 unfold ze6 at hp
 refine ⟨_,(zab (zap (i:=1) zf0.nd rfl (↥0 rfl) zag) (zab (zbx ↑11 rfl ↑152 (zal (i:=2) zf0.nd rfl (↥0 rfl) (↥0 rfl)) (zab (zap (i:=1) zf0.nd rfl (↥0 rfl) (zav zbh (pv 1) (pv 2))) zae)) (zab (zaL (pv 1)) zae))),.inl ?_⟩
 show L2.Run _ ([⇑[dQ K ↑14],.no,.no]:L2.Ctx) _ (↑18 (zdZ P0))
 unfold zdZ
 exact (zba (m:=true) zaJ (zbp (s0:=(1:Int)) (λ(s178:Int)=>([⇑[dQ K ↑14],↥[dI s178],.no]:L2.Ctx)) ↑18 (λ(s178:Int) (x179:Int)=>(Let (s178*x179) (λ(v183:Int)=>v183))) (λ(i:Nat) (s178:Int)=>PrI i s178) (za6 (m:=false) dI (xs:=P0) ↥2) ↑74 ↥(zwM) (λi180 x179 s178 hx181 hI182=>have v181:=List.mem_of_getElem? hx181;⟨↥(zwL hp ↑1 ↑1),(zaq (m:=true) (x:=(s178*x179)) dI (λz=>Oc.nx ((λ(s178:Int)=>([⇑[dQ K ↑14],↥[dI s178],.no]:L2.Ctx)) z)) (zaH (x:=s178) (y:=x179) ↑42 ↑39 ↥(zsW hp ↑1 ↑1)) (λv183 hv183=>(zan ↑134)))⟩) (λr184 hr184 hI=>(zaj (zaA ↑42)))))
theorem zmf:∀ (xs:Ji) (a:Int),List.foldl (λ(s:Int) (x:Int)=>Let (s*x) (λ(y:Int)=>y)) a xs=a*Lat.prd xs
 | [],a=>(Int.mul_one a).symm
 | x :: xs,a=>by
  show List.foldl _ (a*x) xs=a*(x*Lat.prd xs)
  rw [zmf xs,Int.mul_assoc]
theorem zmQ (xs:Ji):zdZ xs=Lat.prd xs:=by
 show List.foldl (λ(s:Int) (x:Int)=>Let (s*x) (λ(y:Int)=>y)) 1 xs=_
 rw [zmf,Int.one_mul]
theorem zoF:∀ {xs:Ji},(∀ x∈xs,x.natAbs≤2^8980)->(Lat.prd xs).natAbs≤2^(8980*xs.length)
 | [],_=>↑4 1
 | x :: xs,h=>by
  have:=Lat.zgU (h x ↑3) (zoF λy hy=>h y (⇑3 _ hy))
  rw [List.length_cons,Nat.mul_succ,Nat.add_comm]
  exact this
noncomputable def zay (P0:BookD):(Option Int) :=
 (Let (zbf P0) (λ(v185:Ji) =>
 (bif (decide (((v185.length:Nat):Int)=P0.many)) then (some (zdZ v185)) else none)))
def zb7 (P0:BookD):Prop:=BkQ P0
def zgx (K:W.Frag) (A:Adr):Sp:=Spv (ι:=BookD) (λx=>[zbG A.Book x]) (λx=>zb7 x) (λx=>↥[dOpt dI (zay x)])
theorem zgL:FnScope ["book","numbers"] ["book"] (zai zfF):=↥5
theorem zj2 (F:Fun K "many_homes" "many_homes" zfF f fd) (T:Txt K mg A) (yaM:Callee P w K mg base ⇑1 8 "head_numbers" ["book"] (zfv K A)) (ybJ:Callee P w K mg base ⇑1 1 "product" ["numbers"] (zi3 K A)):FnOk P w K mg base ⇑1 9 f fd ["book"] (zgx K A):=by
 refine F.okV zgL ⇑5 ↑61
 have hu:=hr.units
 replace hp:zb7 P0:=hp
 unfold zb7 at hp
 refine ⟨_,(zab (zap (i:=1) zgL.nd rfl (↥0 rfl) (zaN yaM ↑2 rfl zaK ↑[pv 0])) (zab (zaL (zmh (zaG zfg ↑227 ↑54 (zaQ _)) (zaN ybJ ↑2 rfl zaK ↑[pv 1]) zk0)) zae)),.inl ?_⟩
 show L2.Run _ ([⇑[zbG A.Book P0],.no]:L2.Ctx) _ ((λ(r:(Option Int))=>Oc.rt true (dOpt dI r)) (zay P0))
 unfold zay
 exact (zaq (m:=true) (x:=(zbf P0)) lI (λ(r:(Option Int))=>Oc.rt true (dOpt dI r)) (zam (x:=P0) (zac ↥2 zah) rfl (by show zc6 P0;exact hp) rfl) (λv185 hv185=>have hN:=hv185;(zaj (zaA (zsD (dOpt dI) (b:=(decide (((v185.length:Nat):Int)=P0.many))) (x:=(some (zdZ v185))) (y:=none) (zau (zdA (x:=((v185.length:Nat):Int)) (y:=P0.many) (zaV (f:=dI) (xs:=v185) (Ev.old ↑171)) ↑184)) (λhb=>(Ev.any (m:=true) (zam (x:=v185) (zac (Ev.old ↑171) zah) rfl (by show ze6 v185;rw [hN];exact hp.prp) rfl))) (λhb=>zaJ))))))
theorem zix {b:BookD} {n:Nat} (hn:b.many=(n:Int)) (h:BkQ b):zay b=if (↑98).length=n then some (Lat.prd (Lat.hds ↑98)) else none:=by
 unfold zay Let
 dsimp only
 rw [zmQ,h.hn,Lat.zjC,hn]
 by_cases q:(↑98).length=n
 ·rw [if_pos q,q,decide_eq_true rfl];rfl
 ·rw [if_neg q,decide_eq_false ⇑0];rfl
theorem zlT {b:BookD} {c:Int} (h:BkQ b) (e:zay b=some c):c.natAbs≤2^80000:=by
 obtain ⟨n,s,h1,h2,h3,h4,h5⟩:=h.sd
 rw [zix h1 h] at e
 split at e
 ·cases e
  refine ⇑6 (zoF λx hx=>?_) (Nat.pow_le_pow_right ↥1 (show 8980*(Lat.hds ↑98).length≤80000 by rw [Lat.zjC,← h3];omega))
  obtain ⟨t,ht,rfl⟩:=List.mem_map.mp hx
  rw [← h3] at ht
  exact (h5 t ht).top
 ·cases e
noncomputable def zdJ (P0:Ji) (P1:Int):Int :=
 (bif (decide (P1<↑32)) then ((ixD P0 P1)%↑49)
 else (0:Int))
def zdW (P0:Ji) (P1:Int):Prop:=0≤P1
def zh1 (K:W.Frag) (A:Adr):Sp:=Spv (ι:=Ji×Int) (λx=>[dQ K (↑0 dI x.1),dI x.2]) (λx=>zdW x.1 x.2) (λx=>↥[dI (zdJ x.1 x.2)])
theorem zlb:FnScope ["_law_script","_law_k"] ["_law_script","_law_k"] (zai zg4):=↥5
theorem zk8 (F:Fun K "_law_cell" "_law_cell" zg4 f fd) (T:Txt K mg A) :FnOk P w K mg base ⇑1 1 f fd ["_law_script","_law_k"] (zh1 K A):=by
 refine F.okV zlb ⇑5 ↑10
 obtain ⟨P0,P1⟩:=x
 have hu:=hr.units
 replace hp:zdW P0 P1:=hp
 unfold zdW at hp
 refine ⟨_,(zab (zbQ (zaG zj3 (pv 1) ↑111 (zaQ _)) (zab (zaL (zav zcb (zaR ↥7 (pv 0) (pv 1) ↥4) zag)) zae) zae) (zab (zaL zag) zae)),.inl ?_⟩
 show L2.Run _ ([⇑[dQ K ↑14],⇑[dI P1]]:L2.Ctx) _ (↑18 (zdJ P0 P1))
 unfold zdJ
 exact (zaW (b:=(decide (P1<↑32))) ↑18 (zau (zaP (x:=P1) (y:=↑32) ⇑9 ↑168)) (λh186=>(zax (zaj (zaA (zaH (x:=(ixD P0 P1)) (y:=↑49) (Ev.any (m:=false) (zbe (f:=dI) (xs:=P0) ↥2 ⇑9 (by unfold InB;constructor<;>((try simp only [decide_eq_true_eq,decide_eq_false_iff_not,Bool.not_eq_true',Bool.not_eq_false',Bool.and_eq_true,Bool.or_eq_false_iff,Bool.or_eq_true,Bool.and_eq_false_iff,Bool.cond_eq_ite] at *)<;>omega)))) zaJ ↥1))))) (λh186=>(zat (zaj (zaA zaJ)))))
theorem zo6 {s:Ji} {i:Nat} {y:Int} (h:s.length≤i):(s++[y]).length≤i+1:=by simp;omega
theorem ztn {s:Ji} {i n:Nat} {x lo:Int} (h:s.length≤i) (hx:i<n∧x=lo+(i:Int)) (hn:n≤400):s.length<PySem.sizeLine:=Nat.lt_of_le_of_lt (show _≤10000 by omega) ↥1
noncomputable def zbD (P0:Ji) (P1:Int):Int :=
 (bif (decide (P1<↑32)) then (ixD P0 P1)
 else (0:Int))
def zcs (P0:Ji) (P1:Int):Prop:=0≤P1
def zjc (K:W.Frag) (A:Adr):Sp:=Spv (ι:=Ji×Int) (λx=>[dQ K (↑0 dI x.1),dI x.2]) (λx=>zcs x.1 x.2) (λx=>↥[dI (zbD x.1 x.2)])
theorem zmY:FnScope ["_law_script","_law_k"] ["_law_script","_law_k"] (zai zhX):=↥5
theorem zmI (F:Fun K "_law_raw" "_law_raw" zhX f fd) (T:Txt K mg A) :FnOk P w K mg base ⇑1 1 f fd ["_law_script","_law_k"] (zjc K A):=by
 refine F.okV zmY ⇑5 ↑10
 obtain ⟨P0,P1⟩:=x
 have hu:=hr.units
 replace hp:zcs P0 P1:=hp
 unfold zcs at hp
 refine ⟨_,(zab (zbQ (zaG zj3 (pv 1) ↑111 (zaQ _)) (zab (zaL (zaR ↥7 (pv 0) (pv 1) ↥4)) zae) zae) (zab (zaL zag) zae)),.inl ?_⟩
 show L2.Run _ ([⇑[dQ K ↑14],⇑[dI P1]]:L2.Ctx) _ (↑18 (zbD P0 P1))
 unfold zbD
 exact (zaW (b:=(decide (P1<↑32))) ↑18 (zau (zaP (x:=P1) (y:=↑32) ⇑9 ↑168)) (λh187=>(zax (zaj (zaA (Ev.any (m:=false) (zbe (f:=dI) (xs:=P0) ↥2 ⇑9 (by unfold InB;simp only [decide_eq_true_eq] at *;omega))))))) (λh187=>(zat (zaj (zaA zaJ)))))
noncomputable def zad (P0:Int) (P1:Int) (P2:Int):Int :=
 (Let (P0/↑49) (λ(v188:Int) =>
 (bif (decide ((v188%(2:Int))=(1:Int))) then (Let (v188/(2:Int)) (λ(v190:Int) =>
 (Let (List.foldl (λ(s191:Int) (x192:Int)=>(Let (s191/(60:Int)) (λ(v196:Int) =>
 v196))) v190 (zbz 0 P1.toNat)) (λ(r197:Int) =>
 ((r197%(60:Int))%P2)))))
 else (Let (((((P0%↑49)*(48271:Int))+(((69621:Int)*P1)*P1))+((7:Int)*P1))%(2147483629:Int)) (λ(v198:Int) =>
 (Let ((v198*v198)%(2147483587:Int)) (λ(v199:Int) =>
 (((v199*(v199+(48271:Int)))%(2147483563:Int))%P2))))))))
def zaT (P0:Int) (P1:Int) (P2:Int):Prop:=0≤P1∧P1≤1000∧0<P2
def zcS (K:W.Frag) (A:Adr):Sp:=Spv (ι:=Int×Int×Int) (λx=>[dI x.1,dI x.2.1,dI x.2.2]) (λx=>zaT x.1 x.2.1 x.2.2) (λx=>↥[dI (zad x.1 x.2.1 x.2.2)])
theorem zcP:FnScope ["_law_cell_here","_law_k","_law_many","_law_free","_law_step","_law_number"] ↑128 (zai zgc):=↥5
theorem zkM (F:Fun K "_law_thing" "_law_thing" zgc f fd) (T:Txt K mg A) :FnOk P w K mg base ⇑1 1 f fd ↑128 (zcS K A):=by
 refine F.okV zcP ⇑5 ↑10
 obtain ⟨P0,P1,P2⟩:=x
 have hu:=hr.units
 replace hp:zaT P0 P1 P2:=hp
 unfold zaT at hp
 refine ⟨_,(zab (zap (i:=3) zcP.nd rfl (↥0 rfl) (zav zbo (pv 0) zag)) (zab (zbQ (zaG zfg (zav zcb (pv 3) zag) zag (zaQ _)) (zab (zap (i:=3) zcP.nd rfl (↥0 rfl) (zav zbo (pv 3) zag)) (zab (zbx ↑11 rfl (zb2 rfl T.range ↑[pv 1]) (zal (i:=4) zcP.nd rfl (↥0 rfl) (↥0 rfl)) (zab (zap (i:=3) zcP.nd rfl (↥0 rfl) (zav zbo (pv 3) zag)) zae)) (zab (zaL (zav zcb (zav zcb (pv 3) zag) (pv 2))) zae))) zae) (zab (zap (i:=5) zcP.nd rfl (↥0 rfl) (zav zcb (zav zbX (zav zbX (zav zbh (zav zcb (pv 0) zag) zag) (zav zbh (zav zbh zag (pv 1)) (pv 1))) (zav zbh zag (pv 1))) zag)) (zab (zap (i:=5) zcP.nd rfl (↥0 rfl) (zav zcb (zav zbh (pv 5) (pv 5)) zag)) (zab (zaL (zav zcb (zav zcb (zav zbh (pv 5) (zav zbX (pv 5) zag)) zag) (pv 2))) zae))))),.inl ?_⟩
 show L2.Run _ ([⇑[dI P0],⇑[dI P1],⇑[dI P2],.no,.no,.no]:L2.Ctx) _ (↑18 (zad P0 P1 P2))
 unfold zad
 exact (zaq (m:=true) (x:=(P0/↑49)) dI ↑18 (zaH (x:=P0) (y:=↑49) ↑19 zaJ ↥(⇑4)) (λv188 hv188=>(zaW (b:=(decide ((v188%(2:Int))=(1:Int)))) ↑18 (zau (zdA (x:=(v188%(2:Int))) (y:=(1:Int)) (zaH (x:=v188) (y:=(2:Int)) ↑73 zaJ ↥1) zaJ)) (λh189=>(zax (zaq (m:=true) (x:=(v188/(2:Int))) dI ↑18 (zaH (x:=v188) (y:=(2:Int)) ↑73 zaJ ↥(⇑4)) (λv190 hv190=>(zax (zbp (s0:=v190) (λ(s191:Int)=>([⇑[dI P0],⇑[dI P1],⇑[dI P2],↥[dI s191],.no,.no]:L2.Ctx)) ↑18 (λ(s191:Int) (x192:Int)=>(Let (s191/(60:Int)) (λ(v196:Int)=>v196))) ↑68 (zdy (m:=true) (n:=P1) ⇑9 ↑127) ↑13 trivial (λi193 x192 s191 hx194 hI195=>have v194:=zby hx194;⟨trivial,(zaq (m:=true) (x:=(s191/(60:Int))) dI (λz=>Oc.nx ((λ(s191:Int)=>([⇑[dI P0],⇑[dI P1],⇑[dI P2],↥[dI s191],.no,.no]:L2.Ctx)) z)) (zaH (x:=s191) (y:=(60:Int)) ↑73 zaJ ↥(⇑4)) (λv196 hv196=>(zan (.eq (.eq (.eq (.eq (.no (.eq .nil)))))))))⟩) (λr197 hr197 hI=>(zax (zaj (zaA (zaH (x:=(r197%(60:Int))) (y:=P2) (zaH (x:=r197) (y:=(60:Int)) ↑73 zaJ ↥1) ↑39 ↥(hp.2.2)))))))))))) (λh189=>(zat (zaq (m:=true) (x:=(((((P0%↑49)*(48271:Int))+(((69621:Int)*P1)*P1))+((7:Int)*P1))%(2147483629:Int))) dI ↑18 (zaH (x:=((((P0%↑49)*(48271:Int))+(((69621:Int)*P1)*P1))+((7:Int)*P1))) (y:=(2147483629:Int)) (zaP (x:=(((P0%↑49)*(48271:Int))+(((69621:Int)*P1)*P1))) (y:=((7:Int)*P1)) (zaP (x:=((P0%↑49)*(48271:Int))) (y:=(((69621:Int)*P1)*P1)) (zaH (x:=(P0%↑49)) (y:=(48271:Int)) (zaH (x:=P0) (y:=↑49) ↑19 zaJ ↥1) zaJ ↥(.inl ↑56)) (zaH (x:=((69621:Int)*P1)) (y:=P1) (zaH (x:=(69621:Int)) (y:=P1) zaJ ⇑9 ↥(.inl ↑56)) ⇑9 ↥(.inl ↑56))) (zaH (x:=(7:Int)) (y:=P1) zaJ ⇑9 ↥(.inl ↑56))) zaJ ↥1) (λv198 hv198=>have hNnumber198:=hv198;(zaq (m:=true) (x:=((v198*v198)%(2147483587:Int))) dI ↑18 (zaH (x:=(v198*v198)) (y:=(2147483587:Int)) (zaH (x:=v198) (y:=v198) ↑36 ↑36 ↥(.inl ↑56)) zaJ ↥1) (λv199 hv199=>have hNnumber199:=hv199;(zaj (zaA (zaH (x:=((v199*(v199+(48271:Int)))%(2147483563:Int))) (y:=P2) (zaH (x:=(v199*(v199+(48271:Int)))) (y:=(2147483563:Int)) (zaH (x:=v199) (y:=(v199+(48271:Int))) ↑36 (zaP (x:=v199) (y:=(48271:Int)) ↑36 zaJ) ↥(.inl ↑56)) zaJ ↥1) ↑39 ↥(hp.2.2)))))))))))))
theorem zc8 {c k m:Int} (hm:0<m):0≤zad c k m∧zad c k m<m:=by
 unfold zad Let
 dsimp only
 have key:∀ b:Bool,∀ x y:Int,0≤(bif b then x%m else y%m)∧(bif b then x%m else y%m)<m:=λb x y=>by
  cases b
  ·exact ⟨Int.emod_nonneg y ⇑0,Int.emod_lt_of_pos y hm⟩
  ·exact ⟨Int.emod_nonneg x ⇑0,Int.emod_lt_of_pos x hm⟩
 exact key _ _ _
def Sq (w:Nat) (n:Nat) (rows:Jq):Prop:=rows.length=n∧∀ r∈rows,r.length=w
def FrI (w:Nat) (s:Jq×Jq):Prop:=Sq w w s.1∧Sq w w s.2
theorem zos {w n:Nat} {rows:Jq} {i:Int} {y:Ji} (h:Sq w n rows) (hy:y.length=w):Sq w n (zcW rows i y):=⟨by rw [zex];exact h.1,λr hr=>by
 rcases Lat.zgI hr with rfl | hr
 ·exact hy
 ·exact h.2 r hr⟩
theorem znS {w n:Nat} {b:Bool} {rows ys:Jq} (h:Sq w n rows) (k:Sq w n ys):Sq w n (bif b then ys else rows):=by cases b<;>assumption
theorem ziw {w n:Nat} {rows:Jq} {x:Int} (h:Sq w n rows) (h0:0≤x) (h1:x<(n:Int)):InB rows.length x:=by rw [h.1];unfold InB;omega
theorem zoz {w n:Nat} {rows:Jq} {x:Int} (h:Sq w n rows) (h0:0≤x) (h1:x<(n:Int)):(ixD rows x).length=w:=h.2 _ (zbK (ziw h h0 h1))
theorem zue {α:Type} {w n:Nat} {xs:List α} {f:α->Ji} (h:xs.length=n) (k:∀ x,(f x).length=w):Sq w n (↑0 f xs):=⟨by rw [List.length_map];exact h,λr hr=>by obtain ⟨x,_,rfl⟩:=List.mem_map.mp hr;exact k x⟩
theorem zkO {w n m:Nat} {rows ys:Jq} {x y:Int} {f:Int×Int->Int} (h:Sq w n rows) (k:Sq w m ys) (h0:0≤x∧x<(n:Int)) (h1:0≤y∧y<(m:Int)):(↑0 f (List.zip (ixD rows x) (ixD ys y))).length=w:=by
 rw [List.length_map,List.length_zip,zoz h h0.1 h0.2,zoz k h1.1 h1.2];omega
theorem zop {w n m:Nat} {rows ys:Jq} {x y:Int} (h:Sq w n rows) (h0:0≤x∧x<(n:Int)) (hw:w≤1000):(List.zip (ixD rows x) (ixD ys y)).length≤PySem.sizeLine:=zao (by rw [List.length_zip,zoz h h0.1 h0.2];omega)
theorem zrm {W:Nat} {s:Jq×Jq} {x y:Int} (h:FrI W s) (hx:0≤x∧x<(W:Int)) (hw:W≤8):(List.zip (ixD s.1 x) (ixD s.1 y)).length≤PySem.sizeLine:=zop (ys:=s.1) (m:=0) h.1 hx ⇑0
theorem zrD {W:Nat} {s:Jq×Jq} {x y:Int} (h:FrI W s) (hx:0≤x∧x<(W:Int)) (hw:W≤8):(List.zip (ixD s.2 x) (ixD s.2 y)).length≤PySem.sizeLine:=zop (ys:=s.2) (m:=0) h.2 hx ⇑0
theorem zpQ {w:Int} {W:Nat} {a b:Jq} (hw:w=(W:Int)) (ha:a=↑0 ↑159 (zbz 0 w.toNat)) (hb:b=↑0 ↑58 a):FrI W (a,b):=by
 have h1:Sq W W a:=by
  subst ha
  exact zue ↑173 λx=>by rw [List.length_map,za4];omega
 exact ⟨h1,by subst hb;rw [List.map_id'];exact h1⟩
theorem zrF {W:Nat} {s:Jq×Jq} {b:Bool} {x y q:Int} (h:FrI W s) (hx:0≤x∧x<(W:Int)) (hy:0≤y∧y<(W:Int)):FrI W (bif b then (zcW s.1 y (↑0 (λ(z:Int×Int)=>(z.1+(q*z.2))) (List.zip (ixD s.1 y) (ixD s.1 x)))) else s.1,bif b then (zcW s.2 x (↑0 (λ(z:Int×Int)=>(z.1-(q*z.2))) (List.zip (ixD s.2 x) (ixD s.2 y)))) else s.2) :=
 ⟨znS h.1 (zos h.1 (zkO h.1 h.1 hy hx)),znS h.2 (zos h.2 (zkO h.2 h.2 hx hy))⟩
theorem zew {c k w x:Int} {W:Nat} (hw:w=(W:Int)) (h1:1≤w) (e:x=zad c k w):0≤x∧x<(W:Int):=by
 subst e;have:=zc8 (c:=c) (k:=k) (m:=w) ⇑0;omega
theorem zlY {c k x:Int} (e:x=zad c k (5:Int)-(2:Int)):-2≤x∧x≤2:=by
 subst e;have:=zc8 (c:=c) (k:=k) (m:=5) ↥1;omega
theorem zq6 {c k x:Int} (e:x=zad c k (7:Int)):InB 7 x:=by
 subst e;have:=zc8 (c:=c) (k:=k) (m:=7) ↥1;unfold InB;omega
noncomputable def zbU (P0:Int) (P1:Ji):(Jq×Jq) :=
 (Let (↑0 (λ(x200:Int)=>(↑0 (λ(x203:Int)=>(if (decide (x203=x200)) then 1 else 0)) (zbz 0 P0.toNat))) (zbz 0 P0.toNat)) (λ(v206:Jq) =>
 (Let (↑0 (λ(x207:Ji)=>x207) v206) (λ(v210:Jq) =>
 (Let (List.foldl (λ(s211:Jq×Jq) (x212:Int)=>(Let (zad x212 (1:Int) P0) (λ(v216:Int) =>
 (Let (zad x212 (2:Int) P0) (λ(v217:Int) =>
 (Let ((zad x212 (3:Int) (5:Int))-(2:Int)) (λ(v218:Int) =>
 (Let (bif (!decide (v216=v217)) then (zcW s211.1 v217 ↑213) else s211.1) (λ(v226:Jq) =>
 (Let ↑242 (λ(v227:Jq) =>
 (v226,v227)))))))))))) (v206,v210) P1) (λ(r228:Jq×Jq) =>
 (r228.1,r228.2)))))))
def zd7 (P0:Int) (P1:Ji):Prop:=1≤P0∧P0≤8
def zho (K:W.Frag) (A:Adr):Sp:=Spv (ι:=Int×Ji) (λx=>[dI x.1,dQ K (↑0 dI x.2)]) (λx=>zd7 x.1 x.2) (λx=>↥[dT [dL (↑0 lI ((zbU x.1 x.2).1)),dL (↑0 lI ((zbU x.1 x.2).2))]])
theorem zcH:FnScope ↑219 ["_law_wide","_law_cells"] (zai zdf):=↥5
theorem zkc (F:Fun K "_law_frame" "_law_frame" zdf f fd) (T:Txt K mg A) (yaa:Callee P w K mg base ⇑1 1 "_law_thing" ↑128 (zcS K A)):FnOk P w K mg base ⇑1 2 f fd ["_law_wide","_law_cells"] (zho K A):=by
 refine F.okV zcH ⇑5 ↑10
 obtain ⟨P0,P1⟩:=x
 have hu:=hr.units
 replace hp:zd7 P0 P1:=hp
 unfold zd7 at hp
 obtain ⟨W,hW⟩:∃ W:Nat,P0=(W:Int):=⟨P0.toNat,by omega⟩
 refine ⟨_,(zab (zc1 (i:=2) rfl zcH.nd rfl rfl (.of (osc:=(zai zdf)) (N:=↑219) (own:=["_law_k"]) (fvn:=["_law_wide"]) (fv:=[0]) rfl rfl ↑6) (zb2 rfl T.range ↑[pv 0]) (λ_ _ _ _ _=>⟨(zal (i:=0) (show (["_law_k","_law_wide"]:List Str).Nodup by decide +kernel) rfl ⇑7 (↥0 rfl)),za7,(zb9 rfl (.of (osc:=({ kind:=.function,names:=[(".0",.local),("_law_k",.cell),("range",.globalImplicit),("_law_wide",.cell)],isGenerator:=false,isCoroutine:=false }:Scope)) (N:=["_law_k","_law_wide"]) (own:=["_law_j"]) (fvn:=["_law_k"]) (fv:=[0]) rfl rfl ↑6) (zb2 rfl T.range ↑[pv 1]) (λ_ _ _ _ _=>⟨(zal (i:=0) (show (["_law_j","_law_k"]:List Str).Nodup by decide +kernel) rfl (↥0 rfl) ⇑7),za7,(zc3 zkh rfl T.int ↑6 ↑[zio zfg (pv 0) (pv 1) (zaQ _)])⟩))⟩)) (zab (zc1 (i:=3) rfl zcH.nd rfl rfl (.of (osc:=(zai zdf)) (N:=↑219) (own:=["_law_row"]) (fvn:=[]) (fv:=[]) rfl rfl ↑6) (zaM (K:=K) rfl (pv 2)) (λ_ _ _ _ _=>⟨(zal (i:=0) (show (["_law_row"]:List Str).Nodup by decide +kernel) rfl (↥0 rfl) ⇑7),za7,↑160⟩)) (zab (zbx ↑11 rfl (zaM (K:=K) rfl (pv 1)) (zal (i:=4) zcH.nd rfl (↥0 rfl) (↥0 rfl)) (zab (zap (i:=5) zcH.nd rfl (↥0 rfl) (zaN yaa ↑2 rfl zaK ↑[pv 4,zag,pv 0])) (zab (zap (i:=6) zcH.nd rfl (↥0 rfl) (zaN yaa ↑2 rfl zaK ↑[pv 4,zag,pv 0])) (zab (zap (i:=7) zcH.nd rfl ⇑7 (zav zeT (zaN yaa ↑2 rfl zaK ↑[pv 4,zag,zag]) zag)) (zab (zbQ (zaG zfn (pv 5) (pv 6) (zaQ _)) (zab (zhj (zb9 rfl (.of (osc:=(zai zdf)) (N:=↑219) (own:=↑175) (fvn:=["_law_many"]) (fv:=[7]) rfl rfl ↑6) (zb4 (K:=K) rfl rfl T.zip ↑[(zaR ↥7 (pv 2) (pv 6) ↥4),(zaR ↥7 (pv 2) (pv 5) ↥4)]) ↑256) (zi2 (pv 2) (pv 6) zfM)) (zab (zhj (zb9 rfl (.of (osc:=(zai zdf)) (N:=↑219) (own:=↑175) (fvn:=["_law_many"]) (fv:=[7]) rfl rfl ↑6) (zb4 (K:=K) rfl rfl T.zip ↑[(zaR ↥7 (pv 3) (pv 5) ↥4),(zaR ↥7 (pv 3) (pv 6) ↥4)]) (λ_ _ _ _ _=>⟨↑269,za7,(zav zeT (pv 0) (zav zbh (pv 2) (pv 1)))⟩)) (zi2 (pv 3) (pv 5) zfM)) zae)) zae) zae))))) (zab (zaL (zhg ↑[pv 2,pv 3])) zae)))),.inl ?_⟩
 show L2.Run _ ([⇑[dI P0],⇑[dQ K ↑7],.no,.no,.no,.no,.no,.no]:L2.Ctx) _ (↑108 (zbU P0 P1))
 unfold zbU
 exact (zfR (m:=true) (x:=(↑0 (λ(x200:Int)=>(↑0 (λ(x203:Int)=>(if (decide (x203=x200)) then 1 else 0)) (zbz 0 P0.toNat))) (zbz 0 P0.toNat))) (λz=>↑0 lI z) ↑108 (EvO.conv (zbJ (g:=(λ(x200:Int)=>dL (↑0 dI (↑0 (λ(x203:Int)=>(if (decide (x203=x200)) then 1 else 0)) (zbz 0 P0.toNat))))) (zdy (m:=true) (n:=P0) ↑19 ↑127) ↥(zao ↑173) ⇑4 (λi201 x200 hx202=>have v202:=zby hx202;(EvO.ev (EvO.conv (zbJ (g:=(λ(x203:Int)=>dI (if (decide (x203=x200)) then 1 else 0))) (zdy (m:=true) (n:=P0) ⇑9 ↑127) ↥(zao ↑173) ⇑4 (λi204 x203 hx205=>have v205:=zby hx205;(znx (b:=(decide (x203=x200))) (zac (zdA (x:=x203) (y:=x200) ↑151 ↑42) zah)))) ↑12)))) ↑12) (λv206 hv206=>have hA:=hv206;(zfR (m:=true) (x:=(↑0 (λ(x207:Ji)=>x207) v206)) (λz=>↑0 lI z) ↑108 (zqv.evo (zqv.borrowO (i:=2) rfl (zr3 (EvO.conv (zbJ (g:=(λ(x207:Ji)=>dL (↑0 dI x207))) (za6 (m:=false) lI (xs:=v206) ↑89) ↥(zao (by rw [hA,List.length_map,za4];omega)) ⇑4 (λi208 x207 hx209=>have v209:=List.mem_of_getElem? hx209;(EvO.ev (EvO.anyI (m:=false) (zfp ↑26))))) ↑12)))) (λv210 hv210=>have hF:=zpQ hW hA hv210;(zbp (s0:=(v206,v210)) ↑180 ↑108 (λ(s211:Jq×Jq) (x212:Int)=>(Let (zad x212 (1:Int) P0) (λ(v216:Int)=>(Let (zad x212 (2:Int) P0) (λ(v217:Int)=>(Let ((zad x212 (3:Int) (5:Int))-(2:Int)) (λ(v218:Int)=>(Let (bif (!decide (v216=v217)) then (zcW s211.1 v217 ↑213) else s211.1) (λ(v226:Jq)=>(Let ↑242 (λ(v227:Jq)=>(v226,v227)))))))))))) (λ(i:Nat) (s211:Jq×Jq)=>FrI W s211) (za6 (m:=false) dI (xs:=P1) ⇑8) (.eq (.eq ↑13)) ↥(hF) (λi213 x212 s211 hx214 hI215=>have v214:=List.mem_of_getElem? hx214;⟨↥(zrF ↑1 (zew hW hp.1 rfl) (zew hW hp.1 rfl)),(zaq (m:=true) (x:=(zad x212 (1:Int) P0)) dI (λz=>Oc.nx (↑180 z)) (Ev.any (m:=true) (zam (x:=(x212,(1:Int),P0)) (zac ↑44 (zac zaJ (zac ↑19 zah))) rfl (by show zaT x212 (1:Int) P0;refine ⟨by omega,by omega,by omega⟩) rfl)) (λv216 hv216=>have hO:=zew hW hp.1 hv216;(zaq (m:=true) (x:=(zad x212 (2:Int) P0)) dI (λz=>Oc.nx (↑180 z)) (Ev.any (m:=true) (zam (x:=(x212,(2:Int),P0)) (zac ↑44 (zac zaJ (zac ↑19 zah))) rfl (by show zaT x212 (2:Int) P0;refine ⟨by omega,by omega,by omega⟩) rfl)) (λv217 hv217=>have hT:=zew hW hp.1 hv217;(zaq (m:=true) (x:=((zad x212 (3:Int) (5:Int))-(2:Int))) dI (λz=>Oc.nx (↑180 z)) (zaP (x:=(zad x212 (3:Int) (5:Int))) (y:=(2:Int)) (Ev.any (m:=true) (zam (x:=(x212,(3:Int),(5:Int))) (zac ↑44 (zac zaJ ↑51)) rfl (by show zaT x212 (3:Int) (5:Int);refine ⟨by omega,by omega,by omega⟩) rfl)) zaJ) (λv218 hv218=>have hM:=zlY hv218;(zcm (b:=(!decide (v216=v217))) (λbb=>([⇑[dI P0],⇑[dQ K ↑7],.ow true (↑0 lI (bif bb then (zcW s211.1 v217 ↑213) else s211.1)),.ow true (↑0 lI (bif bb then (zcW s211.2 v216 (↑0 (λ(x223:↑9)=>(x223.1-(v218*x223.2))) (List.zip (ixD s211.2 v216) (ixD s211.2 v217)))) else s211.2)),⇑[dI x212],↥[dI v216],↥[dI v217],↥[dI v218]]:L2.Ctx)) (zau (zdX (x:=v216) (y:=v217) ↑36 ↑133)) (λh219=>(zfU (f:=lI) (xs:=s211.1) (x:=↑213) rfl (EvO.ev (EvO.conv (zbJ (g:=(λ(x220:↑9)=>dI (x220.1+(v218*x220.2)))) (zdT (m:=true) dI dI (xs:=(ixD s211.1 v217)) (ys:=(ixD s211.1 v216)) (Ev.weak (K:=K) (zeX (f:=lI) (xs:=s211.1) rfl ↑133 ↥(ziw (↑1:FrI W _).1 hT.1 hT.2))) (Ev.weak (K:=K) (zeX (f:=lI) (xs:=s211.1) rfl ↑36 ↥(ziw (↑1:FrI W _).1 hO.1 hO.2)))) ↥(zrm ↑1 hT ⇑0) ⇑4 (λi221 x220 hx222=>have v222:=zbV hx222;(zaP (x:=x220.1) (y:=(v218*x220.2)) ↑151 (zaH (x:=v218) (y:=x220.2) ↑47 ↑42 ↥(.inl ↑56))))) ↑12)) ↑133 ↥(ziw (↑1:FrI W _).1 hT.1 hT.2) (zfU (f:=lI) (xs:=s211.2) (x:=(↑0 (λ(x223:↑9)=>(x223.1-(v218*x223.2))) (List.zip (ixD s211.2 v216) (ixD s211.2 v217)))) rfl (EvO.ev (EvO.conv (zbJ (g:=(λ(x223:↑9)=>dI (x223.1-(v218*x223.2)))) (zdT (m:=true) dI dI (xs:=(ixD s211.2 v216)) (ys:=(ixD s211.2 v217)) (Ev.weak (K:=K) (zeX (f:=lI) (xs:=s211.2) rfl ↑36 ↥(ziw (↑1:FrI W _).2 hO.1 hO.2))) (Ev.weak (K:=K) (zeX (f:=lI) (xs:=s211.2) rfl ↑133 ↥(ziw (↑1:FrI W _).2 hT.1 hT.2)))) ↥(zrD ↑1 hO ⇑0) ⇑4 (λi224 x223 hx225=>have v225:=zbV hx225;(zaP (x:=x223.1) (y:=(v218*x223.2)) ↑151 (zaH (x:=v218) (y:=x223.2) ↑47 ↑42 ↥(.inl ↑56))))) ↑12)) ↑36 ↥(ziw (↑1:FrI W _).2 hO.1 hO.2) (zan (.eq (.eq ↑13)))))) (λh219=>(zan (.eq (.eq ↑13)))) (zcA (x:=(bif (!decide (v216=v217)) then (zcW s211.1 v217 ↑213) else s211.1)) (λv226=>([⇑[dI P0],⇑[dQ K ↑7],.ow true (↑0 lI v226),.ow true (↑0 lI ↑242),⇑[dI x212],↥[dI v216],↥[dI v217],↥[dI v218]]:L2.Ctx)) (λz=>Oc.nx (↑180 z)) (λv226 hv226=>have hR1:=hv226;(zcA (x:=↑242) (λv227=>([⇑[dI P0],⇑[dQ K ↑7],.ow true (↑0 lI v226),.ow true (↑0 lI v227),⇑[dI x212],↥[dI v216],↥[dI v217],↥[dI v218]]:L2.Ctx)) (λz=>Oc.nx (↑180 z)) (λv227 hv227=>(zan (.eq (.eq (.eq (.eq (.no (.no (.no (.no .nil))))))))))))))))))))⟩) (λr228 hr228 hI=>(zcw (i:=2) rfl (zcw (i:=3) rfl (zaj (zaA (zhr (zac ↑31 (zac ↑33 zah)) ↑130)))))))))))
noncomputable def za0 (P0:Int) (P1:Int) (P2:Int):Ji :=
 (Let (List.foldl (λ(s229:Ji) (x230:Int)=>(Let (zad P1 (P2+x230) (7:Int)) (λ(v234:Int) =>
 (Let (ixD [(0:Int),(1:Int),(2:Int),(3:Int),(6:Int),(0:Int),(4:Int)] v234) (λ(v235:Int) =>
 (Let (bif ((decide (v234=(6:Int))) && (decide ((P1%(2:Int))=(1:Int)))) then ((2:Int)+↑222) else v235) (λ(v237:Int) =>
 (s229++[v237])))))))) [] (zbz 0 P0.toNat)) (λ(r238:Ji) =>
 r238))
def zdw (P0:Int) (P1:Int) (P2:Int):Prop:=0≤P0∧P0≤8∧0≤P2∧P2≤100
def zf7 (K:W.Frag) (A:Adr):Sp:=Spv (ι:=Int×Int×Int) (λx=>[dI x.1,dI x.2.1,dI x.2.2]) (λx=>zdw x.1 x.2.1 x.2.2) (λx=>.ow true (↑0 dI (za0 x.1 x.2.1 x.2.2)))
theorem zcx:FnScope ["_law_wide","_law_cell_here","_law_far","_law_found","_law_k","_law_way","_law_number"] ["_law_wide","_law_cell_here","_law_far"] (zai zfd):=↥5
theorem ziR (F:Fun K "_law_bottoms" "_law_bottoms" zfd f fd) (T:Txt K mg A) (yaa:Callee P w K mg base ⇑1 1 "_law_thing" ↑128 (zcS K A)):FnOk P w K mg base ⇑1 2 f fd ["_law_wide","_law_cell_here","_law_far"] (zf7 K A):=by
 refine F.okV zcx ⇑5 ↑10
 obtain ⟨P0,P1,P2⟩:=x
 have hu:=hr.units
 replace hp:zdw P0 P1 P2:=hp
 unfold zdw at hp
 refine ⟨_,(zab (zap (i:=3) zcx.nd rfl (↥0 rfl) (zca zem)) (zab (zbx ↑11 rfl (zb2 rfl T.range ↑[pv 0]) (zal (i:=4) zcx.nd rfl (↥0 rfl) (↥0 rfl)) (zab (zap (i:=5) zcx.nd rfl (↥0 rfl) (zaN yaa ↑2 rfl zaK ↑[pv 1,zav zbX (pv 2) (pv 4),zag])) (zab (zap (i:=6) zcx.nd rfl (↥0 rfl) (zaR ↥7 (zca (zbZ zag ↑[zag,zag,zag,zag,zag,zag])) (pv 5) ↥4)) (zab (zbQ (PW.pt (zik (zaG zfg (pv 5) zag (zaQ _)) (zgd (zaG zfg (zav zcb (pv 1) zag) zag (zaQ _))))) (zab (zap (i:=6) zcx.nd rfl (↥0 rfl) (zav zbX zag (zaN yaa ↑2 rfl zaK ↑[pv 1,zav zbX (zav zbX (pv 2) zag) (pv 4),zav ztB zag zag]))) zae) zae) (zab (zdv (zcr (K:=K) rfl (pv 3) ↑[pv 6])) zae))))) (zab (zaL (pv 3)) zae))),.inl ?_⟩
 show L2.Run _ ([⇑[dI P0],⇑[dI P1],⇑[dI P2],.no,.no,.no,.no]:L2.Ctx) _ (↑166 (za0 P0 P1 P2))
 unfold za0
 exact (zeu (m:=true) (ds:=↑0 dI []) ↑139 (zbp (s0:=[]) ↑250 ↑166 (λ(s229:Ji) (x230:Int)=>(Let (zad P1 (P2+x230) (7:Int)) (λ(v234:Int)=>(Let (ixD [(0:Int),(1:Int),(2:Int),(3:Int),(6:Int),(0:Int),(4:Int)] v234) (λ(v235:Int)=>(Let (bif ((decide (v234=(6:Int))) && (decide ((P1%(2:Int))=(1:Int)))) then ((2:Int)+↑222) else v235) (λ(v237:Int)=>(s229++[v237])))))))) (λ(i:Nat) (s229:Ji)=>s229.length≤i) (zdy (m:=true) (n:=P0) ↑19 ↑127) (.eq ↑13) ↥(↑4 0) (λi231 x230 s229 hx232 hI233=>have v232:=zby hx232;⟨↥(zo6 ↑1),(zaq (m:=true) (x:=(zad P1 (P2+x230) (7:Int))) dI (λz=>Oc.nx (↑250 z)) (Ev.any (m:=true) (zam (x:=(P1,(P2+x230),(7:Int))) (zac ⇑9 (zac (zaP (x:=P2) (y:=x230) ↑39 ↑20) ↑51)) rfl (by show zaT P1 (P2+x230) (7:Int);refine ⟨by omega,by omega,by first|decide|omega⟩) rfl)) (λv234 hv234=>have hY:=zq6 hv234;(zaq (m:=true) (x:=(ixD [(0:Int),(1:Int),(2:Int),(3:Int),(6:Int),(0:Int),(4:Int)] v234)) dI (λz=>Oc.nx (↑250 z)) (zbe (f:=dI) (xs:=[(0:Int),(1:Int),(2:Int),(3:Int),(6:Int),(0:Int),(4:Int)]) (Ev.weak (K:=K) (EvO.ev (zdm (zac zaJ (zac zaJ (zac zaJ (zac zaJ (zac zaJ (zac zaJ ↑51)))))) (by show 7≤sizeLine;decide)))) ↑36 ↥(hY)) (λv235 hv235=>(zcm (b:=((decide (v234=(6:Int)))&&(decide ((P1%(2:Int))=(1:Int))))) (λbb=>([⇑[dI P0],⇑[dI P1],⇑[dI P2],.ow true (↑0 dI s229),↥[dI x230],↥[dI v234],↥[dI (bif bb then ((2:Int)+↑222) else v235)]]:L2.Ctx)) (zgi (b:=(decide (v234=(6:Int)))) (zau (zdA (x:=v234) (y:=(6:Int)) ↑36 zaJ)) (λhb=>(zau (zdA (x:=(P1%(2:Int))) (y:=(1:Int)) (zaH (x:=P1) (y:=(2:Int)) ⇑9 zaJ ↥1) zaJ)))) (λh236=>(zba (m:=true) (zaP (x:=(2:Int)) (y:=↑222) zaJ (Ev.any (m:=true) (zam (x:=(P1,((P2+(20:Int))+x230),((10:Int) ^ (9:Int).toNat))) (zac ⇑9 (zac (zaP (x:=(P2+(20:Int))) (y:=x230) (zaP (x:=P2) (y:=(20:Int)) ↑39 zaJ) ↑20) (zac (zaH (x:=(10:Int)) (y:=(9:Int)) zaJ zaJ ↥(⟨by decide,by decide,by decide⟩)) zah))) rfl (by show zaT P1 ((P2+(20:Int))+x230) ((10:Int) ^ (9:Int).toNat);refine ⟨by omega,by omega,by first|decide|omega⟩) rfl))) (zan (.eq ↑13)))) (λh236=>(zan (.eq ↑13))) (zcA (x:=(bif ((decide (v234=(6:Int))) && (decide ((P1%(2:Int))=(1:Int)))) then ((2:Int)+↑222) else v235)) (λv237=>([⇑[dI P0],⇑[dI P1],⇑[dI P2],.ow true (↑0 dI s229),↥[dI x230],↥[dI v234],↥[dI v237]]:L2.Ctx)) (λz=>Oc.nx (↑250 z)) (λv237 hv237=>(zcj (f:=dI) (xs:=s229) (x:=v237) rfl ↑133 ↥(ztn ↑1 ↑1 ⇑0) (zan (.eq ↑189))))))))))⟩) (λr238 hr238 hI=>(zeV (zi9 (i:=3) rfl)))))
theorem zqD {w c f:Int} (hw:0≤w):(za0 w c f).length=w.toNat∧∀ b∈za0 w c f,0≤b∧b≤1000000001:=by
 unfold za0 Let
 dsimp only
 rw [Lat.zfW,List.nil_append]
 refine ⟨by rw [List.length_map,za4],λb hb=>?_⟩
 obtain ⟨x,_,rfl⟩:=List.mem_map.mp hb
 have h7:=zc8 (c:=c) (k:=f+x) (m:=7) ↥1
 generalize zad c (f+x) 7=y at *
 have e10:(10:Int)^(9:Int).toNat=1000000000:=by decide +kernel
 rw [e10]
 have h9:=zc8 (c:=c) (k:=f+20+x) (m:=1000000000) ↥1
 have key:0≤ixD [(0:Int),(1:Int),(2:Int),(3:Int),(6:Int),(0:Int),(4:Int)] y∧ixD [(0:Int),(1:Int),(2:Int),(3:Int),(6:Int),(0:Int),(4:Int)] y≤6:=by
  have hm:=zbK (xs:=[(0:Int),(1:Int),(2:Int),(3:Int),(6:Int),(0:Int),(4:Int)]) (i:=y) (by show InB 7 y;unfold InB;omega)
  generalize ixD [(0:Int),(1:Int),(2:Int),(3:Int),(6:Int),(0:Int),(4:Int)] y=z at *
  simp at hm
  omega
 cases (decide (y=(6:Int))&&decide (c%(2:Int)=(1:Int)))
 ·rw [cond_false];omega
 ·rw [cond_true];omega
theorem zsK {s:Jq} {i w:Nat} {b:Bool} {y:Ji} (h:s.length≤i∧∀ r∈s,r.length=w) (hy:y.length=w):(bif b then (s++[y]) else s).length≤i+1∧∀ r∈(bif b then (s++[y]) else s),r.length=w:=by
 cases b
 ·exact ⟨by show s.length≤_;omega,h.2⟩
 ·refine ⟨by show (s++[y]).length≤_;rw [List.length_append,List.length_singleton];omega,λr hr=>?_⟩
  rcases List.mem_append.mp hr with hr | hr
  ·exact h.2 r hr
  ·rw [List.mem_singleton.mp hr];exact hy
def StP (rows:Jq) (bs:Ji) (idle:Int):Prop:=∃ W:Nat,1≤W∧W≤8∧Sq W W rows∧bs.length=W∧(∀ b∈bs,0≤b∧b≤1000000001)∧0≤idle∧idle≤4
theorem zw8 {s rows:Jq} {bs:Ji} {W:Nat} (hI:s.length≤(List.zip rows bs).length∧∀ r∈s,r.length=W) (hq:Sq W W rows) (w8:W≤8):s.length≤8∧∀ r∈s,r.length=W:=by
 refine ⟨?_,hI.2⟩
 have:=hI.1
 rw [List.length_zip] at this
 have:=hq.1
 omega
theorem zug {w:Nat} {rows a ys:Jq} {k idle:Int} (hw:rows.length=w) (h0:0≤idle) (h:a.length≤8∧∀ r∈a,r.length=w) (hk:k=↑116) (e:ys=a++↑0 (λ(_:Int)=>zcI ↑99 [(0:Int)]) ↑103):Sq w (k+idle).toNat ys:=by
 subst e
 refine ⟨by rw [List.length_append,List.length_map,za4];omega,λr hr=>?_⟩
 rcases List.mem_append.mp hr with hr | hr
 ·exact h.2 r hr
 ·obtain ⟨x,_,rfl⟩:=List.mem_map.mp hr
  rw [Lat.zce];exact hw
theorem zrN {k idle:Int} {ts:Jq} (e:ts=↑0 (λ(x:Int)=>↑0 (λ(y:Int)=>(if (decide (y=(k+x))) then (1:Int) else 0)) (zbz 0 (k+idle).toNat)) ↑103):∀ t∈ts,t.length=(k+idle).toNat:=λt ht=>by
 subst e
 obtain ⟨x,_,rfl⟩:=List.mem_map.mp ht
 rw [List.length_map,za4]
def StI (w n:Nat) (s:Jq×Jq):Prop:=Sq w n s.1∧∀ t∈s.2,t.length=n
theorem zhh {n:Nat} {w:Nat} {s:Jq} {c k x:Int} (h:Sq w n s) (e:x=zad c k (max (1:Int) ((s.length:Nat):Int))):0≤x∧(x<(n:Int)∨x=0):=by
 subst e;have:=zc8 (c:=c) (k:=k) (m:=max (1:Int) ((s.length:Nat):Int)) ⇑0;rw [h.1] at this ⊢;omega
theorem zgS {n:Nat} {x y:Int} (hx:0≤x∧(x<(n:Int)∨x=0)) (hy:0≤y∧(y<(n:Int)∨y=0)) (h:(!decide (x=y))=true):(0≤x∧x<(n:Int))∧0≤y∧y<(n:Int):=by
 have:x≠y:=by simpa using h
 omega
theorem zrd {n:Nat} {ns:Ji} {x:Int} (h:ns.length=n) (hx:0≤x∧x<(n:Int)):InB ns.length x:=by unfold InB;omega
theorem zrg {w n:Nat} {s:Jq×Jq} {x y q:Int} (h:StI w n s) (hx:0≤x∧(x<(n:Int)∨x=0)) (hy:0≤y∧(y<(n:Int)∨y=0)) :
  StI w n (bif (!decide (x=y)) then (zcW s.1 y (↑0 (λ(z:Int×Int)=>(z.1+(q*z.2))) (List.zip (ixD s.1 y) (ixD s.1 x)))) else s.1,bif (!decide (x=y)) then (↑0 (λ(ns:Ji)=>zcW ns x (ixD ns x-(q*ixD ns y))) s.2) else s.2):=by
 by_cases e:x=y
 ·rw [decide_eq_true e];exact h
 ·rw [decide_eq_false e]
  have hl:=zgS hx hy (by simp [e])
  refine ⟨zos h.1 (zkO h.1 h.1 hl.2 hl.1),λt ht=>?_⟩
  obtain ⟨z,hz,rfl⟩:=List.mem_map.mp ht
  rw [zex];exact h.2 z hz
theorem zu7 {w n:Nat} {s:Jq} {x y:Int} (h:Sq w n s) (hx:0≤x∧x<(n:Int)) (hw:w≤8):(List.zip (ixD s x) (ixD s y)).length≤PySem.sizeLine:=zop (ys:=s) (m:=0) h hx ⇑0
theorem zty {W:Nat} {rows:Jq} {r:Ji} (h:Sq W W rows) (hm:r∈rows) (hw:W≤8):r.length≤PySem.sizeLine:=zao (by have:=h.2 r hm;omega)
theorem zuC {W:Nat} {rows:Jq} {bs:Ji} {i:Nat} {p:Ji×Int} (h:Sq W W rows) (hx:rows[i]?=some p.1∧bs[i]?=some p.2):i<W:=by have:=(List.getElem?_eq_some_iff.mp hx.1).1;rw [h.1] at this;exact this
noncomputable def zas (P0:Jq) (P1:Ji) (P2:Int) (P3:Ji):(Jq×Jq) :=
 (Let (List.foldl (λ(s239:Jq) (x240:(Ji×Int))=>(Let (bif (decide ((0:Int)<x240.2)) then (s239++[↑232]) else s239) (λ(v248:Jq) =>
 v248))) [] (List.zip P0 P1)) (λ(r249:Jq) =>
 (Let ((r249.length:Nat):Int) (λ(v250:Int) =>
 (Let (r249++(↑0 (λ(x251:Int)=>↑172) (zbz 0 P2.toNat))) (λ(v254:Jq) =>
 (Let (↑0 (λ(x255:Int)=>(↑0 (λ(x258:Int)=>↑260) (zbz 0 (v250+P2).toNat))) (zbz 0 P2.toNat)) (λ(v261:Jq) =>
 (Let (List.foldl (λ(s262:Jq×Jq) (x263:Int)=>(Let (zad x263 (4:Int) ↑112) (λ(v267:Int) =>
 (Let (zad x263 (5:Int) ↑112) (λ(v268:Int) =>
 (Let ((zad x263 (6:Int) (5:Int))-(2:Int)) (λ(v269:Int) =>
 (Let (bif (!decide (v267=v268)) then (zcW s262.1 v268 ↑214) else s262.1) (λ(v275:Jq) =>
 (Let ↑243 (λ(v276:Jq) =>
 (v275,v276)))))))))))) (v254,v261) P3) (λ(r277:Jq×Jq) =>
 (r277.1,r277.2)))))))))))
def zcG (P0:Jq) (P1:Ji) (P2:Int) (P3:Ji):Prop:=StP P0 P1 P2
def zeI (K:W.Frag) (A:Adr):Sp:=Spv (ι:=Jq×Ji×Int×Ji) (λx=>[dQ K (↑0 lI x.1),dQ K (↑0 dI x.2.1),dI x.2.2.1,dQ K (↑0 dI x.2.2.2)]) (λx=>zcG x.1 x.2.1 x.2.2.1 x.2.2.2) (λx=>↥[dT [dL (↑0 lI ((zas x.1 x.2.1 x.2.2.1 x.2.2.2).1)),dL (↑0 lI ((zas x.1 x.2.1 x.2.2.1 x.2.2.2).2))]])
theorem za2:FnScope ↑212 ["_law_rows","_law_bottoms_here","_law_idle","_law_cells"] (zai zcn):=↥5
theorem ziQ (F:Fun K "_law_stirred" "_law_stirred" zcn f fd) (T:Txt K mg A) (yaa:Callee P w K mg base ⇑1 1 "_law_thing" ↑128 (zcS K A)):FnOk P w K mg base ⇑1 2 f fd ["_law_rows","_law_bottoms_here","_law_idle","_law_cells"] (zeI K A):=by
 refine F.okV za2 ⇑5 ↑10
 obtain ⟨P0,P1,P2,P3⟩:=x
 have hu:=hr.units
 replace hp:zcG P0 P1 P2 P3:=hp
 unfold zcG at hp
 obtain ⟨W,w1,w8,hq,hb,hbb,hi0,hi3⟩:=hp
 refine ⟨_,(zab (zap (i:=4) za2.nd rfl (↥0 rfl) (zca zem)) (zab (zbx ↑11 rfl (zb4 (K:=K) rfl rfl T.zip ↑[pv 0,pv 1]) (zbd (K:=K) (n:=2) rfl rfl (zaD (zal (i:=5) za2.nd rfl (↥0 rfl) (↥0 rfl)) (zaD (zal (i:=6) za2.nd rfl ⇑7 (↥0 rfl)) zbL))) (zab (zbQ (zaG ziO (pv 6) zag (zaQ _)) (zab (zdv (zcr (K:=K) rfl (pv 4) ↑[(zb9 rfl (.of (osc:=(zai zcn)) (N:=↑212) (own:=["_law_entry"]) (fvn:=["_law_number"]) (fv:=[6]) rfl rfl ↑6) (zaM (K:=K) rfl (pv 5)) (λ_ _ _ _ _=>⟨(zal (i:=0) (show (["_law_entry","_law_number"]:List Str).Nodup by decide+kernel) rfl (↥0 rfl) ⇑7),za7,(zav zbh (pv 1) (pv 0))⟩))])) zae) zae) zae)) (zab (zap (i:=7) za2.nd rfl ⇑7 (zaz ↑85 rfl T.len PySem.boot_len ↑[pv 4])) (zab (zap (i:=4) za2.nd rfl (↥0 rfl) (zav zeR (pv 4) (zb9 rfl (.of (osc:=(zai zcn)) (N:=↑212) (own:=["_law_k"]) (fvn:=["_law_rows"]) (fv:=[0]) rfl rfl ↑6) (zb2 rfl T.range ↑[pv 2]) (λ_ _ _ _ _=>⟨(zal (i:=0) (show (["_law_k","_law_rows"]:List Str).Nodup by decide +kernel) rfl (↥0 rfl) ⇑7),za7,(zav zhf ↑123 ↑227)⟩)))) (zab (zc1 (i:=8) rfl za2.nd rfl rfl (.of (osc:=(zai zcn)) (N:=↑212) (own:=["_law_k"]) (fvn:=["_law_kept","_law_idle"]) (fv:=[7,2]) rfl rfl ↑6) (zb2 rfl T.range ↑[pv 2]) (λ_ _ _ _ _=>⟨(zal (i:=0) (show (["_law_k","_law_kept","_law_idle"]:List Str).Nodup by decide +kernel) rfl ⇑7 (↥0 rfl)),za7,(zb9 rfl (.of (osc:=({ kind:=.function,names:=[(".0",.local),("_law_k",.cell),("range",.globalImplicit),("_law_idle",.cell),("_law_kept",.cell)],isGenerator:=false,isCoroutine:=false }:Scope)) (N:=["_law_k","_law_kept","_law_idle"]) (own:=["_law_j"]) (fvn:=["_law_kept","_law_k"]) (fv:=[1,0]) rfl rfl ↑6) (zb2 rfl T.range ↑[zav zbX (pv 1) (pv 2)]) (λ_ _ _ _ _=>⟨(zal (i:=0) (show (["_law_j","_law_kept","_law_k"]:List Str).Nodup by decide +kernel) rfl (↥0 rfl) ⇑7),za7,(zc3 zkh rfl T.int ↑6 ↑[zio zfg (pv 0) (zav zbX (pv 1) (pv 2)) (zaQ _)])⟩))⟩)) (zab (zbx ↑11 rfl (zaM (K:=K) rfl (pv 3)) (zal (i:=9) za2.nd rfl (↥0 rfl) (↥0 rfl)) (zab (zap (i:=10) za2.nd rfl (↥0 rfl) (zaN yaa ↑2 rfl zaK ↑[pv 9,zag,(zaz (zkr rfl) rfl T.max PyProof.Rows.boot_max ↑[zag,(zaz ↑85 rfl T.len PySem.boot_len ↑[pv 4])])])) (zab (zap (i:=11) za2.nd rfl (↥0 rfl) (zaN yaa ↑2 rfl zaK ↑[pv 9,zag,(zaz (zkr rfl) rfl T.max PyProof.Rows.boot_max ↑[zag,(zaz ↑85 rfl T.len PySem.boot_len ↑[pv 4])])])) (zab (zap (i:=12) za2.nd rfl ⇑7 (zav zeT (zaN yaa ↑2 rfl zaK ↑[pv 9,zag,zag]) zag)) (zab (zbQ (zaG zfn (pv 10) (pv 11) (zaQ _)) (zab (zhj (zb9 rfl (.of (osc:=(zai zcn)) (N:=↑212) (own:=↑175) (fvn:=["_law_many"]) (fv:=[12]) rfl rfl ↑6) (zb4 (K:=K) rfl rfl T.zip ↑[(zaR ↥7 (pv 4) (pv 11) ↥4),(zaR ↥7 (pv 4) (pv 10) ↥4)]) ↑256) (zi2 (pv 4) (pv 11) zfM)) (zab (zbx ↑11 rfl (zaM (K:=K) rfl (pv 8)) (zal (i:=13) za2.nd rfl (↥0 rfl) (↥0 rfl)) (zab (zhj (zav zeT (zaR ↥7 (pv 13) (pv 10) ↥4) (zav zbh (pv 12) (zaR ↥7 (pv 13) (pv 11) ↥4))) (zi2 (pv 13) (pv 10) zfM)) zae)) zae)) zae) zae))))) (zab (zaL (zhg ↑[pv 4,pv 8])) zae))))))),.inl ?_⟩
 show L2.Run _ ([⇑[dQ K ↥6],⇑[dQ K ↑7],⇑[dI P2],⇑[dQ K (↑0 dI P3)],.no,.no,.no,.no,.no,.no,.no,.no,.no,.no]:L2.Ctx) _ (↑108 (zas P0 P1 P2 P3))
 unfold zas
 exact (zeu (m:=true) (ds:=↑0 lI []) ↑139 (zbp (s0:=[]) (λ(s239:Jq)=>([⇑[dQ K ↥6],⇑[dQ K ↑7],⇑[dI P2],⇑[dQ K (↑0 dI P3)],.ow true (↑0 lI s239),.no,.no,.no,.no,.no,.no,.no,.no,.no]:L2.Ctx)) ↑108 (λ(s239:Jq) (x240:(Ji×Int))=>(Let (bif (decide ((0:Int)<x240.2)) then (s239++[↑232]) else s239) (λ(v248:Jq)=>v248))) (λ(i:Nat) (s239:Jq)=>s239.length≤i∧∀ r∈s239,r.length=W) (zdT (m:=false) lI dI (xs:=P0) (ys:=P1) ↥2 ⇑8) (.eq ↑150) ↥(⟨↑4 0,λr hr=>by simp at hr⟩) (λi241 x240 s239 hx242 hI243=>have v242:=zbV hx242;⟨↥(zsK ↑1 (by rw [List.length_map];exact hq.2 _ (List.mem_of_getElem? (↑1:_∧_).1))),(zcm (b:=(decide ((0:Int)<x240.2))) (λbb=>([⇑[dQ K ↥6],⇑[dQ K ↑7],⇑[dI P2],⇑[dQ K (↑0 dI P3)],.ow true (↑0 lI (bif bb then (s239++[↑232]) else s239)),⇑[dL (↑0 dI x240.1)],⇑[dI x240.2],.no,.no,.no,.no,.no,.no,.no]:L2.Ctx)) (zau (zaP (x:=x240.2) (y:=(0:Int)) (Ev.any (m:=false) ↑40) zaJ)) (λh244=>(zcj (f:=lI) (xs:=s239) (x:=↑232) rfl (EvO.ev (EvO.conv (zbJ (g:=(λ(x245:Int)=>dI (x240.2*x245))) (za6 (m:=false) dI (xs:=x240.1) ↑63) ↥(zty hq (List.mem_of_getElem? (↑1:_∧_).1) w8) ⇑4 (λi246 x245 hx247=>have v247:=List.mem_of_getElem? hx247;(zaH (x:=x240.2) (y:=x245) ⇑9 ↑19 (by have z:=hbb _ (List.mem_of_getElem? (↑1:_∧_).2);exact .inl ↑56)))) ↑12)) (by have z:=zuC hq ↑1;exact Nat.lt_of_le_of_lt (show _≤1000 by omega) ↥1) (zan (.eq ↑150)))) (λh244=>(zan (.eq ↑150))) (zcA (x:=(bif (decide ((0:Int)<x240.2)) then (s239++[↑232]) else s239)) (λv248=>([⇑[dQ K ↥6],⇑[dQ K ↑7],⇑[dI P2],⇑[dQ K (↑0 dI P3)],.ow true (↑0 lI v248),⇑[dL (↑0 dI x240.1)],⇑[dI x240.2],.no,.no,.no,.no,.no,.no,.no]:L2.Ctx)) (λz=>Oc.nx ((λ(s239:Jq)=>([⇑[dQ K ↥6],⇑[dQ K ↑7],⇑[dI P2],⇑[dQ K (↑0 dI P3)],.ow true (↑0 lI s239),.no,.no,.no,.no,.no,.no,.no,.no,.no]:L2.Ctx)) z)) (λv248 hv248=>(zan (.eq (.eq (.eq (.eq (.eq (.no (.no (.eq ↑13))))))))))))⟩) (λr249 hr249 hI=>(zaq (m:=true) (x:=((r249.length:Nat):Int)) dI ↑108 (zgW (f:=lI) (xs:=r249) rfl) (λv250 hv250=>have hL:=zw8 hI hq w8;have hK:=hv250;(zcw (i:=4) rfl (zfR (m:=true) (x:=(r249++(↑0 (λ(x251:Int)=>↑172) (zbz 0 P2.toNat)))) (λz=>↑0 lI z) ↑108 (zdG (f:=lI) (xs:=r249) (ys:=(↑0 (λ(x251:Int)=>↑172) (zbz 0 P2.toNat))) ↑105 (EvO.ev (EvO.conv (zbJ (g:=(λ(x251:Int)=>dL (↑0 dI ↑172))) (zdy (m:=true) (n:=P2) ↑39 ↑127) ↥(zao ↑173) ⇑4 (λi252 x251 hx253=>have v253:=zby hx253;(EvO.ev (zfo (f:=dI) (xs:=[(0:Int)]) (n:=↑32) ↑110 (zaV (f:=lI) (xs:=P0) ⇑8) (by have z:=hq.1;constructor<;>omega) (by show 1*_≤PySem.sizeLine;have z:=hq.1;exact zao ⇑0))))) ↑12)) ↥(zao (by rw [List.length_map,za4];omega))) (λv254 hv254=>have hS:=zug hq.1 hi0 hL hK hv254;(zpV (x:=(↑0 (λ(x255:Int)=>(↑0 (λ(x258:Int)=>↑260) (zbz 0 (v250+P2).toNat))) (zbz 0 P2.toNat))) dRI ↑108 (zqq (zpH (ns:=λ(x255:Int)=>(↑0 (λ(x258:Int)=>↑260) (zbz 0 (v250+P2).toNat))) (zdy (m:=true) (n:=P2) ↑39 ↑127) ↥(zao ↑173) ⇑4 (λi256 x255 hx257=>have v257:=zby hx257;(EvO.conv (zbJ (g:=(λ(x258:Int)=>dI ↑260)) (zdy (m:=true) (n:=(v250+P2)) (zaP (x:=v250) (y:=P2) ⇑9 ↑39) ↑127) ↥(zao ↑173) ⇑4 (λi259 x258 hx260=>have v260:=zby hx260;(znx (b:=(decide (x258=(v250+x255)))) (zac (zdA (x:=x258) (y:=(v250+x255)) ↑151 (zaP (x:=v250) (y:=x255) ⇑9 ↑47)) zah)))) ↑12)))) (λv261 hv261=>have hTr:=zrN hv261;(zbp (s0:=(v254,v261)) ↑177 ↑108 (λ(s262:Jq×Jq) (x263:Int)=>(Let (zad x263 (4:Int) ↑112) (λ(v267:Int)=>(Let (zad x263 (5:Int) ↑112) (λ(v268:Int)=>(Let ((zad x263 (6:Int) (5:Int))-(2:Int)) (λ(v269:Int)=>(Let (bif (!decide (v267=v268)) then (zcW s262.1 v268 ↑214) else s262.1) (λ(v275:Jq)=>(Let ↑243 (λ(v276:Jq)=>(v275,v276)))))))))))) (λ(i:Nat) (s262:Jq×Jq)=>StI W (v250+P2).toNat s262) (za6 (m:=false) dI (xs:=P3) ↑33) (.eq ↑150) ↥(⟨hS,hTr⟩) (λi264 x263 s262 hx265 hI266=>have v265:=List.mem_of_getElem? hx265;⟨↥(zrg ↑1 (zhh (↑140).1 rfl) (zhh (↑140).1 rfl)),(zaq (m:=true) (x:=(zad x263 (4:Int) ↑112)) dI (λz=>Oc.nx (↑177 z)) (Ev.any (m:=true) (zam (x:=(x263,(4:Int),↑112)) (zac (Ev.any (m:=false) ↑144) (zac zaJ (zac (zql (x:=(1:Int)) (y:=((s262.1.length:Nat):Int)) (zac zaJ (zac (zgW (f:=lI) (xs:=s262.1) rfl) zah))) zah))) rfl (by show zaT x263 (4:Int) ↑112;refine ↑265) rfl)) (λv267 hv267=>have hO:=zhh (↑140).1 hv267;(zaq (m:=true) (x:=(zad x263 (5:Int) ↑112)) dI (λz=>Oc.nx (↑177 z)) (Ev.any (m:=true) (zam (x:=(x263,(5:Int),↑112)) (zac (Ev.any (m:=false) ↑144) (zac zaJ (zac (zql (x:=(1:Int)) (y:=((s262.1.length:Nat):Int)) (zac zaJ (zac (zgW (f:=lI) (xs:=s262.1) rfl) zah))) zah))) rfl (by show zaT x263 (5:Int) ↑112;refine ↑265) rfl)) (λv268 hv268=>have hT:=zhh (↑140).1 hv268;(zaq (m:=true) (x:=((zad x263 (6:Int) (5:Int))-(2:Int))) dI (λz=>Oc.nx (↑177 z)) (zaP (x:=(zad x263 (6:Int) (5:Int))) (y:=(2:Int)) (Ev.any (m:=true) (zam (x:=(x263,(6:Int),(5:Int))) (zac (Ev.any (m:=false) ↑144) (zac zaJ ↑51)) rfl (by show zaT x263 (6:Int) (5:Int);refine ↑265) rfl)) zaJ) (λv269 hv269=>have hM:=zlY hv269;(zcm (b:=(!decide (v267=v268))) (λbb=>([⇑[dQ K ↥6],⇑[dQ K ↑7],⇑[dI P2],⇑[dQ K (↑0 dI P3)],.ow true (↑0 lI (bif bb then (zcW s262.1 v268 ↑214) else s262.1)),.no,.no,↥[dI v250],.tl (dRI (bif bb then (↑0 (λ(ns274:Ji)=>zcW ns274 v267 ((ixD ns274 v267)-(v269*(ixD ns274 v268)))) s262.2) else s262.2)),⇑[dI x263],↥[dI v267],↥[dI v268],↥[dI v269],.no]:L2.Ctx)) (zau (zdX (x:=v267) (y:=v268) ↑233 (Ev.any (m:=true) (zaa (i:=11) rfl)))) (λh270=>(zfU (f:=lI) (xs:=s262.1) (x:=↑214) rfl (EvO.ev (EvO.conv (zbJ (g:=(λ(x271:↑9)=>dI (x271.1+(v269*x271.2)))) (zdT (m:=true) dI dI (xs:=(ixD s262.1 v268)) (ys:=(ixD s262.1 v267)) (Ev.weak (K:=K) (zeX (f:=lI) (xs:=s262.1) rfl (Ev.any (m:=true) (zaa (i:=11) rfl)) ↥(ziw (↑140).1 (↑117).2.1 (↑117).2.2))) (Ev.weak (K:=K) (zeX (f:=lI) (xs:=s262.1) rfl ↑233 ↥(ziw (↑140).1 (↑117).1.1 (↑117).1.2)))) ↥(zu7 (↑140).1 (↑117).2 w8) ⇑4 (λi272 x271 hx273=>have v273:=zbV hx273;(zaP (x:=x271.1) (y:=(v269*x271.2)) ↑151 (zaH (x:=v269) (y:=x271.2) ↑47 ↑42 ↥(.inl ↑56))))) ↑12)) (Ev.any (m:=true) (zaa (i:=11) rfl)) ↥(ziw (↑140).1 (↑117).2.1 (↑117).2.2) (zk4 (nss:=s262.2) (i:=8) (j:=13) (v:=λ(ns274:Ji)=>((ixD ns274 v267)-(v269*(ixD ns274 v268)))) (k:=v267) (P:=λ(ns274:Ji)=>ns274.length=(v250+P2).toNat) rfl rfl rfl ↥((↑140).2) (λns274 hns=>↥(zrd hns (↑117).1)) (λns274 hns=>Ev.borrow (m:=false) rfl (zaP (x:=(ixD ns274 v267)) (y:=(v269*(ixD ns274 v268))) (Ev.any (m:=true) (zbe (f:=dI) (xs:=ns274) (Ev.weak (K:=K) (zaa (i:=13) rfl)) ↑233 ↥(zrd hns (↑117).1))) (zaH (x:=v269) (y:=(ixD ns274 v268)) (Ev.any (m:=true) (zaa (i:=12) rfl)) (Ev.any (m:=true) (zbe (f:=dI) (xs:=ns274) (Ev.weak (K:=K) (zaa (i:=13) rfl)) (Ev.any (m:=true) (zaa (i:=11) rfl)) ↥(zrd hns (↑117).2))) ↥(.inl ↑56)))) (λns274 hns=>Ev.borrow (m:=false) rfl ↑233) (zan (.eq ↑150))))) (λh270=>(zan (.eq ↑150))) (zcA (x:=(bif (!decide (v267=v268)) then (zcW s262.1 v268 ↑214) else s262.1)) (λv275=>([⇑[dQ K ↥6],⇑[dQ K ↑7],⇑[dI P2],⇑[dQ K (↑0 dI P3)],.ow true (↑0 lI v275),.no,.no,↥[dI v250],.tl (dRI ↑243),⇑[dI x263],↥[dI v267],↥[dI v268],↥[dI v269],.no]:L2.Ctx)) (λz=>Oc.nx (↑177 z)) (λv275 hv275=>(zcA (x:=↑243) (λv276=>([⇑[dQ K ↥6],⇑[dQ K ↑7],⇑[dI P2],⇑[dQ K (↑0 dI P3)],.ow true (↑0 lI v275),.no,.no,↥[dI v250],.tl (dRI v276),⇑[dI x263],↥[dI v267],↥[dI v268],↥[dI v269],.no]:L2.Ctx)) (λz=>Oc.nx (↑177 z)) (λv276 hv276=>(zan (.eq (.eq (.eq (.eq (.eq (.eq (.eq (.eq (.eq (.no (.no (.no (.no (.eq .nil))))))))))))))))))))))))))⟩) (λr277 hr277 hI=>(zmW rfl (zcw (i:=4) rfl (zaj (zaA (zhr (zac ↑105 (zac (zvB ↑106) zah)) ↑130)))))))))))))))))
theorem znM {b:Nat} {l t:Ji} {q:Int} (h:Lat.Bit b l) (k:Lat.Bit b t) (hq:-2≤q∧q≤2):Lat.Bit (b+2) (↑0 (λ(x:Int×Int)=>x.1+(q*x.2)) (List.zip l t))∧Lat.Bit (b+2) (↑0 ↑165 (List.zip l t)):=by
 have a4:(2:Nat)^(b+2)=4*2^b:=by rw [Nat.pow_add];omega
 have key:∀ x:Int×Int,x∈List.zip l t->x.1.natAbs≤2^b∧(q*x.2).natAbs≤2*2^b:=λx hx=>by
  obtain ⟨h1,h2⟩:=List.of_mem_zip (a:=x.1) (b:=x.2) hx
  exact ⟨h _ h1,by rw [Int.natAbs_mul];exact Nat.mul_le_mul ⇑0 (k _ h2)⟩
 refine ⟨λy hy=>?_,λy hy=>?_⟩ <;>
 ·obtain ⟨x,hx,rfl⟩:=List.mem_map.mp hy
  have:=key x hx
  rw [a4]
  omega
def FrJ (W b:Nat) (s:Jq×Jq):Prop:=(s.1.length=W∧Lat.RB W b s.1)∧s.2.length=W∧Lat.RB W b s.2
theorem zqu {W b:Nat} {rows:Jq} {i:Int} {y:Ji} (h:rows.length=W∧Lat.RB W b rows) (hy:y.length=W∧Lat.Bit (b+2) y):(zcW rows i y).length=W∧Lat.RB W (b+2) (zcW rows i y):=by
 refine ⟨by rw [zex];exact h.1,λr hr=>?_⟩
 rcases Lat.zgI hr with rfl | hr
 ·exact hy
 ·exact ⟨(h.2 r hr).1,((h.2 r hr).2).mono ⇑0⟩
theorem ztr {W b:Nat} {rows:Jq} (h:rows.length=W∧Lat.RB W b rows):rows.length=W∧Lat.RB W (b+2) rows:=⟨h.1,λr hr=>⟨(h.2 r hr).1,((h.2 r hr).2).mono ⇑0⟩⟩
theorem zmK {W b n:Nat} {rows:Jq} (h:rows.length=n∧Lat.RB W b rows):Sq W n rows:=⟨h.1,λr hr=>(h.2 r hr).1⟩
noncomputable def frF (w:Int):Jq×Jq->Int->Jq×Jq:=λs x=>Let (zad x (1:Int) w) (λ(one:Int)=>Let (zad x (2:Int) w) (λ(two:Int)=>Let ((zad x (3:Int) (5:Int))-(2:Int)) (λ(many:Int) =>
 Let (bif (!decide (one=two)) then (zcW s.1 two (↑0 (λ(x35:↑9)=>(x35.1+(many*x35.2))) (List.zip (ixD s.1 two) (ixD s.1 one)))) else s.1) (λ(rows41:Jq) =>
 Let (bif (!decide (one=two)) then (zcW s.2 one (↑0 (λ(x38:↑9)=>(x38.1-(many*x38.2))) (List.zip (ixD s.2 one) (ixD s.2 two)))) else s.2) (λ(duals42:Jq)=>(rows41,duals42))))))
theorem znm {w:Int} {W:Nat} (hw:w=(W:Int)) (h1:1≤w):∀ (cs:Ji) (b:Nat) (s:Jq×Jq),FrJ W b s->FrJ W (b+2*cs.length) (List.foldl (frF w) s cs)
 | [],b,s,h=>h
 | c :: cs,b,s,h=>by
  rw [List.foldl_cons,List.length_cons,show b+2*(cs.length+1)=b+2+2*cs.length by omega]
  refine znm hw h1 cs (b+2) _ ?_
  have hO:=zew (c:=c) (k:=1) hw h1 rfl
  have hT:=zew (c:=c) (k:=2) hw h1 rfl
  have hM:=zlY (c:=c) (k:=3) rfl
  unfold frF Let
  dsimp only
  generalize zad c 1 w=one at *
  generalize zad c 2 w=two at *
  generalize zad c 3 5-2=many at *
  have q1:=zmK h.1
  have q2:=zmK h.2
  have m:∀ {rows:Jq} {x:Int},rows.length=W∧Lat.RB W b rows->0≤x∧x<(W:Int)->Lat.Bit b (ixD rows x):=λh hx=>(h.2 _ (zbK (ziw (zmK h) hx.1 hx.2))).2
  cases (!decide (one=two))
  ·exact ⟨ztr h.1,ztr h.2⟩
  ·exact ⟨zqu h.1 ⟨zkO q1 q1 hT hO,(znM (m h.1 hT) (m h.1 hO) hM).1⟩,zqu h.2 ⟨zkO q2 q2 hO hT,(znM (m h.2 hO) (m h.2 hT) hM).2⟩⟩
theorem zlZ {w:Int} {W:Nat} {cs:Ji} (hw:w=(W:Int)) (h1:1≤w):FrJ W (2*cs.length) (zbU w cs):=by
 have h:=znm hw h1 cs 0 (↑0 ↑159 (zbz 0 w.toNat),↑0 ↑58 (↑0 ↑159 (zbz 0 w.toNat))) (by
  have h0:∀ x:Int,Lat.Bit 0 (↑0 (λ(y:Int)=>(if (decide (y=x)) then (1:Int) else 0)) (zbz 0 w.toNat)):=λx y hy=>by
   obtain ⟨z,_,rfl⟩:=List.mem_map.mp hy
   cases decide (z=x)<;>decide
  have hA:(((↑0 ↑159 (zbz 0 w.toNat))).length=W)∧Lat.RB W 0 (↑0 ↑159 (zbz 0 w.toNat)):=by
   refine ⟨by rw [List.length_map,za4];omega,λr hr=>?_⟩
   obtain ⟨x,_,rfl⟩:=List.mem_map.mp hr
   exact ⟨by rw [List.length_map,za4];omega,h0 x⟩
  exact ⟨hA,by rw [List.map_id'];exact hA⟩)
 rw [Nat.zero_add] at h
 exact h
def zv3 (n:Nat) (swaps trips:Jq):Prop:=∀ t∈trips,∀ j,j<n->Lat.comb t (swaps.map Lat.vec) j=0
def StJ (n k b c:Nat) (s:Jq×Jq):Prop:=(s.1.length=k∧Lat.RB n b s.1)∧(∀ t∈s.2,t.length=k∧Lat.Bit c t)∧zv3 n s.1 s.2
theorem zpD {rows:Jq} {k:Nat} {y:Ji}:(rows.set k y).map Lat.vec=(rows.map Lat.vec).set k (Lat.vec y):=List.map_set
theorem ziE {α:Type} {xs:List α} {k:Nat} {x:α} (h:k<xs.length):zcW xs (k:Int) x=xs.set k x:=by
 unfold zcW ixN
 rw [if_pos ⇑0,if_pos ⇑0]
 show xs.set (k:Int).toNat x=_
 rw [Int.toNat_natCast]
noncomputable def stF:Jq×Jq->Int->Jq×Jq:=λs x=>Let (zad x (4:Int) ↑113) (λ(one:Int)=>Let (zad x (5:Int) ↑113) (λ(two:Int)=>Let ((zad x (6:Int) (5:Int))-(2:Int)) (λ(many:Int) =>
 Let (bif (!decide (one=two)) then (zcW s.1 two (↑0 (λ(z:↑9)=>(z.1+(many*z.2))) (List.zip (ixD s.1 two) (ixD s.1 one)))) else s.1) (λ(swaps:Jq) =>
 Let (bif (!decide (one=two)) then (↑0 (λ(ns:Ji)=>zcW ns one ((ixD ns one)-(many*(ixD ns two)))) s.2) else s.2) (λ(trips:Jq)=>(swaps,trips))))))
theorem zlA {n k:Nat}:∀ (cs:Ji) (b c:Nat) (s:Jq×Jq),StJ n k b c s->StJ n k (b+2*cs.length) (c+2*cs.length) (List.foldl stF s cs)
 | [],b,c,s,h=>h
 | x :: cs,b,c,s,h=>by
  rw [List.foldl_cons,List.length_cons,show b+2*(cs.length+1)=b+2+2*cs.length by omega,show c+2*(cs.length+1)=c+2+2*cs.length by omega]
  refine zlA cs (b+2) (c+2) _ ?_
  obtain ⟨h1,h2,h3⟩:=h
  have hq:=zmK h1
  have hO:=zhh (c:=x) (k:=4) hq rfl
  have hT:=zhh (c:=x) (k:=5) hq rfl
  have hM:=zlY (c:=x) (k:=6) rfl
  unfold stF Let
  dsimp only
  generalize zad x 4 ↑113=one at *
  generalize zad x 5 ↑113=two at *
  generalize zad x 6 5-2=many at *
  by_cases e:one=two
  ·rw [decide_eq_true e]
   exact ⟨⟨h1.1,λr hr=>⟨(h1.2 r hr).1,((h1.2 r hr).2).mono ⇑0⟩⟩,λt ht=>⟨(h2 t ht).1,((h2 t ht).2).mono ⇑0⟩,h3⟩
  ·rw [decide_eq_false e]
   have hl:=zgS hO hT (by simp [e])
   obtain ⟨o,rfl⟩:∃ o:Nat,one=(o:Int):=⟨one.toNat,by omega⟩
   obtain ⟨w,rfl⟩:∃ w:Nat,two=(w:Int):=⟨two.toNat,by omega⟩
   have how:o≠w:=λz=>e (by rw [z])
   have ho:o<s.1.length:=by rw [h1.1];omega
   have hw:w<s.1.length:=by rw [h1.1];omega
   have ge:∀ {i:Nat} (hi:i<s.1.length),ixD s.1 (i:Int)=s.1[i]:=λhi=>zbY (List.getElem?_eq_getElem hi)
   show StJ n k (b+2) (c+2) (zcW s.1 (w:Int) _,↑0 _ s.2)
   rw [ge ho,ge hw,ziE hw]
   have ro:=h1.2 _ (List.getElem_mem ho)
   have rw':=h1.2 _ (List.getElem_mem hw)
   refine ⟨⟨by rw [List.length_set];exact h1.1,λr hr=>?_⟩,λt ht=>?_,λt ht j hj=>?_⟩
   ·rcases List.mem_or_eq_of_mem_set hr with h' | rfl
    ·exact ⟨(h1.2 r h').1,((h1.2 r h').2).mono ⇑0⟩
    ·exact ⟨by rw [List.length_map,List.length_zip,ro.1,rw'.1];omega,(znM rw'.2 ro.2 hM).1⟩
   ·obtain ⟨ns,hns,rfl⟩:=List.mem_map.mp ht
    have hn:=h2 ns hns
    refine ⟨by rw [zex];exact hn.1,λy hy=>?_⟩
    have a4:(2:Nat)^(c+2)=4*2^c:=by rw [Nat.pow_add];omega
    rcases Lat.zgI hy with rfl | hy
    ·have b1:=hn.2 _ (zbK (xs:=ns) (i:=(o:Int)) ↑115)
     have b2:=hn.2 _ (zbK (xs:=ns) (i:=(w:Int)) ↑115)
     have b3:(many*ixD ns (w:Int)).natAbs≤2*2^c:=by rw [Int.natAbs_mul];exact Nat.mul_le_mul ⇑0 b2
     rw [a4];omega
    ·have:=hn.2 y hy
     rw [a4];omega
   ·obtain ⟨ns,hns,rfl⟩:=List.mem_map.mp ht
    have hn:=h2 ns hns
    have no:o<ns.length:=by omega
    have nw:w<ns.length:=by omega
    have e1:ixD ns (o:Int)=ns[o]:=zbY (List.getElem?_eq_getElem no)
    have e2:ixD ns (w:Int)=ns[w]:=zbY (List.getElem?_eq_getElem nw)
    rw [ziE no,e1,e2,zpD]
    rw [Lat.zkj (t1:=ns[o]) (t2:=ns[w]) (a1:=Lat.vec s.1[o]) (a2:=Lat.vec s.1[w]) how (List.getElem?_eq_getElem no) (List.getElem?_eq_getElem nw) (by rw [List.getElem?_map,List.getElem?_eq_getElem ho];rfl) (by rw [List.getElem?_map,List.getElem?_eq_getElem hw];rfl) (Lat.zfE (by rw [ro.1,rw'.1]))]
    exact h3 ns hns j hj
theorem znL {W b:Nat}:∀ (l:List (Ji×Int)) (acc:Jq),(∀ p∈l,p.1.length=W∧Lat.Bit b p.1∧0≤p.2∧p.2≤1000000001)->Lat.RB W (b+30) acc->(List.foldl ↑181 acc l).length≤acc.length+l.length∧Lat.RB W (b+30) (List.foldl ↑181 acc l)
 | [],acc,_,h=>⟨↑4 _,h⟩
 | p :: l,acc,hl,h=>by
  have hp:=hl p ↑3
  rw [List.foldl_cons]
  have hn:((bif (decide ((0:Int)<p.2)) then (acc++[↑0 (λ(y:Int)=>(p.2*y)) p.1]) else acc)).length≤acc.length+1∧Lat.RB W (b+30) (bif (decide ((0:Int)<p.2)) then (acc++[↑0 (λ(y:Int)=>(p.2*y)) p.1]) else acc):=by
   cases decide ((0:Int)<p.2)
   ·exact ⟨Nat.le_succ _,h⟩
   ·refine ⟨by rw [cond_true,List.length_append,List.length_singleton];exact ↑4 _,λr hr=>?_⟩
    rcases List.mem_append.mp hr with hr | hr
    ·exact h r hr
    ·rw [List.mem_singleton.mp hr]
     refine ⟨by rw [List.length_map];exact hp.1,λy hy=>?_⟩
     obtain ⟨z,hz,rfl⟩:=List.mem_map.mp hy
     rw [Int.natAbs_mul,Nat.pow_add,Nat.mul_comm]
     exact Nat.mul_le_mul (hp.2.1 z hz) (⇑6 (show p.2.natAbs≤1000000001 by omega) ↥1)
  have:=znL l _ (λq hq=>hl q (⇑3 _ hq)) hn.2
  refine ⟨⇑6 this.1 ?_,this.2⟩
  rw [List.length_cons]
  have:=hn.1
  omega
theorem ztk {W k:Nat} {a:Jq} {idle:Int} (h0:0≤idle) {w:Int}:zv3 W (a++↑0 (λ(_:Int)=>zcI w [(0:Int)]) ↑103) (↑0 (λ(x:Int)=>↑0 (λ(y:Int)=>(if (decide (y=(↑116+x))) then (1:Int) else 0)) (zbz 0 (↑116+idle).toNat)) ↑103):=λt ht j _=>by
 obtain ⟨x,hx,rfl⟩:=List.mem_map.mp ht
 have hx0:=(zmm.mp hx).1
 refine Lat.zif λi y v h1 h2=>?_
 rw [List.getElem?_map] at h1 h2
 cases q:(zbz 0 (↑116+idle).toNat)[i]? with
 | none=>rw [q] at h1;cases h1
 | some z =>
  rw [q] at h1
  obtain ⟨g1,g2⟩:=zby q
  have h1:(if (decide (z=(↑116+x))) then (1:Int) else 0)=y:=Option.some.inj h1
  by_cases e:i<a.length
  ·rw [decide_eq_false ⇑0] at h1
   rw [← h1];simp
  ·rw [List.getElem?_append_right ⇑0,List.getElem?_map] at h2
   cases q2:(↑103)[i-a.length]? with
   | none=>rw [q2] at h2;cases h2
   | some z2 =>
    rw [q2] at h2
    have h2:Lat.vec (zcI w [(0:Int)])=v:=Option.some.inj h2
    rw [← h2]
    have:Lat.vec (zcI w [(0:Int)]) j=0:=by
     by_cases hw:0≤w
     ·obtain ⟨n,rfl⟩:∃ n:Nat,w=(n:Int):=⟨w.toNat,by omega⟩
      exact Lat.zeC
     ·unfold zcI
      rw [show w.toNat=0 by omega]
      simp [Lat.vec]
    rw [this];simp
theorem zi1 {W b:Nat} {rows:Jq} {bs cs:Ji} {idle:Int} (hr:rows.length=W∧Lat.RB W b rows) (hw:W≤8) (hb:∀ x∈bs,0≤x∧x≤1000000001) (hi:0≤idle∧idle≤4) :
  ∃ k,k≤12∧StJ W k (b+30+2*cs.length) (2*cs.length) (zas rows bs idle cs):=by
 have h0:=znL (W:=W) (b:=b) (List.zip rows bs) [] (λp hp=>by
  have:=List.of_mem_zip (a:=p.1) (b:=p.2) hp
  exact ⟨(hr.2 _ this.1).1,(hr.2 _ this.1).2,hb _ this.2⟩) (λr hr=>by simp at hr)
 rw [List.length_zip,List.length_nil,Nat.zero_add] at h0
 unfold zas
 generalize ha:(List.foldl ↑181 [] (List.zip rows bs))=a at h0
 show ∃ k,k≤12∧StJ W k _ _ (List.foldl stF (a++↑0 (λ(_:Int)=>zcI ↑99 [(0:Int)]) ↑103,↑0 (λ(x:Int)=>↑0 (λ(y:Int)=>(if (decide (y=(↑116+x))) then (1:Int) else 0)) (zbz 0 (↑116+idle).toNat)) ↑103) cs)
 have hl:=hr.1
 refine ⟨a.length+idle.toNat,by have:=h0.1;omega,?_⟩
 have:=zlA (n:=W) (k:=a.length+idle.toNat) cs (b+30) 0 (a++↑0 (λ(_:Int)=>zcI ↑99 [(0:Int)]) ↑103,↑0 (λ(x:Int)=>↑0 (λ(y:Int)=>(if (decide (y=(↑116+x))) then (1:Int) else 0)) (zbz 0 (↑116+idle).toNat)) ↑103) ⟨⟨by rw [List.length_append,List.length_map,za4],λr hr'=>?_⟩,λt ht=>?_,ztk (k:=0) (a:=a) (w:=↑99) hi.1⟩
 ·rw [Nat.zero_add] at this
  exact this
 ·rcases List.mem_append.mp hr' with hr' | hr'
  ·exact h0.2 r hr'
  ·obtain ⟨x,_,rfl⟩:=List.mem_map.mp hr'
   refine ⟨by rw [Lat.zce];exact hl,λy hy=>?_⟩
   obtain ⟨j,_,rfl⟩:=Lat.zjG hy
   rw [Lat.zeC];exact Nat.zero_le _
 ·obtain ⟨x,_,rfl⟩:=List.mem_map.mp ht
  refine ⟨by rw [List.length_map,za4];omega,λy hy=>?_⟩
  obtain ⟨z,_,rfl⟩:=List.mem_map.mp hy
  cases decide (z=(↑116+x))<;>decide
theorem zp5:∀ (cs:Ji) (s:Jq×Jq),((List.foldl stF s cs)).2.length=s.2.length
 | [],_=>rfl
 | c :: cs,s=>by
  rw [List.foldl_cons,zp5 cs]
  unfold stF Let
  dsimp only
  cases (!decide (zad c (4:Int) ↑113=zad c (5:Int) ↑113))
  ·rfl
  ·rw [cond_true,List.length_map]
abbrev Sd4:=T4 Jq Jq Ji Jq
theorem zu1 {w x k i:Int} {cs o:Ji} {f:Jq×Jq} (hW:1≤w∧w≤8) (hF:f=zbU w cs) (hO:o=za0 w x k) (hI:0≤i∧i≤4):StP f.1 o i:=by
 obtain ⟨W,hWW⟩:∃ W:Nat,w=(W:Int):=⟨w.toNat,by omega⟩
 have h:=zlZ (cs:=cs) hWW hW.1
 rw [← hF] at h
 have b:=zqD (w:=w) (c:=x) (f:=k) ⇑0
 rw [← hO] at b
 exact ⟨W,by omega,by omega,zmK h.1,by omega,b.2,hI.1,hI.2⟩
theorem zoP {w:Int} {W:Nat} (hw:w=(W:Int)) (h1:1≤w):∀ (cs:Ji) (s:Jq×Jq),Lat.Du W s->Lat.Du W (List.foldl (frF w) s cs)
 | [],s,h=>h
 | c :: cs,s,h=>by
  rw [List.foldl_cons]
  refine zoP hw h1 cs _ ?_
  have hO:=zew (c:=c) (k:=1) hw h1 rfl
  have hT:=zew (c:=c) (k:=2) hw h1 rfl
  unfold frF Let
  dsimp only
  generalize zad c 1 w=one at *
  generalize zad c 2 w=two at *
  generalize zad c 3 5-2=many at *
  by_cases e:one=two
  ·rw [decide_eq_true e];exact h
  ·rw [decide_eq_false e]
   obtain ⟨o,rfl⟩:∃ o:Nat,one=(o:Int):=⟨one.toNat,by omega⟩
   obtain ⟨t,rfl⟩:∃ t:Nat,two=(t:Int):=⟨two.toNat,by omega⟩
   have ho1:o<s.1.length:=by rw [h.l1];omega
   have ht1:t<s.1.length:=by rw [h.l1];omega
   have ho2:o<s.2.length:=by rw [h.l2];omega
   have ht2:t<s.2.length:=by rw [h.l2];omega
   have g1:=List.getElem?_eq_getElem ho1;have g2:=List.getElem?_eq_getElem ht1
   have g3:=List.getElem?_eq_getElem ho2;have g4:=List.getElem?_eq_getElem ht2
   show Lat.Du W (zcW s.1 (t:Int) _,zcW s.2 (o:Int) _)
   rw [zbY g1,zbY g2,zbY g3,zbY g4,ziE ht1,ziE ho2]
   exact h.step many (λz=>e (by rw [z])) g1 g2 g3 g4
theorem zpr {w:Int} {W:Nat} {cs:Ji} (hw:w=(W:Int)) (h1:1≤w):Lat.Du W (zbU w cs):=by
 have h:=zoP hw h1 cs (↑0 ↑159 (zbz 0 w.toNat),↑0 ↑58 (↑0 ↑159 (zbz 0 w.toNat))) (by
  rw [List.map_id']
  exact Lat.Du.start (by rw [hw,Int.toNat_natCast]))
 exact h
theorem zlF:∀ (cs:Ji) (s:Jq×Jq),((List.foldl stF s cs)).1.length=s.1.length
 | [],_=>rfl
 | c :: cs,s=>by
  rw [List.foldl_cons,zlF cs]
  unfold stF Let
  dsimp only
  cases (!decide (zad c (4:Int) ↑113=zad c (5:Int) ↑113))
  ·rfl
  ·rw [cond_true,zex]
theorem ztH {n k:Nat} {u:Lat.Vc}:∀ (cs:Ji) (b c:Nat) (s:Jq×Jq),StJ n k b c s->(Lat.SpL ((List.foldl stF s cs)).1 u ↔ Lat.SpL s.1 u)
 | [],_,_,_,_=>Iff.rfl
 | x :: cs,b,c,s,h=>by
  have h':=zlA [x] b c s h
  rw [List.foldl_cons]
  refine (ztH cs _ _ _ h').trans ?_
  obtain ⟨h1,h2,h3⟩:=h
  have hq:=zmK h1
  have hO:=zhh (c:=x) (k:=4) hq rfl
  have hT:=zhh (c:=x) (k:=5) hq rfl
  show Lat.SpL (stF s x).1 u ↔ _
  unfold stF Let
  dsimp only
  generalize zad x 4 ↑113=one at *
  generalize zad x 5 ↑113=two at *
  generalize zad x 6 5-2=many at *
  by_cases e:one=two
  ·rw [decide_eq_true e];exact Iff.rfl
  ·rw [decide_eq_false e]
   have hl:=zgS hO hT (by simp [e])
   obtain ⟨o,rfl⟩:∃ o:Nat,one=(o:Int):=⟨one.toNat,by omega⟩
   obtain ⟨t,rfl⟩:∃ t:Nat,two=(t:Int):=⟨two.toNat,by omega⟩
   have ho:o<s.1.length:=by rw [h1.1];omega
   have ht:t<s.1.length:=by rw [h1.1];omega
   have g1:=List.getElem?_eq_getElem ho;have g2:=List.getElem?_eq_getElem ht
   show Lat.SpL (zcW s.1 (t:Int) _) u ↔ _
   rw [zbY g1,zbY g2,ziE ht]
   exact Lat.zqa (λz=>e (by rw [z])) g1 g2 λk=>Lat.zfE (by rw [(h1.2 _ (List.mem_of_getElem? g1)).1,(h1.2 _ (List.mem_of_getElem? g2)).1])
theorem zj5:∀ (l:List (Ji×Int)) (acc:Jq),List.foldl ↑181 acc l=acc++(l.filter λp=>decide (0<p.2)).map λp=>↑0 (λ(y:Int)=>p.2*y) p.1
 | [],acc=>by simp
 | p :: l,acc=>by
  rw [List.foldl_cons,zj5 l]
  show (bif (decide ((0:Int)<p.2)) then (acc++[↑0 (λ(y:Int)=>(p.2*y)) p.1]) else acc)++_=_
  by_cases q:(0:Int)<p.2
  ·rw [decide_eq_true q,List.filter_cons_of_pos ↥(decide_eq_true q),List.map_cons];simp
  ·rw [decide_eq_false q,List.filter_cons_of_neg ↑57];rfl
theorem zg2 {W b:Nat} {rows:Jq} {bs cs:Ji} {idle:Int} {u:Lat.Vc} (hr:rows.length=W∧Lat.RB W b rows) (hw:W≤8) (hb:∀ x∈bs,0≤x∧x≤1000000001) (hi:0≤idle∧idle≤4) :
  (Lat.SpL ((zas rows bs idle cs)).1 u ↔ Lat.SpL (Lat.scl rows bs) u)∧((zas rows bs idle cs)).1.length≤W+idle.toNat:=by
 obtain ⟨k,k1,k2⟩:=zi1 (cs:=[]) (bs:=bs) hr hw hb hi
 have e:zas rows bs idle cs=List.foldl stF (zas rows bs idle []) cs:=rfl
 have e0:((zas rows bs idle [])).1=Lat.scl rows bs++↑0 (λ(_:Int)=>zcI ↑99 [(0:Int)]) ↑103:=by
  show (List.foldl ↑181 [] (List.zip rows bs))++_=_
  rw [zj5,List.nil_append];rfl
 rw [e,zlF]
 refine ⟨(ztH cs _ _ _ k2).trans ?_,?_⟩
 ·rw [e0]
  refine Lat.znv λs hs j=>?_
  obtain ⟨_,_,rfl⟩:=List.mem_map.mp hs
  exact Lat.zeC
 ·rw [e0,List.length_append,List.length_map,za4]
  have:(Lat.scl rows bs).length≤rows.length:=by
   unfold Lat.scl
   rw [List.length_map]
   exact ⇑6 (List.length_filter_le _ _) ↑164
  have:=hr.1
  omega
theorem ziW {W b:Nat} {rows:Jq} {bs cs:Ji} {idle:Int} (hr:rows.length=W∧Lat.RB W b rows) (hw:W≤8) (hb:∀ x∈bs,0≤x∧x≤1000000001) (hi:0≤idle∧idle≤4):Lat.RB W (b+30+2*cs.length) ((zas rows bs idle cs)).1:=by
 obtain ⟨k,k1,k2⟩:=zi1 (cs:=cs) (bs:=bs) hr hw hb hi
 exact k2.1.2
noncomputable def zbk (P0:Ji) (P1:Int) (P2:Int) (P3:Int):↥8 :=
 (Let (↑32/(2:Int)) (λ(hv278:Int) =>
 (Let (zbU P1 (zbI P0 none (some hv278))) (λ(p279:(Jq×Jq)) =>
 (Let (za0 P1 P2 (7:Int)) (λ(v280:Ji) =>
 (Let ((zas p279.1 v280 P3 (zbI P0 (some hv278) none)).1) (λ(v281:Jq) =>
 (T4.mk p279.1 p279.2 v280 v281)))))))))
def zd1 (P0:Ji) (P1:Int) (P2:Int) (P3:Int):Prop:=(1≤P1∧P1≤8)∧0≤P3∧P3≤4
def zhU (K:W.Frag) (A:Adr):Sp:=Spv (ι:=Ji×Int×Int×Int) (λx=>[dQ K (↑0 dI x.1),dI x.2.1,dI x.2.2.1,dI x.2.2.2]) (λx=>zd1 x.1 x.2.1 x.2.2.1 x.2.2.2) (λx=>↥[dT [dL (↑0 lI ((↑266).a)),dL (↑0 lI ((↑266).b)),dL (↑0 dI ((↑266).c)),dL (↑0 lI ((↑266).d))]])
theorem zdD:FnScope ["_law_cells","_law_wide","_law_cell_here","_law_idle","_law_half","_law_rows","_law_duals","_law_bottoms_here","_law_swaps"] ["_law_cells","_law_wide","_law_cell_here","_law_idle"] (zai zhd):=↥5
theorem zlu (F:Fun K "_law_side" "_law_side" zhd f fd) (T:Txt K mg A) (yaX:Callee P w K mg base ⇑1 2 "_law_bottoms" ["_law_wide","_law_cell_here","_law_far"] (zf7 K A)) (ybc:Callee P w K mg base ⇑1 2 "_law_frame" ["_law_wide","_law_cells"] (zho K A)) (yal:Callee P w K mg base ⇑1 2 "_law_stirred" ["_law_rows","_law_bottoms_here","_law_idle","_law_cells"] (zeI K A)):FnOk P w K mg base ⇑1 3 f fd ["_law_cells","_law_wide","_law_cell_here","_law_idle"] (zhU K A):=by
 refine F.okV zdD ⇑5 ↑10
 obtain ⟨P0,P1,P2,P3⟩:=x
 have hu:=hr.units
 replace hp:zd1 P0 P1 P2 P3:=hp
 unfold zd1 at hp
 refine ⟨_,(zab (zap (i:=4) zdD.nd rfl (↥0 rfl) (zav zbo ↑111 zag)) (zab (zhj (zaN ybc ↑2 rfl zaK ↑[pv 1,(zch ↑66 (pv 0) zdI (zcM (pv 4)))]) (zbd (K:=K) (n:=2) rfl rfl (zaD (zal (i:=5) zdD.nd rfl (↥0 rfl) (↥0 rfl)) (zaD (zal (i:=6) zdD.nd rfl (↥0 rfl) (↥0 rfl)) zbL)))) (zab (zap (i:=7) zdD.nd rfl (↥0 rfl) (zaN yaX ↑2 rfl zaK ↑[pv 1,pv 2,zag])) (zab (zap (i:=8) zdD.nd rfl (↥0 rfl) (zaR ↑96 (zaN yal ↑2 rfl zaK ↑[pv 5,pv 7,pv 3,(zch ↑66 (pv 0) (zcM (pv 4)) zdI)]) zag ↥4)) (zab (zaL (zhg ↑[pv 5,pv 6,pv 7,pv 8])) zae))))),.inl ?_⟩
 show L2.Run _ ([⇑[dQ K ↑14],⇑[dI P1],⇑[dI P2],⇑[dI P3],.no,.no,.no,.no,.no]:L2.Ctx) _ (↑216 (zbk P0 P1 P2 P3))
 unfold zbk
 exact (zaq (m:=true) (x:=(↑32/(2:Int))) dI ↑216 (zaH (x:=↑32) (y:=(2:Int)) ↑168 zaJ ↥(⇑4)) (λhv278 hhalf278=>(zkb (m:=true) (x:=(zbU P1 (zbI P0 none (some hv278)))) (λ(p279:(Jq×Jq))=>dL (↑0 lI p279.1)) (λ(p279:(Jq×Jq))=>dL (↑0 lI p279.2)) ↑216 (zam (x:=(P1,(zbI P0 none (some hv278)))) (zac ⇑9 (zac (Ev.weak (K:=K) (EvO.ev (EvO.anyI (m:=false) (zdj (f:=dI) (xs:=P0) ↥2 zcU (zb5 ↑20))))) zah)) rfl (by show zd7 P1 (zbI P0 none (some hv278));exact hp.1) rfl) (λp279 hp279=>have hF:=hp279;(zaq (m:=true) (x:=(za0 P1 P2 (7:Int))) lI ↑216 (EvO.ev (EvO.anyI (m:=true) (zcp (x:=(P1,P2,(7:Int))) (zac ⇑9 (zac ↑39 ↑51)) rfl (by show zdw P1 P2 (7:Int);exact ⟨by omega,by omega,by decide,by decide⟩) rfl))) (λv280 hv280=>have hB:=hv280;(zaq (m:=true) (x:=(zas p279.1 v280 P3 (zbI P0 (some hv278) none)).1) ↑114 ↑216 (za1 (zam (x:=(p279.1,v280,P3,(zbI P0 (some hv278) none))) (zac (Ev.old ↑63) (zac (Ev.old (Ev.weak (K:=K) ↑75)) (zac ↑203 (zac (Ev.weak (K:=K) (EvO.ev (EvO.anyI (m:=false) (zdj (f:=dI) (xs:=P0) ↥2 (zb5 ↑20) zcU)))) zah)))) rfl (by show zcG p279.1 v280 P3 (zbI P0 (some hv278) none);exact zu1 hp.1 hF hB hp.2) rfl) zaJ rfl) (λv281 hv281=>(zaj (zaA (zhr (zac ↑94 (zac ↑40 (zac ↑75 (zac ↑106 zah)))) (by show 4≤sizeLine;decide))))))))))))
structure Sd71 (W fb sb:Nat) (y:Sd4):Prop where
 w1:1≤W
 w8:W≤8
 du:Lat.Du W (y.a,y.b)
 ra:∀ r∈y.a,Lat.Bit fb r
 rb:∀ r∈y.b,Lat.Bit fb r
 bl:y.c.length=W
 b0:∀ b∈y.c,0≤b∧b≤1000000001
 ln:y.d.length≤12
 sr:∀ r∈y.d,r.length=W∧Lat.Bit sb r
 sp:∀ u,Lat.SpL y.d u ↔ Lat.SpL (Lat.scl y.a y.c) u
theorem znD {W h:Nat} {w c idle:Int} {cs:Ji} (hw:w=(W:Int)) (h1:1≤w∧w≤8) (hI:0≤idle∧idle≤1) (hc:cs.length≤2*h):Sd71 W (2*h) (2*h+30+2*h) (zbk cs w c idle):=by
 unfold zbk Let
 dsimp only
 obtain ⟨n,hn⟩:∃ n:Nat,((cs.length:Nat):Int)/2=(n:Int):=⟨cs.length/2,by omega⟩
 rw [hn]
 have c1:(zbI cs none (some (n:Int))).length≤h:=by
  have:(zbI cs none (some (n:Int))).length≤n:=by unfold zbI;simp only [HT.sIx_nat,HT.sIx_none,List.length_take,List.length_drop];omega
  omega
 have c2:(zbI cs (some (n:Int)) none).length≤h:=by
  have:(zbI cs (some (n:Int)) none).length≤cs.length-n:=by unfold zbI;simp only [HT.sIx_nat,HT.sIx_none,List.length_take,List.length_drop];omega
  omega
 generalize zbI cs none (some (n:Int))=ca at *
 generalize zbI cs (some (n:Int)) none=cb at *
 have hF:=zlZ (cs:=ca) hw h1.1
 have b:=zqD (w:=w) (c:=c) (f:=7) ⇑0
 have sb:=ziW (cs:=cb) (bs:=za0 w c 7) hF.1 ⇑0 b.2 ⟨hI.1,by omega⟩
 refine ⟨by omega,by omega,zpr hw h1.1,λr hr=>((hF.1.2 r hr).2).mono ⇑0,λd hd=>((hF.2.2 d hd).2).mono ⇑0,by have:=b.1;show (za0 w c 7).length=W;omega,b.2,?_,λr hr=>⟨(sb r hr).1,((sb r hr).2).mono ⇑0⟩,λu=>(zg2 (u:=u) hF.1 ⇑0 b.2 ⟨hI.1,by omega⟩).1⟩
 have:=(zg2 (cs:=cb) (bs:=za0 w c 7) (u:=λ_=>0) hF.1 ⇑0 b.2 ⟨hI.1,by omega⟩).2
 show (zas _ _ _ _).1.length≤_
 omega
def GcI (a b:Int) (p:Int×Int):Prop:=0≤p.1∧0≤p.2∧Int.gcd p.1 p.2=Int.gcd a b
theorem GcI.start {a b:Int} (h:0≤a∧0≤b):GcI a b (a,b):=⟨h.1,h.2,rfl⟩
theorem GcI.step {a b:Int} {p:Int×Int} (I:GcI a b p) (h:decide ((0:Int)<p.2)=true):GcI a b (p.2,p.1%p.2)∧(p.1%p.2).toNat<p.2.toNat:=by
 have h:=of_decide_eq_true h
 obtain ⟨h1,h2,h3⟩:=I
 have m0:=Int.emod_nonneg p.1 (show p.2≠0 by omega)
 have m1:=Int.emod_lt_of_pos p.1 h
 refine ⟨⟨by omega,m0,?_⟩,by omega⟩
 rw [← h3]
 show Int.gcd p.2 (p.1%p.2)=_
 rw [Int.gcd_comm p.1 p.2,Int.gcd_comm p.2 (p.1%p.2)]
 obtain ⟨x,hx⟩:∃ x:Nat,p.1=(x:Int):=⟨p.1.toNat,by omega⟩
 obtain ⟨y,hy⟩:∃ y:Nat,p.2=(y:Int):=⟨p.2.toNat,by omega⟩
 rw [hx,hy,← Int.natCast_emod,Int.gcd_natCast_natCast,Int.gcd_natCast_natCast]
 exact (Nat.gcd_rec y x).symm
noncomputable def zaf (P0:Int) (P1:Int):Int :=
 (Let (whl (λ(s282:Int×Int)=>(decide ((0:Int)<s282.2))) (λ(s282:Int×Int)=>(s282.2,(s282.1%s282.2))) (P1.toNat) (P0,P1)) (λ(r285:Int×Int) =>
 r285.1))
def zcz (P0:Int) (P1:Int):Prop:=0≤P0∧0≤P1
def ze1 (K:W.Frag) (A:Adr):Sp:=Spv (ι:=Int×Int) (λx=>[dI x.1,dI x.2]) (λx=>zcz x.1 x.2) (λx=>↥[dI (zaf x.1 x.2)])
theorem zgz:FnScope ["_law_one","_law_other"] ["_law_one","_law_other"] (zai zfz):=↥5
theorem zjL (F:Fun K "_law_shared" "_law_shared" zfz f fd) (T:Txt K mg A) :FnOk P w K mg base ⇑1 1 f fd ["_law_one","_law_other"] (ze1 K A):=by
 refine F.okV zgz ⇑5 ↑10
 obtain ⟨P0,P1⟩:=x
 have hu:=hr.units
 replace hp:zcz P0 P1:=hp
 unfold zcz at hp
 refine ⟨_,(zab (zlU ↑11 (zaG ziO (pv 1) zag (zaQ _)) (zab (ztc (i:=0) (j:=1) rfl zgz.nd rfl rfl ↥1 rfl rfl ↑[pv 1,zav zcb (pv 0) (pv 1)] rfl) zae)) (zab (zaL (pv 0)) zae)),.inl ?_⟩
 show L2.Run _ ([⇑[dI P0],⇑[dI P1]]:L2.Ctx) _ (↑18 (zaf P0 P1))
 unfold zaf
 exact (zkL (s0:=(P0,P1)) (λ(s282:Int×Int)=>([⇑[dI s282.1],⇑[dI s282.2]]:L2.Ctx)) ↑18 (λ(s282:Int×Int)=>(decide ((0:Int)<s282.2))) (λ(s282:Int×Int)=>(s282.2,(s282.1%s282.2))) (λ(s282:Int×Int)=>GcI P0 P1 s282) (λ(s282:Int×Int)=>(s282.2).toNat) (P1.toNat) (.eq (.eq .nil)) ↥(GcI.start hp) ↥(↑4 _) (λs282 hI283=>⟨(zau (zaP (x:=s282.2) (y:=(0:Int)) ⇑9 zaJ)),λhc284=>⟨↥(GcI.step ↑1 ↑1),(run_par (x:=s282.2) (y:=(s282.1%s282.2)) ⇑9 (zaH (x:=s282.1) (y:=s282.2) ↑19 ⇑9 (by show (0:Int)<_;exact of_decide_eq_true ↑1)) (zan (.eq (.eq .nil))))⟩⟩) (λr285 hr285 hI hc=>(zaj (zaA ↑19))))
theorem zh4 {a b:Int} (h:0≤a∧0≤b):zaf a b=((Int.gcd a b:Nat):Int):=by
 obtain ⟨⟨h1,h2,h3⟩,h4⟩:=zj0 (c:=λ(s:Int×Int)=>decide ((0:Int)<s.2)) (f:=λ(s:Int×Int)=>(s.2,(s.1%s.2))) (I:=GcI a b) (μ:=λs=>s.2.toNat) (λs hs hc=>GcI.step hs hc) (n:=b.toNat) (s:=(a,b)) (GcI.start h) (↑4 _)
 show (whl (λ(s:Int×Int)=>decide ((0:Int)<s.2)) (λ(s:Int×Int)=>(s.2,(s.1%s.2))) b.toNat (a,b)).1=_
 generalize whl (λ(s:Int×Int)=>decide ((0:Int)<s.2)) (λ(s:Int×Int)=>(s.2,(s.1%s.2))) b.toNat (a,b)=r at *
 have h4:=of_decide_eq_false h4
 have e:r.2=0:=by omega
 rw [e,Int.gcd_zero_right] at h3
 omega
def ImP (f s:Sd4) (far:Int):Prop:=f.c.length≤8∧s.c.length≤8∧s.a.length=s.c.length∧(∀ r∈s.a,r.length=s.c.length)∧∀ b∈s.c,0≤b∧b≤1000000001
section
variable {f s:Sd4} {far x y b c m m0 k:Int} {i n:Nat} {l r t:Ji}
theorem zwJ (h:ImP f s far) (q:i<(↑70).toNat∧x=0+(i:Int)) (e:b=ixD s.c x):0≤b∧b≤1000000001:=by
 rw [e];exact h.2.2.2.2 _ (zbK ↑115)
theorem znc {α:Type} {l:List α} (q:i<(↑155).toNat∧x=0+(i:Int)):InB l.length x:=by unfold InB;omega
theorem ztz (h:ImP f s far) (q:i<(↑70).toNat∧x=0+(i:Int)):InB s.a.length x:=by rw [h.2.2.1];exact znc q
theorem zkt (hB:0≤b∧b≤1000000001) (h1:↑162=false) (h2:↑156=true):0<b:=by
 rw [h2] at h1
 have h1:decide (b=0)=false:=h1
 have:=of_decide_eq_false h1
 omega
theorem zuE (hB:0≤b∧b≤1000000001) (h1:↑162=false) (h2:↑156=true):0≤b∧0≤y%b:=⟨hB.1,Int.emod_nonneg _ (by have:=zkt hB h1 h2;omega)⟩
theorem zum (hb:0<b):0<zaf b (y%b)∧zaf b (y%b) ∣ b∧zaf b (y%b) ∣ y:=by
 have hy:=Int.emod_nonneg y (show b≠0 by omega)
 rw [zh4 ⟨by omega,hy⟩]
 have d1:((Int.gcd b (y%b):Nat):Int) ∣ b:=Int.gcd_dvd_left ..
 have d2:((Int.gcd b (y%b):Nat):Int) ∣ y%b:=Int.gcd_dvd_right ..
 have:0<Int.gcd b (y%b):=Int.gcd_pos_of_ne_zero_left _ ⇑0
 refine ⟨by omega,d1,?_⟩
 have e:=Int.dvd_add (Int.dvd_trans d1 (Int.dvd_mul_right b (y/b))) d2
 rw [Int.mul_ediv_add_emod] at e
 exact e
theorem zu2 (hb:0<b):zaf b (y%b)≤b:=Int.le_of_dvd hb (zum hb).2.1
theorem ztK (hB:0≤b∧b≤1000000001) (h1:↑162=false) (h2:↑156=true):ze5 b (zaf b (y%b)):=by
 have hb:=zkt hB h1 h2
 have g:=zum (y:=y) hb
 have:=zu2 (y:=y) hb
 exact Lat.ze5.of (b:=30) g.1 (show _≤1073741824 by omega) ↥1
theorem ztd (hM0:m0=zad c k (7:Int)-(3:Int)):-3≤m0∧m0≤3:=by
 have:=zc8 (c:=c) (k:=k) (m:=7) ↥1;omega
theorem zuZ (hM0:m0=zad c k (7:Int)-(3:Int)):-(2^64)<m0∧m0<2^64:=by have:=ztd hM0;omega
theorem zwb (hM0:m0=zad c k (7:Int)-(3:Int)) (hB:0≤b∧b≤1000000001) (h:m=bif ↑162 then (0:Int) else (bif ↑156 then (m0*(b/(zaf b (y%b)))) else m0)):-3000000003≤m∧m≤3000000003:=by
 have h3:=ztd hM0
 cases q1:↑162 with
 | true=>rw [q1] at h;have h:m=0:=h;omega
 | false =>
  rw [q1,cond_false] at h
  cases q2:↑156 with
  | false=>rw [q2,cond_false] at h;omega
  | true =>
   rw [q2,cond_true] at h
   have hb:=zkt hB q1 q2
   have g:=zum (y:=y) hb
   have d1:0≤b/zaf b (y%b):=Int.ediv_nonneg hB.1 ⇑0
   have d2:b/zaf b (y%b)≤b:=Int.ediv_le_self _ hB.1
   generalize b/zaf b (y%b)=z at *
   have:m0=-3∨m0=-2∨m0=-1∨m0=0∨m0=1∨m0=2∨m0=3:=by omega
   rcases this with e | e | e | e | e | e | e<;>(rw [e] at h;omega)
theorem ztJ (hy:0≤y) (hB:0≤b∧b≤1000000001) (h:m=bif ↑162 then (0:Int) else (bif ↑156 then (m0*(b/(zaf b (y%b)))) else m0)):b ∣ y*m:=by
 cases q1:↑162 with
 | true=>rw [q1] at h;have h:m=0:=h;rw [h,Int.mul_zero];exact Int.dvd_zero _
 | false =>
  rw [q1,cond_false] at h
  cases q2:↑156 with
  | false=>have:=of_decide_eq_false q2;rw [show y=0 by omega,Int.zero_mul];exact Int.dvd_zero _
  | true =>
   rw [q2,cond_true] at h
   obtain ⟨g1,⟨u,hu⟩,⟨v,hv⟩⟩:=zum (y:=y) (zkt hB q1 q2)
   generalize zaf b (y%b)=g at *
   have e:b/g=u:=by rw [hu];exact Int.mul_ediv_cancel_left _ ⇑0
   rw [h,e,hv,hu]
   exact ⟨v*m0,by grind⟩
theorem zwD (h:r=zcI ((n:Nat):Int) [(0:Int)]):r.length=n:=by rw [h,Lat.zce]
theorem zsG (h:ImP f s far) (q:i<(↑70).toNat∧x=0+(i:Int)):(ixD s.a x).length=s.c.length:=h.2.2.2.1 _ (zbK (ztz h q))
theorem zuP (h:ImP f s far) (hr:r.length=s.c.length):(List.zip r t).length≤PySem.sizeLine:=zao (by rw [List.length_zip];have:=h.2.1;omega)
theorem zvq {ys:Jq} (h:ImP f s far) (hl:ys.length≤i) (q:i<(↑25).toNat∧x=0+(i:Int)):ys.length<PySem.sizeLine:=Nat.lt_of_le_of_lt (show ys.length≤1000 by have:=h.1;omega) ↥1
end
noncomputable def m_law_images (P0:↥8) (P1:↥8) (P2:Int) (P3:Int):Jq :=
 (Let (List.foldl (λ(s286:Jq) (x287:Int)=>(Let (zcI ↑46 [(0:Int)]) (λ(v291:Ji) =>
 (Let (List.foldl (λ(s292:Ji) (x293:Int)=>(Let (↑223-(3:Int)) (λ(v297:Int) =>
 (Let (ixD P1.c x293) (λ(v298:Int) =>
 (Let ↑241 (λ(v301:Int) =>
 (Let ↑254 (λ(v305:Ji) =>
 v305))))))))) v291 (zbz 0 (↑46).toNat)) (λ(r306:Ji) =>
 (s286++[r306])))))) [] (zbz 0 (↑55).toNat)) (λ(r307:Jq) =>
 r307))
def zdN (P0:↥8) (P1:↥8) (P2:Int) (P3:Int):Prop:=ImP P0 P1 P3
def zgo (K:W.Frag) (A:Adr):Sp:=Spv (ι:=↥8×↥8×Int×Int) (λx=>[dT [dL (↑0 lI x.1.a),dL (↑0 lI x.1.b),dL (↑0 dI x.1.c),dL (↑0 lI x.1.d)],dT [dL (↑0 lI x.2.1.a),dL (↑0 lI x.2.1.b),dL (↑0 dI x.2.1.c),dL (↑0 lI x.2.1.d)],dI x.2.2.1,dI x.2.2.2]) (λx=>zdN x.1 x.2.1 x.2.2.1 x.2.2.2) (λx=>↥[dL (↑0 lI (m_law_images x.1 x.2.1 x.2.2.1 x.2.2.2))])
theorem zbA:FnScope ["_law_first","_law_second","_law_cell_here","_law_far","_law_found","_law_k","_law_image","_law_j","_law_many","_law_bottom"] ["_law_first","_law_second","_law_cell_here","_law_far"] (zai zep):=↥5
theorem zjn (F:Fun K "_law_images" "_law_images" zep f fd) (T:Txt K mg A) (yak:Callee P w K mg base ⇑1 1 "_law_shared" ["_law_one","_law_other"] (ze1 K A)) (yaa:Callee P w K mg base ⇑1 1 "_law_thing" ↑128 (zcS K A)):FnOk P w K mg base ⇑1 2 f fd ["_law_first","_law_second","_law_cell_here","_law_far"] (zgo K A):=by
 refine F.okV zbA ⇑5 ↑10
 obtain ⟨P0,P1,P2,P3⟩:=x
 have hu:=hr.units
 replace hp:zdN P0 P1 P2 P3:=hp
 unfold zdN at hp
 refine ⟨_,(zab (zap (i:=4) zbA.nd rfl (↥0 rfl) (zca zem)) (zab (zbx ↑11 rfl ↑255 (zal (i:=5) zbA.nd rfl (↥0 rfl) (↥0 rfl)) (zab (zap (i:=6) zbA.nd rfl (↥0 rfl) (zav zhf ↑123 ↑145)) (zab (zbx ↑11 rfl (zb2 rfl T.range ↑[↑145]) (zal (i:=7) zbA.nd rfl (↥0 rfl) (↥0 rfl)) (zab (zap (i:=8) zbA.nd rfl ⇑7 (zav zeT (zaN yaa ↑2 rfl zaK ↑[pv 2,zav zcb (zav zbX (zav zbX (pv 3) (zav zbh zag (pv 5))) (pv 7)) zag,zag]) zag)) (zab (zap (i:=9) zbA.nd rfl (↥0 rfl) (zaR ↥7 ↑198 (pv 7) ↥4)) (zab (zbQ (PW.pt (zik (zaG ziO (zaR ↥7 ↑109 (pv 5) ↥4) zag (zaQ _)) (zgd (zaG zfg (pv 9) zag (zaQ _))))) (zab (zap (i:=8) zbA.nd rfl ⇑7 zag) zae) (zab (zbQ (zaG ziO (zaR ↥7 ↑109 (pv 5) ↥4) zag (zaQ _)) (zab (zap (i:=8) zbA.nd rfl ⇑7 (zav zbh (pv 8) (zav zbo (pv 9) (zaN yak ↑2 rfl zaK ↑[pv 9,(zav zcb (zaR ↥7 ↑109 (pv 5) ↥4) (pv 9))])))) zae) zae) zae)) (zab (zc1 (i:=6) rfl zbA.nd rfl rfl (.of (osc:=(zai zep)) (N:=["_law_first","_law_second","_law_cell_here","_law_far","_law_found","_law_k","_law_image","_law_j","_law_many","_law_bottom"]) (own:=↑175) (fvn:=["_law_many"]) (fv:=[8]) rfl rfl ↑6) (zb4 (K:=K) rfl rfl T.zip ↑[pv 6,(zaR ↥7 ↑198 (pv 7) ↥4)]) ↑256) zae))))) (zab (zdv (zcr (K:=K) rfl (pv 4) ↑[pv 6])) zae)))) (zab (zaL (pv 4)) zae))),.inl ?_⟩
 show L2.Run _ ([⇑[dT [dL ↑22,dL ↑23,dL ↑21,dL ↑24]],⇑[dT [dL ↑77,dL ↑78,dL ↑76,dL ↑79]],⇑[dI P2],⇑[dI P3],.no,.no,.no,.no,.no,.no]:L2.Ctx) _ (↑69 (m_law_images P0 P1 P2 P3))
 unfold m_law_images
 exact (zeu (m:=true) (ds:=↑0 lI []) ↑139 (zbp (s0:=[]) (λ(s286:Jq)=>([⇑[dT [dL ↑22,dL ↑23,dL ↑21,dL ↑24]],⇑[dT [dL ↑77,dL ↑78,dL ↑76,dL ↑79]],⇑[dI P2],⇑[dI P3],.ow true (↑0 lI s286),.no,.no,.no,.no,.no]:L2.Ctx)) ↑69 (λ(s286:Jq) (x287:Int)=>(Let (zcI ↑46 [(0:Int)]) (λ(v291:Ji)=>(Let (List.foldl (λ(s292:Ji) (x293:Int)=>(Let (↑223-(3:Int)) (λ(v297:Int)=>(Let (ixD P1.c x293) (λ(v298:Int)=>(Let ↑241 (λ(v301:Int)=>(Let ↑254 (λ(v305:Ji)=>v305))))))))) v291 (zbz 0 (↑46).toNat)) (λ(r306:Ji)=>(s286++[r306])))))) (λ(i:Nat) (s286:Jq)=>s286.length≤i) (zdy (m:=true) (n:=↑55) (zaV (f:=dI) (xs:=P0.c) ↑83) (by have z1:=hp.1;have z2:=hp.2.1;refine ⟨?_,?_⟩<;>omega)) ↑88 ↥(↑4 0) (λi288 x287 s286 hx289 hI290=>have v289:=zby hx289;⟨↥(zoB ↑1),(zaq (m:=true) (x:=(zcI ↑46 [(0:Int)])) lI (λz=>Oc.nx ((λ(s286:Jq)=>([⇑[dT [dL ↑22,dL ↑23,dL ↑21,dL ↑24]],⇑[dT [dL ↑77,dL ↑78,dL ↑76,dL ↑79]],⇑[dI P2],⇑[dI P3],.ow true (↑0 lI s286),.no,.no,.no,.no,.no]:L2.Ctx)) z)) (EvO.ev (zfo (f:=dI) (xs:=[(0:Int)]) (n:=↑46) ↑110 (zaV (f:=dI) (xs:=P1.c) ↑84) (by have z2:=hp.2.1;constructor<;>omega) (by have z2:=hp.2.1;exact zao ↑147))) (λv291 hv291=>have hI:=hv291;(zbp (s0:=v291) ↑211 (λz=>Oc.nx ((λ(s286:Jq)=>([⇑[dT [dL ↑22,dL ↑23,dL ↑21,dL ↑24]],⇑[dT [dL ↑77,dL ↑78,dL ↑76,dL ↑79]],⇑[dI P2],⇑[dI P3],.ow true (↑0 lI s286),.no,.no,.no,.no,.no]:L2.Ctx)) z)) (λ(s292:Ji) (x293:Int)=>(Let (↑223-(3:Int)) (λ(v297:Int)=>(Let (ixD P1.c x293) (λ(v298:Int)=>(Let ↑241 (λ(v301:Int)=>(Let ↑254 (λ(v305:Ji)=>v305))))))))) (λ(i:Nat) (s292:Ji)=>s292.length=P1.c.length) (zdy (m:=true) (n:=↑46) (zaV (f:=dI) (xs:=P1.c) ↑84) (by have z1:=hp.1;have z2:=hp.2.1;refine ⟨?_,?_⟩<;>omega)) ↑88 ↥(zwD hI) (λi294 x293 s292 hx295 hI296=>have v295:=zby hx295;⟨(by unfold Let;rw [List.length_map,List.length_zip,zsG hp ↑1];omega),(zaq (m:=true) (x:=(↑223-(3:Int))) dI (λz=>Oc.nx (↑211 z)) (zaP (x:=↑223) (y:=(3:Int)) (Ev.any (m:=true) (zam (x:=(P2,(((P3+((8:Int)*x287))+x293)%(60:Int)),(7:Int))) (zac ↑39 (zac (zaH (x:=((P3+((8:Int)*x287))+x293)) (y:=(60:Int)) (zaP (x:=(P3+((8:Int)*x287))) (y:=x293) (zaP (x:=P3) (y:=((8:Int)*x287)) ↑203 (zaH (x:=(8:Int)) (y:=x287) zaJ ↑36 ↥(.inl ⇑4))) (Ev.any (m:=true) ↑75)) zaJ ↥1) ↑51)) rfl (by show zaT P2 (((P3+((8:Int)*x287))+x293)%(60:Int)) (7:Int);exact ⟨Int.emod_nonneg _ ↥1,Int.le_of_lt (Int.lt_of_lt_of_le (Int.emod_lt_of_pos _ ↥1) ↥1),by decide⟩) rfl)) zaJ) (λv297 hv297=>have hM0:=hv297;(zaq (m:=true) (x:=(ixD P1.c x293)) dI (λz=>Oc.nx (↑211 z)) (Ev.any (m:=false) (zbe (f:=dI) (xs:=P1.c) ↑84 (Ev.any (m:=true) ↑75) ↥(znc ↑1))) (λv298 hv298=>have hB:=zwJ hp ↑1 hv298;(zcm (b:=(↑206 &&(decide (v298=(0:Int))))) (λbb=>([⇑[dT [dL ↑22,dL ↑23,dL ↑21,dL ↑24]],⇑[dT [dL ↑77,dL ↑78,dL ↑76,dL ↑79]],⇑[dI P2],⇑[dI P3],.ow true (↑0 lI s286),↥[dI x287],↥[dL (↑0 dI s292)],↥[dI x293],↥[dI (bif bb then (0:Int) else (bif ↑206 then (v297*(v298/(zaf v298 (↑101%v298)))) else v297))],↥[dI v298]]:L2.Ctx)) (zgi (b:=↑206) (zau (zaP (x:=↑101) (y:=(0:Int)) (Ev.any (m:=false) (zbe (f:=dI) (xs:=P0.c) ↑83 ↑36 ↥(znc ↑1))) zaJ)) (λhb=>(zau (zdA (x:=v298) (y:=(0:Int)) (Ev.any (m:=true) ↑144) zaJ)))) (λh299=>(zba (m:=true) zaJ (zan ↑88))) (λh299=>(zcm (b:=↑206) (λbb=>([⇑[dT [dL ↑22,dL ↑23,dL ↑21,dL ↑24]],⇑[dT [dL ↑77,dL ↑78,dL ↑76,dL ↑79]],⇑[dI P2],⇑[dI P3],.ow true (↑0 lI s286),↥[dI x287],↥[dL (↑0 dI s292)],↥[dI x293],↥[dI (bif bb then (v297*(v298/(zaf v298 (↑101%v298)))) else v297)],↥[dI v298]]:L2.Ctx)) (zau (zaP (x:=↑101) (y:=(0:Int)) (Ev.any (m:=false) (zbe (f:=dI) (xs:=P0.c) ↑83 ↑36 ↥(znc ↑1))) zaJ)) (λh300=>(zba (m:=true) (zaH (x:=v297) (y:=(v298/(zaf v298 (↑101%v298)))) (Ev.any (m:=true) ↑106) (zaH (x:=v298) (y:=(zaf v298 (↑101%v298))) (Ev.any (m:=true) ↑144) (Ev.any (m:=true) (zam (x:=(v298,(↑101%v298))) (zac (Ev.any (m:=true) ↑144) (zac (zaH (x:=↑101) (y:=v298) (Ev.any (m:=false) (zbe (f:=dI) (xs:=P0.c) ↑83 ↑36 ↥(znc ↑1))) (Ev.any (m:=true) ↑144) (by show (0:Int)<_;exact zkt hB ↑1 ↑1)) zah)) rfl (by show zcz v298 (↑101%v298);exact zuE hB ↑1 ↑1) rfl)) ↥(ztK hB ↑1 ↑1)) ↥(.inl (zuZ hM0))) (zan ↑88))) (λh300=>(zan ↑88)) (zan ↑88))) (zcA (x:=↑241) (λv301=>([⇑[dT [dL ↑22,dL ↑23,dL ↑21,dL ↑24]],⇑[dT [dL ↑77,dL ↑78,dL ↑76,dL ↑79]],⇑[dI P2],⇑[dI P3],.ow true (↑0 lI s286),↥[dI x287],↥[dL (↑0 dI s292)],↥[dI x293],↥[dI v301],↥[dI v298]]:L2.Ctx)) (λz=>Oc.nx (↑211 z)) (λv301 hv301=>have hM:=zwb hM0 hB hv301;(zaq (m:=true) (x:=↑254) lI (λz=>Oc.nx (↑211 z)) (EvO.ev (EvO.conv (zbJ (g:=(λ(x302:↑9)=>dI (x302.1+(v301*x302.2)))) (zdT (m:=false) dI dI (xs:=s292) (ys:=(ixD P1.a x293)) (Ev.old (Ev.weak (K:=K) ↑40)) (Ev.weak (K:=K) (zbe (f:=lI) (xs:=P1.a) ↑84 (Ev.any (m:=true) ↑75) ↥(ztz hp ↑1)))) ↥(zuP hp ↑1) ⇑4 (λi303 x302 hx304=>have v304:=zbV hx304;(zaP (x:=x302.1) (y:=(v301*x302.2)) ↑19 (zaH (x:=v301) (y:=x302.2) ↑47 ⇑9 ↥(.inl ↑56))))) ↑12)) (λv305 hv305=>have hI:=hv305;(zan (.eq (.eq (.eq (.eq ↑189))))))))))))))⟩) (λr306 hr306 hI=>(zcj (f:=lI) (xs:=s286) (x:=r306) rfl ↑40 ↥(zvq hp ↑1 ↑1) (zan (.eq (.eq (.eq (.eq (.eq (.no (.no ↑74)))))))))))))⟩) (λr307 hr307 hI=>(zcw (i:=4) rfl (zaj (zaA ↑105))))))
noncomputable def imM (f s:Sd4) (c far x y:Int):Int:=bif ((decide ((0:Int)<(ixD f.c x)))&&(decide ((ixD s.c y)=(0:Int)))) then (0:Int) else (bif (decide ((0:Int)<(ixD f.c x))) then ((zad c (((far+((8:Int)*x))+y)%(60:Int)) (7:Int)-(3:Int))*((ixD s.c y)/(zaf (ixD s.c y) ((ixD f.c x)%(ixD s.c y))))) else (zad c (((far+((8:Int)*x))+y)%(60:Int)) (7:Int)-(3:Int)))
noncomputable def imR (f s:Sd4) (c far x:Int):Ji:=List.foldl (λ(a:Ji) (y:Int)=>↑0 (λ(p:Int×Int)=>(p.1+(imM f s c far x y*p.2))) (List.zip a (ixD s.a y))) (zcI ↑70 [(0:Int)]) (zbz 0 (↑70).toNat)
theorem znR (f s:Sd4) (c far:Int):m_law_images f s c far=((zbz 0 (↑25).toNat)).map (imR f s c far):=by
 show List.foldl (λ(a:Jq) (x:Int)=>a++[imR f s c far x]) [] _=_
 rw [Lat.zfW,List.nil_append]
theorem zjS {β:Type} (n:Nat) (g:Int->β):(zbz 0 ((n:Nat):Int).toNat).map g=((List.range n)).map λ(k:Nat)=>g (k:Int):=by
 unfold zbz
 rw [List.map_map,Int.toNat_natCast]
 exact List.map_congr_left λk _=>by simp
theorem zqn {W1 W2 fa fb sa sb:Nat} {f s:Sd4} {c far x:Int} (h:Sd71 W2 fb sb s):(imR f s c far x).length=W2∧(∀ i,Lat.vec (imR f s c far x) i=Lat.lsum ((List.range W2).map λ(j:Nat)=>imM f s c far x (j:Int)*Lat.vec (ixD s.a (j:Int)) i)):=by
 have hl:=h.du.l1
 have hr:=h.du.r
 have k:=Lat.zgD (W:=W2) (F:=λ(a:Ji) (y:Int)=>↑0 (λ(p:Int×Int)=>(p.1+(imM f s c far x y*p.2))) (List.zip a (ixD s.a y))) (c:=λy i=>imM f s c far x y*Lat.vec (ixD s.a y) i) (zbz 0 (↑70).toNat) (zcI ↑70 [(0:Int)]) (by rw [Lat.zce,h.bl]) λa y hy ha=>by
  obtain ⟨i,hi⟩:=List.getElem?_of_mem hy
  have q:=zby hi
  have hm:(ixD s.a y).length=W2:=hr _ (zbK (by rw [hl];have:=h.bl;unfold InB;omega))
  exact ⟨by rw [List.length_map,List.length_zip,hm];omega,λi=>Lat.zfE ⇑0⟩
 refine ⟨k.1,λi=>(k.2 i).trans ?_⟩
 rw [Lat.zeC,Int.zero_add,zjS,h.bl]
structure Ims (W1 W2 ib:Nat) (f s:Sd4) (im:Jq):Prop where
 l:im.length=W1
 r:∀ t∈im,t.length=W2∧Lat.Bit ib t
 d:∀ k,k<W1->∀ (j:Nat) (t:Ji) (b:Int),s.b[j]?=some t->s.c[j]?=some b->b ∣ ixD f.c (k:Int)*Lat.dv t (Lat.vec (ixD im (k:Int)))
theorem zn3 {W1 W2 fa fb sa sb:Nat} {f s:Sd4} {c far:Int} (h1:Sd71 W1 fa sa f) (h2:Sd71 W2 fb sb s):Ims W1 W2 (fb+35) f s (m_law_images f s c far):=by
 have hm:∀ (x:Int) (j:Nat),j<W2->-3000000003≤imM f s c far x (j:Int)∧imM f s c far x (j:Int)≤3000000003:=λx j hj=>zwb rfl (h2.b0 _ (zbK (by rw [h2.bl];unfold InB;omega))) rfl
 have e:m_law_images f s c far=(List.range W1).map λ(k:Nat)=>imR f s c far (k:Int):=by rw [znR,zjS,h1.bl]
 have g:∀ k,k<W1->ixD (m_law_images f s c far) (k:Int)=imR f s c far (k:Int):=λk hk=>zbY (by rw [e,List.getElem?_map,List.getElem?_range hk];rfl)
 refine ⟨by rw [e,List.length_map,List.length_range],λt ht=>?_,λk hk j t b ht hb=>?_⟩
 ·rw [e] at ht
  obtain ⟨k,hk,rfl⟩:=List.mem_map.mp ht
  obtain ⟨q1,q2⟩:=zqn (W1:=W1) (fa:=fa) (sa:=sa) (f:=f) (c:=c) (far:=far) (x:=(k:Int)) h2
  refine ⟨q1,?_⟩
  have:=Lat.zlx (n:=3) (b:=32+fb) q2 (by rw [List.length_range];exact h2.w8) λj hj i=>Lat.zgU (a:=32) (by have:=hm (k:Int) j (List.mem_range.mp hj);show _≤4294967296;omega) ((h2.ra _ (Lat.zfk (by rw [h2.du.l1];exact List.mem_range.mp hj))).vec i)
  exact this.mono ⇑0
 ·rw [g k hk]
  obtain ⟨q1,q2⟩:=zqn (W1:=W1) (fa:=fa) (sa:=sa) (f:=f) (c:=c) (far:=far) (x:=(k:Int)) h2
  rw [Lat.zhG q2,Lat.zlz,← Lat.zgK]
  refine Lat.zjU λi hi=>?_
  have hi:=List.mem_range.mp hi
  have hrow:s.a[i]?=some (ixD s.a (i:Int)):=by
   have hl:i<s.a.length:=by rw [h2.du.l1];exact hi
   rw [zbY (List.getElem?_eq_getElem hl)];exact List.getElem?_eq_getElem hl
  rw [h2.du.A j i t _ ht hrow]
  by_cases z:j=i
  ·subst z
   rw [if_pos rfl,Int.mul_one]
   have eb:ixD s.c (j:Int)=b:=zbY hb
   have:=ztJ (m:=imM f s c far (k:Int) (j:Int)) (h1.b0 _ (zbK (i:=(k:Int)) (by rw [h1.bl];unfold InB;omega))).1 (h2.b0 _ (List.mem_of_getElem? hb)) (m0:=zad c (((far+((8:Int)*(k:Int)))+(j:Int))%(60:Int)) (7:Int)-(3:Int)) (by rw [← eb];rfl)
   exact this
  ·rw [if_neg z,Int.mul_zero,Int.mul_zero];exact Int.dvd_zero _
def WsP (f:Sd4) (im:Jq) (w:Int):Prop:=∃ W1 W2:Nat,f.c.length=W1∧W1≤8∧f.b.length=W1∧(∀ r∈f.b,r.length=W1∧Lat.Bit 100 r)∧im.length=W1∧w=(W2:Int)∧W2≤8∧∀ r∈im,r.length=W2∧Lat.Bit 200 r
section
variable {f:Sd4} {im:Jq} {w x y:Int} {i j n:Nat} {l r t:Ji} {p:Int×Int}
theorem zqE (h:WsP f im w):-(2^62)≤↑25∧↑25<2^62:=by obtain ⟨W1,W2,h1,h2,_⟩:=h;omega
theorem zte (h:WsP f im w):-(2^63)≤w∧w<2^63:=by obtain ⟨W1,W2,h1,h2,h3,h4,h5,h6,h7,h8⟩:=h;omega
theorem zvx (h:WsP f im w):[(0:Int)].length*w.toNat≤PySem.sizeLine:=by obtain ⟨W1,W2,h1,h2,h3,h4,h5,h6,h7,h8⟩:=h;exact zao ↑147
theorem zwP (h:WsP f im w) (e:r=zcI w [(0:Int)]):(r.length:Int)=w:=by obtain ⟨W1,W2,h1,h2,h3,h4,h5,h6,h7,h8⟩:=h;rw [e,h6,Lat.zce]
theorem zq9 (h:WsP f im w) (q:i<(↑25).toNat∧x=0+(i:Int)):InB f.b.length x:=by obtain ⟨W1,W2,h1,h2,h3,_⟩:=h;unfold InB;omega
theorem zqV (h:WsP f im w) (q:i<(↑25).toNat∧x=0+(i:Int)):InB im.length x:=by obtain ⟨W1,W2,h1,h2,h3,h4,h5,_⟩:=h;unfold InB;omega
theorem zsT (h:WsP f im w) (q:i<(↑25).toNat∧x=0+(i:Int)) (q2:j<(↑25).toNat∧y=0+(j:Int)):InB (ixD f.b x).length y:=by
 have hm:=zbK (zq9 h q)
 obtain ⟨W1,W2,h1,h2,h3,h4,_⟩:=h
 rw [(h4 _ hm).1];unfold InB;omega
theorem zt3 (h:WsP f im w) (q:i<(↑25).toNat∧x=0+(i:Int)) (q2:j<(↑25).toNat∧y=0+(j:Int)) (hp:l[n]?=some p.1∧(ixD im x)[n]?=some p.2):zcK (ixD (ixD f.b x) y) p.2:=by
 have hy:=zbK (zsT h q q2)
 have hm:=zbK (zq9 h q)
 have hi:=zbK (zqV h q)
 obtain ⟨W1,W2,h1,h2,h3,h4,h5,h6,h7,h8⟩:=h
 exact Lat.zcK.of ((h4 _ hm).2 _ hy) ((h8 _ hi).2 _ (List.mem_of_getElem? hp.2)) ↥1 ↥1
theorem zvn (h:WsP f im w) (hr:(r.length:Int)=w):(List.zip r t).length≤PySem.sizeLine:=by
 obtain ⟨W1,W2,h1,h2,h3,h4,h5,h6,h7,h8⟩:=h
 exact zao ↑164
theorem zwB (h:WsP f im w) (q:i<(↑25).toNat∧x=0+(i:Int)) (hr:(r.length:Int)=w) {g:Int×Int->Int}:((Let (↑0 g (List.zip r (ixD im x))) (λ(z:Ji)=>z)).length:Int)=w:=by
 have hi:=zbK (zqV h q)
 obtain ⟨W1,W2,h1,h2,h3,h4,h5,h6,h7,h8⟩:=h
 unfold Let
 rw [List.length_map,List.length_zip,(h8 _ hi).1];omega
theorem zvF {ys:Jq} (h:WsP f im w) (hl:ys.length≤i) (q:i<(↑25).toNat∧x=0+(i:Int)):ys.length<PySem.sizeLine:=by
 obtain ⟨W1,W2,h1,h2,_⟩:=h
 exact Nat.lt_of_le_of_lt (show ys.length≤1000 by omega) ↥1
end
noncomputable def m_law_wares_sent (P0:↥8) (P1:Jq) (P2:Int):Jq :=
 (Let (List.foldl (λ(s308:Jq) (x309:Int)=>(Let (zcI P2 [(0:Int)]) (λ(v313:Ji) =>
 (Let (List.foldl (λ(s314:Ji) (x315:Int)=>(Let ↑248 (λ(v322:Ji) =>
 v322))) v313 (zbz 0 (↑55).toNat)) (λ(r323:Ji) =>
 (s308++[r323])))))) [] (zbz 0 (↑55).toNat)) (λ(r324:Jq) =>
 r324))
def zcD (P0:↥8) (P1:Jq) (P2:Int):Prop:=WsP P0 P1 P2
def zeO (K:W.Frag) (A:Adr):Sp:=Spv (ι:=↥8×Jq×Int) (λx=>[dT [dL (↑0 lI x.1.a),dL (↑0 lI x.1.b),dL (↑0 dI x.1.c),dL (↑0 lI x.1.d)],dQ K (↑0 lI x.2.1),dI x.2.2]) (λx=>zcD x.1 x.2.1 x.2.2) (λx=>↥[dL (↑0 lI (m_law_wares_sent x.1 x.2.1 x.2.2))])
theorem zbR:FnScope ["_law_first","_law_images_here","_law_wide","_law_baskets","_law_ware","_law_basket","_law_k"] ["_law_first","_law_images_here","_law_wide"] (zai zdd):=↥5
theorem zg5 (F:Fun K "_law_wares_sent" "_law_wares_sent" zdd f fd) (T:Txt K mg A) :FnOk P w K mg base ⇑1 1 f fd ["_law_first","_law_images_here","_law_wide"] (zeO K A):=by
 refine F.okV zbR ⇑5 ↑10
 obtain ⟨P0,P1,P2⟩:=x
 have hu:=hr.units
 replace hp:zcD P0 P1 P2:=hp
 unfold zcD at hp
 refine ⟨_,(zab (zap (i:=3) zbR.nd rfl (↥0 rfl) (zca zem)) (zab (zbx ↑11 rfl ↑255 (zal (i:=4) zbR.nd rfl ⇑7 (↥0 rfl)) (zab (zap (i:=5) zbR.nd rfl (↥0 rfl) (zav zhf ↑123 (pv 2))) (zab (zbx ↑11 rfl ↑255 (zal (i:=6) zbR.nd rfl ⇑7 (↥0 rfl)) (zab (zc1 (i:=5) rfl zbR.nd rfl rfl (.of (osc:=(zai zdd)) (N:=["_law_first","_law_images_here","_law_wide","_law_baskets","_law_ware","_law_basket","_law_k"]) (own:=↑175) (fvn:=["_law_first","_law_k","_law_ware"]) (fv:=[0,6,4]) rfl rfl ↑6) (zb4 (K:=K) rfl rfl T.zip ↑[pv 5,(zaR ↥7 (pv 1) (pv 6) ↥4)]) (λ_ _ _ _ _=>⟨(zbd (K:=K) (n:=2) rfl rfl (zaD (zal (i:=0) (show (["_law_a","_law_b","_law_first","_law_k","_law_ware"]:List Str).Nodup by decide+kernel) rfl (↥0 rfl) ⇑7) (zaD (zal (i:=1) (show (["_law_a","_law_b","_law_first","_law_k","_law_ware"]:List Str).Nodup by decide+kernel) rfl (↥0 rfl) ⇑7) zbL))),za7,(zav zbX (pv 0) (zav zbh (zaR ↥7 (zaR ↥7 ↑199 (pv 3) ↥4) (pv 4) ↥4) (pv 1)))⟩)) zae)) (zab (zdv (zcr (K:=K) rfl (pv 3) ↑[pv 5])) zae)))) (zab (zaL (pv 3)) zae))),.inl ?_⟩
 show L2.Run _ ([⇑[dT [dL ↑22,dL ↑23,dL ↑21,dL ↑24]],⇑[dQ K ↑81],⇑[dI P2],.no,.no,.no,.no]:L2.Ctx) _ (↑69 (m_law_wares_sent P0 P1 P2))
 unfold m_law_wares_sent
 exact (zeu (m:=true) (ds:=↑0 lI []) ↑139 (zbp (s0:=[]) (λ(s308:Jq)=>([⇑[dT [dL ↑22,dL ↑23,dL ↑21,dL ↑24]],⇑[dQ K ↑81],⇑[dI P2],.ow true (↑0 lI s308),.no,.no,.no]:L2.Ctx)) ↑69 (λ(s308:Jq) (x309:Int)=>(Let (zcI P2 [(0:Int)]) (λ(v313:Ji)=>(Let (List.foldl (λ(s314:Ji) (x315:Int)=>(Let ↑248 (λ(v322:Ji)=>v322))) v313 (zbz 0 (↑55).toNat)) (λ(r323:Ji)=>(s308++[r323])))))) (λ(i:Nat) (s308:Jq)=>s308.length≤i) (zdy (m:=true) (n:=↑55) (zaV (f:=dI) (xs:=P0.c) ↑83) ↥(zqE hp)) (.eq ↑13) ↥(↑4 0) (λi310 x309 s308 hx311 hI312=>have v311:=zby hx311;⟨↥(zoB ↑1),(zaq (m:=true) (x:=(zcI P2 [(0:Int)])) lI (λz=>Oc.nx ((λ(s308:Jq)=>([⇑[dT [dL ↑22,dL ↑23,dL ↑21,dL ↑24]],⇑[dQ K ↑81],⇑[dI P2],.ow true (↑0 lI s308),.no,.no,.no]:L2.Ctx)) z)) (EvO.ev (zfo (f:=dI) (xs:=[(0:Int)]) (n:=P2) ↑110 ↑39 ↥(zte hp) ↥(zvx hp))) (λv313 hv313=>have hI:=hv313;(zbp (s0:=v313) (λ(s314:Ji)=>([⇑[dT [dL ↑22,dL ↑23,dL ↑21,dL ↑24]],⇑[dQ K ↑81],⇑[dI P2],.ow true (↑0 lI s308),↥[dI x309],↥[dL (↑0 dI s314)],.no]:L2.Ctx)) (λz=>Oc.nx ((λ(s308:Jq)=>([⇑[dT [dL ↑22,dL ↑23,dL ↑21,dL ↑24]],⇑[dQ K ↑81],⇑[dI P2],.ow true (↑0 lI s308),.no,.no,.no]:L2.Ctx)) z)) (λ(s314:Ji) (x315:Int)=>(Let ↑248 (λ(v322:Ji)=>v322))) (λ(i:Nat) (s314:Ji)=>(s314.length:Int)=P2) (zdy (m:=true) (n:=↑55) (zaV (f:=dI) (xs:=P0.c) ↑83) ↥(zqE hp)) (.eq ↑13) ↥(zwP hp hI) (λi316 x315 s314 hx317 hI318=>have v317:=zby hx317;⟨↥(zwB hp ↑1 ↑1),(zaq (m:=true) (x:=↑248) lI (λz=>Oc.nx ((λ(s314:Ji)=>([⇑[dT [dL ↑22,dL ↑23,dL ↑21,dL ↑24]],⇑[dQ K ↑81],⇑[dI P2],.ow true (↑0 lI s308),↥[dI x309],↥[dL (↑0 dI s314)],.no]:L2.Ctx)) z)) (EvO.ev (EvO.conv (zbJ (g:=(λ(x319:↑9)=>dI (x319.1+((ixD (ixD P0.b x315) x309)*x319.2)))) (zdT (m:=false) dI dI (xs:=s314) (ys:=(ixD P1 x315)) (Ev.old ↑63) (Ev.weak (K:=K) (zbe (f:=lI) (xs:=P1) ⇑8 ↑133 ↥(zqV hp ↑1)))) ↥(zvn hp ↑1) ⇑4 (λi320 x319 hx321=>have v321:=zbV hx321;(zaP (x:=x319.1) (y:=((ixD (ixD P0.b x315) x309)*x319.2)) ↑19 (zaH (x:=(ixD (ixD P0.b x315) x309)) (y:=x319.2) (Ev.any (m:=false) (zbe (f:=dI) (xs:=(ixD P0.b x315)) (Ev.weak (K:=K) (zbe (f:=lI) (xs:=P0.b) ↑125 ↑73 ↥(zq9 hp ↑1))) ↑20 ↥(zsT hp ↑1 ↑1))) ⇑9 ↥(zt3 hp ↑1 ↑1 ↑1))))) ↑12)) (λv322 hv322=>have hI:=hv322;(zan (.eq (.eq (.eq (.eq ↑134)))))))⟩) (λr323 hr323 hI=>(zcj (f:=lI) (xs:=s308) (x:=r323) rfl ↑94 ↥(zvF hp ↑1 ↑1) (zan (.eq (.eq (.eq (.eq (.no (.no (.eq .nil)))))))))))))⟩) (λr324 hr324 hI=>(zcw (i:=3) rfl (zaj (zaA ↑33))))))
noncomputable def wsR (f:Sd4) (im:Jq) (w x:Int):Ji:=List.foldl (λ(a:Ji) (y:Int)=>↑0 (λ(p:Int×Int)=>(p.1+((ixD (ixD f.b y) x)*p.2))) (List.zip a (ixD im y))) (zcI w [(0:Int)]) (zbz 0 (↑25).toNat)
theorem zpR (f:Sd4) (im:Jq) (w:Int):m_law_wares_sent f im w=((zbz 0 (↑25).toNat)).map (wsR f im w):=by
 show List.foldl (λ(a:Jq) (x:Int)=>a++[wsR f im w x]) [] _=_
 rw [Lat.zfW,List.nil_append]
theorem zpu {W1 W2 fa sa ib:Nat} {f s:Sd4} {im:Jq} {w:Int} (h1:Sd71 W1 fa sa f) (hi:Ims W1 W2 ib f s im) (hw:w=(W2:Int)):(m_law_wares_sent f im w).length=W1∧(∀ r∈m_law_wares_sent f im w,r.length=W2∧Lat.Bit (3+(fa+ib)) r)∧∀ k,k<W1->∀ i,Lat.vec (ixD (m_law_wares_sent f im w) (k:Int)) i=Lat.lsum ((List.range W1).map λ(j:Nat)=>Lat.vec (ixD f.b (j:Int)) k*Lat.vec (ixD im (j:Int)) i):=by
 have e:m_law_wares_sent f im w=(List.range W1).map λ(k:Nat)=>wsR f im w (k:Int):=by rw [zpR,zjS,h1.bl]
 have key:∀ k:Nat,(wsR f im w (k:Int)).length=W2∧∀ i,Lat.vec (wsR f im w (k:Int)) i=Lat.lsum ((List.range W1).map λ(j:Nat)=>Lat.vec (ixD f.b (j:Int)) k*Lat.vec (ixD im (j:Int)) i):=λk=>by
  have q:=Lat.zgD (W:=W2) (F:=λ(a:Ji) (y:Int)=>↑0 (λ(p:Int×Int)=>(p.1+((ixD (ixD f.b y) (k:Int))*p.2))) (List.zip a (ixD im y))) (c:=λy i=>(ixD (ixD f.b y) (k:Int))*Lat.vec (ixD im y) i) (zbz 0 (↑25).toNat) (zcI w [(0:Int)]) (by rw [hw,Lat.zce]) λa y hy ha=>by
   obtain ⟨i,hi'⟩:=List.getElem?_of_mem hy
   have q:=zby hi'
   have hm:(ixD im y).length=W2:=(hi.r _ (zbK (by rw [hi.l];have:=h1.bl;unfold InB;omega))).1
   exact ⟨by rw [List.length_map,List.length_zip,hm];omega,λi=>Lat.zfE ⇑0⟩
  refine ⟨q.1,λi=>(q.2 i).trans ?_⟩
  rw [hw,Lat.zeC,Int.zero_add,zjS,h1.bl]
  exact Lat.zbE λj _=>by rw [Lat.zbc]
 refine ⟨by rw [e,List.length_map,List.length_range],λr hr=>?_,λk hk i=>?_⟩
 ·rw [e] at hr
  obtain ⟨k,hk,rfl⟩:=List.mem_map.mp hr
  exact ⟨(key k).1,Lat.zlx (n:=3) (b:=fa+ib) (key k).2 (by rw [List.length_range];exact h1.w8) λj hj i=>Lat.zgU ((h1.rb _ (Lat.zfk (by rw [h1.du.l2];exact List.mem_range.mp hj))).vec k) ((((hi.r _ (Lat.zfk (by rw [hi.l];exact List.mem_range.mp hj)))).2).vec i)⟩
 ·rw [zbY (x:=wsR f im w (k:Int)) (by rw [e,List.getElem?_map,List.getElem?_range hk];rfl)]
  exact (key k).2 i
structure Snt (W1 W2:Nat) (f s:Sd4) (im bs:Jq) (xb:Nat):Prop where
 l:bs.length=W1
 r:∀ t∈bs,t.length=W2∧Lat.Bit xb t
 v:∀ k,k<W1->∀ i,Lat.vec (ixD bs (k:Int)) i=Lat.lsum ((List.range W1).map λ(j:Nat)=>Lat.vec (ixD f.b (j:Int)) k*Lat.vec (ixD im (j:Int)) i)
theorem zp2 {W1 W2 fa sa xb:Nat} {f s:Sd4} {im bs:Jq} {a b:BookD} {x:Ji} (h1:Sd71 W1 fa sa f) (hs:Snt W1 W2 f s im bs xb) (hb:b.many=(W2:Int)) (hx:x.length=W1):((m_Sender_sent ⟨a,b,bs⟩ x)).length=W2∧∀ i,Lat.vec (m_Sender_sent ⟨a,b,bs⟩ x) i=Lat.Phi W1 f.b im ↑41 i:=by
 obtain ⟨k1,k2⟩:=zjM (S:=⟨a,b,bs⟩) (x:=x) (W1:=W1) (W2:=W2) hb (λr hr=>(hs.r r hr).1) hs.l hx
 exact ⟨k1,λi=>(k2 i).trans (Lat.zt6 h1.du.l2 h1.du.d hs.v i)⟩
theorem ztX {W1 W2 fa sa fb sb ib:Nat} {f s:Sd4} {im:Jq} {u:Lat.Vc} (h1:Sd71 W1 fa sa f) (h2:Sd71 W2 fb sb s) (hi:Ims W1 W2 ib f s im) (hu:Lat.SpL f.d u):Lat.SpL (Lat.scl s.a s.c) (Lat.Phi W1 f.b im u):=by
 refine Lat.znK (s:=(s.a,s.b)) h2.du h2.bl (λb hb=>(h2.b0 b hb).1) (λk hk=>?_) λj t b ht hb=>?_
 ·unfold Lat.Phi
  rw [Lat.zbE (g:=λ_=>0) λj hj=>by rw [Lat.za8 (by rw [((hi.r _ (Lat.zfk (by rw [hi.l];exact List.mem_range.mp hj)))).1];exact hk),Int.mul_zero],Lat.zdu]
 ·refine Lat.zr2 (cs:=f.c) (λk hk=>?_) λk hk=>hi.d k hk j t b ht hb
  have hd:f.b[k]?=some (ixD f.b (k:Int)):=by
   have hl:k<f.b.length:=by rw [h1.du.l2];exact hk
   rw [zbY (List.getElem?_eq_getElem hl)];exact List.getElem?_eq_getElem hl
  have hc:f.c[k]?=some (ixD f.c (k:Int)):=by
   have hl:k<f.c.length:=by rw [h1.bl];exact hk
   rw [zbY (List.getElem?_eq_getElem hl)];exact List.getElem?_eq_getElem hl
  exact Lat.zqB (s:=(f.a,f.b)) h1.du ((h1.sp u).mp hu) hd hc
theorem zsJ {W1 W2 fa sa ib:Nat} {f s:Sd4} {im:Jq} {w:Int} (h1:Sd71 W1 fa sa f) (hi:Ims W1 W2 ib f s im) (hw:w=(W2:Int)) (h2:W2≤8) (ha:fa≤100) (hb:ib≤200):WsP f im w:=⟨W1,W2,h1.bl,h1.w8,h1.du.l2,λr hr=>⟨h1.du.d r hr,(h1.rb r hr).mono ha⟩,hi.l,hw,h2,λr hr=>⟨(hi.r r hr).1,((hi.r r hr).2).mono hb⟩⟩
theorem ztg {W1 W2 fa sa fb sb:Nat} {f s:Sd4} {far:Int} (h1:Sd71 W1 fa sa f) (h2:Sd71 W2 fb sb s):ImP f s far:=⟨by rw [h1.bl];exact h1.w8,by rw [h2.bl];exact h2.w8,by rw [h2.bl];exact h2.du.l1,λr hr=>by rw [h2.bl];exact h2.du.r r hr,h2.b0⟩
def SmP (bs:Jq) (x:Ji) (w:Int):Prop:=∃ W:Nat,w=(W:Int)∧W≤8∧(∀ r∈bs,r.length=W∧Lat.Bit 300 r)∧Lat.Bit 60000 x
section
variable {bs:Jq} {x r l t:Ji} {w:Int} {i n:Nat} {p:Int×Ji} {q:Int×Int}
theorem zs7 (h:SmP bs x w):-(2^63)≤w∧w<2^63:=by obtain ⟨W,h1,h2,_⟩:=h;omega
theorem zuw (h:SmP bs x w):[(0:Int)].length*w.toNat≤PySem.sizeLine:=by obtain ⟨W,h1,h2,_⟩:=h;exact zao ↑147
theorem zw7 (h:SmP bs x w) (e:r=zcI w [(0:Int)]):(r.length:Int)=w:=by obtain ⟨W,h1,h2,_⟩:=h;rw [e,h1,Lat.zce]
theorem zs0 (h:SmP bs x w) (hx:x[i]?=some p.1∧bs[i]?=some p.2) (hq:l[n]?=some q.1∧p.2[n]?=some q.2):zcK p.1 q.2:=by
 obtain ⟨W,h1,h2,h3,h4⟩:=h
 exact Lat.zcK.of (h4 _ (List.mem_of_getElem? hx.1)) ((h3 _ (List.mem_of_getElem? hx.2)).2 _ (List.mem_of_getElem? hq.2)) ↥1 ↥1
theorem zuD (h:SmP bs x w) (hr:(r.length:Int)=w):(List.zip r t).length≤PySem.sizeLine:=by
 obtain ⟨W,h1,h2,h3,h4⟩:=h
 exact zao ↑164
theorem zwK (h:SmP bs x w) (hx:x[i]?=some p.1∧bs[i]?=some p.2) (hr:(r.length:Int)=w) {g:Int×Int->Int}:((Let (↑0 g (List.zip r p.2)) (λ(z:Ji)=>z)).length:Int)=w:=by
 obtain ⟨W,h1,h2,h3,h4⟩:=h
 unfold Let
 rw [List.length_map,List.length_zip,(h3 _ (List.mem_of_getElem? hx.2)).1];omega
end
def ShP (ds:Jq) (x:Ji):Prop:=ds.length≤1000∧(∀ d∈ds,Lat.Bit 60 d)∧Lat.Bit 60000 x
theorem zr7 {ds:Jq} {x d:Ji} {i:Nat} {p:Int×Int} (h:ShP ds x) (hd:d∈ds) (hp:d[i]?=some p.1∧x[i]?=some p.2):zcK p.1 p.2:=Lat.zcK.of (h.2.1 d hd _ (List.mem_of_getElem? hp.1)) (h.2.2 _ (List.mem_of_getElem? hp.2)) ↥1 ↥1
theorem ztA {ds:Jq} {x d s:Ji} {i:Nat} (h:ShP ds x) (hl:s.length≤i) (hi:ds[i]?=some d):s.length<PySem.sizeLine:=Nat.lt_of_le_of_lt (show s.length≤1000 by have:=((List.getElem?_eq_some_iff.mp hi)).1;have:=h.1;omega) ↥1
theorem zfs {α β:Type} {P:β->Prop} {x:α} {f:α->β} (h:∀ y,y=x->P (f y)):P (Let x f):=h x rfl
theorem zeM {α β:Type} {x:α} {f:α->β} {b:β} (h:∀ y,y=x->f y=b):Let x f=b:=h x rfl
theorem zoW {W1 W2 n xb:Nat} {bs:Jq} {a b:BookD} {x:Ji} (hb:b.many=(W2:Int)) (hr:∀ t∈bs,t.length=W2∧Lat.Bit xb t) (hl:bs.length=W1) (h8:W1≤8) (hx:x.length=W1) (hn:Lat.Bit n x):Lat.Bit (3+(n+xb)) (m_Sender_sent ⟨a,b,bs⟩ x):=by
 obtain ⟨k1,k2⟩:=zjM (S:=⟨a,b,bs⟩) (x:=x) (W1:=W1) (W2:=W2) hb (λr hr'=>(hr r hr').1) hl hx
 exact Lat.zlx (n:=3) (b:=n+xb) k2 (by rw [List.length_range];exact h8) λw hw i=>Lat.zgU (hn.vec w) (((hr _ (Lat.zfk (by rw [show ({ first:=a,second:=b,baskets:=bs }:SenderD).baskets.length=W1 from hl];exact List.mem_range.mp hw))).2).vec i)
theorem zrI {W1 W2 fa sa fb sb ib xb:Nat} {f s:Sd4} {im bs:Jq} {a b:BookD} {x:Ji} (hF:Sd71 W1 fa sa f) (hS:Sd71 W2 fb sb s) (hI:Ims W1 W2 ib f s im) (hN:Snt W1 W2 f s im bs xb) (hb:b.many=(W2:Int)) (hx:x.length=W1) (hu:Lat.SpL f.d ↑41):Lat.SpL s.d (Lat.vec (m_Sender_sent ⟨a,b,bs⟩ x)) :=
 (hS.sp _).mpr ((ztX hF hS hI hu).conv λi=>((zp2 (a:=a) hF hN hb hx).2 i).symm)
theorem znn {N:Nat} (h:N≤20):Lat.Fit N 100 20:=by
 have e1:Lat.eB 100 20=2247:=rfl
 have e2:Lat.sB 100 20=47334:=rfl
 have e3:min N 20≤20:=by omega
 refine ⟨by omega,by omega,by omega,?_⟩
 rw [e2]
 generalize min N 20=k at *
 have e4:(k+2)*((k+1)*(47334+9000))≤22*(21*56334):=Nat.mul_le_mul ⇑0 (Nat.mul_le_mul ⇑0 ⇑0)
 have e5:(k+1)*(47334+1)≤21*47335:=Nat.mul_le_mul ⇑0 ⇑0
 omega
def PV (w cs:Ji):Prop:=∃ a b:Int,w=[a,b]∧1≤a∧1≤b∧a≤8∧b≤8∧cs.length≤60∧((a≤4∧b≤4)∨(6≤a∧7≤b∧cs.length≤12))
section
variable {w w0 w1 xs cs cs1 o:Ji} {c h z:Int} {b:Bool} {f s s1:Sd4} {im:Jq}
theorem zvZ (hW0:w0=[((1:Int)+(c%(3:Int))),((1:Int)+((c/(3:Int))%(3:Int)))]) (e:w=bif b then [(4:Int),(4:Int)] else w0):∃ a b:Int,w=[a,b]∧1≤a∧a≤4∧1≤b∧b≤4:=by
 cases b
 ·exact ⟨_,_,e.trans hW0,by omega,by omega,by omega,by omega⟩
 ·exact ⟨4,4,e,by decide,by decide,by decide,by decide⟩
theorem zv9 (hW1:∃ a b:Int,w1=[a,b]∧1≤a∧a≤4∧1≤b∧b≤4) (hC:cs=zbI xs (some (3:Int)) (some (63:Int))) (hW2:w=bif b then [((6:Int)+(c%(3:Int))),((7:Int)+(z%(2:Int)))] else w1) (hC1:cs1=bif b then (zbI cs none (some (12:Int))) else cs):PV w cs1:=by
 have l:cs.length≤60:=by
  rw [hC];unfold zbI
  simp only [show (3:Int)=((3:Nat):Int) from rfl,show (63:Int)=((63:Nat):Int) from rfl,HT.sIx_nat,List.length_take,List.length_drop];omega
 cases b with
 | true =>
  have l2:(zbI cs none (some (12:Int))).length≤12:=by
   unfold zbI
   simp only [show (12:Int)=((12:Nat):Int) from rfl,HT.sIx_nat,HT.sIx_none,List.length_take,List.length_drop];omega
  have hC1:cs1=zbI cs none (some (12:Int)):=hC1
  rw [← hC1] at l2
  exact ⟨_,_,hW2,by omega,by omega,by omega,by omega,by omega,.inr ⟨by omega,by omega,l2⟩⟩
 | false =>
  obtain ⟨a,d,e,h1,h2,h3,h4⟩:=hW1
  have hC1:cs1=cs:=hC1
  exact ⟨a,d,hW2.trans e,by omega,by omega,by omega,by omega,by rw [hC1];exact l,.inl ⟨h2,h4⟩⟩
theorem zvk (hV:PV w cs):InB w.length (0:Int):=by obtain ⟨a,b,rfl,_⟩:=hV;unfold InB;simp
theorem zrt (hV:PV w cs):InB w.length (1:Int):=by obtain ⟨a,b,rfl,_⟩:=hV;unfold InB;simp
theorem ztG (hV:PV w cs):1≤ixD w (0:Int)∧ixD w (0:Int)≤8:=by obtain ⟨a,b,rfl,h1,h2,h3,h4,_⟩:=hV;show 1≤a∧a≤8;omega
theorem zpY (hV:PV w cs):1≤ixD w (1:Int)∧ixD w (1:Int)≤8:=by obtain ⟨a,b,rfl,h1,h2,h3,h4,_⟩:=hV;show 1≤b∧b≤8;omega
theorem ztb:0≤z%(2:Int)∧z%(2:Int)≤4:=by omega
theorem zq8 (l:cs.length≤2*n) (hH:h=((cs.length:Nat):Int)/(2:Int)):(zbI cs none (some h)).length≤n∧(zbI cs (some h) none).length≤n:=by
 obtain ⟨k,hk⟩:∃ k:Nat,h=(k:Int):=⟨h.toNat,by omega⟩
 subst hk
 unfold zbI
 simp only [HT.sIx_nat,HT.sIx_none,List.length_take,List.length_drop]
 omega
theorem zv5 (hV:PV w cs) (hH:h=((cs.length:Nat):Int)/(2:Int)) (e:f=zbk (zbI cs none (some h)) (ixD w (0:Int)) c (z%(2:Int))):Sd71 (ixD w (0:Int)).toNat 30 90 f:=by
 rw [e];have:=ztG hV
 obtain ⟨_,_,_,_,_,_,_,l,_⟩:=hV
 exact znD (h:=15) ⇑0 this ⇑0 (zq8 (n:=30) l hH).1
theorem zwg (hV:PV w cs) (hH:h=((cs.length:Nat):Int)/(2:Int)) (e:f=zbk (zbI cs (some h) none) (ixD w (1:Int)) c (z%(2:Int))):Sd71 ((ixD w (1:Int))).toNat 30 90 f:=by
 rw [e];have:=zpY hV
 obtain ⟨_,_,_,_,_,_,_,l,_⟩:=hV
 exact znD (h:=15) ⇑0 this ⇑0 (zq8 (n:=30) l hH).2
theorem zuT (hV:PV w cs) (hS:Sd71 ((ixD w (1:Int))).toNat 30 90 s):s.c.length≤PySem.sizeLine:=by have:=hS.bl;have:=hS.w8;exact zao ⇑0
theorem zuY (hV:PV w cs) (hS:Sd71 ((ixD w (1:Int))).toNat 30 90 s) (hB:o=↑0 (λ(x:Int)=>((2:Int)+(x%(3:Int)))) s.c):StP s.a o (4:Int):=by
 refine ⟨_,hS.w1,hS.w8,⟨hS.du.l1,hS.du.r⟩,by rw [hB,List.length_map];exact hS.bl,λb hb=>?_,by decide,by decide⟩
 rw [hB] at hb
 obtain ⟨x,_,rfl⟩:=List.mem_map.mp hb
 omega
theorem zm0 {W b:Nat} {rows:Jq} {bs cs:Ji} {idle:Int} (hr:rows.length=W∧Lat.RB W b rows) (hw:W≤8) (hl:bs.length=W) (hb:∀ x∈bs,0<x∧x≤1000000001) (hi:0≤idle∧idle≤4):((zas rows bs idle cs)).1.length=W+idle.toNat:=by
 have e:zas rows bs idle cs=List.foldl stF (zas rows bs idle []) cs:=rfl
 have e0:((zas rows bs idle [])).1=Lat.scl rows bs++↑0 (λ(_:Int)=>zcI ↑99 [(0:Int)]) ↑103:=by
  show (List.foldl ↑181 [] (List.zip rows bs))++_=_
  rw [zj5,List.nil_append];rfl
 rw [e,zlF,e0,List.length_append,List.length_map,za4]
 have:(Lat.scl rows bs).length=W:=by
  unfold Lat.scl
  rw [List.length_map,List.filter_eq_self.mpr λp hp=>decide_eq_true (hb _ ((List.of_mem_zip (a:=p.1) (b:=p.2) hp)).2).1,List.length_zip,hr.1,hl];omega
 omega
theorem zwc (hV:PV w cs) (hH:h=((cs.length:Nat):Int)/(2:Int)) (hS:Sd71 ((ixD w (1:Int))).toNat 30 90 s) (e:s1=bif (decide ((4:Int)<(ixD w (1:Int)))) then (T4.mk s.a s.b (↑0 (λ(x:Int)=>((2:Int)+(x%(3:Int)))) s.c) ((zas s.a (↑0 (λ(x:Int)=>((2:Int)+(x%(3:Int)))) s.c) (4:Int) (zbI cs (some h) none)).1)) else s):Sd71 ((ixD w (1:Int))).toNat 30 90 s1∧((ixD w (0:Int)).toNat≤4∨12<s1.d.length+(ixD w (0:Int)).toNat):=by
 obtain ⟨a,b,rfl,h1,h2,h3,h4,h5,h6⟩:=hV
 have e0:ixD [a,b] (0:Int)=a:=rfl
 have e1:ixD [a,b] (1:Int)=b:=rfl
 rw [e1] at hS e ⊢
 rw [e0]
 rcases h6 with ⟨h6,h7⟩ | ⟨h6,h7,h8⟩
 ·rw [decide_eq_false ⇑0,cond_false] at e
  rw [e]
  exact ⟨hS,.inl ⇑0⟩
 ·rw [decide_eq_true ⇑0,cond_true] at e
  have hr:s.a.length=b.toNat∧Lat.RB b.toNat 30 s.a:=⟨hS.du.l1,λr hr=>⟨hS.du.r r hr,hS.ra r hr⟩⟩
  have hb:∀ x∈↑0 (λ(x:Int)=>((2:Int)+(x%(3:Int)))) s.c,0<x∧x≤1000000001:=λx hx=>by
   obtain ⟨y,_,rfl⟩:=List.mem_map.mp hx
   omega
  have hb':∀ x∈↑0 (λ(x:Int)=>((2:Int)+(x%(3:Int)))) s.c,0≤x∧x≤1000000001:=λx hx=>by have:=hb x hx;omega
  have hl:(↑0 (λ(x:Int)=>((2:Int)+(x%(3:Int)))) s.c).length=b.toNat:=by rw [List.length_map];exact hS.bl
  have lc:=(zq8 (n:=6) h8 hH).2
  have sb:=ziW (cs:=zbI cs (some h) none) (idle:=4) hr ⇑0 hb' ⇑4
  have ln:=zm0 (cs:=zbI cs (some h) none) (idle:=4) hr ⇑0 hl hb ⇑4
  rw [e]
  refine ⟨⟨hS.w1,hS.w8,hS.du,hS.ra,hS.rb,hl,hb',?_,λr hr=>⟨(sb r hr).1,((sb r hr).2).mono ⇑0⟩,λu=>(zg2 (u:=u) hr ⇑0 hb' ⇑4).1⟩,.inr ?_⟩
  ·show (zas _ _ _ _).1.length≤12
   have:(4:Int).toNat=4:=rfl
   omega
  ·show 12<(zas _ _ _ _).1.length+_
   have:(4:Int).toNat=4:=rfl
   omega
theorem zvO {W1 W2:Nat} {far:Int} (hF:Sd71 W1 30 90 f) (hS:Sd71 W2 30 90 s) (e:im=m_law_images f s c far):Ims W1 W2 65 f s im:=by rw [e];exact zn3 hF hS
theorem zuI {W1:Nat} (hV:PV w cs) (hF:Sd71 W1 30 90 f) (hI:Ims W1 ((ixD w (1:Int))).toNat 65 f s im):WsP f im (ixD w (1:Int)):=by
 have:=zpY hV
 exact zsJ hF hI ⇑0 ⇑0 ↥1 ↥1
end
noncomputable def m_law_pair (P0:Ji):(T3 ↥8 ↥8 Jq) :=
 (Let (zdJ P0 (0:Int)) (λ(v325:Int) =>
 (Let [((1:Int)+(v325%(3:Int))),((1:Int)+((v325/(3:Int))%(3:Int)))] (λ(v326:Ji) =>
 (Let (bif (decide (((v325/(9:Int))%(8:Int))=(3:Int))) then [(4:Int),(4:Int)] else v326) (λ(v328:Ji) =>
 (Let (zbI P0 (some (3:Int)) (some (63:Int))) (λ(v329:Ji) =>
 (Let (bif ↑188 then [((6:Int)+(v325%(3:Int))),((7:Int)+((v325/(3:Int))%(2:Int)))] else v328) (λ(v331:Ji) =>
 (Let (bif ↑188 then (zbI v329 none (some (12:Int))) else v329) (λ(v332:Ji) =>
 (Let (((v332.length:Nat):Int)/(2:Int)) (λ(hv333:Int) =>
 (Let (zbk (zbI v332 none (some hv333)) (ixD v331 (0:Int)) (zbD P0 (1:Int)) ((v325/(72:Int))%(2:Int))) (λ(v334:↥8) =>
 (Let (zbk ↑167 ↑102 (zbD P0 (2:Int)) ((v325/(144:Int))%(2:Int))) (λ(v335:↥8) =>
 (Let (bif (decide ((4:Int)<↑102)) then ↑178 else v335) (λ(v340:↥8) =>
 (Let (m_law_images v334 v340 (zbD P0 (0:Int)) (0:Int)) (λ(v341:Jq) =>
 (T3.mk v334 v340 (m_law_wares_sent v334 v341 ↑102))))))))))))))))))))))))
def zeo (P0:Ji):Prop:=P0.length≤63
def zit (K:W.Frag) (A:Adr):Sp:=Spv (ι:=Ji) (λx=>[dQ K (↑0 dI x)]) (λx=>zeo x) (λx=>↥[dT [dT [dL (↑0 lI (((↑143).a).a)),dL (↑0 lI (((↑143).a).b)),dL (↑0 dI (((↑143).a).c)),dL (↑0 lI (((↑143).a).d))],dT [dL (↑0 lI (((↑143).b).a)),dL (↑0 lI (((↑143).b).b)),dL (↑0 dI (((↑143).b).c)),dL (↑0 lI (((↑143).b).d))],dL (↑0 lI ((↑143).c))]])
theorem zbi:FnScope ["_law_script","_law_cell_here","_law_wides","_law_cells","_law_half","_law_first","_law_second","_law_bottoms_here","_law_swaps","_law_images_here"] ["_law_script"] (zai zfJ):=↥5
theorem zlj (F:Fun K "_law_pair" "_law_pair" zfJ f fd) (T:Txt K mg A) (ybs:Callee P w K mg base ⇑1 1 "_law_cell" ["_law_script","_law_k"] (zh1 K A)) (ya3:Callee P w K mg base ⇑1 2 "_law_images" ["_law_first","_law_second","_law_cell_here","_law_far"] (zgo K A)) (yaU:Callee P w K mg base ⇑1 1 "_law_raw" ["_law_script","_law_k"] (zjc K A)) (ya0:Callee P w K mg base ⇑1 3 "_law_side" ["_law_cells","_law_wide","_law_cell_here","_law_idle"] (zhU K A)) (yal:Callee P w K mg base ⇑1 2 "_law_stirred" ["_law_rows","_law_bottoms_here","_law_idle","_law_cells"] (zeI K A)) (yaC:Callee P w K mg base ⇑1 1 "_law_wares_sent" ["_law_first","_law_images_here","_law_wide"] (zeO K A)):FnOk P w K mg base ⇑1 4 f fd ["_law_script"] (zit K A):=by
 refine F.okV zbi ⇑5 ↑61
 have hu:=hr.units
 replace hp:zeo P0:=hp
 unfold zeo at hp
 refine ⟨_,(zab (zap (i:=1) zbi.nd rfl (↥0 rfl) (zaN ybs ↑2 rfl zaK ↑[pv 0,zag])) (zab (zap (i:=2) zbi.nd rfl (↥0 rfl) (zca ↑[zav zbX zag (zav zcb (pv 1) zag),zav zbX zag (zav zcb (zav zbo (pv 1) zag) zag)])) (zab (zbQ (zaG zfg (zav zcb (zav zbo (pv 1) zag) zag) zag (zaQ _)) (zab (zap (i:=2) zbi.nd rfl (↥0 rfl) (zca ↑[zag,zag])) zae) zae) (zab (zap (i:=3) zbi.nd rfl (↥0 rfl) (zch ↑66 (pv 0) (zcM zag) (zcM zag))) (zab (zbQ (zaG zfg (zav zcb (zav zbo (pv 1) zag) zag) zag (zaQ _)) (zab (zap (i:=2) zbi.nd rfl (↥0 rfl) (zca ↑[zav zbX zag (zav zcb (pv 1) zag),zav zbX zag (zav zcb (zav zbo (pv 1) zag) zag)])) (zab (zap (i:=3) zbi.nd rfl (↥0 rfl) (zch ↑66 (pv 3) zdI (zcM zag))) zae)) zae) (zab (zap (i:=4) zbi.nd rfl (↥0 rfl) (zav zbo ↑228 zag)) (zab (zap (i:=5) zbi.nd rfl (↥0 rfl) (zaN ya0 ↑2 rfl zaK ↑[(zch ↑66 (pv 3) zdI (zcM (pv 4))),(zaR ↥7 (pv 2) zag ↥4),zaN yaU ↑2 rfl zaK ↑[pv 0,zag],zav zcb (zav zbo (pv 1) zag) zag])) (zab (zap (i:=6) zbi.nd rfl (↥0 rfl) (zaN ya0 ↑2 rfl zaK ↑[(zch ↑66 (pv 3) (zcM (pv 4)) zdI),(zaR ↥7 (pv 2) zag ↥4),zaN yaU ↑2 rfl zaK ↑[pv 0,zag],zav zcb (zav zbo (pv 1) zag) zag])) (zab (zbQ (zaG ziO (zaR ↥7 (pv 2) zag ↥4) zag (zaQ _)) (zab (zc1 (i:=7) rfl zbi.nd rfl rfl (.of (osc:=(zai zfJ)) (N:=["_law_script","_law_cell_here","_law_wides","_law_cells","_law_half","_law_first","_law_second","_law_bottoms_here","_law_swaps","_law_images_here"]) (own:=["_law_number"]) (fvn:=[]) (fv:=[]) rfl rfl ↑6) (zaM (K:=K) rfl ↑200) (λ_ _ _ _ _=>⟨(zal (i:=0) (show (["_law_number"]:List Str).Nodup by decide +kernel) rfl (↥0 rfl) ⇑7),za7,(zav zbX zag (zav zcb (pv 0) zag))⟩)) (zab (zap (i:=8) zbi.nd rfl (↥0 rfl) (zaR ↑96 (zaN yal ↑2 rfl zaK ↑[↑200,pv 7,zag,(zch ↑66 (pv 3) (zcM (pv 4)) zdI)]) zag ↥4)) (zab (zap (i:=6) zbi.nd rfl (↥0 rfl) (zhg ↑[↑200,↑200,pv 7,pv 8])) zae))) zae) (zab (zap (i:=9) zbi.nd rfl (↥0 rfl) (zaN ya3 ↑2 rfl zaK ↑[pv 5,pv 6,zaN yaU ↑2 rfl zaK ↑[pv 0,zag],zag])) (zab (zaL (zhg ↑[pv 5,pv 6,(zaN yaC ↑2 rfl zaK ↑[pv 5,pv 9,(zaR ↥7 (pv 2) zag ↥4)])])) zae))))))))))),.inl ?_⟩
 show L2.Run _ ([⇑[dQ K ↑14],.no,.no,.no,.no,.no,.no,.no,.no,.no]:L2.Ctx) _ (↑87 (m_law_pair P0))
 unfold m_law_pair
 exact (zaq (m:=true) (x:=(zdJ P0 (0:Int))) dI ↑87 (Ev.any (m:=true) (zam (x:=(P0,(0:Int))) (zac ↥2 ↑51) rfl (by show zdW P0 (0:Int);unfold zdW;decide) rfl)) (λv325 hv325=>(zaq (m:=true) (x:=[((1:Int)+(v325%(3:Int))),((1:Int)+((v325/(3:Int))%(3:Int)))]) lI ↑87 (EvO.ev (zdm (zac (zaP (x:=(1:Int)) (y:=(v325%(3:Int))) zaJ (zaH (x:=v325) (y:=(3:Int)) ↑42 zaJ ↥1)) (zac (zaP (x:=(1:Int)) (y:=((v325/(3:Int))%(3:Int))) zaJ (zaH (x:=(v325/(3:Int))) (y:=(3:Int)) (zaH (x:=v325) (y:=(3:Int)) ↑42 zaJ ↥(⇑4)) zaJ ↥1)) zah)) ↑130)) (λv326 hv326=>have hW0:=hv326;(zcm (b:=(decide (((v325/(9:Int))%(8:Int))=(3:Int)))) (λbb=>([⇑[dQ K ↑14],↥[dI v325],↥[dL (↑0 dI (bif bb then [(4:Int),(4:Int)] else v326))],.no,.no,.no,.no,.no,.no,.no]:L2.Ctx)) (zau (zdA (x:=((v325/(9:Int))%(8:Int))) (y:=(3:Int)) (zaH (x:=(v325/(9:Int))) (y:=(8:Int)) (zaH (x:=v325) (y:=(9:Int)) ↑42 zaJ ↥(⇑4)) zaJ ↥1) zaJ)) (λh327=>(zba (m:=true) (EvO.ev (zdm (zac zaJ ↑51) ↑130)) (zan ↑88))) (λh327=>(zan ↑88)) (zcA (x:=(bif (decide (((v325/(9:Int))%(8:Int))=(3:Int))) then [(4:Int),(4:Int)] else v326)) (λv328=>([⇑[dQ K ↑14],↥[dI v325],↥[dL (↑0 dI v328)],.no,.no,.no,.no,.no,.no,.no]:L2.Ctx)) ↑87 (λv328 hv328=>have hW1:=zvZ hW0 hv328;(zaq (m:=true) (x:=(zbI P0 (some (3:Int)) (some (63:Int)))) lI ↑87 (EvO.ev (EvO.anyI (m:=false) (zdj (f:=dI) (xs:=P0) ↥2 (zb5 zaJ) (zb5 zaJ)))) (λv329 hv329=>have hC:=hv329;(zcm (b:=↑188) (λbb=>([⇑[dQ K ↑14],↥[dI v325],↥[dL (↑0 dI (bif bb then [((6:Int)+(v325%(3:Int))),((7:Int)+((v325/(3:Int))%(2:Int)))] else v328))],↥[dL (↑0 dI (bif bb then (zbI v329 none (some (12:Int))) else v329))],.no,.no,.no,.no,.no,.no]:L2.Ctx)) (zau (zdA (x:=((v325/(72:Int))%(16:Int))) (y:=(5:Int)) (zaH (x:=(v325/(72:Int))) (y:=(16:Int)) (zaH (x:=v325) (y:=(72:Int)) ↑42 zaJ ↥(⇑4)) zaJ ↥1) zaJ)) (λh330=>(zba (m:=true) (EvO.ev (zdm (zac (zaP (x:=(6:Int)) (y:=(v325%(3:Int))) zaJ (zaH (x:=v325) (y:=(3:Int)) ↑42 zaJ ↥1)) (zac (zaP (x:=(7:Int)) (y:=((v325/(3:Int))%(2:Int))) zaJ (zaH (x:=(v325/(3:Int))) (y:=(2:Int)) (zaH (x:=v325) (y:=(3:Int)) ↑42 zaJ ↥(⇑4)) zaJ ↥1)) zah)) ↑130)) (zba (m:=true) (EvO.ev (EvO.anyI (m:=true) (zdj (f:=dI) (xs:=v329) ↑17 zcU (zb5 zaJ)))) (zan ↑88)))) (λh330=>(zan ↑88)) (zcA (x:=(bif ↑188 then [((6:Int)+(v325%(3:Int))),((7:Int)+((v325/(3:Int))%(2:Int)))] else v328)) (λv331=>([⇑[dQ K ↑14],↥[dI v325],↥[dL (↑0 dI v331)],↥[dL (↑0 dI (bif ↑188 then (zbI v329 none (some (12:Int))) else v329))],.no,.no,.no,.no,.no,.no]:L2.Ctx)) ↑87 (λv331 hv331=>have hW2:=hv331;(zcA (x:=(bif ↑188 then (zbI v329 none (some (12:Int))) else v329)) (λv332=>([⇑[dQ K ↑14],↥[dI v325],↥[dL (↑0 dI v331)],↥[dL (↑0 dI v332)],.no,.no,.no,.no,.no,.no]:L2.Ctx)) ↑87 (λv332 hv332=>have hV:=zv9 hW1 hC hW2 hv332;(zaq (m:=true) (x:=(((v332.length:Nat):Int)/(2:Int))) dI ↑87 (zaH (x:=((v332.length:Nat):Int)) (y:=(2:Int)) (zaV (f:=dI) (xs:=v332) (Ev.old ↑17)) zaJ ↥(⇑4)) (λhv333 hhalf333=>have hH:=hhalf333;(zaq (m:=true) (x:=(zbk (zbI v332 none (some hv333)) (ixD v331 (0:Int)) (zbD P0 (1:Int)) ((v325/(72:Int))%(2:Int)))) (λ(p:↥8)=>dT [dL (↑0 lI p.a),dL (↑0 lI p.b),dL (↑0 dI p.c),dL (↑0 lI p.d)]) ↑87 (zam (x:=((zbI v332 none (some hv333)),(ixD v331 (0:Int)),(zbD P0 (1:Int)),((v325/(72:Int))%(2:Int)))) (zac (Ev.weak (K:=K) (EvO.ev (EvO.anyI (m:=true) (zdj (f:=dI) (xs:=v332) ↑17 zcU (zb5 ↑20))))) (zac (Ev.any (m:=true) (zbe (f:=dI) (xs:=v331) ↑89 zaJ ↥(zvk hV))) (zac (Ev.any (m:=true) (zam (x:=(P0,(1:Int))) (zac ↥2 ↑51) rfl (by show zcs P0 (1:Int);unfold zcs;decide) rfl)) (zac (zaH (x:=(v325/(72:Int))) (y:=(2:Int)) (zaH (x:=v325) (y:=(72:Int)) ↑42 zaJ ↥(⇑4)) zaJ ↥1) zah)))) rfl (by show zd1 (zbI v332 none (some hv333)) (ixD v331 (0:Int)) (zbD P0 (1:Int)) ((v325/(72:Int))%(2:Int));exact ⟨ztG hV,ztb⟩) rfl) (λv334 hv334=>have hF:=zv5 hV hH hv334;(zaq (m:=true) (x:=(zbk ↑167 ↑102 (zbD P0 (2:Int)) ((v325/(144:Int))%(2:Int)))) (λ(p:↥8)=>dT [dL (↑0 lI p.a),dL (↑0 lI p.b),dL (↑0 dI p.c),dL (↑0 lI p.d)]) ↑87 (zam (x:=(↑167,↑102,(zbD P0 (2:Int)),((v325/(144:Int))%(2:Int)))) (zac (Ev.weak (K:=K) (EvO.ev (EvO.anyI (m:=true) (zdj (f:=dI) (xs:=v332) ↑17 (zb5 ↑20) zcU)))) (zac (Ev.any (m:=true) (zbe (f:=dI) (xs:=v331) ↑89 zaJ ↥(zrt hV))) (zac (Ev.any (m:=true) (zam (x:=(P0,(2:Int))) (zac ↥2 ↑51) rfl (by show zcs P0 (2:Int);unfold zcs;decide) rfl)) (zac (zaH (x:=(v325/(144:Int))) (y:=(2:Int)) (zaH (x:=v325) (y:=(144:Int)) ↑42 zaJ ↥(⇑4)) zaJ ↥1) zah)))) rfl (by show zd1 ↑167 ↑102 (zbD P0 (2:Int)) ((v325/(144:Int))%(2:Int));exact ⟨zpY hV,ztb⟩) rfl) (λv335 hv335=>have hS0:=zwg hV hH hv335;(zcm (b:=(decide ((4:Int)<↑102))) (λbb=>([⇑[dQ K ↑14],↥[dI v325],↥[dL (↑0 dI v331)],↥[dL (↑0 dI v332)],↥[dI hv333],↥[dT [dL (↑0 lI v334.a),dL (↑0 lI v334.b),dL (↑0 dI v334.c),dL (↑0 lI v334.d)]],↥[dT [dL (↑0 lI (((bif bb then ↑178 else v335)).a)),dL (↑0 lI (((bif bb then ↑178 else v335)).b)),dL (↑0 dI (((bif bb then ↑178 else v335)).c)),dL (↑0 lI (((bif bb then ↑178 else v335)).d))]],.no,.no,.no]:L2.Ctx)) (zau (zaP (x:=↑102) (y:=(4:Int)) (Ev.any (m:=true) (zbe (f:=dI) (xs:=v331) ↑89 zaJ ↥(zrt hV))) zaJ)) (λh336=>(zba (m:=true) (EvO.ev (EvO.conv (zbJ (g:=(λ(x337:Int)=>dI ((2:Int)+(x337%(3:Int))))) (za6 (m:=true) dI (xs:=v335.c) (Ev.weak (K:=K) (za1 ↑40 zaJ rfl))) ↥(zuT hV hS0) ⇑4 (λi338 x337 hx339=>have v339:=List.mem_of_getElem? hx339;(zaP (x:=(2:Int)) (y:=(x337%(3:Int))) zaJ (zaH (x:=x337) (y:=(3:Int)) ↑151 zaJ ↥1)))) ↑12)) (zba (m:=true) (za1 (zam (x:=(v335.a,(↑0 (λ(x337:Int)=>((2:Int)+(x337%(3:Int)))) v335.c),(4:Int),↑167)) (zac (Ev.old (Ev.weak (K:=K) (za1 ↑40 zaJ rfl))) (zac (Ev.old (Ev.weak (K:=K) ↑75)) (zac zaJ (zac (Ev.weak (K:=K) (EvO.ev (EvO.anyI (m:=true) (zdj (f:=dI) (xs:=v332) ↑17 (zb5 ↑20) zcU)))) zah)))) rfl (by show zcG v335.a (↑0 (λ(x337:Int)=>((2:Int)+(x337%(3:Int)))) v335.c) (4:Int) ↑167;exact zuY hV hS0 rfl) rfl) zaJ rfl) (zba (m:=true) (zhr (zac (za1 ↑40 zaJ rfl) (zac (za1 ↑40 zaJ rfl) (zac ↑75 (zac ↑106 zah)))) (by show 4≤sizeLine;decide)) (zan (.eq (.eq (.eq (.eq (.eq (.eq (.eq (.no (.no (.eq .nil))))))))))))))) (λh336=>(zan ↑88)) (zcA (x:=(bif (decide ((4:Int)<↑102)) then ↑178 else v335)) (λv340=>([⇑[dQ K ↑14],↥[dI v325],↥[dL (↑0 dI v331)],↥[dL (↑0 dI v332)],↥[dI hv333],↥[dT [dL (↑0 lI v334.a),dL (↑0 lI v334.b),dL (↑0 dI v334.c),dL (↑0 lI v334.d)]],↥[dT [dL (↑0 lI v340.a),dL (↑0 lI v340.b),dL (↑0 dI v340.c),dL (↑0 lI v340.d)]],.no,.no,.no]:L2.Ctx)) ↑87 (λv340 hv340=>have hS:=zwc hV hH hS0 hv340;(zaq (m:=true) (x:=(m_law_images v334 v340 (zbD P0 (0:Int)) (0:Int))) ↑114 ↑87 (zam (x:=(v334,v340,(zbD P0 (0:Int)),(0:Int))) (zac (Ev.old ↑94) (zac (Ev.old ↑40) (zac (Ev.any (m:=true) (zam (x:=(P0,(0:Int))) (zac ↥2 ↑51) rfl (by show zcs P0 (0:Int);unfold zcs;decide) rfl)) ↑51))) rfl (by show zdN v334 v340 (zbD P0 (0:Int)) (0:Int);exact ztg hF hS.1) rfl) (λv341 hv341=>have hI:=zvO hF hS.1 hv341;(zaj (zaA (zhr (zac ↑94 (zac ↑40 (zac (zam (x:=(v334,v341,↑102)) (zac (Ev.old ↑94) (zac (Ev.old (Ev.weak (K:=K) ↑144)) (zac (Ev.any (m:=true) (zbe (f:=dI) (xs:=v331) ↑89 zaJ ↥(zrt hV))) zah))) rfl (by show zcD v334 v341 ↑102;exact zuI hV hF hI) rfl) zah))) (by show 3≤sizeLine;decide)))))))))))))))))))))))))))))
def P74 (y:T3 Sd4 Sd4 Jq):Prop:=∃ (W1 W2:Nat) (im:Jq),Sd71 W1 30 90 y.a∧Sd71 W2 30 90 y.b∧Ims W1 W2 65 y.a y.b im∧Snt W1 W2 y.a y.b im y.c 98∧(W1≤4∨12<y.b.d.length+W1)
theorem zo9 {xs:Ji} {y:T3 Sd4 Sd4 Jq} (e:y=m_law_pair xs):P74 y:=by
 rw [e]
 unfold m_law_pair
 refine zfs (P:=P74) λc _=>zfs (P:=P74) λw0 h0=>zfs (P:=P74) λw1 hw1=>zfs (P:=P74) λcs0 hC0=>zfs (P:=P74) λw hw=>zfs (P:=P74) λcs hC=>zfs (P:=P74) λh hH=>zfs (P:=P74) λf hf=>zfs (P:=P74) λs0 hs0=>zfs (P:=P74) λs hs=>zfs (P:=P74) λim hi=>?_
 have hV:=zv9 (zvZ h0 hw1) hC0 hw hC
 have hF:=zv5 hV hH hf
 have hS:=zwc hV hH (zwg hV hH hs0) hs
 have hI:=zvO hF hS.1 hi
 have p1:=zpY hV
 obtain ⟨k1,k2,k3⟩:=zpu hF hI (w:=ixD w (1:Int)) ⇑0
 exact ⟨_,_,im,hF,hS.1,hI,⟨k1,k2,k3⟩,hS.2⟩
noncomputable def zaF (P0:Jq) (P1:Ji) (P2:Int):Ji :=
 (Let (zcI P2 [(0:Int)]) (λ(v342:Ji) =>
 (Let (List.foldl (λ(s343:Ji) (x344:(Int×Ji))=>(Let (↑0 (λ(x348:↑9)=>(x348.1+(x344.1*x348.2))) (List.zip s343 x344.2)) (λ(v351:Ji) =>
 v351))) v342 (List.zip P1 P0)) (λ(r352:Ji) =>
 r352))))
def zdl (P0:Jq) (P1:Ji) (P2:Int):Prop:=SmP P0 P1 P2
def ze7 (K:W.Frag) (A:Adr):Sp:=Spv (ι:=Jq×Ji×Int) (λx=>[dQ K (↑0 lI x.1),dQ K (↑0 dI x.2.1),dI x.2.2]) (λx=>zdl x.1 x.2.1 x.2.2) (λx=>↥[dL (↑0 dI (zaF x.1 x.2.1 x.2.2))])
theorem zek:FnScope ["_law_baskets","_law_basket","_law_wide","_law_found","_law_many","_law_row"] ↑201 (zai zf1):=↥5
theorem zk5 (F:Fun K "_law_sums" "_law_sums" zf1 f fd) (T:Txt K mg A) :FnOk P w K mg base ⇑1 1 f fd ↑201 (ze7 K A):=by
 refine F.okV zek ⇑5 ↑10
 obtain ⟨P0,P1,P2⟩:=x
 have hu:=hr.units
 replace hp:zdl P0 P1 P2:=hp
 unfold zdl at hp
 refine ⟨_,(zab (zap (i:=3) zek.nd rfl (↥0 rfl) (zav zhf ↑123 (pv 2))) (zab (zbx ↑11 rfl (zb4 (K:=K) rfl rfl T.zip ↑[pv 1,pv 0]) (zbd (K:=K) (n:=2) rfl rfl (zaD (zal (i:=4) zek.nd rfl ⇑7 (↥0 rfl)) (zaD (zal (i:=5) zek.nd rfl (↥0 rfl) (↥0 rfl)) zbL))) (zab (zc1 (i:=3) rfl zek.nd rfl rfl (.of (osc:=(zai zf1)) (N:=["_law_baskets","_law_basket","_law_wide","_law_found","_law_many","_law_row"]) (own:=↑175) (fvn:=["_law_many"]) (fv:=[4]) rfl rfl ↑6) (zb4 (K:=K) rfl rfl T.zip ↑[pv 3,pv 5]) ↑256) zae)) (zab (zaL (pv 3)) zae))),.inl ?_⟩
 show L2.Run _ ([⇑[dQ K ↥6],⇑[dQ K ↑7],⇑[dI P2],.no,.no,.no]:L2.Ctx) _ (↑60 (zaF P0 P1 P2))
 unfold zaF
 exact (zaq (m:=true) (x:=(zcI P2 [(0:Int)])) lI ↑60 (EvO.ev (zfo (f:=dI) (xs:=[(0:Int)]) (n:=P2) ↑110 ↑39 ↥(zs7 hp) ↥(zuw hp))) (λv342 hv342=>have hF:=hv342;(zbp (s0:=v342) (λ(s343:Ji)=>([⇑[dQ K ↥6],⇑[dQ K ↑7],⇑[dI P2],↥[dL (↑0 dI s343)],.no,.no]:L2.Ctx)) ↑60 (λ(s343:Ji) (x344:(Int×Ji))=>(Let (↑0 (λ(x348:↑9)=>(x348.1+(x344.1*x348.2))) (List.zip s343 x344.2)) (λ(v351:Ji)=>v351))) (λ(i:Nat) (s343:Ji)=>(s343.length:Int)=P2) (zdT (m:=false) dI lI (xs:=P1) (ys:=P0) ⇑8 ↥2) ↑13 ↥(zw7 hp hF) (λi345 x344 s343 hx346 hI347=>have v346:=zbV hx346;⟨↥(zwK hp ↑1 ↑1),(zaq (m:=true) (x:=(↑0 (λ(x348:↑9)=>(x348.1+(x344.1*x348.2))) (List.zip s343 x344.2))) lI (λz=>Oc.nx ((λ(s343:Ji)=>([⇑[dQ K ↥6],⇑[dQ K ↑7],⇑[dI P2],↥[dL (↑0 dI s343)],.no,.no]:L2.Ctx)) z)) (EvO.ev (EvO.conv (zbJ (g:=(λ(x348:↑9)=>dI (x348.1+(x344.1*x348.2)))) (zdT (m:=false) dI dI (xs:=s343) (ys:=x344.2) (Ev.old ↑17) ↑63) ↥(zuD hp ↑1) ⇑4 (λi349 x348 hx350=>have v350:=zbV hx350;(zaP (x:=x348.1) (y:=(x344.1*x348.2)) ↑19 (zaH (x:=x344.1) (y:=x348.2) ↑39 ⇑9 ↥(zs0 hp ↑1 ↑1))))) ↑12)) (λv351 hv351=>have hF:=hv351;(zan (.eq ↑193))))⟩) (λr352 hr352 hI=>(zaj (zaA ↑33))))))
theorem zns {W1 W2:Nat} {bs:Jq} {x:Ji} {w:Int} (hw:w=(W2:Int)) (hb:∀ r∈bs,r.length=W2) (hl:bs.length=W1) (hx:x.length=W1):(zaF bs x w).length=W2∧∀ i,Lat.vec (zaF bs x w) i=Lat.lsum ((List.range W1).map λ(k:Nat)=>Lat.vec x k*Lat.vec (ixD bs (k:Int)) i):=by
 have k:=Lat.zgD (W:=W2) (F:=λ(s:Ji) (p:Int×Ji)=>↑0 (λ(q:Int×Int)=>(q.1+(p.1*q.2))) (List.zip s p.2)) (c:=λp i=>p.1*Lat.vec p.2 i) (List.zip x bs) (zcI w [(0:Int)]) (by rw [hw,Lat.zce]) λs p hp hs=>by
  have hq:=hb _ ((List.of_mem_zip hp)).2
  exact ⟨by rw [List.length_map,List.length_zip,hq];omega,λi=>Lat.zfE ⇑0⟩
 refine ⟨k.1,λi=>(k.2 i).trans ?_⟩
 rw [hw,Lat.zeC,Int.zero_add,Lat.zkN hx hl,List.map_map]
 exact Lat.zbE λw _=>by
  show ixD x (w:Int)*Lat.vec (ixD bs (w:Int)) i=_
  rw [Lat.zbc]
theorem znt {W1 W2:Nat} {bs:Jq} {x:Ji} {w:Int} {a b:BookD} (hw:w=(W2:Int)) (hm:b.many=(W2:Int)) (hb:∀ r∈bs,r.length=W2) (hl:bs.length=W1) (hx:x.length=W1):zaF bs x w=m_Sender_sent ⟨a,b,bs⟩ x:=by
 obtain ⟨k1,k2⟩:=zns hw hb hl hx
 obtain ⟨j1,j2⟩:=zjM (S:=⟨a,b,bs⟩) (x:=x) hm hb hl hx
 exact Lat.zih (k1.trans j1.symm) λi=>(k2 i).trans (j2 i).symm
noncomputable def zaY (P0:Jq) (P1:Ji):Ji :=
 (Let (List.foldl (λ(s353:Ji) (x354:Ji)=>(Let (List.foldl (λ(s358:Int) (x359:↑9)=>(Let (s358+(x359.1*x359.2)) (λ(v363:Int) =>
 v363))) (0:Int) (List.zip x354 P1)) (λ(r364:Int) =>
 (s353++[r364])))) [] P0) (λ(r365:Ji) =>
 r365))
def zc4 (P0:Jq) (P1:Ji):Prop:=ShP P0 P1
def zfi (K:W.Frag) (A:Adr):Sp:=Spv (ι:=Jq×Ji) (λx=>[dQ K (↑0 lI x.1),dQ K (↑0 dI x.2)]) (λx=>zc4 x.1 x.2) (λx=>.ow true (↑0 dI (zaY x.1 x.2)))
theorem zct:FnScope ["_law_duals","_law_basket","_law_found","_law_weights","_law_total","_law_one","_law_other"] ["_law_duals","_law_basket"] (zai zfA):=↥5
theorem zjk (F:Fun K "_law_shares" "_law_shares" zfA f fd) (T:Txt K mg A) :FnOk P w K mg base ⇑1 1 f fd ["_law_duals","_law_basket"] (zfi K A):=by
 refine F.okV zct ⇑5 ↑10
 obtain ⟨P0,P1⟩:=x
 have hu:=hr.units
 replace hp:zc4 P0 P1:=hp
 unfold zc4 at hp
 refine ⟨_,(zab (zap (i:=2) zct.nd rfl (↥0 rfl) (zca zem)) (zab (zbx ↑11 rfl ↑152 (zal (i:=3) zct.nd rfl (↥0 rfl) (↥0 rfl)) (zab (zap (i:=4) zct.nd rfl (↥0 rfl) zag) (zab (zbx ↑11 rfl (zb4 (K:=K) rfl rfl T.zip ↑[pv 3,pv 1]) (zbd (K:=K) (n:=2) rfl rfl (zaD (zal (i:=5) zct.nd rfl (↥0 rfl) (↥0 rfl)) (zaD (zal (i:=6) zct.nd rfl (↥0 rfl) (↥0 rfl)) zbL))) (zab (zap (i:=4) zct.nd rfl (↥0 rfl) (zav zbX (pv 4) (zav zbh (pv 5) (pv 6)))) zae)) (zab (zdv (zcr (K:=K) rfl (pv 2) ↑[pv 4])) zae)))) (zab (zaL (pv 2)) zae))),.inl ?_⟩
 show L2.Run _ ([⇑[dQ K ↥6],⇑[dQ K ↑7],.no,.no,.no,.no,.no]:L2.Ctx) _ (↑166 (zaY P0 P1))
 unfold zaY
 exact (zeu (m:=true) (ds:=↑0 dI []) ↑139 (zbp (s0:=[]) (λ(s353:Ji)=>([⇑[dQ K ↥6],⇑[dQ K ↑7],.ow true (↑0 dI s353),.no,.no,.no,.no]:L2.Ctx)) ↑166 (λ(s353:Ji) (x354:Ji)=>(Let (List.foldl (λ(s358:Int) (x359:↑9)=>(Let (s358+(x359.1*x359.2)) (λ(v363:Int)=>v363))) (0:Int) (List.zip x354 P1)) (λ(r364:Int)=>(s353++[r364])))) (λ(i:Nat) (s353:Ji)=>s353.length≤i) (za6 (m:=false) lI (xs:=P0) ↥2) (.eq ↑13) ↥(↑4 0) (λi355 x354 s353 hx356 hI357=>have v356:=List.mem_of_getElem? hx356;⟨↥(zo6 ↑1),(zba (m:=true) zaJ (zbp (s0:=(0:Int)) (λ(s358:Int)=>([⇑[dQ K ↥6],⇑[dQ K ↑7],.ow true (↑0 dI s353),⇑[dL (↑0 dI x354)],↥[dI s358],.no,.no]:L2.Ctx)) (λz=>Oc.nx ((λ(s353:Ji)=>([⇑[dQ K ↥6],⇑[dQ K ↑7],.ow true (↑0 dI s353),.no,.no,.no,.no]:L2.Ctx)) z)) (λ(s358:Int) (x359:↑9)=>(Let (s358+(x359.1*x359.2)) (λ(v363:Int)=>v363))) ↑68 (zdT (m:=false) dI dI (xs:=x354) (ys:=P1) ↑17 ⇑8) (.eq ↑13) trivial (λi360 x359 s358 hx361 hI362=>have v361:=zbV hx361;⟨trivial,(zaq (m:=true) (x:=(s358+(x359.1*x359.2))) dI (λz=>Oc.nx ((λ(s358:Int)=>([⇑[dQ K ↥6],⇑[dQ K ↑7],.ow true (↑0 dI s353),⇑[dL (↑0 dI x354)],↥[dI s358],.no,.no]:L2.Ctx)) z)) (zaP (x:=s358) (y:=(x359.1*x359.2)) ↑20 (zaH (x:=x359.1) (y:=x359.2) (Ev.any (m:=false) ↑94) (Ev.any (m:=false) ↑40) ↥(zr7 hp ↑1 ↑1))) (λv363 hv363=>(zan (.eq (.eq ↑193)))))⟩) (λr364 hr364 hI=>(zcj (f:=dI) (xs:=s353) (x:=r364) rfl ↑20 ↥(ztA hp ↑1 ↑1) (zan (.eq (.eq (.eq (.no (.no (.eq (.eq .nil))))))))))))⟩) (λr365 hr365 hI=>(zeV (zi9 (i:=2) rfl)))))
noncomputable def za5 (P0:Jq) (P1:Ji) (P2:Ji):Bool :=
 (LetR (loopR (λ(s366:Unit) (x367:↑9)=>(((bif (((decide (x367.2=(0:Int))) && (!decide (x367.1=(0:Int))))||((decide ((0:Int)<x367.2)) && (!decide ((x367.1%x367.2)=(0:Int))))) then ↑27
 else ↑28)):(Unit) ⊕ Bool)) () (List.zip (zaY P0 P2) P1)) (λ(r372:Unit) =>
 true) (λb=>b))
def zcJ (P0:Jq) (P1:Ji) (P2:Ji):Prop:=ShP P0 P2
def zeF (K:W.Frag) (A:Adr):Sp:=Spv (ι:=Jq×Ji×Ji) (λx=>[dQ K (↑0 lI x.1),dQ K (↑0 dI x.2.1),dQ K (↑0 dI x.2.2)]) (λx=>zcJ x.1 x.2.1 x.2.2) (λx=>↥[dB (za5 x.1 x.2.1 x.2.2)])
theorem zeG:FnScope ["_law_duals","_law_bottoms_here","_law_basket","_law_share","_law_number"] ["_law_duals","_law_bottoms_here","_law_basket"] (zai zfc):=↥5
theorem ziU (F:Fun K "_law_nothing" "_law_nothing" zfc f fd) (T:Txt K mg A) (yao:Callee P w K mg base ⇑1 1 "_law_shares" ["_law_duals","_law_basket"] (zfi K A)):FnOk P w K mg base ⇑1 2 f fd ["_law_duals","_law_bottoms_here","_law_basket"] (zeF K A):=by
 refine F.okV zeG ⇑5 ↑10
 obtain ⟨P0,P1,P2⟩:=x
 have hu:=hr.units
 replace hp:zcJ P0 P1 P2:=hp
 unfold zcJ at hp
 refine ⟨_,(zab (zbx ↑11 rfl (zb4 (K:=K) rfl rfl T.zip ↑[zaN yao ↑2 rfl zaK ↑[pv 0,pv 2],pv 1]) (zbd (K:=K) (n:=2) rfl rfl (zaD (zal (i:=3) zeG.nd rfl (↥0 rfl) (↥0 rfl)) (zaD (zal (i:=4) zeG.nd rfl (↥0 rfl) (↥0 rfl)) zbL))) (zab (zbQ (PW.pt (zjt (PW.pt (zik (zaG zfg (pv 4) zag (zaQ _)) (zgd (zaG zfn (pv 3) zag (zaQ _))))) (zhn (PW.pt (zik (zaG ziO (pv 4) zag (zaQ _)) (zgd (zaG zfn (zav zcb (pv 3) (pv 4)) zag (zaQ _)))))))) ↑48 zae) zae)) ↑48),.inl ?_⟩
 show L2.Run _ ([⇑[dQ K ↥6],⇑[dQ K ↑7],⇑[dQ K (↑0 dI P2)],.no,.no]:L2.Ctx) _ (↑8 (za5 P0 P1 P2))
 unfold za5
 exact (zc9 (s0:=()) (λ(s366:Unit)=>([⇑[dQ K ↥6],⇑[dQ K ↑7],⇑[dQ K (↑0 dI P2)],.no,.no]:L2.Ctx)) ↑8 (λb=>b) (λ(s366:Unit) (x367:↑9)=>(((bif (((decide (x367.2=(0:Int))) && (!decide (x367.1=(0:Int))))||((decide ((0:Int)<x367.2)) && (!decide ((x367.1%x367.2)=(0:Int))))) then ↑27 else ↑28)):(Unit) ⊕ Bool)) ↑68 ↑90 (zdT (m:=false) dI dI (xs:=(zaY P0 P2)) (ys:=P1) (Ev.weak (K:=K) (EvO.ev (EvO.anyI (m:=true) (zcp (x:=(P0,P2)) (zac ↥2 (zac ↑31 zah)) rfl (by show zc4 P0 P2;exact hp) rfl)))) ⇑8) (.eq (.eq ↑74)) trivial (λi368 x367 s366 hx369 hI370=>have v369:=zbV hx369;⟨↑120,(zaW (b:=(((decide (x367.2=(0:Int))) && (!decide (x367.1=(0:Int))))||((decide ((0:Int)<x367.2)) && (!decide ((x367.1%x367.2)=(0:Int)))))) (zeg (λ(s366:Unit)=>([⇑[dQ K ↥6],⇑[dQ K ↑7],⇑[dQ K (↑0 dI P2)],.no,.no]:L2.Ctx)) ↑8) (zgN (b:=((decide (x367.2=(0:Int)))&&(!decide (x367.1=(0:Int))))) (zgi (b:=(decide (x367.2=(0:Int)))) (zau (zdA (x:=x367.2) (y:=(0:Int)) ↑44 zaJ)) (λhb=>(zau (zdX (x:=x367.1) (y:=(0:Int)) ↑203 zaJ)))) (λhb=>(zgi (b:=(decide ((0:Int)<x367.2))) (zau (zaP (x:=x367.2) (y:=(0:Int)) ↑44 zaJ)) (λhb=>(zau (zdX (x:=(x367.1%x367.2)) (y:=(0:Int)) (zaH (x:=x367.1) (y:=x367.2) ↑203 ↑44 (by show (0:Int)<_;exact of_decide_eq_true ↑1)) zaJ)))))) (λh371=>↑65) (λh371=>(zat (zan ↑193))))⟩) (λr372 hr372 hI=>(zaj (zaA zaJ))))
theorem zqT:∀ (w t:Ji) (a:Int),List.foldl (λ(s:Int) (x:Int×Int)=>Let (s+(x.1*x.2)) (λ(y:Int)=>y)) a (List.zip w t)=a+((↑0 (λ(x:Int×Int)=>x.1*x.2) (List.zip w t))).sum
 | [],_,a=>by show a=a+0;omega
 | _ :: _,[],a=>by show a=a+0;omega
 | x :: w,y :: t,a=>by
  show List.foldl _ (a+x*y) (List.zip w t)=a+(x*y+((↑0 (λ(x:Int×Int)=>x.1*x.2) (List.zip w t))).sum)
  rw [zqT w t];omega
theorem zkF (ds:Jq) (x:Ji):zaY ds x=ds.map λd=>Lat.dv d ↑41:=by
 show List.foldl (λ(s:Ji) (d:Ji)=>s++[List.foldl (λ(s:Int) (x:Int×Int)=>Let (s+(x.1*x.2)) (λ(y:Int)=>y)) 0 (List.zip d x)]) [] ds=_
 rw [Lat.zfW,List.nil_append]
 refine List.map_congr_left λd _=>?_
 rw [zqT,Int.zero_add,Lat.znd]
theorem zsh {γ β:Type} {f:Unit->γ->Unit ⊕ β} {p:γ} {l:List γ} (h:f () p=.inl ()):loopR f () (p :: l)=loopR f () l:=by
 rw [loopR,h]
theorem zrK {γ β:Type} {f:Unit->γ->Unit ⊕ β} {p:γ} {l:List γ} {v:β} (h:f () p=.inr v):loopR f () (p :: l)=.inr v:=by
 rw [loopR,h]
theorem zkW {γ:Type} {c:γ->Bool}:∀ (l:List γ),LetR (loopR (λ(_:Unit) (p:γ)=>((bif c p then ↑27 else ↑28):Unit ⊕ Bool)) () l) (λ_=>true) (λb=>b)=l.all λp=>!c p
 | []=>rfl
 | p :: l=>by
  rw [List.all_cons]
  cases q:c p
  ·rw [zsh (by show (bif c p then _ else _)=_;rw [q];rfl),zkW l];rfl
  ·rw [zrK (v:=false) (by show (bif c p then _ else _)=_;rw [q];rfl)];rfl
theorem zs8 {W:Nat} {f:Jq×Jq} {bs x:Ji} (h:Lat.Du W f) (hb:bs.length=W) (h0:∀ b∈bs,0≤b) (hx:x.length=W):za5 f.2 bs x=true ↔ Lat.SpL (Lat.scl f.1 bs) ↑41:=by
 unfold za5
 rw [zkW,List.all_eq_true,zkF]
 have cd:∀ a b:Int,0≤b->((!(((decide (b=(0:Int)))&&(!decide (a=(0:Int))))||((decide ((0:Int)<b))&&(!decide ((a%b)=(0:Int))))))=true ↔ b ∣ a):=λa b hb=>by
  by_cases q:b=0
  ·subst q
   simp
  ·have:0<b:=by omega
   rw [decide_eq_false q,decide_eq_true this]
   simp [Int.dvd_iff_emod_eq_zero]
 constructor
 ·intro k
  refine Lat.znK h hb h0 (λj hj=>Lat.za8 ⇑0) λi t b ht hbi=>?_
  have hz:(List.zip (f.2.map λd=>Lat.dv d ↑41) bs)[i]?=some (Lat.dv t ↑41,b):=by
   rw [List.getElem?_zip_eq_some]
   exact ⟨by rw [List.getElem?_map,ht];rfl,hbi⟩
  exact (cd _ _ (h0 b (List.mem_of_getElem? hbi))).mp (k _ (List.mem_of_getElem? hz))
 ·intro k p hp
  obtain ⟨i,hi⟩:=List.getElem?_of_mem hp
  obtain ⟨i1,i2⟩:=zbV hi
  rw [List.getElem?_map] at i1
  cases q:f.2[i]? with
  | none=>rw [q] at i1;cases i1
  | some t =>
   rw [q] at i1
   have i1:Lat.dv t ↑41=p.1:=Option.some.inj i1
   refine (cd _ _ (h0 _ (List.mem_of_getElem? i2))).mpr ?_
   rw [← i1]
   exact Lat.zqB h k q i2
noncomputable def zbB (P0:Ji) (P1:Int):Bool :=
 (bif ((!true)||(!decide (↑32=P1))) then false
 else (LetR (loopR (λ(s374:Unit) (x375:Int)=>(((bif ((!true)||false) then ↑27
 else ↑28)):(Unit) ⊕ Bool)) () P0) (λ(r380:Unit) =>
 true) (λb=>b)))
def zdL (P0:Ji) (P1:Int):Prop:=True
def zgn (K:W.Frag) (A:Adr):Sp:=Spv (ι:=Ji×Int) (λx=>[dL (↑0 dI x.1),dI x.2]) (λx=>zdL x.1 x.2) (λx=>↥[dB (zbB x.1 x.2)])
theorem zgy:FnScope ["_law_found","_law_many","_law_number"] ["_law_found","_law_many"] (zai zfG):=↥5
theorem zjr (F:Fun K "_law_wholes" "_law_wholes" zfG f fd) (T:Txt K mg A) :FnOk P w K mg base ⇑1 1 f fd ["_law_found","_law_many"] (zgn K A):=by
 refine F.okV zgy ⇑5 ↑10
 obtain ⟨P0,P1⟩:=x
 have hu:=hr.units
 replace hp:zdL P0 P1:=hp
 unfold zdL at hp
 refine ⟨_,(zab (zbQ (PW.pt (zjt (zhl (zfD (zaz (zgP (K:=K) rfl) rfl T.isinstance PyProof.Rows.boot_isinstance ↑[pv 0,(zj9 rfl T.list (v:= .ty "list") (u:= .type "list") ↑6 rfl)]))) (zhn (zaG zfn ↑111 (pv 1) (zaQ _))))) ↑48 zae) (zab (zbx ↑11 rfl ↑152 (zal (i:=2) zgy.nd rfl (↥0 rfl) (↥0 rfl)) (zab (zbQ (PW.pt (zjt (zhl (zfD (zaz (zgP (K:=K) rfl) rfl T.isinstance PyProof.Rows.boot_isinstance ↑[pv 2,(zj9 rfl T.int (v:=.ty "int") (u:=.type "int") ↑6 rfl)]))) (zhn (zfD (zaz (zgP (K:=K) rfl) rfl T.isinstance PyProof.Rows.boot_isinstance ↑[pv 2,(zj9 rfl T.bool (v:=.ty "bool") (u:=.type "bool") ↑6 rfl)]))))) ↑48 zae) zae)) ↑48)),.inl ?_⟩
 show L2.Run _ ([⇑[dL ↑14],⇑[dI P1],.no]:L2.Ctx) _ (↑8 (zbB P0 P1))
 unfold zbB
 exact (zaW (b:=((!true)||(!decide (↑32=P1)))) ↑8 (zgN (b:=(!true)) (zft (zeh (zoj ↥2 T.kit_list_list))) (λhb=>(zau (zdX (x:=↑32) (y:=P1) (zaV (f:=dI) (xs:=P0) ↑26) ⇑9)))) (λh373=>↑65) (λh373=>(zat (zc9 (s0:=()) (λ(s374:Unit)=>([⇑[dL ↑14],⇑[dI P1],.no]:L2.Ctx)) ↑8 (λb=>b) (λ(s374:Unit) (x375:Int)=>(((bif ((!true)||false) then ↑27 else ↑28)):(Unit)⊕Bool)) ↑68 ↑90 (za6 (m:=false) dI (xs:=P0) ↑26) ↑74 trivial (λi376 x375 s374 hx377 hI378=>have v377:=List.mem_of_getElem? hx377;⟨↑120,(zaW (b:=((!true)||false)) (zeg (λ(s374:Unit)=>([⇑[dL ↑14],⇑[dI P1],.no]:L2.Ctx)) ↑8) (zgN (b:=(!true)) (zft (zeh (zow (λ_=>TyOf.int _) ↑39 T.kit_int_int))) (λhb=>(zeh (zow (λ_=>TyOf.int _) ↑39 T.kit_int_bool)))) (λh379=>↑65) (λh379=>(zat (zan ↑134))))⟩) (λr380 hr380 hI=>(zaj (zaA zaJ)))))))
theorem zoy (l:Ji) (w:Int):zbB l w=decide ((l.length:Int)=w):=by
 unfold zbB
 have:∀ l:Ji,loopR (λ(_:Unit) (_:Int)=>(((bif ((!true)||false) then ↑27 else ↑28)):(Unit)⊕Bool)) () l=.inl ():=by
  intro l
  induction l with
  | nil=>rfl
  | cons x l ih=>exact ih
 rw [this]
 by_cases q:↑155=w
 ·simp [q,LetR]
 ·simp [q,LetR]
noncomputable def zbs (P0:Ji):Int :=
 (LetR (loopR (λ(s381:Unit) (x382:Int)=>(((bif (!decide ((ixD P0 x382)=(0:Int))) then (Sum.inr x382)
 else ↑28)):(Unit) ⊕ Int)) () (zbz 0 (↑32).toNat)) (λ(r387:Unit) =>
 ↑32) (λb=>b))
def zcL (P0:Ji):Prop:=P0.length≤1000
def zgh (K:W.Frag) (A:Adr):Sp:=Spv (ι:=Ji) (λx=>[dQ K (↑0 dI x)]) (λx=>zcL x) (λx=>↥[dI (zbs x)])
theorem zhL:FnScope ["_law_step","_law_place"] ["_law_step"] (zai zhe):=↥5
theorem zlN (F:Fun K "_law_head" "_law_head" zhe f fd) (T:Txt K mg A) :FnOk P w K mg base ⇑1 1 f fd ["_law_step"] (zgh K A):=by
 refine F.okV zhL ⇑5 ↑61
 have hu:=hr.units
 replace hp:zcL P0:=hp
 unfold zcL at hp
 refine ⟨_,(zab (zbx ↑11 rfl (zb2 rfl T.range ↑[↑111]) (zal (i:=1) zhL.nd rfl (↥0 rfl) (↥0 rfl)) (zab (zbQ (zaG zfn (zaR ↥7 (pv 0) (pv 1) ↥4) zag (zaQ _)) (zab (zaL (pv 1)) zae) zae) zae)) (zab (zaL ↑111) zae)),.inl ?_⟩
 show L2.Run _ ([⇑[dQ K ↑14],.no]:L2.Ctx) _ (↑18 (zbs P0))
 unfold zbs
 exact (zc9 (s0:=()) (λ(s381:Unit)=>([⇑[dQ K ↑14],.no]:L2.Ctx)) ↑18 (λb=>b) (λ(s381:Unit) (x382:Int)=>(((bif (!decide ((ixD P0 x382)=(0:Int))) then (Sum.inr x382) else ↑28)):(Unit) ⊕ Int)) ↑68 ↑90 (zdy (m:=true) (n:=↑32) ↑168 ↑127) (.eq (.eq .nil)) trivial (λi383 x382 s381 hx384 hI385=>have v384:=zby hx384;⟨↑120,(zaW (b:=(!decide ((ixD P0 x382)=(0:Int)))) (zeg (λ(s381:Unit)=>([⇑[dQ K ↑14],.no]:L2.Ctx)) ↑18) (zau (zdX (x:=(ixD P0 x382)) (y:=(0:Int)) (Ev.any (m:=false) (zbe (f:=dI) (xs:=P0) ↥2 ↑42 ↑115)) zaJ)) (λh386=>(zax (zaj (zaA ↑42)))) (λh386=>(zat (zan (.eq (.no .nil))))))⟩) (λr387 hr387 hI=>(zaj (zaA ↑168))))
theorem zgC (l:Ji):zbs l=(Lat.hd l:Int):=Lat.zvt l
theorem zuJ {steps:Jq} {w x:Int} {i:Nat} (hp:steps.length≤1000∧(∀s∈steps,(s.length:Int)=w)∧w≤1000) (q:i<(((steps.length:Nat):Int)).toNat∧x=0+(i:Int)):zcL (ixD steps x):=by
 have:=hp.2.1 _ (zbK (xs:=steps) (i:=x) ↑115)
 show ((ixD steps x)).length≤1000
 have:=hp.2.2
 omega
theorem zqc {steps:Jq} {x:Int} {i:Nat} (q:i<(((steps.length:Nat):Int)).toNat∧x=0+(i:Int)):InB steps.length x:=by unfold InB;omega
theorem zqx {steps:Jq} {w x h:Int} {i:Nat} (hp:steps.length≤1000∧(∀s∈steps,(s.length:Int)=w)∧w≤1000) (q:i<(((steps.length:Nat):Int)).toNat∧x=0+(i:Int)) (hH:h=(Lat.hd (ixD steps x):Int)) (hb:decide (h=w)=false):InB ((ixD steps x)).length h:=by
 have:=hp.2.1 _ (zbK (xs:=steps) (i:=x) ↑115)
 have:=Lat.znr (l:=ixD steps x)
 simp only [decide_eq_false_iff_not] at hb
 unfold InB;omega
theorem zoq {steps:Jq} {w x h s:Int} {i:Nat} {c:Bool} (hp:steps.length≤1000∧(∀s∈steps,(s.length:Int)=w)∧w≤1000) (q:i<(((steps.length:Nat):Int)).toNat∧x=0+(i:Int)) (hH:h=(Lat.hd (ixD steps x):Int)) (hb:((decide (h≤s))||((decide (h=w))||c))=false):InB ((ixD steps x)).length h:=by
 have:=hp.2.1 _ (zbK (xs:=steps) (i:=x) ↑115)
 have:=Lat.znr (l:=ixD steps x)
 simp only [Bool.or_eq_false_iff,decide_eq_false_iff_not] at hb
 unfold InB;omega
theorem zqA {steps:Jq} {t:Ji} {w x h s:Int} {i:Nat} {c:Bool} {lo hi:Option Int} (hp:steps.length≤1000∧(∀s∈steps,(s.length:Int)=w)∧w≤1000) (q:i<(((steps.length:Nat):Int)).toNat∧x=0+(i:Int)) (ht:t∈zbI steps lo hi) (hH:h=(Lat.hd (ixD steps x):Int)) (hb:((decide (h≤s))||((decide (h=w))||c))=false):InB t.length h:=by
 have h1:=hp.2.1 _ (zbK (xs:=steps) (i:=x) ↑115)
 have h2:=hp.2.1 _ (Lat.zrc ht)
 have h3:=zoq hp q hH hb
 unfold InB at *;omega
theorem zvE {n s:Nat} {t:Ji} (p1:n≤1000) (T:Lat.Sd n s t):zcL t:=by show t.length≤1000;rw [T.len];exact p1
theorem ztq {n s b:Nat} {l t:Ji} (T:Lat.Sd n s t) (hl:l.length=n∧Lat.Bit b l):l.length=t.length:=by rw [hl.1,T.len]
theorem zrz {l t:Ji} (h:l.length=t.length):Let (zbs t) (λ(h:Int)=>Let ((ixD l h)/(ixD t h)) (λ(q:Int)=>Let (↑0 (λ(x:↑9)=>(x.1-(q*x.2))) (List.zip l t)) (λ(y:Ji)=>y)))=Lat.ziX l t:=by
 unfold Let
 dsimp only
 rw [zgC,Lat.zbc,Lat.zbc]
 exact Lat.zqG h
theorem ztF {n s a i j:Nat} {l t:Ji} {h q:Int} {steps:Jq} {p:Int×Int} (p6:a+steps.length*(s+1)+s≤50000000) (hx:steps[i]?=some t) (T:∀ t∈steps,Lat.Sd n s t) (hl:l.length=n∧Lat.Bit (a+i*(s+1)) l) (e:h=(Lat.hd t:Int)) (eq:q=ixD l h/ixD t h) (hz:((List.zip l t))[j]?=some p):zcK q p.2:=by
 have T1:=T t ↑169
 have hm:p.2∈t:=(List.of_mem_zip (a:=p.1) (b:=p.2) (List.mem_of_getElem? hz)).2
 have hn:=Lat.zn5 p6 (↑234).1
 subst e eq
 rw [Lat.zbc,Lat.zbc]
 exact Lat.zcK.of (Lat.zo4 T1 hl.2) (T1.bit _ hm) ⇑0 ⇑0
theorem zu0 {n b:Nat} {l t:Ji} (p1:n≤1000) (hl:l.length=n∧Lat.Bit b l):((List.zip l t)).length≤PySem.sizeLine:=zao (by rw [List.length_zip];have:=hl.1;omega)
noncomputable def zbb (P0:Jq) (P1:Int):Bool :=
 (bif (!true) then false
 else (Let ↑16 (λ(v389:Int) =>
 (LetR (loopR (λ(s390:Int) (x391:Int)=>(((bif (!(zbB ↑50 P1)) then ↑27
 else (Let (zbs ↑50) (λ(hv396:Int) =>
 (bif ((decide (hv396≤s390))||((decide (hv396=P1))||(decide ((ixD ↑50 hv396)≤(0:Int))))) then ↑27
 else (LetR (loopR (λ(s398:Unit) (x399:Ji)=>(((bif ↑249 then ↑27
 else ↑28)):(Unit) ⊕ Bool)) () (zbI P0 none (some x391))) (λ(r404:Unit) =>
 (Sum.inl hv396)) (λb=>Sum.inr b))))))):(Int) ⊕ Bool)) v389 (zbz 0 (↑32).toNat)) (λ(r405:Int) =>
 true) (λb=>b)))))
def zcE (P0:Jq) (P1:Int):Prop:=P0.length≤1000∧(∀ s∈P0,(s.length:Int)=P1)∧P1≤1000
def zeZ (K:W.Frag) (A:Adr):Sp:=Spv (ι:=Jq×Int) (λx=>[dL (↑0 lI x.1),dI x.2]) (λx=>zcE x.1 x.2) (λx=>↥[dB (zbb x.1 x.2)])
theorem zbP:FnScope ["_law_steps","_law_wide","_law_ahead","_law_k","_law_head_here","_law_step"] ["_law_steps","_law_wide"] (zai zd3):=↥5
theorem zgZ (F:Fun K "_law_are_stairs" "_law_are_stairs" zd3 f fd) (T:Txt K mg A) (yau:Callee P w K mg base ⇑1 1 "_law_head" ["_law_step"] (zgh K A)) (ya4:Callee P w K mg base ⇑1 1 "_law_wholes" ["_law_found","_law_many"] (zgn K A)):FnOk P w K mg base ⇑1 2 f fd ["_law_steps","_law_wide"] (zeZ K A):=by
 refine F.okV zbP ⇑5 ↑10
 obtain ⟨P0,P1⟩:=x
 have hu:=hr.units
 replace hp:zcE P0 P1:=hp
 unfold zcE at hp
 refine ⟨_,(zab (zbQ (zhl (zfD (zaz (zgP (K:=K) rfl) rfl T.isinstance PyProof.Rows.boot_isinstance ↑[pv 0,(zj9 rfl T.list (v:= .ty "list") (u:= .type "list") ↑6 rfl)]))) ↑48 zae) (zab (zap (i:=2) zbP.nd rfl (↥0 rfl) (zoL zkq zag)) (zab (zbx ↑11 rfl (zb2 rfl T.range ↑[↑111]) (zal (i:=3) zbP.nd rfl (↥0 rfl) (↥0 rfl)) (zab (zbQ (zhl (zfD (zaN ya4 ↑2 rfl zaK ↑[(zaR ↥7 (pv 0) (pv 3) ↥4),pv 1]))) ↑48 zae) (zab (zap (i:=4) zbP.nd rfl (↥0 rfl) (zaN yau ↑2 rfl zaK ↑[(zaR ↥7 (pv 0) (pv 3) ↥4)])) (zab (zbQ (PW.pt (zjt (zaG zsf (pv 4) (pv 2) (zaQ _)) (zjt (zaG zfg (pv 4) (pv 1) (zaQ _)) (zhn (zaG zsf (zaR ↥7 (zaR ↥7 (pv 0) (pv 3) ↥4) (pv 4) ↥4) zag (zaQ _)))))) ↑48 zae) (zab (zap (i:=2) zbP.nd rfl (↥0 rfl) (pv 4)) (zab (zbx ↑11 rfl (zaM (K:=K) rfl (zch ↑66 (pv 0) zdI (zcM (pv 3)))) (zal (i:=5) zbP.nd rfl (↥0 rfl) (↥0 rfl)) (zab (zbQ (PW.pt (zjt (zaG zj3 (zaR ↥7 (pv 5) (pv 4) ↥4) zag (zaQ _)) (zhn (zaG zsy (zaR ↥7 (pv 5) (pv 4) ↥4) (zaR ↥7 (zaR ↥7 (pv 0) (pv 3) ↥4) (pv 4) ↥4) (zaQ _))))) ↑48 zae) zae)) zae)))))) ↑48))),.inl ?_⟩
 show L2.Run _ ([⇑[dL ↥6],⇑[dI P1],.no,.no,.no,.no]:L2.Ctx) _ (↑8 (zbb P0 P1))
 unfold zbb
 exact (zaW (b:=(!true)) ↑8 (zft (zeh (zoj ↥2 T.kit_list_list))) (λh388=>↑65) (λh388=>(zat (zaq (m:=true) (x:=↑16) dI ↑8 (zoM (x:=(1:Int)) zaJ) (λv389 hv389=>(zc9 (s0:=v389) ↑183 ↑8 (λb=>b) (λ(s390:Int) (x391:Int)=>(((bif (!(zbB ↑50 P1)) then ↑27 else (Let (zbs ↑50) (λ(hv396:Int)=>(bif ((decide (hv396≤s390))||((decide (hv396=P1))||(decide ((ixD ↑50 hv396)≤(0:Int))))) then ↑27 else (LetR (loopR (λ(s398:Unit) (x399:Ji)=>(((bif ↑249 then ↑27 else ↑28)):(Unit)⊕Bool)) () (zbI P0 none (some x391))) (λ(r404:Unit)=>(Sum.inl hv396)) (λb=>Sum.inr b))))))):(Int) ⊕ Bool)) ↑68 ↑90 (zdy (m:=true) (n:=↑32) (zaV (f:=lI) (xs:=P0) ↑26) ↑127) ↑13 trivial (λi392 x391 s390 hx393 hI394=>have v393:=zby hx393;⟨↑120,(zaW (b:=(!(zbB ↑50 P1))) (zeg ↑183 ↑8) (zft (zeh (Ev.any (m:=true) (zam (x:=(↑50,P1)) (zac (zbe (f:=lI) (xs:=P0) ↑26 ↑73 ↥(zqc ↑1)) (zac ⇑9 zah)) rfl (by show zdL ↑50 P1;exact trivial) rfl)))) (λh395=>↑65) (λh395=>(zat (zaq (m:=true) (x:=(zbs ↑50)) dI (zeg ↑183 ↑8) (Ev.any (m:=true) (zam (x:=↑50) (zac (Ev.weak (K:=K) (zbe (f:=lI) (xs:=P0) ↑26 ↑73 ↥(zqc ↑1))) zah) rfl (by show zcL ↑50;exact zuJ hp ↑1) rfl)) (λhv396 hhead396=>have hH:=(hhead396).trans (zgC _);(zaW (b:=((decide (hv396≤s390))||((decide (hv396=P1))||(decide ((ixD ↑50 hv396)≤(0:Int)))))) (zeg ↑183 ↑8) (zgN (b:=(decide (hv396≤s390))) (zau (zaP (x:=hv396) (y:=s390) ↑20 ↑47)) (λhb=>(zgN (b:=(decide (hv396=P1))) (zau (zdA (x:=hv396) (y:=P1) ↑20 ⇑9)) (λhb=>(zau (zaP (x:=(ixD ↑50 hv396)) (y:=(0:Int)) (Ev.any (m:=false) (zbe (f:=dI) (xs:=↑50) (Ev.weak (K:=K) (zbe (f:=lI) (xs:=P0) ↑26 ↑73 ↥(zqc ↑1))) ↑20 (by first|exact zqx hp ↑1 hH hb|exact zoq hp ↑1 hH ↑1))) zaJ)))))) (λh397=>↑65) (λh397=>(zat (zba (m:=true) ↑20 (zc9 (s0:=()) (λ(s398:Unit)=>([⇑[dL ↥6],⇑[dI P1],↥[dI hv396],↥[dI x391],↥[dI hv396],.no]:L2.Ctx)) (zeg ↑183 ↑8) (λb=>Sum.inr b) (λ(s398:Unit) (x399:Ji)=>(((bif ↑249 then ↑27 else ↑28)):(Unit)⊕Bool)) ↑68 ↑90 (za6 (m:=false) lI (xs:=(zbI P0 none (some x391))) (Ev.weak (K:=K) (EvO.ev (zdj (f:=lI) (xs:=P0) ↑26 zcU (zb5 ↑73))))) ↑13 trivial (λi400 x399 s398 hx401 hI402=>have v401:=List.mem_of_getElem? hx401;⟨↑120,(zaW (b:=↑249) (zeg (λ(s398:Unit)=>([⇑[dL ↥6],⇑[dI P1],↥[dI hv396],↥[dI x391],↥[dI hv396],.no]:L2.Ctx)) (λb=>(zeg ↑183 ↑8) (Sum.inr b))) (zgN (b:=(decide ((ixD x399 hv396)<(0:Int)))) (zau (zaP (x:=(ixD x399 hv396)) (y:=(0:Int)) (Ev.any (m:=false) (zbe (f:=dI) (xs:=x399) ↑63 ↑20 ↥(zqA hp ↑1 ↑1 hH ↑1))) zaJ)) (λhb=>(zau (zaP (x:=(ixD x399 hv396)) (y:=(ixD ↑50 hv396)) (Ev.any (m:=false) (zbe (f:=dI) (xs:=x399) ↑63 ↑20 ↥(zqA hp ↑1 ↑1 hH ↑1))) (Ev.any (m:=false) (zbe (f:=dI) (xs:=↑50) (Ev.weak (K:=K) (zbe (f:=lI) (xs:=P0) ↑26 ↑73 ↥(zqc ↑1))) ↑20 (by first|exact zqx hp ↑1 hH hb|exact zoq hp ↑1 hH ↑1))))))) (λh403=>↑65) (λh403=>(zat (zan (.eq (.eq (.eq ↑134)))))))⟩) (λr404 hr404 hI=>(zan (.eq (.eq (.eq (.no (.no (.eq .nil))))))))))))))))))⟩) (λr405 hr405 hI=>(zaj (zaA zaJ)))))))))
theorem zlB {n:Nat} {ss:Jq} (e:Lat.Ech n 0 ss) (r:Lat.Red ss):zbb ss (n:Int)=true:=by
 obtain ⟨s',e1,_⟩:=Lat.zjs (xs:=zbz 0 ((ss.length:Nat):Int).toNat) (s:=↑16) (n:=0) (I:=λk (s:Int)=>∀ t,ss[k]?=some t->s<(Lat.hd t:Int))
  (f:=(λ(s157:Int) (x158:Int)=>(((bif (!(zbB (ixD ss x158) (n:Int))) then ↑27
 else (Let (zbs (ixD ss x158)) (λ(hv163:Int) =>
 (bif ((decide (hv163≤s157))||((decide (hv163=(n:Int)))||(decide ((ixD (ixD ss x158) hv163)≤(0:Int))))) then ↑27
 else (LetR (loopR (λ(s165:Unit) (x166:Ji)=>(((bif ((decide ((ixD x166 hv163)<(0:Int)))||(decide ((ixD (ixD ss x158) hv163)≤(ixD x166 hv163)))) then ↑27
 else ↑28)):(Unit) ⊕ Bool)) () (zbI ss none (some x158))) (λ(r171:Unit) =>
 (Sum.inl hv163)) (λb=>Sum.inr b))))))):(Int) ⊕ Bool))) (λt _=>by omega) (by
  intro k x s hx hI
  obtain ⟨h1,h2⟩:=zby hx
  rw [Int.toNat_natCast] at h1
  rw [Nat.zero_add] at hI ⊢
  have hx':x=(k:Int):=by omega
  subst hx'
  have hk:ss[k]?=some ss[k]:=List.getElem?_eq_getElem h1
  obtain ⟨a1,a2,a3,a4⟩:=Lat.zo0 e hk
  have a5:=hI _ hk
  refine ⟨(Lat.hd ss[k]:Int),?_,λt ht=>?_⟩
  ·unfold Let
   dsimp only
   rw [zbY hk,zoy,zgC,a1,Lat.zbc]
   rw [show (!decide ((n:Int)=(n:Int)))=false by simp,cond_false]
   rw [show (decide ((Lat.hd ss[k]:Int)≤s)||((decide ((Lat.hd ss[k]:Int)=(n:Int)))||(decide (Lat.vec ss[k] (Lat.hd ss[k])≤(0:Int)))))=false by
    simp only [Bool.or_eq_false_iff,decide_eq_false_iff_not]
    omega,cond_false]
   obtain ⟨u,e2,_⟩:=Lat.zjs (xs:=zbI ss none (some (k:Int))) (s:=()) (n:=0) (I:=λ_ (_:Unit)=>True) (f:=(λ(s165:Unit) (x166:Ji)=>(((bif ((decide ((ixD x166 (Lat.hd ss[k]:Int))<(0:Int)))||(decide ((Lat.vec ss[k] (Lat.hd ss[k]))≤(ixD x166 (Lat.hd ss[k]:Int))))) then ↑27
 else ↑28)):(Unit) ⊕ Bool))) trivial (by
    intro i t' u hi _
    refine ⟨(),?_,trivial⟩
    have hc:zbI ss none (some (k:Int))=ss.take k:=by
     unfold zbI
     rw [HT.sIx_nat,HT.sIx_none]
     show (List.drop 0 ss).take (min k ss.length-0)=_
     rw [List.drop_zero,Nat.sub_zero,Nat.min_eq_left ⇑0]
    rw [hc] at hi
    have hik:i<k:=by
     have:=((List.getElem?_eq_some_iff.mp hi)).1
     rw [List.length_take] at this
     omega
    rw [List.getElem?_take_of_lt hik] at hi
    obtain ⟨b1,b2,b3⟩:=Lat.zoS e r hik hi hk
    rw [Lat.zbc]
    rw [show (decide (Lat.vec t' (Lat.hd ss[k])<(0:Int))||(decide (Lat.vec ss[k] (Lat.hd ss[k])≤Lat.vec t' (Lat.hd ss[k]))))=false by
     simp only [Bool.or_eq_false_iff,decide_eq_false_iff_not]
     omega,cond_false])
   rw [e2]
   rfl
  ·have:=(Lat.zoS e r (Nat.lt_succ_self k) hk (by simpa using ht)).1
   omega)
 exact (congrArg (λz=>LetR z (λ(_:Int)=>true) (λb=>b)) e1).trans rfl
noncomputable def zaI (P0:Jq) (P1:Ji):Ji :=
 (Let (List.foldl (λ(s406:Ji) (x407:Ji)=>(Let (zbs x407) (λ(hv411:Int) =>
 (Let ((ixD s406 hv411)/(ixD x407 hv411)) (λ(v412:Int) =>
 (Let (↑0 (λ(x413:↑9)=>(x413.1-(v412*x413.2))) (List.zip s406 x407)) (λ(v416:Ji) =>
 v416))))))) P1 P0) (λ(r417:Ji) =>
 r417))
def zcd (P0:Jq) (P1:Ji):Prop:=Lat.LowP P1 P0
def zeA (K:W.Frag) (A:Adr):Sp:=Spv (ι:=Jq×Ji) (λx=>[dQ K (↑0 lI x.1),dQ K (↑0 dI x.2)]) (λx=>zcd x.1 x.2) (λx=>↥[dL (↑0 dI (zaI x.1 x.2))])
theorem zcy:FnScope ["_law_steps","_law_basket","_law_found","_law_step","_law_head_here","_law_many"] ["_law_steps","_law_basket"] (zai zeb):=↥5
theorem ziN (F:Fun K "_law_brought" "_law_brought" zeb f fd) (T:Txt K mg A) (yau:Callee P w K mg base ⇑1 1 "_law_head" ["_law_step"] (zgh K A)):FnOk P w K mg base ⇑1 2 f fd ["_law_steps","_law_basket"] (zeA K A):=by
 refine F.okV zcy ⇑5 ↑10
 obtain ⟨P0,P1⟩:=x
 have hu:=hr.units
 replace hp:zcd P0 P1:=hp
 unfold zcd at hp
 obtain ⟨N0,A0,S0,p1,p2,p3,p4,p5,p6⟩:=hp
 refine ⟨_,(zab (zap (i:=2) zcy.nd rfl (↥0 rfl) (zc3 (zcO (K:=K) rfl) rfl T.list PyProof.Rows.boot_list ↑[pv 1])) (zab (zbx ↑11 rfl ↑152 (zal (i:=3) zcy.nd rfl (↥0 rfl) (↥0 rfl)) (zab (zap (i:=4) zcy.nd rfl (↥0 rfl) (zaN yau ↑2 rfl zaK ↑[pv 3])) (zab (zap (i:=5) zcy.nd rfl ⇑7 (zav zbo (zaR ↥7 (pv 2) (pv 4) ↥4) (zaR ↥7 (pv 3) (pv 4) ↥4))) (zab (zc1 (i:=2) rfl zcy.nd rfl rfl (.of (osc:=(zai zeb)) (N:=["_law_steps","_law_basket","_law_found","_law_step","_law_head_here","_law_many"]) (own:=↑175) (fvn:=["_law_many"]) (fv:=[5]) rfl rfl ↑6) (zb4 (K:=K) rfl rfl T.zip ↑[pv 2,pv 3]) (λ_ _ _ _ _=>⟨↑269,za7,(zav zeT (pv 0) (zav zbh (pv 2) (pv 1)))⟩)) zae)))) (zab (zaL (pv 2)) zae))),.inl ?_⟩
 show L2.Run _ ([⇑[dQ K ↥6],⇑[dQ K ↑7],.no,.no,.no,.no]:L2.Ctx) _ (↑60 (zaI P0 P1))
 unfold zaI
 exact (zba (m:=true) (EvO.ev (EvO.anyI (m:=false) (zfp ⇑8))) (zbp (s0:=P1) ↑251 ↑60 (λ(s406:Ji) (x407:Ji)=>(Let (zbs x407) (λ(hv411:Int)=>(Let ((ixD s406 hv411)/(ixD x407 hv411)) (λ(v412:Int)=>(Let (↑0 (λ(x413:↑9)=>(x413.1-(v412*x413.2))) (List.zip s406 x407)) (λ(v416:Ji)=>v416))))))) (λ(i:Nat) (s406:Ji)=>s406.length=N0∧Lat.Bit (A0+i*(S0+1)) s406) (za6 (m:=false) lI (xs:=P0) ↥2) ↑13 ↥(⟨p2,by simpa using p4⟩) (λi408 x407 s406 hx409 hI410=>have v409:=List.mem_of_getElem? hx409;⟨↥(Lat.zol (p5 _ ↑1) ↑1 (zrz (ztq (p5 _ ↑1) ↑1))),(zaq (m:=true) (x:=(zbs x407)) dI (λz=>Oc.nx (↑251 z)) (Ev.any (m:=true) (zam (x:=x407) (zac ↑17 zah) rfl (by show zcL x407;exact zvE p1 (p5 _ ↑1)) rfl)) (λhv411 hhead411=>have hH:=(hhead411).trans (zgC _);(zaq (m:=true) (x:=((ixD s406 hv411)/(ixD x407 hv411))) dI (λz=>Oc.nx (↑251 z)) (zaH (x:=(ixD s406 hv411)) (y:=(ixD x407 hv411)) (Ev.any (m:=true) (zbe (f:=dI) (xs:=s406) ↑89 ↑20 ↥(zsO (p5 _ ↑1) hH ↑1))) (Ev.any (m:=false) (zbe (f:=dI) (xs:=x407) ↑17 ↑20 ↥(zkG (p5 _ ↑1) hH))) ↥(Lat.zny (p5 _ ↑1) hH)) (λv412 hv412=>(zaq (m:=true) (x:=(↑0 (λ(x413:↑9)=>(x413.1-(v412*x413.2))) (List.zip s406 x407))) lI (λz=>Oc.nx (↑251 z)) (EvO.ev (EvO.conv (zbJ (g:=(λ(x413:↑9)=>dI (x413.1-(v412*x413.2)))) (zdT (m:=false) dI dI (xs:=s406) (ys:=x407) ↑107 ↑17) ↥(zu0 p1 ↑1) ⇑4 (λi414 x413 hx415=>have v415:=zbV hx415;(zaP (x:=x413.1) (y:=(v412*x413.2)) ↑19 (zaH (x:=v412) (y:=x413.2) ↑47 ⇑9 ↥(ztF p6 ↑1 p5 ↑1 hH ↑1 ↑1))))) ↑12)) (λv416 hv416=>(zan ↑189)))))))⟩) (λr417 hr417 hI=>(zaj (zaA ↑31)))))
theorem zgQ:∀ {ss:Jq} {l:Ji},(∀ t∈ss,t.length=l.length)->zaI ss l=Lat.low l ss
 | [],l,_=>rfl
 | t :: ss,l,h=>by
  have ht:=h t ↑3
  have e:Let (zbs t) (λ(h:Int)=>Let ((ixD l h)/(ixD t h)) (λ(q:Int)=>Let (↑0 (λ(x:↑9)=>(x.1-(q*x.2))) (List.zip l t)) (λ(y:Ji)=>y)))=Lat.ziX l t:=by
   unfold Let
   dsimp only
   rw [zgC,Lat.zbc,Lat.zbc]
   exact Lat.zqG ht.symm
  have:=zgQ (ss:=ss) (l:=Lat.ziX l t) λs hs=>by rw [Lat.zgv ht.symm,h s (⇑3 _ hs)]
  show zaI (t :: ss) l=Lat.low (Lat.ziX l t) ss
  rw [← this]
  unfold zaI
  rw [List.foldl_cons,e]
theorem zs1 {l:Ji} (h:∀ i,Lat.vec l i=0):l.any (· != 0)=false:=by
 rw [List.any_eq_false]
 intro y hy
 obtain ⟨j,_,rfl⟩:=Lat.zjG hy
 simp [h j]
theorem zvd {W:Nat} {ss:Jq} {l:Ji} (E:Lat.Ech W 0 ss) (hl:l.length=W) (h:Lat.SpL ss (Lat.vec l)):(zaI ss l).any (· != 0)=false:=by
 rw [zgQ λs hs=>by rw [(E.mem s hs).1,hl],Lat.zpp E hl h]
 exact zs1 λi=>Lat.zpM
theorem ztp {n:Int} {l:Ji} (i:Nat):Lat.vec (↑0 (λ(x:Int)=>n*x) l) i=n*Lat.vec l i:=by
 unfold Lat.vec
 rw [List.getD_eq_getElem?_getD,List.getD_eq_getElem?_getD,List.getElem?_map]
 cases l[i]?<;>simp
theorem ztw {n:Int} {l:Ji} {a b:Nat} (hn:n.natAbs≤2^a) (h:Lat.Bit b l):Lat.Bit (a+b) (↑0 (λ(x:Int)=>n*x) l):=λx hx=>by
 obtain ⟨y,hy,rfl⟩:=List.mem_map.mp hx
 rw [Int.natAbs_mul,Nat.pow_add]
 exact Nat.mul_le_mul hn (h y hy)
theorem zk6 {σ γ β:Type} {f:σ->γ->σ ⊕ β} {s s':σ} {x:γ} {xs:List γ} (h:f s x=.inl s'):loopR f s (x :: xs)=loopR f s' xs:=by rw [loopR,h]
theorem zon {σ γ β:Type} {f:σ->γ->σ ⊕ β} {s:σ} {v:β} {x:γ} {xs:List γ} (h:f s x=.inr v):loopR f s (x :: xs)=.inr v:=by rw [loopR,h]
theorem zvJ {b c:Int} (hb:0<b):0<zaf b (c%b)∧zaf b (c%b) ∣ b∧zaf b (c%b) ∣ c:=by
 have m0:=Int.emod_nonneg c (show b≠0 by omega)
 rw [zh4 ⟨by omega,m0⟩]
 have g1:0<Int.gcd b (c%b):=Int.gcd_pos_of_ne_zero_left _ ⇑0
 have g2:((Int.gcd b (c%b):Nat):Int) ∣ b:=Int.gcd_dvd_left ..
 have g3:((Int.gcd b (c%b):Nat):Int) ∣ c%b:=Int.gcd_dvd_right ..
 refine ⟨by omega,g2,?_⟩
 have:=Int.dvd_add (Int.dvd_trans g2 (Int.dvd_mul_right b (c/b))) g3
 have e:b*(c/b)+c%b=c:=by have:=Int.emod_def c b;omega
 rw [e] at this
 exact this
theorem zh0 {b c:Int} (hb:0<b):0<b/zaf b (c%b)∧b/zaf b (c%b)≤b∧b ∣ b/zaf b (c%b)*c:=by
 obtain ⟨g1,g2,g3⟩:=zvJ (c:=c) hb
 generalize zaf b (c%b)=g at *
 obtain ⟨k,hk⟩:=g2
 obtain ⟨l,hl⟩:=g3
 have e:b/g=k:=by rw [hk];exact Int.mul_ediv_cancel_left _ ⇑0
 have hk0:0<k:=by
  rcases Int.lt_trichotomy k 0 with q | q | q
  ·have:=Int.mul_neg_of_pos_of_neg g1 q;omega
  ·subst q;simp at hk;omega
  ·exact q
 rw [e]
 refine ⟨hk0,?_,⟨l,?_⟩⟩
 ·have:=Int.mul_le_mul_of_nonneg_right (show 1≤g by omega) (show 0≤k by omega)
  omega
 ·rw [hl,hk];grind
theorem zup {s p:Int} (hs:0<s) (hp:0<p):0<zaf s p∧zaf s p ∣ s∧0<s/zaf s p∧s/zaf s p≤s∧s ∣ s/zaf s p*p∧p ∣ s/zaf s p*p:=by
 rw [zh4 ↑56]
 have g1:0<Int.gcd s p:=Int.gcd_pos_of_ne_zero_left _ ⇑0
 have g2:((Int.gcd s p:Nat):Int) ∣ s:=Int.gcd_dvd_left ..
 have g3:((Int.gcd s p:Nat):Int) ∣ p:=Int.gcd_dvd_right ..
 have g1:0<((Int.gcd s p:Nat):Int):=by omega
 generalize ((Int.gcd s p:Nat):Int)=g at *
 obtain ⟨k,hk⟩:=id g2
 obtain ⟨l,hl⟩:=g3
 have e:s/g=k:=by rw [hk];exact Int.mul_ediv_cancel_left _ ⇑0
 have hk0:0<k:=by
  rcases Int.lt_trichotomy k 0 with q | q | q
  ·have:=Int.mul_neg_of_pos_of_neg (show 0<g by omega) q;omega
  ·subst q;simp at hk;omega
  ·exact q
 rw [e]
 refine ⟨by omega,g2,hk0,?_,⟨l,?_⟩,Int.dvd_mul_left _ _⟩
 ·have:=Int.mul_le_mul_of_nonneg_right (show 1≤g by omega) (show 0≤k by omega)
  omega
 ·rw [hl,hk];grind
def OfP (y:Sd4) (x:Ji):Prop:=ShP y.b x∧y.c.length≤8∧∀ b∈y.c,0≤b∧b≤1000000001
def OfI (i:Nat) (s:Int):Prop:=0<s∧s.natAbs≤2^(30*i)
theorem zvT:OfI 0 1:=⇑4
noncomputable def ofF:Int->Int×Int->Int ⊕ Int:=λs x=>((bif ((decide (x.2=(0:Int))) && (!decide (x.1=(0:Int)))) then (Sum.inr (0:Int)) else (Let (bif (decide ((0:Int)<x.2)) then ((s/(zaf s (x.2/(zaf x.2 (x.1%x.2)))))*(x.2/(zaf x.2 (x.1%x.2)))) else s) (λ(n:Int)=>(Sum.inl n)))):Int ⊕ Int)
theorem zuR {i:Nat} {s b c:Int} (I:OfI i s) (hb:0<b) (h2:b≤1000000001):OfI (i+1) (s/zaf s (b/zaf b (c%b))*(b/zaf b (c%b))):=by
 obtain ⟨p1,p2,_⟩:=zh0 (c:=c) hb
 generalize b/zaf b (c%b)=p at *
 obtain ⟨l1,l2,l3,l4,l5,l6⟩:=zup I.1 p1
 refine ⟨Int.mul_pos l3 p1,?_⟩
 rw [show 30*(i+1)=30*i+30 by omega]
 exact Lat.zgU (⇑6 (show (s/zaf s p).natAbs≤s.natAbs by omega) I.2) (show p.natAbs≤2^30 by omega)
theorem zt5 {i:Nat} {s z:Int} {x:Int×Int} (I:OfI i s) (h2:x.2≤1000000001) (hz:ofF s x=.inl z):OfI (i+1) z:=by
 unfold ofF Let at hz
 cases q:((decide (x.2=(0:Int))) && (!decide (x.1=(0:Int)))) with
 | true=>rw [q] at hz;cases hz
 | false =>
  rw [q,cond_false] at hz
  cases q2:decide ((0:Int)<x.2) with
  | true =>
   rw [q2,cond_true] at hz
   rw [← Sum.inl.inj hz]
   exact zuR I (of_decide_eq_true q2) h2
  | false =>
   rw [q2,cond_false] at hz
   rw [← Sum.inl.inj hz]
   exact ⟨I.1,⇑6 I.2 ↑267⟩
section
variable {y:Sd4} {b:Ji} {i:Nat} {s z:Int} {x:Int×Int}
theorem zuq (h:OfP y b) (hx:(zaY y.b b)[i]?=some x.1∧y.c[i]?=some x.2):i<8∧0≤x.2∧x.2≤1000000001:=by
 have:=(List.getElem?_eq_some_iff.mp hx.2).1
 have:=h.2.2 _ (List.mem_of_getElem? hx.2)
 have:=h.2.1
 omega
theorem zw1 (h:OfP y b) (I:OfI i s) (hx:(zaY y.b b)[i]?=some x.1∧y.c[i]?=some x.2) (hz:ofF s x=.inl z):OfI (i+1) z:=zt5 I (zuq h hx).2.2 hz
theorem zvf (q:decide ((0:Int)<x.2)=true):0≤x.2∧0≤x.1%x.2:=by
 have q:=of_decide_eq_true q
 exact ⟨by omega,Int.emod_nonneg _ ⇑0⟩
theorem zsM (h:OfP y b) (hx:(zaY y.b b)[i]?=some x.1∧y.c[i]?=some x.2) (q:decide ((0:Int)<x.2)=true):ze5 x.2 (zaf x.2 (x.1%x.2)):=by
 have q:=of_decide_eq_true q
 obtain ⟨g1,g2,_⟩:=zvJ (c:=x.1) q
 have:=Int.le_of_dvd q g2
 have:=(zuq h hx).2.2
 exact Lat.ze5.of (b:=30) g1 (show _≤2^30 by omega) ↥1
theorem zuU (I:OfI i s) (q:decide ((0:Int)<x.2)=true):0≤s∧0≤x.2/zaf x.2 (x.1%x.2):=by
 have:=(zh0 (c:=x.1) (of_decide_eq_true q)).1
 have:=I.1
 omega
theorem zuH (h:OfP y b) (I:OfI i s) (hx:(zaY y.b b)[i]?=some x.1∧y.c[i]?=some x.2) (q:decide ((0:Int)<x.2)=true):ze5 s (zaf s (x.2/zaf x.2 (x.1%x.2))):=by
 obtain ⟨l1,l2,_⟩:=zup I.1 (zh0 (c:=x.1) (of_decide_eq_true q)).1
 have:=Int.le_of_dvd I.1 l2
 have k:=(zuq h hx).1
 exact Lat.ze5.of (b:=240) l1 (⇑6 (show _≤s.natAbs by omega) (⇑6 I.2 ↑267)) ↥1
theorem zuW (h:OfP y b) (I:OfI i s) (hx:(zaY y.b b)[i]?=some x.1∧y.c[i]?=some x.2) (q:decide ((0:Int)<x.2)=true):zcK (s/zaf s (x.2/zaf x.2 (x.1%x.2))) (x.2/zaf x.2 (x.1%x.2)):=by
 obtain ⟨p1,p2,_⟩:=zh0 (c:=x.1) (of_decide_eq_true q)
 have k:=zuq h hx
 obtain ⟨l1,l2,l3,l4,_⟩:=zup I.1 p1
 exact Lat.zcK.of (a:=240) (b:=30) (⇑6 (show _≤s.natAbs by omega) (⇑6 I.2 ↑267)) (show _≤2^30 by omega) ↥1 ↥1
end
theorem often_bd:∀ (l:List ↑9) (i:Nat) (s:Int),OfI i s->(∀ p∈l,p.2≤1000000001)->0≤LetR (loopR ofF s l) (λ(r:Int)=>r) (λb=>b)∧(LetR (loopR ofF s l) (λ(r:Int)=>r) (λb=>b)).natAbs≤2^(30*(i+l.length))
 | [],i,s,I,_=>⟨by have:=I.1;show 0≤s;omega,I.2⟩
 | p :: l,i,s,I,h=>by
  cases q:ofF s p with
  | inl z =>
   rw [zk6 q,List.length_cons,show i+(l.length+1)=(i+1)+l.length by omega]
   exact often_bd l (i+1) z (zt5 I (h p ↑3) q) λy hy=>h y (⇑3 _ hy)
  | inr v =>
   rw [zon q]
   have:v=0:=by
    unfold ofF Let at q
    cases q1:((decide (p.2=(0:Int)))&&(!decide (p.1=(0:Int)))) with
    | true=>rw [q1] at q;exact (Sum.inr.inj q).symm
    | false=>rw [q1] at q;cases q
   subst this
   exact ⟨Int.le_refl _,Nat.zero_le _⟩
theorem zjX:∀ (l:List ↑9) (s:Int),0<s->(∀ p∈l,0≤p.2)->s ∣ LetR (loopR ofF s l) (λ(r:Int)=>r) (λb=>b)∧∀ p∈l,p.2 ∣ LetR (loopR ofF s l) (λ(r:Int)=>r) (λb=>b)*p.1
 | [],s,_,_=>⟨Int.dvd_refl _,λp hp=>by cases hp⟩
 | p :: l,s,h0,h=>by
  have hp:=h p ↑3
  have hl:∀ y∈l,0≤y.2:=λy hy=>h y (⇑3 _ hy)
  by_cases q:p.2=0
  ·by_cases q1:p.1=0
   ·have e:ofF s p=.inl s:=by unfold ofF Let;rw [q,q1];rfl
    rw [zk6 e]
    obtain ⟨k1,k2⟩:=zjX l s h0 hl
    refine ⟨k1,λy hy=>?_⟩
    rcases List.mem_cons.mp hy with rfl | hy
    ·rw [q1,Int.mul_zero];exact Int.dvd_zero _
    ·exact k2 y hy
   ·have e:ofF s p=.inr 0:=by unfold ofF;rw [decide_eq_true q,decide_eq_false q1];rfl
    rw [zon e]
    exact ⟨Int.dvd_zero _,λy _=>by show y.2 ∣ (0:Int)*y.1;rw [Int.zero_mul];exact Int.dvd_zero _⟩
  ·have q:0<p.2:=by omega
   have e:ofF s p=.inl (s/zaf s (p.2/zaf p.2 (p.1%p.2))*(p.2/zaf p.2 (p.1%p.2))):=by unfold ofF Let;rw [decide_eq_false (show ¬ p.2=0 by omega),decide_eq_true q];rfl
   obtain ⟨p1,p2,p3⟩:=zh0 (c:=p.1) q
   rw [zk6 e]
   generalize p.2/zaf p.2 (p.1%p.2)=u at *
   obtain ⟨l1,l2,l3,l4,l5,l6⟩:=zup h0 p1
   obtain ⟨k1,k2⟩:=zjX l (s/zaf s u*u) (Int.mul_pos l3 p1) hl
   refine ⟨Int.dvd_trans l5 k1,λy hy=>?_⟩
   rcases List.mem_cons.mp hy with rfl | hy
   ·exact Int.dvd_trans p3 (Int.mul_dvd_mul (Int.dvd_trans l6 k1) (Int.dvd_refl _))
   ·exact k2 y hy
noncomputable def zaZ (P0:↥8) (P1:Ji):Int :=
 (LetR (loopR (λ(s418:Int) (x419:↑9)=>(((bif ((decide (x419.2=(0:Int))) && (!decide (x419.1=(0:Int)))) then (Sum.inr (0:Int))
 else (Let (bif (decide ((0:Int)<x419.2)) then ((s418/(zaf s418 ↑82))*↑82) else s418) (λ(v425:Int) =>
 (Sum.inl v425))))):(Int) ⊕ Int)) (1:Int) (List.zip (zaY P0.b P1) P0.c)) (λ(r426:Int) =>
 r426) (λb=>b))
def zd9 (P0:↥8) (P1:Ji):Prop:=OfP P0 P1
def zhk (K:W.Frag) (A:Adr):Sp:=Spv (ι:=↥8×Ji) (λx=>[dT [dL (↑0 lI x.1.a),dL (↑0 lI x.1.b),dL (↑0 dI x.1.c),dL (↑0 lI x.1.d)],dQ K (↑0 dI x.2)]) (λx=>zd9 x.1 x.2) (λx=>↥[dI (zaZ x.1 x.2)])
theorem zdn:FnScope ["_law_second","_law_basket","_law_number","_law_share","_law_bottom","_law_part"] ["_law_second","_law_basket"] (zai zgj):=↥5
theorem zkX (F:Fun K "_law_often" "_law_often" zgj f fd) (T:Txt K mg A) (yak:Callee P w K mg base ⇑1 1 "_law_shared" ["_law_one","_law_other"] (ze1 K A)) (yao:Callee P w K mg base ⇑1 1 "_law_shares" ["_law_duals","_law_basket"] (zfi K A)):FnOk P w K mg base ⇑1 2 f fd ["_law_second","_law_basket"] (zhk K A):=by
 refine F.okV zdn ⇑5 ↑10
 obtain ⟨P0,P1⟩:=x
 have hu:=hr.units
 replace hp:zd9 P0 P1:=hp
 unfold zd9 at hp
 refine ⟨_,(zab (zap (i:=2) zdn.nd rfl (↥0 rfl) zag) (zab (zbx ↑11 rfl (zb4 (K:=K) rfl rfl T.zip ↑[(zaN yao ↑2 rfl zaK ↑[↑109,pv 1]),↑109]) (zbd (K:=K) (n:=2) rfl rfl (zaD (zal (i:=3) zdn.nd rfl (↥0 rfl) (↥0 rfl)) (zaD (zal (i:=4) zdn.nd rfl (↥0 rfl) (↥0 rfl)) zbL))) (zab (zbQ (PW.pt (zik (zaG zfg (pv 4) zag (zaQ _)) (zgd (zaG zfn (pv 3) zag (zaQ _))))) (zab (zaL zag) zae) zae) (zab (zbQ (zaG ziO (pv 4) zag (zaQ _)) (zab (zap (i:=5) zdn.nd rfl (↥0 rfl) (zav zbo (pv 4) (zaN yak ↑2 rfl zaK ↑[pv 4,zav zcb (pv 3) (pv 4)]))) (zab (zap (i:=2) zdn.nd rfl (↥0 rfl) (zav zbh (zav zbo (pv 2) (zaN yak ↑2 rfl zaK ↑[pv 2,pv 5])) (pv 5))) zae)) zae) zae))) (zab (zaL (pv 2)) zae))),.inl ?_⟩
 show L2.Run _ ([⇑[dT [dL ↑22,dL ↑23,dL ↑21,dL ↑24]],⇑[dQ K ↑7],.no,.no,.no,.no]:L2.Ctx) _ (↑18 (zaZ P0 P1))
 unfold zaZ
 exact (zba (m:=true) zaJ (zc9 (s0:=(1:Int)) (λ(s418:Int)=>([⇑[dT [dL ↑22,dL ↑23,dL ↑21,dL ↑24]],⇑[dQ K ↑7],↥[dI s418],.no,.no,.no]:L2.Ctx)) ↑18 (λb=>b) (λ(s418:Int) (x419:↑9)=>(((bif ((decide (x419.2=(0:Int))) && (!decide (x419.1=(0:Int)))) then (Sum.inr (0:Int)) else (Let (bif (decide ((0:Int)<x419.2)) then ((s418/(zaf s418 ↑82))*↑82) else s418) (λ(v425:Int)=>(Sum.inl v425))))):(Int) ⊕ Int)) (λ(i:Nat) (s418:Int)=>OfI i s418) ↑90 (zdT (m:=false) dI dI (xs:=(zaY P0.b P1)) (ys:=P0.c) (Ev.weak (K:=K) (EvO.ev (EvO.anyI (m:=true) (zcp (x:=(P0.b,P1)) (zac ↑83 (zac ⇑8 zah)) rfl (by show zc4 P0.b P1;exact hp.1) rfl)))) ↑83) ↑13 ↥(zvT) (λi420 x419 s418 hx421 hI422=>have v421:=zbV hx421;⟨(by intro z hz;exact zw1 hp ↑1 ↑1 hz),(zaW (b:=((decide (x419.2=(0:Int))) && (!decide (x419.1=(0:Int))))) (zeg (λ(s418:Int)=>([⇑[dT [dL ↑22,dL ↑23,dL ↑21,dL ↑24]],⇑[dQ K ↑7],↥[dI s418],.no,.no,.no]:L2.Ctx)) ↑18) (zgi (b:=(decide (x419.2=(0:Int)))) (zau (zdA (x:=x419.2) (y:=(0:Int)) ↑44 zaJ)) (λhb=>(zau (zdX (x:=x419.1) (y:=(0:Int)) ↑203 zaJ)))) (λh423=>↑65) (λh423=>(zat (zcm (b:=(decide ((0:Int)<x419.2))) (λbb=>([⇑[dT [dL ↑22,dL ↑23,dL ↑21,dL ↑24]],⇑[dQ K ↑7],↥[dI (bif bb then ((s418/(zaf s418 ↑82))*↑82) else s418)],⇑[dI x419.1],⇑[dI x419.2],.no]:L2.Ctx)) (zau (zaP (x:=x419.2) (y:=(0:Int)) ↑44 zaJ)) (λh424=>(zba (m:=true) (zaH (x:=x419.2) (y:=(zaf x419.2 (x419.1%x419.2))) ↑44 (Ev.any (m:=true) (zam (x:=(x419.2,(x419.1%x419.2))) (zac ↑44 (zac (zaH (x:=x419.1) (y:=x419.2) ↑203 ↑44 (by show (0:Int)<_;exact of_decide_eq_true ↑1)) zah)) rfl (by show zcz x419.2 (x419.1%x419.2);exact zvf ↑1) rfl)) ↥(zsM hp ↑1 ↑1)) (zba (m:=true) (zaH (x:=(s418/(zaf s418 ↑82))) (y:=↑82) (zaH (x:=s418) (y:=(zaf s418 ↑82)) ↑47 (Ev.any (m:=true) (zam (x:=(s418,↑82)) (zac ↑47 (zac ↑36 zah)) rfl (by show zcz s418 ↑82;exact zuU ↑1 ↑1) rfl)) ↥(zuH hp ↑1 ↑1 ↑1)) ↑36 ↥(zuW hp ↑1 ↑1 ↑1)) (zan (.eq (.eq (.eq ↑134))))))) (λh424=>(zan ↑13)) (zcA (x:=(bif (decide ((0:Int)<x419.2)) then ((s418/(zaf s418 ↑82))*↑82) else s418)) (λv425=>([⇑[dT [dL ↑22,dL ↑23,dL ↑21,dL ↑24]],⇑[dQ K ↑7],↥[dI v425],⇑[dI x419.1],⇑[dI x419.2],.no]:L2.Ctx)) (zeg (λ(s418:Int)=>([⇑[dT [dL ↑22,dL ↑23,dL ↑21,dL ↑24]],⇑[dQ K ↑7],↥[dI s418],.no,.no,.no]:L2.Ctx)) ↑18) (λv425 hv425=>(zan (.eq (.eq (.eq (.no (.no (.eq .nil)))))))))))))⟩) (λr426 hr426 hI=>(zaj (zaA ↑47)))))
theorem zlV (y:Sd4) (x:Ji):zaZ y x=LetR (loopR ofF (1:Int) (List.zip (zaY y.b x) y.c)) (λ(r:Int)=>r) (λb=>b):=rfl
theorem zoK {y:Sd4} {x:Ji} (h:OfP y x):(zaZ y x).natAbs≤2^240:=by
 rw [zlV]
 refine ⇑6 (often_bd _ 0 1 zvT λp hp=>(h.2.2 _ ((List.of_mem_zip (a:=p.1) (b:=p.2) hp)).2).2).2 (Nat.pow_le_pow_right ↥1 ?_)
 rw [List.length_zip]
 have:=h.2.1
 omega
theorem zpB {W fb sb:Nat} {y:Sd4} {x:Ji} (h:Sd71 W fb sb y) (hx:x.length=W):Lat.SpL y.d (λi=>zaZ y x*Lat.vec x i):=by
 refine (h.sp _).mpr (Lat.znK (s:=(y.a,y.b)) h.du h.bl (λb hb=>(h.b0 b hb).1) (λk hk=>by rw [Lat.za8 ⇑0,Int.mul_zero]) λi t b ht hbi=>?_)
 have:=(zjX (List.zip (zaY y.b x) y.c) 1 ↥1 λp hp=>(h.b0 _ ((List.of_mem_zip (a:=p.1) (b:=p.2) hp)).2).1).2 (Lat.dv t ↑41,b) (by
  refine List.mem_of_getElem? (i:=i) ?_
  rw [List.getElem?_zip_eq_some,zkF]
  exact ⟨by rw [List.getElem?_map,ht];rfl,hbi⟩)
 rw [← zlV] at this
 have e:Lat.dv t (λi=>zaZ y x*Lat.vec x i)=zaZ y x*Lat.dv t ↑41:=by
  have:=Lat.ziB t (λ_=>0) ↑41 (zaZ y x)
  rw [show Lat.dv t (λ_=>0)=0 from Lat.zjQ t,Int.zero_add] at this
  rw [← this]
  exact Lat.zhG λi=>by omega
 rw [e];exact this
theorem zsb {B S tt:Jq} {u:Lat.Vc} (h:∀ t∈tt,Lat.SpL S (Lat.Snd B (Lat.vec t))) (k:Lat.SpL tt u):Lat.SpL S (Lat.Snd B u) :=
 Lat.Sp.image (A:=λa=>∃ t∈tt,a=Lat.vec t) (B:=λa=>∃ s∈S,a=Lat.vec s) (g:=Lat.Snd B) (λi=>Lat.zfZ i) (λu a x i=>Lat.zir x i) (λa ⟨t,ht,e⟩=>e ▸ h t ht) k
def G74 (S:SenderD) (f s:Sd4) (bs:Jq) (W1 W2:Nat):Prop:=Sd71 W1 30 90 f∧Sd71 W2 30 90 s∧bs.length=W1∧(∀ r∈bs,r.length=W2∧Lat.Bit 98 r)∧(∀ x:Ji,x.length=W1->Lat.SpL f.d ↑41->Lat.SpL s.d (Lat.vec (m_Sender_sent S x)))∧(W1≤4∨12<s.d.length+W1)∧S=⟨⟨(W1:Int),f.d⟩,⟨(W2:Int),s.d⟩,bs⟩
section
variable {S:SenderD} {f s:Sd4} {bs st:Jq} {W1 W2:Nat} {x:Ji}
theorem g_w (h:G74 S f s bs W1 W2):(1≤W1∧W1≤8)∧(1≤W2∧W2≤8)∧f.d.length≤12∧s.d.length≤12∧bs.length=W1:=⟨⟨h.1.w1,h.1.w8⟩,⟨h.2.1.w1,h.2.1.w8⟩,h.1.ln,h.2.1.ln,h.2.2.1⟩
theorem zrZ (h:G74 S f s bs W1 W2):(↑157).length≤20∧∀ r∈Lat.zdk W1 bs s.d,r.length=W2+W1∧Lat.Bit 100 r:=by
 have z:=g_w h
 obtain ⟨hF,hS,hl,hr,_⟩:=h
 refine ⟨by unfold Lat.zdk;rw [List.length_append,Lat.zmu,List.length_map];omega,λr h'=>?_⟩
 rcases List.mem_append.mp h' with h' | h'
 ·have:=Lat.zoa (λr hr'=>⟨(hr r hr').1,((hr r hr').2).mono (show 98≤100 by decide)⟩) r h'
  rwa [hl] at this
 ·obtain ⟨t,ht,rfl⟩:=List.mem_map.mp h'
  refine ⟨by rw [List.length_append,(hS.sr t ht).1,Lat.zce],Lat.Bit.of λi=>?_⟩
  rw [Lat.zil];exact (((hS.sr t ht).2).mono (show 90≤100 by decide)).vec i
theorem zvS (h:G74 S f s bs W1 W2):Lat.Stairs (W2+W1) ↑157 (Lat.clm Lat.MG ↑157)∧((Lat.clm Lat.MG ↑157)).length≤20∧∀ t∈Lat.clm Lat.MG ↑157,Lat.Sd (W2+W1) 47334 t:=by
 have z:=g_w h
 obtain ⟨a,b,c⟩:=Lat.zkw (znn (N:=W2+W1) ⇑0) (zrZ h).1 (zrZ h).2
 exact ⟨a,⇑6 b (Nat.min_le_right _ _),c⟩
theorem zwf (h:G74 S f s bs W1 W2):zcc S.baskets++zcT S.second.swaps S.first.many=Lat.zdk W1 bs s.d∧ClP S:=by
 have z:=g_w h
 have r:=zrZ h
 obtain ⟨hF,hS,hl,hr,_,_,e⟩:=h
 have er:zcc S.baskets++zcT S.second.swaps S.first.many=Lat.zdk W1 bs s.d:=by rw [e];exact congrArg (·++_) zrM
 refine ⟨er,?_,?_,?_,?_⟩
 ·rw [e];exact ⟨by show bs.length≤31;omega,λr h'=>by rw [(hr r h').1];omega⟩
 ·rw [e];exact ⟨by show (0:Int)≤(W1:Int)∧(W1:Int)≤8;omega,λr h'=>by rw [(hS.sr r h').1];omega,by show s.d.length≤1000;omega⟩
 ·have:=r.1
  rw [← er,List.length_append] at this
  exact zao ⇑0
 ·rw [er];exact .inl ⟨W2+W1,100,20,znn ⇑0,r.1,r.2⟩
theorem zrP (h:G74 S f s bs W1 W2):za3 S=Lat.clm Lat.MG ↑157:=by
 unfold za3
 rw [zhb,(zwf h).1]
theorem zw3 (h:G74 S f s bs W1 W2):LoP S:=by
 have g:=(zvS h).2.1
 refine ⟨(zwf h).2,by rw [zrP h];omega,?_⟩
 show (zdo _ _).length≤1000
 unfold zdo
 rw [List.length_map,zrP h]
 exact ⇑6 (List.length_filter_le _ _) ⇑0
structure LS (W1 W2:Nat) (S:SenderD) (s:Sd4) (bs st:Jq):Prop where
 is:zaS S=⟨(W1:Int),st⟩
 e:Lat.Ech W1 0 st
 r:Lat.Red st
 sd:∀ t∈st,Lat.Sd W1 47334 t
 sp:∀ x:Ji,x.length=W1->(Lat.SpL st ↑41 ↔ Lat.SpL s.d (Lat.Snd bs ↑41))
 tl:st=Lat.zd0 W2 (Lat.clm Lat.MG ↑157)
theorem zuB (h:G74 S f s bs W1 W2):LS W1 W2 S s bs (Lat.zd0 W2 (Lat.clm Lat.MG ↑157)):=by
 obtain ⟨St,_,sd⟩:=zvS h
 have ec:=zrP h
 obtain ⟨hF,hS,hl,hr,_,_,e⟩:=h
 obtain ⟨h1,h2,h3,h4⟩:=Lat.zsd hl (λr h'=>(hr r h').1) (λr h'=>(hS.sr r h').1) St
 refine ⟨?_,h1,h2,λt ht=>?_,λx hx=>⟨λk=>zsb h3 k,h4 x hx⟩,rfl⟩
 ·unfold zaS zi5
  rw [ec,e]
  show BookD.mk (W1:Int) (↑0 _ (zdo _ (W2:Int)))=_
  rw [zqd,zc0]
 ·obtain ⟨a1,a2,a3,a4⟩:=h1.mem t ht
  obtain ⟨s',hs',q,rfl⟩:=Lat.zh8 ht
  have T:=sd s' hs'
  have e:=Lat.zjY q (by rw [T.len];exact T.hd)
  have ev:Lat.vec (s'.drop W2) (Lat.hd (s'.drop W2))=Lat.vec s' (Lat.hd s'):=by rw [e,Lat.zda,show W2+(Lat.hd s'-W2)=Lat.hd s' by omega]
  exact ⟨a1,a3,a4,by rw [ev];exact T.top,Lat.Bit.of λi=>by rw [Lat.zda];exact T.bit.vec _⟩
theorem zto (h:G74 S f s bs W1 W2) (hx:x.length=W1):(↑104).length=W2∧zaF bs x ↑70=m_Sender_sent S x∧Lat.vec ↑104=Lat.Snd bs ↑41:=by
 obtain ⟨hF,hS,hl,hr,_,_,e⟩:=h
 have hb:∀ r∈bs,r.length=W2:=λr h'=>(hr r h').1
 obtain ⟨k1,k2⟩:=zns (w:=↑70) (by rw [hS.bl]) hb hl hx
 exact ⟨k1,by rw [e];exact znt (by rw [hS.bl]) rfl hb hl hx,funext λi=>by rw [k2 i];unfold Lat.Snd;rw [hl]⟩
theorem zwy {c:Nat} (h:G74 S f s bs W1 W2) (hx:x.length=W1) (hb:Lat.Bit c x):Lat.Bit (3+(c+98)) ↑104:=by
 rw [(zto h hx).2.1]
 obtain ⟨hF,hS,hl,hr,_,_,e⟩:=h
 rw [e];exact zoW rfl hr hl hF.w8 hx hb
theorem zwh (h:G74 S f s bs W1 W2) (L:LS W1 W2 S s bs st) (hx:x.length=W1):za5 s.b s.c ↑104=true ↔ Lat.SpL st ↑41:=by
 obtain ⟨k1,k2,k3⟩:=zto h hx
 obtain ⟨hF,hS,hl,hr,_⟩:=h
 rw [zs8 (f:=(s.a,s.b)) hS.du hS.bl (λb hb=>(hS.b0 b hb).1) k1,← hS.sp,L.sp x hx,k3]
theorem zuy (h:G74 S f s bs W1 W2) (hb:Lat.Bit 50000 x):SmP bs x ↑70:=by
 have z:=g_w h
 obtain ⟨hF,hS,hl,hr,_⟩:=h
 exact ⟨W2,by rw [hS.bl],by omega,λr h'=>⟨(hr r h').1,((hr r h').2).mono ↥1⟩,hb.mono ↥1⟩
theorem zvj (h:G74 S f s bs W1 W2) (hx:x.length=W1) (hb:Lat.Bit 50000 x):ShP s.b ↑104:=by
 have z:=g_w h
 have b:=zwy h hx hb
 obtain ⟨hF,hS,hl,hr,_⟩:=h
 exact ⟨by rw [hS.du.l2];omega,λd hd=>(hS.rb d hd).mono ↥1,b.mono ↥1⟩
theorem zr1 {a:Nat} (L:LS W1 W2 S s bs st) (h8:W1≤8) (hx:x.length=W1) (hb:Lat.Bit a x) (ha:a≤1000000):Lat.LowP x st:=by
 have hl:=Lat.zfe L.e (Nat.zero_le W1)
 have:=Nat.mul_le_mul (show st.length≤8 by omega) (↑4 (47334+1))
 exact ⟨W1,a,47334,by omega,hx,by omega,hb,L.sd,by omega⟩
theorem zq5 (L:LS W1 W2 S s bs st) (hx:x.length=W1):(zaI st x).any (· != 0)=false ↔ Lat.SpL st ↑41:=by
 refine ⟨λk=>?_,zvd L.e hx⟩
 rw [zgQ λt ht=>by rw [(L.e.mem t ht).1,hx]] at k
 obtain ⟨a1,a2,a3,a4⟩:=Lat.zbW (l:=x) L.e hx
 refine a2.conv λi=>?_
 have:Lat.vec (Lat.low x st) i=0:=by
  refine Classical.byContradiction λz=>?_
  by_cases q:i<(Lat.low x st).length
  ·have hm:Lat.vec (Lat.low x st) i∈Lat.low x st:=by rw [← Lat.zbc];exact zbK ↑115
   have:=(List.any_eq_false.mp k) _ hm
   simp at this
   exact z this
  ·exact z (Lat.za8 ⇑0)
 omega
end
def AlP (f s:Sd4) (bs st:Jq):Prop:=∃ (S:SenderD) (W1 W2:Nat),G74 S f s bs W1 W2∧LS W1 W2 S s bs st
section
variable {f s:Sd4} {bs st:Jq} {x:Ji} {n y:Int}
theorem zwO (h:AlP f s bs st) (hx:x∈f.d):Lat.LowP x st:=by
 obtain ⟨S,W1,W2,G,L⟩:=h
 exact zr1 L G.1.w8 (G.1.sr x hx).1 (G.1.sr x hx).2 ↥1
theorem zwZ (h:AlP f s bs st) (hx:x∈f.a):SmP bs x ↑70:=by
 obtain ⟨S,W1,W2,G,L⟩:=h
 exact zuy G ((G.1.ra x hx).mono ↥1)
theorem zux (h:AlP f s bs st) (hx:x∈f.a):OfP s ↑104:=by
 obtain ⟨S,W1,W2,G,L⟩:=h
 exact ⟨zvj G (G.1.du.r x hx) ((G.1.ra x hx).mono ↥1),by rw [G.2.1.bl];exact G.2.1.w8,G.2.1.b0⟩
theorem zwT (h:AlP f s bs st) (hx:x∈f.a) (hN:n=zaZ s ↑104) (hy:y∈x):zcK n y:=by
 have:=zoK (zux h hx)
 obtain ⟨S,W1,W2,G,L⟩:=h
 rw [hN];exact Lat.zcK.of this (G.1.ra x hx y hy) ↥1 ↥1
theorem zwR (h:AlP f s bs st) (hx:x∈f.a):x.length≤PySem.sizeLine:=by
 obtain ⟨S,W1,W2,G,L⟩:=h
 exact zao (by rw [G.1.du.r x hx];have:=G.1.w8;omega)
theorem zwH (h:AlP f s bs st) (hx:x∈f.a) (hN:n=zaZ s ↑104):Lat.LowP (↑0 (λ(y:Int)=>(n*y)) x) st:=by
 have:=zoK (zux h hx)
 obtain ⟨S,W1,W2,G,L⟩:=h
 exact zr1 L G.1.w8 (by rw [List.length_map];exact G.1.du.r x hx) (ztw (hN ▸ this) (G.1.ra x hx)) ↥1
end
noncomputable def m_law_all_lost (P0:↥8) (P1:↥8) (P2:Jq) (P3:Jq):Bool :=
 (LetR (loopR (λ(s427:Unit) (x428:Ji)=>(((bif ((zaI P3 x428).any (· !=0)) then ↑27
 else ↑28)):(Unit) ⊕ Bool)) () P0.d) (λ(r433:Unit) =>
 (LetR (loopR (λ(s434:Unit) (x435:Ji)=>(((Let (zaZ P1 (zaF P2 x435 ↑46)) (λ(v439:Int) =>
 (bif ((zaI P3 ↑190).any (· !=0)) then ↑27
 else ↑28)))):(Unit) ⊕ Bool)) () P0.a) (λ(r444:Unit) =>
 true) (λb=>b))) (λb=>b))
def zdb (P0:↥8) (P1:↥8) (P2:Jq) (P3:Jq):Prop:=AlP P0 P1 P2 P3
def zfI (K:W.Frag) (A:Adr):Sp:=Spv (ι:=↥8×↥8×Jq×Jq) (λx=>[dT [dL (↑0 lI x.1.a),dL (↑0 lI x.1.b),dL (↑0 dI x.1.c),dL (↑0 lI x.1.d)],dT [dL (↑0 lI x.2.1.a),dL (↑0 lI x.2.1.b),dL (↑0 dI x.2.1.c),dL (↑0 lI x.2.1.d)],dQ K (↑0 lI x.2.2.1),dQ K (↑0 lI x.2.2.2)]) (λx=>zdb x.1 x.2.1 x.2.2.1 x.2.2.2) (λx=>↥[dB (m_law_all_lost x.1 x.2.1 x.2.2.1 x.2.2.2)])
theorem zdr:FnScope ["_law_first","_law_second","_law_baskets","_law_steps","_law_swap","_law_row","_law_number"] ["_law_first","_law_second","_law_baskets","_law_steps"] (zai zdP):=↥5
theorem zis (F:Fun K "_law_all_lost" "_law_all_lost" zdP f fd) (T:Txt K mg A) (yai:Callee P w K mg base ⇑1 2 "_law_brought" ["_law_steps","_law_basket"] (zeA K A)) (ybd:Callee P w K mg base ⇑1 2 "_law_often" ["_law_second","_law_basket"] (zhk K A)) (yaj:Callee P w K mg base ⇑1 1 "_law_sums" ↑201 (ze7 K A)):FnOk P w K mg base ⇑1 3 f fd ["_law_first","_law_second","_law_baskets","_law_steps"] (zfI K A):=by
 refine F.okV zdr ⇑5 ↑10
 obtain ⟨P0,P1,P2,P3⟩:=x
 have hu:=hr.units
 replace hp:zdb P0 P1 P2 P3:=hp
 unfold zdb at hp
 refine ⟨_,(zab (zbx ↑11 rfl (zaM (K:=K) rfl ↑109) (zal (i:=4) zdr.nd rfl (↥0 rfl) (↥0 rfl)) (zab (zbQ (zfD (zaz (ziC (K:=K) rfl rfl) rfl T.any PyProof.Rows.boot_any ↑[zaN yai ↑2 rfl zaK ↑[pv 3,pv 4]])) ↑48 zae) zae)) (zab (zbx ↑11 rfl (zaM (K:=K) rfl ↑109) (zal (i:=5) zdr.nd rfl (↥0 rfl) (↥0 rfl)) (zab (zap (i:=6) zdr.nd rfl ⇑7 (zaN ybd ↑2 rfl zaK ↑[pv 1,(zaN yaj ↑2 rfl zaK ↑[pv 2,pv 5,↑145])])) (zab (zbQ (zfD (zaz (ziC (K:=K) rfl rfl) rfl T.any PyProof.Rows.boot_any ↑[(zaN yai ↑2 rfl zaK ↑[pv 3,(zb9 rfl (.of (osc:=(zai zdP)) (N:=["_law_first","_law_second","_law_baskets","_law_steps","_law_swap","_law_row","_law_number"]) (own:=["_law_entry"]) (fvn:=["_law_number"]) (fv:=[6]) rfl rfl ↑6) (zaM (K:=K) rfl (pv 5)) (λ_ _ _ _ _=>⟨(zal (i:=0) (show (["_law_entry","_law_number"]:List Str).Nodup by decide+kernel) rfl (↥0 rfl) ⇑7),za7,(zav zbh (pv 1) (pv 0))⟩))])])) ↑48 zae) zae))) ↑48)),.inl ?_⟩
 show L2.Run _ ↑176 _ (↑8 (m_law_all_lost P0 P1 P2 P3))
 unfold m_law_all_lost
 exact (zc9 (s0:=()) (λ(s427:Unit)=>↑176) ↑8 (λb=>b) (λ(s427:Unit) (x428:Ji)=>(((bif ((zaI P3 x428).any (· !=0)) then ↑27 else ↑28)):(Unit) ⊕ Bool)) ↑68 ↑90 (za6 (m:=false) lI (xs:=P0.d) ↑83) (.eq ↑13) trivial (λi429 x428 s427 hx430 hI431=>have v430:=List.mem_of_getElem? hx430;⟨↑120,(zaW (b:=((zaI P3 x428).any (· !=0))) (zeg (λ(s427:Unit)=>↑176) ↑8) (zeh (znJ (xs:=(zaI P3 x428)) (Ev.old (Ev.weak (K:=K) (zam (x:=(P3,x428)) (zac ↑33 (zac (Ev.weak (K:=K) ↑105) zah)) rfl (by show zcd P3 x428;exact zwO hp ↑1) rfl))))) (λh432=>↑65) (λh432=>(zat (zan (.eq (.eq (.eq (.eq (.no (.eq (.eq .nil)))))))))))⟩) (λr433 hr433 hI=>(zc9 (s0:=()) (λ(s434:Unit)=>↑176) ↑8 (λb=>b) (λ(s434:Unit) (x435:Ji)=>(((Let (zaZ P1 (zaF P2 x435 ↑46)) (λ(v439:Int)=>(bif ((zaI P3 ↑190).any (· !=0)) then ↑27 else ↑28)))):(Unit) ⊕ Bool)) ↑68 ↑90 (za6 (m:=false) lI (xs:=P0.a) ↑83) (.eq ↑13) trivial (λi436 x435 s434 hx437 hI438=>have v437:=List.mem_of_getElem? hx437;⟨↑120,(zaq (m:=true) (x:=(zaZ P1 (zaF P2 x435 ↑46))) dI (zeg (λ(s434:Unit)=>↑176) ↑8) (Ev.any (m:=true) (zam (x:=(P1,(zaF P2 x435 ↑46))) (zac ⇑8 (zac (Ev.old (Ev.weak (K:=K) (zam (x:=(P2,x435,↑46)) (zac ↑31 (zac ↑63 (zac (zaV (f:=dI) (xs:=P1.c) ↑84) zah))) rfl (by show zdl P2 x435 ↑46;exact zwZ hp ↑1) rfl))) zah)) rfl (by show zd9 P1 (zaF P2 x435 ↑46);exact zux hp ↑1) rfl)) (λv439 hv439=>have hN:=hv439;(zaW (b:=((zaI P3 ↑190).any (· !=0))) (zeg (λ(s434:Unit)=>↑176) ↑8) (zeh (znJ (xs:=(zaI P3 ↑190)) (Ev.old (Ev.weak (K:=K) (zam (x:=(P3,↑190)) (zac ↑33 (zac (Ev.weak (K:=K) (EvO.ev (EvO.conv (zbJ (g:=(λ(x440:Int)=>dI (v439*x440))) (za6 (m:=false) dI (xs:=x435) ↑63) ↥(zwR hp ↑1) ⇑4 (λi441 x440 hx442=>have v442:=List.mem_of_getElem? hx442;(zaH (x:=v439) (y:=x440) ↑42 ↑19 ↥(zwT hp ↑1 hN ↑1)))) ↑12))) zah)) rfl (by show zcd P3 ↑190;exact zwH hp ↑1 hN) rfl))))) (λh443=>↑65) (λh443=>(zat (zan (.eq (.eq ↑193))))))))⟩) (λr444 hr444 hI=>(zaj (zaA zaJ))))))
noncomputable def zbH (P0:Int) (P1:Int) (P2:Int):Int :=
 (bif ((decide ((29:Int)<P2)) && (decide (((P0/↑49)%(2:Int))=(1:Int)))) then ((zad P0 P1 (60:Int))-(30:Int))
 else ((zad P0 P1 (((2:Int)*P2)+(1:Int)))-P2))
def zec (P0:Int) (P1:Int) (P2:Int):Prop:=0≤P1∧P1≤1000∧0≤P2∧P2≤1000000000
def zhp (K:W.Frag) (A:Adr):Sp:=Spv (ι:=Int×Int×Int) (λx=>[dI x.1,dI x.2.1,dI x.2.2]) (λx=>zec x.1 x.2.1 x.2.2) (λx=>↥[dI (zbH x.1 x.2.1 x.2.2)])
theorem zky:FnScope ["_law_cell_here","_law_k","_law_size"] ["_law_cell_here","_law_k","_law_size"] (zai zgm):=↥5
theorem zkH (F:Fun K "_law_count" "_law_count" zgm f fd) (T:Txt K mg A) (yaa:Callee P w K mg base ⇑1 1 "_law_thing" ↑128 (zcS K A)):FnOk P w K mg base ⇑1 2 f fd ["_law_cell_here","_law_k","_law_size"] (zhp K A):=by
 refine F.okV zky ⇑5 ↑10
 obtain ⟨P0,P1,P2⟩:=x
 have hu:=hr.units
 replace hp:zec P0 P1 P2:=hp
 unfold zec at hp
 refine ⟨_,(zab (zbQ (PW.pt (zik (zaG ziO (pv 2) zag (zaQ _)) (zgd (zaG zfg (zav zcb (zav zbo (pv 0) zag) zag) zag (zaQ _))))) (zab (zaL (zav zeT (zaN yaa ↑2 rfl zaK ↑[pv 0,pv 1,zag]) zag)) zae) zae) (zab (zaL (zav zeT (zaN yaa ↑2 rfl zaK ↑[pv 0,pv 1,zav zbX (zav zbh zag (pv 2)) zag]) (pv 2))) zae)),.inl ?_⟩
 show L2.Run _ ([⇑[dI P0],⇑[dI P1],⇑[dI P2]]:L2.Ctx) _ (↑18 (zbH P0 P1 P2))
 unfold zbH
 exact (zaW (b:=((decide ((29:Int)<P2)) && (decide (((P0/↑49)%(2:Int))=(1:Int))))) ↑18 (zgi (b:=(decide ((29:Int)<P2))) (zau (zaP (x:=P2) (y:=(29:Int)) ↑39 zaJ)) (λhb=>(zau (zdA (x:=((P0/↑49)%(2:Int))) (y:=(1:Int)) (zaH (x:=(P0/↑49)) (y:=(2:Int)) (zaH (x:=P0) (y:=↑49) ↑19 zaJ ↥(⇑4)) zaJ ↥1) zaJ)))) (λh445=>(zax (zaj (zaA (zaP (x:=(zad P0 P1 (60:Int))) (y:=(30:Int)) (Ev.any (m:=true) (zam (x:=(P0,P1,(60:Int))) (zac ↑19 (zac ⇑9 ↑51)) rfl (by show zaT P0 P1 (60:Int);exact ⟨hp.1,hp.2.1,by decide⟩) rfl)) zaJ))))) (λh445=>(zat (zaj (zaA (zaP (x:=(zad P0 P1 (((2:Int)*P2)+(1:Int)))) (y:=P2) (Ev.any (m:=true) (zam (x:=(P0,P1,(((2:Int)*P2)+(1:Int)))) (zac ↑19 (zac ⇑9 (zac (zaP (x:=((2:Int)*P2)) (y:=(1:Int)) (zaH (x:=(2:Int)) (y:=P2) zaJ ↑39 ↥(.inl ⇑4)) zaJ) zah))) rfl (by show zaT P0 P1 (((2:Int)*P2)+(1:Int));exact ⟨hp.1,hp.2.1,by omega⟩) rfl)) ↑39))))))
theorem zpO {c k z:Int} (hz:0≤z):-(z+30)≤zbH c k z∧zbH c k z≤z+30:=by
 unfold zbH
 have t1:=zc8 (c:=c) (k:=k) (m:=60) ↥1
 have t2:=zc8 (c:=c) (k:=k) (m:=(2:Int)*z+(1:Int)) ⇑0
 cases ((decide ((29:Int)<z))&&(decide (((c/↑49)%(2:Int))=(1:Int)))) with
 | false=>rw [cond_false];omega
 | true=>rw [cond_true];omega
def DrP (f s:Sd4) (bs st:Jq):Prop:=AlP f s bs st
section
variable {f s:Sd4} {bs st:Jq} {x r t u:Ji} {c z:Int} {i:Nat} {b:Bool}
theorem zqm (h:DrP f s bs st):1≤f.c.length∧f.c.length≤8∧f.a.length=f.c.length∧∀ r∈f.a,r.length=f.c.length∧Lat.Bit 30 r:=by
 obtain ⟨S,W1,W2,G,L⟩:=h
 rw [G.1.bl]
 exact ⟨G.1.w1,G.1.w8,G.1.du.l1,λr hr=>⟨G.1.du.r r hr,G.1.ra r hr⟩⟩
theorem zve (h:DrP f s bs st):-(2^62)≤↑25∧↑25<2^62:=by have:=zqm h;omega
theorem zuQ (h:DrP f s bs st):((zbz 0 (↑25).toNat)).length≤PySem.sizeLine:=by have:=zqm h;rw [za4];exact zao ⇑0
theorem zvH (h:DrP f s bs st) (q:i<(↑25).toNat∧z=0+(i:Int)):0≤z∧z≤1000∧(0:Int)≤2∧(2:Int)≤1000000000:=by
 have:=zqm h
 exact ⟨by omega,by omega,by decide,by decide⟩
theorem zuu (h:DrP f s bs st):zaT c (11:Int) ↑25:=by have:=zqm h;exact ↑265
theorem zrV (h:DrP f s bs st):InB f.a.length (zad c (11:Int) ↑25):=by
 have w:=zqm h
 have:=zc8 (c:=c) (k:=11) (m:=↑25) ⇑0
 unfold InB;omega
theorem zuX:-(2^64)<(1:Int)+zad c (10:Int) (12:Int)∧(1:Int)+zad c (10:Int) (12:Int)<2^64:=by
 have:=zc8 (c:=c) (k:=10) (m:=12) ↥1;omega
theorem zuA (h:DrP f s bs st):(ixD f.a (zad c (11:Int) ↑25)).length≤PySem.sizeLine:=by
 have w:=zqm h
 rw [(w.2.2.2 _ (zbK (zrV h))).1];exact zao ⇑0
theorem zvM (h:DrP f s bs st) (hB:r=↑0 (λ(x:Int)=>zbH c x (2:Int)) (zbz 0 (↑25).toNat)) (hB1:t=bif b then (↑0 (λ(x:Int)=>(((1:Int)+(zad c (10:Int) (12:Int)))*x)) (ixD f.a (zad c (11:Int) ↑25))) else r):t.length=f.c.length∧Lat.Bit 40 t:=by
 have w:=zqm h
 cases b with
 | true =>
  rw [cond_true] at hB1
  obtain ⟨k1,k2⟩:=w.2.2.2 _ (zbK (zrV (c:=c) h))
  rw [hB1]
  refine ⟨by rw [List.length_map];exact k1,λv hv=>?_⟩
  obtain ⟨z,hz,rfl⟩:=List.mem_map.mp hv
  have th:=zc8 (c:=c) (k:=10) (m:=12) ↥1
  exact ⇑6 (Lat.zgU (a:=4) (b:=30) (show _≤16 by omega) (k2 z hz)) (Nat.pow_le_pow_right ↥1 ↥1)
 | false =>
  rw [cond_false] at hB1
  rw [hB1,hB]
  refine ⟨by rw [List.length_map,za4];omega,λv hv=>?_⟩
  obtain ⟨z,hz,rfl⟩:=List.mem_map.mp hv
  have:=zpO (c:=c) (k:=z) (z:=2) ↥1
  show _≤1099511627776
  omega
theorem zwe (h:t.length=f.c.length∧Lat.Bit 40 t) (e:u=bif b then (↑0 (λ(x:Int)=>(x%(2:Int))) t) else t):u.length=f.c.length∧Lat.Bit 40 u:=by
 cases b with
 | true =>
  rw [cond_true] at e
  rw [e]
  refine ⟨by rw [List.length_map];exact h.1,λv hv=>?_⟩
  obtain ⟨z,hz,rfl⟩:=List.mem_map.mp hv
  show _≤1099511627776
  omega
 | false=>rw [cond_false] at e;rw [e];exact h
theorem zvu (h:DrP f s bs st) (hx:x.length=f.c.length∧Lat.Bit 40 x):SmP bs x ↑70:=by
 obtain ⟨S,W1,W2,G,L⟩:=h
 exact zuy G (hx.2.mono ↥1)
theorem zuO (h:DrP f s bs st) (hx:x.length=f.c.length∧Lat.Bit 40 x):Lat.LowP x st:=by
 obtain ⟨S,W1,W2,G,L⟩:=h
 exact zr1 L G.1.w8 (by rw [hx.1,G.1.bl]) hx.2 ↥1
theorem zuz (h:DrP f s bs st) (hx:x.length=f.c.length∧Lat.Bit 40 x) (e:t=zaF bs x ↑70):ShP s.b t:=by
 obtain ⟨S,W1,W2,G,L⟩:=h
 rw [e];exact zvj G (by rw [hx.1,G.1.bl]) (hx.2.mono ↥1)
end
noncomputable def m_law_drawn (P0:↥8) (P1:↥8) (P2:Jq) (P3:Jq) (P4:Int):Bool :=
 (Let (↑0 (λ(x446:Int)=>(zbH P4 x446 (2:Int))) (zbz 0 (↑55).toNat)) (λ(v449:Ji) =>
 (Let (bif (decide ((P4%(3:Int))=(1:Int))) then (↑0 (λ(x451:Int)=>(((1:Int)+↑202)*x451)) (ixD P0.a (zad P4 (11:Int) ↑55))) else v449) (λ(v454:Ji) =>
 (Let (bif (decide ((P4%(3:Int))=(2:Int))) then (↑0 (λ(x456:Int)=>(x456%(2:Int))) v454) else v454) (λ(v459:Ji) =>
 (Let (zaF P2 v459 ↑46) (λ(v460:Ji) =>
 (Let (!((zaI P3 v459).any (· != 0))) (λ(v461:Bool) =>
 (decide (v461=(za5 P1.b P1.c v460)))))))))))))
def zd8 (P0:↥8) (P1:↥8) (P2:Jq) (P3:Jq) (P4:Int):Prop:=DrP P0 P1 P2 P3
def zhi (K:W.Frag) (A:Adr):Sp:=Spv (ι:=↥8×↥8×Jq×Jq×Int) (λx=>[dT [dL (↑0 lI x.1.a),dL (↑0 lI x.1.b),dL (↑0 dI x.1.c),dL (↑0 lI x.1.d)],dT [dL (↑0 lI x.2.1.a),dL (↑0 lI x.2.1.b),dL (↑0 dI x.2.1.c),dL (↑0 lI x.2.1.d)],dQ K (↑0 lI x.2.2.1),dQ K (↑0 lI x.2.2.2.1),dI x.2.2.2.2]) (λx=>zd8 x.1 x.2.1 x.2.2.1 x.2.2.2.1 x.2.2.2.2) (λx=>↥[dB (m_law_drawn x.1 x.2.1 x.2.2.1 x.2.2.2.1 x.2.2.2.2)])
theorem zcN:FnScope ↑253 ["_law_first","_law_second","_law_baskets","_law_steps","_law_cell_here"] (zai zdH):=↥5
theorem zkP (F:Fun K "_law_drawn" "_law_drawn" zdH f fd) (T:Txt K mg A) (yai:Callee P w K mg base ⇑1 2 "_law_brought" ["_law_steps","_law_basket"] (zeA K A)) (ybe:Callee P w K mg base ⇑1 2 "_law_count" ["_law_cell_here","_law_k","_law_size"] (zhp K A)) (yam:Callee P w K mg base ⇑1 2 "_law_nothing" ["_law_duals","_law_bottoms_here","_law_basket"] (zeF K A)) (yaj:Callee P w K mg base ⇑1 1 "_law_sums" ↑201 (ze7 K A)) (yaa:Callee P w K mg base ⇑1 1 "_law_thing" ↑128 (zcS K A)):FnOk P w K mg base ⇑1 3 f fd ["_law_first","_law_second","_law_baskets","_law_steps","_law_cell_here"] (zhi K A):=by
 refine F.okV zcN ⇑5 ↑10
 obtain ⟨P0,P1,P2,P3,P4⟩:=x
 have hu:=hr.units
 replace hp:zd8 P0 P1 P2 P3 P4:=hp
 unfold zd8 at hp
 refine ⟨_,(zab (zc1 (i:=5) rfl zcN.nd rfl rfl (.of (osc:=(zai zdH)) (N:=↑253) (own:=["_law_k"]) (fvn:=["_law_cell_here"]) (fv:=[4]) rfl rfl ↑6) ↑255 (λ_ _ _ _ _=>⟨(zal (i:=0) (show (["_law_k","_law_cell_here"]:List Str).Nodup by decide +kernel) rfl (↥0 rfl) ⇑7),za7,(zaN ybe ↑2 rfl zaK ↑[pv 1,pv 0,zag])⟩)) (zab (zbQ (zaG zfg (zav zcb (pv 4) zag) zag (zaQ _)) (zab (zap (i:=6) zcN.nd rfl ⇑7 (zav zbX zag (zaN yaa ↑2 rfl zaK ↑[pv 4,zag,zag]))) (zab (zc1 (i:=5) rfl zcN.nd rfl rfl (.of (osc:=(zai zdH)) (N:=↑253) (own:=["_law_entry"]) (fvn:=["_law_number"]) (fv:=[6]) rfl rfl ↑6) (zaM (K:=K) rfl (zaR ↥7 ↑109 (zaN yaa ↑2 rfl zaK ↑[pv 4,zag,(zaz ↑85 rfl T.len PySem.boot_len ↑[↑109])]) ↥4)) (λ_ _ _ _ _=>⟨(zal (i:=0) (show (["_law_entry","_law_number"]:List Str).Nodup by decide+kernel) rfl (↥0 rfl) ⇑7),za7,(zav zbh (pv 1) (pv 0))⟩)) zae)) zae) (zab (zbQ (zaG zfg (zav zcb (pv 4) zag) zag (zaQ _)) (zab (zc1 (i:=5) rfl zcN.nd rfl rfl (.of (osc:=(zai zdH)) (N:=↑253) (own:=["_law_entry"]) (fvn:=[]) (fv:=[]) rfl rfl ↑6) (zaM (K:=K) rfl (pv 5)) (λ_ _ _ _ _=>⟨(zal (i:=0) (show (["_law_entry"]:List Str).Nodup by decide +kernel) rfl (↥0 rfl) ⇑7),za7,(zav zcb (pv 0) zag)⟩)) zae) zae) (zab (zap (i:=7) zcN.nd rfl (↥0 rfl) (zaN yaj ↑2 rfl zaK ↑[pv 2,pv 5,↑145])) (zab (zap (i:=8) zcN.nd rfl (↥0 rfl) (zs2 (zaz (ziC (K:=K) rfl rfl) rfl T.any PyProof.Rows.boot_any ↑[zaN yai ↑2 rfl zaK ↑[pv 3,pv 5]]))) (zab (zaL (zio zfg (pv 8) (zaN yam ↑2 rfl zaK ↑[↑198,↑198,pv 7]) (zaQ _))) zae)))))),.inl ?_⟩
 show L2.Run _ ([⇑[dT [dL ↑22,dL ↑23,dL ↑21,dL ↑24]],⇑[dT [dL ↑77,dL ↑78,dL ↑76,dL ↑79]],⇑[dQ K ↑59],⇑[dQ K (↑0 lI P3)],⇑[dI P4],.no,.no,.no,.no]:L2.Ctx) _ (↑8 (m_law_drawn P0 P1 P2 P3 P4))
 unfold m_law_drawn
 exact (zaq (m:=true) (x:=(↑0 (λ(x446:Int)=>(zbH P4 x446 (2:Int))) (zbz 0 (↑55).toNat))) lI ↑8 (EvO.ev (EvO.conv (zbJ (g:=(λ(x446:Int)=>dI (zbH P4 x446 (2:Int)))) (zdy (m:=true) (n:=↑55) (zaV (f:=dI) (xs:=P0.c) ↑83) ↥(zve hp)) ↥(zuQ hp) ⇑4 (λi447 x446 hx448=>have v448:=zby hx448;(Ev.any (m:=true) (zam (x:=(P4,x446,(2:Int))) (zac ⇑9 (zac ↑151 ↑51)) rfl (by show zec P4 x446 (2:Int);exact zvH hp ↑1) rfl)))) ↑12)) (λv449 hv449=>have hB:=hv449;(zcm (b:=(decide ((P4%(3:Int))=(1:Int)))) (λbb=>([⇑[dT [dL ↑22,dL ↑23,dL ↑21,dL ↑24]],⇑[dT [dL ↑77,dL ↑78,dL ↑76,dL ↑79]],⇑[dQ K ↑59],⇑[dQ K (↑0 lI P3)],⇑[dI P4],↥[dL (↑0 dI (bif bb then (↑0 (λ(x451:Int)=>(((1:Int)+↑202)*x451)) (ixD P0.a (zad P4 (11:Int) ↑55))) else v449))],.no,.no,.no]:L2.Ctx)) (zau (zdA (x:=(P4%(3:Int))) (y:=(1:Int)) (zaH (x:=P4) (y:=(3:Int)) ↑44 zaJ ↥1) zaJ)) (λh450=>(zba (m:=true) (zaP (x:=(1:Int)) (y:=↑202) zaJ (Ev.any (m:=true) (zam (x:=(P4,(10:Int),(12:Int))) (zac ↑44 (zac zaJ ↑51)) rfl (by show zaT P4 (10:Int) (12:Int);exact ⟨by decide,by decide,by decide⟩) rfl))) (zba (m:=true) (EvO.ev (EvO.conv (zbJ (g:=(λ(x451:Int)=>dI (((1:Int)+↑202)*x451))) (za6 (m:=false) dI (xs:=(ixD P0.a (zad P4 (11:Int) ↑55))) (Ev.weak (K:=K) (zbe (f:=lI) (xs:=P0.a) ↑83 (Ev.any (m:=true) (zam (x:=(P4,(11:Int),↑55)) (zac ↑44 (zac zaJ (zac (zaV (f:=dI) (xs:=P0.c) ↑83) zah))) rfl (by show zaT P4 (11:Int) ↑55;exact zuu hp) rfl)) ↥(zrV hp)))) ↥(zuA hp) ⇑4 (λi452 x451 hx453=>have v453:=List.mem_of_getElem? hx453;(zaH (x:=((1:Int)+↑202)) (y:=x451) ↑42 ↑19 ↥(.inl zuX)))) ↑12)) (zan (.eq (.eq (.eq (.eq (.eq (.eq (.no (.eq (.eq .nil))))))))))))) (λh450=>(zan (.eq (.eq (.eq ↑13))))) (zcA (x:=(bif (decide ((P4%(3:Int))=(1:Int))) then (↑0 (λ(x451:Int)=>(((1:Int)+↑202)*x451)) (ixD P0.a (zad P4 (11:Int) ↑55))) else v449)) (λv454=>([⇑[dT [dL ↑22,dL ↑23,dL ↑21,dL ↑24]],⇑[dT [dL ↑77,dL ↑78,dL ↑76,dL ↑79]],⇑[dQ K ↑59],⇑[dQ K (↑0 lI P3)],⇑[dI P4],↥[dL (↑0 dI v454)],.no,.no,.no]:L2.Ctx)) ↑8 (λv454 hv454=>have hB1:=zvM hp hB hv454;(zcm (b:=(decide ((P4%(3:Int))=(2:Int)))) (λbb=>([⇑[dT [dL ↑22,dL ↑23,dL ↑21,dL ↑24]],⇑[dT [dL ↑77,dL ↑78,dL ↑76,dL ↑79]],⇑[dQ K ↑59],⇑[dQ K (↑0 lI P3)],⇑[dI P4],↥[dL (↑0 dI (bif bb then (↑0 (λ(x456:Int)=>(x456%(2:Int))) v454) else v454))],.no,.no,.no]:L2.Ctx)) (zau (zdA (x:=(P4%(3:Int))) (y:=(2:Int)) (zaH (x:=P4) (y:=(3:Int)) ↑44 zaJ ↥1) zaJ)) (λh455=>(zba (m:=true) (EvO.ev (EvO.conv (zbJ (g:=(λ(x456:Int)=>dI (x456%(2:Int)))) (za6 (m:=true) dI (xs:=v454) ↑63) ↥(zao (by have z:=hB1.1;have z2:=zqm hp;omega)) ⇑4 (λi457 x456 hx458=>have v458:=List.mem_of_getElem? hx458;(zaH (x:=x456) (y:=(2:Int)) ↑151 zaJ ↥1))) ↑12)) (zan (.eq (.eq (.eq ↑13)))))) (λh455=>(zan (.eq (.eq (.eq ↑13))))) (zcA (x:=(bif (decide ((P4%(3:Int))=(2:Int))) then (↑0 (λ(x456:Int)=>(x456%(2:Int))) v454) else v454)) (λv459=>([⇑[dT [dL ↑22,dL ↑23,dL ↑21,dL ↑24]],⇑[dT [dL ↑77,dL ↑78,dL ↑76,dL ↑79]],⇑[dQ K ↑59],⇑[dQ K (↑0 lI P3)],⇑[dI P4],↥[dL (↑0 dI v459)],.no,.no,.no]:L2.Ctx)) ↑8 (λv459 hv459=>have hB2:=zwe hB1 hv459;(zaq (m:=true) (x:=(zaF P2 v459 ↑46)) lI ↑8 (zam (x:=(P2,v459,↑46)) (zac ↑31 (zac (Ev.old ↑63) (zac (zaV (f:=dI) (xs:=P1.c) ↑84) zah))) rfl (by show zdl P2 v459 ↑46;exact zvu hp hB2) rfl) (λv460 hv460=>have hM:=hv460;(zaq (m:=true) (x:=(!((zaI P3 v459).any (· != 0)))) dB ↑8 (zsL (znJ (xs:=(zaI P3 v459)) (Ev.old (Ev.weak (K:=K) (zam (x:=(P3,v459)) (zac ↑33 (zac (Ev.old ↑63) zah)) rfl (by show zcd P3 v459;exact zuO hp hB2) rfl))))) (λv461 hv461=>have hL:=hv461;(zaj (zaA (zta (x:=v461) (y:=(za5 P1.b P1.c v460)) (Ev.any (m:=true) ↑106) (Ev.any (m:=true) (zam (x:=(P1.b,P1.c,v460)) (zac ↑84 (zac ↑84 (zac (Ev.old (Ev.weak (K:=K) ↑75)) zah))) rfl (by show zcJ P1.b P1.c v460;exact zuz hp hB2 hM) rfl)))))))))))))))))
theorem zeU {γ β:Type} {f:Unit->γ->Unit ⊕ β}:∀ {xs:List γ},(∀ x∈xs,f () x=.inl ())->loopR f () xs=.inl ()
 | [],_=>rfl
 | x :: xs,h=>by
  simp only [loopR,h x List.mem_cons_self]
  exact zeU λy hy=>h y (⇑3 _ hy)
theorem zry {n m:Nat} {B S:Jq} {x:Ji} (hn:B.length=n) (hB:∀ r∈B,r.length=m) (hx:x.length=n):Lat.SpL (Lat.zdk n B S) (λi=>if i<m then Lat.Snd B ↑41 i else Lat.vec x (i-m)):=by
 have a1:Lat.SpL (Lat.zdk n B S) (λi=>Lat.lsum ((↑64).map λw=>Lat.vec x w*Lat.vec (ixD B (w:Int)++Lat.ze0 B.length (w:Int)) i)):=Lat.zjZ (g:=λw=>Lat.vec (ixD B (w:Int)++Lat.ze0 B.length (w:Int))) λw hw=>by
  have hw:=List.mem_range.mp hw
  refine Lat.SpL.mem (List.mem_append_left _ (Lat.ziz (List.getElem?_eq_getElem hw ▸ ?_)))
  rw [zbY (List.getElem?_eq_getElem hw)]
 refine Lat.Sp.conv a1 λi=>?_
 by_cases q:i<m
 ·rw [if_pos q]
  exact Lat.zbE λw hw=>by rw [Lat.zcC,hB _ (Lat.zfk (List.mem_range.mp hw)),if_pos q]
 ·rw [if_neg q]
  have e:Lat.lsum ((↑64).map λw=>Lat.vec x w*Lat.vec (ixD B (w:Int)++Lat.ze0 B.length (w:Int)) i)=Lat.lsum ((↑64).map λw=>(if w=i-m then (1:Int) else 0)*Lat.vec x w):=by
   refine Lat.zbE λw hw=>?_
   have hw:=List.mem_range.mp hw
   rw [Lat.zcC,hB _ (Lat.zfk hw),if_neg q,Lat.zgu hw,Int.mul_comm]
   by_cases z:i-m=w
   ·rw [if_pos z,if_pos z.symm]
   ·rw [if_neg z,if_neg λk=>z k.symm]
  rw [e]
  by_cases z:i-m<B.length
  ·rw [Lat.zfC (f:=Lat.vec x) List.nodup_range (List.mem_range.mpr z)]
  ·rw [Lat.za8 (l:=x) ⇑0,show ((↑64).map λw=>(if w=i-m then (1:Int) else 0)*Lat.vec x w)=(↑64).map λ_=>(0:Int) from List.map_congr_left λw hw=>by
    rw [if_neg (by have:=List.mem_range.mp hw;omega)];exact Int.zero_mul _,Lat.zdu]
theorem zsk {ds:Ji}:(∀ d∈ds,d=1)->Lat.prd ds=1:=by
 induction ds with
 | nil=>intro _;rfl
 | cons d ds ih =>
  intro h
  show d*Lat.prd ds=1
  rw [h d ↑3,ih λx hx=>h x (⇑3 _ hx)];rfl
theorem zpT {n:Nat}:∃ Q:Jq,Lat.Ech n 0 Q∧Q.length=n∧Lat.prd (Lat.hds Q)=1∧∀ v:Lat.Vc,(∀ i,n≤i->v i=0)->Lat.SpL Q v:=by
 have hl:∀ r∈((List.range n)).map λ(w:Nat)=>Lat.ze0 n (w:Int),r.length=n:=λr hr=>by
  obtain ⟨w,_,rfl⟩:=List.mem_map.mp hr
  exact Lat.ze9
 have S:=(Lat.zbv hl).1
 have all:∀ v:Lat.Vc,(∀ i,n≤i->v i=0)->Lat.SpL (Lat.clm Lat.MG (((List.range n)).map λ(w:Nat)=>Lat.ze0 n (w:Int))) v:=λv hv=>by
  have a:=Lat.zjZ (c:=v) (g:=λw=>Lat.vec (Lat.ze0 n (w:Int))) (l:=List.range n) (A:=λa=>∃ s∈((List.range n)).map λ(w:Nat)=>Lat.ze0 n (w:Int),a=Lat.vec s) λw hw=>Lat.Sp.mem ⟨_,List.mem_map.mpr ⟨w,hw,rfl⟩,rfl⟩
  refine Lat.SpL.sub S.out (Lat.Sp.conv a λi=>?_)
  rw [Lat.zbE (g:=λw=>(if w=i then (1:Int) else 0)*v w) λw hw=>by
   rw [Lat.zgu (List.mem_range.mp hw),Int.mul_comm]
   by_cases z:i=w
   ·rw [if_pos z,if_pos z.symm]
   ·rw [if_neg z,if_neg λk=>z k.symm]]
  by_cases z:i<n
  ·rw [Lat.zfC (f:=v) List.nodup_range (List.mem_range.mpr z)]
  ·rw [hv i ⇑0,Lat.zbE (g:=λ_=>0) λw hw=>by
    rw [if_neg (by have:=List.mem_range.mp hw;omega)];exact Int.zero_mul _,Lat.zdu]
 refine ⟨_,S.ech,Lat.zhy S.ech λj hj=>⟨λi=>if i=j then 1 else 0,all _ λi hi=>if_neg ⇑0,λi hi=>if_neg ⇑0,by dsimp only;rw [if_pos rfl];decide⟩,zsk λd hd=>?_,all⟩
 obtain ⟨t,ht,rfl⟩:=List.mem_map.mp hd
 obtain ⟨a1,a2,a3,a4⟩:=S.ech.mem t ht
 have:=Lat.zhZ (u:=λi=>if i=Lat.hd t then 1 else 0) S.ech (all _ λi hi=>if_neg ⇑0) ht λi hi=>if_neg ⇑0
 rw [if_pos rfl] at this
 exact Int.eq_one_of_dvd_one ⇑0 this
section
variable {n m:Nat} {B S T tt:Jq}
theorem zmA (hn:B.length=n) (hB:∀ r∈B,r.length=m) (hS:∀ r∈S,r.length=m) {u:Lat.Vc} (hu:∀ i,m+n≤i->u i=0):Lat.SpL (Lat.zdk n B S) u ↔ Lat.SpL S (λi=>if i<m then u i-Lat.Snd B (λw=>u (m+w)) i else 0):=by
 constructor
 ·intro h
  refine (Lat.zmb hn hB hS h).conv λi=>?_
  by_cases q:i<m
  ·rw [if_pos q,if_pos q]
  ·rw [if_neg q,if_neg q,Lat.zk3 hB ⇑0];rfl
 ·intro h
  have e:Lat.vec (Lat.lst n λw=>u (m+w))=λw=>u (m+w):=funext λw=>by
   rw [Lat.ziJ]
   by_cases q:w<n
   ·rw [if_pos q]
   ·rw [if_neg q,hu _ ⇑0]
  have h1:=zry (S:=S) (x:=Lat.lst n λw=>u (m+w)) hn hB Lat.zeK
  rw [e] at h1
  have h2:Lat.SpL (Lat.zdk n B S) (λi=>if i<m then u i-Lat.Snd B (λw=>u (m+w)) i else 0):=Lat.SpL.sub (λs hs=>by
   have:=Lat.SpL.mem (ss:=Lat.zdk n B S) (List.mem_append_right _ (List.mem_map.mpr ⟨s,hs,rfl⟩))
   rwa [Lat.zil] at this) h
  refine (Lat.Sp.plus h1 h2).conv λi=>?_
  by_cases q:i<m
  ·rw [if_pos q,if_pos q];omega
  ·rw [if_neg q,if_neg q]
   show u (m+(i-m))+0=u i
   rw [show m+(i-m)=i by omega];omega
theorem zqb (hn:B.length=n) (hB:∀ r∈B,r.length=m) (hS:∀ r∈S,r.length=m) (et:tt=Lat.zd0 m (Lat.clm Lat.MG (Lat.zdk n B S))) (E:Lat.Ech n 0 tt) (sp:∀ x:Ji,x.length=n->(Lat.SpL tt ↑41 ↔ Lat.SpL S (Lat.Snd B ↑41))) (lS:((Lat.clm Lat.MG S)).length=m) :
  tt.length=n∧((Lat.clm Lat.MG (S++B))).length=m∧Lat.prd (Lat.hds tt)*Lat.prd (Lat.hds (Lat.clm Lat.MG (S++B)))=Lat.prd (Lat.hds (Lat.clm Lat.MG S)):=by
 have SS:=(Lat.zbv hS).1
 have hSB:∀ r∈S++B,r.length=m:=λr hr=>(List.mem_append.mp hr).elim (hS r) (hB r)
 have SC:=(Lat.zbv hSB).1
 have hR:∀ r∈Lat.zdk n B S,r.length=m+n:=λr hr=>by
  rcases List.mem_append.mp hr with hr | hr
  ·obtain ⟨i,x,hx,rfl⟩:=Lat.zdO hr
   rw [List.length_append,hB x ↑169,Lat.ze9,hn]
  ·obtain ⟨x,hx,rfl⟩:=List.mem_map.mp hr
   rw [List.length_append,hS x hx,Lat.zce]
 have St:=(Lat.zbv hR).1
 have cut:Lat.zi6 m (Lat.clm Lat.MG (Lat.zdk n B S))=Lat.clm Lat.MG (S++B):=by
  have tk:∀ {x y:Ji},x.length=m->(x++y).take m=x:=λh=>by rw [List.take_append_of_le_length (by rw [h];exact ↑4 _),List.take_of_length_le (by rw [h];exact ↑4 _)]
  refine (Lat.Stairs.cut (rows:=S++B) (Nat.le_add_right m n) St (λr hr=>?_) λr hr=>?_).one SC (λ_ hr=>Lat.SpL.mem hr) λ_ hr=>Lat.SpL.mem hr
  ·rcases List.mem_append.mp hr with hr | hr
   ·obtain ⟨i,x,hx,rfl⟩:=Lat.zdO hr
    have hm:=List.mem_of_getElem? hx
    exact ⟨x,List.mem_append_right _ hm,tk (hB x hm)⟩
   ·obtain ⟨x,hx,rfl⟩:=List.mem_map.mp hr
    exact ⟨x,List.mem_append_left _ hx,tk (hS x hx)⟩
  ·rcases List.mem_append.mp hr with hr | hr
   ·exact ⟨r++zcI (n:Int) [(0:Int)],List.mem_append_right _ (List.mem_map.mpr ⟨r,hr,rfl⟩),tk (hS r hr)⟩
   ·obtain ⟨i,hi⟩:=List.getElem?_of_mem hr
    exact ⟨_,List.mem_append_left _ (Lat.ziz hi),tk (hB r hr)⟩
 obtain ⟨Q,Q1,Q2,Q3,Q4⟩:=zpT (n:=n)
 have hk:∀ u:Lat.Vc,(∀ i,m+n≤i->u i=0)->(Lat.SpL (Lat.clm Lat.MG (Lat.zdk n B S)) u ↔ Lat.SpL (Lat.clm Lat.MG S) (λi=>if i<m then u i-Lat.Snd B (λw=>u (m+w)) i else 0)∧Lat.SpL Q (λw=>u (m+w))):=λu hu =>
  ⟨λh=>⟨Lat.SpL.sub SS.out ((zmA hn hB hS hu).mp (Lat.SpL.sub St.inn h)),Q4 _ λi hi=>hu _ ⇑0⟩,λh=>Lat.SpL.sub St.out ((zmA hn hB hS hu).mpr (Lat.SpL.sub SS.inn h.1))⟩
 have hD:∀ (u v:Lat.Vc) i,Lat.Snd B (λj=>u j-v j) i=Lat.Snd B u i-Lat.Snd B v i:=λu v i=>by
  rw [show (λj=>u j-v j)=λj=>u j+(-1)*v j from funext λj=>by omega,Lat.zir (-1) i];omega
 generalize Lat.clm Lat.MG (Lat.zdk n B S)=T at *
 have at_:∀ j,j<n->∃ k:Int,0<k∧Lat.SpL (Lat.clm Lat.MG S) (Lat.Snd B (λw=>if w=j then k else 0)):=λj hj=>by
  obtain ⟨k,k1,k2⟩:=Lat.zso SS.ech lS (x:=ixD B (j:Int)) (hB _ (Lat.zfk ⇑0))
  refine ⟨k,k1,k2.conv λi=>?_⟩
  rw [show (λw=>if w=j then k else 0)=λw=>(λ_=>(0:Int)) w+k*(λw=>if w=j then (1:Int) else 0) w from funext λw=>by dsimp only;split<;>omega,Lat.zir k i,Lat.zfZ,Lat.zmz ⇑0 i];omega
 have lT:T.length=m+n:=Lat.zhy St.ech λj hj=>by
  by_cases q:j<m
  ·obtain ⟨t,t0,t1,t2⟩:=Lat.zou SS.ech lS q
   have tl:=(SS.ech.mem t t0).1
   refine ⟨Lat.vec t,(hk _ λi hi=>Lat.za8 ⇑0).mpr ⟨Lat.Sp.conv (Lat.SpL.mem t0) λi=>?_,Q4 _ λi hi=>Lat.za8 ⇑0⟩,t1,t2⟩
   rw [show (λw=>Lat.vec t (m+w))=λ_=>0 from funext λw=>Lat.za8 ⇑0,Lat.zfZ]
   by_cases z:i<m
   ·rw [if_pos z];omega
   ·rw [if_neg z,Lat.za8 ⇑0]
  ·obtain ⟨k,k1,k2⟩:=at_ (j-m) ⇑0
   have ev:(λw=>if m+w=j then k else 0)=λw=>if w=j-m then k else 0:=funext λw=>by
    by_cases z:w=j-m
    ·rw [if_pos z,if_pos ⇑0]
    ·rw [if_neg z,if_neg ⇑0]
   refine ⟨λi=>if i=j then k else 0,(hk _ λi hi=>if_neg ⇑0).mpr ⟨(k2.smul (-1)).conv λi=>?_,Q4 _ λi hi=>if_neg ⇑0⟩,λi hi=>if_neg ⇑0,by dsimp only;rw [if_pos rfl];omega⟩
   rw [ev]
   by_cases z:i<m
   ·rw [if_pos z,if_neg ⇑0];omega
   ·rw [if_neg z,Lat.zk3 hB ⇑0];rfl
 have l1:tt.length=n:=Lat.zhy E λj hj=>by
  obtain ⟨k,k1,k2⟩:=at_ j hj
  have e:Lat.vec (Lat.lst n λw=>if w=j then k else 0)=λw=>if w=j then k else 0:=funext λw=>by
   rw [Lat.ziJ]
   by_cases q:w<n
   ·rw [if_pos q]
   ·rw [if_neg q,if_neg ⇑0]
  refine ⟨λw=>if w=j then k else 0,?_,λi hi=>if_neg ⇑0,by dsimp only;rw [if_pos rfl];omega⟩
  rw [← e]
  refine (sp _ Lat.zeK).mpr ?_
  rw [e]
  exact Lat.SpL.sub SS.inn k2
 have l2:((Lat.clm Lat.MG (S++B))).length=m:=Lat.zhy SC.ech λj hj=>by
  obtain ⟨t,t0,t1,t2⟩:=Lat.zou SS.ech lS hj
  exact ⟨Lat.vec t,Lat.SpL.sub SC.out ((Lat.SpL.sub SS.inn (Lat.SpL.mem t0)).left),t1,t2⟩
 refine ⟨l1,l2,?_⟩
 have e1:=Lat.znP (D:=Lat.Snd B) St.ech lT SS.ech lS Q1 Q2 hD hk
 have e2:=Lat.zkS (m:=m) (N:=m+n) (S:=T) ⇑0 λt ht=>⟨(St.ech.mem t ht).1,(St.ech.mem t ht).2.2.1⟩
 rw [cut,← et] at e2
 rw [Int.mul_comm,← e2,e1,Q3,Int.mul_one]
end
section
variable {y:T3 Sd4 Sd4 Jq} {S:SenderD} {one two fo:BookD} {st:Jq} {t:Ji} {x:Int} {wh rs:Option Int}
theorem zvz (h:P74 y):y.a.d.length≤PySem.sizeLine∧y.b.d.length≤PySem.sizeLine∧y.c.length≤PySem.sizeLine:=by
 obtain ⟨W1,W2,im,hF,hS,hI,hN,_⟩:=h
 have:=hF.ln;have:=hS.ln;have:=hN.l;have:=hF.w8
 exact ⟨zao ⇑0,zao ⇑0,zao ⇑0⟩
theorem zv4 {W fb sb:Nat} {v:Sd4} (hF:Sd71 W fb sb v):zb8 ((v.c.length:Nat):Int) (↑0 ↑58 v.d):=by
 have:=hF.ln;have:=hF.w1;have:=hF.w8;have:=hF.bl
 rw [zc0]
 exact ⟨by omega,by omega,by omega,λs hs=>by rw [(hF.sr s hs).1];omega⟩
theorem zwW (h:P74 y):zb8 ↑132 (↑0 ↑58 y.a.d):=by obtain ⟨W1,W2,im,hF,_⟩:=h;exact zv4 hF
theorem zws (h:P74 y):zb8 ↑72 ↑174:=by obtain ⟨W1,W2,im,_,hS,_⟩:=h;exact zv4 hS
def G4 (S:SenderD) (y:T3 Sd4 Sd4 Jq):Prop:=∃ W1 W2:Nat,G74 S y.a y.b y.c W1 W2
theorem p_g (h:P74 y) (h1:one=zaX ↑132 (↑0 ↑58 y.a.d)) (h2:two=zaX ↑72 ↑174):G4 ⟨one,two,y.c⟩ y:=by
 obtain ⟨W1,W2,im,hF,hS,hI,hN,hw⟩:=h
 rw [zc0,zgG,hF.bl] at h1
 rw [zc0,zgG,hS.bl] at h2
 subst h1 h2
 exact ⟨W1,W2,hF,hS,hN.l,hN.r,λx hx hu=>zrI hF hS hI hN rfl hx hu,hw,rfl⟩
theorem zwu (h:P74 y) (h1:one=zaX ↑132 (↑0 ↑58 y.a.d)) (h2:two=zaX ↑72 ↑174):SiP one two (↑0 ↑58 y.c):=by
 obtain ⟨W1,W2,G⟩:=p_g h h1 h2
 obtain ⟨hF,hS,hl,hr,hk,_,e⟩:=id G
 have e1:one=⟨(W1:Int),y.a.d⟩:=congrArg SenderD.first e
 have e2:two=⟨(W2:Int),y.b.d⟩:=congrArg SenderD.second e
 rw [zc0]
 subst e1 e2
 refine ⟨⟨by rw [hl],λr h'=>by rw [(hr r h').1]⟩,by have:=hF.w8;omega,λs hs=>?_⟩
 obtain ⟨s1,s2⟩:=hF.sr s hs
 refine ⟨⟨by show (s.length:Int)=(W1:Int);rw [s1],W2,rfl,hS.w8,λr h'=>(hr r h').1,λp hp z hz=>Lat.zcK.of (a:=98) (b:=90) ((hr _ ((List.of_mem_zip hp)).1).2 z hz) (s2 _ ((List.of_mem_zip hp)).2) ↥1 ↥1⟩,?_,hk s s1 (Lat.SpL.mem hs)⟩
 have hw:=hS.w8;have ln:=hS.ln
 exact ⟨W2,47334,rfl,hS.w1,hS.w8,(zjM (S:=⟨⟨(W1:Int),y.a.d⟩,⟨(W2:Int),y.b.d⟩,y.c⟩) rfl (λr h'=>(hr r h').1) hl s1).1,by show y.b.d.length≤30;omega,Lat.Cb.fit (R:=20) (b:=100) (znn ⇑0) ⇑0 (↑4 _) ↥1 (by show y.b.d.length≤20;omega) (λr h'=>⟨(hS.sr r h').1,((hS.sr r h').2).mono ↥1⟩),(zoW rfl hr hl hF.w8 s1 s2).mono ↥1,hk s s1 (Lat.SpL.mem hs)⟩
theorem l_g (h:P74 y) (h1:one=zaX ↑132 (↑0 ↑58 y.a.d)) (h2:two=zaX ↑72 ↑174) (h3:S=m_Sender one two (↑0 ↑58 y.c)):G4 S y:=by
 have:S=⟨one,two,y.c⟩:=by rw [h3];unfold m_Sender;rw [zc0,zc0]
 rw [this];exact p_g h h1 h2
theorem G4.lo (h:G4 S y):LoP S:=by obtain ⟨W1,W2,G⟩:=h;exact zw3 G
def H4 (S:SenderD) (y:T3 Sd4 Sd4 Jq) (st:Jq):Prop:=∃ W1 W2:Nat,G74 S y.a y.b y.c W1 W2∧LS W1 W2 S y.b y.c st
theorem zvV (h:G4 S y) (hF:fo=zaS S) (hS:st=fo.swaps):H4 S y st:=by
 obtain ⟨W1,W2,G⟩:=h
 have L:=zuB G
 rw [hF,L.is] at hS
 rw [hS];exact ⟨W1,W2,G,L⟩
theorem zwY (h:H4 S y st):st.length≤1000∧(∀ s∈st,(s.length:Int)=↑132)∧↑132≤1000:=by
 obtain ⟨W1,W2,G,L⟩:=h
 have:=Lat.zfe L.e (Nat.zero_le W1);have:=G.1.w8
 rw [G.1.bl]
 exact ⟨by omega,λt ht=>by rw [(L.sd t ht).len],by omega⟩
theorem zwG (h:H4 S y st) (ht:t∈st):SmP y.c t ↑72:=by
 obtain ⟨W1,W2,G,L⟩:=h
 exact zuy G ((L.sd t ht).bit.mono ↥1)
theorem zwn (h:H4 S y st) (ht:t∈st):ShP y.b.b (zaF y.c t ↑72):=by
 obtain ⟨W1,W2,G,L⟩:=h
 exact zvj G (L.sd t ht).len ((L.sd t ht).bit.mono ↥1)
theorem zvX (h:H4 S y st):AlP y.a y.b y.c st:=by
 obtain ⟨W1,W2,G,L⟩:=h
 exact ⟨S,W1,W2,G,L⟩
theorem zwp (h:G4 S y):ze5 x (↑132+↑72):=by
 obtain ⟨W1,W2,G⟩:=h
 have:=g_w G
 rw [G.1.bl,G.2.1.bl]
 exact Lat.ze5.of (b:=10) ⇑0 (show _≤1024 by omega) ↥1
theorem zv6 {W:Nat} {sw:Jq} (h1:1≤W) (h8:W≤8) (hl:sw.length≤12) (hs:∀ r∈sw,r.length=W∧Lat.Bit 100 r):BkQ ⟨(W:Int),sw⟩ :=
 ⟨W,47334,rfl,h1,h8,⟨⟨by show sw.length≤31;omega,λr hr=>by rw [(hs r hr).1];omega⟩,.inl ⟨W+sw.length,100,20,znn ⇑0,by show (Lat.mark sw).length≤20;rw [Lat.zmu];omega,Lat.zoa hs⟩⟩,Lat.Cb.fit (R:=20) (b:=100) (znn ⇑0) ⇑0 (↑4 _) ↥1 (by show sw.length≤20;omega) hs⟩
theorem zv7 (h:G4 S y) (h2:two=zaX ↑72 ↑174):BkQ two:=by
 obtain ⟨W1,W2,hF,hS,_⟩:=h
 rw [h2,zc0,zgG,hS.bl]
 exact zv6 hS.w1 hS.w8 hS.ln λr hr=>⟨(hS.sr r hr).1,((hS.sr r hr).2).mono ↥1⟩
theorem l_q (q:↑124=true):wh.isSome=true∧y.b.d.length+y.c.length≤12:=by
 rw [Bool.and_eq_true] at q
 have:=of_decide_eq_true q.2
 exact ⟨q.1,by omega⟩
theorem zw4 (q:↑124=true):y.b.d.length+y.c.length≤PySem.sizeLine:=zao (by have:=(l_q q).2;omega)
theorem zvW (h:G4 S y):∃ W2:Nat,1≤W2∧W2≤8∧y.b.c.length=W2∧∀ r∈y.b.d++y.c,r.length=W2∧Lat.Bit 100 r:=by
 obtain ⟨W1,W2,hF,hS,hl,hr,_⟩:=h
 refine ⟨W2,hS.w1,hS.w8,hS.bl,λr h'=>?_⟩
 rcases List.mem_append.mp h' with h' | h'
 ·exact ⟨(hS.sr r h').1,((hS.sr r h').2).mono ↥1⟩
 ·exact ⟨(hr r h').1,((hr r h').2).mono ↥1⟩
theorem zwv (h:G4 S y) (q:↑124=true):zb8 ↑72 (y.b.d++y.c):=by
 obtain ⟨W2,h1,h8,e,hr⟩:=zvW h
 have:=(l_q q).2
 exact ⟨by omega,by omega,by rw [List.length_append];omega,λs hs=>by rw [(hr s hs).1,e]⟩
theorem zvv (h:G4 S y) (q:↑124=true):BkQ (zaX ↑72 (y.b.d++y.c)):=by
 obtain ⟨W2,h1,h8,e,hr⟩:=zvW h
 have:=(l_q q).2
 rw [zgG,e]
 exact zv6 h1 h8 (by rw [List.length_append];omega) hr
theorem zwU {W1 W2:Nat} {s:Sd4} {bs:Jq} (L:LS W1 W2 S s bs st) (h1:1≤W1) (h4:W1≤4):BkQ ⟨(W1:Int),st⟩:=by
 have hl:=Lat.zfe L.e (Nat.zero_le W1)
 exact ⟨W1,47334,rfl,h1,by omega,⟨⟨by show st.length≤31;omega,λr hr=>by rw [(L.sd r hr).len];omega⟩,.inr ⟨_,_,Lat.Cb.mark (n:=W1) (ss:=st) ⇑0 ↥1 L.e L.r L.sd⟩⟩,Lat.Cb.self ⇑0 ↥1 L.e L.r L.sd⟩
theorem zul (h:G4 S y) (hF:fo=zaS S) (q:↑124=true):BkQ fo:=by
 obtain ⟨W1,W2,G⟩:=h
 have L:=zuB G
 have:=(l_q q).2
 have z:=g_w G
 rw [hF,L.is]
 exact zwU L G.1.w1 (by rcases G.2.2.2.2.2.1 with k | k<;>omega)
theorem zvg (h:G4 S y) (hF:fo=zaS S) (h2:two=zaX ↑72 ↑174) (hW:wh=zay two) (hR:rs=zay (zaX ↑72 (y.b.d++y.c))) (q:↑124=true):(zay fo).isSome=true∧rs.isSome=true∧gS (zay fo)*gS rs=gS wh:=by
 have q2:=zv7 h h2
 have qj:=zvv h q
 have qf:=zul h hF q
 obtain ⟨W1,W2,G⟩:=h
 have L:=zuB G
 have w:=(l_q q).1
 obtain ⟨hF',hS,hl,hr,_⟩:=id G
 rw [h2,zc0,zgG,hS.bl] at q2
 rw [hF,L.is] at qf
 rw [zgG,hS.bl] at qj
 rw [hW,h2,zc0,zgG,hS.bl,zix (n:=W2) rfl q2] at w
 have c2:(Lat.clm Lat.MG y.b.d).length=W2:=by
  refine Classical.byContradiction λz=>?_
  rw [if_neg z] at w;cases w
 obtain ⟨i1,i2,i3⟩:=zqb hl (λr h'=>(hr r h').1) (λr h'=>(hS.sr r h').1) L.tl L.e L.sp c2
 rw [hW,hR,hF,L.is,h2,zc0,zgG,zgG,hS.bl,zix (n:=W1) rfl qf,zix (n:=W2) rfl qj,zix (n:=W2) rfl q2]
 have cf:Lat.clm Lat.MG (Lat.zd0 W2 (Lat.clm Lat.MG (Lat.zdk W1 y.c y.b.d)))=Lat.zd0 W2 (Lat.clm Lat.MG (Lat.zdk W1 y.c y.b.d)):=Lat.zmw L.e L.r
 rw [cf,if_pos i1,if_pos i2,if_pos c2]
 exact ⟨rfl,rfl,i3⟩
theorem zwA {o:Option Int} (q:o.isNone=false):o.isSome=true:=by cases o<;>simp_all
theorem zwN (q:↑124=true):wh.isSome=true:=(l_q q).1
theorem zwQ (h:G4 S y) (hF:fo=zaS S) (h2:two=zaX ↑72 ↑174) (hW:wh=zay two) (hR:rs=zay (zaX ↑72 (y.b.d++y.c))) (q:↑124=true):zcK (gS (zay fo)) (gS rs):=by
 obtain ⟨s1,s2,_⟩:=zvg h hF h2 hW hR q
 obtain ⟨a,ha⟩:=Option.isSome_iff_exists.mp s1
 obtain ⟨b,hb⟩:=Option.isSome_iff_exists.mp s2
 rw [ha,hb]
 rw [hR] at hb
 exact Lat.zcK.of (zlT (zul h hF q) ha) (zlT (zvv h q) hb) ↥1 ↥1
theorem ztx {xs l:Ji} {lo hi:Option Int} (h:xs.length≤63) (hl:l.length≤100):(zbI xs lo hi).length+l.length≤PySem.sizeLine:=zao (by have:(zbI xs lo hi).length≤xs.length:=(by unfold zbI;rw [List.length_take,List.length_drop];omega);omega)
theorem zpG {f s:Sd4} {bs:Jq} {W1 W2:Nat} (G:G74 S f s bs W1 W2) (L:LS W1 W2 S s bs st):m_law_all_lost f s bs st=true:=by
 unfold m_law_all_lost
 rw [zeU λx hx=>by
  have hl:=(G.1.sr x hx).1
  have:(zaI st x).any (· != 0)=false:=(zq5 L hl).mpr ((L.sp x hl).mpr (by rw [← (zto G hl).2.2,(zto G hl).2.1];exact G.2.2.2.2.1 x hl (Lat.SpL.mem hx)))
  rw [this];rfl]
 show LetR (loopR _ () f.a) _ _=true
 rw [zeU λx hx=>by
  have hl:=G.1.du.r x hx
  obtain ⟨k1,k2,k3⟩:=zto G hl
  have:(zaI st (↑0 (λ(y:Int)=>(zaZ s ↑104*y)) x)).any (· != 0)=false:=by
   refine (zq5 L (by rw [List.length_map,hl])).mpr ((L.sp _ (by rw [List.length_map,hl])).mpr ?_)
   refine (zpB G.2.1 k1).conv λi=>?_
   rw [k3,show Lat.vec (↑0 (λ(y:Int)=>(zaZ s ↑104*y)) x)=λj=>(λ_=>(0:Int)) j+zaZ s ↑104*Lat.vec x j from funext λj=>by rw [ztp];dsimp only;omega,Lat.zir _ i,Lat.zfZ];omega
  unfold Let
  dsimp only
  rw [this];rfl]
 rfl
theorem zmL {f s:Sd4} {bs:Jq} {W1 W2:Nat} {c:Int} (G:G74 S f s bs W1 W2) (L:LS W1 W2 S s bs st):m_law_drawn f s bs st c=true:=by
 have hD:DrP f s bs st:=⟨S,W1,W2,G,L⟩
 unfold m_law_drawn
 refine zeM λb0 h0=>zeM λb1 h1=>zeM λb2 h2=>zeM λmd hm=>zeM λls hl=>?_
 have hb:=zwe (zvM hD h0 h1) h2
 have hx:b2.length=W1:=by rw [hb.1,G.1.bl]
 rw [hl,hm,decide_eq_true_iff]
 refine Bool.eq_iff_iff.mpr ?_
 rw [zwh G L hx,← zq5 L hx]
 simp
end
noncomputable def m_law (P0:Ji):Bool :=
 (Let (m_law_pair P0) (λ(p462:(T3 ↥8 ↥8 Jq)) =>
 (Let (zaX ↑45 (↑0 (λ(x463:Ji)=>x463) p462.a.d)) (λ(v466:BookD) =>
 (Let (zaX ↑30 (↑0 (λ(x467:Ji)=>x467) p462.b.d)) (λ(v470:BookD) =>
 (Let (m_Sender v466 v470 (↑0 (λ(x471:Ji)=>x471) p462.c)) (λ(v474:SenderD) =>
 (Let (zaS v474 ) (λ(v475:BookD) =>
 (Let v475.swaps (λ(v476:Jq) =>
 (bif ((!decide (v475.many=↑45))||(!(zbb v476 ↑45))) then false
 else (LetR (loopR (λ(s478:Unit) (x479:Ji)=>(((bif (!(za5 p462.b.b p462.b.c (zaF p462.c x479 ↑30))) then ↑27
 else ↑28)):(Unit) ⊕ Bool)) () v476) (λ(r484:Unit) =>
 (bif (!(m_law_all_lost p462.a p462.b p462.c v476)) then false
 else (LetR (loopR (λ(s486:Unit) (x487:Int)=>(((bif (!(m_law_drawn p462.a p462.b p462.c v476 x487)) then ↑27
 else ↑28)):(Unit) ⊕ Bool)) () ((zbI P0 (some (3:Int)) (some ((4:Int)+((20:Int)/(↑45+↑30)))))++[(1:Int),(2:Int)])) (λ(r492:Unit) =>
 (Let (zay v470) (λ(v493:(Option Int)) =>
 (bif (v493.isSome && (decide ((((p462.b.d.length:Nat):Int)+((p462.c.length:Nat):Int))≤(12:Int)))) then (Let (zay (zaX ↑30 (p462.b.d++p462.c))) (λ(v495:(Option Int)) =>
 (bif ((zay v475).isNone||(!decide (((gS (zay v475))*(gS v495))=(gS v493)))) then false
 else ((decide ((zaS v474).swaps=v476)) && (decide (v474.baskets=p462.c))))))
 else ((decide ((zaS v474).swaps=v476)) && (decide (v474.baskets=p462.c))))))) (λb=>b)))) (λb=>b)))))))))))))))
def zk9 (P0:Ji):Prop:=P0.length≤63
def zqO (K:W.Frag) (A:Adr):Sp:=Spv (ι:=Ji) (λx=>[dQ K (↑0 dI x)]) (λx=>zk9 x) (λx=>↥[dB (m_law x)])
theorem zeY:FnScope ↑245 ["_law_script"] (zai ziP):=↥5
theorem ztL (F:Fun K "law" "law" ziP f fd) (T:Txt K mg A) (yaB:CalleeM P w K mg base ⇑1 7 A.Sender "lost" ["self"] (zeB K A)) (yaN:Callee P w K mg base ⇑1 3 "_law_all_lost" ["_law_first","_law_second","_law_baskets","_law_steps"] (zfI K A)) (yaD:Callee P w K mg base ⇑1 2 "_law_are_stairs" ["_law_steps","_law_wide"] (zeZ K A)) (ybf:Callee P w K mg base ⇑1 3 "_law_drawn" ["_law_first","_law_second","_law_baskets","_law_steps","_law_cell_here"] (zhi K A)) (yam:Callee P w K mg base ⇑1 2 "_law_nothing" ["_law_duals","_law_bottoms_here","_law_basket"] (zeF K A)) (ybt:Callee P w K mg base ⇑1 4 "_law_pair" ["_law_script"] (zit K A)) (yaj:Callee P w K mg base ⇑1 1 "_law_sums" ↑201 (ze7 K A)) (yaV:Callee P w K mg base ⇑1 3 "book_of" ["many","swaps"] (zji K A)) (yap:Callee P w K mg base ⇑1 9 "many_homes" ["book"] (zgx K A)) {ydb:Addr} {ycS:FuncData} (yce:Mk K A.Sender ydb) (yay:FnOk P w K mg base ⇑1 7 ydb ycS ["self","first","second","baskets"] (zey K A)) (yaz:zf5 K ycS ["self","first","second","baskets"] []):FnOk P w K mg base ⇑1 10 f fd ["_law_script"] (zqO K A):=by
 refine F.okV zeY ⇑5 ↑61
 have hu:=hr.units
 replace hp:zk9 P0:=hp
 unfold zk9 at hp
 refine ⟨_,(zab (zhj (zaN ybt ↑2 rfl zaK ↑[pv 0]) (zbd (K:=K) (n:=3) rfl rfl (zaD (zal (i:=1) zeY.nd rfl (↥0 rfl) (↥0 rfl)) (zaD (zal (i:=2) zeY.nd rfl (↥0 rfl) (↥0 rfl)) (zaD (zal (i:=3) zeY.nd rfl (↥0 rfl) (↥0 rfl)) zbL))))) (zab (zap (i:=4) zeY.nd rfl (↥0 rfl) (zaN yaV ↑2 rfl zaK ↑[↑145,(zb9 rfl (.of (osc:=(zai ziP)) (N:=↑245) (own:=["_law_swap"]) (fvn:=[]) (fv:=[]) rfl rfl ↑6) (zaM (K:=K) rfl ↑198) (λ_ _ _ _ _=>⟨(zal (i:=0) (show (["_law_swap"]:List Str).Nodup by decide+kernel) rfl (↥0 rfl) ⇑7),za7,↑160⟩))])) (zab (zap (i:=5) zeY.nd rfl (↥0 rfl) (zaN yaV ↑2 rfl zaK ↑[↑218,(zb9 rfl (.of (osc:=(zai ziP)) (N:=↑245) (own:=["_law_swap"]) (fvn:=[]) (fv:=[]) rfl rfl ↑6) (zaM (K:=K) rfl ↑199) (λ_ _ _ _ _=>⟨(zal (i:=0) (show (["_law_swap"]:List Str).Nodup by decide+kernel) rfl (↥0 rfl) ⇑7),za7,↑160⟩))])) (zab (zap (i:=6) zeY.nd rfl (↥0 rfl) (zjP yce yay ↑2 rfl T.Sender yaz .nil zaK ↑[pv 4,pv 5,(zb9 rfl (.of (osc:=(zai ziP)) (N:=↑245) (own:=["_law_basket"]) (fvn:=[]) (fv:=[]) rfl rfl ↑6) (zaM (K:=K) rfl (pv 3)) (λ_ _ _ _ _=>⟨(zal (i:=0) (show (["_law_basket"]:List Str).Nodup by decide +kernel) rfl (↥0 rfl) ⇑7),za7,↑160⟩))])) (zab (zap (i:=7) zeY.nd rfl (↥0 rfl) (zlk (pv 6) T.Sender_cl yaB ↑2 zaK)) (zab (zap (i:=8) zeY.nd rfl (↥0 rfl) (zaU (K:=K) rfl (pv 7) rfl)) (zab (zbQ (PW.pt (zjt (zaG zfn (zaU (K:=K) rfl (pv 7) rfl) ↑145 (zaQ _)) (zhn (zhl (zfD (zaN yaD ↑2 rfl zaK ↑[pv 8,↑145])))))) ↑48 zae) (zab (zbx ↑11 rfl (zaM (K:=K) rfl (pv 8)) (zal (i:=9) zeY.nd rfl (↥0 rfl) (↥0 rfl)) (zab (zbQ (zhl (zfD (zaN yam ↑2 rfl zaK ↑[↑199,↑199,(zaN yaj ↑2 rfl zaK ↑[pv 3,pv 9,↑218])]))) ↑48 zae) zae)) (zab (zbQ (zhl (zfD (zaN yaN ↑2 rfl zaK ↑[pv 1,pv 2,pv 3,pv 8]))) ↑48 zae) (zab (zbx ↑11 rfl (zaM (K:=K) rfl (zav zeR (zch ↑66 (pv 0) (zcM zag) (zcM (zav zbX zag (zav zbo zag (zav zbX ↑145 ↑218))))) (zca ↑[zag,zag]))) (zal (i:=10) zeY.nd rfl (↥0 rfl) (↥0 rfl)) (zab (zbQ (zhl (zfD (zaN ybf ↑2 rfl zaK ↑[pv 1,pv 2,pv 3,pv 8,pv 10]))) ↑48 zae) zae)) (zab (zap (i:=11) zeY.nd rfl (↥0 rfl) (zaN yap ↑2 rfl zaK ↑[pv 5])) (zab (zbQ (PW.pt (zik (zaG zoC (pv 11) zk0 (zaQ _)) (zgd (zaG zsf (zav zbX ↑218 ↑228) zag (zaQ _))))) (zab (zap (i:=12) zeY.nd rfl (↥0 rfl) (zaN yap ↑2 rfl zaK ↑[(zaN yaV ↑2 rfl zaK ↑[↑218,(zav zeR ↑199 (pv 3))])])) (zab (zbQ (PW.pt (zjt (zaG zsz (zaN yap ↑2 rfl zaK ↑[pv 7]) zk0 (zaQ _)) (zhn (zaG zfn (zav zbh (zaN yap ↑2 rfl zaK ↑[pv 7]) (pv 12)) (pv 11) (zaQ _))))) ↑48 zae) zae)) zae) (zab (zaL (ztt (zio (zoN (K:=K) rfl hu) (zaU (K:=K) rfl (zlk (pv 6) T.Sender_cl yaB ↑2 zaK) rfl) (pv 8) (zaQ _)) (ztj (zio (zoN (K:=K) rfl hu) (zaU (K:=K) rfl (pv 6) rfl) (pv 3) (zaQ _))))) zae))))))))))))),.inl ?_⟩
 show L2.Run _ ([⇑[dQ K ↑14],.no,.no,.no,.no,.no,.no,.no,.no,.no,.no,.no,.no]:L2.Ctx) _ (↑8 (m_law P0))
 unfold m_law
 exact (zjw (m:=true) (x:=(m_law_pair P0)) (λ(p462:(T3 ↥8 ↥8 Jq))=>dT [dL (↑0 lI p462.a.a),dL (↑0 lI p462.a.b),dL (↑0 dI p462.a.c),dL (↑0 lI p462.a.d)]) (λ(p462:(T3 ↥8 ↥8 Jq))=>dT [dL (↑0 lI p462.b.a),dL (↑0 lI p462.b.b),dL (↑0 dI p462.b.c),dL (↑0 lI p462.b.d)]) (λ(p462:(T3 ↥8 ↥8 Jq))=>dL (↑0 lI p462.c)) ↑8 (zam (x:=P0) (zac ↥2 zah) rfl (by show zeo P0;exact hp) rfl) (λp462 hp462=>have hP:=zo9 hp462;(zaq (m:=true) (x:=(zaX ↑45 (↑0 (λ(x463:Ji)=>x463) p462.a.d))) (zbG A.Book) ↑8 (zam (x:=(↑45,(↑0 (λ(x463:Ji)=>x463) p462.a.d))) (zac (zaV (f:=dI) (xs:=p462.a.c) (Ev.old ↑84)) (zac (Ev.weak (K:=K) (EvO.ev (EvO.conv (zbJ (g:=(λ(x463:Ji)=>dL (↑0 dI x463))) (za6 (m:=true) lI (xs:=p462.a.d) ↑84) ↥((zvz hP).1) ⇑4 (λi464 x463 hx465=>have v465:=List.mem_of_getElem? hx465;(EvO.ev (EvO.anyI (m:=true) (zfp ↑26))))) ↑12))) zah)) rfl (by show zb8 ↑45 (↑0 (λ(x463:Ji)=>x463) p462.a.d);exact zwW hP) rfl) (λv466 hv466=>have h1:=hv466;(zaq (m:=true) (x:=(zaX ↑30 (↑0 (λ(x467:Ji)=>x467) p462.b.d))) (zbG A.Book) ↑8 (zam (x:=(↑30,(↑0 (λ(x467:Ji)=>x467) p462.b.d))) (zac (zaV (f:=dI) (xs:=p462.b.c) (Ev.old ↑125)) (zac (Ev.weak (K:=K) (EvO.ev (EvO.conv (zbJ (g:=(λ(x467:Ji)=>dL (↑0 dI x467))) (za6 (m:=true) lI (xs:=p462.b.d) ↑125) ↥((zvz hP).2.1) ⇑4 (λi468 x467 hx469=>have v469:=List.mem_of_getElem? hx469;(EvO.ev (EvO.anyI (m:=true) (zfp ↑26))))) ↑12))) zah)) rfl (by show zb8 ↑30 (↑0 (λ(x467:Ji)=>x467) p462.b.d);exact zws hP) rfl) (λv470 hv470=>have h2:=hv470;(zaq (m:=false) (x:=(m_Sender v466 v470 (↑0 (λ(x471:Ji)=>x471) p462.c))) (zdE A A.Sender) ↑8 (zp3 (x:=(v466,v470,(↑0 (λ(x471:Ji)=>x471) p462.c))) (zac (Ev.old ↑105) (zac (Ev.old ↑94) (zac (Ev.weak (K:=K) (EvO.ev (EvO.conv (zbJ (g:=(λ(x471:Ji)=>dL (↑0 dI x471))) (za6 (m:=true) lI (xs:=p462.c) ↑17) ↥((zvz hP).2.2) ⇑4 (λi472 x471 hx473=>have v473:=List.mem_of_getElem? hx473;(EvO.ev (EvO.anyI (m:=true) (zfp ↑26))))) ↑12))) zah))) rfl (by show zcq v466 v470 (↑0 (λ(x471:Ji)=>x471) p462.c);exact zwu hP h1 h2)) (λv474 hv474=>have hG:=l_g hP h1 h2 hv474;(zaq (m:=true) (x:=(zaS v474 )) (zbG A.Book) ↑8 (zhI (x:=(v474)) ↑40 zah rfl (by show zcf v474;exact hG.lo) rfl rfl) (λv475 hv475=>have hF:=hv475;(zaq (m:=true) (x:=v475.swaps) ↑114 ↑8 (zbC ↑75 T.Book_cl T.Book_swaps rfl) (λv476 hv476=>have hS:=zvV hG hF hv476;(zaW (b:=((!decide (v475.many=↑45))||(!(zbb v476 ↑45)))) ↑8 (zgN (b:=(!decide (v475.many=↑45))) (zau (zdX (x:=v475.many) (y:=↑45) (Ev.any (m:=true) (zbC ↑75 T.Book_cl T.Book_many rfl)) (zaV (f:=dI) (xs:=p462.a.c) (Ev.old ↑84)))) (λhb=>(zft (zeh (Ev.any (m:=true) (zam (x:=(v476,↑45)) (zac (Ev.old ↑106) (zac (zaV (f:=dI) (xs:=p462.a.c) (Ev.old ↑84)) zah)) rfl (by show zcE v476 ↑45;exact zwY hS) rfl)))))) (λh477=>↑65) (λh477=>(zat (zc9 (s0:=()) (λ(s478:Unit)=>↑240) ↑8 (λb=>b) (λ(s478:Unit) (x479:Ji)=>(((bif (!(za5 p462.b.b p462.b.c (zaF p462.c x479 ↑30))) then ↑27 else ↑28)):(Unit) ⊕ Bool)) ↑68 ↑90 (za6 (m:=true) lI (xs:=v476) (Ev.weak (K:=K) ↑106)) ↑150 trivial (λi480 x479 s478 hx481 hI482=>have v481:=List.mem_of_getElem? hx481;⟨↑120,(zaW (b:=(!(za5 p462.b.b p462.b.c (zaF p462.c x479 ↑30)))) (zeg (λ(s478:Unit)=>↑240) ↑8) (zft (zeh (Ev.any (m:=true) (zam (x:=(p462.b.b,p462.b.c,(zaF p462.c x479 ↑30))) (zac (Ev.old ↑125) (zac (Ev.old ↑125) (zac (Ev.old (Ev.weak (K:=K) (zam (x:=(p462.c,x479,↑30)) (zac (Ev.old ↑17) (zac (Ev.old (Ev.weak (K:=K) ↑144)) (zac (zaV (f:=dI) (xs:=p462.b.c) (Ev.old ↑125)) zah))) rfl (by show zdl p462.c x479 ↑30;exact zwG hS ↑1) rfl))) zah))) rfl (by show zcJ p462.b.b p462.b.c (zaF p462.c x479 ↑30);exact zwn hS ↑1) rfl)))) (λh483=>↑65) (λh483=>(zat (zan (.eq (.eq (.eq (.eq (.eq (.eq (.eq (.eq (.eq (.no ↑74))))))))))))))⟩) (λr484 hr484 hI=>(zaW (b:=(!(m_law_all_lost p462.a p462.b p462.c v476))) ↑8 (zft (zeh (Ev.any (m:=true) (zam (x:=(p462.a,p462.b,p462.c,v476)) (zac (Ev.old ⇑8) (zac (Ev.old ↑31) (zac (Ev.old ↑17) (zac (Ev.old (Ev.weak (K:=K) ↑106)) zah)))) rfl (by show zdb p462.a p462.b p462.c v476;exact zvX hS) rfl)))) (λh485=>↑65) (λh485=>(zat (zc9 (s0:=()) (λ(s486:Unit)=>↑240) ↑8 (λb=>b) (λ(s486:Unit) (x487:Int)=>(((bif (!(m_law_drawn p462.a p462.b p462.c v476 x487)) then ↑27 else ↑28)):(Unit) ⊕ Bool)) ↑68 ↑90 (za6 (m:=true) dI (xs:=((zbI P0 (some (3:Int)) (some ((4:Int)+((20:Int)/(↑45+↑30)))))++[(1:Int),(2:Int)])) (Ev.weak (K:=K) (EvO.ev (zdG (f:=dI) (xs:=(zbI P0 (some (3:Int)) (some ((4:Int)+((20:Int)/(↑45+↑30)))))) (ys:=[(1:Int),(2:Int)]) (EvO.ev (EvO.anyI (m:=false) (zdj (f:=dI) (xs:=P0) ↥2 (zb5 zaJ) (zb5 (zaP (x:=(4:Int)) (y:=((20:Int)/(↑45+↑30))) zaJ (zaH (x:=(20:Int)) (y:=(↑45+↑30)) zaJ (zaP (x:=↑45) (y:=↑30) (zaV (f:=dI) (xs:=p462.a.c) (Ev.old ↑84)) (zaV (f:=dI) (xs:=p462.b.c) (Ev.old ↑125))) ↥(zwp hG))))))) (EvO.ev (zdm (zac zaJ ↑51) ↑130)) ↥(ztx hp ↥1))))) ↑150 trivial (λi488 x487 s486 hx489 hI490=>have v489:=List.mem_of_getElem? hx489;⟨↑120,(zaW (b:=(!(m_law_drawn p462.a p462.b p462.c v476 x487))) (zeg (λ(s486:Unit)=>↑240) ↑8) (zft (zeh (Ev.any (m:=true) (zam (x:=(p462.a,p462.b,p462.c,v476,x487)) (zac (Ev.old ⇑8) (zac (Ev.old ↑31) (zac (Ev.old ↑17) (zac (Ev.old (Ev.weak (K:=K) ↑106)) (zac ↑233 zah))))) rfl (by show zd8 p462.a p462.b p462.c v476 x487;exact zvX hS) rfl)))) (λh491=>↑65) (λh491=>(zat (zan (.eq (.eq (.eq (.eq (.eq (.eq (.eq (.eq (.eq (.eq (.no (.eq (.eq .nil)))))))))))))))))⟩) (λr492 hr492 hI=>(zaq (m:=true) (x:=(zay v470)) (dOpt dI) ↑8 (zam (x:=v470) (zac (Ev.old ↑94) zah) rfl (by show zb7 v470;exact zv7 hG h2) rfl) (λv493 hv493=>have hW:=hv493;(zaW (b:=(v493.isSome && (decide ((((p462.b.d.length:Nat):Int)+((p462.c.length:Nat):Int))≤(12:Int))))) ↑8 (zgi (b:=v493.isSome) (zau (zhm (x:=v493) (f:=dI) (Ev.old (zaa (i:=11) rfl)) zaJ NN.int)) (λhb=>(zau (zaP (x:=(((p462.b.d.length:Nat):Int)+((p462.c.length:Nat):Int))) (y:=(12:Int)) (zaP (x:=((p462.b.d.length:Nat):Int)) (y:=((p462.c.length:Nat):Int)) (zaV (f:=lI) (xs:=p462.b.d) (Ev.old ↑125)) (zaV (f:=lI) (xs:=p462.c) (Ev.old ↑17))) zaJ)))) (λh494=>(zax (zaq (m:=true) (x:=(zay (zaX ↑30 (p462.b.d++p462.c)))) (dOpt dI) ↑8 (zam (x:=(zaX ↑30 (p462.b.d++p462.c))) (zac (Ev.old (zam (x:=(↑30,(p462.b.d++p462.c))) (zac (zaV (f:=dI) (xs:=p462.b.c) (Ev.old ↑125)) (zac (Ev.old (Ev.weak (K:=K) (EvO.ev (zdG (f:=lI) (xs:=p462.b.d) (ys:=p462.c) (za1 ↑31 zaJ rfl) ↑33 ↥(zw4 ↑129))))) zah)) rfl (by show zb8 ↑30 (p462.b.d++p462.c);exact zwv hG ↑129) rfl)) zah) rfl (by show zb7 (zaX ↑30 (p462.b.d++p462.c));exact zvv hG ↑129) rfl) (λv495 hv495=>have hR:=hv495;(zax (zaW (b:=((zay v475).isNone||(!decide (((gS (zay v475))*(gS v495))=(gS v493))))) ↑8 (zgN (b:=(zay v475).isNone) (zau (zoH (x:=(zay v475)) (f:=dI) (Ev.old (zam (x:=v475) (zac (Ev.old ↑75) zah) rfl (by show zb7 v475;exact zul hG hF ↑129) rfl)) zaJ NN.int)) (λhb=>(zau (zdX (x:=((gS (zay v475))*(gS v495))) (y:=(gS v493)) (zaH (x:=(gS (zay v475))) (y:=(gS v495)) (Ev.old (ev_some (f:=dI) (x:=(zay v475)) (zam (x:=v475) (zac (Ev.old ↑75) zah) rfl (by show zb7 v475;exact zul hG hF ↑129) rfl) ↥(zwA ↑129))) (Ev.old (ev_some (f:=dI) (x:=v495) (zaa (i:=12) rfl) ↥((zvg hG hF h2 hW hR ↑129).2.1))) ↥(zwQ hG hF h2 hW hR ↑129)) (Ev.old (ev_some (f:=dI) (x:=v493) (zaa (i:=11) rfl) ↥(zwN ↑129))))))) (λh496=>↑65) (λh496=>(zat (zat (zaj (zaA (zqy (b:=(decide ((zaS v474).swaps=v476))) (zlW (n:=1) (neg:=false) (xs:=(zaS v474).swaps) (ys:=v476) (EqD.list EqD.int) (Ev.old (Ev.weak (K:=K) (zbC (zhI (x:=(v474)) ↑40 zah rfl (by show zcf v474;exact hG.lo) rfl rfl) T.Book_cl T.Book_swaps rfl))) (Ev.old (Ev.weak (K:=K) ↑106))) (λhb=>(zlW (n:=1) (neg:=false) (xs:=v474.baskets) (ys:=p462.c) (EqD.list EqD.int) (Ev.weak (K:=K) (zbC ↑40 T.Sender_cl T.Sender_baskets rfl)) (Ev.old ↑17))))))))))))))) (λh494=>(zat (zaj (zaA (zqy (b:=(decide ((zaS v474).swaps=v476))) (zlW (n:=1) (neg:=false) (xs:=(zaS v474).swaps) (ys:=v476) (EqD.list EqD.int) (Ev.old (Ev.weak (K:=K) (zbC (zhI (x:=(v474)) ↑40 zah rfl (by show zcf v474;exact hG.lo) rfl rfl) T.Book_cl T.Book_swaps rfl))) (Ev.old (Ev.weak (K:=K) ↑106))) (λhb=>(zlW (n:=1) (neg:=false) (xs:=v474.baskets) (ys:=p462.c) (EqD.list EqD.int) (Ev.weak (K:=K) (zbC ↑40 T.Sender_cl T.Sender_baskets rfl)) (Ev.old ↑17)))))))))))))))))))))))))))))))))
theorem zps {α β γ:Type} {x:α} {f:α->γ} {g:β->γ}:LetR (Sum.inl x) f g=f x:=rfl
theorem zqj (xs:Ji) (hp:xs.length≤63):m_law xs=true:=by
 unfold m_law
 refine zeM λy hy=>zeM λone h1=>zeM λtwo h2=>zeM λS h3=>zeM λfo hF=>zeM λst hS=>?_
 have hP:=zo9 hy
 have hG:=l_g hP h1 h2 h3
 have hH:=zvV hG hF hS
 obtain ⟨W1,W2,G,L⟩:=id hH
 have bl:=G.1.bl
 have e1:fo.many=↑132:=by rw [hF,L.is,bl]
 have e2:zbb st ↑132=true:=by rw [bl];exact zlB L.e L.r
 have fin:(decide ((zaS S).swaps=st)&&decide (S.baskets=y.c))=true:=by
  have:S.baskets=y.c:=by rw [G.2.2.2.2.2.2]
  rw [this,← hF,← hS];simp
 rw [e1,e2,decide_eq_true rfl,zeU λx hx=>by
  rw [(zwh G L (L.sd x hx).len).mpr (Lat.SpL.mem hx)];rfl]
 show (bif (!(m_law_all_lost y.a y.b y.c st)) then false else _)=true
 rw [zpG G L]
 show LetR (loopR _ () _) _ _=true
 rw [zeU λx _=>by rw [zmL G L];rfl]
 rw [zps]
 refine zeM λwh hW=>?_
 cases q:↑124 with
 | false=>rw [cond_false];exact fin
 | true =>
  rw [cond_true]
  refine zeM λrs hR=>?_
  obtain ⟨c1,c2,c3⟩:=zvg hG hF h2 hW hR q
  rw [show (zay fo).isNone=false by cases hh:zay fo<;>simp_all,decide_eq_true c3]
  exact fin
def zpL (K:W.Frag):Sp:=λvs H Q _=>∃ (a:Addr) (ns:Ji),vs=[.ref a]∧SqL K H a ↑53∧ns.length≤63∧∀ H',Q (.bl true) H'
theorem zsI {K:W.Frag} {A:Adr} {vs:List V} {H:Hp} {Q:VK} {E:XK} (h:zpL K vs H Q E):zqO K A vs H Q E:=by
 obtain ⟨a,ns,rfl,hS,hl,q⟩:=h
 refine ⟨ns,H,Same.refl _,.cons ⟨a,_,rfl,hS,?_⟩ .nil,hl,λv F' H' _ hv=>?_⟩
 ·clear hS hl
  induction ns with
  | nil=>exact .nil
  | cons n ns ih=>exact .cons rfl ih
 ·have hv:v=.bl (m_law ns):=hv
  rw [hv,zqj ns hl]
  exact q _
def FB (K:W.Frag) (f:Addr) (n:Str) (st:Stmt):Prop:=W.nsIn K mainGlobals n=some (some (.ref f))∧FA K f n n st
theorem FB.gm {K:W.Frag} {f:Addr} {n:Str} {st:Stmt} {oc kV dc pm cd ct:Value} {od an:Option Addr} {sl:Array (Option Value)} (a:W.nsIn K mainGlobals n=some (some (.ref f))) (l:K.lookup f=some ⟨oc,od,.func (W.fnOf n n (zgg st) (zeE st) (zai st) .none kV dc pm an cd ct),sl⟩) (c:W.codeIn K cd n=true) (k:W.keepIn K (.ref f)=true):FB K f n st:=⟨a,FA.m l c k⟩
theorem zs3 {l:W.OpenLaw} {w:World} {K:W.Frag} {h:Heap} {mg:Str->Option Value} {fa f0 f1 f2 f3 f4 f5 f6 f7 f8 f9 f10 f11 f12 f13 f14 f15 f16 f17 f18 f19 f20 f21 f22 f23 f24 f25 f26 f27 f28 f29 f30 f31 f32 f33 f34 f35 f36 f37 f38 f39 f40 f41 f42 f43 f44 f45 f46 f47 f48 f49 f50 f51 f52 f53 f54 yar yav yaF yaA yac yaf :Addr} (X:K.In h) (G:h.Ns mainGlobals mg) (hfa:mg "law"=some (.ref fa))
  {ya2 ya1:Tok}
  (ycw:W.nsIn K mainGlobals "Book"=some (some (.ref yar)))
  (ycf:W.nsIn K mainGlobals "Scale"=some (some (.ref yav)))
  (ycx:W.nsIn K mainGlobals "Line"=some (some (.ref yaF)))
  (ycy:W.nsIn K mainGlobals "Rest"=some (some (.ref yaA)))
  (ybK:W.nsIn K mainGlobals "Sender"=some (some (.ref yac)))
  (ybL:W.nsIn K mainGlobals "Stairs"=some (some (.ref yaf)))
  (q0:FB K f0 "refuse_unlike" zej)
  (q1:FB K f1 "plus" zmj)
  (q2:FB K f2 "less" zmv)
  (q3:FB K f3 "times" zjx)
  (q4:FB K f4 "weighed" zgA)
  (q5:FB K f5 "head_of" ziA)
  (q6:FB K f6 "common" zj6)
  (q7:FB K f7 "upright" ziI)
  (q8:FB K f8 "lowered" zhF)
  (q9:FB K f9 "merged" zj4)
  (q10:FB K f10 "taken_in" zha)
  (q11:FB K f11 "settled" zhN)
  (q12:FB K f12 "climbed" zh7)
  (q13:FB K f13 "marked" zjV)
  (q14:FB K f14 "padded" zhz)
  (q15:FB K f15 "traced" zjW)
  (q16:FB K f16 "tails" zjq)
  (q17:FB K f17 "book_of" zib)
  (q18:FB K f18 "refuse_bad_basket" zde)
  (q19:FB K f19 "levelled" zgR)
  (q20:FB K f20 "shown" zh6)
  (q21:FB K f21 "refuse_bad_baskets" zc2)
  (q22:FB K f22 "stairs" zff)
  (q23:FB K f23 "head_numbers" zdQ)
  (q24:FB K f24 "product" zid)
  (q25:FB K f25 "many_homes" zfF)
  (q26:FB K f26 "_law_cell" zg4)
  (q27:FB K f27 "_law_raw" zhX)
  (q28:FB K f28 "_law_thing" zgc)
  (q29:FB K f29 "_law_frame" zdf)
  (q30:FB K f30 "_law_bottoms" zfd)
  (q31:FB K f31 "_law_stirred" zcn)
  (q32:FB K f32 "_law_side" zhd)
  (q33:FB K f33 "_law_shared" zfz)
  (q34:FB K f34 "_law_images" zep)
  (q35:FB K f35 "_law_wares_sent" zdd)
  (q36:FB K f36 "_law_pair" zfJ)
  (q37:FB K f37 "_law_sums" zf1)
  (q38:FB K f38 "_law_shares" zfA)
  (q39:FB K f39 "_law_nothing" zfc)
  (q40:FB K f40 "_law_wholes" zfG)
  (q41:FB K f41 "_law_head" zhe)
  (q42:FB K f42 "_law_are_stairs" zd3)
  (q43:FB K f43 "_law_brought" zeb)
  (q44:FB K f44 "_law_often" zgj)
  (q45:FB K f45 "_law_all_lost" zdP)
  (q46:FB K f46 "_law_count" zgm)
  (q47:FB K f47 "_law_drawn" zdH)
  (q48:FB K f48 "law" ziP)
  (ybu:W.findIn K (.ref yac) "sent"=some (some (.ref f49)))
  (i49:W.isFn K (.ref f49)=true)
  (q49:FA K f49 "sent" "Sender.sent" ze4)
  (ybv:W.findIn K (.ref yac) "climb"=some (some (.ref f50)))
  (i50:W.isFn K (.ref f50)=true)
  (q50:FA K f50 "climb" "Sender.climb" zeH)
  (ybw:W.findIn K (.ref yac) "lost"=some (some (.ref f51)))
  (i51:W.isFn K (.ref f51)=true)
  (q51:FA K f51 "lost" "Sender.lost" ze3)
  (a52:W.findIn K (.ref yar) "__init__"=some (some (.ref f52)))
  (i52:W.isFn K (.ref f52)=true)
  (q52:FA K f52 "__init__" "Book.__init__" zdx)
  (a53:W.findIn K (.ref yac) "__init__"=some (some (.ref f53)))
  (i53:W.isFn K (.ref f53)=true)
  (q53:FA K f53 "__init__" "Sender.__init__" zcY)
  (a54:W.findIn K (.ref yaf) "__init__"=some (some (.ref f54)))
  (i54:W.isFn K (.ref f54)=true)
  (q54:FA K f54 "__init__" "Stairs.__init__" zdC)
  (ycz:W.plainGet K yar Str.empty=true)
  (ycA:W.hasDictIn K yar=true)
  (ycB:W.plainOver K yar=true)
  (ycC:W.findIn K (.ref yar) "__setattr__"=some ↑146)
  (ycD:W.makesIn K yar=true)
  (ycE:W.keepIn K (.ref yar)=true)
  (ybg:W.findIn K (.ref yar) "many"=some none)
  (ya5:W.findIn K (.ref yar) "swaps"=some none)
  (ycg:W.plainGet K yav Str.empty=true)
  (ych:W.hasDictIn K yav=true)
  (yci:W.plainOver K yav=true)
  (ycj:W.findIn K (.ref yav) "__setattr__"=some ↑146)
  (ydc:W.makesIn K yav=true)
  (ydd:W.keepIn K (.ref yav)=true)
  (yaG:W.findIn K (.ref yav) "weights"=some none)
  (ycF:W.plainGet K yaF Str.empty=true)
  (ycG:W.hasDictIn K yaF=true)
  (ycH:W.plainOver K yaF=true)
  (ycI:W.findIn K (.ref yaF) "__setattr__"=some ↑146)
  (ydw:W.makesIn K yaF=true)
  (ydx:W.keepIn K (.ref yaF)=true)
  (yaO:W.findIn K (.ref yaF) "weights"=some none)
  (ycJ:W.plainGet K yaA Str.empty=true)
  (ycK:W.hasDictIn K yaA=true)
  (ycL:W.plainOver K yaA=true)
  (ycM:W.findIn K (.ref yaA) "__setattr__"=some ↑146)
  (ydy:W.makesIn K yaA=true)
  (ydz:W.keepIn K (.ref yaA)=true)
  (yaP:W.findIn K (.ref yaA) "weights"=some none)
  (ybh:W.findIn K (.ref yaA) "rest"=some none)
  (ybM:W.plainGet K yac Str.empty=true)
  (ybN:W.hasDictIn K yac=true)
  (ybO:W.plainOver K yac=true)
  (ybP:W.findIn K (.ref yac) "__setattr__"=some ↑146)
  (ybQ:W.makesIn K yac=true)
  (ybR:W.keepIn K (.ref yac)=true)
  (yaQ:W.findIn K (.ref yac) "first"=some none)
  (yaH:W.findIn K (.ref yac) "second"=some none)
  (yaE:W.findIn K (.ref yac) "baskets"=some none)
  (ybS:W.plainGet K yaf Str.empty=true)
  (ybT:W.hasDictIn K yaf=true)
  (ybU:W.plainOver K yaf=true)
  (ybV:W.findIn K (.ref yaf) "__setattr__"=some ↑146)
  (ybW:W.makesIn K yaf=true)
  (ybX:W.keepIn K (.ref yaf)=true)
  (yaR:W.findIn K (.ref yaf) "steps"=some none)
  (yaS:W.findIn K (.ref yaf) "heads"=some none)
  (yaT:W.findIn K (.ref yaf) "roads"=some none)
  (ydD:W.nsIn K mainGlobals "any"=some none)
  (yde:W.nsIn K mainGlobals "bool"=some none)
  (ybi:W.nsIn K mainGlobals "enumerate"=some none)
  (ydE:W.nsIn K mainGlobals "int"=some none)
  (ya6:W.nsIn K mainGlobals "isinstance"=some none)
  (ydF:W.nsIn K mainGlobals "len"=some none)
  (ydf:W.nsIn K mainGlobals "list"=some none)
  (ydG:W.nsIn K mainGlobals "max"=some none)
  (ycN:W.nsIn K mainGlobals "range"=some none)
  (ybx:W.nsIn K mainGlobals "reversed"=some none)
  (ydH:W.nsIn K mainGlobals "sum"=some none)
  (ydI:W.nsIn K mainGlobals "zip"=some none)
  (g_MOST_WARES:W.nsIn K mainGlobals "MOST_WARES"=some (some (.int 8 ya2)))
  (g_MOST_SWAPS:W.nsIn K mainGlobals "MOST_SWAPS"=some (some (.int 12 ya1)))
  (kit_int_bool:W.kitOne K (.type "int") (.type "bool")=some false)
  (kit_int_int:W.kitOne K (.type "int") (.type "int")=some true)
  (kit_list_list:W.kitOne K (.type "list") (.type "list")=some true) :
  ∃ fd:FuncData,(∀ (s:Shared) (v:Value),BindsTo s fd ⟨[v],[]⟩ [("_law_script",v)])∧∀ base:Heap,K.In base->base.Ns mainGlobals mg->FnOk l.prog w K mg base (CXE l.prog w) 10 fa fd ["_law_script"] (zpL K):=by
 have e:=hfa.symm.trans (W.mg_of X G q48.1)
 cases e
 have ycm:=q0.2.f.binds (ps:=↑15) ↥992
 have yeb:=q1.2.f.binds (ps:=↑15) ↥992
 have yec:=q2.2.f.binds (ps:=↑15) ↥992
 have yd8:=q3.2.f.binds (ps:=["some","many"]) ↥992
 have ydS:=q4.2.f.binds (ps:=↑15) ↥992
 have ydT:=q5.2.f.binds (ps:=["row"]) ↥991
 have yd1:=q6.2.f.binds (ps:=↑15) ↥992
 have ydU:=q7.2.f.binds (ps:=["row"]) ↥991
 have ydV:=q8.2.f.binds (ps:=["row","steps"]) ↥992
 have yd2:=q9.2.f.binds (ps:=["step","row"]) ↥992
 have ydJ:=q10.2.f.binds (ps:=["steps","row"]) ↥992
 have ydW:=q11.2.f.binds (ps:=["steps"]) ↥991
 have ydX:=q12.2.f.binds (ps:=["rows"]) ↥991
 have yd3:=q13.2.f.binds (ps:=["rows"]) ↥991
 have yd4:=q14.2.f.binds (ps:=["rows","many"]) ↥992
 have yd5:=q15.2.f.binds (ps:=["rows"]) ↥991
 have yd9:=q16.2.f.binds (ps:=["steps","many"]) ↥992
 have ydY:=q17.2.f.binds (ps:=["many","swaps"]) ↥992
 have ybF:=q18.2.f.binds (ps:=["book","basket"]) ↥992
 have ydK:=q19.2.f.binds (ps:=["steps","length"]) ↥992
 have yea:=q20.2.f.binds (ps:=["book","basket"]) ↥992
 have yby:=q21.2.f.binds (ps:=["first","second","baskets"]) ↥993
 have yd6:=q22.2.f.binds (ps:=["book"]) ↥991
 have ycO:=q23.2.f.binds (ps:=["book"]) ↥991
 have ydZ:=q24.2.f.binds (ps:=["numbers"]) ↥991
 have ydm:=q25.2.f.binds (ps:=["book"]) ↥991
 have ydL:=q26.2.f.binds (ps:=["_law_script","_law_k"]) ↥992
 have yd0:=q27.2.f.binds (ps:=["_law_script","_law_k"]) ↥992
 have ydr:=q28.2.f.binds (ps:=↑128) ↥993
 have yds:=q29.2.f.binds (ps:=["_law_wide","_law_cells"]) ↥992
 have yc2:=q30.2.f.binds (ps:=["_law_wide","_law_cell_here","_law_far"]) ↥993
 have yc3:=q31.2.f.binds (ps:=["_law_rows","_law_bottoms_here","_law_idle","_law_cells"]) ↥994
 have ydM:=q32.2.f.binds (ps:=["_law_cells","_law_wide","_law_cell_here","_law_idle"]) ↥994
 have ydn:=q33.2.f.binds (ps:=["_law_one","_law_other"]) ↥992
 have ydo:=q34.2.f.binds (ps:=["_law_first","_law_second","_law_cell_here","_law_far"]) ↥994
 have yck:=q35.2.f.binds (ps:=["_law_first","_law_images_here","_law_wide"]) ↥993
 have ydN:=q36.2.f.binds (ps:=["_law_script"]) ↥991
 have ydO:=q37.2.f.binds (ps:=↑201) ↥993
 have ydp:=q38.2.f.binds (ps:=["_law_duals","_law_basket"]) ↥992
 have yc4:=q39.2.f.binds (ps:=["_law_duals","_law_bottoms_here","_law_basket"]) ↥993
 have ydq:=q40.2.f.binds (ps:=["_law_found","_law_many"]) ↥992
 have ydP:=q41.2.f.binds (ps:=["_law_step"]) ↥991
 have ycl:=q42.2.f.binds (ps:=["_law_steps","_law_wide"]) ↥992
 have yc5:=q43.2.f.binds (ps:=["_law_steps","_law_basket"]) ↥992
 have ydt:=q44.2.f.binds (ps:=["_law_second","_law_basket"]) ↥992
 have ycP:=q45.2.f.binds (ps:=["_law_first","_law_second","_law_baskets","_law_steps"]) ↥994
 have ydu:=q46.2.f.binds (ps:=["_law_cell_here","_law_k","_law_size"]) ↥993
 have ydv:=q47.2.f.binds (ps:=["_law_first","_law_second","_law_baskets","_law_steps","_law_cell_here"]) ↥995
 obtain ⟨_,kV48,dc48,pm48,cd48,ct48,_,an48,_,l48,c48,k48⟩:=q48.2
 have yd7:=zqL (st:=ziP) l48 c48 k48
 have yed:=yd7.binds (ps:=["_law_script"]) ↥991
 have m_law:=W.mg_of X G q48.1
 have yc6:=q49.f.binds (ps:=["self","basket"]) ↥992
 have ycQ:=q50.f.binds (ps:=["self"]) ↥991
 have yc7:=q51.f.binds (ps:=["self"]) ↥991
 have yah:=q52.f.binds (ps:=["self","many","swaps"]) ↥993
 have yaz:=q53.f.binds (ps:=["self","first","second","baskets"]) ↥994
 have yax:=q54.f.binds (ps:=["self","steps","heads","roads"]) ↥994
 have T:Txt K mg ⟨(),yar,yav,yaF,yaA,yac,yaf⟩:=⟨W.mg_none_of X G ydD,W.mg_none_of X G yde,W.mg_none_of X G ybi,W.mg_none_of X G ydE,W.mg_none_of X G ya6,W.mg_none_of X G ydF,W.mg_none_of X G ydf,W.mg_none_of X G ydG,W.mg_none_of X G ycN,W.mg_none_of X G ybx,W.mg_none_of X G ydH,W.mg_none_of X G ydI,W.mg_of X G ycw,⟨ycz,ycA,ycB,ycC⟩,ybg,ya5,W.mg_of X G ycf,⟨ycg,ych,yci,ycj⟩,yaG,W.mg_of X G ycx,⟨ycF,ycG,ycH,ycI⟩,yaO,W.mg_of X G ycy,⟨ycJ,ycK,ycL,ycM⟩,yaP,ybh,W.mg_of X G ybK,⟨ybM,ybN,ybO,ybP⟩,yaQ,yaH,yaE,W.mg_of X G ybL,⟨ybS,ybT,ybU,ybV⟩,yaR,yaS,yaT,⟨ya2,W.mg_of X G g_MOST_WARES⟩,⟨ya1,W.mg_of X G g_MOST_SWAPS⟩,kit_int_bool,kit_int_int,kit_list_list⟩
 refine ⟨W.fnOf "law" "law" (zgg ziP) (zeE ziP) (zai ziP) .none kV48 dc48 pm48 an48 cd48 ct48,λs v=>.of_eq rfl,λbase _ _=>?_⟩
 have ybm:Mk K yar f52:=⟨ycD,a52,i52,ycE⟩
 have yce:Mk K yac f53:=⟨ybQ,a53,i53,ybR⟩
 have ycc:Mk K yaf f54:=⟨ybW,a54,i54,ybX⟩
 have yad:=cm l w base (zhx q0.2.f T  ) (W.mg_of X G q0.1) q0.2.k ycm
 have ybk:=cm l w base (zrO q1.2.f T yad ) (W.mg_of X G q1.1) q1.2.k yeb
 have ybj:=cm l w base (zro q2.2.f T yad ) (W.mg_of X G q2.1) q2.2.k yec
 have yae:=cm l w base (zpq q3.2.f T  ) (W.mg_of X G q3.1) q3.2.k yd8
 have ybI:=cm l w base (zmP q4.2.f T yad ) (W.mg_of X G q4.1) q4.2.k ydS
 have yab:=cm l w base (zm3 q5.2.f T  ) (W.mg_of X G q5.1) q5.2.k ydT
 have yb8:=cm l w base (zni q6.2.f T  ) (W.mg_of X G q6.1) q6.2.k yd1
 have ya9:=cm l w base (zmH q7.2.f T yab yae ) (W.mg_of X G q7.1) q7.2.k ydU
 have yat:=cm l w base (zmZ q8.2.f T yab ybj yae ) (W.mg_of X G q8.1) q8.2.k ydV
 have yb9:=cm l w base (zob q9.2.f T yb8 yab ybj ybk yae ) (W.mg_of X G q9.1) q9.2.k yd2
 have ybq:=cm l w base (zlK q10.2.f T yab yat yb9 ya9 ) (W.mg_of X G q10.1) q10.2.k ydJ
 have ybG:=cm l w base (zmU q11.2.f T yat ) (W.mg_of X G q11.1) q11.2.k ydW
 have yan:=cm l w base (zmX q12.2.f T ybG ybq ) (W.mg_of X G q12.1) q12.2.k ydX
 have yaK:=cm l w base (zoY q13.2.f T  ) (W.mg_of X G q13.1) q13.2.k yd3
 have yca:=cm l w base (zok q14.2.f T  ) (W.mg_of X G q14.1) q14.2.k yd4
 have ycb:=cm l w base (zne q15.2.f T yan yaK ) (W.mg_of X G q15.1) q15.2.k yd5
 have ycv:=cm l w base (zpN q16.2.f T yab ) (W.mg_of X G q16.1) q16.2.k yd9
 have yag:=zht (P:=l.prog) (w:=w) (base:=base) q52.f T
 have yaV:=cm l w base (zm1 q17.2.f T  ybm yag yah ) (W.mg_of X G q17.1) q17.2.k ydY
 have yas:=cm l w base (zf3 q18.2.f T  ) (W.mg_of X G q18.1) q18.2.k ybF
 have ybr:=cm l w base (zle q19.2.f T yab yae ybI ) (W.mg_of X G q19.1) q19.2.k ydK
 have ycu:=cm l w base (zpx q20.2.f T yan yab ybr ) (W.mg_of X G q20.1) q20.2.k yea
 have yaq:=cm l w base (zfB q21.2.f T  ) (W.mg_of X G q21.1) q21.2.k yby
 have yaW:CalleeM l.prog w K mg base (CXE l.prog w) 3 yac "sent" ["self","basket"] (zeD K _):=⟨_,_,ziS q49.f T ybk yas yae ,⟨ybu,i49,q49.k⟩,yc6⟩
 have yay:=zgJ (P:=l.prog) (w:=w) (base:=base) q53.f T  yaW yaq ycu
 have yaL:CalleeM l.prog w K mg base (CXE l.prog w) 6 yac "climb" ["self"] (zel K _):=⟨_,_,zh5 q50.f T yan yaK yca ,⟨ybv,i50,q50.k⟩,ycQ⟩
 have yaB:CalleeM l.prog w K mg base (CXE l.prog w) 7 yac "lost" ["self"] (zeB K _):=⟨_,_,ziM q51.f T yaL ycv ybm yag yah ,⟨ybw,i51,q51.k⟩,yc7⟩
 have yaw:=zgO (P:=l.prog) (w:=w) (base:=base) q54.f T
 have ycd:=cm l w base (zoO q22.2.f T yab ycb ycc yaw yax ) (W.mg_of X G q22.1) q22.2.k yd6
 have yaM:=cm l w base (zhH q23.2.f T ycd ) (W.mg_of X G q23.1) q23.2.k ycO
 have ybJ:=cm l w base (zmF q24.2.f T  ) (W.mg_of X G q24.1) q24.2.k ydZ
 have yap:=cm l w base (zj2 q25.2.f T yaM ybJ ) (W.mg_of X G q25.1) q25.2.k ydm
 have ybs:=cm l w base (zk8 q26.2.f T  ) (W.mg_of X G q26.1) q26.2.k ydL
 have yaU:=cm l w base (zmI q27.2.f T  ) (W.mg_of X G q27.1) q27.2.k yd0
 have yaa:=cm l w base (zkM q28.2.f T  ) (W.mg_of X G q28.1) q28.2.k ydr
 have ybc:=cm l w base (zkc q29.2.f T yaa ) (W.mg_of X G q29.1) q29.2.k yds
 have yaX:=cm l w base (ziR q30.2.f T yaa ) (W.mg_of X G q30.1) q30.2.k yc2
 have yal:=cm l w base (ziQ q31.2.f T yaa ) (W.mg_of X G q31.1) q31.2.k yc3
 have ya0:=cm l w base (zlu q32.2.f T yaX ybc yal ) (W.mg_of X G q32.1) q32.2.k ydM
 have yak:=cm l w base (zjL q33.2.f T  ) (W.mg_of X G q33.1) q33.2.k ydn
 have ya3:=cm l w base (zjn q34.2.f T yak yaa ) (W.mg_of X G q34.1) q34.2.k ydo
 have yaC:=cm l w base (zg5 q35.2.f T  ) (W.mg_of X G q35.1) q35.2.k yck
 have ybt:=cm l w base (zlj q36.2.f T ybs ya3 yaU ya0 yal yaC ) (W.mg_of X G q36.1) q36.2.k ydN
 have yaj:=cm l w base (zk5 q37.2.f T  ) (W.mg_of X G q37.1) q37.2.k ydO
 have yao:=cm l w base (zjk q38.2.f T  ) (W.mg_of X G q38.1) q38.2.k ydp
 have yam:=cm l w base (ziU q39.2.f T yao ) (W.mg_of X G q39.1) q39.2.k yc4
 have ya4:=cm l w base (zjr q40.2.f T  ) (W.mg_of X G q40.1) q40.2.k ydq
 have yau:=cm l w base (zlN q41.2.f T  ) (W.mg_of X G q41.1) q41.2.k ydP
 have yaD:=cm l w base (zgZ q42.2.f T yau ya4 ) (W.mg_of X G q42.1) q42.2.k ycl
 have yai:=cm l w base (ziN q43.2.f T yau ) (W.mg_of X G q43.1) q43.2.k yc5
 have ybd:=cm l w base (zkX q44.2.f T yak yao ) (W.mg_of X G q44.1) q44.2.k ydt
 have yaN:=cm l w base (zis q45.2.f T yai ybd yaj ) (W.mg_of X G q45.1) q45.2.k ycP
 have ybe:=cm l w base (zkH q46.2.f T yaa ) (W.mg_of X G q46.1) q46.2.k ydu
 have ybf:=cm l w base (zkP q47.2.f T yai ybe yam yaj yaa ) (W.mg_of X G q47.1) q47.2.k ydv
 exact (ztL yd7 T yaB yaN yaD ybf yam ybt yaj yaV yap yce yay yaz ).imp λ_ _ _ _ q=>zsI q
theorem zwq {l:W.OpenLaw} {q:Program} {loose:List Str} {XP:(Str->Option Value)->Heap->Prop} {YP:World->Heap->Prop} {d:DefRec} {K:Params->W.Frag} (hn:l.most=some 63) (hdf:d.params.defaults=[])
  (hY:∀ (w:World) (h:Heap),YP w h->(K w.params).In h)
  (F:∀ (w:World) (mg:Str->Option Value) (fa:Addr) (h:Heap),(K w.params).In h->h.Ns mainGlobals mg->mg d.name=some (.ref fa) →
   ∃ fd:FuncData,(∀ (s:Shared) (u:Value),BindsTo s fd ⟨[u],[]⟩ [("_law_script",u)])∧∀ base:Heap,(K w.params).In base->base.Ns mainGlobals mg->FnOk l.prog w (K w.params) mg base (CXE l.prog w) 10 fa fd ["_law_script"] (zpL (K w.params))) :
  W.WalkO q loose XP YP l.row.toRowW d [] (λf vs=>PySem.call f vs) :=
 L2.zqY (n:=63) (k:=10) (x:="_law_script") (CX:=λw=>CXE l.prog w) (sp:=λw=>zpL (K w.params)) hn ↥1 hdf ⟨rfl,by decide,by decide⟩ hY F (λ_ _ a ns hl _ hS=>⟨a,ns,rfl,hS,hl,λ_=>rfl⟩) λ_ _ _ _ _ ⟨_,_,_,_,_,_,_,_,_,_,z⟩=>z
end
end My
section
open PySem PySem.W PyProof.Rows
set_option maxRecDepth 100000 in
set_option maxHeartbeats 0 in
theorem PySem.Challenge.cw_swapbook_k74_lost_holds : PySem.Challenge.rw_swapbook_k74_lost.Holds := by
 refine My.headT ?hc
 k_fill
 refine My.zwq (l:=PySem.Challenge.rw_swapbook_k74_lost) rfl rfl (λw h Y=>W.kIn_of Y) ?F
 case F =>
  intro w mg fa h KX G hmg
  refine' My.zs3 KX G hmg ?ycw ?ycf ?ycx ?ycy ?ybK ?ybL ?q0 ?q1 ?q2 ?q3 ?q4 ?q5 ?q6 ?q7 ?q8 ?q9 ?q10 ?q11 ?q12 ?q13 ?q14 ?q15 ?q16 ?q17 ?q18 ?q19 ?q20 ?q21 ?q22 ?q23 ?q24 ?q25 ?q26 ?q27 ?q28 ?q29 ?q30 ?q31 ?q32 ?q33 ?q34 ?q35 ?q36 ?q37 ?q38 ?q39 ?q40 ?q41 ?q42 ?q43 ?q44 ?q45 ?q46 ?q47 ?q48 ?ybu ?i49 ?q49 ?ybv ?i50 ?q50 ?ybw ?i51 ?q51 ?a52 ?i52 ?q52 ?a53 ?i53 ?q53 ?a54 ?i54 ?q54 ?ycz ?ycA ?ycB ?ycC ?ycD ?ycE ?ybg ?ya5 ?ycg ?ych ?yci ?ycj ?ydc ?ydd ?yaG ?ycF ?ycG ?ycH ?ycI ?ydw ?ydx ?yaO ?ycJ ?ycK ?ycL ?ycM ?ydy ?ydz ?yaP ?ybh ?ybM ?ybN ?ybO ?ybP ?ybQ ?ybR ?yaQ ?yaH ?yaE ?ybS ?ybT ?ybU ?ybV ?ybW ?ybX ?yaR ?yaS ?yaT ?ydD ?yde ?ybi ?ydE ?ya6 ?ydF ?ydf ?ydG ?ycN ?ybx ?ydH ?ydI ?g_MOST_WARES ?g_MOST_SWAPS ?kit_int_bool ?kit_int_int ?kit_list_list
  (case q0|q1|q2|q3|q4|q5|q6|q7|q8|q9|q10|q11|q12|q13|q14|q15|q16|q17|q18|q19|q20|q21|q22|q23|q24|q25|q26|q27|q28|q29|q30|q31|q32|q33|q34|q35|q36|q37|q38|q39|q40|q41|q42|q43|q44|q45|q46|q47|q48=>apply My.FB.gm<;>k_is)
  (case ycw|ycf|ycx|ycy|ybK|ybL|ybu|i49|ybv|i50|ybw|i51|a52|i52|a53|i53|a54|i54|ycz|ycA|ycB|ycC|ycD|ycE|ybg|ya5|ycg|ych|yci|ycj|ydc|ydd|yaG|ycF|ycG|ycH|ycI|ydw|ydx|yaO|ycJ|ycK|ycL|ycM|ydy|ydz|yaP|ybh|ybM|ybN|ybO|ybP|ybQ|ybR|yaQ|yaH|yaE|ybS|ybT|ybU|ybV|ybW|ybX|yaR|yaS|yaT|ydD|yde|ybi|ydE|ya6|ydF|ydf|ydG|ycN|ybx|ydH|ydI|g_MOST_WARES|g_MOST_SWAPS=>k_is)
  (case q49|q50|q51|q52|q53|q54=>apply L2.FA.m<;>k_is)
  (case kit_int_bool|kit_int_int|kit_list_list=>kit_is)
end
