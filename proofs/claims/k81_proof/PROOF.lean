import PyProof.Rows.All
import Wide.All
import OpenK.AllK
import Wide.FinOn
import Lean
import PyProof.EqAt
import PyProof.EqKinds
import PyProof.TupleCall
import KE.KIntText
import PyProof.StrLawsTight
import PyProof.StrLawsChain
import PyProof.StrLawsJoin
import PyProof.FitsReplace
import PyProof.StrLawsOccR
import PySem.Challenge.RW_swapbook_k81_sides_read_and_written
set_option Elab.async false
set_option linter.all false
set_option maxRecDepth 100000
namespace Hd
open PySem PySem.W PyProof.Rows
def runT (p:Program) (w:World) (m:Nat) (a:Option Value):Nat->SharedT->Thread->Option SharedT
 | 0,_,_=>none
 | n+1,s,t=>match through t with
  |true=>some s
  |false=>match stepOk m a t with
   |true=>(match stepT (denote treeTable) p w s t with|some x=>runT p w m a n x.1 x.2|none=>none)
   |false=>none
theorem zqL {p:Program} {w:World} {m:Nat} {a:Option Value}:∀ {n:Nat} {s z:SharedT} {t:Thread},runT p w m a n s t=some z->topRun treeTable p w m a n s.abs t=some z.abs
 | 0,_,_,_,h=>by cases h
 | n+1,s,z,t,h=>by
  rw [runT] at h;rw [topRun];cases h1:through t<;>rw [h1] at h
  ·cases h2:stepOk m a t<;>rw [h2] at h;·cases h
   ·cases h3:stepT (denote treeTable) p w s t with|none=>rw [h3] at h;cases h|some x=>rw [h3] at h;rw [stepT_spec (s':=x.1) (t':=x.2) h3];exact zqL h
  ·cases h;rfl
def tr:List Obj->Nat->BT->BT
 | [],_,t=>t
 | o :: r,n,t=>tr r (n+1) (t.ins n o)
noncomputable def zwE (P:Params) (os:OsState):SharedT:=⟨tr (boot_heap P).objs.toList 0 .nil,11,(boot_heap P).life,Array.mk [],boot_drawn,boot_toks,os⟩
theorem zqC (P:Params) (os:OsState):(zwE P os).abs=⟨boot_heap P,Array.mk [],boot_drawn,boot_toks,os⟩:=by kernel_rfl
theorem ztb (P:Params):((boot_heap P).isNs mainGlobals && (Array.mk ([]:List GenState)).size==0)=true:=by kernel_rfl
theorem ztc (P:Params):(boot_heap P).objs.size=11:=by kernel_rfl
theorem zsP (P:Params):(boot_heap P).nsMap mainGlobals "__annotations__" =some (.ref 6):=by kernel_rfl
noncomputable def lk (p:Program) (w:World) (s:Shared):Bool:=staticsOk (importedModules p.main.body) (boot_heap w.params) s.heap && namesBound p s.heap && gensDone s && laidKept (boot_heap w.params) s.heap
def getT (s:SharedT) (a:Nat):Option Obj:=match Nat.blt a s.n with|true=>alive ((s.tree.get a).getD default)|false=>none
theorem zst (s:SharedT) (a:Nat):s.abs.heap.get? a=getT s a:=by
 show (absHeap s.tree s.n s.life).get? a=_;unfold Heap.get? getT;rw [absHeap_at];by_cases h:a<s.n
 ·have e:Nat.blt a s.n=true:=by simpa [Nat.blt_eq] using h
  rw [if_pos h,e];generalize (s.tree.get a).getD default=o;obtain ⟨c,d,dt,sl⟩:=o;cases dt<;>rfl
 ·have e:Nat.blt a s.n=false:=by cases q:Nat.blt a s.n with|false=>rfl|true=>exact absurd (by simpa [Nat.blt_eq] using q) h
  rw [if_neg h,e]
theorem y_is (as:List Addr) (s:SharedT):as.map s.abs.heap.get? =as.map (getT s):=by congr 1;funext a;exact zst s a
theorem left_of {p q:Program} {loose:List Str} {Xt:Shared->Bool} {α:Type} {Yf:Shared->α} {Ya:World->α} {N:Nat} {g0:Bool} {YT:SharedT->α}
  (e:opening p=plainProg p.main.scope.names) (hN:Nat.ble 600 N=true) (f:∀s,fenceModules? p s=some s) (hy:∀s:SharedT,Yf s.abs=YT s)
  (h:∀w os,(runT p w 11 (some (.ref 6)) N (zwE w.params os) (topStub p)).map (λs=>(lk p w s.abs,openSeen q loose (importedModules p.main.body) Xt g0 s.abs,YT s))=some (true,openGood q loose,Ya w)):LeftO p q loose Xt Yf Ya N g0:=λw=>by
   obtain ⟨s,h1,h2⟩:=Option.map_eq_some_iff.mp (boot_open e hN f w);obtain ⟨hp,gs,dr,tk,os⟩:=s;have h3:hp=boot_heap w.params∧gs=Array.mk []∧dr=boot_drawn∧tk=boot_toks:=by simpa using h2
   obtain ⟨rfl,rfl,rfl,rfl⟩:=h3;obtain ⟨z,h4,h5⟩:=Option.map_eq_some_iff.mp (h w os);have h6:=zqL h4;rw [zqC] at h6;obtain ⟨l1,l2,l3⟩:_∧_∧_:=by simpa only [Prod.mk.injEq] using h5
   unfold openEnds;rw [h1];show (topFrom treeTable p w N _).map _=_;have h7:topFrom treeTable p w N ⟨boot_heap w.params,Array.mk [],boot_drawn,boot_toks,os⟩=some z.abs:=by unfold topFrom;dsimp only;rw [ztb,ztc,zsP,h6];show (match lk p w z.abs with|true=>_|false=>_)=_;rw [l1]
   rw [h7];exact congrArg some (Prod.ext l2 ((hy z).trans l3))
end Hd
set_option maxRecDepth 100000
namespace My
open PySem PySem.W PyProof.Rows
noncomputable def hdF (q:Program) (as:List Addr) (N:Nat) (w:World) (os:OsState) (bh:Heap) :=
 (Hd.runT PySem.Challenge.rw_swapbook_k81_sides_read_and_written.row.prog w 11 (some (.ref 6)) N ⟨Hd.tr bh.objs.toList 0 .nil,11,bh.life,Array.mk [],boot_drawn,boot_toks,os⟩ (topStub PySem.Challenge.rw_swapbook_k81_sides_read_and_written.row.prog)).map (λs=>(staticsOk (importedModules PySem.Challenge.rw_swapbook_k81_sides_read_and_written.row.prog.main.body) bh s.abs.heap && namesBound PySem.Challenge.rw_swapbook_k81_sides_read_and_written.row.prog s.abs.heap && gensDone s.abs && laidKept bh s.abs.heap,seen ((recsOf q).map (·.name)) (ownsOf q) [] {s.abs with gens:= #[]},s.abs.heap.bltView,as.map (Hd.getT s)))
noncomputable def hdG (q:Program) (K:Params->Frag) (w:World):=some (true,expectedOf q,bltViewBooted,(K w.params).map λp=>some p.2)
noncomputable def hdX (q:Program) (N:Nat) (w:World) (os:OsState) (bh:Heap) :=
 (Hd.runT PySem.Challenge.rw_swapbook_k81_sides_read_and_written.row.prog w 11 (some (.ref 6)) N ⟨Hd.tr bh.objs.toList 0 .nil,11,bh.life,Array.mk [],boot_drawn,boot_toks,os⟩ (topStub PySem.Challenge.rw_swapbook_k81_sides_read_and_written.row.prog)).map (λs=>(openSeen q [] (importedModules PySem.Challenge.rw_swapbook_k81_sides_read_and_written.row.prog.main.body) (λs=>xlAt q [] s && recOk (RowW.records PySem.Challenge.rw_swapbook_k81_sides_read_and_written.row.toRowW) s) true s.abs).2.2)
noncomputable def hdY (q:Program):=some (openGood q []).2.2
noncomputable def hdQ:Program:=view PySem.Challenge.rw_swapbook_k81_sides_read_and_written.row.prog [0,2,3,4,5,6,7,8,9,10,11,12,13,14,16,17,18,19,20,22,23,24,25,26,27,29,30,31,32,33,34,35,36,37,38,39,40,42,43,45,46,48,49,50,51,52,53,54,55,56,57,58,59,60,61,62,63,64,65,66,67,68,70,71,72,74,75,76,77,78,79,80,81,83,85,86,88,89,90,91,92,93]
end My
set_option Elab.async false
lay_quick My.hdF My.hdG My.hdX My.hdY
namespace My
open PySem PySem.W PyProof.Rows
theorem hB {q:Program} (e:q=hdQ):∀w os,W.Fast.tw8334794887856251620 q 12526 w os (boot_heap w.params)=W.Fast.tw7019343924994599381 q:=by subst e;intro w os;kernel_rfl
theorem ztY {q:Program} {K:Params->Frag} {as:List Addr} {N:Nat} {e:∀P,as=(K P).map (·.1)} (hN:Nat.ble 600 N=true)
  (h2:∀w os,W.Fast.tw8334794887856251620 q N w os (boot_heap w.params)=W.Fast.tw7019343924994599381 q)
  (h:∀w os,W.Fast.tw6084617276858994590 q as N w os (boot_heap w.params)=W.Fast.tw7309032369996461460 q K w) :
  LeftO PySem.Challenge.rw_swapbook_k81_sides_read_and_written.row.prog q [] (λs=>xlAt q [] s && recOk (RowW.records PySem.Challenge.rw_swapbook_k81_sides_read_and_written.row.toRowW) s) (kHook K as e).obs (kHook K as e).val N:=by rw [←W.Fast.te6084617276858994590,←W.Fast.te7309032369996461460] at h;rw [←W.Fast.te8334794887856251620,←W.Fast.te7019343924994599381] at h2;refine Hd.left_of (by kernel_rfl) hN (λs=>by kernel_rfl) (Hd.y_is as) λw os=> ?_;obtain ⟨s,hs,e1⟩:=Option.map_eq_some_iff.mp (h w os);obtain ⟨t,ht,e2⟩:=Option.map_eq_some_iff.mp (h2 w os);have z:s=t:=Option.some.inj (hs.symm.trans ht);subst z;obtain ⟨a1,a2⟩:=Prod.mk.inj e1;obtain ⟨a2,a3⟩:=Prod.mk.inj a2;obtain ⟨a3,a4⟩:=Prod.mk.inj a3;refine (congrArg (Option.map _) hs).trans ?_;exact congrArg some (Prod.ext a1 (Prod.ext (Prod.ext a2 (Prod.ext a3 e2)) a4))
end My
section
local macro_rules
 | `(tactic| refine $e:term)=>do
  if e.raw.isOfKind `Lean.Parser.Term.app&&e.raw[0].getId.eraseMacroScopes == `PySem.W.holds_open then
   let some _:=e.raw.find? (λs=>s.isOfKind `Lean.Parser.Term.syntheticHole&&s[1].getId.eraseMacroScopes == `hl) | Lean.Macro.throwUnsupported
   let h ← `(My.ztY (by decide) (My.hB (by kernel_rfl)) (λw os=>by kernel_rfl))
   let e' ← e.raw.replaceM λs=>pure (if s.isOfKind `Lean.Parser.Term.syntheticHole&&s[1].getId.eraseMacroScopes == `hl then some h.raw else none)
   `(tactic| refine $(⟨e'⟩))
  else Lean.Macro.throwUnsupported
open PySem PySem.W PyProof.Rows
set_option maxRecDepth 100000 in
set_option maxHeartbeats 0 in
open_top My.headT for PySem.Challenge.rw_swapbook_k81_sides_read_and_written
end
set_option hygiene false in
local macro_rules
 | `(⇑5)=>`(⟨rfl,rfl,rfl,by decide+kernel,rfl,by decide+kernel,by decide+kernel⟩)
 | `(⇑0)=>`((by assumption))
 | `(↑0)=>`((by omega))
 | `(↑30)=>`((by first|(rw [List.map_map];rfl)|(simp only [cond_true,cond_false];rw [List.map_map];rfl)))
 | `(↑69)=>`((λz=>Oc.nx ((λ(s318:Str×Ji)=>([⇑[dQ K (List.map dI P0)],⇑[dL (List.map dS P1)],.ow true (List.map dI s318.2),↥[dS s318.1],.no,.no,.no,.no,.no,.no,.no]:L2.Ctx)) z)))
 | `(↑3)=>`((hr.mono (by decide)))
 | `(⇑3)=>`((zab (i:=0) rfl))
 | `(↑21)=>`((.eq (.eq (.eq (.eq (.eq .nil))))))
 | `(↑132)=>`((λ(s318:Str×Ji) (x319:(Int×Int))=>(Let (x319.2%((P1.length:Nat):Int)) (λ(v323:Int)=>(Let (ixD P1 v323) (λ(v324:Str)=>(Let (bif (decide ((0:Int)<((x319.2/(8:Int))%(3:Int)))) then ((1:Int)+((x319.2/(48:Int))%(ixD [(9:Int),(99:Int),((10:Int) ^ (6:Int).toNat),((10:Int) ^ (9:Int).toNat)] (x319.1%(4:Int))))) else (1:Int)) (λ(v326:Int)=>(Let (bif ((decide (x319.1=(0:Int))) && (decide (((x319.2/(8:Int))%(3:Int))=(2:Int)))) then ((1:Int)+((x319.2/(48:Int))%((9:Int)*((10:Int) ^ (11:Int).toNat)))) else v326) (λ(v328:Int)=>(Let (bif (decide ((0:Int)<((x319.2/(8:Int))%(3:Int)))) then ((((toString v328:String):Str)++(" " :Str))++v324) else v324) (λ(v330:Str)=>(Let ((x319.2/(24:Int))%(2:Int)) (λ(v331:Int)=>(Let (ixD [(" + " :Str),(" - " :Str)] v331) (λ(v332:Str)=>(Let (bif (decide (s318.1=("home" :Str))) then (ixD [(" " :Str),(" - " :Str)] v331) else v332) (λ(v334:Str)=>(Let (bif (decide (((((s318.1.length:Nat):Int)+((v334.length:Nat):Int))+((v330.length:Nat):Int))≤(400:Int))) then ((s318.1++v334)++v330) else s318.1) (λ(v336:Str)=>(Let (bif (decide (((((s318.1.length:Nat):Int)+((v334.length:Nat):Int))+((v330.length:Nat):Int))≤(400:Int))) then (zcZ s318.2 v323 ((ixD s318.2 v323)+(v328*((1:Int)-((2:Int)*v331))))) else s318.2) (λ(v337:Ji)=>(v336,v337)))))))))))))))))))))))
 | `(↥0)=>`((Or.inl rfl))
 | `(↑7)=>`((zab (i:=1) rfl))
 | `(↑87)=>`(((backTo cpos (starEach [e] X.env)).all (λx=> !x.1) && (backToKw cpos (keywordEach [] X.env)).all (λx=>x.1.isSome) && decide (([e]:List Expr).length+([]:List Keyword).length+(if ([]:List Keyword).isEmpty then 0 else 1)<30)))
 | `(↥8)=>`((λcdv Ar outer s H E x hr hp=> ?_))
 | `(↑133)=>`((by first|exact .inl ⟨by ((try simp only [decide_eq_true_eq,decide_eq_false_iff_not,Bool.not_eq_true',Bool.not_eq_false',Bool.and_eq_true,Bool.or_eq_false_iff,Bool.or_eq_true,Bool.and_eq_false_iff,Bool.cond_eq_ite] at*)<;>omega),by ((try simp only [decide_eq_true_eq,decide_eq_false_iff_not,Bool.not_eq_true',Bool.not_eq_false',Bool.and_eq_true,Bool.or_eq_false_iff,Bool.or_eq_true,Bool.and_eq_false_iff,Bool.cond_eq_ite] at*)<;>omega)⟩|exact .inr (.inl ⟨by ((try simp only [decide_eq_true_eq,decide_eq_false_iff_not,Bool.not_eq_true',Bool.not_eq_false',Bool.and_eq_true,Bool.or_eq_false_iff,Bool.or_eq_true,Bool.and_eq_false_iff,Bool.cond_eq_ite] at*)<;>omega),by ((try simp only [decide_eq_true_eq,decide_eq_false_iff_not,Bool.not_eq_true',Bool.not_eq_false',Bool.and_eq_true,Bool.or_eq_false_iff,Bool.or_eq_true,Bool.and_eq_false_iff,Bool.cond_eq_ite] at*)<;>omega)⟩)))
 | `(↑94)=>`((decide (((((l.length:Nat):Int)+(((ahT l (c/24%2) (ixD [(" + " :Str),(" - " :Str)] (c/24%2))).length:Nat):Int))+(((tmT c (nbB k c (nbA k c)) (ixD ns (c%((ns.length:Nat):Int)))).length:Nat):Int))≤(400:Int))))
 | `(⇑8)=>`(⟨by decide,by decide⟩)
 | `(↑12)=>`((zab (i:=2) rfl))
 | `(↑22)=>`((Ev.any (m:=true) (zab (i:=3) rfl)))
 | `(⇑6)=>`((by decide+kernel))
 | `(↥5)=>`((model X.prog X.w))
 | `(↑31)=>`((Ev.any (m:=true) (zab (i:=5) rfl)))
 | `(↑88)=>`((λ(s86:Int×Int×Int×Int)=>([⇑[dI P0],⇑[dI P1],↥[dI s86.1],↥[dI s86.2.1],↥[dI s86.2.2.1],↥[dI s86.2.2.2],.no,.no]:L2.Ctx)))
 | `(↑134)=>`((λ(s272:Int×(List Str)) (x273:Int)=>(Let ("" :Str) (λ(v277:Str)=>(Let ((1:Int)+(s272.1%(12:Int))) (λ(v278:Int)=>(Let (s272.1/(12:Int)) (λ(v279:Int)=>(Let (List.foldl (λ(s280:Str×Int) (x281:Int)=>(Let (s280.1++(ixS v271 (s280.2%(26:Int)))) (λ(v285:Str)=>(Let (s280.2/(26:Int)) (λ(v286:Int)=>(v285,v286)))))) (v277,v279) (zdA 0 v278.toNat)) (λ(r287:Str×Int)=>(Let (List.foldl (λ(s288:Str) (x289:Int)=>(Let (bif ((decide (s288∈s272.2))||(decide (s288=("nothing" :Str)))) then (Txt.mul (ixS v271 x289) ((1:Int)+x289)) else s288) (λ(v294:Str)=>v294))) r287.1 (zdA 0 (10:Int).toNat)) (λ(r295:Str)=>(r287.2,(s272.2++[r295]))))))))))))))
 | `(↑72)=>`((λ(r:(Int×(Option (LineD⊕RestD))))=>Oc.rt true (dT [dI r.1,dOpt (dSc A) r.2])))
 | `(↑117)=>`((λx vs H Q=>∃i j,(x= .str i∧vs=[.str j])∧(j.length==0)=false∧i.length≤sizeLine∧(Txt.split i j).length≤sizeLine∧(Builtin.Str.partsBetween i (Builtin.Str.occurrences i j 0 i.length (i.length+1)) j.length).length≤sizeLine∧∀l,H l=none->Q (.ref l) (upd H l (.lst ((Txt.split i j).map V.str)))))
 | `(↑89)=>`((λ(s272:Int×(List Str))=>([⇑[dI s272.1],⇑[dI P1],↥[dS v271],.ow true (List.map dS s272.2),.no,.no,.no,.no,.no]:L2.Ctx)))
 | `(↑90)=>`((λ(p:(Int×Str))=>dT [dI p.1,dS p.2]))
 | `(↑33)=>`((λcdv Ar outer s H E P0 hr hp=> ?_))
 | `(↑1)=>`((CXE P w))
 | `(↥2)=>`(("+" :Str))
 | `(⇑2)=>`(("-" :Str))
 | `(↑59)=>`((zaA (zaI (K:=K) rfl) rfl T.len PySem.boot_len ↑[pv 0]))
 | `(↑10)=>`(((P0.length:Nat):Int))
 | `(↥7)=>`((List.map dI P1))
 | `(↑135)=>`((λ(s119:Jq×Ji) (x120:(Int×Ji))=>(((bif (decide ((zag s119.2)<(zag x120.2))) then (Sum.inr ((s119.1++[(zbH s119.2)])++(zb9 P0 (some x120.1) none))) else (Let (bif (decide ((zag s119.2)=(zag x120.2))) then (s119.1++[(zbs x120.2 s119.2).1]) else (s119.1++[x120.2])) (λ(v126:Jq)=>(Let (bif (decide ((zag s119.2)=(zag x120.2))) then (m_lowered ((zbs x120.2 s119.2).2) (zb9 P0 (some (x120.1+(1:Int))) none)) else s119.2) (λ(v127:Ji)=>(Sum.inl (v126,v127)))))))):(Jq×Ji)⊕Jq)))
 | `(↑60)=>`((List.filter (λ(t:Ji)=>decide (zag t<b.many)) rows))
 | `(↑70)=>`((zaA (zaI (K:=K) rfl) rfl T.len PySem.boot_len ↑[pv 1]))
 | `(↑73)=>`((zan x (-(1:Int))++zdM ((b.swaps.length:Nat):Int) [(0:Int)]))
 | `(↑61)=>`((by show 1≤sizeLine;decide))
 | `(↑45)=>`(("abcdefghijklmnopqrstuvwxyz" :Str))
set_option hygiene false in
local macro_rules
 | `(↥1)=>`((by decide))
 | `(↥6)=>`((List.map dI P0))
 | `(↑6)=>`(("nothing" :Str))
 | `(⇑1)=>`((" " :Str))
 | `(↑2)=>`((List Str))
 | `(↑13)=>`((Ev.any (m:=false) ↑7))
 | `(⇑4)=>`(("home" :Str))
 | `(↑9)=>`(((ns.length:Nat):Int))
 | `(↑25)=>`((.eq (.eq (.eq (.eq ↑21)))))
 | `(↑16)=>`((Ev.any (m:=false) ⇑3))
 | `(↑11)=>`((Ev.weak (K:=K) ⇑3))
 | `(↑118)=>`((zdi (K:=K) (n:=2) rfl rfl (zbb (zaE (i:=0) (show (["a","b"]:List Str).Nodup by decide+kernel) rfl ↥0 (Or.inr rfl)) (zbb (zaE (i:=1) (show (["a","b"]:List Str).Nodup by decide+kernel) rfl ↥0 (Or.inr rfl)) zdP))))
 | `(↑103)=>`((λ(s119:Jq×Ji)=>([⇑[dQ K (List.map lI P0)],⇑[dQ K ↥7],↥[dL (List.map dI s119.2)],.ow false (List.map lI s119.1),.no,.no,.no]:L2.Ctx)))
 | `(↑119)=>`((by ((try simp only [decide_eq_true_eq,decide_eq_false_iff_not,Bool.not_eq_true',Bool.not_eq_false',Bool.and_eq_true,Bool.or_eq_false_iff,Bool.or_eq_true,Bool.and_eq_false_iff,Bool.cond_eq_ite] at*)<;>omega)))
 | `(↑42)=>`((List.getElem?_eq_some_iff.mp e))
 | `(↑18)=>`((Ev.weak (K:=K) ↑7))
 | `(↑120)=>`((bif (decide (x260.2<(0:Int))) then (s259++[⇑2,((toString ((0:Int)-x260.2):String):Str),x260.1]) else (bif (decide ((0:Int)<x260.2)) then (s259++[↥2,((toString x260.2:String):Str),x260.1]) else s259)))
 | `(↑4)=>`((Addr×Obj))
 | `(↑104)=>`((λ(head:Int)=>Let (zbZ s x) (λ(weight:Int)=>Let (zan s (ixD x head)) (λ(numbers:Ji)=>Let (zcZ numbers head (-weight)) (λ(y:Ji)=>y)))))
 | `(↑95)=>`((λ(s173:Ji)=>([⇑[dQ K (List.map lI P0)],⇑[dI P1],.ow true (List.map dI s173),.no,.no,.no]:L2.Ctx)))
 | `(↑49)=>`((Ev.any (m:=true) (zab (i:=4) rfl)))
 | `(↑43)=>`((λ(r:Bool)=>Oc.rt true (dB r)))
 | `(↑27)=>`((List (Int×Str)))
 | `(↑121)=>`((bif (decide (((v298/(3744:Int))%(2:Int))=(0:Int))) then (s304++[(((Txt.mul v303 v302)++v309)++(Txt.mul v303 ((v300-v302)-(1:Int))))]) else (s304++[(v309++(Txt.mul v303 ((v300+x305)%(12:Int))))])))
 | `(↥3)=>`((-(1:Int)))
 | `(↑62)=>`((λ(r:Ji)=>Oc.rt true (dL (List.map dI r))))
 | `(↑8)=>`((Nat.le_refl _))
 | `(⇑7)=>`((λ_ _=>rfl))
 | `(⇑9)=>`((zaH (K:=K) rfl))
 | `(↑46)=>`((λ(r:Str)=>Oc.rt true (dS r)))
 | `(↑34)=>`((Ev.any (m:=true) ↑12))
 | `(↑47)=>`((by show 2≤sizeLine;decide))
 | `(↥4)=>`((by simp))
 | `(↑96)=>`((λxs H Q=>∃p ys,xs=[.ref p]∧(SqL K H p ys∨SqT K H p ys)∧Q (.int ys.length) H))
 | `(↑63)=>`((Ev.any (m:=false) (zab (i:=4) rfl)))
 | `(↑64)=>`((zcc X (own++fvn) scope cl C fp s H))
 | `(↑105)=>`((λ(r:(T3 Int (Option Ji) (Option (LineD⊕RestD))))=>Oc.rt true (dT [dI r.a,dOpt lI r.b,dOpt (dSc A) r.c])))
 | `(↑55)=>`((λr=>Oc.rl true (List.map dS r)))
 | `(↑35)=>`(("home nothing" :Str))
 | `(↑36)=>`((Ev.weak (K:=K) ↑12))
set_option hygiene false in
local macro_rules
 | `(↑122)=>`((λ(s304:↑2)=>([⇑[dQ K ↥6],⇑[dI P1],⇑[dI P2],↥[dS v297],↥[dI v298],↥[dI v300],↥[dI v301],↥[dI v302],↥[dS v303],.ow true (List.map dS s304),.no,.no]:L2.Ctx)))
 | `(↑123)=>`((λ(s15:(List ↑2)) (x16:Str)=>(Let (bif (decide (x16∈[↥2,⇑2])) then (s15++[[x16]]) else (zcZ s15 ↥3 ((ixD s15 ↥3)++[x16]))) (λ(v21:(List ↑2))=>v21))))
 | `(↑65)=>`((Ev.any (m:=true) (zab (i:=6) rfl)))
 | `(↑66)=>`((Ev.any (m:=true) (zab (i:=8) rfl)))
 | `(↑67)=>`((Lat.clm Lat.MG (Lat.mark b.swaps)))
 | `(↑106)=>`((λ(s95:Ji)=>([⇑[dQ K ↥6],⇑[dQ K (List.map lI P1)],↥[dL (List.map dI s95)],.no,.no,.no]:L2.Ctx)))
 | `(↑124)=>`((λ(r:Str×DeskD)=>Oc.rw ([.ob false A.Desk p dx [("names",dL (List.map dS r.2.names)),("book",dOpt (zci A.Book) r.2.book)],.no,.no,.no]:L2.Ctx) (dS r.1)))
 | `(↑19)=>`((List.map dS P0))
 | `(↑136)=>`((λ(s45:↑2) (x46:(Str×Int))=>(bif (decide (x46.2=(0:Int))) then s45 else (Let (bif (decide (x46.2<(0:Int))) then (s45++[⇑2]) else (bif (decide ((0:Int)<((s45.length:Nat):Int))) then (s45++[↥2]) else s45)) (λ(v53:↑2)=>(v53++[((toString ((x46.2.natAbs:Nat):Int):String):Str),x46.1]))))))
 | `(↑97)=>`(((((s318.1.length:Nat):Int)+((v334.length:Nat):Int))+((v330.length:Nat):Int)))
 | `(↑98)=>`((λ(r:(Ji×Ji))=>Oc.rt true (dT [dL (List.map dI r.1),dL (List.map dI r.2)])))
 | `(↑125)=>`((λ(s280:Str×Int)=>([↥[dI s280.2],⇑[dI P1],↥[dS v271],.ow true (List.map dS s272.2),↥[dI x273],↥[dS s280.1],↥[dI v278],.no,.no]:L2.Ctx)))
 | `(↑50)=>`(((steps.length+1)*(s+9000)))
 | `(↑51)=>`((List.mem_cons_of_mem _ ht))
 | `(↑17)=>`((zab (i:=3) rfl))
 | `(↑52)=>`((zbo (K:=K) rfl (pv 0) rfl))
 | `(↑137)=>`(((J.stop i H∧Q (.ref D) H)∨(J.go i H∧∀x H',J.yld i H x H'->g x σb H' λσ2 H2=>tt σ2 H2 λok H3=>if ok=true then te σ2 H3 λy H4=>H4 D=some (.lst ys)∧ys.length<sizeLine∧∃m',m'<m∧W (i+1) m' (ys++[y]) σ2 (upd H4 D (.lst (ys++[y]))) else∃m',m'<m∧W (i+1) m' ys σ2 H3)))
 | `(↑138)=>`((λ(s183:Int) (x184:Int)=>(Let ((x184.natAbs:Nat):Int) (λ(v188:Int)=>(Let (whl (λ(s189:Int×Int)=>(!decide (s189.2=(0:Int)))) (λ(s189:Int×Int)=>(Let (s189.1%s189.2) (λ(v192:Int)=>(Let s189.2 (λ(v193:Int)=>(v193,v192)))))) ((v188).toNat) (s183,v188)) (λ(r194:Int×Int)=>r194.1))))))
 | `(↑5)=>`((λ_=>rfl))
 | `(↑53)=>`(((Lat.lv (n+1) ss).take n))
 | `(↑71)=>`((Ev.any (m:=true) (zab (i:=7) rfl)))
 | `(↑107)=>`((ixD [(9:Int),(99:Int),((10:Int) ^ (6:Int).toNat),((10:Int) ^ (9:Int).toNat)] (x319.1%(4:Int))))
 | `(↑37)=>`((s.heap.objs.size+1))
 | `(↑74)=>`((some (.builtin "object.__setattr__")))
 | `(↑83)=>`((zcc X (own++fvn) scope cl' G2.objs.size fp s H2))
 | `(↑99)=>`((bif (decide ((0:Int)<((s.length:Nat):Int))) then (s++[↥2]) else s))
 | `(↥9)=>`((zaa zaJ zad))
 | `(↑108)=>`((zaE (i:=0) (show (["row","book"]:List Str).Nodup by decide+kernel) rfl ↥0 (Or.inr rfl)))
 | `(↑84)=>`((((ss.length:Nat):Int)=((rows.length:Nat):Int)))
 | `(↑15)=>`(("wares" :Str))
 | `(↑78)=>`((zbp (zb3 (K:=K) rfl) (pv 2) zah ⇑7))
 | `(↑85)=>`((λ(r:Jq)=>Oc.rt false (dL (List.map lI r))))
 | `(↑126)=>`((.of (osc:=(zaf ze0)) (N:=["book","rows","steps","heads","roads"]) (own:=["row"]) (fvn:=["book"]) (fv:=[0]) rfl rfl ⇑6))
 | `(↑75)=>`((EvO.ev (zbR (zac zax zae) ↑61)))
 | `(↑28)=>`((List.map lI P0))
 | `(↑139)=>`((λ(s86:Int×Int×Int×Int)=>(Let (s86.1/s86.2.1) (λ(v89:Int)=>(Let (s86.1-(v89*s86.2.1)) (λ(v90:Int)=>(Let s86.2.1 (λ(v91:Int)=>(Let (s86.2.2.1-(v89*s86.2.2.2)) (λ(v92:Int)=>(Let s86.2.2.2 (λ(v93:Int)=>(v91,v90,v93,v92)))))))))))))
 | `(↑86)=>`((λ(r:Jq)=>Oc.rt true (dL (List.map lI r))))
 | `(↑109)=>`((((((l.length:Nat):Int)+((a.length:Nat):Int))+((t.length:Nat):Int))≤(400:Int)))
 | `(↑20)=>`((some (1:Int)))
 | `(↑14)=>`(("turn" :Str))
set_option hygiene false in
local macro_rules
 | `(↑48)=>`(((P1.length:Nat):Int))
 | `(↑40)=>`((Lat.zgh b.swaps x))
 | `(↑79)=>`((λ(xs:↑27)=>dL (List.map ↑90 xs)))
 | `(↑32)=>`((List.zip ns xs))
 | `(↑56)=>`((show false=true from hs))
 | `(↑23)=>`(("home " :Str))
 | `(↑76)=>`((backTo pos (starEach es X.env)))
 | `(↑110)=>`((s.heap.push {cls:= .type "list_iterator",data:= .fields #[.ref a,.int 0 0]}))
 | `(↑91)=>`((.ListComp elt [⟨tg,iter,ifs,0⟩] scope pos))
 | `(↑68)=>`((Lat.lv (n+1) (snS n b x)))
 | `(↑44)=>`((by simpa using hi))
 | `(↑80)=>`((if b=p∨b=dx then none else H1 b))
 | `(↑29)=>`((zbA I q ↥4))
 | `(↑111)=>`(⟨p,xs,by rw [e1],by rw [←zbi e3];exact g1.fh.seq e2,k _ F1 H1 g1 rfl⟩)
 | `(↑100)=>`((Ev.any (m:=false) (zcM ⇑3 T.Book_cl T.Book_many rfl)))
 | `(↑140)=>`((λ(s95:Ji) (x96:Ji)=>(Let (zag x96) (λ(hv100:Int)=>(Let ((ixD s95 hv100)/(ixD x96 hv100)) (λ(v101:Int)=>(Let (bif (!decide (v101=(0:Int))) then (ze6 s95 (zan x96 v101)) else s95) (λ(v103:Ji)=>v103))))))))
 | `(↑112)=>`(⟨rfl,I.turned (t':=s.toks) (λb o hb e=>eb b o hb e) f0 f1 f3 f4 f5⟩)
 | `(↑77)=>`((((ixD P0 P1).natAbs:Nat):Int))
 | `(↑113)=>`(((List.map (λ(x200:Ji)=>(x200++[(0:Int)])) P0.swaps)++[(P1++[↥3])]))
 | `(↑38)=>`((Heap.lt_size e))
 | `(↑26)=>`((model prog w))
 | `(↑57)=>`((x==("__debug__" :Str)))
 | `(↑127)=>`((λ(s33:Ji)=>([⇑[dL ↑19],⇑[dL (List.map ↑90 P1)],.ow true (List.map dI s33),.no,.no,.no]:L2.Ctx)))
 | `(↑58)=>`((λp=> !decide (p.2=0)))
 | `(↑101)=>`((λx=>[dQ K (List.map dI x.1),dQ K (List.map dI x.2)]))
 | `(↑92)=>`((.Call (.Attribute o m apos) (e::es) [] pos))
 | `(↑128)=>`((Ev.any (m:=true) (zau (x:=(P0,P1)) (zac ⇑3 (zac ↑7 zae)) rfl (by show zbC P0 P1;exact hp.1) rfl)))
 | `(↑54)=>`((ts.flatMap Wd.Tm.ws))
 | `(↑141)=>`((λ(s173:Ji) (x174:Ji)=>(Let (zag x174) (λ(hv178:Int)=>(Let (zbZ s173 x174) (λ(v179:Int)=>(Let (zan s173 (ixD x174 hv178)) (λ(v180:Ji)=>(Let (zcZ v180 hv178 (-v179)) (λ(v181:Ji)=>v181))))))))))
 | `(↑129)=>`((zaN (x:=(x319.2/(8:Int))) (y:=(3:Int)) (zaN (x:=x319.2) (y:=(8:Int)) ↑31 zax ↥(⇑8)) zax ↥1))
 | `(↑24)=>`((g1.trans g2))
 | `(↑114)=>`((thn (ha pos pins s σ H _ I h) λus s1 ⟨vs,H1,I1,r1,q1⟩=> ?_))
 | `(↑81)=>`((List.getElem?_eq_getElem ↑0))
 | `(↑39)=>`(("wares " :Str))
 | `(↑130)=>`((λr s'=>r= .ok (.ret (.bool true))∧OldK s₁.heap s'.heap∧s'.os=s₁.os∧AllBare s'.gens))
 | `(↑131)=>`((λ(s189:Int×Int)=>([⇑[dQ K ↥6],↥[dI s189.1],⇑[dI x184],↥[dI s189.2],.no]:L2.Ctx)))
 | `(↑115)=>`((λ(r:(Str×Ji))=>Oc.rt true (dL [dS r.1,dL (List.map dI r.2)])))
 | `(↑41)=>`((EP X pins σ Q))
 | `(↑82)=>`((λ(r:Int)=>Oc.rt true (dI r)))
 | `(↑93)=>`((λb=>if b=p∨b=dx then none else H1 b))
set_option hygiene false in
local macro_rules
 | `(↑102)=>`((λ(r:↑27)=>Oc.rt true (dL (List.map ↑90 r))))
 | `(↑142)=>`((λ_ _ _ _ _=>⟨(zaE (i:=0) (show (["side","self"]:List Str).Nodup by decide+kernel) rfl ↥0 (Or.inr rfl)),zce,(zaR yaw ↑3 rfl zaL ↑[(zbo (K:=K) rfl (pv 1) rfl),pv 0])⟩))
 | `(↑116)=>`((List.mem_append_right _ (List.mem_append_right _ (zfB hb e))))
set_option hygiene false in
local macro_rules
 | `(⇑[$x])=>`((.va false $x))
 | `(↥[$x])=>`((.va true $x))
 | `(↥($x))=>`((by exact $x))
abbrev Ji:=List Int
abbrev Jq:=List Ji
set_option hygiene false in
local macro_rules
 | `(↑[$a0])=>`((zbK $a0 zcY))
 | `(↑[$a0,$a1])=>`((zbK $a0 (zbK $a1 zcY)))
 | `(↑[$a0,$a1,$a2])=>`((zbK $a0 (zbK $a1 (zbK $a2 zcY))))
 | `(↑[$a0,$a1,$a2,$a3])=>`((zbK $a0 (zbK $a1 (zbK $a2 (zbK $a3 zcY)))))
 | `(↑[$a0,$a1,$a2,$a3,$a4])=>`((zbK $a0 (zbK $a1 (zbK $a2 (zbK $a3 (zbK $a4 zcY))))))
 | `(↑[$a0,$a1,$a2,$a3,$a4,$a5])=>`((zbK $a0 (zbK $a1 (zbK $a2 (zbK $a3 (zbK $a4 (zbK $a5 zcY)))))))
namespace L2
open PySem PySem.Spec PyProof.Rows
abbrev Key:=Sum Int Str
def zty:Key->Value->Bool
 | .inl k,v=>Value.isInt k v
 | .inr x,v=>Value.isStrOf x v
def zwX (w:World):Key->Int
 | .inl k=>hashInt k
 | .inr x=>hashStr w x
theorem zcd:∀ {k:Key} {v:Value},zty k v=true->(∃i t,k=Sum.inl i∧v=Value.int i t)∨(∃x t,k=Sum.inr x∧v=Value.str x t)
 | .inl i,v,h=>by obtain ⟨t,e⟩:=Value.isInt_shape (k:=i) (v:=v) h;exact .inl ⟨i,t,rfl,e⟩
 | .inr x,v,h=>by obtain ⟨t,e⟩:=Value.isStrOf_shape (x:=x) (v:=v) h;exact .inr ⟨x,t,rfl,e⟩
theorem ztE (a b:Int):decide ((Sum.inl a:Key)=Sum.inl b)=(a==b):=by
 by_cases e:a=b;·subst e;simp
 ·have h:¬(Sum.inl a:Key)=Sum.inl b:=λq=>e (Sum.inl.inj q);rw [decide_eq_false h];exact (beq_eq_false_iff_ne.mpr e).symm
theorem zu0 (a b:Str):decide ((Sum.inr a:Key)=Sum.inr b)=decide (a=b):=by
 by_cases e:a=b;·subst e;simp
 ·have h:¬(Sum.inr a:Key)=Sum.inr b:=λq=>e (Sum.inr.inj q);rw [decide_eq_false h,decide_eq_false e]
theorem ztK (a:Int) (b:Str):decide ((Sum.inl a:Key)=Sum.inr b)=false:=decide_eq_false (λq=>nomatch q)
theorem zuC (a:Str) (b:Int):decide ((Sum.inr a:Key)=Sum.inl b)=false:=decide_eq_false (λq=>nomatch q)
def zon (prog:Program) (w:World):PySem.KeyKind prog w Key where
 is:=zty
 hash:=zwX w
 inj:=λv a b ha hb=>by
  rcases zcd ha with ⟨i,t,rfl,rfl⟩ | ⟨x,t,rfl,rfl⟩
  ·rcases zcd hb with ⟨j,u,rfl,e⟩ | ⟨y,u,rfl,e⟩
   ·injection e with e1 _;rw [e1]
   ·exact nomatch e
  ·rcases zcd hb with ⟨j,u,rfl,e⟩ | ⟨y,u,rfl,e⟩
   ·exact nomatch e
   ·injection e with e1 _;rw [e1]
 byValue:=λk v h=>by
  rcases zcd h with ⟨i,t,rfl,rfl⟩ | ⟨x,t,rfl,rfl⟩<;>rfl
 pyHash:=λhv h=>by
  rcases zcd hv with ⟨i,t,rfl,rfl⟩ | ⟨x,t,rfl,rfl⟩
  ·exact wpAny_pyHash_int h
  ·exact wpAny_pyHash_str h
 eqBool:=λhu hv h=>by
  rcases zcd hu with ⟨i,t,rfl,rfl⟩ | ⟨x,t,rfl,rfl⟩
  ·rcases zcd hv with ⟨j,u,rfl,rfl⟩ | ⟨y,u,rfl,rfl⟩
   ·rw [ztE] at h;exact wpAny_eqBool_int h
   ·rw [ztK] at h;exact SeqAt.EqAt.int_str i t y u _ _ _ _ h
  ·rcases zcd hv with ⟨j,u,rfl,rfl⟩ | ⟨y,u,rfl,rfl⟩
   ·rw [zuC] at h;exact SeqAt.EqAt.str_int x t j u _ _ _ _ h
   ·rw [zu0] at h;exact wpAny_eqBool_str h
 «strs»:=λk x t v h=>by
  rcases zcd h with ⟨i,u,rfl,e⟩ | ⟨y,u,rfl,e⟩
  ·exact nomatch e
  ·injection e with e1 _
   subst e1
   cases v<;>rfl
end L2
namespace L2
open PySem PySem.Spec PyProof.Rows
inductive V where
 | non | bl (b:Bool) | int (i:Int) | str (x:Str) | byt (b:Array UInt8) | flt (b:UInt64) | ref (a:Addr) | ty (n:String)
 deriving DecidableEq
def zc0:V->Value->Prop
 | .non,u=>u=Value.none
 | .bl b,u=>u=Value.bool b
 | .int i,u=>∃t,u=Value.int i t
 | .str x,u=>∃t,u=Value.str x t
 | .byt b,u=>∃t,u=Value.bytes b t
 | .flt b,u=>∃t,u=Value.float b t
 | .ref a,u=>u=Value.ref a
 | .ty n,u=>u=Value.type n
abbrev zbL:List V->List Value->Prop:=Paired zc0
theorem zbL.length {xs:List V} {us:List Value} (r:zbL xs us):xs.length=us.length:=Paired.length r
theorem zbL.get:∀ {xs:List V} {us:List Value} {i:Nat} {x:V},zbL xs us->xs[i]? =some x->∃u,us[i]? =some u∧zc0 x u
 | _,_,_,_,.nil,e=>by simp at e
 | _,_,0,_,.cons r _,e=>by simp at e;subst e;exact ⟨_,rfl,r⟩
 | _,_,i+1,x,.cons _ t,e=>by obtain ⟨u,h1,h2⟩:=zbL.get (i:=i) (x:=x) t (by simpa using e);exact ⟨u,by simpa using h1,h2⟩
theorem zbL.set {x:V} {u:Value} (r:zc0 x u):∀ {xs:List V} {us:List Value} (i:Nat),zbL xs us->zbL (xs.set i x) (us.set i u)
 | _,_,_,.nil=>.nil
 | _,_,0,.cons _ t=>.cons r t
 | _,_,i+1,.cons q t=> .cons q (zbL.set r i t)
theorem zbL.append:∀ {xs ys:List V} {us ws:List Value},zbL xs us->zbL ys ws->zbL (xs++ys) (us++ws)
 | _,_,_,_,.nil,s=>s
 | _,_,_,_,.cons r t,s=> .cons r (zbL.append t s)
theorem zbL.take:∀ {xs:List V} {us:List Value} (n:Nat),zbL xs us->zbL (xs.take n) (us.take n)
 | _,_,0,_=>.nil
 | _,_,_+1,.nil=>.nil
 | _,_,n+1,.cons r t=> .cons r (zbL.take n t)
theorem zbL.drop:∀ {xs:List V} {us:List Value} (n:Nat),zbL xs us->zbL (xs.drop n) (us.drop n)
 | _,_,0,r=>r
 | _,_,_+1,.nil=>.nil
 | _,_,n+1,.cons _ t=>zbL.drop n t
def zpz:Option V->Option Value->Prop
 | some v,some u=>zc0 v u
 | none,none=>True
 | _,_=>False
def KV {κ:Type}:List (κ×V)->List (κ×Value)->Prop:=Paired λ(p:κ×V) (q:κ×Value)=>p.1=q.1∧zc0 p.2 q.2
def kV:Key->V
 | .inl i=>.int i
 | .inr x=>.str x
inductive HO where
 | lst (xs:List V)
 | tup (xs:List V)
 | dK (kvs:List (Key×V)) | dT (kvs:List (List Key×V))
 | set (S:Int->Bool) (n:Nat)
 | ins (C dx:Addr) (fs:List (Str×V))
 | own (x:Addr)
 | xd (fs:List (Str×V))
 | met (f x:Addr)
 | rng (lo hi:Int)
 | frz (o:Obj) (u:HO)
 | tbl (ps:Array Value)
 | ext (φ:Heap->Prop)
abbrev Hp:=Addr->Option HO
def upd (H:Hp) (a:Addr) (o:HO):Hp:=λb=>if b=a then some o else H b
theorem zat {H:Hp} {a:Addr} {o:HO}:upd H a o a=some o:=by unfold upd;rw [if_pos rfl]
theorem zam {H:Hp} {a b:Addr} {o:HO} (h:b≠a):upd H a o b=H b:=by unfold upd;rw [if_neg h]
theorem zjJ {H:Hp} {a b:Addr} {o u:HO} (h:H a=some o) (h':H b=some u) (d:o≠u):a≠b:=by intro e;subst e;rw [h] at h';exact d (Option.some.inj h')
theorem zbd {H:Hp} {a b:Addr} {o:HO} (h:H a=some o) (h':H b=none):a≠b:=by intro e;subst e;rw [h] at h';cases h'
section
variable (P:Program) (w:World)
def zdT (H:Hp) (h:Heap) (a:Addr):HO->Prop
 | .lst xs=>xs.length≤sizeLine∧∃(its:List Value) (n:Nat),zbL xs its∧h.get? a=some {cls:= .type "list",data:= .seq its.toArray n}
 | .tup xs=>xs.length≤sizeLine∧∃its:List Value,zbL xs its∧IsTup h a its.toArray
 | .dK kvs=>kvs.length≤sizeLine∧(a==sysModules)=false∧∃vs,KV kvs vs∧h.DictOf (zon P w) a vs
 | .dT kvs=>kvs.length≤sizeLine∧(a==sysModules)=false∧∃xs:List (List Key×Addr×Value),Paired (λ(p:List Key×V) (q:List Key×Addr×Value)=>p.1=q.1∧H q.2.1=some (.tup (p.1.map kV))∧zc0 p.2 q.2.2) kvs xs∧∃o es ep,h.get? a=some o∧o.ExactDict∧o.data= .dict es ep∧es.toList=xs.map (entryOfKey (tupleKind (zon P w)))∧(xs.map (·.1)).Nodup
 | .set S n=>h.SetOf (intKind P w) a S n
 | .ins C dx fs=>H dx=some (.own a)∧fs.length≤1000∧dx≠a∧h.get? a=some (W.instObj C dx)∧∃mA,h.Ns1 dx mA∧(∀f,zpz (fs.lookup f) (mA f))∧PySem.Within mA (fs.map (·.1))
 | .own _=>∃o,h.get? a=some o
 | .xd fs=>∃mA,h.Ns1 a mA∧∀f,zpz (fs.lookup f) (mA f)
 | .rng lo hi=>∃t u v,h.get? a=some {cls:= .type "range",data:= .fields #[.int lo t,.int hi u,.int 1 v]}
 | .frz o u=>h.get? a=some o∧zdT H h a u
 | .tbl ps=>h.get? a=some {cls:= .none,data:= .fields ps}
 | .met f x=>h.get? a=some (W.methodObj (.ref f) (.ref x))
 | .ext φ=>φ h∧(∃o,h.get? a=some o)∧∀h1 h2:Heap,φ h1->(∀o,h1.get? a=some o->h2.get? a=some o)->φ h2
def HOk (H:Hp) (h:Heap):Prop:=∀a o,H a=some o->zdT P w H h a o
end
section
variable {P:Program} {w:World} {H H':Hp} {h h':Heap} {a:Addr} {o:HO}
theorem zdT.lt (x:zdT P w H h a o):a<h.objs.size:=by
 cases o with
  |lst xs=>obtain ⟨_,_,_,_,e⟩:=x;exact Heap.lt_size e
  |tup xs=>obtain ⟨_,_,_,p⟩:=x;exact p.lt
  |dK kvs=>obtain ⟨_,_,_,_,o,_,_,e,_⟩:=x;exact Heap.lt_size e
  |dT kvs=>obtain ⟨_,_,_,_,o,_,_,e,_⟩:=x;exact Heap.lt_size e
  |set S n=>obtain ⟨o,_,_,_,e,_⟩:=x;exact Heap.lt_size e
  |ins C dx fs=>obtain ⟨_,_,_,e,_⟩:=x;exact Heap.lt_size e
  |own y=>obtain ⟨_,e⟩:=x;exact Heap.lt_size e
  |xd fs=>obtain ⟨_,⟨_,_,_,e,_⟩,_⟩:=x;exact Heap.lt_size e
  |rng lo hi=>obtain ⟨_,_,_,e⟩:=x;exact Heap.lt_size e
  |frz ob u=>obtain ⟨e,_⟩:=x;exact Heap.lt_size e
  |tbl ps=>exact Heap.lt_size (show h.get? a=some _ from x)
  |met f y=>exact Heap.lt_size (show h.get? a=some _ from x)
  |ext φ=>obtain ⟨_,⟨_,e⟩,_⟩:=x;exact Heap.lt_size e
theorem Paired.mapP {α β:Type} {F G:α->β->Prop}:∀ {l₁:List α} {l₂:List β},Paired F l₁ l₂->(∀a b,F a b->G a b)->Paired G l₁ l₂
 | _,_,.nil,_=>.nil
 | _,_,.cons r t,f=> .cons (f _ _ r) (Paired.mapP t f)
theorem zdT.stay (x:zdT P w H h a o) (k:∀b u,(b=a∨H b=some (.own a))->h.get? b=some u->h'.get? b=some u)
  (ho:∀b,H b=some (.own a)->H' b=some (.own a)) (ht:∀b xs,H b=some (.tup xs)->H' b=some (.tup xs)):zdT P w H' h' a o:=by
   induction o with
    |lst xs=>obtain ⟨z,its,n,r,e⟩:=x;exact ⟨z,its,n,r,k _ _ (.inl rfl) e⟩
    |tup xs=>obtain ⟨z,its,r,ob,e,c⟩:=x;exact ⟨z,its,r,ob,k _ _ (.inl rfl) e,c⟩
    |dK kvs=>obtain ⟨z,y,vs,r,ob,es,ep,e,c⟩:=x;exact ⟨z,y,vs,r,ob,es,ep,k _ _ (.inl rfl) e,c⟩
    |dT kvs=>obtain ⟨z,y,xs,r,ob,es,ep,e,c⟩:=x;exact ⟨z,y,xs,Paired.mapP r λp q z=>⟨z.1,ht _ _ z.2.1,z.2.2⟩,ob,es,ep,k _ _ (.inl rfl) e,c⟩
    |set S n=>obtain ⟨ob,es,ep,t,e,c⟩:=x;exact ⟨ob,es,ep,t,k _ _ (.inl rfl) e,c⟩
    |ins C dx fs=>obtain ⟨d,z,ne,e,mA,⟨od,es,ep,e2,c⟩,r⟩:=x;exact ⟨ho _ d,z,ne,k _ _ (.inl rfl) e,mA,⟨od,es,ep,k _ _ (.inr d) e2,c⟩,r⟩
    |own y=>obtain ⟨ob,e⟩:=x;exact ⟨ob,k _ _ (.inl rfl) e⟩
    |xd fs=>obtain ⟨mA,⟨od,es,ep,e,c⟩,r⟩:=x;exact ⟨mA,⟨od,es,ep,k _ _ (.inl rfl) e,c⟩,r⟩
    |rng lo hi=>obtain ⟨t,u,v,e⟩:=x;exact ⟨t,u,v,k _ _ (.inl rfl) e⟩
    |frz ob u ih=>obtain ⟨e,q⟩:=x;exact ⟨k _ _ (.inl rfl) e,ih q⟩
    |tbl ps=>have e:h.get? a=some {cls:= .none,data:= .fields ps}:=x;show h'.get? a=some {cls:= .none,data:= .fields ps};exact k a _ (.inl rfl) e
    |met f y=>have e:h.get? a=some (W.methodObj (.ref f) (.ref y)):=x;show h'.get? a=some (W.methodObj (.ref f) (.ref y));exact k a _ (.inl rfl) e
    |ext φ=>obtain ⟨p,⟨o,e⟩,st⟩:=x;exact ⟨st _ _ p λo q=>k _ _ (.inl rfl) q,⟨o,k _ _ (.inl rfl) e⟩,st⟩
theorem HOk.lt (x:HOk P w H h) (e:H a=some o):a<h.objs.size:=(x a o e).lt
theorem HOk.fresh (x:HOk P w H h) (e:h.objs.size≤a):H a=none:=by cases q:H a with|none=>rfl|some u=>exact absurd (Nat.lt_of_lt_of_le (x.lt q) e) (Nat.lt_irrefl _)
theorem HOk.kept (x:HOk P w H h) (k:∀b u,h.get? b=some u->h'.get? b=some u):HOk P w H h':=λa o e=>(x a o e).stay (λb u _ q=>k b u q) (λ_ q=>q) λ_ _ q=>q
theorem HOk.laid (x:HOk P w H h) (k:∀b u,h.get? b=some u->h'.get? b=some u) (hp:h.objs.size≤a) (new:zdT P w (upd H a o) h' a o):HOk P w (upd H a o) h':=λb u e=>by
 have hn:=x.fresh hp;by_cases hb:b=a;·subst hb;rw [zat] at e;cases e;exact new
 ·rw [zam hb] at e;exact (x b u e).stay (λc v _ q=>k c v q) (λc q=>by rw [zam (zbd q hn)];exact q) λc xs q=>by rw [zam (zbd q hn)];exact q
end
def Rd (H:Hp) (a:Addr) (u:HO):Prop:=H a=some u∨∃o,H a=some (.frz o u)
theorem Rd.ok {P:Program} {w:World} {H:Hp} {h:Heap} {a:Addr} {u:HO} (r:Rd H a u) (x:HOk P w H h):zdT P w H h a u:=by
 rcases r with r|⟨o,r⟩
 ·exact x a u r
 ·obtain ⟨_,q⟩:=x a _ r;exact q
def Mut:Option HO->Prop
 | some (.lst _)=>True
 | some (.dK _)=>True
 | some (.dT _)=>True
 | some (.set _ _)=>True
 | some (.ins _ _ _)=>True
 | some (.ext _)=>True
 | _=>False
section
variable {P:Program} {w:World} {H:Hp} {h h':Heap} {x e:Addr} {o':HO}
theorem HOk.write (ok:HOk P w H h) (mu:Mut (H x)) (he:e=x∨H e=some (.own x)) (k:∀b u,b≠e->h.get? b=some u->h'.get? b=some u) (heo:∃u,h'.get? e=some u)
  (new:zdT P w (upd H x o') h' x o'):HOk P w (upd H x o') h':=λb u q=>by
   have nown:∀c y,H c=some (.own y)->c≠x:=λc y r z=>by subst z;rw [r] at mu;exact mu
   have ntup:∀c xs,H c=some (.tup xs)->c≠x:=λc xs r z=>by subst z;rw [r] at mu;exact mu
   by_cases hb:b=x;·subst hb;rw [zat] at q;cases q;exact new
   ·rw [zam hb] at q;by_cases hbe:b=e
    ·have q':H b=some (.own x):=by
      rcases he with z|z
      ·exact absurd (hbe.trans z) hb
      ·rw [hbe];exact z
     rw [q] at q';cases q';obtain ⟨v,hv⟩:=heo;exact ⟨v,by rw [hbe];exact hv⟩
    ·refine (ok b u q).stay (λc v hc r=>k c v ?_ r) (λc r=>by rw [zam (nown c b r)];exact r) λc xs r=>by rw [zam (ntup c xs r)];exact r
     rcases hc with rfl|hc
     ·exact hbe
     ·rintro rfl;rcases he with z|z
      ·exact nown c b hc z
      ·rw [hc] at z;cases z;exact hb rfl
end
structure Un (fs ex:List Addr) (H H':Hp) (h h':Heap):Prop where
 keep:∀ b o,h.get? b=some o->H b=none->b ∉ fs->b ∉ ex->h'.get? b=some o
 slot:∀ b o,h.get? b=some o->H b=none->b∈fs->b ∉ ex->∃ sl,h'.get? b=some { o with slots:=sl }
 free:∀ b o,h.get? b=some o->H b=none->b ∉ ex->H' b=none
 there:∀ b o,h.get? b=some o->b ∉ ex->∃ o',h'.get? b=some o'
 tups:∀ b xs,H b=some (.tup xs)->H' b=some (.tup xs)
 frzs:∀ b o u,H b=some (.frz o u)->H' b=some (.frz o u)
 tbls:∀ b ps,H b=some (.tbl ps)->∃ more,H' b=some (.tbl (ps++more))
section
variable {fs fs' ex ex':List Addr} {H H1 H2:Hp} {h h1 h2 h':Heap} {a x e:Addr} {o:HO}
theorem Un.any (u:Un fs ex H H1 h h1) {b:Addr} {ob:Obj} (q:h.get? b=some ob) (n:H b=none) (hx:b ∉ ex):∃sl,h1.get? b=some {ob with slots:=sl}:=by
 by_cases hb:b∈fs;·exact u.slot b ob q n hb hx
 ·exact ⟨ob.slots,u.keep b ob q n hb hx⟩
theorem Un.kept (k:∀b u,h.get? b=some u->h'.get? b=some u):Un fs ex H H h h' :=
 ⟨λb ob q _ _ _=>k b ob q,λb ob q _ _ _=>⟨ob.slots,k b ob q⟩,λ_ _ _ n _=>n,λb ob q _=>⟨ob,k b ob q⟩,λ_ _ q=>q,λ_ _ _ q=>q,λ_ ps q=>⟨#[],by rw [q];simp⟩⟩
theorem Un.refl:Un fs ex H H h h:=Un.kept λ_ _ q=>q
theorem Un.laid (k:∀b u,h.get? b=some u->h'.get? b=some u) (hp:h.objs.size≤a) (hn:H a=none):Un fs ex H (upd H a o) h h' where
 keep:=λb u q _ _ _=>k b u q
 slot:=λb u q _ _ _=>⟨u.slots,k b u q⟩
 free:=λb u q n _=>by rw [zam (Nat.ne_of_lt (Nat.lt_of_lt_of_le (Heap.lt_size q) hp))];exact n
 there:=λb u q _=>⟨u,k b u q⟩
 tups:=λb xs q=>by rw [zam (zbd q hn)];exact q
 frzs:=λb u xs q=>by rw [zam (zbd q hn)];exact q
 tbls:=λb ps q=>⟨#[],by rw [zam (zbd q hn),q];simp⟩
theorem Un.write (mu:Mut (H x)) (he:e=x∨H e=some (.own x)) (k:∀b u,b≠e->h.get? b=some u->h'.get? b=some u) (heo:∃u,h'.get? e=some u):Un fs ex H (upd H x o) h h':=by
 have hx:∀b,H b=none->b≠x:=λb n z=>by subst z;rw [n] at mu;exact mu
 have hb:∀b,H b=none->b≠e:=λb n z=>by
  subst z;rcases he with r|r
  ·exact hx b n r
  ·rw [n] at r;cases r
 have hm:∀b u,H b=some u->¬Mut (some u)->b≠x:=λb u q nm z=>by subst z;rw [q] at mu;exact nm mu
 refine ⟨λb u q n _ _=>k b u (hb b n) q,λb u q n _ _=>⟨u.slots,k b u (hb b n) q⟩,λb u q n _=>by rw [zam (hx b n)];exact n,λb u q _=> ?_,λb xs q=>by rw [zam (hm b _ q λz=>z)];exact q,λb u xs q=>by rw [zam (hm b _ q λz=>z)];exact q,λb ps q=>⟨#[],by rw [zam (hm b _ q λz=>z),q];simp⟩⟩;by_cases hbe:b=e;·subst hbe;exact heo
 ·exact ⟨u,k b u hbe q⟩
end
def trk (h:Heap) (H:Hp):List Addr:=(List.range h.objs.size).filter λa=>(H a).isSome
def zqo (h:Heap) (H:Hp):Heap:=W.hideAll h (trk h H)
theorem zop (h:Heap) (H:Hp):(zqo h H).objs.size=h.objs.size:=W.hideAll_size _ _
theorem zqE {h:Heap} {H:Hp} {b:Addr} {o:Obj} (e:h.get? b=some o) (n:H b=none):(zqo h H).get? b=some o :=
 W.hideAll_get _ e λhm=>by have q:(H b).isSome=true:=(List.mem_filter.mp hm).2;rw [n] at q;simp at q
theorem zrH {h:Heap} {H:Hp} {b:Addr} {o:Obj} (e:(zqo h H).get? b=some o):h.get? b=some o∧H b=none:=by have e':h.get? b=some o:=W.of_hideAll (trk h H) e;refine ⟨e',?_⟩;cases q:H b with|none=>rfl|some x=>have hm:b∈trk h H:=List.mem_filter.mpr ⟨List.mem_range.mpr (Heap.lt_size e'),by simp [q]⟩;have z:(zqo h H).get? b=none:=W.hideAll_none (trk h H) hm;rw [z] at e;cases e
end L2
namespace L2
open PySem PySem.Spec PyProof.Rows
structure Mod (K:W.Frag) (mg:Str->Option Value) (base:Heap):Prop where
 kin:K.In base
 glob:base.Ns mainGlobals mg
 blt:∃ mb,base.Ns builtinsNs mb∧∀ x:Str,x≠"__name__"->mb x=bootBuiltins x
 nolimit:base.NoLimit
structure Cx where
 prog:Program
 w:World
 K:W.Frag
 mg:Str->Option Value
 base:Heap
 A:Around
 N:List Str
 s₀:Shared
 H₀:Hp
 env:Env
 outer:List Env
 stack:List Env
 ex:List Addr
 fn:Str->Bool
 calm:Bool
 pn:List ↑4
 xe:Value->Shared->Prop
def frs (l:List Env):List Addr:=l.filterMap (·.frame)
abbrev Cx.fs (X:Cx):List Addr:=frs X.outer
def Vis (sc:Scope) (x:Str):Prop:=sc.names.lookup x=some .local∨sc.names.lookup x=some .cell∨sc.names.lookup x=some .free
def Loc (sc:Scope) (x:Str):Prop:=sc.names.lookup x=some .local∨sc.names.lookup x=some .cell
def zwK (env:Env) (h:Heap) (m:Str->Option Value) (x:Str) (u:Value):Prop :=
 (env.kindOf x=some .local∧m x=some u)∨((env.kindOf x=some .cell∨env.kindOf x=some .free)∧∃c,env.cells.lookup x=some c∧h.IsCell c (some u))
structure Cx.Ok (X:Cx):Prop where
 mod:Mod X.K X.mg X.base
 kind:X.env.scope.kind=.function
 glob:X.env.globals=mainGlobals
 blt:X.env.builtins=builtinsNs
 above:X.s₀.heap.objs.size≤X.env.locals
 inj:∀ x y c,X.env.cells.lookup x=some c->X.env.cells.lookup y=some c->x=y
 has:∀ x,(X.env.kindOf x=some .cell∨X.env.kindOf x=some .free)->∃ c,X.env.cells.lookup x=some c
 cab:∀ x c,X.fn x=true->X.env.cells.lookup x=some c->X.s₀.heap.objs.size≤c
 hd:X.calm=true->X.A.handled=none
 frames:X.A.frames=some X.stack
 stk:X.stack=X.outer∨(X.stack=X.env :: X.outer∧X.env.frame=some X.env.locals)
 exf:∀ b∈X.ex,b≠X.env.locals∧∀ x c,X.env.cells.lookup x=some c->c≠b
 bs:∀ b o,X.base.get? b=some o->X.s₀.heap.get? b=some o∧X.H₀ b=none
 bsz:X.base.objs.size≤X.s₀.heap.objs.size
 noex:∀ b o,X.base.get? b=some o->b ∉ X.ex
 exfs:∀ b∈X.ex,b ∉ X.fs
 funs:X.s₀.heap.FunFrames X.base X.outer
 frf:∀ b∈X.fs,X.H₀ b=none
structure Inv (X:Cx) (pins:List ↑4) (σ:List (Option V)) (H:Hp) (s:Shared):Prop where
 ok:X.Ok
 os:s.os=X.s₀.os
 bare:AllBare s.gens
 base:Un X.fs X.ex X.H₀ H X.s₀.heap s.heap
 loc:∃ m,s.heap.Ns X.env.locals m∧∀ (i:Nat) (x:Str) (v:V),X.N[i]?=some x->σ[i]?=some (some v)->Vis X.env.scope x->∃ u,zc0 v u∧zwK X.env s.heap m x u
 cell:∀ x c,X.env.cells.lookup x=some c->∃ v,s.heap.IsCell c v
 free:H X.env.locals=none
 freeC:∀ x c,X.env.cells.lookup x=some c->H c=none
 pin:∀ p∈X.pn++pins,s.heap.get? p.1=some p.2∧H p.1=none∧p.1≠X.env.locals∧p.1 ∉ X.fs∧∀ v,p.2.data≠.cell v
 hok:HOk X.prog X.w H s.heap
 len:σ.length=X.N.length
section
variable {X:Cx} {pins:List ↑4} {σ:List (Option V)} {H H':Hp} {s:Shared} {h':Heap}
theorem Cx.Ok.nofr (ok:X.Ok) {b:Addr} {o:Obj} (e:X.base.get? b=some o):b ∉ X.fs:=λhb=>by have:=(ok.funs.mem hb).1;rw [e] at this;cases this
theorem Inv.bs (I:Inv X pins σ H s):∀b o,X.base.get? b=some o->s.heap.get? b=some o∧H b=none:=λb o e=>⟨I.base.keep b o (I.ok.bs b o e).1 (I.ok.bs b o e).2 (I.ok.nofr e) (I.ok.noex b o e),I.base.free b o (I.ok.bs b o e).1 (I.ok.bs b o e).2 (I.ok.noex b o e)⟩
theorem Inv.bk (I:Inv X pins σ H s):∀b o,X.base.get? b=some o->s.heap.get? b=some o:=λb o e=>(I.bs b o e).1
theorem Inv.mod (I:Inv X pins σ H s):Mod X.K X.mg X.base:=I.ok.mod
theorem Inv.kIn (I:Inv X pins σ H s):X.K.In s.heap:=I.ok.mod.kin.keeps I.bk
theorem Inv.nolimit (I:Inv X pins σ H s):s.heap.NoLimit:=I.ok.mod.nolimit.keeps I.bk
theorem Inv.fr (I:Inv X pins σ H s):∃m,Fr X.base X.env.locals s.heap m :=
 let ⟨m,hn,_⟩:=I.loc;⟨m,hn,I.bk,Nat.le_trans I.ok.bsz I.ok.above⟩
theorem Inv.lt (I:Inv X pins σ H s):X.env.locals<s.heap.objs.size:=let ⟨_,hn,_⟩:=I.loc;hn.lt
theorem Inv.sz (I:Inv X pins σ H s):X.s₀.heap.objs.size≤s.heap.objs.size:=Nat.le_trans I.ok.above (Nat.le_of_lt I.lt)
theorem Inv.nofs (I:Inv X pins σ H s) {a:Addr} (h:s.heap.objs.size≤a):a ∉ X.fs:=λhb=>by obtain ⟨_,o,ho,_⟩:=I.ok.funs.mem hb;exact absurd (Nat.lt_of_lt_of_le (Heap.lt_size ho) (Nat.le_trans I.sz h)) (Nat.lt_irrefl _)
theorem Inv.cne (I:Inv X pins σ H s):∀x c,X.env.cells.lookup x=some c->c≠X.env.locals:=λx c e z=>by obtain ⟨v,o,ho,hd⟩:=I.cell x c e;obtain ⟨m,⟨o',es,ep,ho',hd',_⟩,_⟩:=I.loc;rw [z,ho'] at ho;cases ho;rw [hd'] at hd;cases hd
theorem Inv.funs (I:Inv X pins σ H s):s.heap.FunFrames X.base X.outer:=by
 have all:∀(l:List Env),(∀b∈frs l,b∈X.fs)->X.s₀.heap.FunFrames X.base l->s.heap.FunFrames X.base l:=by
  intro l
  induction l with
   |nil=>intro _ _;trivial
   |cons env r ih=>intro hs hl;obtain ⟨hk,⟨L,o,hf,hn,ho,hd⟩,hr⟩:=hl;have hL:L∈X.fs:=hs L (by unfold frs;rw [List.filterMap_cons,hf];exact List.mem_cons_self);obtain ⟨sl,e⟩:=I.base.slot L o ho (I.ok.frf L hL) hL λz=>I.ok.exfs L z hL;exact ⟨hk,⟨L,_,hf,hn,e,hd⟩,ih (λb hb=>hs b (by unfold frs;rw [List.filterMap_cons,hf];exact List.mem_cons_of_mem _ hb)) hr⟩
 exact all X.outer (λ_ hb=>hb) I.ok.funs
theorem Inv.stack (I:Inv X pins σ H s):s.heap.FunFrames X.base X.stack:=by
 rcases I.ok.stk with e|⟨e,hf⟩
 ·rw [e];exact I.funs
 ·rw [e];obtain ⟨m,hn,_⟩:=I.loc;refine .cons (by rw [I.ok.kind];decide) hf hn ?_ I.funs;exact Heap.get?_none_of_le (Nat.le_trans I.ok.bsz I.ok.above)
theorem Inv.stkSub (I:Inv X pins σ H s):∀b∈frs X.stack,b∈X.env.locals::X.fs:=λb hb=>by
 rcases I.ok.stk with e|⟨e,hf⟩
 ·rw [e] at hb;exact List.mem_cons_of_mem _ hb
 ·rw [e] at hb;unfold frs at hb;rw [List.filterMap_cons,hf] at hb;exact hb
theorem Inv.stkFree (I:Inv X pins σ H s):∀b∈frs X.stack,H b=none:=λb hb=>by
 rcases List.mem_cons.mp (I.stkSub b hb) with e|hb
 ·rw [e];exact I.free
 ·obtain ⟨_,o,ho,_⟩:=I.ok.funs.mem hb;exact I.base.free b o ho (I.ok.frf b hb) λz=>I.ok.exfs b z hb
theorem Inv.step {g':Array GenState} {t':Nat} {d':Drawn} {ch:List Addr} (I:Inv X pins σ H s)
  (hch:∀b∈ch,(b∈X.ex∨X.s₀.heap.objs.size≤b)∧b≠X.env.locals∧(∀x c,X.env.cells.lookup x=some c->c≠b)∧∀p∈X.pn++pins,p.1≠b)
  (keep:∀b o,b≠X.env.locals->b∉X.fs->b∉ch->s.heap.get? b=some o->H b=none->h'.get? b=some o)
  (slot:∀b o,b≠X.env.locals->b∈X.fs->b∉ch->s.heap.get? b=some o->H b=none->∃sl,h'.get? b=some {o with slots:=sl}) (free:∀b o,b∉ch->s.heap.get? b=some o->H b=none->H' b=none)
  (there:∀b o,b∉ch->s.heap.get? b=some o->∃o',h'.get? b=some o')
  (tups:∀b xs,H b=some (.tup xs)->H' b=some (.tup xs)) (frzs:∀b o u,H b=some (.frz o u)->H' b=some (.frz o u)) (tbls:∀b ps,H b=some (.tbl ps)->∃more,H' b=some (.tbl (ps++more)))
  (ns:∀m,s.heap.Ns X.env.locals m->h'.Ns X.env.locals m) (hok:HOk X.prog X.w H' h') (hg:AllBare g') :
  Inv X pins σ H' {s with heap:=h',gens:=g',drawn:=d',toks:=t'}:=by
   have neL:∀b o,X.s₀.heap.get? b=some o->b≠X.env.locals:=λb o e=>Nat.ne_of_lt (Nat.lt_of_lt_of_le ↑38 I.ok.above)
   have neC:∀b o,X.s₀.heap.get? b=some o->b∉X.ex->b∉ch:=λb o e hx hb=>by
    rcases (hch b hb).1 with z|z
    ·exact hx z
    ·exact absurd (Nat.lt_of_lt_of_le ↑38 z) (Nat.lt_irrefl _)
   have cellK:∀x c,X.env.cells.lookup x=some c->∀v,s.heap.IsCell c v->h'.IsCell c v:=λx c e v ⟨o,ho,hd⟩=>by
    have nch:c∉ch:=λz=>(hch c z).2.2.1 x c e rfl;by_cases hc:c∈X.fs;·obtain ⟨sl,q⟩:=slot c o (I.cne x c e) hc nch ho (I.freeC x c e);exact ⟨_,q,hd⟩
    ·exact ⟨o,keep c o (I.cne x c e) hc nch ho (I.freeC x c e),hd⟩
   refine ⟨I.ok,I.os,hg,⟨λb o e n hb hx=> ?_,λb o e n hb hx=> ?_,λb o e n hx=> ?_,λb o e hx=> ?_,λb xs e=>tups b xs (I.base.tups b xs e),λb o xs e=>frzs b o xs (I.base.frzs b o xs e),λb ps e=> ?_⟩,?_,λx c e=> ?_,?_,λx c e=> ?_,λp hp=> ?_,hok,I.len⟩;·exact keep b o (neL b o e) hb (neC b o e hx) (I.base.keep b o e n hb hx) (I.base.free b o e n hx)
   ·obtain ⟨sl,e1⟩:=I.base.slot b o e n hb hx;obtain ⟨sl',e2⟩:=slot b _ (neL b o e) hb (neC b o e hx) e1 (I.base.free b o e n hx);exact ⟨sl',e2⟩
   ·obtain ⟨o',e1⟩:=I.base.there b o e hx;exact free b o' (neC b o e hx) e1 (I.base.free b o e n hx)
   ·obtain ⟨o',e1⟩:=I.base.there b o e hx;exact there b o' (neC b o e hx) e1
   ·obtain ⟨m1,e1⟩:=I.base.tbls b ps e;obtain ⟨m2,e2⟩:=tbls b _ e1;exact ⟨m1++m2,by rw [e2,Array.append_assoc]⟩
   ·obtain ⟨m,hn,hl⟩:=I.loc;refine ⟨m,ns m hn,λi x v e1 e2 e3=> ?_⟩;obtain ⟨u,r,l⟩:=hl i x v e1 e2 e3;refine ⟨u,r,?_⟩;rcases l with l|⟨k,c,e,z⟩
    ·exact .inl l
    ·exact .inr ⟨k,c,e,cellK x c e _ z⟩
   ·obtain ⟨v,z⟩:=I.cell x c e;exact ⟨v,cellK x c e v z⟩
   ·obtain ⟨m,⟨o,_,_,ho,_⟩,_⟩:=I.loc;exact free _ o (λz=>(hch _ z).2.1 rfl) ho I.free
   ·obtain ⟨v,o,ho,hd⟩:=I.cell x c e;exact free c o (λz=>(hch c z).2.2.1 x c e rfl) ho (I.freeC x c e)
   ·obtain ⟨e,n,ne,nf,d⟩:=I.pin p hp;have nch:p.1∉ch:=λz=>(hch p.1 z).2.2.2 p hp rfl;exact ⟨keep p.1 p.2 ne nf nch e n,free p.1 p.2 nch e n,ne,nf,d⟩
theorem Inv.un {t':Nat} (I:Inv X pins σ H s) (u:Un X.fs [] H H' s.heap h') (hok:HOk X.prog X.w H' h'):Inv X pins σ H' {s with heap:=h',toks:=t'}:=by obtain ⟨m,⟨o,es,ep,ho,r⟩,_⟩:=id I.loc;obtain ⟨sl,hL⟩:=u.any ho I.free ↥4;exact I.step (g':=s.gens) (d':=s.drawn) (ch:=[]) (λ_ z=>nomatch z) (λb o _ hb _ e n=>u.keep b o e n hb ↥4) (λb o _ hb _ e n=>u.slot b o e n hb ↥4) (λb o _ e n=>u.free b o e n ↥4) (λb o _ e=>u.there b o e ↥4) u.tups u.frzs u.tbls (λm' hm=>by obtain ⟨o',es',ep',ho',r'⟩:=hm;rw [ho] at ho';cases ho';exact ⟨_,es',ep',hL,r'⟩) hok I.bare
theorem Inv.call {g':Array GenState} {t':Nat} {d':Drawn} {ch:List Addr} (I:Inv X pins σ H s) (u:Un (frs X.stack) ch H H' s.heap h') (hok:HOk X.prog X.w H' h') (hg:AllBare g')
  (hch:∀b∈ch,(b∈X.ex∨X.s₀.heap.objs.size≤b)∧b≠X.env.locals∧(∀x c,X.env.cells.lookup x=some c->c≠b)∧∀p∈X.pn++pins,p.1≠b) :
  Inv X pins σ H' {s with heap:=h',gens:=g',drawn:=d',toks:=t'}:=by obtain ⟨m,⟨o,es,ep,ho,r⟩,_⟩:=id I.loc;obtain ⟨sl,hL⟩:=u.any ho I.free λz=>(hch _ z).2.1 rfl;exact I.step (ch:=ch) hch (λb o hL hb hc e n=>u.keep b o e n (λz=>(List.mem_cons.mp (I.stkSub b z)).elim hL hb) hc) (λb o _ _ hc e n=>u.any e n hc) (λb o hc e n=>u.free b o e n hc) (λb o hc e=>u.there b o e hc) u.tups u.frzs u.tbls (λm' hm=>by obtain ⟨o',es',ep',ho',r'⟩:=hm;rw [ho] at ho';cases ho';exact ⟨_,es',ep',hL,r'⟩) hok hg
theorem Inv.turned {t':Nat} {it:Addr} (I:Inv X pins σ H s) (k:∀b o,b≠it->s.heap.get? b=some o->h'.get? b=some o) (hn:H it=none) (hL:it≠X.env.locals)
  (h1:it∈X.ex∨X.s₀.heap.objs.size≤it) (h2:∀x c,X.env.cells.lookup x=some c->c≠it) (h3:∀p∈X.pn++pins,p.1≠it):Inv X pins σ H {s with heap:=h',toks:=t'}:=by
   have nit:∀b u,H b=some u->b≠it:=λb u e z=>by rw [z,hn] at e;cases e
   refine I.step (g':=s.gens) (d':=s.drawn) (ch:=[it]) (λb hb=> ?_) (λb o _ _ hc e _=>k b o (λz=>hc (by simp [z])) e) (λb o _ _ hc e _=>⟨o.slots,k b o (λz=>hc (by simp [z])) e⟩) (λ_ _ _ _ n=>n) (λb o hc e=>⟨o,k b o (λz=>hc (by simp [z])) e⟩) (λ_ _ e=>e) (λ_ _ _ e=>e) (λb ps e=>⟨#[],by rw [e];simp⟩) (λm hm=> ?_) (λb u e=> ?_) I.bare
   ·have e:b=it:=by simpa using hb
    subst e;exact ⟨h1,hL,h2,h3⟩
   ·obtain ⟨o,es,ep,ho,r⟩:=hm;exact ⟨o,es,ep,k _ o (Ne.symm hL) ho,r⟩
   ·refine (I.hok b u e).stay (λc v hc q=>k c v ?_ q) (λ_ q=>q) λ_ _ q=>q;rcases hc with z|z
    ·rw [z];exact nit b u e
    ·exact nit c _ z
theorem Inv.tok (I:Inv X pins σ H s) (t:Nat):Inv X pins σ H {s with toks:=t}:=I.un (h':=s.heap) (t':=t) Un.refl I.hok
theorem Inv.kept {t':Nat} (I:Inv X pins σ H s) (k:∀b u,s.heap.get? b=some u->h'.get? b=some u):Inv X pins σ H {s with heap:=h',toks:=t'}:=I.un (Un.kept k) (I.hok.kept k)
theorem Inv.laid {a:Addr} {o:HO} {t':Nat} (I:Inv X pins σ H s) (k:∀b u,s.heap.get? b=some u->h'.get? b=some u) (hp:s.heap.objs.size≤a) (new:zdT X.prog X.w (upd H a o) h' a o) :
  Inv X pins σ (upd H a o) {s with heap:=h',toks:=t'}:=I.un (Un.laid k hp (I.hok.fresh hp)) (I.hok.laid k hp new)
theorem Inv.write {x e:Addr} {o:HO} {t':Nat} (I:Inv X pins σ H s) (mu:Mut (H x)) (he:e=x∨H e=some (.own x)) (k:∀b u,b≠e->s.heap.get? b=some u->h'.get? b=some u) (heo:∃u,h'.get? e=some u)
  (new:zdT X.prog X.w (upd H x o) h' x o):Inv X pins σ (upd H x o) {s with heap:=h',toks:=t'}:=I.un (Un.write mu he k heo) (I.hok.write mu he k heo new)
theorem Inv.pins_of {pins':List ↑4} (I:Inv X pins σ H s) (h:∀p∈pins',s.heap.get? p.1=some p.2∧H p.1=none∧p.1≠X.env.locals∧p.1∉X.fs∧∀v,p.2.data≠ .cell v):Inv X pins' σ H s :=
 ⟨I.ok,I.os,I.bare,I.base,I.loc,I.cell,I.free,I.freeC,λp hp=>(List.mem_append.mp hp).elim (λz=>I.pin p (List.mem_append_left _ z)) (h p),I.hok,I.len⟩
theorem zl8 {N:List Str} (hN:N.Nodup) {i j:Nat} {x:Str} (a:N[i]?=some x) (b:N[j]?=some x):i=j:=by obtain ⟨h1,e1⟩:=List.getElem?_eq_some_iff.mp a;obtain ⟨h2,e2⟩:=List.getElem?_eq_some_iff.mp b;exact (List.getElem_inj hN).mp (e1.trans e2.symm)
theorem zj9 {M:Model} {A:Around} {E:Value->Shared->Prop} {i:Nat} {x:Str} {v:V} {u:Value} {Q:Unit->Shared->Prop} (I:Inv X pins σ H s) (hN:X.N.Nodup) (hi:X.N[i]?=some x) (hx:Loc X.env.scope x) (r:zc0 v u)
  (h:∀s',Inv X pins (σ.set i (some v)) H s'->(∃a,Heap.SameBut a s.heap s'.heap∧(a=X.env.locals∨X.env.cells.lookup x=some a))->Q () s') (hf:X.fn x=true∨X.env.scope.names.lookup x=some .local:=by first | exact .inl rfl | exact .inr rfl | assumption):wpAny M A (storeName X.env x u) Q E s:=by
   obtain ⟨m,hn,hl⟩:=id I.loc;have hcls:(X.env.scope.kind== .class||(X.env.scope.kind== .module && X.env.locals !=X.env.globals))=false:=by rw [I.ok.kind];rfl
   have hiσ:i<σ.length:=by rw [I.len];exact (List.getElem?_eq_some_iff.mp hi).1
   have cne:=I.cne
   have tracked:∀ {a:Addr} {h':Heap},(∃o,s.heap.get? a=some o∧H a=none)->Heap.SameBut a s.heap h'->HOk X.prog X.w H h':=λ {a h'} ha hs b ob e=>by
    obtain ⟨_,_,hfree⟩:=ha;refine (I.hok b ob e).stay (λc w' hc q=>(hs.2 c ?_).trans q) (λ_ q=>q) λ_ _ q=>q;rintro rfl;rcases hc with rfl|hc
    ·rw [hfree] at e;cases e
    ·rw [hfree] at hc;cases hc
   rcases hx with hk|hk
   ·refine wpAny_storeName_local hk hn (λh' hn' hs=> ?_) hcls;obtain ⟨oL,_,_,hoL,_⟩:=id hn;refine h _ ⟨I.ok,I.os,I.bare,⟨λb o e n hb hx=> ?_,λb o e n hb hx=> ?_,I.base.free,λb o e hx=> ?_,I.base.tups,I.base.frzs,I.base.tbls⟩,⟨_,hn',λj y v' e1 e2 e3=> ?_⟩,λy c e=> ?_,I.free,I.freeC,λp hp=> ?_,tracked ⟨oL,hoL,I.free⟩ hs,by simpa using I.len⟩ ⟨_,hs,.inl rfl⟩;·exact (hs.2 b (Nat.ne_of_lt (Nat.lt_of_lt_of_le ↑38 I.ok.above))).trans (I.base.keep b o e n hb hx)
    ·obtain ⟨sl,e1⟩:=I.base.slot b o e n hb hx;exact ⟨sl,(hs.2 b (Nat.ne_of_lt (Nat.lt_of_lt_of_le ↑38 I.ok.above))).trans e1⟩
    ·obtain ⟨o',e1⟩:=I.base.there b o e hx;exact ⟨o',(hs.2 b (Nat.ne_of_lt (Nat.lt_of_lt_of_le ↑38 I.ok.above))).trans e1⟩
    ·by_cases hj:j=i;·subst hj;rw [hi] at e1;cases e1;rw [List.getElem?_set_self hiσ] at e2;cases e2;exact ⟨u,r,.inl ⟨hk,by simp⟩⟩
     ·rw [List.getElem?_set_ne (Ne.symm hj)] at e2;obtain ⟨u',r',q⟩:=hl j y v' e1 e2 e3;refine ⟨u',r',?_⟩;rcases q with ⟨k,e⟩|⟨k,c,e,z⟩
      ·refine .inl ⟨k,?_⟩;have:y≠x:=λe=>hj (zl8 hN e1 (e ▸ hi));simp [this,e]
      ·exact .inr ⟨k,c,e,z.sameBut hs (cne y c e)⟩
    ·obtain ⟨w',z⟩:=I.cell y c e;exact ⟨w',z.sameBut hs (cne y c e)⟩
    ·obtain ⟨e,n,ne,nf,d⟩:=I.pin p hp;exact ⟨(hs.2 p.1 ne).trans e,n,ne,nf,d⟩
   ·have hfn:X.fn x=true:=by
     rcases hf with z|z
     ·exact z
     ·rw [z] at hk;cases hk
    obtain ⟨c,hc⟩:=I.ok.has x (.inl hk);obtain ⟨w',z⟩:=I.cell x c hc;refine wpAny_storeName_cell I.ok.kind hk hc z (λh' hc' hs=> ?_);obtain ⟨oc,hoc,hocd⟩:=id z;refine h {s with heap:=h'} ⟨I.ok,I.os,I.bare,⟨λb o e n hb hx=> ?_,λb o e n hb hx=> ?_,I.base.free,λb o e hx=> ?_,I.base.tups,I.base.frzs,I.base.tbls⟩,⟨m,hn.sameBut hs (Ne.symm (cne x c hc)),λj y v' e1 e2 e3=> ?_⟩,λy c' e=> ?_,I.free,I.freeC,λp hp=> ?_,tracked ⟨oc,hoc,I.freeC x c hc⟩ hs,by simpa using I.len⟩ ⟨c,hs,.inr hc⟩;·exact (hs.2 b (Nat.ne_of_lt (Nat.lt_of_lt_of_le ↑38 (I.ok.cab x c hfn hc)))).trans (I.base.keep b o e n hb hx)
    ·obtain ⟨sl,e1⟩:=I.base.slot b o e n hb hx;exact ⟨sl,(hs.2 b (Nat.ne_of_lt (Nat.lt_of_lt_of_le ↑38 (I.ok.cab x c hfn hc)))).trans e1⟩
    ·obtain ⟨o',e1⟩:=I.base.there b o e hx;exact ⟨o',(hs.2 b (Nat.ne_of_lt (Nat.lt_of_lt_of_le ↑38 (I.ok.cab x c hfn hc)))).trans e1⟩
    ·by_cases hj:j=i;·subst hj;rw [hi] at e1;cases e1;rw [List.getElem?_set_self hiσ] at e2;cases e2;exact ⟨u,r,.inr ⟨.inl hk,c,hc,hc'⟩⟩
     ·rw [List.getElem?_set_ne (Ne.symm hj)] at e2;obtain ⟨u',r',q⟩:=hl j y v' e1 e2 e3;refine ⟨u',r',?_⟩;rcases q with q|⟨k,c',e,z'⟩
      ·exact .inl q
      ·refine .inr ⟨k,c',e,z'.sameBut hs ?_⟩;rintro rfl;exact hj (zl8 hN e1 (I.ok.inj _ _ _ e hc ▸ hi))
    ·by_cases hcc:c'=c;·subst hcc;exact ⟨_,hc'⟩
     ·obtain ⟨w2,z2⟩:=I.cell y c' e;exact ⟨w2,z2.sameBut hs hcc⟩
    ·obtain ⟨e,n,ne,nf,d⟩:=I.pin p hp;refine ⟨(hs.2 p.1 ?_).trans e,n,ne,nf,d⟩;intro q;rw [q,hoc] at e;have q':oc=p.2:=Option.some.inj e;exact d w' (by rw [←q'];exact hocd)
theorem zlL {M:Model} {A:Around} {E:Value->Shared->Prop} {i:Nat} {x:Str} {v:V} {u:Value} {Q:Unit->Shared->Prop} (I:Inv X pins σ H s) (hN:X.N.Nodup) (hi:X.N[i]?=some x) (hx:Loc X.env.scope x) (r:zc0 v u)
  (h:∀s',Inv X pins (σ.set i (some v)) H s'->Q () s') (hf:X.fn x=true∨X.env.scope.names.lookup x=some .local:=by first | exact .inl rfl | exact .inr rfl | assumption):wpAny M A (storeName X.env x u) Q E s :=
 zj9 I hN hi hx r (λs' I' _=>h s' I') hf
theorem Inv.call' {s':Shared} {ch:List Addr} (I:Inv X pins σ H s) (ho:s'.os=s.os) (u:Un (frs X.stack) ch H H' s.heap s'.heap) (hok:HOk X.prog X.w H' s'.heap) (hg:AllBare s'.gens)
  (hch:∀b∈ch,(b∈X.ex∨X.s₀.heap.objs.size≤b)∧b≠X.env.locals∧(∀x c,X.env.cells.lookup x=some c->c≠b)∧∀p∈X.pn++pins,p.1≠b):Inv X pins σ H' s':=by obtain ⟨h',g',d',t',o'⟩:=s';have e:o'=s.os:=ho;subst e;exact I.call (g':=g') (t':=t') (d':=d') u hok hg hch
end
abbrev XK:=Value->Option Addr->Hp->Prop
abbrev St:=List (Option V)
abbrev VK:=V->Hp->Prop
abbrev TE:=St->Hp->VK->Prop
abbrev TT:=St->Hp->(Bool->Hp->Prop)->Prop
abbrev TA:=St->Hp->(List V->Hp->Prop)->Prop
structure Ends where
 nx:St->Hp->Prop
 rt:VK
 bk:St->Hp->Prop:=λ_ _=>False
 ct:St->Hp->Prop:=λ_ _=>False
abbrev TS:=Ends->St->Hp->Prop
def EP (X:Cx) (pins:List ↑4) (σ:St) (Q:VK) (u:Value) (s':Shared):Prop:=∃v H',Inv X pins σ H' s'∧zc0 v u∧Q v H'
def TP (X:Cx) (pins:List ↑4) (σ:St) (Q:Bool->Hp->Prop) (b:Bool) (s':Shared):Prop:=∃H',Inv X pins σ H' s'∧Q b H'
def AP (X:Cx) (pins:List ↑4) (σ:St) (Q:List V->Hp->Prop) (us:List Value) (s':Shared):Prop:=∃vs H',Inv X pins σ H' s'∧zbL vs us∧Q vs H'
def SP (X:Cx) (pins:List ↑4) (D:Ends) (f:Flow) (s':Shared):Prop :=
 match f with| .next=>∃σ' H',Inv X pins σ' H' s'∧D.nx σ' H'| .brk=>∃σ' H',Inv X pins σ' H' s'∧D.bk σ' H'| .cont=>∃σ' H',Inv X pins σ' H' s'∧D.ct σ' H'| .ret u=>∃v σ' H',Inv X pins σ' H' s'∧zc0 v u∧D.rt v H'
def PE (X:Cx) (e:Expr) (t:TE):Prop :=
 ∀(pins:List ↑4) (s:Shared) (σ:St) (H:Hp) (Q:VK),Inv X pins σ H s->t σ H Q->wpAny ↥5 X.A (eval e X.env) ↑41 X.xe s
def PT (X:Cx) (e:Expr) (t:TT):Prop :=
 ∀(pins:List ↑4) (s:Shared) (σ:St) (H:Hp) (Q:Bool->Hp->Prop),Inv X pins σ H s->t σ H Q->wpAny ↥5 X.A (isTrue e X.env (eval e X.env)) (TP X pins σ Q) X.xe s
def PW (X:Cx) (e:Expr) (t:TT):Prop :=
 ∀(whole:Sem Value) (pins:List ↑4) (s:Shared) (σ:St) (H:Hp) (Q:Bool->Hp->Prop),Inv X pins σ H s->t σ H Q->wpAny ↥5 X.A (isTrue e X.env whole) (TP X pins σ Q) X.xe s
theorem PW.pt {X:Cx} {e:Expr} {t:TT} (h:PW X e t):PT X e t:=h _
def PA (X:Cx) (es:List Expr) (t:TA):Prop :=
 ∀(pos:Pos) (pins:List ↑4) (s:Shared) (σ:St) (H:Hp) (Q:List V->Hp->Prop),Inv X pins σ H s->t σ H Q->wpAny ↥5 X.A (spliced ↑76) (AP X pins σ Q) X.xe s
def PS (X:Cx) (st:Stmt) (t:TS):Prop :=
 ∀(pins:List ↑4) (s:Shared) (σ:St) (H:Hp) (D:Ends),Inv X pins σ H s->t D σ H->wpAny ↥5 X.A (exec st X.env) (SP X pins D) X.xe s
def PSs (X:Cx) (st:List Stmt) (t:TS):Prop :=
 ∀(pins:List ↑4) (s:Shared) (σ:St) (H:Hp) (D:Ends),Inv X pins σ H s->t D σ H->wpAny ↥5 X.A (execs st X.env) (SP X pins D) X.xe s
theorem thn {α:Type} {t:Sem α} {Q Q':α->Shared->Prop} {M:Model} {A:Around} {E:Value->Shared->Prop} {s:Shared} (h:wpAny M A t Q E s) (hQ:∀a s,Q a s->Q' a s):wpAny M A t Q' E s:=wpAny_mono h hQ λ_ _ x=>x
end L2
namespace L2
open PySem PySem.Spec PyProof.Rows
section
variable {X:Cx}
theorem bin {a b:Expr} {ta tb:TE} (ha:PE X a ta) (hb:PE X b tb) {pins:List ↑4} {s:Shared} {σ:St} {H:Hp} {R:V->V->Hp->Prop} (I:Inv X pins σ H s) (h:ta σ H λx H1=>tb σ H1 λy H2=>R x y H2)
  {α:Type} {Q:α->Shared->Prop} {f:Value->Value->Sem α}
  (hf:∀v u s2 x y H2,Inv X pins σ H2 s2->zc0 x v->zc0 y u->R x y H2->wpAny ↥5 X.A (f v u) Q X.xe s2) :
  wpAny ↥5 X.A (eval a X.env) (λv s₁=>wpAny ↥5 X.A (eval b X.env) (λu s₂=>wpAny ↥5 X.A (f v u) Q X.xe s₂) X.xe s₁) X.xe s:=by refine thn (ha pins s σ H _ I h) λv s1 ⟨x,H1,I1,r1,q1⟩=> ?_;refine thn (hb pins s1 σ H1 _ I1 q1) λu s2 ⟨y,H2,I2,r2,q2⟩=> ?_;exact hf v u s2 x y H2 I2 r1 r2 q2
def zhi (i:Nat):TE:=λσ H Q=>∃v,σ[i]? =some (some v)∧Q v H
def tC (v:V):TE:=λ_ H Q=>Q v H
theorem zt7 {i:Nat} {x:Str} {pos:Pos} (hN:X.N[i]?=some x) (hv:Vis X.env.scope x) (hd:↑57=false:=by decide) (hcd:(x==("__classdict__" :Str))=false:=by decide):PE X (.Name x pos) (zhi i):=by
 intro pins s σ H Q I h;obtain ⟨v,e,h⟩:=h;obtain ⟨m,hn,hl⟩:=I.loc;obtain ⟨u,r,l⟩:=hl i x v hN e hv;have fin:EP X pins σ Q u s:=⟨v,H,I,r,h⟩;rcases l with ⟨hk,hm⟩|⟨hk,c,hc,hcell⟩
 ·exact wpAny_Name (wpAny_loadName_local I.ok.kind hk hn hm fin) hd
 ·rcases hk with hk|hk
  ·exact wpAny_Name (wpAny_loadName_cell I.ok.kind hk hc hcell fin) hd
  ·exact wpAny_Name (wpAny_loadName_free I.ok.kind hk hc hcell fin hcd) hd
theorem zah {i j pos}:PE X (.Constant (.int i) j pos) (tC (.int i)):=λ_ _ _ H _ I h=>wpAny_Constant_int ⟨.int i,H,I.tok _,⟨_,rfl⟩,h⟩
theorem zsp {b j pos}:PE X (.Constant (.bool b) j pos) (tC (.bl b)):=λ_ _ _ H _ I h=>Constant_bool ⟨.bl b,H,I,rfl,h⟩
theorem ziO {j pos}:PE X (.Constant .none j pos) (tC .non):=λ_ _ _ H _ I h=>Constant_none ⟨.non,H,I,rfl,h⟩
theorem zaC {x j pos}:PE X (.Constant (.str x) j pos) (tC (.str x)):=λ_ _ _ H _ I h=>Calls.Constant_str ⟨.str x,H,I.tok _,⟨_,rfl⟩,h⟩
def Gl (X:Cx) (x:Str):Prop:=X.env.kindOf x=some .globalImplicit
theorem zjz {E:Value->Shared->Prop} {pins:List ↑4} {s:Shared} {σ:St} {H:Hp} {x:Str} {u:Value} {pos:Pos} {Q:Value->Shared->Prop} (I:Inv X pins σ H s) (hg:Gl X x) (hm:X.mg x=some u) (h:Q u s)
  (hd:↑57=false:=by decide):wpAny ↥5 X.A (eval (.Name x pos) X.env) Q E s :=
 Calls.Name_function_global I.ok.kind hg (Calls.loadGlobal_global (by rw [I.ok.glob];exact I.mod.glob.keeps I.bk) hm h) hd
theorem zf7 {E:Value->Shared->Prop} {pins:List ↑4} {s:Shared} {σ:St} {H:Hp} {x:Str} {u:Value} {pos:Pos} {Q:Value->Shared->Prop} (I:Inv X pins σ H s) (hg:Gl X x) (hm:X.mg x=none) (hv:bootBuiltins x=some u) (h:Q u s)
  (hn:x≠"__name__":=by decide) (hd:↑57=false:=by decide):wpAny ↥5 X.A (eval (.Name x pos) X.env) Q E s:=by obtain ⟨mb,h1,h2⟩:=I.mod.blt;exact Calls.Name_function_global I.ok.kind hg (Calls.loadGlobal_builtin (by rw [I.ok.glob];exact I.mod.glob.keeps I.bk) hm (by rw [I.ok.blt];exact h1.keeps I.bk) ((h2 x hn).trans hv) h) hd
theorem zdR {x:Str} {v:V} {u:Value} {pos:Pos} (hg:Gl X x) (hm:X.mg x=some u) (r:zc0 v u) (hd:↑57=false:=by decide):PE X (.Name x pos) (tC v) :=
 λ_ _ _ H _ I h=>zjz I hg hm ⟨v,H,I,r,h⟩ hd
theorem zsC {x:Str} {v:V} {u:Value} {pos:Pos} (hg:Gl X x) (hm:X.mg x=none) (hv:bootBuiltins x=some u) (r:zc0 v u) (hn:x≠"__name__":=by decide) (hd:↑57=false:=by decide):PE X (.Name x pos) (tC v) :=
 λ_ _ _ H _ I h=>zf7 I hg hm hv ⟨v,H,I,r,h⟩ hn hd
variable {a b:Expr} {ta tb:TE} {pos:Pos}
def PC (X:Cx) (op:CmpOp) (a b:Expr) (t:TE):Prop :=
 ∀(pins:List ↑4) (s:Shared) (σ:St) (H:Hp) (Q:VK),Inv X pins σ H s->t σ H Q→wpAny ↥5 X.A (eval a X.env) (λv s₁=>wpAny ↥5 X.A (eval b X.env) (λu s₂=>wpAny ↥5 X.A (compareOp op v u) ↑41 X.xe s₂) X.xe s₁) X.xe s
theorem zp8 (b:Expr) {op:CmpOp} (h:op≠.In) (h2:op≠.NotIn):behindInMarks op b=false:=by
 have e1:(op==CmpOp.In)=false:=by cases op<;>first|rfl|exact absurd rfl h
 have e2:(op==CmpOp.NotIn)=false:=by cases op<;>first|rfl|exact absurd rfl h2
 cases b<;>simp [behindInMarks,e1,e2]
def tB (t:TE):TT:=λσ H Q=>t σ H λx H1=>∃c,x= .bl c∧Q c H1
theorem zwC {op:CmpOp} {t:TE} (h:PC X op a b t) (h1:behindInMarks op b=false:=by first | exact zp8 _ ↥1 ↥1 | rfl):PT X (.Compare a [op] [b] pos) (tB t):=by intro pins s σ H Q I hw;refine wpAny_isTrue_Compare1 (thn (h pins s σ H _ I hw) λv s1 h1=>thn h1 λu s2 h2=>thn h2 λc s3 ⟨x,H1,I1,r1,q1⟩=> ?_) h1;obtain ⟨d,rfl,q⟩:=q1;cases r1;exact wpAny_truthy_bool ⟨H1,I1,q⟩
theorem zks {e:Expr} {t:TE} (h:PE X e t) (he:∀whole,isTrue e X.env whole=(do
 let v←whole;
 standAt e.pos;
 holding [v] (truthy v)):=by intro _;rfl):PT X e (tB t):=by intro pins s σ H Q I hw;refine isTrue_plain (thn (h pins s σ H _ I hw) λv s1 ⟨x,H1,I1,r1,q1⟩=> ?_) (he _);obtain ⟨d,rfl,q⟩:=q1;cases r1;exact wpAny_truthy_bool ⟨H1,I1,q⟩
variable {tA tB':TT} {rest:List Expr}
def zwO (t u:TT):TT:=λσ H Q=>t σ H λc H1=>if c=true then u σ H1 Q else Q false H1
def tOr (t u:TT):TT:=λσ H Q=>t σ H λc H1=>if c=true then Q true H1 else u σ H1 Q
def zwP (t:TT):TT:=λσ H Q=>t σ H λc H1=>Q (!c) H1
theorem zjh (ha:PT X a tA):PW X (.BoolOp .And [a] pos) tA:=by intro wh pins s σ H Q I h;refine isTrue_and (thn (ha pins s σ H Q I h) λc s1 e=> ?_);cases c with|true=>exact isTrue_and_nil e|false=>exact e
theorem zkx (ha:PT X a tA):PW X (.BoolOp .Or [a] pos) tA:=by intro wh pins s σ H Q I h;refine isTrue_or (thn (ha pins s σ H Q I h) λc s1 e=> ?_);cases c with|false=>exact isTrue_or_nil e|true=>exact e
theorem zl7 (ha:PT X a tA) (hb:PW X (.BoolOp .And (b::rest) pos) tB'):PW X (.BoolOp .And (a::b::rest) pos) (zwO tA tB'):=by intro wh pins s σ H Q I h;refine isTrue_and (thn (ha pins s σ H _ I h) λc s1 ⟨H1,I1,q1⟩=> ?_);cases c with|true=>exact hb wh pins s1 σ H1 Q I1 q1|false=>exact ⟨H1,I1,q1⟩
theorem zoZ (ha:PT X a tA) (hb:PW X (.BoolOp .Or (b::rest) pos) tB'):PW X (.BoolOp .Or (a::b::rest) pos) (tOr tA tB'):=by intro wh pins s σ H Q I h;refine isTrue_or (thn (ha pins s σ H _ I h) λc s1 ⟨H1,I1,q1⟩=> ?_);cases c with|true=>exact ⟨H1,I1,q1⟩|false=>exact hb wh pins s1 σ H1 Q I1 q1
theorem zrs (ha:PT X a tA):PT X (.UnaryOp .Not a pos) (zwP tA):=by intro pins s σ H Q I h;exact isTrue_not (ha pins s σ H (λc H1=>Q (!c) H1) I h)
def zuJ (ta tb:TE):TE:=λσ H Q=>ta σ H λx H1=>∃c,x= .bl c∧if c=true then tb σ H1 Q else Q (.bl false) H1
theorem zq8 {op} {t:TE} (h:PE X a t):PE X (.BoolOp op [a] pos) t:=λpins s σ H Q I hw=>BoolOp_one (h pins s σ H Q I hw)
theorem zmi (ha:PE X a ta) (hb:PE X (.BoolOp .And (b::rest) pos) tb):PE X (.BoolOp .And (a::b::rest) pos) (zuJ ta tb):=by intro pins s σ H Q I h;refine BoolOp_and (thn (ha pins s σ H _ I h) λv s1 ⟨x,H1,I1,r1,q1⟩=> ?_);obtain ⟨c,rfl,q1⟩:=q1;cases r1;refine wpAny_truthy_bool ?_;cases c with|true=>exact hb pins s1 σ H1 Q I1 q1|false=>exact ⟨.bl false,H1,I1,rfl,q1⟩
def tIf (t:TT) (ta tb:TE):TE:=λσ H Q=>t σ H λc H1=>if c=true then ta σ H1 Q else tb σ H1 Q
theorem zgj {c:Expr} (hc:PT X c tA) (ha:PE X a ta) (hb:PE X b tb):PE X (.IfExp c a b pos) (tIf tA ta tb):=by intro pins s σ H Q I h;refine wpAny_IfExp (thn (hc pins s σ H _ I h) λd s1 ⟨H1,I1,q1⟩=> ?_);cases d with|true=>exact ha pins s1 σ H1 Q I1 q1|false=>exact hb pins s1 σ H1 Q I1 q1
end
end L2
namespace L2
open PySem PySem.Spec PyProof.Rows
def SqL (K:W.Frag) (H:Hp) (a:Addr) (xs:List V):Prop :=
 Rd H a (.lst xs)∨∃(o:Obj) (its:Array Value) (n:Nat),K.lookup a=some o∧o.cls= .type "list" ∧o.dict=none∧o.data= .seq its n∧its.size≤sizeLine∧zbL xs its.toList
def SqT (K:W.Frag) (H:Hp) (a:Addr) (xs:List V):Prop :=
 Rd H a (.tup xs)∨∃(o:Obj) (its:Array Value) (n:Nat),K.lookup a=some o∧o.cls= .type "tuple" ∧o.data= .seq its n∧its.size≤sizeLine∧zbL xs its.toList
def zwS:Value->Option V
 | .none=>some .non
 | .bool b=>some (.bl b)
 | .int i _=>some (.int i)
 | .str x _=>some (.str x)
 | .bytes b _=>some (.byt b)
 | .float b _=>some (.flt b)
 | .ref a=>some (.ref a)
 | .type n=>some (.ty n)
 | _=>none
theorem zc0.abs {x:V} {u:Value} (r:zc0 x u):zwS u=some x:=by
 cases x with
  |non=>cases r;rfl
  |bl _=>cases r;rfl
  |int _=>obtain ⟨t,rfl⟩:=r;rfl
  |str _=>obtain ⟨t,rfl⟩:=r;rfl
  |byt _=>obtain ⟨t,rfl⟩:=r;rfl
  |flt _=>obtain ⟨t,rfl⟩:=r;rfl
  |ref _=>cases r;rfl
  |ty _=>cases r;rfl
theorem zc0.inj {x y:V} {u:Value} (r:zc0 x u) (q:zc0 y u):x=y:=Option.some.inj (r.abs.symm.trans q.abs)
theorem zbL.inj:∀ {xs ys:List V} {us:List Value},zbL xs us->zbL ys us->xs=ys
 | _,_,_,.nil,.nil=>rfl
 | _,_,_,.cons r t,.cons r' t'=>by rw [r.inj r',zbL.inj t t']
section
variable {X:Cx} {pins:List ↑4} {σ:St} {H:Hp} {s:Shared} {a:Addr} {xs ys:List V}
theorem SqL.of {K:W.Frag} (h:H a=some (.lst xs)):SqL K H a xs:=.inl (.inl h)
theorem Inv.list (I:Inv X pins σ H s) (h:SqL X.K H a xs):∃its:List Value,zbL xs its∧PlainL s.heap a its.toArray∧xs.length≤sizeLine:=by
 rcases h with h|⟨o,its,n,hk,hc,hd,hs,hz,r⟩
 ·obtain ⟨z,its,n,r,e⟩:=h.ok I.hok;exact ⟨its,r,⟨_,n,e,rfl,rfl,rfl⟩,z⟩
 ·refine ⟨its.toList,r,⟨o,n,I.kIn a o hk,hc,hd,by simpa using hs⟩,?_⟩;have e:=r.length;simp only [Array.length_toList] at e;omega
theorem Inv.tuple (I:Inv X pins σ H s) (h:SqT X.K H a xs):∃its:List Value,zbL xs its∧IsTup s.heap a its.toArray∧xs.length≤sizeLine:=by
 rcases h with h|⟨o,its,n,hk,hc,hs,hz,r⟩
 ·obtain ⟨z,its,r,p⟩:=h.ok I.hok;exact ⟨its,r,p,z⟩
 ·refine ⟨its.toList,r,⟨o,I.kIn a o hk,hc,n,by simpa using hs⟩,?_⟩;have e:=r.length;simp only [Array.length_toList] at e;omega
theorem Inv.list_inj (I:Inv X pins σ H s) (h:SqL X.K H a xs) (h':SqL X.K H a ys):xs=ys:=by
 obtain ⟨its,r,⟨o,n,e,_,_,d⟩,_⟩:=I.list h;obtain ⟨its',r',⟨o',n',e',_,_,d'⟩,_⟩:=I.list h';rw [e] at e';cases e';rw [d] at d';injection d' with d1 _;have:its=its':=by simpa using congrArg Array.toList d1
 subst this;exact r.inj r'
end
abbrev Cx.wish (X:Cx) (E:Value->Shared->Prop):Cx:= {X with xe:=E}
abbrev Cx.nox (X:Cx):Cx:=X.wish λ_ _=>False
theorem Cx.Ok.wish {X:Cx} (ok:X.Ok) (E:Value->Shared->Prop):(X.wish E).Ok :=
 ⟨ok.mod,ok.kind,ok.glob,ok.blt,ok.above,ok.inj,ok.has,ok.cab,ok.hd,ok.frames,ok.stk,ok.exf,ok.bs,ok.bsz,ok.noex,ok.exfs,ok.funs,ok.frf⟩
theorem Cx.Ok.unwish {X:Cx} {E:Value->Shared->Prop} (ok:(X.wish E).Ok):X.Ok :=
 ⟨ok.mod,ok.kind,ok.glob,ok.blt,ok.above,ok.inj,ok.has,ok.cab,ok.hd,ok.frames,ok.stk,ok.exf,ok.bs,ok.bsz,ok.noex,ok.exfs,ok.funs,ok.frf⟩
section
variable {X:Cx} {pins:List ↑4} {σ:St} {H:Hp} {s:Shared} {E:Value->Shared->Prop}
theorem Inv.wish (I:Inv X pins σ H s) (E:Value->Shared->Prop):Inv (X.wish E) pins σ H s:=⟨I.ok.wish E,I.os,I.bare,I.base,I.loc,I.cell,I.free,I.freeC,I.pin,I.hok,I.len⟩
theorem Inv.unwish (I:Inv (X.wish E) pins σ H s):Inv X pins σ H s:=⟨I.ok.unwish,I.os,I.bare,I.base,I.loc,I.cell,I.free,I.freeC,I.pin,I.hok,I.len⟩
theorem SP.unwish {D:Ends} {f:Flow} {s':Shared} (h:SP (X.wish E) pins D f s'):SP X pins D f s':=by
 cases f with
  |next=>obtain ⟨σ',H',I,q⟩:=h;exact ⟨σ',H',I.unwish,q⟩
  |brk=>obtain ⟨σ',H',I,q⟩:=h;exact ⟨σ',H',I.unwish,q⟩
  |cont=>obtain ⟨σ',H',I,q⟩:=h;exact ⟨σ',H',I.unwish,q⟩
  |ret u=>obtain ⟨v,σ',H',I,r,q⟩:=h;exact ⟨v,σ',H',I.unwish,r,q⟩
end
section
variable {X:Cx} {st:Stmt} {rest:List Stmt} {t u:TS} {e:Expr} {te:TE} {pos:Pos}
def znn:TS:=λD σ H=>D.nx σ H
def zdI (t u:TS):TS:=λD σ H=>t {D with nx:=u D} σ H
theorem zad:PSs X [] znn:=λ_ _ σ H _ I h=>wpAny_execs_nil ⟨σ,H,I,h⟩
theorem zaa (h1:PS X st t) (h2:PSs X rest u):PSs X (st::rest) (zdI t u):=by
 intro pins s σ H D I h;refine wpAny_execs_cons (thn (h1 pins s σ H {D with nx:=u D} I h) λf s1 q=> ?_)
 cases f with
  |next=>obtain ⟨σ',H',I',q⟩:=q;exact h2 pins s1 σ' H' D I' q
  |ret v=>exact q
  |brk=>exact q
  |cont=>exact q
def zuD:TS:=λD σ H=>D.ct σ H
theorem zkU:PS X (.Continue pos) zuD:=λ_ _ σ H _ I h=>wpAny_Continue ⟨σ,H,I,h⟩
theorem Inv.quiet {pins:List ↑4} {σ:St} {H:Hp} {s:Shared} (I:Inv X pins σ H s):interactive X.env=false:=by simp [interactive,I.ok.kind]
def zic (te:TE):TS:=λD σ H=>te σ H λ_ H1=>D.nx σ H1
theorem zb1 (he:PE X e te) (hs:swapsWith e none pos.line X.env=pure false:=by rfl):PS X (.Expr e pos) (zic te):=by intro pins s σ H D I h;exact wpAny_Expr_any (thn (he pins s σ H _ I h) λv s1 ⟨x,H1,I1,r1,q1⟩=>⟨σ,H1,I1,q1⟩) I.quiet hs
def zne (te:TE):TS:=λD σ H=>te σ H D.rt
theorem zaM (he:PE X e te):PS X (.Return (some e) pos) (zne te):=by intro pins s σ H D I h;exact wpAny_Return_some (thn (he pins s σ H _ I h) λv s1 ⟨x,H1,I1,r1,q1⟩=>⟨x,σ,H1,I1,r1,q1⟩)
def zrV (c:TT) (t u:TS):TS:=λD σ H=>c σ H λb H1=>if b=true then t D σ H1 else u D σ H1
theorem za5 {c:Expr} {a b:List Stmt} {tc:TT} (hc:PT X c tc) (ha:PSs X a t) (hb:PSs X b u):PS X (.If c a b pos) (zrV tc t u):=by intro pins s σ H D I h;refine wpAny_If (thn (hc pins s σ H _ I h) λd s1 ⟨H1,I1,q1⟩=> ?_);cases d with|true=>exact ha pins s1 σ H1 D I1 q1|false=>exact hb pins s1 σ H1 D I1 q1
def zts:TS:=λ_ _ _=>False
theorem zaJ:PS X st zts:=λ_ _ _ _ _ _ h=>h.elim
end
abbrev TG:=V->St->Hp->(St->Hp->Prop)->Prop
abbrev TGs:=List V->St->Hp->(St->Hp->Prop)->Prop
def PG (X:Cx) (target:Expr) (t:TG):Prop :=
 ∀(pins:List ↑4) (s:Shared) (σ:St) (H:Hp) (v:V) (u:Value) (Q:St->Hp->Prop),Inv X pins σ H s->zc0 v u->t v σ H Q→wpAny ↥5 X.A (assign target X.env u) (λ_ s'=>∃σ' H',Inv X pins σ' H' s'∧Q σ' H') X.xe s
def PGs (X:Cx) (ts:List Expr) (t:TGs):Prop :=
 ∀(pins:List ↑4) (s:Shared) (σ:St) (H:Hp) (vs:List V) (us:List Value) (Q:St->Hp->Prop),Inv X pins σ H s->zbL vs us->t vs σ H Q→wpAny ↥5 X.A (assignInOrder ((assignEach ts X.env).map (·.2)) us) (λ_ s'=>∃σ' H',Inv X pins σ' H' s'∧Q σ' H') X.xe s
abbrev zvO:=V->V->V->Hp->(Hp->Prop)->Prop
def zwR (X:Cx) (t:zvO):Prop :=
 ∀(pins:List ↑4) (s:Shared) (σ:St) (H:Hp) (o i v:V) (ov iv u:Value) (Q:Hp->Prop),Inv X pins σ H s->zc0 o ov->zc0 i iv->zc0 v u->t o i v H Q→wpAny ↥5 X.A (setItem ov iv u) (λ_ s'=>∃H',Inv X pins σ H' s'∧Q H') X.xe s
section
variable {X:Cx} {pos:Pos}
def zd0 (i:Nat):TG:=λv σ H Q=>Q (σ.set i (some v)) H
theorem zaE {i:Nat} {x:Str} (hN:X.N.Nodup) (hi:X.N[i]?=some x) (hx:Loc X.env.scope x) (hf:X.fn x=true∨X.env.scope.names.lookup x=some .local:=by first | exact .inl rfl | exact .inr rfl | assumption):PG X (.Name x pos) (zd0 i):=by intro pins s σ H v u Q I r h;exact wpAny_assign_Name (zlL I hN hi hx r (λs' I'=>⟨_,H,I',h⟩) hf)
def ztU:TGs:=λvs σ H Q=>vs=[]∧Q σ H
def zjv (t:TG) (u:TGs):TGs:=λvs σ H Q=>∃v r,vs=v::r∧t v σ H λσ' H'=>u r σ' H' Q
theorem zdP:PGs X [] ztU:=by intro pins s σ H vs us Q I r h;obtain ⟨e,h⟩:=h;subst e;cases r;exact assignInOrder_nil ⟨σ,H,I,h⟩
theorem zbb {e:Expr} {es:List Expr} {t:TG} {u:TGs} (h1:PG X e t) (h2:PGs X es u)
  (hs:(assignEach (e::es) X.env).map (·.2)=assign e X.env::(assignEach es X.env).map (·.2):=by rfl):PGs X (e::es) (zjv t u):=by intro pins s σ H vs us Q I r h;obtain ⟨v,vr,e1,h⟩:=h;subst e1;cases r with|cons r rr=>rw [hs];refine assignInOrder_cons (thn (h1 pins s σ H _ _ _ I r h) λ_ s1 ⟨σ1,H1,I1,q1⟩=> ?_);exact h2 pins s1 σ1 H1 _ _ Q I1 rr q1
def zuU (K:W.Frag) (n:Nat) (t:TGs):TG:=λv σ H Q=>∃a xs,v= .ref a∧SqT K H a xs∧xs.length=n∧t xs σ H Q
theorem zuT {es:List Expr} {k:Nat} {t:TGs} {n:Nat} (hc:X.calm=true) (h:PGs X es t)
  (hn:(assignEach es X.env).length=n:=by rfl) (hst:(assignEach es X.env).findIdx? (·.1)=none:=by rfl):PG X (.Tuple es k pos) (zuU X.K n t):=by intro pins s σ H v u Q I r hw;obtain ⟨a,xs,e1,hq,hl,hw⟩:=hw;subst e1;cases r;obtain ⟨its,rv,ht,hz⟩:=I.tuple hq;refine assign_Tuple_tuple (I.ok.hd hc) ht (by simp [hn,←hl,rv.length]) hst λh' hx=> ?_;have I1:Inv X pins σ H {s with heap:=h'}:=I.kept (t':=s.toks) λb o e=>hx b o (Nat.ne_of_lt ↑38) e;exact h pins _ σ H xs _ Q I1 (by simpa using rv) hw
def zvi (to ti:TE) (t:zvO):TG:=λv σ H Q=>to σ H λo H1=>ti σ H1 λi H2=>t o i v H2 λH3=>Q σ H3
theorem zki {o i:Expr} {to ti:TE} {t:zvO} (ho:PE X o to) (hi:PE X i ti) (hs:zwR X t)
  (ha:∀v,assign (.Subscript o i pos) X.env v=(do
   let ov←holding [v] (eval o X.env)
   let iv←holding [v,ov] (eval i X.env)
   standAt pos
   holding [v,ov,iv] (setItem ov iv v)
   release [v,ov,iv] []):=by intro _;rfl):PG X (.Subscript o i pos) (zvi to ti t):=by intro pins s σ H v u Q I r h;rw [ha];refine wpAny_bind (wpAny_holding (thn (ho pins s σ H _ I h) λov s1 ⟨x,H1,I1,r1,q1⟩=> ?_));refine wpAny_bind (wpAny_holding (thn (hi pins s1 σ H1 _ I1 q1) λiv s2 ⟨y,H2,I2,r2,q2⟩=> ?_));refine wpAny_bind (wpAny_standAt (wpAny_bind (wpAny_holding (thn (hs pins s2 σ H2 x y v ov iv u _ I2 r1 r2 r q2) λ_ s3 ⟨H3,I3,q3⟩=> ?_))));exact wpAny_release ⟨σ,H3,I3,q3⟩
def zl3 (te:TE) (g:TG):TS:=λD σ H=>te σ H λx H1=>g x σ H1 D.nx
theorem zij {tg e:Expr} {te:TE} {g:TG} (he:PE X e te) (hg:PG X tg g) (hs:swapsWithSole [tg] e pos.line X.env=pure false:=by rfl) (hw:swappedStores [tg] e X.env=pure none:=by rfl)
  (h1:(assignEach [tg] X.env).map (·.2)=[assign tg X.env]:=by rfl):PS X (.Assign [tg] e pos) (zl3 te g):=by intro pins s σ H D I h;refine wpAny_Assign_stores (thn (he pins s σ H _ I h) λv s1 ⟨x,H1,I1,r1,q1⟩=> ?_) hs hw;rw [h1];exact thn (hg pins s1 σ H1 x v _ I1 r1 q1) λ_ s2 q=>q
theorem zar {i:Nat} {x:Str} {e:Expr} {te:TE} {pos':Pos} (hN:X.N.Nodup) (hi:X.N[i]?=some x) (hx:Loc X.env.scope x) (he:PE X e te) (hs:swapsWith e (some (.Name x pos')) pos.line X.env=pure false:=by rfl) (hf:X.fn x=true∨X.env.scope.names.lookup x=some .local:=by first | exact .inl rfl | exact .inr rfl | assumption) :
  PS X (.Assign [.Name x pos'] e pos) (zl3 te (zd0 i)):=by intro pins s σ H D I h;refine wpAny_Assign_Name (thn (he pins s σ H _ I h) λv s1 ⟨y,H1,I1,r1,q1⟩=> ?_) hs;exact zlL I1 hN hi hx r1 (λs2 I2=>⟨_,H1,I2,q1⟩) hf
end
section
variable {X:Cx} {pos:Pos}
def zra (c:TT) (tb:TS):TS:=λD σ H=>∃W:Nat->St->Hp->Prop,(∃m,W m σ H)∧∀m σ H,W m σ H→c σ H λb H1=>if b=true then∃N:St->Hp->Prop,(∀σ' H',N σ' H'->∃m',m'<m∧W m' σ' H')∧tb {D with nx:=N,ct:=N,bk:=D.nx} σ H1 else D.nx σ H1
theorem zmn {c:Expr} {body:List Stmt} {tc:TT} {tb:TS} (hp:PassesOwn ↥5 X.A X.env X.xe) (hc:PT X c tc) (hb:PSs X body tb):PS X (.While c body [] pos) (zra tc tb):=by
 intro pins s σ H D I h;obtain ⟨W,⟨m0,w0⟩,turn⟩:=h;refine wpAny_While (codeAny_whileLoop (λn s'=>∃σ' H',Inv X pins σ' H' s'∧W n σ' H') ?_ m0 ⟨σ,H,I,w0⟩);rintro n s1 ⟨σ1,H1,I1,w1⟩;refine wpAny_passesOwn hp (thn (hc pins s1 σ1 H1 _ I1 (turn n σ1 H1 w1)) λb s2 ⟨H2,I2,q2⟩=> ?_)
 cases b with
  |true=>
   obtain ⟨N,hN,q2⟩:=q2;rw [if_pos rfl];refine wpAny_passesOwn hp (thn (hb pins s2 σ1 H2 _ I2 q2) λf s3 q3=> ?_)
   cases f with
    |next=>obtain ⟨σ3,H3,I3,n3⟩:=q3;obtain ⟨m',hm,w3⟩:=hN σ3 H3 n3;exact ⟨m',hm,σ3,H3,I3,w3⟩
    |cont=>obtain ⟨σ3,H3,I3,n3⟩:=q3;obtain ⟨m',hm,w3⟩:=hN σ3 H3 n3;exact ⟨m',hm,σ3,H3,I3,w3⟩
    |brk=>exact q3
    |ret v=>exact q3
  |false=>rw [if_neg Bool.false_ne_true];exact wpAny_execs_nil ⟨σ1,H2,I2,q2⟩
end
structure It where
 go:Nat->Hp->Prop
 yld:Nat->Hp->V->Hp->Prop
 stop:Nat->Hp->Prop
def zlS (X:Cx) (pins:List ↑4) (H:Hp) (b:Addr):Prop :=
 H b=none∧b≠X.env.locals∧b∉X.fs∧(b∈X.ex∨X.s₀.heap.objs.size≤b)∧(∀x c,X.env.cells.lookup x=some c->c≠b)∧∀p∈X.pn++pins,p.1≠b
theorem Inv.fpOk {X:Cx} {pins:List ↑4} {σ:St} {H H':Hp} {s:Shared} {b:Addr} (I:Inv X pins σ H s) (hb:s.heap.objs.size≤b) (hn:H' b=none):zlS X pins H' b:=by
 refine ⟨hn,Nat.ne_of_gt (Nat.lt_of_lt_of_le I.lt hb),I.nofs hb,.inr (Nat.le_trans I.sz hb),λx c e z=> ?_,λp hp z=> ?_⟩;·obtain ⟨v,q⟩:=I.cell x c e;exact absurd (Nat.lt_of_lt_of_le q.lt (by rw [z];exact hb)) (Nat.lt_irrefl _)
 ·exact absurd (Nat.lt_of_lt_of_le (Heap.lt_size (I.pin p hp).1) (by rw [z];exact hb)) (Nat.lt_irrefl _)
structure Turn (P:Program) (w:World) (K:W.Frag) (tg:Expr) (J:It) (fp:List Addr) (it:Addr) (tn:Nat->Heap->Prop):Prop where
 mem:it∈fp
 obj:∀ i h,tn i h->∀ b∈fp,∃ o,h.get? b=some o∧∀ v,o.data≠.cell v
 keep:∀ i h h',tn i h->(∀ b∈fp,∀ o,h.get? b=some o->h'.get? b=some o)->tn i h'
 item:∀ (X:Cx),X.prog=P->X.w=w->X.K=K->X.calm=true->∀ (i:Nat) (pins:List ↑4) (s:Shared) (σ:St) (H:Hp) (E:Value->Shared->Prop),Inv X pins σ H s->(∀ b∈fp,zlS X pins H b)->tn i s.heap->J.go i H →
  wpAny (model P w) X.A (pyNext (.ref it)) (λr s1=>∃ u,r=some u ∧
   wpAny (model P w) X.A (letOwnedTupleGo tg (.ref it) u) (λ_ s2=>∃ x H',Inv X pins σ H' s2∧zc0 x u∧J.yld i H x H'∧tn (i+1) s2.heap∧∀ b∈fp,H' b=none) E s1) E s
 done:∀ (X:Cx),X.prog=P->X.w=w->X.K=K->X.calm=true->∀ (i:Nat) (pins:List ↑4) (s:Shared) (σ:St) (H:Hp) (E:Value->Shared->Prop),Inv X pins σ H s->(∀ b∈fp,zlS X pins H b)->tn i s.heap->J.stop i H →
  wpAny (model P w) X.A (pyNext (.ref it)) (λr s1=>r=none∧Inv X pins σ H s1) E s
 self:∀ (A:Around) (i:Nat) (s:Shared) (Q:Value->Shared->Prop) (E:Value->Shared->Prop),tn i s.heap->Q (.ref it) s->wpAny (model P w) A (pyIter (.ref it)) Q E s
abbrev TI:=St->Hp->(It->Hp->Prop)->Prop
def PIE (X:Cx) (pins:List ↑4) (σ:St) (tg:Expr) (R:It->Hp->Prop) (itv:Value) (s2:Shared):Prop :=
 ∃(it:Addr) (fp:List Addr) (tn:Nat->Heap->Prop) (J:It) (H':Hp),itv= .ref it∧Inv X pins σ H' s2∧Turn X.prog X.w X.K tg J fp it tn∧tn 0 s2.heap∧(∀b∈fp,zlS X pins H' b)∧R J H'
def PI (X:Cx) (tg iter:Expr) (wi:TI):Prop :=
 ∀(pins:List ↑4) (s:Shared) (σ:St) (H:Hp) (R:It->Hp->Prop),Inv X pins σ H s->wi σ H R→wpAny ↥5 X.A (eval iter X.env) (λv s1=>wpAny ↥5 X.A (pyIter v) (PIE X pins σ tg R) X.xe s1) X.xe s
theorem zqh {M:Model} {A:Around} {E:Value->Shared->Prop} {s:Shared} {tg:Expr} {it:Addr} {u:Value} {o:Obj} {n:String} {vs:Array Value} {Q:Unit->Shared->Prop} (ho:s.heap.get? it=some o) (hc:o.cls=.type n) (hd:o.data= .fields vs)
  (hn:["enumerate","zip","dict_itemiterator","dict_reverseitemiterator","odict_iterator","itertools.zip_longest","itertools.pairwise"].contains n=false) (hQ:Q () s):wpAny M A (letOwnedTupleGo tg (.ref it) u) Q E s:=by
   unfold letOwnedTupleGo
   cases tg<;>first
    |exact wpAny_pure hQ
    |(cases u<;>first|exact wpAny_pure hQ|(refine wpAny_bind (wpAny_load ho ?_);rw [hc,hd];show wpAny M A (if (["enumerate","zip","dict_itemiterator","dict_reverseitemiterator","odict_iterator","itertools.zip_longest","itertools.pairwise"].contains n && vs[0]? ==some (rawInt _))=true then _ else _) Q E s;rw [if_neg (by intro h;rw [hn,Bool.false_and] at h;cases h)];exact wpAny_pure hQ))
def Itl (K:W.Frag) (a:Addr):It :=
 ⟨λi H=>∃xs x,SqL K H a xs∧xs[i]? =some x,λi H x H'=>H'=H∧∀xs,SqL K H a xs->xs[i]? =some x,λi H=>∃xs,SqL K H a xs∧xs.length≤i⟩
def Itr (lo:Int) (n:Nat):It:=⟨λi _=>i<n,λi H x H'=>H'=H∧x= .int (lo+i),λi _=>n≤i⟩
theorem zps {P:Program} {w:World} {K:W.Frag} {tg:Expr} (a it:Addr):Turn P w K tg (Itl K a) [it] it (λi h=>h.IsListIter it a i) where
 mem:=by simp
 obj:=λi h st b hb=>by
  have e:b=it:=by simpa using hb
  subst e
  obtain ⟨o,e,c,d⟩:=st
  exact ⟨o,e,λv z=>by rw [d] at z;cases z⟩
 keep:=λi h h' st k=>st.at λo e=>k it ↥4 o e
 item:=by
  intro X hP hw hK hc i pins s σ H E I hf st hg
  subst hP hw hK
  obtain ⟨xs,x,hq,hx⟩:=hg
  obtain ⟨its,rv,p,hz⟩:=I.list hq
  obtain ⟨u,hu,ru⟩:=rv.get hx
  obtain ⟨f0,f1,f2,f3,f4,f5⟩:=hf it ↥4
  refine wpAny_pyNext_list_item st p.isList (x:=u) (by simpa using hu) λh' st' sb=>?_
  have I1:Inv X pins σ H { s with heap:=h' }:=I.turned (t':=s.toks) (λb o hb e=>(sb.2 b hb).trans e) f0 f1 f3 f4 f5
  obtain ⟨o,e,c,d⟩:=id st'
  exact ⟨u,rfl,zqh (s:={ s with heap:=h' }) e c d ↥1 ⟨x,H,I1,ru,⟨rfl,λys hy=>by rw [I.list_inj hy hq];exact hx⟩,st',λb hb=>(hf b hb).1⟩⟩
 done:=by
  intro X hP hw hK hc i pins s σ H E I hf st hg
  subst hP hw hK
  obtain ⟨xs,hq,hx⟩:=hg
  obtain ⟨its,rv,p,hz⟩:=I.list hq
  obtain ⟨f0,f1,f2,f3,f4,f5⟩:=hf it ↥4
  have hl:=rv.length
  exact wpAny_pyNext_list_end (I.ok.hd hc) st p.isList (by simp;omega) λh' eb=>↑112
 self:=λ_ _ _ _ _ st h=>wpAny_pyIter_listiter st h
theorem zmJ {P:Program} {w:World} {K:W.Frag} {tg:Expr} (it:Addr) (lo:Int) (n:Nat):Turn P w K tg (Itr lo n) [it] it (λi h=>IsRangeIter h it (lo+(i:Nat)*1) ((n:Int)-(i:Nat)) 1) where
 mem:=by simp
 obj:=λi h st b hb=>by
  have e:b=it:=by simpa using hb
  subst e
  exact ⟨_,st,λv z=>by
   have z':Data.fields _=Data.cell v:=z
   cases z'⟩
 keep:=λi h h' st k=>k it ↥4 _ st
 item:=by
  intro X hP hw hK hc i pins s σ H E I hf st hg
  subst hP hw hK
  obtain ⟨f0,f1,f2,f3,f4,f5⟩:=hf it ↥4
  have W:=Walks.range (prog:=X.prog) (w:=X.w) (I.ok.hd hc) it lo 1 n
  refine W.item i s _ _ hg st λv h' tk hv st' kk=>?_
  obtain ⟨t,rfl⟩:=hv
  have I1:Inv X pins σ H { s with heap:=h',toks:=tk }:=I.turned (λb o hb e=>kk b o (by simpa using hb) e) f0 f1 f3 f4 f5
  refine ⟨_,rfl,zqh (s:={ s with heap:=h',toks:=tk }) (n:="range_iterator") st' rfl rfl ↥1 ⟨.int (lo+i),H,I1,⟨t,?_⟩,⟨rfl,rfl⟩,st',λb hb=>(hf b hb).1⟩⟩
  rw [Int.mul_one]
 done:=by
  intro X hP hw hK hc i pins s σ H E I hf st hg
  subst hP hw hK
  obtain ⟨f0,f1,f2,f3,f4,f5⟩:=hf it ↥4
  exact wpAny_pyNext_range_end (I.ok.hd hc) st (by have:n≤i:=hg;omega) λh' eb=>↑112
 self:=λ_ _ _ _ _ st h=>wpAny_pyIter_rangeiter st h
end L2
namespace L2
open PySem PySem.Spec PyProof.Rows
section
variable {X:Cx} {tg:Expr}
def zpQ (K:W.Frag) (tl:TE):TI:=λσ H R=>tl σ H λx H1=>∃a,x= .ref a∧(∃xs,SqL K H1 a xs)∧R (Itl K a) H1
theorem zr7 {l:Expr} {tl:TE} (hl:PE X l tl):PI X tg l (zpQ X.K tl):=by
 intro pins s σ H R I h;refine thn (hl pins s σ H _ I h) λv s1 ⟨x,H1,I1,r1,q1⟩=> ?_;obtain ⟨a,e,⟨xs,hq⟩,q⟩:=q1;subst e;cases r1;obtain ⟨its,rv,p,hz⟩:=I1.list hq;refine wpAny_pyIter_list p.isList ?_;refine ⟨s1.heap.objs.size,[s1.heap.objs.size],_,_,H1,rfl,I1.kept (t':=s1.toks) λb o e=>Heap.get?_push_of_some _ e,zps a _,⟨_,Heap.get?_push_size _ rfl,rfl,rfl⟩,λb hb=> ?_,q⟩;have e:b=s1.heap.objs.size:=by simpa using hb
 subst e;exact I1.fpOk ↑8 (I1.hok.fresh ↑8)
theorem zqv {pins:List ↑4} {σ:St} {H:Hp} {s:Shared} {R:It->Hp->Prop} {E:Value->Shared->Prop} {lo hi:Int} {t u v:Tok} {tk:Nat} (I:Inv X pins σ H s) (h1:-(2^62)≤lo) (h2:lo<2^62) (h3:-(2^62)≤hi) (h4:hi<2^62)
  (q:R (Itr lo (hi-lo).toNat) H):wpAny ↥5 X.A (pyIter (.ref s.heap.objs.size)) (PIE X pins σ tg R) E {s with heap:=s.heap.push {cls:= .type "range",data:= .fields #[.int lo t,.int hi u,.int 1 v]},toks:=tk}:=by
   refine wpAny_pyIter_range (IsRange.new ..) (small_one h1 h2 h3 h4) ?_;have I1:Inv X pins σ H {s with heap:=s.heap.push {cls:= .type "range",data:= .fields #[.int lo t,.int hi u,.int 1 v]},toks:=tk}:=I.kept λb o e=>Heap.get?_push_of_some _ e;refine ⟨(s.heap.push {cls:= .type "range",data:= .fields #[.int lo t,.int hi u,.int 1 v]}).objs.size,[(s.heap.push {cls:= .type "range",data:= .fields #[.int lo t,.int hi u,.int 1 v]}).objs.size],_,_,H,rfl,I1.kept (t':=tk) λb o e=>Heap.get?_push_of_some _ e,zmJ _ lo (hi-lo).toNat,?_,λb hb=> ?_,q⟩
   ·have e1:lo+((0:Nat):Int)*1=lo:=by simp
    have e2:(((hi-lo).toNat:Nat):Int)-((0:Nat):Int)=Builtin.Range.rangeSize lo hi 1:=by rw [rangeSize_one];split<;>omega
    show IsRangeIter _ _ (lo+((0:Nat):Int)*1) ((((hi-lo).toNat:Nat):Int)-((0:Nat):Int)) 1;rw [e1,e2];exact Heap.get?_push_size _ rfl
   ·have e:b=(s.heap.push {cls:= .type "range",data:= .fields #[.int lo t,.int hi u,.int 1 v]}).objs.size:=by simpa using hb
    subst e;exact I1.fpOk ↑8 (I1.hok.fresh ↑8)
def ztX (ta:TA):TI:=λσ H R=>ta σ H λvs H1=>∃j:Int,vs=[.int j]∧ -(2 ^ 62)≤j∧j<2 ^ 62∧R (Itr 0 j.toNat) H1
theorem zf4 {a:Expr} {ta:TA} {p pos:Pos} (hg:Gl X "range") (hm:X.mg "range" =none) (ha:PA X [a] ta) (hs:starEach [a] X.env=[(false,eval a X.env)]:=by rfl):PI X tg (.Call (.Name "range" p) [a] [] pos) (ztX ta):=by
 intro pins s σ H R I h;refine Call_ (zf7 I hg hm boot_range (PyProof.Rows.callWith_type1 ↑114 hs rfl));obtain ⟨j,e,q1,q2,q⟩:=q1;subst e
 cases r1 with
  |cons r rr=>cases rr;obtain ⟨t,rfl⟩:=r;exact call_range_1 (zqv I1 ↑0 ↑0 q1 q2 (by simpa using q))
def ztf (wi:TI) (g:TG) (tb:TS):TS:=λD σ H=>wi σ H λJ H1=>∃W:Nat->Nat->St->Hp->Prop,(∃m,W 0 m σ H1)∧∀i m σ H,W i m σ H→(J.stop i H∧D.nx σ H)∨(J.go i H∧∃N:St->Hp->Prop,(∀σ' H',N σ' H'->∃m',m'<m∧W (i+1) m' σ' H')∧∀x H',J.yld i H x H'->g x σ H' λσ2 H2=>tb {D with nx:=N,ct:=N,bk:=D.nx} σ2 H2)
def zko (fp:List Addr) (h:Heap):List ↑4:=fp.filterMap λb=>(h.get? b).map λo=>(b,o)
theorem zfB {fp:List Addr} {h:Heap} {b:Addr} {o:Obj} (hb:b∈fp) (e:h.get? b=some o):(b,o)∈zko fp h:=List.mem_filterMap.mpr ⟨b,hb,by rw [e];rfl⟩
theorem zoS {fp:List Addr} {h:Heap} {p:Addr×Obj} (hp:p∈zko fp h):p.1∈fp∧h.get? p.1=some p.2:=by obtain ⟨b,hb,e⟩:=List.mem_filterMap.mp hp;cases q:h.get? b with|none=>rw [q] at e;cases e|some o=>rw [q] at e;have e':(b,o)=p:=Option.some.inj e;subst e';exact ⟨hb,q⟩
theorem Inv.pinned {pins:List ↑4} {σ:St} {H:Hp} {s:Shared} {fp:List Addr} (I:Inv X pins σ H s) (hf:∀b∈fp,zlS X pins H b) (ho:∀b∈fp,∃o,s.heap.get? b=some o∧∀v,o.data≠ .cell v):Inv X (pins++zko fp s.heap) σ H s :=
 I.pins_of λp hp=>(List.mem_append.mp hp).elim (λz=>I.pin p (List.mem_append_right _ z)) λz=>by obtain ⟨hb,e⟩:=zoS z;obtain ⟨f0,f1,f2,_⟩:=hf p.1 hb;obtain ⟨o,e',d⟩:=ho p.1 hb;rw [e] at e';cases e';exact ⟨e,f0,f1,f2,d⟩
theorem Inv.unpinned {pins pl:List ↑4} {σ:St} {H:Hp} {s:Shared} (I:Inv X (pins++pl) σ H s):Inv X pins σ H s:=I.pins_of λp hp=>I.pin p (List.mem_append_right _ (List.mem_append_left _ hp))
theorem zdl {iter:Expr} {body:List Stmt} {wi:TI} {g:TG} {tb:TS} {pos:Pos} (hp:PassesOwn ↥5 X.A X.env X.xe) (hc:X.calm=true) (hi:PI X tg iter wi) (hg:PG X tg g) (hb:PSs X body tb)
  (hs:∀x,foldedSetIterable iter X.env x=pure x:=by intro _;rfl):PS X (.For tg iter body [] pos) (ztf wi g tb):=by
   intro pins s σ H D I h;refine wpAny_For (thn (hi pins s σ H _ I h) λv s1 h1=>thn h1 λitv s2 h2=> ?_) hs;obtain ⟨it,fp,tn,J,H2,e,I2,T,st2,f2,W,⟨m0,w0⟩,turn⟩:=h2;subst e;have stat:∀ {H':Hp},(∀b∈fp,H' b=none)->∀b∈fp,zlS X pins H' b:=λhn b hb=>⟨hn b hb,(f2 b hb).2⟩;refine codeAny_forLoop_any (λn s'=>∃i σ' H',Inv X pins σ' H' s'∧tn i s'.heap∧(∀b∈fp,H' b=none)∧W i n σ' H') ?_ m0 ⟨0,σ,H2,I2,st2,λb hb=>(f2 b hb).1,w0⟩;rintro n s3 ⟨i,σ3,H3,I3,st3,fr3,w3⟩;rcases turn i n σ3 H3 w3 with ⟨stop,qn⟩|⟨go,N,hN,step⟩
   ·refine wpAny_passesOwn hp (thn (T.done X rfl rfl rfl hc i pins s3 σ3 H3 X.xe I3 (stat fr3) st3 stop) λr s4 ⟨hr,I4⟩=> ?_);subst hr;exact wpAny_execs_nil ⟨σ3,H3,I4,qn⟩
   ·refine wpAny_passesOwn hp (thn (T.item X rfl rfl rfl hc i pins s3 σ3 H3 X.xe I3 (stat fr3) st3 go) λr s4 ⟨u,hr,h4⟩=> ?_);subst hr;refine wpAny_passesOwn hp (thn h4 λ_ s5 ⟨x,H5,I5,r5,y5,st5,fr5⟩=> ?_);have I5':=I5.pinned (stat fr5) (T.obj _ _ st5);refine wpAny_passesOwn hp (thn (hg _ s5 σ3 H5 x u _ I5' r5 (step x H5 y5)) λ_ s6 ⟨σ6,H6,I6,q6⟩=> ?_);refine wpAny_passesOwn hp (thn (hb _ s6 σ6 H6 _ I6 q6) λf s7 q7=> ?_);have again:∀ {σ7:St} {H7:Hp},Inv X (pins++zko fp s5.heap) σ7 H7 s7->N σ7 H7->∃m,m<n∧∃i σ' H',Inv X pins σ' H' s7∧tn i s7.heap∧(∀b∈fp,H' b=none)∧W i m σ' H':=λ {σ7 H7} I7 n7=>by obtain ⟨m',hm,w7⟩:=hN σ7 H7 n7;refine ⟨m',hm,i+1,σ7,H7,I7.unpinned,T.keep _ _ _ st5 λb hb o e=>(I7.pin (b,o) ↑116).1,λb hb=> ?_,w7⟩;obtain ⟨o,e,d⟩:=T.obj _ _ st5 b hb;exact (I7.pin (b,o) ↑116).2.1
    cases f with
     |next=>obtain ⟨σ7,H7,I7,n7⟩:=q7;exact again I7 n7
     |cont=>obtain ⟨σ7,H7,I7,n7⟩:=q7;exact again I7 n7
     |brk=>obtain ⟨σ7,H7,I7,q7⟩:=q7;exact ⟨σ7,H7,I7.unpinned,q7⟩
     |ret v=>obtain ⟨x7,σ7,H7,I7,r7,q7⟩:=q7;exact ⟨x7,σ7,H7,I7.unpinned,r7,q7⟩
end
end L2
namespace L2
open PySem PySem.Spec PyProof.Rows
abbrev R2:=V->V->Hp->VK->Prop
def OpR (X:Cx) (f:Value->Value->Sem Value) (r:R2):Prop :=
 ∀(pins:List ↑4) (s:Shared) (σ:St) (H:Hp) (x y:V) (v u:Value) (Q:VK),Inv X pins σ H s->zc0 x v->zc0 y u->r x y H Q→wpAny ↥5 X.A (f v u) ↑41 X.xe s
def UnR (X:Cx) (f:Value->Sem Value) (r:V->Hp->VK->Prop):Prop :=
 ∀(pins:List ↑4) (s:Shared) (σ:St) (H:Hp) (x:V) (v:Value) (Q:VK),Inv X pins σ H s->zc0 x v->r x H Q→wpAny ↥5 X.A (f v) ↑41 X.xe s
def zeb (X:Cx) (f:Value) (r:List V->Hp->VK->Prop):Prop :=
 ∀(pins:List ↑4) (s:Shared) (σ:St) (H:Hp) (xs:List V) (us:List Value) (Q:VK),Inv X pins σ H s->zbL xs us->r xs H Q→wpAny ↥5 X.A (call f us) ↑41 X.xe s
def tOp (r:R2) (ta tb:TE):TE:=λσ H Q=>ta σ H λx H1=>tb σ H1 λy H2=>r x y H2 Q
def tUn (r:V->Hp->VK->Prop) (ta:TE):TE:=λσ H Q=>ta σ H λx H1=>r x H1 Q
def rI (C:Int->Int->Prop) (g:Int->Int->V):R2:=λx y H Q=>∃i j,x= .int i∧y= .int j∧C i j∧Q (g i j) H
def rI0 (g:Int->Int->V):R2:=λx y H Q=>∃i j,x= .int i∧y= .int j∧Q (g i j) H
def rU (g:Int->V):V->Hp->VK->Prop:=λx H Q=>∃i,x= .int i∧Q (g i) H
section
variable {X:Cx} {a b c:Expr} {ta tb tc:TE} {pos:Pos}
theorem zvS (ha:PE X a ta) (hb:PE X b tb) {pins:List ↑4} {s:Shared} {σ:St} {H:Hp} {R:V->V->Hp->Prop} (I:Inv X pins σ H s)
  (h:ta σ H λx H1=>tb σ H1 λy H2=>R x y H2) {Q:Value->Shared->Prop} {f:Value->Value->Sem Value}
  (hf:∀v u s2 x y H2,Inv X pins σ H2 s2->zc0 x v->zc0 y u->R x y H2->wpAny ↥5 X.A (f v u) Q X.xe s2) :
  wpAny ↥5 X.A (eval a X.env) (λv s₁=>wpAny ↥5 X.A (eval b X.env) (λu s₂=>wpAny ↥5 X.A (f v u) Q X.xe s₂) X.xe s₁) X.xe s:=by refine thn (ha pins s σ H _ I h) λv s1 ⟨x,H1,I1,r1,q1⟩=> ?_;refine thn (hb pins s1 σ H1 _ I1 q1) λu s2 ⟨y,H2,I2,r2,q2⟩=> ?_;exact hf v u s2 x y H2 I2 r1 r2 q2
theorem zaw {op:Operator} {r:R2} (ho:OpR X (binaryOp op) r) (ha:PE X a ta) (hb:PE X b tb):PE X (.BinOp a op b pos) (tOp r ta tb):=by intro pins s σ H Q I h;exact wpAny_BinOp (zvS ha hb I h λv u s2 x y H2 I2 rx ry q=>ho pins s2 σ H2 x y v u Q I2 rx ry q)
theorem zll {op:UnaryOp} {r:V->Hp->VK->Prop} (ho:UnR X (unaryOp op) r) (ha:PE X a ta):PE X (.UnaryOp op a pos) (tUn r ta):=by intro pins s σ H Q I h;exact UnaryOp_ (thn (ha pins s σ H _ I h) λv s1 ⟨x,H1,I1,r1,q1⟩=>ho pins s1 σ H1 x v Q I1 r1 q1)
theorem opI {f:Value->Value->Sem Value} {C:Int->Int->Prop} {g:Int->Int->Int}
  (rule:∀(i j:Int) (t u:Tok) (s:Shared) (Q:Value->Shared->Prop) (E:Value->Shared->Prop),C i j->Q (.int (g i j) s.toks) {s with toks:=s.toks+1}->wpAny ↥5 X.A (f (.int i t) (.int j u)) Q E s) :
  OpR X f (rI C λi j=> .int (g i j)):=by intro pins s σ H x y v u Q I rx ry h;obtain ⟨i,j,rfl,rfl,hc,q⟩:=h;obtain ⟨t,rfl⟩:=rx;obtain ⟨t',rfl⟩:=ry;exact rule i j t t' s _ _ hc ⟨.int (g i j),H,I.tok _,⟨_,rfl⟩,q⟩
theorem zwM {f:Value->Value->Sem Value} {g:Int->Int->Int}
  (rule:∀(i j:Int) (t u:Tok) (s:Shared) (Q:Value->Shared->Prop) (E:Value->Shared->Prop),Q (.int (g i j) s.toks) {s with toks:=s.toks+1}->wpAny ↥5 X.A (f (.int i t) (.int j u)) Q E s) :
  OpR X f (rI0 λi j=> .int (g i j)):=by intro pins s σ H x y v u Q I rx ry h;obtain ⟨i,j,rfl,rfl,q⟩:=h;obtain ⟨t,rfl⟩:=rx;obtain ⟨t',rfl⟩:=ry;exact rule i j t t' s _ _ ⟨.int (g i j),H,I.tok _,⟨_,rfl⟩,q⟩
theorem zvX {f:Value->Value->Sem Value} {g:Int->Int->Bool}
  (rule:∀(i j:Int) (t u:Tok) (s:Shared) (Q:Value->Shared->Prop) (E:Value->Shared->Prop),Q (.bool (g i j)) s->wpAny ↥5 X.A (f (.int i t) (.int j u)) Q E s) :
  OpR X f (rI0 λi j=> .bl (g i j)):=by intro pins s σ H x y v u Q I rx ry h;obtain ⟨i,j,rfl,rfl,q⟩:=h;obtain ⟨t,rfl⟩:=rx;obtain ⟨t',rfl⟩:=ry;exact rule i j t t' s _ _ ⟨.bl (g i j),H,I,rfl,q⟩
def zwU (i j:Int):Prop:=0≤j∧j≤1000000∧i.natAbs<2 ^ 64
theorem zdS:OpR X (binaryOp .Add) (rI0 λi j=> .int (i+j)):=zwM λ_ _ _ _ _ _ _ q=>add_int q
theorem zgr:OpR X (binaryOp .Sub) (rI0 λi j=> .int (i-j)):=zwM λ_ _ _ _ _ _ _ q=>sub_int q
theorem zcr:OpR X (binaryOp .Mod) (rI (λ_ j=>0<j) λi j=> .int (i%j)):=opI λi j _ _ _ _ _ hc q=>by have h1:(0:Int)<j:=hc;exact mod_int' ↑0 (by rw [Int.fmod_eq_emod_of_nonneg i ↑0];exact q)
theorem znx:OpR X (binaryOp .Pow) (rI zwU λi j=> .int (i ^ j.toNat)):=opI λ_ _ _ _ _ _ _ hc q=>pow_int_small hc.1 hc.2.1 hc.2.2 q
theorem unI {f:Value->Sem Value} {g:Int->Int}
  (rule:∀(i:Int) (t:Tok) (s:Shared) (Q:Value->Shared->Prop) (E:Value->Shared->Prop),Q (.int (g i) s.toks) {s with toks:=s.toks+1}->wpAny ↥5 X.A (f (.int i t)) Q E s) :
  UnR X f (rU λi=> .int (g i)):=by intro pins s σ H x v Q I rx h;obtain ⟨i,rfl,q⟩:=h;obtain ⟨t,rfl⟩:=rx;exact rule i t s _ _ ⟨.int (g i),H,I.tok _,⟨_,rfl⟩,q⟩
theorem zhy:UnR X (unaryOp .USub) (rU λi=> .int (-i)):=unI λ_ _ _ _ _ q=>neg_int q
end
def scal:V->V->Bool
 | .non,.non=>true | .non,.int _=>true | .int _,.non=>true | .non,.bl _=>true | .bl _,.non=>true | .non,.str _=>true | .str _,.non=>true
 | .int _,.int _=>true | .bl _,.bl _=>true | .str _,.str _=>true | .byt _,.byt _=>true
 | .int _,.str _=>true | .str _,.int _=>true | .bl _,.str _=>true | .str _,.bl _=>true
 | _,_=>false
def rEq:R2:=λx y H Q=>scal x y=true∧Q (.bl (decide (x=y))) H
def rNe:R2:=λx y H Q=>scal x y=true∧Q (.bl (!decide (x=y))) H
theorem znV {i j:Int}:decide (V.int i=V.int j)=(i==j):=by rw [Bool.eq_iff_iff];simp
theorem zrm {i j:Bool}:decide (V.bl i=V.bl j)=(i==j):=by rw [Bool.eq_iff_iff];simp
theorem znm {i j:Str}:decide (V.str i=V.str j)=(i==j):=by rw [Bool.eq_iff_iff];simp
theorem znj {i j:Array UInt8}:decide (V.byt i=V.byt j)=(i.toList==j.toList):=by rw [Bool.eq_iff_iff];cases i;cases j;simp
section
variable {X:Cx} {a b c:Expr} {ta tb tc:TE} {pos:Pos}
theorem zbA {pins:List ↑4} {σ:St} {H:Hp} {s:Shared} {Q:VK} {k k':Bool} (I:Inv X pins σ H s) (q:Q (.bl k) H) (e:k=k'):EP X pins σ Q (.bool k') s:=by subst e;exact ⟨.bl k,H,I,rfl,q⟩
theorem zcD:OpR X (compareOp .Eq) rEq:=by
 intro pins s σ H x y v u Q I rx ry h;obtain ⟨hs,q⟩:=h
 cases x with
  |non=>
   cases rx
   cases y with
    |non=>cases ry;exact PySem.EqNone.eq_none_none ↑29
    |bl j=>cases ry;exact PySem.EqNone.eq_none_bool ↑29
    |int j=>obtain ⟨t',rfl⟩:=ry;exact PySem.EqNone.eq_none_int ↑29
    |str j=>obtain ⟨t',rfl⟩:=ry;exact PySem.EqNone.eq_none_str ↑29
    |_=>exact absurd ↑56 Bool.false_ne_true
  |bl i=>
   cases rx
   cases y with
    |non=>cases ry;exact PySem.EqNone.eq_bool_none ↑29
    |bl j=>cases ry;exact eq_bool (zbA I q zrm)
    |str j=>obtain ⟨t',rfl⟩:=ry;exact PySem.EqMixed.eq_bool_str ↑29
    |_=>exact absurd ↑56 Bool.false_ne_true
  |int i=>
   obtain ⟨t,rfl⟩:=rx
   cases y with
    |non=>cases ry;exact PySem.EqNone.eq_int_none ↑29
    |int j=>obtain ⟨t',rfl⟩:=ry;exact eq_int (zbA I q znV)
    |str j=>obtain ⟨t',rfl⟩:=ry;exact PySem.EqMixed.eq_int_str ↑29
    |_=>exact absurd ↑56 Bool.false_ne_true
  |str i=>
   obtain ⟨t,rfl⟩:=rx
   cases y with
    |non=>cases ry;exact PySem.EqNone.eq_str_none ↑29
    |bl j=>cases ry;exact PySem.EqMixed.eq_str_bool ↑29
    |int j=>obtain ⟨t',rfl⟩:=ry;exact PySem.EqMixed.eq_str_int ↑29
    |str j=>obtain ⟨t',rfl⟩:=ry;exact eq_str (zbA I q znm)
    |_=>exact absurd ↑56 Bool.false_ne_true
  |byt i=>
   obtain ⟨t,rfl⟩:=rx
   cases y with
    |byt j=>obtain ⟨t',rfl⟩:=ry;exact W.eq_bytes (zbA I q znj)
    |_=>exact absurd ↑56 Bool.false_ne_true
  |_=>cases y<;>exact absurd ↑56 Bool.false_ne_true
theorem zgf:OpR X (compareOp .NotEq) rNe:=by
 intro pins s σ H x y v u Q I rx ry h;obtain ⟨hs,q⟩:=h
 cases x with
  |non=>
   cases rx
   cases y with
    |non=>cases ry;exact PySem.EqNone.ne_none_none ↑29
    |bl j=>cases ry;exact PySem.EqNone.ne_none_bool ↑29
    |int j=>obtain ⟨t',rfl⟩:=ry;exact PySem.EqNone.ne_none_int ↑29
    |str j=>obtain ⟨t',rfl⟩:=ry;exact PySem.EqNone.ne_none_str ↑29
    |_=>exact absurd ↑56 Bool.false_ne_true
  |bl i=>
   cases rx
   cases y with
    |non=>cases ry;exact PySem.EqNone.ne_bool_none ↑29
    |bl j=>cases ry;exact ne_bool (zbA I q (congrArg not zrm))
    |str j=>obtain ⟨t',rfl⟩:=ry;exact PySem.EqMixed.ne_bool_str ↑29
    |_=>exact absurd ↑56 Bool.false_ne_true
  |int i=>
   obtain ⟨t,rfl⟩:=rx
   cases y with
    |non=>cases ry;exact PySem.EqNone.ne_int_none ↑29
    |int j=>obtain ⟨t',rfl⟩:=ry;exact ne_int (zbA I q (congrArg not znV))
    |str j=>obtain ⟨t',rfl⟩:=ry;exact PySem.EqMixed.ne_int_str ↑29
    |_=>exact absurd ↑56 Bool.false_ne_true
  |str i=>
   obtain ⟨t,rfl⟩:=rx
   cases y with
    |non=>cases ry;exact PySem.EqNone.ne_str_none ↑29
    |bl j=>cases ry;exact PySem.EqMixed.ne_str_bool ↑29
    |int j=>obtain ⟨t',rfl⟩:=ry;exact PySem.EqMixed.ne_str_int ↑29
    |str j=>obtain ⟨t',rfl⟩:=ry;exact ne_str (zbA I q (congrArg not znm))
    |_=>exact absurd ↑56 Bool.false_ne_true
  |byt i=>
   obtain ⟨t,rfl⟩:=rx
   cases y with
    |byt j=>obtain ⟨t',rfl⟩:=ry;exact W.ne_bytes (zbA I q (congrArg not znj))
    |_=>exact absurd ↑56 Bool.false_ne_true
  |_=>cases y<;>exact absurd ↑56 Bool.false_ne_true
theorem zh7:OpR X (compareOp .Lt) (rI0 λi j=> .bl (decide (i<j))):=zvX λ_ _ _ _ _ _ _ q=>lt_int q
theorem zrQ:OpR X (compareOp .LtE) (rI0 λi j=> .bl (decide (i≤j))):=zvX λ_ _ _ _ _ _ _ q=>le_int q
theorem zjV:OpR X (compareOp .Gt) (rI0 λi j=> .bl (decide (j<i))):=zvX λ_ _ _ _ _ _ _ q=>gt_int q
theorem zos:OpR X (compareOp .In) (λx y H Q=>∃i j,x= .str i∧y= .str j∧Q (.bl (!(Builtin.Str.occurrences j i 0 j.length 1).isEmpty)) H):=by intro pins s σ H x y v u Q I rx ry h;obtain ⟨i,j,rfl,rfl,q⟩:=h;obtain ⟨t,rfl⟩:=rx;obtain ⟨t',rfl⟩:=ry;exact in_str (zbA I q rfl)
theorem zqZ:OpR X (compareOp .Is) (λx y H Q=>y= .non∧Q (.bl (decide (x= .non))) H):=by intro pins s σ H x y v u Q I rx ry h;obtain ⟨rfl,q⟩:=h;cases ry;refine is_none_gen (zbA I q ?_);cases x<;>first|(cases rx;rfl)|(obtain ⟨t,rfl⟩:=rx;rfl)
theorem zay (b:Expr) {op:CmpOp} (h:op≠.In:=by decide) (h2:op≠.NotIn:=by decide):behindInMarks op b=false:=by
 have e1:(op==CmpOp.In)=false:=by cases op<;>first|rfl|exact absurd rfl h
 have e2:(op==CmpOp.NotIn)=false:=by cases op<;>first|rfl|exact absurd rfl h2
 cases b<;>simp [behindInMarks,e1,e2]
theorem zfk {op:CmpOp} {r:R2} (ho:OpR X (compareOp op) r) (ha:PE X a ta) (hb:PE X b tb) (hm:behindInMarks op b=false):PE X (.Compare a [op] [b] pos) (tOp r ta tb):=by intro pins s σ H Q I h;exact wpAny_Compare1 (zvS ha hb I h λv u s2 x y H2 I2 rx ry q=>ho pins s2 σ H2 x y v u Q I2 rx ry q) hm
def zsr (t:TE):TT:=λσ H Q=>t σ H λx H'=>∃k,x= .bl k∧Q k H'
theorem zaq {op:CmpOp} {r:R2} (ho:OpR X (compareOp op) r) (ha:PE X a ta) (hb:PE X b tb) (hm:behindInMarks op b=false):PT X (.Compare a [op] [b] pos) (zsr (tOp r ta tb)):=by intro pins s σ H Q I h;refine wpAny_isTrue_Compare1 (thn (ha pins s σ H _ I h) λv s1 ⟨x,H1,I1,r1,q1⟩=>thn (hb pins s1 σ H1 _ I1 q1) λu s2 ⟨y,H2,I2,r2,q2⟩=>thn (ho pins s2 σ H2 x y v u _ I2 r1 r2 q2) λc s3 ⟨z,H3,I3,r3,k,e,q3⟩=> ?_) hm;subst e;cases r3;exact wpAny_truthy_bool ⟨H3,I3,q3⟩
theorem ziJ:(sizeLine:Nat)<2 ^ 63:=by rw [sizeLine_eq];decide
theorem zbj:OpR X (binaryOp .Add) (λx y H Q=>∃i j,x= .str i∧y= .str j∧i.length+j.length≤sizeLine∧Q (.str (i++j)) H):=by intro pins s σ H x y v u Q I rx ry h;obtain ⟨i,j,rfl,rfl,hz,q⟩:=h;obtain ⟨t,rfl⟩:=rx;obtain ⟨t',rfl⟩:=ry;exact add_str (λt' tk=>⟨.str (i++j),H,I.tok _,⟨_,rfl⟩,q⟩) hz
theorem zgg {x:V} {us:List Value} (r:zbL [x] us):∃u,us=[u]∧zc0 x u:=by cases r with|cons r1 r2=>cases r2;exact ⟨_,rfl,r1⟩
theorem zoi {x y:V} {us:List Value} (r:zbL [x,y] us):∃u w',us=[u,w']∧zc0 x u∧zc0 y w':=by
 cases r with
  |cons r1 r2=>cases r2 with|cons r3 r4=>cases r4;exact ⟨_,_,rfl,r1,r3⟩
theorem zhm:zeb X (.builtin "abs") (λxs H Q=>∃i,xs=[.int i]∧Q (.int (if i<0 then-i else i)) H):=by intro pins s σ H xs us Q I r h;obtain ⟨i,rfl,q⟩:=h;obtain ⟨u,rfl,t,rfl⟩:=zgg r;exact call_abs_int λu tk=>⟨.int (if i<0 then-i else i),H,I.tok _,⟨_,rfl⟩,q⟩
theorem zoy:zeb X (.type "int") (λxs H Q=>(∃i,xs=[.int i]∧Q (.int i) H)∨∃k,xs=[.bl k]∧Q (.int (if k then 1 else 0)) H):=by
 intro pins s σ H xs us Q I r h;rcases h with ⟨i,rfl,q⟩|⟨k,rfl,q⟩
 ·obtain ⟨u,rfl,t,rfl⟩:=zgg r;exact call_int_int ⟨.int i,H,I,⟨_,rfl⟩,q⟩
 ·obtain ⟨u,rfl,r1⟩:=zgg r;cases r1;exact call_int_bool ⟨.int (if k then 1 else 0),H,I.tok _,⟨_,rfl⟩,q⟩
theorem zcB:zeb X (.type "str") (λxs H Q=>∃i,xs=[.int i]∧i.natAbs.log2<1920∧Q (.str (toString i)) H):=by intro pins s σ H xs us Q I r h;obtain ⟨i,rfl,hz,q⟩:=h;obtain ⟨u,rfl,t,rfl⟩:=zgg r;exact PySem.P.str_of_int hz ⟨.str _,H,I.tok _,⟨_,rfl⟩,q⟩
end
end L2
namespace L2
open PySem PySem.Spec PyProof.Rows
structure ObjM (h:Heap) (x dx C:Addr) (mA:Str->Option Value):Prop where
 obj:h.get? x=some (W.instObj C dx)
 ns:h.Ns1 dx mA
 ne:dx≠x
theorem zpu {h:Heap} {dx:Addr} {mA:Str->Option Value} (n:h.Ns1 dx mA):∃od,h.get? dx=some od∧∀name,W.lookIn name od=some (mA name):=by
 obtain ⟨o,es,ep,ho,hd,hk,_,hm⟩:=n;refine ⟨o,ho,λname=> ?_⟩;have e:=hm name;unfold nsFind findBy at e;rw [←Array.find?_toList] at e;unfold W.lookIn;rw [hd];dsimp only;split;·rename_i y q;rw [q] at e;exact congrArg some e
 ·rename_i q;rw [q] at e;have a:es.toList.any (·.refKey)=false:=by rw [List.any_eq_false];intro y hy;obtain ⟨z,t,hkey⟩:=hk y (Array.mem_toList_iff.mp hy);simp [DictEntry.refKey,hkey]
  have a':¬es.toList.any (·.refKey)=true:=by rw [a];exact Bool.false_ne_true
  rw [if_neg a'];exact congrArg some e
theorem ObjM.look {h:Heap} {x dx C:Addr} {mA:Str->Option Value} (I:ObjM h x dx C mA):∃od,W.InstAt h x (W.instObj C dx) C (some od)∧∀name,W.lookIn name od=some (mA name) :=
 let ⟨od,ho,hl⟩:=zpu I.ns;⟨od,⟨I.obj,rfl,rfl,ho⟩,hl⟩
section
variable {prog:Program} {w:World} {A:Around} {E:Value->Shared->Prop} {s:Shared} {K:W.Frag} {x dx C f:Addr} {mA:Str->Option Value} {name:Str} {v:Value}
theorem zs3 {expr:Bool} {Q:Value->Shared->Prop} (X:K.In s.heap) (I:ObjM s.heap x dx C mA) (hg:W.plainGet K C name=true) (hh:W.hasDictIn K C=true)
  (ha:W.findIn K (.ref C) name=some none) (hv:mA name=some v) (hv':W.handedIn v=true) (h:Q v {s with toks:=s.toks+1}) :
  wpAny ↑26 A (getAttr (.ref x) name expr) Q E s:=by obtain ⟨od,J,hl⟩:=I.look;exact W.get_value X J (W.plainGet_of hg).1 (W.findObj_own hh ha rfl (by rw [hl,hv])) hv' h
theorem zqH {pl:Sem Bool} {Q:Value×List Value->Shared->Prop} (X:K.In s.heap) (I:ObjM s.heap x dx C mA) (hg:W.plainGet K C name=true)
  (hf:W.findIn K (.ref C) name=some (some (.ref f))) (ht:W.isFn K (.ref f)=true) (hv:mA name=none) (h:Q (.ref f,[.ref x]) s) :
  wpAny ↑26 A (getMethod (.ref x) name pl) Q E s:=by obtain ⟨od,J,hl⟩:=I.look;exact W.method_fn X J (W.plainGet_of hg).1 (W.plainGet_of hg).2 hf (beq_iff_eq.mp ht) (by show (W.lookIn name od).map (·.isSome)=some false;rw [hl,hv];rfl) h
theorem zsm {ns:List Str} {Q:Unit->Shared->Prop} (X:K.In s.heap) (I:ObjM s.heap x dx C mA)
  (hs:W.findIn K (.ref C) "__setattr__" =some ↑74) (hp:W.plainOver K C=true) (ht:W.takerIn K C name=some none) (hh:W.hasDictIn K C=true)
  (hw:PySem.Within mA ns) (hsz:ns.length≤sizeLine)
  (h:∀h',ObjM h' x dx C (λy=>if y=name then some v else mA y)->Heap.SameBut dx s.heap h'->Q () {s with heap:=h',toks:=s.toks+2}) :
  wpAny ↑26 A (setAttr (.ref x) name v) Q E s:=by obtain ⟨od,J,hl⟩:=I.look;refine W.set_plain X J hs (W.osa_open (s:= {s with toks:=s.toks+1}) (r:=none) X J hp ht λb=> ?_);obtain ⟨cd,hc,hd'⟩:=W.any_some hh;have hx:s.heap.get? x=some ⟨.ref C,some dx,.plain,#[]⟩:=I.obj;refine wpAny_bind (wpAny_pure (wpAny_bind (wpAny_bind (wpAny_loadPart hx (wpAny_bind (W.Looks.here (s:= {s with toks:=s.toks+1}) (W.looks_clsIn X hc) ?_))))));rw [hd'];refine wpAny_pure (a:=some dx) (wpAny_bind (wpAny_pure (wpAny_bind ?_)));refine wpAny_nsSet1 (s:= {s with toks:=s.toks+1}) I.ns λh' hn2 hs2=> ?_;obtain ⟨oD,esD,epD,hoD,hdD,hcD⟩:=hn2.count (PySem.Within.cons name v hw);refine wpAny_bind (wpAny_lookBehind hoD (by rw [hdD];exact pastItsLine_dict (Nat.le_trans hcD (by rw [List.length_cons];omega))) ?_);exact wpAny_pure (h _ ⟨(hs2.2 _ (Ne.symm I.ne)).trans I.obj,hn2,I.ne⟩ hs2)
theorem zqg {R:Result->Shared->Prop} {vs:List Value} {kw:List (Str×Value)} (X:K.In s.heap) (hm:W.makesIn K C=true)
  (hi:W.findIn K (.ref C) "__init__" =some (some (.ref f))) (hf:W.typeIn K (.ref f)=some (.type "function"))
  (h:codeAny ↑26 (A.under (.builtin "type.__call__" ⟨.ref C::vs,kw⟩)) (.call (.ref f) ⟨.ref ↑37::vs,kw⟩) (W.InitBack ↑37 R) {s with heap:=(s.heap.push W.emptyDict).push (W.instObj C s.heap.objs.size)}) :
  codeAny ↑26 A (.call (.ref C) ⟨vs,kw⟩) R s:=by obtain ⟨hh,g,d,t,os⟩:=s;exact W.make_core (W.makes_of X hm) (W.looks_findIn X hi) (λself=>W.bind_fn X self hf) (.inl rfl) h
end
def putF (f:Str) (v:V):List (Str×V)->List (Str×V)
 | []=>[(f,v)]
 | (g,x) :: r=>if g=f then (g,v)::r else (g,x)::putF f v r
theorem zh1 (f g:Str) (v:V):∀fs:List (Str×V),(putF f v fs).lookup g=if g=f then some v else fs.lookup g
 | []=>by
  show List.lookup g [(f,v)]=_;by_cases h:g=f;·have hb:(g==f)=true:=beq_iff_eq.mpr h;simp only [List.lookup,hb,if_pos h]
  ·have hb:(g==f)=false:=beq_eq_false_iff_ne.mpr h;simp only [List.lookup,hb,if_neg h]
 | (k,x) :: r=>by
  have ih:=zh1 f g v r;rw [show putF f v ((k,x)::r)=(if k=f then (k,v)::r else (k,x)::putF f v r) from rfl];by_cases hk:k=f
  ·rw [if_pos hk];by_cases h:g=k;·have hb:(g==k)=true:=beq_iff_eq.mpr h;simp only [List.lookup,hb,if_pos (h.trans hk)]
   ·have hb:(g==k)=false:=beq_eq_false_iff_ne.mpr h;simp only [List.lookup,hb,if_neg (λe:g=f=>h (e.trans hk.symm))]
  ·rw [if_neg hk];by_cases h:g=k;·have hb:(g==k)=true:=beq_iff_eq.mpr h;simp only [List.lookup,hb,if_neg (λe:g=f=>hk (h.symm.trans e))]
   ·have hb:(g==k)=false:=beq_eq_false_iff_ne.mpr h;simp only [List.lookup,hb];exact ih
theorem zh6 (f:Str) (v:V):∀fs:List (Str×V),f∈(putF f v fs).map (·.1)∧∀g,g∈fs.map (·.1)->g∈(putF f v fs).map (·.1)
 | []=>⟨by simp [putF],λg h=>by simp at h⟩
 | (k,x) :: r=>by
  obtain ⟨i1,i2⟩:=zh6 f v r;rw [show putF f v ((k,x)::r)=(if k=f then (k,v)::r else (k,x)::putF f v r) from rfl];by_cases hk:k=f;·rw [if_pos hk];subst hk;exact ⟨by simp,λg h=>by simpa using h⟩
  ·rw [if_neg hk];refine ⟨?_,λg h=> ?_⟩;·rw [List.map_cons];exact List.mem_cons_of_mem _ i1
   ·rw [List.map_cons] at h ⊢;rcases List.mem_cons.mp h with e|e
    ·exact List.mem_cons.mpr (.inl e)
    ·exact List.mem_cons_of_mem _ (i2 g e)
theorem zhS (f:Str) (v:V):∀fs:List (Str×V),(putF f v fs).length≤fs.length+1
 | []=>by simp [putF]
 | (k,x) :: r=>by
  have ih:=zhS f v r;rw [show putF f v ((k,x)::r)=(if k=f then (k,v)::r else (k,x)::putF f v r) from rfl];by_cases hk:k=f;·rw [if_pos hk,List.length_cons,List.length_cons];omega
  ·rw [if_neg hk,List.length_cons,List.length_cons];omega
theorem zpz.some_of {v:V} {o:Option Value} (r:zpz (some v) o):∃u,o=some u∧zc0 v u:=by cases o with|none=>exact (show False from r).elim|some u=>exact ⟨u,rfl,r⟩
theorem zpz.none_of {o:Option Value} (r:zpz none o):o=none:=by cases o with|none=>rfl|some u=>exact (show False from r).elim
theorem zpy {v:V} {u:Value} (r:zc0 v u):W.handedIn u=true:=by
 cases v with
  |non=>cases (show u=Value.none from r);rfl
  |bl b=>cases (show u=Value.bool b from r);rfl
  |int i=>obtain ⟨t,e⟩:=(show∃t,u=Value.int i t from r);cases e;rfl
  |str x=>obtain ⟨t,e⟩:=(show∃t,u=Value.str x t from r);cases e;rfl
  |byt b=>obtain ⟨t,e⟩:=(show∃t,u=Value.bytes b t from r);cases e;rfl
  |flt b=>obtain ⟨t,e⟩:=(show∃t,u=Value.float b t from r);cases e;rfl
  |ref a=>cases (show u=Value.ref a from r);rfl
  |ty n=>cases (show u=Value.type n from r);rfl
section
variable {P:Program} {w:World} {H H':Hp} {h h':Heap} {a C dx:Addr} {fs fs':List (Str×V)}
theorem zjH (hok:HOk P w H h) (e:H a=some (.ins C dx fs)):∃mA,ObjM h a dx C mA∧(∀f,zpz (fs.lookup f) (mA f))∧PySem.Within mA (fs.map (·.1))∧fs.length≤1000∧H dx=some (.own a):=by obtain ⟨d,z,ne,ob,mA,n,r,q⟩:=(show zdT P w H h a (.ins C dx fs) from hok a _ e);exact ⟨mA,⟨ob,n,ne⟩,r,q,z,d⟩
end
structure Cls (K:W.Frag) (C:Addr):Prop where
 pg:W.plainGet K C Str.empty=true
 hd:W.hasDictIn K C=true
 po:W.plainOver K C=true
 sa:W.findIn K (.ref C) "__setattr__"=some ↑74
theorem Cls.get {K:W.Frag} {C:Addr} (c:Cls K C) (f:Str):W.plainGet K C f=true:=c.pg
def NoAttr (K:W.Frag) (C:Addr) (f:Str):Prop:=W.findIn K (.ref C) f=some none
theorem NoAttr.taker {K:W.Frag} {C:Addr} {f:Str} (n:NoAttr K C f):W.takerIn K C f=some none:=by unfold W.takerIn;rw [show W.findIn K (.ref C) f=some none from n];rfl
structure Con (K:W.Frag) (C:Addr) (f:Str) (v:V) (u:Value):Prop where
 at_:W.findIn K (.ref C) f=some (some u)
 rel:zc0 v u
 get:W.specialIn K u "__get__"=some none
 cp:W.copiedNames.contains f=false
structure Meth (K:W.Frag) (C:Addr) (m:Str) (f:Addr):Prop where
 at_:W.findIn K (.ref C) m=some (some (.ref f))
 fn:W.isFn K (.ref f)=true
 kp:W.keepIn K (.ref f)=true
section
variable {X:Cx} {pins:List ↑4} {σ:St} {H:Hp} {s:Shared} {a C dx:Addr} {fs:List (Str×V)} {f:Str} {v:V} {A:Around} {E:Value->Shared->Prop}
theorem zmM {b:Bool} {Q:Value->Shared->Prop} (I:Inv X pins σ H s) (e:H a=some (.ins C dx fs)) (c:Cls X.K C) (n:NoAttr X.K C f) (l:fs.lookup f=some v)
  (h:∀u s',Inv X pins σ H s'->zc0 v u->Q u s'):wpAny ↥5 A (getAttr (.ref a) f b) Q E s:=by obtain ⟨mA,O,r,_,_,_⟩:=zjH I.hok e;obtain ⟨u,hu,ru⟩:=zpz.some_of (v:=v) (o:=mA f) (by rw [←l];exact r f);exact zs3 I.kIn O (c.get f) c.hd n hu (zpy ru) (h u _ (I.tok _) ru)
theorem ziu {m:Str} {g:Addr} {pl:Sem Bool} {Q:Value×List Value->Shared->Prop} (I:Inv X pins σ H s) (e:H a=some (.ins C dx fs)) (c:Cls X.K C) (k:Meth X.K C m g) (l:fs.lookup m=none)
  (h:Q (.ref g,[.ref a]) s):wpAny ↥5 A (getMethod (.ref a) m pl) Q E s:=by obtain ⟨mA,O,r,_,_,_⟩:=zjH I.hok e;have hn:mA m=none:=zpz.none_of (by rw [←l];exact r m);exact zqH I.kIn O (c.get m) k.at_ k.fn hn h
theorem zmx {y:V} {u:Value} {Q:Unit->Shared->Prop} (I:Inv X pins σ H s) (e:H a=some (.ins C dx fs)) (c:Cls X.K C) (n:NoAttr X.K C f) (hl:fs.length<1000) (ry:zc0 y u)
  (h:∀s',Inv X pins σ (upd H a (.ins C dx (putF f y fs))) s'->Q () s'):wpAny ↥5 A (setAttr (.ref a) f u) Q E s:=by
   obtain ⟨mA,O,r,wi,_,ho⟩:=zjH I.hok e;have hz:(fs.map (·.1)).length≤sizeLine:=by rw [List.length_map,sizeLine_eq];omega
   refine zsm I.kIn O c.sa c.po n.taker c.hd wi hz λh' O' sb=>h _ ?_;have hd:∃o,h'.get? dx=some o:=let ⟨o,_,_,e',_⟩:=O'.ns;⟨o,e'⟩;refine I.write (x:=a) (e:=dx) (by rw [e];exact True.intro) (.inr ho) (λb q hb z=>(sb.2 b hb).trans z) hd ?_;refine ⟨by rw [zam O.ne];exact ho,?_,O.ne,O'.obj,_,O'.ns,λg=> ?_,λg hg=> ?_⟩;·have:=zhS f y fs;omega
   ·show zpz ((putF f y fs).lookup g) (if g=f then some u else mA g);rw [zh1];by_cases q:g=f;·rw [if_pos q,if_pos q];exact ry
    ·rw [if_neg q,if_neg q];exact r g
   ·by_cases q:g=f;·rw [q];exact (zh6 f y fs).1
    ·refine (zh6 f y fs).2 g (wi g λz=>hg ?_);show (if g=f then some u else mA g)=none;rw [if_neg q];exact z
theorem Inv.made (I:Inv X pins σ H s):Inv X pins σ (upd (upd H s.heap.objs.size (.own ↑37)) ↑37 (.ins C s.heap.objs.size [])) {s with heap:=(s.heap.push W.emptyDict).push (W.instObj C s.heap.objs.size)}:=by
 have e1:(s.heap.push W.emptyDict).get? s.heap.objs.size=some W.emptyDict:=Heap.get?_push_size s.heap rfl;have e2:((s.heap.push W.emptyDict).push (W.instObj C s.heap.objs.size)).get? ↑37=some (W.instObj C s.heap.objs.size):=by have:=Heap.get?_push_size (s.heap.push W.emptyDict) (o:=W.instObj C s.heap.objs.size) rfl;rwa [Heap.size_push] at this
 have e3:(s.heap.push W.emptyDict).Ns s.heap.objs.size (λ_=>none):=⟨W.emptyDict,#[],_,e1,rfl,(λe he=>absurd he ↥4),λ_=>rfl⟩;have I1:=I.laid (a:=s.heap.objs.size) (o:= .own ↑37) (h':=s.heap.push W.emptyDict) (t':=s.toks) (λb u q=>Heap.get?_push_of_some _ q) ↑8 ⟨_,e1⟩;refine I1.laid (a:=s.heap.objs.size+1) (o:= .ins C s.heap.objs.size []) (t':=s.toks) (λb u q=>Heap.get?_push_of_some _ q) (Nat.le_of_eq (Heap.size_push _ _)) ?_;have ne:s.heap.objs.size≠s.heap.objs.size+1:=Nat.ne_of_lt (Nat.lt_succ_self _);refine ⟨by rw [zam ne,zat],Nat.zero_le _,ne,e2,λ_=>none,(Heap.Ns1.of_empty e3).at λo q=>Heap.get?_push_of_some _ q,λ_=>True.intro,λy hy=>absurd rfl hy⟩
theorem zrJ {prog:Program} {w:World} {env:Env} {e:Expr} {f:Str} {pos:Pos} {s:Shared} {Q:Value->Shared->Prop} (hb:attributeBase e f env (eval e env)=eval e env)
  (h:wpAny ↑26 A (eval e env) (λo s₁=>wpAny ↑26 A (getAttr o f true) Q E s₁) E s):wpAny ↑26 A (eval (.Attribute e f pos) env) Q E s :=
 Attribute_any_ h (by rw [arm_eval_Attribute,hb])
end
def tFld (K:W.Frag) (ta:TE) (f:Str):TE:=λσ H Q=>ta σ H λx H1=>∃a C dx fs v,x= .ref a∧H1 a=some (.ins C dx fs)∧Cls K C∧NoAttr K C f∧fs.lookup f=some v∧Q v H1
def zvj (K:W.Frag) (ta tv:TE) (f:Str):TS:=λD σ H=>tv σ H λy H1=>ta σ H1 λx H2=>∃a C dx fs,x= .ref a∧H2 a=some (.ins C dx fs)∧Cls K C∧NoAttr K C f∧fs.length<1000∧D.nx σ (upd H2 a (.ins C dx (putF f y fs)))
section
variable {X:Cx} {o e value:Expr} {f:Str} {pos pos' tpos:Pos} {ta tv:TE}
theorem zt5 (he:PE X e ta) (hb:attributeBase e f X.env (eval e X.env)=eval e X.env):PE X (.Attribute e f pos) (tFld X.K ta f):=by intro pins s σ H Q I h;refine zrJ hb (thn (he pins s σ H _ I h) λu s1 ⟨x,H1,I1,rx,a,C,dx,fs,v,ex,ea,c,n,l,q⟩=> ?_);subst ex;obtain rfl:u=Value.ref a:=rx;exact zmM I1 ea c n l λu' s2 I2 ru=>⟨v,H1,I2,ru,q⟩
theorem ze8 (ha:PE X o ta) (hv:PE X value tv) (hs:swapsWith value (some (.Attribute o f pos')) pos.line X.env=pure false):PS X (.Assign [.Attribute o f pos'] value pos) (zvj X.K ta tv f):=by intro pins s σ H D I h;refine plainObj_wpAny_Assign_Attribute (thn (hv pins s σ H _ I h) λu s1 ⟨y,H1,I1,ry,q⟩=>thn (ha pins s1 σ H1 _ I1 q) λov s2 ⟨x,H2,I2,rx,a,C,dx,fs,ex,ea,c,n,l,q2⟩=> ?_) hs;subst ex;obtain rfl:ov=Value.ref a:=rx;exact zmx I2 ea c n l ry λs3 I3=>⟨σ,_,I3,q2⟩
theorem zsd {pl:Sem Bool} {m:Str} {apos:Pos} {args:List Expr} {pins:List ↑4} {s:Shared} {σ:St} {H:Hp} {Q:Value->Shared->Prop} {te:TE} (he:PE X e te) (I:Inv X pins σ H s)
  (h:te σ H λx H1=>∃a C dx fs g,x= .ref a∧H1 a=some (.ins C dx fs)∧Cls X.K C∧Meth X.K C m g∧fs.lookup m=none∧∀s1,Inv X pins σ H1 s1->wpAny ↥5 X.A (callWith pos (.ref g) [.ref a] (backTo pos (starEach args X.env)) (backToKw pos (keywordEach [] X.env))) Q X.xe s1)
  (ht:eval (.Call (.Attribute e m apos) args [] pos) X.env=(do
   let ov←eval e X.env
   standAt apos.atName
   let (f,first)←holding [ov] (getMethod ov m pl)
   callWith pos f first (backTo pos (starEach args X.env)) (backToKw pos (keywordEach [] X.env)))) :
  wpAny ↥5 X.A (eval (.Call (.Attribute e m apos) args [] pos) X.env) Q X.xe s:=by refine W.methodCall_KW (pl:=pl) (thn (he pins s σ H _ I h) λu s1 ⟨x,H1,I1,rx,a,C,dx,fs,g,ex,ea,c,k,l,q⟩=> ?_) ht;subst ex;obtain rfl:u=Value.ref a:=rx;exact ziu I1 ea c k l (q s1 I1)
end
section
variable {X:Cx} {pins:List ↑4} {σ:St} {H:Hp} {s:Shared} {A:Around} {E:Value->Shared->Prop} {Q:Value->Shared->Prop} {c:Value} {b:Bool}
inductive TyOf (K:W.Frag) (H:Hp):V->Value->Prop where
 | non:TyOf K H .non (.type "NoneType")
 | bl (x:Bool):TyOf K H (.bl x) (.type "bool")
 | int (i:Int):TyOf K H (.int i) (.type "int")
 | str (x:Str):TyOf K H (.str x) (.type "str")
 | flt (x:UInt64):TyOf K H (.flt x) (.type "float")
 | lst {a:Addr} {xs:List V} (e:H a=some (.lst xs)):TyOf K H (.ref a) (.type "list")
 | frz {a:Addr} {o:Obj} {xs:List V} (e:H a=some (.frz o (.lst xs))):TyOf K H (.ref a) (.type "list")
 | tup {a:Addr} {xs:List V} (e:H a=some (.tup xs)):TyOf K H (.ref a) (.type "tuple")
 | dK {a:Addr} {kvs:List (Key×V)} (e:H a=some (.dK kvs)):TyOf K H (.ref a) (.type "dict")
 | dT {a:Addr} {kvs:List (List Key×V)} (e:H a=some (.dT kvs)):TyOf K H (.ref a) (.type "dict")
 | ins {a C dx:Addr} {fs:List (Str×V)} (e:H a=some (.ins C dx fs)) (cl:Cls K C) (ha:W.findIn K (.ref C) "__class__"=some (some (.builtin "object.__class__")))
   (hn:W.specialIn K (.builtin "object.__class__") "__get__"=some (some (.builtin "getset_descriptor.__get__"))) (htk:W.takesIn K (.builtin "object.__class__")=some true)
   (hm:W.mroIn K C (.type "object")=some true):TyOf K H (.ref a) (.ref C)
theorem zkc {x:V} {u t:Value} (I:Inv X pins σ H s) (rx:zc0 x u) (ty:TyOf X.K H x t) (e:W.kitOne X.K t c=some b) (h:∀tk,Q (.bool b) {s with toks:=tk}) :
  wpAny ↥5 A (call (.builtin "isinstance") [u,c]) Q E s:=by
   cases ty with
    |non=>cases (show u=Value.none from rx);exact W.kia_one W.kitx_none I.kIn True.intro e (λz=>nomatch z) h
    |bl y=>cases (show u=Value.bool y from rx);exact W.kia_one W.kitx_bool I.kIn True.intro e (λz=>nomatch z) h
    |int i=>obtain ⟨t,q⟩:=(show∃t,u=Value.int i t from rx);cases q;exact W.kia_one W.kitx_int I.kIn True.intro e (λz=>nomatch z) h
    |str y=>obtain ⟨t,q⟩:=(show∃t,u=Value.str y t from rx);cases q;exact W.kia_one W.kitx_str I.kIn True.intro e (λz=>nomatch z) h
    |flt y=>obtain ⟨t,q⟩:=(show∃t,u=Value.float y t from rx);cases q;exact W.kia_one W.kitx_float I.kIn True.intro e (λz=>nomatch z) h
    | @ lst a xs ea=>cases (show u=Value.ref a from rx);obtain ⟨_,_,n,_,h1⟩:=(show zdT X.prog X.w H s.heap a (.lst xs) from I.hok a _ ea);exact W.kia_one W.kitx_list I.kIn ⟨_,h1,rfl⟩ e (λz=>nomatch z) h
    | @ frz a ob xs ea=>cases (show u=Value.ref a from rx);obtain ⟨_,_,_,n,_,h1⟩:=(show zdT X.prog X.w H s.heap a (.frz ob (.lst xs)) from I.hok a _ ea);exact W.kia_one W.kitx_list I.kIn ⟨_,h1,rfl⟩ e (λz=>nomatch z) h
    | @ tup a xs ea=>cases (show u=Value.ref a from rx);obtain ⟨_,_,_,p⟩:=(show zdT X.prog X.w H s.heap a (.tup xs) from I.hok a _ ea);obtain ⟨o,h1,h2,_⟩:=p;exact W.kia_one W.kitx_tuple I.kIn ⟨o,h1,h2⟩ e (λz=>nomatch z) h
    | @ dK a kvs ea=>cases (show u=Value.ref a from rx);obtain ⟨_,_,vs,_,p⟩:=(show zdT X.prog X.w H s.heap a (.dK kvs) from I.hok a _ ea);obtain ⟨o,es,ep,h1,h2,_⟩:=p;exact W.kia_one W.kitx_dict I.kIn ⟨o,h1,h2.1⟩ e (λz=>nomatch z) h
    | @ dT a kvs ea=>cases (show u=Value.ref a from rx);obtain ⟨_,_,xs,_,o,es,ep,h1,h2,_⟩:=(show zdT X.prog X.w H s.heap a (.dT kvs) from I.hok a _ ea);exact W.kia_one W.kitx_dict I.kIn ⟨o,h1,h2.1⟩ e (λz=>nomatch z) h
    | @ ins a C dx fs ea cl ha hn htk hm=>cases (show u=Value.ref a from rx);obtain ⟨mA,O,_⟩:=zjH I.hok ea;obtain ⟨od,J,_⟩:=O.look;exact W.kia_one (W.kitx_own (cl.get _) cl.hd ha hn htk hm) I.kIn J e (λz=>nomatch z) h
end
end L2
namespace L2
open PySem PySem.Spec PyProof.Rows
structure Room (k:Nat) (A:Around):Prop where
 hd:A.handled=none
 dp:A.depth+3*k+5<recursionLimit
 un:A.units+16*k+200<cLine
theorem Room.mono {j k:Nat} {A:Around} (r:Room k A) (h:j≤k):Room j A:=⟨r.hd,by have:=r.dp;omega,by have:=r.un;omega⟩
theorem Room.deeper {k:Nat} {A:Around} (r:Room (k+1) A) (env:Env):Room k (A.deeper env) :=
 ⟨r.hd,by have:=r.dp;show A.depth+1+3*k+5<_;omega,by have:=r.un;show A.units+3+16*k+200<_;omega⟩
theorem Room.in1 {k:Nat} {A:Around} (r:Room (k+1) A):Room k A.in1 :=
 ⟨r.hd,by have:=r.dp;show A.depth+3*k+5<_;omega,by have:=r.un;show A.units+1+16*k+200<_;omega⟩
theorem zmI {A:Around} {C:Addr} {us:List Value} {kw:List (Str×Value)}:(A.under (.builtin "type.__call__" ⟨.ref C::us,kw⟩)).depth=A.depth+1:=by first|rfl|simp [Around.under,Code.weight,Code.isCreation,Code.isGuard,Code.isCaller,Code.frames,Code.isFrame,guardIds]
theorem zmV {A:Around} {C:Addr} {us:List Value} {kw:List (Str×Value)}:(A.under (.builtin "type.__call__" ⟨.ref C::us,kw⟩)).units=A.units+1:=by first|rfl|simp [Around.under,Code.cUnits,Code.frames,Code.isFrame]
theorem Room.make {k:Nat} {A:Around} (r:Room (k+1) A) (C:Addr) (us:List Value) (kw:List (Str×Value)):Room k (A.under (.builtin "type.__call__" ⟨.ref C::us,kw⟩)) :=
 ⟨r.hd,by have:=r.dp;rw [zmI];omega,by have:=r.un;rw [zmV];omega⟩
theorem Room.depth {k:Nat} {A:Around} (r:Room k A):A.depth<recursionLimit:=by have:=r.dp;omega
theorem Room.units {k:Nat} {A:Around} (r:Room k A):A.units+64<cLine:=by have:=r.un;omega
def zf2:TA:=λ_ H Q=>Q [] H
def zcJ (ta:TE) (tr:TA):TA:=λσ H Q=>ta σ H λx H1=>tr σ H1 λxs H2=>Q (x::xs) H2
section
variable {X:Cx} {e:Expr} {es:List Expr} {te:TE} {t:TA} {pos:Pos}
theorem zcY:PA X [] zf2:=λ_ _ _ _ H Q I h=>Calls.spliced_nil ⟨[],H,I,.nil,h⟩
theorem zbK (ha:PE X e te) (hr:PA X es t) (hs:starEach (e::es) X.env=(false,eval e X.env)::starEach es X.env:=by rfl):PA X (e::es) (zcJ te t):=by intro pos pins s σ H Q I h;rw [hs];show wpAny _ _ (spliced ((false,eval e X.env)::backTo pos (starEach es X.env))) _ _ s;refine Calls.spliced_cons (thn (ha pins s σ H _ I h) λu s1 ⟨x,H1,I1,r1,q1⟩=> ?_);exact thn (hr pos pins s1 σ H1 _ I1 q1) λus s2 ⟨xs,H2,I2,r2,q2⟩=>⟨x::xs,H2,I2,.cons r1 r2,q2⟩
def zwL (t:TA):TE:=λσ H Q=>t σ H λxs H1=>xs.length≤sizeLine∧∀p,H1 p=none->Q (.ref p) (upd H1 p (.tup xs))
def zvh (t:TA):TE:=λσ H Q=>t σ H λxs H1=>xs.length≤sizeLine∧∀p,H1 p=none->Q (.ref p) (upd H1 p (.lst xs))
theorem zeC {x1} (h:PA X es t):PE X (.Tuple es x1 pos) (zwL t):=by intro pins s σ H Q I hq;refine wpAny_Tuple_spliced (thn (h pos pins s σ H _ I hq) λus s1 ⟨xs,H1,I1,r,z,q⟩=>⟨by rw [←r.length];exact z,?_⟩);have hf:H1 s1.heap.objs.size=none:=I1.hok.fresh ↑8;refine ⟨.ref s1.heap.objs.size,upd H1 s1.heap.objs.size (.tup xs),I1.laid (t':=s1.toks) (λb u e=>Heap.get?_push_of_some _ e) ↑8 ?_,rfl,q _ hf⟩;exact ⟨z,us,r,⟨_,Heap.get?_push_size _ rfl,rfl,_,rfl⟩⟩
theorem zbc (h:PA X es t):PE X (.List es pos) (zvh t):=by intro pins s σ H Q I hq;refine wpAny_List_spliced (thn (h pos pins s σ H _ I hq) λus s1 ⟨xs,H1,I1,r,z,q⟩=>⟨by rw [←r.length];exact z,?_⟩);have hf:H1 s1.heap.objs.size=none:=I1.hok.fresh ↑8;refine ⟨.ref s1.heap.objs.size,upd H1 s1.heap.objs.size (.lst xs),I1.laid (t':=s1.toks) (λb u e=>Heap.get?_push_of_some _ e) ↑8 ?_,rfl,q _ hf⟩;exact ⟨z,us,0,r,Heap.get?_push_size _ rfl⟩
end
abbrev Sp:=List V->Hp->VK->XK->Prop
abbrev CXT:=List Env->Hp->Shared->XK->Value->Shared->Prop
structure Env0 (P:Program) (w:World) (K:W.Frag) (mg:Str->Option Value) (base:Heap) (A:Around) (outer:List Env) (s:Shared) (H:Hp):Prop where
 frames:A.frames=some outer
 mod:Mod K mg base
 bs:∀ b o,base.get? b=some o->s.heap.get? b=some o∧H b=none
 bsz:base.objs.size≤s.heap.objs.size
 funs:s.heap.FunFrames base outer
 frf:∀ b∈frs outer,H b=none
 hok:HOk P w H s.heap
 bare:AllBare s.gens
def CE (outer:List Env) (P:Program) (w:World) (H:Hp) (s:Shared) (Q:VK) (u:Value) (s':Shared):Prop :=
 ∃v H',s'.os=s.os∧AllBare s'.gens∧Un (frs outer) [] H H' s.heap s'.heap∧HOk P w H' s'.heap∧zc0 v u∧Q v H'
def CR (CX:CXT) (outer:List Env) (P:Program) (w:World) (H:Hp) (s:Shared) (Q:VK) (E:XK) (r:Result) (s':Shared):Prop :=
 match r with| .ok (.ret u)=>CE outer P w H s Q u s'| .ok _=>False| .error e=>CX outer H s E e s'
structure FnOk (P:Program) (w:World) (K:W.Frag) (mg:Str->Option Value) (base:Heap) (CX:CXT) (k:Nat) (f:Addr) (fd:FuncData) (ps:List Str) (sp:Sp):Prop where
 len:∀ vs H Q E,sp vs H Q E->vs.length=ps.length
 run:∀ (A:Around) (outer:List Env) (s:Shared) (H:Hp) (args:Args) (us:List Value) (vs:List V) (Q:VK) (E:XK),Room k A->Env0 P w K mg base A outer s H->BindsTo s fd args (ps.zip us)->zbL vs us->sp vs H Q E →
  codeAny (model P w) A (.call (.ref f) args) (CR CX outer P w H s Q E) s
theorem FnOk.imp {P:Program} {w:World} {K:W.Frag} {mg:Str->Option Value} {base:Heap} {CX:CXT} {k:Nat} {f:Addr} {fd:FuncData} {ps:List Str} {sp sp':Sp} (F:FnOk P w K mg base CX k f fd ps sp)
  (h:∀vs H Q E,sp' vs H Q E->sp vs H Q E):FnOk P w K mg base CX k f fd ps sp' :=
 ⟨λvs H Q E q=>F.len vs H Q E (h _ _ _ _ q),λA outer s H args us vs Q E hr he hb hv hs=>F.run A outer s H args us vs Q E hr he hb hv (h _ _ _ _ hs)⟩
theorem Env0.make {P:Program} {w:World} {K:W.Frag} {mg:Str->Option Value} {base:Heap} {A:Around} {outer:List Env} {s:Shared} {H:Hp} (e:Env0 P w K mg base A outer s H) (C:Addr) (us:List Value) (kw:List (Str×Value)) :
  Env0 P w K mg base (A.under (.builtin "type.__call__" ⟨.ref C::us,kw⟩)) outer s H:=⟨by first|exact e.frames|(simpa [Around.under,Code.envs,Code.isFrame,pushEnvs] using e.frames),e.mod,e.bs,e.bsz,e.funs,e.frf,e.hok,e.bare⟩
theorem Env0.in1 {P:Program} {w:World} {K:W.Frag} {mg:Str->Option Value} {base:Heap} {A:Around} {outer:List Env} {s:Shared} {H:Hp} (e:Env0 P w K mg base A outer s H) :
  Env0 P w K mg base A.in1 outer s H:=⟨e.frames,e.mod,e.bs,e.bsz,e.funs,e.frf,e.hok,e.bare⟩
section
variable {X:Cx} {pins:List ↑4} {σ:St} {H:Hp} {s s':Shared}
theorem Inv.env0 (I:Inv X pins σ H s):Env0 X.prog X.w X.K X.mg X.base X.A X.stack s H :=
 ⟨I.ok.frames,I.ok.mod,I.bs,Nat.le_trans I.ok.bsz I.sz,I.stack,I.stkFree,I.hok,I.bare⟩
theorem Inv.after {Q:VK} {u:Value} (I:Inv X pins σ H s) (h:CE X.stack X.prog X.w H s Q u s'):EP X pins σ Q u s':=by obtain ⟨v,H',os,bare,un,hok,r,q⟩:=h;obtain ⟨hh,g,d,t,os'⟩:=s';obtain rfl:os'=s.os:=os;exact ⟨v,H',I.call (h':=hh) (g':=g) (d':=d) (t':=t) (ch:=[]) un hok bare (λb z=>absurd z ↥4),r,q⟩
end
def tCall (sp:Sp) (dvs:List V) (E:XK) (t:TA):TE:=λσ H Q=>t σ H λvs H1=>sp (vs++dvs) H1 Q E
def zqx (C:Addr) (m:Str) (sp:Sp) (dvs:List V) (E:XK) (ta:TE) (t:TA):TE:=λσ H Q=>ta σ H λx H1=>∃a dx fs,x= .ref a∧H1 a=some (.ins C dx fs)∧fs.lookup m=none∧t σ H1 λvs H2=>sp (x::(vs++dvs)) H2 Q E
def znk (C:Addr) (sp:Sp) (dvs:List V) (E:XK) (t:TA):TE:=λσ H Q=>t σ H λvs H1=>∀x dx,H1 x=none->H1 dx=none->dx≠x→sp (.ref x::(vs++dvs)) (upd (upd H1 dx (.own x)) x (.ins C dx [])) (λv H2=>v= .non∧Q (.ref x) H2) E
def zeW (K:W.Frag) (fd:FuncData) (ps:List Str) (ds:List Value):Prop :=
 ∀(s:Shared) (us:List Value),K.In s.heap->(us++ds).length=ps.length->BindsTo s fd ⟨us,[]⟩ (ps.zip (us++ds))
theorem zeW.all {K:W.Frag} {fd:FuncData} {ps:List Str} (h:∀us:List Value,us.length=ps.length->bindArgs fd ⟨us,[]⟩=pure (ps.zip us)):zeW K fd ps []:=λs us _ hl=>by rw [List.append_nil] at hl ⊢;exact .of_eq (h us hl)
def zfQ (CX:CXT) (X:Cx) (E:XK):Prop:=∀(pins:List ↑4) (σ:St) (H:Hp) (s:Shared) (e:Value) (s':Shared),Inv X pins σ H s->CX X.stack H s E e s'->X.xe e s'
section
variable {X:Cx} {CX:CXT} {k:Nat} {f C:Addr} {fd:FuncData} {ps:List Str} {sp:Sp} {dvs:List V} {ds:List Value} {E:XK} {x m:Str} {p pos apos:Pos} {e o:Expr} {es:List Expr} {ta:TE} {t:TA}
theorem zof {pins:List ↑4} {σ:St} {H:Hp} {s:Shared} {Q:VK} {us:List Value} {vs:List V} (F:FnOk X.prog X.w X.K X.mg X.base CX k f fd ps sp) (hr:Room k X.A) (hb:zeW X.K fd ps ds) (hd:zbL dvs ds) (hx:zfQ CX X E)
  (I:Inv X pins σ H s) (r:zbL vs us) (h:sp (vs++dvs) H Q E):wpAny ↥5 X.A (call (.ref f) us) ↑41 X.xe s:=by
   have r2:zbL (vs++dvs) (us++ds):=r.append hd;have hl:(us++ds).length=ps.length:=by rw [←r2.length];exact F.len _ _ _ _ h
   refine wpAny_call (codeAny_mono (F.run X.A X.stack s H ⟨us,[]⟩ (us++ds) (vs++dvs) Q E hr I.env0 (hb s us I.kIn hl) r2 h) λr s' hq=> ?_)
   cases r with
    |error e=>exact hx pins σ H s e s' I hq
    |ok fl=>cases fl with|ret u=>exact I.after hq|next=>exact False.elim hq|brk=>exact False.elim hq|cont=>exact False.elim hq
theorem zr8 (F:FnOk X.prog X.w X.K X.mg X.base CX k f fd ps sp) (hr:Room k X.A) (hg:Gl X x) (hm:X.mg x=some (.ref f)) (hk:W.keepIn X.K (.ref f)=true) (hb:zeW X.K fd ps ds) (hd:zbL dvs ds) (hx:zfQ CX X E)
  (ha:PA X (e::es) t) (hdb:↑57=false:=by decide) (he:starEach (e::es) X.env=(false,eval e X.env)::starEach es X.env:=by rfl) (hpl:(↑76).any (·.1)=false:=by rfl) :
  PE X (.Call (.Name x p) (e::es) [] pos) (tCall sp dvs E t):=by intro pins s σ H Q I h;refine wpAny_Call_Name_kw (zjz I hg hm ?_ hdb);refine W.callWith_K (h₀:=X.base) I.ok.mod.kin hk (thn (ha pos pins s σ H _ I h) λus s1 ⟨vs,H1,I1,r,q⟩=>⟨I1.kIn,?_⟩) he hpl;exact zof F hr hb hd hx I1 r q
theorem zrX {pl:Sem Bool} (he:PE X o ta) (c:Cls X.K C) (hm:Meth X.K C m f) (F:FnOk X.prog X.w X.K X.mg X.base CX k f fd ps sp) (hr:Room k X.A) (hb:zeW X.K fd ps ds) (hd:zbL dvs ds) (hx:zfQ CX X E) (ha:PA X (e::es) t)
  (hst:starEach (e::es) X.env=(false,eval e X.env)::starEach es X.env:=by rfl) (hpl:(↑76).any (·.1)=false:=by rfl)
  (ht:eval ↑92 X.env=(do
   let ov←eval o X.env
   standAt apos.atName
   let (f,first)←holding [ov] (getMethod ov m pl)
   callWith pos f first (backTo pos (starEach (e::es) X.env)) (backToKw pos (keywordEach [] X.env))):=by rfl) :
  PE X ↑92 (zqx C m sp dvs E ta t):=by intro pins s σ H Q I h;refine W.methodCall_KW (pl:=pl) (thn (he pins s σ H _ I h) λu s1 ⟨x,H1,I1,rx,a,dx,fs,ex,ea,l,q⟩=> ?_) ht;subst ex;obtain rfl:u=Value.ref a:=rx;refine ziu I1 ea c hm l ?_;refine W.callWith_K (first:=[.ref a]) (h₀:=X.base) I.ok.mod.kin hm.kp (thn (ha pos pins s1 σ H1 _ I1 q) λus s2 ⟨vs,H2,I2,r,q2⟩=>⟨I2.kIn,?_⟩) hst hpl;exact zof (us:= .ref a::us) (vs:= .ref a::vs) F hr hb hd hx I2 (.cons rfl r) q2
structure Mk (K:W.Frag) (C f:Addr):Prop where
 makes:W.makesIn K C=true
 init:W.findIn K (.ref C) "__init__"=some (some (.ref f))
 fn:W.isFn K (.ref f)=true
 kp:W.keepIn K (.ref C)=true
theorem zlw {pins:List ↑4} {σ:St} {H:Hp} {s:Shared} {Q:VK} {us:List Value} {vs:List V} (M:Mk X.K C f) (F:FnOk X.prog X.w X.K X.mg X.base CX k f fd ps sp) (hr:Room (k+1) X.A) (hb:zeW X.K fd ps ds) (hd:zbL dvs ds)
  (hx:zfQ CX X E) (I:Inv X pins σ H s) (r:zbL vs us)
  (h:∀x dx,H x=none->H dx=none->dx≠x->sp (.ref x::(vs++dvs)) (upd (upd H dx (.own x)) x (.ins C dx [])) (λv H2=>v= .non∧Q (.ref x) H2) E) :
  wpAny ↥5 X.A (call (.ref C) us) ↑41 X.xe s:=by
   have hq:=h ↑37 s.heap.objs.size (I.hok.fresh (Nat.le_succ _)) (I.hok.fresh ↑8) (Nat.ne_of_lt (Nat.lt_succ_self _));have I2:=Inv.made (C:=C) I;have r2:zbL (V.ref ↑37::(vs++dvs)) (Value.ref ↑37::(us++ds)):= .cons rfl (r.append hd);have hl:(Value.ref ↑37::us++ds).length=ps.length:=by have e:=r2.length;rw [F.len _ _ _ _ hq] at e;exact e.symm
   refine wpAny_call (zqg (f:=f) I.kIn M.makes M.init (beq_iff_eq.mp M.fn) (codeAny_mono (F.run _ X.stack _ _ ⟨Value.ref ↑37::us,[]⟩ (Value.ref ↑37::(us++ds)) _ _ E (hr.make C us []) (I2.env0.make C us []) (hb _ (Value.ref ↑37::us) I2.kIn hl) r2 hq) λr s' hq'=> ?_))
   cases r with
    |error e=>exact hx pins σ _ _ e s' I2 hq'
    |ok fl=>
     cases fl with
      |ret u=>obtain ⟨v,H',I3,rv,ev,q3⟩:=I2.after hq';subst ev;exact ⟨rv,⟨V.ref ↑37,H',I3,rfl,q3⟩⟩
      |next=>exact False.elim hq'
      |brk=>exact False.elim hq'
      |cont=>exact False.elim hq'
theorem ziS (M:Mk X.K C f) (F:FnOk X.prog X.w X.K X.mg X.base CX k f fd ps sp) (hr:Room (k+1) X.A) (hg:Gl X x) (hm:X.mg x=some (.ref C)) (hb:zeW X.K fd ps ds) (hd:zbL dvs ds) (hx:zfQ CX X E)
  (ha:PA X (e::es) t) (hdb:↑57=false:=by decide) (he:starEach (e::es) X.env=(false,eval e X.env)::starEach es X.env:=by rfl) (hpl:(↑76).any (·.1)=false:=by rfl) :
  PE X (.Call (.Name x p) (e::es) [] pos) (znk C sp dvs E t):=by intro pins s σ H Q I h;refine wpAny_Call_Name_kw (zjz I hg hm ?_ hdb);refine W.callWith_K (h₀:=X.base) I.ok.mod.kin M.kp (thn (ha pos pins s σ H _ I h) λus s1 ⟨vs,H1,I1,r,q⟩=>⟨I1.kIn,?_⟩) he hpl;exact zlw M F hr hb hd hx I1 r q
theorem zql (M:Mk X.K C f) (F:FnOk X.prog X.w X.K X.mg X.base CX k f fd ps sp) (hr:Room (k+1) X.A) (hg:Gl X x) (hm:X.mg x=some (.ref C)) (hb:zeW X.K fd ps ds) (hd:zbL dvs ds) (hx:zfQ CX X E)
  (hdb:↑57=false:=by decide):PE X (.Call (.Name x p) [] [] pos) (znk C sp dvs E zf2):=by intro pins s σ H Q I h;refine wpAny_Call_Name_kw (zjz I hg hm ?_ hdb);exact W.callWith_K0 I.kIn M.kp (zlw (us:=[]) M F hr hb hd hx I .nil h)
end
section
variable {X:Cx} {CX:CXT} {k:Nat} {f C:Addr} {fd:FuncData} {ps ks:List Str} {sp:Sp} {E:XK} {x m:Str} {p pos apos kpos:Pos} {e o:Expr} {es:List Expr} {kws:List Keyword} {te ta:TE} {t tk:TA} {nm:Option Str}
structure KBinds (K:W.Frag) (fd:FuncData) (ps ks:List Str) (g:List Value->List Value->List Value) (gV:List V->List V->List V):Prop where
 to:∀ (s:Shared) (us ws:List Value),K.In s.heap->(g us ws).length=ps.length->BindsTo s fd ⟨us,ks.zip ws⟩ (ps.zip (g us ws))
 rel:∀ {vs:List V} {us:List Value} {zs:List V} {ws:List Value},zbL vs us->zbL zs ws->zbL (gV vs zs) (g us ws)
variable {g:List Value->List Value->List Value} {gV:List V->List V->List V}
end
structure FnScope (N P:List Str) (sc:Scope):Prop where
 kind:sc.kind=.function
 co:sc.isCoroutine=false
 gen:sc.isGenerator=false
 nd:N.Nodup
 pre:N.take P.length=P
 par:∀ x∈P,sc.names.lookup x=some .local∨sc.names.lookup x=some .cell
 nofree:∀ y∈sc.names,y.2≠.free
theorem zkl {kindOf:Str->Option NameKind} {x:Str}:∀ {binds:List (Str×Value)} {m:Str->Option Value},(∀v,(x,v)∉binds)->bindL kindOf binds m x=m x
 | [],_,_=>rfl
 | (n,v) :: r,m,h=>by
  unfold bindL;rw [zkl λw hw=>h w (List.mem_cons_of_mem _ hw)];split
  ·have:x≠n:=by rintro rfl;exact h v List.mem_cons_self
   simp [this]
  ·rfl
theorem zkt {kindOf:Str->Option NameKind} {x:Str}:∀ {binds:List (Str×Value)} {m:Str->Option Value},(∀v,(x,v)∉binds)->bindC kindOf binds m x=m x
 | [],_,_=>rfl
 | (n,v) :: r,m,h=>by
  unfold bindC;rw [zkt λw hw=>h w (List.mem_cons_of_mem _ hw)];split;·rfl
  ·have:x≠n:=by rintro rfl;exact h v List.mem_cons_self
   simp [this]
theorem zkh {kindOf:Str->Option NameKind} {x:Str} {v:Value}:∀ {P:List Str} {vs:List Value} {i:Nat} {m:Str->Option Value},P.Nodup->P[i]? =some x->vs[i]? =some v->kindOf x=some .local→bindL kindOf (P.zip vs) m x=some v
 | [],_,_,_,_,h,_,_=>by simp at h
 | _ :: _,[],_,_,_,_,h,_=>by simp at h
 | p :: P,w :: vs,0,m,nd,h1,h2,hk=>by simp at h1 h2;subst h1;subst h2;show bindL kindOf ((p,w)::P.zip vs) m p=_;unfold bindL;rw [zkl λv hv=>(List.nodup_cons.mp nd).1 (List.of_mem_zip hv).1,if_pos hk];simp
 | p :: P,w :: vs,i+1,m,nd,h1,h2,hk=>by show bindL kindOf ((p,w)::P.zip vs) m x=_;unfold bindL;exact zkh (i:=i) (List.nodup_cons.mp nd).2 (by simpa using h1) (by simpa using h2) hk
theorem zj7 {kindOf:Str->Option NameKind} {x:Str} {v:Value}:∀ {P:List Str} {vs:List Value} {i:Nat} {m:Str->Option Value},P.Nodup->P[i]? =some x->vs[i]? =some v->kindOf x≠some .local→bindC kindOf (P.zip vs) m x=some v
 | [],_,_,_,_,h,_,_=>by simp at h
 | _ :: _,[],_,_,_,_,h,_=>by simp at h
 | p :: P,w :: vs,0,m,nd,h1,h2,hk=>by simp at h1 h2;subst h1;subst h2;show bindC kindOf ((p,w)::P.zip vs) m p=_;unfold bindC;rw [zkt λv hv=>(List.nodup_cons.mp nd).1 (List.of_mem_zip hv).1,if_neg hk];simp
 | p :: P,w :: vs,i+1,m,nd,h1,h2,hk=>by show bindC kindOf ((p,w)::P.zip vs) m x=_;unfold bindC;exact zj7 (i:=i) (List.nodup_cons.mp nd).2 (by simpa using h1) (by simpa using h2) hk
def start (N:List Str) (vs:List V):St:=vs.map some++List.replicate (N.length-vs.length) none
def zp7 (CX:CXT) (P:Program) (w:World) (K:W.Frag) (mg:Str->Option Value) (base:Heap) (N:List Str) (qual:Str) (scope:Scope) (f:Addr) (cd:Value) (A:Around) (outer:List Env) (s:Shared) (H:Hp) (E:XK):Cx where
 prog:=P
 w:=w
 K:=K
 mg:=mg
 base:=base
 A:=A.deeper (envOfC qual scope s.heap.objs.size f cd)
 N:=N
 s₀:=s
 H₀:=H
 env:=envOfC qual scope s.heap.objs.size f cd
 outer:=outer
 stack:=envOfC qual scope s.heap.objs.size f cd :: outer
 ex:=[]
 calm:=true
 fn:=λ_=>true
 pn:=[]
 xe:=λe s'=>wpAny (model P w) (A.deeper (envOfC qual scope s.heap.objs.size f cd)) (leaving (envOfC qual scope s.heap.objs.size f cd) e) (λ_ s''=>CX outer H s E e s'') (λe' s''=>CX outer H s E e' s'') s'
theorem zl4 {sc:Scope} {n:Nat} {x:Str} (h:sc.names.lookup x=some .cell):∃c,(cellsFrom n sc.names []).lookup x=some c:=by have q:=W.cellsFrom_some sc.names n [] (.inl h);exact Option.isSome_iff_exists.mp q
theorem znI {CX:CXT} {P:Program} {w:World} {K:W.Frag} {mg:Str->Option Value} {base:Heap} {N ps:List Str} {qual:Str} {scope:Scope} {f:Addr} {cd:Value} {A:Around} {outer:List Env} {s s1:Shared} {H:Hp} {E:XK} {us:List Value} {vs:List V}
  (S:FnScope N ps scope) (hd:A.handled=none) (e0:Env0 P w K mg base A outer s H) (hl:vs.length=ps.length) (r:zbL vs us)
  (x:InCallC s s.heap.objs.size (bindL (envOfC qual scope s.heap.objs.size f cd).kindOf (ps.zip us) λ_=>none) (cellsFrom ↑37 scope.names []) (bindC (envOfC qual scope s.heap.objs.size f cd).kindOf (ps.zip us) λ_=>none) s1) :
  Inv (zp7 CX P w K mg base N qual scope f cd A outer s H E) [] (start N vs) H s1:=by
   have hpl:ps.length≤N.length:=by have:=congrArg List.length S.pre;rw [List.length_take] at this;omega
   obtain ⟨h1,tk,rfl,hk⟩:=x.done;have noA:∀b:Addr,b∉(zp7 CX P w K mg base N qual scope f cd A outer s H E).ex:=λb z=>absurd (show b∈([]:List Addr) from z) ↥4;refine ⟨⟨e0.mod,S.kind,rfl,rfl,Nat.le_refl _,λy z c h1 h2=> ?_,λy hy=> ?_,λy c _ h=> ?_,λ_=>hd,Around.frames_deeper e0.frames,.inr ⟨rfl,rfl⟩,λb z=>absurd z (noA b),e0.bs,e0.bsz,λb _ _=>noA b,λb z=>absurd z (noA b),e0.funs,e0.frf⟩,rfl,e0.bare,Un.kept hk,⟨_,x.toInCall.ns,λi y v h1 h2 h3=> ?_⟩,λy c h=>⟨_,x.cell y c h⟩,e0.hok.fresh ↑8,λy c h=> ?_,λp hp=>absurd (show p∈([]:List ↑4) from hp) ↥4,e0.hok.kept hk,?_⟩;·exact name_of_addr x.apart (PySem.mem_of_lookup h1) (PySem.mem_of_lookup h2)
   ·have hy:scope.names.lookup y=some .cell∨scope.names.lookup y=some .free:=hy;rcases hy with hy|hy
    ·exact zl4 hy
    ·exact absurd rfl (S.nofree _ (PySem.mem_of_lookup hy))
   ·exact Nat.le_of_lt (x.above y c (PySem.mem_of_lookup h))
   ·have hi:i<vs.length:=by
     unfold start at h2;by_cases hi:i<vs.length;·exact hi
     ·rw [List.getElem?_append_right ↑44] at h2;rw [List.getElem?_replicate] at h2;split at h2<;>cases h2
    have ha:vs[i]? =some v:=by unfold start at h2;rw [List.getElem?_append_left ↑44,List.getElem?_map] at h2;cases e:vs[i]? with|none=>rw [e] at h2;cases h2|some a=>rw [e] at h2;cases h2;rfl
    obtain ⟨u,hu,rv⟩:=r.get ha;have hp:ps[i]? =some y:=by rw [←S.pre,List.getElem?_take_of_lt ↑0];exact h1
    have ndP:ps.Nodup:=by rw [←S.pre];exact S.nd.sublist (List.take_sublist _ _)
    refine ⟨u,rv,?_⟩;rcases S.par y (List.mem_of_getElem? hp) with k|k
    ·exact .inl ⟨k,zkh ndP hp hu k⟩
    ·obtain ⟨c,e⟩:=zl4 (n:=s.heap.objs.size+1) k;refine .inr ⟨.inl k,c,e,?_⟩;have q:=x.cell y c e;rw [zj7 ndP hp hu (by show scope.names.lookup y≠_;rw [k];decide)] at q;exact q
   ·exact e0.hok.fresh (Nat.le_of_lt (x.above y c (PySem.mem_of_lookup h)))
   ·unfold start;show _=N.length;rw [List.length_append,List.length_map,List.length_replicate];omega
theorem zwn {CX:CXT} {P:Program} {w:World} {K:W.Frag} {mg:Str->Option Value} {base:Heap} {k:Nat} {f:Addr} {name qual:Str} {params:Arguments} {body:List Stmt} {scope:Scope} {dV kV doc pm cdv ct oc:Value} {an od:Option Addr}
  {osl:Array (Option Value)} {N ps:List Str} {sp:Sp} (lk:K.lookup f=some ⟨oc,od,.func (W.fnOf name qual params body scope dV kV doc pm an cdv ct),osl⟩) (hcd:W.codeIn K cdv qual=true) (S:FnScope N ps scope)
  (len:∀vs H Q E,sp vs H Q E->vs.length=ps.length)
  (hbody:∀(A:Around) (outer:List Env) (s:Shared) (H:Hp) (vs:List V) (Q:VK) (E:XK),Room k (A.deeper (envOfC qual scope s.heap.objs.size f cdv))->sp vs H Q E→∃t,PSs (zp7 CX P w K mg base N qual scope f cdv A outer s H E) body t∧t {nx:=λ_ H'=>Q .non H',rt:=Q} (start N vs) H) :
  FnOk P w K mg base CX (k+1) f (W.fnOf name qual params body scope dV kV doc pm an cdv ct) ps sp:=by
   refine ⟨len,λA outer s H args us vs Q E hr e0 hb r hsp=> ?_⟩;have hl:=len _ _ _ _ hsp;have KX:K.In s.heap:=e0.mod.kin.keeps λb o e=>(e0.bs b o e).1;have lim:s.heap.NoLimit:=e0.mod.nolimit.keeps λb o e=>(e0.bs b o e).1
   have hkind:∀y∈ps.zip us,scope.names.lookup y.1=some .local∨(scope.names.lookup y.1=some .cell∧((cellsFrom ↑37 scope.names []).lookup y.1).isSome=true):=λ⟨n,v⟩ hy=>by
    rcases S.par n (List.of_mem_zip hy).1 with q|q
    ·exact .inl q
    ·exact .inr ⟨q,W.cellsFrom_some _ _ _ (.inl q)⟩
   refine codeAny_call_function hr.depth (KX _ _ lk) rfl S.co S.gen rfl (W.codeRec_of KX hcd) (hb _ _ _ _ ?_);refine wpAny_newFunctionEnv_cells S.kind hkind λenv he s1 x=> ?_;subst he;refine ⟨lim.keeps x.toInCall.keep,codeAny_func ?_⟩;obtain ⟨t,ht,hq⟩:=hbody A outer s H vs Q E (hr.deeper _) hsp;have I:Inv (zp7 CX P w K mg base N qual scope f cdv A outer s H E) [] (start N vs) H s1:=znI S hr.hd e0 hl r x;refine wpAny_mono (ht [] s1 (start N vs) H _ I hq) (λfl s' hs=> ?_) λe s' hs=>hs;have fin:∀ {σ':St} {H':Hp} {v:V} {u:Value},Inv (zp7 CX P w K mg base N qual scope f cdv A outer s H E) [] σ' H' s'->zc0 v u->Q v H'->CE outer P w H s Q u s':=λ {σ' H' v u} J rv q=>⟨v,H',J.os,J.bare,J.base,J.hok,rv,q⟩
   cases fl with
    |ret u=>obtain ⟨v,σ',H',J,rv,q⟩:=hs;exact fin J rv q
    |next=>obtain ⟨σ',H',J,q⟩:=hs;exact fin (v:=V.non) (u:=Value.none) J rfl q
    |brk=>obtain ⟨_,_,_,q⟩:=hs;exact False.elim q
    |cont=>obtain ⟨_,_,_,q⟩:=hs;exact False.elim q
end L2
namespace L2
open PySem PySem.Spec PyProof.Rows
section
variable {X:Cx} {x:Str} {p pos:Pos} {e:Expr} {es:List Expr} {t:TA} {id T:String} {r:List V->Hp->VK->Prop}
def tCB (r:List V->Hp->VK->Prop) (t:TA):TE:=λσ H Q=>t σ H λvs H1=>r vs H1 Q
theorem zaA (hc:zeb X (.builtin id) r) (hg:Gl X x) (hm:X.mg x=none) (hv:bootBuiltins x=some (.builtin id)) (ha:PA X (e::es) t) (hn:x≠"__name__":=by decide) (hdb:↑57=false:=by decide)
  (he:starEach (e::es) X.env=(false,eval e X.env)::starEach es X.env:=by rfl) (hpl:(↑76).any (·.1)=false:=by rfl):PE X (.Call (.Name x p) (e::es) [] pos) (tCB r t):=by intro pins s σ H Q I h;refine wpAny_Call_Name_kw (zf7 I hg hm hv ?_ hn hdb);exact PyProof.Rows.callWith_builtin1 (thn (ha pos pins s σ H _ I h) λus s1 ⟨vs,H1,I1,r1,q1⟩=>hc pins s1 σ H1 vs us Q I1 r1 q1) he hpl
theorem zbX (hc:zeb X (.type T) r) (hg:Gl X x) (hm:X.mg x=none) (hv:bootBuiltins x=some (.type T)) (ha:PA X (e::es) t) (hn:x≠"__name__":=by decide) (hdb:↑57=false:=by decide)
  (he:starEach (e::es) X.env=(false,eval e X.env)::starEach es X.env:=by rfl) (hpl:(↑76).any (·.1)=false:=by rfl):PE X (.Call (.Name x p) (e::es) [] pos) (tCB r t):=by intro pins s σ H Q I h;refine wpAny_Call_Name_kw (zf7 I hg hm hv ?_ hn hdb);exact PyProof.Rows.callWith_type1 (thn (ha pos pins s σ H _ I h) λus s1 ⟨vs,H1,I1,r1,q1⟩=>hc pins s1 σ H1 vs us Q I1 r1 q1) he hpl
end
end L2
namespace HT
open PySem PyProof.Rows
section
open PySem.SeqAt
open PySem.AutoSeq1 (wpAny_loadPart')
open PySem.MeetsSeq PySem.MeetsSeq2 PySem.MeetsSeq3
end
section
variable {prog:Program} {w:World} {A:Around} {E:Value->Shared->Prop} {s:Shared}
def sIx (n d:Nat):Option Int->Nat
 | none=>d
 | some v=>if v<0 then (v+(n:Int)).toNat else min v.toNat n
theorem sIx_none (n d:Nat):sIx n d none=d:=rfl
theorem sIx_nat (n d k:Nat):sIx n d (some (k:Int))=min k n:=by show (if (k:Int)<0 then ((k:Int)+(n:Int)).toNat else min (k:Int).toNat n)=min k n;rw [if_neg ↑0,Int.toNat_natCast]
end
end HT
namespace L2
open PySem PySem.Spec PyProof.Rows
abbrev TO:=St->Hp->(Option Int->Hp->Prop)->Prop
def PO (X:Cx) (e:Option Expr) (t:TO):Prop :=
 ∀(pins:List ↑4) (s:Shared) (σ:St) (H:Hp) (Q:Option Int->Hp->Prop),Inv X pins σ H s->t σ H Q→wpAny ↥5 X.A (evalPart e X.env) (λu s'=>∃o H',Inv X pins σ H' s'∧IsPart u o∧Q o H') X.xe s
def zn1:TO:=λ_ H Q=>Q none H
def zuo (t:TE):TO:=λσ H Q=>t σ H λx H1=>∃i,x= .int i∧Q (some i) H1
section
variable {X:Cx} {e:Expr} {te:TE} {lo hi:Option Expr} {tl th:TO} {pos p2:Pos}
theorem zd5:PO X none zn1:=by intro pins s σ H Q I h;rw [evalPart_none];exact wpAny_pure ⟨none,H,I,.none,h⟩
theorem zdy (h:PE X e te):PO X (some e) (zuo te):=by intro pins s σ H Q I hw;rw [evalPart_some];refine thn (h pins s σ H _ I hw) λu s1 ⟨x,H1,I1,r1,q1⟩=> ?_;obtain ⟨i,rfl,q⟩:=q1;obtain ⟨t,rfl⟩:=r1;exact ⟨some i,H1,I1,.int i t,q⟩
def SlR (X:Cx) (r:V->Option Int->Option Int->Hp->VK->Prop):Prop :=
 ∀(pins:List ↑4) (s:Shared) (σ:St) (H:Hp) (x:V) (v vl vu:Value) (lo hi:Option Int) (sl:Addr) (Q:VK),Inv X pins σ H s->zc0 x v->s.heap.IsSliceOf sl vl vu .none->IsPart vl lo->IsPart vu hi->r x lo hi H Q→∃T id,typeLookup (.type T) "__getitem__" =pure (some (.builtin id))∧s.TypeIs v T∧wpAny ↥5 X.A (getItem v (.ref sl)) ↑41 X.xe s
def tSl (r:V->Option Int->Option Int->Hp->VK->Prop) (te:TE) (tl th:TO):TE:=λσ H Q=>te σ H λx H1=>tl σ H1 λl H2=>th σ H2 λu H3=>r x l u H3 Q
theorem zcO {r:V->Option Int->Option Int->Hp->VK->Prop} (hr:SlR X r) (he:PE X e te) (hl:PO X lo tl) (hu:PO X hi th):PE X (.Subscript e (.Slice lo hi none p2) pos) (tSl r te tl th):=by intro pins s σ H Q I h;refine Subscript_ (thn (he pins s σ H _ I h) λv s1 ⟨x,H1,I1,r1,q1⟩=> ?_);refine wpAny_Slice (thn (hl pins s1 σ H1 _ I1 q1) λvl s2 ⟨l,H2,I2,pl,q2⟩=>thn (hu pins s2 σ H2 _ I2 q2) λvu s3 ⟨u,H3,I3,pu,q3⟩=> ?_);rw [evalPart_none];refine wpAny_pure ?_;have I4:Inv X pins σ H3 {s3 with heap:=s3.heap.push {cls:= .type "slice",data:= .fields #[vl,vu,.none]}}:=I3.kept (t':=s3.toks) λb ob q=>Heap.get?_push_of_some _ q;obtain ⟨T,id,hT,ht,hg⟩:=hr pins {s3 with heap:=s3.heap.push {cls:= .type "slice",data:= .fields #[vl,vu,.none]}} σ H3 x v vl vu l u s3.heap.objs.size Q I4 r1 (Heap.IsSliceOf.new ..) pl pu q3;show wpAny ↥5 X.A (subscriptTail e (.Slice lo hi none p2) v (.ref s3.heap.objs.size)) ↑41 X.xe {s3 with heap:=s3.heap.push {cls:= .type "slice",data:= .fields #[vl,vu,.none]}};exact tail_any (ops:=[.ref s3.heap.objs.size,v]) ht hT hg (by with_unfolding_all rfl)
def ztD (xs:List V) (lo hi:Option Int):List V:=(xs.drop (HT.sIx xs.length 0 lo)).take (HT.sIx xs.length xs.length hi-HT.sIx xs.length 0 lo)
theorem zk5 (xs:List V) (lo hi:Option Int):(ztD xs lo hi).length≤xs.length:=by unfold ztD;rw [List.length_take,List.length_drop];omega
end
end L2
namespace L2
open PySem PySem.Spec PyProof.Rows
def ixN (n:Nat) (i:Int):Option Nat:=if 0≤i then (if i<n then some i.toNat else none) else if-(n:Int)≤i then some (i+n).toNat else none
def atI {α:Type} (xs:List α) (i:Int):Option α:=(ixN xs.length i).bind λj=>xs[j]?
theorem zn3 {n:Nat} {i:Int} {j:Nat} (h:ixN n i=some j):seqIndex? i n=some j∧j<n∧ -(n:Int)≤i∧i<n:=by
 unfold ixN at h;by_cases h0:0≤i
 ·rw [if_pos h0] at h;by_cases h1:i<n;·rw [if_pos h1] at h;have e:i.toNat=j:=Option.some.inj h;exact ⟨by rw [seqIndex_of h0 h1,e],by omega,by omega,h1⟩
  ·rw [if_neg h1] at h;cases h
 ·rw [if_neg h0] at h;by_cases h1: -(n:Int)≤i;·rw [if_pos h1] at h;have e:(i+n).toNat=j:=Option.some.inj h;exact ⟨by rw [seqIndex_neg ↑0 h1,e],by omega,h1,by omega⟩
  ·rw [if_neg h1] at h;cases h
theorem zlm {α:Type} {xs:List α} {i:Int} {v:α} (h:atI xs i=some v):∃j,seqIndex? i xs.length=some j∧xs[j]? =some v∧j<xs.length∧ -(xs.length:Int)≤i∧i<xs.length:=by
 unfold atI at h
 cases e:ixN xs.length i with
  |none=>rw [e] at h;cases h
  |some j=>rw [e] at h;obtain ⟨h1,h2,h3,h4⟩:=zn3 e;exact ⟨j,h1,h,h2,h3,h4⟩
def zrR (b:Expr):Prop:=∀o i,subscripted b false o i=operate [o,i] (getItem o i)
def IxR (X:Cx) (r:R2):Prop :=
 ∀(value slice:Expr) (pins:List ↑4) (s:Shared) (σ:St) (H:Hp) (x y:V) (v u:Value) (Q:VK),Inv X pins σ H s->zc0 x v->zc0 y u->r x y H Q→subscripted slice false v u=operate [v,u] (getItem v u)->wpAny ↥5 X.A (subscriptTail value slice v u) ↑41 X.xe s
def MtR (X:Cx) (id:String) (r:V->List V->Hp->VK->Prop):Prop :=
 ∀(pins:List ↑4) (s:Shared) (σ:St) (H:Hp) (x:V) (xs:List V) (v:Value) (us:List Value) (Q:VK),Inv X pins σ H s->zc0 x v->zbL xs us->r x xs H Q→wpAny ↥5 X.A (call (.builtin id) (v::us)) ↑41 X.xe s
section
variable {X:Cx} {a b:Expr} {ta tb:TE} {pos:Pos}
theorem zbp {r:R2} (hr:IxR X r) (ha:PE X a ta) (hb:PE X b tb) (hs:zrR b):PE X (.Subscript a b pos) (tOp r ta tb):=by intro pins s σ H Q I h;exact Subscript_ (zvS ha hb I h λv u s2 x y H2 I2 rx ry q=>hr a b pins s2 σ H2 x y v u Q I2 rx ry q (hs _ _))
def zr0 (K:W.Frag):R2:=λx y H Q=>∃p xs i v,x= .ref p∧y= .int i∧SqL K H p xs∧atI xs i=some v∧Q v H
def zwb (K:W.Frag):R2:=λx y H Q=>∃p xs i v,x= .ref p∧y= .int i∧SqT K H p xs∧atI xs i=some v∧Q v H
def zwB:R2:=λx y H Q=>∃z i c,x= .str z∧y= .int i∧z.length≤sizeLine∧atI z.cps.toList i=some c∧Q (.str ⟨#[c]⟩) H
theorem zsE:IxR X (zr0 X.K):=by
 intro value slice pins s σ H x y v u Q I rx ry h hs;obtain ⟨p,xs,i,z,rfl,rfl,hq,he,q⟩:=h;cases rx;obtain ⟨t,rfl⟩:=ry;obtain ⟨its,r,pl,hz⟩:=I.list hq;obtain ⟨j,h1,h2,h3,h4,h5⟩:=zlm he;obtain ⟨w,ew,rw'⟩:=r.get h2;have hl:=r.length;have hn:=ziJ;have fin:EP X pins σ Q w s:=⟨z,H,I,rw',q⟩;by_cases h0:0≤i
 ·have hj:i.toNat=j:=by rw [seqIndex_of h0 h5] at h1;exact Option.some.inj h1
  exact item_listR pl.isList h0 ↑0 (by rw [hj];simpa using ew) fin hs
 ·have hj:(i+(its.toArray.size:Int)).toNat=j:=by rw [seqIndex_neg ↑0 h4] at h1;rw [List.size_toArray,←hl];exact Option.some.inj h1
  exact subscriptTail_builtinR (x:=w) pl.isList.typeIs slot_list_getitem.lookup (wpAny_getItem_list_neg (Q:=λr s'=>r=w∧EP X pins σ Q r s') pl.isList ↑0 (by rw [List.size_toArray]<;>omega) ↑0 (by rw [hj];simpa using ew) ⟨rfl,fin⟩) hs
theorem zup:IxR X (zwb X.K):=by intro value slice pins s σ H x y v u Q I rx ry h hs;obtain ⟨p,xs,i,z,rfl,rfl,hq,he,q⟩:=h;cases rx;obtain ⟨t,rfl⟩:=ry;obtain ⟨its,r,pl,hz⟩:=I.tuple hq;obtain ⟨j,h1,h2,h3,h4,h5⟩:=zlm he;obtain ⟨w,ew,rw'⟩:=r.get h2;have hl:=r.length;have hn:=ziJ;have fin:EP X pins σ Q w s:=⟨z,H,I,rw',q⟩;exact subscriptTail_builtinR (x:=w) pl.typeIs slot_tuple_getitem.lookup (getItem_tuple (j:=j) (Q:=λr s'=>r=w∧EP X pins σ Q r s') pl ↑0 ↑0 (by rw [List.size_toArray,←hl];exact h1) (by simpa using ew) ⟨rfl,fin⟩) hs
theorem zkf:IxR X zwB:=by
 intro value slice pins s σ H x y v u Q I rx ry h hs;obtain ⟨z,i,c,rfl,rfl,hz,he,q⟩:=h;obtain ⟨t,rfl⟩:=rx;obtain ⟨t',rfl⟩:=ry;obtain ⟨j,h1,h2,h3,h4,h5⟩:=zlm he;have hl:z.cps.toList.length=z.length:=by simp [Str.length]
 rw [hl] at h1 h4 h5;have hn:=ziJ;exact tail_any (typeIs_str s z t) slot_str_getitem.lookup (getItem_str (c:=c) (by have e1:decide (i< -(2 ^ 63:Int))=false:=decide_eq_false ↑0;have e2:decide (i≥2 ^ 63)=false:=decide_eq_false ↑0;rw [e1,e2,Bool.or_false]) (by rw [h1];simpa using h2) ⟨.str ⟨#[c]⟩,H,I.tok _,⟨_,rfl⟩,q⟩) hs
theorem zmy (its:List Value) (n j:Nat) (u:Value):Obj.mapSeq (·.setIfInBounds j u) {cls:= .type "list",data:= .seq its.toArray n}= {cls:= .type "list",data:= .seq (its.set j u).toArray n}:=by simp [Obj.mapSeq]
theorem Inv.lst {pins:List ↑4} {σ:St} {H:Hp} {s:Shared} {p:Addr} {xs:List V} (I:Inv X pins σ H s) (h:H p=some (.lst xs)) :
  ∃(its:List Value) (n:Nat),zbL xs its∧s.heap.get? p=some {cls:= .type "list",data:= .seq its.toArray n}∧xs.length≤sizeLine:=by obtain ⟨z,its,n,r,e⟩:=I.hok p _ h;exact ⟨its,n,r,e,z⟩
theorem Inv.lstUpd {pins:List ↑4} {σ:St} {H:Hp} {s:Shared} {p:Addr} {xs ys:List V} {its its':List Value} {n n':Nat} {f:Obj->Obj} (I:Inv X pins σ H s) (h:H p=some (.lst xs))
  (ho:s.heap.get? p=some {cls:= .type "list",data:= .seq its.toArray n}) (hf:f {cls:= .type "list",data:= .seq its.toArray n}= {cls:= .type "list",data:= .seq its'.toArray n'}) (r:zbL ys its') (hz:ys.length≤sizeLine) (t:Nat) :
  Inv X pins σ (upd H p (.lst ys)) {s with heap:=s.heap.update p f,toks:=t}:=by
   have e:(s.heap.update p f).get? p=some {cls:= .type "list",data:= .seq its'.toArray n'}:=by rw [Heap.get?_update_self f ho (by rw [hf]<;>rfl),hf]
   refine I.write (x:=p) (e:=p) (by rw [h];trivial) (.inl rfl) (λb u hb q=>(Heap.get?_update_other _ _ (Ne.symm hb)).trans q) ⟨_,e⟩ ?_;exact ⟨hz,its',n',r,e⟩
def zp5:V->V->V->Hp->(Hp->Prop)->Prop:=λo i v H Q=>∃p xs k j,o= .ref p∧i= .int k∧H p=some (.lst xs)∧ixN xs.length k=some j∧Q (upd H p (.lst (xs.set j v)))
theorem zf9:zwR X zp5:=by
 intro pins s σ H o i v ov iv u Q I ro ri rv h;obtain ⟨p,xs,k,j,rfl,rfl,hp,hj,q⟩:=h;cases ro;obtain ⟨t,rfl⟩:=ri;obtain ⟨its,n,r,ho,hz⟩:=I.lst hp;obtain ⟨h1,h2,h3,h4⟩:=zn3 hj;have hl:=r.length;have hn:=ziJ;have I':Inv X pins σ (upd H p (.lst (xs.set j v))) {s with heap:=s.heap.update p (Obj.mapSeq (·.setIfInBounds j u))}:=I.lstUpd hp ho (zmy its n j u) (r.set rv j) (by rw [List.length_set];exact hz) s.toks;by_cases h0:0≤k
 ·have hk:k.toNat=j:=by rw [seqIndex_of h0 h4] at h1;exact Option.some.inj h1
  exact W.ki_setAt ho h0 ↑0 (by rw [List.size_toArray,←hl];exact h4) (by rw [hk];exact ⟨_,I',q⟩)
 ·have hk:(k+(its.toArray.size:Int)).toNat=j:=by rw [seqIndex_neg ↑0 h3] at h1;rw [List.size_toArray,←hl];exact Option.some.inj h1
  exact W.ki_setBack ho ↑0 (by rw [List.size_toArray,←hl];exact h3) ↑0 (by rw [hk];exact ⟨_,I',q⟩)
theorem zkr (lo hi:Option Int) (n:Nat):(sliceBounds lo hi none n).1=((HT.sIx n 0 lo:Nat):Int)∧(sliceBounds lo hi none n).2.1=((HT.sIx n n hi:Nat):Int)∧(sliceBounds lo hi none n).2.2=1:=by
 refine ⟨?_,?_,rfl⟩
 ·cases lo with
   |none=>simp [sliceBounds,HT.sIx]
   |some i=>
    simp only [sliceBounds,HT.sIx,Option.getD_none,show (1:Int)>0 by decide,if_true];by_cases h:i<0;·simp only [h,if_true]<;>omega
    ·simp only [h,if_false]<;>omega
 ·cases hi with
   |none=>simp [sliceBounds,HT.sIx]
   |some i=>
    simp only [sliceBounds,HT.sIx,Option.getD_none,show (1:Int)>0 by decide,if_true];by_cases h:i<0;·simp only [h,if_true]<;>omega
    ·simp only [h,if_false]<;>omega
theorem zjF (its:List Value) (lo hi:Option Int):slicePick its.toArray lo hi none=((its.drop (HT.sIx its.length 0 lo)).take (HT.sIx its.length its.length hi-HT.sIx its.length 0 lo)).toArray:=by obtain ⟨h1,h2,h3⟩:=zkr lo hi its.toArray.size;unfold slicePick;rw [h1,h2,h3];simp only [sliceRange_one,pick_run,List.size_toArray]<;>rfl
def zvg (K:W.Frag):V->Option Int->Option Int->Hp->VK->Prop:=λx lo hi H Q=>∃a xs,x= .ref a∧SqL K H a xs∧∀p,H p=none->Q (.ref p) (upd H p (.lst (ztD xs lo hi)))
theorem zs7:SlR X (zvg X.K):=by intro pins s σ H x v vl vu lo hi sl Q I rx hs pl pu h;obtain ⟨a,xs,rfl,hx,q⟩:=h;cases rx;obtain ⟨its,r,ht,hz⟩:=I.list hx;have hlen:=r.length;refine ⟨"list",_,slot_list_getitem.lookup,ht.isList.typeIs,?_⟩;refine wpAny_getItem_list_slice ht.isList hs pl pu .none ↥4 ?_ (by rw [List.size_toArray]<;>omega);rw [zjF,←hlen];refine ⟨.ref s.heap.objs.size,_,I.laid (t':=s.toks) (o:= .lst (ztD xs lo hi)) (λb ob q=>Heap.get?_push_of_some _ q) ↑8 ?_,rfl,q _ (I.hok.fresh ↑8)⟩;exact ⟨Nat.le_trans (zk5 xs lo hi) hz,_,0,(r.drop (HT.sIx xs.length 0 lo)).take (HT.sIx xs.length xs.length hi-HT.sIx xs.length 0 lo),Heap.get?_push_size _ rfl⟩
def zhq:V->Bool
 | .non=>true
 | .bl _=>true
 | .int _=>true
 | .str _=>true
 | _=>false
def eqV:V->V->Bool
 | .non,.non=>true
 | .bl a,.bl b=>a == b
 | .bl a,.int b=>(if a then 1 else 0)==b
 | .int a,.bl b=>a==(if b then 1 else 0)
 | .int a,.int b=>a == b
 | .str a,.str b=>a == b
 | _,_=>false
theorem zq5 {A:Around} {s:Shared} {y x:V} {u v:Value} (ry:zc0 y u) (rx:zc0 x v) (fy:zhq y=true) (fx:zhq x=true):SeqAt.EqAt A s u v (eqV y x):=by
 cases y with
  |non=>
   cases ry
   cases x with
    |non=>cases rx;exact SeqAt.EqAt.same _
    |bl b=>cases rx;exact SeqAt.EqAt.none_bool b
    |int b=>obtain ⟨t,rfl⟩:=rx;exact SeqAt.EqAt.none_int b t
    |str b=>obtain ⟨t,rfl⟩:=rx;exact SeqAt.EqAt.none_str b t
    |_=>exact absurd (show false=true from fx) Bool.false_ne_true
  |bl a=>
   cases ry
   cases x with
    |non=>cases rx;exact SeqAt.EqAt.bool_none a
    |bl b=>cases rx;exact SeqAt.EqAt.bool_bool a b
    |int b=>obtain ⟨t,rfl⟩:=rx;exact SeqAt.EqAt.bool_int a b t
    |str b=>obtain ⟨t,rfl⟩:=rx;exact SeqAt.EqAt.bool_str a b t
    |_=>exact absurd (show false=true from fx) Bool.false_ne_true
  |int a=>
   obtain ⟨t',rfl⟩:=ry
   cases x with
    |non=>cases rx;exact SeqAt.EqAt.int_none a t'
    |bl b=>cases rx;exact SeqAt.EqAt.int_bool a t' b
    |int b=>obtain ⟨t,rfl⟩:=rx;exact SeqAt.EqAt.int_int a t' b t
    |str b=>obtain ⟨t,rfl⟩:=rx;exact SeqAt.EqAt.int_str a t' b t
    |_=>exact absurd (show false=true from fx) Bool.false_ne_true
  |str a=>
   obtain ⟨t',rfl⟩:=ry
   cases x with
    |non=>cases rx;exact SeqAt.EqAt.str_none a t'
    |bl b=>cases rx;exact SeqAt.EqAt.str_bool a t' b
    |int b=>obtain ⟨t,rfl⟩:=rx;exact SeqAt.EqAt.str_int a t' b t
    |str b=>obtain ⟨t,rfl⟩:=rx;exact SeqAt.EqAt.str_str a t' b t
    |_=>exact absurd (show false=true from fx) Bool.false_ne_true
  |_=>exact absurd (show false=true from fy) Bool.false_ne_true
def eqU (x:V) (u:Value):Bool:=match u with| .none=>eqV .non x| .bool b=>eqV (.bl b) x| .int i _=>eqV (.int i) x| .str z _=>eqV (.str z) x|_=>false
theorem zqY {x y:V} {u:Value} (r:zc0 y u) (f:zhq y=true):eqU x u=eqV y x:=by
 cases y with
  |non=>cases r;rfl
  |bl b=>cases r;rfl
  |int i=>obtain ⟨t,rfl⟩:=r;rfl
  |str z=>obtain ⟨t,rfl⟩:=r;rfl
  |_=>exact absurd (show false=true from f) Bool.false_ne_true
theorem zhT {x:V}:∀ {xs:List V} {us:List Value},zbL xs us->xs.all zhq=true->us.any (eqU x)=xs.any λy=>eqV y x
 | _,_,.nil,_=>rfl
 | y :: xs,u :: us,.cons r t,f=>by rw [List.all_cons,Bool.and_eq_true] at f;rw [List.any_cons,List.any_cons,zqY r f.1,zhT t f.2]
theorem zf6 {A:Around} {s:Shared} {x:V} {v:Value} (rx:zc0 x v) (fx:zhq x=true):∀ {xs:List V} {us:List Value},zbL xs us->xs.all zhq=true->∀u∈us,SeqAt.EqAt A s u v (eqU x u)
 | _,_,.nil,_=>λu hu=>by cases hu
 | y :: xs,u :: us,.cons r t,f=>λu' hu=>by
  rw [List.all_cons,Bool.and_eq_true] at f;rcases List.mem_cons.mp hu with rfl|hu
  ·rw [zqY r f.1];exact zq5 r rx f.1 fx
  ·exact zf6 rx fx t f.2 u' hu
def inV (x:V) (xs:List V):Bool:=xs.any λy=>eqV y x
def rIn (K:W.Frag) (neg:Bool):R2:=λx y H Q=>∃p xs,y= .ref p∧(SqL K H p xs∨SqT K H p xs)∧zhq x=true∧xs.all zhq=true∧Q (.bl (if neg then !inV x xs else inV x xs)) H
theorem znM:OpR X (compareOp .In) (rIn X.K false):=by
 intro pins s σ H x y v u Q I rx ry h;obtain ⟨p,xs,rfl,hq,fx,fs,q⟩:=h;cases ry;rcases hq with hq|hq
 ·obtain ⟨its,r,pl,hz⟩:=I.list hq;refine SeqAt.in_listAt (eqU x) pl.isList (λw hw=>zf6 rx fx r fs w (by simpa using hw)) ⟨.bl _,H,I,rfl,?_⟩;rw [show its.toArray.any (eqU x)=its.any (eqU x) by simp,zhT r fs];exact q
 ·obtain ⟨its,r,pl,hz⟩:=I.tuple hq;refine SeqAt.in_tupleAt (eqU x) pl (λw hw=>zf6 rx fx r fs w (by simpa using hw)) ⟨.bl _,H,I,rfl,?_⟩;rw [show its.toArray.any (eqU x)=its.any (eqU x) by simp,zhT r fs];exact q
theorem zkw:OpR X (compareOp .NotIn) (rIn X.K true):=by
 intro pins s σ H x y v u Q I rx ry h;obtain ⟨p,xs,rfl,hq,fx,fs,q⟩:=h;cases ry;rcases hq with hq|hq
 ·obtain ⟨its,r,pl,hz⟩:=I.list hq;refine SeqAt.notIn_listAt (eqU x) pl.isList (λw hw=>zf6 rx fx r fs w (by simpa using hw)) ⟨.bl _,H,I,rfl,?_⟩;rw [show its.toArray.any (eqU x)=its.any (eqU x) by simp,zhT r fs];exact q
 ·obtain ⟨its,r,pl,hz⟩:=I.tuple hq;refine SeqAt.notIn_tupleAt (eqU x) pl (λw hw=>zf6 rx fx r fs w (by simpa using hw)) ⟨.bl _,H,I,rfl,?_⟩;rw [show its.toArray.any (eqU x)=its.any (eqU x) by simp,zhT r fs];exact q
theorem zkg:zeb X (.builtin "len") (λxs H Q=>∃p ys,xs=[.ref p]∧(SqL X.K H p ys∨SqT X.K H p ys)∧Q (.int ys.length) H):=by
 intro pins s σ H xs us Q I r h;obtain ⟨p,ys,rfl,hq,q⟩:=h;obtain ⟨u,rfl,rx⟩:=zgg r;cases rx;have hn:=ziJ;rcases hq with hq|hq
 ·obtain ⟨its,r',pl,hz⟩:=I.list hq;have hlen:=r'.length;exact Calls.call_len_list pl.isList (by simp only [List.size_toArray]<;>omega) ⟨.int ys.length,H,I.tok _,⟨s.toks+1,by rw [List.size_toArray,hlen]⟩,q⟩
 ·obtain ⟨its,r',pl,hz⟩:=I.tuple hq;have hlen:=r'.length;exact len_tuple pl (by simp only [List.size_toArray]<;>omega) ⟨.int ys.length,H,I.tok _,⟨s.toks+1,by rw [List.size_toArray,hlen]⟩,q⟩
theorem zdL:zeb X (.builtin "len") (λxs H Q=>∃z,xs=[.str z]∧z.length≤sizeLine∧Q (.int z.length) H):=by intro pins s σ H xs us Q I r h;obtain ⟨z,rfl,hz,q⟩:=h;obtain ⟨u,rfl,t,rfl⟩:=zgg r;have hn:=ziJ;exact len_str ↑0 ⟨.int z.length,H,I.tok _,⟨_,rfl⟩,q⟩
theorem zkd:zeb X (.type "list") (λxs H Q=>∃p ys,xs=[.ref p]∧(SqL X.K H p ys∨SqT X.K H p ys)∧∀l,H l=none->Q (.ref l) (upd H l (.lst ys))):=by
 intro pins s σ H xs us Q I r h;obtain ⟨p,ys,rfl,hq,q⟩:=h;obtain ⟨u,rfl,rx⟩:=zgg r;cases rx;have fin:∀(its:List Value),zbL ys its->ys.length≤sizeLine->∀(h':Heap) (c':Nat),(∀b o',s.heap.get? b=some o'->h'.get? b=some o')→h'.get? s.heap.objs.size=some {cls:= .type "list",dict:=none,data:= .seq its.toArray c',slots:= #[]}->EP X pins σ Q (.ref s.heap.objs.size) {s with heap:=h'}:=λits r' hz h' c' kp e=>⟨.ref s.heap.objs.size,_,I.laid (t':=s.toks) kp ↑8 (show zdT X.prog X.w _ h' _ (.lst ys) from ⟨hz,its,c',r',e⟩),rfl,q _ (I.hok.fresh ↑8)⟩;rcases hq with hq|hq
 ·obtain ⟨its,r',pl,hz⟩:=I.list hq;have hlen:=r'.length;obtain ⟨o,ho,hc,n,hd⟩:=pl.isList;exact call_list_seq p (.inl rfl) ho hc hd (λh' c' kp e=>fin its r' hz h' c' kp e) (by simp only [List.size_toArray]<;>omega)
 ·obtain ⟨its,r',pl,hz⟩:=I.tuple hq;have hlen:=r'.length;obtain ⟨o,ho,hc,n,hd⟩:=pl;exact call_list_seq p (.inr rfl) ho hc hd (λh' c' kp e=>fin its r' hz h' c' kp e) (by simp only [List.size_toArray]<;>omega)
def tyV (K:W.Frag) (T:String) (x:V) (H:Hp):Prop:=match x with| .str _=>T="str" | .int _=>T="int" | .ref p=>(T="list" ∧∃xs,SqL K H p xs)∨(T="tuple" ∧∃o,K.lookup p=some o∧o.cls= .type "tuple" ∧o.dict=none)∨(T="dict" ∧((∃kvs,H p=some (.dK kvs))∨∃kvs,H p=some (.dT kvs)))∨(T="set" ∧∃S n,H p=some (.set S n))|_=>False
theorem zuS {pins:List ↑4} {σ:St} {H:Hp} {s:Shared} {T:String} {x:V} {v:Value} (I:Inv X pins σ H s) (r:zc0 x v) (ty:tyV X.K T x H) :
  s.TypeIs v T∧∀a,v= .ref a->∃ob,s.heap.get? a=some ob∧ob.dict=none:=by
   cases x with
    |str z=>obtain ⟨t,rfl⟩:=r;cases (show T="str" from ty);exact ⟨typeIs_str s z t,λ_ e=>nomatch e⟩
    |int i=>obtain ⟨t,rfl⟩:=r;cases (show T="int" from ty);exact ⟨typeIs_int s i t,λ_ e=>nomatch e⟩
    |ref p=>
     cases r;rcases ty with ⟨rfl,xs,hq⟩|⟨rfl,o,hk,hc,hd⟩|⟨rfl,hk⟩|⟨rfl,S,n,hk⟩
     ·obtain ⟨its,_,pl,_⟩:=I.list hq;refine ⟨pl.isList.typeIs,λa e=> ?_⟩;cases e;obtain ⟨o,n,e,c,hd,_⟩:=pl;exact ⟨o,e,hd⟩
     ·refine ⟨⟨o,I.kIn p o hk,hc⟩,λa e=> ?_⟩;cases e;exact ⟨o,I.kIn _ o hk,hd⟩
     ·have z:∃o,s.heap.get? p=some o∧o.ExactDict:=by
       rcases hk with ⟨kvs,hk⟩|⟨kvs,hk⟩
       ·obtain ⟨_,_,_,_,o,_,_,e,ex,_⟩:=I.hok p _ hk;exact ⟨o,e,ex⟩
       ·obtain ⟨_,_,_,_,o,_,_,e,ex,_⟩:=I.hok p _ hk;exact ⟨o,e,ex⟩
      obtain ⟨o,e,ex⟩:=z;refine ⟨⟨o,e,ex.1⟩,λa e2=> ?_⟩;cases e2;exact ⟨o,e,ex.2.1⟩
     ·obtain ⟨o,_,_,_,e,ex,_⟩:=I.hok p _ hk;refine ⟨⟨o,e,ex.1⟩,λa e2=> ?_⟩;cases e2;exact ⟨o,e,ex.2.1⟩
    |_=>exact False.elim ty
def tBM (K:W.Frag) (T:String) (r:V->List V->Hp->VK->Prop) (to:TE) (t:TA):TE:=λσ H Q=>to σ H λx H1=>tyV K T x H1∧t σ H1 λxs H2=>r x xs H2 Q
variable {o e:Expr} {es:List Expr} {to:TE} {t:TA} {name:Str} {apos cpos:Pos} {T id:String} {r:V->List V->Hp->VK->Prop}
theorem zmD (pa:PlainAttrs T) (slot:Slot T name id) (hty:typeOf (.builtin id)=pure (.type "method_descriptor")) (hm:MtR X id r) (ho:PE X o to) (ha:PA X (e::es) t)
  (hbase:attributeBase o name X.env (eval o X.env)=eval o X.env:=by rfl)
  (hfew:((backTo cpos (starEach (e::es) X.env)).all (λx=> !x.1) && (backToKw cpos (keywordEach [] X.env)).all (λx=>x.1.isSome) && decide ((e::es).length+([]:List Keyword).length+(if ([]:List Keyword).isEmpty then 0 else 1)<30))=true:=by rfl)
  (hline:(apos.endLine==cpos.line)=true:=by rfl) (hs:starEach (e::es) X.env=(false,eval e X.env)::starEach es X.env:=by rfl) (hplain:(backTo cpos (starEach es X.env)).any (·.1)=false:=by rfl) :
  PE X (.Call (.Attribute o name apos) (e::es) [] cpos) (tBM X.K T r to t):=by intro pins s σ H Q I h;refine wpAny_Call_method_late hbase hfew hline rfl (thn (ho pins s σ H _ I h) λv s1 ⟨x,H1,I1,r1,ty,q1⟩=> ?_);obtain ⟨h1,h2⟩:=zuS I1 r1 ty;refine ⟨T,id,pa,slot,hty,h1,h2,?_⟩;have hA:=ha cpos pins s1 σ H1 _ I1 q1;rw [hs] at hA ⊢;refine Calls.callWith_builtin (by show (false||(backTo cpos (starEach es X.env)).any (·.1))=false;rw [hplain]<;>rfl) (Calls.evalArgs_plain ?_);exact thn hA λus s2 ⟨vs,H2,I2,r2,q2⟩=>hm pins s2 σ H2 x vs v us Q I2 r1 r2 q2
end
end L2
namespace L2
open PySem PySem.Spec PyProof.Rows
def MtM (X:Cx) (id:String) (r:V->List V->Hp->VK->Prop):Prop :=
 ∀(pins:List ↑4) (s:Shared) (σ:St) (H:Hp) (x:V) (xs:List V) (v:Value) (us:List Value) (Q:VK),Inv X pins σ H s->zc0 x v->zbL xs us->r x xs H Q→wpAny ↥5 X.A (call (.builtin id) (v::us)) ↑41 X.xe s
theorem zbL.one:∀ {x:V} {us:List Value},zbL [x] us->∃u,us=[u]∧zc0 x u
 | _,_,.cons r .nil=>⟨_,rfl,r⟩
theorem zbL.two:∀ {x y:V} {us:List Value},zbL [x,y] us->∃u v,us=[u,v]∧zc0 x u∧zc0 y v
 | _,_,_,.cons r (.cons q .nil)=>⟨_,_,rfl,r,q⟩
theorem zbL.zero:∀ {us:List Value},zbL [] us->us=[]
 | _,.nil=>rfl
theorem zbL.dropLast {xs:List V} {us:List Value} (h:zbL xs us):zbL xs.dropLast us.dropLast:=by
 induction h with
  |nil=>exact .nil
  |cons r t ih=>cases t with|nil=>exact .nil|cons q t'=>exact .cons r ih
theorem zbL.eraseIdx:∀ {xs:List V} {us:List Value} (i:Nat),zbL xs us->zbL (xs.eraseIdx i) (us.eraseIdx i)
 | _,_,_,.nil=>.nil
 | _,_,0,.cons _ t=>t
 | _,_,i+1,.cons r t=> .cons r (zbL.eraseIdx i t)
theorem zbL.reverse {xs:List V} {us:List Value} (h:zbL xs us):zbL xs.reverse us.reverse:=by induction h with|nil=>exact .nil|cons r t ih=>rw [List.reverse_cons,List.reverse_cons];exact zbL.append ih (.cons r .nil)
theorem zbL.rep {xs:List V} {us:List Value} (h:zbL xs us):∀k:Nat,zbL (List.replicate k xs).flatten (List.replicate k us).flatten
 | 0=>.nil
 | k+1=>by rw [List.replicate_succ,List.replicate_succ,List.flatten_cons,List.flatten_cons];exact zbL.append h (zbL.rep h k)
theorem zkv {α:Type}:∀(l:List α) (i:Nat),(l.eraseIdx i).length≤l.length
 | [],_=>Nat.le_refl _
 | _ :: _,0=>Nat.le_succ _
 | _ :: r,i+1=>Nat.succ_le_succ (zkv r i)
theorem zj1 (its:List Value):∀(k:Nat) (acc:List Value),List.foldl (λx1 x2=>x1++x2) acc.toArray (List.replicate k its.toArray)=(acc++(List.replicate k its).flatten).toArray
 | 0,acc=>by simp
 | k+1,acc=>by
  have e:acc.toArray++its.toArray=(acc++its).toArray:=by simp
  have e2:(acc++its)++(List.replicate k its).flatten=acc++(List.replicate (k+1) its).flatten:=by rw [List.replicate_succ,List.flatten_cons,List.append_assoc]
  rw [←e2,←zj1 its k (acc++its),←e,List.replicate_succ,List.foldl_cons]
section
variable {X:Cx} {pins:List ↑4} {σ:St} {H:Hp} {s:Shared} {l b:Addr} {xs ys zs:List V}
theorem Inv.lset {its its':List Value} {n:Nat} {f:Array Value->Array Value} {t':Nat} (I:Inv X pins σ H s) (hH:H l=some (.lst xs))
  (e:s.heap.get? l=some {cls:= .type "list",data:= .seq its.toArray n}) (hf:f its.toArray=its'.toArray) (hv:zbL ys its') (hz:ys.length≤sizeLine) :
  Inv X pins σ (upd H l (.lst ys)) {s with heap:=s.heap.update l (Obj.mapSeq f),toks:=t'}:=by have q:=PySem.IsL.update e f;rw [hf] at q;refine I.write (x:=l) (e:=l) (by rw [hH];exact trivial) (.inl rfl) (λb' u hb hu=>(Heap.get?_update_other s.heap (Obj.mapSeq f) (Ne.symm hb)).trans hu) ⟨_,q⟩ ?_;exact ⟨hz,its',_,hv,q⟩
theorem Inv.lnew {its:List Value} {t':Nat} (I:Inv X pins σ H s) (hv:zbL ys its) (hz:ys.length≤sizeLine) :
  Inv X pins σ (upd H s.heap.objs.size (.lst ys)) {s with heap:=s.heap.push {cls:= .type "list",data:= .seq its.toArray},toks:=t'} :=
 I.laid (λ_ _ q=>Heap.get?_push_of_some _ q) ↑8 ⟨hz,its,0,hv,Heap.get?_push_size _ rfl⟩
theorem Inv.fresh (I:Inv X pins σ H s):H s.heap.objs.size=none:=I.hok.fresh ↑8
theorem Inv.lstM (I:Inv X pins σ H s) (hH:H l=some (.lst xs)):xs.length≤sizeLine∧∃(its:List Value) (n:Nat),zbL xs its∧xs.length=its.length∧s.heap.get? l=some {cls:= .type "list",data:= .seq its.toArray n}:=by obtain ⟨z,its,n,r,e⟩:=I.hok l _ hH;exact ⟨z,its,n,r,r.length,e⟩
theorem zlB {n:Nat} (h:n≤sizeLine):Builtin.List.listTooLong n=false:=by unfold Builtin.List.listTooLong;exact decide_eq_false ↑0
end
section
variable {X:Cx}
def zgL:V->List V->Hp->VK->Prop:=λx vs H Q=>∃l xs y,x= .ref l∧vs=[y]∧H l=some (.lst xs)∧xs.length<sizeLine∧Q .non (upd H l (.lst (xs++[y])))
theorem zkb:MtM X "list.append" zgL:=by intro pins s σ H x vs v us Q I rx rv h;obtain ⟨l,xs,y,rfl,rfl,hH,hz,q⟩:=h;cases rx;obtain ⟨u,rfl,ru⟩:=rv.one;obtain ⟨z,its,n,r,hl,e⟩:=I.lstM hH;refine call_meets F.slot_list_append ⟨_,e,rfl⟩ F.entry_list_append (F.args_list_append_2 _ _) (PySem.list_append l its.toArray n u (by rw [List.size_toArray];omega)) ⟨e,?_⟩;refine ⟨.non,_,I.lset (its':=its++[u]) hH e ↥4 (r.append (.cons ru .nil)) ?_,rfl,q⟩;rw [List.length_append,List.length_singleton];omega
def zjd:V->List V->Hp->VK->Prop:=λx vs H Q=>∃l b xs zs,x= .ref l∧vs=[.ref b]∧H l=some (.lst xs)∧H b=some (.lst zs)∧xs.length+zs.length≤sizeLine∧Q .non (upd H l (.lst (xs++zs)))
theorem zpx:MtM X "list.extend" zjd:=by
 intro pins s σ H x vs v us Q I rx rv h;obtain ⟨l,b,xs,zs,rfl,rfl,hH,hB,hz,q⟩:=h;cases rx;obtain ⟨u,rfl,ru⟩:=rv.one;cases ru;obtain ⟨z,its,n,r,hl,e⟩:=I.lstM hH;obtain ⟨z2,its2,n2,r2,hl2,e2⟩:=I.lstM hB;have hsz:its.toArray.size+its2.toArray.size≤sizeLine:=by rw [List.size_toArray,List.size_toArray];omega
 have hlong:¬(!its.toArray.isEmpty && Builtin.List.listTooLong (its.toArray.size+its2.toArray.size))=true:=by rw [zlB hsz,Bool.and_false];exact Bool.false_ne_true
 refine call_meets F.slot_list_extend ⟨_,e,rfl⟩ F.entry_list_extend (F.args_list_extend_2 _ _) (AutoSeq1.list_extend_list_list_0 l its.toArray n b its2.toArray n2 hlong (by rw [List.size_toArray];omega) ↑0) ⟨e,e2,?_⟩;refine ⟨.non,_,I.lset (its':=its++its2) hH e ↥4 (r.append r2) ?_,rfl,q⟩;rw [List.length_append];omega
def zoH:V->List V->Hp->VK->Prop:=λx vs H Q=>∃l xs i k y,x= .ref l∧vs=[.int i]∧H l=some (.lst xs)∧ -(2 ^ 63)≤i∧i<2 ^ 63∧seqIndex? i xs.length=some k∧xs[k]? =some y∧Q y (upd H l (.lst (xs.eraseIdx k)))
theorem zp1:MtM X "list.pop" zoH:=by
 intro pins s σ H x vs v us Q I rx rv h;obtain ⟨l,xs,i,k,y,rfl,rfl,hH,h1,h2,hk,hy,q⟩:=h;cases rx;obtain ⟨u,rfl,ru⟩:=rv.one;obtain ⟨t,rfl⟩:=ru;obtain ⟨z,its,n,r,hl,e⟩:=I.lstM hH;obtain ⟨w,hw,rw'⟩:=r.get hy;refine call_meets F.slot_list_pop ⟨_,e,rfl⟩ F.entry_list_pop (F.args_list_pop_2 _ _) (MeetsSeq.list_pop_at l its.toArray n i t k w (fitsIndex_both h1 h2) (by rw [List.size_toArray,←hl];exact hk) (by rw [←Array.getElem?_toList];exact hw) (by rw [List.size_toArray];omega)) ⟨e,?_⟩;refine ⟨y,_,I.lset (its':=its.eraseIdx k) hH e ?_ (r.eraseIdx k) ?_,rw',q⟩;·show its.toArray.eraseIdxIfInBounds k=(its.eraseIdx k).toArray;rw [List.eraseIdxIfInBounds_toArray]
 ·have:=zkv xs k;omega
def zvr:R2:=λx y H Q=>∃l b xs zs,x= .ref l∧y= .ref b∧H l=some (.lst xs)∧H b=some (.lst zs)∧xs.length+zs.length≤sizeLine∧∀p,H p=none->Q (.ref p) (upd H p (.lst (xs++zs)))
theorem zeo:OpR X (binaryOp .Add) zvr:=by
 intro pins s σ H x y v u Q I rx ry h;obtain ⟨l,b,xs,zs,rfl,rfl,hH,hB,hz,q⟩:=h;cases rx;cases ry;obtain ⟨z,its,n,r,hl,e⟩:=I.lstM hH;obtain ⟨z2,its2,n2,r2,hl2,e2⟩:=I.lstM hB;refine PySem.P.add_list e e2 ?_ (by rw [List.size_toArray,List.size_toArray];omega);have ea:its.toArray++its2.toArray=(its++its2).toArray:=by simp
 rw [ea];exact ⟨.ref _,_,I.lnew (t':=s.toks) (r.append r2) (by rw [List.length_append];omega),rfl,q _ I.fresh⟩
def zws:R2:=λx y H Q=>∃l k xs,x= .ref l∧y= .int k∧H l=some (.lst xs)∧ -(2 ^ 63)≤k∧k<2 ^ 63∧xs.length*k.toNat≤sizeLine∧∀p,H p=none->Q (.ref p) (upd H p (.lst (List.replicate k.toNat xs).flatten))
theorem zsj {α:Type} (xs:List α) (k:Nat):(List.replicate k xs).flatten.length=k*xs.length:=by induction k with|zero=>simp|succ k ih=>rw [List.replicate_succ,List.flatten_cons,List.length_append,ih,Nat.succ_mul,Nat.add_comm]
theorem zlG:OpR X (binaryOp .Mult) zws:=by
 intro pins s σ H x y v u Q I rx ry h;obtain ⟨l,k,xs,rfl,rfl,hH,h1,h2,hz,q⟩:=h;cases rx;obtain ⟨t,rfl⟩:=ry;obtain ⟨z,its,n,r,hl,e⟩:=I.lstM hH;have hlen:its.toArray.size*k.toNat≤sizeLine:=by rw [List.size_toArray,←hl];exact hz
 have hcap:¬its.toArray.size*k.toNat>(2 ^ 63-1)/8:=by
  have:(sizeLine:Nat)≤(2 ^ 63-1)/8:=by decide
  omega
 have hfit:¬(!Builtin.List.listFitsIndex k)=true:=by rw [fitsIndex_both h1 h2];exact Bool.false_ne_true
 have hlong:¬Builtin.List.listTooLong (its.toArray.size*k.toNat)=true:=by rw [zlB hlen];exact Bool.false_ne_true
 have hnew:List.foldl (λx1 x2=>x1++x2) #[] (List.replicate (if its.toArray.isEmpty=true then 0 else k.toNat) its.toArray)=(List.replicate k.toNat its).flatten.toArray:=by
  have f0:∀m:Nat,List.foldl (λx1 x2=>x1++x2) #[] (List.replicate m its.toArray)=(List.replicate m its).flatten.toArray:=λm=>by have:=zj1 its m [];rw [List.nil_append] at this;exact this
  rw [f0];cases its with|nil=>simp|cons a r'=>rw [if_neg ↥4]
 refine wpAny_binaryOp_repeat_ref (T:="list") (U:="int") ↥1 ⟨_,e,rfl⟩ (λs'=>typeIs_int s' k t) noFill_list_mul F.fills_int_mul F.slot_int_rmul repeat_list F.slot_int_index.lookup (call_meets F.slot_int_rmul (typeIs_int s k t) F.entry_int_rmul (F.args_int_rmul_2 _ _) (int___rmul___int_list k t l its.toArray n) ⟨e,rfl,⟨_,e,rfl⟩,call_meets F.slot_list_mul ⟨_,e,rfl⟩ F.entry_list_mul (F.args_list_mul_2 _ _) (AutoListH.list___mul___list_int_3 l its.toArray n k t hfit hcap hlong) ⟨e,?_⟩⟩);rw [hnew];exact ⟨.ref _,_,I.lnew (t':=s.toks) (r.rep k.toNat) (by rw [zsj,Nat.mul_comm];exact hz),rfl,q _ I.fresh⟩
end
section
variable {prog:Program} {w:World} {A:Around} {E:Value->Shared->Prop} {s:Shared}
end
section
variable {X:Cx}
end
end L2
namespace Att
open PySem PySem.W PySem.Calls PyProof.Rows
theorem zhC {P:Params} {h:Heap}:∀(ns:Ji) (vs:List Value),WellAll P h vs (ns.map WData.int)->IntsAre vs ns:=by
 intro ns
 induction ns with
  |nil=>intro vs w;rw [List.map_nil] at w;cases w;exact .nil
  |cons n ns ih=>intro vs w;rw [List.map_cons] at w;cases w with|cons a b=>cases a;exact .cons _ _ (ih _ b)
theorem zoN {l:OpenLaw} {n:Nat} (hn:l.most=some n) {P:Params} {h:Heap} {args:List WData} {vals:List Value}
  (hpre:l.row.toRowW.claim.pre args=true) (hwl:WellAll P h vals args) :
  ∃a vs ns,vals=[Value.ref a]∧args=[WData.list (ns.map WData.int)]∧h.get? a=some {cls:= .type "list",data:= .seq vs.toArray}∧IntsAre vs ns∧ns.length≤n:=by
   have hsh:WShape.hasAll [] args [.list .int]=true:=(pre_splitW hpre).1;have hc:l.pre.holds [] {args:=args}=true:=(pre_splitW hpre).2;obtain ⟨d,r,rfl,h1,h2⟩:=hasAllW_cons hsh;obtain rfl:=hasAllW_nil h2;obtain ⟨xs,rfl,h3⟩:=hasW_list h1;obtain ⟨ns,rfl⟩:=items_int h3
   have hlen:ns.length≤n:=by
    unfold OpenLaw.pre at hc;have h4:(WTm.not (.lt (.lit (.int (n:Int))) (.len (.arg 0)))).holds [] {args:=[.list (ns.map .int)]}=true:=by have h4:=(holds_andW hc).1;rw [hn] at h4;exact h4
    have h5:=condW_of h4 (w_not (w_lt w_lit (w_len_list (w_arg rfl))));rw [List.length_map] at h5;refine Nat.le_of_not_lt λq=> ?_;have q':(n:Int)<↑9:=by omega
    first|(rw [decide_eq_true q'] at h5;exact absurd h5 ↥1)|(simp at h5;omega)
   cases hwl with
    |cons w1 w2=>cases w2;cases w1 with|list ho hall=>exact ⟨_,_,ns,rfl,rfl,ho,zhC ns _ hall,hlen⟩
theorem znZ (l:OpenLaw) (args:List WData):l.row.toRowW.claim.post args (.bool true) args=true :=
 postW_of (r:=l.row.toRowW) (X:=(true==true)) (show WShape.has [] (.bool true) .bool=true by first|rfl|decide|simp [WShape.has,WShape.arms,WShape.armsAll]) (show (WTm.eq .res (.lit (.bool true))).value [] {args:=args,res:=some (.bool true),after:=args}=some (.bool (true==true)) from w_eq_bool (w_res rfl) w_lit) rfl
theorem attach_call {l:OpenLaw} {n:Nat} {q:Program} {loose:List Str} {XP:(Str->Option Value)->Heap->Prop} {YP:World->Heap->Prop} {d:DefRec}
  (hn:l.most=some n) (hdf:d.params.defaults=[])
  (call:∀(w:World) (s₀ s₁:Shared) (mg mb:Str->Option Value) (fa:Addr) (o:Obj) (pm cd doc:Value) (a:Addr) (vs:List Value) (ns:Ji),Ground q loose [] XP w s₀ mg mb s₁.heap->YP w s₁.heap→s₁.heap.get? fa=some o->o.data= .func (docDef d.name d.params d.body d.scope pm cd doc)->s₁.heap.CodeRec cd d.name->mg d.name=some (.ref fa)→s₁.heap.get? a=some {cls:= .type "list",data:= .seq vs.toArray}->IntsAre vs ns->ns.length≤n->s₁.gens= #[]→codeAny (model l.prog w) callerA (.call (.ref fa) ⟨[.ref a],[]⟩) ↑130 s₁) :
  WalkO q loose XP YP l.row.toRowW d [] (λf vs=>PySem.call f vs):=by intro w s₀ s₁ mg mb G Y fa o pm cd doc dV kV ho hd hcd hD hmg hg args vals as hpre hlay hrd hwl hlo;obtain rfl:dV= .none:=Dflts.none hD hdf;obtain rfl:kV= .none:=Dflts.noKw hD;obtain ⟨a,vs,ns,rfl,rfl,hobj,hints,hlen⟩:=zoN hn hpre hwl;refine enter_call (codeAny_mono (call w s₀ s₁ mg mb fa o pm cd doc a vs ns G Y ho (fd_plain hd) hcd hmg hobj hints hlen hg) λr s' hq=> ?_);obtain ⟨rfl,h2,h3,h4⟩:=hq;exact ⟨.inl ⟨.bool true,.bool true,[],rfl,λ_=>rfl,.bool true,znZ l _,λ_=>⟨List.Pairwise.nil,λ_ hm=>(nomatch hm)⟩⟩,h2,h3,h4⟩
section
variable {prog:Program} {w:World} {A:Around} {E:Value->Shared->Prop} {s:Shared} {K:Frag}
end
end Att
namespace L2
open PySem PySem.Spec PyProof.Rows
theorem zkk:∀ {vs:List Value} {ns:Ji},IntsAre vs ns->zbL (ns.map V.int) vs
 | _,_,.nil=>.nil
 | _,_,.cons n t h=> .cons ⟨t,rfl⟩ (zkk h)
def zvA (H:Hp):Prop:=∀b,H b=none∨∃o xs,H b=some (.frz o (.lst xs))
theorem zpX {P:Program} {w:World} {K:W.Frag} {mg mb:Str->Option Value} {CX:CXT} {k:Nat} {fa a:Addr} {fd:FuncData} {x:Str} {sp:Sp} {s₁:Shared} {vs:List Value} {ns:Ji}
  (KX:K.In s₁.heap) (hns:s₁.heap.Ns mainGlobals mg) (hb:s₁.heap.Ns builtinsNs mb) (hbb:∀x:Str,x≠"__name__" ->mb x=bootBuiltins x) (hlim:s₁.heap.NoLimit) (hg:s₁.gens=#[])
  (ha:s₁.heap.get? a=some {cls:= .type "list",data:= .seq vs.toArray}) (hi:IntsAre vs ns) (hl:ns.length≤sizeLine) (hr:Room k callerA)
  (F:∀base:Heap,K.In base->base.Ns mainGlobals mg->FnOk P w K mg base CX k fa fd [x] sp) (hbind:∀(s:Shared) (u:Value),BindsTo s fd ⟨[u],[]⟩ [(x,u)])
  (hsp:∀H:Hp,zvA H->SqL K H a (ns.map V.int)->sp [.ref a] H (λv _=>v= .bl true) λ_ _ _=>False)
  (hCX:∀H e s',CX [] H s₁ (λ_ _ _=>False) e s'->False) :
  codeAny (model P w) callerA (.call (.ref fa) ⟨[.ref a],[]⟩) ↑130 s₁:=by
   have rv:=zkk hi;have lenV:=hi.length
   have core:∀H:Hp,zvA H->SqL K H a (ns.map V.int)->HOk P w H s₁.heap->(∀b,H b≠none->b=a)->(H a≠none->K.lookup a=none)→codeAny (model P w) callerA (.call (.ref fa) ⟨[.ref a],[]⟩) ↑130 s₁:=by
    intro H hO hS hok hA hK;have base_of:∀ {b:Addr} {o:Obj},s₁.heap.get? b=some o->H b=none->(zqo s₁.heap H).get? b=some o:=λe n=>zqE e n;have noA:∀ {b:Addr} {o:Obj} {es:Array DictEntry} {ep:Nat},s₁.heap.get? b=some o->o.data= .dict es ep->H b=none:=λ {b o es ep} e d=>by cases q:H b with|none=>rfl|some u=>have e':b=a:=hA b (by rw [q];simp);subst e';rw [ha] at e;cases e;have d':Data.seq vs.toArray _=Data.dict es ep:=d;cases d'
    have nsK:∀ {b:Addr} {m:Str->Option Value},s₁.heap.Ns b m->(zqo s₁.heap H).Ns b m:=λ {b m} ⟨o,es,ep,e,d,r⟩=>⟨o,es,ep,base_of e (noA e d),d,r⟩;have hKb:K.In (zqo s₁.heap H):=λb o e=>base_of (KX b o e) (by cases q:H b with|none=>rfl|some u=>have e':b=a:=hA b (by rw [q];simp);subst e';rw [hK (by rw [q];simp)] at e;cases e);have hM:Mod K mg (zqo s₁.heap H):=⟨hKb,nsK hns,⟨mb,nsK hb,hbb⟩,let ⟨mc,h1,h2⟩:=hlim;⟨mc,nsK h1,h2⟩⟩;have e0:Env0 P w K mg (zqo s₁.heap H) callerA [] s₁ H:=⟨rfl,hM,λb o e=>zrH e,Nat.le_of_eq (zop _ _),trivial,λb hb=>absurd (show b∈([]:List Addr) from hb) ↥4,hok,.of_eq hg⟩;refine codeAny_mono ((F _ hKb (nsK hns)).run callerA [] s₁ H ⟨[.ref a],[]⟩ [.ref a] [.ref a] _ _ hr e0 (hbind s₁ (.ref a)) (.cons rfl .nil) (hsp H hO hS)) λr s' h=> ?_
    cases r with
     |error e=>exact (hCX H e s' h).elim
     |ok fl=>
      cases fl with
       |next=>exact False.elim h
       |brk=>exact False.elim h
       |cont=>exact False.elim h
       |ret u=>
        obtain ⟨v,H',os,bare,un,hok',r',q⟩:=h;have q':v= .bl true:=q;subst q';obtain rfl:u=Value.bool true:=r';refine ⟨rfl,OldK.of_keep λb o e=> ?_,os,bare⟩
        cases q:H b with
         |none=>exact un.keep b o e q (by intro z;exact absurd (show b∈([]:List Addr) from z) ↥4) ↥4
         |some u=>
          rcases hO b with z|⟨ob,xs,z⟩
          ·rw [q] at z;cases z
          ·have z2:=un.frzs b ob _ z;obtain ⟨e1,_⟩:=hok b _ z;obtain ⟨e2,_⟩:=hok' b _ z2;rw [e] at e1;cases e1;exact e2
   cases hk:K.lookup a with
    |some o=>have e:=KX a o hk;rw [ha] at e;cases e;refine core (λ_=>none) (λ_=> .inl rfl) (.inr ⟨_,vs.toArray,_,hk,rfl,rfl,rfl,by rw [List.size_toArray,lenV];exact hl,by simpa using rv⟩) (λb u z=>by have z':(none:Option HO)=some u:=z;cases z') (λb z=>absurd rfl z) λz=>absurd rfl z
    |none=>
     refine core (λb=>if b=a then some (.frz {cls:= .type "list",data:= .seq vs.toArray} (.lst (ns.map V.int))) else none) (λb=> ?_) (.inl (.inr ⟨{cls:= .type "list",data:= .seq vs.toArray},if_pos rfl⟩)) (λb u z=> ?_) (λb z=> ?_) λ_=>hk
     ·by_cases hb:b=a;·exact .inr ⟨_,_,if_pos hb⟩
      ·exact .inl (if_neg hb)
     ·by_cases hb:b=a;·have z':=(if_pos hb).symm.trans z;cases z';subst hb;exact ⟨ha,by rw [List.length_map];exact hl,vs,_,rv,ha⟩
      ·have z':=(if_neg hb).symm.trans z;cases z'
     ·by_cases hb:b=a;·exact hb
      ·exact absurd (if_neg hb) z
end L2
namespace L2
open PySem PySem.Spec PyProof.Rows
theorem zr9 {l:W.OpenLaw} {n k:Nat} {q:Program} {loose:List Str} {XP:(Str->Option Value)->Heap->Prop} {YP:World->Heap->Prop} {d:DefRec} {K:Params->W.Frag} {CX:World->CXT} {sp:World->Sp} {x:Str}
  (hn:l.most=some n) (hn2:n≤sizeLine) (hdf:d.params.defaults=[]) (hr:Room k callerA)
  (hY:∀(w:World) (h:Heap),YP w h->(K w.params).In h)
  (F:∀(w:World) (mg:Str->Option Value) (fa:Addr) (h:Heap),(K w.params).In h->h.Ns mainGlobals mg->mg d.name=some (.ref fa)→∃fd:FuncData,(∀(s:Shared) (u:Value),BindsTo s fd ⟨[u],[]⟩ [(x,u)])∧∀base:Heap,(K w.params).In base->base.Ns mainGlobals mg->FnOk l.prog w (K w.params) mg base (CX w) k fa fd [x] (sp w))
  (hsp:∀(w:World) (H:Hp) (a:Addr) (ns:Ji),ns.length≤n->zvA H->SqL (K w.params) H a (ns.map V.int)->sp w [.ref a] H (λv _=>v= .bl true) λ_ _ _=>False)
  (hCX:∀(w:World) (H:Hp) (s:Shared) (e:Value) (s':Shared),CX w [] H s (λ_ _ _=>False) e s'->False) :
  W.WalkO q loose XP YP l.row.toRowW d [] (λf vs=>PySem.call f vs):=by refine Att.attach_call hn hdf λw s₀ s₁ mg mb fa o pm cd doc a vs ns G Y ho hd hcd hmg hobj hints hlen hg=> ?_;have KX:=hY w _ Y;obtain ⟨fd,hb,hF⟩:=F w mg fa _ KX G.T.g hmg;exact zpX KX G.T.g G.T.b G.T.builtins G.T.nolimit hg hobj hints (Nat.le_trans hlen hn2) hr hF hb (λH hO hS=>hsp w H a ns hlen hO hS) λH e s'=>hCX w H s₁ e s'
end L2
namespace L2
open PySem PySem.Spec PyProof.Rows
def zcQ (s:Stmt) (j:Nat):Stmt:=match s with| .ClassDef _ _ _ body _ _ _ _ _ _ _=>body.getD j (.Pass ⟨0,0,0,0⟩)|_=> .Pass ⟨0,0,0,0⟩
def zf1 (s:Stmt):Arguments:=match s with| .FunctionDef _ a _ _ _ _ _ _ _ _=>a|_=> {posonlyargs:=[],args:=[],vararg:=none,kwonlyargs:=[],kw_defaults:=[],kwarg:=none,defaults:=[]}
def zed (s:Stmt):List Stmt:=match s with| .FunctionDef _ _ b _ _ _ _ _ _ _=>b|_=>[]
def zaf (s:Stmt):Scope:=match s with| .FunctionDef _ _ _ _ _ _ sc _ _ _=>sc|_=> {kind:= .function,names:=[],isGenerator:=false,isCoroutine:=false}
abbrev E0:XK:=λ_ _ _=>False
structure Fun (K:W.Frag) (x qual:Str) (st:Stmt) (f:Addr) (fd:FuncData):Prop where
 ex:∃ (oc:Value) (od:Option Addr) (kV doc pm:Value) (an:Option Addr) (cdv ct:Value) (osl:Array (Option Value)),
  fd=W.fnOf x qual (zf1 st) (zed st) (zaf st) .none kV doc pm an cdv ct∧K.lookup f=some ⟨oc,od,.func fd,osl⟩∧W.codeIn K cdv qual=true
 kp:W.keepIn K (.ref f)=true
section
variable {P:Program} {w:World} {K:W.Frag} {mg:Str->Option Value} {base:Heap}
theorem Fun.binds {x qual:Str} {st:Stmt} {f:Addr} {fd:FuncData} {ps:List Str} (F:Fun K x qual st f fd)
  (h:∀(kV doc pm:Value) (an:Option Addr) (cdv ct:Value) (us:List Value),us.length=ps.length->bindArgs (W.fnOf x qual (zf1 st) (zed st) (zaf st) .none kV doc pm an cdv ct) ⟨us,[]⟩=pure (ps.zip us)):zeW K fd ps []:=by obtain ⟨oc,od,kV,doc,pm,an,cdv,ct,osl,rfl,lk,hcd⟩:=F.ex;exact .all (h kV doc pm an cdv ct)
theorem zqJ {x qual:Str} {st:Stmt} {f:Addr} {oc:Value} {od an:Option Addr} {osl:Array (Option Value)} {kV doc pm cdv ct:Value} (l:K.lookup f=some ⟨oc,od,.func (W.fnOf x qual (zf1 st) (zed st) (zaf st) .none kV doc pm an cdv ct),osl⟩)
  (c:W.codeIn K cdv qual=true) (k:W.keepIn K (.ref f)=true):Fun K x qual st f (W.fnOf x qual (zf1 st) (zed st) (zaf st) .none kV doc pm an cdv ct):=⟨⟨oc,od,kV,doc,pm,an,cdv,ct,osl,rfl,l,c⟩,k⟩
end
section
variable {X:Cx}
theorem pv (i:Nat) {x:Str} {pos:Pos} (hN:X.N[i]?=some x:=by rfl) (hv:Vis X.env.scope x:=by first | exact Or.inl rfl | exact Or.inr ↥0 | exact Or.inr (Or.inr rfl)) (hd:↑57=false:=by decide)
  (hcd:(x==("__classdict__" :Str))=false:=by decide):PE X (.Name x pos) (zhi i):=zt7 hN hv hd hcd
end
def Same (H H':Hp):Prop:=∀b o,H b=some o->H' b=some o
theorem Same.refl (H:Hp):Same H H:=λ_ _ h=>h
theorem Same.trans {H H1 H2:Hp} (a:Same H H1) (b:Same H1 H2):Same H H2:=λc o h=>b c o (a c o h)
theorem Same.free {H H':Hp} (e:Same H H') {l:Addr} (h:H' l=Option.none):H l=Option.none:=by cases q:H l with|none=>rfl|some o=>rw [e l o q] at h;cases h
theorem Same.seq {K:W.Frag} {H H':Hp} {a:Addr} {xs:List V} (e:Same H H') (h:SqL K H a xs):SqL K H' a xs:=by
 rcases h with (h|⟨o,h⟩)|h
 ·exact .inl (.inl (e _ _ h))
 ·exact .inl (.inr ⟨o,e _ _ h⟩)
 ·exact .inr h
end L2
namespace L2
open PySem PySem.Spec PyProof.Rows
theorem zgH {env:Env}:∀(names:List (Str×NameKind)) (acc:List (Str×Addr)),(∀x∈names,x.2= .free->∃c,env.cells.lookup x.1=some c)→∃cl:List (Str×Addr),(forIn (m:=Sem) names acc λ(x:Str×NameKind) (cs:List (Str×Addr))=>if (x.2==NameKind.free)=true then (do
 let a←cellOf env x.1;
 pure (ForInStep.yield ((x.1,a)::cs))) else pure (ForInStep.yield cs))=pure cl∧(∀x c,cl.lookup x=some c->acc.lookup x=some c∨env.cells.lookup x=some c)∧(∀x,((x,NameKind.free)∈names∨∃c,acc.lookup x=some c)->∃c,cl.lookup x=some c)
 | [],acc,_=>⟨acc,rfl,λ_ _ h=> .inl h,λx h=>by
  rcases h with h|h
  ·cases h
  ·exact h⟩
 | (n,k) :: r,acc,h=>by
  have hr:∀x∈r,x.2= .free->∃c,env.cells.lookup x.1=some c:=λx hx=>h x (List.mem_cons_of_mem _ hx);by_cases hk:k= .free
  ·subst hk;obtain ⟨c,hc⟩:=h (n,.free) List.mem_cons_self rfl;obtain ⟨cl,e,h1,h2⟩:=zgH r ((n,c)::acc) hr;refine ⟨cl,?_,λx c' q=> ?_,λx q=> ?_⟩
   ·rw [List.forIn_cons];have e1:cellOf env n=pure c:=by unfold cellOf;rw [hc]
    simp only [beq_self_eq_true,if_true,e1];exact e
   ·rcases h1 x c' q with z|z
    ·rw [List.lookup_cons] at z;cases hx:x==n with|true=>rw [hx] at z;have z':some c=some c':=z;cases z';have:x=n:=eq_of_beq hx;subst this;exact .inr hc|false=>rw [hx] at z;exact .inl z
    ·exact .inr z
   ·refine h2 x ?_;by_cases hx:x=n;·subst hx;exact .inr ⟨c,by rw [List.lookup_cons];simp⟩
    ·rcases q with q|⟨c',q⟩
     ·rcases List.mem_cons.mp q with q|q
      ·exact absurd (congrArg Prod.fst q) hx
      ·exact .inl q
     ·refine .inr ⟨c',?_⟩;have:(x==n)=false:=by simpa using hx
      rw [List.lookup_cons,this];exact q
  ·obtain ⟨cl,e,h1,h2⟩:=zgH r acc hr;refine ⟨cl,?_,h1,λx q=>h2 x ?_⟩
   ·rw [List.forIn_cons];have e1:(k==NameKind.free)=false:=by simpa using hk
    simp only [e1,Bool.false_eq_true,if_false];exact e
   ·rcases q with q|q
    ·rcases List.mem_cons.mp q with q|q
     ·exact absurd (congrArg Prod.snd q).symm hk
     ·exact .inl q
    ·exact .inr q
theorem zm6 {scope:Scope} {env:Env} (h:∀x∈scope.names,x.2= .free->∃c,env.cells.lookup x.1=some c) :
  ∃cl,closureFor scope env=pure cl∧(∀x c,cl.lookup x=some c->env.cells.lookup x=some c)∧∀x,(x,NameKind.free)∈scope.names->∃c,cl.lookup x=some c:=by
   obtain ⟨cl,e,h1,h2⟩:=zgH (env:=env) scope.names [] h;refine ⟨cl,?_,λx c q=>(h1 x c q).elim (λz=>by cases z) id,λx q=>h2 x (.inl q)⟩
   have e2:closureFor scope env=(forIn (m:=Sem) scope.names [] λ(x:Str×NameKind) (cs:List (Str×Addr))=>if (x.2==NameKind.free)=true then (do
    let a←cellOf env x.1;
    pure (ForInStep.yield ((x.1,a)::cs))) else pure (ForInStep.yield cs))>>=λr=>pure r:=by unfold closureFor;rfl
   rw [e2,e];rfl
theorem zdD {env:Env}:∀ {names:List (Str×NameKind)} {x:Str} {k:NameKind},(names.map λ(n,k)=>if (k==NameKind.free && env.scope.kind== .function && env.kindOf n==some .cell) then (n,NameKind.cell) else (n,k)).lookup x=some k→names.lookup x=some k∨(k= .cell∧names.lookup x=some .free)
 | [],_,_,h=>by simp at h
 | (n,k') :: r,x,k,h=>by
  have ih:= @zdD env r x k;have h:List.lookup x ((if (k'==NameKind.free && env.scope.kind== .function && env.kindOf n==some .cell)=true then (n,NameKind.cell) else (n,k'))::_)=some k:=h
  cases hx:x==n with
   |true=>
    by_cases hc:(k'==NameKind.free && env.scope.kind== .function && env.kindOf n==some .cell)=true;·rw [if_pos hc] at h;simp only [List.lookup_cons,hx] at h;cases h;simp only [Bool.and_eq_true,beq_iff_eq] at hc;refine .inr ⟨rfl,?_⟩;simp [List.lookup_cons,hx,hc.1.1]
    ·rw [if_neg hc] at h;simp only [List.lookup_cons,hx] at h;cases h;exact .inl (by simp [List.lookup_cons,hx])
   |false=>
    have h':(r.map λ(n,k)=>if (k==NameKind.free && env.scope.kind== .function && env.kindOf n==some .cell) then (n,NameKind.cell) else (n,k)).lookup x=some k:=by
     by_cases hc:(k'==NameKind.free && env.scope.kind== .function && env.kindOf n==some .cell)=true;·rw [if_pos hc] at h;simpa only [List.lookup_cons,hx] using h
     ·rw [if_neg hc] at h;simpa only [List.lookup_cons,hx] using h
    simpa only [List.lookup_cons,hx] using ih h'
theorem zfv:∀(names:List (Str×NameKind)) (a:Nat) (acc:List (Str×Addr)) (x:Str) (c:Addr),(cellsFrom a names acc).lookup x=some c->((x,NameKind.cell)∈names∧a≤c)∨((x,NameKind.cell)∉names∧acc.lookup x=some c)
 | [],_,_,_,_,h=> .inr ⟨by simp,h⟩
 | (n,k) :: r,a,acc,x,c,h=>by
  unfold cellsFrom at h;by_cases hk:k= .cell
  ·subst hk;rw [if_pos (by rfl)] at h;rcases zfv r (a+1) ((n,a)::acc) x c h with ⟨h1,h2⟩|⟨h1,h2⟩
   ·exact .inl ⟨List.mem_cons_of_mem _ h1,Nat.le_of_succ_le h2⟩
   ·rw [List.lookup_cons] at h2
    cases hx:x==n with
     |true=>rw [hx] at h2;have h2:some a=some c:=h2;cases h2;rw [eq_of_beq hx];exact .inl ⟨List.mem_cons_self,Nat.le_refl _⟩
     |false=>
      rw [hx] at h2;refine .inr ⟨λz=> ?_,h2⟩;rcases List.mem_cons.mp z with z|z
      ·have:=congrArg Prod.fst z;have:x=n:=this;rw [this] at hx;simp at hx
      ·exact h1 z
  ·have hk':(k==NameKind.cell)=false:=by simpa using hk
   rw [hk',if_neg ↥4] at h;rcases zfv r a acc x c h with ⟨h1,h2⟩|⟨h1,h2⟩
   ·exact .inl ⟨List.mem_cons_of_mem _ h1,h2⟩
   ·refine .inr ⟨λz=> ?_,h2⟩;rcases List.mem_cons.mp z with z|z
    ·exact hk (congrArg Prod.snd z).symm
    ·exact h1 z
theorem zhJ:∀(names:List (Str×NameKind)) (a:Nat) (acc:List (Str×Addr)) (x:Str),((x,NameKind.cell)∈names∨∃c,acc.lookup x=some c)->∃c,(cellsFrom a names acc).lookup x=some c
 | [],_,_,_,h=>by
  rcases h with h|h
  ·simp at h
  ·exact h
 | (n,k) :: r,a,acc,x,h=>by
  unfold cellsFrom;by_cases hk:k= .cell
  ·subst hk;rw [if_pos (by rfl)];refine zhJ r (a+1) ((n,a)::acc) x ?_;by_cases hx:x=n;·subst hx;exact .inr ⟨a,by rw [List.lookup_cons];simp⟩
   ·rcases h with h|⟨c,h⟩
    ·rcases List.mem_cons.mp h with h|h
     ·exact absurd (congrArg Prod.fst h) hx
     ·exact .inl h
    ·refine .inr ⟨c,?_⟩;have:(x==n)=false:=by simpa using hx
     rw [List.lookup_cons,this];exact h
  ·have hk':(k==NameKind.cell)=false:=by simpa using hk
   rw [hk',if_neg ↥4];refine zhJ r a acc x ?_;rcases h with h|h
   ·rcases List.mem_cons.mp h with h|h
    ·exact absurd (congrArg Prod.snd h).symm hk
    ·exact .inl h
   ·exact .inr h
theorem zgb:∀(names:List (Str×NameKind)) (a:Nat) (acc acc':List (Str×Addr)) (x:Str),((x,NameKind.cell)∈names∨acc.lookup x=acc'.lookup x)->(cellsFrom a names acc).lookup x=(cellsFrom a names acc').lookup x
 | [],_,_,_,_,h=>by
  rcases h with h|h
  ·simp at h
  ·exact h
 | (n,k) :: r,a,acc,acc',x,h=>by
  unfold cellsFrom;by_cases hk:k= .cell
  ·subst hk;rw [if_pos (by rfl),if_pos (by rfl)];refine zgb r (a+1) _ _ x ?_;by_cases hx:x=n;·subst hx;exact .inr (by rw [List.lookup_cons,List.lookup_cons];simp)
   ·have hx':(x==n)=false:=by simpa using hx
    rcases h with h|h
    ·rcases List.mem_cons.mp h with h|h
     ·exact absurd (congrArg Prod.fst h) hx
     ·exact .inl h
    ·exact .inr (by rw [List.lookup_cons,List.lookup_cons,hx'];exact h)
  ·have hk':(k==NameKind.cell)=false:=by simpa using hk
   rw [hk',if_neg ↥4,if_neg ↥4];refine zgb r a _ _ x ?_;rcases h with h|h
   ·rcases List.mem_cons.mp h with h|h
    ·exact absurd (congrArg Prod.snd h).symm hk
    ·exact .inl h
   ·exact .inr h
theorem zeA {M:Model} {A:Around} {E:Value->Shared->Prop} {s:Shared} {scope:Scope} {globals:Addr} {closure:List (Str×Addr)} {qual:Str} {func:Option Addr} {code:Value} {outer:Env} {builtins:Addr} {Q:Env->Shared->Prop}
  (hQ:∀h',h'.Ns s.heap.objs.size (λ_=>none)->(∀b o,s.heap.get? b=some o->h'.get? b=some o)→(∀x c,(x,NameKind.cell)∈scope.names->(cellsFrom ↑37 scope.names closure).lookup x=some c->h'.IsCell c none)→Q (newEnv scope s.heap.objs.size globals (cellsFrom ↑37 scope.names closure) qual func code (some outer) builtins) {s with heap:=h'}) :
  wpAny M A (newFunctionEnv scope globals closure [] qual func code (some outer) builtins) Q E s:=by simp only [newFunctionEnv,Option.isSome_some,if_true];refine wpAny_bind (wpAny_alloc ?_);refine wpAny_bind (wpAny_layCells _ (λname kind cells=>by cases hkc:kind==NameKind.cell<;>simp [hkc]) _ _ _ _ ?_);have ok:=cellsFrom_ok scope.names (s.heap.push {cls:= .type "dict",data:= .dict #[]}) ↑37 [] ⟨λ_ _ hm=>(nomatch hm),List.Pairwise.nil⟩ (by rw [Heap.size_push];exact Nat.le_refl _);rw [Heap.size_push] at ok;rw [show ({s with heap:=s.heap.push {cls:= .type "dict",data:= .dict #[]}}:Shared).heap.objs.size=s.heap.objs.size+1 from Heap.size_push ..];simp only [List.forIn_nil];refine wpAny_bind (wpAny_pure (wpAny_pure (hQ _ ((Heap.Ns.new s.heap (.type "dict")).keeps (pushCells_keeps _ _)) (λb o e=>pushCells_keeps _ _ b o (Heap.get?_push_of_some _ e)) λx c hx hc=> ?_)));rw [zgb _ _ closure [] x (.inl hx)] at hc;exact (ok.empty x c (PySem.mem_of_lookup hc)).1
def zcc (X:Cx) (N':List Str) (scope:Scope) (cl:List (Str×Addr)) (C:Addr) (fp:List Addr) (s:Shared) (H:Hp):Cx where
 prog:=X.prog
 w:=X.w
 K:=X.K
 mg:=X.mg
 base:=X.base
 A:=X.A
 N:=N'
 s₀:=s
 H₀:=H
 env:=compEnvC scope cl C X.env
 outer:=X.stack
 stack:=X.stack
 ex:=fp
 fn:=λx=>scope.names.lookup x == some .cell
 calm:=true
 pn:=X.pn
 xe:=λ_ _=>False
def zh2 (own:Nat) (fv:List Nat) (σ:St):St:=List.replicate own none++fv.map λi=>(σ[i]?).join
structure BlkScope (X:Cx) (scope:Scope) (own fvn:List Str) (fv:List Nat):Prop where
 cell:∀ y∈scope.names,y.2=.cell->scope.names.lookup y.1=some .cell
 fre:∀ y∈scope.names,y.2=.free->scope.names.lookup y.1=some .free
 kind:scope.kind=.function
 names:∀ y∈scope.names,y.2=.local->scope.names.lookup y.1=some .local
 free:∀ y∈scope.names,y.2=.free->X.env.scope.names.lookup y.1=some .cell∨X.env.scope.names.lookup y.1=some .free
 map:fvn.map some=fv.map λi=>X.N[i]?
 vis:∀ x∈fvn,scope.names.lookup x=some .free
section
variable {X:Cx} {pins:List ↑4} {σ:St} {H:Hp} {s:Shared}
def zpG (X:Cx) (scope:Scope) (cl:List (Str×Addr)) (C:Addr):Prop:=(∀x c,cl.lookup x=some c->(X.env.cells.lookup x=some c∧scope.names.lookup x≠some .cell)∨(C<c∧scope.names.lookup x=some .cell))∧(∀x y c,C<c->cl.lookup x=some c->cl.lookup y=some c->x=y)∧∀x,((x,NameKind.free)∈scope.names∨(x,NameKind.cell)∈scope.names)->∃c,cl.lookup x=some c
theorem ztR {scope:Scope} {own fvn:List Str} {fv:List Nat} {cl:List (Str×Addr)} {C:Addr} (B:BlkScope X scope own fvn fv) (h1:∀x c,cl.lookup x=some c->X.env.cells.lookup x=some c) (h2:∀x,(x,NameKind.free)∈scope.names->∃c,cl.lookup x=some c)
  (hlt:∀x c,X.env.cells.lookup x=some c->c≤C):zpG X scope (cellsFrom (C+1) scope.names cl) C:=by
   refine ⟨λx c e=> ?_,λx y c hc e1 e2=> ?_,λx hx=> ?_⟩
   ·rcases zfv _ _ _ _ _ e with ⟨z1,z2⟩|⟨z1,z2⟩
    ·exact .inr ⟨z2,B.cell _ z1 rfl⟩
    ·exact .inl ⟨h1 x c z2,λq=>z1 (PySem.mem_of_lookup q)⟩
   ·have key:∀x,(cellsFrom (C+1) scope.names cl).lookup x=some c->(x,c)∈cellsFrom (C+1) scope.names []:=λx e=>by
     rcases zfv _ _ _ _ _ e with ⟨z1,z2⟩|⟨z1,z2⟩
     ·rw [zgb _ _ cl [] x (.inl z1)] at e;exact PySem.mem_of_lookup e
     ·exact absurd (hlt x c (h1 x c z2)) (Nat.not_le.mpr hc)
    have ap:∀(names:List (Str×NameKind)) (a:Nat) (acc:List (Str×Addr)),(∀e∈acc,e.2<a)->(acc.Pairwise λx y=>x.2≠y.2)->(cellsFrom a names acc).Pairwise λx y=>x.2≠y.2:=by
     intro names
     induction names with
      |nil=>intro a acc _ h;exact h
      |cons nk r ih=>
       intro a acc h h';obtain ⟨n,k⟩:=nk;unfold cellsFrom;split
       ·refine ih (a+1) _ (λe he=> ?_) (List.pairwise_cons.mpr ⟨λy hy=>Nat.ne_of_gt (h y hy),h'⟩);rcases List.mem_cons.mp he with rfl|he
        ·exact Nat.lt_succ_self _
        ·exact Nat.lt_succ_of_lt (h e he)
       ·exact ih a acc h h'
    exact PySem.name_of_addr (ap scope.names (C+1) [] ↥4 .nil) (key x e1) (key y e2)
   ·refine zhJ _ _ _ _ ?_;rcases hx with hx|hx
    ·exact .inr (h2 x hx)
    ·exact .inl hx
theorem zpV {scope:Scope} {own fvn:List Str} {fv:List Nat} {cl:List (Str×Addr)} {C:Addr} {fp:List Addr} (I:Inv X pins σ H s) (B:BlkScope X scope own fvn fv) (hc:X.calm=true)
  (hb:zpG X scope cl C)
  (hC:s.heap.objs.size≤C) (hf:∀b∈fp,zlS X pins H b) (hl:∀b∈fp,b<s.heap.objs.size):(↑64).Ok where
 mod:=I.ok.mod
 kind:=B.kind
 glob:=I.ok.glob
 blt:=I.ok.blt
 above:=hC
 inj:=λx y c e1 e2=>by
  have lt:∀ z,X.env.cells.lookup z=some c->c<s.heap.objs.size:=λz e=>by obtain ⟨v,q⟩:=I.cell z c e;exact q.lt
  rcases hb.1 x c e1 with ⟨z1,_⟩ | ⟨z1,_⟩
  ·rcases hb.1 y c e2 with ⟨z2,_⟩ | ⟨z2,_⟩
   ·exact I.ok.inj x y c z1 z2
   ·exact absurd (Nat.lt_of_lt_of_le (lt x z1) hC) (Nat.not_lt.mpr (Nat.le_of_lt z2))
  ·exact hb.2.1 x y c z1 e1 e2
 has:=λx hx=>by
  have hx:(scope.names.map λ(n,k)=>if (k == NameKind.free&&X.env.scope.kind == .function&&X.env.kindOf n == some .cell) then (n,NameKind.cell) else (n,k)).lookup x=some .cell ∨
   (scope.names.map λ(n,k)=>if (k == NameKind.free&&X.env.scope.kind == .function&&X.env.kindOf n == some .cell) then (n,NameKind.cell) else (n,k)).lookup x=some .free:=hx
  refine hb.2.2 x ?_
  rcases hx with hx | hx
  ·rcases zdD hx with z | ⟨_,z⟩
   ·exact .inr (PySem.mem_of_lookup z)
   ·exact .inl (PySem.mem_of_lookup z)
  ·rcases zdD hx with z | ⟨z,_⟩
   ·exact .inl (PySem.mem_of_lookup z)
   ·cases z
 cab:=λx c h e=>by
  have h:(scope.names.lookup x == some NameKind.cell)=true:=h
  rcases hb.1 x c e with ⟨_,z⟩ | ⟨z,_⟩
  ·exact absurd (eq_of_beq h) z
  ·exact Nat.le_trans hC (Nat.le_of_lt z)
 hd:=λ_=>I.ok.hd hc
 frames:=I.ok.frames
 stk:=.inl rfl
 exf:=λb hb'=>⟨Nat.ne_of_lt (Nat.lt_of_lt_of_le (hl b hb') hC),λx c e=>by
  rcases hb.1 x c e with ⟨z,_⟩ | ⟨z,_⟩
  ·exact (hf b hb').2.2.2.2.1 x c z
  ·exact Nat.ne_of_gt (Nat.lt_trans (Nat.lt_of_lt_of_le (hl b hb') hC) z)⟩
 bs:=I.bs
 bsz:=Nat.le_trans I.ok.bsz I.sz
 noex:=λb o e hb=>by
  rcases (hf b hb).2.2.2.1 with z | z
  ·exact I.ok.noex b o e z
  ·exact absurd (Nat.lt_of_lt_of_le (Heap.lt_size (I.ok.bs b o e).1) z) (Nat.lt_irrefl _)
 exfs:=λb hb z=>by
  rcases List.mem_cons.mp (I.stkSub b z) with q | q
  ·exact (hf b hb).2.1 q
  ·exact (hf b hb).2.2.1 q
 funs:=I.stack
 frf:=I.stkFree
theorem zsT {own:List Str} {fvn:List Str} {fv:List Nat} {i:Nat} {x:Str} {v:V} (hm:fvn.map some=fv.map λi=>X.N[i]?) (h1:(own++fvn)[i]? =some x) (h2:(zh2 own.length fv σ)[i]? =some (some v)) :
  x∈fvn∧∃j:Nat,X.N[j]? =some x∧σ[j]? =some (some v):=by
   unfold zh2 at h2;by_cases hi:i<own.length;·rw [List.getElem?_append_left ↑44,List.getElem?_replicate] at h2;split at h2<;>cases h2
   ·rw [List.getElem?_append_right ↑44,List.length_replicate,List.getElem?_map] at h2;rw [List.getElem?_append_right ↑44] at h1;have q:(fvn.map some)[i-own.length]? =(fv.map λi=>X.N[i]?)[i-own.length]? :=by rw [hm]
    rw [List.getElem?_map,List.getElem?_map,h1] at q
    cases e:fv[i-own.length]? with
     |none=>rw [e] at h2;cases h2
     |some j=>rw [e] at h2 q;have q':X.N[j]? =some x:=(Option.some.inj q).symm;have h2':(σ[j]?).join=some v:=Option.some.inj h2;refine ⟨List.mem_of_getElem? h1,j,q',?_⟩;cases e2:σ[j]? with|none=>rw [e2] at h2';cases h2'|some o=>rw [e2] at h2';have:o=some v:=h2';rw [this]
theorem zkJ {scope:Scope} {own fvn:List Str} {fv:List Nat} {cl:List (Str×Addr)} {C D:Addr} {fp:List Addr} {h':Heap} {t':Nat} {m:Str->Option Value} (I:Inv X pins σ H s) (B:BlkScope X scope own fvn fv) (hc:X.calm=true)
  (hb:zpG X scope cl C) (hnew:∀x c,C<c->cl.lookup x=some c->h'.IsCell c none)
  (hf:∀b∈fp,zlS X pins H b) (hl:∀b∈fp,b<s.heap.objs.size) (hD:s.heap.objs.size≤D) (hC:s.heap.objs.size≤C) (hDC:D<C)
  (k:∀b o,s.heap.get? b=some o->h'.get? b=some o) (hn:h'.Ns C m) (ho:h'.get? D=some {cls:= .type "list",data:= .seq #[] 0}) :
  Inv ↑64 pins (zh2 own.length fv σ) (upd H D (.lst [])) {s with heap:=h',toks:=t'}:=by
   have hDn:H D=none:=I.hok.fresh hD;have hCn:H C=none:=I.hok.fresh hC;have lt:∀b o,s.heap.get? b=some o->b≠D:=λb o e=>Nat.ne_of_lt (Nat.lt_of_lt_of_le ↑38 hD);refine ⟨zpV I B hc hb hC hf hl,rfl,I.bare,Un.laid k hD hDn,⟨m,hn,λi x v e1 e2 e3=> ?_⟩,λx c e=> ?_,?_,λx c e=> ?_,λp hp=> ?_,?_,?_⟩
   ·obtain ⟨hx,j,e4,e5⟩:=zsT B.map e1 e2;have hfr:=B.vis x hx;obtain ⟨c,hcl⟩:=hb.2.2 x (.inl (PySem.mem_of_lookup hfr))
    have h1x:X.env.cells.lookup x=some c:=by
     rcases hb.1 x c hcl with ⟨z,_⟩|⟨_,z⟩
     ·exact z
     ·rw [hfr] at z;cases z
    obtain ⟨m0,hn0,hl0⟩:=I.loc;have ok:=B.free _ (PySem.mem_of_lookup hfr) rfl
    have hv:Vis X.env.scope x:=by
     rcases ok with z|z
     ·exact .inr (.inl z)
     ·exact .inr (.inr z)
    obtain ⟨u,r,l⟩:=hl0 j x v e4 e5 hv;refine ⟨u,r,.inr ⟨?_,c,hcl,?_⟩⟩
    ·rcases e3 with z|z|z
     ·have z':(scope.names.map λ(n,k)=>if (k==NameKind.free && X.env.scope.kind== .function && X.env.kindOf n==some .cell) then (n,NameKind.cell) else (n,k)).lookup x=some .local:=z;rcases zdD z' with y|⟨y,_⟩
      ·rw [hfr] at y;cases y
      ·cases y
     ·exact .inl z
     ·exact .inr z
    ·rcases l with ⟨k0,_⟩|⟨_,c',e6,o,ho',hd⟩
     ·have k0':X.env.scope.names.lookup x=some .local:=k0;rcases ok with z|z<;>(rw [k0'] at z;cases z)
     ·rw [h1x] at e6;cases e6;exact ⟨o,k _ _ ho',hd⟩
   ·rcases hb.1 x c e with ⟨z,_⟩|⟨z,_⟩
    ·obtain ⟨v,o,ho',hd⟩:=I.cell x c z;exact ⟨v,o,k _ _ ho',hd⟩
    ·exact ⟨none,hnew x c z e⟩
   ·show upd H D (.lst []) C=none;rw [zam (Nat.ne_of_gt hDC)];exact hCn
   ·rcases hb.1 x c e with ⟨z,_⟩|⟨z,_⟩
    ·obtain ⟨v,o,ho',hd⟩:=I.cell x c z;rw [zam (lt _ _ ho')];exact I.freeC x c z
    ·rw [zam (Nat.ne_of_gt (Nat.lt_trans hDC z))];exact I.hok.fresh (Nat.le_trans hC (Nat.le_of_lt z))
   ·obtain ⟨e,n,ne,nf,d⟩:=I.pin p hp;refine ⟨k _ _ e,?_,Nat.ne_of_lt (Nat.lt_of_lt_of_le ↑38 hC),λz=> ?_,d⟩;·rw [zam (lt _ _ e)];exact n
    ·rcases List.mem_cons.mp (I.stkSub _ z) with q|q
     ·exact ne q
     ·exact nf q
   ·exact I.hok.laid k hD ⟨Nat.zero_le _,[],0,.nil,ho⟩
   ·have hm:=congrArg List.length B.map;rw [List.length_map,List.length_map] at hm;show (zh2 own.length fv σ).length=(own++fvn).length;unfold zh2;rw [List.length_append,List.length_append,List.length_replicate,List.length_map,hm]
theorem zot {scope:Scope} {N':List Str} {cl:List (Str×Addr)} {C:Addr} {fp:List Addr} {σ':St} {H':Hp} {s':Shared} (I:Inv X pins σ H s) (hC:s.heap.objs.size≤C) (hf:∀b∈fp,zlS X pins H b)
  (J:Inv (zcc X N' scope cl C fp s H) pins σ' H' s'):Inv X pins σ H' s'∧zlS X pins H' C:=by
   have I':Inv X pins σ H' s':=I.call' (ch:=fp) J.os J.base J.hok J.bare λb hb=>⟨(hf b hb).2.2.2.1,(hf b hb).2.1,(hf b hb).2.2.2.2.1,(hf b hb).2.2.2.2.2⟩;refine ⟨I',J.free,Nat.ne_of_gt (Nat.lt_of_lt_of_le I.lt hC),I.nofs hC,.inr (Nat.le_trans I.sz hC),λx c e z=> ?_,λp hp z=> ?_⟩;·obtain ⟨v,q⟩:=I.cell x c e;exact absurd (Nat.lt_of_lt_of_le q.lt (by rw [z];exact hC)) (Nat.lt_irrefl _)
   ·exact absurd (Nat.lt_of_lt_of_le (Heap.lt_size (I.pin p hp).1) (by rw [z];exact hC)) (Nat.lt_irrefl _)
end
section
variable {prog:Program} {w:World} {A:Around} {R:Result->Shared->Prop} {s:Shared}
theorem zoa {elt target iter:Expr} {ifs:List Expr} {scope:Scope} {pos:Pos} {it acc:Value} {env:Env} (I:Nat->Shared->Prop)
  (turn:∀n s,I n s->wpAny ↑26 A (pyNext it) (λr s₁=>match r with
   |none=>R (.ok .next) s₁
   |some v=>wpAny ↑26 A (letOwnedTupleGo target it v) (λ_ s₁'=>wpAny ↑26 A (assign target env v) (λ_ s₂=>wpAny ↑26 A (forIn ifs true λc r=>if r=true then do
    let ok←isTrue c env (eval c env);
    pure (ForInStep.yield ok) else pure (ForInStep.yield r)) (λok s₃=>if ok=true then wpAny ↑26 A (eval elt env) (λx s₄=>wpAny ↑26 A (call (.builtin "list.append") [acc,x]) (λ_ s₅=>∃m,m<n∧I m s₅) (λ_ _=>False) s₄) (λ_ _=>False) s₃ else∃m,m<n∧I m s₃) (λ_ _=>False) s₂) (λ_ _=>False) s₁') (λ_ _=>False) s₁) (λ_ _=>False) s)
  (n:Nat) (h:I n s) :
  codeAny ↑26 A (.compLoop (.ListComp elt [⟨target,iter,ifs,0⟩] scope pos) 0 it acc env) R s:=by
   refine codeAny_loop rfl I (λn s hI=> ?_) n h
   show wpAny _ A ((compTurn (.ListComp elt [⟨target,iter,ifs,0⟩] scope pos) 0 it acc env).onRaise (λx=>do
    noteFrame x env;
    theTreesLotGoes x)) _ _ s
   refine wpAny_noted ?_;rw [compTurn_list];refine wpAny_bind (wpAny_standAt (wpAny_bind (wpAny_mono (turn n s hI) (λr s₁ h₁=> ?_) λ_ _ h'=>h'.elim)))
   cases r with
    |none=>exact wpAny_pure h₁
    |some v=>refine wpAny_bind (wpAny_mono h₁ (λ_ s₁' h₁'=> ?_) λ_ _ h'=>h'.elim);refine wpAny_bind (wpAny_mono h₁' (λ_ s₂ h₂=>wpAny_bind (wpAny_mono h₂ (λok s₃ h₃=> ?_) λ_ _ h'=>h'.elim)) λ_ _ h'=>h'.elim);cases ok with|false=>exact wpAny_pure ⟨rfl,h₃⟩|true=>exact wpAny_bind (wpAny_bind (wpAny_mono h₃ (λx s₄ h₄=>wpAny_bind (wpAny_mono h₄ (λ_ s₅ h₅=>wpAny_pure (wpAny_pure ⟨rfl,h₅⟩)) λ_ _ h'=>h'.elim)) λ_ _ h'=>h'.elim))
end
abbrev TTs:=St->Hp->(Bool->Hp->Prop)->Prop
def PTs (X:Cx) (ifs:List Expr) (t:TTs):Prop :=
 ∀(pins:List ↑4) (s:Shared) (σ:St) (H:Hp) (Q:Bool->Hp->Prop),Inv X pins σ H s->t σ H Q→wpAny ↥5 X.A (forIn ifs true λc r=>if r=true then do
  let ok←isTrue c X.env (eval c X.env);
  pure (ForInStep.yield ok) else pure (ForInStep.yield r)) (TP X pins σ Q) X.xe s
def zta:TTs:=λ_ H Q=>Q true H
theorem zce {X:Cx}:PTs X [] zta:=λ_ _ _ H _ I h=>wpAny_tests_nil ⟨H,I,h⟩
theorem zow {X:Cx} {c:Expr} {t:TT} (h:PT X c t):PTs X [c] t:=λpins s σ H Q I hw=>wpAny_tests_one (h pins s σ H Q I hw)
def zpJ (own:Nat) (fv:List Nat) (wi:TI) (g:TG) (tt:TTs) (te:TE):TE:=λσ H Q=>wi σ H λJ H1=>∀D,H1 D=none→∃W:Nat->Nat->List V->St->Hp->Prop,(∃m,W 0 m [] (zh2 own fv σ) (upd H1 D (.lst [])))∧∀i m ys σb H,W i m ys σb H->H D=some (.lst ys)∧↑137
section
variable {X:Cx} {tg iter elt:Expr} {ifs:List Expr} {scope:Scope} {pos:Pos} {wi:TI} {g:TG} {tt:TTs} {te:TE} {own fvn:List Str} {fv:List Nat}
theorem zl9 {pins:List ↑4} {σ:St} {s:Shared} {Q:VK} {E:Value->Shared->Prop} {cl:List (Str×Addr)} {RR:Value->Addr->Result->Shared->Prop} {itv:Value}
  (hc:X.calm=true) (B:BlkScope X scope own fvn fv) (h1:∀x c,cl.lookup x=some c->X.env.cells.lookup x=some c) (h2:∀x,(x,NameKind.free)∈scope.names->∃c,cl.lookup x=some c)
  (hb:∀(cl:List (Str×Addr)) (C:Addr) (fp:List Addr) (s:Shared) (H:Hp),PG ↑64 tg g∧PTs ↑64 ifs tt∧PE ↑64 elt te)
  (P:PIE X pins σ tg (λJ H1=>∀D,H1 D=none→∃W:Nat->Nat->List V->St->Hp->Prop,(∃m,W 0 m [] (zh2 own.length fv σ) (upd H1 D (.lst [])))∧∀i m ys σb H,W i m ys σb H->H D=some (.lst ys)∧↑137) itv s)
  (hRR:∀D C s' H' m,Inv X pins σ H' s'->s'.heap.Ns C m->zlS X pins H' C->Q (.ref D) H'->RR (.ref D) C (.ok .next) s') :
  wpAny ↥5 X.A (newList []) (λacc s₃=>wpAny ↥5 X.A (newFunctionEnv scope X.env.globals cl [] X.env.qual none .none (some X.env)) (λcenv s₄=>codeAny ↥5 X.A (.compStart ↑91 0 itv acc {cenv with scope:=relabel scope X.env}) (RR acc cenv.locals) s₄) E s₃) E s:=by
   obtain ⟨it,fp,tn,J,H2,rfl,I2,T,st2,f2,hW⟩:=P;have hl:∀b∈fp,b<s.heap.objs.size:=λb hb=>by obtain ⟨o,e,_⟩:=T.obj _ _ st2 b hb;exact Heap.lt_size e
   refine wpAny_newObj_type (zeA (λh₁ hns₁ hsb₁ hcl₁=> ?_));dsimp only at hns₁ hsb₁ hcl₁ ⊢;generalize hH2:s.heap.push {cls:= .type "list",dict:=none,data:= .seq ([]:List Value).toArray}=G2 at hns₁ hsb₁ hcl₁ ⊢;have hC:G2.objs.size=s.heap.objs.size+1:=by rw [←hH2,Heap.size_push]
   have hDC:s.heap.objs.size<G2.objs.size:=by rw [hC];exact Nat.lt_succ_self _
   have hCle:s.heap.objs.size≤G2.objs.size:=by rw [hC];exact Nat.le_succ _
   have old:∀b o,s.heap.get? b=some o->h₁.get? b=some o:=λb o e=>hsb₁ b o (hH2 ▸ Heap.get?_push_of_some _ e);have hacc:h₁.get? s.heap.objs.size=some {cls:= .type "list",data:= .seq #[] 0}:=hsb₁ _ _ (hH2 ▸ Heap.get?_push_size _ rfl);have hbc:zpG X scope (cellsFrom (G2.objs.size+1) scope.names cl) G2.objs.size:=ztR B h1 h2 λx c e=>by obtain ⟨v,q⟩:=I2.cell x c e;exact Nat.le_trans (Nat.le_of_lt q.lt) hCle
   have hnew:∀x c,G2.objs.size<c->(cellsFrom (G2.objs.size+1) scope.names cl).lookup x=some c->h₁.IsCell c none:=λx c hc' e=>by
    rcases hbc.1 x c e with ⟨z,_⟩|⟨_,z⟩
    ·obtain ⟨v,q⟩:=I2.cell x c z;exact absurd (Nat.lt_of_lt_of_le q.lt hCle) (Nat.not_lt.mpr (Nat.le_of_lt hc'))
    ·exact hcl₁ x c (PySem.mem_of_lookup z) e
   generalize cellsFrom (G2.objs.size+1) scope.names cl=cl' at hbc hnew ⊢;clear h1 h2 hcl₁;obtain ⟨W,⟨m0,w0⟩,turn⟩:=hW s.heap.objs.size (I2.hok.fresh ↑8);have J0:∀t',Inv ↑83 pins (zh2 own.length fv σ) (upd H2 s.heap.objs.size (.lst [])) {s with heap:=h₁,toks:=t'}:=λt'=>zkJ I2 B hc hbc hnew f2 hl ↑8 hCle hDC old hns₁ hacc;obtain ⟨hpg,hpt,hpe⟩:=hb cl' G2.objs.size fp s H2
   have stat:∀ {H':Hp},(∀b∈fp,H' b=none)->∀b∈fp,zlS ↑83 pins H' b:=λhn b hb=>⟨hn b hb,Nat.ne_of_lt (Nat.lt_of_lt_of_le (hl b hb) hCle),λz=>by
    rcases List.mem_cons.mp (I2.stkSub b z) with q|q
    ·exact (f2 b hb).2.1 q
    ·exact (f2 b hb).2.2.1 q,.inl hb,λx c e=>(by
    rcases hbc.1 x c e with ⟨z,_⟩|⟨z,_⟩
    ·exact (f2 b hb).2.2.2.2.1 x c z
    ·exact Nat.ne_of_gt (Nat.lt_trans (Nat.lt_of_lt_of_le (hl b hb) hCle) z)),(f2 b hb).2.2.2.2.2⟩
   have st1:tn 0 h₁:=T.keep _ _ _ st2 λb hb o e=>old b o e;have fr1:∀b∈fp,upd H2 s.heap.objs.size (.lst []) b=none:=λb hb=>by rw [zam (Nat.ne_of_lt (hl b hb))];exact (f2 b hb).1
   have loop:∀s₃:Shared,s₃= {s with heap:=h₁}→codeAny ↥5 X.A (.compLoop ↑91 0 (.ref it) (.ref s.heap.objs.size) (compEnvC scope cl' G2.objs.size X.env)) (RR (.ref s.heap.objs.size) G2.objs.size) s₃:=by
    rintro s₃ rfl;refine zoa (λn s'=>∃i ys σ' H',Inv ↑83 pins σ' H' s'∧tn i s'.heap∧(∀b∈fp,H' b=none)∧W i n ys σ' H') ?_ m0 ⟨0,[],_,_,J0 s.toks,st1,fr1,w0⟩;rintro n s3 ⟨i,ys,σ3,H3,I3,st3,fr3,w3⟩;obtain ⟨hD,w3⟩:=turn i n ys σ3 H3 w3;rcases w3 with ⟨stop,qn⟩|⟨go,step⟩
    ·refine thn (T.done ↑83 rfl rfl rfl rfl i pins s3 σ3 H3 _ I3 (stat fr3) st3 stop) λr s4 ⟨hr,I4⟩=> ?_;subst hr;obtain ⟨I5,fC⟩:=zot I2 hCle f2 I4;obtain ⟨m,hn,_⟩:=I4.loc;exact hRR _ _ s4 H3 m I5 hn fC qn
    ·refine thn (T.item ↑83 rfl rfl rfl rfl i pins s3 σ3 H3 _ I3 (stat fr3) st3 go) λr s4 ⟨u,hr,h4⟩=> ?_;subst hr;refine thn h4 λ_ s5 ⟨x,H5,I5,r5,y5,st5,fr5⟩=> ?_;have I5':=I5.pinned (stat fr5) (T.obj _ _ st5);refine thn (hpg _ s5 σ3 H5 x u _ I5' r5 (step x H5 y5)) λ_ s6 ⟨σ6,H6,I6,q6⟩=> ?_;refine thn (hpt _ s6 σ6 H6 _ I6 q6) λok s7 ⟨H7,I7,q7⟩=> ?_;have again:∀ {s8:Shared} {σ8:St} {H8:Hp} {ys':List V} {m':Nat},Inv ↑83 (pins++zko fp s5.heap) σ8 H8 s8->m'<n->W (i+1) m' ys' σ8 H8→∃m,m<n∧∃i ys σ' H',Inv ↑83 pins σ' H' s8∧tn i s8.heap∧(∀b∈fp,H' b=none)∧W i m ys σ' H':=λ {s8 σ8 H8 ys' m'} I8 hm w8=>by refine ⟨m',hm,i+1,ys',σ8,H8,I8.unpinned,T.keep _ _ _ st5 λb hb o e=>(I8.pin (b,o) ↑116).1,λb hb=> ?_,w8⟩;obtain ⟨o,e,d⟩:=T.obj _ _ st5 b hb;exact (I8.pin (b,o) ↑116).2.1
     cases ok with
      |false=>rw [if_neg Bool.false_ne_true] at q7 ⊢;obtain ⟨m',hm,w8⟩:=q7;exact again I7 hm w8
      |true=>rw [if_pos rfl] at q7 ⊢;refine thn (hpe _ s7 σ6 H7 _ I7 q7) λyv s8 ⟨y,H8,I8,r8,hD8,hz8,m',hm,w8⟩=> ?_;refine thn (zkb _ s8 σ6 H8 (.ref s.heap.objs.size) [y] _ [yv] (λ_ H9=>H9=upd H8 s.heap.objs.size (.lst (ys++[y]))) I8 rfl (.cons r8 .nil) ⟨_,ys,y,rfl,rfl,hD8,hz8,rfl⟩) λ_ s9 ⟨_,H9,I9,_,e9⟩=> ?_;subst e9;exact again I9 hm w8
   exact codeAny_compStart_list (loop _ rfl) (T.self _ 0 _ _ _ st1 (loop _ rfl))
theorem zht (B:BlkScope X scope own fvn fv) (ok:X.Ok):∃cl,closureFor scope X.env=pure cl∧(∀x c,cl.lookup x=some c->X.env.cells.lookup x=some c)∧∀x,(x,NameKind.free)∈scope.names->∃c,cl.lookup x=some c :=
 zm6 λx hx hk=>ok.has x.1 (B.free x hx hk)
theorem zcT (hc:X.calm=true) (B:BlkScope X scope own fvn fv) (hi:PI X tg iter wi)
  (hb:∀(cl:List (Str×Addr)) (C:Addr) (fp:List Addr) (s:Shared) (H:Hp),PG ↑64 tg g∧PTs ↑64 ifs tt∧PE ↑64 elt te)
  (hs:∀x,foldedSetIterable iter X.env x=pure x:=by intro _;rfl):PE X ↑91 (zpJ own.length fv wi g tt te):=by intro pins s σ H Q I h;obtain ⟨cl,hcl,h1,h2⟩:=zht B I.ok;rw [eval_ListComp];refine wpAny_comprehension_free (use:=none) rfl hs hcl B.kind B.names (thn (hi pins s σ H _ I h) λv s1 q1=>thn q1 λitv s2 q2=> ?_);refine zl9 (RR:=λacc C=>compPost ↥5 X.A X.xe none ↑41 acc C) hc B h1 h2 hb q2 λD C s' H' m I' hn fC q=> ?_;exact ⟨m,hn,λh' hs'=>⟨.ref D,H',I'.turned (t':=s'.toks) (λb o hb e=>(hs'.2 b hb).trans e) fC.1 fC.2.1 fC.2.2.2.1 fC.2.2.2.2.1 fC.2.2.2.2.2,rfl,q⟩⟩
theorem zgK {i:Nat} {x:Str} {pos' spos:Pos} (hc:X.calm=true) (hN:X.N.Nodup) (hix:X.N[i]?=some x) (hx:X.env.scope.names.lookup x=some .local) (B:BlkScope X scope own fvn fv) (hi:PI X tg iter wi)
  (hb:∀(cl:List (Str×Addr)) (C:Addr) (fp:List Addr) (s:Shared) (H:Hp),PG ↑64 tg g∧PTs ↑64 ifs tt∧PE ↑64 elt te)
  (hsw:swapsWith ↑91 (some (.Name x pos')) spos.line X.env=pure true:=by rfl)
  (hs:∀x,foldedSetIterable iter X.env x=pure x:=by intro _;rfl) :
  PS X (.Assign [.Name x pos'] ↑91 spos) (zl3 (zpJ own.length fv wi g tt te) (zd0 i)):=by
   intro pins s σ H D I h;obtain ⟨cl,hcl,h1,h2⟩:=zht B I.ok;rw [exec_Assign_Name_used _ _ _ _ hsw];refine wpAny_bind (wpAny_standAt (wpAny_bind ?_));show wpAny _ _ (do let _←comprehension ↑91 scope X.env _ (newList []) false (eval iter X.env) (some (assign (.Name x pos') X.env))) _ _ s;refine wpAny_bind (wpAny_mono (wpAny_comprehension_free (use:=some (assign (.Name x pos') X.env)) (Q:=λ_ s'=>SP X pins D .next s') rfl hs hcl B.kind B.names (thn (hi pins s σ H _ I h) λv s1 q1=>thn q1 λitv s2 q2=> ?_)) (λ_ s' hq=>wpAny_pure (wpAny_pure hq)) λ_ _ e=>e);refine zl9 (Q:=λv H1=>zd0 i v σ H1 D.nx) (RR:=λacc C=>compPost ↥5 X.A X.xe (some (assign (.Name x pos') X.env)) (λ_ s'=>SP X pins D .next s') acc C) hc B h1 h2 hb q2 λDa C s' H' m I' hn fC q=> ?_;show wpAny _ _ (assign (.Name x pos') X.env (.ref Da)) _ _ _;refine wpAny_assign_Name (zj9 I' hN hix (.inl hx) (v:= .ref Da) rfl (λs'' I'' ⟨a,hsb,ha⟩=> ?_) (.inr hx))
   have hCa:C≠a:=by
    rcases ha with z|z
    ·rw [z];exact fC.2.1
    ·exact Ne.symm (fC.2.2.2.2.1 x a z)
   refine ⟨m,hn.sameBut hsb hCa,λh'' hs''=>⟨_,H',I''.turned (t':=s''.toks) (λb o hb e=>(hs''.2 b hb).trans e) fC.1 fC.2.1 fC.2.2.2.1 fC.2.2.2.2.1 fC.2.2.2.2.2,q⟩⟩
end
end L2
namespace L2
open PySem PySem.Spec PyProof.Rows
section
variable {X:Cx} {pins:List ↑4} {σ:St} {H:Hp} {s:Shared} {h':Heap}
theorem Inv.turnedNew {t':Nat} {ch:List Addr} {T:Addr} {o:HO} (I:Inv X pins σ H s) (hf:∀b∈ch,zlS X pins H b) (k:∀b u,b∉ch->s.heap.get? b=some u->h'.get? b=some u) (hT:s.heap.objs.size≤T)
  (new:zdT X.prog X.w (upd H T o) h' T o):Inv X pins σ (upd H T o) {s with heap:=h',toks:=t'}:=by
   have hn:H T=none:=I.hok.fresh hT;have lt:∀b u,s.heap.get? b=some u->b≠T:=λb u e=>Nat.ne_of_lt (Nat.lt_of_lt_of_le ↑38 hT);refine I.step (g':=s.gens) (d':=s.drawn) (ch:=ch) (λb hb=>⟨(hf b hb).2.2.2.1,(hf b hb).2.1,(hf b hb).2.2.2.2.1,(hf b hb).2.2.2.2.2⟩) (λb u _ _ hc e _=>k b u hc e) (λb u _ _ hc e _=>⟨u.slots,k b u hc e⟩) (λb u _ e n=>by rw [zam (lt b u e)];exact n) (λb u hc e=>⟨u,k b u hc e⟩) (λb xs e=>by rw [zam (zbd e hn)];exact e) (λb u xs e=>by rw [zam (zbd e hn)];exact e) (λb ps e=>⟨#[],by rw [zam (zbd e hn),e];simp⟩) (λm hm=> ?_) (λb u e=> ?_) I.bare;·obtain ⟨o,es,ep,ho,r⟩:=hm;exact ⟨o,es,ep,k _ o (λz=>(hf _ z).2.1 rfl) ho,r⟩
   ·by_cases hb:b=T;·subst hb;rw [zat] at e;cases e;exact new
    ·rw [zam hb] at e;refine (I.hok b u e).stay (λc v hc q=>k c v (λz=> ?_) q) (λc q=>by rw [zam (zbd q hn)];exact q) λc xs q=>by rw [zam (zbd q hn)];exact q
     have z':=(hf c z).1;rcases hc with hc|hc
     ·rw [hc,e] at z';cases z'
     ·rw [hc] at z';cases z'
theorem Inv.turnedL {t':Nat} {ch:List Addr} (I:Inv X pins σ H s) (hf:∀b∈ch,zlS X pins H b) (k:∀b u,b∉ch->s.heap.get? b=some u->h'.get? b=some u):Inv X pins σ H {s with heap:=h',toks:=t'}:=by
 refine I.step (g':=s.gens) (d':=s.drawn) (ch:=ch) (λb hb=>⟨(hf b hb).2.2.2.1,(hf b hb).2.1,(hf b hb).2.2.2.2.1,(hf b hb).2.2.2.2.2⟩) (λb u _ _ hc e _=>k b u hc e) (λb u _ _ hc e _=>⟨u.slots,k b u hc e⟩) (λb u _ e n=>n) (λb u hc e=>⟨u,k b u hc e⟩) (λb xs e=>e) (λb u xs e=>e) (λb ps e=>⟨#[],by rw [e];simp⟩) (λm hm=> ?_) (λb u e=> ?_) I.bare;·obtain ⟨o,es,ep,ho,r⟩:=hm;exact ⟨o,es,ep,k _ o (λz=>(hf _ z).2.1 rfl) ho,r⟩
 ·refine (I.hok b u e).stay (λc v hc q=>k c v (λz=> ?_) q) (λc q=>q) λc xs q=>q;have z':=(hf c z).1;rcases hc with hc|hc
  ·rw [hc,e] at z';cases z'
  ·rw [hc] at z';cases z'
end
def Itz (K:W.Frag) (a b:Addr):It :=
 ⟨λi H=>∃xs ys x y,SqL K H a xs∧SqL K H b ys∧xs[i]? =some x∧ys[i]? =some y,λi H v H'=>∃p x y,v= .ref p∧H p=none∧H'=upd H p (.tup [x,y])∧∀xs ys,SqL K H a xs->SqL K H b ys->xs[i]? =some x∧ys[i]? =some y,λi H=>∃xs ys,SqL K H a xs∧SqL K H b ys∧(xs.length≤i∨ys.length≤i)⟩
theorem zp3 {P:Program} {w:World} {K:W.Frag} {elts:List Expr} {x1:Nat} {tp:Pos} {a b z TI TO i1 i2:Addr} (D:ZipApart z TI TO i1 i2 a b) :
  Turn P w K (.Tuple elts x1 tp) (Itz K a b) [z,TI,TO,i1,i2] z (λi h=>IsZip h z TI TO .none∧IsPair h TI (.ref i1) (.ref i2)∧(∃p q,IsPair h TO p q)∧h.IsListIter i1 a i∧h.IsListIter i2 b i) where
 mem:=by simp
 obj:=λi h st c hc=>by
  obtain ⟨hz,hTI,⟨p,q,hTO⟩,⟨o1,e1,_,d1⟩,⟨o2,e2,_,d2⟩⟩:=st
  simp only [List.mem_cons,List.not_mem_nil,or_false] at hc
  rcases hc with rfl | rfl | rfl | rfl | rfl
  ·exact ⟨_,hz,λv z=>by cases z⟩
  ·exact ⟨_,hTI,λv z=>by cases z⟩
  ·exact ⟨_,hTO,λv z=>by cases z⟩
  ·exact ⟨o1,e1,λv z=>by rw [d1] at z;cases z⟩
  ·exact ⟨o2,e2,λv z=>by rw [d2] at z;cases z⟩
 keep:=λi h h' st k=>by
  obtain ⟨hz,hTI,⟨p,q,hTO⟩,h1,h2⟩:=st
  exact ⟨k z ↥4 _ hz,k TI ↥4 _ hTI,⟨p,q,k TO ↥4 _ hTO⟩,h1.at λo e=>k i1 ↥4 o e,h2.at λo e=>k i2 ↥4 o e⟩
 item:=by
  intro X hP hw hK hc i pins s σ H E I hf st hg
  subst hP hw hK
  obtain ⟨xs,ys,x,y,hxs,hys,hx,hy⟩:=hg
  obtain ⟨itx,rx,px,hzx⟩:=I.list hxs
  obtain ⟨ity,ry,py,hzy⟩:=I.list hys
  obtain ⟨u,hu,ru⟩:=rx.get hx
  obtain ⟨v,hv,rv⟩:=ry.get hy
  obtain ⟨hz,hTI,⟨p,q,hTO⟩,h1,h2⟩:=st
  refine wpAny_pyNext_zip_item (x:=u) (y:=v) D hz hTI hTO h1 h2 px.isList py.isList (by simpa using hu) (by simpa using hv) λh' a1 a2 a3 a4 a5 a6 hk=>?_
  refine ⟨_,rfl,wpAny_letOwnedTupleGo_zip a1 λh'' b1 b2=>?_⟩
  have zlt:z<s.heap.objs.size:=Heap.lt_size hz
  have lt:∀ c∈[z,TI,TO,i1,i2],c<s.heap.objs.size:=λc hc=>by
   simp only [List.mem_cons,List.not_mem_nil,or_false] at hc
   rcases hc with rfl | rfl | rfl | rfl | rfl
   ·exact zlt
   ·exact Heap.lt_size hTI
   ·exact Heap.lt_size hTO
   ·obtain ⟨_,e,_⟩:=h1;exact Heap.lt_size e
   ·obtain ⟨_,e,_⟩:=h2;exact Heap.lt_size e
  have tup:IsPair h'' s.heap.objs.size u v:=b2.extBut _ _ (Nat.ne_of_gt zlt) a5
  have I1:Inv X pins σ (upd H s.heap.objs.size (.tup [x,y])) { s with heap:=h'' }:=by
   refine I.turnedNew (t':=s.toks) (ch:=[z,TO,i1,i2]) (λc hc=>hf c ?_) (λc ob hc e=>?_) ↑8 ?_
   ·simp only [List.mem_cons,List.not_mem_nil,or_false] at hc ⊢
    rcases hc with z | z | z | z<;>simp [z]
   ·simp only [List.mem_cons,List.not_mem_nil,or_false,not_or] at hc
    exact b2.extBut _ _ hc.1 (hk c ob hc.1 hc.2.1 hc.2.2.1 hc.2.2.2 e)
   ·exact ⟨by show 2≤sizeLine;decide,[u,v],.cons ru (.cons rv .nil),⟨_,tup,rfl,_,rfl⟩⟩
  refine ⟨.ref s.heap.objs.size,_,I1,rfl,⟨_,x,y,rfl,I.hok.fresh ↑8,rfl,λxs' ys' q1 q2=>?_⟩,⟨b1,?_,⟨_,_,b2.extBut _ _ D.TOz a2⟩,a3.extBut b2.extBut D.i1z,a4.extBut b2.extBut D.i2z⟩,λc hc=>?_⟩
  ·rw [I.list_inj q1 hxs,I.list_inj q2 hys];exact ⟨hx,hy⟩
  ·exact b2.extBut _ _ D.TIz (hk _ _ D.TIz D.TITO D.TIi1 D.TIi2 hTI)
  ·rw [zam (Nat.ne_of_lt (lt c hc))];exact (hf c hc).1
 done:=by
  intro X hP hw hK hc i pins s σ H E I hf st hg
  subst hP hw hK
  obtain ⟨xs,ys,hxs,hys,hend⟩:=hg
  obtain ⟨itx,rx,px,hzx⟩:=I.list hxs
  obtain ⟨ity,ry,py,hzy⟩:=I.list hys
  obtain ⟨hz,hTI,⟨p,q,hTO⟩,h1,h2⟩:=st
  have lx:=rx.length
  have ly:=ry.length
  refine wpAny_pyNext_zip_end (I.ok.hd hc) D hz hTI hTO h1 h2 px.isList py.isList ?_ λh' hk=>⟨rfl,?_⟩
  ·rcases hend with e | e
   ·exact .inl (by simp;omega)
   ·exact .inr (by simp;omega)
  ·refine I.turnedL (t':=s.toks) (ch:=[z,TO,i1,i2]) (λc hc=>hf c ?_) (λc ob hc e=>?_)
   ·simp only [List.mem_cons,List.not_mem_nil,or_false] at hc ⊢
    rcases hc with z | z | z | z<;>simp [z]
   ·simp only [List.mem_cons,List.not_mem_nil,or_false,not_or] at hc
    exact hk c ob hc.1 hc.2.1 hc.2.2.1 hc.2.2.2 e
 self:=λ_ _ _ _ _ st h=>wpAny_pyIter_zip st.1 h
section
variable {X:Cx}
def zv4 (K:W.Frag) (ta:TA):TI:=λσ H R=>ta σ H λvs H1=>∃a b,vs=[.ref a,.ref b]∧(∃xs,SqL K H1 a xs)∧(∃ys,SqL K H1 b ys)∧R (Itz K a b) H1
theorem ztl {a b:Expr} {ta:TA} {p pos tp:Pos} {elts:List Expr} {x1:Nat} (hg:Gl X "zip") (hm:X.mg "zip"=none) (ha:PA X [a,b] ta) (hs:starEach [a,b] X.env=[(false,eval a X.env),(false,eval b X.env)]:=by rfl) (hs2:starEach [b] X.env=[(false,eval b X.env)]:=by rfl) :
  PI X (.Tuple elts x1 tp) (.Call (.Name "zip" p) [a,b] [] pos) (zv4 X.K ta):=by
   intro pins s σ H R I h;refine Call_ (zf7 I hg hm boot_zip (PyProof.Rows.callWith_type1 ↑114 (by rw [hs,hs2]) (by rw [hs2];rfl)));obtain ⟨l1,l2,e,⟨xs,hx⟩,⟨ys,hy⟩,q⟩:=q1;subst e
   cases r1 with
    |cons r rr=>
     cases rr with
      |cons r' rr=>
       cases rr;cases r;cases r';obtain ⟨itx,rx,px,hzx⟩:=I1.list hx;obtain ⟨ity,ry,py,hzy⟩:=I1.list hy;have lt1: @LT.lt Nat _ l1 s1.heap.objs.size:=by obtain ⟨o,e,_⟩:=px.isList;exact Heap.lt_size e
       have lt2: @LT.lt Nat _ l2 s1.heap.objs.size:=by obtain ⟨o,e,_⟩:=py.isList;exact Heap.lt_size e
       refine call_zip_2 px.isList py.isList λh' hz hTI hTO h1 h2 hsz hk=> ?_;refine wpAny_pyIter_zip hz ?_;have D:ZipApart (s1.heap.objs.size+4) (s1.heap.objs.size+2) (s1.heap.objs.size+3) s1.heap.objs.size (s1.heap.objs.size+1) l1 l2:=by constructor<;>(show @Ne Nat _ _;omega)
       refine ⟨s1.heap.objs.size+4,[s1.heap.objs.size+4,s1.heap.objs.size+2,s1.heap.objs.size+3,s1.heap.objs.size,s1.heap.objs.size+1],_,Itz X.K l1 l2,H1,rfl,I1.kept (t':=s1.toks) hk,zp3 D,⟨hz,hTI,⟨_,_,hTO⟩,h1,h2⟩,λc hc=> ?_,q⟩;have hle: @LE.le Nat _ s1.heap.objs.size c:=by simp only [List.mem_cons,List.not_mem_nil,or_false] at hc;rcases hc with rfl|rfl|rfl|rfl|rfl<;>omega
       exact I1.fpOk hle (I1.hok.fresh hle)
end
theorem preSum_list:∀(ns:Ji) (k:Nat),k≤ns.length->preSum (λi=>(ns[i]?).getD 0) k=(ns.take k).sum
 | _,0,_=>by simp [preSum]
 | ns,k+1,h=>by
  have ih:=preSum_list ns k ↑0;have hk:k<ns.length:=by omega
  have e1:preSum (λi=>(ns[i]?).getD 0) (k+1)=preSum (λi=>(ns[i]?).getD 0) k+(ns[k]?).getD 0:=rfl;have e2:ns.take (k+1)=ns.take k++[ns[k]]:=by rw [List.take_add_one,List.getElem?_eq_getElem hk];rfl
  rw [e1,ih,e2,List.sum_append,List.getElem?_eq_getElem hk];simp
section
variable {X:Cx}
theorem znL (hc:X.calm=true):zeb X (.builtin "sum") (λxs H Q=>∃(a:Addr) (ns:Ji),xs=[.ref a]∧SqL X.K H a (ns.map V.int)∧Q (.int ns.sum) H):=by
 intro pins s σ H xs us Q I r h;obtain ⟨a,ns,rfl,hq,q⟩:=h;obtain ⟨u,rfl,rx⟩:=zgg r;cases rx;obtain ⟨its,rv,p,hz⟩:=I.list hq;have hl:=rv.length;rw [List.length_map] at hl;have alt:a<s.heap.objs.size:=by obtain ⟨o,e,_⟩:=p.isList;exact Heap.lt_size e
 have hl1:(↑110).IsList a its.toArray:=Heap.IsList.push p.isList _;refine call_sum_walkG (wpAny_pyIter_list p.isList ?_);refine ⟨s.heap.objs.size,[s.heap.objs.size,a],[s.heap.objs.size],its.toArray.size,_,_,λi=>(ns[i]?).getD 0,rfl,Walks.list (A:=X.A.in1) (I.ok.hd hc) s.heap.objs.size a (Nat.ne_of_lt alt) its.toArray,⟨⟨_,Heap.get?_push_size _ rfl,rfl,rfl⟩,hl1⟩,λb hb=> ?_,λi v hv=> ?_,λh' tk t' hk=> ?_⟩
 ·show b<(s.heap.push _).objs.size;rw [Heap.size_push];simp only [List.mem_cons,List.not_mem_nil,or_false] at hb;rcases hb with rfl|rfl
  ·exact Nat.lt_succ_self _
  ·exact Nat.lt_succ_of_lt alt
 ·have hv':its[i]? =some v:=by simpa using hv
  have hi:i<its.length:=(List.getElem?_eq_some_iff.mp hv').1;obtain ⟨u,hu,ru⟩:=rv.get (i:=i) (x:= .int (ns[i]'↑0)) (by rw [List.getElem?_map,List.getElem?_eq_getElem ↑0];rfl);rw [hv'] at hu;cases hu;obtain ⟨t,rfl⟩:=ru;have e:(ns[i]?).getD 0=ns[i]'↑0:=by rw [List.getElem?_eq_getElem (show i<ns.length by omega)];rfl
  exact ⟨t,congrArg (λz=>Value.int z t) e.symm⟩
 ·have e:preSum (λi=>(ns[i]?).getD 0) its.toArray.size=ns.sum:=by rw [List.size_toArray,←hl,preSum_list ns _ ↑8,List.take_length]
  rw [e];exact ⟨.int ns.sum,H,I.kept (h':=h') (t':=tk) λb o e=>hk b o (by simp only [List.mem_singleton];exact Nat.ne_of_lt ↑38) (Heap.get?_push_of_some _ e),⟨t',rfl⟩,q⟩
theorem znh (hc:X.calm=true):zeb X (.builtin "all") (λxs H Q=>∃(a:Addr) (bs:List Bool),xs=[.ref a]∧SqL X.K H a (bs.map V.bl)∧Q (.bl (bs.all id)) H):=by
 intro pins s σ H xs us Q I r h;obtain ⟨a,bs,rfl,hq,q⟩:=h;obtain ⟨u,rfl,rx⟩:=zgg r;cases rx;obtain ⟨its,rv,p,hz⟩:=I.list hq;have hl:=rv.length;rw [List.length_map] at hl;have alt:a<s.heap.objs.size:=by obtain ⟨o,e,_⟩:=p.isList;exact Heap.lt_size e
 have hl1:(↑110).IsList a its.toArray:=Heap.IsList.push p.isList _;refine call_all_walk (wpAny_pyIter_list p.isList ?_);refine ⟨s.heap.objs.size,[s.heap.objs.size,a],[s.heap.objs.size],its.toArray.size,_,_,λi=>(bs[i]?).getD true,rfl,Walks.list (A:=X.A.in1) (I.ok.hd hc) s.heap.objs.size a (Nat.ne_of_lt alt) its.toArray,⟨⟨_,Heap.get?_push_size _ rfl,rfl,rfl⟩,hl1⟩,λi v s' Q' E' hv hQ'=> ?_,λh' tk hk=> ?_⟩
 ·have hv':its[i]? =some v:=by simpa using hv
  have hi:i<its.length:=(List.getElem?_eq_some_iff.mp hv').1;obtain ⟨u,hu,ru⟩:=rv.get (i:=i) (x:= .bl (bs[i]'↑0)) (by rw [List.getElem?_map,List.getElem?_eq_getElem ↑0];rfl);rw [hv'] at hu;cases hu;cases ru;have e:(bs[i]?).getD true=bs[i]'↑0:=by rw [List.getElem?_eq_getElem (show i<bs.length by omega)];rfl
  have hQ2:Q' ((bs[i]?).getD true) s':=hQ';rw [e] at hQ2;exact wpAny_truthy_bool hQ2
 ·have e:(List.range its.toArray.size).all (λi=>(bs[i]?).getD true)=bs.all id:=by
   rw [List.size_toArray,←hl,Bool.eq_iff_iff,List.all_eq_true,List.all_eq_true];constructor;·intro z x hx;obtain ⟨i,hi,rfl⟩:=List.getElem_of_mem hx;have:=z i (List.mem_range.mpr hi);rw [List.getElem?_eq_getElem hi] at this;exact this
   ·intro z i hi;have hi':=List.mem_range.mp hi;rw [List.getElem?_eq_getElem hi'];exact z _ (List.getElem_mem hi')
  rw [e];exact ⟨.bl (bs.all id),H,I.kept (h':=h') (t':=tk) λb o e=>hk b o (by simp only [List.mem_singleton];exact Nat.ne_of_lt ↑38) (Heap.get?_push_of_some _ e),rfl,q⟩
def zv9 (K:W.Frag):List V->Hp->VK->Prop:=λxs H Q=>∃x t b,((∃n,xs=[x,.ty n]∧W.kitOne K t (.type n)=some b)∨(∃C,xs=[x,.ref C]∧W.kitOne K t (.ref C)=some b))∧TyOf K H x t∧Q (.bl b) H
theorem zpN:zeb X (.builtin "isinstance") (zv9 X.K):=by
 intro pins s σ H xs us Q I r h;obtain ⟨x,t,b,hx,ty,q⟩:=h;rcases hx with ⟨n,rfl,e⟩|⟨C,rfl,e⟩
 ·obtain ⟨u,w',rfl,rx,ry⟩:=zoi r;cases ry;exact zkc I rx ty e λtk=>⟨.bl b,H,I.tok _,rfl,q⟩
 ·obtain ⟨u,w',rfl,rx,ry⟩:=zoi r;cases ry;exact zkc I rx ty e λtk=>⟨.bl b,H,I.tok _,rfl,q⟩
end
inductive EqV (K:W.Frag) (H:Hp):Nat->V->V->Bool->Prop where
 | flat {n:Nat} {x y:V} (fx:zhq x=true) (fy:zhq y=true):EqV K H n x y (eqV x y)
 | same {n:Nat} {a:Addr}:EqV K H n (.ref a) (.ref a) true
 | lists {n:Nat} {a b:Addr} {xs ys:List V} {e:Nat->Bool} (ne:a≠b) (ha:SqL K H a xs) (hb:SqL K H b ys) (hl:xs.length=ys.length)
   (he:∀ (j:Nat) (x y:V),xs[j]?=some x->ys[j]?=some y->EqV K H n x y (e j)):EqV K H (n+1) (.ref a) (.ref b) ((List.range xs.length).all e)
 | lens {n:Nat} {a b:Addr} {xs ys:List V} (ne:a≠b) (ha:SqL K H a xs) (hb:SqL K H b ys) (hl:xs.length≠ys.length):EqV K H (n+1) (.ref a) (.ref b) false
theorem EqV.at {X:Cx} {pins:List ↑4} {σ:St} {H:Hp} {s:Shared} (I:Inv X pins σ H s) {n:Nat} {x y:V} {k:Bool} (h:EqV X.K H n x y k) :
  ∀ {A:Around} {u v:Value},zc0 x u->zc0 y v->A.units+n<cLine->SeqAt.EqAt A s u v k:=by
   induction h with
    |flat fx fy=>intro A u v rx ry _;exact zq5 rx ry fx fy
    |same=>intro A u v rx ry _;cases rx;cases ry;exact SeqAt.EqAt.same _
    | @ lists n a b xs ys e ne ha hb hl he ih=>
     intro A u v rx ry hu;cases rx;cases ry;obtain ⟨ita,ra,pa,za⟩:=I.list ha;obtain ⟨itb,rb,pb,zb⟩:=I.list hb;have la:=ra.length;have lb:=rb.length;have q:=SeqAt.RcAt.lists (A:=A) (e:=e) pa.isList pb.isList (by simp;omega) ↑0 λj h1 h2=> ?_;·rw [List.size_toArray,←la] at q;exact SeqAt.EqAt.of_refs ne q
     ·have h1':j<ita.length:=by simpa using h1
      have h2':j<itb.length:=by simpa using h2
      obtain ⟨u',hu',ru⟩:=ra.get (i:=j) (x:=xs[j]'↑0) ↑81;obtain ⟨v',hv',rv⟩:=rb.get (i:=j) (x:=ys[j]'↑0) ↑81;have eu:ita.toArray[j]=u':=by rw [List.getElem?_eq_getElem h1'] at hu';simpa using hu'
      have ev:itb.toArray[j]=v':=by rw [List.getElem?_eq_getElem h2'] at hv';simpa using hv'
      rw [eu,ev];exact ih j _ _ ↑81 ↑81 ru rv (by show A.units+1+n<cLine;omega)
    | @ lens n a b xs ys ne ha hb hl=>intro A u v rx ry hu;cases rx;cases ry;obtain ⟨ita,ra,pa,za⟩:=I.list ha;obtain ⟨itb,rb,pb,zb⟩:=I.list hb;have la:=ra.length;have lb:=rb.length;exact SeqAt.EqAt.of_refs ne (SeqAt.RcAt.lists_lengths pa.isList pb.isList (by simp;omega) ↑0)
def zr1 (K:W.Frag) (neg:Bool):R2:=λx y H Q=>∃a b n xs ys,x= .ref a∧y= .ref b∧SqL K H a xs∧SqL K H b ys∧n≤50∧((xs.length≠ys.length∧Q (.bl neg) H)∨∃e:Nat->Bool,xs.length=ys.length∧(∀(j:Nat) (x y:V),xs[j]? =some x->ys[j]? =some y->EqV K H n x y (e j))∧Q (.bl (if neg then !(List.range xs.length).all e else (List.range xs.length).all e)) H)
section
variable {X:Cx}
theorem zpm {pins:List ↑4} {σ:St} {H:Hp} {s:Shared} (I:Inv X pins σ H s) {n:Nat} {xs ys:List V} {ita itb:List Value} {e:Nat->Bool} (ra:zbL xs ita) (rb:zbL ys itb) (he:∀(j:Nat) (x y:V),xs[j]? =some x->ys[j]? =some y->EqV X.K H n x y (e j))
  {A:Around} (hu:A.units+1+n<cLine):∀j (h1:j<ita.toArray.size) (h2:j<itb.toArray.size),SeqAt.EqAt A.in1 s ita.toArray[j] itb.toArray[j] (e j):=λj h1 h2=>by
   have la:=ra.length;have lb:=rb.length;have h1':j<ita.length:=by simpa using h1
   have h2':j<itb.length:=by simpa using h2
   obtain ⟨u',hu',ru⟩:=ra.get (i:=j) (x:=xs[j]'↑0) ↑81;obtain ⟨v',hv',rv⟩:=rb.get (i:=j) (x:=ys[j]'↑0) ↑81;have eu:ita.toArray[j]=u':=by rw [List.getElem?_eq_getElem h1'] at hu';simpa using hu'
   have ev:itb.toArray[j]=v':=by rw [List.getElem?_eq_getElem h2'] at hv';simpa using hv'
   rw [eu,ev];exact (he j _ _ ↑81 ↑81).at I ru rv hu
theorem zuw (hu:X.A.units+64<cLine):OpR X (compareOp .Eq) (zr1 X.K false):=by
 intro pins s σ H x y v u Q I rx ry h;obtain ⟨a,b,n,xs,ys,rfl,rfl,ha,hb,hn,h⟩:=h;cases rx;cases ry;obtain ⟨ita,ra,pa,za⟩:=I.list ha;obtain ⟨itb,rb,pb,zb⟩:=I.list hb;have la:=ra.length;have lb:=rb.length;rcases h with ⟨hl,q⟩|⟨e,hl,he,q⟩
 ·exact SeqAt.eq_list_lengthsAt pa.isList pb.isList (by simp;omega) ↑0 ⟨.bl false,H,I,rfl,q⟩
 ·refine SeqAt.eq_listAt (e:=e) pa.isList pb.isList (by simp;omega) ↑0 (zpm I ra rb he ↑0) ?_;rw [List.size_toArray,←la];exact ⟨.bl _,H,I,rfl,q⟩
end
theorem all_eq {α:Type} [DecidableEq α] {xs ys:List α} (h:xs.length=ys.length):(List.range xs.length).all (λj=>decide (xs[j]? =ys[j]?))=decide (xs=ys):=by
 rw [Bool.eq_iff_iff,List.all_eq_true,decide_eq_true_iff];constructor
 ·intro z;refine List.ext_getElem? λi=> ?_;by_cases hi:i<xs.length;·exact of_decide_eq_true (z i (List.mem_range.mpr hi))
  ·rw [List.getElem?_eq_none ↑0,List.getElem?_eq_none ↑0]
 ·rintro rfl i _;exact decide_eq_true rfl
theorem zr1.ints {K:W.Frag} {neg:Bool} {H:Hp} {Q:VK} {a b:Addr} {ns ms:Ji} (ha:SqL K H a (ns.map V.int)) (hb:SqL K H b (ms.map V.int)) (q:Q (.bl (if neg then !decide (ns=ms) else decide (ns=ms))) H) :
  zr1 K neg (.ref a) (.ref b) H Q:=by
   refine ⟨a,b,0,_,_,rfl,rfl,ha,hb,by omega,?_⟩;by_cases hl:ns.length=ms.length
   ·refine .inr ⟨λj=>decide (ns[j]? =ms[j]?),by simp [hl],λj x y hx hy=> ?_,?_⟩
    ·rw [List.getElem?_map] at hx hy
     cases e1:ns[j]? with
      |none=>rw [e1] at hx;cases hx
      |some i=>
       cases e2:ms[j]? with
        |none=>rw [e2] at hy;cases hy
        |some k=>
         rw [e1] at hx;rw [e2] at hy;cases hx;cases hy;have q:=EqV.flat (K:=K) (H:=H) (n:=0) (x:= .int i) (y:= .int k) rfl rfl;have e:eqV (.int i) (.int k)=decide (some i=some k):=by show (i==k)=_;rw [Bool.beq_eq_decide_eq];simp
         rw [e] at q;show EqV K H 0 (V.int i) (V.int k) (decide (ns[j]? =ms[j]?));rw [e1,e2];exact q
    ·rw [List.length_map,all_eq hl];exact q
   ·refine .inl ⟨by simpa using hl,?_⟩;have e:decide (ns=ms)=false:=decide_eq_false (λz=>hl (by rw [z]));rw [e] at q;cases neg<;>exact q
def Rows (K:W.Frag) (H:Hp) (a:Addr) (xss:Jq):Prop :=
 ∃as:List Addr,SqL K H a (as.map V.ref)∧as.length=xss.length∧∀(j:Nat) (p:Addr) (ns:Ji),as[j]? =some p->xss[j]? =some ns->H p=some (.lst (ns.map V.int))
theorem zk9 {ns ms:Ji} (h:ns.map V.int=ms.map V.int):ns=ms:=by
 induction ns generalizing ms with
  |nil=>cases ms with|nil=>rfl|cons _ _=>cases h
  |cons x r ih=>cases ms with|nil=>cases h|cons y s=>injection h with h1 h2;injection h1 with h1;rw [h1,ih h2]
theorem EqV.ints {K:W.Frag} {H:Hp} {n:Nat} {a b:Addr} {ns ms:Ji} (ha:H a=some (.lst (ns.map V.int))) (hb:H b=some (.lst (ms.map V.int))):EqV K H (n+1) (.ref a) (.ref b) (decide (ns=ms)):=by
 by_cases hab:a=b;·subst hab;rw [ha] at hb;have e:ns=ms:=zk9 (by injection hb with hb;injection hb);rw [decide_eq_true e];exact .same
 ·by_cases hl:ns.length=ms.length
  ·have q:=EqV.lists (K:=K) (H:=H) (n:=n) (e:=λj=>decide (ns[j]? =ms[j]?)) hab (SqL.of ha) (SqL.of hb) (by simp [hl]) λj x y hx hy=> ?_;·rw [List.length_map,all_eq hl] at q;exact q
   ·rw [List.getElem?_map] at hx hy
    cases e1:ns[j]? with
     |none=>rw [e1] at hx;cases hx
     |some i=>
      cases e2:ms[j]? with
       |none=>rw [e2] at hy;cases hy
       |some k=>
        rw [e1] at hx;rw [e2] at hy;cases hx;cases hy;have q:=EqV.flat (K:=K) (H:=H) (n:=n) (x:= .int i) (y:= .int k) rfl rfl;have e:eqV (.int i) (.int k)=decide (some i=some k):=by show (i==k)=_;rw [Bool.beq_eq_decide_eq];simp
        rw [e] at q;exact q
  ·rw [decide_eq_false (λz=>hl (by rw [z]))];exact .lens hab (SqL.of ha) (SqL.of hb) (by simpa using hl)
theorem zr1.rows {K:W.Frag} {neg:Bool} {H:Hp} {Q:VK} {a b:Addr} {xss yss:Jq} (ha:Rows K H a xss) (hb:Rows K H b yss) (q:Q (.bl (if neg then !decide (xss=yss) else decide (xss=yss))) H) :
  zr1 K neg (.ref a) (.ref b) H Q:=by
   obtain ⟨as,hsa,hla,hra⟩:=ha;obtain ⟨bs,hsb,hlb,hrb⟩:=hb;refine ⟨a,b,1,_,_,rfl,rfl,hsa,hsb,by omega,?_⟩;by_cases hl:xss.length=yss.length
   ·refine .inr ⟨λj=>decide (xss[j]? =yss[j]?),by simp;omega,λj x y hx hy=> ?_,?_⟩
    ·rw [List.getElem?_map] at hx hy
     cases e1:as[j]? with
      |none=>rw [e1] at hx;cases hx
      |some p=>
       cases e2:bs[j]? with
        |none=>rw [e2] at hy;cases hy
        |some p2=>
         rw [e1] at hx;rw [e2] at hy;cases hx;cases hy;have h1:j<xss.length:=by have:=(List.getElem?_eq_some_iff.mp e1).1;omega
         have h2:j<yss.length:=by omega
         have q:=EqV.ints (K:=K) (n:=0) (hra j p _ e1 (List.getElem?_eq_getElem h1)) (hrb j p2 _ e2 (List.getElem?_eq_getElem h2));show EqV K H 1 (V.ref p) (V.ref p2) (decide (xss[j]? =yss[j]?));rw [List.getElem?_eq_getElem h1,List.getElem?_eq_getElem h2];have e:decide (xss[j]=yss[j])=decide (some xss[j]=some yss[j]):=by simp
         rw [e] at q;exact q
    ·rw [List.length_map,hla,all_eq hl];exact q
   ·refine .inl ⟨by simp;omega,?_⟩;have e:decide (xss=yss)=false:=decide_eq_false (λz=>hl (by rw [z]));rw [e] at q;cases neg<;>exact q
section
variable {X:Cx}
theorem znH {n k m:Nat} (h:n<2^k) (hk:k≤m) (hm:0<m):n.log2<m:=by
 by_cases hn:n=0;·subst hn;exact Nat.lt_of_le_of_lt (by decide:Nat.log2 0≤0) hm
 ·exact Nat.lt_of_lt_of_le ((Nat.log2_lt hn).mpr h) hk
theorem zob {i:Int} {k:Nat} (h:i.natAbs.log2<k):Builtin.Int.intBits i≤k:=by
 unfold Builtin.Int.intBits;split;·exact Nat.zero_le _
 ·omega
def zgC (i j:Int):Prop:=0<j∧j.natAbs.log2<9000
theorem zbf:OpR X (binaryOp .FloorDiv) (rI zgC λi j=> .int (i/j)):=opI λi j _ _ _ _ _ hc q=>by
 have hj:j≠0:=by have:=hc.1;omega
 have e:i.fdiv j=i/j:=Int.fdiv_eq_ediv_of_nonneg _ (by have:=hc.1;omega);exact floordiv_int hj (by rw [e];exact q) (.inl (PyProof.noPylong_of_log2 hc.2))
end
end L2
namespace L2
open PySem PySem.Spec PyProof.Rows
def zrg (scope osc:Scope) (N own fvn:List Str) (fv:List Nat):Bool :=
 (scope.names.all λy=>y.2 != .cell||scope.names.lookup y.1==some .cell) && (scope.names.all λy=>y.2 != .free||scope.names.lookup y.1==some .free) && (scope.kind== .function) && (scope.names.all λy=>y.2 != .local||scope.names.lookup y.1==some .local) && (scope.names.all λy=>y.2 != .free||osc.names.lookup y.1==some .cell||osc.names.lookup y.1==some .free) && (fvn.map some==fv.map λi=>N[i]?) && (fvn.all λx=>scope.names.lookup x==some .free)
theorem BlkScope.of {X:Cx} {scope osc:Scope} {N own fvn:List Str} {fv:List Nat} (hX:X.env.scope=osc) (hN:X.N=N) (h:zrg scope osc N own fvn fv=true):BlkScope X scope own fvn fv:=by
 subst hX hN;unfold zrg at h;simp only [Bool.and_eq_true,List.all_eq_true,bne_iff_ne,beq_iff_eq,Bool.or_eq_true] at h;obtain ⟨⟨⟨⟨⟨⟨h1,h1'⟩,h2⟩,h3⟩,h4⟩,h5⟩,h6⟩:=h;refine ⟨λy hy e=> ?_,λy hy e=> ?_,h2,λy hy e=> ?_,λy hy e=> ?_,h5,h6⟩
 ·rcases h1 y hy with z|z
  ·exact absurd e z
  ·exact z
 ·rcases h1' y hy with z|z
  ·exact absurd e z
  ·exact z
 ·rcases h3 y hy with z|z
  ·exact absurd e z
  ·exact z
 ·rcases h4 y hy with (z|z)|z
  ·exact absurd e z
  ·exact .inl z
  ·exact .inr z
theorem Same.new {H:Hp} {p:Addr} (h:H p=none) (o:HO):Same H (upd H p o):=λb u q=>by rw [zam (zbd q h)];exact q
theorem Same.tup {K:W.Frag} {H H':Hp} {a:Addr} {xs:List V} (e:Same H H') (h:SqT K H a xs):SqT K H' a xs:=by
 rcases h with (h|⟨o,h⟩)|h
 ·exact .inl (.inl (e _ _ h))
 ·exact .inl (.inr ⟨o,e _ _ h⟩)
 ·exact .inr h
theorem Same.rows {K:W.Frag} {H H':Hp} {a:Addr} {xss:Jq} (e:Same H H') (h:Rows K H a xss):Rows K H' a xss:=by obtain ⟨as,h1,h2,h3⟩:=h;exact ⟨as,e.seq h1,h2,λj p ns q1 q2=>e _ _ (h3 j p ns q1 q2)⟩
structure Callee (P:Program) (w:World) (K:W.Frag) (mg:Str->Option Value) (base:Heap) (CX:CXT) (k:Nat) (x:Str) (ps:List Str) (sp:Sp):Prop where
 ex:∃ f fd,FnOk P w K mg base CX k f fd ps sp∧mg x=some (.ref f)∧W.keepIn K (.ref f)=true∧zeW K fd ps []
section
variable {X:Cx} {CX:CXT} {k:Nat} {ps:List Str} {sp:Sp} {E:XK} {x:Str} {p pos:Pos} {e:Expr} {es:List Expr} {t:TA}
theorem zaR (F:Callee X.prog X.w X.K X.mg X.base CX k x ps sp) (hr:Room k X.A) (hg:Gl X x) (hx:zfQ CX X E)
  (ha:PA X (e::es) t) (hdb:↑57=false:=by decide) (he:starEach (e::es) X.env=(false,eval e X.env)::starEach es X.env:=by rfl) (hpl:(↑76).any (·.1)=false:=by rfl) :
  PE X (.Call (.Name x p) (e::es) [] pos) (tCall sp [] E t):=by obtain ⟨f,fd,G,hm,hk,hb⟩:=F.ex;exact zr8 G hr hg hm hk hb .nil hx ha hdb he hpl
end
section
variable {X:Cx} {K:W.Frag}
theorem zaI (hK:X.K=K):zeb X (.builtin "len") ↑96:=by subst hK;exact zkg
theorem ze5 (hK:X.K=K):zeb X (.type "list") (λxs H Q=>∃p ys,xs=[.ref p]∧(SqL K H p ys∨SqT K H p ys)∧∀l,H l=none->Q (.ref l) (upd H l (.lst ys))):=by subst hK;exact zkd
theorem zmN (hK:X.K=K):zeb X (.builtin "isinstance") (zv9 K):=by subst hK;exact zpN
theorem zm4 (hK:X.K=K) (hc:X.calm=true):zeb X (.builtin "sum") (λxs H Q=>∃(a:Addr) (ns:Ji),xs=[.ref a]∧SqL K H a (ns.map V.int)∧Q (.int ns.sum) H):=by subst hK;exact znL hc
theorem ziM (hK:X.K=K) (hc:X.calm=true):zeb X (.builtin "all") (λxs H Q=>∃(a:Addr) (bs:List Bool),xs=[.ref a]∧SqL K H a (bs.map V.bl)∧Q (.bl (bs.all id)) H):=by subst hK;exact znh hc
theorem zaH (hK:X.K=K):IxR X (zr0 K):=by subst hK;exact zsE
theorem zb3 (hK:X.K=K):IxR X (zwb K):=by subst hK;exact zup
theorem zcg (hK:X.K=K):SlR X (zvg K):=by subst hK;exact zs7
theorem zkY (hK:X.K=K) (hu:X.A.units+64<cLine):OpR X (compareOp .Eq) (zr1 K false):=by subst hK;exact zuw hu
theorem zbo {e:Expr} {f:Str} {pos:Pos} {ta:TE} (hK:X.K=K) (he:PE X e ta) (hb:attributeBase e f X.env (eval e X.env)=eval e X.env):PE X (.Attribute e f pos) (tFld K ta f):=by subst hK;exact zt5 he hb
theorem za3 {tg l:Expr} {tl:TE} (hK:X.K=K) (hl:PE X l tl):PI X tg l (zpQ K tl):=by subst hK;exact zr7 hl
theorem zgd {a b:Expr} {ta:TA} {p pos tp:Pos} {elts:List Expr} {x1:Nat} (hK:X.K=K) (hg:Gl X "zip") (hm:X.mg "zip"=none) (ha:PA X [a,b] ta) (hs:starEach [a,b] X.env=[(false,eval a X.env),(false,eval b X.env)]:=by rfl) (hs2:starEach [b] X.env=[(false,eval b X.env)]:=by rfl) :
  PI X (.Tuple elts x1 tp) (.Call (.Name "zip" p) [a,b] [] pos) (zv4 K ta):=by subst hK;exact ztl hg hm ha hs hs2
theorem zdi {es:List Expr} {k:Nat} {t:TGs} {n:Nat} {pos:Pos} (hK:X.K=K) (hc:X.calm=true) (h:PGs X es t)
  (hn:(assignEach es X.env).length=n:=by rfl) (hst:(assignEach es X.env).findIdx? (·.1)=none:=by rfl):PG X (.Tuple es k pos) (zuU K n t):=by subst hK;exact zuT hc h hn hst
theorem zbI {o e:Expr} {to:TE} {t:TA} {apos cpos:Pos} (hK:X.K=K) (ho:PE X o to) (ha:PA X [e] t)
  (hbase:attributeBase o "append" X.env (eval o X.env)=eval o X.env:=by rfl)
  (hfew:↑87=true:=by rfl)
  (hline:(apos.endLine==cpos.line)=true:=by rfl) (hs:starEach [e] X.env=(false,eval e X.env)::starEach [] X.env:=by rfl) (hplain:(backTo cpos (starEach [] X.env)).any (·.1)=false:=by rfl) :
  PE X (.Call (.Attribute o "append" apos) [e] [] cpos) (tBM K "list" zgL to t):=by subst hK;exact zmD PySem.F.plainAttrs_list PySem.F.slot_list_append PySem.F.type_list_append zkb ho ha hbase hfew hline hs hplain
end
end L2
namespace L2
open PySem PySem.Spec PyProof.Rows
theorem zap {n:Nat} (h:n≤10000):n≤sizeLine:=Nat.le_trans h ↥1
end L2
namespace L2
open PySem PySem.Spec PyProof.Rows
section
variable {M:Model} {A:Around} {E:Value->Shared->Prop} {s:Shared}
end
def ExcAt (h:Heap) (H:Hp) (Fz:Addr->Prop) (L e:Addr) (cls:Value) (dct:Option Addr):Prop :=
 ∃oe vs a0,h.get? e=some oe∧oe.cls=cls∧oe.dict=dct∧oe.data= .fields vs∧vs[0]? =some a0∧1<vs.size∧H e=none∧Fz e∧(vs[1]? =some .none∨∃T oT ts,vs[1]? =some (.ref T)∧T≠e∧h.get? T=some oT∧oT.data= .fields ts∧(ts[3]? =some .none∨ts[3]? =some (rawInt L))∧H T=none∧Fz T)
def zvM (h:Heap) (H:Hp) (Fz:Addr->Prop) (fl:Value) (e:Addr) (cls:Value) (dct:Option Addr):Prop :=
 ∃oe vs a0,h.get? e=some oe∧oe.cls=cls∧oe.dict=dct∧oe.data= .fields vs∧vs[0]? =some a0∧1<vs.size∧H e=none∧Fz e∧∃T oT ts,vs[1]? =some (.ref T)∧T≠e∧h.get? T=some oT∧oT.data= .fields ts∧ts[3]? =some fl∧H T=none∧Fz T
structure Own (X:Cx):Prop where
 stk:X.stack=X.env :: X.outer
 fr:X.env.frame=some X.env.locals
 ex:X.ex=[]
theorem zdT.there {P:Program} {w:World} {H:Hp} {h:Heap} {a:Addr} {o:HO} (x:zdT P w H h a o):∃ob,h.get? a=some ob:=by
 cases o with
  |lst xs=>obtain ⟨_,_,_,_,e⟩:=x;exact ⟨_,e⟩
  |tup xs=>obtain ⟨_,_,_,o,e,_⟩:=x;exact ⟨_,e⟩
  |dK kvs=>obtain ⟨_,_,_,_,o,_,_,e,_⟩:=x;exact ⟨_,e⟩
  |dT kvs=>obtain ⟨_,_,_,_,o,_,_,e,_⟩:=x;exact ⟨_,e⟩
  |set S n=>obtain ⟨o,_,_,_,e,_⟩:=x;exact ⟨_,e⟩
  |ins C dx fs=>obtain ⟨_,_,_,e,_⟩:=x;exact ⟨_,e⟩
  |own y=>obtain ⟨_,e⟩:=x;exact ⟨_,e⟩
  |xd fs=>obtain ⟨_,⟨_,_,_,e,_⟩,_⟩:=x;exact ⟨_,e⟩
  |rng lo hi=>obtain ⟨_,_,_,e⟩:=x;exact ⟨_,e⟩
  |frz ob u=>obtain ⟨e,_⟩:=x;exact ⟨_,e⟩
  |tbl ps=>exact ⟨_,(show h.get? a=some _ from x)⟩
  |met f y=>exact ⟨_,(show h.get? a=some _ from x)⟩
  |ext φ=>obtain ⟨_,e,_⟩:=x;exact e
section
variable {X:Cx} {pins:List ↑4} {σ:St} {H:Hp} {s:Shared} {h':Heap}
def Fz (X:Cx) (pins:List ↑4) (b:Addr):Prop:=X.s₀.heap.get? b=none∧∀p∈X.pn++pins,p.1≠b
end
theorem exc_obj {K:W.Frag} {h:Heap} {C:Addr} {bmB:List Value} {newId:String} (X:K.In h) (q:W.excIn K C bmB newId=true) :
  ∃bm N nm qn bs hdct sn sub ab col dd k0 k1 k2 k3 k5 mN,h.get? C=some (excClassObj nm qn C N bs bm hdct sn sub ab col dd k0 k1 k2 k3 k5 newId)∧h.Ns N mN∧mN "__init__" =none∧OwnTail h bmB bm:=by
   unfold W.excIn at q;split at q
   ·rename_i dd cd sl ho;split at q
    ·rename_i C' bm k0 k1 k2 k3 n k5 hm hs;simp only [Bool.and_eq_true,beq_iff_eq,Bool.not_eq_true'] at q;obtain ⟨⟨⟨⟨⟨rfl,rfl⟩,hdel⟩,ht⟩,hok⟩,hni⟩:=q;obtain ⟨nm,bs,mro,ns,qn,hd,sn,sub,ab,col,del⟩:=cd;dsimp only at hm hdel hok hni;subst hm hdel;have hsl:sl= #[k0,k1,k2,k3,some (.builtin n),k5]:=by obtain ⟨l⟩:=sl;simp only at hs;rw [hs]
     subst hsl;exact ⟨bm,ns,nm,qn,bs,hd,sn,sub,ab,col,dd,k0,k1,k2,k3,k5,_,X _ _ ho,.of_isNs (W.isNs_of_in X hok),W.nsMap_none_of_in X hok hni,W.tail_of_in X ht⟩
    ·cases q
   ·cases q
end L2
namespace L2
open PySem PySem.Spec PyProof.Rows
def XP (X:Cx) (pins:List ↑4) (σ:St) (E:XK) (ev:Value) (s':Shared):Prop :=
 ∃e cls dct H',ev= .ref e∧Inv X pins σ H' s'∧ExcAt s'.heap H' (Fz X pins) X.env.locals e cls dct∧E cls dct H'
abbrev XS:=St->XK
def CXE (P:Program) (w:World):CXT:=λouter H s E ev s'=>∃e cls dct H',ev= .ref e∧s'.os=s.os∧AllBare s'.gens∧Un (frs outer) [] H H' s.heap s'.heap∧HOk P w H' s'.heap∧zvM s'.heap H' (λb=>s.heap.get? b=none) .none e cls dct∧E cls dct H'
theorem zaL {P:Program} {w:World} {X:Cx}:zfQ ↑1 X E0:=λ_ _ _ _ _ _ _ h=>by obtain ⟨_,_,_,_,_,_,_,_,_,_,f⟩:=h;exact False.elim f
abbrev TEX:=St->Hp->VK->XK->Prop
section
variable {X:Cx} {e:Expr} {st:Stmt} {rest:List Stmt} {pos:Pos}
end
section
variable {X:Cx} {k:Nat} {ps:List Str} {sp:Sp} {x:Str} {p pos:Pos} {e:Expr} {es:List Expr} {t:TA}
end
section
variable {P:Program} {w:World} {K:W.Frag} {mg:Str->Option Value} {base:Heap}
theorem Fun.okN {x qual:Str} {st:Stmt} {f:Addr} {fd:FuncData} {N ps:List Str} {k:Nat} {sp:Sp} (F:Fun K x qual st f fd) (S:FnScope N ps (zaf st)) (len:∀vs H Q E,sp vs H Q E->vs.length=ps.length)
  (hbody:∀(cdv:Value) (A:Around) (outer:List Env) (s:Shared) (H:Hp) (vs:List V) (Q:VK) (E:XK),Room k (A.deeper (envOfC qual (zaf st) s.heap.objs.size f cdv))->sp vs H Q E→∃t,PSs (zp7 ↑1 P w K mg base N qual (zaf st) f cdv A outer s H E).nox (zed st) t∧t {nx:=λ_ H'=>Q .non H',rt:=Q} (start N vs) H):FnOk P w K mg base ↑1 (k+1) f fd ps sp:=by obtain ⟨oc,od,kV,doc,pm,an,cdv,ct,osl,rfl,lk,hcd⟩:=F.ex;refine zwn lk hcd S len λA outer s H vs Q E hr hsp=> ?_;obtain ⟨t,h,q⟩:=hbody cdv A outer s H vs Q E hr hsp;exact ⟨t,λpins s1 σ H1 D I hw=>wpAny_mono (h pins s1 σ H1 D (I.wish _) hw) (λ_ _ q=>SP.unwish q) λ_ _ f=>f.elim,q⟩
end
end L2
namespace L2
open PySem PySem.Spec PyProof.Rows
structure Ds where
 pr:Hp->V->Prop
 up:∀ {H H':Hp} {v:V},Same H H'->pr H v->pr H' v
theorem zds {ds:List Ds} {H H':Hp} (e:Same H H'):∀ {vs:List V} {ds:List Ds},Paired (λv (d:Ds)=>d.pr H v) vs ds->Paired (λv (d:Ds)=>d.pr H' v) vs ds
 | _,_,.nil=>.nil
 | _,_,.cons (b:=d) h t=> .cons (d.up e h) (zds (ds:=[]) e t)
theorem zbD {α β:Type} {R S:α->β->Prop} (h:∀a b,R a b->S a b):∀ {xs:List α} {ys:List β},Paired R xs ys->Paired S xs ys
 | _,_,.nil=>.nil
 | _,_,.cons q t=> .cons (h _ _ q) (zbD h t)
theorem zbh {α β:Type} {R:α->β->Prop}:∀ {xs:List α} {ys:List β} {i:Nat} {y:β},Paired R xs ys->ys[i]? =some y->∃x,xs[i]? =some x∧R x y
 | _,_,_,_,.nil,e=>by simp at e
 | _,_,0,_,.cons r _,e=>by simp at e;subst e;exact ⟨_,rfl,r⟩
 | _,_,i+1,y,.cons _ t,e=>by obtain ⟨u,h1,h2⟩:=zbh (i:=i) (y:=y) t (by simpa using e);exact ⟨u,by simpa using h1,h2⟩
theorem zb6 {α β:Type} {R:α->β->Prop}:∀ {xs xs':List α} {ys ys':List β},Paired R xs ys->Paired R xs' ys'->Paired R (xs++xs') (ys++ys')
 | _,_,_,_,.nil,s=>s
 | _,_,_,_,.cons r t,s=> .cons r (zb6 t s)
theorem ziG {α β:Type} {R:α->β->Prop} {x:α} {y:β} (r:R x y):∀ {xs:List α} {ys:List β} (i:Nat),Paired R xs ys->Paired R (xs.set i x) (ys.set i y)
 | _,_,_,.nil=>.nil
 | _,_,0,.cons _ t=>.cons r t
 | _,_,i+1,.cons q t=> .cons q (ziG r i t)
theorem zhu {α β:Type} {R:α->β->Prop}:∀ {xs:List α} {ys:List β} (n:Nat),Paired R xs ys->Paired R (xs.take n) (ys.take n)
 | _,_,0,_=>.nil
 | _,_,_+1,.nil=>.nil
 | _,_,n+1,.cons r t=> .cons r (zhu n t)
theorem zhK {α β:Type} {R:α->β->Prop}:∀ {xs:List α} {ys:List β} (n:Nat),Paired R xs ys->Paired R (xs.drop n) (ys.drop n)
 | _,_,0,r=>r
 | _,_,_+1,.nil=>.nil
 | _,_,n+1,.cons _ t=>zhK n t
theorem ziy {α β:Type} {R:α->β->Prop} {xs:List α} {ys:List β} (h:Paired R xs ys):∀n:Nat,Paired R (List.replicate n xs).flatten (List.replicate n ys).flatten
 | 0=>.nil
 | n+1=>by rw [List.replicate_succ,List.replicate_succ,List.flatten_cons,List.flatten_cons];exact zb6 h (ziy h n)
abbrev dV (v:V):Ds:=⟨λ_ u=>u=v,λ_ h=>h⟩
abbrev dI (n:Int):Ds:=dV (.int n)
abbrev dB (b:Bool):Ds:=dV (.bl b)
abbrev dN:Ds:=dV .non
abbrev dS (x:Str):Ds:=dV (.str x)
def dL (ds:List Ds):Ds:=⟨λH v=>∃p vs,v= .ref p∧H p=some (.lst vs)∧Paired (λv (d:Ds)=>d.pr H v) vs ds,λe ⟨p,vs,h1,h2,h3⟩=>⟨p,vs,h1,e _ _ h2,zds (ds:=[]) e h3⟩⟩
def dQ (K:W.Frag) (ds:List Ds):Ds:=⟨λH v=>∃p vs,v= .ref p∧SqL K H p vs∧Paired (λv (d:Ds)=>d.pr H v) vs ds,λe ⟨p,vs,h1,h2,h3⟩=>⟨p,vs,h1,e.seq h2,zds (ds:=[]) e h3⟩⟩
def dT (ds:List Ds):Ds:=⟨λH v=>∃p vs,v= .ref p∧H p=some (.tup vs)∧Paired (λv (d:Ds)=>d.pr H v) vs ds,λe ⟨p,vs,h1,h2,h3⟩=>⟨p,vs,h1,e _ _ h2,zds (ds:=[]) e h3⟩⟩
def dO (C:Addr) (fs:List (Str×Ds)):Ds:=⟨λH v=>∃p dx vs,v= .ref p∧H p=some (.ins C dx vs)∧H dx=some (.own p)∧Paired (λ(a:Str×V) (b:Str×Ds)=>a.1=b.1∧b.2.pr H a.2) vs fs,λe ⟨p,dx,vs,h1,h2,h3,h4⟩=>⟨p,dx,vs,h1,e _ _ h2,e _ _ h3,zbD (λ_ b q=>⟨q.1,b.2.up e q.2⟩) h4⟩⟩
class Enc (α:Type) where
 d:α->Ds
instance:Enc Int:=⟨dI⟩
instance:Enc Bool:=⟨dB⟩
instance:Enc Unit:=⟨λ_=>dN⟩
instance:Enc Str:=⟨dS⟩
instance {α:Type} [Enc α]:Enc (List α):=⟨λxs=>dL (xs.map Enc.d)⟩
instance {α β:Type} [Enc α] [Enc β]:Enc (α×β):=⟨λp=>dT [Enc.d p.1,Enc.d p.2]⟩
instance {α:Type} [Enc α]:Enc (Option α):=⟨λo=>match o with | none=>dN | some x=>Enc.d x⟩
structure T3 (α β γ:Type) where
 a:α
 b:β
 c:γ
instance {α β γ:Type} [Enc α] [Enc β] [Enc γ]:Enc (T3 α β γ):=⟨λp=>dT [Enc.d p.a,Enc.d p.b,Enc.d p.c]⟩
structure Grow (F H F' H':Hp):Prop where
 f:Same F F'
 fh:Same F' H'
 h:Same H H'
 no:∀ a,H a≠none->F a=none->F' a=none
theorem Grow.refl {F H:Hp} (e:Same F H):Grow F H F H:=⟨Same.refl _,e,Same.refl _,λ_ _ h=>h⟩
theorem Same.some {H H':Hp} (e:Same H H') {a:Addr} (h:H a≠none):H' a≠none:=by cases q:H a with|none=>exact absurd q h|some o=>rw [e _ _ q];simp
theorem Grow.trans {F H F' H' F'' H'':Hp} (g:Grow F H F' H') (k:Grow F' H' F'' H''):Grow F H F'' H'' :=
 ⟨g.f.trans k.f,k.fh,g.h.trans k.h,λa h1 h2=>k.no a (g.h.some h1) (g.no a h1 h2)⟩
theorem Grow.new {F H F' H':Hp} (g:Grow F H F' H') {p:Addr} {o:HO} (hp:H' p=none):Grow F H (upd F' p o) (upd H' p o):=by
 have hf:F' p=none:=by cases q:F' p with|none=>rfl|some u=>rw [g.fh _ _ q] at hp;cases hp
 refine ⟨g.f.trans (Same.new hf _),λa u q=> ?_,g.h.trans (Same.new hp _),λa h1 h2=> ?_⟩
 ·by_cases e:a=p;·subst e;rw [zat] at q ⊢;exact q
  ·rw [zam e] at q ⊢;exact g.fh _ _ q
 ·have:a≠p:=λe=>by subst e;exact (g.h.some h1) hp
  rw [zam this];exact g.no a h1 h2
theorem Grow.newH {F H F' H':Hp} (g:Grow F H F' H') {p:Addr} {o:HO} (hp:H' p=none):Grow F H F' (upd H' p o) :=
 ⟨g.f,g.fh.trans (Same.new hp _),g.h.trans (Same.new hp _),g.no⟩
theorem Grow.setH {F H F' H':Hp} (g:Grow F H F' H') {p:Addr} {o:HO} (hf:F' p=none) (hp:H p=none):Grow F H F' (upd H' p o) :=
 ⟨g.f,λa u q=>by rw [zam (zbd q hf)];exact g.fh _ _ q,λa u q=>by rw [zam (zbd q hp)];exact g.h _ _ q,g.no⟩
theorem Grow.take {F H F' H':Hp} (g:Grow F H F' H') {p:Addr} {o:HO} (hp:H p=none) (e:H' p=some o):Grow F H (upd F' p o) H':=by
 refine ⟨λa u q=> ?_,λa u q=> ?_,g.h,λa h1 h2=> ?_⟩
 ·by_cases z:a=p;·subst z;have:=g.fh _ _ (g.f _ _ q);rw [e] at this;cases this;exact zat
  ·rw [zam z];exact g.f _ _ q
 ·by_cases z:a=p;·subst z;rw [zat] at q;cases q;exact e
  ·rw [zam z] at q;exact g.fh _ _ q
 ·have:a≠p:=λz=>by subst z;exact h1 hp
  rw [zam this];exact g.no a h1 h2
def off (F Hb:Hp):Hp:=λa=>match Hb a with|none=>F a|some _=>none
theorem zdW {F Hb:Hp} {a:Addr} {o:HO}:off F Hb a=some o↔Hb a=none∧F a=some o:=by unfold off;cases q:Hb a with|none=>simp|some u=>simp
theorem zqW {F F' Hb:Hp} (e:Same F F'):Same (off F Hb) (off F' Hb):=λa o q=>by rw [zdW] at q ⊢;exact ⟨q.1,e _ _ q.2⟩
theorem zkO {F Hb:Hp}:Same (off F Hb) F:=λa o q=>(zdW.mp q).2
theorem zsb {F Hb Hc:Hp} (e:Same Hb Hc):Same (off F Hc) (off F Hb):=λa o q=>by rw [zdW] at q ⊢;refine ⟨?_,q.2⟩;cases z:Hb a with|none=>rfl|some u=>rw [e _ _ z] at q;cases q.1
def zfZ (m:Bool) (F Hb:Hp):Hp:=match m with|true=>off F Hb|false=>F
theorem zbe {m:Bool} {F F' Hb:Hp} (e:Same F F'):Same (zfZ m F Hb) (zfZ m F' Hb):=by cases m with|true=>exact zqW e|false=>exact e
theorem za4 {m:Bool} {F Hb:Hp}:Same (zfZ m F Hb) F:=by cases m with|true=>exact zkO|false=>exact Same.refl _
theorem zdZ {m:Bool} {F Hb:Hp} {p:Addr} {o:HO} (hb:Hb p=none) (hp:F p=some o):zfZ m F Hb p=some o:=by cases m with|true=>exact zdW.mpr ⟨hb,hp⟩|false=>exact hp
inductive Slot where
 | no
 | va (m:Bool) (d:Ds)
 | ow (m:Bool) (ds:List Ds)
 | ob (m:Bool) (C p dx:Addr) (fs:List (Str×Ds))
 | tl (d:Ds)
 | ol (p:Addr) (ds:List Ds)
abbrev Ctx:=List Slot
def zfN (Hb F H:Hp) (own:Nat->Option Addr) (i:Nat) (v:Option V):Slot->Prop
 | .tl d=>∃x R,v=some x∧Same R H∧(∀a o,R a=some o->F a=none∧Hb a=none)∧(∀j p,own j=some p->R p=none)∧d.pr R x
 | .no=>True
 | .va m d=>∃x,v=some x∧d.pr (zfZ m F Hb) x
 | .ow m ds=>∃p vs,v=some (.ref p)∧own i=some p∧F p=none∧Hb p=none∧H p=some (.lst vs)∧Paired (λv (d:Ds)=>d.pr (zfZ m F Hb) v) vs ds
 | .ol p ds=>∃vs,v=some (.ref p)∧own i=some p∧F p=none∧Hb p=none∧H p=some (.lst vs)∧Paired (λv (d:Ds)=>d.pr F v) vs ds
 | .ob m C p dx fs=>∃vs,v=some (.ref p)∧own i=some p∧(F p=none∧F dx=none)∧(Hb p=none∧Hb dx=none)∧(H p=some (.ins C dx vs)∧H dx=some (.own p))∧Paired (λ(a:Str×V) (b:Str×Ds)=>a.1=b.1∧b.2.pr (zfZ m F Hb) a.2) vs fs
structure At (F0 Hb F H:Hp) (σ:St) (own:Nat->Option Addr) (Γ:Ctx):Prop where
 g:Grow F0 Hb F H
 inj:∀ i j p,own i=some p->own j=some p->i=j
 liv:∀ i p,own i=some p->H p≠none
 sl:∀ i s,Γ[i]?=some s->zfN Hb F H own i (σ[i]?).join s
 len:σ.length=Γ.length
theorem zfN.grow {Hb F H F' H':Hp} {own:Nat->Option Addr} {i:Nat} {v:Option V} {s:Slot} (h:zfN Hb F H own i v s) (g:Grow F H F' H'):zfN Hb F' H' own i v s:=by
 cases s with
  |no=>trivial
  |tl d=>obtain ⟨x,R,e,h1,h2,h3,h4⟩:=h;exact ⟨x,R,e,h1.trans g.h,λa o q=>⟨g.no a (by rw [h1 _ _ q];simp) (h2 a o q).1,(h2 a o q).2⟩,h3,h4⟩
  |va m d=>obtain ⟨x,e,q⟩:=h;exact ⟨x,e,d.up (zbe g.f) q⟩
  |ow m ds=>obtain ⟨p,vs,e,ho,hf,hb,hp,q⟩:=h;exact ⟨p,vs,e,ho,g.no p (by rw [hp];simp) hf,hb,g.h _ _ hp,zds (ds:=[]) (zbe g.f) q⟩
  |ol p ds=>obtain ⟨vs,e,ho,hf,hb,hp,q⟩:=h;exact ⟨vs,e,ho,g.no p (by rw [hp];simp) hf,hb,g.h _ _ hp,zds (ds:=[]) g.f q⟩
  |ob m C p dx fs=>obtain ⟨vs,e,ho,hf,hb,hp,q⟩:=h;exact ⟨vs,e,ho,⟨g.no p (by rw [hp.1];simp) hf.1,g.no dx (by rw [hp.2];simp) hf.2⟩,hb,⟨g.h _ _ hp.1,g.h _ _ hp.2⟩,zbD (λ_ b z=>⟨z.1,b.2.up (zbe g.f) z.2⟩) q⟩
theorem At.grow {F0 Hb F H F' H':Hp} {σ:St} {own:Nat->Option Addr} {Γ:Ctx} (a:At F0 Hb F H σ own Γ) (g:Grow F H F' H'):At F0 Hb F' H' σ own Γ :=
 ⟨a.g.trans g,a.inj,λi p e=>g.h.some (a.liv i p e),λi s e=>(a.sl i s e).grow g,a.len⟩
theorem At.fh {F0 Hb F H:Hp} {σ:St} {own:Nat->Option Addr} {Γ:Ctx} (a:At F0 Hb F H σ own Γ):Same F H:=a.g.fh
theorem zdV {σ:St} {i:Nat} {x:Option V} (h:i<σ.length):((σ.set i x)[i]?).join=x:=by rw [List.getElem?_set_self h];rfl
theorem zeY {σ:St} {i j:Nat} {x:Option V} (h:i≠j):((σ.set i x)[j]?).join=(σ[j]?).join:=by rw [List.getElem?_set_ne h]
theorem At.set {F0 Hb F H:Hp} {σ:St} {own:Nat->Option Addr} {Γ:Ctx} (a:At F0 Hb F H σ own Γ) (i:Nat) {m:Bool} {d:Ds} {v:V} (h:d.pr (zfZ m F Hb) v) :
  At F0 Hb F H (σ.set i (some v)) own (Γ.set i (.va m d)):=by
   refine ⟨a.g,a.inj,a.liv,λj s e=> ?_,by simp [a.len]⟩;by_cases z:i=j
   ·subst z;have hi:i<Γ.length:=by have:=(↑42).1;simpa using this
    rw [List.getElem?_set_self hi] at e;cases e;rw [zdV (by rw [a.len];exact hi)];exact ⟨v,rfl,h⟩
   ·rw [List.getElem?_set_ne z] at e;rw [zeY z];exact a.sl j s e
theorem At.setOwn {F0 Hb F1 H1 F H:Hp} {σ:St} {own:Nat->Option Addr} {Γ:Ctx} (a1:At F0 Hb F1 H1 σ own Γ) (g:Grow F1 H1 F H) (i:Nat) {m:Bool} {ds:List Ds} {p:Addr} {vs:List V} (h1:H1 p=none) (hf:F p=none) (hp:H p=some (.lst vs))
  (h:Paired (λv (d:Ds)=>d.pr (zfZ m F Hb) v) vs ds):At F0 Hb F H (σ.set i (some (.ref p))) (λj=>if j=i then some p else own j) (Γ.set i (.ow m ds)):=by
   have a:=a1.grow g;have hb:Hb p=none:=a1.g.h.free h1;have ho:∀j,own j≠some p:=λj e=>a1.liv j p e h1;refine ⟨a.g,λj k q e1 e2=> ?_,λj q e=> ?_,λj s e=> ?_,by simp [a.len]⟩
   ·skip;split at e1<;>split at e2;·omega
    ·cases e1;exact absurd e2 (ho k)
    ·cases e2;exact absurd e1 (ho j)
    ·exact a.inj j k q e1 e2
   ·skip;split at e;·cases e;rw [hp];simp
    ·exact a.liv j q e
   ·by_cases z:i=j
    ·subst z;have hi:i<Γ.length:=by have:=(↑42).1;simpa using this
     rw [List.getElem?_set_self hi] at e;cases e;rw [zdV (by rw [a.len];exact hi)];exact ⟨p,vs,rfl,by simp,hf,hb,hp,h⟩
    ·rw [List.getElem?_set_ne z] at e;rw [zeY z];have z':¬j=i:=Ne.symm z
     cases s with
      |tl d=>
       obtain ⟨x,R,q1,q2,q3,q4,q5⟩:=a1.sl j _ e;refine ⟨x,R,q1,q2.trans g.h,λb o w=>⟨g.no b (by rw [q2 _ _ w];simp) (q3 b o w).1,(q3 b o w).2⟩,λk q w=> ?_,q5⟩;dsimp only at w;split at w;·cases w;exact q2.free h1
       ·exact q4 k q w
      |no=>trivial
      |va m d=>exact a.sl j _ e
      |ow m ds=>obtain ⟨q,us,w1,w2,w3⟩:=a.sl j _ e;exact ⟨q,us,w1,(if_neg z').trans w2,w3⟩
      |ol q ds=>obtain ⟨us,w1,w2,w3⟩:=a.sl j _ e;exact ⟨us,w1,(if_neg z').trans w2,w3⟩
      |ob m C q dx fs=>obtain ⟨us,w1,w2,w3⟩:=a.sl j _ e;exact ⟨us,w1,(if_neg z').trans w2,w3⟩
theorem At.turn {F0 Hb F H:Hp} {σ:St} {own:Nat->Option Addr} {Γ:Ctx} (a:At F0 Hb F H σ own Γ) {i:Nat} {m n:Bool} {ds es:List Ds} {p:Addr} {ws:List V} (e:Γ[i]? =some (.ow m ds)) (ep:σ[i]? =some (some (.ref p)))
  (h:Paired (λv (d:Ds)=>d.pr (zfZ n F Hb) v) ws es):At F0 Hb F (upd H p (.lst ws)) σ own (Γ.set i (.ow n es)):=by
   obtain ⟨p',vs,e1,e2,hf,hb,hp,_⟩:=a.sl i _ e;rw [ep] at e1;have e1':p=p':=by have:some (V.ref p)=some (V.ref p'):=e1;cases this;rfl
   subst e1';refine ⟨a.g.setH hf hb,a.inj,λj q ej=> ?_,λj s es'=> ?_,by simp [a.len]⟩
   ·by_cases z:q=p;·subst z;rw [zat];simp
    ·rw [zam z];exact a.liv j q ej
   ·by_cases z:i=j;·subst z;have hi:i<Γ.length:=(↑42).1;rw [List.getElem?_set_self hi] at es';cases es';exact ⟨p,ws,by rw [ep];rfl,e2,hf,hb,zat,h⟩
    ·rw [List.getElem?_set_ne z] at es';have:=a.sl j s es'
     cases s with
      |no=>trivial
      |tl d=>obtain ⟨x,R,q1,q2,q3,q4,q5⟩:=this;exact ⟨x,R,q1,λb o w=>by rw [zam (zbd w (q4 i p e2))];exact q2 b o w,q3,q4,q5⟩
      |va m d=>exact this
      |ow m ds=>
       obtain ⟨q,us,h1,h2,h3,h4,h5,h6⟩:=this;have:q≠p:=λw=>by subst w;exact z (a.inj i j q e2 h2)
       exact ⟨q,us,h1,h2,h3,h4,by rw [zam this];exact h5,h6⟩
      |ol q ds=>
       obtain ⟨us,h1,h2,h3,h4,h5,h6⟩:=this;have:q≠p:=λw=>by subst w;exact z (a.inj i j q e2 h2)
       exact ⟨us,h1,h2,h3,h4,by rw [zam this];exact h5,h6⟩
      |ob m C q dx fs=>
       obtain ⟨us,h1,h2,h3,h4,h5,h6⟩:=this;have n1:q≠p:=λw=>by subst w;exact z (a.inj i j q e2 h2)
       have n2:dx≠p:=zjJ h5.2 hp (by intro z;cases z);exact ⟨us,h1,h2,h3,h4,⟨by rw [zam n1];exact h5.1,by rw [zam n2];exact h5.2⟩,h6⟩
theorem At.turnOb {F0 Hb F H:Hp} {σ:St} {own:Nat->Option Addr} {Γ:Ctx} (a:At F0 Hb F H σ own Γ) {i:Nat} {m n:Bool} {C p dx:Addr} {fs gs:List (Str×Ds)} {ws:List (Str×V)} (e:Γ[i]? =some (.ob m C p dx fs))
  (h:Paired (λ(a:Str×V) (b:Str×Ds)=>a.1=b.1∧b.2.pr (zfZ n F Hb) a.2) ws gs):At F0 Hb F (upd H p (.ins C dx ws)) σ own (Γ.set i (.ob n C p dx gs)):=by
   obtain ⟨vs,e1,e2,hf,hb,hp,_⟩:=a.sl i _ e;have ndp:dx≠p:=zjJ hp.2 hp.1 (by intro z;cases z);refine ⟨a.g.setH hf.1 hb.1,a.inj,λj q ej=> ?_,λj s es'=> ?_,by simp [a.len]⟩
   ·by_cases z:q=p;·subst z;rw [zat];simp
    ·rw [zam z];exact a.liv j q ej
   ·by_cases z:i=j;·subst z;have hi:i<Γ.length:=(↑42).1;rw [List.getElem?_set_self hi] at es';cases es';exact ⟨ws,e1,e2,hf,hb,⟨zat,by rw [zam ndp];exact hp.2⟩,h⟩
    ·rw [List.getElem?_set_ne z] at es';have:=a.sl j s es'
     cases s with
      |no=>trivial
      |tl d=>obtain ⟨x,R,q1,q2,q3,q4,q5⟩:=this;exact ⟨x,R,q1,λb o w=>by rw [zam (zbd w (q4 i p e2))];exact q2 b o w,q3,q4,q5⟩
      |va m d=>exact this
      |ow m ds=>
       obtain ⟨q,us,h1,h2,h3,h4,h5,h6⟩:=this;have:q≠p:=λw=>by subst w;exact z (a.inj i j q e2 h2)
       exact ⟨q,us,h1,h2,h3,h4,by rw [zam this];exact h5,h6⟩
      |ol q ds=>
       obtain ⟨us,h1,h2,h3,h4,h5,h6⟩:=this;have:q≠p:=λw=>by subst w;exact z (a.inj i j q e2 h2)
       exact ⟨us,h1,h2,h3,h4,by rw [zam this];exact h5,h6⟩
      |ob m C q dy fs=>
       obtain ⟨us,h1,h2,h3,h4,h5,h6⟩:=this;have n1:q≠p:=λw=>by subst w;exact z (a.inj i j q e2 h2)
       have n2:dy≠p:=zjJ h5.2 hp.1 (by intro z;cases z);exact ⟨us,h1,h2,h3,h4,⟨by rw [zam n1];exact h5.1,by rw [zam n2];exact h5.2⟩,h6⟩
inductive Wk:Ctx->Ctx->Prop where
 | nil:Wk [] []
 | eq {s Γ Δ}:Wk Γ Δ->Wk (s :: Γ) (s :: Δ)
 | no {s Γ Δ}:Wk Γ Δ->Wk (s :: Γ) (.no :: Δ)
 | old {m d Γ Δ}:Wk Γ Δ->Wk (.va m d :: Γ) (.va false d :: Δ)
 | oldL {m d Γ Δ}:Wk Γ Δ->Wk (.ow m d :: Γ) (.ow false d :: Δ)
theorem Wk.refl:∀Γ:Ctx,Wk Γ Γ
 | []=>.nil
 | _ :: Γ=> .eq (Wk.refl Γ)
theorem Wk.len {Γ Δ:Ctx} (h:Wk Γ Δ):Γ.length=Δ.length:=by induction h<;>simp_all
theorem Wk.slot {Γ Δ:Ctx} (h:Wk Γ Δ):∀ {i:Nat} {s:Slot},Δ[i]? =some s->∃r,Γ[i]? =some r∧∀ {Hb F H:Hp} {own:Nat->Option Addr} {j:Nat} {v:Option V},zfN Hb F H own j v r->zfN Hb F H own j v s:=by
 induction h with
  |nil=>intro i s e;simp at e
  |eq _ ih=>intro i s e;cases i with|zero=>simp at e;subst e;exact ⟨_,rfl,λh=>h⟩|succ i=>simpa using ih (i:=i) (s:=s) (by simpa using e)
  |no _ ih=>intro i s e;cases i with|zero=>simp at e;subst e;exact ⟨_,rfl,λ_=>trivial⟩|succ i=>simpa using ih (i:=i) (s:=s) (by simpa using e)
  |old _ ih=>intro i s e;cases i with|zero=>simp at e;subst e;exact ⟨_,rfl,λ⟨x,h1,h2⟩=>⟨x,h1,Ds.up _ za4 h2⟩⟩|succ i=>simpa using ih (i:=i) (s:=s) (by simpa using e)
  |oldL _ ih=>intro i s e;cases i with|zero=>simp at e;subst e;exact ⟨_,rfl,λ⟨p,vs,h1,h2,h3,h4,h5,h6⟩=>⟨p,vs,h1,h2,h3,h4,h5,zds (ds:=[]) za4 h6⟩⟩|succ i=>simpa using ih (i:=i) (s:=s) (by simpa using e)
theorem At.wk {F0 Hb F H:Hp} {σ:St} {own:Nat->Option Addr} {Γ Δ:Ctx} (a:At F0 Hb F H σ own Γ) (w:Wk Γ Δ):At F0 Hb F H σ own Δ :=
 ⟨a.g,a.inj,a.liv,λi s e=>by obtain ⟨r,e1,h⟩:=w.slot e;exact h (a.sl i r e1),by rw [a.len,w.len]⟩
theorem At.share {F0 Hb F H:Hp} {σ:St} {own:Nat->Option Addr} {Γ:Ctx} (a:At F0 Hb F H σ own Γ) {i:Nat} {m:Bool} {ds:List Ds} (e:Γ[i]? =some (.ow m ds)) :
  ∃F' own',Grow F0 Hb F' H∧At F0 Hb F' H σ own' (Γ.set i (.va m (dL ds))):=by
   obtain ⟨p,vs,e1,e2,hf,hb,hp,hq⟩:=a.sl i _ e;have g:=a.g.take hb hp;have fs:Same F (upd F p (.lst vs)):=Same.new hf _;refine ⟨upd F p (.lst vs),λj=>if j=i then none else own j,g,g,λj k q h1 h2=> ?_,λj q h1=> ?_,λj s es=> ?_,by simp [a.len]⟩
   ·skip;split at h1;·cases h1
    ·split at h2;·cases h2
     ·exact a.inj j k q h1 h2
   ·skip;split at h1;·cases h1
    ·exact a.liv j q h1
   ·by_cases z:i=j;·subst z;have hi:i<Γ.length:=(↑42).1;rw [List.getElem?_set_self hi] at es;cases es;exact ⟨.ref p,e1,p,vs,rfl,zdZ hb zat,zds (ds:=[]) (zbe fs) hq⟩
    ·rw [List.getElem?_set_ne z] at es;have z':¬j=i:=Ne.symm z;have:=a.sl j s es
     cases s with
      |no=>trivial
      |tl d=>
       obtain ⟨x,R,q1,q2,q3,q4,q5⟩:=this;refine ⟨x,R,q1,q2,λb o w=>⟨by rw [zam (zbd w (q4 i p e2))];exact (q3 b o w).1,(q3 b o w).2⟩,λk q w=> ?_,q5⟩;dsimp only at w;split at w;·cases w
       ·exact q4 k q w
      |va m d=>obtain ⟨x,h1,h2⟩:=this;exact ⟨x,h1,d.up (zbe fs) h2⟩
      |ow m ds=>
       obtain ⟨q,us,h1,h2,h3,h4,h5,h6⟩:=this;have:q≠p:=λw=>by subst w;exact z (a.inj i j q e2 h2)
       exact ⟨q,us,h1,(if_neg z').trans h2,by rw [zam this];exact h3,h4,h5,zds (ds:=[]) (zbe fs) h6⟩
      |ol q ds=>
       obtain ⟨us,h1,h2,h3,h4,h5,h6⟩:=this;have:q≠p:=λw=>by subst w;exact z (a.inj i j q e2 h2)
       exact ⟨us,h1,(if_neg z').trans h2,by rw [zam this];exact h3,h4,h5,zds (ds:=[]) fs h6⟩
      |ob m C q dx gs=>
       obtain ⟨us,h1,h2,h3,h4,h5,h6⟩:=this;have n1:q≠p:=λw=>by subst w;exact z (a.inj i j q e2 h2)
       have n2:dx≠p:=zjJ h5.2 hp (by intro z;cases z);exact ⟨us,h1,(if_neg z').trans h2,⟨by rw [zam n1];exact h3.1,by rw [zam n2];exact h3.2⟩,h4,h5,zbD (λ_ b z=>⟨z.1,b.2.up (zbe fs) z.2⟩) h6⟩
end L2
namespace L2
open PySem PySem.Spec PyProof.Rows
def Ev (Γ:Ctx) (t:TE) (m:Bool) (d:Ds):Prop:=∀(F0 Hb F H:Hp) (σ:St) (own:Nat->Option Addr) (Q:VK),At F0 Hb F H σ own Γ→(∀v F' H',Grow F H F' H'->d.pr (zfZ m F' Hb) v->Q v H')->t σ H Q
def EvO (Γ:Ctx) (t:TE) (m:Bool) (ds:List Ds):Prop:=∀(F0 Hb F H:Hp) (σ:St) (own:Nat->Option Addr) (Q:VK),At F0 Hb F H σ own Γ→(∀p vs F' H',Grow F H F' H'->H p=none->F' p=none->H' p=some (.lst vs)->Paired (λv (d:Ds)=>d.pr (zfZ m F' Hb) v) vs ds->Q (.ref p) H')->t σ H Q
def EvT (Γ:Ctx) (t:TT) (b:Bool):Prop:=∀(F0 Hb F H:Hp) (σ:St) (own:Nat->Option Addr) (Q:Bool->Hp->Prop),At F0 Hb F H σ own Γ→(∀F' H',Grow F H F' H'->Q b H')->t σ H Q
def EvA (Γ:Ctx) (t:TA) (m:Bool) (ds:List Ds):Prop:=∀(F0 Hb F H:Hp) (σ:St) (own:Nat->Option Addr) (Q:List V->Hp->Prop),At F0 Hb F H σ own Γ→(∀vs F' H',Grow F H F' H'->Paired (λv (d:Ds)=>d.pr (zfZ m F' Hb) v) vs ds->Q vs H')->t σ H Q
def EvP (Γ:Ctx) (t:TO) (i:Option Int):Prop:=∀(F0 Hb F H:Hp) (σ:St) (own:Nat->Option Addr) (Q:Option Int->Hp->Prop),At F0 Hb F H σ own Γ→(∀F' H',Grow F H F' H'->Q i H')->t σ H Q
theorem At.free {F0 Hb F H:Hp} {σ:St} {own:Nat->Option Addr} {Γ:Ctx} (a:At F0 Hb F H σ own Γ) {F' H':Hp} (g:Grow F H F' H') {p:Addr} (h:H' p=none):H p=none∧F' p=none∧Hb p=none:=by have h1:=g.h.free h;exact ⟨h1,g.fh.free h,a.g.h.free h1⟩
section
variable {Γ:Ctx} {t ta tb:TE} {m n:Bool} {d e:Ds} {ds es:List Ds} {K:W.Frag}
theorem Ev.old (h:Ev Γ t m d):Ev Γ t false d:=λF0 Hb F H σ own Q a k=>h F0 Hb F H σ own Q a λv F' H' g q=>k v F' H' g (d.up za4 q)
theorem Ev.conv (h:Ev Γ t m d) (e':d=e):Ev Γ t m e:=e' ▸ h
theorem EvO.conv (h:EvO Γ t m ds) (e':ds=es):EvO Γ t m es:=e' ▸ h
theorem EvT.conv {t:TT} {b c:Bool} (h:EvT Γ t b) (e':b=c):EvT Γ t c:=e' ▸ h
theorem EvO.ev (h:EvO Γ t m ds):Ev Γ t m (dL ds):=λF0 Hb F H σ own Q a k=>h F0 Hb F H σ own Q a λp vs F' H' g h1 h2 h3 q=>by have fs:Same F' (upd F' p (.lst vs)):=Same.new h2 _;exact k (.ref p) (upd F' p (.lst vs)) H' (g.take h1 h3) ⟨p,vs,rfl,zdZ (a.g.h.free h1) zat,zds (ds:=[]) (zbe fs) q⟩
theorem Ev.weak (h:Ev Γ t m (dL ds)):Ev Γ t m (dQ K ds):=λF0 Hb F H σ own Q a k=>h F0 Hb F H σ own Q a λv F' H' g ⟨p,vs,h1,h2,h3⟩=>k v F' H' g ⟨p,vs,h1,SqL.of h2,h3⟩
theorem zab {i:Nat} (h:Γ[i]? =some (.va m d)):Ev Γ (zhi i) m d:=λF0 Hb F H σ own Q a k=>by
 obtain ⟨x,e,q⟩:=a.sl i _ h;have hi:i<σ.length:=by rw [a.len];exact (List.getElem?_eq_some_iff.mp h).1
 rw [List.getElem?_eq_getElem hi] at e;have e':σ[i]=some x:=e;exact ⟨x,by rw [List.getElem?_eq_getElem hi,e'],k x F H (Grow.refl a.fh) q⟩
theorem zax {v:V}:Ev Γ (tC v) m (dV v):=λF0 Hb F H σ own Q a k=>k v F H (Grow.refl a.fh) rfl
theorem zaX {g:Int->Int->V} {x y:Int} (h1:Ev Γ ta false (dI x)) (h2:Ev Γ tb false (dI y)):Ev Γ (tOp (rI0 g) ta tb) m (dV (g x y)):=λF0 Hb F H σ own Q a k=>h1 F0 Hb F H σ own _ a λu F1 H1 g1 q1=>h2 F0 Hb F1 H1 σ own _ (a.grow g1) λv F2 H2 g2 q2=>⟨x,y,q1,q2,k _ F2 H2 ↑24 rfl⟩
theorem zaN {C:Int->Int->Prop} {g:Int->Int->V} {x y:Int} (h1:Ev Γ ta false (dI x)) (h2:Ev Γ tb false (dI y)) (c:C x y):Ev Γ (tOp (rI C g) ta tb) m (dV (g x y)):=λF0 Hb F H σ own Q a k=>h1 F0 Hb F H σ own _ a λu F1 H1 g1 q1=>h2 F0 Hb F1 H1 σ own _ (a.grow g1) λv F2 H2 g2 q2=>⟨x,y,q1,q2,c,k _ F2 H2 ↑24 rfl⟩
theorem zkz {g:Int->V} {x:Int} (h1:Ev Γ ta false (dI x)):Ev Γ (tUn (rU g) ta) m (dV (g x)):=λF0 Hb F H σ own Q a k=>h1 F0 Hb F H σ own _ a λu F1 H1 g1 q1=>⟨x,q1,k _ F1 H1 g1 rfl⟩
theorem zuG {v w:V} (h1:Ev Γ ta false (dV v)) (h2:Ev Γ tb false (dV w)) (hs:scal v w=true):Ev Γ (tOp rEq ta tb) m (dB (decide (v=w))):=λF0 Hb F H σ own Q a k=>h1 F0 Hb F H σ own _ a λu F1 H1 g1 q1=>h2 F0 Hb F1 H1 σ own _ (a.grow g1) λv F2 H2 g2 q2=>by cases q1;cases q2;exact ⟨hs,k _ F2 H2 ↑24 rfl⟩
theorem zt1 {v w:V} (h1:Ev Γ ta false (dV v)) (h2:Ev Γ tb false (dV w)) (hs:scal v w=true):Ev Γ (tOp rNe ta tb) m (dB (!decide (v=w))):=λF0 Hb F H σ own Q a k=>h1 F0 Hb F H σ own _ a λu F1 H1 g1 q1=>h2 F0 Hb F1 H1 σ own _ (a.grow g1) λv F2 H2 g2 q2=>by cases q1;cases q2;exact ⟨hs,k _ F2 H2 ↑24 rfl⟩
theorem zok (x y:Int):decide (V.int x=V.int y)=decide (x=y):=by simp
theorem zeE {x y:Int} (h1:Ev Γ ta false (dI x)) (h2:Ev Γ tb false (dI y)):Ev Γ (tOp rEq ta tb) m (dB (decide (x=y))):=(zuG h1 h2 rfl).conv (by rw [zok])
theorem zg2 {x y:Int} (h1:Ev Γ ta false (dI x)) (h2:Ev Γ tb false (dI y)):Ev Γ (tOp rNe ta tb) m (dB (!decide (x=y))):=(zt1 h1 h2 rfl).conv (by rw [zok])
theorem zk8 (x y:Str):decide (V.str x=V.str y)=decide (x=y):=by simp
theorem zcL {x y:Str} (h1:Ev Γ ta false (dS x)) (h2:Ev Γ tb false (dS y)):Ev Γ (tOp rEq ta tb) m (dB (decide (x=y))):=(zuG h1 h2 rfl).conv (by rw [zk8])
theorem zj3 {x y:Str} (h1:Ev Γ ta false (dS x)) (h2:Ev Γ tb false (dS y)):Ev Γ (tOp rNe ta tb) m (dB (!decide (x=y))):=(zt1 h1 h2 rfl).conv (by rw [zk8])
theorem zai {b:Bool} (h:Ev Γ t false (dB b)):EvT Γ (zsr t) b:=λF0 Hb F H σ own Q a k=>h F0 Hb F H σ own _ a λv F' H' g q=>⟨b,q,k F' H' g⟩
theorem zh8 {b:Bool} (h:Ev Γ t false (dB b)):EvT Γ (tB t) b:=λF0 Hb F H σ own Q a k=>h F0 Hb F H σ own _ a λv F' H' g q=>⟨b,q,k F' H' g⟩
theorem zoJ {t:TT} {b:Bool} (h:EvT Γ t b):EvT Γ (zwP t) (!b):=λF0 Hb F H σ own Q a k=>h F0 Hb F H σ own _ a λF' H' g=>k F' H' g
theorem ziW {t u:TT} {b c:Bool} (h:EvT Γ t b) (h2:b=true->EvT Γ u c):EvT Γ (zwO t u) (b && c):=λF0 Hb F H σ own Q a k=>h F0 Hb F H σ own _ a λF' H' g=>by cases b with|true=>exact h2 rfl F0 Hb F' H' σ own Q (a.grow g) λF2 H2 g2=>k F2 H2 (g.trans g2)|false=>exact k F' H' g
theorem zjP {t u:TT} {b c:Bool} (h:EvT Γ t b) (h2:b=false->EvT Γ u c):EvT Γ (tOr t u) (b||c):=λF0 Hb F H σ own Q a k=>h F0 Hb F H σ own _ a λF' H' g=>by cases b with|false=>exact h2 rfl F0 Hb F' H' σ own Q (a.grow g) λF2 H2 g2=>k F2 H2 (g.trans g2)|true=>exact k F' H' g
theorem zmu {b c:Bool} (h:Ev Γ ta false (dB b)) (h2:b=true->Ev Γ tb false (dB c)):Ev Γ (zuJ ta tb) m (dB (b && c)):=λF0 Hb F H σ own Q a k=>h F0 Hb F H σ own _ a λv F' H' g q=>⟨b,q,by cases b with|true=>exact h2 rfl F0 Hb F' H' σ own Q (a.grow g) λv F2 H2 g2 q2=>k v F2 H2 (g.trans g2) q2|false=>exact k _ F' H' g rfl⟩
theorem znK {tc:TT} {α:Type} {b:Bool} {x y:α} (f:α->Ds) (h:EvT Γ tc b) (h1:b=true->Ev Γ ta m (f x)) (h2:b=false->Ev Γ tb m (f y)):Ev Γ (tIf tc ta tb) m (f (bif b then x else y)):=λF0 Hb F H σ own Q a k=>h F0 Hb F H σ own _ a λF' H' g=>by cases b with|true=>exact h1 rfl F0 Hb F' H' σ own Q (a.grow g) λv F2 H2 g2 q2=>k v F2 H2 (g.trans g2) q2|false=>exact h2 rfl F0 Hb F' H' σ own Q (a.grow g) λv F2 H2 g2 q2=>k v F2 H2 (g.trans g2) q2
theorem zae:EvA Γ zf2 m []:=λF0 Hb F H σ own Q a k=>k [] F H (Grow.refl a.fh) .nil
theorem zac {tr:TA} (h:Ev Γ ta m d) (h2:EvA Γ tr m ds):EvA Γ (zcJ ta tr) m (d::ds):=λF0 Hb F H σ own Q a k=>h F0 Hb F H σ own _ a λv F1 H1 g1 q1=>h2 F0 Hb F1 H1 σ own _ (a.grow g1) λvs F2 H2 g2 q2=>k _ F2 H2 ↑24 (.cons (d.up (zbe g2.f) q1) q2)
theorem zbR {tr:TA} (h:EvA Γ tr m ds) (hz:ds.length≤sizeLine):EvO Γ (zvh tr) m ds:=λF0 Hb F H σ own Q a k=>h F0 Hb F H σ own _ a λvs F1 H1 g1 q1=>⟨by rw [Paired.length q1];exact hz,λp hp=>by obtain ⟨h1,h2,h3⟩:=a.free g1 hp;exact k p vs F1 _ (g1.newH hp) h1 h2 zat q1⟩
theorem zeF {tr:TA} (h:EvA Γ tr m ds) (hz:ds.length≤sizeLine):Ev Γ (zwL tr) m (dT ds):=λF0 Hb F H σ own Q a k=>h F0 Hb F H σ own _ a λvs F1 H1 g1 q1=>⟨by rw [Paired.length q1];exact hz,λp hp=>by obtain ⟨h1,h2,h3⟩:=a.free g1 hp;exact k (.ref p) _ _ (g1.new hp) ⟨p,vs,rfl,zdZ h3 zat,zds (ds:=[]) (zbe (Same.new h2 _)) q1⟩⟩
theorem zbU {tr:TA} (h:EvA Γ tr m []):EvO Γ (zvh tr) m []:=zbR h (Nat.zero_le _)
theorem zgE {R:V->Ds->Prop} {vs:List V} {ds:List Ds} {i:Int} {d:Ds} (h:Paired R vs ds) (e:atI ds i=some d):∃v,atI vs i=some v∧R v d:=by
 unfold atI at e ⊢;rw [Paired.length h]
 cases q:ixN ds.length i with
  |none=>rw [q] at e;cases e
  |some j=>rw [q] at e;obtain ⟨v,e1,r⟩:=zbh h (show ds[j]? =some d from e);exact ⟨v,e1,r⟩
theorem zor {α β:Type} {f:α->β} {xs:List α} {i:Int} {x:α} (e:atI xs i=some x):atI (xs.map f) i=some (f x):=by unfold atI at e ⊢;rw [List.length_map];cases q:ixN xs.length i with|none=>rw [q] at e;cases e|some j=>rw [q] at e;have e':xs[j]? =some x:=e;show (xs.map f)[j]? =_;rw [List.getElem?_map,e'];rfl
theorem zwz {i:Int} (h1:Ev Γ ta m (dQ K ds)) (h2:Ev Γ tb false (dI i)) (e:atI ds i=some d):Ev Γ (tOp (zr0 K) ta tb) m d:=λF0 Hb F H σ own Q a k=>h1 F0 Hb F H σ own _ a λu F1 H1 g1 ⟨p,vs,e1,e2,e3⟩=>h2 F0 Hb F1 H1 σ own _ (a.grow g1) λv F2 H2 g2 q2=>by obtain ⟨x,ex,rx⟩:=zgE e3 e;exact ⟨p,vs,i,x,e1,q2,(za4.trans (g2.f.trans g2.fh)).seq e2,ex,k x F2 H2 ↑24 (d.up (zbe g2.f) rx)⟩
theorem zd3 {i:Int} (h1:Ev Γ ta m (dT ds)) (h2:Ev Γ tb false (dI i)) (e:atI ds i=some d):Ev Γ (tOp (zwb K) ta tb) m d:=λF0 Hb F H σ own Q a k=>h1 F0 Hb F H σ own _ a λu F1 H1 g1 ⟨p,vs,e1,e2,e3⟩=>h2 F0 Hb F1 H1 σ own _ (a.grow g1) λv F2 H2 g2 q2=>by obtain ⟨x,ex,rx⟩:=zgE e3 e;exact ⟨p,vs,i,x,e1,q2,.inl (.inl ((za4.trans (g2.f.trans g2.fh)) _ _ e2)),ex,k x F2 H2 ↑24 (d.up (zbe g2.f) rx)⟩
theorem zuq {t:TE} (h1:Ev Γ t false (dQ K ds)):Ev Γ (tCB ↑96 (zcJ t zf2)) m (dI ds.length):=λF0 Hb F H σ own Q a k=>h1 F0 Hb F H σ own _ a λu F1 H1 g1 ⟨p,vs,e1,e2,e3⟩=>⟨p,vs,by rw [e1],.inl (g1.fh.seq e2),k _ F1 H1 g1 (by show V.int _=_;rw [Paired.length e3])⟩
theorem zjm {t:TE} (h1:Ev Γ t m (dQ K ds)):EvO Γ (tCB (λxs H Q=>∃p ys,xs=[.ref p]∧(SqL K H p ys∨SqT K H p ys)∧∀l,H l=none->Q (.ref l) (upd H l (.lst ys))) (zcJ t zf2)) m ds:=λF0 Hb F H σ own Q a k=>h1 F0 Hb F H σ own _ a λu F1 H1 g1 ⟨p,vs,e1,e2,e3⟩=>⟨p,vs,by rw [e1],.inl ((za4.trans g1.fh).seq e2),λl hl=>by obtain ⟨h1,h2,h3⟩:=a.free g1 hl;exact k l vs F1 _ (g1.newH hl) h1 h2 zat e3⟩
theorem zdf:EvP Γ zn1 none:=λF0 Hb F H σ own Q a k=>k F H (Grow.refl a.fh)
theorem zcC {i:Int} (h:Ev Γ t false (dI i)):EvP Γ (zuo t) (some i):=λF0 Hb F H σ own Q a k=>h F0 Hb F H σ own _ a λv F' H' g q=>⟨i,q,k F' H' g⟩
def zb9 {α:Type} (xs:List α) (lo hi:Option Int):List α:=(xs.drop (HT.sIx xs.length 0 lo)).take (HT.sIx xs.length xs.length hi-HT.sIx xs.length 0 lo)
theorem zp2 {α β:Type} {f:α->β} {xs:List α} {lo hi:Option Int}:(zb9 xs lo hi).map f=zb9 (xs.map f) lo hi:=by unfold zb9;rw [List.map_take,List.map_drop,List.length_map]
theorem zuN {tl th:TO} {lo hi:Option Int} (h1:Ev Γ t m (dQ K ds)) (h2:EvP Γ tl lo) (h3:EvP Γ th hi):EvO Γ (tSl (zvg K) t tl th) m (zb9 ds lo hi):=λF0 Hb F H σ own Q a k=>h1 F0 Hb F H σ own _ a λu F1 H1 g1 ⟨p,vs,e1,e2,e3⟩=>h2 F0 Hb F1 H1 σ own _ (a.grow g1) λF2 H2 g2=>h3 F0 Hb F2 H2 σ own _ ((a.grow g1).grow g2) λF3 H3 g3=>⟨p,vs,e1,(za4.trans (g1.fh.trans (g2.h.trans g3.h))).seq e2,λl hl=>by have g:=g1.trans (g2.trans g3);obtain ⟨h1,h2,h3⟩:=a.free g hl;refine k l _ F3 _ (g.newH hl) h1 h2 zat ?_;unfold ztD zb9;rw [Paired.length e3];exact zhu _ (zhK _ (zds (ds:=[]) (zbe (g2.f.trans g3.f)) e3))⟩
theorem zuX {es:List Ds} (h1:Ev Γ ta m (dL ds)) (h2:Ev Γ tb m (dL es)) (hz:ds.length+es.length≤sizeLine):EvO Γ (tOp zvr ta tb) m (ds++es):=λF0 Hb F H σ own Q a k=>h1 F0 Hb F H σ own _ a λu F1 H1 g1 ⟨p,vs,e1,e2,e3⟩=>h2 F0 Hb F1 H1 σ own _ (a.grow g1) λv F2 H2 g2 ⟨q,ws,f1,f2,f3⟩=>⟨p,q,vs,ws,e1,f1,(za4.trans (g2.f.trans g2.fh)) _ _ e2,(za4.trans g2.fh) _ _ f2,by rw [Paired.length e3,Paired.length f3];exact hz,λl hl=>by have g:=g1.trans g2;obtain ⟨h1,h2,h3⟩:=a.free g hl;exact k l _ F2 _ (g.newH hl) h1 h2 zat (zb6 (zds (ds:=[]) (zbe g2.f) e3) f3)⟩
theorem ztC {n:Int} (h1:Ev Γ ta m (dL ds)) (h2:Ev Γ tb false (dI n)) (hn: -(2 ^ 63)≤n∧n<2 ^ 63) (hz:ds.length*n.toNat≤sizeLine):EvO Γ (tOp zws ta tb) m (List.replicate n.toNat ds).flatten:=λF0 Hb F H σ own Q a k=>h1 F0 Hb F H σ own _ a λu F1 H1 g1 ⟨p,vs,e1,e2,e3⟩=>h2 F0 Hb F1 H1 σ own _ (a.grow g1) λv F2 H2 g2 q2=>⟨p,n,vs,e1,q2,(za4.trans (g2.f.trans g2.fh)) _ _ e2,hn.1,hn.2,by rw [Paired.length e3];exact hz,λl hl=>by have g:=g1.trans g2;obtain ⟨h1,h2,h3⟩:=a.free g hl;exact k l _ F2 _ (g.newH hl) h1 h2 zat (ziy (zds (ds:=[]) (zbe g2.f) e3) _)⟩
theorem zuf {d:Ds} {b:Bool} (h1:Ev Γ ta false d) (h2:Ev Γ tb false dN) (hb:∀H v,d.pr H v->decide (v=V.non)=b):Ev Γ (tOp (λx y H Q=>y= .non∧Q (.bl (decide (x= .non))) H) ta tb) m (dB b):=λF0 Hb F H σ own Q a k=>h1 F0 Hb F H σ own _ a λu F1 H1 g1 q1=>h2 F0 Hb F1 H1 σ own _ (a.grow g1) λv F2 H2 g2 q2=>⟨q2,k _ F2 H2 ↑24 (by show V.bl _=_;rw [hb _ _ q1])⟩
theorem zrE {b:Bool} {tr:TA} (h:EvA Γ tr false [dB b]):Ev Γ (tCB (λxs H Q=>(∃i,xs=[.int i]∧Q (.int i) H)∨∃k,xs=[.bl k]∧Q (.int (if k then 1 else 0)) H) tr) m (dI (if b then 1 else 0)):=λF0 Hb F H σ own Q a k=>h F0 Hb F H σ own _ a λvs F1 H1 g1 q=>by cases q with|cons q1 q=>cases q;cases q1;exact .inr ⟨b,rfl,k _ F1 H1 g1 rfl⟩
theorem zbi {f:α->V} {R:Hp} {xs:List α}:∀ {vs:List V},Paired (λv (d:Ds)=>d.pr R v) vs (xs.map λx=>dV (f x))->vs=xs.map f:=by
 induction xs with
  |nil=>intro vs h;cases h;rfl
  |cons x xs ih=>intro vs h;cases h with|cons h1 h2=>rw [ih h2,h1];rfl
theorem zue {xs:Ji} {t:TE} (h1:Ev Γ t false (dQ K (xs.map dI))):Ev Γ (tCB (λxs H Q=>∃(a:Addr) (ns:Ji),xs=[.ref a]∧SqL K H a (ns.map V.int)∧Q (.int ns.sum) H) (zcJ t zf2)) m (dI xs.sum):=λF0 Hb F H σ own Q a k=>h1 F0 Hb F H σ own _ a λu F1 H1 g1 ⟨p,vs,e1,e2,e3⟩=>↑111
theorem zri {xs:List Bool} {t:TE} (h1:Ev Γ t false (dQ K (xs.map dB))):Ev Γ (tCB (λxs H Q=>∃(a:Addr) (bs:List Bool),xs=[.ref a]∧SqL K H a (bs.map V.bl)∧Q (.bl (bs.all id)) H) (zcJ t zf2)) m (dB (xs.all id)):=λF0 Hb F H σ own Q a k=>h1 F0 Hb F H σ own _ a λu F1 H1 g1 ⟨p,vs,e1,e2,e3⟩=>↑111
theorem zf3 {H:Hp} {f:Str} {d:Ds}:∀ {vs:List (Str×V)} {fs:List (Str×Ds)},Paired (λ(a:Str×V) (b:Str×Ds)=>a.1=b.1∧b.2.pr H a.2) vs fs->fs.lookup f=some d->∃v,vs.lookup f=some v∧d.pr H v
 | _,_,.nil,e=>by cases e
 | _,_,.cons (a:=(x,v)) (b:=(y,d')) ⟨h1,h2⟩ t,e=>by have h1:x=y:=h1;subst h1;simp only [List.lookup_cons] at e ⊢;cases q:f==x with|true=>rw [q] at e;cases e;exact ⟨v,rfl,h2⟩|false=>rw [q] at e;exact zf3 t e
theorem zcM {C:Addr} {fs:List (Str×Ds)} {f:Str} (h1:Ev Γ ta m (dO C fs)) (c:Cls K C) (nf:NoAttr K C f) (e:fs.lookup f=some d):Ev Γ (tFld K ta f) m d:=λF0 Hb F H σ own Q a k=>h1 F0 Hb F H σ own _ a λu F1 H1 g1 ⟨p,dx,vs,e1,e2,e3,e4⟩=>by obtain ⟨v,ev,qv⟩:=zf3 e4 e;exact ⟨p,C,dx,vs,v,e1,(za4.trans g1.fh) _ _ e2,c,nf,ev,k v F1 H1 g1 qv⟩
inductive Rs where
 | va (m:Bool) (d:Ds)
 | ow (m:Bool) (ds:List Ds)
 | ex (C:Addr) (φ:Hp->Option Addr->Prop)
def Spv {ι:Type} (args:ι->List Ds) (pre:ι->Prop) (res:ι->Rs):Sp:=λvs H Q E=>∃(x:ι) (F:Hp),Same F H∧Paired (λv (d:Ds)=>d.pr F v) vs (args x)∧pre x∧match res x with| .ex C φ=>∀dct F' H',Grow F H F' H'->φ F' dct->E (.ref C) dct H'| .va m d=>∀v F' H',Grow F H F' H'->d.pr (zfZ m F' H) v->Q v H'| .ow m ds=>∀p ws F' H',Grow F H F' H'->H p=none->F' p=none->H' p=some (.lst ws)->Paired (λv (d:Ds)=>d.pr (zfZ m F' H) v) ws ds->Q (.ref p) H'
theorem zfH {m:Bool} {F Hb H:Hp} (e:Same Hb H):Same (zfZ m F H) (zfZ m F Hb):=by cases m with|true=>exact zsb e|false=>exact Same.refl _
theorem zau {ι:Type} {args:ι->List Ds} {pre:ι->Prop} {res:ι->Rs} {tr:TA} {E:XK} (x:ι) (h:EvA Γ tr false ds) (ha:ds=args x) (hp:pre x) (hr:res x=.va m d):Ev Γ (tCall (Spv args pre res) [] E tr) m d:=λF0 Hb F H σ own Q a k=>by subst ha;refine h F0 Hb F H σ own _ a λvs F1 H1 g1 q1=>⟨x,F1,g1.fh,by rw [List.append_nil];exact q1,hp,?_⟩;rw [hr];exactλv F' H' g q=>k v F' H' (g1.trans g) (d.up (zfH (a.g.h.trans g1.h)) q)
theorem zcu {ι:Type} {args:ι->List Ds} {pre:ι->Prop} {res:ι->Rs} {tr:TA} {E:XK} (x:ι) (h:EvA Γ tr false es) (ha:es=args x) (hp:pre x) (hr:res x=.ow m ds):EvO Γ (tCall (Spv args pre res) [] E tr) m ds:=λF0 Hb F H σ own Q a k=>by subst ha;refine h F0 Hb F H σ own _ a λvs F1 H1 g1 q1=>⟨x,F1,g1.fh,by rw [List.append_nil];exact q1,hp,?_⟩;rw [hr];exactλp ws F' H' g h1 h2 h3 q=>k p ws F' H' (g1.trans g) (g1.h.free h1) h2 h3 (zds (ds:=[]) (zfH (a.g.h.trans g1.h)) q)
end
end L2
namespace L2
open PySem PySem.Spec PyProof.Rows
def zwq:List Nat->List V->St->St
 | j :: js,v :: vs,σ=>zwq js vs (σ.set j (some v))
 | _,_,σ=>σ
def zpL:List Nat->List Ds->Bool->Ctx->Ctx
 | j :: js,d :: ds,m,Γ=>zpL js ds m (Γ.set j (.va m d))
 | _,_,_,Γ=>Γ
theorem At.setMany {F0 Hb F H:Hp} {own:Nat->Option Addr} {m:Bool}:∀ {js:List Nat} {vs:List V} {ds:List Ds} {σ:St} {Γ:Ctx},At F0 Hb F H σ own Γ->Paired (λv (d:Ds)=>d.pr (zfZ m F Hb) v) vs ds→At F0 Hb F H (zwq js vs σ) own (zpL js ds m Γ)
 | [],_,_,_,_,a,.nil=>a
 | [],_,_,_,_,a,.cons _ _=>a
 | _ :: _,_,_,_,_,a,.nil=>a
 | j :: js,_,_,_,_,a,.cons h t=>At.setMany (js:=js) (a.set j h) t
theorem At.unset {F0 Hb F H:Hp} {own:Nat->Option Addr} {σ:St} {Γ:Ctx} {j:Nat} {s:Slot} (a:At F0 Hb F H σ own (Γ.set j s)) (h:Γ[j]?=some .no):At F0 Hb F H σ own Γ :=
 ⟨a.g,a.inj,a.liv,λi r e=>by
  by_cases z:j=i;·subst z;rw [h] at e;cases e;trivial
  ·exact a.sl i r (by rw [List.getElem?_set_ne z];exact e),by rw [a.len];simp⟩
theorem At.unsetMany {F0 Hb F H:Hp} {own:Nat->Option Addr} {σ:St} {m:Bool}:∀ {js:List Nat} {ds:List Ds} {Γ:Ctx},At F0 Hb F H σ own (zpL js ds m Γ)->(∀j∈js,Γ[j]? =some .no)->js.Nodup->At F0 Hb F H σ own Γ
 | [],[],_,a,_,_=>a
 | [],_ :: _,_,a,_,_=>a
 | _ :: _,[],_,a,_,_=>a
 | j :: js,d :: ds,Γ,a,h,hn=>by have hn:=List.nodup_cons.mp hn;refine At.unset (At.unsetMany (js:=js) (ds:=ds) (Γ:=Γ.set j (.va m d)) a (λi hi=> ?_) hn.2) (h j List.mem_cons_self);rw [List.getElem?_set_ne (λ(z:j=i)=>hn.1 (by rw [z];exact hi))];exact h i (List.mem_cons_of_mem _ hi)
def zul {γ:Type} (Hb F:Hp) (J:It) (g:TG) (js:List Nat) (xs:List γ) (bds:γ->List Ds) (m:Bool):Prop:=∀H,Same F H->J.stop xs.length H∧∀i x,xs[i]? =some x->J.go i H∧∀v H',J.yld i H v H'->Grow F H F H'∧∀(σ:St) (Q:St->Hp->Prop),(∀vs,Paired (λv (d:Ds)=>d.pr (zfZ m F Hb) v) vs (bds x)->Q (zwq js vs σ) H')->g v σ H' Q
def Iv {γ:Type} (Γ:Ctx) (wi:TI) (g:TG) (js:List Nat) (xs:List γ) (bds:γ->List Ds) (m:Bool):Prop:=∀(F0 Hb F H:Hp) (σ:St) (own:Nat->Option Addr) (R:It->Hp->Prop),At F0 Hb F H σ own Γ→(∀J F' H',Grow F H F' H'->zul Hb F' J g js xs bds m->R J H')->wi σ H R
section
variable {Γ:Ctx} {m:Bool} {K:W.Frag} {γ δ:Type}
theorem zul.up {Hb F F':Hp} {J:It} {g:TG} {js:List Nat} {xs:List γ} {bds:γ->List Ds} (h:zul Hb F J g js xs bds m) (e:Same F F'):zul Hb F' J g js xs bds m:=λH hs=>by obtain ⟨h1,h2⟩:=h H (e.trans hs);refine ⟨h1,λi x ex=> ?_⟩;obtain ⟨h3,h4⟩:=h2 i x ex;refine ⟨h3,λv H' y=> ?_⟩;obtain ⟨h5,h6⟩:=h4 v H' y;exact ⟨⟨Same.refl _,hs.trans h5.h,h5.h,λ_ _ z=>z⟩,λσ Q k=>h6 σ Q λvs q=>k vs (zds (ds:=[]) (zbe e) q)⟩
theorem zbQ {tl:TE} {j:Nat} {xs:List γ} (f:γ->Ds) (h:Ev Γ tl m (dQ K (xs.map f))):Iv Γ (zpQ K tl) (zd0 j) [j] xs (λx=>[f x]) m:=λF0 Hb F H σ own R a k=>h F0 Hb F H σ own _ a λu F1 H1 g1 ⟨p,vs,e1,e2,e3⟩=>by have e2':SqL K F1 p vs:=za4.seq e2;refine ⟨p,e1,⟨vs,g1.fh.seq e2'⟩,k _ F1 H1 g1 λH hs=>⟨⟨vs,hs.seq e2',by rw [Paired.length e3,List.length_map];exact Nat.le_refl _⟩,λi x ex=> ?_⟩⟩;obtain ⟨v,ev,qv⟩:=zbh e3 (show (xs.map f)[i]? =some (f x) by rw [List.getElem?_map,ex];rfl);refine ⟨⟨vs,v,hs.seq e2',ev⟩,λw H' y=> ?_⟩;obtain ⟨rfl,y⟩:=y;have:=y vs (hs.seq e2');rw [ev] at this;cases this;exact ⟨Grow.refl hs,λσ Q k=>k [v] (.cons qv .nil)⟩
theorem zpO {tl:TE} {j1 j2:Nat} {xs:List γ} (f1 f2:γ->Ds) (h:Ev Γ tl m (dQ K (xs.map λx=>dT [f1 x,f2 x]))):Iv Γ (zpQ K tl) (zuU K 2 (zjv (zd0 j1) (zjv (zd0 j2) ztU))) [j1,j2] xs (λx=>[f1 x,f2 x]) m:=λF0 Hb F H σ own R a k=>h F0 Hb F H σ own _ a λu F1 H1 g1 ⟨p,vs,e1,e2,e3⟩=>by
 have e2':SqL K F1 p vs:=za4.seq e2;refine ⟨p,e1,⟨vs,g1.fh.seq e2'⟩,k _ F1 H1 g1 λH hs=>⟨⟨vs,hs.seq e2',by rw [Paired.length e3,List.length_map];exact Nat.le_refl _⟩,λi x ex=> ?_⟩⟩;obtain ⟨v,ev,qv⟩:=zbh e3 (show (xs.map λx=>dT [f1 x,f2 x])[i]? =some (dT [f1 x,f2 x]) by rw [List.getElem?_map,ex];rfl);refine ⟨⟨vs,v,hs.seq e2',ev⟩,λw H' y=> ?_⟩;obtain ⟨rfl,y⟩:=y;have:=y vs (hs.seq e2');rw [ev] at this;cases this;obtain ⟨q,ws,rfl,hq,qq⟩:=qv;refine ⟨Grow.refl hs,λσ Q k=> ?_⟩
 cases qq with
  |cons q1 t=>cases t with|cons q2 t=>cases t;exact ⟨q,_,rfl,.inl (.inl ((za4.trans hs) _ _ hq)),rfl,_,_,rfl,_,_,rfl,rfl,k _ (.cons q1 (.cons q2 .nil))⟩
def zdA (lo:Int) (n:Nat):Ji:=(List.range n).map λ(i:Nat)=>lo+(i:Int)
theorem zlJ {lo:Int} {n:Nat}:(zdA lo n).length=n:=by simp [zdA]
theorem zcq {lo:Int} {n i:Nat} {x:Int} (h:(zdA lo n)[i]? =some x):i<n∧x=lo+i:=by
 unfold zdA at h;rw [List.getElem?_map] at h;by_cases z:i<n;·rw [List.getElem?_range z] at h;exact ⟨z,(Option.some.inj h).symm⟩
 ·rw [List.getElem?_eq_none (by simp;omega)] at h;cases h
theorem zuk {Hb F:Hp} {lo:Int} {n j:Nat}:zul Hb F (Itr lo n) (zd0 j) [j] (zdA lo n) (λx=>[dI x]) m:=λH hs=>⟨by show n≤_;rw [zlJ];exact Nat.le_refl _,λi x ex=>by obtain ⟨hi,rfl⟩:=zcq ex;refine ⟨hi,λv H' y=> ?_⟩;obtain ⟨rfl,rfl⟩:=y;exact ⟨Grow.refl hs,λσ Q k=>k [_] (.cons rfl .nil)⟩⟩
theorem zi3 {t:TE} {j:Nat} {n:Int} (h:Ev Γ t false (dI n)) (hn: -(2 ^ 62)≤n∧n<2 ^ 62):Iv Γ (ztX (zcJ t zf2)) (zd0 j) [j] (zdA 0 n.toNat) (λx=>[dI x]) m:=λF0 Hb F H σ own R a k=>h F0 Hb F H σ own _ a λu F1 H1 g1 q1=>⟨n,by rw [q1],hn.1,hn.2,k _ F1 H1 g1 zuk⟩
theorem zfY {α β:Type} {xs:List α} {ys:List β} {i:Nat} {p:α×β} (h:(xs.zip ys)[i]? =some p):xs[i]? =some p.1∧ys[i]? =some p.2:=by rw [List.getElem?_zip_eq_some] at h;exact h
theorem zjX {ta tb:TE} {j1 j2:Nat} {xs:List γ} {ys:List δ} (f1:γ->Ds) (f2:δ->Ds) (h1:Ev Γ ta m (dQ K (xs.map f1))) (h2:Ev Γ tb m (dQ K (ys.map f2))) :
  Iv Γ (zv4 K (zcJ ta (zcJ tb zf2))) (zuU K 2 (zjv (zd0 j1) (zjv (zd0 j2) ztU))) [j1,j2] (xs.zip ys) (λx=>[f1 x.1,f2 x.2]) m:=λF0 Hb F H σ own R a k=>h1 F0 Hb F H σ own _ a λu F1 H1 g1 ⟨p,vs,e1,e2,e3⟩=>h2 F0 Hb F1 H1 σ own _ (a.grow g1) λu' F2 H2 g2 ⟨q,ws,d1,d2,d3⟩=>by have e2':SqL K F2 p vs:=g2.f.seq (za4.seq e2);have d2':SqL K F2 q ws:=za4.seq d2;have e3':=zds (ds:=[]) (zbe (m:=m) (Hb:=Hb) g2.f) e3;have le:=Paired.length e3;have ld:=Paired.length d3;rw [List.length_map] at le ld;refine ⟨p,q,by rw [e1,d1],⟨vs,g2.fh.seq e2'⟩,⟨ws,g2.fh.seq d2'⟩,k _ F2 H2 ↑24 λH hs=>⟨⟨vs,ws,hs.seq e2',hs.seq d2',by rw [le,ld,List.length_zip];omega⟩,λi x ex=> ?_⟩⟩;obtain ⟨x1,x2⟩:=zfY ex;obtain ⟨v,ev,qv⟩:=zbh e3' (show (xs.map f1)[i]? =some (f1 x.1) by rw [List.getElem?_map,x1];rfl);obtain ⟨w,ew,qw⟩:=zbh d3 (show (ys.map f2)[i]? =some (f2 x.2) by rw [List.getElem?_map,x2];rfl);refine ⟨⟨vs,ws,v,w,hs.seq e2',hs.seq d2',ev,ew⟩,λz H' y=> ?_⟩;obtain ⟨r,x',y',rfl,hr,rfl,hxy⟩:=y;obtain ⟨hx,hy⟩:=hxy vs ws (hs.seq e2') (hs.seq d2');rw [ev] at hx;rw [ew] at hy;cases hx;cases hy;exact ⟨(Grow.refl hs).newH hr,λσ Q k=>⟨r,_,rfl,.inl (.inl zat),rfl,_,_,rfl,_,_,rfl,rfl,k [v,w] (.cons qv (.cons qw .nil))⟩⟩
def zvd:Option Slot->Slot
 | some (.va m d)=>.va m d
 | _=>.no
def zoz (own:Nat) (fv:List Nat) (Γ:Ctx):Ctx:=List.replicate own .no++fv.map λi=>zvd Γ[i]?
theorem At.block {F0 Hb F H:Hp} {own:Nat->Option Addr} {σ:St} (a:At F0 Hb F H σ own Γ) (k:Nat) (fv:List Nat):At F0 Hb F H (zh2 k fv σ) (λ_=>none) (zoz k fv Γ):=by
 refine ⟨a.g,λ_ _ _ h=>(by cases h),λ_ _ h=>(by cases h),λi s e=> ?_,?_⟩
 ·unfold zoz at e;unfold zh2;by_cases hi:i<k;·rw [List.getElem?_append_left ↑44,List.getElem?_replicate,if_pos hi] at e;cases e;trivial
  ·rw [List.getElem?_append_right ↑44,List.length_replicate,List.getElem?_map] at e;rw [List.getElem?_append_right ↑44,List.length_replicate,List.getElem?_map]
   cases q:fv[i-k]? with
    |none=>rw [q] at e;cases e
    |some j=>
     rw [q] at e;have e':zvd Γ[j]? =s:=Option.some.inj e;subst e';show zfN Hb F H (λ_=>none) _ ((σ[j]?).join) (zvd Γ[j]?)
     cases z:Γ[j]? with
      |none=>trivial
      |some r=>cases r with|no=>trivial|va m d=>exact (show zfN Hb F H own j _ (.va m d) from a.sl j _ z)|ow m ds=>trivial|ob m C p dx fs=>trivial|ol p ds=>trivial|tl d=>trivial
 ·unfold zh2 zoz;simp
theorem zsc {k:Nat} {fv:List Nat} {j:Nat} {d:Ds} (e:(zoz k fv Γ)[j]? =some (.tl d)):False:=by
 unfold zoz at e;have:=List.mem_of_getElem? e;rcases List.mem_append.mp this with q|q
 ·cases (List.mem_replicate.mp q).2
 ·obtain ⟨l,_,q⟩:=List.mem_map.mp q;unfold zvd at q;split at q<;>cases q
theorem zp6:EvT Γ zta true:=λF0 Hb F H σ own Q a k=>k F H (Grow.refl a.fh)
theorem znQ {xs:List γ} {i:Nat} {x:γ} (h:xs[i]?=some x):xs.take (i+1)=xs.take i++[x]:=by rw [List.take_succ,h];rfl
theorem zlq {own:Nat} {fv:List Nat} {wi:TI} {tg:TG} {tt:TTs} {te:TE} {js:List Nat} {xs:List γ} {bds:γ->List Ds} {mi:Bool} {c:γ->Bool} {g:γ->Ds} (it:Iv Γ wi tg js xs bds mi) (hz:xs.length≤sizeLine) (hj:(∀j∈js,j<own)∧js.Nodup)
  (ht:∀(i:Nat) (x:γ),xs[i]? =some x->EvT (zpL js (bds x) mi (zoz own fv Γ)) tt (c x)) (he:∀(i:Nat) (x:γ),xs[i]? =some x->c x=true->Ev (zpL js (bds x) mi (zoz own fv Γ)) te m (g x)):EvO Γ (zpJ own fv wi tg tt te) m ((xs.filter c).map g):=λF0 Hb F H σ ow Q a k=>it F0 Hb F H σ ow _ a λJ F1 H1 g1 ok D hD=>by
   have hno:∀j∈js,(zoz own fv Γ)[j]? =some .no:=λj hj'=>by have:=hj.1 j hj';unfold zoz;rw [List.getElem?_append_left (by simpa using this),List.getElem?_replicate,if_pos this]
   obtain ⟨hD0,hDF,hDb⟩:=a.free g1 hD;refine ⟨λi mm ys σb H2=>mm=xs.length-i∧i≤xs.length∧ys.length≤i∧∃F2,Grow F1 H1 F2 H2∧F2 D=none∧H2 D=some (.lst ys)∧Paired (λv (d:Ds)=>d.pr (zfZ m F2 Hb) v) ys (((xs.take i).filter c).map g)∧At F0 Hb F2 H2 σb (λ_=>none) (zoz own fv Γ),⟨_,rfl,Nat.zero_le _,Nat.zero_le _,F1,(Grow.refl g1.fh).newH hD,hDF,zat,by simpa using Paired.nil,((a.grow g1).block own fv).grow ((Grow.refl g1.fh).newH hD)⟩,?_⟩;rintro i mm ys σb H2 ⟨rfl,hi,hy,F2,g2,hF2,hH2,hP,a2⟩;refine ⟨hH2,?_⟩;obtain ⟨hstop,hitem⟩:=ok.up g2.f H2 g2.fh;by_cases hlt:i<xs.length
   ·obtain ⟨go,yl⟩:=hitem i xs[i] (List.getElem?_eq_getElem hlt);refine .inr ⟨go,λx H' y=> ?_⟩;obtain ⟨g3,bind⟩:=yl x H' y;refine bind σb _ λvs hvs=> ?_;have a3:=(a2.grow g3).setMany (js:=js) hvs;have hx:xs[i]? =some xs[i]:=List.getElem?_eq_getElem hlt;refine ht i _ hx F0 Hb F2 H' _ _ _ a3 λF4 H4 g4=> ?_;have tk:=znQ hx;have gD:∀ {F5 H5:Hp},Grow F2 H2 F5 H5->F5 D=none∧H5 D=some (.lst ys):=λg=>⟨g.no D (by rw [hH2];simp) hF2,g.h _ _ hH2⟩
    cases hc:c xs[i] with
     |true=>
      rw [if_pos rfl];refine he i _ hx hc F0 Hb F4 H4 _ _ _ (a3.grow g4) λv F5 H5 g5 q5=> ?_;have g25:=g3.trans (g4.trans g5);obtain ⟨n1,n2⟩:=gD g25;have sD:Same H5 H5:=Same.refl _;have n3:H1 D=none:=hD;refine ⟨n2,by omega,xs.length-(i+1),by omega,rfl,hlt,by simp;omega,F5,?_,n1,zat,?_,?_⟩;·exact (g2.trans g25).setH n1 n3
      ·rw [tk,List.filter_append,List.map_append];refine zb6 (zds (ds:=[]) (zbe g25.f) hP) ?_;rw [List.filter_cons,hc];exact .cons q5 .nil
      ·have a5:=((a3.grow g4).grow g5).unsetMany hno hj.2;refine ⟨a5.g.setH n1 hDb,a5.inj,λ_ _ h=>(nomatch h),λj s es=> ?_,a5.len⟩
       ·have:=a5.sl j s es
        cases s with
         |no=>trivial
         |va m d=>exact this
         |ow m ds=>obtain ⟨_,_,_,h,_⟩:=this;exact (nomatch h)
         |ob m C p dx fs=>obtain ⟨_,_,h,_⟩:=this;exact (nomatch h)
         |ol p ds=>obtain ⟨_,_,h,_⟩:=this;exact (nomatch h)
         |tl d=>exact (zsc es).elim
     |false=>rw [if_neg Bool.false_ne_true];have g25:=g3.trans g4;obtain ⟨n1,n2⟩:=gD g25;refine ⟨xs.length-(i+1),by omega,rfl,hlt,by omega,F4,g2.trans g25,n1,n2,?_,(a3.grow g4).unsetMany hno hj.2⟩;rw [tk,List.filter_append,List.map_append,List.filter_cons,hc];simpa using zds (ds:=[]) (zbe g25.f) hP
   ·have e:i=xs.length:=by omega
    subst e;rw [List.take_length] at hP;exact .inl ⟨hstop,k D ys F2 H2 ↑24 hD0 hF2 hH2 hP⟩
theorem zdj {own:Nat} {fv:List Nat} {wi:TI} {tg:TG} {te:TE} {js:List Nat} {xs:List γ} {bds:γ->List Ds} {mi:Bool} {g:γ->Ds} (it:Iv Γ wi tg js xs bds mi) (hz:xs.length≤sizeLine) (hj:(∀j∈js,j<own)∧js.Nodup)
  (he:∀(i:Nat) (x:γ),xs[i]? =some x->Ev (zpL js (bds x) mi (zoz own fv Γ)) te m (g x)):EvO Γ (zpJ own fv wi tg zta te) m (xs.map g):=by have:=zlq (c:=λ_=>true) it hz hj (λ_ _ _=>zp6) (λi x hx _=>he i x hx);rwa [show xs.filter (λ_=>true)=xs from List.filter_eq_self.mpr λ_ _=>rfl] at this
end
inductive Oc where
 | nx (Γ:Ctx)
 | rt (m:Bool) (d:Ds)
 | rl (m:Bool) (ds:List Ds)
 | bk (Γ:Ctx)
 | ct (Γ:Ctx)
 | ex (C:Addr) (φ:Hp->Option Addr->Prop) (Γ:Ctx)
 | rw (Γ:Ctx) (d:Ds)
def zg9 (E:XS) (F0 Hb:Hp) (D:Ends):Oc->Prop
 | .ex C φ Γ=>∀dct F H σ own,At F0 Hb F H σ own Γ->φ F dct->E σ (.ref C) dct H
 | .rw Γ d=>∀v F H σ own,At F0 Hb F H σ own Γ->d.pr F v->D.rt v H
 | .nx Γ=>∀F H σ own,At F0 Hb F H σ own Γ->D.nx σ H
 | .bk Γ=>∀F H σ own,At F0 Hb F H σ own Γ->D.bk σ H
 | .ct Γ=>∀F H σ own,At F0 Hb F H σ own Γ->D.ct σ H
 | .rt m d=>∀v F H,Grow F0 Hb F H->d.pr (zfZ m F Hb) v->D.rt v H
 | .rl m ds=>∀p vs F H,Grow F0 Hb F H->Hb p=none->F p=none->H p=some (.lst vs)->Paired (λv (d:Ds)=>d.pr (zfZ m F Hb) v) vs ds->D.rt (.ref p) H
def Run (E:XS) (Γ:Ctx) (t:TS) (o:Oc):Prop:=∀(F0 Hb F H:Hp) (σ:St) (own:Nat->Option Addr) (D:Ends),At F0 Hb F H σ own Γ->zg9 E F0 Hb D o->t D σ H
def Let {α:Type} {β:Type} (a:α) (k:α->β):β:=k a
def zcS {σ:Type} {γ:Type} {β:Type} (f:σ->γ->σ⊕β):σ->List γ->σ⊕β
 | s,[]=>.inl s
 | s,x :: xs=>match f s x with| .inl s'=>zcS f s' xs| .inr b=> .inr b
section
variable {E:XS} {Γ Δ:Ctx} {m:Bool} {K:W.Frag} {γ β:Type} {te:TE} {t u:TS} {d:Ds} {ds:List Ds} {o:Oc} {i:Nat}
theorem zao (w:Wk Γ Δ):Run E Γ znn (.nx Δ):=λF0 Hb F H σ own D a k=>k F H σ own (a.wk w)
theorem zaD (h:Ev Γ te m d):Run E Γ (zne te) (.rt m d):=λF0 Hb F H σ own D a k=>h F0 Hb F H σ own _ a λv F' H' g q=>k v F' H' (a.g.trans g) q
theorem zhl (h:EvO Γ te m ds):Run E Γ (zne te) (.rl m ds):=λF0 Hb F H σ own D a k=>h F0 Hb F H σ own _ a λp vs F' H' g h1 h2 h3 q=>k p vs F' H' (a.g.trans g) (a.g.h.free h1) h2 h3 q
theorem ziq (e:Γ[i]? =some (.ow m ds)):Run E Γ (zne (zhi i)) (.rl m ds):=λF0 Hb F H σ own D a k=>by
 obtain ⟨p,vs,e1,e2,e3,e4,e5,e6⟩:=a.sl i _ e;have hi:i<σ.length:=by rw [a.len];exact (↑42).1
 rw [List.getElem?_eq_getElem hi] at e1;have e':σ[i]=some (.ref p):=e1;exact ⟨_,by rw [List.getElem?_eq_getElem hi,e'],k p vs F H a.g e4 e3 e5 e6⟩
theorem zhE (h:Run E Γ (zne te) o) (ho:∀F0 Hb D D',D.rt=D'.rt->zg9 E F0 Hb D o->zg9 E F0 Hb D' o):Run E Γ (zdI (zne te) u) o:=λF0 Hb F H σ own D a k=>h F0 Hb F H σ own _ a (ho F0 Hb D {D with nx:=u D} rfl k)
theorem zak (h:Run E Γ (zne te) (.rt m d)):Run E Γ (zdI (zne te) u) (.rt m d):=zhE h λ_ _ _ _ e q v F H g p=>e ▸ q v F H g p
theorem zd1 (h:Run E Γ (zne te) (.rl m ds)):Run E Γ (zdI (zne te) u) (.rl m ds):=zhE h λ_ _ _ _ e q p vs F H g h1 h2 h3 h4=>e ▸ q p vs F H g h1 h2 h3 h4
theorem zbG (h:Ev Γ te m d) (k:Run E (Γ.set i (.va m d)) u o):Run E Γ (zdI (zl3 te (zd0 i)) u) o:=λF0 Hb F H σ own D a q=>h F0 Hb F H σ own _ a λv F' H' g p=>k F0 Hb F' H' _ own D ((a.grow g).set i p) q
theorem zdX (h:EvO Γ te m ds) (k:Run E (Γ.set i (.ow m ds)) u o):Run E Γ (zdI (zl3 te (zd0 i)) u) o:=λF0 Hb F H σ own D a q=>h F0 Hb F H σ own _ a λp vs F' H' g h1 h2 h3 h4=>k F0 Hb F' H' _ _ D (a.setOwn g i h1 h2 h3 h4) q
theorem zas {α:Type} {x:α} (f:α->Ds) (fo:β->Oc) {kk:α->β} (h:Ev Γ te m (f x)) (k:∀y,y=x->Run E (Γ.set i (.va m (f y))) u (fo (kk y))):Run E Γ (zdI (zl3 te (zd0 i)) u) (fo (Let x kk)):=zbG h (k x rfl)
theorem zfF {α:Type} {x:α} (f:α->List Ds) (fo:β->Oc) {kk:α->β} (h:EvO Γ te m (f x)) (k:∀y,y=x->Run E (Γ.set i (.ow m (f y))) u (fo (kk y))):Run E Γ (zdI (zl3 te (zd0 i)) u) (fo (Let x kk)):=zdX h (k x rfl)
theorem zfw (h:Ev Γ te m d) (k:Run E Γ u o):Run E Γ (zdI (zic te) u) o:=λF0 Hb F H σ own D a q=>h F0 Hb F H σ own _ a λv F' H' g p=>k F0 Hb F' H' σ own D (a.grow g) q
theorem zbV (e:Γ[i]? =some (.ow m ds)) (k:Run E (Γ.set i (.va m (dL ds))) t o):Run E Γ t o:=λF0 Hb F H σ own D a q=>by obtain ⟨F',own',_,a'⟩:=a.share e;exact k F0 Hb F' H σ own' D a' q
theorem zbM {α:Type} {tc:TT} {b:Bool} {x y:α} {r:TS} (fo:α->Oc) (h:EvT Γ tc b) (h1:b=true->Run E Γ (zdI t r) (fo x)) (h2:b=false->Run E Γ (zdI u r) (fo y)):Run E Γ (zdI (zrV tc t u) r) (fo (bif b then x else y)):=λF0 Hb F H σ own D a q=>h F0 Hb F H σ own _ a λF' H' g=>by cases b with|true=>rw [if_pos rfl];exact h1 rfl F0 Hb F' H' σ own D (a.grow g) q|false=>rw [if_neg Bool.false_ne_true];exact h2 rfl F0 Hb F' H' σ own D (a.grow g) q
theorem zeg {tc:TT} {r:TS} (h:EvT Γ tc true) (h1:Run E Γ (zdI t r) o):Run E Γ (zdI (zrV tc t u) r) o:=λF0 Hb F H σ own D a q=>h F0 Hb F H σ own _ a λF' H' g=>by rw [if_pos rfl];exact h1 F0 Hb F' H' σ own D (a.grow g) q
theorem zav {tc:TT} {r:TS} (h:EvT Γ tc false) (h1:Run E Γ (zdI u r) o):Run E Γ (zdI (zrV tc t u) r) o:=λF0 Hb F H σ own D a q=>h F0 Hb F H σ own _ a λF' H' g=>by rw [if_neg Bool.false_ne_true];exact h1 F0 Hb F' H' σ own D (a.grow g) q
theorem zbJ {tc:TT} {b:Bool} {r:TS} (G:Bool->Ctx) (h:EvT Γ tc b) (h1:b=true->Run E Γ t (.nx (G true))) (h2:b=false->Run E Γ u (.nx (G false))) (k:Run E (G b) r o):Run E Γ (zdI (zrV tc t u) r) o:=λF0 Hb F H σ own D a q=>h F0 Hb F H σ own _ a λF' H' g=>by cases b with|true=>rw [if_pos rfl];exact h1 rfl F0 Hb F' H' σ own _ (a.grow g) λF H σ own a'=>k F0 Hb F H σ own D a' q|false=>rw [if_neg Bool.false_ne_true];exact h2 rfl F0 Hb F' H' σ own _ (a.grow g) λF H σ own a'=>k F0 Hb F H σ own D a' q
theorem zaj (k:Run E Γ u o):Run E Γ (zdI znn u) o:=λF0 Hb F H σ own D a q=>k F0 Hb F H σ own D a q
theorem zoC {Δ:Ctx} (h:Run E Γ t (.nx Δ)) (k:Run E Δ u o):Run E Γ (zdI t u) o:=λF0 Hb F H σ own D a q=>h F0 Hb F H σ own _ a λF H σ own a'=>k F0 Hb F H σ own D a' q
theorem zaK {r:TS} (h:Run E Γ (zdI t (zdI u r)) o):Run E Γ (zdI (zdI t u) r) o:=λF0 Hb F H σ own D a q=>h F0 Hb F H σ own D a q
theorem zfP {F0 Hb F H:Hp} {σ:St} {own:Nat->Option Addr} (a:At F0 Hb F H σ own Γ) (e:Γ[i]? =some (.ow m ds)) :
  ∃p vs,σ[i]? =some (some (.ref p))∧own i=some p∧F p=none∧Hb p=none∧H p=some (.lst vs)∧Paired (λv (d:Ds)=>d.pr (zfZ m F Hb) v) vs ds:=by
   obtain ⟨p,vs,e1,e2,e3,e4,e5,e6⟩:=a.sl i _ e;have hi:i<σ.length:=by rw [a.len];exact (↑42).1
   rw [List.getElem?_eq_getElem hi] at e1;have e':σ[i]=some (.ref p):=e1;exact ⟨p,vs,by rw [List.getElem?_eq_getElem hi,e'],e2,e3,e4,e5,e6⟩
theorem zmQ {te:TE} (e:Γ[i]? =some (.ow m ds)) (h:Ev Γ te m d) (hz:ds.length<sizeLine) (k:Run E (Γ.set i (.ow m (ds++[d]))) u o):Run E Γ (zdI (zic (tBM K "list" zgL (zhi i) (zcJ te zf2))) u) o:=λF0 Hb F H σ own D a q=>by obtain ⟨p,vs,e1,e2,e3,e4,e5,e6⟩:=zfP a e;refine ⟨_,e1,.inl ⟨rfl,_,SqL.of e5⟩,?_⟩;refine h F0 Hb F H σ own _ a λv F' H' g qv=> ?_;obtain ⟨p',vs',f1,f2,f3,f4,f5,f6⟩:=zfP (a.grow g) e;rw [e1] at f1;cases f1;exact ⟨p,vs',v,rfl,rfl,f5,by rw [Paired.length f6];exact hz,k F0 Hb F' _ σ own D ((a.grow g).turn e e1 (zb6 f6 (.cons qv .nil))) q⟩
theorem zqu {tb:TE} {n:Bool} {j:Int} (e:Γ[i]? =some (.ow m ds)) (h2:Ev Γ tb false (dI j)) (ej:atI ds j=some d):Ev Γ (tOp (zr0 K) (zhi i) tb) m d:=λF0 Hb F H σ own Q a k=>by obtain ⟨p,vs,e1,e2,e3,e4,e5,e6⟩:=zfP a e;refine ⟨_,e1,h2 F0 Hb F H σ own _ a λv F' H' g qv=> ?_⟩;obtain ⟨x,ex,rx⟩:=zgE e6 ej;exact ⟨p,vs,j,x,rfl,qv,SqL.of (g.h _ _ e5),ex,k x F' H' g (d.up (zbe g.f) rx)⟩
theorem zn0 {n:Bool} (e:Γ[i]? =some (.ow m ds)):Ev Γ (tCB ↑96 (zcJ (zhi i) zf2)) n (dI ds.length):=λF0 Hb F H σ own Q a k=>by obtain ⟨p,vs,e1,e2,e3,e4,e5,e6⟩:=zfP a e;exact ⟨_,e1,p,vs,rfl,.inl (SqL.of e5),k _ F H (Grow.refl a.fh) (by show V.int _=_;rw [Paired.length e6])⟩
theorem znz {te tj:TE} {j:Int} {n:Nat} (e:Γ[i]? =some (.ow m ds)) (h:Ev Γ te m d) (hj:Ev Γ tj false (dI j)) (ej:ixN ds.length j=some n) (k:Run E (Γ.set i (.ow m (ds.set n d))) u o):Run E Γ (zdI (zl3 te (zvi (zhi i) tj zp5)) u) o:=λF0 Hb F H σ own D a q=>by refine h F0 Hb F H σ own _ a λv F' H' g qv=> ?_;obtain ⟨p,vs,e1,e2,e3,e4,e5,e6⟩:=zfP (a.grow g) e;refine ⟨_,e1,hj F0 Hb F' H' σ own _ (a.grow g) λw F2 H2 g2 qw=> ?_⟩;obtain ⟨p',vs',f1,f2,f3,f4,f5,f6⟩:=zfP ((a.grow g).grow g2) e;rw [e1] at f1;cases f1;exact ⟨p,vs',j,n,rfl,qw,f5,by rw [Paired.length f6];exact ej,k F0 Hb F2 _ σ own D (((a.grow g).grow g2).turn e e1 (ziG (R:=λv (d:Ds)=>d.pr (zfZ m F2 Hb) v) (d.up (zbe g2.f) qv) n f6)) q⟩
theorem ziR {S:Type} (f:S->γ->S ⊕ β):∀(xs:List γ) (s:S) (i:Nat) (s':S),zcS f s (xs.take i)= .inl s'->∀x,xs[i]? =some x->zcS f s (xs.take (i+1))=f s' x
 | [],_,_,_,_,_,h=>by simp at h
 | y :: ys,s,0,s',e,x,h=>by
  simp at h;subst h;have e':s=s':=by simpa [zcS] using e
  subst e';show zcS f s [y]=_;simp only [zcS];cases f s y<;>rfl
 | y :: ys,s,i+1,s',e,x,h=>by simp only [List.take_succ_cons,zcS] at e ⊢;cases q:f s y with|inl s1=>rw [q] at e;exact ziR f ys s1 i s' e x (by simpa using h)|inr b=>rw [q] at e;cases e
theorem zin {S:Type} (f:S->γ->S ⊕ β):∀(xs:List γ) (s:S) (i:Nat) (b:β),zcS f s (xs.take i)= .inr b->zcS f s xs= .inr b
 | [],s,i,b,e=>by simpa using e
 | y :: ys,s,0,b,e=>by simp [zcS] at e
 | y :: ys,s,i+1,b,e=>by simp only [List.take_succ_cons,zcS] at e ⊢;cases q:f s y with|inl s1=>rw [q] at e;exact zin f ys s1 i b e|inr b'=>rw [q] at e;exact e
def zkX {S:Type} (G:S->Ctx) (res:β->Oc):S ⊕ β->Oc
 | .inl s=>.nx (G s)
 | .inr b=>res b
theorem Grow.rebase {F0 Hb F1 H1 F H:Hp} (g1:Grow F0 Hb F1 H1) (g:Grow F0 Hb F H) (e:Same F1 F):Grow F1 Hb F H :=
 ⟨e,g.fh,g.h,λa h1 h2=>g.no a h1 (g1.f.free h2)⟩
theorem Grow.unbase {F0 Hb F1 H1 F H:Hp} (g1:Grow F0 Hb F1 H1) (g:Grow F1 Hb F H):Grow F0 Hb F H :=
 ⟨g1.f.trans g.f,g.fh,g.h,λa h1 h2=>g.no a h1 (g1.no a h1 h2)⟩
theorem At.rebase {F0 Hb F1 H1 F H:Hp} {σ:St} {own:Nat->Option Addr} (g1:Grow F0 Hb F1 H1) (a:At F0 Hb F H σ own Γ) (e:Same F1 F):At F1 Hb F H σ own Γ:=⟨g1.rebase a.g e,a.inj,a.liv,a.sl,a.len⟩
theorem At.unbase {F0 Hb F1 H1 F H:Hp} {σ:St} {own:Nat->Option Addr} (g1:Grow F0 Hb F1 H1) (a:At F1 Hb F H σ own Γ):At F0 Hb F H σ own Γ:=⟨g1.unbase a.g,a.inj,a.liv,a.sl,a.len⟩
theorem zg9.rebase {F0 Hb F1 H1:Hp} {D:Ends} (g1:Grow F0 Hb F1 H1) (h:zg9 E F0 Hb D o):zg9 E F1 Hb D o:=by cases o with|nx Γ=>exactλF H σ own a=>h F H σ own (a.unbase g1)|bk Γ=>exactλF H σ own a=>h F H σ own (a.unbase g1)|ct Γ=>exactλF H σ own a=>h F H σ own (a.unbase g1)|rt m d=>exactλv F H g q=>h v F H (g1.unbase g) q|rl m ds=>exactλp vs F H g h1 h2 h3 q=>h p vs F H (g1.unbase g) h1 h2 h3 q|ex C φ Γ=>exactλdct F H σ own a p=>h dct F H σ own (a.unbase g1) p|rw Γ d=>exactλv F H σ own a q=>h v F H σ own (a.unbase g1) q
theorem zpj {S:Type} {wi:TI} {g:TG} {tb:TS} {js:List Nat} {xs:List γ} {bds:γ->List Ds} {mi:Bool} {s0:S} (G:S->Ctx) (res:β->Oc) (f:S->γ->S ⊕ β) (I:Nat->S->Prop) (it:Iv Γ wi g js xs bds mi) (w:Wk Γ (G s0)) (h0:I 0 s0)
  (hres:∀(b:β) (F0 Hb:Hp) (D D':Ends),D.rt=D'.rt->zg9 E F0 Hb D (res b)->zg9 E F0 Hb D' (res b))
  (body:∀(i:Nat) (x:γ) (s:S),xs[i]? =some x->I i s->(∀s',f s x= .inl s'->I (i+1) s')∧Run E (zpL js (bds x) mi (G s)) tb (zkX G res (f s x))):Run E Γ (ztf wi g tb) (zkX G res (zcS f s0 xs)):=λF0 Hb F H σ own D a q=>it F0 Hb F H σ own _ a λJ F1 H1 g1 ok=>by
   have gb:Grow F0 Hb F1 H1:=a.g.trans g1;refine ⟨λi mm σ H2=>mm=xs.length-i∧i≤xs.length∧∃s F2 own2,zcS f s0 (xs.take i)= .inl s∧I i s∧At F1 Hb F2 H2 σ own2 (G s),⟨_,rfl,Nat.zero_le _,s0,F1,own,by simp [zcS],h0,((a.grow g1).wk w).rebase gb (Same.refl _)⟩,?_⟩;rintro i mm σ2 H2 ⟨rfl,hi,s,F2,own2,es,hI,a2⟩;obtain ⟨hstop,hitem⟩:=ok.up a2.g.f H2 a2.fh;by_cases hlt:i<xs.length;·have hx:xs[i]? =some xs[i]:=List.getElem?_eq_getElem hlt;obtain ⟨go,yl⟩:=hitem i xs[i] hx;obtain ⟨hI',hb⟩:=body i _ s hx hI;have tk:=ziR f xs s0 i s es _ hx;refine .inr ⟨go,λσ' H'=>∃s' F3 own3,f s xs[i]= .inl s'∧At F1 Hb F3 H' σ' own3 (G s'),λσ' H' ⟨s',F3,own3,e3,a3⟩=>⟨xs.length-(i+1),by omega,rfl,hlt,s',F3,own3,by rw [tk,e3],hI' s' e3,a3⟩,λx H' y=> ?_⟩;obtain ⟨g3,bind⟩:=yl x H' y;refine bind σ2 _ λvs hvs=> ?_;have a3:=(a2.grow g3).setMany (js:=js) hvs;refine hb F1 Hb F2 H' _ own2 _ a3 ?_;cases e3:f s xs[i] with|inl s'=>exactλF3 H3 σ3 own3 a4=>⟨s',F3,own3,rfl,a4⟩|inr b=>have:=zin f xs s0 (i+1) b (by rw [tk,e3]);rw [this] at q;exact hres b F1 Hb D _ rfl (zg9.rebase (o:=res b) gb q)
   ·have e:i=xs.length:=by omega
    subst e;rw [List.take_length] at es;rw [es] at q;exact .inl ⟨hstop,q F2 H2 σ2 own2 (a2.unbase gb)⟩
end
end L2
namespace L2
open PySem PySem.Spec PyProof.Rows
structure EqD {α:Type} [DecidableEq α] (K:W.Frag) (f:α->Ds) (n:Nat):Prop where
 eq:∀ H x y v w,(f x).pr H v->(f y).pr H w->EqV K H n v w (decide (x=y))
 inj:∀ H x y v,(f x).pr H v->(f y).pr H v->x=y
theorem EqD.int {K:W.Frag} {n:Nat}:EqD K dI n:=⟨λH x y v w h1 h2=>by cases h1;cases h2;have:decide (x=y)=eqV (.int x) (.int y):=Bool.eq_iff_iff.mpr (by unfold eqV;simp);rw [this];exact .flat rfl rfl,λH x y v h1 h2=>by cases h1;cases h2;rfl⟩
theorem EqD.bool {K:W.Frag} {n:Nat}:EqD K dB n:=⟨λH x y v w h1 h2=>by
 cases h1;cases h2;have:decide (x=y)=eqV (.bl x) (.bl y):=by cases x<;>cases y<;>rfl
 rw [this];exact .flat rfl rfl,λH x y v h1 h2=>by cases h1;cases h2;rfl⟩
theorem EqD.str {K:W.Frag} {n:Nat}:EqD K dS n:=⟨λH x y v w h1 h2=>by cases h1;cases h2;have:decide (x=y)=eqV (.str x) (.str y):=Bool.eq_iff_iff.mpr (by unfold eqV;simp);rw [this];exact .flat rfl rfl,λH x y v h1 h2=>by cases h1;cases h2;rfl⟩
theorem zr6 {α:Type} [DecidableEq α] {xs ys:List α} (h:xs.length=ys.length):((List.range xs.length).all λj=>decide (xs[j]? =ys[j]?))=decide (xs=ys):=by
 by_cases e:xs=ys;·subst e;simp
 ·rw [decide_eq_false e];by_cases z:((List.range xs.length).all λj=>decide (xs[j]? =ys[j]?))=true
  ·exfalso;apply e;rw [List.all_eq_true] at z;refine List.ext_getElem? λj=> ?_;by_cases hj:j<xs.length;·simpa using z j (List.mem_range.mpr hj)
   ·rw [List.getElem?_eq_none ↑0,List.getElem?_eq_none ↑0]
  ·simpa using z
theorem zpR {α:Type} [DecidableEq α] {K:W.Frag} {f:α->Ds} {n:Nat} (E:EqD K f n) {H:Hp} {xs ys:List α} {vs ws:List V} (h1:Paired (λv (d:Ds)=>d.pr H v) vs (xs.map f)) (h2:Paired (λv (d:Ds)=>d.pr H v) ws (ys.map f)) (hl:xs.length=ys.length) :
  ∀(j:Nat) (x y:V),vs[j]? =some x->ws[j]? =some y->EqV K H n x y (decide (xs[j]? =ys[j]?)):=λj x y e1 e2=>by have l1:=Paired.length h1;have l2:=Paired.length h2;rw [List.length_map] at l1 l2;have hj:j<vs.length:=(List.getElem?_eq_some_iff.mp e1).1;have q1:xs[j]? =some (xs[j]'↑0):=List.getElem?_eq_getElem ↑0;have q2:ys[j]? =some (ys[j]'↑0):=List.getElem?_eq_getElem ↑0;obtain ⟨v,ev,rv⟩:=zbh h1 (show (xs.map f)[j]? =some (f (xs[j]'↑0)) by rw [List.getElem?_map,q1];rfl);obtain ⟨w,ew,rw'⟩:=zbh h2 (show (ys.map f)[j]? =some (f (ys[j]'↑0)) by rw [List.getElem?_map,q2];rfl);rw [e1] at ev;rw [e2] at ew;cases ev;cases ew;have:=E.eq H _ _ _ _ rv rw';rw [q1,q2];simpa using this
theorem zo3 {α:Type} [DecidableEq α] {K:W.Frag} {f:α->Ds} {n:Nat} (E:EqD K f n) {Γ:Ctx} {ta tb:TE} {m neg:Bool} {xs ys:List α} (h1:Ev Γ ta false (dQ K (xs.map f))) (h2:Ev Γ tb false (dQ K (ys.map f))) (hn:n≤50:=by decide) :
  Ev Γ (tOp (zr1 K neg) ta tb) m (dB (bif neg then !decide (xs=ys) else decide (xs=ys))):=λF0 Hb F H σ own Q a k=>h1 F0 Hb F H σ own _ a λu F1 H1 g1 ⟨p,vs,e1,e2,e3⟩=>h2 F0 Hb F1 H1 σ own _ (a.grow g1) λu' F2 H2 g2 ⟨q,ws,d1,d2,d3⟩=>by
   have e2':SqL K H2 p vs:=(g1.fh.trans g2.h).seq e2;have d2':SqL K H2 q ws:=g2.fh.seq d2;have e3':=zds (ds:=[]) (g1.fh.trans g2.h) e3;have d3':=zds (ds:=[]) g2.fh d3;have l1:=Paired.length e3';have l2:=Paired.length d3';rw [List.length_map] at l1 l2;refine ⟨p,q,n,vs,ws,e1,d1,e2',d2',hn,?_⟩;by_cases hl:xs.length=ys.length;·refine .inr ⟨_,by omega,zpR E e3' d3' hl,k _ F2 H2 ↑24 ?_⟩;rw [l1,zr6 hl];cases neg<;>rfl
   ·refine .inl ⟨by omega,k _ F2 H2 ↑24 ?_⟩;rw [show decide (xs=ys)=false from decide_eq_false λz=>hl (by rw [z])];cases neg<;>rfl
def zhA (N:List Str) (ds:List Ds):Ctx:=ds.map (.va false)++List.replicate (N.length-ds.length) .no
def zwI (n:Nat):Rs->Oc
 | .va m d=>.rt m d
 | .ow m ds=>.rl m ds
 | .ex C φ=> .ex C φ (List.replicate n .no)
theorem zl6 {F H:Hp} {N:List Str} {vs:List V} {ds:List Ds} (hF:Same F H) (hv:Paired (λv (d:Ds)=>d.pr F v) vs ds):At F H F H (start N vs) (λ_=>none) (zhA N ds):=by
 have hl:=Paired.length hv;refine ⟨Grow.refl hF,λ_ _ _ h=>(nomatch h),λ_ _ h=>(nomatch h),λi s e=> ?_,by unfold start zhA;simp [hl]⟩;unfold zhA at e;unfold start;by_cases hi:i<ds.length;·rw [List.getElem?_append_left ↑44,List.getElem?_map] at e;rw [List.getElem?_append_left (by simpa [hl] using hi),List.getElem?_map];obtain ⟨v,ev,rv⟩:=zbh hv (List.getElem?_eq_getElem hi);rw [List.getElem?_eq_getElem hi] at e;have e':Slot.va false ds[i]=s:=Option.some.inj e;subst e';exact ⟨v,by rw [ev];rfl,rv⟩
 ·rw [List.getElem?_append_right ↑44,List.getElem?_replicate] at e;split at e;·cases e;trivial
  ·cases e
def zs2 (H F:Hp) (Q:VK) (E:XK):Rs->Prop
 | .ex C φ=>∀dct F' H',Grow F H F' H'->φ F' dct->E (.ref C) dct H'
 | .va m d=>∀v F' H',Grow F H F' H'->d.pr (zfZ m F' H) v->Q v H'
 | .ow m ds=>∀p ws F' H',Grow F H F' H'->H p=none->F' p=none->H' p=some (.lst ws)->Paired (λv (d:Ds)=>d.pr (zfZ m F' H) v) ws ds->Q (.ref p) H'
theorem zrM {E:XK} {F H:Hp} {N:List Str} {vs:List V} {ds:List Ds} {Q:VK} {t:TS} {r:Rs} (hF:Same F H) (hv:Paired (λv (d:Ds)=>d.pr F v) vs ds) (hq:zs2 H F Q E r) (h:Run (λ_=>E) (zhA N ds) t (zwI N.length r)):t {nx:=λ_ H'=>Q .non H',rt:=Q} (start N vs) H:=by refine h F H F H _ _ _ (zl6 hF hv) ?_;cases r with|va m d=>exactλv F' H' g q=>hq v F' H' g q|ow m ds=>exactλp ws F' H' g h1 h2 h3 q=>hq p ws F' H' g h1 h2 h3 q|ex C φ=>exactλdct F' H' σ own a p=>hq dct F' H' a.g p
theorem zqb {E:XK} {F H:Hp} {N:List Str} {vs:List V} {ds:List Ds} {Q:VK} {t:TS} {m:Bool} {Δ:Ctx} (hF:Same F H) (hv:Paired (λv (d:Ds)=>d.pr F v) vs ds) (hq:zs2 H F Q E (.va m dN)) (h:Run (λ_=>E) (zhA N ds) t (.nx Δ)):t {nx:=λ_ H'=>Q .non H',rt:=Q} (start N vs) H :=
 h F H F H _ _ _ (zl6 hF hv) λF' H' σ own a=>hq _ F' H' a.g rfl
section
variable {P:Program} {w:World} {K:W.Frag} {mg:Str->Option Value} {base:Heap} {x qual:Str} {st:Stmt} {f:Addr} {fd:FuncData} {N ps:List Str} {k:Nat}
theorem Fun.okV {ι:Type} {args:ι->List Ds} {pre:ι->Prop} {res:ι->Rs} (F:Fun K x qual st f fd) (S:FnScope N ps (zaf st)) (hl:∀i,(args i).length=ps.length)
  (hbody:∀(cdv:Value) (A:Around) (outer:List Env) (s:Shared) (H:Hp) (E:XK) (i:ι),Room k (A.deeper (envOfC qual (zaf st) s.heap.objs.size f cdv))->pre i→∃t,PSs (zp7 ↑1 P w K mg base N qual (zaf st) f cdv A outer s H E).nox (zed st) t∧(Run (λ_=>E) (zhA N (args i)) t (zwI N.length (res i))∨∃m Δ,res i= .va m dN∧Run (λ_=>E) (zhA N (args i)) t (.nx Δ))):FnOk P w K mg base ↑1 (k+1) f fd ps (Spv args pre res):=by
   refine F.okN S (λvs H Q E ⟨i,F',_,hv,_⟩=>by rw [Paired.length hv];exact hl i) λcdv A outer s H vs Q E hr ⟨i,F',hF,hv,hp,hq⟩=> ?_;obtain ⟨t,h1,h2⟩:=hbody cdv A outer s H E i hr hp;have hq':zs2 H F' Q E (res i):=by cases e:res i with|va m d=>rw [e] at hq;exact hq|ow m ds=>rw [e] at hq;exact hq|ex C φ=>rw [e] at hq;exact hq
   refine ⟨_,h1,?_⟩;rcases h2 with h2|⟨m,Δ,e,h2⟩
   ·exact zrM hF hv hq' h2
   ·rw [e] at hq';exact zqb hF hv hq' h2
end
def putD (f:Str) (d:Ds):List (Str×Ds)->List (Str×Ds)
 | []=>[(f,d)]
 | (g,x) :: r=>if g=f then (g,d)::r else (g,x)::putD f d r
theorem ziE {R:V->Ds->Prop} {f:Str} {v:V} {d:Ds} (h:R v d):∀ {vs:List (Str×V)} {fs:List (Str×Ds)},Paired (λ(a:Str×V) (b:Str×Ds)=>a.1=b.1∧R a.2 b.2) vs fs->Paired (λ(a:Str×V) (b:Str×Ds)=>a.1=b.1∧R a.2 b.2) (putF f v vs) (putD f d fs)
 | _,_,.nil=> .cons ⟨rfl,h⟩ .nil
 | _,_,.cons (a:=(x,u)) (b:=(y,e)) ⟨h1,h2⟩ t=>by
  have h1:x=y:=h1;subst h1;unfold putF putD;split;·exact .cons ⟨rfl,h⟩ t
  ·exact .cons ⟨rfl,h2⟩ (ziE h t)
theorem zoI {Γ:Ctx} {i:Nat} {m:Bool} {C p dx:Addr} {fs:List (Str×Ds)} {K:W.Frag} {tv:TE} {d:Ds} {f:Str} {u:TS} {o:Oc} {E:XS} (e:Γ[i]? =some (.ob m C p dx fs)) (h:Ev Γ tv m d) (c:Cls K C) (nf:NoAttr K C f) (hz:fs.length<1000) (k:Run E (Γ.set i (.ob m C p dx (putD f d fs))) u o):Run E Γ (zdI (zvj K (zhi i) tv f) u) o:=λF0 Hb F H σ own D a q=>by
 refine h F0 Hb F H σ own _ a λv F' H' g qv=> ?_;have a':=a.grow g;obtain ⟨vs,e1,e2,e3,e4,e5,e6⟩:=a'.sl i _ e;have hi:i<σ.length:=by rw [a.len];exact (↑42).1
 rw [List.getElem?_eq_getElem hi] at e1;have e':σ[i]=some (.ref p):=e1;have ei:σ[i]? =some (some (.ref p)):=by rw [List.getElem?_eq_getElem hi,e']
 exact ⟨_,ei,p,C,dx,vs,rfl,e5.1,c,nf,by rw [Paired.length e6];exact hz,k F0 Hb F' _ σ own D (a'.turnOb e (ziE (R:=λv (d:Ds)=>d.pr (zfZ m F' Hb) v) qv e6)) q⟩
def zox {ι:Type} (C:Addr) (args:ι->List Ds) (pre:ι->Prop) (m:Bool) (fs:ι->List (Str×Ds)):Sp:=λvs H Q _=>∃(i:ι) (p dx:Addr) (ws:List V) (H1 F:Hp),vs= .ref p::ws∧H1 p=none∧H1 dx=none∧dx≠p∧H=upd (upd H1 dx (.own p)) p (.ins C dx [])∧Same F H1∧Paired (λv (d:Ds)=>d.pr F v) ws (args i)∧pre i∧∀us F' H',Grow F H1 F' H'->F' p=none->F' dx=none->H' p=some (.ins C dx us)->H' dx=some (.own p)->Paired (λ(a:Str×V) (b:Str×Ds)=>a.1=b.1∧b.2.pr (zfZ m F' H1) a.2) us (fs i)->Q .non H'
def zoX (m:Bool) (C p dx:Addr) (N:List Str) (ds:List Ds):Ctx:= .ob m C p dx []::(ds.map (.va false)++List.replicate (N.length-(ds.length+1)) .no)
section
variable {P:Program} {w:World} {K:W.Frag} {mg:Str->Option Value} {base:Heap} {x qual:Str} {st:Stmt} {f:Addr} {fd:FuncData} {N ps:List Str} {k:Nat}
theorem zng {m:Bool} {F H1:Hp} {C p dx:Addr} {N:List Str} {ws:List V} {ds:List Ds} (hF:Same F H1) (hv:Paired (λv (d:Ds)=>d.pr F v) ws ds) (h1:H1 p=none) (h2:H1 dx=none) (h3:dx≠p) :
  At F H1 F (upd (upd H1 dx (.own p)) p (.ins C dx [])) (start N (.ref p::ws)) (λi=>if i=0 then some p else none) (zoX m C p dx N ds):=by
   have hl:=Paired.length hv;have n1:upd H1 dx (.own p) p=none:=by rw [zam (Ne.symm h3)];exact h1
   have g:Grow F H1 F (upd (upd H1 dx (.own p)) p (.ins C dx [])):=((Grow.refl hF).newH h2).newH n1;refine ⟨g,λi j q e1 e2=> ?_,λi q e=> ?_,λi s e=> ?_,?_⟩
   ·split at e1
    ·split at e2;·omega
     ·cases e2
    ·cases e1
   ·split at e;·cases e;rw [zat];simp
    ·cases e
   ·cases i with
     |zero=>have e':Slot.ob m C p dx []=s:=Option.some.inj e;subst e';exact ⟨[],rfl,rfl,⟨hF.free h1,hF.free h2⟩,⟨h1,h2⟩,⟨zat,by rw [zam h3];exact zat⟩,.nil⟩
     |succ i=>
      have e:(ds.map (Slot.va false)++List.replicate (N.length-(ds.length+1)) Slot.no)[i]? =some s:=e;show zfN H1 F _ _ _ ((ws.map some++List.replicate (N.length-(ws.length+1)) none)[i]?).join s;by_cases hi:i<ds.length;·rw [List.getElem?_append_left ↑44,List.getElem?_map] at e;rw [List.getElem?_append_left (by simpa [hl] using hi),List.getElem?_map];obtain ⟨v,ev,rv⟩:=zbh hv (List.getElem?_eq_getElem hi);rw [List.getElem?_eq_getElem hi] at e;have e':Slot.va false ds[i]=s:=Option.some.inj e;subst e';exact ⟨v,by rw [ev];rfl,rv⟩
      ·rw [List.getElem?_append_right ↑44,List.getElem?_replicate] at e;split at e;·cases e;trivial
       ·cases e
   ·unfold start zoX;simp [hl]
theorem Fun.okI {ι:Type} {C:Addr} {args:ι->List Ds} {pre:ι->Prop} {m:Bool} {fs:ι->List (Str×Ds)} (F:Fun K x qual st f fd) (S:FnScope N ps (zaf st)) (hl:∀i,(args i).length+1=ps.length)
  (hbody:∀(cdv:Value) (A:Around) (outer:List Env) (s:Shared) (H:Hp) (E:XK) (i:ι),Room k (A.deeper (envOfC qual (zaf st) s.heap.objs.size f cdv))->pre i→∃t,PSs (zp7 ↑1 P w K mg base N qual (zaf st) f cdv A outer s H E).nox (zed st) t∧∀p dx,∃Δ,Run (λ_=>E) (zoX m C p dx N (args i)) t (.nx Δ)∧Δ[0]? =some (.ob m C p dx (fs i))):FnOk P w K mg base ↑1 (k+1) f fd ps (zox C args pre m fs):=by refine F.okN S (λvs H Q E ⟨i,p,dx,ws,H1,F',e,_,_,_,_,_,hv,_⟩=>by rw [e,List.length_cons,Paired.length hv];exact hl i) λcdv A outer s H vs Q E hr ⟨i,p,dx,ws,H1,F',e,h1,h2,h3,h4,hF,hv,hp,hq⟩=> ?_;subst e h4;obtain ⟨t,t1,t2⟩:=hbody cdv A outer s _ E i hr hp;obtain ⟨Δ,t2,t3⟩:=t2 p dx;refine ⟨_,t1,?_⟩;refine t2 F' H1 F' _ _ _ _ (zng hF hv h1 h2 h3) λF2 H2 σ2 own2 a2=> ?_;obtain ⟨us,e1,e2,e3,e4,e5,e6⟩:=a2.sl 0 _ t3;exact hq us F2 H2 a2.g e3.1 e3.2 e5.1 e5.2 e6
end
section
variable {Γ:Ctx} {K:W.Frag} {ds:List Ds} {tr:TA} {E:XK}
theorem zlp {ι:Type} {C:Addr} {args:ι->List Ds} {pre:ι->Prop} {m:Bool} {fs:ι->List (Str×Ds)} (i:ι) (h:EvA Γ tr false ds) (ha:ds=args i) (hp:pre i):Ev Γ (znk C (zox C args pre m fs) [] E tr) m (dO C (fs i)):=λF0 Hb F H σ own Q a k=>by
 subst ha;refine h F0 Hb F H σ own _ a λvs F1 H1 g1 q1 p dx h1 h2 h3=>⟨i,p,dx,vs,H1,F1,by rw [List.append_nil],h1,h2,h3,rfl,g1.fh,q1,hp,λus F' H' g n1 n2 e1 e2 e3=>⟨rfl,?_⟩⟩;have g2:=g1.trans g;obtain ⟨p0,_,pb⟩:=a.free g1 h1;obtain ⟨d0,_,db⟩:=a.free g1 h2;have g3:=(g2.take p0 e1).take d0 e2;have s1:Same F' (upd F' p (.ins C dx us)):=Same.new n1 _;have n3:upd F' p (.ins C dx us) dx=none:=by rw [zam h3];exact n2
 have s2:Same F' (upd (upd F' p (.ins C dx us)) dx (.own p)):=s1.trans (Same.new n3 _);refine k _ _ _ g3 ⟨p,dx,us,rfl,zdZ pb (by rw [zam (Ne.symm h3)];exact zat),zdZ db zat,?_⟩;exact zbD (λ_ b q=>⟨q.1,b.2.up ((zfH (a.g.h.trans g1.h)).trans (zbe s2)) q.2⟩) e3
end
end L2
namespace L2
open PySem PySem.Spec PyProof.Rows
def Ite (K:W.Frag) (a:Addr):It :=
 ⟨λi H=>∃xs x,SqL K H a xs∧xs[i]? =some x,λi H v H'=>∃p x,v= .ref p∧H p=none∧H'=upd H p (.tup [.int (i:Int),x])∧∀xs,SqL K H a xs->xs[i]? =some x,λi H=>∃xs,SqL K H a xs∧xs.length≤i⟩
theorem zno {P:Program} {w:World} {K:W.Frag} {elts:List Expr} {x1:Nat} {tp:Pos} {a e it:Addr} (hne:e≠it) :
  Turn P w K (.Tuple elts x1 tp) (Ite K a) [e,it] e (λi h=>(∃old,IsEnum h e it (i:Int) old)∧h.IsListIter it a i) where
 mem:=by simp
 obj:=λi h st c hc=>by
  obtain ⟨⟨old,he⟩,⟨o1,e1,_,d1⟩⟩:=st
  simp only [List.mem_cons,List.not_mem_nil,or_false] at hc
  rcases hc with rfl | rfl
  ·exact ⟨_,he,λv z=>by cases z⟩
  ·exact ⟨o1,e1,λv z=>by rw [d1] at z;cases z⟩
 keep:=λi h h' st k=>by
  obtain ⟨⟨old,he⟩,h1⟩:=st
  exact ⟨⟨old,k e ↥4 _ he⟩,h1.at λo q=>k it ↥4 o q⟩
 item:=by
  intro X hP hw hK hc i pins s σ H E I hf st hg
  subst hP hw hK
  obtain ⟨xs,x,hxs,hx⟩:=hg
  obtain ⟨itx,rx,px,hzx⟩:=I.list hxs
  obtain ⟨u,hu,ru⟩:=rx.get hx
  obtain ⟨⟨old,he⟩,h1⟩:=st
  refine wpAny_pyNext_enum_item (x:=u) he h1 px.isList (by simpa using hu) hne λh' a1 a2 a3 a4 hk=>?_
  refine ⟨_,rfl,wpAny_letOwnedTupleGo_enum a1 λh'' b1 b2=>?_⟩
  have elt:e<s.heap.objs.size:=Heap.lt_size he
  have itl:it<s.heap.objs.size:=by obtain ⟨_,q,_⟩:=h1;exact Heap.lt_size q
  have tup:h''.get? s.heap.objs.size=some { cls:=.type "tuple",data:=.seq #[.int i s.toks,u] }:=b2.extBut _ _ (Nat.ne_of_gt elt) a3
  have I1:Inv X pins σ (upd H s.heap.objs.size (.tup [.int (i:Int),x])) { s with heap:=h'',toks:=s.toks+1 }:=by
   refine I.turnedNew (t':=s.toks+1) (ch:=[e,it]) (λc hc=>hf c hc) (λc ob hc q=>?_) ↑8 ?_
   ·simp only [List.mem_cons,List.not_mem_nil,or_false,not_or] at hc
    exact b2.extBut _ _ hc.1 (hk c ob hc.1 hc.2 q)
   ·exact ⟨by show 2≤sizeLine;decide,[.int i s.toks,u],.cons ⟨_,rfl⟩ (.cons ru .nil),⟨_,tup,rfl,_,rfl⟩⟩
  refine ⟨.ref s.heap.objs.size,_,I1,rfl,⟨_,x,rfl,I.hok.fresh ↑8,rfl,λxs' q1=>?_⟩,⟨⟨u,?_⟩,a2.extBut b2.extBut (Ne.symm hne)⟩,λc hc=>?_⟩
  ·rw [I.list_inj q1 hxs];exact hx
  ·exact b1
  ·have:c≠s.heap.objs.size:=by
    simp only [List.mem_cons,List.not_mem_nil,or_false] at hc
    rcases hc with rfl | rfl
    ·exact Nat.ne_of_lt elt
    ·exact Nat.ne_of_lt itl
   rw [zam this];exact (hf c hc).1
 done:=by
  intro X hP hw hK hc i pins s σ H E I hf st hg
  subst hP hw hK
  obtain ⟨xs,hxs,hend⟩:=hg
  obtain ⟨itx,rx,px,hzx⟩:=I.list hxs
  obtain ⟨⟨old,he⟩,h1⟩:=st
  have lx:=rx.length
  refine wpAny_pyNext_enum_end (I.ok.hd hc) he h1 px.isList (by simp;omega) λh' hk=>⟨rfl,?_⟩
  refine I.turnedL (t':=s.toks) (ch:=[e,it]) (λc hc=>hf c hc) (λc ob hc q=>?_)
  simp only [List.mem_cons,List.not_mem_nil,or_false,not_or] at hc
  exact hk c ob hc.2 q
 self:=λ_ _ _ _ _ st h=>by obtain ⟨⟨old,he⟩,_⟩:=st;exact wpAny_pyIter_enum he h
section
variable {X:Cx} {K:W.Frag}
def ztr (K:W.Frag) (ta:TA):TI:=λσ H R=>ta σ H λvs H1=>∃a,vs=[.ref a]∧(∃xs,SqL K H1 a xs)∧R (Ite K a) H1
theorem zhp {a:Expr} {ta:TA} {p pos tp:Pos} {elts:List Expr} {x1:Nat} (hK:X.K=K) (hg:Gl X "enumerate") (hm:X.mg "enumerate" =none) (ha:PA X [a] ta) (hs:starEach [a] X.env=[(false,eval a X.env)]:=by rfl) :
  PI X (.Tuple elts x1 tp) (.Call (.Name "enumerate" p) [a] [] pos) (ztr K ta):=by
   subst hK;intro pins s σ H R I h;refine Call_ (zf7 I hg hm boot_enumerate (PyProof.Rows.callWith_type1 ↑114 (by rw [hs];rfl) rfl));obtain ⟨l,e,⟨xs,hx⟩,q⟩:=q1;subst e
   cases r1 with
    |cons r rr=>
     cases rr;cases r;obtain ⟨itx,rx,px,hzx⟩:=I1.list hx;refine call_enumerate_list px.isList λh' he h1 hsz hk=>wpAny_pyIter_enum he ?_;have hne:(s1.heap.objs.size+1:Nat)≠s1.heap.objs.size:=by omega
     refine ⟨s1.heap.objs.size+1,[s1.heap.objs.size+1,s1.heap.objs.size],_,Ite X.K l,H1,rfl,I1.kept (t':=s1.toks) hk,zno hne,⟨⟨_,he⟩,h1⟩,λc hc=> ?_,q⟩;have hle: @LE.le Nat _ s1.heap.objs.size c:=by simp only [List.mem_cons,List.not_mem_nil,or_false] at hc;rcases hc with rfl|rfl<;>omega
     exact I1.fpOk hle (I1.hok.fresh hle)
end
def Itv (K:W.Frag) (a:Addr) (n:Nat):It :=
 ⟨λi H=>i<n∧∃xs x,SqL K H a xs∧xs.length=n∧xs[n-1-i]? =some x,λi H x H'=>H'=H∧∀xs,SqL K H a xs->xs[n-1-i]? =some x,λi _=>i=n⟩
theorem zqc {P:Program} {w:World} {K:W.Frag} {tg:Expr} (a it:Addr) (n:Nat):Turn P w K tg (Itv K a n) [it] it (λi h=>h.IsRevIter it a ((n:Int)-1-(i:Int))) where
 mem:=by simp
 obj:=λi h st b hb=>by
  have e:b=it:=by simpa using hb
  subst e
  obtain ⟨o,e,c,d⟩:=st
  exact ⟨o,e,λv z=>by rw [d] at z;cases z⟩
 keep:=λi h h' st k=>st.at λo e=>k it ↥4 o e
 item:=by
  intro X hP hw hK hc i pins s σ H E I hf st hg
  subst hP hw hK
  obtain ⟨hi,xs,x,hq,hn,hx⟩:=hg
  obtain ⟨its,rv,p,hz⟩:=I.list hq
  obtain ⟨u,hu,ru⟩:=rv.get hx
  obtain ⟨f0,f1,f2,f3,f4,f5⟩:=hf it ↥4
  have e1:(n:Int)-1-(i:Int)=((n-1-i:Nat):Int):=by omega
  have e2:((n-1-i:Nat):Int)-1=(n:Int)-1-((i+1:Nat):Int):=by omega
  rw [e1] at st
  refine wpAny_pyNext_rev_item st p.isList (x:=u) (by simpa using hu) λh' st' sb=>?_
  rw [e2] at st'
  have I1:Inv X pins σ H { s with heap:=h' }:=I.turned (t':=s.toks) (λb o hb e=>(sb.2 b hb).trans e) f0 f1 f3 f4 f5
  obtain ⟨o,e,c,d⟩:=id st'
  exact ⟨u,rfl,zqh (s:={ s with heap:=h' }) e c d ↥1 ⟨x,H,I1,ru,⟨rfl,λys hy=>by rw [I.list_inj hy hq];exact hx⟩,st',λb hb=>(hf b hb).1⟩⟩
 done:=by
  intro X hP hw hK hc i pins s σ H E I hf st hg
  subst hP hw hK
  have hg:i=n:=hg
  subst hg
  obtain ⟨f0,f1,f2,f3,f4,f5⟩:=hf it ↥4
  have e1:(i:Int)-1-(i:Int)=-1:=by omega
  rw [e1] at st
  exact wpAny_pyNext_rev_end (I.ok.hd hc) st λh' eb=>↑112
 self:=λ_ _ _ _ _ st h=>wpAny_pyIter_revIter st h
section
variable {X:Cx} {K:W.Frag}
def zwD (K:W.Frag) (ta:TA):TI:=λσ H R=>ta σ H λvs H1=>∃a xs,vs=[.ref a]∧SqL K H1 a xs∧R (Itv K a xs.length) H1
theorem zqX {a tg:Expr} {ta:TA} {p pos:Pos} (hK:X.K=K) (hg:Gl X "reversed") (hm:X.mg "reversed" =none) (ha:PA X [a] ta) (hs:starEach [a] X.env=[(false,eval a X.env)]:=by rfl) :
  PI X tg (.Call (.Name "reversed" p) [a] [] pos) (zwD K ta):=by
   subst hK;intro pins s σ H R I h;refine Call_ (zf7 I hg hm boot_reversed (PyProof.Rows.callWith_type1 ↑114 (by rw [hs];rfl) rfl));obtain ⟨l,xs,e,hx,q⟩:=q1;subst e
   cases r1 with
    |cons r rr=>
     cases rr;cases r;obtain ⟨itx,rx,px,hzx⟩:=I1.list hx;have hl:=rx.length;refine call_reversed_list px.isList ?_;have ho:=Heap.get?_push_size s1.heap (o:=revObj l ((itx.toArray.size:Int)-1)) rfl;have st:(s1.heap.push (revObj l ((itx.toArray.size:Int)-1))).IsRevIter s1.heap.objs.size l ((xs.length:Int)-1-((0:Nat):Int)):=⟨_,ho,rfl,by rw [List.size_toArray,←hl];simp [revObj]⟩;refine wpAny_pyIter_revIter st ?_;refine ⟨s1.heap.objs.size,[s1.heap.objs.size],_,Itv X.K l xs.length,H1,rfl,I1.kept (t':=s1.toks) (λb o e=>Heap.get?_push_of_some _ e),zqc l s1.heap.objs.size xs.length,st,λc hc=> ?_,q⟩;have hle: @LE.le Nat _ s1.heap.objs.size c:=by simp only [List.mem_cons,List.not_mem_nil,or_false] at hc;rw [hc];exact Nat.le_refl _
     exact I1.fpOk hle (I1.hok.fresh hle)
theorem zn7 (hK:X.K=K) (hc:X.calm=true):zeb X (.builtin "any") (λxs H Q=>∃(a:Addr) (ns:Ji),xs=[.ref a]∧SqL K H a (ns.map V.int)∧Q (.bl (ns.any (· !=0))) H):=by
 subst hK;intro pins s σ H xs us Q I r h;obtain ⟨a,bs,rfl,hq,q⟩:=h;obtain ⟨u,rfl,rx⟩:=zgg r;cases rx;obtain ⟨its,rv,p,hz⟩:=I.list hq;have hl:=rv.length;rw [List.length_map] at hl;have alt:a<s.heap.objs.size:=by obtain ⟨o,e,_⟩:=p.isList;exact Heap.lt_size e
 have hl1:(↑110).IsList a its.toArray:=Heap.IsList.push p.isList _;refine call_any_walk (wpAny_pyIter_list p.isList ?_);refine ⟨s.heap.objs.size,[s.heap.objs.size,a],[s.heap.objs.size],its.toArray.size,_,_,λi=>(bs[i]?).getD 0 !=0,rfl,Walks.list (A:=X.A.in1) (I.ok.hd hc) s.heap.objs.size a (Nat.ne_of_lt alt) its.toArray,⟨⟨_,Heap.get?_push_size _ rfl,rfl,rfl⟩,hl1⟩,λi v s' Q' E' hv hQ'=> ?_,λh' tk hk=> ?_⟩
 ·have hv':its[i]? =some v:=by simpa using hv
  have hi:i<its.length:=(List.getElem?_eq_some_iff.mp hv').1;obtain ⟨u,hu,ru⟩:=rv.get (i:=i) (x:= .int (bs[i]'↑0)) (by rw [List.getElem?_map,List.getElem?_eq_getElem ↑0];rfl);rw [hv'] at hu;cases hu;obtain ⟨t,rfl⟩:=ru;have e:(bs[i]?).getD 0=bs[i]'↑0:=by rw [List.getElem?_eq_getElem (show i<bs.length by omega)];rfl
  have hQ2:Q' ((bs[i]?).getD 0 !=0) s':=hQ';rw [e] at hQ2;exact PySem.P.truthy_int hQ2
 ·have e:(List.range its.toArray.size).any (λi=>(bs[i]?).getD 0 !=0)=bs.any (· !=0):=by
   rw [List.size_toArray,←hl,Bool.eq_iff_iff,List.any_eq_true,List.any_eq_true];constructor;·rintro ⟨i,hi,z⟩;have hi':=List.mem_range.mp hi;rw [List.getElem?_eq_getElem hi'] at z;exact ⟨_,List.getElem_mem hi',z⟩
   ·rintro ⟨x,hx,z⟩;obtain ⟨i,hi,rfl⟩:=List.getElem_of_mem hx;exact ⟨i,List.mem_range.mpr hi,by rw [List.getElem?_eq_getElem hi];exact z⟩
  rw [e];exact ⟨.bl _,H,I.kept (h':=h') (t':=tk) λb o e=>hk b o (by simp only [List.mem_singleton];exact Nat.ne_of_lt ↑38) (Heap.get?_push_of_some _ e),rfl,q⟩
end
section
variable {Γ:Ctx} {m:Bool} {K:W.Frag} {γ:Type}
def zeH {α:Type} (xs:List α):List (Int×α):=(zdA 0 xs.length).zip xs
theorem zf5 {α:Type} {xs:List α}:(zeH xs).length=xs.length:=by simp [zeH,List.length_zip,zlJ]
theorem zdh {α:Type} {xs:List α} {i:Nat} {p:Int×α} (h:(zeH xs)[i]? =some p):i<xs.length∧p.1=i∧xs[i]? =some p.2:=by obtain ⟨h1,h2⟩:=zfY h;obtain ⟨h3,h4⟩:=zcq h1;exact ⟨h3,by rw [h4];omega,h2⟩
theorem zhz {tl:TE} {j1 j2:Nat} {xs:List γ} (f:γ->Ds) (h:Ev Γ tl m (dQ K (xs.map f))) :
  Iv Γ (ztr K (zcJ tl zf2)) (zuU K 2 (zjv (zd0 j1) (zjv (zd0 j2) ztU))) [j1,j2] (zeH xs) (λx=>[dI x.1,f x.2]) m:=λF0 Hb F H σ own R a k=>h F0 Hb F H σ own _ a λu F1 H1 g1 ⟨p,vs,e1,e2,e3⟩=>by have e2':SqL K F1 p vs:=za4.seq e2;have le:=Paired.length e3;rw [List.length_map] at le;refine ⟨p,by rw [e1],⟨vs,g1.fh.seq e2'⟩,k _ F1 H1 g1 λH hs=>⟨⟨vs,hs.seq e2',by rw [le,zf5];exact Nat.le_refl _⟩,λi x ex=> ?_⟩⟩;obtain ⟨hi,x1,x2⟩:=zdh ex;obtain ⟨v,ev,qv⟩:=zbh e3 (show (xs.map f)[i]? =some (f x.2) by rw [List.getElem?_map,x2];rfl);refine ⟨⟨vs,v,hs.seq e2',ev⟩,λz H' y=> ?_⟩;obtain ⟨r,x',rfl,hr,rfl,hxy⟩:=y;have hx:=hxy vs (hs.seq e2');rw [ev] at hx;cases hx;exact ⟨(Grow.refl hs).newH hr,λσ Q k=>⟨r,_,rfl,.inl (.inl zat),rfl,_,_,rfl,_,_,rfl,rfl,k [.int i,v] (.cons (by show V.int _=V.int _;rw [x1]) (.cons qv .nil))⟩⟩
theorem zrn {tl:TE} {j:Nat} {xs:List γ} (f:γ->Ds) (h:Ev Γ tl m (dQ K (xs.map f))):Iv Γ (zwD K (zcJ tl zf2)) (zd0 j) [j] xs.reverse (λx=>[f x]) m:=λF0 Hb F H σ own R a k=>h F0 Hb F H σ own _ a λu F1 H1 g1 ⟨p,vs,e1,e2,e3⟩=>by
 have e2':SqL K F1 p vs:=za4.seq e2;have le:=Paired.length e3;rw [List.length_map] at le;refine ⟨p,vs,by rw [e1],g1.fh.seq e2',k _ F1 H1 g1 λH hs=>⟨by show xs.reverse.length=vs.length;rw [List.length_reverse,le],λi x ex=> ?_⟩⟩;have hi:i<xs.length:=by simpa using (List.getElem?_eq_some_iff.mp ex).1
 rw [List.getElem?_reverse hi] at ex;obtain ⟨v,ev,qv⟩:=zbh e3 (show (xs.map f)[xs.length-1-i]? =some (f x) by rw [List.getElem?_map,ex];rfl);rw [←le] at ev;refine ⟨⟨by rw [le];exact hi,vs,v,hs.seq e2',rfl,ev⟩,λw H' y=> ?_⟩;obtain ⟨rfl,y⟩:=y;have:=y vs (hs.seq e2');rw [ev] at this;cases this;exact ⟨Grow.refl hs,λσ Q k=>k [v] (.cons qv .nil)⟩
theorem zt4 {xs:Ji} {t:TE} (h1:Ev Γ t false (dQ K (xs.map dI))):Ev Γ (tCB (λxs H Q=>∃(a:Addr) (ns:Ji),xs=[.ref a]∧SqL K H a (ns.map V.int)∧Q (.bl (ns.any (· !=0))) H) (zcJ t zf2)) m (dB (xs.any (· !=0))):=λF0 Hb F H σ own Q a k=>h1 F0 Hb F H σ own _ a λu F1 H1 g1 ⟨p,vs,e1,e2,e3⟩=>↑111
end
end L2
namespace L2
open PySem PySem.Spec PyProof.Rows
theorem Ev.any {Γ:Ctx} {t:TE} {m n:Bool} {v:V} (h:Ev Γ t m (dV v)):Ev Γ t n (dV v):=λF0 Hb F H σ own Q a k=>h F0 Hb F H σ own Q a λu F' H' g q=>k u F' H' g q
theorem zo5 {α:Type} {R R':Hp} {g:α->V} {vs:List V} {xs:List α} (h:Paired (λv (d:Ds)=>d.pr R v) vs (xs.map λx=>dV (g x))):Paired (λv (d:Ds)=>d.pr R' v) vs (xs.map λx=>dV (g x)):=by rw [zbi h];clear h;induction xs with|nil=>exact .nil|cons x xs ih=>exact .cons rfl ih
theorem EvO.anyV {Γ:Ctx} {t:TE} {m n:Bool} {α:Type} {g:α->V} {xs:List α} (h:EvO Γ t m (xs.map λx=>dV (g x))):EvO Γ t n (xs.map λx=>dV (g x)):=λF0 Hb F H σ own Q a k=>h F0 Hb F H σ own Q a λp vs F' H' g h1 h2 h3 q=>k p vs F' H' g h1 h2 h3 (zo5 q)
theorem EvO.anyI {Γ:Ctx} {t:TE} {m n:Bool} {xs:Ji} (h:EvO Γ t m (xs.map dI)):EvO Γ t n (xs.map dI):=EvO.anyV h
theorem EvO.anyS {Γ:Ctx} {t:TE} {m n:Bool} {xs:List Str} (h:EvO Γ t m (xs.map dS)):EvO Γ t n (xs.map dS):=EvO.anyV h
section
variable {X:Cx}
def zew (i j:Int):Prop:=(-(2 ^ 64)<i∧i<2 ^ 64)∨(-(2 ^ 64)<j∧j<2 ^ 64)∨(i.natAbs.log2<60000000∧j.natAbs.log2<60000000)
theorem znv {a b:Int} (ha:Builtin.Int.intBits a≤60000000) (hb:Builtin.Int.intBits b≤60000000):IntMulOk a b:=by
 have h:Builtin.Int.intTooBig (Builtin.Int.intBits a+Builtin.Int.intBits b)=false:=by unfold Builtin.Int.intTooBig bitsLine;exact decide_eq_false ↑0
 unfold IntMulOk;rw [h];simp
theorem zev:OpR X (binaryOp .Mult) (rI zew λi j=> .int (i*j)):=opI λ_ _ _ _ _ _ _ hc q=>mul_int q (by
 rcases hc with h|h|h
 ·exact .of_left (intBits_le_64 h.1 h.2)
 ·exact .of_right (intBits_le_64 h.1 h.2)
 ·exact znv (zob h.1) (zob h.2))
end
def ixD {α:Type} [Inhabited α] (xs:List α) (i:Int):α:=(atI xs i).getD default
def InB (n:Nat) (i:Int):Prop:= -(n:Int)≤i∧i<n
theorem zmm {n:Nat} {i:Int} (h:InB n i):∃j,ixN n i=some j∧j<n∧(0≤i->j=i.toNat):=by
 unfold InB at h;unfold ixN;by_cases h0:0≤i;·rw [if_pos h0,if_pos h.2];exact ⟨_,rfl,by omega,λ_=>rfl⟩
 ·rw [if_neg h0,if_pos h.1];exact ⟨_,rfl,by omega,λz=>absurd z h0⟩
theorem zrb {α:Type} [Inhabited α] {xs:List α} {i:Int} (h:InB xs.length i):atI xs i=some (ixD xs i):=by obtain ⟨j,e,hj,_⟩:=zmm h;unfold ixD atI;rw [e];show xs[j]? =some (xs[j]?.getD default);rw [List.getElem?_eq_getElem hj];rfl
theorem zpa {α:Type} [Inhabited α] {xs:List α} {n:Nat} {x:α} (h:xs[n]?=some x):ixD xs (n:Int)=x:=by have hn:n<xs.length:=(List.getElem?_eq_some_iff.mp h).1;unfold ixD atI ixN;rw [if_pos ↑0,if_pos ↑0];show (xs[(n:Int).toNat]?).getD default=x;rw [Int.toNat_natCast,h];rfl
def zcZ {α:Type} (xs:List α) (i:Int) (x:α):List α:=match ixN xs.length i with|some n=>xs.set n x|none=>xs
theorem zeN {α:Type} {xs:List α} {i:Int} {x:α}:(zcZ xs i x).length=xs.length:=by unfold zcZ;split<;>simp
def zdM {α:Type} (n:Int) (xs:List α):List α:=(List.replicate n.toNat xs).flatten
def dOpt {α:Type} (f:α->Ds):Option α->Ds
 | none=>dN
 | some x=>f x
def NN {α:Type} (f:α->Ds):Prop:=∀x H v,(f x).pr H v->v≠ .non
theorem NN.tup {α:Type} {f:α->List Ds}:NN (λx=>dT (f x)):=λ_ _ _ ⟨_,_,e,_⟩=>by rw [e];simp
theorem NN.obj {α:Type} {C:Addr} {f:α->List (Str×Ds)}:NN (λx=>dO C (f x)):=λ_ _ _ ⟨_,_,_,e,_⟩=>by rw [e];simp
theorem NN.int:NN dI:=λ_ _ _ e=>by rw [show _=_ from e];simp
section
variable {E:XS} {Γ:Ctx} {m:Bool} {K:W.Frag} {α β γ:Type} {f:α->Ds} {t ta tb te:TE} {u r:TS} {o:Oc} {xs ys:List α} {i:Nat}
theorem zbP [Inhabited α] {j:Int} (h1:Ev Γ ta m (dQ K (xs.map f))) (h2:Ev Γ tb false (dI j)) (h:InB xs.length j):Ev Γ (tOp (zr0 K) ta tb) m (f (ixD xs j)):=zwz h1 h2 (zor (zrb h))
theorem zbq {n:Bool} (h1:Ev Γ t false (dQ K (xs.map f))):Ev Γ (tCB ↑96 (zcJ t zf2)) n (dI (xs.length:Nat)):=(zuq h1).conv (by rw [List.length_map])
theorem zdN {tl th:TO} {lo hi:Option Int} (h1:Ev Γ t m (dQ K (xs.map f))) (h2:EvP Γ tl lo) (h3:EvP Γ th hi):EvO Γ (tSl (zvg K) t tl th) m ((zb9 xs lo hi).map f):=(zuN h1 h2 h3).conv zp2.symm
theorem zc7 (h1:Ev Γ ta m (dL (xs.map f))) (h2:Ev Γ tb m (dL (ys.map f))) (hz:xs.length+ys.length≤sizeLine):EvO Γ (tOp zvr ta tb) m ((xs++ys).map f):=(zuX h1 h2 (by rw [List.length_map,List.length_map];exact hz)).conv (List.map_append ..).symm
theorem zhV {n:Nat}:(List.replicate n (xs.map f)).flatten=((List.replicate n xs).flatten).map f:=by induction n with|zero=>rfl|succ n ih=>rw [List.replicate_succ,List.replicate_succ,List.flatten_cons,List.flatten_cons,List.map_append,ih]
theorem zi9 {n:Int} (h1:Ev Γ ta m (dL (xs.map f))) (h2:Ev Γ tb false (dI n)) (hn: -(2 ^ 63)≤n∧n<2 ^ 63) (hz:xs.length*n.toNat≤sizeLine):EvO Γ (tOp zws ta tb) m ((zdM n xs).map f):=(ztC h1 h2 hn (by rw [List.length_map];exact hz)).conv zhV
theorem zke {x:Option α} {n:Bool} (h1:Ev Γ ta false (dOpt f x)) (h2:Ev Γ tb false dN) (hf:NN f):Ev Γ (tOp (λx y H Q=>y= .non∧Q (.bl (decide (x= .non))) H) ta tb) n (dB x.isNone):=zuf h1 h2 λH v q=>by cases x with|none=>rw [show v=V.non from q];rfl|some x=>exact decide_eq_false (hf x H v q)
theorem zhB [Inhabited α] {j:Int} (e:Γ[i]? =some (.ow m (xs.map f))) (h2:Ev Γ tb false (dI j)) (h:InB xs.length j):Ev Γ (tOp (zr0 K) (zhi i) tb) m (f (ixD xs j)):=zqu (n:=m) e h2 (zor (zrb h))
theorem ziQ {n:Bool} (e:Γ[i]? =some (.ow m (xs.map f))):Ev Γ (tCB ↑96 (zcJ (zhi i) zf2)) n (dI (xs.length:Nat)):=(zn0 (n:=n) e).conv (by rw [List.length_map])
theorem zca {x:α} (e:Γ[i]? =some (.ow m (xs.map f))) (h:Ev Γ te m (f x)) (hz:xs.length<sizeLine) (k:Run E (Γ.set i (.ow m ((xs++[x]).map f))) u o):Run E Γ (zdI (zic (tBM K "list" zgL (zhi i) (zcJ te zf2))) u) o :=
 zmQ e h (by rw [List.length_map];exact hz) (by rw [List.map_append] at k;exact k)
theorem zgx {tj:TE} {x:α} {j:Int} (e:Γ[i]? =some (.ow m (xs.map f))) (h:Ev Γ te m (f x)) (hj:Ev Γ tj false (dI j)) (hb:InB xs.length j) (k:Run E (Γ.set i (.ow m ((zcZ xs j x).map f))) u o):Run E Γ (zdI (zl3 te (zvi (zhi i) tj zp5)) u) o:=by obtain ⟨n,en,hn,_⟩:=zmm hb;refine znz (n:=n) e h hj (by rw [List.length_map];exact en) ?_;unfold zcZ at k;rw [en] at k;rw [←List.map_set];exact k
theorem zgQ {tj:TE} {x:α} {j:Int} (fo:β->Oc) {kk:List α->β} (e:Γ[i]? =some (.ow m (xs.map f))) (h:Ev Γ te m (f x)) (hj:Ev Γ tj false (dI j)) (hb:InB xs.length j) (k:∀y,y=zcZ xs j x->Run E (Γ.set i (.ow m (y.map f))) u (fo (kk y))):Run E Γ (zdI (zl3 te (zvi (zhi i) tj zp5)) u) (fo (Let (zcZ xs j x) kk)) :=
 zgx e h hj hb (k _ rfl)
theorem zco {x:α} (G:α->Ctx) (fo:β->Oc) {kk:α->β} (k:∀y,y=x->Run E (G y) u (fo (kk y))):Run E (G x) u (fo (Let x kk)):=k x rfl
def zrU (o:Oc):Prop:=(∃m d,o= .rt m d)∨(∃m ds,o= .rl m ds)∨∃C φ Γ,o= .ex C φ Γ
theorem zrU.meets (h:zrU o) {F0 Hb:Hp} {D D':Ends} (e:D.rt=D'.rt) (q:zg9 E F0 Hb D o):zg9 E F0 Hb D' o:=by
 rcases h with ⟨m,d,rfl⟩|⟨m,ds,rfl⟩|⟨C,φ,Γ',rfl⟩
 ·exactλv F H g p=>e ▸ q v F H g p
 ·exactλp vs F H g h1 h2 h3 h4=>e ▸ q p vs F H g h1 h2 h3 h4
 ·exact q
def zpA {S:Type} (x:S ⊕ β) (k:S->α) (w:β->α):α:=match x with| .inl s=>k s| .inr b=>w b
theorem zmk {f:Str} {d:Ds}:∀ {fs:List (Str×Ds)} {ns:List Str},fs.map Prod.fst=ns->ns.contains f=false->putD f d fs=fs++[(f,d)]
 | [],_,_,_=>rfl
 | (g,e) :: r,_,rfl,h=>by
  have h':f≠g∧f∉r.map Prod.fst:=by simpa using h
  unfold putD;rw [if_neg (Ne.symm h'.1),zmk rfl (by simpa using h'.2)];rfl
theorem zdB {C p dx:Addr} {fs:List (Str×Ds)} {tv:TE} {d:Ds} {f:Str} (e:Γ[i]? =some (.ob m C p dx fs)) (h:Ev Γ tv m d) (c:Cls K C) (nf:NoAttr K C f) (ns:List Str) (hns:fs.map Prod.fst=ns) (hn:ns.contains f=false) (hz:ns.length<1000) (k:Run E (Γ.set i (.ob m C p dx (fs++[(f,d)]))) u o) :
  Run E Γ (zdI (zvj K (zhi i) tv f) u) o:=zoI e h c nf (by rw [←List.length_map (f:=Prod.fst),hns];exact hz) (by rw [zmk hns hn];exact k)
theorem zit {S:Type} (f:S->γ->S):∀(xs:List γ) (s:S),zcS (β:=Empty) (λs x=> .inl (f s x)) s xs= .inl (xs.foldl f s)
 | [],_=>rfl
 | x :: xs,s=>zit f xs (f s x)
theorem zeK {S:Type} {f:S->γ->S} {I:Nat->S->Prop}:∀ {xs:List γ} {s:S} {n:Nat},I n s->(∀(i:Nat) (x:γ) (s:S),xs[i]? =some x->I (n+i) s->I (n+i+1) (f s x))->I (n+xs.length) (xs.foldl f s)
 | [],s,n,h,_=>h
 | x :: xs,s,n,h,k=>by
  have h1:=k 0 x s rfl h;have:=zeK (xs:=xs) (s:=f s x) (n:=n+1) h1 λi y s' e q=>by have:=k (i+1) y s' (by simpa using e) (by rw [show n+(i+1)=n+1+i by omega];exact q);rw [show n+1+i+1=n+(i+1)+1 by omega];exact this
  rw [List.length_cons,show n+(xs.length+1)=n+1+xs.length by omega];exact this
theorem zbS {S:Type} {wi:TI} {g:TG} {tb:TS} {js:List Nat} {xs:List γ} {bds:γ->List Ds} {mi:Bool} {s0:S} (G:S->Ctx) (fo:β->Oc) {kk:S->β} (f:S->γ->S) (I:Nat->S->Prop) (it:Iv Γ wi g js xs bds mi) (w:Wk Γ (G s0)) (h0:I 0 s0)
  (body:∀(i:Nat) (x:γ) (s:S),xs[i]? =some x->I i s->I (i+1) (f s x)∧Run E (zpL js (bds x) mi (G s)) tb (.nx (G (f s x)))) (k:∀s,s=xs.foldl f s0->I xs.length s->Run E (G s) u (fo (kk s))):Run E Γ (zdI (ztf wi g tb) u) (fo (Let (xs.foldl f s0) kk)):=by refine zoC (Δ:=G (xs.foldl f s0)) ?_ (k _ rfl (by simpa using zeK (n:=0) (I:=I) h0 λi x s e q=>by rw [Nat.zero_add] at q ⊢;exact (body i x s e q).1));have:=zpj (β:=Empty) G (λz=>z.elim) (λs x=> .inl (f s x)) I it w h0 (λb=>b.elim) λi x s e q=>⟨λs' z=>by cases z;exact (body i x s e q).1,(body i x s e q).2⟩;rw [zit] at this;exact this
theorem zkq {S:Type} {f:S->γ->S ⊕ β} {I:Nat->S->Prop}:∀ {xs:List γ} {s s':S} {n:Nat},I n s->(∀(i:Nat) (x:γ) (s:S),xs[i]? =some x->I (n+i) s->∀s',f s x= .inl s'->I (n+i+1) s')->zcS f s xs= .inl s'->I (n+xs.length) s'
 | [],s,s',n,h,_,e=>by cases e;exact h
 | x :: xs,s,s',n,h,k,e=>by unfold zcS at e;cases q:f s x with|inr b=>rw [q] at e;cases e|inl s1=>rw [q] at e;have h1:=k 0 x s rfl h s1 q;have:=zkq (xs:=xs) (s:=s1) (n:=n+1) h1 (λi y s' e q=>by have:=k (i+1) y s' (by simpa using e) (by rw [show n+(i+1)=n+1+i by omega];exact q);rw [show n+1+i+1=n+(i+1)+1 by omega];exact this) e;rw [List.length_cons,show n+(xs.length+1)=n+1+xs.length by omega];exact this
theorem zlN {S:Type} {wi:TI} {g:TG} {tb:TS} {js:List Nat} {xs:List γ} {bds:γ->List Ds} {mi:Bool} {s0:S} (G:S->Ctx) (fo:α->Oc) (wr:β->α) {kk:S->α} (f:S->γ->S ⊕ β) (I:Nat->S->Prop) (hres:∀b,zrU (fo (wr b))) (it:Iv Γ wi g js xs bds mi) (w:Wk Γ (G s0)) (h0:I 0 s0)
  (body:∀(i:Nat) (x:γ) (s:S),xs[i]? =some x->I i s->(∀s',f s x= .inl s'->I (i+1) s')∧Run E (zpL js (bds x) mi (G s)) tb (zkX G (λb=>fo (wr b)) (f s x))) (k:∀s,zcS f s0 xs= .inl s->I xs.length s->Run E (G s) u (fo (kk s))):Run E Γ (zdI (ztf wi g tb) u) (fo (zpA (zcS f s0 xs) kk wr)):=by have h:=zpj G (λb=>fo (wr b)) f I it w h0 (λb F0 Hb D D' e q=>(hres b).meets e q) body;cases e:zcS f s0 xs with|inl s=>rw [e] at h;exact zoC h (k s e (by simpa using zkq (n:=0) h0 (λi x s e q=>by rw [Nat.zero_add] at q ⊢;exact (body i x s e q).1) e))|inr b=>rw [e] at h;exactλF0 Hb F H σ own D a q=>h F0 Hb F H σ own _ a ((hres b).meets (D:=D) rfl (show zg9 E F0 Hb D (fo (wr b)) from q))
end
end L2
namespace L2
open PySem PySem.Spec PyProof.Rows PySem.Builtin PySem.Builtin.Getset_descriptor
structure XCls (K:W.Frag) (C:Addr):Prop where
 ga:W.findIn K (.ref C) "__getattribute__"=some (some (.builtin "BaseException.__getattribute__"))
 gn:W.findIn K (.ref C) "__getattr__"=some none
 cl:W.findIn K (.ref C) "__class__"=some (some (.builtin "object.__class__"))
 ob:W.mroIn K C (.type "object")=some true
 be:W.mroIn K C (.type "BaseException")=some true
 gt:W.specialIn K (.builtin "object.__class__") "__get__"=some (some (.builtin "getset_descriptor.__get__"))
 tk:W.takesIn K (.builtin "object.__class__")=some true
def XAt (h:Heap) (a C:Addr):Prop:=∃o vs,h.get? a=some o∧o.cls= .ref C∧o.data= .fields vs
section
variable {prog:Program} {w:World} {A:Around} {E:Value->Shared->Prop} {K:W.Frag} {C a:Addr} {h:Heap} {g:Array GenState} {d:Drawn} {t:Nat} {os:OsState}
theorem XAt.ty {M:Model} (x:XAt h a C):W.Looks M h (typeOf (.ref a)) (.ref C):=by obtain ⟨o,vs,hx,hc,hd⟩:=x;exact hc ▸ (W.Looks.ld hx).andThen .now
theorem zkW {tp:Value} {R:Result->Shared->Prop} (X:K.In h) (c:XCls K C) (x:XAt h a C) (hr:R (.ok (.ret (.ref C))) ⟨h,g,d,t,os⟩) :
  codeAny ↑26 A (.call (.builtin "getset_descriptor.__get__") ⟨[.builtin "object.__class__",.ref a,tp],[]⟩) R ⟨h,g,d,t,os⟩:=by
   have L0:=x.ty (M:=model prog w);have L1:=W.looks_mroIn (M:=model prog w) X c.ob;refine codeAny_call_builtin W.KF.slot_gs.plain W.KF.entry_gs (W.KF.slot_gs.check _ _ _ _ _ _ _ _ W.KF.type_class (W.KF.args_gs _ _ _) ?_);unfold Builtin.«getset_descriptor.__get__»;unfold descrGet;rw [W.dga_obj];refine wpAny_bind (wpAny_pure ?_);unfold descrGetter;unfold descrCheckInstance descrNameAndClass;unfold isInstance;simp only [W.KF.owner_class];repeat (any_goals (first|assumption|with_reducible refine wpAny_bind (L0.at ?_)|with_reducible refine wpAny_bind (L1.at ?_)|with_reducible refine L0.at ?_|with_reducible refine L1.at ?_|wp_step))
   refine ⟨Code.quiet_builtin _ ⇑6,codeAny_builtin (W.KF.entry_class) ?_⟩;unfold Builtin.«object.__class__»;unfold shownTypeOf;repeat (any_goals (first|assumption|with_reducible refine wpAny_bind (L0.at ?_)|with_reducible refine L0.at ?_|wp_step))
theorem zoD {tk:Tok} {Q:Fin->Shared->Prop} (X:K.In h) (c:XCls K C) (x:XAt h a C) (hq:Q (.done (.ret (.ref C))) ⟨h,g,d,t,os⟩) :
  wpAny ↑26 A (Builtin.«object.__getattribute__» ⟨[.ref a,.str "__class__" tk],[]⟩) Q E ⟨h,g,d,t,os⟩:=by
   have L0:=x.ty (M:=model prog w);have L1:=W.looks_findIn (M:=model prog w) X c.cl;have L2:=W.looks_specialIn (M:=model prog w) X c.gt;have L3:=W.looks_takesIn (M:=model prog w) X c.tk;unfold Builtin.«object.__getattribute__»;repeat (any_goals (first|assumption|with_reducible refine wpAny_bind (L0.at ?_)|with_reducible refine wpAny_bind (L1.at ?_)|with_reducible refine wpAny_bind (L2.at ?_)|with_reducible refine wpAny_bind (L3.at ?_)|wp_step))
   refine zkW X c x ?_;repeat (any_goals (first|assumption|wp_step))
theorem zoK {nameV:Value} {Q:Unit->Shared->Prop} (X:K.In h) (c:XCls K C) (x:XAt h a C) (hq:Q () ⟨h,g,d,t,os⟩):wpAny ↑26 A (checkBuiltinCall "BaseException.__getattribute__" ⟨[.ref a,nameV],[]⟩) Q E ⟨h,g,d,t,os⟩:=by
 have hk:builtinKind "BaseException.__getattribute__" =some .slot:=by decide+kernel
 have hsplit:splitId "BaseException.__getattribute__" =some ("BaseException","__getattribute__"):=by decide+kernel
 have L0:=x.ty (M:=model prog w);have L1:=W.looks_mroIn (M:=model prog w) X c.be;have LI:W.Looks ↑26 h (isInstance (.ref a) (.type "BaseException")) true:=L0.andThen L1;have ha:=F.args_bexc_ga (.ref a) nameV;simp only [checkBuiltinCall,hk,hsplit];refine wpAny_bind (LI.at ?_);repeat (any_goals (first|assumption|wp_step))
 all_goals (try exact hq)
theorem zux {tk:Tok} {fill expr:Bool} {Q:Value->Shared->Prop} (X:K.In h) (c:XCls K C) (x:XAt h a C) (hq:Q (.ref C) ⟨h,g,d,t,os⟩) :
  wpAny ↑26 A (getAttrBy (.ref a) (.str "__class__" tk) fill expr) Q E ⟨h,g,d,t,os⟩:=by
   have L0:=x.ty (M:=model prog w);have L1:=W.looks_findIn (M:=model prog w) X c.ga;have L2:=W.looks_findIn (M:=model prog w) X c.gn;have f3:=(PySem.F.attr_ValueError.ga).bind (.ref a);have hx0:(expr && onTheHeap (Value.builtin "BaseException.__getattribute__"))=false:=by cases expr<;>rfl
   have hx2:(Value.builtin "BaseException.__getattribute__" ==Value.builtin "object.__getattribute__")=false:=by decide+kernel
   have hx1:(onTheHeap (Value.ref C) && Value.builtin "BaseException.__getattribute__" ==Value.builtin "object.__getattribute__")=false:=by rw [hx2];rfl
   unfold getAttrBy;repeat (any_goals (first|assumption|with_reducible refine wpAny_bind (L0.at ?_)|with_reducible refine wpAny_bind (L1.at ?_)|with_reducible refine wpAny_bind (L2.at ?_)|wp_step))
   refine codeAny_call_builtin PySem.F.attr_ValueError.ga.plain F.entry_bexc_ga (zoK X c x (zoD X c x ?_));repeat (any_goals (first|assumption|wp_step))
theorem zqf {Q:Option Value->Shared->Prop} (X:K.In h) (c:XCls K C) (x:XAt h a C) (hq:Q (some (.ref C)) ⟨h,g,d,t+1,os⟩) :
  wpAny ↑26 A (getAttr? (.ref a) "__class__") Q E ⟨h,g,d,t,os⟩:=by unfold getAttr? getAttrBy?;repeat (any_goals (first|assumption|with_reducible apply zux X c x|wp_step))
end
theorem cls_at {K:W.Frag} {C:Addr} {T:Value} {r:Bool} (e:W.mroIn K C T=some r):∃c d cd sl,K.lookup C=some ⟨c,d,.cls cd,sl⟩:=by
 obtain ⟨cd,hc,_⟩:=Option.bind_eq_some_iff.mp e;unfold W.clsIn at hc;split at hc;·exact ⟨_,_,_,_,by assumption⟩
 ·cases hc
theorem zqm {K:W.Frag} {a C:Addr} (c:XCls K C):W.KitX K (.ref a) (.ref C) (λh=>XAt h a C) where
 ty:=λ_ _ _ x=>x.ty
 it:=λM h X _=>by
  obtain ⟨c',d',cd',sl',ho⟩:=cls_at c.ob
  intro A' Q' E' s' k q
  unfold isType loadHead
  exact wpAny_bind (wpAny_loadPart (k _ _ (X _ _ ho)) (wpAny_pure q))
 ne:=λh tp dd its n sl X htp=>by
  obtain ⟨c',d',cd',sl',ho⟩:=cls_at c.ob
  refine Bool.eq_false_iff.mpr λq=>?_
  have e:C=tp:=Value.ref.inj (beq_iff_eq.mp q)
  subst e
  have z:=(X _ _ ho).symm.trans htp
  cases z
 ca:=λ{prog w A E Q s} X x k=>by
  obtain ⟨h,g,d,t,os⟩:=s
  exact zqf X c x k
def zv5 (a C:Addr) (dct:Option Addr):HO:= .ext λh=>∃o vs,h.get? a=some o∧o.cls= .ref C∧o.data= .fields vs∧o.dict=dct
section
variable {X:Cx} {K:W.Frag}
theorem znT (hK:X.K=K):zeb X (.builtin "isinstance") (λxs H Q=>∃a C dct c b,(xs=[.ref a,c])∧H a=some (zv5 a C dct)∧XCls K C∧(∃u,zc0 c u∧(∀u',zc0 c u'->u'=u)∧W.kitOne K (.ref C) u=some b)∧Q (.bl b) H):=by subst hK;intro pins s σ H xs us Q I r h;obtain ⟨a,C,dct,c,b,rfl,ha,hc,⟨u,hu,hu2,hk⟩,q⟩:=h;obtain ⟨v,w',rfl,rx,ry⟩:=zoi r;cases rx;rw [hu2 w' ry];obtain ⟨⟨o,vs,h1,h2,h3,_⟩,_⟩:=(show zdT X.prog X.w H s.heap a (zv5 a C dct) from I.hok a _ ha);exact W.kia_one (zqm hc) I.kIn ⟨o,vs,h1,h2,h3⟩ hk (λz=>nomatch z) λtk=>⟨.bl b,H,I.tok _,rfl,q⟩
end
end L2
namespace L2
open PySem PySem.Spec PyProof.Rows
section
variable {X:Cx} {pins:List ↑4} {σ:St} {H:Hp} {s:Shared}
theorem Inv.locals {h':Heap} {t':Nat} {m':Str->Option Value} {σ':St} (I:Inv X pins σ H s) (hs:Heap.SameBut X.env.locals s.heap h') (hn':h'.Ns X.env.locals m')
  (hl:∀(j:Nat) (y:Str) (v:V),X.N[j]? =some y->σ'[j]? =some (some v)->Vis X.env.scope y->∃u,zc0 v u∧zwK X.env h' m' y u) (len:σ'.length=X.N.length):Inv X pins σ' H {s with heap:=h',toks:=t'}:=by
   have lt:∀b o,X.s₀.heap.get? b=some o->b≠X.env.locals:=λb o e=>Nat.ne_of_lt (Nat.lt_of_lt_of_le ↑38 I.ok.above);refine ⟨I.ok,I.os,I.bare,⟨λb o e n hb hx=>(hs.2 b (lt b o e)).trans (I.base.keep b o e n hb hx),λb o e n hb hx=> ?_,I.base.free,λb o e hx=> ?_,I.base.tups,I.base.frzs,I.base.tbls⟩,⟨m',hn',hl⟩,λy c e=> ?_,I.free,I.freeC,λp hp=> ?_,λb u e=> ?_,len⟩;·obtain ⟨sl,q⟩:=I.base.slot b o e n hb hx;exact ⟨sl,(hs.2 b (lt b o e)).trans q⟩
   ·obtain ⟨o',q⟩:=I.base.there b o e hx;exact ⟨o',(hs.2 b (lt b o e)).trans q⟩
   ·obtain ⟨w',z⟩:=I.cell y c e;exact ⟨w',z.sameBut hs (I.cne y c e)⟩
   ·obtain ⟨e,n,ne,nf,d⟩:=I.pin p hp;exact ⟨(hs.2 p.1 ne).trans e,n,ne,nf,d⟩
   ·refine (I.hok b u e).stay (λc v hc q=>(hs.2 c ?_).trans q) (λ_ q=>q) λ_ _ q=>q;intro z;have z':=I.free;rw [←z] at z';rcases hc with hc|hc
    ·rw [hc,e] at z';cases z'
    ·rw [hc] at z';cases z'
abbrev Cx.marked (X:Cx) (e:Addr):Cx:= {X with A:=X.A.mark (some (.ref e)),calm:=false,xe:=λ_ _=>False}
theorem Inv.marked {e:Addr} (I:Inv X pins σ H s):Inv (X.marked e) pins σ H s :=
 ⟨⟨I.ok.mod,I.ok.kind,I.ok.glob,I.ok.blt,I.ok.above,I.ok.inj,I.ok.has,I.ok.cab,(λz=>(nomatch z)),I.ok.frames,I.ok.stk,I.ok.exf,I.ok.bs,I.ok.bsz,I.ok.noex,I.ok.exfs,I.ok.funs,I.ok.frf⟩,I.os,I.bare,I.base,I.loc,I.cell,I.free,I.freeC,I.pin,I.hok,I.len⟩
end
section
variable {X:Cx} {K:W.Frag}
end
end L2
namespace L2
open PySem PySem.Spec PyProof.Rows
section
variable {X:Cx} {K:W.Frag} {e:Expr} {st:Stmt} {rest:List Stmt} {pos:Pos}
end
def xdOk (H:Hp) (dct:Option Addr) (fs:List (Str×Ds)):Prop:=fs=[]∨∃d vs,dct=some d∧H d=some (.xd vs)∧Paired (λ(a:Str×V) (b:Str×Ds)=>a.1=b.1∧b.2.pr H a.2) vs fs
class XF (ε:Type) where
 fs:ε->List (Str×Ds)
def xφ {ε:Type} [XF ε] (e:ε):Hp->Option Addr->Prop:=λF dct=>xdOk F dct (XF.fs e)
def zu2 (K:W.Frag):List V->Hp->VK->Prop:=λxs H Q=>zv9 K xs H Q∨∃a C dct c b,(xs=[.ref a,c])∧H a=some (zv5 a C dct)∧XCls K C∧(∃u,zc0 c u∧(∀u',zc0 c u'->u'=u)∧W.kitOne K (.ref C) u=some b)∧Q (.bl b) H
theorem znr {X:Cx} {K:W.Frag} (hK:X.K=K):zeb X (.builtin "isinstance") (zu2 K):=λpins s σ H xs us Q I r h=>by
 rcases h with h|h
 ·exact zmN hK pins s σ H xs us Q I r h
 ·exact znT hK pins s σ H xs us Q I r h
section
variable {E:XS} {Γ Δ Γx:Ctx} {m:Bool} {K:W.Frag} {α β ε:Type} [XF ε] {u:TS} {o:Oc} {ds:List Ds}
theorem zs4 {v:V} {t:Value} {ta:TE} {T:String} {b:Bool} (ty:∀H,TyOf K H v t) (h:Ev Γ ta false (dV v)) (hk:W.kitOne K t (.type T)=some b):Ev Γ (tCB (zu2 K) (zcJ ta (zcJ (tC (.ty T)) zf2))) m (dB b):=λF0 Hb F H σ own Q a k=>h F0 Hb F H σ own _ a λv' F1 H1 g1 q1=>by cases q1;exact .inl ⟨v,t,b,.inl ⟨T,rfl,hk⟩,ty H1,k _ F1 H1 g1 rfl⟩
end
section
variable {E:XS} {Γ:Ctx} {K:W.Frag} {α β ε:Type} [XF ε] {u:TS}
end
section
variable {P:Program} {w:World} {K:W.Frag} {mg:Str->Option Value} {base:Heap} {x qual:Str} {st:Stmt} {f:Addr} {fd:FuncData} {N ps:List Str} {k:Nat}
end
end L2
namespace L2
open PySem PySem.Spec PyProof.Rows
def EvN (Γ:Ctx) (t:TE) (d:Ds):Prop:=∀(F0 Hb F H:Hp) (σ:St) (own:Nat->Option Addr) (Q:VK),At F0 Hb F H σ own Γ->(∀v F' H',Grow F H F' H'->d.pr (off F' H) v->Q v H')->t σ H Q
def zwQ:Slot->Slot
 | .va _ d=>.va false d
 | _=>.no
def zve (Γ:Ctx):Ctx:=Γ.map zwQ
theorem At.now {F0 Hb F H:Hp} {σ:St} {own:Nat->Option Addr} {Γ:Ctx} (a:At F0 Hb F H σ own Γ):At F H F H σ (λ_=>none) (zve Γ):=by
 refine ⟨Grow.refl a.fh,λ_ _ _ h=>(nomatch h),λ_ _ h=>(nomatch h),λi s e=> ?_,by unfold zve;rw [List.length_map];exact a.len⟩;unfold zve at e;rw [List.getElem?_map] at e
 cases q:Γ[i]? with
  |none=>rw [q] at e;cases e
  |some r=>
   rw [q] at e;have e':zwQ r=s:=Option.some.inj e;subst e';have h:=a.sl i r q
   cases r with
    |va m d=>obtain ⟨x,h1,h2⟩:=h;exact ⟨x,h1,d.up za4 h2⟩
    |no=>trivial
    |ow m ds=>trivial
    |ob m C p dx fs=>trivial
    |ol p ds=>trivial
    |tl d=>trivial
theorem ztx {Γ:Ctx} {t:TE} {d:Ds} (h:Ev (zve Γ) t true d):EvN Γ t d:=λF0 Hb F H σ own Q a k=>h F H F H σ _ Q a.now λv F' H' g q=>k v F' H' g q
theorem At.setTl {F0 Hb F H F' H':Hp} {σ:St} {own:Nat->Option Addr} {Γ:Ctx} (a:At F0 Hb F H σ own Γ) (g:Grow F H F' H') (i:Nat) {d:Ds} {v:V} (h:d.pr (off F' H) v):At F0 Hb F H' (σ.set i (some v)) own (Γ.set i (.tl d)):=by
 have gF:Grow F H F H':=⟨Same.refl _,a.fh.trans g.h,g.h,λ_ _ z=>z⟩;have a':=a.grow gF;refine ⟨a'.g,a'.inj,a'.liv,λj s e=> ?_,by simp [a.len]⟩;by_cases z:i=j
 ·subst z;have hi:i<Γ.length:=by simpa using (↑42).1
  rw [List.getElem?_set_self hi] at e;cases e;rw [zdV (by rw [a.len];exact hi)];refine ⟨v,off F' H,rfl,zkO.trans g.fh,λb o q=> ?_,λj p q=> ?_,h⟩;·have hb:=(zdW.mp q).1;exact ⟨a.fh.free hb,a.g.h.free hb⟩
  ·have:=a.liv j p q;cases w:off F' H p with|none=>rfl|some o=>exact absurd (zdW.mp w).1 this
 ·rw [List.getElem?_set_ne z] at e;rw [zeY z];exact a'.sl j s e
section
variable {E:XS} {Γ:Ctx} {te:TE} {u:TS} {o:Oc} {d d1 d2:Ds} {K:W.Frag} {i j:Nat}
theorem zqB (h:EvN Γ te d) (k:Run E (Γ.set i (.tl d)) u o):Run E Γ (zdI (zl3 te (zd0 i)) u) o:=λF0 Hb F H σ own D a q=>h F0 Hb F H σ own _ a λv F' H' g p=>k F0 Hb F H' _ own D (a.setTl g i p) q
theorem zqA {α β:Type} {x:α} (f:α->Ds) (fo:β->Oc) {kk:α->β} (h:EvN Γ te (f x)) (k:∀y,y=x->Run E (Γ.set i (.tl (f y))) u (fo (kk y))):Run E Γ (zdI (zl3 te (zd0 i)) u) (fo (Let x kk)):=zqB h (k x rfl)
end
def shS:Slot->Slot
 | .tl d=>.va true d
 | s=>s
def shC (Γ:Ctx):Ctx:=Γ.map shS
def zs0 (Γ:Ctx):Bool:=Γ.all λs=>match s with| .ob _ _ _ _ _=>false|_=>true
open Classical in
noncomputable def wide (F Hb H:Hp) (own:Nat->Option Addr):Hp:=λa=>match F a with|some o=>some o|none=>if Hb a=none∧∀j,own j≠some a then H a else none
theorem zlZ {F Hb H:Hp} {own:Nat->Option Addr}:Same F (wide F Hb H own):=λa o q=>by unfold wide;rw [q]
theorem ztZ {F Hb H:Hp} {own:Nat->Option Addr} (e:Same F H):Same (wide F Hb H own) H:=λa o q=>by
 unfold wide at q
 cases z:F a with
  |some o'=>rw [z] at q;cases q;exact e _ _ z
  |none=>
   rw [z] at q;dsimp only at q;split at q;·exact q
   ·cases q
theorem At.wide {F0 Hb F H:Hp} {σ:St} {own:Nat->Option Addr} {Γ:Ctx} (a:At F0 Hb F H σ own Γ) (hno:zs0 Γ=true):At F0 Hb (wide F Hb H own) H σ own (shC Γ):=by
 refine ⟨⟨a.g.f.trans zlZ,ztZ a.fh,a.g.h,λb h1 h2=> ?_⟩,a.inj,a.liv,λi s e=> ?_,by unfold shC;rw [List.length_map];exact a.len⟩;·unfold L2.wide;rw [a.g.no b h1 h2];dsimp only;rw [if_neg (λz=>h1 z.1)]
 ·unfold shC at e;rw [List.getElem?_map] at e
  cases q:Γ[i]? with
   |none=>rw [q] at e;cases e
   |some r=>
    rw [q] at e;have e':shS r=s:=Option.some.inj e;subst e';have h:=a.sl i r q
    cases r with
     |va m d=>obtain ⟨x,h1,h2⟩:=h;exact ⟨x,h1,d.up (zbe zlZ) h2⟩
     |no=>trivial
     |ow m ds=>obtain ⟨p,vs,h1,h2,h3,h4,h5,h6⟩:=h;refine ⟨p,vs,h1,h2,?_,h4,h5,zds (ds:=[]) (zbe zlZ) h6⟩;unfold L2.wide;rw [h3];dsimp only;rw [if_neg (λz=>z.2 i h2)]
     |ol p ds=>obtain ⟨vs,h1,h2,h3,h4,h5,h6⟩:=h;refine ⟨vs,h1,h2,?_,h4,h5,zds (ds:=[]) zlZ h6⟩;unfold L2.wide;rw [h3];dsimp only;rw [if_neg (λz=>z.2 i h2)]
     |ob m C p dx fs=>have:=List.all_eq_true.mp hno _ (List.mem_of_getElem? q);cases this
     |tl d=>obtain ⟨x,R,h1,h2,h3,h4,h5⟩:=h;refine ⟨x,h1,d.up (λb o w=> ?_) h5⟩;refine zdW.mpr ⟨(h3 b o w).2,?_⟩;unfold L2.wide;rw [(h3 b o w).1];dsimp only;rw [if_pos ⟨(h3 b o w).2,λj z=>by rw [h4 j b z] at w;cases w⟩];exact h2 b o w
section
variable {E:XS} {Γ:Ctx} {t:TE} {d:Ds} {m n:Bool} {u:TS} {o:Oc}
theorem Grow.only {F H H':Hp} (e:Same F H) (g:Same H H'):Grow F H F H':=⟨Same.refl _,e.trans g,g,λ_ _ z=>z⟩
theorem zmL {t:TS} (hno:zs0 Γ=true) (k:Run E (shC Γ) t o):Run E Γ t o:=λF0 Hb F H σ own D a q=>k F0 Hb _ H σ own D (a.wide hno) q
def unS:Slot->Slot
 | .tl _=>.no
 | s=>s
def unC (Γ:Ctx):Ctx:=Γ.map unS
theorem At.spoil {F0 Hb F H:Hp} {σ:St} {own:Nat->Option Addr} (a:At F0 Hb F H σ own Γ) (hno:zs0 Γ=true) {p:Addr} (w:HO) (h1:F p=none) (h2:Hb p=none) (h3:∀j,own j≠some p):At F0 Hb F (upd H p w) σ own (unC Γ):=by
 refine ⟨a.g.setH h1 h2,a.inj,λj q e=> ?_,λi s e=> ?_,by unfold unC;rw [List.length_map];exact a.len⟩;·have:q≠p:=λz=>h3 j (z ▸ e);rw [zam this];exact a.liv j q e
 ·unfold unC at e;rw [List.getElem?_map] at e
  cases q:Γ[i]? with
   |none=>rw [q] at e;cases e
   |some r=>
    rw [q] at e;have e':unS r=s:=Option.some.inj e;subst e';have h:=a.sl i r q
    cases r with
     |va m d=>exact h
     |no=>trivial
     |ow m ds=>obtain ⟨x,vs,q1,q2,q3,q4,q5,q6⟩:=h;have:x≠p:=λz=>h3 i (z ▸ q2);exact ⟨x,vs,q1,q2,q3,q4,by rw [zam this];exact q5,q6⟩
     |ol x ds=>obtain ⟨vs,q1,q2,q3,q4,q5,q6⟩:=h;have:x≠p:=λz=>h3 i (z ▸ q2);exact ⟨vs,q1,q2,q3,q4,by rw [zam this];exact q5,q6⟩
     |ob m C p dx fs=>have:=List.all_eq_true.mp hno _ (List.mem_of_getElem? q);cases this
     |tl d=>trivial
end
theorem ev_some {Γ:Ctx} {t:TE} {m:Bool} {α:Type} [Inhabited α] {f:α->Ds} {x:Option α} (h:Ev Γ t m (dOpt f x)) (hs:x.isSome=true):Ev Γ t m (f (x.getD default)):=by cases x with|none=>cases hs|some v=>exact h
def gS {α:Type} [Inhabited α] (x:Option α):α:=x.getD default
section
variable {E:XS} {Γ:Ctx} {te:TE} {u:TS} {K:W.Frag} {i j:Nat} {α β:Type} {f:α->Ds}
end
section
variable {X:Cx} {K:W.Frag}
end
end L2
namespace Lat
abbrev Vc:=Nat->Int
inductive Sp (A:Vc->Prop):Vc->Prop
 | zero:Sp A (λ_=>0)
 | add {u a:Vc} (x:Int):Sp A u->A a->Sp A (λi=>u i+x*a i)
section
variable {A B:Vc->Prop} {u v a:Vc}
theorem Sp.conv (h:Sp A u) (e:∀ i,u i=v i):Sp A v:=(funext e:u=v) ▸ h
theorem Sp.mem (h:A a):Sp A a:=(Sp.add 1 Sp.zero h).conv λi=>by grind
theorem Sp.smul (x:Int) (h:Sp A u):Sp A (λi=>x*u i):=by induction h with|zero=>exact Sp.zero.conv λi=>by grind| @ add u a z _ ha ih=>exact (Sp.add (x*z) ih ha).conv λi=>by grind
theorem Sp.plus (h:Sp A u) (k:Sp A v):Sp A (λi=>u i+v i):=by induction k with|zero=>exact h.conv λi=>by grind| @ add w a z _ ha ih=>exact (Sp.add z ih ha).conv λi=>by grind
theorem Sp.lin (x y:Int) (h:Sp A u) (k:Sp A v):Sp A (λi=>x*u i+y*v i):=(h.smul x).plus (k.smul y)
theorem Sp.sub (k:∀a,A a->Sp B a) (h:Sp A u):Sp B u:=by induction h with|zero=>exact Sp.zero| @ add u a z _ ha ih=>exact (ih.plus ((k a ha).smul z)).conv λi=>by grind
theorem Sp.mono (k:∀ a,A a->B a) (h:Sp A u):Sp B u:=h.sub λa ha=> .mem (k a ha)
theorem Sp.at0 {i:Nat} (k:∀a,A a->a i=0) (h:Sp A u):u i=0:=by induction h with|zero=>rfl| @ add u a z _ ha ih=>show u i+z*a i=0;rw [ih,k a ha];simp
theorem Sp.split {a:Vc} (h:Sp (λu=>A u∨u=a) v):∃w y,Sp A w∧∀i,v i=w i+y*a i:=by
 induction h with
  |zero=>exact ⟨_,0,.zero,λi=>by grind⟩
  | @ add u b z _ hb ih=>
   obtain ⟨w,y,hw,e⟩:=ih;rcases hb with hb|rfl
   ·exact ⟨_,y,.add z hw hb,λi=>by grind⟩
   ·exact ⟨w,y+z,hw,λi=>by grind⟩
end
noncomputable def comb:Ji->List Vc->Vc
 | x :: xs,a :: as=>λi=>x*a i+comb xs as i
 | _,_=>λ_=>0
theorem zhY {A:Vc->Prop}:∀ {xs:Ji} {as:List Vc},(∀a∈as,A a)->Sp A (comb xs as)
 | [],_,_=>.zero
 | _ :: _,[],_=>.zero
 | x :: xs,a :: as,h=>(((Sp.mem (h a List.mem_cons_self)).smul x).plus (zhY (xs:=xs) λb hb=>h b (List.mem_cons_of_mem _ hb))).conv λi=>by simp only [comb]
theorem zml:∀ {xs ys:Ji} {as:List Vc} (i:Nat),xs.length=ys.length->comb (List.zipWith (· - ·) xs ys) as i=comb xs as i-comb ys as i
 | [],[],_,_,_=>by simp [comb]
 | x :: xs,y :: ys,[],_,_=>by simp [comb]
 | x :: xs,y :: ys,a :: as,i,h=>by have:=zml (xs:=xs) (ys:=ys) (as:=as) i (by simpa using h);simp only [comb,List.zipWith_cons_cons,this];grind
theorem zhX:∀ {xs:Ji} {as:List Vc} (c:Int) (i:Nat),comb (xs.map (c* ·)) as i=c*comb xs as i
 | [],_,_,_=>by simp [comb]
 | x :: xs,[],_,_=>by simp [comb]
 | x :: xs,a :: as,c,i=>by have:=zhX (xs:=xs) (as:=as) c i;simp only [comb,List.map_cons,this];grind
theorem zjA {X B:Nat} {i:Nat}:∀ {xs:Ji} {as:List Vc},(∀x∈xs,x.natAbs≤X)->(∀a∈as,(a i).natAbs≤B)->(comb xs as i).natAbs≤as.length*(X*B)
 | [],_,_,_=>by simp [comb]
 | _ :: _,[],_,_=>by simp [comb]
 | x :: xs,a :: as,h,k=>by
  have h1:=zjA (xs:=xs) (as:=as) (λy hy=>h y (List.mem_cons_of_mem _ hy)) λb hb=>k b (List.mem_cons_of_mem _ hb);have h2:(x*a i).natAbs≤X*B:=by rw [Int.natAbs_mul];exact Nat.mul_le_mul (h x List.mem_cons_self) (k a List.mem_cons_self)
  simp only [comb,List.length_cons,Nat.succ_mul];omega
theorem zrf:∀(M N:Nat) (f:Nat->Nat),M<N->(∀n,n<N->f n<M)->∃i j,i<j∧j<N∧f i=f j
 | 0,N,f,h,k=>absurd (k 0 h) (Nat.not_lt_zero _)
 | M+1,N,f,h,k=>by
  by_cases q:∃i,i<N-1∧f i=f (N-1);·obtain ⟨i,h1,h2⟩:=q;exact ⟨i,N-1,h1,by omega,h2⟩
  ·have q:∀i,i<N-1->f i≠f (N-1):=λi h1 h2=>q ⟨i,h1,h2⟩;obtain ⟨i,j,h1,h2,h3⟩:=zrf M (N-1) (λn=>if f (N-1)<f n then f n-1 else f n) ↑0 λn hn=>by have a:=k n ↑0;have b:=k (N-1) ↑0;have c:=q n hn;show (if f (N-1)<f n then f n-1 else f n)<M;split<;>omega
   refine ⟨i,j,h1,by omega,?_⟩;have a:=q i ↑0;have b:=q j h2;split at h3<;>split at h3<;>omega
noncomputable def zie (b:Nat):Nat->Nat->Ji
 | 0,_=>[]
 | k+1,n=>((n%b:Nat):Int)::zie b k (n/b)
theorem zen {b:Nat}:∀ {k n:Nat},(zie b k n).length=k
 | 0,_=>rfl
 | k+1,n=>by simp [zie,zen]
theorem zjn {b:Nat} (hb:0<b):∀ {k n:Nat},∀x∈zie b k n,0≤x∧x<b
 | 0,_,x,h=>by simp [zie] at h
 | k+1,n,x,h=>by
  simp only [zie,List.mem_cons] at h;rcases h with rfl|h
  ·have:=Nat.mod_lt n hb;omega
  ·exact zjn hb x h
theorem zl5 {b:Nat} (hb:0<b):∀ {k n m:Nat},n<b ^ k->m<b ^ k->zie b k n=zie b k m->n=m
 | 0,n,m,h1,h2,_=>by simp at h1 h2;omega
 | k+1,n,m,h1,h2,e=>by simp only [zie,List.cons.injEq] at e;have h3:=zl5 hb (k:=k) (Nat.div_lt_of_lt_mul (by rw [Nat.pow_succ,Nat.mul_comm] at h1;exact h1)) (Nat.div_lt_of_lt_mul (by rw [Nat.pow_succ,Nat.mul_comm] at h2;exact h2)) e.2;have h4:=Nat.div_add_mod n b;have h5:=Nat.div_add_mod m b;rw [h3] at h4;omega
noncomputable def enc (W:Nat) (u:Vc):List Nat->Nat
 | []=>0
 | h :: hs=>(u h+W).toNat+(2*W+1)*enc W u hs
theorem zq9 {W:Nat} {u:Vc}:∀ {hs:List Nat},(∀h∈hs,(u h).natAbs≤W)->enc W u hs<(2*W+1) ^ hs.length
 | [],_=>by simp [enc]
 | h :: hs,k=>by have h1:=zq9 (hs:=hs) λg hg=>k g (List.mem_cons_of_mem _ hg);have h2:=k h List.mem_cons_self;simp only [enc,List.length_cons,Nat.pow_succ];have h3:(2*W+1)*(enc W u hs+1)≤(2*W+1)*(2*W+1) ^ hs.length:=Nat.mul_le_mul_left _ h1;rw [Nat.mul_comm ((2*W+1) ^ hs.length)];rw [Nat.mul_add] at h3;omega
theorem zoA {W:Nat} {u v:Vc}:∀ {hs:List Nat},(∀h∈hs,(u h).natAbs≤W∧(v h).natAbs≤W)->enc W u hs=enc W v hs->∀h∈hs,u h=v h
 | [],_,_,h,hh=>by simp at hh
 | g :: hs,k,e,h,hh=>by
  have h2:=k g List.mem_cons_self;simp only [enc] at e;have e1:((u g+W).toNat+(2*W+1)*enc W u hs)%(2*W+1)=((v g+W).toNat+(2*W+1)*enc W v hs)%(2*W+1):=by rw [e]
  rw [Nat.add_mul_mod_self_left,Nat.add_mul_mod_self_left,Nat.mod_eq_of_lt ↑0,Nat.mod_eq_of_lt ↑0] at e1;have e2:u g=v g:=by omega
  rcases List.mem_cons.mp hh with rfl|hh
  ·exact e2
  ·refine zoA (λx hx=>k x (List.mem_cons_of_mem _ hx)) ?_ h hh;rw [e1] at e;exact Nat.eq_of_mul_eq_mul_left (show 0<2*W+1 by omega) (Nat.add_left_cancel e)
theorem ztW {as:List Vc} {hs:List Nat} {B:Nat} (hl:hs.length<as.length) (hB:∀a∈as,∀h∈hs,(a h).natAbs≤B) :
  ∃xs:Ji,xs.length=as.length∧(∃x∈xs,x≠0)∧(∀x∈xs,x.natAbs≤(2*(as.length*B)+1) ^ hs.length)∧∀h∈hs,comb xs as h=0:=by
   generalize hY:2*(as.length*B)+1=Y;have hY1:1≤Y:=by omega
   generalize hX:Y ^ hs.length=X;have hX1:1≤X:=by rw [←hX];exact Nat.one_le_pow _ _ hY1
   have key:∀n,∀h∈hs,(comb (zie (X+1) as.length n) as h).natAbs≤as.length*(X*B):=λn h hh=>zjA (λx hx=>by have:=zjn ↑0 x hx;omega) λa ha=>hB a ha h hh
   obtain ⟨i,j,h1,h2,h3⟩:=zrf ((2*(as.length*(X*B))+1) ^ hs.length) ((X+1) ^ as.length) (λn=>enc (as.length*(X*B)) (comb (zie (X+1) as.length n) as) hs) (by
    have e1:2*(as.length*(X*B))+1≤Y*X:=by rw [←hY,Nat.add_mul,Nat.one_mul,Nat.mul_assoc,Nat.mul_assoc,Nat.mul_comm B X];omega
    calc
     (2*(as.length*(X*B))+1) ^ hs.length≤(Y*X) ^ hs.length:=Nat.pow_le_pow_left e1 _
     _=X*X ^ hs.length:=by rw [Nat.mul_pow,hX]
     _=X ^ (hs.length+1):=by rw [Nat.pow_succ,Nat.mul_comm]
     _≤X ^ as.length:=Nat.pow_le_pow_right hX1 hl
     _<(X+1) ^ as.length:=Nat.pow_lt_pow_left ↑0 ↑0) λn _=>zq9 (key n)
   refine ⟨List.zipWith (· - ·) (zie (X+1) as.length i) (zie (X+1) as.length j),by simp [zen],?_,λx hx=> ?_,λh hh=> ?_⟩
   ·refine Classical.byContradiction λq=> ?_;have q:∀x∈List.zipWith (· - ·) (zie (X+1) as.length i) (zie (X+1) as.length j),x=0:=λx hx=>Classical.byContradiction λz=>q ⟨x,hx,z⟩;have e:zie (X+1) as.length i=zie (X+1) as.length j:=by refine List.ext_getElem (by simp [zen]) λk k1 k2=> ?_;have:=q _ (List.getElem_mem (l:=List.zipWith (· - ·) (zie (X+1) as.length i) (zie (X+1) as.length j)) (n:=k) (by simp [zen] at*;omega));rw [List.getElem_zipWith] at this;omega
    have:=zl5 ↑0 (Nat.lt_trans h1 h2) h2 e;omega
   ·obtain ⟨k,hk,rfl⟩:=List.getElem_of_mem hx;have hk':k<as.length:=by simpa [zen] using hk
    rw [List.getElem_zipWith];have:=zjn (b:=X+1) ↑0 _ (List.getElem_mem (l:=zie (X+1) as.length i) (n:=k) (by rw [zen];exact hk'));have:=zjn (b:=X+1) ↑0 _ (List.getElem_mem (l:=zie (X+1) as.length j) (n:=k) (by rw [zen];exact hk'));omega
   ·rw [zml _ (by simp [zen])];have:=zoA (λh hh=>⟨key i h hh,key j h hh⟩) h3 h hh;omega
theorem first {u:Vc} {c:Nat} (h:u c≠0):∃d,d≤c∧u d≠0∧∀i,i<d->u i=0:=by
 induction c using Nat.strongRecOn with
  |_ c ih=>
   by_cases q:∃i,i<c∧u i≠0;·obtain ⟨i,h1,h2⟩:=q;obtain ⟨d,h3,h4⟩:=ih i h1 h2;exact ⟨d,by omega,h4⟩
   ·exact ⟨c,Nat.le_refl c,h,λi hi=>Classical.byContradiction λz=>q ⟨i,hi,z⟩⟩
noncomputable def bnd (k B C:Nat):Nat:=(k+1)*((2*((k+1)*C)+1) ^ k*B)
theorem zlO {k l B C:Nat} (h:k≤l):bnd k B C≤bnd l B C:=by unfold bnd;refine Nat.mul_le_mul ↑0 (Nat.mul_le_mul_right _ ?_);refine Nat.le_trans (Nat.pow_le_pow_right ↑0 h) (Nat.pow_le_pow_left ?_ _);have:=Nat.mul_le_mul_right C (show k+1≤l+1 by omega);omega
structure Wit (A:Vc->Prop) (B E:Nat) (hs:List Nat) (as:List Vc):Prop where
 len:hs.length=as.length
 mem:∀ a∈as,A a
 bd:∀ a∈as,∀ i,(a i).natAbs≤B
 van:∀ u,Sp A u->(∀ h∈hs,u h=0)->∀ i,u i=0
 hd:∀ h∈hs,∃ v,Sp A v∧(∀ i,i<h->v i=0)∧v h≠0∧∀ i,(v i).natAbs≤E
 ind:∀ xs:Ji,xs.length=as.length->(∀ i,comb xs as i=0)->∀ x∈xs,x=0
theorem Wit.nil {B E:Nat}:Wit (λ_=>False) B E [] [] where
 len:=rfl
 mem:=by simp
 bd:=by simp
 van:=λu h _ i=>h.at0 λ_ z=>z.elim
 hd:=by simp
 ind:=λxs h _ x hx=>by rw [List.length_eq_zero_iff.mp h] at hx;simp at hx
theorem Wit.rel {A:Vc->Prop} {B C E:Nat} {hs:List Nat} {as:List Vc} {u:Vc} (W:Wit A B E hs as) (hBC:B≤C) (hu:∀h∈hs,(u h).natAbs≤C) :
  ∃(x:Int) (xs:Ji),x≠0∧xs.length=as.length∧x.natAbs≤(2*((as.length+1)*C)+1) ^ as.length∧(∀y∈xs,y.natAbs≤(2*((as.length+1)*C)+1) ^ as.length)∧∀h∈hs,x*u h+comb xs as h=0:=by
   obtain ⟨xs,h1,⟨z,hz,hz0⟩,h3,h4⟩:=ztW (as:=u::as) (hs:=hs) (B:=C) (by simp [W.len]) λa ha h hh=>by
    rcases List.mem_cons.mp ha with rfl|ha
    ·exact hu h hh
    ·exact Nat.le_trans (W.bd a ha h) hBC
   rw [W.len,List.length_cons] at h3
   match xs,h1 with
    |x::xs,h1=>
     refine ⟨x,xs,λq=> ?_,by simpa using h1,h3 x List.mem_cons_self,λy hy=>h3 y (List.mem_cons_of_mem _ hy),λh hh=>by have:=h4 h hh;simpa [comb] using this⟩;subst q;have k1:∀i,comb xs as i=0:=W.van _ (zhY W.mem) λh hh=>by have:=h4 h hh;simpa [comb] using this
     have k2:=W.ind xs (by simpa using h1) k1;rcases List.mem_cons.mp hz with rfl|hz
     ·exact hz0 rfl
     ·exact hz0 (k2 z hz)
theorem Wit.step {A:Vc->Prop} {B E:Nat} {hs:List Nat} {as:List Vc} {a:Vc} (W:Wit A B E hs as) (ha:∀i,(a i).natAbs≤B) (hE:bnd as.length B B≤E) :
  ∃hs' as',Wit (λu=>A u∨u=a) B E hs' as'∧as'.length≤as.length+1:=by
   obtain ⟨x,xs,hx,hl,b1,b2,h0⟩:=W.rel (u:=a) (Nat.le_refl B) λh _=>ha h;have sp1:Sp A (comb xs as):=zhY W.mem;have up:∀u,Sp A u->Sp (λu=>A u∨u=a) u:=λu hu=>hu.mono λ_=> .inl;have hva:Sp (λu=>A u∨u=a) (λi=>x*a i+comb xs as i):=((Sp.mem (.inr rfl)).smul x).plus (up _ sp1);by_cases q:∃i,x*a i+comb xs as i≠0
   ·obtain ⟨i,hi⟩:=q;obtain ⟨c,_,hc,hc0⟩:=first (u:=λi=>x*a i+comb xs as i) hi;refine ⟨c::hs,a::as,⟨by simp [W.len],λb hb=> ?_,λb hb=> ?_,λu hu hv=> ?_,λh hh=> ?_,λys hy hys=> ?_⟩,by simp⟩
    ·rcases List.mem_cons.mp hb with rfl|hb
     ·exact .inr rfl
     ·exact .inl (W.mem b hb)
    ·rcases List.mem_cons.mp hb with rfl|hb
     ·exact ha
     ·exact W.bd b hb
    ·obtain ⟨w,y,hw,e⟩:=hu.split;have k1:∀i,x*w i-y*comb xs as i=0:=λi=>by have:=W.van _ (hw.lin x (-y) sp1) (λh hh=>by have e1:=e h;rw [hv h (List.mem_cons_of_mem _ hh)] at e1;have e2:=h0 h hh;grind) i;grind
     have k2:y=0:=by
      have e1:=e c;rw [hv c List.mem_cons_self] at e1;have e2:=k1 c;have e3:y*(x*a c+comb xs as c)=0:=by grind
      rcases Int.mul_eq_zero.mp e3 with z|z
      ·exact z
      ·exact (hc z).elim
     intro i;have e1:=e i;have e2:=k1 i;have e3:x*u i=0:=by grind
     exact (Int.mul_eq_zero.mp e3).resolve_left hx
    ·rcases List.mem_cons.mp hh with rfl|hh
     ·refine ⟨_,hva,hc0,hc,λi=> ?_⟩;have e1:=zjA (i:=i) b2 λb hb=>W.bd b hb i;have e2:(x*a i).natAbs≤(2*((as.length+1)*B)+1) ^ as.length*B:=by rw [Int.natAbs_mul];exact Nat.mul_le_mul b1 (ha i)
      unfold bnd at hE;rw [Nat.add_mul,Nat.one_mul] at hE;show (x*a i+comb xs as i).natAbs≤E;omega
     ·obtain ⟨v,q1,q2⟩:=W.hd h hh;exact ⟨v,up v q1,q2⟩
    ·match ys,hy with
      |y::ys,hy=>
       have k1:∀i,x*comb ys as i-y*comb xs as i=0:=λi=>by have:=W.van _ ((zhY (xs:=ys) W.mem).lin x (-y) sp1) (λh hh=>by have e1:=hys h;simp only [comb] at e1;have e2:=h0 h hh;grind) i;grind
       have k2:y=0:=by
        have e1:=hys c;simp only [comb] at e1;have e2:=k1 c;have e3:y*(x*a c+comb xs as c)=0:=by grind
        rcases Int.mul_eq_zero.mp e3 with z|z
        ·exact z
        ·exact (hc z).elim
       subst k2;have k3:=W.ind ys (by simpa using hy) λi=>by have:=hys i;simpa [comb] using this
       intro z hz;rcases List.mem_cons.mp hz with rfl|hz
       ·rfl
       ·exact k3 z hz
   ·have q:∀i,x*a i+comb xs as i=0:=λi=>Classical.byContradiction λz=>q ⟨i,z⟩;refine ⟨hs,as,⟨W.len,λb hb=> .inl (W.mem b hb),W.bd,λu hu hv=> ?_,λh hh=> ?_,W.ind⟩,by omega⟩
    ·obtain ⟨w,y,hw,e⟩:=hu.split;have k1:∀i,x*w i-y*comb xs as i=0:=λi=>by have:=W.van _ (hw.lin x (-y) sp1) (λh hh=>by have e1:=e h;rw [hv h hh] at e1;have e2:=h0 h hh;grind) i;grind
     intro i;have e1:=e i;have e2:=k1 i;have e3:=q i;have e4:x*u i=0:=by grind
     exact (Int.mul_eq_zero.mp e4).resolve_left hx
    ·obtain ⟨v,q1,q2⟩:=W.hd h hh;exact ⟨v,up v q1,q2⟩
theorem Wit.small {A:Vc->Prop} {B C E:Nat} {hs:List Nat} {as:List Vc} {u:Vc} (W:Wit A B E hs as) (hBC:B≤C) (hs_:Sp A u) (hu:∀h∈hs,(u h).natAbs≤C) (i:Nat):(u i).natAbs≤bnd as.length B C:=by
 obtain ⟨x,xs,hx,hl,b1,b2,h0⟩:=W.rel hBC hu;have k:=W.van _ ((hs_.smul x).plus (zhY (xs:=xs) W.mem)) h0 i;have e1:=zjA (i:=i) b2 λb hb=>W.bd b hb i;have e2:(x*u i).natAbs=(comb xs as i).natAbs:=by have k:x*u i+comb xs as i=0:=k;omega
 rw [Int.natAbs_mul] at e2;have e3:(u i).natAbs≤x.natAbs*(u i).natAbs:=Nat.le_mul_of_pos_left _ (Int.natAbs_pos.mpr hx);unfold bnd;rw [Nat.add_mul];omega
theorem Wit.head {A:Vc->Prop} {B E:Nat} {hs:List Nat} {as:List Vc} {u:Vc} {h:Nat} (W:Wit A B E hs as) (hu:Sp A u) (h0:∀i,i<h->u i=0) (h1:u h≠0):h∈hs:=by
 refine Classical.byContradiction λq=> ?_
 have hm:∃n,∀g∈hs,g<n:=by
  clear W q
  induction hs with
   |nil=>exact ⟨0,by simp⟩
   |cons g hs ih=>
    obtain ⟨n,hn⟩:=ih
    exact ⟨max n (g+1),λk hk=>by
     rcases List.mem_cons.mp hk with rfl|hk
     ·omega
     ·have:=hn k hk;omega⟩
 obtain ⟨n,hn⟩:=hm
 have main:∀(d t:Nat) (u:Vc),n-t=d->h<t->Sp A u->u h≠0->(∀g∈hs,g<t->u g=0)->False:=by
  intro d
  induction d with
   |zero=>exactλt u e _ hu h1 k=>h1 (W.van u hu (λg hg=>k g hg (by have:=hn g hg;omega)) h)
   |succ d ih=>
    intro t u e ht hu h1 k;by_cases z:t∈hs
    ·obtain ⟨v,v1,v2,v3,_⟩:=W.hd t z;refine ih (t+1) _ ↑0 ↑0 (hu.lin (v t) (-(u t)) v1) ?_ λg hg hgt=> ?_
     ·show v t*u h+ -u t*v h≠0;rw [v2 h ht];intro y;rcases Int.mul_eq_zero.mp (show v t*u h=0 by grind) with y|y
      ·exact v3 y
      ·exact h1 y
     ·show v t*u g+ -u t*v g=0;by_cases y:g=t;·subst y;grind
      ·rw [v2 g ↑0,k g hg ↑0];grind
    ·exact ih (t+1) u ↑0 ↑0 hu h1 λg hg hgt=>k g hg (by have:g≠t:=λy=>z (y ▸ hg);omega)
 exact main _ (h+1) u rfl ↑0 hu h1 λg hg hgt=>by
  by_cases y:g=h;·exact (q (y ▸ hg)).elim
  ·exact h0 g ↑0
end Lat
namespace L2
open PySem PySem.Spec PyProof.Rows
def whl {S:Type} (c:S->Bool) (f:S->S):Nat->S->S
 | 0,s=>s
 | n+1,s=>bif c s then whl c f n (f s) else s
theorem zmt {S:Type} {c:S->Bool} {f:S->S} {s:S} (h:c s=false):∀n,whl c f n s=s
 | 0=>rfl
 | n+1=>by rw [whl,h];rfl
theorem zq3 {S:Type} {c:S->Bool} {f:S->S} {s:S} (h:c s=true) (n:Nat):whl c f (n+1) s=whl c f n (f s):=by rw [whl,h];rfl
theorem zjI {S:Type} {c:S->Bool} {f:S->S} {I:S->Prop} {μ:S->Nat} (hs:∀s,I s->c s=true->I (f s)∧μ (f s)<μ s):∀ {n:Nat} {s:S},I s->μ s≤n->I (whl c f n s)∧c (whl c f n s)=false
 | 0,s,h,k=>⟨h,by show c s=false;cases q:c s with|false=>rfl|true=>have:=(hs s h q).2;omega⟩
 | n+1,s,h,k=>by cases q:c s with|false=>rw [zmt q];exact ⟨h,q⟩|true=>rw [zq3 q];exact zjI hs (hs s h q).1 (by have:=(hs s h q).2;omega)
section
variable {E:XS} {Γ:Ctx} {β:Type} {u:TS}
theorem zjL {S:Type} {tc:TT} {tb:TS} {s0:S} (G:S->Ctx) (fo:β->Oc) {kk:S->β} (c:S->Bool) (f:S->S) (I:S->Prop) (μ:S->Nat) (n:Nat) (w:Wk Γ (G s0)) (h0:I s0) (hn:μ s0≤n)
  (body:∀s,I s->EvT (G s) tc (c s)∧(c s=true->(I (f s)∧μ (f s)<μ s)∧Run E (G s) tb (.nx (G (f s)))))
  (k:∀s,s=whl c f n s0->I s->c s=false->Run E (G s) u (fo (kk s))):Run E Γ (zdI (zra tc tb) u) (fo (Let (whl c f n s0) kk)):=λF0 Hb F H σ own D a q=>by
   obtain ⟨i1,i2⟩:=zjI (n:=n) (λs hi hc=>((body s hi).2 hc).1) h0 hn;have kf:=k _ rfl i1 i2;refine ⟨λm σ H=>∃s F own,At F0 Hb F H σ own (G s)∧I s∧μ s=m∧∃j,μ s≤j∧whl c f j s=whl c f n s0,⟨_,s0,F,own,a.wk w,h0,rfl,n,hn,rfl⟩,?_⟩;rintro m σ1 H1 ⟨s,F1,own1,a1,hI,rfl,j,hj,ej⟩;obtain ⟨b1,b2⟩:=body s hI;refine b1 F0 Hb F1 H1 σ1 own1 _ a1 λF2 H2 g=> ?_
   cases e:c s with
    |false=>rw [if_neg Bool.false_ne_true];rw [zmt e] at ej;rw [←ej] at kf;exact kf F0 Hb F2 H2 σ1 own1 D (a1.grow g) (by rw [ej];exact q)
    |true=>
     rw [if_pos rfl];obtain ⟨⟨c1,c2⟩,c3⟩:=b2 e;refine ⟨λσ' H'=>∃F own,At F0 Hb F H' σ' own (G (f s)),λσ' H' ⟨F',own',a'⟩=>⟨_,c2,f s,F',own',a',c1,rfl,j-1,by omega,?_⟩,?_⟩;·rw [←ej,show j=(j-1)+1 by omega,zq3 e];simp
     ·exact c3 F0 Hb F2 H2 σ1 own1 _ (a1.grow g) λF' H' σ' own' a'=>⟨F',own',a'⟩
end
end L2
namespace Lat
noncomputable def vec (l:Ji):Vc:=λi=>l.getD i 0
noncomputable def hd:Ji->Nat
 | []=>0
 | x :: xs=>bif (!decide (x=0)) then 0 else hd xs+1
noncomputable def add (l s:Ji):Ji:=List.map (λ(x:Int×Int)=>x.1+x.2) (List.zip l s)
noncomputable def sub (l s:Ji):Ji:=List.map (λ(x:Int×Int)=>x.1-x.2) (List.zip l s)
noncomputable def mul (l:Ji) (c:Int):Ji:=List.map (λ(x:Int)=>x*c) l
theorem zbN {x:Int} {xs:Ji} {i:Nat}:vec (x::xs) (i+1)=vec xs i:=by simp [vec]
theorem zc6 {l:Ji} {i:Nat} (h:l.length≤i):vec l i=0:=by simp [vec,List.getD_eq_getElem?_getD,List.getElem?_eq_none h]
theorem zkA {l:Ji} {i:Nat} (h:i<l.length):vec l i∈l:=by simp only [vec,List.getD_eq_getElem?_getD,List.getElem?_eq_getElem h,Option.getD_some];exact List.getElem_mem h
theorem zh9 {l:Ji} {x:Int} (h:x∈l):∃i,i<l.length∧vec l i=x:=by obtain ⟨i,hi,e⟩:=List.getElem_of_mem h;exact ⟨i,hi,by simp [vec,List.getD_eq_getElem?_getD,List.getElem?_eq_getElem hi,e]⟩
theorem zqQ {l:Ji} {B:Nat} (h:∀x∈l,x.natAbs≤B) (i:Nat):(vec l i).natAbs≤B:=by
 by_cases q:i<l.length;·exact h _ (zkA q)
 ·rw [zc6 ↑0];exact Nat.zero_le _
theorem zod {l s:Ji} (h:l.length=s.length):(sub l s).length=l.length:=by simp [sub,h]
theorem zsg {l s:Ji} (h:l.length=s.length):(add l s).length=l.length:=by simp [add,h]
theorem zaW {l:Ji} {c:Int}:(mul l c).length=l.length:=by simp [mul]
theorem zli:∀ {l s:Ji} {i:Nat},l.length=s.length->vec (sub l s) i=vec l i-vec s i
 | [],[],i,_=>by simp [sub,vec]
 | x :: l,y :: s,0,_=>rfl
 | x :: l,y :: s,i+1,h=>by have:=zli (l:=l) (s:=s) (i:=i) (by simpa using h);rw [zbN,zbN,←this];exact zbN
theorem zo4:∀ {l s:Ji} {i:Nat},l.length=s.length->vec (add l s) i=vec l i+vec s i
 | [],[],i,_=>by simp [add,vec]
 | x :: l,y :: s,0,_=>rfl
 | x :: l,y :: s,i+1,h=>by have:=zo4 (l:=l) (s:=s) (i:=i) (by simpa using h);rw [zbN,zbN,←this];exact zbN
theorem zdt:∀ {l:Ji} {c:Int} {i:Nat},vec (mul l c) i=vec l i*c
 | [],c,i=>by simp [mul,vec]
 | x :: l,c,0=>rfl
 | x :: l,c,i+1=>by have:=zdt (l:=l) (c:=c) (i:=i);rw [zbN,←this];exact zbN
theorem ztA:∀ {l:Ji},hd l≤l.length
 | []=>Nat.le_refl 0
 | x :: xs=>by
  unfold hd;cases (!decide (x=0));·exact Nat.succ_le_succ ztA
  ·exact Nat.zero_le _
theorem zcj:∀ {l:Ji} {i:Nat},i<hd l->vec l i=0
 | [],i,h=>absurd h (Nat.not_lt_zero i)
 | x :: xs,i,h=>by
  unfold hd at h;by_cases q:x=0;·rw [show (!decide (x=0))=false by simp [q]] at h;have h:i<hd xs+1:=h;cases i with|zero=>exact q|succ i=>rw [zbN];exact zcj ↑0
  ·rw [show (!decide (x=0))=true by simp [q]] at h;exact absurd h (Nat.not_lt_zero i)
theorem zid:∀ {l:Ji},hd l<l.length->vec l (hd l)≠0
 | [],h=>absurd h (Nat.not_lt_zero _)
 | x :: xs,h=>by
  unfold hd at h ⊢;by_cases q:x=0;·rw [show (!decide (x=0))=false by simp [q]] at h ⊢;have h:hd xs+1<xs.length+1:=h;show vec (x::xs) (hd xs+1)≠0;rw [zbN];exact zid ↑0
  ·rw [show (!decide (x=0))=true by simp [q]];exact q
theorem zpW {l:Ji} {d:Nat} (h:vec l d≠0) (k:∀i,i<d->vec l i=0):hd l=d:=by
 have h1:¬hd l<d:=λq=>by have hl:d<l.length:=Nat.lt_of_not_le λz=>h (zc6 z);exact zid ↑0 (k _ q)
 have h2:¬d<hd l:=λq=>h (zcj q);omega
theorem zuz {l:Ji} {d:Nat} (hl:d≤l.length) (k:∀i,i<d->vec l i=0):d≤hd l:=by refine Nat.le_of_not_lt λq=> ?_;exact zid ↑0 (k _ q)
noncomputable def quo (l s:Ji):Int:=vec l (hd s)/vec s (hd s)
noncomputable def zlr (l s:Ji):Ji:=bif (!decide (quo l s=0)) then sub l (mul s (quo l s)) else l
noncomputable def low (l:Ji) (ss:Jq):Ji:=ss.foldl zlr l
theorem zi0 {l s:Ji} (h:l.length=s.length):(zlr l s).length=l.length:=by
 unfold zlr;cases (!decide (quo l s=0));·rfl
 ·show (sub l (mul s (quo l s))).length=_;rw [zod (by rw [zaW];exact h)]
theorem zhh {l s:Ji} (h:l.length=s.length) (i:Nat):vec (zlr l s) i=vec l i-vec s i*quo l s:=by
 unfold zlr;by_cases q:quo l s=0;·rw [show (!decide (quo l s=0))=false by simp [q],q];show vec l i=_;omega
 ·rw [show (!decide (quo l s=0))=true by simp [q]];show vec (sub l (mul s (quo l s))) i=_;rw [zli (by rw [zaW];exact h),zdt]
def Ech (n:Nat):Nat->Jq->Prop
 | _,[]=>True
 | lo,s :: ss=>s.length=n∧lo≤hd s∧hd s<n∧0<vec s (hd s)∧Ech n (hd s+1) ss
def SpL (ss:Jq):Vc->Prop:=Sp (λu=>∃s∈ss,u=vec s)
theorem Ech.mono {n:Nat}:∀ {ss:Jq} {lo lo':Nat},Ech n lo ss->lo'≤lo->Ech n lo' ss
 | [],_,_,_,_=>trivial
 | s :: ss,lo,lo',h,k=>⟨h.1,Nat.le_trans k h.2.1,h.2.2⟩
theorem Ech.mem {n:Nat}:∀ {ss:Jq} {lo:Nat},Ech n lo ss->∀t∈ss,t.length=n∧lo≤hd t∧hd t<n∧0<vec t (hd t)
 | [],_,_,t,h=>by simp at h
 | s :: ss,lo,h,t,ht=>by
  rcases List.mem_cons.mp ht with rfl|ht
  ·exact ⟨h.1,h.2.1,h.2.2.1,h.2.2.2.1⟩
  ·obtain ⟨a,b,c,d⟩:=Ech.mem h.2.2.2.2 t ht;have:=h.2.1;exact ⟨a,by omega,c,d⟩
theorem Ech.before {n lo i:Nat} {ss:Jq} (h:Ech n lo ss) (hi:i<lo):∀t∈ss,vec t i=0:=λt ht=>zcj (by have:=(h.mem t ht).2.1;omega)
theorem SpL.before {n lo i:Nat} {ss:Jq} {u:Vc} (h:Ech n lo ss) (hi:i<lo) (hu:SpL ss u):u i=0:=Sp.at0 (λa ⟨s,hs,e⟩=>by rw [e];exact h.before hi s hs) hu
theorem SpL.cons {s:Ji} {ss:Jq} {u:Vc} (h:SpL (s :: ss) u):∃w y,SpL ss w∧∀i,u i=w i+y*vec s i:=by
 have:Sp (λu=>(∃t∈ss,u=vec t)∨u=vec s) u:=Sp.mono (λa ⟨t,ht,e⟩=>by
  rcases List.mem_cons.mp ht with rfl|ht
  ·exact .inr e
  ·exact .inl ⟨t,ht,e⟩) h
 exact this.split
theorem SpL.mem {ss:Jq} {s:Ji} (h:s∈ss):SpL ss (vec s):=Sp.mem ⟨s,h,rfl⟩
theorem SpL.up {s:Ji} {ss:Jq} {u:Vc} (h:SpL ss u):SpL (s :: ss) u:=Sp.mono (λ_ ⟨t,ht,e⟩=>⟨t,List.mem_cons_of_mem _ ht,e⟩) h
theorem SpL.sub {ss tt:Jq} {u:Vc} (k:∀s∈ss,SpL tt (vec s)) (h:SpL ss u):SpL tt u:=Sp.sub (λ_ ⟨s,hs,e⟩=>e ▸ k s hs) h
theorem zjy {n:Nat}:∀ {ss:Jq} {lo:Nat} {u:Vc},Ech n lo ss->SpL ss u->(∀t∈ss,0≤u (hd t)∧u (hd t)<vec t (hd t))->∀i,u i=0
 | [],_,u,_,h,_,i=>Sp.at0 (λ_ ⟨_,z,_⟩=>by simp at z) h
 | s :: ss,lo,u,e,h,k,i=>by
  obtain ⟨w,y,hw,hu⟩:=h.cons;have e1:=SpL.before e.2.2.2.2 (Nat.lt_succ_self (hd s)) hw;have e2:=hu (hd s);have e3:=k s List.mem_cons_self;have e4:=e.2.2.2.1;rw [e1] at e2
  have y0:y=0:=by
   rw [e2,Int.zero_add] at e3;refine Classical.byContradiction λq=> ?_;rcases Int.lt_or_gt_of_ne q with q|q
   ·have:=Int.mul_neg_of_neg_of_pos q e4;omega
   ·have:=Int.mul_le_mul_of_nonneg_right (show (1:Int)≤y by omega) (Int.le_of_lt e4);omega
  have hu':∀i,u i=w i:=λi=>by rw [hu i,y0];omega
  have:u=w:=funext hu';subst this;exact zjy e.2.2.2.2 hw (λt ht=>k t ↑51) i
theorem zkE {n:Nat}:∀ {ss:Jq} {lo:Nat} {u:Vc} {t:Ji},Ech n lo ss->SpL ss u->t∈ss->(∀i,i<hd t->u i=0)->vec t (hd t)∣u (hd t)
 | [],_,_,t,_,_,h,_=>by simp at h
 | s :: ss,lo,u,t,e,h,ht,k=>by
  obtain ⟨w,y,hw,hu⟩:=h.cons;have e1:=SpL.before e.2.2.2.2 (Nat.lt_succ_self (hd s)) hw;rcases List.mem_cons.mp ht with rfl|ht
  ·rw [hu,e1];exact ⟨y,by grind⟩
  ·have e5:=(Ech.mem e.2.2.2.2 t ht).2.1;have e6:=hu (hd s);rw [k (hd s) ↑0,e1] at e6;have y0:y=0:=(Int.mul_eq_zero.mp (show y*vec s (hd s)=0 by omega)).resolve_right (by have:=e.2.2.2.1;omega);have:u=w:=funext λi=>by rw [hu i,y0];omega
   subst this;exact zkE e.2.2.2.2 hw ht k
theorem ziT {n:Nat}:∀ {ss:Jq} {lo:Nat} {u:Vc} {h:Nat},Ech n lo ss->SpL ss u->(∀i,i<h->u i=0)->u h≠0->∃t∈ss,hd t=h
 | [],_,u,h,_,hu,_,q=>(q (Sp.at0 (λ_ ⟨_,z,_⟩=>by simp at z) hu)).elim
 | s :: ss,lo,u,h,e,hu,k,q=>by
  obtain ⟨w,y,hw,hu⟩:=hu.cons;by_cases z:hd s=h;·exact ⟨s,List.mem_cons_self,z⟩
  ·have e1:=SpL.before e.2.2.2.2 (Nat.lt_succ_self (hd s)) hw;by_cases y0:y=0
   ·have:u=w:=funext λi=>by rw [hu i,y0];omega
    subst this;obtain ⟨t,ht,e⟩:=ziT e.2.2.2.2 hw k q;exact ⟨t,List.mem_cons_of_mem _ ht,e⟩
   ·have e6:=hu (hd s);rw [e1,Int.zero_add] at e6
    have e7:u (hd s)≠0:=by
     rw [e6];intro z;rcases Int.mul_eq_zero.mp z with z|z
     ·exact y0 z
     ·have:=e.2.2.2.1;omega
    have e8:h<hd s:=Nat.lt_of_not_le λz'=>e7 (k _ ↑0);have e9:w h=0:=SpL.before e.2.2.2.2 (Nat.lt_succ_of_lt e8) hw;rw [hu h,e9,zcj e8] at q;simp at q
theorem zc5 {n:Nat}:∀ {ss:Jq} {lo:Nat} {l:Ji},Ech n lo ss->l.length=n→(low l ss).length=n∧SpL ss (λi=>vec l i-vec (low l ss) i)∧(∀t∈ss,0≤vec (low l ss) (hd t)∧vec (low l ss) (hd t)<vec t (hd t))∧∀i,i<lo->vec (low l ss) i=vec l i
 | [],lo,l,_,h=>⟨h,Sp.zero.conv λi=>by show (0:Int)=vec l i-vec l i;omega,by simp,λ_ _=>rfl⟩
 | s :: ss,lo,l,e,h=>by
  have hl:l.length=s.length:=by rw [h,e.1]
  obtain ⟨a,b,c,d⟩:=zc5 (l:=zlr l s) e.2.2.2.2 (by rw [zi0 hl,h]);refine ⟨a,?_,λt ht=> ?_,λi hi=> ?_⟩;·refine ((SpL.up (s:=s) b).plus ((SpL.mem (ss:=s::ss) List.mem_cons_self).smul (quo l s))).conv λi=> ?_;rw [zhh hl];show vec l i-vec s i*quo l s-vec (low (zlr l s) ss) i+quo l s*vec s i=vec l i-vec (low (zlr l s) ss) i;rw [Int.mul_comm (quo l s)];omega
  ·rcases List.mem_cons.mp ht with rfl|ht
   ·show 0≤vec (low (zlr l t) ss) (hd t)∧vec (low (zlr l t) ss) (hd t)<_;rw [d (hd t) (Nat.lt_succ_self _),zhh hl];have p:=e.2.2.2.1;have e1:=Int.mul_ediv_add_emod (vec l (hd t)) (vec t (hd t));have e2:=Int.emod_nonneg (vec l (hd t)) (show vec t (hd t)≠0 by omega);have e3:=Int.emod_lt_of_pos (vec l (hd t)) p;unfold quo;omega
   ·exact c t ht
  ·show vec (low (zlr l s) ss) i=_;have:=e.2.1;rw [d i ↑0,zhh hl,zcj (show i<hd s by omega)];omega
end Lat
namespace Lat
abbrev G4:=Int×Int×Int×Int
noncomputable def cmC (s:G4):Bool:= !decide (s.2.1=(0:Int))
noncomputable def cmF (s:G4):G4:=(s.2.1,s.1-s.1/s.2.1*s.2.1,s.2.2.2,s.2.2.1-s.1/s.2.1*s.2.2.2)
structure GI (one other:Int) (s:G4):Prop where
 g:0<s.1
 m:0≤s.2.1
 gb:s.1≤one+other
 mb:s.2.1≤one+other
 tb:-other≤s.2.2.1∧s.2.2.1≤other
 lb:-other≤s.2.2.2∧s.2.2.2≤other
 sg:(0≤s.2.2.1∧s.2.2.2≤0∧s.2.1*s.2.2.1-s.1*s.2.2.2=other)∨(s.2.2.1≤0∧0≤s.2.2.2∧s.1*s.2.2.2-s.2.1*s.2.2.1=other)
 bg:∃ y,s.1=s.2.2.1*one+y*other
 bm:∃ y,s.2.1=s.2.2.2*one+y*other
 d1:∃ p q,one=p*s.1+q*s.2.1
 d2:∃ p q,other=p*s.1+q*s.2.1
theorem GI.start {one other:Int} (h1:0<one) (h2:0<other):GI one other (one,other,1,0) where
 g:=h1
 m:=by show 0≤other;omega
 gb:=by show one≤one+other;omega
 mb:=by show other≤one+other;omega
 tb:=by show -other≤1∧1≤other;omega
 lb:=by show -other≤0∧0≤other;omega
 sg:=.inl (by show (0:Int)≤1∧(0:Int)≤0∧other*1-one*0=other;omega)
 bg:=⟨0,by show one=1*one+0*other;omega⟩
 bm:=⟨1,by show other=0*one+1*other;omega⟩
 d1:=⟨1,0,by show one=1*one+0*other;omega⟩
 d2:=⟨0,1,by show other=0*one+1*other;omega⟩
theorem GI.step {one other:Int} {s:G4} (I:GI one other s) (hc:cmC s=true):GI one other (cmF s)∧(cmF s).2.1.toNat<s.2.1.toNat:=by
 obtain ⟨g,m,t,l⟩:=s;obtain ⟨h1,h2,h3,h4,h5,h6,h7,⟨y1,h8⟩,⟨y2,h9⟩,⟨p1,q1,hA⟩,⟨p2,q2,hB⟩⟩:=I;simp only at h1 h2 h3 h4 h5 h6 h7 h8 h9 hA hB;have hm:0<m:=by unfold cmC at hc;simp only [Bool.not_eq_true',decide_eq_false_iff_not] at hc;omega
 have e1:=Int.mul_ediv_add_emod g m;have e2:=Int.emod_nonneg g (show m≠0 by omega);have e3:=Int.emod_lt_of_pos g hm;have e4:0≤g/m:=Int.ediv_nonneg ↑0 ↑0;have e5:g-g/m*m=g%m:=by rw [Int.mul_comm];omega
 show GI one other (m,g-g/m*m,l,t-g/m*l)∧(g-g/m*m).toNat<m.toNat;rw [e5];generalize hq:g/m=q at*;generalize hr:g%m=r at*;have eg:g=m*q+r:=by omega
 have sg:(0≤l∧t-q*l≤0∧r*l-m*(t-q*l)=other)∨(l≤0∧0≤t-q*l∧m*(t-q*l)-r*l=other):=by
  rcases h7 with ⟨a,b,c⟩|⟨a,b,c⟩
  ·refine .inr ⟨b,?_,by grind⟩;have:=Int.mul_nonneg e4 (show (0:Int)≤ -l by omega);grind
  ·refine .inl ⟨b,?_,by grind⟩;have:=Int.mul_nonneg e4 b;omega
 have hl: -other≤t-q*l∧t-q*l≤other:=by
  rcases sg with ⟨a,b,c⟩|⟨a,b,c⟩
  ·have k1:=Int.mul_nonneg e2 a;have k2:=Int.mul_le_mul_of_nonneg_right (show (1:Int)≤m by omega) (show (0:Int)≤ -(t-q*l) by omega);have k3:m* -(t-q*l)= -(m*(t-q*l)):=by grind
   rw [k3] at k2;omega
  ·have k1:=Int.mul_nonneg e2 (show (0:Int)≤ -l by omega);have k2:=Int.mul_le_mul_of_nonneg_right (show (1:Int)≤m by omega) b;have k3:r* -l= -(r*l):=by grind
   rw [k3] at k1;omega
 refine ⟨⟨hm,e2,h4,by show r≤_;omega,h6,hl,sg,⟨y2,h9⟩,⟨y1-q*y2,?_⟩,⟨p1*q+q1,p1,?_⟩,⟨p2*q+q2,p2,?_⟩⟩,by omega⟩;·show r=(t-q*l)*one+(y1-q*y2)*other;grind
 ·show one=(p1*q+q1)*m+p1*r;grind
 ·show other=(p2*q+q2)*m+p2*r;grind
structure Cm (one other g x y:Int):Prop where
 pos:0<g
 le:g≤one+other
 xb:-other≤x∧x≤other
 eq:g=x*one+y*other
 d1:one/g*g=one
 d2:other/g*g=other
theorem GI.done {one other:Int} {s:G4} (h2:0<other) (I:GI one other s) (hc:cmC s=false):Cm one other s.1 s.2.2.1 ((s.1-s.2.2.1*one)/other):=by
 obtain ⟨g,m,t,l⟩:=s;obtain ⟨h1,_,h3,_,h5,_,_,⟨y1,h8⟩,_,⟨p1,q1,hA⟩,⟨p2,q2,hB⟩⟩:=I;simp only at h1 h3 h5 h8 hA hB;have hm:m=0:=by unfold cmC at hc;simpa using hc
 subst hm;have e:(g-t*one)/other=y1:=by rw [show g-t*one=y1*other by omega];exact Int.mul_ediv_cancel _ ↑0
 refine ⟨h1,h3,h5,?_,?_,?_⟩;·show g=t*one+(g-t*one)/other*other;rw [e];exact h8
 ·exact Int.ediv_mul_cancel ⟨p1,by show one=g*p1;rw [Int.mul_comm];omega⟩
 ·exact Int.ediv_mul_cancel ⟨p2,by show other=g*p2;rw [Int.mul_comm];omega⟩
noncomputable def mg1 (s l:Ji) (x y:Int):Ji:=add (mul s x) (mul l y)
noncomputable def mg2 (s l:Ji) (g:Int):Ji:=sub (mul l (vec s (hd s)/g)) (mul s (vec l (hd s)/g))
theorem zhR {s l:Ji} {x y:Int} (h:s.length=l.length) (i:Nat):vec (mg1 s l x y) i=x*vec s i+y*vec l i:=by unfold mg1;rw [zo4 (by rw [zaW,zaW,h]),zdt,zdt,Int.mul_comm,Int.mul_comm (vec l i)]
theorem zji {s l:Ji} {g:Int} (h:s.length=l.length) (i:Nat):vec (mg2 s l g) i=vec s (hd s)/g*vec l i-vec l (hd s)/g*vec s i:=by unfold mg2;rw [zli (by rw [zaW,zaW,h]),zdt,zdt,Int.mul_comm,Int.mul_comm (vec s i)]
theorem znY {s l:Ji} {x y:Int} (h:s.length=l.length):(mg1 s l x y).length=s.length:=by unfold mg1;rw [zsg (by rw [zaW,zaW,h]),zaW]
theorem zoV {s l:Ji} {g:Int} (h:s.length=l.length):(mg2 s l g).length=s.length:=by unfold mg2;rw [zod (by rw [zaW,zaW,h]),zaW,h]
theorem zpo {s l:Ji} {g x y:Int} (h:s.length=l.length) (C:Cm (vec s (hd s)) (vec l (hd s)) g x y) (i:Nat) :
  vec s i=vec s (hd s)/g*vec (mg1 s l x y) i-y*vec (mg2 s l g) i∧vec l i=vec l (hd s)/g*vec (mg1 s l x y) i+x*vec (mg2 s l g) i:=by
   rw [zhR h,zji h];have e1:=C.eq;have e2:=C.d1;have e3:=C.d2;have e4:=C.pos;generalize vec s (hd s)=a at*;generalize vec l (hd s)=b at*;generalize a/g=p at*;generalize b/g=q at*
   have u:x*p+y*q=1:=by
    have:(x*p+y*q-1)*g=0:=by grind
    rcases Int.mul_eq_zero.mp this with z|z<;>omega
   constructor<;>grind
noncomputable def upr (l:Ji):Ji:=bif decide (vec l (hd l)<(0:Int)) then mul l ↥3 else l
theorem zn6 {l:Ji}:(upr l).length=l.length:=by
 unfold upr;cases decide (vec l (hd l)<(0:Int));·rfl
 ·exact zaW
theorem zkN {l:Ji}:∃c:Int,c*c=1∧(∀i,vec (upr l) i=c*vec l i)∧0≤c*vec l (hd l):=by
 unfold upr;by_cases q:vec l (hd l)<0;·rw [show decide (vec l (hd l)<(0:Int))=true by simp [q]];exact ⟨-1,by decide,λi=>by show vec (mul l ↥3) i=_;rw [zdt];omega,by omega⟩
 ·rw [show decide (vec l (hd l)<(0:Int))=false by simp [q]];exact ⟨1,by decide,λi=>by show vec l i=_;omega,by omega⟩
theorem zrp {l:Ji} (h:hd l<l.length):hd (upr l)=hd l∧0<vec (upr l) (hd l):=by
 obtain ⟨c,c1,c2,c3⟩:=zkN (l:=l);have e:=zid h;have c0:c≠0:=by intro z;subst z;simp at c1
 have e1:c*vec l (hd l)≠0:=λz=>by
  rcases Int.mul_eq_zero.mp z with z|z
  ·exact c0 z
  ·exact e z
 refine ⟨zpW (by rw [c2];exact e1) λi hi=>by rw [c2,zcj hi];simp,by rw [c2];omega⟩
theorem zrq {l:Ji} {ss:Jq} (h:SpL ss (vec l)):SpL ss (vec (upr l)):=by obtain ⟨c,_,c2,_⟩:=zkN (l:=l);exact (Sp.smul c h).conv λi=>(c2 i).symm
theorem zoQ {l:Ji} {ss:Jq} (h:SpL ss (vec (upr l))):SpL ss (vec l):=by obtain ⟨c,c1,c2,_⟩:=zkN (l:=l);exact (Sp.smul c h).conv λi=>by rw [c2,←Int.mul_assoc,c1,Int.one_mul]
structure Mg where
 f:Int->Int->Int×Int×Int
 ok:∀ a b:Int,0<a->0<b->Cm a b (f a b).1 (f a b).2.1 (f a b).2.2
noncomputable def tin (M:Mg):Jq->Ji->Jq
 | [],l=>bif decide (hd l<l.length) then [upr l] else []
 | s :: ss,l=>bif decide (hd l<hd s) then upr l::s::ss else bif decide (hd l=hd s) then mg1 s l (M.f (vec s (hd s)) (vec l (hd s))).2.1 (M.f (vec s (hd s)) (vec l (hd s))).2.2::tin M ss (low (mg2 s l (M.f (vec s (hd s)) (vec l (hd s))).1) ss) else s::tin M ss l
theorem zhg (M:Mg) {n:Nat}:∀ {ss:Jq} {lo:Nat} {l:Ji},Ech n lo ss->l.length=n->(∀i,i<lo->vec l i=0)->(∀t∈ss,0≤vec l (hd t)∧vec l (hd t)<vec t (hd t))->lo≤n→Ech n lo (tin M ss l)∧(tin M ss l).length≤ss.length+1∧(∀t∈tin M ss l,SpL (l::ss) (vec t))∧(∀t∈l::ss,SpL (tin M ss l) (vec t))
 | [],lo,l,_,hl,h0,_,hlo=>by
  unfold tin;by_cases q:hd l<l.length
  ·rw [show decide (hd l<l.length)=true by simp [q],cond_true];obtain ⟨e1,e2⟩:=zrp q;refine ⟨⟨by rw [zn6,hl],by rw [e1];exact zuz ↑0 h0,by rw [e1];omega,by rw [e1];exact e2,trivial⟩,by simp,λt ht=> ?_,λt ht=> ?_⟩;·rw [List.mem_singleton.mp ht];exact zrq (SpL.mem List.mem_cons_self)
   ·rw [List.mem_singleton.mp ht];exact zoQ (SpL.mem List.mem_cons_self)
  ·rw [show decide (hd l<l.length)=false by simp [q],cond_false];have hz:hd l=l.length:=by have:=ztA (l:=l);omega
   refine ⟨trivial,by simp,by simp,λt ht=> ?_⟩;rw [List.mem_singleton.mp ht]
   exact Sp.zero.conv λi=>by
    by_cases z:i<l.length;·rw [zcj ↑0]
    ·rw [zc6 ↑0]
 | s :: ss,lo,l,e,hl,h0,hr,hlo=>by
  unfold tin;have hsl:s.length=l.length:=by rw [e.1,hl]
  by_cases q:hd l<hd s
  ·rw [show decide (hd l<hd s)=true by simp [q],cond_true];have hsn:=e.2.2.1;obtain ⟨e1,e2⟩:=zrp (l:=l) ↑0;refine ⟨⟨by rw [zn6,hl],by rw [e1];exact zuz ↑0 h0,by rw [e1];omega,by rw [e1];exact e2,e.1,by rw [e1];omega,e.2.2⟩,by simp,λt ht=> ?_,λt ht=> ?_⟩
   ·rcases List.mem_cons.mp ht with rfl|ht
    ·exact zrq (SpL.mem List.mem_cons_self)
    ·exact SpL.mem ↑51
   ·rcases List.mem_cons.mp ht with rfl|ht
    ·exact zoQ (SpL.mem List.mem_cons_self)
    ·exact SpL.mem ↑51
  ·rw [show decide (hd l<hd s)=false by simp [q],cond_false];by_cases z:hd l=hd s
   ·rw [show decide (hd l=hd s)=true by simp [z],cond_true];have hb:0<vec l (hd s):=by have:=(hr s List.mem_cons_self).1;have:=zid (l:=l) (by rw [z,hl];exact e.2.2.1);rw [z] at this;omega
    have C:=M.ok _ _ e.2.2.2.1 hb;generalize hg:(M.f (vec s (hd s)) (vec l (hd s))).1=g at*;generalize hx:(M.f (vec s (hd s)) (vec l (hd s))).2.1=x at*;generalize hy:(M.f (vec s (hd s)) (vec l (hd s))).2.2=y at*;have f0:∀i,i<hd s->vec (mg1 s l x y) i=0:=λi hi=>by rw [zhR hsl,zcj hi,zcj (show i<hd l by omega)];omega
    have f1:vec (mg1 s l x y) (hd s)=g:=by rw [zhR hsl];exact C.eq.symm
    have f2:hd (mg1 s l x y)=hd s:=zpW (by rw [f1];have:=C.pos;omega) f0
    have g0:∀i,i<hd s+1->vec (mg2 s l g) i=0:=λi hi=>by
     rw [zji hsl];by_cases zi:i=hd s;·subst zi;have:=C.d1;have:=C.d2;generalize vec s (hd s)/g=p at*;generalize vec l (hd s)/g=r at*;generalize vec s (hd s)=a at*;generalize vec l (hd s)=b at*;grind
     ·rw [zcj (show i<hd s by omega),zcj (show i<hd l by omega)];omega
    obtain ⟨k1,k2,k3,k4⟩:=zc5 (l:=mg2 s l g) e.2.2.2.2 (by rw [zoV hsl,e.1]);obtain ⟨i1,i2,i3,i4⟩:=zhg M (l:=low (mg2 s l g) ss) e.2.2.2.2 k1 (λi hi=>by rw [k4 i hi,g0 i hi]) k3 (by have:=e.2.2.1;omega);have low_in:∀ {tt:Jq},(∀t∈ss,SpL tt (vec t))->SpL tt (vec (mg2 s l g))->SpL tt (vec (low (mg2 s l g) ss)):=λh1 h2=>(Sp.lin 1 (-1) h2 (k2.sub h1)).conv λi=>by omega
    have low_out:∀ {tt:Jq},(∀t∈ss,SpL tt (vec t))->SpL tt (vec (low (mg2 s l g) ss))->SpL tt (vec (mg2 s l g)):=λh1 h2=>(Sp.plus h2 (k2.sub h1)).conv λi=>by omega
    have hS:SpL (l::s::ss) (vec s):=SpL.mem (List.mem_cons_of_mem _ List.mem_cons_self);have hL:SpL (l::s::ss) (vec l):=SpL.mem List.mem_cons_self;refine ⟨⟨by rw [znY hsl,e.1],by rw [f2];exact e.2.1,by rw [f2];exact e.2.2.1,by rw [f2,f1];exact C.pos,by rw [f2];exact i1⟩,by simp only [List.length_cons];omega,λt ht=> ?_,λt ht=> ?_⟩
    ·rcases List.mem_cons.mp ht with rfl|ht
     ·exact (Sp.lin x y hS hL).conv λi=>(zhR hsl i).symm
     ·refine (i3 t ht).sub λv hv=> ?_;rcases List.mem_cons.mp hv with rfl|hv
      ·refine low_in (λt ht=>SpL.mem (List.mem_cons_of_mem _ ↑51)) ((Sp.lin (vec s (hd s)/g) (-(vec l (hd s)/g)) hL hS).conv λi=> ?_);rw [zji hsl];grind
      ·exact SpL.mem (List.mem_cons_of_mem _ (List.mem_cons_of_mem _ hv))
    ·have u1:∀v∈low (mg2 s l g) ss::ss,SpL (mg1 s l x y::tin M ss (low (mg2 s l g) ss)) (vec v):=λv hv=>(i4 v hv).up;have u2:=low_out (λt ht=>u1 t ↑51) (u1 _ List.mem_cons_self);have u3:SpL (mg1 s l x y::tin M ss (low (mg2 s l g) ss)) (vec (mg1 s l x y)):=SpL.mem List.mem_cons_self;rcases List.mem_cons.mp ht with rfl|ht
     ·exact (Sp.lin (vec t (hd s)/g) x u3 u2).conv λi=>((zpo hsl C i).2).symm
     ·rcases List.mem_cons.mp ht with rfl|ht
      ·exact (Sp.lin (vec t (hd t)/g) (-y) u3 u2).conv λi=>by rw [(zpo hsl C i).1];grind
      ·exact u1 t ↑51
   ·rw [show decide (hd l=hd s)=false by simp [z],cond_false];obtain ⟨i1,i2,i3,i4⟩:=zhg M (l:=l) e.2.2.2.2 hl (λi hi=>zcj ↑0) (λt ht=>hr t ↑51) (by have:=e.2.2.1;omega);refine ⟨⟨e.1,e.2.1,e.2.2.1,e.2.2.2.1,i1⟩,by simp only [List.length_cons];omega,λt ht=> ?_,λt ht=> ?_⟩
    ·rcases List.mem_cons.mp ht with rfl|ht
     ·exact SpL.mem (List.mem_cons_of_mem _ List.mem_cons_self)
     ·refine (i3 t ht).sub λv hv=> ?_;rcases List.mem_cons.mp hv with rfl|hv
      ·exact SpL.mem List.mem_cons_self
      ·exact SpL.mem (List.mem_cons_of_mem _ (List.mem_cons_of_mem _ hv))
    ·rcases List.mem_cons.mp ht with rfl|ht
     ·exact (i4 t List.mem_cons_self).up
     ·rcases List.mem_cons.mp ht with rfl|ht
      ·exact SpL.mem List.mem_cons_self
      ·exact (i4 t ↑51).up
noncomputable def stl:Jq->Jq
 | []=>[]
 | s :: ss=>low s (stl ss)::stl ss
def Red:Jq->Prop
 | []=>True
 | s :: ss=>(∀t∈ss,0≤vec s (hd t)∧vec s (hd t)<vec t (hd t))∧Red ss
theorem zlV {n:Nat}:∀ {ss:Jq} {lo:Nat},Ech n lo ss->Ech n lo (stl ss)∧Red (stl ss)∧(stl ss).length=ss.length∧(∀t∈stl ss,SpL ss (vec t))∧∀t∈ss,SpL (stl ss) (vec t)
 | [],_,_=>⟨trivial,trivial,rfl,by simp [stl],by simp⟩
 | s :: ss,lo,e=>by
  obtain ⟨a,b,c,d,f⟩:=zlV e.2.2.2.2;obtain ⟨k1,k2,k3,k4⟩:=zc5 (l:=s) a e.1;have h1:hd (low s (stl ss))=hd s:=zpW (by rw [k4 _ (Nat.lt_succ_self _)];have:=e.2.2.2.1;omega) λi hi=>by rw [k4 _ ↑0,zcj hi]
  refine ⟨⟨k1,by rw [h1];exact e.2.1,by rw [h1];exact e.2.2.1,by rw [h1,k4 _ (Nat.lt_succ_self _)];exact e.2.2.2.1,by rw [h1];exact a⟩,⟨k3,b⟩,by simp [stl,c],λt ht=> ?_,λt ht=> ?_⟩
  ·rcases List.mem_cons.mp ht with rfl|ht
   ·exact (Sp.lin 1 (-1) (SpL.mem (ss:=s::ss) List.mem_cons_self) (k2.sub λv hv=>(d v hv).up)).conv λi=>by omega
   ·exact (d t ht).up
  ·rcases List.mem_cons.mp ht with rfl|ht
   ·exact (Sp.plus (SpL.mem (ss:=stl (t::ss)) (s:=low t (stl ss)) List.mem_cons_self) (k2.sub λv hv=>SpL.mem (List.mem_cons_of_mem _ hv))).conv λi=>by omega
   ·exact (f t ht).up
noncomputable def clm (M:Mg) (rows:Jq):Jq:=rows.foldl (λss r=>stl (tin M ss (low r ss))) []
structure Stairs (n:Nat) (rows ss:Jq):Prop where
 ech:Ech n 0 ss
 red:Red ss
 inn:∀ t∈ss,SpL rows (vec t)
 out:∀ r∈rows,SpL ss (vec r)
theorem Stairs.nil {n:Nat}:Stairs n [] []:=⟨trivial,trivial,by simp,by simp⟩
theorem Stairs.step {n:Nat} {rows ss:Jq} {r:Ji} (M:Mg) (h:Stairs n rows ss) (hr:r.length=n):Stairs n (rows++[r]) (stl (tin M ss (low r ss)))∧(stl (tin M ss (low r ss))).length≤ss.length+1:=by
 obtain ⟨k1,k2,k3,_⟩:=zc5 (l:=r) h.ech hr;obtain ⟨t1,t2,t3,t4⟩:=zhg M h.ech k1 (λi hi=>absurd hi (Nat.not_lt_zero i)) k3 (Nat.zero_le n);obtain ⟨s1,s2,s3,s4,s5⟩:=zlV t1;have inn:∀t∈ss,SpL (rows++[r]) (vec t):=λt ht=>(h.inn t ht).sub λv hv=>SpL.mem (List.mem_append_left _ hv);have hr':SpL (rows++[r]) (vec r):=SpL.mem (List.mem_append_right _ List.mem_cons_self);have f1:∀t∈low r ss::ss,SpL (stl (tin M ss (low r ss))) (vec t):=λt ht=>(t4 t ht).sub s5;refine ⟨⟨s1,s2,λt ht=>(s4 t ht).sub λv hv=>(t3 v hv).sub λw hw=> ?_,λt ht=> ?_⟩,by rw [s3];exact t2⟩
 ·rcases List.mem_cons.mp hw with rfl|hw
  ·exact (Sp.lin 1 (-1) hr' (k2.sub inn)).conv λi=>by omega
  ·exact inn w hw
 ·rcases List.mem_append.mp ht with ht|ht
  ·exact (h.out t ht).sub λv hv=>f1 v (List.mem_cons_of_mem _ hv)
  ·rw [List.mem_singleton.mp ht];exact (Sp.plus (f1 _ List.mem_cons_self) (k2.sub λv hv=>f1 v (List.mem_cons_of_mem _ hv))).conv λi=>by omega
end Lat
namespace Lat
theorem zom {n:Nat}:∀ {ss:Jq} {lo:Nat},Ech n lo ss->Red ss->∀t∈ss,∀t'∈ss,hd t'<hd t∨t=t'∨(0≤vec t (hd t')∧vec t (hd t')<vec t' (hd t'))
 | [],_,_,_,t,h,_,_=>by simp at h
 | s :: ss,lo,e,r,t,ht,t',ht'=>by
  rcases List.mem_cons.mp ht with h1|h1
  ·rcases List.mem_cons.mp ht' with h2|h2
   ·exact .inr (.inl (h1.trans h2.symm))
   ·rw [h1];exact .inr (.inr (r.1 t' h2))
  ·rcases List.mem_cons.mp ht' with h2|h2
   ·rw [h2];have:=(Ech.mem e.2.2.2.2 t h1).2.1;exact .inl ↑0
   ·exact zom e.2.2.2.2 r.2 t h1 t' h2
theorem zo7 {n:Nat}:∀ {ss:Jq} {lo:Nat},Ech n lo ss->lo≤n->ss.length+lo≤n
 | [],_,_,h=>by simpa using h
 | s :: ss,lo,e,h=>by have:=zo7 e.2.2.2.2 (by have:=e.2.2.1;omega);have:=e.2.1;simp only [List.length_cons];omega
abbrev Rw (rows:Jq):Vc->Prop:=λu=>∃r∈rows,u=vec r
theorem zmd {B E R:Nat} (hE:bnd R B B≤E):∀(k:Nat) (rows:Jq),rows.length=k->k≤R+1->(∀r∈rows,∀x∈r,x.natAbs≤B)->∃hs as,Wit (Rw rows) B E hs as∧as.length≤rows.length
 | 0,rows,h,_,_=>by rw [List.length_eq_zero_iff.mp h];refine ⟨[],[],?_,by simp⟩;have e:Rw []=λ_=>False:=funext λu=>propext ⟨λ⟨_,z,_⟩=>by simp at z,λz=>z.elim⟩;rw [e];exact Wit.nil
 | k+1,rows,h,hk,hb=>by
  have hne:rows≠[]:=by intro z;rw [z] at h;simp at h
  obtain ⟨rs,r,rfl⟩:∃rs r,rows=rs++[r]:=⟨rows.dropLast,rows.getLast hne,(List.dropLast_concat_getLast hne).symm⟩;have hl:rs.length=k:=by simpa using h
  obtain ⟨hs,as,W,h1⟩:=zmd hE k rs hl ↑0 λr hr=>hb r (List.mem_append_left _ hr);obtain ⟨hs',as',W',h2⟩:=W.step (a:=vec r) (λi=>zqQ (hb r (List.mem_append_right _ List.mem_cons_self)) i) (Nat.le_trans (zlO ↑0) hE);refine ⟨hs',as',?_,by simp only [List.length_append,List.length_singleton];omega⟩
  have e:Rw (rs++[r])=λu=>Rw rs u∨u=vec r:=funext λu=>propext ⟨λ⟨s,hs,e⟩=>by
   rcases List.mem_append.mp hs with z|z
   ·exact .inl ⟨s,z,e⟩
   ·rw [List.mem_singleton.mp z] at e;exact .inr e,λz=>by
   rcases z with ⟨s,hs,e⟩|z
   ·exact ⟨s,List.mem_append_left _ hs,e⟩
   ·exact ⟨r,List.mem_append_right _ List.mem_cons_self,z⟩⟩
  rw [e];exact W'
theorem Stairs.wit {n B E:Nat} {rows ss:Jq} {hs:List Nat} {as:List Vc} (h:Stairs n rows ss) (W:Wit (Rw rows) B E hs as) (hBE:B≤E):∀t∈ss,(vec t (hd t)).natAbs≤E∧∀i,(vec t i).natAbs≤bnd as.length B E:=by
 have hd1:∀t∈ss,(vec t (hd t)).natAbs≤E:=λt ht=>by obtain ⟨m1,m2,m3,m4⟩:=h.ech.mem t ht;obtain ⟨v,v1,v2,v3,v4⟩:=W.hd _ (W.head (h.inn t ht) (λi hi=>zcj hi) ↑0);have d:=zkE h.ech (v1.sub λa ⟨r,hr,e⟩=>e ▸ h.out r hr) ht v2;exact Nat.le_trans (Nat.le_of_dvd (Int.natAbs_pos.mpr v3) (Int.natAbs_dvd_natAbs.mpr d)) (v4 _)
 refineλt ht=>⟨hd1 t ht,λi=>W.small hBE (h.inn t ht) (λg hg=> ?_) i⟩;obtain ⟨v,v1,v2,v3,v4⟩:=W.hd g hg;obtain ⟨t',ht',rfl⟩:=ziT h.ech (v1.sub λa ⟨r,hr,e⟩=>e ▸ h.out r hr) v2 v3;rcases zom h.ech h.red t ht t' ht' with z|rfl|⟨z1,z2⟩
 ·rw [zcj z];exact Nat.zero_le _
 ·exact hd1 t ht
 ·have:=hd1 t' ht';omega
theorem zlz {k R b c:Nat} (hk:k≤R) (hR:R≤31) (hbc:b≤c):bnd k (2 ^ b) (2 ^ c)≤2 ^ ((c+7)*(R+1)):=by
 refine Nat.le_trans (zlO hk) ?_;unfold bnd;have h1:R+1≤2 ^ 5:=by omega
 have h2:2*((R+1)*2 ^ c)+1≤2 ^ (c+7):=by
  have e1:(R+1)*2 ^ c≤2 ^ 5*2 ^ c:=Nat.mul_le_mul_right _ h1;have e2:2 ^ (c+7)=4*(2 ^ 5*2 ^ c):=by rw [Nat.pow_add];omega
  have e3:0<2 ^ c:=Nat.pow_pos ↥1;omega
 calc
  (R+1)*((2*((R+1)*2 ^ c)+1) ^ R*2 ^ b)≤2 ^ 5*((2 ^ (c+7)) ^ R*2 ^ b):=Nat.mul_le_mul h1 (Nat.mul_le_mul_right _ (Nat.pow_le_pow_left h2 _))
  _=2 ^ (5+((c+7)*R+b)):=by rw [←Nat.pow_mul,←Nat.pow_add,←Nat.pow_add]
  _≤2 ^ ((c+7)*(R+1)):=Nat.pow_le_pow_right ↥1 (by rw [Nat.mul_add];omega)
def Bit (a:Nat) (l:Ji):Prop:=∀x∈l,x.natAbs≤2 ^ a
theorem Bit.vec {a:Nat} {l:Ji} (h:Bit a l) (i:Nat):(vec l i).natAbs≤2 ^ a:=zqQ h i
theorem Bit.of {a:Nat} {l:Ji} (h:∀i,(Lat.vec l i).natAbs≤2 ^ a):Bit a l:=λx hx=>by obtain ⟨i,_,rfl⟩:=zh9 hx;exact h i
theorem Bit.mono {a b:Nat} {l:Ji} (h:Bit a l) (k:a≤b):Bit b l:=λx hx=>Nat.le_trans (h x hx) (Nat.pow_le_pow_right ↥1 k)
noncomputable def eB (b R:Nat):Nat:=(b+7)*(R+1)
noncomputable def sB (b R:Nat):Nat:=(eB b R+7)*(R+1)
theorem Stairs.bits {n b R:Nat} {rows ss:Jq} (h:Stairs n rows ss) (hR:R≤31) (hr:rows.length≤R) (hb:∀r∈rows,Bit b r):∀t∈ss,(vec t (hd t)).natAbs≤2 ^ eB b R∧Bit (sB b R) t:=by
 obtain ⟨hs,as,W,hl⟩:=zmd (B:=2 ^ b) (E:=2 ^ eB b R) (R:=R) (zlz ↑8 hR ↑8) rows.length rows rfl ↑0 hb;have e:b≤eB b R:=by unfold eB;exact Nat.le_trans ↑0 (Nat.le_mul_of_pos_right _ (Nat.succ_pos R))
 refineλt ht=> ?_;obtain ⟨a1,a2⟩:=h.wit W (Nat.pow_le_pow_right ↥1 e) t ht;exact ⟨a1,Bit.of λi=>Nat.le_trans (a2 i) (zlz (Nat.le_trans hl hr) hR e)⟩
theorem zeu {x y a b:Nat} (h1:x≤2^a) (h2:y≤2^b):x*y≤2^(a+b):=by rw [Nat.pow_add];exact Nat.mul_le_mul h1 h2
theorem zhk {x d:Int} (_h:0<d):(x/d).natAbs≤x.natAbs:=by have:=Int.natAbs_ediv_le_natAbs x d;exact this
structure Sd (n s:Nat) (t:Ji):Prop where
 len:t.length=n
 hd:hd t<n
 pos:0<vec t (Lat.hd t)
 top:(vec t (Lat.hd t)).natAbs≤2^8980
 bit:Bit s t
theorem zqI {n s a:Nat} {l t:Ji} (T:Sd n s t) (hb:Bit a l):(quo l t).natAbs≤2 ^ a:=Nat.le_trans (zhk T.pos) (hb.vec _)
theorem zlD {n s a:Nat} {l t:Ji} (T:Sd n s t) (hl:l.length=n) (hb:Bit a l):Bit (a+(s+1)) (zlr l t):=Bit.of λi=>by
 rw [zhh (by rw [hl,T.len])];have e1:=hb.vec i;have e2:(vec t i*quo l t).natAbs≤2 ^ (s+a):=by rw [Int.natAbs_mul];exact zeu (T.bit.vec i) (zqI T hb)
 have e3:2 ^ a≤2 ^ (s+a):=Nat.pow_le_pow_right ↥1 ↑0;have e4:2 ^ (a+(s+1))=2 ^ (s+a)+2 ^ (s+a):=by rw [show a+(s+1)=(s+a)+1 by omega,Nat.pow_succ];omega
 omega
theorem zgw {n s:Nat}:∀ {ss:Jq} {a:Nat} {l:Ji},(∀t∈ss,Sd n s t)->l.length=n->Bit a l->Bit (a+ss.length*(s+1)) (low l ss)
 | [],a,l,_,_,h=>by simpa [low] using h
 | t :: ss,a,l,T,hl,h=>by have T1:=T t List.mem_cons_self;have:=zgw (ss:=ss) (λt ht=>T t ↑51) (by rw [zi0 (by rw [hl,T1.len]),hl]) (zlD T1 hl h);refine Bit.mono this ?_;rw [List.length_cons,Nat.succ_mul];omega
theorem Cm.bd {one other g x y:Int} (C:Cm one other g x y) (h2:0<other) (hy:y=(g-x*one)/other) {c:Nat} (b1:one.natAbs≤2 ^ c) (b2:other.natAbs≤2 ^ c):g.natAbs≤2 ^ (c+1)∧x.natAbs≤2 ^ c∧y.natAbs≤2 ^ (2*c+2):=by
 have e1:=C.le;have e2:=C.xb;have e3:=C.pos;have g1:g.natAbs≤2 ^ (c+1):=by rw [Nat.pow_succ];omega
 have x1:x.natAbs≤2 ^ c:=by omega
 refine ⟨g1,x1,?_⟩;rw [hy];refine Nat.le_trans (zhk h2) ?_;have e4:(x*one).natAbs≤2 ^ (c+c):=by rw [Int.natAbs_mul];exact zeu x1 b1
 have e5:2 ^ (c+1)≤2 ^ (c+c+1):=Nat.pow_le_pow_right ↥1 ↑0;have e6:2 ^ (2*c+2)=2 ^ (c+c+1)+2 ^ (c+c+1):=by rw [show 2*c+2=(c+c+1)+1 by omega,Nat.pow_succ];omega
 have e7:2 ^ (c+c)≤2 ^ (c+c+1):=Nat.pow_le_pow_right ↥1 ↑0;omega
theorem zgM {a g:Int} (hg:0<g) {c:Nat} (h:a.natAbs≤2^c):(a/g).natAbs≤2 ^ c:=Nat.le_trans (zhk hg) h
theorem zso {n s a:Nat} {l t:Ji} {g x y:Int} (T:Sd n s t) (hl:l.length=n) (hb:Bit a l) (C:Cm (vec t (hd t)) (vec l (hd t)) g x y) (hlt:vec l (hd t)<vec t (hd t)) (h0:0≤vec l (hd t)):Bit (a+(s+8982)) (mg2 t l g):=Bit.of λi=>by
 rw [zji (by rw [hl,T.len])];have e1:(vec t (hd t)/g*vec l i).natAbs≤2 ^ (8980+a):=by rw [Int.natAbs_mul];exact zeu (zgM C.pos T.top) (hb.vec i)
 have e2:(vec l (hd t)/g*vec t i).natAbs≤2 ^ (8980+s):=by rw [Int.natAbs_mul];exact zeu (zgM C.pos (by have:=T.top;omega)) (T.bit.vec i)
 have e3:2 ^ (8980+a)≤2 ^ (a+(s+8981)):=Nat.pow_le_pow_right ↥1 ↑0;have e4:2 ^ (8980+s)≤2 ^ (a+(s+8981)):=Nat.pow_le_pow_right ↥1 ↑0;have e5:2 ^ (a+(s+8982))=2 ^ (a+(s+8981))+2 ^ (a+(s+8981)):=by rw [show a+(s+8982)=(a+(s+8981))+1 by omega,Nat.pow_succ];omega
 omega
theorem zs1 {n s a:Nat} {l t:Ji} {x y:Int} (T:Sd n s t) (hl:l.length=n) (hb:Bit a l) (hx:x.natAbs≤2 ^ 8980) (hy:y.natAbs≤2 ^ 17962):Bit (a+(s+17964)) (mg1 t l x y):=Bit.of λi=>by
 rw [zhR (by rw [hl,T.len])];have e1:(x*vec t i).natAbs≤2 ^ (8980+s):=by rw [Int.natAbs_mul];exact zeu hx (T.bit.vec i)
 have e2:(y*vec l i).natAbs≤2 ^ (17962+a):=by rw [Int.natAbs_mul];exact zeu hy (hb.vec i)
 have e3:2 ^ (8980+s)≤2 ^ (a+(s+17963)):=Nat.pow_le_pow_right ↥1 ↑0;have e4:2 ^ (17962+a)≤2 ^ (a+(s+17963)):=Nat.pow_le_pow_right ↥1 ↑0;have e5:2 ^ (a+(s+17964))=2 ^ (a+(s+17963))+2 ^ (a+(s+17963)):=by rw [show a+(s+17964)=(a+(s+17963))+1 by omega,Nat.pow_succ];omega
 omega
theorem zn2 {a:Nat} {l:Ji} (h:Bit a l):Bit a (upr l):=by
 unfold upr;cases decide (vec l (hd l)<(0:Int));·exact h
 ·exact Bit.of λi=>by show (vec (mul l ↥3) i).natAbs≤_;rw [zdt];have:=h.vec i;omega
end Lat
namespace Lat
open L2
theorem zcf (l:Ji) (k:Nat):ixD l (k:Int)=vec l k:=by
 by_cases h:k<l.length;·rw [zpa (List.getElem?_eq_getElem h)];simp [vec,List.getD_eq_getElem?_getD,List.getElem?_eq_getElem h]
 ·rw [zc6 ↑0];unfold ixD atI ixN;rw [if_pos ↑0,if_neg ↑0];rfl
theorem zj8 {lo:Int} {n:Nat}:zdA lo (n+1)=lo::zdA (lo+1) n:=by
 unfold zdA;rw [List.range_succ_eq_map,List.map_cons,List.map_map];congr 1;·simp
 ·exact List.map_congr_left λi _=>by show lo+((i+1:Nat):Int)=lo+1+(i:Int);omega
noncomputable abbrev hdB:Unit->Int×Int->Unit⊕Int:=λ_ x=>bif (!decide (x.2=(0:Int))) then (Sum.inr x.1) else (Sum.inl ())
theorem zoG:∀(xs:Ji) (lo:Int),zpA (zcS hdB () ((zdA lo xs.length).zip xs)) (λ(_:Unit)=>lo+(xs.length:Int)) (λb=>b)=lo+(hd xs:Int)
 | [],lo=>rfl
 | x :: xs,lo=>by
  rw [List.length_cons,zj8,List.zip_cons_cons];unfold zcS hd
  cases q:(!decide (x=(0:Int))) with
   |true=>rw [show hdB () (lo,x)= .inr lo by unfold hdB;dsimp only;rw [q];rfl];show lo=lo+((0:Nat):Int);omega
   |false=>
    rw [show hdB () (lo,x)= .inl () by unfold hdB;dsimp only;rw [q];rfl];have:=zoG xs (lo+1);have e:(λ(_:Unit)=>lo+1+(xs.length:Int))=(λ(_:Unit)=>lo+((xs.length+1:Nat):Int)):=funext λ_=>by omega
    rw [e] at this;show zpA (zcS hdB () ((zdA (lo+1) xs.length).zip xs)) _ _=_;rw [this];show lo+1+(hd xs:Int)=lo+((hd xs+1:Nat):Int);omega
theorem zwp (xs:Ji):zpA (zcS hdB () (zeH xs)) (λ(_:Unit)=>((xs.length:Nat):Int)) (λb=>b)=(hd xs:Int):=by have:=zoG xs 0;simp only [Int.zero_add] at this;exact this
theorem zeS {α:Type} {xs:List α} {k:Nat}:zb9 xs (some (k:Int)) none=xs.drop k:=by
 unfold zb9;rw [HT.sIx_nat,HT.sIx_none];by_cases h:k≤xs.length;·rw [Nat.min_eq_left h,List.take_of_length_le (by rw [List.length_drop];omega)]
 ·rw [Nat.min_eq_right ↑0,List.drop_eq_nil_of_le ↑0,List.drop_eq_nil_of_le ↑0];simp
noncomputable def cmn (a b:Int):T3 Int Int Int:=Let (whl cmC cmF b.toNat (a,b,(1:Int),(0:Int))) (λ(r:G4)=>T3.mk r.1 r.2.2.1 ((r.1-(r.2.2.1*a))/b))
theorem zoL {a b:Int} (h1:0<a) (h2:0<b):Cm a b (cmn a b).a (cmn a b).b (cmn a b).c:=by obtain ⟨i1,i2⟩:=zjI (n:=b.toNat) (c:=cmC) (f:=cmF) (I:=GI a b) (μ:=λs=>s.2.1.toNat) (λs h c=>h.step c) (GI.start h1 h2) ↑8;exact i1.done h2 i2
theorem zv0 {a b:Int}:(cmn a b).c=((cmn a b).a-(cmn a b).b*a)/b:=rfl
noncomputable def MG:Mg:=⟨λa b=>((cmn a b).a,(cmn a b).b,(cmn a b).c),λ_ _ h1 h2=>zoL h1 h2⟩
noncomputable def mrg (s l:Ji):Ji×Ji:=(mg1 s l (cmn (vec s (hd s)) (vec l (hd s))).b (cmn (vec s (hd s)) (vec l (hd s))).c,mg2 s l (cmn (vec s (hd s)) (vec l (hd s))).a)
theorem zlQ {s:Ji} {ss:Jq} {l:Ji}:tin MG (s::ss) l=bif decide (hd l<hd s) then upr l::s::ss else bif decide (hd l=hd s) then (mrg s l).1::tin MG ss (low (mrg s l).2 ss) else s::tin MG ss l:=rfl
abbrev TS2:=Jq×Ji
noncomputable def znc (steps:Jq):TS2->Int×Ji->TS2⊕Jq:=λs x=>bif decide ((hd s.2:Int)<(hd x.2:Int)) then (Sum.inr ((s.1++[upr s.2])++(zb9 steps (some x.1) none))) else Let (bif decide ((hd s.2:Int)=(hd x.2:Int)) then (s.1++[(mrg x.2 s.2).1]) else (s.1++[x.2])) (λ(g:Jq)=>Let (bif decide ((hd s.2:Int)=(hd x.2:Int)) then (low ((mrg x.2 s.2).2) (zb9 steps (some (x.1+(1:Int))) none)) else s.2) (λ(l:Ji)=>Sum.inl (g,l)))
noncomputable abbrev zvc:TS2->Jq:=λr=>Let (bif decide ((hd r.2:Int)<((r.2.length:Nat):Int)) then (r.1++[upr r.2]) else r.1) (λ(g:Jq)=>g)
theorem zjj {steps:Jq}:∀(ss:Jq) (k:Nat) (g:Jq) (l:Ji),steps.drop k=ss->zpA (zcS (znc steps) (g,l) ((zdA (k:Int) ss.length).zip ss)) zvc (λb=>b)=g++tin MG ss l
 | [],k,g,l,_=>by
  show zvc (g,l)=_;unfold zvc Let tin;dsimp only;by_cases q:hd l<l.length;·rw [show decide ((hd l:Int)<((l.length:Nat):Int))=true by simp [q],show decide (hd l<l.length)=true by simp [q]];rfl
  ·rw [show decide ((hd l:Int)<((l.length:Nat):Int))=false by simpa using q,show decide (hd l<l.length)=false by simp [q]];simp
 | s :: ss,k,g,l,e=>by
  have e':steps.drop (k+1)=ss:=by rw [←List.drop_drop,e];rfl
  have e2:((k:Int)+(1:Int))=((k+1:Nat):Int):=by omega
  rw [List.length_cons,zj8,List.zip_cons_cons,zlQ];unfold zcS;by_cases q:hd l<hd s;·rw [show znc steps (g,l) ((k:Int),s)= .inr ((g++[upr l])++(s::ss)) by unfold znc;dsimp only;rw [show decide ((hd l:Int)<(hd s:Int))=true by simp [q],cond_true,zeS,e]];rw [show decide (hd l<hd s)=true by simp [q],cond_true];show (g++[upr l])++(s::ss)=_;simp
  ·rw [show decide (hd l<hd s)=false by simp [q],cond_false];have q':decide ((hd l:Int)<(hd s:Int))=false:=by simp;omega
   by_cases z:hd l=hd s;·rw [show znc steps (g,l) ((k:Int),s)= .inl (g++[(mrg s l).1],low (mrg s l).2 ss) by unfold znc Let;dsimp only;rw [q',show decide ((hd l:Int)=(hd s:Int))=true by simp [z],cond_false,cond_true,cond_true,e2,zeS,e']];rw [show decide (hd l=hd s)=true by simp [z],cond_true];show zpA (zcS (znc steps) _ ((zdA ((k:Int)+1) ss.length).zip ss)) _ _=_;rw [e2,zjj ss (k+1) _ _ e'];simp
   ·rw [show znc steps (g,l) ((k:Int),s)= .inl (g++[s],l) by unfold znc Let;dsimp only;rw [q',show decide ((hd l:Int)=(hd s:Int))=false by simp;omega,cond_false,cond_false,cond_false]];rw [show decide (hd l=hd s)=false by simp [z],cond_false];show zpA (zcS (znc steps) _ ((zdA ((k:Int)+1) ss.length).zip ss)) _ _=_;rw [e2,zjj ss (k+1) _ _ e'];simp
theorem zw1 (steps:Jq) (l:Ji):zpA (zcS (znc steps) ([],l) (zeH steps)) zvc (λb=>b)=tin MG steps l:=by have:=zjj (steps:=steps) steps 0 [] l rfl;simp only [List.nil_append] at this;exact this
theorem zwH:∀(ss:Jq),List.foldl (λ(s:Jq) (x:Ji)=>[low x s]++s) [] ss.reverse=stl ss
 | []=>rfl
 | s :: ss=>by rw [List.reverse_cons,List.foldl_append,zwH ss];rfl
theorem zlA:∀ {ss:Jq} {j:Nat},stl (ss.drop j)=(stl ss).drop j
 | [],j=>by simp [stl]
 | s :: ss,0=>rfl
 | s :: ss,j+1=>by rw [List.drop_succ_cons,zlA];rfl
theorem zew.of {x y:Int} {a b:Nat} (h1:x.natAbs≤2^a) (h2:y.natAbs≤2^b) (ha:a≤50000000) (hb:b≤50000000):zew x y :=
 .inr (.inr ⟨znH (k:=a+1) (by have:2 ^ a<2 ^ (a+1):=Nat.pow_lt_pow_right ↥1 (Nat.lt_succ_self a);omega) ↑0 ↑0,znH (k:=b+1) (by have:2 ^ b<2 ^ (b+1):=Nat.pow_lt_pow_right ↥1 (Nat.lt_succ_self b);omega) ↑0 ↑0⟩)
theorem zgC.of {x y:Int} {b:Nat} (h:0<y) (h2:y.natAbs≤2^b) (hb:b≤8990):zgC x y :=
 ⟨h,znH (k:=b+1) (by have:2 ^ b<2 ^ (b+1):=Nat.pow_lt_pow_right ↥1 (Nat.lt_succ_self b);omega) ↑0 ↑0⟩
def zls (a b:Int):Prop:=0<a∧0<b∧a.natAbs≤2 ^ 8980∧b.natAbs≤2 ^ 8980
section
variable {one other:Int} {s:G4}
theorem GI.gn (I:GI one other s) (h:zls one other):s.1.natAbs≤2 ^ 8981:=by have:=I.g;have:=I.gb;obtain ⟨h1,h2,h3,h4⟩:=h;rw [Nat.pow_succ];omega
theorem GI.mn (I:GI one other s) (h:zls one other):s.2.1.natAbs≤2 ^ 8981:=by have:=I.m;have:=I.mb;obtain ⟨h1,h2,h3,h4⟩:=h;rw [Nat.pow_succ];omega
theorem GI.tn (I:GI one other s) (h:zls one other):s.2.2.1.natAbs≤2 ^ 8980:=by have:=I.tb;obtain ⟨h1,h2,h3,h4⟩:=h;omega
theorem GI.ln (I:GI one other s) (h:zls one other):s.2.2.2.natAbs≤2 ^ 8980:=by have:=I.lb;obtain ⟨h1,h2,h3,h4⟩:=h;omega
theorem GI.pos (I:GI one other s) (hc:(!decide (s.2.1=(0:Int)))=true):0<s.2.1:=by have:=I.m;simp only [Bool.not_eq_true',decide_eq_false_iff_not] at hc;omega
theorem GI.div (I:GI one other s) (h:zls one other) (hc:(!decide (s.2.1=(0:Int)))=true):zgC s.1 s.2.1:=zgC.of (I.pos hc) (I.mn h) ↥1
theorem GI.mul1 (I:GI one other s) (h:zls one other) (hc:(!decide (s.2.1=(0:Int)))=true) {p:Int} (e:p=s.1/s.2.1):zew p s.2.1:=by subst e;exact zew.of (zgM (I.pos hc) (I.gn h)) (I.mn h) ↥1 ↥1
theorem GI.mul2 (I:GI one other s) (h:zls one other) (hc:(!decide (s.2.1=(0:Int)))=true) {p:Int} (e:p=s.1/s.2.1):zew p s.2.2.2:=by subst e;exact zew.of (zgM (I.pos hc) (I.gn h)) (I.ln h) ↥1 ↥1
theorem GI.mul3 (I:GI one other s) (h:zls one other):zew s.2.2.1 one:=zew.of (I.tn h) h.2.2.1 ↥1 ↥1
theorem zls.div (h:zls one other) {x:Int}:zgC x other:=zgC.of h.2.1 h.2.2.2 ↥1
end
def LowP (row:Ji) (steps:Jq):Prop:=∃n a s,n≤1000∧row.length=n∧steps.length≤1000∧Bit a row∧(∀t∈steps,Sd n s t)∧a+steps.length*(s+1)+s≤50000000
section
variable {n s a i:Nat} {l t:Ji} {h q:Int}
theorem zl2 (T:Sd n s t) (e:h=(hd t:Int)) (hl:l.length=n):InB l.length h:=by have:=T.hd;unfold InB;omega
theorem zrK (T:Sd n s t) (e:h=(hd t:Int)):zgC (ixD l h) (ixD t h):=by subst e;rw [zcf,zcf];exact zgC.of T.pos T.top ↥1
theorem zrw (T:Sd n s t) (e:h=(hd t:Int)) (hb:Bit a l) (eq:q=ixD l h/ixD t h) (ha:a+s≤50000000):∀y∈t,zew y q:=by subst e eq;rw [zcf,zcf];exactλy hy=>zew.of (T.bit y hy) (zqI T hb) ↑0 ↑0
theorem zsH (T:Sd n s t) (hl:l.length=n∧Bit (a+i*(s+1)) l) {y:Ji} (e:y=zlr l t):y.length=n∧Bit (a+(i+1)*(s+1)) y:=by subst e;refine ⟨by rw [zi0 (by rw [hl.1,T.len]),hl.1],(zlD T hl.1 hl.2).mono ?_⟩;rw [Nat.succ_mul];omega
theorem zrL {k i:Nat} (h:a+k*(s+1)+s≤50000000) (hi:i<k):a+i*(s+1)+s≤50000000:=by have:=Nat.mul_le_mul_right (s+1) (show i≤k by omega);omega
end
def MrgP (t l:Ji):Prop:=∃n a s,n≤1000∧Sd n s t∧l.length=n∧Bit a l∧0<vec l (hd t)∧vec l (hd t)<vec t (hd t)∧a+s≤40000000
section
variable {n s a:Nat} {l t:Ji} {h:Int}
theorem zpq (T:Sd n s t) (e:h=(hd t:Int)) (h0:0<vec l (hd t)) (h1:vec l (hd t)<vec t (hd t)):zls (ixD t h) (ixD l h):=by subst e;rw [zcf,zcf];exact ⟨T.pos,h0,T.top,by have:=T.top;omega⟩
theorem zq4 {x y:Int} (h:zls x y):0<(cmn x y).a∧(cmn x y).a.natAbs≤2 ^ 8981∧(cmn x y).b.natAbs≤2 ^ 8980∧(cmn x y).c.natAbs≤2 ^ 17962:=by have C:=zoL h.1 h.2.1;have:=C.bd h.2.1 zv0 h.2.2.1 h.2.2.2;exact ⟨C.pos,this⟩
theorem zjp {x:Int} {a b:Nat} {l:Ji} (h1:Bit a l) (h2:x.natAbs≤2^b) (ha:a≤50000000) (hb:b≤50000000):∀y∈l,zew y x:=λy hy=>zew.of (h1 y hy) h2 ha hb
end
def TinP (steps:Jq) (row:Ji):Prop:=∃n a s,n≤1000∧Ech n 0 steps∧(∀t∈steps,Sd n s t)∧row.length=n∧Bit a row∧steps.length≤100∧a+(steps.length+2)*↑50+s≤40000000
theorem zlH {n:Nat}:∀ {ss:Jq} {lo j:Nat},Ech n lo ss->Ech n lo (ss.drop j)
 | [],_,_,_=>by simp [Ech]
 | _ :: _,_,0,h=>h
 | s :: ss,lo,j+1,h=>by rw [List.drop_succ_cons];exact zlH (h.2.2.2.2.mono (by have:=h.2.1;omega))
section
variable {n s a i:Nat} {steps:Jq} {st:TS2} {x:Int×Ji}
structure TI (steps:Jq) (n a s i:Nat) (st:TS2):Prop where
 g:st.1.length≤i
 len:st.2.length=n
 bit:Bit (a+steps.length*(s+1)+i*↑50) st.2
 red:∀ t∈steps.drop i,0≤vec st.2 (hd t)∧vec st.2 (hd t)<vec t (hd t)
theorem TI.start {row:Ji} (e:Ech n 0 steps) (T:∀t∈steps,Sd n s t) (hl:row.length=n) (hb:Bit a row):TI steps n a s 0 ([],low row steps):=by obtain ⟨k1,k2,k3,k4⟩:=zc5 (l:=row) e hl;exact ⟨Nat.le_refl 0,k1,by simpa using zgw T hl hb,by simpa using k3⟩
theorem TI.mem (hx:i<steps.length∧x.1=(i:Int)∧steps[i]? =some x.2):x.2∈steps∧x.2∈steps.drop i∧steps.drop i=x.2::steps.drop (i+1):=by
 have e:steps.drop i=x.2::steps.drop (i+1):=by rw [List.drop_eq_getElem_cons hx.1];congr 1;have:=hx.2.2;rw [List.getElem?_eq_getElem hx.1] at this;exact Option.some.inj this
 exact ⟨List.mem_of_getElem? hx.2.2,by rw [e];exact List.mem_cons_self,e⟩
theorem TI.num (hi:i≤steps.length) (h:a+(steps.length+2)*↑50+s≤40000000):a+steps.length*(s+1)+i*↑50+(s+9000)≤40000000:=by have e1:i*↑50≤steps.length*↑50:=Nat.mul_le_mul_right _ hi;have e2:steps.length*(s+1)≤(steps.length+1)*(s+9000):=Nat.mul_le_mul ↑0 ↑0;have e3:s+9000≤(steps.length+1)*(s+9000):=Nat.le_mul_of_pos_left _ ↑0;rw [Nat.add_mul] at h;omega
theorem TI.mrg (I:TI steps n a s i st) (hn:n≤1000) (T:∀t∈steps,Sd n s t) (hx:i<steps.length∧x.1=(i:Int)∧steps[i]? =some x.2) (hh:hd st.2=hd x.2) (hN:a+(steps.length+2)*↑50+s≤40000000):MrgP x.2 st.2:=by obtain ⟨m1,m2,m3⟩:=TI.mem hx;have r:=I.red _ m2;have T1:=T _ m1;have ne:=zid (l:=st.2) (by rw [hh,I.len];exact T1.hd);rw [hh] at ne;exact ⟨n,_,s,hn,T1,I.len,I.bit,by omega,r.2,by have:=TI.num (Nat.le_of_lt hx.1) hN;omega⟩
theorem zlf {t l:Ji} {b:Nat} (T:Sd n s t) (hl:l.length=n) (hb:Bit b l) (h0:0<vec l (hd t)) (h1:vec l (hd t)<vec t (hd t)):(mrg t l).2.length=n∧Bit (b+(s+8982)) (mrg t l).2∧(mrg t l).1.length=n∧Bit (b+(s+17964)) (mrg t l).1:=by
 have e:t.length=l.length:=by rw [hl,T.len]
 have P:zls (vec t (hd t)) (vec l (hd t)):=⟨T.pos,h0,T.top,by have:=T.top;omega⟩;have C:=zq4 P;exact ⟨by rw [show (mrg t l).2=mg2 t l _ from rfl,zoV e,T.len],zso T hl hb (zoL T.pos h0) h1 ↑0,by rw [show (mrg t l).1=mg1 t l _ _ from rfl,znY e,T.len],zs1 T hl hb C.2.2.1 C.2.2.2⟩
theorem TI.low (I:TI steps n a s i st) (hn:n≤1000) (hk:steps.length≤100) (T:∀t∈steps,Sd n s t) (hx:i<steps.length∧x.1=(i:Int)∧steps[i]? =some x.2) (hh:hd st.2=hd x.2) (hN:a+(steps.length+2)*↑50+s≤40000000):LowP (Lat.mrg x.2 st.2).2 (zb9 steps (some (x.1+(1:Int))) none):=by obtain ⟨m1,m2,m3⟩:=TI.mem hx;have r:=I.red _ m2;have T1:=T _ m1;have ne:=zid (l:=st.2) (by rw [hh,I.len];exact T1.hd);rw [hh] at ne;obtain ⟨b1,b2,_⟩:=zlf T1 I.len I.bit ↑0 r.2;rw [hx.2.1,show ((i:Int)+(1:Int))=((i+1:Nat):Int) by omega,zeS];refine ⟨n,_,s,hn,b1,by rw [List.length_drop];omega,b2,λt ht=>T t (List.mem_of_mem_drop ht),?_⟩;have hp:(List.drop (i+1) steps).length*(s+1)≤steps.length*(s+9000):=Nat.mul_le_mul (by rw [List.length_drop];omega) ↑0;have hm:steps.length*(s+1)≤(steps.length+1)*(s+9000):=Nat.mul_le_mul ↑0 ↑0;have ho:i*↑50≤steps.length*↑50:=Nat.mul_le_mul_right _ ↑0;have hq:(steps.length+1)*(s+9000)=steps.length*(s+9000)+(s+9000):=Nat.succ_mul _ _;rw [Nat.add_mul steps.length 2] at hN;omega
theorem TI.step (I:TI steps n a s i st) (e:Ech n 0 steps) (T:∀t∈steps,Sd n s t) (hx:i<steps.length∧x.1=(i:Int)∧steps[i]? =some x.2) {st':TS2} (hf:znc steps st x= .inl st'):TI steps n a s (i+1) st':=by
 obtain ⟨m1,m2,m3⟩:=TI.mem hx;have r:=I.red _ m2;have T1:=T _ m1;have dd:∀t∈steps.drop (i+1),t∈steps.drop i:=λt ht=>by rw [m3];exact List.mem_cons_of_mem _ ht
 have mo:a+steps.length*(s+1)+i*↑50≤a+steps.length*(s+1)+(i+1)*↑50:=by have:=Nat.mul_le_mul_right ↑50 (show i≤i+1 by omega);omega
 unfold znc Let at hf;by_cases q:hd st.2<hd x.2;·rw [show decide ((hd st.2:Int)<(hd x.2:Int))=true by simp [q],cond_true] at hf;cases hf
 ·rw [show decide ((hd st.2:Int)<(hd x.2:Int))=false by simp;omega,cond_false] at hf;by_cases z:hd st.2=hd x.2;·rw [show decide ((hd st.2:Int)=(hd x.2:Int))=true by simp [z],cond_true,cond_true] at hf;cases hf;have ne:=zid (l:=st.2) (by rw [z,I.len];exact T1.hd);rw [z] at ne;obtain ⟨b1,b2,_⟩:=zlf T1 I.len I.bit ↑0 r.2;rw [hx.2.1,show ((i:Int)+(1:Int))=((i+1:Nat):Int) by omega,zeS];have ed:Ech n 0 (steps.drop (i+1)):=zlH e;obtain ⟨k1,k2,k3,k4⟩:=zc5 (l:=(Lat.mrg x.2 st.2).2) ed b1;refine ⟨by have:=I.g;simp;omega,k1,(zgw (λt ht=>T t (List.mem_of_mem_drop ht)) b1 b2).mono ?_,k3⟩;have e5:(List.drop (i+1) steps).length*(s+1)≤steps.length*(s+9000):=Nat.mul_le_mul (by rw [List.length_drop];omega) ↑0;rw [Nat.succ_mul i,Nat.add_mul steps.length 1];omega
  ·rw [show decide ((hd st.2:Int)=(hd x.2:Int))=false by simp;omega,cond_false,cond_false] at hf;cases hf;exact ⟨by have:=I.g;simp;omega,I.len,I.bit.mono mo,λt ht=>I.red t (dd t ht)⟩
end
theorem tin_bit {n s K:Nat}:∀ {ss:Jq} {lo a:Nat} {l:Ji},Ech n lo ss->(∀t∈ss,Sd n s t)->l.length=n->(∀t∈ss,0≤vec l (hd t)∧vec l (hd t)<vec t (hd t))->Bit a l->ss.length≤K→∀t∈tin MG ss l,Bit (a+ss.length*((K+1)*(s+9000))+s+18000) t
 | [],lo,a,l,_,_,_,_,hb,_,t,ht=>by unfold tin at ht;cases q:decide (hd l<l.length) with|true=>rw [q,cond_true] at ht;rw [List.mem_singleton.mp ht];exact (zn2 hb).mono ↑0|false=>rw [q,cond_false] at ht;simp at ht
 | s' :: ss,lo,a,l,e,T,hl,r,hb,hK,t,ht=>by
  have T1:=T s' List.mem_cons_self;have hS:∀t∈s'::ss,Bit (a+(s'::ss).length*((K+1)*(s+9000))+s+18000) t:=λt ht=>(T t ht).bit.mono ↑0;rw [zlQ] at ht
  cases q:decide (hd l<hd s') with
   |true=>
    rw [q,cond_true] at ht;rcases List.mem_cons.mp ht with rfl|ht
    ·exact (zn2 hb).mono ↑0
    ·exact hS t ht
   |false=>
    rw [q,cond_false] at ht;by_cases z:hd l=hd s'
    ·rw [show decide (hd l=hd s')=true by simp [z],cond_true] at ht;have ne:=zid (l:=l) (by rw [z,hl];exact T1.hd);rw [z] at ne;have r1:=r s' List.mem_cons_self;obtain ⟨b1,b2,b3,b4⟩:=zlf T1 hl hb ↑0 r1.2;rcases List.mem_cons.mp ht with rfl|ht
     ·exact b4.mono ↑0
     ·obtain ⟨k1,k2,k3,k4⟩:=zc5 (l:=(mrg s' l).2) e.2.2.2.2 b1;have:=tin_bit (K:=K) e.2.2.2.2 (λt ht=>T t ↑51) k1 k3 (zgw (λt ht=>T t ↑51) b1 b2) (by simp at hK;omega) t ht;refine this.mono ?_;have e5:ss.length*(s+1)≤K*(s+9000):=Nat.mul_le_mul (by simp at hK;omega) ↑0;rw [List.length_cons,Nat.succ_mul ss.length ((K+1)*(s+9000))];have e6:(K+1)*(s+9000)=K*(s+9000)+(s+9000):=Nat.succ_mul _ _;omega
    ·rw [show decide (hd l=hd s')=false by simp [z],cond_false] at ht;rcases List.mem_cons.mp ht with rfl|ht
     ·exact hS t List.mem_cons_self
     ·refine (tin_bit (K:=K) e.2.2.2.2 (λt ht=>T t ↑51) hl (λt ht=>r t ↑51) hb (by simp at hK;omega) t ht).mono ?_;have:ss.length*((K+1)*(s+9000))≤(s'::ss).length*((K+1)*(s+9000)):=Nat.mul_le_mul_right _ ↥4;omega
def zuy (steps:Jq):Prop:=steps.length≤1000∧∀j x,steps[j]? =some x->LowP x (stl (steps.drop (j+1)))
section
variable {steps fl:Jq} {i:Nat} {x:Ji}
theorem zk0 (hx:steps.reverse[i]? =some x):∃j,j+1+i=steps.length∧steps[j]? =some x∧steps.drop j=x::steps.drop (j+1):=by
 have hi:i<steps.reverse.length:=(List.getElem?_eq_some_iff.mp hx).1;rw [List.length_reverse] at hi;rw [List.getElem?_reverse hi] at hx;have hj:steps.length-1-i<steps.length:=by omega
 refine ⟨steps.length-1-i,by omega,hx,?_⟩;rw [List.getElem?_eq_getElem hj] at hx;rw [List.drop_eq_getElem_cons hj,Option.some.inj hx]
theorem zse (h:zuy steps) (hx:steps.reverse[i]? =some x) (e:fl=stl (steps.drop (steps.length-i))):LowP x fl:=by obtain ⟨j,h1,h2,h3⟩:=zk0 hx;rw [e,show steps.length-i=j+1 by omega];exact h.2 j x h2
theorem zsS (hx:steps.reverse[i]? =some x) (e:fl=stl (steps.drop (steps.length-i))) {y:Jq} (hy:y=[low x fl]++fl):y=stl (steps.drop (steps.length-(i+1))):=by obtain ⟨j,h1,h2,h3⟩:=zk0 hx;rw [hy,e,show steps.length-i=j+1 by omega,show steps.length-(i+1)=j by omega,h3];rfl
theorem zkI:∀ {ss:Jq},(stl ss).length=ss.length
 | []=>rfl
 | s :: ss=>by simp [stl,zkI]
theorem zuj (h:zuy steps) (hi:i<steps.length) (e:fl=stl (steps.drop (steps.length-i))):fl.length≤1000:=by rw [e,zkI,List.length_drop];have:=h.1;omega
end
def Fit (n b R:Nat):Prop:=n≤1000∧R≤31∧eB b R≤8980∧b+(min n R+2)*((min n R+1)*(sB b R+9000))+3*sB b R+18001+(min n R+1)*(sB b R+1)≤40000000
def zvR (rows:Jq):Prop:=∃n b R,Fit n b R∧rows.length≤R∧∀r∈rows,r.length=n∧Bit b r
section
variable {n b R i:Nat} {rows ss:Jq} {r:Ji}
theorem ziZ (hr:rows[i]?=some r):clm MG (rows.take (i+1))=stl (tin MG (clm MG (rows.take i)) (low r (clm MG (rows.take i)))):=by have hi:=(List.getElem?_eq_some_iff.mp hr).1;rw [List.take_succ_eq_append_getElem hi];unfold clm;rw [List.foldl_append];rw [List.getElem?_eq_getElem hi] at hr;rw [←Option.some.inj hr];rfl
theorem zii (h:∀r∈rows,r.length=n):Stairs n rows (clm MG rows)∧(clm MG rows).length≤rows.length:=by
 have:∀i,i≤rows.length->Stairs n (rows.take i) (clm MG (rows.take i))∧(clm MG (rows.take i)).length≤i:=by
  intro i
  induction i with
   |zero=>exactλ_=>⟨by simpa [clm] using Stairs.nil,by simp [clm]⟩
   |succ i ih=>intro hi;obtain ⟨s1,s2⟩:=ih ↑0;have e:rows[i]? =some rows[i]:=List.getElem?_eq_getElem ↑0;obtain ⟨t1,t2⟩:=s1.step MG (r:=rows[i]) (h _ (List.getElem_mem _));rw [ziZ e,List.take_succ_eq_append_getElem ↑0];exact ⟨t1,by omega⟩
 obtain ⟨t1,t2⟩:=this rows.length ↑8;rw [List.take_length] at t1 t2;exact ⟨t1,t2⟩
theorem zkn (F:Fit n b R) (hl:rows.length≤R) (h:∀r∈rows,r.length=n∧Bit b r):Stairs n rows (clm MG rows)∧(clm MG rows).length≤min n R∧∀t∈clm MG rows,Sd n (sB b R) t:=by
 obtain ⟨s1,s2⟩:=zii (rows:=rows) λr hr=>(h r hr).1;refine ⟨s1,?_,λt ht=> ?_⟩;·have:=zo7 s1.ech (Nat.zero_le n);omega
 ·obtain ⟨a1,a2,a3,a4⟩:=s1.ech.mem t ht;obtain ⟨b1,b2⟩:=s1.bits F.2.1 hl (λr hr=>(h r hr).2) t ht;exact ⟨a1,a3,a4,Nat.le_trans b1 (Nat.pow_le_pow_right ↥1 F.2.2.1),b2⟩
theorem zoq (F:Fit n b R) (hl:rows.length≤R) (h:∀r∈rows,r.length=n∧Bit b r) (hr:rows[i]?=some r) (e:ss=clm MG (rows.take i)):LowP r ss∧TinP ss r∧zuy (tin MG ss (low r ss)):=by
 subst e;have hi:=(List.getElem?_eq_some_iff.mp hr).1;have hrm:=h r (List.mem_of_getElem? hr);obtain ⟨s1,s2,s3⟩:=zkn F (rows:=rows.take i) (by rw [List.length_take];omega) λr hr=>h r (List.mem_of_mem_take hr);obtain ⟨t1,t2,t3⟩:=zkn F (rows:=rows.take (i+1)) (by rw [List.length_take];omega) λr hr=>h r (List.mem_of_mem_take hr);rw [ziZ hr] at t1 t2 t3;obtain ⟨f1,f2,f3,f4⟩:=F;generalize clm MG (rows.take i)=ss at*;generalize hs:sB b R=s at*;generalize hk:min n R=k at*;obtain ⟨k1,k2,k3,k4⟩:=zc5 (l:=r) s1.ech hrm.1;have m1:ss.length*(s+1)≤(k+1)*(s+1):=Nat.mul_le_mul_right _ ↑0;have m2:(ss.length+2)*((ss.length+1)*(s+9000))≤(k+2)*((k+1)*(s+9000)):=Nat.mul_le_mul ↑0 (Nat.mul_le_mul_right _ ↑0);have hk32:k≤31:=by omega
 refine ⟨⟨n,b,s,f1,hrm.1,by omega,hrm.2,s3,by omega⟩,⟨n,b,s,f1,s1.ech,s3,hrm.1,hrm.2,by omega,by omega⟩,?_,λj x hx=> ?_⟩;·rw [zkI] at t2;omega
 ·have hxm:=List.mem_of_getElem? hx;have g1:=tin_bit (K:=k) s1.ech s3 k1 k3 (zgw s3 hrm.1 hrm.2) s2 x hxm;obtain ⟨e1,_⟩:=zhg MG s1.ech k1 (λi hi=>absurd hi (Nat.not_lt_zero i)) k3 (Nat.zero_le n);rw [zlA];refine ⟨n,_,s,f1,(e1.mem x hxm).1,by rw [List.length_drop];omega,g1,λt ht=>t3 t (List.mem_of_mem_drop ht),?_⟩;have m3:(List.drop (j+1) (stl (tin MG ss (low r ss)))).length*(s+1)≤(k+1)*(s+1):=Nat.mul_le_mul_right _ (by rw [List.length_drop];omega);have m4:ss.length*((k+1)*(s+9000))≤k*((k+1)*(s+9000)):=Nat.mul_le_mul_right _ s2;have m5:(k+1)*(s+1)≤(k+1)*(s+9000):=Nat.mul_le_mul_left _ ↑0;rw [Nat.add_mul k 2] at f4;omega
end
end Lat
namespace L2
open PySem PySem.Spec PyProof.Rows
section
variable {X:Cx} {K:W.Frag}
end
section
variable {E:XS} {Γ:Ctx} {te tj:TE} {u:TS} {o:Oc} {m:Bool} {K:W.Frag} {i j:Nat} {α β:Type} {f:α->Ds}
end
section
variable {E:XS} {Γ:Ctx} {u:TS} {o:Oc} {K:W.Frag} {i j:Nat}
end
end L2
namespace L2
open PySem PySem.Spec PyProof.Rows
end L2
namespace Lat
open L2
theorem zhj {α:Type} {xs:List α} {i:Int} {x y:α} (h:y∈zcZ xs i x):y=x∨y∈xs:=by
 unfold zcZ at h;split at h
 ·rcases List.mem_or_eq_of_mem_set h with h|h
  ·exact .inr h
  ·exact .inl h
 ·exact .inr h
theorem zlT {α β:Type} (g:α->β):∀(xs:List α) (acc:List β),List.foldl (λs x=>s++[g x]) acc xs=acc++xs.map g
 | [],acc=>by simp
 | x :: xs,acc=>by rw [List.foldl_cons,zlT g xs];simp
theorem zhP {n:Nat} (h:n≤24):Fit n 200 13:=by
 unfold Fit;have e1:eB 200 13=2898:=rfl;have e2:sB 200 13=40670:=rfl;rw [e1,e2];refine ⟨by omega,by decide,by decide,?_⟩;have hk:min n 13≤13:=by omega
 generalize min n 13=k at*;have m1:(k+2)*((k+1)*(40670+9000))≤15*(14*(40670+9000)):=Nat.mul_le_mul ↑0 (Nat.mul_le_mul_right _ ↑0);have m2:(k+1)*(40670+1)≤14*(40670+1):=Nat.mul_le_mul_right _ ↑0;omega
end Lat
namespace Lat
theorem Sp.image {A B:Vc->Prop} {g:Vc->Vc} {u:Vc} (h0:∀i,g (λ_=>0) i=0) (hl:∀(u a:Vc) (x:Int) i,g (λi=>u i+x*a i) i=g u i+x*g a i) (hA:∀a,A a->Sp B (g a)) (h:Sp A u):Sp B (g u):=by induction h with|zero=>exact Sp.zero.conv λi=>(h0 i).symm| @ add u a z _ ha ih=>exact (ih.plus ((hA a ha).smul z)).conv λi=>(hl u a z i).symm
theorem zdE {l:Ji} {n i:Nat}:vec (l.take n) i=if i<n then vec l i else 0:=by unfold vec;rw [List.getD_eq_getElem?_getD,List.getD_eq_getElem?_getD,List.getElem?_take];split<;>rfl
theorem zfj {l t:Ji} {i:Nat}:vec (l++t) i=if i<l.length then vec l i else vec t (i-l.length):=by unfold vec;rw [List.getD_eq_getElem?_getD,List.getD_eq_getElem?_getD,List.getD_eq_getElem?_getD,List.getElem?_append];split<;>rfl
theorem zla {l:Ji} {n:Nat} (h:hd l<n) (hl:hd l<l.length):hd (l.take n)=hd l:=zpW (by rw [zdE,if_pos h];exact zid hl) λi hi=>by
 rw [zdE];split;·exact zcj hi
 ·rfl
noncomputable def zov (n:Nat) (ss:Jq):Jq:=List.map (λ(x:Ji)=>x.take n) (List.filter (λ(x:Ji)=>decide (hd x<n)) ss)
theorem zjK {n m:Nat} (hnm:n≤m):∀ {ss:Jq} {lo:Nat},Ech m lo ss->Ech n lo (zov n ss)
 | [],_,_=>trivial
 | s :: ss,lo,e=>by
  unfold zov;by_cases q:hd s<n;·rw [List.filter_cons_of_pos (by simpa using q),List.map_cons];have hl:=e.1;have e1:=zla q (by rw [hl];exact e.2.2.1);refine ⟨by rw [List.length_take,hl];omega,by rw [e1];exact e.2.1,by rw [e1];exact q,by rw [e1,zdE,if_pos q];exact e.2.2.2.1,?_⟩;rw [e1];exact zjK hnm e.2.2.2.2
  ·rw [List.filter_cons_of_neg (by simpa using q)];exact (zjK hnm e.2.2.2.2).mono (by have:=e.2.1;omega)
theorem zi4 {n:Nat} {ss:Jq} {t:Ji} (h:t∈zov n ss):∃s∈ss,hd s<n∧t=s.take n:=by unfold zov at h;obtain ⟨s,hs,rfl⟩:=List.mem_map.mp h;obtain ⟨h1,h2⟩:=List.mem_filter.mp hs;exact ⟨s,h1,by simpa using h2,rfl⟩
theorem zi1 {n m:Nat} (hnm:n≤m):∀ {ss:Jq} {lo:Nat},Ech m lo ss->Red ss->Red (zov n ss)
 | [],_,_,_=>trivial
 | s :: ss,lo,e,r=>by
  unfold zov;by_cases q:hd s<n;·rw [List.filter_cons_of_pos (by simpa using q),List.map_cons];refine ⟨λt ht=> ?_,zi1 hnm e.2.2.2.2 r.2⟩;obtain ⟨x,hx,h1,rfl⟩:=zi4 ht;have ex:=Ech.mem e.2.2.2.2 x hx;rw [zla h1 (by rw [ex.1];exact ex.2.2.1),zdE,zdE,if_pos h1,if_pos h1];exact r.1 x hx
  ·rw [List.filter_cons_of_neg (by simpa using q)];exact zi1 hnm e.2.2.2.2 r.2
noncomputable abbrev rst (n:Nat) (u:Vc):Vc:=λi=>if i<n then u i else 0
theorem zgk {n:Nat} {l:Ji}:rst n (vec l)=vec (l.take n):=funext λi=>by rw [zdE]
theorem zjw {n:Nat} (u a:Vc) (x:Int) (i:Nat):rst n (λi=>u i+x*a i) i=rst n u i+x*rst n a i:=by unfold rst;dsimp only;split<;>omega
theorem Stairs.cut {n m:Nat} {rows marked ss:Jq} (hnm:n≤m) (h:Stairs m marked ss) (k:∀r∈marked,∃r'∈rows,r.take n=r') (k':∀r'∈rows,∃r∈marked,r.take n=r'):Stairs n rows (zov n ss):=by
 refine ⟨zjK hnm h.ech,zi1 hnm h.ech h.red,λt ht=> ?_,λr' hr'=> ?_⟩;·obtain ⟨s,hs,_,rfl⟩:=zi4 ht;rw [←zgk];refine Sp.image (g:=rst n) (λi=>by unfold rst;split<;>rfl) zjw (λa ⟨r,hr,e⟩=> ?_) (h.inn s hs);obtain ⟨r',hr',e'⟩:=k r hr;rw [e,zgk,e'];exact SpL.mem hr'
 ·obtain ⟨r,hr,rfl⟩:=k' r' hr';rw [←zgk];refine Sp.image (g:=rst n) (λi=>by unfold rst;split<;>rfl) zjw (λa ⟨s,hs,e⟩=> ?_) (h.out r hr);rw [e,zgk];by_cases q:hd s<n;·refine SpL.mem ?_;unfold zov;exact List.mem_map.mpr ⟨s,List.mem_filter.mpr ⟨hs,by simpa using q⟩,rfl⟩
  ·exact Sp.zero.conv λi=>by
    rw [zdE];split;·rw [zcj ↑0]
    ·rfl
def Led (n k:Nat) (rows:Jq) (u:Vc):Prop:=∀j,j<n->u j=comb (List.map (λi=>u (n+i)) (List.range k)) (rows.map vec) j
theorem Led.sp {n k:Nat} {rows:Jq} {A:Vc->Prop} {u:Vc} (hk:rows.length=k) (hA:∀a,A a->Led n k rows a) (h:Sp A u):Led n k rows u:=by
 induction h with
  |zero=>intro j _;have:=zhX (xs:=List.map (λi=>(0:Int)) (List.range k)) (as:=rows.map vec) 0 j;rw [List.map_map] at this;have e:(List.map ((λx=>(0:Int)*x)∘λ(i:Nat)=>(0:Int)) (List.range k))=List.map (λ_=>(0:Int)) (List.range k):=List.map_congr_left λ_ _=>rfl;rw [e] at this;show (0:Int)=comb (List.map (λ(_:Nat)=>(0:Int)) (List.range k)) (rows.map vec) j;omega
  | @ add u a z _ ha ih=>
   intro j hj;have e1:=ih j hj;have e2:=hA a ha j hj
   have e3:∀(xs:List Nat) (as:List Vc),comb (List.map (λi=>u (n+i)+z*a (n+i)) xs) as j=comb (List.map (λi=>u (n+i)) xs) as j+z*comb (List.map (λi=>a (n+i)) xs) as j:=by
    intro xs
    induction xs with
     |nil=>intro as;simp [comb]
     |cons x xs ihx=>intro as;match as with|[]=>simp [comb]|b::as=>simp only [List.map_cons,comb,ihx as];grind
   show u j+z*a j=comb (List.map (λi=>u (n+i)+z*a (n+i)) (List.range k)) (rows.map vec) j;rw [e3,←e1,←e2]
end Lat
namespace L2
open PySem PySem.Spec PyProof.Rows
theorem zpF {Γ:Ctx} {ds:List Ds} {tr:TA} {E:XK} {ι:Type} {C:Addr} {args:ι->List Ds} {pre:ι->Prop} {fs:ι->List (Str×Ds)} (i:ι) (h:EvA Γ tr true ds) (ha:ds=args i) (hp:pre i):Ev Γ (znk C (zox C args pre false fs) [] E tr) true (dO C (fs i)):=λF0 Hb F H σ own Q a k=>by
 subst ha;refine h F0 Hb F H σ own _ a λvs F1 H1 g1 q1 p dx h1 h2 h3=>⟨i,p,dx,vs,H1,off F1 Hb,by rw [List.append_nil],h1,h2,h3,rfl,zkO.trans g1.fh,q1,hp,λus F' H' g n1 n2 e1 e2 e3=>⟨rfl,?_⟩⟩;have hb1:Same Hb H1:=a.g.h.trans g1.h
 have nb:∀b o,F' b=some o->Hb b=none:=λb o z=>by
  cases w:Hb b with
   |none=>rfl
   |some o'=>
    have:off F1 Hb b=none:=by unfold off;rw [w]
    have:=g.no b (by rw [hb1 _ _ w];simp) this;rw [this] at z;cases z
 have gW:Grow F1 H1 (λb=>match F1 b with|some o=>some o|none=>F' b) H':=by
  refine ⟨λb o z=>by show (match F1 b with|some o=>some o|none=>F' b)=some o;rw [z],λb o z=> ?_,g.h,λb z1 z2=> ?_⟩;·have z:(match F1 b with|some o=>some o|none=>F' b)=some o:=z;cases w:F1 b with|some o'=>rw [w] at z;cases z;exact g.h _ _ (g1.fh _ _ w)|none=>rw [w] at z;exact g.fh _ _ z
  ·show (match F1 b with|some o=>some o|none=>F' b)=none;rw [z2];exact g.no b z1 (by unfold off;cases Hb b<;>first|rfl|exact z2)
 have sW:Same F' (off (λb=>match F1 b with|some o=>some o|none=>F' b) Hb):=λb o z=>by refine zdW.mpr ⟨nb b o z,?_⟩;show (match F1 b with|some o=>some o|none=>F' b)=some o;cases w:F1 b with|none=>exact z|some o'=>have u1:=g.h _ _ (g1.fh _ _ w);have u2:=g.fh _ _ z;rw [u1] at u2;exact u2
 have g2:=g1.trans gW;obtain ⟨p0,_,pb⟩:=a.free g1 h1;obtain ⟨d0,_,db⟩:=a.free g1 h2;have np:(λb=>match F1 b with|some o=>some o|none=>F' b) p=none:=by show (match F1 p with|some o=>some o|none=>F' p)=none;rw [g1.fh.free h1];exact n1
 have nd:(λb=>match F1 b with|some o=>some o|none=>F' b) dx=none:=by show (match F1 dx with|some o=>some o|none=>F' dx)=none;rw [g1.fh.free h2];exact n2
 have g3:=(g2.take p0 e1).take d0 e2;have s1:=Same.new (H:=λb=>match F1 b with|some o=>some o|none=>F' b) (p:=p) np (.ins C dx us);have n3:upd (λb=>match F1 b with|some o=>some o|none=>F' b) p (.ins C dx us) dx=none:=by rw [zam h3];exact nd
 have s2:=s1.trans (Same.new n3 (.own p));refine k _ _ _ g3 ⟨p,dx,us,rfl,zdZ pb (by rw [zam (Ne.symm h3)];exact zat),zdZ db zat,?_⟩;exact zbD (λ_ b q=>⟨q.1,b.2.up (sW.trans (zqW s2)) q.2⟩) e3
end L2
namespace Lat
open L2
noncomputable def znd (k:Nat) (i:Int):Ji:=zcZ (zdM (k:Int) [(0:Int)]) i (1:Int)
noncomputable def mark (rows:Jq):Jq:=List.map (λ(x:Int×Ji)=>x.2++znd rows.length x.1) (zeH rows)
theorem ze1 {k:Nat}:(zdM (k:Int) [(0:Int)]).length=k:=by unfold zdM;simp
theorem zmh {k:Nat} {i:Int}:(znd k i).length=k:=by unfold znd;rw [zeN,ze1]
theorem ziU {k j:Nat}:vec (zdM (k:Int) [(0:Int)]) j=0:=by
 by_cases h:j<(zdM (k:Int) [(0:Int)]).length;·have:=zkA h;unfold zdM at this;obtain ⟨l,h1,h2⟩:=List.mem_flatten.mp this;rw [(List.mem_replicate.mp h1).2] at h2;exact List.mem_singleton.mp h2
 ·exact zc6 ↑0
theorem zpC {k i j:Nat} (h:i<k):vec (znd k (i:Int)) j=if j=i then 1 else 0:=by
 unfold znd zcZ ixN;rw [if_pos ↑0,ze1,if_pos ↑0];show vec ((zdM (k:Int) [(0:Int)]).set (i:Int).toNat 1) j=_;rw [Int.toNat_natCast];unfold vec;rw [List.getD_eq_getElem?_getD,List.getElem?_set];by_cases q:j=i;·subst q;rw [if_pos rfl,if_pos (by rw [ze1];exact h),if_pos rfl];rfl
 ·rw [if_neg (λz=>q z.symm),if_neg q,←List.getD_eq_getElem?_getD];exact ziU
theorem zp0 {k:Nat} {i:Int} {b:Nat}:Bit b (znd k i):=λx hx=>by
 unfold znd at hx;rcases zhj hx with rfl|hx
 ·exact Nat.one_le_two_pow
 ·obtain ⟨j,_,rfl⟩:=zh9 hx;rw [ziU];exact Nat.zero_le _
theorem zf8 {rows:Jq} {m:Ji} (h:m∈mark rows):∃(i:Nat) (r:Ji),rows[i]? =some r∧m=r++znd rows.length (i:Int):=by unfold mark at h;obtain ⟨x,hx,rfl⟩:=List.mem_map.mp h;obtain ⟨i,hi⟩:=List.getElem?_of_mem hx;obtain ⟨h1,h2,h3⟩:=zdh hi;exact ⟨i,x.2,h3,by rw [h2]⟩
theorem zrC {rows:Jq} {i:Nat} {r:Ji} (h:rows[i]?=some r):r++znd rows.length (i:Int)∈mark rows:=by unfold mark;have hi:=(List.getElem?_eq_some_iff.mp h).1;refine List.mem_map.mpr ⟨((i:Int),r),?_,rfl⟩;refine List.mem_of_getElem? (i:=i) ?_;unfold zeH;rw [List.getElem?_zip_eq_some];refine ⟨?_,h⟩;unfold zdA;rw [List.getElem?_map,List.getElem?_range hi];show some ((0:Int)+(i:Int))=some (i:Int);rw [Int.zero_add]
theorem ziX {rows:Jq}:(mark rows).length=rows.length:=by unfold mark;rw [List.length_map,zf5]
theorem zkQ {n b:Nat} {rows:Jq} (h:∀r∈rows,r.length=n∧Bit b r):∀m∈mark rows,m.length=n+rows.length∧Bit b m:=λm hm=>by
 obtain ⟨i,r,hr,rfl⟩:=zf8 hm;have h1:=h r (List.mem_of_getElem? hr);refine ⟨by rw [List.length_append,h1.1,zmh],λx hx=> ?_⟩;rcases List.mem_append.mp hx with hx|hx
 ·exact h1.2 x hx
 ·exact zp0 x hx
theorem zjY:∀ {as:List Vc} {i c j:Nat} {a:Vc},as[i]? =some a->comb (List.map (λt=>if t=i+c then (1:Int) else 0) (List.map (· +c) (List.range as.length))) as j=a j
 | [],i,c,j,a,h=>by simp at h
 | b :: as,0,c,j,a,h=>by
  have h:b=a:=by simpa using h
  subst h;rw [List.length_cons,List.range_succ_eq_map,List.map_cons,List.map_cons,List.map_map,List.map_map];simp only [comb,Nat.zero_add,if_true]
  have z:∀(xs:List Nat) (as:List Vc),(∀x∈xs,x≠0)->comb (List.map (λx=>if x+c=c then (1:Int) else 0) xs) as j=0:=by
   intro xs
   induction xs with
    |nil=>intro as _;simp [comb]
    |cons x xs ih=>intro as hx;match as with|[]=>simp [comb]|d::as=>simp only [List.map_cons,comb];rw [if_neg (by have:=hx x List.mem_cons_self;omega),ih as λy hy=>hx y (List.mem_cons_of_mem _ hy)];omega
  have:=z (List.map Nat.succ (List.range as.length)) as (λx hx=>by obtain ⟨y,_,rfl⟩:=List.mem_map.mp hx;omega);rw [List.map_map] at this;have e:(List.map (((λt=>if t=c then (1:Int) else 0)∘λx=>x+c)∘Nat.succ) (List.range as.length))=List.map ((λx=>if x+c=c then (1:Int) else 0)∘Nat.succ) (List.range as.length):=List.map_congr_left λ_ _=>rfl;rw [e,this];omega
 | b :: as,i+1,c,j,a,h=>by
  have ih:=zjY (as:=as) (i:=i) (c:=c+1) (j:=j) (a:=a) (by simpa using h);rw [List.length_cons,List.range_succ_eq_map,List.map_cons,List.map_cons,List.map_map,List.map_map];simp only [comb];rw [if_neg ↑0];rw [List.map_map] at ih
  have e:(List.map (((λt=>if t=i+1+c then (1:Int) else 0)∘λx=>x+c)∘Nat.succ) (List.range as.length))=List.map ((λt=>if t=i+(c+1) then (1:Int) else 0)∘λx=>x+(c+1)) (List.range as.length):=List.map_congr_left λx _=>by
   show (if x.succ+c=i+1+c then (1:Int) else 0)=if x+(c+1)=i+(c+1) then 1 else 0;by_cases q:x=i;·rw [if_pos ↑0,if_pos ↑0]
   ·rw [if_neg ↑0,if_neg ↑0]
  rw [e,ih];omega
theorem zpH {n:Nat} {rows:Jq} (h:∀r∈rows,r.length=n):∀m∈mark rows,Led n rows.length rows (vec m):=λm hm j hj=>by obtain ⟨i,r,hr,rfl⟩:=zf8 hm;have hi:=(List.getElem?_eq_some_iff.mp hr).1;have hl:=h r (List.mem_of_getElem? hr);have:=zjY (as:=rows.map vec) (i:=i) (c:=0) (j:=j) (a:=vec r) (by rw [List.getElem?_map,hr];rfl);rw [zfj,if_pos ↑0,←this,List.map_map,List.length_map];congr 1;refine List.map_congr_left λt ht=> ?_;show (if t+0=i+0 then (1:Int) else 0)=vec (r++znd rows.length (i:Int)) (n+t);rw [zfj,hl,if_neg (show¬n+t<n by omega),Nat.add_sub_cancel_left,zpC hi];rfl
structure Tr (n:Nat) (rows ss:Jq):Prop where
 st:Stairs (n+rows.length) (mark rows) ss
 sw:Stairs n rows (zov n ss)
 led:∀ t∈ss,Led n rows.length rows (vec t)
theorem znC {n:Nat} {rows:Jq} (h:∀r∈rows,r.length=n):Tr n rows (clm MG (mark rows)):=by
 have S:=(zii (rows:=mark rows) (n:=n+rows.length) λm hm=>by obtain ⟨i,r,hr,rfl⟩:=zf8 hm;rw [List.length_append,zmh,h r (List.mem_of_getElem? hr)]).1;have tk:∀ {i:Nat} {r:Ji},rows[i]? =some r->(r++znd rows.length (i:Int)).take n=r:=λhr=>by rw [List.take_append_of_le_length (by rw [h _ (List.mem_of_getElem? hr)];exact Nat.le_refl _),List.take_of_length_le (by rw [h _ (List.mem_of_getElem? hr)];exact Nat.le_refl _)]
 refine ⟨S,S.cut ↑0 (λm hm=> ?_) λr hr=> ?_,λt ht=> ?_⟩;·obtain ⟨i,r,hr,rfl⟩:=zf8 hm;exact ⟨r,List.mem_of_getElem? hr,tk hr⟩
 ·obtain ⟨i,hi⟩:=List.getElem?_of_mem hr;exact ⟨_,zrC hi,tk hi⟩
 ·exact Led.sp rfl (λa ⟨m,hm,e⟩=>e ▸ zpH h m hm) (S.inn t ht)
end Lat
namespace Lat
end Lat
namespace Lat
end Lat
namespace L2
open PySem PySem.Spec PyProof.Rows
section
variable {X:Cx} {K:W.Frag} {pos:Pos}
def zwJ (n:Nat) (t:TGs):TG:=λv σ H Q=>∃a xs,v= .ref a∧H a=some (.lst xs)∧xs.length=n∧t xs σ H Q
theorem ztg {es:List Expr} {k:Nat} {t:TGs} {n:Nat} (hc:X.calm=true) (h:PGs X es t)
  (hn:(assignEach es X.env).length=n:=by rfl) (hst:(assignEach es X.env).findIdx? (·.1)=none:=by rfl):PG X (.Tuple es k pos) (zwJ n t):=by
   intro pins s σ H v u Q I r hw;obtain ⟨a,xs,e1,hq,hl,hw⟩:=hw;subst e1;cases r;obtain ⟨z,its,m,rv,hli,e⟩:=I.lstM hq;have hs:its.toArray.size=n:=by rw [List.size_toArray,←hli,hl]
   rw [PyProof.Rows.assign_Tuple];refine wpAny_bind (wpAny_standAt ?_);unfold unpack;rw [hst,hn,←hs];refine wpAny_bind (wpAny_holding (W.kun_itemsOf (I.ok.hd hc) ⟨_,e,rfl,_,rfl⟩ λh' hx=> ?_));have I1:Inv X pins σ H {s with heap:=h'}:=I.kept (t':=s.toks) λb o e=>hx b o (Nat.ne_of_lt ↑38) e;exact h pins _ σ H xs _ Q I1 (by simpa using rv) hw
end
section
variable {E:XS} {Γ:Ctx} {te ta tb:TE} {u:TS} {o:Oc} {m:Bool} {K:W.Frag} {i j l:Nat} {α β:Type} {f:α->Ds}
end
end L2
namespace Lat
open L2
theorem zpU {xs:Ji} {as:List Vc} {j:Nat}:comb (List.map (λx=>(-1)*x) xs) as j=(-1)*comb xs as j:=zhX (-1) j
theorem zoj {n:Nat} {rows ss:Jq} {v:Ji} (hlen:∀r∈rows,r.length=n) (T:Tr n rows ss) (hv:v.length=n+rows.length) (h:SpL rows (rst n (vec v))):∀j,j<n->vec (low v ss) j=0:=by
 obtain ⟨a1,a2,a3,a4⟩:=zc5 (l:=v) T.st.ech hv
 have key:=zjy (u:=rst n (vec (low v ss))) T.sw.ech (by
  have d:SpL rows (rst n (λi=>vec v i-vec (low v ss) i)):=by
   refine Sp.image (g:=rst n) (λi=>by unfold rst;split<;>rfl) zjw (λa ⟨s,hs,e⟩=> ?_) a2;rw [e];refine (T.st.inn s hs)|>λq=>Sp.image (g:=rst n) (λi=>by unfold rst;split<;>rfl) zjw (λb ⟨m,hm,e2⟩=> ?_) q;obtain ⟨i,r,hr,rfl⟩:=zf8 hm;rw [e2,zgk];by_cases hl:r.length=n;·rw [List.take_append_of_le_length ↑0,List.take_of_length_le ↑0];exact SpL.mem (List.mem_of_getElem? hr)
   ·exfalso;have m1:=T.st.ech;exact hl (hlen r (List.mem_of_getElem? hr))
  exact ((Sp.lin 1 (-1) h d).sub λa ⟨r,hr,e⟩=>e ▸ T.sw.out r hr).conv λi=>by unfold rst;dsimp only;split<;>omega) (λt ht=>by obtain ⟨s,hs,h1,rfl⟩:=zi4 ht;have es:=T.st.ech.mem s hs;have eh:=zla h1 (by rw [es.1];exact es.2.2.1);rw [eh,zdE,if_pos h1];show 0≤(if hd s<n then vec (low v ss) (hd s) else 0)∧(if hd s<n then vec (low v ss) (hd s) else 0)<vec s (hd s);rw [if_pos h1];exact a3 s hs)
 intro j hj;have:=key j;unfold rst at this;rwa [if_pos hj] at this
theorem zqn {n:Nat} {rows ss:Jq} {v:Ji} (T:Tr n rows ss) (hv:v.length=n+rows.length) (hz:∀i,vec v (n+i)=0) (h0:∀j,j<n->vec (low v ss) j=0):∀j,j<n->comb ((low v ss).drop n) (rows.map vec) j=(-1)*vec v j:=λj hj=>by
 obtain ⟨a1,a2,a3,a4⟩:=zc5 (l:=v) T.st.ech hv;have L:=Led.sp (n:=n) (k:=rows.length) rfl (λa ⟨s,hs,e⟩=>e ▸ T.led s hs) a2 j hj;rw [h0 j hj] at L
 have e:List.map (λi=>vec v (n+i)-vec (low v ss) (n+i)) (List.range rows.length)=List.map (λx=>(-1)*x) ((low v ss).drop n):=by
  refine List.ext_getElem (by simp [a1]) λi h1 h2=> ?_;rw [List.getElem_map,List.getElem_range,List.getElem_map,List.getElem_drop,hz i];have:n+i<(low v ss).length:=by simp [a1] at h1 ⊢;omega
  have e2:vec (low v ss) (n+i)=(low v ss)[n+i]:=by simp [vec,List.getD_eq_getElem?_getD,List.getElem?_eq_getElem this]
  rw [e2];omega
 rw [e,zpU] at L;omega
end Lat
namespace L2
open PySem PySem.Spec PyProof.Rows
section
variable {X:Cx}
end
end L2
namespace L2
open PySem PySem.Spec PyProof.Rows
section
variable {E:XS} {Γ Γx:Ctx} {m:Bool} {α β ε S:Type} [XF ε] {u:TS} {ds:List Ds}
end
end L2
namespace L2
open PySem PySem.Spec PyProof.Rows
def zrT (R:Hp) (v:V) (ns:Ji):Prop:=∃r,v= .ref r∧R r=some (.lst (List.map V.int ns))
def dRI (nss:Jq):Ds:=⟨λR v=>∃p vs,v= .ref p∧R p=some (.lst vs)∧vs.Nodup∧V.ref p∉vs∧Paired (zrT R) vs nss,λe ⟨p,vs,h1,h2,h3,h4,h5⟩=>⟨p,vs,h1,e _ _ h2,h3,h4,zbD (λ_ _ ⟨r,q1,q2⟩=>⟨r,q1,e _ _ q2⟩) h5⟩⟩
section
variable {Γ:Ctx} {m:Bool} {K:W.Frag} {γ:Type} {te tj:TE} {i:Nat} {nss:Jq}
end
section
variable {E:XS} {Γ:Ctx} {m:Bool} {K:W.Frag} {te tj:TE} {u:TS} {o:Oc} {i:Nat} {nss:Jq}
end
end L2
namespace L2
open PySem PySem.Spec PyProof.Rows
section
variable {E:XS} {Γ Δ:Ctx} {m:Bool} {K:W.Frag} {te ta tb:TE} {t u:TS} {d:Ds} {ds es:List Ds} {o:Oc} {i j:Nat}
theorem zmW (h:Ev Γ te false d) (w:Wk Γ Δ):Run E Γ (zdI (zne te) u) (.rw Δ d):=λF0 Hb F H σ own D a k=>h F0 Hb F H σ own _ a λv F' H' g q=>k v F' H' σ own ((a.grow g).wk w) q
end
section
variable {P:Program} {w:World} {K:W.Frag} {mg:Str->Option Value} {base:Heap} {x qual:Str} {st:Stmt} {f:Addr} {fd:FuncData} {N ps:List Str} {k:Nat}
end
section
variable {E:XS} {Γ Δ:Ctx} {m:Bool} {K:W.Frag} {te ta tb tj:TE} {t u:TS} {d:Ds} {ds es:List Ds} {o:Oc} {i j:Nat} {p:Addr} {α β:Type} {f:α->Ds} {xs:List α}
def EvM (Γ Δ:Ctx) (t:TE) (d:Ds):Prop:=∀(F0 Hb F H:Hp) (σ:St) (own:Nat->Option Addr) (Q:VK),At F0 Hb F H σ own Γ->(∀v F' H',At F0 Hb F' H' σ own Δ->d.pr F' v->Q v H')->t σ H Q
end
end L2
namespace L2
open PySem PySem.Spec PyProof.Rows
structure T5 (α β γ δ ε:Type) where
 a:α
 b:β
 c:γ
 d:δ
 e:ε
section
variable {E:XS} {Γ:Ctx} {m:Bool} {K:W.Frag} {te tj:TE} {u:TS} {o:Oc} {i j:Nat} {nss:Jq} {α β:Type}
end
end L2
namespace Lat
open L2
end Lat
namespace L2
open PySem PySem.Spec PyProof.Rows
section
variable {X:Cx} {K:W.Frag}
theorem zph (hK:X.K=K) (hc:X.calm=true):zeb X (.builtin "any") (λxs H Q=>∃(a:Addr) (ns:List Bool),xs=[.ref a]∧SqL K H a (ns.map V.bl)∧Q (.bl (ns.any id)) H):=by
 subst hK;intro pins s σ H xs us Q I r h;obtain ⟨a,bs,rfl,hq,q⟩:=h;obtain ⟨u,rfl,rx⟩:=zgg r;cases rx;obtain ⟨its,rv,p,hz⟩:=I.list hq;have hl:=rv.length;rw [List.length_map] at hl;have alt:a<s.heap.objs.size:=by obtain ⟨o,e,_⟩:=p.isList;exact Heap.lt_size e
 have hl1:(↑110).IsList a its.toArray:=Heap.IsList.push p.isList _;refine call_any_walk (wpAny_pyIter_list p.isList ?_);refine ⟨s.heap.objs.size,[s.heap.objs.size,a],[s.heap.objs.size],its.toArray.size,_,_,λi=>(bs[i]?).getD false,rfl,Walks.list (A:=X.A.in1) (I.ok.hd hc) s.heap.objs.size a (Nat.ne_of_lt alt) its.toArray,⟨⟨_,Heap.get?_push_size _ rfl,rfl,rfl⟩,hl1⟩,λi v s' Q' E' hv hQ'=> ?_,λh' tk hk=> ?_⟩
 ·have hv':its[i]? =some v:=by simpa using hv
  have hi:i<its.length:=(List.getElem?_eq_some_iff.mp hv').1;obtain ⟨u,hu,ru⟩:=rv.get (i:=i) (x:= .bl (bs[i]'↑0)) (by rw [List.getElem?_map,List.getElem?_eq_getElem ↑0];rfl);rw [hv'] at hu;cases hu;cases ru;have e:(bs[i]?).getD false=bs[i]'↑0:=by rw [List.getElem?_eq_getElem (show i<bs.length by omega)];rfl
  have hQ2:Q' ((bs[i]?).getD false) s':=hQ';rw [e] at hQ2;exact wpAny_truthy_bool hQ2
 ·have e:(List.range its.toArray.size).any (λi=>(bs[i]?).getD false)=bs.any id:=by
   rw [List.size_toArray,←hl,Bool.eq_iff_iff,List.any_eq_true,List.any_eq_true];constructor;·rintro ⟨i,hi,z⟩;have hi':=List.mem_range.mp hi;rw [List.getElem?_eq_getElem hi'] at z;exact ⟨_,List.getElem_mem hi',z⟩
   ·rintro ⟨x,hx,z⟩;obtain ⟨i,hi,rfl⟩:=List.getElem_of_mem hx;exact ⟨i,List.mem_range.mpr hi,by rw [List.getElem?_eq_getElem hi];exact z⟩
  rw [e];exact ⟨.bl _,H,I.kept (h':=h') (t':=tk) λb o e=>hk b o (by simp only [List.mem_singleton];exact Nat.ne_of_lt ↑38) (Heap.get?_push_of_some _ e),rfl,q⟩
end
section
variable {Γ:Ctx} {m:Bool} {K:W.Frag}
theorem zrz {xs:List Bool} {t:TE} (h1:Ev Γ t false (dQ K (xs.map dB))):Ev Γ (tCB (λxs H Q=>∃(a:Addr) (ns:List Bool),xs=[.ref a]∧SqL K H a (ns.map V.bl)∧Q (.bl (ns.any id)) H) (zcJ t zf2)) m (dB (xs.any id)):=λF0 Hb F H σ own Q a k=>h1 F0 Hb F H σ own _ a λu F1 H1 g1 ⟨p,vs,e1,e2,e3⟩=>↑111
end
end L2
namespace L2
open PySem PySem.Spec PyProof.Rows
section
variable {E:XS} {Γ:Ctx} {u:TS} {o:Oc} {K:W.Frag} {i j:Nat}
end
end L2
namespace Lat
open L2
end Lat
namespace L2
open PySem PySem.Spec PyProof.Rows
section
open PySem.SeqAt PySem.MeetsSeq PySem.MeetsSeq2 PySem.MeetsSeq3
open PySem.AutoSeq1 (wpAny_loadPart')
end
section
variable {X:Cx} {K:W.Frag}
end
section
variable {X:Cx} {K:W.Frag}
end
section
variable {E:XS} {Γ:Ctx} {te tj:TE} {t u:TS} {o:Oc} {m:Bool} {K:W.Frag} {i j:Nat} {α β:Type}
theorem zjB {x:α} (d1 d2:α->Ds) (fo:β->Oc) {kk:α->β} (h:Ev Γ te m (dL [d1 x,d2 x])) (k:∀y,y=x->Run E ((Γ.set i (.va m (d1 y))).set j (.va m (d2 y))) u (fo (kk y))) :
  Run E Γ (zdI (zl3 te (zwJ 2 (zjv (zd0 i) (zjv (zd0 j) ztU)))) u) (fo (Let x kk)):=λF0 Hb F H σ own D a q=>by
   refine h F0 Hb F H σ own _ a λv F' H' g ⟨p,vs,e1,e2,e3⟩=> ?_
   cases e3 with
    |cons q1 w=>cases w with|cons q2 w=>cases w;exact ⟨p,_,e1,(za4.trans g.fh) _ _ e2,rfl,_,_,rfl,_,_,rfl,rfl,k _ rfl F0 Hb F' H' _ own D (((a.grow g).set i q1).set j q2) q⟩
end
end L2
namespace L2
open PySem PySem.Spec PyProof.Rows
section
variable {X:Cx} {CX:CXT} {k:Nat} {f C:Addr} {fd:FuncData} {ps:List Str} {sp:Sp} {E:XK} {m:Str} {pos apos:Pos} {o e:Expr} {es:List Expr} {t:TA}
structure ByCls (K:W.Frag) (C f:Addr) (m:Str):Prop where
 ga:W.specialIn K (.ref C) "__getattribute__"=some (some (.builtin "type.__getattribute__"))
 rd:W.readsIn K C (.type "type")=true
 fn:W.findCls K (.ref C) (.type "type") m=some (.val (.ref f))
 kp:W.keepIn K (.ref f)=true
theorem zqs {pl:Sem Bool} (he:PE X o (tC (.ref C))) (B:ByCls X.K C f m) (F:FnOk X.prog X.w X.K X.mg X.base CX k f fd ps sp) (hr:Room k X.A) (hb:zeW X.K fd ps []) (hx:zfQ CX X E) (ha:PA X (e::es) t)
  (hst:starEach (e::es) X.env=(false,eval e X.env)::starEach es X.env:=by rfl) (hpl:(↑76).any (·.1)=false:=by rfl)
  (ht:eval ↑92 X.env=(do
   let ov←eval o X.env
   standAt apos.atName
   let (f,first)←holding [ov] (getMethod ov m pl)
   callWith pos f first (backTo pos (starEach (e::es) X.env)) (backToKw pos (keywordEach [] X.env))):=by rfl) :
  PE X ↑92 (tCall sp [] E t):=by intro pins s σ H Q I h;refine W.methodCall_KW (pl:=pl) (thn (he pins s σ H (λv H1=>v= .ref C∧t σ H1 λvs H2=>sp (vs++[]) H2 Q E) I ⟨rfl,h⟩) λu s1 ⟨x,H1,I1,rx,ex,q⟩=> ?_) ht;subst ex;obtain rfl:u=Value.ref C:=rx;refine W.method_cls I1.kIn B.ga (W.cls_value I1.kIn B.rd B.fn rfl ?_);refine W.callWith_K (first:=[]) (h₀:=X.base) I.ok.mod.kin B.kp (thn (ha pos pins _ σ H1 _ (I1.tok _) q) λus s2 ⟨vs,H2,I2,r,q2⟩=>⟨I2.kIn,?_⟩) hst hpl;exact zof F hr hb .nil hx I2 r q2
end
section
variable {E:XS} {Γ:Ctx} {u:TS} {o:Oc} {m m2:Bool} {K:W.Frag} {i:Nat} {ds:List Ds} {tr:TA}
theorem zmO {ι:Type} {C p dx:Addr} {args:ι->List Ds} {pre:ι->Prop} {fs:ι->List (Str×Ds)} {E1:XK} (x:ι) (e:Γ[i]? =some (.ob m C p dx [])) (h:EvA Γ tr m2 ds) (ha:ds=args x) (hp:pre x) (k:Run E (Γ.set i (.ob m C p dx (fs x))) u o) :
  Run E Γ (zdI (zic (tCall (zox C args pre m fs) [] E1 (zcJ (zhi i) tr))) u) o:=λF0 Hb F H σ own D a q=>by
   subst ha;have hi:i<σ.length:=by rw [a.len];exact (↑42).1
   obtain ⟨vs0,z1,_⟩:=a.sl i _ e;have e':σ[i]? =some (some (.ref p)):=by rw [List.getElem?_eq_getElem hi] at z1 ⊢;exact congrArg some z1
   refine ⟨_,e',h F0 Hb F H σ own _ a λvs F1 H1 g1 q1=> ?_⟩;have a1:=a.grow g1;obtain ⟨vs1,w1,w2,w3,w4,w5,w6⟩:=a1.sl i _ e;cases w6;have ne:dx≠p:=λz=>by have h1:=w5.1;have h2:=w5.2;rw [z] at h2;rw [h1] at h2;cases h2
   have hE:∀b,b≠p->b≠dx->↑80=H1 b:=λb n1 n2=>by rw [if_neg (by simp [n1,n2])]
   have hEp:↑93 p=none:=if_pos (.inl rfl);have hEd:↑93 dx=none:=if_pos (.inr rfl)
   have sE:∀ {R:Hp},Same R H1->R p=none->R dx=none->Same R ↑93:=λhR n1 n2 b w z=>by
    have b1:b≠p:=λy=>by rw [y,n1] at z;cases z
    have b2:b≠dx:=λy=>by rw [y,n2] at z;cases z
    show ↑80=some w;rw [hE b b1 b2];exact hR b w z
   refine ⟨x,p,dx,vs,λb=>if b=p∨b=dx then none else H1 b,F1,by rw [List.append_nil],hEp,hEd,ne,?_,sE a1.fh w3.1 w3.2,?_,hp,λus F' H' g n1 n2 h1 h2 h3=> ?_⟩
   ·funext b;by_cases b1:b=p;·rw [b1,zat,w5.1]
    ·rw [zam b1];by_cases b2:b=dx;·rw [b2,zat,w5.2]
     ·rw [zam b2,hE b b1 b2]
   ·exact zds (ds:=[]) za4 q1
   ·have gg:Grow F1 H1 F' (upd H' p (.ins C dx [])):=by
     refine ⟨g.f,λb w z=> ?_,λb w z=> ?_,λb z1 z2=> ?_⟩;·rw [zam (λy=>by rw [y,n1] at z;cases z)];exact g.fh b w z
     ·by_cases b1:b=p;·rw [b1,zat];rw [b1,w5.1] at z;exact z
      ·rw [zam b1];by_cases b2:b=dx;·rw [b2,h2];rw [b2,w5.2] at z;exact z
       ·exact g.h b w (by show ↑80=some w;rw [hE b b1 b2];exact z)
     ·by_cases b1:b=p;·rw [b1];exact n1
      ·by_cases b2:b=dx;·rw [b2];exact n2
       ·exact g.no b (by show ↑80≠none;rw [hE b b1 b2];exact z1) z2
    have a2:=(a1.grow gg).turnOb (n:=m) (ws:=us) (gs:=fs x) e (zbD (λ_ b z=>⟨z.1,b.2.up (zfH (sE a1.g.h w4.1 w4.2)) z.2⟩) h3)
    have eq:upd (upd H' p (.ins C dx [])) p (.ins C dx us)=H':=by
     funext b;by_cases b1:b=p;·rw [b1,zat,h1]
     ·rw [zam b1,zam b1]
    rw [eq] at a2;exact k F0 Hb F' H' σ own D a2 q
end
section
variable {Γ:Ctx} {m:Bool}
theorem zly {ta:TE} {n:Int} (h:Ev Γ ta false (dI n)):Ev Γ (tCB (λxs H Q=>∃i,xs=[.int i]∧Q (.int (if i<0 then-i else i)) H) (zcJ ta zf2)) m (dI ((n.natAbs:Nat):Int)):=λF0 Hb F H σ own Q a k=>h F0 Hb F H σ own _ a λv F1 H1 g1 q1=>by have q1:v= .int n:=q1;subst q1;refine ⟨n,rfl,k _ F1 H1 g1 ?_⟩;show V.int _=V.int _;congr 1;split<;>omega
end
section
variable {X:Cx} {CX:CXT} {k k2:Nat} {f f2 C C2:Addr} {fd fd2:FuncData} {ps ps2:List Str} {sp sp2:Sp} {E:XK} {m:Str} {pos apos:Pos} {o e:Expr} {es:List Expr} {ta:TE} {t:TA}
theorem zgD {Γ:Ctx} {b:Bool} {ι:Type} {args:ι->List Ds} {pre:ι->Prop} {res:ι->Rs} {ds:List Ds} {d:Ds} {fs:List (Str×Ds)} (x:ι) (h1:Ev Γ ta false (dO C fs)) (h:EvA Γ t false ds) (ha:dO C fs::ds=args x) (hp:pre x) (hr:res x=.va b d) (hn:(fs.map Prod.fst).contains m=false) :
  Ev Γ (zqx C m (Spv args pre res) [] E ta t) b d:=λF0 Hb F H σ own Q a kk=>by
   refine h1 F0 Hb F H σ own _ a λu F1 H1 g1 ⟨p,dx,vs,e1,e2,e3,e4⟩=>⟨p,dx,vs,e1,g1.fh _ _ e2,?_,?_⟩
   ·have:∀ {vs:List (Str×V)} {fs:List (Str×Ds)} {R:Str×V->Str×Ds->Prop},Paired (λa b=>a.1=b.1∧R a b) vs fs->(fs.map Prod.fst).contains m=false->vs.lookup m=none:=by
     intro vs fs R hq
     induction hq with
      |nil=>intro _;rfl
      | @ cons a b _ _ w _ ih=>
       intro z;rw [List.map_cons,List.contains_cons,Bool.or_eq_false_iff] at z;obtain ⟨a1,a2⟩:=a;rw [List.lookup_cons];have:(m==a1)=false:=by rw [show a1=b.1 from w.1];exact z.1
       rw [this];exact ih z.2
    exact this e4 hn
   ·refine h F0 Hb F1 H1 σ own _ (a.grow g1) λws F2 H2 g2 q2=>⟨x,F2,g2.fh,?_,hp,?_⟩;·rw [←ha,List.append_nil];refine .cons ((dO C fs).up (show Same F1 F2 from g2.f) ⟨p,dx,vs,e1,e2,e3,e4⟩) q2
    ·rw [hr];exactλv F' H' g q=>kk v F' H' ((↑24).trans g) (d.up (zfH ((a.grow g1).g.h.trans g2.h)) q)
end
section
variable {Γ:Ctx} {i:Nat} {m n:Bool} {ds:List Ds}
theorem EvT.borrowO {t:TT} {b:Bool} (e:Γ[i]? =some (.ow m ds)) (h:EvT (Γ.set i (.va m (dL ds))) t b):EvT Γ t b:=λF0 Hb F H σ own Q a k=>by obtain ⟨F1,own1,_,a1⟩:=a.share e;exact h F0 Hb F1 H σ own1 Q a1 λF' H' g=>k F H' (Grow.only a.fh g.h)
end
end L2
namespace Lat
open L2
noncomputable def dv:Ji->Vc->Int
 | [],_=>0
 | a :: w,u=>a*u 0+dv w λi=>u (i+1)
theorem zqM:∀(w t:Ji),(List.map (λ(x:Int×Int)=>x.1*x.2) (List.zip w t)).sum=dv w (vec t)
 | [],_=>rfl
 | a :: w,[]=>by
  have:∀(w:Ji),dv w (λ_=>0)=0:=by intro w;induction w with|nil=>rfl|cons a w ih=>show a*0+dv w (λ_=>0)=0;rw [ih];omega
  exact (this (a::w)).symm
 | a :: w,b :: t=>by show a*b+(List.map (λ(x:Int×Int)=>x.1*x.2) (List.zip w t)).sum=a*b+dv w λi=>vec (b::t) (i+1);rw [zqM w t];congr 2
theorem zo0:∀(w:Ji) (u v:Vc) (x:Int),dv w (λi=>u i+x*v i)=dv w u+x*dv w v
 | [],_,_,x=>by show (0:Int)=0+x*0;omega
 | a :: w,u,v,x=>by show a*(u 0+x*v 0)+dv w (λi=>u (i+1)+x*v (i+1))=_;rw [zo0 w (λi=>u (i+1)) (λi=>v (i+1)) x];show _=a*u 0+dv w (λi=>u (i+1))+x*(a*v 0+dv w λi=>v (i+1));grind
theorem zn4 (w:Ji):dv w (λ_=>0)=0:=by
 have:=zo0 w (λ_=>0) (λ_=>0) (-1);have e:(λ(i:Nat)=>(0:Int)+ -1*0)=λ_=>0:=by funext i;omega
 rw [e] at this;omega
theorem zqO:∀(w:Ji) (c:Int) (u:Vc),dv (mul w c) u=dv w u*c
 | [],c,u=>by show (0:Int)=0*c;omega
 | a :: w,c,u=>by show a*c*u 0+dv (mul w c) (λi=>u (i+1))=(a*u 0+dv w λi=>u (i+1))*c;rw [zqO w c];grind
theorem zny:∀ {w:Ji} {k:Nat} {y:Int} {u:Vc},k<w.length->dv (w.set k y) u=dv w u+(y-vec w k)*u k
 | a :: w,0,y,u,_=>by show y*u 0+dv w (λi=>u (i+1))=a*u 0+dv w (λi=>u (i+1))+(y-a)*u 0;grind
 | a :: w,k+1,y,u,h=>by show a*u 0+dv (w.set k y) (λi=>u (i+1))=a*u 0+dv w (λi=>u (i+1))+(y-vec (a::w) (k+1))*u (k+1);rw [zny (w:=w) (k:=k) (by simpa using h),zbN];omega
theorem ztM {A:Vc->Prop} {w:Ji} {M:Int} {u:Vc} (h:∀a,A a->M∣dv w a) (hu:Sp A u):M ∣ dv w u:=by induction hu with|zero=>rw [zn4];exact Int.dvd_zero _| @ add u a z _ ha ih=>rw [zo0];exact Int.dvd_add ih (Int.dvd_trans (h a ha) (Int.dvd_mul_left _ _))
theorem zu5 {X B:Nat}:∀ {w:Ji} {u:Vc},(∀x∈w,x.natAbs≤X)->(∀i,(u i).natAbs≤B)->(dv w u).natAbs≤w.length*(X*B)
 | [],u,_,_=>by show (0:Int).natAbs≤_;simp
 | a :: w,u,h,k=>by
  have h1:=zu5 (w:=w) (u:=λi=>u (i+1)) (λy hy=>h y (List.mem_cons_of_mem _ hy)) λi=>k (i+1);have h2:(a*u 0).natAbs≤X*B:=by rw [Int.natAbs_mul];exact Nat.mul_le_mul (h a List.mem_cons_self) (k 0)
  show (a*u 0+dv w λi=>u (i+1)).natAbs≤(w.length+1)*(X*B);rw [Nat.succ_mul];omega
theorem zsi {α:Type} {xs:List α} {k:Nat} {x:α} (h:k<xs.length):zcZ xs (k:Int) x=xs.set k x:=by unfold zcZ ixN;rw [if_pos ↑0,if_pos ↑0];simp
theorem zlR {l:Ji} {o:Nat} {x:Int} {i:Nat} (h:o<l.length):vec (l.set o x) i=if i=o then x else vec l i:=by
 unfold vec;rw [List.getD_eq_getElem?_getD,List.getD_eq_getElem?_getD,List.getElem?_set];by_cases z:o=i;·subst z;rw [if_pos rfl,if_pos rfl,if_pos h];rfl
 ·rw [if_neg z,if_neg (Ne.symm z)]
noncomputable def lv1 (w t:Ji):Ji:=zcZ (mul w (vec t (hd t))) (hd t:Int) (-(dv w (vec t)))
noncomputable def lv (N:Nat):Jq->Ji
 | []=>zdM ((N:Int)-1) [(0:Int)]++[(1:Int)]
 | t :: ss=>lv1 (lv N ss) t
noncomputable def prh:Jq->Int
 | []=>1
 | t :: ss=>vec t (hd t)*prh ss
theorem znF (N:Nat):∀ss:Jq,List.foldl lv1 (lv N []) ss.reverse=lv N ss
 | []=>rfl
 | t :: ss=>by rw [List.reverse_cons,List.foldl_append,znF N ss];rfl
theorem zrd {n:Nat}:(lv (n+1) []).length=n+1∧(∀i,i<n->vec (lv (n+1) []) i=0)∧vec (lv (n+1) []) n=1:=by
 have hl:(zdM (((n+1:Nat):Int)-1) [(0:Int)]).length=n:=by rw [show ((n+1:Nat):Int)-1=(n:Int) by omega];exact ze1
 refine ⟨by show (zdM (((n+1:Nat):Int)-1) [(0:Int)]++[(1:Int)]).length=_;rw [List.length_append,hl];rfl,λi hi=> ?_,?_⟩
 ·show vec (zdM (((n+1:Nat):Int)-1) [(0:Int)]++[(1:Int)]) i=0;rw [zfj,hl,if_pos hi];rw [show ((n+1:Nat):Int)-1=(n:Int) by omega];unfold zdM vec;rw [List.getD_eq_getElem?_getD]
  cases q:((List.replicate (n:Int).toNat [(0:Int)]).flatten)[i]? with
   |none=>rfl
   |some y=>obtain ⟨l,h1,h2⟩:=List.mem_flatten.mp (List.mem_of_getElem? q);rw [List.eq_of_mem_replicate h1] at h2;rw [List.mem_singleton.mp h2];rfl
 ·show vec (zdM (((n+1:Nat):Int)-1) [(0:Int)]++[(1:Int)]) n=1;rw [zfj,hl,if_neg ↑0,Nat.sub_self];rfl
theorem ztk {n:Nat}:∀ {ss:Jq} {lo:Nat},Ech (n+1) lo ss->(∀t∈ss,hd t<n)→(lv (n+1) ss).length=n+1∧(∀i,i<lo->i<n->vec (lv (n+1) ss) i=0)∧(∀t∈ss,dv (lv (n+1) ss) (vec t)=0)∧vec (lv (n+1) ss) n=prh ss∧0<prh ss
 | [],lo,_,_=>by obtain ⟨h1,h2,h3⟩:=zrd (n:=n);exact ⟨h1,λi _ hi=>h2 i hi,by simp,h3,by decide⟩
 | t :: ss,lo,e,h=>by
  obtain ⟨e1,e2,e3,e4,e5⟩:=e;obtain ⟨h1,h2,h3,h4,h5⟩:=ztk e5 λs hs=>h s (List.mem_cons_of_mem _ hs);have ht:=h t List.mem_cons_self;have hk:hd t<(mul (lv (n+1) ss) (vec t (hd t))).length:=by rw [zaW,h1];omega
  have z0:vec (lv (n+1) ss) (hd t)=0:=h2 _ ↑0 ht;have ew:lv (n+1) (t::ss)=(mul (lv (n+1) ss) (vec t (hd t))).set (hd t) (-(dv (lv (n+1) ss) (vec t))):=by show lv1 _ _=_;unfold lv1;rw [zsi hk]
  have hdv:∀u:Vc,dv (lv (n+1) (t::ss)) u=dv (lv (n+1) ss) u*vec t (hd t)-dv (lv (n+1) ss) (vec t)*u (hd t):=λu=>by rw [ew,zny hk,zqO,zdt,z0];grind
  refine ⟨by rw [ew,List.length_set,zaW,h1],λi hi hn=> ?_,λs hs=> ?_,?_,Int.mul_pos e4 h5⟩;·rw [ew,zlR hk,if_neg ↑0,zdt,h2 i ↑0 hn];omega
  ·rw [hdv];rcases List.mem_cons.mp hs with rfl|hs
   ·omega
   ·rw [h3 s hs,e5.before (Nat.lt_succ_self _) s hs];omega
  ·rw [ew,zlR hk,if_neg ↑0,zdt,h4];show prh ss*vec t (hd t)=vec t (hd t)*prh ss;exact Int.mul_comm _ _
theorem zsB {n s a:Nat} {w t:Ji} (T:Sd n s t) (hw:w.length≤1000) (hb:Bit a w):Bit (a+(s+9000)) (lv1 w t):=λx hx=>by
 rcases zhj hx with rfl|hx
 ·have h1:=zu5 hb T.bit.vec;have h2:w.length*(2 ^ a*2 ^ s)≤2 ^ 10*(2 ^ a*2 ^ s):=Nat.mul_le_mul_right _ ↑0;rw [←Nat.pow_add,←Nat.pow_add] at h2;have h3:2 ^ (10+(a+s))≤2 ^ (a+(s+9000)):=Nat.pow_le_pow_right ↥1 ↑0;rw [←Nat.pow_add] at h1;rw [Int.natAbs_neg];exact Nat.le_trans h1 (Nat.le_trans h2 h3)
 ·unfold mul at hx;obtain ⟨y,hy,rfl⟩:=List.mem_map.mp hx;show (y*vec t (hd t)).natAbs≤_;rw [Int.natAbs_mul];exact Nat.le_trans (zeu (hb y hy) T.top) (Nat.pow_le_pow_right ↥1 ↑0)
theorem zsA {w t:Ji}:(lv1 w t).length=w.length:=by unfold lv1;rw [zeN,zaW]
def lvI (N:Nat) (ss:Jq) (i:Nat) (w:Ji):Prop:=w=lv N (ss.drop (ss.length-i))
theorem zvJ {N:Nat} {ss:Jq}:lvI N ss 0 (lv N []):=by unfold lvI;rw [Nat.sub_zero,List.drop_length]
theorem zwo {N i:Nat} {ss:Jq} {t w:Ji} (hx:ss.reverse[i]? =some t) (I:lvI N ss i w):lvI N ss (i+1) (lv1 w t):=by
 have hi:i<ss.length:=by have:=(List.getElem?_eq_some_iff.mp hx).1;rwa [List.length_reverse] at this
 have e:ss[ss.length-(i+1)]? =some t:=by rw [←hx,List.getElem?_reverse hi];congr 1;omega
 unfold lvI at*;have hj:ss.length-(i+1)<ss.length:=by omega
 rw [List.drop_eq_getElem_cons hj,show ss.length-(i+1)+1=ss.length-i by omega];rw [List.getElem?_eq_getElem hj] at e;cases e;show lv1 w _=lv1 (lv N _) _;rw [←I]
theorem znE {n s:Nat}:∀ {ss:Jq},(∀t∈ss,Sd (n+1) s t)->n≤900->(lv (n+1) ss).length=n+1∧Bit (1+ss.length*(s+9000)) (lv (n+1) ss)
 | [],_,_=>⟨zrd.1,λx hx=>by
  have hx:x∈zdM (((n+1:Nat):Int)-1) [(0:Int)]++[(1:Int)]:=hx;rcases List.mem_append.mp hx with hx|hx
  ·unfold zdM at hx;obtain ⟨l,h1,h2⟩:=List.mem_flatten.mp hx;rw [List.eq_of_mem_replicate h1] at h2;rw [List.mem_singleton.mp h2];exact Nat.zero_le _
  ·rw [List.mem_singleton.mp hx];exact Nat.one_le_two_pow⟩
 | t :: ss,h,hn=>by obtain ⟨h1,h2⟩:=znE (λs hs=>h s (List.mem_cons_of_mem _ hs)) hn;refine ⟨by show (lv1 _ _).length=_;rw [zsA,h1],(zsB (h t List.mem_cons_self) ↑0 h2).mono ?_⟩;rw [List.length_cons,Nat.succ_mul];omega
theorem zqU {E:Nat}:∀ {ss:Jq},(∀t∈ss,(vec t (hd t)).natAbs≤2 ^ E)->(prh ss).natAbs≤2 ^ (E*ss.length)
 | [],_=>by show (1:Int).natAbs≤_;rw [List.length_nil,Nat.mul_zero];decide
 | t :: ss,h=>by show (vec t (hd t)*prh ss).natAbs≤_;rw [Int.natAbs_mul,List.length_cons,Nat.mul_succ,Nat.add_comm];exact zeu (h t List.mem_cons_self) (zqU λs hs=>h s (List.mem_cons_of_mem _ hs))
structure GdI (g0 s0:Int) (p:Int×Int):Prop where
 a:0≤p.1
 b:0≤p.2
 d:∀ d:Int,d ∣ p.1->d ∣ p.2->d ∣ g0∧d ∣ s0
 n:g0≠0∨s0≠0->p.1≠0∨p.2≠0
theorem GdI.start {g s:Int} (h1:0≤g) (h2:0≤s):GdI g s (g,s):=⟨h1,h2,λ_ a b=>⟨a,b⟩,λh=>h⟩
theorem GdI.step {g s:Int} {p:Int×Int} (I:GdI g s p) (h:p.2≠0):GdI g s (p.2,p.1%p.2)∧(p.1%p.2).toNat<p.2.toNat:=by have hb:=I.b;have m0:=Int.emod_nonneg p.1 h;have m1:=Int.emod_lt_of_pos p.1 (show 0<p.2 by omega);refine ⟨⟨hb,m0,λd d1 d2=>I.d d ?_ d1,λ_=> .inl h⟩,by omega⟩;have:p.1%p.2+p.2*(p.1/p.2)=p.1:=Int.emod_add_mul_ediv p.1 p.2;rw [←this];exact Int.dvd_add d2 (Int.dvd_trans d1 (Int.dvd_mul_right _ _))
theorem GdI.done {g s:Int} {p:Int×Int} (I:GdI g s p) (h:p.2=0):0≤p.1∧p.1∣g∧p.1∣s∧(g≠0∨s≠0->0<p.1):=by
 have:=I.d p.1 (Int.dvd_refl _) (by rw [h];exact Int.dvd_zero _);refine ⟨I.a,this.1,this.2,λz=> ?_⟩;have:=I.a;rcases I.n z with w|w
 ·omega
 ·exact absurd h w
def DvI (l:Ji) (i:Nat) (g:Int):Prop:=0≤g∧(∀x∈l.take i,g∣x)∧((∃x∈l.take i,x≠0)->0<g)
theorem DvI.start {l:Ji}:DvI l 0 0:=⟨Int.le_refl _,by simp,by simp⟩
theorem DvI.step {l:Ji} {i:Nat} {g g' x:Int} (hx:l[i]?=some x) (I:DvI l i g) (h:0≤g'∧g'∣g∧g'∣((x.natAbs:Nat):Int)∧(g≠0∨((x.natAbs:Nat):Int)≠0->0<g')):DvI l (i+1) g':=by
 obtain ⟨h1,h2,h3,h4⟩:=h
 have hm:∀y∈l.take (i+1),y∈l.take i∨y=x:=λy hy=>by
  rw [List.take_add_one,hx] at hy;rcases List.mem_append.mp hy with hy|hy
  ·exact .inl hy
  ·exact .inr (by simpa using hy)
 have hxx:g'∣x:=by rw [←Int.dvd_natAbs];exact h3
 refine ⟨h1,λy hy=> ?_,λ⟨y,hy,hn⟩=>h4 ?_⟩
 ·rcases hm y hy with hy|rfl
  ·exact Int.dvd_trans h2 (I.2.1 y hy)
  ·exact hxx
 ·rcases hm y hy with hy|rfl
  ·have:=I.2.2 ⟨y,hy,hn⟩;exact .inl ↑0
  ·exact .inr ↑0
noncomputable def zgh (sw:Jq) (x:Ji):Jq:=List.map (λ(r:Ji)=>r++[(0:Int)]) sw++[x++[↥3]]
theorem zjo {l:Ji}:vec (l++[(0:Int)])=vec l:=by
 funext i;rw [zfj];split;·rfl
 ·rename_i h;rw [zc6 (l:=l) ↑0];cases q:i-l.length with|zero=>rfl|succ k=>rw [zbN];rfl
theorem zgc {l:Ji} {n:Nat} (h:l.length=n) (i:Nat):vec (l++[↥3]) i=vec l i-(if i=n then 1 else 0):=by
 rw [zfj,h];by_cases q:i<n;·rw [if_pos q,if_neg ↑0];omega
 ·rw [if_neg q,zc6 (l:=l) ↑0];by_cases z:i=n;·rw [if_pos z,z,Nat.sub_self];rfl
  ·rw [if_neg z];obtain ⟨k,hk⟩:∃k,i-n=k+1:=⟨i-n-1,by omega⟩;rw [hk,zbN];rfl
theorem zo6 {n:Nat} {sw:Jq} {x:Ji} (h:∀r∈sw,r.length=n) (hx:x.length=n):∀r∈zgh sw x,r.length=n+1:=λr hr=>by
 rcases List.mem_append.mp hr with hr|hr
 ·obtain ⟨s,hs,rfl⟩:=List.mem_map.mp hr;rw [List.length_append,h s hs];rfl
 ·rw [List.mem_singleton.mp hr,List.length_append,hx];rfl
theorem znt {b:Nat} {sw:Jq} {x:Ji} (h:∀r∈sw,Bit b r) (hx:Bit b x):∀r∈zgh sw x,Bit b r:=λr hr y hy=>by
 rcases List.mem_append.mp hr with hr|hr
 ·obtain ⟨s,hs,rfl⟩:=List.mem_map.mp hr;rcases List.mem_append.mp hy with hy|hy
  ·exact h s hs y hy
  ·rw [List.mem_singleton.mp hy];exact Nat.zero_le _
 ·rw [List.mem_singleton.mp hr] at hy;rcases List.mem_append.mp hy with hy|hy
  ·exact hx y hy
  ·rw [List.mem_singleton.mp hy];exact Nat.one_le_two_pow
theorem zuB {n:Nat} {sw:Jq} {x:Ji} (h:∀r∈sw,r.length=n) (hx:x.length=n) {v:Vc} (hv:SpL (zgh sw x) v):SpL sw (λi=>v i+v n*(vec x i-if i=n then 1 else 0)):=by
 have hv:Sp (λu=>(∃s∈sw,u=vec s)∨u=vec (x++[↥3])) v:=Sp.mono (λa ⟨r,hr,e⟩=>by
  rcases List.mem_append.mp hr with hr|hr
  ·obtain ⟨s,hs,rfl⟩:=List.mem_map.mp hr;exact .inl ⟨s,hs,by rw [e,zjo]⟩
  ·rw [List.mem_singleton.mp hr] at e;exact .inr e) hv
 obtain ⟨u,y,hu,e⟩:=hv.split;have u0:u n=0:=Sp.at0 (λa ⟨s,hs,e⟩=>by rw [e];exact zc6 (by rw [h s hs];exact Nat.le_refl _)) hu;have en:=e n;rw [u0,zgc hx,if_pos rfl,zc6 (l:=x) ↑0] at en;have hy:v n= -y:=by omega
 refine Sp.conv (A:=λu=>∃s∈sw,u=vec s) hu λi=> ?_;rw [e i,hy,zgc hx];grind
theorem zqV {n:Nat} {sw:Jq} {x:Ji} (hx:x.length=n) {d:Int} (h:SpL sw (λi=>d*vec x i)):SpL (zgh sw x) (λi=>if i=n then d else 0):=by
 have h1:SpL (zgh sw x) (λi=>d*vec x i):=Sp.mono (λa ⟨s,hs,e⟩=>⟨s++[(0:Int)],List.mem_append_left _ (List.mem_map.mpr ⟨s,hs,rfl⟩),by rw [e,zjo]⟩) h;have h2:SpL (zgh sw x) (vec (x++[↥3])):=Sp.mem ⟨_,List.mem_append_right _ (List.mem_singleton.mpr rfl),rfl⟩;refine (Sp.lin 1 (-d) h1 h2).conv λi=> ?_;rw [zgc hx];by_cases z:i=n;·rw [if_pos z,if_pos z];grind
 ·rw [if_neg z,if_neg z];grind
theorem zk6 {n:Nat}:∀ {R:Jq} {lo:Nat},Ech (n+1) lo R->R=List.filter (λ(t:Ji)=>decide (hd t<n)) R∨∃t,hd t=n∧R=List.filter (λ(t:Ji)=>decide (hd t<n)) R++[t]
 | [],_,_=>.inl rfl
 | t :: R,lo,e=>by
  obtain ⟨e1,e2,e3,e4,e5⟩:=e;by_cases q:hd t<n
  ·rw [List.filter_cons,if_pos (by simpa using q)];rcases zk6 e5 with z|⟨s,h1,h2⟩
   ·exact .inl (by rw [←z])
   ·exact .inr ⟨s,h1,by rw [List.cons_append,←h2]⟩
  ·have hR:R=[]:=by cases R with|nil=>rfl|cons s R=>have:=e5.2.1;have:=e5.2.2.1;omega
   subst hR;rw [List.filter_cons,if_neg (by simpa using q)];exact .inr ⟨t,by omega,rfl⟩
theorem zgU {n N:Nat} {p:Ji->Bool}:∀ {R:Jq} {lo:Nat},Ech N lo R->Ech N lo (List.filter p R)
 | [],_,_=>trivial
 | t :: R,lo,e=>by
  obtain ⟨e1,e2,e3,e4,e5⟩:=e;rw [List.filter_cons];split;·exact ⟨e1,e2,e3,e4,zgU (n:=n) e5⟩
  ·exact (zgU (n:=n) e5).mono ↑0
theorem zlu:∀ {ss:Jq} {t:Ji},prh (ss++[t])=prh ss*vec t (hd t)
 | [],t=>by show vec t (hd t)*1=1*vec t (hd t);omega
 | s :: ss,t=>by show vec s (hd s)*prh (ss++[t])=vec s (hd s)*prh ss*vec t (hd t);rw [zlu,Int.mul_assoc]
theorem ziY:∀ {w:Ji} {n:Nat} {u:Vc},w.length=n+1->dv w u=dv (w.take n) u+vec w n*u n
 | [a],0,u,_=>by show a*u 0+0=0+a*u 0;omega
 | a :: b :: w,n+1,u,h=>by show a*u 0+dv (b::w) (λi=>u (i+1))=a*u 0+dv ((b::w).take n) (λi=>u (i+1))+vec (a::b::w) (n+1)*u (n+1);rw [ziY (w:=b::w) (n:=n) (by simpa using h),zbN];omega
 | [a],n+1,u,h=>by simp at h
 | _ :: _ :: _,0,u,h=>by simp at h
 | [],_,u,h=>by simp at h
structure Shw (n:Nat) (sw:Jq) (x:Ji) (R ss:Jq):Prop where
 st:Stairs (n+1) (zgh sw x) R
 ss:ss=List.filter (λ(t:Ji)=>decide (hd t<n)) R
 hl:∀ r∈sw,r.length=n
 hx:x.length=n
section
variable {n:Nat} {sw:Jq} {x:Ji} {R ss:Jq}
theorem Shw.low (h:Shw n sw x R ss):∀t∈ss,t∈R∧hd t<n:=λt ht=>by rw [h.ss] at ht;obtain ⟨h1,h2⟩:=List.mem_filter.mp ht;exact ⟨h1,by simpa using h2⟩
theorem Shw.lv (h:Shw n sw x R ss):(lv (n+1) ss).length=n+1∧(∀t∈ss,dv (lv (n+1) ss) (vec t)=0)∧vec (lv (n+1) ss) n=prh ss∧0<prh ss:=by
 have e:Ech (n+1) 0 ss:=by rw [h.ss];exact zgU (n:=n) h.st.ech
 obtain ⟨h1,h2,h3,h4,h5⟩:=ztk e λt ht=>(h.low t ht).2;exact ⟨h1,h3,h4,h5⟩
theorem Shw.row (h:Shw n sw x R ss) {M:Int} (hM:∀t∈R,M∣dv (Lat.lv (n+1) ss) (vec t)):(∀s∈sw,M∣dv ↑53 (vec s))∧M∣dv ↑53 (vec x)-prh ss:=by
 obtain ⟨h1,h2,h3,h4⟩:=h.lv;have hs:∀r∈zgh sw x,M∣dv (Lat.lv (n+1) ss) (vec r):=λr hr=>ztM (λa ⟨t,ht,e⟩=>by rw [e];exact hM t ht) (h.st.out r hr);refine ⟨λs hs'=> ?_,?_⟩;·have:=hs (s++[(0:Int)]) (List.mem_append_left _ (List.mem_map.mpr ⟨s,hs',rfl⟩));rw [zjo,ziY h1,zc6 (l:=s) (by rw [h.hl s hs'];exact Nat.le_refl _)] at this;simpa using this
 ·have:=hs _ (List.mem_append_right _ (List.mem_singleton.mpr rfl));rw [ziY h1,zgc h.hx,if_pos rfl,zc6 (l:=x) (by rw [h.hx];exact Nat.le_refl _),h3] at this
  have e:dv ↑53 (vec (x++[↥3]))=dv ↑53 (vec x):=by
   have hl:(↑53).length≤n:=by rw [List.length_take];omega
   have:∀ {w:Ji} {u v:Vc},(∀i,i<w.length->u i=v i)->dv w u=dv w v:=by intro w;induction w with|nil=>intro u v _;rfl|cons a w ih=>intro u v q;show a*u 0+_=a*v 0+_;rw [q 0 ↥4,ih λi hi=>q (i+1) ↑44]
   exact this λi hi=>by rw [zgc h.hx,if_neg ↑0];omega
  rw [e] at this;have e2:dv ↑53 (vec x)+prh ss*(0-1)=dv ↑53 (vec x)-prh ss:=by omega
  rw [e2] at this;exact this
theorem Shw.line (h:Shw n sw x R ss) (e:R=ss):(∀s∈sw,dv ↑53 (vec s)=0)∧dv ↑53 (vec x)=prh ss∧∀d:Int,SpL sw (λi=>d*vec x i)->d=0:=by
 obtain ⟨h1,h2,h3,h4⟩:=h.lv;obtain ⟨r1,r2⟩:=h.row (M:=0) λt ht=>by rw [e] at ht;rw [h2 t ht];exact Int.dvd_refl _
 refine ⟨λs hs=>Int.zero_dvd.mp (r1 s hs),by have:=Int.zero_dvd.mp r2;omega,λd hd'=>Classical.byContradiction λhn=> ?_⟩;have hv:=zqV h.hx hd';have hv2:SpL R (λi=>if i=n then d else 0):=Sp.sub (A:=λu=>∃r∈zgh sw x,u=vec r) (λa ⟨r,hr,q⟩=>by rw [q];exact h.st.out r hr) hv;obtain ⟨t,ht,q⟩:=ziT (h:=n) h.st.ech hv2 (λi hi=>if_neg ↑0) (by rw [if_pos rfl];exact hn);rw [e] at ht;have:=(h.low t ht).2;omega
theorem Shw.rest (h:Shw n sw x R ss) {t:Ji} (ht:hd t=n) (e:R=ss++[t]):0<vec t n∧(∀s∈sw,prh ss*vec t n∣dv ↑53 (vec s))∧(prh ss*vec t n∣dv ↑53 (vec x)-prh ss)∧SpL sw (λi=>vec t n*vec x i)∧∀d:Int,SpL sw (λi=>d*vec x i)->vec t n∣d:=by
 obtain ⟨h1,h2,h3,h4⟩:=h.lv;have hm:t∈R:=by rw [e];exact List.mem_append_right _ (List.mem_singleton.mpr rfl)
 obtain ⟨t1,t2,t3,t4⟩:=h.st.ech.mem t hm;rw [ht] at t4
 have tz:∀i,i≠n->vec t i=0:=λi hi=>by
  by_cases q:i<n;·exact zcj ↑0
  ·exact zc6 ↑0
 obtain ⟨r1,r2⟩:=h.row (M:=prh ss*vec t n) λs hs=>by
  rw [e] at hs;rcases List.mem_append.mp hs with hs|hs
  ·rw [h2 s hs];exact Int.dvd_zero _
  ·rw [List.mem_singleton.mp hs,ziY h1,h3]
   have:dv ↑53 (vec t)=0:=by
    have hl:(↑53).length≤n:=by rw [List.length_take];omega
    have:∀ {w:Ji} {u:Vc},(∀i,i<w.length->u i=0)->dv w u=0:=by intro w;induction w with|nil=>intro u _;rfl|cons a w ih=>intro u q;show a*u 0+_=0;rw [q 0 ↥4,ih λi hi=>q (i+1) ↑44];omega
    exact this λi hi=>tz i ↑0
   rw [this,Int.zero_add];exact Int.dvd_refl _
 refine ⟨t4,r1,r2,?_,λd hd'=> ?_⟩
 ·refine (zuB h.hl h.hx (h.st.inn t hm)).conv λi=> ?_;by_cases q:i=n;·subst q;rw [if_pos rfl,zc6 (l:=x) (by rw [h.hx];exact Nat.le_refl _)];omega
  ·rw [if_neg q,tz i q,Int.sub_zero,Int.zero_add]
 ·have hv:=zqV h.hx hd';have hv2:SpL R (λi=>if i=n then d else 0):=Sp.sub (A:=λu=>∃r∈zgh sw x,u=vec r) (λa ⟨r,hr,q⟩=>by rw [q];exact h.st.out r hr) hv;have:=zkE h.st.ech hv2 hm (λi hi=>if_neg ↑0);rw [ht,if_pos rfl] at this;exact this
end
end Lat
namespace L2
open PySem PySem.Spec PyProof.Rows
section
variable {Γ:Ctx} {m:Bool} {K:W.Frag} {ta:TE} {α:Type} {f:α->Ds} {cl:α->Addr} {fs:α->List (Str×Ds)}
end
end L2
namespace L2
open PySem PySem.Spec PyProof.Rows
structure CalleeM (P:Program) (w:World) (K:W.Frag) (mg:Str->Option Value) (base:Heap) (CX:CXT) (k:Nat) (C:Addr) (m:Str) (ps:List Str) (sp:Sp):Prop where
 ex:∃ f fd,FnOk P w K mg base CX k f fd ps sp∧Meth K C m f∧zeW K fd ps []
def zwA (t u:TE):TE:=λσ H Q=>t σ H Q∨u σ H Q
section
variable {X:Cx} {CX:CXT} {k:Nat} {C:Addr} {ps:List Str} {sp:Sp} {E:XK} {m:Str} {pos apos:Pos} {o e:Expr} {es:List Expr} {ta:TE} {t:TA}
theorem zgX {pl:Sem Bool} (he:PE X o ta) (c:Cls X.K C) (F:CalleeM X.prog X.w X.K X.mg X.base CX k C m ps sp) (hr:Room k X.A) (hx:zfQ CX X E) (ha:PA X (e::es) t)
  (hst:starEach (e::es) X.env=(false,eval e X.env)::starEach es X.env:=by rfl) (hpl:(↑76).any (·.1)=false:=by rfl)
  (ht:eval ↑92 X.env=(do
   let ov←eval o X.env
   standAt apos.atName
   let (f,first)←holding [ov] (getMethod ov m pl)
   callWith pos f first (backTo pos (starEach (e::es) X.env)) (backToKw pos (keywordEach [] X.env))):=by rfl) :
  PE X ↑92 (zqx C m sp [] E ta t):=by obtain ⟨f,fd,G,hm,hb⟩:=F.ex;exact zrX he c hm G hr hb .nil hx ha hst hpl ht
theorem Ev.inl {Γ:Ctx} {t u:TE} {b:Bool} {d:Ds} (h:Ev Γ t b d):Ev Γ (zwA t u) b d:=λF0 Hb F H σ own Q a k=> .inl (h F0 Hb F H σ own Q a k)
theorem Ev.inr {Γ:Ctx} {t u:TE} {b:Bool} {d:Ds} (h:Ev Γ u b d):Ev Γ (zwA t u) b d:=λF0 Hb F H σ own Q a k=> .inr (h F0 Hb F H σ own Q a k)
end
section
variable {Γ:Ctx} {ta tb tc:TE} {m:Bool}
end
section
variable {E:XS} {Γ:Ctx} {m:Bool} {K:W.Frag} {te:TE} {u:TS} {α β:Type}
end
end L2
namespace L2
open PySem PySem.Spec PyProof.Rows
def orX (t u:TEX):TEX:=λσ H Q E=>t σ H Q E∨u σ H Q E
section
variable {X:Cx} {a b e o:Expr} {es:List Expr} {pos apos:Pos} {k:Nat} {C:Addr} {ps:List Str} {sp:Sp} {m:Str} {tb to:TE} {ta:TEX} {t:TA}
end
def EvX {α ε:Type} [XF ε] (xc:ε->Addr) (Γ:Ctx) (te:TEX) (m:Bool) (d:α->Ds) (r:Except ε α):Prop:=∀(F0 Hb F H:Hp) (σ:St) (own:Nat->Option Addr) (Q:VK) (E:XK),At F0 Hb F H σ own Γ→(match r with| .ok v=>∀v' F' H',Grow F H F' H'->(d v).pr (zfZ m F' Hb) v'->Q v' H'| .error e=>∀dct F' H',Grow F H F' H'->xφ e F' dct->E (.ref (xc e)) dct H')->te σ H Q E
section
variable {α β ε:Type} [XF ε] {xc:ε->Addr} {Γ Γx:Ctx} {te:TEX} {tb:TE} {m m0:Bool} {d:α->Ds} {r:Except ε α} {ds:List Ds} {u:TS} {E:XS}
theorem EvX.inl {t u:TEX} (h:EvX xc Γ t m d r):EvX xc Γ (orX t u) m d r:=λF0 Hb F H σ own Q E a k=> .inl (h F0 Hb F H σ own Q E a k)
theorem EvX.inr {t u:TEX} (h:EvX xc Γ u m d r):EvX xc Γ (orX t u) m d r:=λF0 Hb F H σ own Q E a k=> .inr (h F0 Hb F H σ own Q E a k)
end
end L2
namespace L2
open PySem PySem.Spec PyProof.Rows
section
variable {P:Program} {w:World} {K:W.Frag} {mg:Str->Option Value} {base:Heap} {x qual:Str} {st:Stmt} {f:Addr} {fd:FuncData} {N ps:List Str} {k:Nat}
end
section
variable {X:Cx} {k:Nat} {f C:Addr} {fd:FuncData} {ps:List Str} {sp:Sp} {x:Str} {p pos:Pos} {e:Expr} {es:List Expr} {t:TA}
end
section
variable {E:XS} {Γ Γx:Ctx} {u t:TS} {o:Oc} {ds:List Ds} {tr:TA} {K:W.Frag} {m:Bool} {ta:TE}
end
end L2
namespace Lat
open L2
end Lat
namespace L2
open PySem PySem.Spec PyProof.Rows
structure T6 (α β γ δ ε ζ:Type) where
 a:α
 b:β
 c:γ
 d:δ
 e:ε
 f:ζ
section
variable {E:XS} {Γ:Ctx} {m:Bool} {K:W.Frag} {te:TE} {u:TS} {α β:Type}
end
end L2
namespace PySem
open Sem (wp)
namespace F
end F
abbrev zub (h:Heap) (T:Addr) (a b c:Value):Prop:=h.get? T=some {cls:= .type "tuple",data:= .seq #[a,b,c]}
structure Zip3 (h:Heap) (n:Nat) (l1 l2 l3:Addr) (k:Nat) (f0:Value):Prop where
 z:IsZip h (n+5) (n+3) (n+4) f0
 ti:zub h (n+3) (.ref n) (.ref (n+1)) (.ref (n+2))
 to:∃ a b c,zub h (n+4) a b c
 i1:h.IsListIter n l1 k
 i2:h.IsListIter (n+1) l2 k
 i3:h.IsListIter (n+2) l3 k
section
variable {prog:Program} {w:World} {A:Around} {E:Value->Shared->Prop} {s:Shared} {n k:Nat} {l1 l2 l3:Nat}
end
section
variable {prog:Program} {w:World} {A:Around} {E:Value->Shared->Prop} {s:Shared}
end
end PySem
namespace L2
open PySem PySem.Spec PyProof.Rows
section
variable {X:Cx}
end
section
variable {Γ:Ctx} {m:Bool} {K:W.Frag} {γ δ ε:Type}
end
end L2
namespace L2
open PySem PySem.Spec PyProof.Rows
structure T4 (α β γ δ:Type) where
 a:α
 b:β
 c:γ
 d:δ
 deriving Inhabited
def zwF:Slot->Bool
 | .tl _=>false
 | _=>true
theorem At.shareB {F0 Hb F H:Hp} {σ:St} {own:Nat->Option Addr} {Γ:Ctx} (a:At F0 Hb F H σ own Γ) {i:Nat} {m:Bool} {C p dx:Addr} {fs:List (Str×Ds)} (e:Γ[i]? =some (.ob m C p dx fs)) (ht:Γ.all zwF=true) :
  ∃F' own',Grow F0 Hb F' H∧At F0 Hb F' H σ own' (Γ.set i (.va m (dO C fs))):=by
   obtain ⟨vs,e1,e2,hf,hb,hp,hq⟩:=a.sl i _ e;have ne:dx≠p:=zjJ hp.2 hp.1 (by intro z;cases z);have g:=(a.g.take hb.1 hp.1).take hb.2 hp.2;have n3:upd F p (.ins C dx vs) dx=none:=by rw [zam ne];exact hf.2
   have fs':Same F (upd (upd F p (.ins C dx vs)) dx (.own p)):=(Same.new hf.1 _).trans (Same.new n3 _);refine ⟨upd (upd F p (.ins C dx vs)) dx (.own p),λj=>if j=i then none else own j,g,g,λj k q h1 h2=> ?_,λj q h1=> ?_,λj s es=> ?_,by simp [a.len]⟩
   ·skip;split at h1;·cases h1
    ·split at h2;·cases h2
     ·exact a.inj j k q h1 h2
   ·skip;split at h1;·cases h1
    ·exact a.liv j q h1
   ·by_cases z:i=j;·subst z;have hi:i<Γ.length:=(↑42).1;rw [List.getElem?_set_self hi] at es;cases es;exact ⟨.ref p,e1,p,dx,vs,rfl,zdZ hb.1 (by rw [zam (Ne.symm ne)];exact zat),zdZ hb.2 zat,zbD (λ_ b z=>⟨z.1,b.2.up (zbe fs') z.2⟩) hq⟩
    ·rw [List.getElem?_set_ne z] at es;have z':¬j=i:=Ne.symm z;have:=a.sl j s es
     cases s with
      |no=>trivial
      |tl d=>have:=List.all_eq_true.mp ht _ (List.mem_of_getElem? es);cases this
      |va m d=>obtain ⟨x,h1,h2⟩:=this;exact ⟨x,h1,d.up (zbe fs') h2⟩
      |ow m ds=>
       obtain ⟨q,us,h1,h2,h3,h4,h5,h6⟩:=this;have n1:q≠p:=λw=>by subst w;exact z (a.inj i j q e2 h2)
       have n2:q≠dx:=zjJ h5 hp.2 (by intro z;cases z);exact ⟨q,us,h1,(if_neg z').trans h2,by rw [zam n2,zam n1];exact h3,h4,h5,zds (ds:=[]) (zbe fs') h6⟩
      |ol q ds=>
       obtain ⟨us,h1,h2,h3,h4,h5,h6⟩:=this;have n1:q≠p:=λw=>by subst w;exact z (a.inj i j q e2 h2)
       have n2:q≠dx:=zjJ h5 hp.2 (by intro z;cases z);exact ⟨us,h1,(if_neg z').trans h2,by rw [zam n2,zam n1];exact h3,h4,h5,zds (ds:=[]) fs' h6⟩
      |ob m C q dy gs=>
       obtain ⟨us,h1,h2,h3,h4,h5,h6⟩:=this;have n1:q≠p:=λw=>by subst w;exact z (a.inj i j q e2 h2)
       have n2:dy≠p:=zjJ h5.2 hp.1 (by intro z;cases z);have n3:q≠dx:=zjJ h5.1 hp.2 (by intro z;cases z);have n4:dy≠dx:=λw=>by have:=h5.2;rw [w,hp.2] at this;cases this;exact n1 rfl
       exact ⟨us,h1,(if_neg z').trans h2,⟨by rw [zam n3,zam n1];exact h3.1,by rw [zam n4,zam n2];exact h3.2⟩,h4,h5,zbD (λ_ b z=>⟨z.1,b.2.up (zbe fs') z.2⟩) h6⟩
section
variable {Γ:Ctx} {te:TE} {d:Ds} {i:Nat} {m:Bool}
end
section
variable {Γ:Ctx} {te:TE} {d d1 d2 d3:Ds} {i i1 i2 i3:Nat} {m m1 m2:Bool} {v v1 v2:V} {f g k:Str} {C:Addr}
variable {ι:Type} {a1 a2 a3 b3:ι->Ds} {pre:ι->Prop} {ds:List Ds} {tr:TA} {E:XK}
end
section
variable {E:XS} {Γ:Ctx} {m:Bool} {K:W.Frag} {tj:TE} {u:TS} {o:Oc} {i:Nat}
end
end L2
namespace Lat
open L2
section
variable {α β:Type}
end
section
variable {W:Nat} {ds im Bs:Jq} {u v:Vc}
end
end Lat
namespace L2
open PySem PySem.Spec PyProof.Rows
end L2
namespace L2
open PySem PySem.Spec PyProof.Rows
def FA (K:W.Frag) (f:Addr) (sn n:Str) (st:Stmt):Prop:=∃(oc kV dc pm cd ct:Value) (od an:Option Addr) (sl:Array (Option Value)),K.lookup f=some ⟨oc,od,.func (W.fnOf sn n (zf1 st) (zed st) (zaf st) .none kV dc pm an cd ct),sl⟩∧W.codeIn K cd n=true∧W.keepIn K (.ref f)=true
theorem FA.m {K:W.Frag} {f:Addr} {sn n:Str} {st:Stmt} {oc kV dc pm cd ct:Value} {od an:Option Addr} {sl:Array (Option Value)} (l:K.lookup f=some ⟨oc,od,.func (W.fnOf sn n (zf1 st) (zed st) (zaf st) .none kV dc pm an cd ct),sl⟩) (c:W.codeIn K cd n=true) (k:W.keepIn K (.ref f)=true):FA K f sn n st:=⟨_,_,_,_,_,_,_,_,_,l,c,k⟩
theorem zud {K:W.Frag} {f:Addr} {sn n:Str} {st:Stmt} (q:FA K f sn n st):∃fd,Fun K sn n st f fd:=by obtain ⟨_,_,_,_,_,_,_,_,_,l,c,k⟩:=q;exact ⟨_,zqJ (st:=st) l c k⟩
noncomputable def FA.fd {K:W.Frag} {f:Addr} {sn n:Str} {st:Stmt} (q:FA K f sn n st):FuncData:=Classical.choose (zud q)
theorem FA.f {K:W.Frag} {f:Addr} {sn n:Str} {st:Stmt} (q:FA K f sn n st):Fun K sn n st f q.fd:=Classical.choose_spec (zud q)
theorem FA.k {K:W.Frag} {f:Addr} {sn n:Str} {st:Stmt} (q:FA K f sn n st):W.keepIn K (.ref f)=true:=by obtain ⟨_,_,_,_,_,_,_,_,_,l,c,k⟩:=q;exact k
theorem cm (l:W.OpenLaw) (w:World) (base:Heap) {K:W.Frag} {mg:Str->Option Value} {k:Nat} {x:Str} {f:Addr} {fd:FuncData} {ps:List Str} {sp:Sp} (h:FnOk l.prog w K mg base (CXE l.prog w) k f fd ps sp) (m:mg x=some (.ref f)) (z:W.keepIn K (.ref f)=true) (b:zeW K fd ps []):Callee l.prog w K mg base (CXE l.prog w) k x ps sp:=⟨_,_,h,m,z,b⟩
end L2
namespace Lat
section
variable {n s i:Nat} {rows ss more:Jq} {r x:Ji}
end
end Lat
namespace Lat
open L2
section
variable {n m:Nat} {B S ss:Jq} {u v:Vc}
end
section
variable {n k s:Nat}
end
end Lat
namespace L2
open PySem PySem.Spec PyProof.Rows
end L2
namespace L2
open PySem PySem.Spec PyProof.Rows
end L2
namespace Lat
open L2
end Lat
namespace L2
open PySem PySem.Spec PyProof.Rows PySem.Builtin PySem.Builtin.ObjectAttr
abbrev bmV:List Value:=[.type "ValueError",.type "Exception",.type "BaseException",.type "object"]
def XL (K:W.Frag) (C S:Addr):Prop:=∃nm q N bs sn sub ab col dd k0 k1 k2 k3 k5,K.lookup C=some (excClassObj nm q C N bs (.ref S::bmV) true sn sub ab col dd k0 k1 k2 k3 k5 "ValueError.__new__")
structure XIni (K:W.Frag) (C S f:Addr) (n:Str):Prop where
 cl:XL K C S
 up:W.excIn K S bmV "ValueError.__new__"=true
 ini:W.findIn K (.ref C) "__init__"=some (some (.ref f))
 fn:W.isFn K (.ref f)=true
 sa:W.findIn K (.ref C) "__setattr__"=some ↑74
 na:W.findIn K (.ref C) n=some none
 ob:W.mroIn K C (.type "object")=some true
section
variable {prog:Program} {w:World} {A:Around} {E:Value->Shared->Prop} {K:W.Frag} {h:Heap} {g:Array GenState} {d:Drawn} {t:Nat} {os:OsState}
variable {nm q:Str} {C N S fI:Addr} {bs bm:List Value} {hdct:Bool} {sn:List Str} {sub:List Value} {ab:Bool} {col:Option Bool} {dd:Option Addr} {k0 k1 k2 k3 k5:Option Value} {n:Str}
theorem XIni.tail (x:XIni K C S fI n) (X:K.In h):OwnTail h bmV (.ref S::bmV):=by obtain ⟨tl,N,nm,q,bs,hdct,sn,sub,ab,col,dd,k0,k1,k2,k3,k5,mN,hC,hN,hni,T⟩:=exc_obj X x.up;exact .own hC hN hni .base
end
section
variable {prog:Program} {w:World} {A:Around} {E:Value->Shared->Prop} {K:W.Frag} {s:Shared} {x C S fI:Addr} {n:Str} {v:Value} {ox:Obj} {vs:Array Value}
end
section
variable {prog:Program} {w:World} {A:Around} {E:Value->Shared->Prop} {K:W.Frag} {s:Shared} {x C S fI dd:Addr} {n:Str} {v:Value} {ox:Obj} {vs:Array Value} {mA:Str->Option Value} {ns:List Str}
end
section
variable {X:Cx} {pins:List ↑4} {σ:St} {H:Hp} {s:Shared} {a C S fI:Addr} {vs:Array Value} {f:Str}
end
section
variable {P:Program} {w:World} {K:W.Frag} {mg:Str->Option Value} {base:Heap} {x qual n n' a b c:Str} {st:Stmt} {f C S fI fI':Addr} {fd:FuncData} {k:Nat} {p1 p2 p3 p4 p5 p6 p7 p8:Pos}
end
section
variable {prog:Program} {w:World} {A:Around} {E:Value->Shared->Prop} {s:Shared} {env:Env} {K:W.Frag}
variable {nm q:Str} {C N fI:Addr} {bs bm:List Value} {hdct:Bool} {sn:List Str} {sub:List Value} {ab:Bool} {col:Option Bool} {dd:Option Addr} {k0 k1 k2 k3 k5:Option Value}
end
section
variable {X:Cx} {k:Nat} {ps:List Str} {x n:Str} {ns:List Str} {pos:Pos} {e:Expr} {es:List Expr} {t:TA} {C S f:Addr} {fd:FuncData}
end
section
variable {prog:Program} {w:World} {A:Around} {E:Value->Shared->Prop} {K:W.Frag} {C a:Addr} {h:Heap} {g:Array GenState} {d:Drawn} {t:Nat} {os:OsState} {f:Str} {v:Value} {od:Obj} {ox:Obj}
end
section
variable {E:XS} {Γ Γx:Ctx} {m:Bool} {K:W.Frag} {α β ε:Type} [XF ε] {u:TS} {o:Oc} {ds:List Ds}
theorem zis {α β:Type} {R S:α->β->Prop}:∀ {xs:List α} {ys:List β},Paired R xs ys->(∀a∈xs,∀b,R a b->S a b)->Paired S xs ys
 | _,_,.nil,_=>.nil
 | _,_,.cons q t,h=> .cons (h _ List.mem_cons_self _ q) (zis t λa ha b=>h a (List.mem_cons_of_mem _ ha) b)
end
instance:Inhabited (Str ⊕ Int):=⟨.inl default⟩
section
variable {Γ:Ctx} {ta:TE} {m:Bool} {x:Str ⊕ Int}
end
section
variable {P:Program} {w:World} {K:W.Frag} {mg:Str->Option Value} {base:Heap} {x qual:Str} {st:Stmt} {f:Addr} {fd:FuncData} {N ps:List Str} {k:Nat}
end
end L2
namespace L2
open PySem PySem.Spec PyProof.Rows
theorem zfp {X:Cx} {K:W.Frag} (hK:X.K=K):OpR X (compareOp .In) (rIn K false):=by subst hK;exact znM
section
variable {E:XS} {Γ:Ctx} {m:Bool} {K:W.Frag} {te tj tk:TE} {u:TS} {o:Oc} {i:Nat} {nss:Jq}
theorem At.rows {F0 Hb F H H1:Hp} {σ:St} {own:Nat->Option Addr} {p r:Addr} {vs ws:List V} {nss':Jq} {ns:Ji} (a:At F0 Hb F H σ own Γ) (e:Γ[i]? =some (.tl (dRI nss))) (hno:zs0 Γ=true) (es:σ[i]? =some (some (.ref p))) (ep:H p=some (.lst vs)) (hH:Same H H1) (r1:H r=none) (r3:H1 r=some (.lst (ns.map V.int)))
  (hw:∀R:Hp,R r=none->R p=some (.lst vs)->vs.Nodup->V.ref p∉vs->Paired (zrT R) vs nss->ws.Nodup∧V.ref p∉ws∧Paired (zrT (upd (upd R p (.lst ws)) r (.lst (ns.map V.int)))) ws nss') :
  At F0 Hb F (upd H1 p (.lst ws)) σ own ((unC Γ).set i (.tl (dRI nss'))):=by
   obtain ⟨x,R,h1,h2,h3,h4,p',vs',rfl,h6,h7,h8,h9⟩:=a.sl i _ e;have hi:i<σ.length:=by rw [a.len];exact (↑42).1
   rw [es] at h1;have h1:V.ref p= .ref p':=Option.some.inj h1;cases h1;have z:=h2 _ _ h6;rw [ep] at z;cases z;have rp:r≠p:=λz=>by rw [z,ep] at r1;cases r1
   have pF:=h3 p _ h6;have pO:∀l,own l≠some p:=λl z=>by rw [h4 l p z] at h6;cases h6
   have a1:=(a.grow (Grow.only a.fh hH)).spoil hno (.lst ws) pF.1 pF.2 pO;have rF:F r=none:=a.fh.free r1;have Rr:R r=none:=by cases y:R r with|none=>rfl|some o=>have:=h2 _ _ y;rw [r1] at this;cases this
   obtain ⟨w1,w2,w3⟩:=hw R Rr h6 h7 h8 h9;refine ⟨a1.g,a1.inj,a1.liv,λl s es'=> ?_,by rw [List.length_set];exact a1.len⟩;by_cases z:i=l
   ·subst z;rw [List.getElem?_set_self (by rw [←a1.len];exact hi)] at es';cases es';rw [es];refine ⟨.ref p,upd (upd R p (.lst ws)) r (.lst (ns.map V.int)),rfl,λb w q=> ?_,λb w q=> ?_,λl' b q=> ?_,p,ws,rfl,by rw [zam (Ne.symm rp),zat],w1,w2,w3⟩
    ·by_cases y:b=r;·subst y;rw [zat] at q;cases q;rw [zam rp];exact r3
     ·rw [zam y] at q;by_cases y2:b=p;·subst y2;rw [zat] at q ⊢;exact q
      ·rw [zam y2] at q ⊢;exact hH _ _ (h2 _ _ q)
    ·by_cases y:b=r;·subst y;exact ⟨rF,a.g.h.free r1⟩
     ·rw [zam y] at q;by_cases y2:b=p;·subst y2;exact pF
      ·rw [zam y2] at q;exact h3 b w q
    ·have y:b≠r:=λy=>a.liv l' b q (by rw [y];exact r1);have y2:b≠p:=λy=>pO l' (y ▸ q);rw [zam y,zam y2];exact h4 l' b q
   ·rw [List.getElem?_set_ne z] at es';exact a1.sl l s es'
end
end L2
namespace L2
open PySem PySem.Spec PyProof.Rows
def Slot.loose:Slot->Prop
 | .tl _=>True
 | .va _ _=>True
 | _=>False
end L2
namespace L2
open PySem PySem.Spec PyProof.Rows
def Its (x:Str):It:=⟨λi _=>i<x.cps.size,λi H v H'=>H'=H∧∃c,x.cps[i]? =some c∧v= .str ⟨#[c]⟩,λi _=>x.cps.size≤i⟩
theorem zqe {P:Program} {w:World} {K:W.Frag} {tg:Expr} (it:Addr) (x:Str) (t:Tok):Turn P w K tg (Its x) [it] it (λi h=>h.IsStrIter it "str_ascii_iterator" x t i) where
 mem:=by simp
 obj:=λi h st b hb=>by
  have e:b=it:=by simpa using hb
  subst e
  obtain ⟨o,e,c,d⟩:=st
  exact ⟨o,e,λv z=>by rw [d] at z;cases z⟩
 keep:=λi h h' st k=>by
  obtain ⟨o,e,c,d⟩:=st
  exact ⟨o,k it ↥4 o e,c,d⟩
 item:=by
  intro X hP hw hK hc i pins s σ H E I hf st hg
  subst hP hw hK
  obtain ⟨f0,f1,f2,f3,f4,f5⟩:=hf it ↥4
  have hg:i<x.cps.size:=hg
  refine wpAny_pyNext_ascii_item st (c:=x.cps[i]) (by simp [hg]) λh' st' sb=>?_
  have I1:Inv X pins σ H { s with heap:=h',toks:=s.toks+1 }:=I.turned (t':=s.toks+1) (λb o hb e=>sb.extBut b o hb e) f0 f1 f3 f4 f5
  obtain ⟨o,e,c,d⟩:=id st'
  exact ⟨_,rfl,zqh (s:={ s with heap:=h',toks:=s.toks+1 }) e c d ↥1 ⟨.str ⟨#[x.cps[i]]⟩,H,I1,⟨_,rfl⟩,⟨rfl,x.cps[i],by simp [hg],rfl⟩,st',λb hb=>(hf b hb).1⟩⟩
 done:=by
  intro X hP hw hK hc i pins s σ H E I hf st hg
  subst hP hw hK
  obtain ⟨f0,f1,f2,f3,f4,f5⟩:=hf it ↥4
  exact wpAny_pyNext_ascii_end (I.ok.hd hc) st (by have hg:x.cps.size≤i:=hg;simp [hg]) λh' eb=>↑112
 self:=λ_ _ _ _ _ st h=>wpAny_pyIter_striter_ascii st h
def zwN (tl:TE):TI:=λσ H R=>tl σ H λv H1=>∃x,v= .str x∧x.cps.all (· <128)=true∧R (Its x) H1
theorem ztt {X:Cx} {tg l:Expr} {tl:TE} (hl:PE X l tl):PI X tg l (zwN tl):=by
 intro pins s σ H R I h;refine thn (hl pins s σ H _ I h) λv s1 ⟨y,H1,I1,r1,q1⟩=> ?_;obtain ⟨x,e,ha,q⟩:=q1;subst e;obtain ⟨t,rfl⟩:=(show∃t,v=Value.str x t from r1);refine wpAny_pyIter_ascii ha ?_;refine ⟨s1.heap.objs.size,[s1.heap.objs.size],_,_,H1,rfl,I1.kept (t':=s1.toks) λb o e=>Heap.get?_push_of_some _ e,zqe _ x t,⟨_,Heap.get?_push_size _ rfl,rfl,rfl⟩,λb hb=> ?_,q⟩;have e:b=s1.heap.objs.size:=by simpa using hb
 subst e;exact I1.fpOk ↑8 (I1.hok.fresh ↑8)
end L2
namespace L2
open PySem PySem.Spec PyProof.Rows
theorem zmj:∀(l:List (Str×Tok)),zbL ((l.map (·.1)).map V.str) (strValues l)
 | []=>.nil
 | (x,t) :: l=> .cons ⟨t,rfl⟩ (zmj l)
theorem zmH {X:Cx}:zeb X (.builtin "str.split") (λxs H Q=>∃x y,xs=[.str x,.str y]∧(y.length==0)=false∧x.length≤sizeLine∧(Txt.split x y).length≤sizeLine∧(Builtin.Str.partsBetween x (Builtin.Str.occurrences x y 0 x.length (x.length+1)) y.length).length≤sizeLine∧∀l,H l=none->Q (.ref l) (upd H l (.lst ((Txt.split x y).map V.str)))):=by
 intro pins s σ H xs us Q I r h;obtain ⟨x,y,rfl,hy,hz,hz1,hz2,q⟩:=h;obtain ⟨u1,u2,rfl,r1,r2⟩:=zoi r;obtain ⟨t,rfl⟩:=(show∃t,u1=Value.str x t from r1);obtain ⟨u,rfl⟩:=(show∃t,u2=Value.str y t from r2);have fin:∀(l:List (Str×Tok)) (k:Nat),l.map (·.1)=Txt.split x y->EP X pins σ Q (.ref s.heap.objs.size) {s with heap:=s.heap.push {cls:= .type "list",data:= .seq (strValues l).toArray},toks:=k}:=λl k e=>⟨.ref s.heap.objs.size,_,I.laid (t':=k) (λb o e=>Heap.get?_push_of_some _ e) ↑8 (show zdT X.prog X.w _ _ _ (.lst ((Txt.split x y).map V.str)) from ⟨by rw [List.length_map];exact hz1,strValues l,0,by rw [←e];exact zmj l,Heap.get?_push_size _ rfl⟩),rfl,q _ (I.hok.fresh ↑8)⟩;refine wpAny_call (codeAny_call_builtin F.slot_str_split.plain F.entry_str_split (F.slot_str_split.check _ _ _ _ _ _ _ _ (typeIs_str _ _ _) (F.args_str_split_2 _ _) ?_))
 cases h1:(decide (x.length<y.length)||decide (Builtin.Str.strKind x<Builtin.Str.strKind y)) with
  |true=>exact meets_str_split_cannot_occur x y t u h1 X.prog X.w X.A (wants ↑41 X.xe) s (fin [(x,t)] s.toks (if_pos h1).symm)
  |false=>cases hf:(Builtin.Str.occurrences x y 0 x.length (x.length+1)).isEmpty with|true=>exact meets_str_split_not_found x y t u h1 hy hf X.prog X.w X.A (wants ↑41 X.xe) s (fin [(x,t)] s.toks ((if_neg (ne_true_of_eq_false h1)).trans (if_pos hf)).symm)|false=>refine meets_str_split_sep x y t u h1 hy hf hz hz2 X.prog X.w X.A (wants ↑41 X.xe) s ?_;dsimp only;rw [strsFrom_eq];exact fin (numbered s.toks _) _ ((numbered_texts _ _).trans ((if_neg (ne_true_of_eq_false h1)).trans (if_neg (ne_true_of_eq_false hf))).symm)
end L2
namespace L2
open PySem PySem.Spec PyProof.Rows
theorem zjE:∀ {ys:List Str} {its:List Value},zbL (ys.map V.str) its->∃l:List (Str×Tok),strValues l=its∧l.map (·.1)=ys
 | [],its,r=>by cases r;exact ⟨[],rfl,rfl⟩
 | y :: ys,its,r=>by
  cases r with
   |cons r1 r2=>obtain ⟨t,rfl⟩:=(show∃t,_=Value.str y t from r1);obtain ⟨l,e1,e2⟩:=zjE r2;exact ⟨(y,t)::l,by rw [←e1];rfl,by rw [List.map_cons,e2]⟩
theorem znX {X:Cx}:zeb X (.builtin "str.join") (λxs H Q=>∃x a ys,xs=[.str x,.ref a]∧SqL X.K H a (ys.map V.str)∧JoinOk x ys=true∧Q (.str (Txt.join x ys)) H):=by intro pins s σ H xs us Q I r h;obtain ⟨x,a,ys,rfl,hq,hok,q⟩:=h;obtain ⟨u1,u2,rfl,r1,r2⟩:=zoi r;obtain ⟨t,rfl⟩:=(show∃t,u1=Value.str x t from r1);cases r2;obtain ⟨its,rv,p,hz⟩:=I.list hq;obtain ⟨l,rfl,rfl⟩:=zjE rv;unfold JoinOk at hok;rw [Bool.not_eq_true'] at hok;refine wpAny_call (codeAny_call_builtin F.slot_str_join.plain F.entry_str_join (F.slot_str_join.check _ _ _ _ _ _ _ _ (typeIs_str _ _ _) (F.args_str_join_2 _ _) ?_));exact meets_str_join_list x t a l hok X.prog X.w X.A (wants ↑41 X.xe) s ⟨p.isList,post_join l ⟨joinFit_length hok,λt' k=>⟨.str _,H,I.tok _,⟨_,rfl⟩,q⟩⟩⟩
theorem zqa {X:Cx}:MtR X "str.split" ↑117:=by intro pins s σ H x vs v us Q I rx rv h;obtain ⟨i,j,⟨rfl,rfl⟩,h⟩:=h;exact zmH pins s σ H _ (v::us) Q I (.cons rx rv) ⟨i,j,rfl,h⟩
theorem zsv {X:Cx}:MtR X "str.join" (λx vs H Q=>∃i a ys,(x= .str i∧vs=[.ref a])∧SqL X.K H a (ys.map V.str)∧JoinOk i ys=true∧Q (.str (Txt.join i ys)) H):=by intro pins s σ H x vs v us Q I rx rv h;obtain ⟨i,a,ys,⟨rfl,rfl⟩,h⟩:=h;exact znX pins s σ H _ (v::us) Q I (.cons rx rv) ⟨i,a,ys,rfl,h⟩
theorem zi6 (k:Str):∀ {l:List (Str×Tok)} (j:Nat) (h1:j<(strValues l).length) (h2:j<(l.map (·.1)).length),isStrOf k (strValues l)[j]=((l.map (·.1))[j]==k)
 | (x,t) :: l,0,_,_=>by show isStrOf k (.str x t)=(x==k);rfl
 | p :: l,j+1,h1,h2=>zi6 k (l:=l) j (Nat.lt_of_succ_lt_succ h1) (Nat.lt_of_succ_lt_succ h2)
theorem zjZ {k:Str}:∀ {ns:List Str} {j:Nat},j<ns.idxOf k->∀(h2:j<ns.length),(ns[j]==k)=false
 | n :: r,0,h,_=>by
  by_cases e:n=k;·subst e;simp at h
  ·simpa using e
 | n :: r,j+1,h,h2=>by
  by_cases e:n=k;·subst e;simp at h
  ·have e':(n==k)=false:=by simpa using e
   rw [List.idxOf_cons,e'] at h;exact zjZ (ns:=r) (j:=j) (by simpa using h) _
theorem zpI {X:Cx}:MtR X "list.index" (λx vs H Q=>∃(a:Addr) (ys:List Str) (k:Str),(x= .ref a∧vs=[.str k])∧SqL X.K H a (ys.map V.str)∧k∈ys∧Q (.int ((ys.idxOf k:Nat):Int)) H):=by
 intro pins s σ H x vs v us Q I rx rv h;obtain ⟨a,ys,k,⟨rfl,rfl⟩,hq,hk,q⟩:=h;cases rx;obtain ⟨u,rfl,ru⟩:=zgg rv;obtain ⟨t,rfl⟩:=(show∃t,u=Value.str k t from ru);obtain ⟨its,r,p,hz⟩:=I.list hq;obtain ⟨l,rfl,rfl⟩:=zjE r;obtain ⟨⟨cls,dd,data,sl⟩,ho,hc,n,hd⟩:=id p.isList;simp only at hc hd;subst hc hd;have hj:(l.map (·.1)).idxOf k<(l.map (·.1)).length:=List.idxOf_lt_length_iff.mpr hk;have hlen:(strValues l).length=(l.map (·.1)).length:=by unfold strValues;simp
 have hz':(l.map (·.1)).length≤sizeLine:=by simpa using hz
 have hs:sizeLine≤2 ^ 62:=by decide
 refine call_meets PySem.F.slot_list_index ⟨_,ho,rfl⟩ PySem.F.entry_list_index (PySem.F.args_list_index_2 _ _) (PySem.SeqAt.list_indexAt a (strValues l).toArray n dd sl (.str k t) (isStrOf k) ((l.map (·.1)).idxOf k) (by simpa [hlen] using hj) ↑0 ?_ ?_) ⟨ho,λy hy=>(eq_isStrOf k t (strsAre_of_values l) y (by simpa using hy)).at _ _,⟨.int _,H,I.tok _,⟨_,rfl⟩,q⟩⟩;·show isStrOf k (strValues l)[(l.map (·.1)).idxOf k]=true;rw [zi6 k _ ↑0 hj];simpa using List.getElem_idxOf hj
 ·intro j hjs hlt;show isStrOf k (strValues l)[j]=false;rw [zi6 k j (by simpa using hjs) ↑0];exact zjZ hlt _
end L2
namespace L2
open PySem PySem.Spec PyProof.Rows
def chS (x:Str):List Str:=x.cps.toList.map λc=>⟨#[c]⟩
def ixS (x:Str) (i:Int):Str:=⟨#[(atI x.cps.toList i).getD 0]⟩
def zrD (x y:Str):Bool:= !(Builtin.Str.occurrences y x 0 y.length 1).isEmpty
theorem zfy {x:Str}:∀ {xs:List Str},inV (.str x) (xs.map V.str)=decide (x∈xs)
 | []=>rfl
 | y :: xs=>by
  have ih:=zfy (x:=x) (xs:=xs);unfold inV at ih ⊢;rw [List.map_cons,List.any_cons,ih];unfold eqV;by_cases h:x=y;·subst h;simp
  ·have:¬y=x:=λz=>h z.symm;have e:(y==x)=false:=by simpa using this
   show (y==x||_)=_;rw [e];simp [h]
theorem zfi {xs:List Str}:(xs.map V.str).all zhq=true:=by rw [List.all_eq_true];intro v hv;obtain ⟨i,_,rfl⟩:=List.mem_map.mp hv;rfl
section
variable {Γ:Ctx} {K:W.Frag} {m:Bool} {ta tb tl:TE} {x y:Str} {xs ys:List Str} {i:Int}
theorem zni (h1:Ev Γ ta false (dS x)) (h2:Ev Γ tb false (dQ K (xs.map dS))):Ev Γ (tOp (rIn K false) ta tb) m (dB (decide (x∈xs))):=λF0 Hb F H σ own Q a k=>h1 F0 Hb F H σ own _ a λu F1 H1 g1 q1=>h2 F0 Hb F1 H1 σ own _ (a.grow g1) λu' F2 H2 g2 ⟨p,vs,e1,e2,e3⟩=>by cases q1;rw [zbi (f:=V.str) e3] at e2;exact ⟨p,xs.map V.str,e1,.inl (g2.fh.seq e2),rfl,zfi,k _ F2 H2 ↑24 (by show V.bl _=V.bl _;rw [if_neg Bool.false_ne_true,zfy])⟩
theorem zoc (h1:Ev Γ ta false (dS x)) (h2:Ev Γ tb false (dQ K (xs.map dS))):Ev Γ (tOp (rIn K true) ta tb) m (dB (!decide (x∈xs))):=λF0 Hb F H σ own Q a k=>h1 F0 Hb F H σ own _ a λu F1 H1 g1 q1=>h2 F0 Hb F1 H1 σ own _ (a.grow g1) λu' F2 H2 g2 ⟨p,vs,e1,e2,e3⟩=>by cases q1;rw [zbi (f:=V.str) e3] at e2;exact ⟨p,xs.map V.str,e1,.inl (g2.fh.seq e2),rfl,zfi,k _ F2 H2 ↑24 (by show V.bl _=V.bl _;rw [if_pos rfl,zfy])⟩
theorem zsl (h1:Ev Γ ta false (dS x)) (h2:Ev Γ tb false (dS y)):Ev Γ (tOp (λx y H Q=>∃i j,x= .str i∧y= .str j∧Q (.bl (!(Builtin.Str.occurrences j i 0 j.length 1).isEmpty)) H) ta tb) m (dB (zrD x y)):=λF0 Hb F H σ own Q a k=>h1 F0 Hb F H σ own _ a λu F1 H1 g1 q1=>h2 F0 Hb F1 H1 σ own _ (a.grow g1) λu' F2 H2 g2 q2=>by cases q1;cases q2;exact ⟨x,y,rfl,rfl,k _ F2 H2 ↑24 rfl⟩
theorem zcP (h1:Ev Γ ta false (dS x)) (h2:Ev Γ tb false (dS y)) (hz:x.length+y.length≤sizeLine):Ev Γ (tOp (λx y H Q=>∃i j,x= .str i∧y= .str j∧i.length+j.length≤sizeLine∧Q (.str (i++j)) H) ta tb) m (dS (x++y)):=λF0 Hb F H σ own Q a k=>h1 F0 Hb F H σ own _ a λu F1 H1 g1 q1=>h2 F0 Hb F1 H1 σ own _ (a.grow g1) λu' F2 H2 g2 q2=>by cases q1;cases q2;exact ⟨x,y,rfl,rfl,hz,k _ F2 H2 ↑24 rfl⟩
theorem zkj (h1:Ev Γ ta false (dS x)) (h2:Ev Γ tb false (dI i)) (hz:x.length≤sizeLine) (hi:InB x.length i):Ev Γ (tOp zwB ta tb) m (dS (ixS x i)):=λF0 Hb F H σ own Q a k=>h1 F0 Hb F H σ own _ a λu F1 H1 g1 q1=>h2 F0 Hb F1 H1 σ own _ (a.grow g1) λu' F2 H2 g2 q2=>by
 cases q1;cases q2;obtain ⟨j,e,hj,_⟩:=zmm (n:=x.cps.toList.length) (i:=i) (by have h':InB x.cps.size i:=hi;simpa using h');have e2:atI x.cps.toList i=some (x.cps.toList[j]):=by unfold atI;rw [e];exact List.getElem?_eq_getElem hj
 refine ⟨x,i,_,rfl,rfl,hz,e2,k _ F2 H2 ↑24 ?_⟩;show V.str _=V.str (ixS x i);unfold ixS;rw [e2];rfl
theorem zhI (h1:Ev Γ ta false (dS x)) (hz:x.length≤sizeLine):Ev Γ (tCB (λxs H Q=>∃z,xs=[.str z]∧z.length≤sizeLine∧Q (.int z.length) H) (zcJ ta zf2)) m (dI ((x.length:Nat):Int)):=λF0 Hb F H σ own Q a k=>h1 F0 Hb F H σ own _ a λu F1 H1 g1 q1=>by cases q1;exact ⟨x,rfl,hz,k _ F1 H1 g1 rfl⟩
theorem zfT (h1:Ev Γ ta false (dI i)) (hz:i.natAbs.log2<1920):Ev Γ (tCB (λxs H Q=>∃i,xs=[.int i]∧i.natAbs.log2<1920∧Q (.str (toString i)) H) (zcJ ta zf2)) m (dS (toString i)):=λF0 Hb F H σ own Q a k=>h1 F0 Hb F H σ own _ a λu F1 H1 g1 q1=>by cases q1;exact ⟨i,rfl,hz,k _ F1 H1 g1 rfl⟩
theorem zi8 (h1:Ev Γ ta false (dS x)) (h2:Ev Γ tb false (dQ K (ys.map dS))) (hok:JoinOk x ys=true):Ev Γ (tBM K "str" (λx vs H Q=>∃i a ys,(x= .str i∧vs=[.ref a])∧SqL K H a (ys.map V.str)∧JoinOk i ys=true∧Q (.str (Txt.join i ys)) H) ta (zcJ tb zf2)) m (dS (Txt.join x ys)):=λF0 Hb F H σ own Q a k=>h1 F0 Hb F H σ own _ a λu F1 H1 g1 q1=>by cases q1;exact ⟨rfl,h2 F0 Hb F1 H1 σ own _ (a.grow g1) λu' F2 H2 g2 ⟨p,vs,e1,e2,e3⟩=>by rw [zbi (f:=V.str) e3] at e2;exact ⟨x,p,ys,⟨rfl,by rw [e1]⟩,g2.fh.seq (za4.seq e2),hok,k _ F2 H2 ↑24 rfl⟩⟩
theorem zk7 {F:Hp}:∀ {xs:List Str},Paired (λv (d:Ds)=>d.pr F v) (xs.map V.str) (xs.map dS)
 | []=>.nil
 | _ :: _=>.cons rfl zk7
theorem zlC (h1:Ev Γ ta false (dS x)) (h2:Ev Γ tb false (dS y)) (hy:(y.length==0)=false) (hz:x.length≤sizeLine) (hz1:(Txt.split x y).length≤sizeLine) (hz2:(Builtin.Str.partsBetween x (Builtin.Str.occurrences x y 0 x.length (x.length+1)) y.length).length≤sizeLine):EvO Γ (tBM K "str" ↑117 ta (zcJ tb zf2)) m ((Txt.split x y).map dS):=λF0 Hb F H σ own Q a k=>h1 F0 Hb F H σ own _ a λu F1 H1 g1 q1=>by cases q1;exact ⟨rfl,h2 F0 Hb F1 H1 σ own _ (a.grow g1) λu' F2 H2 g2 q2=>by cases q2;refine ⟨x,y,⟨rfl,rfl⟩,hy,hz,hz1,hz2,λp hp=> ?_⟩;obtain ⟨e1,e2,e3⟩:=a.free ↑24 hp;exact k p _ F2 _ ((↑24).newH hp) e1 e2 zat zk7⟩
theorem ztL {j:Nat} (h:Ev Γ tl false (dS x)) (ha:x.cps.all (· <128)=true):Iv Γ (zwN tl) (zd0 j) [j] (chS x) (λc=>[dS c]) m:=λF0 Hb F H σ own R a k=>h F0 Hb F H σ own _ a λu F1 H1 g1 q1=>by
 cases q1;refine ⟨x,rfl,ha,k _ F1 H1 g1 λH hs=>⟨by show x.cps.size≤_;unfold chS;simp,λi c ec=> ?_⟩⟩;have hi:i<x.cps.size:=by have:=(List.getElem?_eq_some_iff.mp ec).1;unfold chS at this;simpa using this
 refine ⟨hi,λw H' y=> ?_⟩;obtain ⟨rfl,d,ed,rfl⟩:=y
 have e:c=⟨#[d]⟩:=by
  unfold chS at ec;rw [List.getElem?_map] at ec;have:x.cps.toList[i]? =some d:=by simpa using ed
  rw [this] at ec;exact (Option.some.inj ec).symm
 rw [e];exact ⟨Grow.refl hs,λσ Q k=>k [_] (.cons rfl .nil)⟩
end
end L2
namespace L2
open PySem PySem.Spec PyProof.Rows
theorem zlI {X:Cx} {K:W.Frag} (hK:X.K=K):OpR X (compareOp .NotIn) (rIn K true):=by subst hK;exact zkw
section
variable {X:Cx} {K:W.Frag} {o e:Expr} {to:TE} {t:TA} {apos cpos:Pos}
theorem zmf (hK:X.K=K) (ho:PE X o to) (ha:PA X [e] t)
  (hbase:attributeBase o "split" X.env (eval o X.env)=eval o X.env:=by rfl)
  (hfew:↑87=true:=by rfl)
  (hline:(apos.endLine==cpos.line)=true:=by rfl) (hs:starEach [e] X.env=(false,eval e X.env)::starEach [] X.env:=by rfl) (hplain:(backTo cpos (starEach [] X.env)).any (·.1)=false:=by rfl) :
  PE X (.Call (.Attribute o "split" apos) [e] [] cpos) (tBM K "str" ↑117 to t):=by subst hK;exact zmD PySem.F.plainAttrs_str PySem.F.slot_str_split PySem.F.type_str_split zqa ho ha hbase hfew hline hs hplain
theorem zjx (hK:X.K=K) (ho:PE X o to) (ha:PA X [e] t)
  (hbase:attributeBase o "join" X.env (eval o X.env)=eval o X.env:=by rfl)
  (hfew:↑87=true:=by rfl)
  (hline:(apos.endLine==cpos.line)=true:=by rfl) (hs:starEach [e] X.env=(false,eval e X.env)::starEach [] X.env:=by rfl) (hplain:(backTo cpos (starEach [] X.env)).any (·.1)=false:=by rfl) :
  PE X (.Call (.Attribute o "join" apos) [e] [] cpos) (tBM K "str" (λx vs H Q=>∃i a ys,(x= .str i∧vs=[.ref a])∧SqL K H a (ys.map V.str)∧JoinOk i ys=true∧Q (.str (Txt.join i ys)) H) to t):=by subst hK;exact zmD PySem.F.plainAttrs_str PySem.F.slot_str_join PySem.F.type_str_join zsv ho ha hbase hfew hline hs hplain
theorem zqi (hK:X.K=K) (ho:PE X o to) (ha:PA X [e] t)
  (hbase:attributeBase o "index" X.env (eval o X.env)=eval o X.env:=by rfl)
  (hfew:↑87=true:=by rfl)
  (hline:(apos.endLine==cpos.line)=true:=by rfl) (hs:starEach [e] X.env=(false,eval e X.env)::starEach [] X.env:=by rfl) (hplain:(backTo cpos (starEach [] X.env)).any (·.1)=false:=by rfl) :
  PE X (.Call (.Attribute o "index" apos) [e] [] cpos) (tBM K "list" (λx vs H Q=>∃(a:Addr) (ys:List Str) (k:Str),(x= .ref a∧vs=[.str k])∧SqL K H a (ys.map V.str)∧k∈ys∧Q (.int ((ys.idxOf k:Nat):Int)) H) to t):=by subst hK;exact zmD PySem.F.plainAttrs_list PySem.F.slot_list_index PySem.F.type_list_index zpI ho ha hbase hfew hline hs hplain
end
section
variable {Γ:Ctx} {K:W.Frag} {m:Bool} {ta tb:TE} {x:Str} {xs:List Str} {i:Int}
theorem zpB (h1:Ev Γ ta false (dQ K (xs.map dS))) (h2:Ev Γ tb false (dS x)) (hx:x∈xs):Ev Γ (tBM K "list" (λx vs H Q=>∃(a:Addr) (ys:List Str) (k:Str),(x= .ref a∧vs=[.str k])∧SqL K H a (ys.map V.str)∧k∈ys∧Q (.int ((ys.idxOf k:Nat):Int)) H) ta (zcJ tb zf2)) m (dI ((xs.idxOf x:Nat):Int)):=λF0 Hb F H σ own Q a k=>h1 F0 Hb F H σ own _ a λu F1 H1 g1 ⟨p,vs,e1,e2,e3⟩=>by rw [zbi (f:=V.str) e3] at e2;have e4:SqL K F1 p (xs.map V.str):=za4.seq e2;subst e1;exact ⟨.inl ⟨rfl,_,g1.fh.seq e4⟩,h2 F0 Hb F1 H1 σ own _ (a.grow g1) λu' F2 H2 g2 q2=>by cases q2;exact ⟨p,xs,x,⟨rfl,rfl⟩,g2.fh.seq (g2.f.seq e4),hx,k _ F2 H2 ↑24 rfl⟩⟩
theorem zkG (h1:Ev Γ ta false (dS x)) (h2:Ev Γ tb false (dT (xs.map dS))):Ev Γ (tOp (rIn K false) ta tb) m (dB (decide (x∈xs))):=λF0 Hb F H σ own Q a k=>h1 F0 Hb F H σ own _ a λu F1 H1 g1 q1=>h2 F0 Hb F1 H1 σ own _ (a.grow g1) λu' F2 H2 g2 ⟨p,vs,e1,e2,e3⟩=>by cases q1;rw [zbi (f:=V.str) e3] at e2;exact ⟨p,xs.map V.str,e1,.inr (.inl (.inl (g2.fh _ _ (za4 _ _ e2)))),rfl,zfi,k _ F2 H2 ↑24 (by show V.bl _=V.bl _;rw [if_neg Bool.false_ne_true,zfy])⟩
end
def rMulS:R2:=λx y H Q=>∃i n,x= .str i∧y= .int n∧MulOk i n∧Q (.str (Txt.mul i n)) H
theorem zfE {X:Cx}:OpR X (binaryOp .Mult) rMulS:=by intro pins s σ H x y v u Q I rx ry h;obtain ⟨i,n,rfl,rfl,hz,q⟩:=h;obtain ⟨t,rfl⟩:=(show∃t,v=Value.str i t from rx);obtain ⟨t',rfl⟩:=(show∃t,u=Value.int n t from ry);exact PySem.SB.mul hz λt' k=>⟨.str _,H,I.tok _,⟨_,rfl⟩,q⟩
theorem zju {Γ:Ctx} {m:Bool} {ta tb:TE} {x:Str} {i:Int} (h1:Ev Γ ta false (dS x)) (h2:Ev Γ tb false (dI i)) (hz:MulOk x i):Ev Γ (tOp rMulS ta tb) m (dS (Txt.mul x i)):=λF0 Hb F H σ own Q a k=>h1 F0 Hb F H σ own _ a λu F1 H1 g1 q1=>h2 F0 Hb F1 H1 σ own _ (a.grow g1) λu' F2 H2 g2 q2=>by cases q1;cases q2;exact ⟨x,i,rfl,rfl,hz,k _ F2 H2 ↑24 rfl⟩
end L2
namespace L2
open PySem PySem.Spec PyProof.Rows
def zsI (x:Str):Int:=(intText? x).getD 0
theorem zjM {X:Cx}:zeb X (.type "int") (λxs H Q=>∃x n,xs=[.str x]∧intText? x=some n∧x.length≤640∧Q (.int n) H):=by intro pins s σ H xs us Q I r h;obtain ⟨x,n,rfl,hn,hl,q⟩:=h;obtain ⟨u,rfl,r1⟩:=zgg r;obtain ⟨t,rfl⟩:=(show∃t,u=Value.str x t from r1);exact W.KIN.call_text hn hl ⟨.int _,H,I.tok _,⟨_,rfl⟩,q⟩
theorem zry {Γ:Ctx} {m:Bool} {ta:TE} {x:Str} (h1:Ev Γ ta false (dS x)) (hz:(intText? x).isSome=true∧x.length≤640):Ev Γ (tCB (λxs H Q=>∃x n,xs=[.str x]∧intText? x=some n∧x.length≤640∧Q (.int n) H) (zcJ ta zf2)) m (dI (zsI x)):=λF0 Hb F H σ own Q a k=>h1 F0 Hb F H σ own _ a λu F1 H1 g1 q1=>by cases q1;obtain ⟨n,hn⟩:=Option.isSome_iff_exists.mp hz.1;exact ⟨x,n,rfl,hn,hz.2,k _ F1 H1 g1 (by show V.int n=V.int (zsI x);unfold zsI;rw [hn];rfl)⟩
end L2
namespace L2
open PySem PySem.Spec PyProof.Rows
def zfR:List Value->Option ↑2
 | []=>some []
 | .str x _ :: r=>(zfR r).map (x:: ·)
 | _=>none
def zrt (K:W.Frag) (a:Addr):Option ↑2:=match K.lookup a with|some ⟨.type t,_,.seq its _,_⟩=>bif t=="tuple" && Nat.ble its.size 1000 then zfR its.toList else none|_=>none
theorem zj0:∀ {its:List Value} {xs:List Str},zfR its=some xs->zbL (xs.map V.str) its
 | [],xs,h=>by cases h;exact .nil
 | .str x t :: r,xs,h=>by cases e:zfR r with|none=>rw [zfR,e] at h;cases h|some ys=>rw [zfR,e] at h;cases h;exact .cons ⟨t,rfl⟩ (zj0 e)
theorem zs5 {K:W.Frag} {a:Addr} {xs:List Str} {H:Hp} (h:zrt K a=some xs):SqT K H a (xs.map V.str):=by
 unfold zrt at h;split at h
 ·rename_i t d its n sl e
  cases q:(t=="tuple" && Nat.ble its.size 1000) with
   |false=>rw [q] at h;cases h
   |true=>
    rw [q,cond_true] at h;obtain ⟨q1,q2⟩:=Bool.and_eq_true_iff.mp q;have q1:t="tuple" :=by simpa using q1
    subst q1;exact .inr ⟨_,its,n,e,rfl,rfl,Nat.le_trans (Nat.le_of_ble_eq_true q2) ↥1,zj0 h⟩
 ·cases h
theorem zsG {Γ:Ctx} {K:W.Frag} {m:Bool} {ta:TE} {x:Str} {xs:List Str} {b:Addr} (h1:Ev Γ ta false (dS x)) (hk:zrt K b=some xs):Ev Γ (tOp (rIn K false) ta (tC (.ref b))) m (dB (decide (x∈xs))):=λF0 Hb F H σ own Q a k=>h1 F0 Hb F H σ own _ a λu F1 H1 g1 q1=>by cases q1;exact ⟨b,xs.map V.str,rfl,.inr (zs5 hk),rfl,zfi,k _ F1 H1 g1 (by show V.bl _=V.bl _;rw [if_neg Bool.false_ne_true,zfy])⟩
end L2
namespace L2
open PySem PySem.Spec PyProof.Rows
def zk1 (l:List Str) (x:Str):List Str:=if x∈l then l else l++[x]
def zhD (xs:List Str):List Str:=xs.foldl zk1 []
theorem zhf {l:List Str} {x k:Str}:k∈zk1 l x↔k∈l∨k=x:=by
 unfold zk1;by_cases h:x∈l;·rw [if_pos h];exact ⟨.inl,λz=>z.elim id λe=>e ▸ h⟩
 ·rw [if_neg h,List.mem_append,List.mem_singleton]
theorem zlF {l:List Str} {x:Str}:(zk1 l x).length=if x∈l then l.length else l.length+1:=by
 unfold zk1;split;·rfl
 ·rw [List.length_append,List.length_singleton]
theorem zkp:∀(xs l:List Str),(xs.foldl zk1 l).length≤l.length+xs.length
 | [],l=>Nat.le_refl _
 | x :: xs,l=>by have h:=zkp xs (zk1 l x);have e:=zlF (l:=l) (x:=x);rw [List.foldl_cons,List.length_cons];split at e<;>omega
theorem zpe (xs:List Str):(zhD xs).length≤xs.length:=by have:=zkp xs [];simpa [zhD] using this
theorem zmc {xs:List Str} {i:Nat} {x:Str} (h:xs[i]?=some x):zhD (xs.take (i+1))=zk1 (zhD (xs.take i)) x:=by unfold zhD;rw [List.take_succ,h];show List.foldl zk1 [] (xs.take i++[x])=_;rw [List.foldl_append];rfl
def Sof (prog:Program) (w:World) (h:Heap) (a:Addr) (l:List Str):Prop:=h.SetOf (PySem.strKind prog w) a (λk=>decide (k∈l)) l.length
section
variable {prog:Program} {w:World} {A:Around} {R:Result->Shared->Prop} {I S:Addr} {fp wr:List Addr} {G:Array GenState->Array GenState->Prop} {St:Nat->Shared->Prop} {xs:List Str}
theorem Sof.keep {h h':Heap} {l:List Str} (x:Sof prog w h S l) (k:∀o,h.get? S=some o->h'.get? S=some o):Sof prog w h' S l:=by obtain ⟨o,es,ep,t,ho,r⟩:=x;exact ⟨o,es,ep,t,k o ho,r⟩
theorem Sof.conv {h:Heap} {l':List Str} {f:Str->Bool} {n:Nat} (x:h.SetOf (PySem.strKind prog w) S f n) (e:∀k,f k=decide (k∈l')) (en:n=l'.length):Sof prog w h S l':=by have e2:f=λk=>decide (k∈l'):=funext e;subst e2 en;exact x
theorem zlU {n:Nat} {P:Nat->Value->Prop} (W:WalksS prog w A.in1 I fp wr G n P St) (hn:n=xs.length) (hP:∀i v,P i v->∃x t,xs[i]? =some x∧v=Value.str x t) (hSf:S ∉ fp) (hb:xs.length+1<scanBound):∀(k i:Nat) (s:Shared),i+k=xs.length->St i s->Sof prog w s.heap S (zhD (xs.take i))→(∀s',Moved (S::wr) G s s'->Sof prog w s'.heap S (zhD xs)->R (.ok (.ret .none)) s')->codeAny ↑26 A (.builtin "set.update.loop" ⟨[.ref S,.ref I],[]⟩) R s
 | 0,i,s,hk,hst,hS,hR=>by
  have ei:i=n:=by omega
  subst ei;rw [hn,List.take_length] at hS;refine codeAny_builtin PyProof.Rows.F.entry_set_update_loop ?_;rw [Around.under_plainId PyProof.Rows.F.plain_set_update_loop _];refine wpAny_bind (m:=pyNext (.ref I)) (W.done s _ _ hst λs' hm=> ?_);exact wpAny_pure (hR s' (hm.mono λb q=>List.mem_cons_of_mem _ q) (hS.keep λo e=>hm.heap S o (λq=>hSf (W.sub _ q)) e))
 | k+1,i,s,hk,hst,hS,hR=>by
  have up:∀b∈wr,b∈S::wr:=λb q=>List.mem_cons_of_mem _ q;refine codeAny_builtin PyProof.Rows.F.entry_set_update_loop ?_;rw [Around.under_plainId PyProof.Rows.F.plain_set_update_loop _];refine wpAny_bind (m:=pyNext (.ref I)) (W.item i s _ _ ↑0 hst λv s' hv hst' hm=> ?_);obtain ⟨x,t,hx,rfl⟩:=hP i v hv;have hS1:Sof prog w s'.heap S (zhD (xs.take i)):=hS.keep λo e=>hm.heap S o (λq=>hSf (W.sub _ q)) e;have hl:(zhD (xs.take i)).length+1<scanBound:=by have:=zpe (xs.take i);have:=List.length_take_le i xs;omega
  refine wpAny_bind (m:=holding [Value.str x t] (setAdd S (.str x t))) (wpAny_holding ?_);unfold setAdd;refine wpAny_holding (wpAny_bind ((PySem.strKind prog w).pyHash (k:=x) (strKind_is _ _ _ _) ?_));refine wpAny_setAddHashed_of (knd:=PySem.strKind prog w) (s:= {s' with toks:=s'.toks+1}) (strKind_is _ _ _ _) rfl hS1 hl λh' hsb hS2=> ?_
  have hS3:Sof prog w h' S (zhD (xs.take (i+1))):=Sof.conv hS2 (λq=>by
   rw [zmc hx];by_cases z:q∈zhD (xs.take i);·have:q∈zk1 (zhD (xs.take i)) x:=zhf.mpr (.inl z);simp [z,this]
   ·by_cases y:q=x;·have:q∈zk1 (zhD (xs.take i)) x:=zhf.mpr (.inr y);simp [y,zhf]
    ·have:¬q∈zk1 (zhD (xs.take i)) x:=λc=>(zhf.mp c).elim z y;simp [z,y,this]) (by
   rw [zmc hx,zlF];by_cases z:x∈zhD (xs.take i);·simp [z]
   ·simp [z])
  refine wpAny_pure ⟨plainId_quiet PyProof.Rows.F.plain_set_update_loop _,zlU W hn hP hSf hb k (i+1) _ ↑0 (W.frame _ s' _ _ hst' (Nat.le_succ _) λb q o e=> ?_) hS3 λs2 m2 S2=> ?_⟩;·rw [hsb.2 b (λz:b=S=>hSf (z ▸ q))];exact e
  ·refine hR s2 (Moved.trans W.gtrans ((hm.mono up).then_heap (Nat.le_succ _) λb o q e=> ?_) m2) S2;rw [hsb.2 b (λz:b=S=>q (z ▸ List.mem_cons_self))];exact e
end
end L2
namespace L2
open PySem PySem.Spec PyProof.Rows
def zdd (b:Bool):Obj:= {cls:= .type "set",dict:=none,data:= .set #[] 0 (.fresh 0 0 b)}
set_option maxRecDepth 100000 in
set_option maxHeartbeats 8000000 in
theorem zjC {prog:Program} {w:World} {A:Around} {E:Value->Shared->Prop} {s:Shared} {l:Addr} {ps:List (Str×Tok)} {Q:Value->Shared->Prop}
  (hh:A.handled=none) (hl:s.heap.IsList l (strValues ps).toArray) (hb:ps.length+1<scanBound)
  (h:∀ (h':Heap) (tk:Nat),Sof prog w h' s.heap.objs.size (zhD (ps.map (·.1)))->(∀ b o,b<s.heap.objs.size->s.heap.get? b=some o->h'.get? b=some o)->Q (.ref s.heap.objs.size) { s with heap:=h',toks:=tk }) :
  wpAny ↑26 A (call (.type "set") [.ref l]) Q E s:=by
 obtain ⟨c,tl,hmro⟩:=PySem.F.called_set.mro
 have hmade:=PySem.F.called_set.made
 have hsub:=PySem.F.called_set.sub
 refine wpAny_call (codeAny_of_tree ?_)
 show wpAny _ _ (callAny (.type "set") _) _ _ _
 refine wpAny_pure ⟨Code.quiet_builtin _ (by decide +kernel),codeAny_builtin PySem.F.entry_type_call ?_⟩
 rw [Around.under_plain (weight_type_call_type "set" [.ref l] []) rfl]
 have h1:=PySem.F.called_set.notType
 have h2:=PySem.F.called_set.canCreate
 have hct:=PySem.F.typeCall_set_1 (.ref l)
 repeat (any_goals (first | assumption | wp_step))
 refine codeAny_mono (PySem.code_set_new_1 (.ref l) (E:=E) (Q₁:=λv s1=>∃ b:Bool,v=.ref s.heap.objs.size∧s1={ s with heap:=s.heap.push (zdd b) }) λb=>⟨b,rfl,rfl⟩) λr s1 hr=>?_
 cases r with
 | error e=>exact hr
 | ok f =>
  cases f with
  | ret obj =>
   obtain ⟨b,rfl,rfl⟩:=hr
   have hS:(s.heap.push (zdd b)).get? s.heap.objs.size=some (zdd b):=Heap.get?_push_size _ rfl
   have hT:Shared.TypeIs { s with heap:=s.heap.push (zdd b) } (.ref s.heap.objs.size) "set":=⟨_,hS,rfl⟩
   have hli:=PySem.F.called_set.init.lookup
   have hbi:=PySem.F.called_set.init.bind (.ref s.heap.objs.size)
   repeat (any_goals (first | assumption | wp_step))
   refine codeAny_mono (codeAny_call_builtin (R:=wants (λr s2=>r=.none∧∃ h' tk,s2={ s with heap:=h',toks:=tk }∧Sof prog w h' s.heap.objs.size (zhD (ps.map (·.1)))∧∀ b o,b<s.heap.objs.size->s.heap.get? b=some o->h'.get? b=some o) E) PySem.F.called_set.init.plain PySem.F.entry_set_init (PySem.check_set_init_1 hT ?_)) λr2 s2 hr2=>?_
   ·obtain ⟨⟨oc,od,odt,osl⟩,ho,hc,n,hd⟩:=hl
    simp only at hc hd
    subst hc hd
    have ho1:(s.heap.push (zdd b)).get? l=some { cls:=.type "list",dict:=od,data:=.seq (strValues ps).toArray n,slots:=osl }:=Heap.get?_push_of_some _ ho
    have z1:=PySem.F.sub_list_set
    have z2:=PySem.F.sub_list_frozenset
    have z3:(Value.type "list" == Value.type "dict")=false:=by decide
    have hl1:(s.heap.push (zdd b)).IsList l (strValues ps).toArray:=⟨_,ho1,rfl,n,rfl⟩
    unfold Builtin.«set.__init__» noKeywords Builtin.Frozenset.updateFrom
    generalize hPI:pyIter=PI
    wp_walk
    subst hPI
    refine wpAny_pyIter_list hl1 (wpAny_bind (wpAny_runValue ?_))
    have hlt:l<s.heap.objs.size:=Heap.lt_size ho
    have hz:(s.heap.push (zdd b)).objs.size=s.heap.objs.size+1:=Heap.size_push ..
    have W:=(Walks.list (prog:=prog) (w:=w) (A:=A.in1.in1.in1) (by simp [hh]) (s.heap.push (zdd b)).objs.size l (by rw [hz];exact Nat.ne_of_lt (Nat.lt_succ_of_lt hlt)) (strValues ps).toArray).toS
    have hlen:(strValues ps).toArray.size=(ps.map (·.1)).length:=by unfold strValues;simp
    have hSf:s.heap.objs.size ∉ [(s.heap.push (zdd b)).objs.size,l]:=by
     rw [hz]
     simp only [List.mem_cons,List.not_mem_nil,or_false,not_or]
     exact ⟨Nat.ne_of_lt (Nat.lt_succ_self _),Nat.ne_of_gt hlt⟩
    refine zlU (xs:=ps.map (·.1)) W hlen (λi v hv=>?_) hSf (by rw [List.length_map];exact hb) (ps.map (·.1)).length 0 _ (Nat.zero_add _) ⟨⟨_,Heap.get?_push_size _ rfl,rfl,rfl⟩,hl1.push _⟩ ?_ λs' hm hS'=>?_
    ·have hv:(strValues ps)[i]?=some v:=by simpa using hv
     unfold strValues at hv
     rw [List.getElem?_map] at hv
     cases q:ps[i]? with
     | none=>rw [q] at hv;cases hv
     | some p =>
      rw [q] at hv
      exact ⟨p.1,p.2,by rw [List.getElem?_map,q];rfl,(Option.some.inj hv).symm⟩
    ·have hg:((s.heap.push (zdd b)).push { cls:=.type "list_iterator",data:=.fields #[.ref l,.int 0 0] }).get? s.heap.objs.size=some (zdd b):=Heap.get?_push_of_some _ hS
     exact Sof.conv ((PyProof.Rows.setObjOf_fresh (knd:=PySem.strKind prog w) b).setOf hg (by unfold scanBound;omega)) ↑5 rfl
    ·obtain ⟨h',g',d',tk',os'⟩:=s'
     have e1:g'=s.gens:=hm.gens
     have e2:d'=s.drawn:=hm.drawn
     have e3:os'=s.os:=hm.os
     subst e1 e2 e3
     show wpAny _ _ _ _ _ _
     refine wpAny_pure (wpAny_pure ⟨rfl,h',tk',rfl,hS',λa o ha e=>?_⟩)
     refine hm.heap a o ?_ (Heap.get?_push_of_some _ (Heap.get?_push_of_some _ e))
     rw [hz]
     simp only [List.mem_cons,List.not_mem_nil,or_false,not_or]
     exact ⟨Nat.ne_of_lt ha,Nat.ne_of_lt (Nat.lt_succ_of_lt ha)⟩
   ·cases r2 with
    | error e=>exact hr2
    | ok f2 =>
     cases f2 with
     | ret r =>
      obtain ⟨rfl,h',tk,rfl,hS',hk'⟩:=hr2
      repeat (any_goals (first | assumption | wp_step))
      exact h _ _ hS' hk'
     | _=>exact hr2.elim
  | _=>exact hr.elim
end L2
namespace L2
open PySem PySem.Spec PyProof.Rows
def zoo (K:W.Frag) (te:TE):TE:=λσ H Q=>te σ H λv H1=>∃a ys,[v]=[V.ref a]∧SqL K H1 a (List.map V.str ys)∧ys.length+1<scanBound∧Q (.int ((zhD ys).length:Nat)) H1
theorem zpf:bootBuiltins "set" =some (.type "set"):=by decide+kernel
theorem znR {X:Cx} {K:W.Frag} {e:Expr} {te:TE} {p p2 pos pos2:Pos} (hc:X.calm=true) (hK:X.K=K) (hg:Gl X "len") (hm:X.mg "len"=none) (hg2:Gl X "set") (hm2:X.mg "set"=none) (he:PE X e te)
  (st1:starEach [.Call (.Name "set" p2) [e] [] pos2] X.env=(false,eval (.Call (.Name "set" p2) [e] [] pos2) X.env)::starEach [] X.env:=by rfl) (st2:starEach [e] X.env=(false,eval e X.env)::starEach [] X.env:=by rfl) :
  PE X (.Call (.Name "len" p) [.Call (.Name "set" p2) [e] [] pos2] [] pos) (zoo K te):=by subst hK;intro pins s σ H Q I h;refine wpAny_Call_Name_kw (zf7 I hg hm PySem.boot_len ?_);refine PyProof.Rows.callWith_builtin1 ?_ st1 rfl;rw [st1];refine Calls.spliced_cons ?_;refine wpAny_Call_Name_kw (zf7 I hg2 hm2 zpf ?_);refine PyProof.Rows.callWith_type1 (thn ((zbK he zcY st2) pos2 pins s σ H (λvs H1=>∃a ys,vs=[V.ref a]∧SqL X.K H1 a (List.map V.str ys)∧ys.length+1<scanBound∧Q (.int ((zhD ys).length:Nat)) H1) I h) λus s1 ⟨vs,H1,I1,r1,a,ys,ev,hq,hb,q⟩=> ?_) st2 rfl;subst ev;obtain ⟨u,rfl,ru⟩:=zgg r1;cases ru;obtain ⟨its,r,pl,hz⟩:=I1.list hq;obtain ⟨l,rfl,rfl⟩:=zjE r;refine zjC (I1.ok.hd hc) pl.isList (by simpa using hb) λh' tk hS hk=> ?_;obtain ⟨o,es,ep,t,ho,hex,hd,hel,hmem,hbd,hf,hn⟩:=hS;have hl:=zpe (l.map (·.1));have hs:scanBound=4096:=rfl;refine wpAny_pure ?_;refine call_len_set ho hex hd hf ↑0 ?_;exact ⟨.int _,H1,I1.kept (t':=_) λb o e=>hk b o ↑38 e,⟨_,by rw [hn]⟩,q⟩
theorem znU {Γ:Ctx} {K:W.Frag} {m:Bool} {te:TE} {xs:List Str} (h:Ev Γ te false (dQ K (xs.map dS))) (hb:xs.length+1<4096):Ev Γ (zoo K te) m (dI (((zhD xs).length:Nat):Int)):=λF0 Hb F H σ own Q a k=>h F0 Hb F H σ own _ a λu F1 H1 g1 ⟨p,vs,e1,e2,e3⟩=>by rw [zbi (f:=V.str) e3] at e2;exact ⟨p,xs,by rw [e1],g1.fh.seq (za4.seq e2),hb,k _ F1 H1 g1 rfl⟩
end L2
namespace L2
open PySem PySem.Spec PyProof.Rows
def ctN (t:TS):TS:=λD=>t {D with ct:=D.nx}
theorem zk4 {E:XS} {Γ:Ctx} {wi:TI} {g:TG} {t u:TS} {o:Oc} (h:Run E Γ (zdI (ztf wi g (ctN t)) u) o):Run E Γ (zdI (ztf wi g t) u) o:=h
theorem zmA {α:Type} {E:XS} {Γ:Ctx} {tc:TT} {b:Bool} {u:TS} (G:α->Ctx) {x y:α} (h:EvT Γ tc b) (w:Wk Γ (G x)) (k:b=false->Run E Γ u (.nx (G y))):Run E Γ (ctN (zdI (zrV tc (zdI zuD znn) znn) u)) (.nx (G (bif b then x else y))):=λF0 Hb F H σ own D a q=>h F0 Hb F H σ own _ a λF' H' g=>by cases b with|true=>rw [if_pos rfl];exact q F' H' σ own ((a.grow g).wk w)|false=>rw [if_neg Bool.false_ne_true];exact k rfl F0 Hb F' H' σ own {D with ct:=D.nx} (a.grow g) q
theorem zrx {E:XS} {Γ:Ctx} {K:W.Frag} {i:Nat} {m:Bool} {ds es:List Ds} {te:TE} {u:TS} {o:Oc} (e:Γ[i]? =some (.ow m ds)) (h:EvO Γ te m es) (hz:ds.length+es.length≤sizeLine) (k:Run E (Γ.set i (.ow m (ds++es))) u o):Run E Γ (zdI (zic (tBM K "list" zjd (zhi i) (zcJ te zf2))) u) o:=λF0 Hb F H σ own D a q=>by obtain ⟨p,vs,e1,e2,e3,e4,e5,e6⟩:=zfP a e;refine ⟨_,e1,.inl ⟨rfl,_,SqL.of e5⟩,?_⟩;refine h F0 Hb F H σ own _ a λr ws F' H' g r1 r2 r3 qv=> ?_;obtain ⟨p',vs',f1,f2,f3,f4,f5,f6⟩:=zfP (a.grow g) e;rw [e1] at f1;cases f1;exact ⟨p,r,vs',ws,rfl,rfl,f5,r3,by rw [Paired.length f6,Paired.length qv];exact hz,k F0 Hb F' _ σ own D ((a.grow g).turn e e1 (zb6 f6 qv)) q⟩
theorem zqt {α:Type} {E:XS} {Γ:Ctx} {K:W.Frag} {i:Nat} {m:Bool} {f:α->Ds} {xs ys:List α} {te:TE} {u:TS} {o:Oc} (e:Γ[i]? =some (.ow m (xs.map f))) (h:EvO Γ te m (ys.map f)) (hz:xs.length+ys.length≤sizeLine) (k:Run E (Γ.set i (.ow m ((xs++ys).map f))) u o):Run E Γ (zdI (zic (tBM K "list" zjd (zhi i) (zcJ te zf2))) u) o :=
 zrx e h (by rw [List.length_map,List.length_map];exact hz) (by rw [List.map_append] at k;exact k)
theorem zlk {X:Cx} {K:W.Frag} {o e:Expr} {to:TE} {t:TA} {apos cpos:Pos} (hK:X.K=K) (ho:PE X o to) (ha:PA X [e] t)
  (hbase:attributeBase o "extend" X.env (eval o X.env)=eval o X.env:=by rfl)
  (hfew:↑87=true:=by rfl)
  (hline:(apos.endLine==cpos.line)=true:=by rfl) (hs:starEach [e] X.env=(false,eval e X.env)::starEach [] X.env:=by rfl) (hplain:(backTo cpos (starEach [] X.env)).any (·.1)=false:=by rfl) :
  PE X (.Call (.Attribute o "extend" apos) [e] [] cpos) (tBM K "list" zjd to t):=by subst hK;exact zmD PySem.F.plainAttrs_list PySem.F.slot_list_extend PySem.F.type_list_extend zpx ho ha hbase hfew hline hs hplain
end L2
namespace L2
open PySem PySem.Spec PyProof.Rows
def zjQ (R:Hp) (v:V) (ns:List Str):Prop:=∃r,v= .ref r∧R r=some (.lst (List.map V.str ns))
def dRS (nss:List ↑2):Ds:=⟨λR v=>∃p vs,v= .ref p∧R p=some (.lst vs)∧vs.Nodup∧V.ref p∉vs∧Paired (zjQ R) vs nss,λe ⟨p,vs,h1,h2,h3,h4,h5⟩=>⟨p,vs,h1,e _ _ h2,h3,h4,zbD (λ_ _ ⟨r,q1,q2⟩=>⟨r,q1,e _ _ q2⟩) h5⟩⟩
theorem zsF {R:Hp} {v:V} {nss:List ↑2} (h:(dRS nss).pr R v):(dL (nss.map λl=>dL (l.map dS))).pr R v:=by
 obtain ⟨p,vs,rfl,h2,h3,h4,h5⟩:=h;refine ⟨p,vs,rfl,h2,?_⟩;clear h2 h3 h4
 induction h5 with
  |nil=>exact .nil
  |cons q _ ih=>obtain ⟨r,rfl,q2⟩:=q;exact .cons ⟨r,_,rfl,q2,zk7⟩ ih
section
variable {E:XS} {Γ:Ctx} {m:Bool} {K:W.Frag} {te tj:TE} {u:TS} {o:Oc} {i:Nat} {nss:List ↑2}
theorem zui {t:TE} (h:Ev Γ t m (dRS nss)):Ev Γ t m (dL (nss.map λl=>dL (l.map dS))):=λF0 Hb F H σ own Q a k=>h F0 Hb F H σ own Q a λv F' H' g q=>k v F' H' g (zsF q)
theorem zjO {R:Hp} {r:Addr} {new:List Str}:∀ {vs:List V} {nss:List ↑2} {j:Nat},Paired (zjQ R) vs nss->vs.Nodup->vs[j]? =some (.ref r)->Paired (zjQ (upd R r (.lst (new.map V.str)))) vs (nss.set j new)
 | _,_,_,.nil,_,h=>by simp at h
 | v :: vs,ns :: nss,0,.cons q t,hN,h=>by
  have h:v= .ref r:=by simpa using h
  subst h;refine .cons ⟨r,rfl,zat⟩ ?_;have hn1:=(List.nodup_cons.mp hN).1;clear q h hN
  induction t with
   |nil=>exact .nil
   | @ cons a b as bs q t ih=>obtain ⟨r',rfl,q2⟩:=q;have hne:r'≠r:=λz=>hn1 (by rw [z];exact List.mem_cons_self);exact .cons ⟨r',rfl,by rw [zam hne];exact q2⟩ (ih λz=>hn1 (List.mem_cons_of_mem _ z))
 | v :: vs,ns :: nss,j+1,.cons q t,hN,h=>by
  have hN:=List.nodup_cons.mp hN;have h:vs[j]? =some (.ref r):=by simpa using h
  obtain ⟨r',rfl,q2⟩:=q;have hne:r'≠r:=λz=>hN.1 (by rw [z];exact List.mem_of_getElem? h);exact .cons ⟨r',rfl,by rw [zam hne];exact q2⟩ (zjO t hN.2 h)
theorem At.rowS {F0 Hb F H:Hp} {σ:St} {own:Nat->Option Addr} (a:At F0 Hb F H σ own Γ) (e:Γ[i]? =some (.tl (dRS nss))) (hno:zs0 Γ=true) {k:Int} (hk:InB nss.length k) :
  ∃p vs r,σ[i]? =some (some (.ref p))∧H p=some (.lst vs)∧atI vs k=some (.ref r)∧H r=some (.lst ((ixD nss k).map V.str))∧∀(H':Hp) (new:List Str),Same H H'->At F0 Hb F (upd H' r (.lst (new.map V.str))) σ own ((unC Γ).set i (.tl (dRS (zcZ nss k new)))):=by
   obtain ⟨x,R,h1,h2,h3,h4,p,vs,rfl,h6,h7,h8,h9⟩:=a.sl i _ e;have hi:i<σ.length:=by rw [a.len];exact (↑42).1
   have e':σ[i]? =some (some (.ref p)):=by rw [List.getElem?_eq_getElem hi] at h1 ⊢;exact congrArg some h1
   have hl:=Paired.length h9;obtain ⟨j,ej,hj,_⟩:=zmm hk;obtain ⟨v,ev,⟨r,rfl,hr⟩⟩:=zbh h9 (List.getElem?_eq_getElem (l:=nss) (i:=j) hj);have ex:ixD nss k=nss[j]:=by unfold ixD atI;rw [ej];show (nss[j]?).getD default=_;rw [List.getElem?_eq_getElem hj];rfl
   have es:∀new,zcZ nss k new=nss.set j new:=λnew=>by unfold zcZ;rw [ej]
   have rF:=h3 r _ hr;have rO:∀l,own l≠some r:=λl z=>by rw [h4 l r z] at hr;cases hr
   have rp:p≠r:=λz=>h8 (by rw [z];exact List.mem_of_getElem? ev);refine ⟨p,vs,r,e',h2 _ _ h6,?_,by rw [ex];exact h2 _ _ hr,λH' new hs=> ?_⟩;·unfold atI;rw [hl,ej];exact ev
   ·have a1:=(a.grow (Grow.only a.fh hs)).spoil hno (.lst (new.map V.str)) rF.1 rF.2 rO;refine ⟨a1.g,a1.inj,a1.liv,λl s es'=> ?_,by rw [List.length_set];exact a1.len⟩;by_cases z:i=l
    ·subst z;rw [List.getElem?_set_self (by rw [←a1.len];exact hi)] at es';cases es';rw [e'];refine ⟨.ref p,upd R r (.lst (new.map V.str)),rfl,λb w q=> ?_,λb w q=> ?_,λl' b q=> ?_,p,vs,rfl,by rw [zam rp];exact h6,h7,h8,by rw [es];exact zjO h9 h7 ev⟩
     ·by_cases y:b=r;·subst y;rw [zat] at q ⊢;exact q
      ·rw [zam y] at q ⊢;exact hs _ _ (h2 _ _ q)
     ·by_cases y:b=r;·subst y;exact rF
      ·rw [zam y] at q;exact h3 b w q
     ·have y:b≠r:=λy=>rO l' (y ▸ q);rw [zam y];exact h4 l' b q
    ·rw [List.getElem?_set_ne z] at es';exact a1.sl l s es'
theorem zoO {k:Int} {v:Str} (e:Γ[i]? =some (.tl (dRS nss))) (hno:zs0 Γ=true) (hj:Ev Γ tj false (dI k)) (hk:InB nss.length k) (hv:Ev Γ te m (dS v)) (hz:(ixD nss k).length<sizeLine) (kk:Run E ((unC Γ).set i (.tl (dRS (zcZ nss k (ixD nss k++[v]))))) u o) :
  Run E Γ (zdI (zic (tBM K "list" zgL (tOp (zr0 K) (zhi i) tj) (zcJ te zf2))) u) o:=λF0 Hb F H σ own D a q=>by obtain ⟨p,vs,r,s1,s2,s3,s4,s5⟩:=a.rowS e hno hk;refine ⟨_,s1,hj F0 Hb F H σ own _ a λvk F1 H1 g1 qk=> ?_⟩;have qk:vk= .int k:=qk;subst qk;refine ⟨p,vs,k,_,rfl,rfl,SqL.of (g1.h _ _ s2),s3,.inl ⟨rfl,_,SqL.of (g1.h _ _ s4)⟩,?_⟩;refine hv F0 Hb F H1 σ own _ (a.grow (Grow.only a.fh g1.h)) λw F2 H2 g2 qw=> ?_;have qw:w= .str v:=qw;subst qw;refine ⟨r,_,_,rfl,rfl,g2.h _ _ (g1.h _ _ s4),by rw [List.length_map];exact hz,?_⟩;have:=s5 H2 (ixD nss k++[v]) (g1.h.trans g2.h);rw [List.map_append] at this;exact kk F0 Hb F _ σ own D this q
theorem zoF {tr:TA} (h:EvA Γ tr true []):Ev Γ (zvh tr) true (dRS []):=λF0 Hb F H σ own Q a k=>zbU h F0 Hb F H σ own Q a λp vs F' H' g h1 h2 h3 q=>by cases q;exact k (.ref p) (upd F' p (.lst [])) H' (g.take h1 h3) ⟨p,[],rfl,zdW.mpr ⟨a.g.h.free h1,zat⟩,.nil,by simp,.nil⟩
theorem zlb {te:TE} {i:Nat} {nss:List ↑2} {ns:List Str} (e:Γ[i]? =some (.tl (dRS nss))) (hno:zs0 Γ=true) (hv:EvO Γ te true (ns.map dS)) (hz:nss.length<sizeLine) (kk:Run E ((unC Γ).set i (.tl (dRS (nss++[ns])))) u o) :
  Run E Γ (zdI (zic (tBM K "list" zgL (zhi i) (zcJ te zf2))) u) o:=λF0 Hb F H σ own D a q=>by
   obtain ⟨x,R,h1,h2,h3,h4,p,vs,rfl,h6,h7,h8,h9⟩:=a.sl i _ e;have hi:i<σ.length:=by rw [a.len];exact (↑42).1
   have e':σ[i]? =some (some (.ref p)):=by rw [List.getElem?_eq_getElem hi] at h1 ⊢;exact congrArg some h1
   have hp:=h2 _ _ h6;refine ⟨_,e',.inl ⟨rfl,_,SqL.of hp⟩,?_⟩;refine hv F0 Hb F H σ own _ a λr ws F1 H1 g1 r1 r2 r3 q1=> ?_;have ew:=zbi (f:=V.str) q1;subst ew;have rp:r≠p:=λz=>by rw [z,hp] at r1;cases r1
   refine ⟨p,vs,_,rfl,rfl,g1.h _ _ hp,by rw [Paired.length h9];exact hz,?_⟩;have pF:=h3 p _ h6;have pO:∀l,own l≠some p:=λl z=>by rw [h4 l p z] at h6;cases h6
   have a1:=(a.grow (Grow.only a.fh g1.h)).spoil hno (.lst (vs++[.ref r])) pF.1 pF.2 pO;have rF:F r=none:=by cases z:F r with|none=>rfl|some o=>rw [a.fh _ _ z] at r1;cases r1
   refine kk F0 Hb F _ σ own D ?_ q;refine ⟨a1.g,a1.inj,a1.liv,λl s es'=> ?_,by rw [List.length_set];exact a1.len⟩;by_cases z:i=l
   ·subst z;rw [List.getElem?_set_self (by rw [←a1.len];exact hi)] at es';cases es';rw [e'];have rn:∀r',R r'≠none->r'≠r:=λr' w z=>by cases y:R r' with|none=>exact w y|some o=>have:=h2 _ _ y;rw [z,r1] at this;cases this
    refine ⟨.ref p,upd (upd R p (.lst (vs++[.ref r]))) r (.lst (ns.map V.str)),rfl,λb w q=> ?_,λb w q=> ?_,λl' b q=> ?_,p,vs++[.ref r],rfl,by rw [zam (Ne.symm rp),zat],?_,?_,?_⟩
    ·by_cases y:b=r;·subst y;rw [zat] at q;cases q;rw [zam rp];exact r3
     ·rw [zam y] at q;by_cases y2:b=p;·subst y2;rw [zat] at q ⊢;exact q
      ·rw [zam y2] at q ⊢;exact g1.h _ _ (h2 _ _ q)
    ·by_cases y:b=r;·subst y;exact ⟨rF,a.g.h.free r1⟩
     ·rw [zam y] at q;by_cases y2:b=p;·subst y2;exact pF
      ·rw [zam y2] at q;exact h3 b w q
    ·have y:b≠r:=λy=>a.liv l' b q (by rw [y];exact r1);have y2:b≠p:=λy=>pO l' (y ▸ q);rw [zam y,zam y2];exact h4 l' b q
    ·refine List.nodup_append.mpr ⟨h7,by simp,λv hv w hw z=> ?_⟩;rw [List.mem_singleton.mp hw] at z;subst z;obtain ⟨n,hn⟩:=List.getElem?_of_mem hv;have hl:=Paired.length h9;obtain ⟨v',e',⟨r',er,hr⟩⟩:=zbh h9 (List.getElem?_eq_getElem (l:=nss) (i:=n) (by have:=(List.getElem?_eq_some_iff.mp hn).1;omega));rw [hn] at e';cases e';cases er;exact rn _ (by rw [hr];simp) rfl
    ·intro z;rcases List.mem_append.mp z with z|z
     ·exact h8 z
     ·have:=List.mem_singleton.mp z;cases this;exact rp rfl
    ·refine zb6 ?_ (.cons ⟨r,rfl,zat⟩ .nil);have key:∀v∈vs,∀ns',zjQ R v ns'->zjQ (upd (upd R p (.lst (vs++[.ref r]))) r (.lst (ns.map V.str))) v ns':=λv hv ns' ⟨r',z1,z2⟩=>by subst z1;refine ⟨r',rfl,?_⟩;rw [zam (rn _ (by rw [z2];simp)),zam (λz=>h8 (by rw [←z];exact hv))];exact z2
     exact zis h9 key
   ·rw [List.getElem?_set_ne z] at es';exact a1.sl l s es'
end
end L2
namespace L2
open PySem PySem.Spec PyProof.Rows
theorem zpc {Γ:Ctx} {K:W.Frag} {m n:Bool} {ta:TE} {i:Nat} {x:Str} {xs:List Str} (e:Γ[i]? =some (.ow n (xs.map dS))) (h1:Ev Γ ta false (dS x)):Ev Γ (tOp (rIn K false) ta (zhi i)) m (dB (decide (x∈xs))):=λF0 Hb F H σ own Q a k=>h1 F0 Hb F H σ own _ a λu F1 H1 g1 q1=>by cases q1;obtain ⟨p,vs,e1,e2,e3,e4,e5,e6⟩:=zfP (a.grow g1) e;rw [zbi (f:=V.str) e6] at e5;exact ⟨_,e1,p,xs.map V.str,rfl,.inl (SqL.of e5),rfl,zfi,k _ F1 H1 g1 (by show V.bl _=V.bl _;rw [if_neg Bool.false_ne_true,zfy])⟩
end L2
namespace L2
open PySem PySem.Spec PyProof.Rows
theorem znb {X:Cx} {K:W.Frag} {o e:Expr} {to:TE} {t:TA} {apos cpos:Pos} (hK:X.K=K) (ho:PE X o to) (ha:PA X [e] t)
  (hbase:attributeBase o "pop" X.env (eval o X.env)=eval o X.env:=by rfl)
  (hfew:↑87=true:=by rfl)
  (hline:(apos.endLine==cpos.line)=true:=by rfl) (hs:starEach [e] X.env=(false,eval e X.env)::starEach [] X.env:=by rfl) (hplain:(backTo cpos (starEach [] X.env)).any (·.1)=false:=by rfl) :
  PE X (.Call (.Attribute o "pop" apos) [e] [] cpos) (tBM K "list" zoH to t):=by subst hK;exact zmD PySem.F.plainAttrs_list PySem.F.slot_list_pop PySem.F.type_list_pop zp1 ho ha hbase hfew hline hs hplain
theorem zpM {α:Type} {E:XS} {Γ:Ctx} {K:W.Frag} {i:Nat} {m:Bool} {f:α->Ds} {xs:List α} {u:TS} {o:Oc} (e:Γ[i]? =some (.ow m (xs.map f))) (hz:0<xs.length) (k:Run E (Γ.set i (.ow m (xs.tail.map f))) u o):Run E Γ (zdI (zic (tBM K "list" zoH (zhi i) (zcJ (tC (.int 0)) zf2))) u) o:=λF0 Hb F H σ own D a q=>by
 obtain ⟨p,vs,e1,e2,e3,e4,e5,e6⟩:=zfP a e;refine ⟨_,e1,.inl ⟨rfl,_,SqL.of e5⟩,?_⟩
 cases xs with
  |nil=>exact absurd hz (Nat.lt_irrefl 0)
  |cons x xs=>cases e6 with| @ cons v d vs' ds' q1 q2=>refine ⟨p,v::vs',0,0,v,rfl,rfl,e5,by decide,by decide,?_,rfl,k F0 Hb F _ σ own D (a.turn e e1 q2) q⟩;unfold seqIndex?;simp
end L2
namespace L2
open PySem PySem.Spec PyProof.Rows
section
variable {Γ:Ctx}
theorem At.setOb {F0 Hb F1 H1 F H:Hp} {σ:St} {own:Nat->Option Addr} (a1:At F0 Hb F1 H1 σ own Γ) (g:Grow F1 H1 F H) (i:Nat) {m:Bool} {C:Addr} {fs:List (Str×Ds)} {p dx:Addr} {vs:List (Str×V)} (h1:H1 p=none) (h2:H1 dx=none) (hf:F p=none) (hd:F dx=none) (hp:H p=some (.ins C dx vs)) (hx:H dx=some (.own p))
  (h:Paired (λ(a:Str×V) (b:Str×Ds)=>a.1=b.1∧b.2.pr (zfZ m F Hb) a.2) vs fs):At F0 Hb F H (σ.set i (some (.ref p))) (λj=>if j=i then some p else own j) (Γ.set i (.ob m C p dx fs)):=by
   have a:=a1.grow g;have hb:Hb p=none:=a1.g.h.free h1;have hbd:Hb dx=none:=a1.g.h.free h2;have ho:∀j,own j≠some p:=λj e=>a1.liv j p e h1;refine ⟨a.g,λj k q e1 e2=> ?_,λj q e=> ?_,λj s e=> ?_,by simp [a.len]⟩
   ·skip;split at e1<;>split at e2;·omega
    ·cases e1;exact absurd e2 (ho k)
    ·cases e2;exact absurd e1 (ho j)
    ·exact a.inj j k q e1 e2
   ·skip;split at e;·cases e;rw [hp];simp
    ·exact a.liv j q e
   ·by_cases z:i=j
    ·subst z;have hi:i<Γ.length:=by have:=(↑42).1;simpa using this
     rw [List.getElem?_set_self hi] at e;cases e;rw [zdV (by rw [a.len];exact hi)];exact ⟨vs,rfl,by simp,⟨hf,hd⟩,⟨hb,hbd⟩,⟨hp,hx⟩,h⟩
    ·rw [List.getElem?_set_ne z] at e;rw [zeY z];have z':¬j=i:=Ne.symm z
     cases s with
      |tl d=>
       obtain ⟨x,R,q1,q2,q3,q4,q5⟩:=a1.sl j _ e;refine ⟨x,R,q1,q2.trans g.h,λb o w=>⟨g.no b (by rw [q2 _ _ w];simp) (q3 b o w).1,(q3 b o w).2⟩,λk q w=> ?_,q5⟩;dsimp only at w;split at w;·cases w;exact q2.free h1
       ·exact q4 k q w
      |no=>trivial
      |va m d=>exact a.sl j _ e
      |ow m ds=>obtain ⟨q,us,w1,w2,w3⟩:=a.sl j _ e;exact ⟨q,us,w1,(if_neg z').trans w2,w3⟩
      |ol q ds=>obtain ⟨us,w1,w2,w3⟩:=a.sl j _ e;exact ⟨us,w1,(if_neg z').trans w2,w3⟩
      |ob m C q dx fs=>obtain ⟨us,w1,w2,w3⟩:=a.sl j _ e;exact ⟨us,w1,(if_neg z').trans w2,w3⟩
theorem znB {E:XS} {u:TS} {o:Oc} {j:Nat} {K:W.Frag} {ds:List Ds} {tr:TA} {E1:XK} {ι:Type} {C:Addr} {args:ι->List Ds} {pre:ι->Prop} {m:Bool} {fs:ι->List (Str×Ds)} (i:ι) (h:EvA Γ tr false ds) (ha:ds=args i) (hp:pre i) (k:∀p dx,Run E (Γ.set j (.ob m C p dx (fs i))) u o) :
  Run E Γ (zdI (zl3 (znk C (zox C args pre m fs) [] E1 tr) (zd0 j)) u) o:=λF0 Hb F H σ own D a q=>by subst ha;refine h F0 Hb F H σ own _ a λvs F1 H1 g1 q1 p dx h1 h2 h3=>⟨i,p,dx,vs,H1,F1,by rw [List.append_nil],h1,h2,h3,rfl,g1.fh,q1,hp,λus F' H' g n1 n2 e1 e2 e3=>⟨rfl,?_⟩⟩;exact k p dx F0 Hb F' H' _ _ D ((a.grow g1).setOb g j h1 h2 n1 n2 e1 e2 (zbD (λ_ b q=>⟨q.1,b.2.up (zfH (a.g.h.trans g1.h)) q.2⟩) e3)) q
end
def SpvO {ι:Type} (C:Addr) (fs:ι->List (Str×Ds)) (args:ι->List Ds) (pre:ι->Prop) (res:ι->Ds) (fs':ι->List (Str×Ds)):Sp:=λvs H Q _=>∃(i:ι) (p dx:Addr) (us:List (Str×V)) (ws:List V) (H1 F:Hp),vs= .ref p::ws∧H1 p=none∧H1 dx=none∧dx≠p∧H=upd (upd H1 dx (.own p)) p (.ins C dx us)∧Same F H1∧Paired (λ(a:Str×V) (b:Str×Ds)=>a.1=b.1∧b.2.pr F a.2) us (fs i)∧Paired (λv (d:Ds)=>d.pr F v) ws (args i)∧pre i∧∀v us' F' H',Grow F H1 F' H'->F' p=none->F' dx=none->H' p=some (.ins C dx us')->H' dx=some (.own p)->Paired (λ(a:Str×V) (b:Str×Ds)=>a.1=b.1∧b.2.pr F' a.2) us' (fs' i)->(res i).pr F' v->Q v H'
def zoU (C p dx:Addr) (N:List Str) (fs:List (Str×Ds)) (ds:List Ds):Ctx:= .ob false C p dx fs::(ds.map (.va false)++List.replicate (N.length-(ds.length+1)) .no)
section
variable {P:Program} {w:World} {K:W.Frag} {mg:Str->Option Value} {base:Heap} {x qual:Str} {st:Stmt} {f:Addr} {fd:FuncData} {N ps:List Str} {k:Nat}
theorem zpw {F H1:Hp} {C p dx:Addr} {N:List Str} {us:List (Str×V)} {ws:List V} {fs:List (Str×Ds)} {ds:List Ds} (hF:Same F H1) (hu:Paired (λ(a:Str×V) (b:Str×Ds)=>a.1=b.1∧b.2.pr F a.2) us fs) (hv:Paired (λv (d:Ds)=>d.pr F v) ws ds) (h1:H1 p=none) (h2:H1 dx=none) (h3:dx≠p) :
  At F H1 F (upd (upd H1 dx (.own p)) p (.ins C dx us)) (start N (.ref p::ws)) (λi=>if i=0 then some p else none) (zoU C p dx N fs ds):=by
   have hl:=Paired.length hv;have n1:upd H1 dx (.own p) p=none:=by rw [zam (Ne.symm h3)];exact h1
   have g:Grow F H1 F (upd (upd H1 dx (.own p)) p (.ins C dx us)):=((Grow.refl hF).newH h2).newH n1;refine ⟨g,λi j q e1 e2=> ?_,λi q e=> ?_,λi s e=> ?_,?_⟩
   ·split at e1
    ·split at e2;·omega
     ·cases e2
    ·cases e1
   ·split at e;·cases e;rw [zat];simp
    ·cases e
   ·cases i with
     |zero=>have e':Slot.ob false C p dx fs=s:=Option.some.inj e;subst e';exact ⟨us,rfl,rfl,⟨hF.free h1,hF.free h2⟩,⟨h1,h2⟩,⟨zat,by rw [zam h3];exact zat⟩,hu⟩
     |succ i=>
      have e:(ds.map (Slot.va false)++List.replicate (N.length-(ds.length+1)) Slot.no)[i]? =some s:=e;show zfN H1 F _ _ _ ((ws.map some++List.replicate (N.length-(ws.length+1)) none)[i]?).join s;by_cases hi:i<ds.length;·rw [List.getElem?_append_left ↑44,List.getElem?_map] at e;rw [List.getElem?_append_left (by simpa [hl] using hi),List.getElem?_map];obtain ⟨v,ev,rv⟩:=zbh hv (List.getElem?_eq_getElem hi);rw [List.getElem?_eq_getElem hi] at e;have e':Slot.va false ds[i]=s:=Option.some.inj e;subst e';exact ⟨v,by rw [ev];rfl,rv⟩
      ·rw [List.getElem?_append_right ↑44,List.getElem?_replicate] at e;split at e;·cases e;trivial
       ·cases e
   ·unfold start zoU;simp [hl]
theorem Fun.okO {ι:Type} {C:Addr} {fs:ι->List (Str×Ds)} {args:ι->List Ds} {pre:ι->Prop} {res:ι->Ds} {fs':ι->List (Str×Ds)} (F:Fun K x qual st f fd) (S:FnScope N ps (zaf st)) (hl:∀i,(args i).length+1=ps.length)
  (hbody:∀(cdv:Value) (A:Around) (outer:List Env) (s:Shared) (H:Hp) (E:XK) (i:ι),Room k (A.deeper (envOfC qual (zaf st) s.heap.objs.size f cdv))->pre i→∃t,PSs (zp7 ↑1 P w K mg base N qual (zaf st) f cdv A outer s H E).nox (zed st) t∧∀p dx,∃Δ,Run (λ_=>E) (zoU C p dx N (fs i) (args i)) t (.rw Δ (res i))∧Δ[0]? =some (.ob false C p dx (fs' i))):FnOk P w K mg base ↑1 (k+1) f fd ps (SpvO C fs args pre res fs'):=by refine F.okN S (λvs H Q E ⟨i,p,dx,us,ws,H1,F',e,_,_,_,_,_,_,hv,_⟩=>by rw [e,List.length_cons,Paired.length hv];exact hl i) λcdv A outer s H vs Q E hr ⟨i,p,dx,us,ws,H1,F',e,h1,h2,h3,h4,hF,hu,hv,hp,hq⟩=> ?_;subst e h4;obtain ⟨t,t1,t2⟩:=hbody cdv A outer s _ E i hr hp;obtain ⟨Δ,t2,t3⟩:=t2 p dx;refine ⟨_,t1,?_⟩;refine t2 F' H1 F' _ _ _ _ (zpw hF hu hv h1 h2 h3) λv F2 H2 σ2 own2 a2 q2=> ?_;obtain ⟨us',e1,e2,e3,e4,e5,e6⟩:=a2.sl 0 _ t3;exact hq v us' F2 H2 a2.g e3.1 e3.2 e5.1 e5.2 e6 q2
end
section
variable {E:XS} {Γ Δ:Ctx} {m b:Bool} {K:W.Frag} {te ta tb:TE} {t u r:TS} {d:Ds} {es:List Ds} {o:Oc} {i j:Nat} {C p dx:Addr}
theorem zh4 {n:Str} {R:Str×V->Str×Ds->Prop}:∀ {vs:List (Str×V)} {fs:List (Str×Ds)},Paired (λa b=>a.1=b.1∧R a b) vs fs->(fs.map Prod.fst).contains n=false->vs.lookup n=none
 | _,_,.nil,_=>rfl
 | _,_,.cons (a:=(a1,a2)) (b:=y) w t,z=>by
  rw [List.map_cons,List.contains_cons,Bool.or_eq_false_iff] at z;rw [List.lookup_cons];have:(n==a1)=false:=by rw [show a1=y.1 from w.1];exact z.1
  rw [this];exact zh4 t z.2
theorem zlW {ι:Type} {fs fs0:List (Str×Ds)} {fa:ι->List (Str×Ds)} {args:ι->List Ds} {pre:ι->Prop} {res:ι->Ds} {fb:ι->List (Str×Ds)} {tr:TA} {E:XK} {n:Str} (x:ι) (e:Γ[i]? =some (.ob m C p dx fs)) (h:EvA Γ tr false es) (hd:fs=fa x) (ha:es=args x) (hp:pre x) (hr:res x=d) (ho:fb x=fs0) (hn:(fs.map Prod.fst).contains n=false) :
  EvM Γ (Γ.set i (.ob false C p dx fs0)) (zqx C n (SpvO C fa args pre res fb) [] E (zhi i) tr) d:=λF0 Hb F H σ own Q a k=>by
   subst hd ha hr ho;have hi:i<σ.length:=by rw [a.len];exact (↑42).1
   obtain ⟨vs0,z1,_,_,_,z5,z6⟩:=a.sl i _ e;have e':σ[i]? =some (some (.ref p)):=by rw [List.getElem?_eq_getElem hi] at z1 ⊢;exact congrArg some z1
   refine ⟨_,e',p,dx,vs0,rfl,z5.1,zh4 z6 hn,h F0 Hb F H σ own _ a λvs F1 H1 g1 q1=> ?_⟩;have a1:=a.grow g1;obtain ⟨vs1,w1,w2,w3,w4,w5,w6⟩:=a1.sl i _ e;have ne:dx≠p:=λz=>by have h1:=w5.1;have h2:=w5.2;rw [z] at h2;rw [h1] at h2;cases h2
   have hE:∀b,b≠p->b≠dx->↑80=H1 b:=λb n1 n2=>by rw [if_neg (by simp [n1,n2])]
   have hEp:↑93 p=none:=if_pos (.inl rfl);have hEd:↑93 dx=none:=if_pos (.inr rfl)
   have sE:∀ {R:Hp},Same R H1->R p=none->R dx=none->Same R ↑93:=λhR n1 n2 b w z=>by
    have b1:b≠p:=λy=>by rw [y,n1] at z;cases z
    have b2:b≠dx:=λy=>by rw [y,n2] at z;cases z
    show ↑80=some w;rw [hE b b1 b2];exact hR b w z
   refine ⟨x,p,dx,vs1,vs,λb=>if b=p∨b=dx then none else H1 b,F1,by rw [List.append_nil],hEp,hEd,ne,?_,sE a1.fh w3.1 w3.2,zbD (λ_ b z=>⟨z.1,b.2.up za4 z.2⟩) w6,?_,hp,λv us F' H' g n1 n2 h1 h2 h3 h4=> ?_⟩
   ·funext b;by_cases b1:b=p;·rw [b1,zat,w5.1]
    ·rw [zam b1];by_cases b2:b=dx;·rw [b2,zat,w5.2]
     ·rw [zam b2,hE b b1 b2]
   ·exact q1
   ·have gg:Grow F1 H1 F' (upd H' p (.ins C dx vs1)):=by
     refine ⟨g.f,λb w z=> ?_,λb w z=> ?_,λb z1 z2=> ?_⟩;·rw [zam (λy=>by rw [y,n1] at z;cases z)];exact g.fh b w z
     ·by_cases b1:b=p;·rw [b1,zat];rw [b1,w5.1] at z;exact z
      ·rw [zam b1];by_cases b2:b=dx;·rw [b2,h2];rw [b2,w5.2] at z;exact z
       ·exact g.h b w (by show ↑80=some w;rw [hE b b1 b2];exact z)
     ·by_cases b1:b=p;·rw [b1];exact n1
      ·by_cases b2:b=dx;·rw [b2];exact n2
       ·exact g.no b (by show ↑80≠none;rw [hE b b1 b2];exact z1) z2
    have a2:=(a1.grow gg).turnOb (n:=false) (ws:=us) (gs:=fb x) e h3
    have eq:upd (upd H' p (.ins C dx vs1)) p (.ins C dx us)=H':=by
     funext b;by_cases b1:b=p;·rw [b1,zat,h1]
     ·rw [zam b1,zam b1]
    rw [eq] at a2;exact k v F' H' a2 h4
theorem zsO {x y:Str} (h1:EvM Γ Δ ta (dS x)) (h2:Ev Δ tb false (dS y)):EvM Γ Δ (tOp rNe ta tb) (dB (!decide (x=y))):=λF0 Hb F H σ own Q a k=>h1 F0 Hb F H σ own _ a λu F1 H1 a1 q1=>h2 F0 Hb F1 H1 σ own _ a1 λv F2 H2 g2 q2=>by cases q1;cases q2;exact ⟨rfl,k _ F2 H2 (a1.grow g2) (by show V.bl _=V.bl _;rw [zk8])⟩
theorem zjN {Δ2:Ctx} (h:EvM Γ Δ te d) (w:Wk Δ Δ2):Run E Γ (zdI (zne te) u) (.rw Δ2 d):=λF0 Hb F H σ own D a k=>h F0 Hb F H σ own _ a λv F' H' a' q=>k v F' H' σ own (a'.wk w) q
theorem zqq {α β:Type} {x:α} (fo:β->Oc) {kk:α->β} (k:∀y,y=x->Run E Γ t (fo (kk y))):Run E Γ t (fo (Let x kk)):=k x rfl
theorem zj6 {f:Str} {d x:Ds} {r:List (Str×Ds)}:putD f d ((f,x)::r)=(f,d)::r:=by unfold putD;rw [if_pos rfl]
theorem zoY {f g:Str} {d x:Ds} {r r2:List (Str×Ds)} (h:(g == f)=false) (e:putD f d r=r2):putD f d ((g,x)::r)=(g,x)::r2:=by unfold putD;rw [if_neg (by intro z;rw [z] at h;simp at h),e]
theorem zl0 {tv:TE} {fs fs2:List (Str×Ds)} {f:Str} (e:Γ[i]? =some (.ob m C p dx fs)) (h:Ev Γ tv m d) (c:Cls K C) (nf:NoAttr K C f) (hz:fs.length<1000) (hf:putD f d fs=fs2) (k:Run E (Γ.set i (.ob m C p dx fs2)) u o):Run E Γ (zdI (zvj K (zhi i) tv f) u) o :=
 zoI e h c nf hz (hf ▸ k)
theorem zr4 {α:Type} {c:Bool} {x y:α} (fo:α->Oc) (h:EvM Γ Δ te (dB c)) (h1:c=true->Run E Δ (zdI t r) (fo x)) (h2:c=false->Run E Δ (zdI u r) (fo y)):Run E Γ (zdI (zrV (zsr te) t u) r) (fo (bif c then x else y)):=λF0 Hb F H σ own D a q=>h F0 Hb F H σ own _ a λv F' H' a' qv=>⟨c,qv,by cases c with|true=>rw [if_pos rfl];exact h1 rfl F0 Hb F' H' σ own D a' q|false=>rw [if_neg Bool.false_ne_true];exact h2 rfl F0 Hb F' H' σ own D a' q⟩
theorem zmK {fs:List (Str×Ds)} (e:Γ[i]? =some (.ob m C p dx fs)) (ht:Γ.all zwF=true) (k:Run E (Γ.set i (.va m (dO C fs))) t o):Run E Γ t o:=λF0 Hb F H σ own D a q=>by obtain ⟨F',own',_,a'⟩:=a.shareB e ht;exact k F0 Hb F' H σ own' D a' q
end
end L2
namespace Wd
open PySem PySem.Builtin.Str
def Fr (c:Nat) (x:Str):Prop:=c∉x.cps.toList
theorem zpi {c:Nat}:∀ {a b u v:List Nat},c∉a->c∉b->a++c::u=b++c::v->a=b∧u=v
 | [],[],_,_,_,_,e=>⟨rfl,(List.cons.inj e).2⟩
 | [],y :: b,_,_,_,hb,e=>absurd (List.cons.inj e).1 λz=>hb (z ▸ List.mem_cons_self)
 | x :: a,[],_,_,ha,_,e=>absurd (List.cons.inj e).1 λz=>ha (z ▸ List.mem_cons_self)
 | x :: a,y :: b,u,v,ha,hb,e=>by obtain ⟨e1,e2⟩:=List.cons.inj e;obtain ⟨h1,h2⟩:=zpi (λz=>ha (List.mem_cons_of_mem _ z)) (λz=>hb (List.mem_cons_of_mem _ z)) e2;exact ⟨by rw [e1,h1],h2⟩
theorem zhe (s x:Str):Str.join s [x]=x:=rfl
theorem zhd (s x y:Str) (r:List Str):Str.join s (x::y::r)=x++s++Str.join s (y::r):=rfl
theorem zjk (a b:Str) (c:Nat):(a++⟨#[c]⟩++b).cps.toList=a.cps.toList++c::b.cps.toList:=by rw [Str.cps_append,Str.cps_append,Array.toList_append,Array.toList_append,List.append_assoc];rfl
theorem zmw {c:Nat}:∀ {xs ys:List Str},xs≠[]->ys≠[]->(∀x∈xs,Fr c x)->(∀y∈ys,Fr c y)->Str.join ⟨#[c]⟩ xs=Str.join ⟨#[c]⟩ ys->xs=ys
 | [],_,h,_,_,_,_=>absurd rfl h
 | _,[],_,h,_,_,_=>absurd rfl h
 | [x],[y],_,_,_,_,e=>by rw [zhe,zhe] at e;rw [e]
 | [x],y :: z :: r,_,_,hx,_,e=>by rw [zhe,zhd] at e;exact absurd (show c∈x.cps.toList by rw [e,zjk];simp) (hx x List.mem_cons_self)
 | x :: z :: r,[y],_,_,_,hy,e=>by rw [zhe,zhd] at e;exact absurd (show c∈y.cps.toList by rw [←e,zjk];simp) (hy y List.mem_cons_self)
 | x :: z :: r,y :: w :: q,_,_,hx,hy,e=>by rw [zhd,zhd] at e;have e':=congrArg (λs:Str=>s.cps.toList) e;rw [zjk,zjk] at e';obtain ⟨h1,h2⟩:=zpi (hx x List.mem_cons_self) (hy y List.mem_cons_self) e';have h3:x=y:=Str.ext' (Array.toList_inj.mp h1);have h4:Str.join ⟨#[c]⟩ (z::r)=Str.join ⟨#[c]⟩ (w::q):=Str.ext' (Array.toList_inj.mp h2);rw [h3,zmw (List.cons_ne_nil _ _) (List.cons_ne_nil _ _) (λx h=>hx x (List.mem_cons_of_mem _ h)) (λx h=>hy x (List.mem_cons_of_mem _ h)) h4]
theorem zqD (x y:Str):Txt.split x y≠[]:=by
 unfold Txt.split;split;·simp
 ·split;·simp
  ·rw [StrLaws.partsBetween_eq];obtain ⟨p,r,e⟩:=StrLaws.partsFrom_ne x y.length 0 (occurrences x y 0 x.length (x.length+1));rw [e];simp
theorem zm1 {c:Nat} {ws:List Str} (h:ws≠[]) (hf:∀w∈ws,Fr c w):Txt.split (Str.join ⟨#[c]⟩ ws) ⟨#[c]⟩=ws :=
 zmw (zqD _ _) h (StrLaws.split_free _ c) hf (StrLaws.join_split _ _)
theorem split_joinT {ws:List Str} (h:ws≠[]) (hf:∀w∈ws,Fr 32 w):Txt.split (Txt.join ⇑1 ws) ⇑1=ws:=by
 have e:⇑1=⟨#[32]⟩:=by decide+kernel
 show Txt.split (glued ⇑1 ws) ⇑1=ws;rw [StrLaws.glued_eq_join,e];exact zm1 h hf
open W.KIN in
theorem num_all (m:Nat):∀c∈(Str.ofString (toString ((m:Nat):Int))).cps.toList,48≤c∧c≤57:=by intro c hc;rw [signs_num] at hc;obtain ⟨ch,hch,e⟩:=List.mem_map.mp hc;have r:=Nat.isDigit_of_mem_toDigits ↥1 ↥1 hch;rw [←e];simp only [Char.isDigit,Bool.and_eq_true,decide_eq_true_eq] at r;exact ⟨r.1,r.2⟩
theorem zoh {m:Nat} (h:10≤m):Nat.toDigits 10 m=Nat.toDigits 10 (m/10)++[Nat.digitChar (m%10)]:=by have hm:m%10<10:=Nat.mod_lt m ↥1;have t:Nat.toDigits 10 (m/10)++Nat.toDigits 10 (m%10)=Nat.toDigits 10 (10*(m/10)+m%10):=Nat.toDigits_append_toDigits ↥1 ↑0 hm;rw [Nat.div_add_mod,Nat.toDigits_of_lt_base hm] at t;exact t.symm
theorem znA:∀(k m:Nat),m<10 ^ (k+1)->(Nat.toDigits 10 m).length≤k+1
 | k,m,h=>by
  by_cases z:m<10;·rw [Nat.toDigits_of_lt_base z];simp
  ·cases k with|zero=>exact absurd h ↑0|succ k=>rw [zoh ↑0,List.length_append];have:=znA k (m/10) (by rw [Nat.div_lt_iff_lt_mul ↥1];rw [Nat.pow_succ] at h;exact h);simp only [List.length_cons,List.length_nil];omega
theorem zp4 (m:Nat) (h0:0<m):∃c r,(Nat.toDigits 10 m).map Char.toNat=c::r∧c≠48:=by
 induction m using Nat.strongRecOn with
  |_ m ih=>
   by_cases z:m<10
   ·rw [Nat.toDigits_of_lt_base z];refine ⟨_,_,rfl,?_⟩;have:∀d:Nat,d<10->0<d->(Nat.digitChar d).toNat≠48:=by decide
    exact this m z h0
   ·obtain ⟨c,r,e,hc⟩:=ih (m/10) ↑0 ↑0;rw [zoh ↑0,List.map_append,e];exact ⟨c,_,rfl,hc⟩
open W.KIN in
theorem num_len {m:Nat} (h:m<10^12):(Str.ofString (toString ((m:Nat):Int))).length≤12:=by show Array.size _≤12;rw [←Array.length_toList,signs_num,List.length_map];exact znA 11 m h
open W.KIN in
theorem zjb {m:Nat} (h:0<m):∃c r,(Str.ofString (toString ((m:Nat):Int))).cps.toList=c::r∧c≠48:=by rw [signs_num];exact zp4 m h
open W.KIN in
theorem num_reads {m:Nat} (h:m<10^12) (h0:0<m):intText? (Str.ofString (toString ((m:Nat):Int)))=some ((m:Nat):Int):=by obtain ⟨c,r,e,_⟩:=zjb h0;have e2:=intText_digits (num_all m) (by rw [e];simp) (Nat.le_trans (num_len h) ↥1);rw [signs_num,val_back] at e2;exact e2
open L2
abbrev num (m:Nat):Str:=((toString ((m:Nat):Int):String):Str)
theorem zma {α:Type} {a:List α} {r:α}:ixN (a++[r]).length (-1)=some a.length:=by rw [List.length_append];unfold ixN;simp only [List.length_cons,List.length_nil];rw [if_neg ↑0,if_pos ↑0];congr 1;omega
theorem zms {α:Type} [Inhabited α] {a:List α} {r:α}:ixD (a++[r]) ↥3=r:=by unfold ixD atI;rw [show ↥3= -1 from rfl,zma];show ((a++[r])[a.length]?).getD default=r;rw [List.getElem?_append_right ↑8];simp
theorem zoB {α:Type} {a:List α} {r x:α}:zcZ (a++[r]) ↥3 x=a++[x]:=by unfold zcZ;rw [show ↥3= -1 from rfl,zma];show (a++[r]).set a.length x=a++[x];rw [List.set_append_right _ _ ↑8];simp
def stepT (s:List ↑2) (x:Str):List ↑2:=bif decide (x∈[↥2,⇑2]) then s++[[x]] else zcZ s ↥3 ((ixD s ↥3)++[x])
theorem zky {s:List ↑2} {x:Str} (h:x∈[↥2,⇑2]):stepT s x=s++[[x]]:=by unfold stepT;rw [decide_eq_true h];rfl
theorem zi2 {a:List ↑2} {r:List Str} {x:Str} (h:x∉[↥2,⇑2]):stepT (a++[r]) x=a++[r++[x]]:=by unfold stepT;rw [decide_eq_false h,zms,zoB];rfl
structure Tm where
 sg:Str
 ct:Option Nat
 nm:Str
def Tm.ws (t:Tm):List Str:=t.sg::(match t.ct with|none=>[t.nm]|some k=>[num k,t.nm])
def Tm.Ok (t:Tm):Prop:=t.sg∈[↥2,⇑2]∧t.nm∉[↥2,⇑2]∧∀k,t.ct=some k->num k∉[↥2,⇑2]
theorem num_nsg (k:Nat):num k∉[↥2,⇑2]:=by
 have h:=num_all k;intro z;have e1:(↥2).cps.toList=[43]:=by decide+kernel
 have e2:(⇑2).cps.toList=[45]:=by decide+kernel
 have z:num k=↥2∨num k=⇑2:=by simpa using z
 rcases z with z|z
 ·have:=h 43 (by show 43∈(num k).cps.toList;rw [z,e1];simp);omega
 ·have:=h 45 (by show 45∈(num k).cps.toList;rw [z,e2];simp);omega
theorem fold_tms:∀ {ts:List Tm} {a:List ↑2},(∀t∈ts,t.Ok)->(ts.flatMap Tm.ws).foldl stepT a=a++ts.map Tm.ws
 | [],a,_=>by simp
 | t :: ts,a,h=>by
  obtain ⟨h1,h2,h3⟩:=h t List.mem_cons_self;rw [List.flatMap_cons,List.foldl_append];have e:t.ws.foldl stepT a=a++[t.ws]:=by unfold Tm.ws;cases ec:t.ct with|none=>show [t.sg,t.nm].foldl stepT a=_;rw [List.foldl_cons,List.foldl_cons,List.foldl_nil,zky h1,zi2 h2];rfl|some k=>show [t.sg,num k,t.nm].foldl stepT a=_;rw [List.foldl_cons,List.foldl_cons,List.foldl_cons,List.foldl_nil,zky h1,zi2 (h3 k ec),zi2 h2];rfl
  rw [e,fold_tms λt ht=>h t ↑51,List.map_cons];simp
def Wrd (x:Str):Prop:=(∀c∈x.cps.toList,c<128)∧1≤x.length∧x.length≤12
def Nm (x:Str):Prop:=(∀c∈x.cps.toList,97≤c∧c≤122)∧1≤x.length∧x.length≤12∧x≠↑6
theorem Wrd.asc {x:Str} (h:Wrd x):x.cps.all (· <128)=true:=by rw [←Array.all_toList];exact List.all_eq_true.mpr λc hc=>decide_eq_true (h.1 c hc)
theorem Wrd.line {x:Str} (h:Wrd x):x.length≤sizeLine:=Nat.le_trans h.2.2 ↥1
theorem Wrd.ch {x:Str} (h:Wrd x):(chS x).length≤sizeLine:=by
 have:(chS x).length=x.length:=by unfold chS;simp [Str.length]
 rw [this];exact h.line
theorem Nm.wrd {x:Str} (h:Nm x):Wrd x:=⟨λc hc=>by have:=h.1 c hc;omega,h.2.1,h.2.2.1⟩
theorem num_wrd {m:Nat} (h:m<10^12) (h0:0<m):Wrd (num m):=⟨λc hc=>by have:=num_all m c hc;omega,by obtain ⟨c,r,e,_⟩:=zjb h0;show 1≤Array.size _;rw [←Array.length_toList];show 1≤(num m).cps.toList.length;rw [e];simp,num_len h⟩
theorem all_made {x y:Str} (h:∀c∈x.cps.toList,c∈y.cps.toList):((List.map (λ(x1:Str)=>(zrD x1 y)) (chS x)).all id)=true:=by rw [List.all_eq_true];intro b hb;obtain ⟨w,hw,rfl⟩:=List.mem_map.mp hb;unfold chS at hw;obtain ⟨c,hc,rfl⟩:=List.mem_map.mp hw;show zrD ⟨#[c]⟩ y=true;unfold zrD;rw [StrLaws.found_one];exact decide_eq_true (h c hc)
theorem in_let {c:Nat} (h:97≤c∧c≤122):c∈(↑45).cps.toList:=by
 have:∀c,c<128->97≤c->c≤122->c∈(↑45).cps.toList:=by decide+kernel
 exact this c ↑0 h.1 h.2
theorem in_fig {c:Nat} (h:48≤c∧c≤57):c∈(("0123456789" :Str)).cps.toList:=by
 have:∀c,c<128->48≤c->c≤57->c∈(("0123456789" :Str)).cps.toList:=by decide+kernel
 exact this c ↑0 h.1 h.2
theorem num_ix {m:Nat} (h0:0<m):ixS (num m) (0:Int)≠("0" :Str):=by
 obtain ⟨c,r,e,hc⟩:=zjb h0;intro z;have e0:(("0" :Str)).cps= #[48]:=by decide+kernel
 have z':=congrArg Str.cps z;rw [e0] at z';have a0:atI (num m).cps.toList (0:Int)=some c:=by unfold atI;rw [show (num m).cps.toList=c::r from e];unfold ixN;rw [if_pos ↑0,if_pos ↥4];rfl
 have z2:(#[(atI (num m).cps.toList (0:Int)).getD 0]:Array Nat)= #[48]:=z';rw [a0] at z2;have:c=48:=by simpa using z2
 exact hc this
def NsP (ws:List Str):Prop:=ws≠[]∧ws.length≤8∧∀w∈ws,w∉[↥2,⇑2,("=" :Str)]
theorem NsP.len {ws:List Str} (h:NsP ws):ws.length≤sizeLine:=Nat.le_trans h.2.1 ↥1
theorem NsP.no {ws:List Str} (h:NsP ws):((decide (((ws.length:Nat):Int)=(0:Int)))||((List.map (λ(x4:Str)=>(decide (x4∈[↥2,⇑2,("=" :Str)]))) ws).any id))=false:=by
 rw [Bool.or_eq_false_iff];constructor;·have:ws.length≠0:=λz=>h.1 (List.length_eq_zero_iff.mp z);exact decide_eq_false ↑0
 ·rw [List.any_eq_false];intro b hb;obtain ⟨w,hw,rfl⟩:=List.mem_map.mp hb;show¬(decide (w∈[↥2,⇑2,("=" :Str)]))=true;rw [decide_eq_false (h.2.2 w hw)];simp
def sgn (ws:List Str):List Str:=bif (decide ((zb9 ws none ↑20)=[⇑2])) then ws else ([↥2]++ws)
def RwI (i:Nat) (s:List ↑2):Prop:=s.length≤i∧(0<i->s≠[])∧∀r∈s,r.length≤i
theorem cut1 (ws:List Str):zb9 ws none ↑20=ws.take 1:=by
 cases ws with
  |nil=>rfl
  |cons w r=>
   unfold zb9;have e1:HT.sIx (w::r).length (w::r).length ↑20=1:=by unfold HT.sIx;simp
   have e0:HT.sIx (w::r).length 0 none=0:=rfl;rw [e1,e0];rfl
theorem znu (ws:List Str):(sgn ws).length≤ws.length+1:=by unfold sgn;cases decide ((zb9 ws none ↑20)=[⇑2])<;>simp
theorem zlh {ws:List Str} {x:Str} (h:(sgn ws)[0]? =some x):x∈[↥2,⇑2]:=by
 unfold sgn at h;by_cases z:(zb9 ws none ↑20)=[⇑2]
 ·rw [decide_eq_true z] at h;have h:ws[0]? =some x:=h;rw [cut1] at z
  cases ws with
   |nil=>cases h
   |cons w r=>
    have e1:w=x:=by simpa using h
    have e2:w=⇑2:=by simpa using z
    rw [←e1,e2];simp
 ·rw [decide_eq_false z] at h;have h:some ↥2=some x:=h;cases h;simp
theorem RwI.step {i:Nat} {s:List ↑2} {x:Str} {ws:List Str} (h:RwI i s) (hx:(sgn ws)[i]? =some x):RwI (i+1) (stepT s x):=by
 by_cases z:x∈[↥2,⇑2]
 ·rw [zky z];refine ⟨by simpa using h.1,λ_=>by simp,λr hr=> ?_⟩;rcases List.mem_append.mp hr with q|q
  ·have:=h.2.2 r q;omega
  ·have:r=[x]:=by simpa using q
   rw [this];simp
 ·have hi:0<i:=Nat.pos_of_ne_zero λe=>z (zlh (by rw [e] at hx;exact hx));have hs:=h.2.1 hi;obtain ⟨a,r,e⟩:∃a r,s=a++[r]:=⟨s.dropLast,s.getLast hs,(List.dropLast_concat_getLast hs).symm⟩;rw [e,zi2 z];rw [e] at h;refine ⟨by have:=h.1;simp at this ⊢;omega,λ_=>by simp,λq hq=> ?_⟩;rcases List.mem_append.mp hq with q'|q'
  ·have:=h.2.2 q (List.mem_append_left _ q');omega
  ·have e2:q=r++[x]:=by simpa using q'
   have:=h.2.2 r ↥4;rw [e2];simp;omega
theorem RwI.start:RwI 0 []:=⟨Nat.le_refl 0,λh=>absurd h ↥1,λ_ h=>by cases h⟩
theorem RwI.ix {i:Nat} {s:List ↑2} {x:Str} {ws:List Str} (h:RwI i s) (hx:(sgn ws)[i]? =some x) (z:decide (x∈[↥2,⇑2])=false):InB s.length ↥3:=by have hi:0<i:=Nat.pos_of_ne_zero λe=>(of_decide_eq_false z) (zlh (by rw [e] at hx;exact hx));have hs:=h.2.1 hi;have:s.length≠0:=λe=>hs (List.length_eq_zero_iff.mp e);unfold InB;omega
theorem RwI.lt {i:Nat} {s:List ↑2} {x:Str} {ws:List Str} (h:RwI i s) (hx:(sgn ws)[i]? =some x) (hw:ws.length≤1000):s.length<sizeLine:=by have h1:=(List.getElem?_eq_some_iff.mp hx).1;have h2:=znu ws;have:=h.1;exact Nat.lt_of_le_of_lt (show _≤10000 by omega) ↥1
theorem RwI.lt2 {i:Nat} {s:List ↑2} {x:Str} {ws:List Str} (h:RwI i s) (hx:(sgn ws)[i]? =some x) (hw:ws.length≤1000) (z:decide (x∈[↥2,⇑2])=false):(ixD s ↥3).length<sizeLine:=by have h1:=(List.getElem?_eq_some_iff.mp hx).1;have h2:=znu ws;have hi:0<i:=Nat.pos_of_ne_zero λe=>(of_decide_eq_false z) (zlh (by rw [e] at hx;exact hx));have hs:=h.2.1 hi;obtain ⟨a,r,e⟩:∃a r,s=a++[r]:=⟨s.dropLast,s.getLast hs,(List.dropLast_concat_getLast hs).symm⟩;rw [e,zms];have:=h.2.2 r (by rw [e];simp);exact Nat.lt_of_le_of_lt (show _≤10000 by omega) ↥1
theorem RwI.len {s:List ↑2} {ws:List Str} (h:RwI (sgn ws).length s) (hw:ws.length≤1000):s.length≤sizeLine:=by have h2:=znu ws;have:=h.1;exact zap ↑0
theorem zlE:∀ {xs acc:List Str},xs.Nodup->(∀x∈xs,x∉acc)->xs.foldl zk1 acc=acc++xs
 | [],acc,_,_=>by simp
 | x :: xs,acc,h,d=>by
  obtain ⟨h1,h2⟩:=List.nodup_cons.mp h;have e:zk1 acc x=acc++[x]:=by unfold zk1;simp [d x List.mem_cons_self]
  rw [List.foldl_cons,e,zlE h2 λy hy z=>by
   rcases List.mem_append.mp z with z|z
   ·exact d y (List.mem_cons_of_mem _ hy) z
   ·have:y=x:=by simpa using z
    exact h1 (this ▸ hy)]
  simp
theorem setL_nodup {xs:List Str} (h:xs.Nodup):zhD xs=xs:=by
 have:=zlE (acc:=[]) h λ_ _ z=>by cases z
 simpa [zhD] using this
theorem join_ok {ws:List Str} (hl:ws.length≤2000) (hw:∀w∈ws,w.length≤700):JoinOk ⇑1 ws=true:=by
 unfold JoinOk;have e:(⇑1).length=1:=by decide+kernel
 rw [StrLaws.joinFits hw (by rw [e];have:ws.length*700≤2000*700:=Nat.mul_le_mul_right _ hl;omega)];rfl
def NmsP (ns:List Str):Prop:=(∀n∈ns,Nm n)∧ns.Nodup∧ns.length≤8
theorem NmsP.len {ns:List Str} (h:NmsP ns):ns.length≤sizeLine:=Nat.le_trans h.2.2 ↥1
def NwP (w:Str) (xs:Ji):Prop:=w.length≤12∧xs.length≤100∧∀x∈xs,0≤x∧x<10 ^ 12
theorem NwP.bit {w:Str} {xs:Ji} {x:Int} (h:NwP w xs) (hx:x∈xs):x.natAbs.log2<1920:=by
 obtain ⟨h0,h1⟩:=h.2.2 x hx;by_cases z:x.natAbs=0;·rw [z];decide
 ·exact (Nat.log2_lt z).mpr (Nat.lt_of_lt_of_le (show x.natAbs<10 ^ 12 by omega) ⇑6)
theorem num_leI {x:Int} (h0:0≤x) (h1:x<10^12):(((toString x:String):Str)).length≤12:=by obtain ⟨m,rfl⟩:=Int.eq_ofNat_of_zero_le h0;exact num_len ↑0
theorem NwP.join {w:Str} {xs:Ji} (h:NwP w xs):JoinOk ⇑1 ([w]++(List.map (λ(x42:Int)=>((toString x42:String):Str)) xs))=true:=by
 refine join_ok (by have:=h.2.1;simp;omega) λy hy=> ?_;rcases List.mem_append.mp hy with z|z
 ·have:y=w:=by simpa using z
  have:=h.1;subst y;omega
 ·obtain ⟨x,hx,rfl⟩:=List.mem_map.mp z;obtain ⟨a,b⟩:=h.2.2 x hx;have:=num_leI a b;omega
def BwP (ns:List Str) (xs:Ji):Prop:=ns.length≤8∧(∀n∈ns,n.length≤12)∧∀x∈xs,x.natAbs<10 ^ 12
def BwI (i:Nat) (s:List Str):Prop:=s.length≤3*i∧∀w∈s,w.length≤12
def bwF (s:List Str) (x:Str×Int):List Str:=bif (decide (x.2=(0:Int))) then s else (Let (bif (decide (x.2<(0:Int))) then (s++[⇑2]) else ↑99) (λ(t:List Str)=>t++[((toString ((x.2.natAbs:Nat):Int):String):Str),x.1]))
theorem BwI.start:BwI 0 []:=⟨Nat.le_refl 0,λ_ h=>by cases h⟩
theorem zpP:(⇑2).length≤12∧(↥2).length≤12:=by decide+kernel
theorem BwI.app {n:Nat} {s t:List Str} (h:s.length≤n∧∀w∈s,w.length≤12) (ht:∀w∈t,w.length≤12):(s++t).length≤n+t.length∧∀w∈s++t,w.length≤12 :=
 ⟨by rw [List.length_append];have:=h.1;omega,λw hw=>by
  rcases List.mem_append.mp hw with z|z
  ·exact h.2 w z
  ·exact ht w z⟩
theorem BwI.step {i:Nat} {s:List Str} {x:Str×Int} {ns:List Str} {xs:Ji} (h:BwI i s) (hp:BwP ns xs) (hx:(↑32)[i]? =some x):BwI (i+1) (bwF s x):=by
 have hm:=List.mem_of_getElem? hx;obtain ⟨x1,x2⟩:=x;have m1:=hp.2.1 x1 (List.of_mem_zip hm).1;have m2:=hp.2.2 x2 (List.of_mem_zip hm).2
 have tl:∀w∈[((toString ((x2.natAbs:Nat):Int):String):Str),x1],w.length≤12:=λw hw=>by
  have:w=((toString ((x2.natAbs:Nat):Int):String):Str)∨w=x1:=by simpa using hw
  rcases this with rfl|rfl
  ·exact num_len m2
  ·exact m1
 unfold bwF
 cases decide (x2=(0:Int)) with
  |true=>exact ⟨by have:=h.1;show s.length≤_;omega,h.2⟩
  |false=>
   show BwI (i+1) ((bif (decide (x2<(0:Int))) then (s++[⇑2]) else ↑99)++_)
   have k:(bif (decide (x2<(0:Int))) then (s++[⇑2]) else ↑99).length≤3*i+1∧∀w∈(bif (decide (x2<(0:Int))) then (s++[⇑2]) else ↑99),w.length≤12:=by
    cases decide (x2<(0:Int)) with
     |true=>exact BwI.app h λw hw=>by rw [List.mem_singleton.mp hw];exact zpP.1
     |false=>cases decide ((0:Int)<((s.length:Nat):Int)) with|true=>exact BwI.app h λw hw=>by rw [List.mem_singleton.mp hw];exact zpP.2|false=>exact ⟨Nat.le_succ_of_le h.1,h.2⟩
   exact BwI.app k tl
theorem BwI.lt {i:Nat} {s:List Str} {x:Str×Int} {ns:List Str} {xs:Ji} (h:BwI i s) (hp:BwP ns xs) (hx:(↑32)[i]? =some x):s.length≤24:=by have h1:=(List.getElem?_eq_some_iff.mp hx).1;rw [List.length_zip] at h1;have:=h.1;have:=hp.1;omega
theorem BwI.join {s:List Str} {ns:List Str} {xs:Ji} (h:BwI (↑32).length s) (hp:BwP ns xs):JoinOk ⇑1 s=true:=by have h1:=h.1;rw [List.length_zip] at h1;have:=hp.1;exact join_ok ↑0 λw hw=>by have:=h.2 w hw;omega
theorem BwP.bit {ns:List Str} {xs:Ji} {x:Str×Int} (hp:BwP ns xs) (hx:x∈List.zip ns xs):(((x.2.natAbs:Nat):Int)).natAbs.log2<1920:=by
 have m2:=hp.2.2 x.2 (List.of_mem_zip (show (x.1,x.2)∈_ from hx)).2;rw [Int.natAbs_natCast];by_cases z:x.2.natAbs=0;·rw [z];decide
 ·exact (Nat.log2_lt z).mpr (Nat.lt_of_lt_of_le m2 ⇑6)
def LnP (x:Str) (ws:List Str):Prop:=x=Txt.join ⇑1 ws∧ws≠[]∧(∀w∈ws,Fr 32 w∧1≤w.length)∧x.length≤5000
theorem LnP.split {x:Str} {ws:List Str} (h:LnP x ws):Txt.split x ⇑1=ws:=by rw [h.1];exact split_joinT h.2.1 λw hw=>(h.2.2.1 w hw).1
theorem LnP.sl {x:Str} {ws:List Str} (h:LnP x ws):x.length≤sizeLine:=zap (by have:=h.2.2.2;omega)
theorem LnP.s2 {x:Str} {ws:List Str} (h:LnP x ws):(partsBetween x (occurrences x ⇑1 0 x.length (x.length+1)) (⇑1).length).length≤sizeLine:=by rw [length_partsBetween];have:=StrLaws.occ_length_le x ⇑1 0 x.length (x.length+1);exact zap (by have:=h.2.2.2;omega)
theorem LnP.s1 {x:Str} {ws:List Str} (h:LnP x ws):(Txt.split x ⇑1).length≤sizeLine:=by
 unfold Txt.split;split;·exact zap ↥4
 ·split;·exact zap ↥4
  ·exact h.s2
theorem LnP.no {x:Str} {ws us:List Str} (h:LnP x ws) (e:us=ws):decide (("" :Str)∈us)=false:=by rw [e];refine decide_eq_false λz=> ?_;have:=(h.2.2.1 _ z).2;exact absurd this ⇑6
theorem cut_tl {w:Str} {r:List Str}:zb9 (w::r) ↑20 none=r:=by
 unfold zb9;have e1:HT.sIx (w::r).length 0 ↑20=1:=by unfold HT.sIx;simp
 have e0:HT.sIx (w::r).length (w::r).length none=(w::r).length:=rfl;rw [e1,e0];simp
theorem ix_hd {w:Str} {r:List Str}:InB (w::r).length (0:Int):=by unfold InB;simp;omega
theorem ix0 {α:Type} [Inhabited α] {w:α} {r:List α}:ixD (w::r) (0:Int)=w:=by unfold ixD atI ixN;rw [if_pos ↑0,if_pos ↥4];rfl
theorem ztp {ns:List Str} {xs:Ji} (h:BwP ns xs):BwI (↑32).length ((↑32).foldl bwF []):=by
 have:=zeK (f:=bwF) (I:=BwI) (xs:=List.zip ns xs) (s:=[]) (n:=0) BwI.start λi x s e q=>by rw [Nat.zero_add] at q ⊢;exact q.step h e
 rwa [Nat.zero_add] at this
theorem join_len {ws:List Str} {n B:Nat} (hl:ws.length≤n) (hw:∀w∈ws,w.length≤B):(Txt.join ⇑1 ws).length≤n*B+n:=by
 show (glued ⇑1 ws).length≤_;have e:(⇑1).length=1:=by decide+kernel
 rw [size_glued,e];have h1:=StrLaws.sumLen_le ws hw;have h2:ws.length*B≤n*B:=Nat.mul_le_mul_right _ hl;omega
theorem bw_len {ns:List Str} {xs:Ji} (h:BwP ns xs):((Let ((↑32).foldl bwF []) (λ(r:List Str)=>(bif (decide ((0:Int)<((r.length:Nat):Int))) then (Txt.join ⇑1 r) else ↑6)))).length≤1000:=by have I:=ztp h;have h1:=I.1;rw [List.length_zip] at h1;have h2:=h.1;show (bif _ then _ else _:Str).length≤1000;cases decide ((0:Int)<(((((↑32).foldl bwF []).length:Nat)):Int)) with|true=>exact Nat.le_trans (join_len (n:=24) (B:=12) ↑0 I.2) ↥1|false=>exact (by decide+kernel:(↑6).length≤1000)
def lsF (s:List Str) (x:Str×Int):List Str:=bif (decide (x.2<(0:Int))) then (s++[⇑2,((toString ((0:Int)-x.2):String):Str),x.1]) else (bif (decide ((0:Int)<x.2)) then (s++[↥2,((toString x.2:String):Str),x.1]) else s)
theorem BwP.mem {ns:List Str} {xs:Ji} {x:Str×Int} {i:Nat} (hp:BwP ns xs) (hx:(↑32)[i]? =some x):x.1.length≤12∧x.2.natAbs<10 ^ 12:=by have hm:=List.mem_of_getElem? hx;exact ⟨hp.2.1 x.1 (List.of_mem_zip (show (x.1,x.2)∈_ from hm)).1,hp.2.2 x.2 (List.of_mem_zip (show (x.1,x.2)∈_ from hm)).2⟩
theorem BwI.stepL {i:Nat} {s:List Str} {x:Str×Int} {ns:List Str} {xs:Ji} (h:BwI i s) (hp:BwP ns xs) (hx:(↑32)[i]? =some x):BwI (i+1) (lsF s x):=by
 obtain ⟨m1,m2⟩:=hp.mem hx
 have k:∀(g:Str) (y:Int),g.length≤12->0≤y->y<10 ^ 12->BwI (i+1) (s++[g,((toString y:String):Str),x.1]):=λg y hg h0 h1=>BwI.app (n:=3*i) (t:=[g,((toString y:String):Str),x.1]) h λw hw=>by
  have:w=g∨w=((toString y:String):Str)∨w=x.1:=by simpa using hw
  rcases this with rfl|rfl|rfl
  ·exact hg
  ·exact num_leI h0 h1
  ·exact m1
 unfold lsF;by_cases z:x.2<0;·rw [decide_eq_true z];exact k _ _ zpP.1 ↑0 ↑0
 ·rw [decide_eq_false z];by_cases z2:0<x.2;·rw [decide_eq_true z2];exact k _ _ zpP.2 ↑0 ↑0
  ·rw [decide_eq_false z2];exact ⟨by have:=h.1;show s.length≤_;omega,h.2⟩
theorem log_lt {y:Int} (h:y.natAbs<10^12):y.natAbs.log2<1920:=by
 by_cases z:y.natAbs=0;·rw [z];decide
 ·exact (Nat.log2_lt z).mpr (Nat.lt_of_lt_of_le h ⇑6)
theorem BwI.joinL {s t:List Str} {ns:List Str} {xs:Ji} (h:BwI (↑32).length s) (hp:BwP ns xs) (e:t=bif (decide ((ixD s (0:Int))=↥2)) then (s.tail) else s):JoinOk ⇑1 t=true:=by
 have h1:=h.1;rw [List.length_zip] at h1;have:=hp.1;have sub:t.length≤s.length∧∀w∈t,w∈s:=by rw [e];cases decide ((ixD s (0:Int))=↥2) with|true=>exact ⟨by show s.tail.length≤_;simp,λw hw=>List.mem_of_mem_tail hw⟩|false=>exact ⟨Nat.le_refl _,λw hw=>hw⟩
 exact join_ok ↑0 λw hw=>by have:=h.2 w (sub.2 w hw);omega
theorem ix_ne {α:Type} {s:List α} (h:s≠[]):InB s.length (0:Int):=by have:s.length≠0:=λe=>h (List.length_eq_zero_iff.mp e);unfold InB;omega
def tmOf (p:Str×Int):Tm:=⟨bif decide (p.2<0) then ⇑2 else ↥2,some p.2.natAbs,p.1⟩
def tmL (ns:List Str) (xs:Ji):List Tm:=((↑32).filter ↑58).map tmOf
theorem ls_fold:∀(ps:List (Str×Int)) (s:List Str),ps.foldl lsF s=s++((ps.filter ↑58).map tmOf).flatMap Tm.ws
 | [],s=>by simp
 | p :: ps,s=>by
  rw [List.foldl_cons,ls_fold ps];by_cases z:p.2=0
  ·have e1:lsF s p=s:=by unfold lsF;rw [decide_eq_false ↑0,decide_eq_false ↑0];rfl
   rw [e1,List.filter_cons_of_neg (by simp [z])]
  ·rw [List.filter_cons_of_pos (by simp [z]),List.map_cons,List.flatMap_cons,←List.append_assoc];congr 1;unfold lsF tmOf Tm.ws;by_cases z2:p.2<0
   ·rw [decide_eq_true z2];have:(0:Int)-p.2=((p.2.natAbs:Nat):Int):=by omega
    rw [this];rfl
   ·rw [decide_eq_false z2,decide_eq_true (show (0:Int)<p.2 by omega)];have:p.2=((p.2.natAbs:Nat):Int):=by omega
    show s++[↥2,((toString p.2:String):Str),p.1]=s++[↥2,num p.2.natAbs,p.1];unfold num;rw [←this]
def drp (ws:List Str):List Str:=bif decide (ws.head? =some ↥2) then ws.tail else ws
theorem zjG:∀(ps:List (Str×Int)) (s:List Str),s≠[]->ps.foldl bwF s=s++((ps.filter ↑58).map tmOf).flatMap Tm.ws
 | [],s,_=>by simp
 | p :: ps,s,h=>by
  have hl:(0:Int)<((s.length:Nat):Int):=by have:=List.length_pos_iff.mpr h;omega
  rw [List.foldl_cons];by_cases z:p.2=0
  ·have e1:bwF s p=s:=by unfold bwF;rw [decide_eq_true z];rfl
   rw [e1,zjG ps s h,List.filter_cons_of_neg (by simp [z])]
  ·have e1:bwF s p=s++(tmOf p).ws:=by
    unfold bwF tmOf Tm.ws;rw [decide_eq_false z,decide_eq_true hl];by_cases z2:p.2<0;·rw [decide_eq_true z2];show (s++[⇑2])++_=s++_;rw [List.append_assoc];rfl
    ·rw [decide_eq_false z2];show (s++[↥2])++_=s++_;rw [List.append_assoc];rfl
   rw [e1,zjG ps _ (by simp [Tm.ws]),List.filter_cons_of_pos (by simp [z]),List.map_cons,List.flatMap_cons,List.append_assoc]
theorem bw_fold0:∀(ps:List (Str×Int)),ps.foldl bwF []=drp (((ps.filter ↑58).map tmOf).flatMap Tm.ws)
 | []=>by rfl
 | p :: ps=>by
  rw [List.foldl_cons];by_cases z:p.2=0
  ·have e1:bwF [] p=[]:=by unfold bwF;rw [decide_eq_true z];rfl
   rw [e1,bw_fold0 ps,List.filter_cons_of_neg (by simp [z])]
  ·rw [List.filter_cons_of_pos (by simp [z]),List.map_cons,List.flatMap_cons];by_cases z2:p.2<0
   ·have e1:bwF [] p=(tmOf p).ws:=by unfold bwF tmOf Tm.ws;rw [decide_eq_false z,decide_eq_true z2];rfl
    rw [e1,zjG ps _ (by simp [Tm.ws])];have:(tmOf p).ws=⇑2::(tmOf p).ws.tail:=by unfold tmOf Tm.ws;rw [decide_eq_true z2];rfl
    rw [this];show _=bif decide (some ⇑2=some ↥2) then _ else _;rw [decide_eq_false (by intro q;exact absurd (Option.some.inj q) ⇑6)];rfl
   ·have e1:bwF [] p=(tmOf p).ws.tail:=by unfold bwF tmOf Tm.ws;rw [decide_eq_false z,decide_eq_false z2];rfl
    rw [e1,zjG ps _ (by simp [Tm.ws,tmOf])];have:(tmOf p).ws=↥2::(tmOf p).ws.tail:=by unfold tmOf Tm.ws;rw [decide_eq_false z2];rfl
    rw [this];show _=bif decide (some ↥2=some ↥2) then _ else _;rw [decide_eq_true rfl];rfl
end Wd
namespace Wd
open PySem PySem.Builtin.Str L2
abbrev cs (x:Str):List Nat:=x.cps.toList
theorem cs_ext {x y:Str} (h:cs x=cs y):x=y:=Str.ext' (Array.toList_inj.mp h)
theorem cs_app (x y:Str):cs (x++y)=cs x++cs y:=by unfold cs;rw [Str.cps_append,Array.toList_append]
theorem cs_len (x:Str):x.length=(cs x).length:=by show Array.size _=_;rw [←Array.length_toList]
theorem app_len (x y:Str):(x++y).length=x.length+y.length:=by rw [cs_len,cs_len,cs_len,cs_app,List.length_append]
abbrev abc:Str:=↑45
theorem zrO:∀k:Nat,k<26->cs (ixS abc ((k:Nat):Int))=[97+k]:=by decide+kernel
theorem zhG {k:Int} (h0:0≤k) (h:k<26):cs (ixS abc k)=[97+k.toNat]:=by obtain ⟨m,rfl⟩:=Int.eq_ofNat_of_zero_le h0;exact zrO m ↑0
theorem zmo {c:Nat} {x:Array Nat} (hx:x.toList=[c]):∀(m:Nat) (a:Array Nat),((List.replicate m x).foldl (· ++ ·) a).toList=a.toList++List.replicate m c
 | 0,a=>by simp
 | m+1,a=>by rw [List.replicate_succ,List.foldl_cons,zmo hx m,Array.toList_append,hx,List.replicate_succ];simp
theorem cs_mul {c:Nat} {x:Str} {n:Int} (hx:cs x=[c]) (h:0≤n):cs (Txt.mul x n)=List.replicate n.toNat c:=by
 unfold Txt.mul;by_cases h1:n<1
 ·have:n=0:=by omega
  subst this;rw [if_pos h1];rfl
 ·rw [if_neg h1];by_cases h2:(n==1||x.length==0)=true
  ·rw [if_pos h2];have h3:x.length=1:=by rw [cs_len,hx];rfl
   have h4:n=1:=by simpa [h3] using h2
   subst h4;exact hx
  ·rw [if_neg h2];show ((List.replicate n.toNat x.cps).foldl (· ++ ·) #[]).toList=_;rw [zmo hx];simp
theorem mul_ok {c:Nat} {x:Str} {n:Int} (hx:cs x=[c]) (h:0≤n) (h9:n≤100):MulOk x n:=by
 have h3:x.length=1:=by rw [cs_len,hx];rfl
 refine ⟨?_,λh1 _=> ?_,λh1 _=> ?_⟩;·rw [Bool.or_eq_false_iff];exact ⟨decide_eq_false ↑0,decide_eq_false ↑0⟩
 ·rw [h3];have:(1:Int)≤(2 ^ 63-1)/n:=(Int.le_ediv_iff_mul_le ↑0).mpr ↑0;omega
 ·rw [h3,Nat.one_mul];unfold tooLong;have h4:n.toNat≤100:=by omega
  have h5:100≤sizeLine:=by decide
  exact decide_eq_false ↑0
theorem zv8:cs ↑6=[110,111,116,104,105,110,103]:=by decide+kernel
theorem zsw {p q b s:Nat}:List.replicate p b++s::List.replicate q b≠[110,111,116,104,105,110,103]:=by
 intro h;have hl:=congrArg List.length h;simp at hl;have c:(p=0∧q=6)∨(p=1∧q=5)∨(p=2∧q=4)∨(p=3∧q=3)∨(p=4∧q=2)∨(p=5∧q=1)∨(p=6∧q=0):=by omega
 rcases c with ⟨rfl,rfl⟩|⟨rfl,rfl⟩|⟨rfl,rfl⟩|⟨rfl,rfl⟩|⟨rfl,rfl⟩|⟨rfl,rfl⟩|⟨rfl,rfl⟩<;>simp [List.replicate] at h<;>omega
theorem zns {x:Str} {p q b s:Nat} (h:cs x=List.replicate p b++s::List.replicate q b) (hb:97≤b∧b≤122) (hs:97≤s∧s≤122) (hl:p+q+1≤12):Nm x:=by
 refine ⟨λc hc=> ?_,?_,?_,λz=> ?_⟩
 ·have hc:c∈cs x:=hc;rw [h] at hc;rcases List.mem_append.mp hc with q|q
  ·rw [(List.mem_replicate.mp q).2];exact hb
  ·rcases List.mem_cons.mp q with q|q
   ·rw [q];exact hs
   ·rw [(List.mem_replicate.mp q).2];exact hb
 ·rw [cs_len,h];simp;omega
 ·rw [cs_len,h];simp;omega
 ·rw [z,zv8] at h;exact zsw h.symm
theorem zsz {p q b s t:Nat} (h:List.replicate p b++s::List.replicate q b=List.replicate p b++t::List.replicate q b):s=t :=
 (List.cons.inj (List.append_cancel_left h)).1
theorem zlX {α:Type} [DecidableEq α]:∀ {xs ys:List α},xs.Nodup->(∀x∈xs,x∈ys)->xs.length≤ys.length
 | [],ys,_,_=>by simp
 | x :: xs,ys,h,hs=>by obtain ⟨h1,h2⟩:=List.nodup_cons.mp h;have hx:=hs x List.mem_cons_self;have:=zlX (ys:=ys.erase x) h2 λy hy=>(List.mem_erase_of_ne (λ(e:y=x)=>h1 (e ▸ hy))).mpr (hs y (List.mem_cons_of_mem _ hy));rw [List.length_erase_of_mem hx] at this;have:0<ys.length:=List.length_pos_of_mem hx;rw [List.length_cons];omega
theorem zjT {α:Type} {w:α}:∀ {xs:List α} {i:Nat},xs.Nodup->w∉xs->(xs.set i w).Nodup
 | [],i,h,_=>by simp
 | x :: xs,0,h,hw=>by rw [List.set_cons_zero,List.nodup_cons];exact ⟨λz=>hw (List.mem_cons_of_mem _ z),(List.nodup_cons.mp h).2⟩
 | x :: xs,i+1,h,hw=>by
  obtain ⟨h1,h2⟩:=List.nodup_cons.mp h;rw [List.set_cons_succ,List.nodup_cons];refine ⟨λz=> ?_,zjT h2 λz=>hw (List.mem_cons_of_mem _ z)⟩;rcases List.mem_or_eq_of_mem_set z with q|q
  ·exact h1 q
  ·exact hw (q ▸ List.mem_cons_self)
def chg (bad:Str->Bool) (g:Int->Str) (s:Str) (x:Int):Str:=bif bad s then g x else s
theorem zjt {bad:Str->Bool} {g:Int->Str}:∀ {xs:Ji} {s:Str},bad s=false->xs.foldl (chg bad g) s=s
 | [],s,_=>rfl
 | x :: xs,s,h=>by
  rw [List.foldl_cons];have:chg bad g s x=s:=by unfold chg;rw [h];rfl
  rw [this,zjt h]
theorem znP {bad:Str->Bool} {g:Int->Str}:∀ {xs:Ji} {s:Str},bad (xs.foldl (chg bad g) s)=true->∀x∈xs,bad (g x)=true
 | [],s,_=>λx hx=>by cases hx
 | x :: xs,s,h=>λy hy=>by
  rw [List.foldl_cons] at h;by_cases b:bad s=true
  ·have e:chg bad g s x=g x:=by unfold chg;rw [b];rfl
   rw [e] at h;rcases List.mem_cons.mp hy with rfl|hy
   ·cases q:bad (g y) with|true=>rfl|false=>rw [zjt q,q] at h;cases h
   ·exact znP h y hy
  ·have b:bad s=false:=by simpa using b
   have e:chg bad g s x=s:=by unfold chg;rw [b];rfl
   rw [e,zjt b,b] at h;cases h
theorem zlP {bad:Str->Bool} {g:Int->Str} {P:Str->Prop}:∀ {xs:Ji} {s:Str},P s->(∀x∈xs,P (g x))->P (xs.foldl (chg bad g) s)
 | [],s,h,_=>h
 | x :: xs,s,h,hg=>by rw [List.foldl_cons];refine zlP ?_ λy hy=>hg y (List.mem_cons_of_mem _ hy);unfold chg;cases bad s with|true=>exact hg x List.mem_cons_self|false=>exact h
def Lt (x:Str):Prop:=∀c∈cs x,97≤c∧c≤122
theorem Lt.app {x y:Str} (h:Lt x) (h':Lt y):Lt (x++y):=λc hc=>by
 rw [cs_app] at hc;rcases List.mem_append.mp hc with q|q
 ·exact h c q
 ·exact h' c q
theorem Lt.of {x:Str} {k:Int} (h0:0≤k) (h:k<26):Lt (ixS abc k):=λc hc=>by rw [zhG h0 h] at hc;have:c=97+k.toNat:=List.mem_singleton.mp hc;omega
def wk (x:Int):Str:=Txt.mul (ixS abc x) (1+x)
theorem zsJ {x:Int} (h0:0≤x) (h:x<10):cs (wk x)=List.replicate (x.toNat+1) (97+x.toNat):=by unfold wk;rw [cs_mul (zhG h0 ↑0) ↑0,show (1+x).toNat=x.toNat+1 by omega]
theorem zuQ {x:Int} (h0:0≤x) (h:x<10):Nm (wk x):=by refine zns (p:=x.toNat) (q:=0) (b:=97+x.toNat) (s:=97+x.toNat) ?_ ↑0 ↑0 ↑0;rw [zsJ h0 h,List.replicate_succ'];rfl
theorem zto {x y:Int} (h0:0≤x) (h:x<10) (h0':0≤y) (h':y<10) (e:wk x=wk y):x=y:=by have:=congrArg (λz=>(cs z).length) e;simp only [zsJ h0 h,zsJ h0' h',List.length_replicate] at this;omega
theorem znG:((zdA 0 10).map wk).Nodup:=by
 rw [List.nodup_iff_pairwise_ne,List.pairwise_map];have:(zdA 0 10).Pairwise λa b=>(0≤a∧a<10∧0≤b∧b<10)∧a≠b:=by decide
 exact this.imp λ {a b} h e=>h.2 (zto h.1.1 h.1.2.1 h.1.2.2.1 h.1.2.2.2 e)
theorem zpd {x:Int} (h:x∈zdA 0 10):0≤x∧x<10:=by
 have:∀x∈zdA 0 10,0≤x∧x<10:=by decide
 exact this x h
theorem spell_new {ns:List Str} {w:Str} (hn:ns.length≤7) (hl:Lt w) (h1:1≤w.length) (h12:w.length≤12) :
  let r:=(zdA 0 10).foldl (chg (λs=>decide (s∈ns)||decide (s=↑6)) wk) w;Nm r∧r∉ns:=by
   intro r;have hP:Lt r∧1≤r.length∧r.length≤12:=by refine zlP (P:=λr=>Lt r∧1≤r.length∧r.length≤12) ⟨hl,h1,h12⟩ λx hx=> ?_;obtain ⟨a,b⟩:=zpd hx;have:=zuQ a b;exact ⟨this.1,this.2.1,this.2.2.1⟩
   have hb:(decide (r∈ns)||decide (r=↑6))=false:=by
    cases q:(decide (r∈ns)||decide (r=↑6)) with
     |false=>rfl
     |true=>
      have all:=znP (bad:=λs=>decide (s∈ns)||decide (s=↑6)) (g:=wk) (xs:=zdA 0 10) (s:=w) q;have sub:∀y∈(zdA 0 10).map wk,y∈ns:=λy hy=>by obtain ⟨x,hx,rfl⟩:=List.mem_map.mp hy;obtain ⟨a,b⟩:=zpd hx;have h2:=(zuQ a b).2.2.2;have h3:=all x hx;simpa [h2] using h3
      have:=zlX znG sub;have e:((zdA 0 10).map wk).length=10:=by simp [zdA]
      omega
   obtain ⟨b1,b2⟩:=Bool.or_eq_false_iff.mp hb;exact ⟨⟨hP.1,hP.2.1,hP.2.2,of_decide_eq_false b2⟩,of_decide_eq_false b1⟩
theorem NmsP.snoc {ns:List Str} {w:Str} (h:NmsP ns) (hw:Nm w) (hn:w ∉ ns) (hl:ns.length≤7):NmsP (ns++[w]):=by
 refine ⟨λn q=> ?_,?_,by simp;omega⟩
 ·rcases List.mem_append.mp q with q|q
  ·exact h.1 n q
  ·rw [List.mem_singleton.mp q];exact hw
 ·rw [List.nodup_append];exact ⟨h.2.1,by simp,λa ha b hb e=>hn (by rw [←List.mem_singleton.mp hb,←e];exact ha)⟩
theorem NmsP.nil:NmsP []:=⟨(λ_ h=>by cases h),List.nodup_nil,by decide⟩
theorem NmsP.set {ns:List Str} {w:Str} {i:Int} (h:NmsP ns) (hw:Nm w) (hn:w ∉ ns):NmsP (zcZ ns i w):=by
 unfold zcZ
 cases ixN ns.length i with
  |none=>exact h
  |some j=>
   refine ⟨λn q=> ?_,zjT h.2.1 hn,by show (ns.set j w).length≤8;rw [List.length_set];exact h.2.2⟩;rcases List.mem_or_eq_of_mem_set q with q|q
   ·exact h.1 n q
   ·rw [q];exact hw
theorem six_nm:∀w∈[↑15,("swap" :Str),("drop" :Str),("ask" :Str),⇑4,↑14],Nm w:=by unfold Nm;decide+kernel
def nA (f p z k:Int):Str:=(Txt.mul (ixS abc f) p++ixS abc ((f+k+1)%26))++Txt.mul (ixS abc f) (z-p-1)
def nB (f z k:Int):Str:=ixS abc ((f+k+1)%26)++Txt.mul (ixS abc f) ((z+k)%12)
theorem zsy {f p z k:Int} (hf:0≤f∧f<26) (hp:0≤p∧p<z):cs (nA f p z k)=List.replicate p.toNat (97+f.toNat)++(97+((f+k+1)%26).toNat)::List.replicate (z-p-1).toNat (97+f.toNat):=by unfold nA;rw [cs_app,cs_app,cs_mul (zhG hf.1 hf.2) hp.1,cs_mul (zhG hf.1 hf.2) ↑0,zhG ↑0 ↑0,List.append_assoc];rfl
theorem zsx {f z k:Int} (hf:0≤f∧f<26):cs (nB f z k)=List.replicate 0 (97+f.toNat)++(97+((f+k+1)%26).toNat)::List.replicate ((z+k)%12).toNat (97+f.toNat):=by unfold nB;rw [cs_app,cs_mul (zhG hf.1 hf.2) ↑0,zhG ↑0 ↑0];rfl
theorem nA_nm {f p z k:Int} (hf:0≤f∧f<26) (hp:0≤p∧p<z) (hz:z≤12):Nm (nA f p z k) :=
 zns (zsy hf hp) ↑0 ↑0 ↑0
theorem nB_nm {f z k:Int} (hf:0≤f∧f<26):Nm (nB f z k):=zns (zsx hf) ↑0 ↑0 ↑0
theorem nA_inj {f p z k l:Int} (hf:0≤f∧f<26) (hp:0≤p∧p<z) (hk:0≤k∧k<8) (hl:0≤l∧l<8) (e:nA f p z k=nA f p z l):k=l:=by have e:=congrArg cs e;rw [zsy hf hp,zsy hf hp] at e;have:=zsz e;omega
theorem nB_inj {f z k l:Int} (hf:0≤f∧f<26) (hk:0≤k∧k<8) (hl:0≤l∧l<8) (e:nB f z k=nB f z l):k=l:=by have e:=congrArg cs e;rw [zsx hf,zsx hf] at e;have:=(List.cons.inj e).1;omega
theorem nms_map {g:Int->Str} {n:Nat} (hn:n≤8) (h:∀k,0≤k->k<8->Nm (g k)) (hi:∀k l,(0≤k∧k<8)->(0≤l∧l<8)->g k=g l->k=l):NmsP ((zdA 0 n).map g):=by
 have m:∀x∈zdA 0 n,0≤x∧x<8:=λx hx=>by unfold zdA at hx;obtain ⟨i,hi,rfl⟩:=List.mem_map.mp hx;have:=List.mem_range.mp hi;omega
 refine ⟨λw hw=> ?_,?_,by simp [zdA];omega⟩;·obtain ⟨x,hx,rfl⟩:=List.mem_map.mp hw;exact h x (m x hx).1 (m x hx).2
 ·have nd:(zdA 0 n).Nodup:=by unfold zdA;rw [List.nodup_iff_pairwise_ne,List.pairwise_map];exact (List.nodup_range (n:=n)).imp λ {a b} h e=>h ↑0
  rw [List.nodup_iff_pairwise_ne,List.pairwise_map];rw [List.nodup_iff_pairwise_ne] at nd;exact nd.imp_of_mem λ {a b} ha hb h e=>h (hi a b (m a ha) (m b hb) e)
theorem fold_map {α β:Type} {g:α->β}:∀(xs:List α) (s:List β),xs.foldl (λs x=>s++[g x]) s=s++xs.map g
 | [],s=>by simp
 | x :: xs,s=>by rw [List.foldl_cons,fold_map xs];simp
end Wd
namespace L2
open PySem
theorem zua {K:W.Frag} {a:Addr} {d:Option Addr} {its:Array Value} {n:Nat} {sl:Array (Option Value)} {xs:List Str} (l:K.lookup a=some ⟨.type "tuple",d,.seq its n,sl⟩) (h:(bif ("tuple" :String)=="tuple" && Nat.ble its.size 1000 then zfR its.toList else none)=some xs):zrt K a=some xs:=by unfold zrt;rw [l];exact h
end L2
set_option maxHeartbeats 4000000
set_option maxRecDepth 100000
set_option maxHeartbeats 4000000
namespace My
open PySem L2
def top (i:Nat):Stmt:=PySem.Challenge.pw_swapbook_k81_sides_read_and_written.main.body.getD i (.Pass ⟨0,0,0,0⟩)
abbrev zd6:Stmt:=top 16
abbrev zlY:Stmt:=top 17
abbrev zmg:Stmt:=top 18
abbrev zja:Stmt:=top 19
abbrev zgq:Stmt:=top 20
abbrev zc9:Stmt:=zcQ (top 24) 0
abbrev zh0:Stmt:=top 25
abbrev zcV:Stmt:=top 26
abbrev zhW:Stmt:=top 29
abbrev zjD:Stmt:=top 30
abbrev zho:Stmt:=top 31
abbrev zhU:Stmt:=top 32
abbrev zjc:Stmt:=top 33
abbrev zgJ:Stmt:=top 34
abbrev zhQ:Stmt:=top 35
abbrev zhM:Stmt:=top 36
abbrev ziV:Stmt:=top 37
abbrev zi5:Stmt:=top 38
abbrev zia:Stmt:=top 40
abbrev zdz:Stmt:=zcQ (top 42) 0
abbrev ze0:Stmt:=top 43
abbrev zpv:Stmt:=top 45
abbrev zjl:Stmt:=top 46
abbrev zgp:Stmt:=top 55
abbrev zib:Stmt:=top 56
abbrev zgS:Stmt:=top 57
abbrev zfA:Stmt:=top 59
abbrev zh5:Stmt:=top 61
abbrev zgv:Stmt:=top 62
abbrev zkR:Stmt:=top 64
abbrev zct:Stmt:=top 65
abbrev zfW:Stmt:=top 66
abbrev zcG:Stmt:=top 67
abbrev zdO:Stmt:=top 68
abbrev zg8:Stmt:=zcQ (top 74) 0
abbrev zc4:Stmt:=zcQ (top 76) 0
abbrev zgy:Stmt:=top 77
abbrev zh3:Stmt:=top 78
abbrev zeR:Stmt:=top 79
abbrev zhr:Stmt:=top 80
abbrev zhn:Stmt:=top 83
abbrev zea:Stmt:=zcQ (top 86) 0
abbrev zkM:Stmt:=zcQ (top 86) 1
abbrev zfm:Stmt:=zcQ (top 86) 2
abbrev zjg:Stmt:=zcQ (top 86) 4
abbrev zgN:Stmt:=top 88
abbrev ze4:Stmt:=top 89
abbrev zf0:Stmt:=top 90
abbrev zgB:Stmt:=top 91
abbrev zeU:Stmt:=top 92
abbrev zkD:Stmt:=top 93
abbrev zdK:Stmt:=zcQ (top 74) 0
abbrev zdH:Stmt:=zcQ (top 74) 0
abbrev zeJ:Stmt:=top 64
abbrev zfa:Stmt:=top 64
abbrev zdn:Stmt:=zcQ (top 86) 1
abbrev zc8:Stmt:=zcQ (top 86) 4
abbrev zda:Stmt:=zcQ (top 86) 4
abbrev zcx:Stmt:=zcQ (top 86) 1
abbrev zcz:Stmt:=zcQ (top 86) 1
abbrev lI:Ji->Ds:=λxs=>dL (List.map dI xs)
structure Adr where
 no:Unit:=()
 Stairs:Addr
 Book:Addr
 Scale:Addr
 Line:Addr
 Rest:Addr
 Desk:Addr
 t_MARKS:Addr
structure StairsD where
 steps:Jq
 heads:Ji
 roads:Jq
 deriving Inhabited
def zgR (C:Addr) (b:StairsD):Ds:=dO C [("steps",dL (List.map lI b.steps)),("heads",dL (List.map dI b.heads)),("roads",dL (List.map lI b.roads))]
structure BookD where
 many:Int
 swaps:Jq
 deriving Inhabited
def zci (C:Addr) (b:BookD):Ds:=dO C [("many",dI b.many),("swaps",dL (List.map lI b.swaps))]
structure ScaleD where
 weights:Ji
 deriving Inhabited
structure LineD where
 weights:Ji
 deriving Inhabited
def zvE (C:Addr) (b:LineD):Ds:=dO C [("weights",dL (List.map dI b.weights))]
structure RestD where
 weights:Ji
 rest:Int
 deriving Inhabited
def zwg (C:Addr) (b:RestD):Ds:=dO C [("weights",dL (List.map dI b.weights)),("rest",dI b.rest)]
structure DeskD where
 names:↑2
 book:(Option BookD)
 deriving Inhabited
def zig (A:Adr) (C:Addr) (b:DeskD):Ds:=dO C [("names",dL (List.map dS b.names)),("book",dOpt (zci A.Book) b.book)]
instance:Inhabited (LineD ⊕ RestD):=⟨.inl default⟩
noncomputable def dSc (A:Adr):LineD⊕RestD->Ds
 | .inl l=>zvE A.Line l
 | .inr r=>zwg A.Rest r
structure Txt (K:W.Frag) (mg:Str->Option Value) (A:Adr):Prop where
 abs:mg "abs"=none
 all:mg "all"=none
 any:mg "any"=none
 enumerate:mg "enumerate"=none
 int:mg "int"=none
 isinstance:mg "isinstance"=none
 len:mg "len"=none
 list:mg "list"=none
 range:mg "range"=none
 reversed:mg "reversed"=none
 set:mg "set"=none
 str:mg "str"=none
 sum:mg "sum"=none
 zip:mg "zip"=none
 Stairs:mg "Stairs"=some (.ref A.Stairs)
 Stairs_cl:Cls K A.Stairs
 Stairs_steps:NoAttr K A.Stairs "steps"
 Stairs_heads:NoAttr K A.Stairs "heads"
 Stairs_roads:NoAttr K A.Stairs "roads"
 Book:mg "Book"=some (.ref A.Book)
 Book_cl:Cls K A.Book
 Book_many:NoAttr K A.Book "many"
 Book_swaps:NoAttr K A.Book "swaps"
 Scale:mg "Scale"=some (.ref A.Scale)
 Scale_cl:Cls K A.Scale
 Scale_weights:NoAttr K A.Scale "weights"
 Line:mg "Line"=some (.ref A.Line)
 Line_cl:Cls K A.Line
 Line_weights:NoAttr K A.Line "weights"
 Rest:mg "Rest"=some (.ref A.Rest)
 Rest_cl:Cls K A.Rest
 Rest_weights:NoAttr K A.Rest "weights"
 Rest_rest:NoAttr K A.Rest "rest"
 Desk:mg "Desk"=some (.ref A.Desk)
 Desk_cl:Cls K A.Desk
 Desk_names:NoAttr K A.Desk "names"
 Desk_book:NoAttr K A.Desk "book"
 g_MOST_WARES:∃ t,mg "MOST_WARES"=some (.int 8 t)
 g_MOST_SWAPS:∃ t,mg "MOST_SWAPS"=some (.int 12 t)
 g_LETTERS:∃ t,mg "LETTERS"=some (.str "abcdefghijklmnopqrstuvwxyz" t)
 g_FIGURES:∃ t,mg "FIGURES"=some (.str "0123456789" t)
 g_LONGEST_NAME:∃ t,mg "LONGEST_NAME"=some (.int 12 t)
 g_LONGEST_COUNT:∃ t,mg "LONGEST_COUNT"=some (.int 12 t)
 yas:∃ t,mg "LONGEST_NUMBER"=some (.int 2 t)
 g_NOTHING:∃ t,mg "NOTHING"=some (.str "nothing" t)
 t_MARKS:mg "MARKS"=some (.ref A.t_MARKS)
 tk_MARKS:zrt K A.t_MARKS=some [("+":Str),("-":Str),("=":Str)]
 kit_str_str:W.kitOne K (.type "str") (.type "str")=some true
section
variable {P:Program} {w:World} {K:W.Frag} {mg:Str->Option Value} {base:Heap} {f:Addr} {fd:FuncData} {A:Adr}
noncomputable def zcA (P0:Str) (P1:Str):Bool :=
 ((List.map (λ(x1:Str)=>(zrD x1 P1)) (chS P0)).all id)
def zef (P0:Str) (P1:Str):Prop:=Wd.Wrd P0
def zgI (K:W.Frag) (A:Adr):Sp:=Spv (ι:=Str×Str) (λx=>[dS x.1,dS x.2]) (λx=>zef x.1 x.2) (λx=> ↥[dB (zcA x.1 x.2)])
theorem zmZ:FnScope ["word","signs"] ["word","signs"] (zaf zgp):=⇑5
theorem zmE (F:Fun K "made_of" "made_of" zgp f fd) (T:Txt K mg A) :FnOk P w K mg base ↑1 1 f fd ["word","signs"] (zgI K A):=by refine F.okV zmZ ↑5 ↥8;obtain ⟨P0,P1⟩:=x;have hu:=hr.units;replace hp:zef P0 P1:=hp;unfold zef at hp;refine ⟨_,(zaa (zaM (zaA (ziM (K:=K) rfl rfl) rfl T.all PyProof.Rows.boot_all ↑[(zcT rfl (.of (osc:=(zaf zgp)) (N:=["word","signs"]) (own:=["sign"]) (fvn:=["signs"]) (fv:=[1]) rfl rfl ⇑6) (ztt (pv 0)) (λ_ _ _ _ _=>⟨(zaE (i:=0) (show (["sign","signs"]:List Str).Nodup by decide+kernel) rfl ↥0 (Or.inr rfl)),zce,(zfk zos (pv 0) (pv 1) rfl)⟩))])) zad),.inl ?_⟩;show L2.Run _ ([⇑[dS P0],⇑[dS P1]]:L2.Ctx) _ (↑43 (zcA P0 P1));unfold zcA;exact (zak (zaD (zri (xs:=(List.map (λ(x1:Str)=>(zrD x1 P1)) (chS P0))) (Ev.weak (K:=K) (EvO.ev (EvO.conv (zdj (g:=(λ(x1:Str)=>dB (zrD x1 P1))) (ztL (m:=true) (x:=P0) ↑16 ↥(hp.asc)) ↥(hp.ch) ⇑8 (λi2 x1 hx3=>have qhx3:=List.mem_of_getElem? hx3;(zsl (x:=x1) (y:=P1) (Ev.any (m:=true) ⇑3) ↑13))) ↑30))))))
noncomputable def zcy (P0:Str):Bool :=
 ((zcA P0 ↑45) && ((decide (↑10≤12)) && (!decide (P0=↑6))))
def zeQ (P0:Str):Prop:=Wd.Wrd P0
def zil (K:W.Frag) (A:Adr):Sp:=Spv (ι:=Str) (λx=>[dS x]) (λx=>zeQ x) (λx=> ↥[dB (zcy x)])
theorem zmY:FnScope ["word"] ["word"] (zaf zib):=⇑5
theorem zmT (F:Fun K "is_name" "is_name" zib f fd) (T:Txt K mg A) (yaF:Callee P w K mg base ↑1 1 "made_of" ["word","signs"] (zgI K A)):FnOk P w K mg base ↑1 2 f fd ["word"] (zil K A):=by refine F.okV zmY ↑5 ↑33;have hu:=hr.units;replace hp:zeQ P0:=hp;unfold zeQ at hp;obtain ⟨ybI,ydX⟩:=T.g_LETTERS;obtain ⟨yaS,ycv⟩:=T.g_LONGEST_NAME;obtain ⟨ya1,ya2⟩:=T.g_NOTHING;refine ⟨_,(zaa (zaM (zmi (zaR yaF ↑3 rfl zaL ↑[pv 0,(zdR (v:= .str "abcdefghijklmnopqrstuvwxyz") rfl ydX ⟨_,rfl⟩)]) (zmi (zfk zrQ (zaA zdL rfl T.len PySem.boot_len ↑[pv 0]) (zdR (v:= .int 12) rfl ycv ⟨_,rfl⟩) (zay _)) (zq8 (zfk zgf (pv 0) (zdR (v:= .str "nothing") rfl ya2 ⟨_,rfl⟩) (zay _)))))) zad),.inl ?_⟩;show L2.Run _ ([⇑[dS P0]]:L2.Ctx) _ (↑43 (zcy P0));unfold zcy;exact (zak (zaD (zmu (b:=(zcA P0 ↑45)) (Ev.any (m:=true) (zau (x:=(P0,↑45)) (zac ↑16 (zac zax zae)) rfl (by show zef P0 ↑45;exact hp) rfl)) (λhb=>(zmu (b:=(decide (↑10≤12))) (zaX (x:=↑10) (y:=12) (zhI (x:=P0) ↑16 ↥(hp.line)) zax) (λhb=>(zj3 (x:=P0) (y:=↑6) ↑16 zax)))))))
noncomputable def zcH (P0:Str):Bool :=
 ((zcA P0 ("0123456789" :Str)) && ((decide (↑10≤12)) && (!decide ((ixS P0 (0:Int))=("0" :Str)))))
def zes (P0:Str):Prop:=Wd.Wrd P0
def zhw (K:W.Frag) (A:Adr):Sp:=Spv (ι:=Str) (λx=>[dS x]) (λx=>zes x) (λx=> ↥[dB (zcH x)])
theorem zkT:FnScope ["word"] ["word"] (zaf zgS):=⇑5
theorem zk2 (F:Fun K "is_count" "is_count" zgS f fd) (T:Txt K mg A) (yaF:Callee P w K mg base ↑1 1 "made_of" ["word","signs"] (zgI K A)):FnOk P w K mg base ↑1 2 f fd ["word"] (zhw K A):=by refine F.okV zkT ↑5 ↑33;have hu:=hr.units;replace hp:zes P0:=hp;unfold zes at hp;obtain ⟨ybJ,ydY⟩:=T.g_FIGURES;obtain ⟨yaI,ycn⟩:=T.g_LONGEST_COUNT;refine ⟨_,(zaa (zaM (zmi (zaR yaF ↑3 rfl zaL ↑[pv 0,(zdR (v:= .str "0123456789") rfl ydY ⟨_,rfl⟩)]) (zmi (zfk zrQ (zaA zdL rfl T.len PySem.boot_len ↑[pv 0]) (zdR (v:= .int 12) rfl ycn ⟨_,rfl⟩) (zay _)) (zq8 (zfk zgf (zbp zkf (pv 0) zah ⇑7) zaC (zay _)))))) zad),.inl ?_⟩;show L2.Run _ ([⇑[dS P0]]:L2.Ctx) _ (↑43 (zcH P0));unfold zcH;exact (zak (zaD (zmu (b:=(zcA P0 ("0123456789" :Str))) (Ev.any (m:=true) (zau (x:=(P0,("0123456789" :Str))) (zac ↑16 (zac zax zae)) rfl (by show zef P0 ("0123456789" :Str);exact hp) rfl)) (λhb=>(zmu (b:=(decide (↑10≤12))) (zaX (x:=↑10) (y:=12) (zhI (x:=P0) ↑16 ↥(hp.line)) zax) (λhb=>(zj3 (x:=(ixS P0 (0:Int))) (y:=("0" :Str)) (zkj (x:=P0) (i:=(0:Int)) ↑16 zax ↥(hp.line) (by have z:=hp.2.1;unfold InB;omega)) zax)))))))
theorem ztB {k:Nat} (h0:0<k) (h:k<10^12):zcH (Wd.num k)=true:=by unfold zcH zcA;have h1:=Wd.num_len h;have h1:(Wd.num k).length≤12:=h1;rw [Wd.all_made (λc hc=>Wd.in_fig (Wd.num_all k c hc)),decide_eq_true (show (((Wd.num k).length:Nat):Int)≤12 by omega),decide_eq_false (Wd.num_ix h0)];rfl
theorem zwc {x:Str} (h:Wd.Nm x):zcy x=true:=by unfold zcy zcA;have h1:=h.2.2.1;rw [Wd.all_made (λc hc=>Wd.in_let (h.1 c hc)),decide_eq_true (show ((x.length:Nat):Int)≤12 by omega),decide_eq_false h.2.2.2];rfl
def TmP (ws:List Str):Prop:=∃t:Wd.Tm,ws=t.ws∧∀k,t.ct=some k->0<k∧k<10 ^ 12
theorem TmP.cases {ws:List Str} (h:TmP ws):(∃s n,ws=[s,n])∨∃s k n,ws=[s,Wd.num k,n]∧0<k∧k<10 ^ 12:=by obtain ⟨t,e,h⟩:=h;unfold Wd.Tm.ws at e;cases ec:t.ct with|none=>rw [ec] at e;exact .inl ⟨_,_,e⟩|some k=>rw [ec] at e;exact .inr ⟨_,k,_,e,(h k ec).1,(h k ec).2⟩
theorem TmP.three {ws:List Str} (h:TmP ws) (h2:decide (((ws.length:Nat):Int)=(2:Int))=false):∃s k n,ws=[s,Wd.num k,n]∧0<k∧k<10 ^ 12:=by
 rcases h.cases with ⟨s,n,e⟩|h
 ·rw [e] at h2;exact absurd h2 ↥4
 ·exact h
theorem TmP.i0 {ws:List Str} (h:TmP ws):InB ws.length (0:Int):=by rcases h.cases with ⟨s,n,e⟩|⟨s,k,n,e,_⟩<;>rw [e]<;>unfold InB<;>simp
theorem TmP.i1 {ws:List Str} (h:TmP ws):InB ws.length (1:Int):=by rcases h.cases with ⟨s,n,e⟩|⟨s,k,n,e,_⟩<;>rw [e]<;>unfold InB<;>simp
theorem TmP.i2 {ws:List Str} (h:TmP ws) (h2:decide (((ws.length:Nat):Int)=(2:Int))=false):InB ws.length (2:Int):=by obtain ⟨s,k,n,e,_⟩:=h.three h2;rw [e];unfold InB;simp
theorem TmP.wd {ws:List Str} (h:TmP ws) (h3:decide (((ws.length:Nat):Int)=(3:Int))=true):Wd.Wrd (ixD ws (1:Int)):=by
 rcases h.cases with ⟨s,n,e⟩|⟨s,k,n,e,h0,h1⟩
 ·rw [e] at h3;exact absurd h3 ↥4
 ·rw [e];exact Wd.num_wrd h1 h0
theorem TmP.tr {ws:List Str} (h:TmP ws) (h2:decide (((ws.length:Nat):Int)=(2:Int))=false):((decide (((ws.length:Nat):Int)=(3:Int))) && (zcH (ixD ws (1:Int))))=true:=by obtain ⟨s,k,n,e,h0,h1⟩:=h.three h2;rw [e];show (true && zcH (Wd.num k))=true;rw [ztB h0 h1];rfl
theorem TmP.it {ws:List Str} (h:TmP ws) (h2:decide (((ws.length:Nat):Int)=(2:Int))=false):(intText? (ixD ws (1:Int))).isSome=true∧(ixD ws (1:Int)).length≤640:=by obtain ⟨s,k,n,e,h0,h1⟩:=h.three h2;rw [e];show (intText? (Wd.num k)).isSome=true∧(Wd.num k).length≤640;rw [Wd.num_reads h1 h0];exact ⟨rfl,Nat.le_trans (Wd.num_len h1) ↥1⟩
theorem zvl {ws:List Str} {s j:Int} (e:s=(bif (decide ((ixD ws (0:Int))=⇑2)) then ↥3 else (1:Int))):zew s j:=by refine .inl ?_;rw [e];cases decide ((ixD ws (0:Int))=⇑2)<;>decide
noncomputable def zdu (P0:↑2):↑2 :=
 P0
def zeq (P0:↑2):Prop:=Wd.NsP P0
def zhF (K:W.Frag) (A:Adr):Sp:=Spv (ι:=↑2) (λx=>[dL (List.map dS x)]) (λx=>zeq x) (λx=> ⇑[dL (List.map dS (zdu x))])
theorem zkL:FnScope ["words"] ["words"] (zaf zfA):=⇑5
theorem zkF (F:Fun K "names_of" "names_of" zfA f fd) (T:Txt K mg A) :FnOk P w K mg base ↑1 1 f fd ["words"] (zhF K A):=by refine F.okV zkL ↑5 ↑33;have hu:=hr.units;replace hp:zeq P0:=hp;unfold zeq at hp;refine ⟨_,(zaa (za5 (PW.pt (zoZ (zaq zcD ↑59 zah (zay _)) (zkx (zks (zaA (zph (K:=K) rfl rfl) rfl T.any PyProof.Rows.boot_any ↑[(zcT rfl (.of (osc:=(zaf zfA)) (N:=["words"]) (own:=["word"]) (fvn:=[]) (fv:=[]) rfl rfl ⇑6) (za3 (K:=K) rfl (pv 0)) (λ_ _ _ _ _=>⟨(zaE (i:=0) (show (["word"]:List Str).Nodup by decide+kernel) rfl ↥0 (Or.inr rfl)),zce,(zfk (zfp (K:=K) rfl) (pv 0) (zdR (v:= .ref A.t_MARKS) rfl T.t_MARKS rfl) rfl)⟩))]))))) ↥9 zad) (zaa (zaM (pv 0)) zad)),.inl ?_⟩;show L2.Run _ ([⇑[dL ↑19]]:L2.Ctx) _ ((λ(r:↑2)=>Oc.rt false (dL (List.map dS r))) (zdu P0));unfold zdu;exact (zav (EvT.conv (zjP (b:=(decide (↑10=(0:Int)))) (zai (zeE (x:=↑10) (y:=(0:Int)) (zbq (f:=dS) (xs:=P0) ↑11) zax)) (λhb=>(zh8 (zrz (xs:=(List.map (λ(x4:Str)=>(decide (x4∈[↥2,⇑2,("=" :Str)]))) P0)) (Ev.weak (K:=K) (EvO.ev (EvO.conv (zdj (g:=(λ(x4:Str)=>dB (decide (x4∈[↥2,⇑2,("=" :Str)])))) (zbQ (m:=false) dS (xs:=P0) ↑11) ↥(hp.len) ⇑8 (λi5 x4 hx6=>have qhx6:=List.mem_of_getElem? hx6;(zsG (x:=x4) ↑16 T.tk_MARKS))) ↑30))))))) ↥(hp.no)) (zaj (zak (zaD ⇑3))))
noncomputable def zbY (P0:↑2):(Int×Str) :=
 (Let (bif (decide ((ixD P0 (0:Int))=⇑2)) then ↥3 else (1:Int)) (λ(sign8:Int)=>(bif (decide (↑10=(2:Int))) then (sign8,(ixD P0 (1:Int))) else ((sign8*(zsI (ixD P0 (1:Int)))),(ixD P0 (2:Int))))))
def ze2 (P0:↑2):Prop:=TmP P0
def ziI (K:W.Frag) (A:Adr):Sp:=Spv (ι:=↑2) (λx=>[dL (List.map dS x)]) (λx=>ze2 x) (λx=> ↥[dT [dI ((zbY x).1),dS ((zbY x).2)]])
theorem zix:FnScope ["words","sign"] ["words"] (zaf zh5):=⇑5
theorem zm5 (F:Fun K "term_of" "term_of" zh5 f fd) (T:Txt K mg A) (yby:Callee P w K mg base ↑1 2 "is_count" ["word"] (zhw K A)):FnOk P w K mg base ↑1 3 f fd ["words"] (ziI K A):=by refine F.okV zix ↑5 ↑33;have hu:=hr.units;replace hp:ze2 P0:=hp;unfold ze2 at hp;refine ⟨_,(zaa (zar (i:=1) zix.nd rfl ↥0 (zgj (zaq zcD (zbp ⇑9 (pv 0) zah ⇑7) zaC (zay _)) (zll zhy zah) zah)) (zaa (za5 (zaq zcD ↑59 zah (zay _)) (zaa (zaM (zeC ↑[pv 1,(zbp ⇑9 (pv 0) zah ⇑7)])) zad) zad) (zaa (za5 (PW.pt (zl7 (zaq zcD ↑59 zah (zay _)) (zjh (zks (zaR yby ↑3 rfl zaL ↑[(zbp ⇑9 (pv 0) zah ⇑7)]))))) (zaa (zaM (zeC ↑[(zaw zev (pv 1) (zbX zjM rfl T.int ⇑6 ↑[(zbp ⇑9 (pv 0) zah ⇑7)])),(zbp ⇑9 (pv 0) zah ⇑7)])) zad) zad) ↥9))),.inl ?_⟩;show L2.Run _ ([⇑[dL ↑19],.no]:L2.Ctx) _ ((λ(r:(Int×Str))=>Oc.rt true (dT [dI r.1,dS r.2])) (zbY P0));unfold zbY;exact (zas (m:=true) (x:=(bif (decide ((ixD P0 (0:Int))=⇑2)) then ↥3 else (1:Int))) dI (λ(r:(Int×Str))=>Oc.rt true (dT [dI r.1,dS r.2])) (znK dI (b:=(decide ((ixD P0 (0:Int))=⇑2))) (x:=↥3) (y:=(1:Int)) (zai (zcL (x:=(ixD P0 (0:Int))) (y:=⇑2) (Ev.any (m:=false) (zbP (f:=dS) (xs:=P0) ↑11 zax ↥(hp.i0))) zax)) (λhb=>(zkz (x:=(1:Int)) zax)) (λhb=>zax)) (λsign8 hsign8=>(zbM (b:=(decide (↑10=(2:Int)))) (λ(r:(Int×Str))=>Oc.rt true (dT [dI r.1,dS r.2])) (zai (zeE (x:=↑10) (y:=(2:Int)) (zbq (f:=dS) (xs:=P0) ↑11) zax)) (λh9=>(zaK (zak (zaD (zeF (zac (Ev.any (m:=true) ↑7) (zac (Ev.any (m:=false) (zbP (f:=dS) (xs:=P0) ↑11 zax ↥(hp.i1))) zae)) ↑47))))) (λh9=>(zaj (zeg (EvT.conv (ziW (b:=(decide (↑10=(3:Int)))) (zai (zeE (x:=↑10) (y:=(3:Int)) (zbq (f:=dS) (xs:=P0) ↑11) zax)) (λhb=>(zh8 (Ev.any (m:=true) (zau (x:=(ixD P0 (1:Int))) (zac (Ev.any (m:=false) (zbP (f:=dS) (xs:=P0) ↑11 zax ↥(hp.i1))) zae) rfl (by show zes (ixD P0 (1:Int));exact hp.wd ⇑0) rfl))))) ↥(hp.tr ⇑0)) (zaK (zak (zaD (zeF (zac (zaN (x:=sign8) (y:=(zsI (ixD P0 (1:Int)))) (Ev.any (m:=true) ↑7) (zry (x:=(ixD P0 (1:Int))) (Ev.any (m:=false) (zbP (f:=dS) (xs:=P0) ↑11 zax ↥(hp.i1))) ↥(hp.it ⇑0)) ↥(zvl ⇑0)) (zac (Ev.any (m:=false) (zbP (f:=dS) (xs:=P0) ↑11 zax ↥(hp.i2 ⇑0))) zae)) ↑47))))))))))
theorem zuY {t:Wd.Tm} (h:∀k,t.ct=some k->0<k∧k<10 ^ 12):zbY t.ws=((bif decide (t.sg=⇑2) then-1 else 1)*((t.ct.getD 1:Nat):Int),t.nm):=by
 unfold zbY
 cases ec:t.ct with
  |none=>
   have e:t.ws=[t.sg,t.nm]:=by unfold Wd.Tm.ws;rw [ec]
   rw [e];show ((bif decide (t.sg=⇑2) then ↥3 else (1:Int)),t.nm)=_;simp
  |some k=>
   have e:t.ws=[t.sg,Wd.num k,t.nm]:=by unfold Wd.Tm.ws;rw [ec]
   rw [e];show ((bif decide (t.sg=⇑2) then ↥3 else (1:Int))*zsI (Wd.num k),t.nm)=_;unfold zsI;rw [Wd.num_reads (h k ec).2 (h k ec).1];rfl
def SdP (ws:List Str):Prop:=("=" :Str)∉ws∧ws.length≤1000∧(ws≠[↑6]->∀t∈(Wd.sgn ws).foldl Wd.stepT [],TmP t)
theorem zvT {ws sg:List Str} {t0 r:List ↑2} {x:List Str} (hp:SdP ws) (h:decide (ws=[↑6])=false) (hS:sg=Wd.sgn ws) (hT:t0=[]) (hx:x∈r) (hr:r=List.foldl ↑123 t0 sg):TmP x:=by subst hT hr hS;exact hp.2.2 (of_decide_eq_false h) x hx
theorem zsL {ns:List Str} (h:Wd.NmsP ns):(!((List.map (λ(x26:Str)=>(zcy x26)) ns).all id))=false:=by
 have:((List.map (λ(x26:Str)=>(zcy x26)) ns).all id)=true:=by rw [List.all_eq_true];intro b hb;obtain ⟨w,hw,rfl⟩:=List.mem_map.mp hb;exact zwc (h.1 w hw)
 rw [this];rfl
def BoP (ns:List Str) (sd:List (Int×Str)):Prop:=ns.length≤8∧∀p∈sd,p.2∈ns
theorem zpK {n:Nat}:(zdM ((n:Nat):Int) [(0:Int)]).length=n:=by unfold zdM;simp
theorem zq6 {ns:List Str} {sd:List (Int×Str)} (h:BoP ns sd):(-(2 ^ 63)≤↑9∧↑9<2 ^ 63)∧[(0:Int)].length*(↑9).toNat≤sizeLine:=by have:=h.1;exact ⟨⟨by omega,by omega⟩,zap (by simp;omega)⟩
theorem zvm {ns:List Str} {sd:List (Int×Str)} {p:Int×Str} (h:BoP ns sd) (hp:p∈sd):(!decide (p.2∈ns))=false:=by rw [decide_eq_true (h.2 p hp)];rfl
theorem zu8 {ns:List Str} {sd:List (Int×Str)} {p:Int×Str} {s:Ji} (h:BoP ns sd) (hs:s.length=ns.length) (hp:p∈sd):InB s.length (((ns.idxOf p.2:Nat):Int)):=by have:=List.idxOf_lt_length_of_mem (h.2 p hp);unfold InB;omega
theorem ztG {s t:List Str} {x:Str×Int} {a b:Str} (e:t=(bif (decide (x.2<(0:Int))) then (s++[⇑2]) else ↑99)) (h:s.length≤24):t.length+[a,b].length≤sizeLine:=by
 refine zap ?_
 have:t.length≤25:=by
  rw [e]
  cases decide (x.2<(0:Int)) with
   |true=>simpa using h
   |false=>cases decide ((0:Int)<((s.length:Nat):Int)) with|true=>simpa using h|false=>exact Nat.le_succ_of_le h
 simp;omega
noncomputable def zaO (P0:↑2):↑27 :=
 (bif (decide (P0=[↑6])) then [] else (Let (bif (decide ((zb9 P0 none ↑20)=[⇑2])) then P0 else ([↥2]++P0)) (λ(v13:↑2)=>(Let ([]:List ↑2) (λ(v14:(List ↑2))=>(Let (List.foldl ↑123 v14 v13) (λ(r22:(List ↑2))=>(List.map (λ(x23:↑2)=>(zbY x23)) r22))))))))
def zeO (P0:↑2):Prop:=SdP P0
def ziF (K:W.Frag) (A:Adr):Sp:=Spv (ι:=↑2) (λx=>[dL (List.map dS x)]) (λx=>zeO x) (λx=> ↥[dL (List.map ↑90 (zaO x))])
theorem zfI:FnScope ["words","signed","terms","word"] ["words"] (zaf zgv):=⇑5
theorem zmR (F:Fun K "side_of" "side_of" zgv f fd) (T:Txt K mg A) (ybK:Callee P w K mg base ↑1 3 "term_of" ["words"] (ziI K A)):FnOk P w K mg base ↑1 4 f fd ["words"] (ziF K A):=by refine F.okV zfI ↑5 ↑33;have hu:=hr.units;replace hp:zeO P0:=hp;unfold zeO at hp;obtain ⟨ya1,ya2⟩:=T.g_NOTHING;refine ⟨_,(zaa (za5 (zaq (zfp (K:=K) rfl) zaC (pv 0) rfl) ↥9 zad) (zaa (za5 (zaq (zkY (K:=K) rfl hu) (pv 0) (zbc ↑[(zdR (v:= .str "nothing") rfl ya2 ⟨_,rfl⟩)]) (zay _)) (zaa (zaM (zbc zcY)) zad) zad) (zaa (zar (i:=1) zfI.nd rfl ↥0 (zgj (zaq (zkY (K:=K) rfl hu) (zcO (zcg (K:=K) rfl) (pv 0) zd5 (zdy zah)) (zbc ↑[zaC]) (zay _)) (pv 0) (zaw zeo (zbc ↑[zaC]) (pv 0)))) (zaa (zar (i:=2) zfI.nd rfl ↥0 (zbc zcY)) (zaa (zdl PassesOwn.never rfl (za3 (K:=K) rfl (pv 1)) (zaE (i:=3) zfI.nd rfl ↥0 ↥0) (zaa (za5 (zaq (zfp (K:=K) rfl) (pv 3) (zeC ↑[zaC,zaC]) rfl) (zaa (zb1 (zbI (K:=K) rfl (pv 2) ↑[zbc ↑[pv 3]])) zad) (zaa (zb1 (zbI (K:=K) rfl (zbp ⇑9 (pv 2) (zll zhy zah) ⇑7) ↑[pv 3])) zad)) zad)) (zaa (zaM (zcT rfl (.of (osc:=(zaf zgv)) (N:=["words","signed","terms","word"]) (own:=["term"]) (fvn:=[]) (fv:=[]) rfl rfl ⇑6) (za3 (K:=K) rfl (pv 2)) (λ_ _ _ _ _=>⟨(zaE (i:=0) (show (["term"]:List Str).Nodup by decide+kernel) rfl ↥0 (Or.inr rfl)),zce,(zaR ybK ↑3 rfl zaL ↑[pv 0])⟩))) zad)))))),.inl ?_⟩;show L2.Run _ ([⇑[dL ↑19],.no,.no,.no]:L2.Ctx) _ (↑102 (zaO P0));unfold zaO;exact (zav (EvT.conv (zai (zni (x:=("=" :Str)) (xs:=P0) zax ↑11)) ↥(decide_eq_false hp.1)) (zaj (zbM (b:=(decide (P0=[↑6]))) ↑102 (zai (zo3 (n:=0) (neg:=false) (xs:=P0) (ys:=[↑6]) EqD.str ↑11 (Ev.weak (K:=K) ↑75))) (λh12=>(zaK (zak (zaD (EvO.ev (zbU (m:=true) zae)))))) (λh12=>(zaj (zas (m:=false) (x:=(bif (decide ((zb9 P0 none ↑20)=[⇑2])) then P0 else ([↥2]++P0))) (λ(xs:↑2)=>dL (List.map dS xs)) ↑102 (znK (λ(xs:↑2)=>dL (List.map dS xs)) (b:=(decide ((zb9 P0 none ↑20)=[⇑2]))) (x:=P0) (y:=([↥2]++P0)) (zai (zo3 (n:=0) (neg:=false) (xs:=(zb9 P0 none ↑20)) (ys:=[⇑2]) EqD.str (Ev.weak (K:=K) (EvO.ev (EvO.anyS (m:=false) (zdN (f:=dS) (xs:=P0) ↑11 zdf (zcC zax))))) (Ev.weak (K:=K) ↑75))) (λhb=>⇑3) (λhb=>(EvO.ev (EvO.anyS (m:=false) (zc7 (f:=dS) (xs:=[↥2]) (ys:=P0) ↑75 ⇑3 (by have z:=hp.2.1;apply zap;simp;omega)))))) (λv13 hv13=>have hS:=hv13;(zqA (x:=[]) dRS ↑102 (ztx (zoF zae)) (λv14 hv14=>have hT:=hv14;(zbS (s0:=v14) (λ(s15:(List ↑2))=>([⇑[dL ↑19],⇑[dL (List.map dS v13)],.tl (dRS s15),.no]:L2.Ctx)) ↑102 ↑123 (λ(i:Nat) (s15:(List ↑2))=>Wd.RwI i s15) (zbQ (m:=false) dS (xs:=v13) ↑18) (.eq (.eq (.eq (.eq .nil)))) (by rw [hT];exact Wd.RwI.start) (λi17 x16 s15 hx18 hI19=>have v18:=List.mem_of_getElem? hx18;⟨(by rw [hS] at*;exact Wd.RwI.step ⇑0 ⇑0),(zbJ (b:=(decide (x16∈[↥2,⇑2]))) (λbb=>([⇑[dL ↑19],⇑[dL (List.map dS v13)],.tl (dRS (bif bb then (s15++[[x16]]) else (zcZ s15 ↥3 ((ixD s15 ↥3)++[x16])))),⇑[dS x16]]:L2.Ctx)) (zai (zkG (x:=x16) (xs:=[↥2,⇑2]) (Ev.any (m:=false) ↑17) (zeF (zac zax (zac zax zae)) ↑47))) (λh20=>(zlb (i:=2) (nss:=s15) (ns:=[x16]) rfl rfl (zbR (zac (Ev.any (m:=false) ↑17) zae) ↑61) (by rw [hS] at*;exact Wd.RwI.lt ⇑0 ⇑0 hp.2.1) (zao (.eq (.eq (.eq (.eq .nil))))))) (λh20=>(zoO (m:=false) (nss:=s15) (k:=↥3) (v:=x16) rfl rfl (zkz (x:=(1:Int)) zax) (by rw [hS] at*;exact Wd.RwI.ix ⇑0 ⇑0 ⇑0) (Ev.any (m:=false) ↑17) (by rw [hS] at*;exact Wd.RwI.lt2 ⇑0 ⇑0 hp.2.1 ⇑0) (zao (.eq (.eq (.eq (.eq .nil))))))) (zco (x:=(bif (decide (x16∈[↥2,⇑2])) then (s15++[[x16]]) else (zcZ s15 ↥3 ((ixD s15 ↥3)++[x16])))) (λv21=>([⇑[dL ↑19],⇑[dL (List.map dS v13)],.tl (dRS v21),⇑[dS x16]]:L2.Ctx)) (λz=>Oc.nx ((λ(s15:(List ↑2))=>([⇑[dL ↑19],⇑[dL (List.map dS v13)],.tl (dRS s15),.no]:L2.Ctx)) z)) (λv21 hv21=>(zao (.eq (.eq (.eq (.no .nil))))))))⟩) (λr22 hr22 hI=>(zmL rfl (zak (zaD (EvO.ev (EvO.conv (zdj (g:=(λ(x23:↑2)=>dT [dI ((zbY x23).1),dS ((zbY x23).2)])) (zbQ (m:=true) (λ(xs:↑2)=>dL (List.map dS xs)) (xs:=r22) (Ev.weak (K:=K) (zui ↑12))) (by rw [hS] at*;exact Wd.RwI.len ⇑0 hp.2.1) ⇑8 (λi24 x23 hx25=>have v25:=List.mem_of_getElem? hx25;(zau (x:=x23) (zac (Ev.old ⇑3) zae) rfl (by show ze2 x23;exact zvT hp ⇑0 hS hT ⇑0 ⇑0) rfl))) ↑30))))))))))))))))
theorem ztJ {ws:List Str} (h:ws≠[↑6]):zaO ws=List.map (λ(x:List Str)=>zbY x) ((Wd.sgn ws).foldl Wd.stepT []):=by unfold zaO;rw [decide_eq_false h];rfl
noncomputable def zep (P0:↑2):Unit:=()
def zbT (P0:↑2):Prop:=Wd.NmsP P0
def zec (K:W.Frag) (A:Adr):Sp:=Spv (ι:=↑2) (λx=>[dL (List.map dS x)]) (λx=>zbT x) (λx=> ↥[dN])
theorem zfU:FnScope ["names"] ["names"] (zaf zct):=⇑5
theorem zfX (F:Fun K "refuse_bad_names" "refuse_bad_names" zct f fd) (T:Txt K mg A) (ybL:Callee P w K mg base ↑1 2 "is_name" ["word"] (zil K A)):FnOk P w K mg base ↑1 3 f fd ["names"] (zec K A):=by refine F.okV zfU ↑5 ↑33;have hu:=hr.units;replace hp:zbT P0:=hp;unfold zbT at hp;obtain ⟨yaJ,ya8⟩:=T.g_MOST_WARES;refine ⟨_,(zaa (za5 (zrs (zks (zaA (ziM (K:=K) rfl rfl) rfl T.all PyProof.Rows.boot_all ↑[(zcT rfl (.of (osc:=(zaf zct)) (N:=["names"]) (own:=["name"]) (fvn:=[]) (fv:=[]) rfl rfl ⇑6) (za3 (K:=K) rfl (pv 0)) (λ_ _ _ _ _=>⟨(zaE (i:=0) (show (["name"]:List Str).Nodup by decide+kernel) rfl ↥0 (Or.inr rfl)),zce,(zaR ybL ↑3 rfl zaL ↑[pv 0])⟩))]))) ↥9 zad) (zaa (za5 (zaq zgf (znR (K:=K) rfl rfl rfl T.len rfl T.set (pv 0)) ↑59 (zay _)) ↥9 zad) (zaa (za5 (zaq zjV ↑59 (zdR (v:= .int 8) rfl ya8 ⟨_,rfl⟩) (zay _)) ↥9 zad) zad))),.inr ⟨_,([⇑[dL ↑19]]:L2.Ctx),rfl,?_⟩⟩;show L2.Run _ ([⇑[dL ↑19]]:L2.Ctx) _ _;exact (zav (EvT.conv (zoJ (zh8 (zri (xs:=(List.map (λ(x26:Str)=>(zcy x26)) P0)) (Ev.weak (K:=K) (EvO.ev (EvO.conv (zdj (g:=(λ(x26:Str)=>dB (zcy x26))) (zbQ (m:=false) dS (xs:=P0) ↑11) ↥(hp.len) ⇑8 (λi27 x26 hx28=>have v28:=List.mem_of_getElem? hx28;(Ev.any (m:=true) (zau (x:=x26) (zac ↑16 zae) rfl (by show zeQ x26;exact (hp.1 _ ⇑0).wrd) rfl)))) ↑30)))))) ↥(zsL hp)) (zaj (zav (EvT.conv (zai (zg2 (x:=(((zhD P0).length:Nat):Int)) (y:=↑10) (znU (K:=K) (xs:=P0) ↑11 (by have z:=hp.2.2;omega)) (zbq (f:=dS) (xs:=P0) ↑11))) (by rw [Wd.setL_nodup hp.2.1];simp)) (zaj (zav (EvT.conv (zai (zaX (x:=↑10) (y:=8) (zbq (f:=dS) (xs:=P0) ↑11) zax)) (by have z:=hp.2.2;exact decide_eq_false ↑0)) (zaj (zao (Wk.refl _))))))))
noncomputable def zaG (P0:↑2) (P1:↑27):Ji :=
 (Let (zdM ↑10 [(0:Int)]) (λ(v32:Ji)=>(Let (List.foldl (λ(s33:Ji) (x34:(Int×Str))=>(Let (((P0).idxOf x34.2:Nat):Int) (λ(v39:Int)=>(Let (zcZ s33 v39 ((ixD s33 v39)+x34.1)) (λ(v40:Ji)=>v40))))) v32 P1) (λ(r41:Ji)=>r41))))
def zc1 (P0:↑2) (P1:↑27):Prop:=BoP P0 P1
def zfq (K:W.Frag) (A:Adr):Sp:=Spv (ι:=↑2×↑27) (λx=>[dL (List.map dS x.1),dL (List.map ↑90 x.2)]) (λx=>zc1 x.1 x.2) (λx=> ↥[dL (List.map dI (zaG x.1 x.2))])
theorem zdF:FnScope ["names","side","basket","many","name","place"] ["names","side"] (zaf zfW):=⇑5
theorem zku (F:Fun K "basket_of" "basket_of" zfW f fd) (T:Txt K mg A) :FnOk P w K mg base ↑1 1 f fd ["names","side"] (zfq K A):=by refine F.okV zdF ↑5 ↥8;obtain ⟨P0,P1⟩:=x;have hu:=hr.units;replace hp:zc1 P0 P1:=hp;unfold zc1 at hp;refine ⟨_,(zaa (zar (i:=2) zdF.nd rfl ↥0 (zaw zlG (zbc ↑[zah]) ↑59)) (zaa (zdl PassesOwn.never rfl (za3 (K:=K) rfl (pv 1)) (zdi (K:=K) (n:=2) rfl rfl (zbb (zaE (i:=3) zdF.nd rfl ↥0 ↥0) (zbb (zaE (i:=4) zdF.nd rfl ↥0 ↥0) zdP))) (zaa (za5 (zaq (zlI (K:=K) rfl) (pv 4) (pv 0) rfl) ↥9 zad) (zaa (zar (i:=5) zdF.nd rfl ↥0 (zqi (K:=K) rfl (pv 0) ↑[pv 4])) (zaa (zij (zaw zdS (zbp ⇑9 (pv 2) (pv 5) ⇑7) (pv 3)) (zki (pv 2) (pv 5) zf9)) zad)))) (zaa (zaM (pv 2)) zad))),.inl ?_⟩;show L2.Run _ ([⇑[dL ↑19],⇑[dL (List.map ↑90 P1)],.no,.no,.no,.no]:L2.Ctx) _ (↑62 (zaG P0 P1));unfold zaG;exact (zfF (m:=true) (x:=(zdM ↑10 [(0:Int)])) (λz=>List.map dI z) ↑62 (zi9 (f:=dI) (xs:=[(0:Int)]) (n:=↑10) ↑75 (zbq (f:=dS) (xs:=P0) ↑11) ↥((zq6 hp).1) ↥((zq6 hp).2)) (λv32 hv32=>have hB:=hv32;(zbS (s0:=v32) ↑127 ↑62 (λ(s33:Ji) (x34:(Int×Str))=>(Let (((P0).idxOf x34.2:Nat):Int) (λ(v39:Int)=>(Let (zcZ s33 v39 ((ixD s33 v39)+x34.1)) (λ(v40:Ji)=>v40))))) (λ(i:Nat) (s33:Ji)=>s33.length=P0.length) (zpO (m:=false) (λp=>dI p.1) (λp=>dS p.2) (xs:=P1) ↑18) (.eq ↑21) (by rw [hB];exact zpK) (λi35 x34 s33 hx36 hI37=>have v36:=List.mem_of_getElem? hx36;⟨(by show (zcZ _ _ _).length=_;rw [zeN];assumption),(zav (EvT.conv (zai (zoc (x:=x34.2) (xs:=P0) ↑63 ↑11)) ↥(zvm hp ⇑0)) (zaj (zas (m:=true) (x:=(((P0).idxOf x34.2:Nat):Int)) dI (λz=>Oc.nx (↑127 z)) (zpB (K:=K) (xs:=P0) (x:=x34.2) ↑11 ↑63 ↥(hp.2 _ ⇑0)) (λv39 hv39=>have hP:=hv39;(zgQ (f:=dI) (xs:=s33) (x:=((ixD s33 v39)+x34.1)) (j:=v39) (λz=>Oc.nx (↑127 z)) rfl (zaX (x:=(ixD s33 v39)) (y:=x34.1) (Ev.any (m:=true) (zhB (f:=dI) (xs:=s33) rfl ↑31 (by rw [hP];exact zu8 hp ⇑0 ⇑0))) (Ev.any (m:=false) ↑17)) ↑31 (by rw [hP];exact zu8 hp ⇑0 ⇑0) (λv40 hv40=>(zao (.eq (.eq (.eq (.no (.no (.no .nil)))))))))))))⟩) (λr41 hr41 hI=>(zbV (i:=2) rfl (zak (zaD ↑12)))))))
noncomputable def zaU (P0:Str) (P1:Ji):Str :=
 (Txt.join ⇑1 ([P0]++(List.map (λ(x42:Int)=>((toString x42:String):Str)) P1)))
def zbF (P0:Str) (P1:Ji):Prop:=Wd.NwP P0 P1
def zde (K:W.Frag) (A:Adr):Sp:=Spv (ι:=Str×Ji) (λx=>[dS x.1,dL (List.map dI x.2)]) (λx=>zbF x.1 x.2) (λx=> ↥[dS (zaU x.1 x.2)])
theorem zga:FnScope ["word","numbers"] ["word","numbers"] (zaf zcG):=⇑5
theorem zge (F:Fun K "numbers_written" "numbers_written" zcG f fd) (T:Txt K mg A) :FnOk P w K mg base ↑1 1 f fd ["word","numbers"] (zde K A):=by refine F.okV zga ↑5 ↥8;obtain ⟨P0,P1⟩:=x;have hu:=hr.units;replace hp:zbF P0 P1:=hp;unfold zbF at hp;refine ⟨_,(zaa (zaM (zjx (K:=K) rfl zaC ↑[(zaw zeo (zbc ↑[pv 0]) (zcT rfl (.of (osc:=(zaf zcG)) (N:=["word","numbers"]) (own:=["number"]) (fvn:=[]) (fv:=[]) rfl rfl ⇑6) (za3 (K:=K) rfl (pv 1)) (λ_ _ _ _ _=>⟨(zaE (i:=0) (show (["number"]:List Str).Nodup by decide+kernel) rfl ↥0 (Or.inr rfl)),zce,(zbX zcB rfl T.str ⇑6 ↑[pv 0])⟩)))])) zad),.inl ?_⟩;show L2.Run _ ([⇑[dS P0],⇑[dL ↥7]]:L2.Ctx) _ (↑46 (zaU P0 P1));unfold zaU;exact (zak (zaD (zi8 (K:=K) (x:=⇑1) (ys:=([P0]++(List.map (λ(x42:Int)=>((toString x42:String):Str)) P1))) zax (Ev.weak (K:=K) (EvO.ev (zc7 (f:=dS) (xs:=[P0]) (ys:=(List.map (λ(x42:Int)=>((toString x42:String):Str)) P1)) (EvO.ev (zbR (zac ↑16 zae) ↑61)) (EvO.ev (EvO.conv (zdj (g:=(λ(x42:Int)=>dS ((toString x42:String):Str))) (zbQ (m:=false) dI (xs:=P1) ↑18) (by have z:=hp.2.1;apply zap;omega) ⇑8 (λi43 x42 hx44=>have v44:=List.mem_of_getElem? hx44;(zfT (i:=x42) ↑16 ↥(hp.bit ⇑0)))) ↑30)) (by have z:=hp.2.1;apply zap;simp;omega)))) ↥(hp.join))))
noncomputable def zaF (P0:↑2) (P1:Ji):Str :=
 (Let (List.foldl ↑136 [] (List.zip P0 P1)) (λ(r54:↑2)=>(bif (decide ((0:Int)<((r54.length:Nat):Int))) then (Txt.join ⇑1 r54) else ↑6)))
def zcs (P0:↑2) (P1:Ji):Prop:=Wd.BwP P0 P1
def zeG (K:W.Frag) (A:Adr):Sp:=Spv (ι:=↑2×Ji) (λx=>[dL (List.map dS x.1),dL (List.map dI x.2)]) (λx=>zcs x.1 x.2) (λx=> ↥[dS (zaF x.1 x.2)])
theorem zcE:FnScope ["names","basket","words","name","number"] ["names","basket"] (zaf zdO):=⇑5
theorem zgz (F:Fun K "basket_written" "basket_written" zdO f fd) (T:Txt K mg A) :FnOk P w K mg base ↑1 1 f fd ["names","basket"] (zeG K A):=by refine F.okV zcE ↑5 ↥8;obtain ⟨P0,P1⟩:=x;have hu:=hr.units;replace hp:zcs P0 P1:=hp;unfold zcs at hp;obtain ⟨ya1,ya2⟩:=T.g_NOTHING;refine ⟨_,(zaa (zar (i:=2) zcE.nd rfl ↥0 (zbc zcY)) (zaa (zdl PassesOwn.never rfl (zgd (K:=K) rfl rfl T.zip ↑[pv 0,pv 1]) (zdi (K:=K) (n:=2) rfl rfl (zbb (zaE (i:=3) zcE.nd rfl ↥0 ↥0) (zbb (zaE (i:=4) zcE.nd rfl ↥0 ↥0) zdP))) (zaa (za5 (zaq zcD (pv 4) zah (zay _)) (zaa zkU zad) zad) (zaa (za5 (zaq zh7 (pv 4) zah (zay _)) (zaa (zb1 (zbI (K:=K) rfl (pv 2) ↑[zaC])) zad) (zaa (za5 (zaq zjV (zaA (zaI (K:=K) rfl) rfl T.len PySem.boot_len ↑[pv 2]) zah (zay _)) (zaa (zb1 (zbI (K:=K) rfl (pv 2) ↑[zaC])) zad) zad) zad)) (zaa (zb1 (zlk (K:=K) rfl (pv 2) ↑[zbc ↑[zbX zcB rfl T.str ⇑6 ↑[zaA zhm rfl T.abs ⇑6 ↑[pv 4]],pv 3]])) zad)))) (zaa (zaM (zgj (zaq zjV (zaA (zaI (K:=K) rfl) rfl T.len PySem.boot_len ↑[pv 2]) zah (zay _)) (zjx (K:=K) rfl zaC ↑[pv 2]) (zdR (v:= .str "nothing") rfl ya2 ⟨_,rfl⟩))) zad))),.inl ?_⟩;show L2.Run _ ([⇑[dL ↑19],⇑[dL ↥7],.no,.no,.no]:L2.Ctx) _ (↑46 (zaF P0 P1));unfold zaF;exact (zdX (m:=true) (ds:=List.map dS []) (zbU (m:=true) zae) (zk4 (zbS (s0:=[]) (λ(s45:↑2)=>([⇑[dL ↑19],⇑[dL ↥7],.ow true (List.map dS s45),.no,.no]:L2.Ctx)) ↑46 ↑136 (λ(i:Nat) (s45:↑2)=>Wd.BwI i s45) (zjX (m:=false) dS dI (xs:=P0) (ys:=P1) ↑11 ↑18) ↑21 ↥(Wd.BwI.start) (λi47 x46 s45 hx48 hI49=>have v48:=zfY hx48;⟨↥(Wd.BwI.step ⇑0 hp ⇑0),(zmA (λ(s45:↑2)=>([⇑[dL ↑19],⇑[dL ↥7],.ow true (List.map dS s45),.no,.no]:L2.Ctx)) (zai (zeE (x:=x46.2) (y:=(0:Int)) ↑63 zax)) (.eq (.eq (.eq (.no (.no .nil))))) (λhc50=>(zbJ (b:=(decide (x46.2<(0:Int)))) (λbb=>([⇑[dL ↑19],⇑[dL ↥7],.ow true (List.map dS (bif bb then (s45++[⇑2]) else (bif (decide ((0:Int)<((s45.length:Nat):Int))) then (s45++[↥2]) else s45))),⇑[dS x46.1],⇑[dI x46.2]]:L2.Ctx)) (zai (zaX (x:=x46.2) (y:=(0:Int)) ↑63 zax)) (λh51=>(zca (f:=dS) (xs:=s45) (x:=⇑2) rfl zax (by have z:=Wd.BwI.lt ⇑0 hp ⇑0;exact Nat.lt_of_le_of_lt z ↥1) (zao ↑21))) (λh51=>(zbJ (b:=(decide ((0:Int)<((s45.length:Nat):Int)))) (λbb=>([⇑[dL ↑19],⇑[dL ↥7],.ow true (List.map dS (bif bb then (s45++[↥2]) else s45)),⇑[dS x46.1],⇑[dI x46.2]]:L2.Ctx)) (zai (zaX (x:=((s45.length:Nat):Int)) (y:=(0:Int)) (ziQ (f:=dS) (xs:=s45) rfl) zax)) (λh52=>(zca (f:=dS) (xs:=s45) (x:=↥2) rfl zax (by have z:=Wd.BwI.lt ⇑0 hp ⇑0;exact Nat.lt_of_le_of_lt z ↥1) (zao ↑21))) (λh52=>(zao ↑21)) (zao ↑21))) (zco (x:=(bif (decide (x46.2<(0:Int))) then (s45++[⇑2]) else (bif (decide ((0:Int)<((s45.length:Nat):Int))) then (s45++[↥2]) else s45))) (λv53=>([⇑[dL ↑19],⇑[dL ↥7],.ow true (List.map dS v53),⇑[dS x46.1],⇑[dI x46.2]]:L2.Ctx)) (λz=>Oc.nx ((λ(s45:↑2)=>([⇑[dL ↑19],⇑[dL ↥7],.ow true (List.map dS s45),.no,.no]:L2.Ctx)) z)) (λv53 hv53=>(zqt (K:=K) (f:=dS) (xs:=v53) (ys:=[((toString ((x46.2.natAbs:Nat):Int):String):Str),x46.1]) rfl (zbR (zac (zfT (i:=((x46.2.natAbs:Nat):Int)) (zly ↑63) ↥(hp.bit (List.mem_of_getElem? ⇑0))) (zac (Ev.any (m:=false) ↑17) zae)) ↑47) ↥(ztG ⇑0 (Wd.BwI.lt ⇑0 hp ⇑0)) (zao (.eq (.eq (.eq (.no (.no .nil))))))))))))⟩) (λr54 hr54 hI=>(zbV (i:=2) rfl (zak (zaD (znK dS (b:=(decide ((0:Int)<((r54.length:Nat):Int)))) (x:=(Txt.join ⇑1 r54)) (y:=↑6) (zai (zaX (x:=((r54.length:Nat):Int)) (y:=(0:Int)) (zbq (f:=dS) (xs:=r54) (Ev.old ↑36)) zax)) (λhb=>(zi8 (K:=K) (x:=⇑1) (ys:=r54) zax (Ev.old ↑36) ↥(Wd.BwI.join ⇑0 hp))) (λhb=>zax)))))))))
def RlW (x:Str):Prop:=∃ws,Wd.LnP x (↑15::ws)∧Wd.NsP ws
def RlS (x:Str):Prop:=∃o ws,Wd.LnP x (o::ws)∧(o=⇑4∨o=↑14)∧SdP ws
noncomputable def zba (P0:Str):(Str×↑2) :=
 (Let (Txt.split P0 ⇑1) (λ(v55:↑2)=>(Let (ixD v55 (0:Int)) (λ(v57:Str)=>(v57,(zdu (zb9 v55 ↑20 none)))))))
def zb8 (P0:Str):Prop:=RlW P0
def zel (K:W.Frag) (A:Adr):Sp:=Spv (ι:=Str) (λx=>[dS x]) (λx=>zb8 x) (λx=> ⇑[dT [dS ((zba x).1),dL (List.map dS ((zba x).2))]])
theorem zdb:FnScope ["line","words","order"] ["line"] (zaf zeJ):=⇑5
theorem zgi (F:Fun K "read_line" "read_line" zeJ f fd) (T:Txt K mg A) (ybz:Callee P w K mg base ↑1 1 "names_of" ["words"] (zhF K A)):FnOk P w K mg base ↑1 2 f fd ["line"] (zel K A):=by refine F.okV zdb ↑5 ↑33;have hu:=hr.units;replace hp:zb8 P0:=hp;unfold zb8 at hp;obtain ⟨ws,hL,hN⟩:=hp;refine ⟨_,(zaa (zar (i:=1) zdb.nd rfl ↥0 (zmf (K:=K) rfl (pv 0) ↑[zaC])) (zaa (za5 (zaq (zfp (K:=K) rfl) zaC (pv 1) rfl) ↥9 zad) (zaa (zar (i:=2) zdb.nd rfl ↥0 (zbp ⇑9 (pv 1) zah ⇑7)) (zaa (za5 (zaq zcD (pv 2) zaC (zay _)) (zaa (zaM (zeC ↑[pv 2,(zaR ybz ↑3 rfl zaL ↑[(zcO (zcg (K:=K) rfl) (pv 1) (zdy zah) zd5)])])) zad) zad) (zaa zaJ (zaa zaJ (zaa zaJ ↥9))))))),.inl ?_⟩;show L2.Run _ ([⇑[dS P0],.no,.no]:L2.Ctx) _ ((λ(r:(Str×↑2))=>Oc.rt false (dT [dS r.1,dL (List.map dS r.2)])) (zba P0));unfold zba;exact (zas (m:=true) (x:=(Txt.split P0 ⇑1)) (λ(xs:↑2)=>dL (List.map dS xs)) (λ(r:(Str×↑2))=>Oc.rt false (dT [dS r.1,dL (List.map dS r.2)])) (EvO.ev (EvO.anyS (m:=true) (zlC (x:=P0) (y:=⇑1) ↑16 zax rfl ↥(hL.sl) ↥(hL.s1) ↥(hL.s2)))) (λv55 hv55=>have hW:=Eq.trans hv55 hL.split;(zav (EvT.conv (zai (zni (x:=("" :Str)) (xs:=v55) zax (Ev.old ↑18))) ↥(hL.no hW)) (zaj (zas (m:=true) (x:=(ixD v55 (0:Int))) dS (λ(r:(Str×↑2))=>Oc.rt false (dT [dS r.1,dL (List.map dS r.2)])) (Ev.any (m:=true) (zbP (f:=dS) (xs:=v55) ↑18 zax (by rw [hW];exact Wd.ix_hd))) (λv57 hv57=>have hO:=hv57;(zeg (EvT.conv (zai (zcL (x:=v57) (y:=↑15) ↑34 zax)) (by rw [hO,hW,Wd.ix0];decide+kernel)) (zaK (zak (zaD (zeF (zac ↑34 (zac (zau (x:=(zb9 v55 ↑20 none)) (zac (EvO.ev (EvO.anyS (m:=true) (zdN (f:=dS) (xs:=v55) ↑18 (zcC zax) zdf))) zae) rfl (by show zeq (zb9 v55 ↑20 none);rw [hW,Wd.cut_tl];exact hN) rfl) zae)) ↑47)))))))))))
noncomputable def zaT (P0:Str):(Str×(List ↑27)) :=
 (Let (Txt.split P0 ⇑1) (λ(v59:↑2)=>(Let (ixD v59 (0:Int)) (λ(v61:Str)=>(v61,[(zaO (zb9 v59 ↑20 none))])))))
def zbO (P0:Str):Prop:=RlS P0
def zdr (K:W.Frag) (A:Adr):Sp:=Spv (ι:=Str) (λx=>[dS x]) (λx=>zbO x) (λx=> ↥[dT [dS ((zaT x).1),dL (List.map ↑79 ((zaT x).2))]])
theorem zdx:FnScope ["line","words","order"] ["line"] (zaf zfa):=⇑5
theorem zgG (F:Fun K "read_line" "read_line" zfa f fd) (T:Txt K mg A) (ybM:Callee P w K mg base ↑1 4 "side_of" ["words"] (ziF K A)):FnOk P w K mg base ↑1 5 f fd ["line"] (zdr K A):=by refine F.okV zdx ↑5 ↑33;have hu:=hr.units;replace hp:zbO P0:=hp;unfold zbO at hp;obtain ⟨o,ws,hL,ho,hN⟩:=hp;refine ⟨_,(zaa (zar (i:=1) zdx.nd rfl ↥0 (zmf (K:=K) rfl (pv 0) ↑[zaC])) (zaa (za5 (zaq (zfp (K:=K) rfl) zaC (pv 1) rfl) ↥9 zad) (zaa (zar (i:=2) zdx.nd rfl ↥0 (zbp ⇑9 (pv 1) zah ⇑7)) (zaa (za5 (zaq zcD (pv 2) zaC (zay _)) ↥9 zad) (zaa (za5 (zaq zcD (pv 2) zaC (zay _)) ↥9 zad) (zaa (za5 (zaq (zfp (K:=K) rfl) (pv 2) (zeC ↑[zaC,zaC]) rfl) ↥9 zad) (zaa (za5 (zaq (zfp (K:=K) rfl) (pv 2) (zeC ↑[zaC,zaC]) rfl) (zaa (zaM (zeC ↑[pv 2,(zbc ↑[(zaR ybM ↑3 rfl zaL ↑[(zcO (zcg (K:=K) rfl) (pv 1) (zdy zah) zd5)])])])) zad) zad) ↥9))))))),.inl ?_⟩;show L2.Run _ ([⇑[dS P0],.no,.no]:L2.Ctx) _ ((λ(r:(Str×(List ↑27)))=>Oc.rt true (dT [dS r.1,dL (List.map ↑79 r.2)])) (zaT P0));unfold zaT;exact (zas (m:=true) (x:=(Txt.split P0 ⇑1)) (λ(xs:↑2)=>dL (List.map dS xs)) (λ(r:(Str×(List ↑27)))=>Oc.rt true (dT [dS r.1,dL (List.map ↑79 r.2)])) (EvO.ev (EvO.anyS (m:=true) (zlC (x:=P0) (y:=⇑1) ↑16 zax rfl ↥(hL.sl) ↥(hL.s1) ↥(hL.s2)))) (λv59 hv59=>have hW:=Eq.trans hv59 hL.split;(zav (EvT.conv (zai (zni (x:=("" :Str)) (xs:=v59) zax (Ev.old ↑18))) ↥(hL.no hW)) (zaj (zas (m:=true) (x:=(ixD v59 (0:Int))) dS (λ(r:(Str×(List ↑27)))=>Oc.rt true (dT [dS r.1,dL (List.map ↑79 r.2)])) (Ev.any (m:=true) (zbP (f:=dS) (xs:=v59) ↑18 zax (by rw [hW];exact Wd.ix_hd))) (λv61 hv61=>have hO:=hv61;(zav (EvT.conv (zai (zcL (x:=v61) (y:=↑15) ↑34 zax)) (by rw [hO,hW,Wd.ix0];rcases ho with rfl|rfl<;>decide+kernel)) (zaj (zav (EvT.conv (zai (zcL (x:=v61) (y:=("drop" :Str)) ↑34 zax)) (by rw [hO,hW,Wd.ix0];rcases ho with rfl|rfl<;>decide+kernel)) (zaj (zav (EvT.conv (zai (zkG (x:=v61) (xs:=[("swap" :Str),("ask" :Str)]) ↑34 (zeF (zac zax (zac zax zae)) ↑47))) (by rw [hO,hW,Wd.ix0];rcases ho with rfl|rfl<;>decide+kernel)) (zaj (zeg (EvT.conv (zai (zkG (x:=v61) (xs:=[⇑4,↑14]) ↑34 (zeF (zac zax (zac zax zae)) ↑47))) (by rw [hO,hW,Wd.ix0];rcases ho with rfl|rfl<;>decide+kernel)) (zaK (zak (zaD (zeF (zac ↑34 (zac (EvO.ev (zbR (zac (zau (x:=(zb9 v59 ↑20 none)) (zac (EvO.ev (EvO.anyS (m:=true) (zdN (f:=dS) (xs:=v59) ↑18 (zcC zax) zdf))) zae) rfl (by show zeO (zb9 v59 ↑20 none);rw [hW,Wd.cut_tl];exact hN) rfl) zae) ↑61)) zae)) ↑47)))))))))))))))))
theorem zqN {x:Str} {ws:List Str} (h:Wd.LnP x (↑15::ws)):zba x=(↑15,ws):=by unfold zba;rw [h.split];show (ixD (↑15::ws) (0:Int),zdu (zb9 (↑15::ws) ↑20 none))=_;rw [Wd.cut_tl,Wd.ix0];rfl
theorem znD {x o:Str} {ws:List Str} (h:Wd.LnP x (o::ws)):zaT x=(o,[zaO ws]):=by unfold zaT;rw [h.split];show (ixD (o::ws) (0:Int),[zaO (zb9 (o::ws) ↑20 none)])=_;rw [Wd.cut_tl,Wd.ix0]
def BgP (ns:List Str):Prop:=Wd.NmsP ns∧ns≠[]
theorem BgP.pos {ns:List Str} (h:BgP ns):1≤ns.length∧ns.length≤8:=⟨List.length_pos_iff.mpr h.2,h.1.2.2⟩
theorem zvu {ns:List Str} (h:BgP ns):Wd.NwP ↑15 [↑9]:=by
 have:=h.pos;refine ⟨by decide+kernel,by simp,λx hx=> ?_⟩;have:x=↑9:=by simpa using hx
 omega
def TwP (x:Str):Prop:=∃ws,Wd.LnP x (↑15::ws)∧Wd.NsP ws∧BgP ws
noncomputable def zfn (P0:Ji) (P1:Ji):Unit:=()
def zbC (P0:Ji) (P1:Ji):Prop:=P0.length=P1.length
def zcN (K:W.Frag) (A:Adr):Sp:=Spv (ι:=Ji×Ji) ↑101 (λx=>zbC x.1 x.2) (λx=> ↥[dN])
theorem zhb:FnScope ["one","other"] ["one","other"] (zaf zd6):=⇑5
theorem zha (F:Fun K "refuse_unlike" "refuse_unlike" zd6 f fd) (T:Txt K mg A) :FnOk P w K mg base ↑1 1 f fd ["one","other"] (zcN K A):=by refine F.okV zhb ↑5 ↥8;obtain ⟨P0,P1⟩:=x;have hu:=hr.units;replace hp:zbC P0 P1:=hp;unfold zbC at hp;refine ⟨_,(zaa (za5 (zaq zgf ↑59 ↑70 (zay _)) ↥9 zad) zad),.inr ⟨_,([⇑[dQ K ↥6],⇑[dQ K ↥7]]:L2.Ctx),rfl,?_⟩⟩;show L2.Run _ ([⇑[dQ K ↥6],⇑[dQ K ↥7]]:L2.Ctx) _ _;exact (zav (EvT.conv (zai (zg2 (x:=↑10) (y:=↑48) (zbq (f:=dI) (xs:=P0) ⇑3) (zbq (f:=dI) (xs:=P1) ↑7))) ↑119) (zaj (zao (Wk.refl _))))
noncomputable def zhO (P0:Ji) (P1:Ji):Ji :=
 (List.map (λ(x67:(Int×Int))=>(x67.1+x67.2)) (List.zip P0 P1))
def zgt (P0:Ji) (P1:Ji):Prop:=P0.length=P1.length∧P0.length≤1000
def zoR (K:W.Frag) (A:Adr):Sp:=Spv (ι:=Ji×Ji) ↑101 (λx=>zgt x.1 x.2) (λx=> .ow true (List.map dI (zhO x.1 x.2)))
theorem zsh:FnScope ["one","other"] ["one","other"] (zaf zlY):=⇑5
theorem zsU (F:Fun K "plus" "plus" zlY f fd) (T:Txt K mg A) (yac:Callee P w K mg base ↑1 1 "refuse_unlike" ["one","other"] (zcN K A)):FnOk P w K mg base ↑1 2 f fd ["one","other"] (zoR K A):=by refine F.okV zsh ↑5 ↥8;obtain ⟨P0,P1⟩:=x;have hu:=hr.units;replace hp:zgt P0 P1:=hp;unfold zgt at hp;refine ⟨_,(zaa (zb1 (zaR yac ↑3 rfl zaL ↑[pv 0,pv 1])) (zaa (zaM (zcT rfl (.of (osc:=(zaf zlY)) (N:=["one","other"]) (own:=["a","b"]) (fvn:=[]) (fv:=[]) rfl rfl ⇑6) (zgd (K:=K) rfl rfl T.zip ↑[pv 0,pv 1]) (λ_ _ _ _ _=>⟨↑118,zce,(zaw zdS (pv 0) (pv 1))⟩))) zad)),.inl ?_⟩;show L2.Run _ ([⇑[dQ K ↥6],⇑[dQ K ↥7]]:L2.Ctx) _ ((λr=>Oc.rl true (List.map dI r)) (zhO P0 P1));unfold zhO;exact (zfw (m:=true) ↑128 (zd1 (zhl (EvO.conv (zdj (g:=(λ(x67:(Int×Int))=>dI (x67.1+x67.2))) (zjX (m:=false) dI dI (xs:=P0) (ys:=P1) ⇑3 ↑7) ↥(zap (by rw [List.length_zip];omega)) ⇑8 (λi68 x67 hx69=>have v69:=zfY hx69;(zaX (x:=x67.1) (y:=x67.2) ↑16 ↑13))) ↑30))))
noncomputable def ze6 (P0:Ji) (P1:Ji):Ji :=
 (List.map (λ(x70:(Int×Int))=>(x70.1-x70.2)) (List.zip P0 P1))
def zeM (P0:Ji) (P1:Ji):Prop:=P0.length=P1.length∧P0.length≤1000
def zkC (K:W.Frag) (A:Adr):Sp:=Spv (ι:=Ji×Ji) ↑101 (λx=>zeM x.1 x.2) (λx=> .ow true (List.map dI (ze6 x.1 x.2)))
theorem zru:FnScope ["one","other"] ["one","other"] (zaf zmg):=⇑5
theorem zss (F:Fun K "less" "less" zmg f fd) (T:Txt K mg A) (yac:Callee P w K mg base ↑1 1 "refuse_unlike" ["one","other"] (zcN K A)):FnOk P w K mg base ↑1 2 f fd ["one","other"] (zkC K A):=by refine F.okV zru ↑5 ↥8;obtain ⟨P0,P1⟩:=x;have hu:=hr.units;replace hp:zeM P0 P1:=hp;unfold zeM at hp;refine ⟨_,(zaa (zb1 (zaR yac ↑3 rfl zaL ↑[pv 0,pv 1])) (zaa (zaM (zcT rfl (.of (osc:=(zaf zmg)) (N:=["one","other"]) (own:=["a","b"]) (fvn:=[]) (fv:=[]) rfl rfl ⇑6) (zgd (K:=K) rfl rfl T.zip ↑[pv 0,pv 1]) (λ_ _ _ _ _=>⟨↑118,zce,(zaw zgr (pv 0) (pv 1))⟩))) zad)),.inl ?_⟩;show L2.Run _ ([⇑[dQ K ↥6],⇑[dQ K ↥7]]:L2.Ctx) _ ((λr=>Oc.rl true (List.map dI r)) (ze6 P0 P1));unfold ze6;exact (zfw (m:=true) ↑128 (zd1 (zhl (EvO.conv (zdj (g:=(λ(x70:(Int×Int))=>dI (x70.1-x70.2))) (zjX (m:=false) dI dI (xs:=P0) (ys:=P1) ⇑3 ↑7) ↥(zap (by rw [List.length_zip];omega)) ⇑8 (λi71 x70 hx72=>have v72:=zfY hx72;(zaX (x:=x70.1) (y:=x70.2) ↑16 ↑13))) ↑30))))
noncomputable def zan (P0:Ji) (P1:Int):Ji :=
 (List.map (λ(x73:Int)=>(x73*P1)) P0)
def zbE (P0:Ji) (P1:Int):Prop:=P0.length≤1000∧∀x∈P0,zew x P1
def zeT (K:W.Frag) (A:Adr):Sp:=Spv (ι:=Ji×Int) (λx=>[dQ K (List.map dI x.1),dI x.2]) (λx=>zbE x.1 x.2) (λx=> .ow true (List.map dI (zan x.1 x.2)))
theorem zpT:FnScope ["some","many"] ["some","many"] (zaf zja):=⇑5
theorem zqw (F:Fun K "times" "times" zja f fd) (T:Txt K mg A) :FnOk P w K mg base ↑1 1 f fd ["some","many"] (zeT K A):=by refine F.okV zpT ↑5 ↥8;obtain ⟨P0,P1⟩:=x;have hu:=hr.units;replace hp:zbE P0 P1:=hp;unfold zbE at hp;refine ⟨_,(zaa (zaM (zcT rfl (.of (osc:=(zaf zja)) (N:=["some","many"]) (own:=["number"]) (fvn:=["many"]) (fv:=[1]) rfl rfl ⇑6) (za3 (K:=K) rfl (pv 0)) (λ_ _ _ _ _=>⟨(zaE (i:=0) (show (["number","many"]:List Str).Nodup by decide+kernel) rfl ↥0 (Or.inr rfl)),zce,(zaw zev (pv 0) (pv 1))⟩))) zad),.inl ?_⟩;show L2.Run _ ([⇑[dQ K ↥6],⇑[dI P1]]:L2.Ctx) _ ((λr=>Oc.rl true (List.map dI r)) (zan P0 P1));unfold zan;exact (zd1 (zhl (EvO.conv (zdj (g:=(λ(x73:Int)=>dI (x73*P1))) (zbQ (m:=false) dI (xs:=P0) ⇑3) ↥(zap ↑0) ⇑8 (λi74 x73 hx75=>have v75:=List.mem_of_getElem? hx75;(zaN (x:=x73) (y:=P1) ↑16 ↑13 ↥(hp.2 _ (List.mem_of_getElem? ⇑0))))) ↑30)))
theorem zqy {α:Type} {xs:List α} {i:Nat} {p:Int×α} (h:(zeH xs)[i]? =some p):p.2∈xs:=List.mem_of_getElem? (zdh h).2.2
noncomputable def zbZ (P0:Ji) (P1:Ji):Int :=
 (List.map (λ(x76:(Int×Int))=>(x76.1*x76.2)) (List.zip P0 P1)).sum
def zee (P0:Ji) (P1:Ji):Prop:=P0.length=P1.length∧P0.length≤1000∧∀p∈List.zip P0 P1,zew p.1 p.2
def ziN (K:W.Frag) (A:Adr):Sp:=Spv (ι:=Ji×Ji) ↑101 (λx=>zee x.1 x.2) (λx=> ↥[dI (zbZ x.1 x.2)])
theorem zmX:FnScope ["one","other"] ["one","other"] (zaf zgq):=⇑5
theorem zmP (F:Fun K "weighed" "weighed" zgq f fd) (T:Txt K mg A) (yac:Callee P w K mg base ↑1 1 "refuse_unlike" ["one","other"] (zcN K A)):FnOk P w K mg base ↑1 2 f fd ["one","other"] (ziN K A):=by refine F.okV zmX ↑5 ↥8;obtain ⟨P0,P1⟩:=x;have hu:=hr.units;replace hp:zee P0 P1:=hp;unfold zee at hp;refine ⟨_,(zaa (zb1 (zaR yac ↑3 rfl zaL ↑[pv 0,pv 1])) (zaa (zaM (zaA (zm4 (K:=K) rfl rfl) rfl T.sum PyProof.Rows.boot_sum ↑[(zcT rfl (.of (osc:=(zaf zgq)) (N:=["one","other"]) (own:=["a","b"]) (fvn:=[]) (fv:=[]) rfl rfl ⇑6) (zgd (K:=K) rfl rfl T.zip ↑[pv 0,pv 1]) (λ_ _ _ _ _=>⟨↑118,zce,(zaw zev (pv 0) (pv 1))⟩))])) zad)),.inl ?_⟩;show L2.Run _ ([⇑[dQ K ↥6],⇑[dQ K ↥7]]:L2.Ctx) _ (↑82 (zbZ P0 P1));unfold zbZ;exact (zfw (m:=true) ↑128 (zak (zaD (zue (xs:=(List.map (λ(x76:(Int×Int))=>(x76.1*x76.2)) (List.zip P0 P1))) (Ev.weak (K:=K) (EvO.ev (EvO.conv (zdj (g:=(λ(x76:(Int×Int))=>dI (x76.1*x76.2))) (zjX (m:=false) dI dI (xs:=P0) (ys:=P1) ⇑3 ↑7) ↥(zap (by rw [List.length_zip];omega)) ⇑8 (λi77 x76 hx78=>have v78:=zfY hx78;(zaN (x:=x76.1) (y:=x76.2) ↑16 ↑13 ↥(hp.2.2 _ (List.mem_of_getElem? ⇑0))))) ↑30)))))))
theorem zmz (w t:Ji):zbZ w t=Lat.dv w (Lat.vec t):=Lat.zqM w t
noncomputable def zag (P0:Ji):Int :=
 (zpA (zcS (λ(s79:Unit) (x80:(Int×Int))=>(((bif (!decide (x80.2=(0:Int))) then (Sum.inr x80.1) else (Sum.inl ()))):(Unit)⊕Int)) () (zeH P0)) (λ(r85:Unit)=>↑10) (λb=>b))
def za7 (P0:Ji):Prop:=True
def zcW (K:W.Frag) (A:Adr):Sp:=Spv (ι:=Ji) (λx=>[dQ K (List.map dI x)]) (λx=>za7 x) (λx=> ↥[dI (zag x)])
theorem zgT:FnScope ["row","place","number"] ["row"] (zaf zhW):=⇑5
theorem zmC (F:Fun K "head_of" "head_of" zhW f fd) (T:Txt K mg A) :FnOk P w K mg base ↑1 1 f fd ["row"] (zcW K A):=by refine F.okV zgT ↑5 ↑33;have hu:=hr.units;replace hp:za7 P0:=hp;unfold za7 at hp;refine ⟨_,(zaa (zdl PassesOwn.never rfl (zhp rfl rfl T.enumerate ↑[pv 0]) (zdi (K:=K) (n:=2) rfl rfl (zbb (zaE (i:=1) zgT.nd rfl ↥0 ↥0) (zbb (zaE (i:=2) zgT.nd rfl ↥0 ↥0) zdP))) (zaa (za5 (zaq zgf (pv 2) zah (zay _)) (zaa (zaM (pv 1)) zad) zad) zad)) (zaa (zaM ↑59) zad)),.inl ?_⟩;show L2.Run _ ([⇑[dQ K ↥6],.no,.no]:L2.Ctx) _ (↑82 (zag P0));unfold zag;exact (zlN (s0:=()) (λ(s79:Unit)=>([⇑[dQ K ↥6],.no,.no]:L2.Ctx)) ↑82 (λb=>b) (λ(s79:Unit) (x80:(Int×Int))=>(((bif (!decide (x80.2=(0:Int))) then (Sum.inr x80.1) else (Sum.inl ()))):(Unit)⊕Int)) (λ_ _=>True) (λb=> .inl ⟨_,_,rfl⟩) (zhz (m:=false) dI (xs:=P0) ⇑3) (.eq (.eq (.eq .nil))) trivial (λi81 x80 s79 hx82 hI83=>have v82:=zdh hx82;⟨(λ_ _=>trivial),(zbM (b:=(!decide (x80.2=(0:Int)))) (zkX (λ(s79:Unit)=>([⇑[dQ K ↥6],.no,.no]:L2.Ctx)) ↑82) (zai (zg2 (x:=x80.2) (y:=(0:Int)) (Ev.any (m:=false) ↑12) zax)) (λh84=>(zaK (zak (zaD ↑13)))) (λh84=>(zaj (zao (.eq (.no (.no .nil)))))))⟩) (λr85 hr85 hI=>(zak (zaD (zbq (f:=dI) (xs:=P0) ⇑3)))))
theorem zcv (r:Ji):zag r=(Lat.hd r:Int):=Lat.zwp r
noncomputable def zc2 (P0:Int) (P1:Int):(T3 Int Int Int) :=
 (Let (whl (λ(s86:Int×Int×Int×Int)=>(!decide (s86.2.1=(0:Int)))) ↑139 (P1.toNat) (P0,P1,(1:Int),(0:Int))) (λ(r94:Int×Int×Int×Int)=>(T3.mk r94.1 r94.2.2.1 ((r94.1-(r94.2.2.1*P0))/P1))))
def zfC (P0:Int) (P1:Int):Prop:=Lat.zls P0 P1
def zjU (K:W.Frag) (A:Adr):Sp:=Spv (ι:=Int×Int) (λx=>[dI x.1,dI x.2]) (λx=>zfC x.1 x.2) (λx=> ↥[dT [dI ((zc2 x.1 x.2).a),dI ((zc2 x.1 x.2).b),dI ((zc2 x.1 x.2).c)]])
theorem zch:FnScope ["one","other","great","small","taken","later","part","left"] ["one","other"] (zaf zjD):=⇑5
theorem zo9 (F:Fun K "common" "common" zjD f fd) (T:Txt K mg A) :FnOk P w K mg base ↑1 1 f fd ["one","other"] (zjU K A):=by refine F.okV zch ↑5 ↥8;obtain ⟨P0,P1⟩:=x;have hu:=hr.units;replace hp:zfC P0 P1:=hp;unfold zfC at hp;refine ⟨_,(zaa (zar (i:=2) zch.nd rfl ↥0 (pv 0)) (zaa (zar (i:=3) zch.nd rfl ↥0 (pv 1)) (zaa (zar (i:=4) zch.nd rfl ↥0 zah) (zaa (zar (i:=5) zch.nd rfl ↥0 zah) (zaa (zmn PassesOwn.never (zaq zgf (pv 3) zah (zay _)) (zaa (zar (i:=6) zch.nd rfl ↥0 (zaw zbf (pv 2) (pv 3))) (zaa (zar (i:=7) zch.nd rfl ↥0 (zaw zgr (pv 2) (zaw zev (pv 6) (pv 3)))) (zaa (zar (i:=2) zch.nd rfl ↥0 (pv 3)) (zaa (zar (i:=3) zch.nd rfl ↥0 (pv 7)) (zaa (zar (i:=7) zch.nd rfl ↥0 (zaw zgr (pv 4) (zaw zev (pv 6) (pv 5)))) (zaa (zar (i:=4) zch.nd rfl ↥0 (pv 5)) (zaa (zar (i:=5) zch.nd rfl ↥0 (pv 7)) zad)))))))) (zaa (zaM (zeC ↑[pv 2,pv 4,zaw zbf (zaw zgr (pv 2) (zaw zev (pv 4) (pv 0))) (pv 1)])) zad)))))),.inl ?_⟩;show L2.Run _ ([⇑[dI P0],⇑[dI P1],.no,.no,.no,.no,.no,.no]:L2.Ctx) _ ((λ(r:(T3 Int Int Int))=>Oc.rt true (dT [dI r.a,dI r.b,dI r.c])) (zc2 P0 P1));unfold zc2;exact (zbG (m:=true) ↑16 (zbG (m:=true) ↑13 (zbG (m:=true) zax (zbG (m:=true) zax (zjL (s0:=(P0,P1,(1:Int),(0:Int))) ↑88 (λ(r:(T3 Int Int Int))=>Oc.rt true (dT [dI r.a,dI r.b,dI r.c])) (λ(s86:Int×Int×Int×Int)=>(!decide (s86.2.1=(0:Int)))) ↑139 (λ(s86:Int×Int×Int×Int)=>Lat.GI P0 P1 s86) (λ(s86:Int×Int×Int×Int)=>(s86.2.1).toNat) (P1.toNat) (.eq (.eq (.eq ↑21))) ↥(Lat.GI.start hp.1 hp.2.1) ↥(Nat.le_refl _) (λs86 hI87=>⟨(zai (zg2 (x:=s86.2.1) (y:=(0:Int)) ↑22 zax)),λhc88=>⟨↥(Lat.GI.step ⇑0 ⇑0),(zas (m:=true) (x:=(s86.1/s86.2.1)) dI (λz=>Oc.nx (↑88 z)) (zaN (x:=s86.1) (y:=s86.2.1) ↑34 ↑22 ↥(Lat.GI.div ⇑0 hp ⇑0)) (λv89 hv89=>(zas (m:=true) (x:=(s86.1-(v89*s86.2.1))) dI (λz=>Oc.nx (↑88 z)) (zaX (x:=s86.1) (y:=(v89*s86.2.1)) ↑34 (zaN (x:=v89) (y:=s86.2.1) ↑65 ↑22 ↥(Lat.GI.mul1 ⇑0 hp ⇑0 ⇑0))) (λv90 hv90=>(zas (m:=true) (x:=s86.2.1) dI (λz=>Oc.nx (↑88 z)) ↑22 (λv91 hv91=>(zbG (m:=true) ↑71 (zas (m:=true) (x:=(s86.2.2.1-(v89*s86.2.2.2))) dI (λz=>Oc.nx (↑88 z)) (zaX (x:=s86.2.2.1) (y:=(v89*s86.2.2.2)) ↑49 (zaN (x:=v89) (y:=s86.2.2.2) ↑65 ↑31 ↥(Lat.GI.mul2 ⇑0 hp ⇑0 ⇑0))) (λv92 hv92=>(zas (m:=true) (x:=s86.2.2.2) dI (λz=>Oc.nx (↑88 z)) ↑31 (λv93 hv93=>(zbG (m:=true) ↑71 (zao (.eq (.eq (.eq (.eq (.eq (.eq (.no (.no .nil)))))))))))))))))))))⟩⟩) (λr94 hr94 hI hc=>(zak (zaD (zeF (zac ↑34 (zac ↑49 (zac (zaN (x:=(r94.1-(r94.2.2.1*P0))) (y:=P1) (zaX (x:=r94.1) (y:=(r94.2.2.1*P0)) ↑34 (zaN (x:=r94.2.2.1) (y:=P0) ↑49 ↑16 ↥(Lat.GI.mul3 ⇑0 hp))) ↑13 ↥(Lat.zls.div hp)) zae))) (by show 3≤sizeLine;decide))))))))))
theorem znO (a b:Int):zc2 a b=Lat.cmn a b:=rfl
noncomputable def zbH (P0:Ji):Ji :=
 (bif (decide ((ixD P0 (zag P0))<(0:Int))) then (zan P0 ↥3) else P0)
def zcU (P0:Ji):Prop:=P0.length≤1000∧Lat.hd P0<P0.length
def ziC (K:W.Frag) (A:Adr):Sp:=Spv (ι:=Ji) (λx=>[dL (List.map dI x)]) (λx=>zcU x) (λx=> ⇑[dL (List.map dI (zbH x))])
theorem zm0:FnScope ["row"] ["row"] (zaf zho):=⇑5
theorem zm7 (F:Fun K "upright" "upright" zho f fd) (T:Txt K mg A) (yaa:Callee P w K mg base ↑1 1 "head_of" ["row"] (zcW K A)) (yab:Callee P w K mg base ↑1 1 "times" ["some","many"] (zeT K A)):FnOk P w K mg base ↑1 2 f fd ["row"] (ziC K A):=by refine F.okV zm0 ↑5 ↑33;have hu:=hr.units;replace hp:zcU P0:=hp;unfold zcU at hp;refine ⟨_,(zaa (zaM (zgj (zaq zh7 (zbp ⇑9 (pv 0) (zaR yaa ↑3 rfl zaL ↑[pv 0]) ⇑7) zah (zay _)) (zaR yab ↑3 rfl zaL ↑[pv 0,zll zhy zah]) (pv 0))) zad),.inl ?_⟩;show L2.Run _ ([⇑[dL ↥6]]:L2.Ctx) _ ((λ(r:Ji)=>Oc.rt false (dL (List.map dI r))) (zbH P0));unfold zbH;exact (zak (zaD (znK lI (b:=(decide ((ixD P0 (zag P0))<(0:Int)))) (x:=(zan P0 ↥3)) (y:=P0) (zai (zaX (x:=(ixD P0 (zag P0))) (y:=(0:Int)) (Ev.any (m:=false) (zbP (f:=dI) (xs:=P0) ↑11 (Ev.any (m:=true) (zau (x:=P0) (zac ↑11 zae) rfl (by show za7 P0;exact trivial) rfl)) (by have:=hp.2;rw [zcv];unfold InB;omega))) zax)) (λhb=>(EvO.ev (EvO.anyI (m:=true) (zcu (x:=(P0,↥3)) (zac ↑11 (zac (zkz (x:=(1:Int)) zax) zae)) rfl (by show zbE P0 ↥3;exact ⟨hp.1,λ_ _=> .inr (.inl ⇑8)⟩) rfl)))) (λhb=>⇑3))))
theorem zim (l:Ji):zbH l=Lat.upr l:=by unfold zbH;rw [zcv,Lat.zcf];rfl
theorem zme (s x:Ji):Let (zag x) (λ(h:Int)=>Let ((ixD s h)/(ixD x h)) (λ(q:Int)=>Let (bif (!decide (q=(0:Int))) then (ze6 s (zan x q)) else s) (λ(y:Ji)=>y)))=Lat.zlr s x:=by unfold Let;dsimp only;rw [zcv,Lat.zcf,Lat.zcf];rfl
section
variable {n s a b i:Nat} {l t:Ji} {h q:Int} {steps:Jq}
theorem zvP (T:Lat.Sd n s t) (e:h=(Lat.hd t:Int)) (hl:l.length=n∧Lat.Bit b l):InB l.length h:=Lat.zl2 T e hl.1
theorem zmr (T:Lat.Sd n s t) (e:h=(Lat.hd t:Int)):InB t.length h:=Lat.zl2 T e T.len
theorem zu6 (p1:n≤1000) (p6:a+steps.length*(s+1)+s≤50000000) (hx:steps[i]? =some t) (T:∀t∈steps,Lat.Sd n s t) (hl:l.length=n∧Lat.Bit (a+i*(s+1)) l) (e:h=(Lat.hd t:Int)) (eq:q=ixD l h/ixD t h):zbE t q:=by have T1:=T t (List.mem_of_getElem? hx);exact ⟨by rw [T1.len];exact p1,Lat.zrw T1 e hl.2 eq (Lat.zrL p6 (List.getElem?_eq_some_iff.mp hx).1)⟩
theorem zsM (p1:n≤1000) (T:Lat.Sd n s t) (hl:l.length=n∧Lat.Bit b l):zeM l (zan t q):=⟨by rw [hl.1,show (zan t q).length=t.length from Lat.zaW,T.len],by omega⟩
theorem zvG {sh:T3 Int Int Int} (e:h=(Lat.hd t:Int)) (T:Lat.Sd n s t) (h0:0<Lat.vec l (Lat.hd t)) (h1:Lat.vec l (Lat.hd t)<Lat.vec t (Lat.hd t)) (hs:sh=zc2 (ixD t h) (ixD l h)):0<sh.a∧sh.a.natAbs≤2 ^ 8981∧sh.b.natAbs≤2 ^ 8980∧sh.c.natAbs≤2 ^ 17962:=by subst hs;exact Lat.zq4 (Lat.zpq T e h0 h1)
theorem zs6 {x y:Int} (p1:n≤1000) (h1:t.length=n) (h2:l.length=n):zgt (zan t x) (zan l y):=⟨by rw [show (zan t x).length=t.length from Lat.zaW,show (zan l y).length=l.length from Lat.zaW,h1,h2],by rw [show (zan t x).length=t.length from Lat.zaW,h1];exact p1⟩
theorem zqr {x y:Int} (p1:n≤1000) (h1:t.length=n) (h2:l.length=n):zeM (zan l x) (zan t y):=⟨by rw [show (zan t y).length=t.length from Lat.zaW,show (zan l x).length=l.length from Lat.zaW,h1,h2],by rw [show (zan l x).length=l.length from Lat.zaW,h2];exact p1⟩
theorem zu3 (e:h=(Lat.hd t:Int)) (T:Lat.Sd n s t):(ixD t h).natAbs≤2 ^ 8980:=by subst e;rw [Lat.zcf];exact T.top
theorem ztd (e:h=(Lat.hd t:Int)) (T:Lat.Sd n s t) (h0:0<Lat.vec l (Lat.hd t)) (h1:Lat.vec l (Lat.hd t)<Lat.vec t (Lat.hd t)):(ixD l h).natAbs≤2 ^ 8980:=by subst e;rw [Lat.zcf];have:=T.top;omega
end
noncomputable def m_lowered (P0:Ji) (P1:Jq):Ji :=
 (Let (List.foldl ↑140 P0 P1) (λ(r104:Ji)=>r104))
def zb7 (P0:Ji) (P1:Jq):Prop:=Lat.LowP P0 P1
def zeD (K:W.Frag) (A:Adr):Sp:=Spv (ι:=Ji×Jq) (λx=>[dQ K (List.map dI x.1),dQ K (List.map lI x.2)]) (λx=>zb7 x.1 x.2) (λx=> ↥[dL (List.map dI (m_lowered x.1 x.2))])
theorem zd2:FnScope ["row","steps","left","step","head","many"] ["row","steps"] (zaf zhU):=⇑5
theorem zna (F:Fun K "lowered" "lowered" zhU f fd) (T:Txt K mg A) (yaa:Callee P w K mg base ↑1 1 "head_of" ["row"] (zcW K A)) (ybv:Callee P w K mg base ↑1 2 "less" ["one","other"] (zkC K A)) (yab:Callee P w K mg base ↑1 1 "times" ["some","many"] (zeT K A)):FnOk P w K mg base ↑1 3 f fd ["row","steps"] (zeD K A):=by refine F.okV zd2 ↑5 ↥8;obtain ⟨P0,P1⟩:=x;have hu:=hr.units;replace hp:zb7 P0 P1:=hp;unfold zb7 at hp;obtain ⟨N0,A0,S0,p1,p2,p3,p4,p5,p6⟩:=hp;refine ⟨_,(zaa (zar (i:=2) zd2.nd rfl ↥0 (zbX (ze5 (K:=K) rfl) rfl T.list PyProof.Rows.boot_list ↑[pv 0])) (zaa (zdl PassesOwn.never rfl (za3 (K:=K) rfl (pv 1)) (zaE (i:=3) zd2.nd rfl ↥0 ↥0) (zaa (zar (i:=4) zd2.nd rfl ↥0 (zaR yaa ↑3 rfl zaL ↑[pv 3])) (zaa (zar (i:=5) zd2.nd rfl ↥0 (zaw zbf (zbp ⇑9 (pv 2) (pv 4) ⇑7) (zbp ⇑9 (pv 3) (pv 4) ⇑7))) (zaa (za5 (zaq zgf (pv 5) zah (zay _)) (zaa (zar (i:=2) zd2.nd rfl ↥0 (zaR ybv ↑3 rfl zaL ↑[pv 2,zaR yab ↑3 rfl zaL ↑[pv 3,pv 5]])) zad) zad) zad)))) (zaa (zaM (pv 2)) zad))),.inl ?_⟩;show L2.Run _ ([⇑[dQ K ↥6],⇑[dQ K (List.map lI P1)],.no,.no,.no,.no]:L2.Ctx) _ (↑62 (m_lowered P0 P1));unfold m_lowered;exact (zbG (m:=true) (EvO.ev (EvO.anyI (m:=false) (zjm ⇑3))) (zbS (s0:=P0) ↑106 ↑62 ↑140 (λ(i:Nat) (s95:Ji)=>s95.length=N0∧Lat.Bit (A0+i*(S0+1)) s95) (zbQ (m:=false) lI (xs:=P1) ↑7) (.eq ↑21) ↥(⟨p2,by simpa using p4⟩) (λi97 x96 s95 hx98 hI99=>have v98:=List.mem_of_getElem? hx98;⟨↥(Lat.zsH (p5 _ ⇑0) ⇑0 (zme _ _)),(zas (m:=true) (x:=(zag x96)) dI (λz=>Oc.nx (↑106 z)) (Ev.any (m:=true) (zau (x:=x96) (zac (Ev.weak (K:=K) ↑17) zae) rfl (by show za7 x96;exact trivial) rfl)) (λhv100 hhead100=>have hH:=(hhead100).trans (zcv _);(zas (m:=true) (x:=((ixD s95 hv100)/(ixD x96 hv100))) dI (λz=>Oc.nx (↑106 z)) (zaN (x:=(ixD s95 hv100)) (y:=(ixD x96 hv100)) (Ev.any (m:=true) (zbP (f:=dI) (xs:=s95) ↑36 ↑49 ↥(zvP (p5 _ ⇑0) hH ⇑0))) (Ev.any (m:=false) (zbP (f:=dI) (xs:=x96) (Ev.weak (K:=K) ↑17) ↑49 ↥(zmr (p5 _ ⇑0) hH))) ↥(Lat.zrK (p5 _ ⇑0) hH)) (λv101 hv101=>(zbJ (b:=(!decide (v101=(0:Int)))) (λbb=>([⇑[dQ K ↥6],⇑[dQ K (List.map lI P1)],↥[dL (List.map dI (bif bb then (ze6 s95 (zan x96 v101)) else s95))],⇑[dL (List.map dI x96)],↥[dI hv100],↥[dI v101]]:L2.Ctx)) (zai (zg2 (x:=v101) (y:=(0:Int)) ↑31 zax)) (λh102=>(zbG (m:=true) (EvO.ev (EvO.anyI (m:=true) (zcu (x:=(s95,(zan x96 v101))) (zac (Ev.old ↑36) (zac (Ev.weak (K:=K) (EvO.ev (EvO.anyI (m:=true) (zcu (x:=(x96,v101)) (zac (Ev.weak (K:=K) ↑17) (zac ↑31 zae)) rfl (by show zbE x96 v101;exact zu6 p1 p6 ⇑0 p5 ⇑0 hH ⇑0) rfl)))) zae)) rfl (by show zeM s95 (zan x96 v101);exact zsM p1 (p5 _ ⇑0) ⇑0) rfl))) (zao (.eq ↑21)))) (λh102=>(zao (.eq ↑21))) (zco (x:=(bif (!decide (v101=(0:Int))) then (ze6 s95 (zan x96 v101)) else s95)) (λv103=>([⇑[dQ K ↥6],⇑[dQ K (List.map lI P1)],↥[dL (List.map dI v103)],⇑[dL (List.map dI x96)],↥[dI hv100],↥[dI v101]]:L2.Ctx)) (λz=>Oc.nx (↑106 z)) (λv103 hv103=>(zao (.eq (.eq (.eq (.no (.no (.no .nil))))))))))))))⟩) (λr104 hr104 hI=>(zak (zaD ↑12)))))
theorem zdq (l:Ji) (ss:Jq):m_lowered l ss=Lat.low l ss:=by unfold m_lowered;show List.foldl _ l ss=List.foldl Lat.zlr l ss;congr 1;funext s x;exact zme s x
noncomputable def zbs (P0:Ji) (P1:Ji):(Ji×Ji) :=
 (Let (zag P0) (λ(hv105:Int)=>(Let (zc2 (ixD P0 hv105) (ixD P1 hv105)) (λ(v106:(T3 Int Int Int))=>(Let (zhO (zan P0 v106.b) (zan P1 v106.c)) (λ(v107:Ji)=>(Let (ze6 (zan P1 ((ixD P0 hv105)/v106.a)) (zan P0 ((ixD P1 hv105)/v106.a))) (λ(v108:Ji)=>(v107,v108)))))))))
def zfx (P0:Ji) (P1:Ji):Prop:=Lat.MrgP P0 P1
def zj4 (K:W.Frag) (A:Adr):Sp:=Spv (ι:=Ji×Ji) ↑101 (λx=>zfx x.1 x.2) (λx=> ↥[dT [dL (List.map dI ((zbs x.1 x.2).1)),dL (List.map dI ((zbs x.1 x.2).2))]])
theorem zfr:FnScope ["step","row","head","shared","first","second"] ["step","row"] (zaf zjc):=⇑5
theorem zpg (F:Fun K "merged" "merged" zjc f fd) (T:Txt K mg A) (yb9:Callee P w K mg base ↑1 1 "common" ["one","other"] (zjU K A)) (yaa:Callee P w K mg base ↑1 1 "head_of" ["row"] (zcW K A)) (ybv:Callee P w K mg base ↑1 2 "less" ["one","other"] (zkC K A)) (ydg:Callee P w K mg base ↑1 2 "plus" ["one","other"] (zoR K A)) (yab:Callee P w K mg base ↑1 1 "times" ["some","many"] (zeT K A)):FnOk P w K mg base ↑1 3 f fd ["step","row"] (zj4 K A):=by refine F.okV zfr ↑5 ↥8;obtain ⟨P0,P1⟩:=x;have hu:=hr.units;replace hp:zfx P0 P1:=hp;unfold zfx at hp;obtain ⟨N0,A0,S0,p1,p2,p3,p4,p5,p6,p7⟩:=hp;refine ⟨_,(zaa (zar (i:=2) zfr.nd rfl ↥0 (zaR yaa ↑3 rfl zaL ↑[pv 0])) (zaa (zar (i:=3) zfr.nd rfl ↥0 (zaR yb9 ↑3 rfl zaL ↑[(zbp ⇑9 (pv 0) (pv 2) ⇑7),(zbp ⇑9 (pv 1) (pv 2) ⇑7)])) (zaa (zar (i:=4) zfr.nd rfl ↥0 (zaR ydg ↑3 rfl zaL ↑[(zaR yab ↑3 rfl zaL ↑[pv 0,(zbp (zb3 (K:=K) rfl) (pv 3) zah ⇑7)]),(zaR yab ↑3 rfl zaL ↑[pv 1,(zbp (zb3 (K:=K) rfl) (pv 3) zah ⇑7)])])) (zaa (zar (i:=5) zfr.nd rfl ↥0 (zaR ybv ↑3 rfl zaL ↑[(zaR yab ↑3 rfl zaL ↑[pv 1,(zaw zbf (zbp ⇑9 (pv 0) (pv 2) ⇑7) (zbp (zb3 (K:=K) rfl) (pv 3) zah ⇑7))]),(zaR yab ↑3 rfl zaL ↑[pv 0,(zaw zbf (zbp ⇑9 (pv 1) (pv 2) ⇑7) (zbp (zb3 (K:=K) rfl) (pv 3) zah ⇑7))])])) (zaa (zaM (zeC ↑[pv 4,pv 5])) zad))))),.inl ?_⟩;show L2.Run _ ([⇑[dQ K ↥6],⇑[dQ K ↥7],.no,.no,.no,.no]:L2.Ctx) _ (↑98 (zbs P0 P1));unfold zbs;exact (zas (m:=true) (x:=(zag P0)) dI ↑98 (Ev.any (m:=true) (zau (x:=P0) (zac ⇑3 zae) rfl (by show za7 P0;exact trivial) rfl)) (λhv105 hhead105=>have hH:=(hhead105).trans (zcv _);(zas (m:=true) (x:=(zc2 (ixD P0 hv105) (ixD P1 hv105))) (λ(p:(T3 Int Int Int))=>dT [dI p.a,dI p.b,dI p.c]) ↑98 (zau (x:=((ixD P0 hv105),(ixD P1 hv105))) (zac (Ev.any (m:=false) (zbP (f:=dI) (xs:=P0) ⇑3 ↑34 ↥(zmr p2 hH))) (zac (Ev.any (m:=false) (zbP (f:=dI) (xs:=P1) ↑7 ↑34 ↥(Lat.zl2 p2 hH p3))) zae)) rfl (by show zfC (ixD P0 hv105) (ixD P1 hv105);exact Lat.zpq p2 hH p5 p6) rfl) (λv106 hv106=>have hC:=zvG hH p2 p5 p6 hv106;(zas (m:=true) (x:=(zhO (zan P0 v106.b) (zan P1 v106.c))) lI ↑98 (EvO.ev (EvO.anyI (m:=true) (zcu (x:=((zan P0 v106.b),(zan P1 v106.c))) (zac (Ev.weak (K:=K) (EvO.ev (EvO.anyI (m:=true) (zcu (x:=(P0,v106.b)) (zac ⇑3 (zac (Ev.any (m:=true) (zd3 ↑17 zax rfl)) zae)) rfl (by show zbE P0 v106.b;exact ⟨by rw [p2.len];exact p1,Lat.zjp p2.bit hC.2.2.1 ↑0 ↥1⟩) rfl)))) (zac (Ev.weak (K:=K) (EvO.ev (EvO.anyI (m:=true) (zcu (x:=(P1,v106.c)) (zac ↑7 (zac (Ev.any (m:=true) (zd3 ↑17 zax rfl)) zae)) rfl (by show zbE P1 v106.c;exact ⟨by rw [p3];exact p1,Lat.zjp p4 hC.2.2.2 ↑0 ↥1⟩) rfl)))) zae)) rfl (by show zgt (zan P0 v106.b) (zan P1 v106.c);exact zs6 p1 p2.len p3) rfl))) (λv107 hv107=>(zas (m:=true) (x:=(ze6 (zan P1 ((ixD P0 hv105)/v106.a)) (zan P0 ((ixD P1 hv105)/v106.a)))) lI ↑98 (EvO.ev (EvO.anyI (m:=true) (zcu (x:=((zan P1 ((ixD P0 hv105)/v106.a)),(zan P0 ((ixD P1 hv105)/v106.a)))) (zac (Ev.weak (K:=K) (EvO.ev (EvO.anyI (m:=true) (zcu (x:=(P1,((ixD P0 hv105)/v106.a))) (zac ↑7 (zac (zaN (x:=(ixD P0 hv105)) (y:=v106.a) (Ev.any (m:=false) (zbP (f:=dI) (xs:=P0) ⇑3 ↑34 ↥(zmr p2 hH))) (Ev.any (m:=true) (zd3 ↑17 zax rfl)) ↥(Lat.zgC.of hC.1 hC.2.1 ↥1)) zae)) rfl (by show zbE P1 ((ixD P0 hv105)/v106.a);exact ⟨by rw [p3];exact p1,Lat.zjp p4 (Lat.zgM hC.1 (zu3 hH p2)) ↑0 ↥1⟩) rfl)))) (zac (Ev.weak (K:=K) (EvO.ev (EvO.anyI (m:=true) (zcu (x:=(P0,((ixD P1 hv105)/v106.a))) (zac ⇑3 (zac (zaN (x:=(ixD P1 hv105)) (y:=v106.a) (Ev.any (m:=false) (zbP (f:=dI) (xs:=P1) ↑7 ↑34 ↥(Lat.zl2 p2 hH p3))) (Ev.any (m:=true) (zd3 ↑17 zax rfl)) ↥(Lat.zgC.of hC.1 hC.2.1 ↥1)) zae)) rfl (by show zbE P0 ((ixD P1 hv105)/v106.a);exact ⟨by rw [p2.len];exact p1,Lat.zjp p2.bit (Lat.zgM hC.1 (ztd hH p2 p5 p6)) ↑0 ↥1⟩) rfl)))) zae)) rfl (by show zeM (zan P1 ((ixD P0 hv105)/v106.a)) (zan P0 ((ixD P1 hv105)/v106.a));exact zqr p1 p2.len p3) rfl))) (λv108 hv108=>(zak (zaD (zeF (zac (zab (i:=4) rfl) (zac (zab (i:=5) rfl) zae)) ↑47)))))))))))
theorem zhL (s l:Ji):zbs s l=Lat.mrg s l:=by unfold zbs Let;dsimp only;rw [zcv,Lat.zcf,Lat.zcf,znO];rfl
section
variable {n s a i:Nat} {l row:Ji} {steps:Jq} {st:Lat.TS2} {x:Int×Ji}
theorem zum (p1:n≤1000) (p2:Lat.Ech n 0 steps) (p3:∀t∈steps,Lat.Sd n s t) (p4:row.length=n) (p5:Lat.Bit a row) (p6:steps.length≤100) (p7:a+(steps.length+2)*↑50+s≤40000000):Lat.LowP row steps:=by refine ⟨n,a,s,p1,p4,by omega,p5,p3,?_⟩;have e2:steps.length*(s+1)≤(steps.length+1)*(s+9000):=Nat.mul_le_mul ↑0 ↑0;rw [Nat.add_mul steps.length 2] at p7;omega
theorem zq1 (p1:n≤1000) (I:Lat.TI steps n a s i st) (T:Lat.Sd n s x.2) (h:decide (zag st.2<zag x.2)=true):zcU st.2:=by rw [zcv,zcv] at h;simp only [decide_eq_true_eq] at h;have:=T.hd;have:=I.len;exact ⟨by omega,by omega⟩
theorem zq0 (p1:n≤1000) (I:Lat.TI steps n a s i st) (h:decide (zag st.2<((st.2.length:Nat):Int))=true):zcU st.2:=by rw [zcv] at h;simp only [decide_eq_true_eq] at h;have:=I.len;exact ⟨by omega,by omega⟩
theorem zut (h:decide (zag st.2=zag x.2)=true):Lat.hd st.2=Lat.hd x.2:=by rw [zcv,zcv] at h;simp only [decide_eq_true_eq] at h;omega
theorem zuv (I:Lat.TI steps n a s i st) (hx:i<steps.length∧x.1=(i:Int)∧steps[i]? =some x.2) (p6:steps.length≤100):st.1.length<PySem.sizeLine:=Nat.lt_of_le_of_lt (show _≤1000 by have:=I.g;omega) ↥1
theorem zuO (I:Lat.TI steps n a s (zeH steps).length st) (p6:steps.length≤100):st.1.length<PySem.sizeLine:=Nat.lt_of_le_of_lt (show _≤1000 by have:=I.g;rw [zf5] at this;omega) ↥1
theorem zsK {y:Ji} (I:Lat.TI steps n a s i st) (hx:i<steps.length∧x.1=(i:Int)∧steps[i]? =some x.2) (p6:steps.length≤100):st.1.length+[y].length≤PySem.sizeLine:=by apply zap;have:=I.g;simp;omega
theorem zsf {lo hi:Option Int}:(zb9 steps lo hi).length≤steps.length:=by unfold zb9;rw [List.length_take,List.length_drop];omega
theorem zrF {y:Ji} {lo hi:Option Int} (I:Lat.TI steps n a s i st) (hx:i<steps.length∧x.1=(i:Int)∧steps[i]? =some x.2) (p6:steps.length≤100):(st.1++[y]).length+(zb9 steps lo hi).length≤PySem.sizeLine:=by apply zap;have:=I.g;have:=zsf (steps:=steps) (lo:=lo) (hi:=hi);simp;omega
end
noncomputable def m_taken_in (P0:Jq) (P1:Ji):Jq :=
 (Let (m_lowered P1 P0) (λ(v109:Ji)=>(zpA (zcS ↑135 ([],v109) (zeH P0)) (λ(r128:Jq×Ji)=>(Let (bif (decide ((zag r128.2)<((r128.2.length:Nat):Int))) then (r128.1++[(zbH r128.2)]) else r128.1) (λ(v130:Jq)=>v130))) (λb=>b))))
def zet (P0:Jq) (P1:Ji):Prop:=Lat.TinP P0 P1
def zhv (K:W.Frag) (A:Adr):Sp:=Spv (ι:=Jq×Ji) (λx=>[dQ K (List.map lI x.1),dQ K (List.map dI x.2)]) (λx=>zet x.1 x.2) (λx=> ⇑[dL (List.map lI (m_taken_in x.1 x.2))])
theorem zcR:FnScope ["steps","row","loose","grown","place","step","pair"] ["steps","row"] (zaf zgJ):=⇑5
theorem zlc (F:Fun K "taken_in" "taken_in" zgJ f fd) (T:Txt K mg A) (yaa:Callee P w K mg base ↑1 1 "head_of" ["row"] (zcW K A)) (yaf:Callee P w K mg base ↑1 3 "lowered" ["row","steps"] (zeD K A)) (yca:Callee P w K mg base ↑1 3 "merged" ["step","row"] (zj4 K A)) (ybi:Callee P w K mg base ↑1 2 "upright" ["row"] (ziC K A)):FnOk P w K mg base ↑1 4 f fd ["steps","row"] (zhv K A):=by refine F.okV zcR ↑5 ↥8;obtain ⟨P0,P1⟩:=x;have hu:=hr.units;replace hp:zet P0 P1:=hp;unfold zet at hp;obtain ⟨N0,A0,S0,p1,p2,p3,p4,p5,p6,p7⟩:=hp;refine ⟨_,(zaa (zar (i:=2) zcR.nd rfl ↥0 (zaR yaf ↑3 rfl zaL ↑[pv 1,pv 0])) (zaa (zar (i:=3) zcR.nd rfl ↥0 (zbc zcY)) (zaa (zdl PassesOwn.never rfl (zhp rfl rfl T.enumerate ↑[pv 0]) (zdi (K:=K) (n:=2) rfl rfl (zbb (zaE (i:=4) zcR.nd rfl ↥0 ↥0) (zbb (zaE (i:=5) zcR.nd rfl ↥0 ↥0) zdP))) (zaa (za5 (zaq zh7 (zaR yaa ↑3 rfl zaL ↑[pv 2]) (zaR yaa ↑3 rfl zaL ↑[pv 5]) (zay _)) (zaa (zaM (zaw zeo (zaw zeo (pv 3) (zbc ↑[zaR ybi ↑3 rfl zaL ↑[pv 2]])) (zcO (zcg (K:=K) rfl) (pv 0) (zdy (pv 4)) zd5))) zad) zad) (zaa (za5 (zaq zcD (zaR yaa ↑3 rfl zaL ↑[pv 2]) (zaR yaa ↑3 rfl zaL ↑[pv 5]) (zay _)) (zaa (zar (i:=6) zcR.nd rfl ↥0 (zaR yca ↑3 rfl zaL ↑[pv 5,pv 2])) (zaa (zb1 (zbI (K:=K) rfl (pv 3) ↑[(zbp (zb3 (K:=K) rfl) (pv 6) zah ⇑7)])) (zaa (zar (i:=2) zcR.nd rfl ↥0 (zaR yaf ↑3 rfl zaL ↑[(zbp (zb3 (K:=K) rfl) (pv 6) zah ⇑7),(zcO (zcg (K:=K) rfl) (pv 0) (zdy (zaw zdS (pv 4) zah)) zd5)])) zad))) (zaa (zb1 (zbI (K:=K) rfl (pv 3) ↑[pv 5])) zad)) zad))) (zaa (za5 (zaq zh7 (zaR yaa ↑3 rfl zaL ↑[pv 2]) (zaA (zaI (K:=K) rfl) rfl T.len PySem.boot_len ↑[pv 2]) (zay _)) (zaa (zb1 (zbI (K:=K) rfl (pv 3) ↑[zaR ybi ↑3 rfl zaL ↑[pv 2]])) zad) zad) (zaa (zaM (pv 3)) zad))))),.inl ?_⟩;show L2.Run _ ([⇑[dQ K ↑28],⇑[dQ K ↥7],.no,.no,.no,.no,.no]:L2.Ctx) _ (↑85 (m_taken_in P0 P1));unfold m_taken_in;exact (zas (m:=true) (x:=(m_lowered P1 P0)) lI ↑85 (zau (x:=(P1,P0)) (zac ↑7 (zac ⇑3 zae)) rfl (by show zb7 P1 P0;exact zum p1 p2 p3 p4 p5 p6 p7) rfl) (λv109 hv109=>have hL:=(hv109).trans (zdq _ _);(zdX (m:=true) (ds:=List.map lI []) (zbU (m:=true) zae) (zlN (s0:=([],v109)) ↑103 ↑85 (λb=>b) ↑135 (λ(i:Nat) (s119:Jq×Ji)=>Lat.TI P0 N0 A0 S0 i s119) (λb=> .inl ⟨_,_,rfl⟩) (zhz (m:=false) lI (xs:=P0) ⇑3) (.eq (.eq (.eq (.oldL (.eq (.eq (.eq .nil))))))) (by rw [hL];exact Lat.TI.start p2 p3 p4 p5) (λi121 x120 s119 hx122 hI123=>have v122:=zdh hx122;⟨(by intro z hz;simp only [zcv,zim,zhL,zdq] at hz;exact Lat.TI.step ⇑0 p2 p3 ⇑0 hz),(zbM (b:=(decide ((zag s119.2)<(zag x120.2)))) (zkX ↑103 ↑85) (zai (zaX (x:=(zag s119.2)) (y:=(zag x120.2)) (Ev.any (m:=true) (zau (x:=s119.2) (zac (Ev.old ↑36) zae) rfl (by show za7 s119.2;exact trivial) rfl)) (Ev.any (m:=true) (zau (x:=x120.2) (zac (Ev.weak (K:=K) (zab (i:=5) rfl)) zae) rfl (by show za7 x120.2;exact trivial) rfl)))) (λh124=>(zaK (zbV (i:=3) rfl (zak (zaD (EvO.ev (zc7 (f:=lI) (xs:=(s119.1++[(zbH s119.2)])) (ys:=(zb9 P0 (some x120.1) none)) (EvO.ev (zc7 (f:=lI) (xs:=s119.1) (ys:=[(zbH s119.2)]) ↑17 (EvO.ev (zbR (zac (zau (x:=s119.2) (zac (Ev.old ↑12) zae) rfl (by show zcU s119.2;first|exact zq1 p1 ⇑0 (p3 _ (Lat.TI.mem ⇑0).1) ⇑0|exact zq0 p1 ⇑0 ⇑0) rfl) zae) ↑61)) ↥(zsK ⇑0 ⇑0 p6))) (EvO.ev (zdN (f:=lI) (xs:=P0) ⇑3 (zcC ↑63) zdf)) ↥(zrF ⇑0 ⇑0 p6)))))))) (λh124=>(zaj (zbJ (b:=(decide ((zag s119.2)=(zag x120.2)))) (λbb=>([⇑[dQ K ↑28],⇑[dQ K ↥7],↥[dL (List.map dI (bif bb then (m_lowered ((zbs x120.2 s119.2).2) (zb9 P0 (some (x120.1+(1:Int))) none)) else s119.2))],.ow false (List.map lI (bif bb then (s119.1++[(zbs x120.2 s119.2).1]) else (s119.1++[x120.2]))),⇑[dI x120.1],⇑[dL (List.map dI x120.2)],.no]:L2.Ctx)) (zai (zeE (x:=(zag s119.2)) (y:=(zag x120.2)) (Ev.any (m:=true) (zau (x:=s119.2) (zac (Ev.old ↑36) zae) rfl (by show za7 s119.2;exact trivial) rfl)) (Ev.any (m:=true) (zau (x:=x120.2) (zac (Ev.weak (K:=K) (zab (i:=5) rfl)) zae) rfl (by show za7 x120.2;exact trivial) rfl)))) (λh125=>(zbG (m:=true) (zau (x:=(x120.2,s119.2)) (zac (Ev.weak (K:=K) (zab (i:=5) rfl)) (zac (Ev.old ↑36) zae)) rfl (by show zfx x120.2 s119.2;exact Lat.TI.mrg ⇑0 p1 p3 ⇑0 (zut ⇑0) p7) rfl) (zca (f:=lI) (xs:=s119.1) (x:=(zbs x120.2 s119.2).1) rfl (Ev.old (zd3 (zab (i:=6) rfl) zax rfl)) ↥(zuv ⇑0 ⇑0 p6) (zbG (m:=true) (zau (x:=((zbs x120.2 s119.2).2,(zb9 P0 (some (x120.1+(1:Int))) none))) (zac (Ev.old (Ev.weak (K:=K) (zd3 (zab (i:=6) rfl) zax rfl))) (zac (Ev.weak (K:=K) (EvO.ev (zdN (f:=lI) (xs:=P0) ⇑3 (zcC (zaX (x:=x120.1) (y:=(1:Int)) ↑63 zax)) zdf))) zae)) rfl (by show zb7 ((zbs x120.2 s119.2).2) (zb9 P0 (some (x120.1+(1:Int))) none);unfold zb7;rw [zhL];exact Lat.TI.low ⇑0 p1 p6 p3 ⇑0 (zut ⇑0) p7) rfl) (zao (.eq (.eq (.eq (.eq (.eq (.eq (.no .nil)))))))))))) (λh125=>(zca (f:=lI) (xs:=s119.1) (x:=x120.2) rfl (zab (i:=5) rfl) ↥(zuv ⇑0 ⇑0 p6) (zao (.eq (.eq ↑21))))) (zco (x:=(bif (decide ((zag s119.2)=(zag x120.2))) then (s119.1++[(zbs x120.2 s119.2).1]) else (s119.1++[x120.2]))) (λv126=>([⇑[dQ K ↑28],⇑[dQ K ↥7],↥[dL (List.map dI (bif (decide ((zag s119.2)=(zag x120.2))) then (m_lowered ((zbs x120.2 s119.2).2) (zb9 P0 (some (x120.1+(1:Int))) none)) else s119.2))],.ow false (List.map lI v126),⇑[dI x120.1],⇑[dL (List.map dI x120.2)],.no]:L2.Ctx)) (zkX ↑103 ↑85) (λv126 hv126=>(zco (x:=(bif (decide ((zag s119.2)=(zag x120.2))) then (m_lowered ((zbs x120.2 s119.2).2) (zb9 P0 (some (x120.1+(1:Int))) none)) else s119.2)) (λv127=>([⇑[dQ K ↑28],⇑[dQ K ↥7],↥[dL (List.map dI v127)],.ow false (List.map lI v126),⇑[dI x120.1],⇑[dL (List.map dI x120.2)],.no]:L2.Ctx)) (zkX ↑103 ↑85) (λv127 hv127=>(zao (.eq (.eq (.eq (.eq (.no (.no (.eq .nil))))))))))))))))⟩) (λr128 hr128 hI=>(zbJ (b:=(decide ((zag r128.2)<((r128.2.length:Nat):Int)))) (λbb=>([⇑[dQ K ↑28],⇑[dQ K ↥7],↥[dL (List.map dI r128.2)],.ow false (List.map lI (bif bb then (r128.1++[(zbH r128.2)]) else r128.1)),.no,.no,.no]:L2.Ctx)) (zai (zaX (x:=(zag r128.2)) (y:=((r128.2.length:Nat):Int)) (Ev.any (m:=true) (zau (x:=r128.2) (zac (Ev.old ↑36) zae) rfl (by show za7 r128.2;exact trivial) rfl)) (zbq (f:=dI) (xs:=r128.2) (Ev.old ↑36)))) (λh129=>(zca (f:=lI) (xs:=r128.1) (x:=(zbH r128.2)) rfl (zau (x:=r128.2) (zac (Ev.old ↑12) zae) rfl (by show zcU r128.2;first|exact zq1 p1 ⇑0 (p3 _ (Lat.TI.mem ⇑0).1) ⇑0|exact zq0 p1 ⇑0 ⇑0) rfl) ↥(zuO ⇑0 p6) (zao (.eq (.eq ↑21))))) (λh129=>(zao (.eq (.eq ↑21)))) (zco (x:=(bif (decide ((zag r128.2)<((r128.2.length:Nat):Int))) then (r128.1++[(zbH r128.2)]) else r128.1)) (λv130=>([⇑[dQ K ↑28],⇑[dQ K ↥7],↥[dL (List.map dI r128.2)],.ow false (List.map lI v130),.no,.no,.no]:L2.Ctx)) ↑85 (λv130 hv130=>(zbV (i:=3) rfl (zak (zaD ↑17)))))))))))
theorem zjr (ss:Jq) (l:Ji):m_taken_in ss l=Lat.tin Lat.MG ss (Lat.low l ss):=by unfold m_taken_in;simp only [zcv,zim,zhL,zdq];exact Lat.zw1 ss _
theorem zrG (x:Ji) (fl:Jq):Let ([(m_lowered x fl)]++fl) (λ(y:Jq)=>y)=[Lat.low x fl]++fl:=by unfold Let;rw [zdq]
theorem ztm {steps fl:Jq} {i:Nat} {x y:Ji} (h:Lat.zuy steps) (hx:steps.reverse[i]? =some x) (e:fl=Lat.stl (steps.drop (steps.length-i))):[y].length+fl.length≤PySem.sizeLine:=by obtain ⟨j,h1,_⟩:=Lat.zk0 hx;have:=Lat.zuj h ↑0 e;apply zap;simp;omega
noncomputable def zcw (P0:Jq):Jq :=
 (Let (List.foldl (λ(s131:Jq) (x132:Ji)=>(Let ([(m_lowered x132 s131)]++s131) (λ(v136:Jq)=>v136))) [] (List.reverse P0)) (λ(r137:Jq)=>r137))
def zeh (P0:Jq):Prop:=Lat.zuy P0
def ziL (K:W.Frag) (A:Adr):Sp:=Spv (ι:=Jq) (λx=>[dQ K (List.map lI x)]) (λx=>zeh x) (λx=> ↥[dL (List.map lI (zcw x))])
theorem zfJ:FnScope ["steps","flat","step"] ["steps"] (zaf zhQ):=⇑5
theorem zm3 (F:Fun K "settled" "settled" zhQ f fd) (T:Txt K mg A) (yaf:Callee P w K mg base ↑1 3 "lowered" ["row","steps"] (zeD K A)):FnOk P w K mg base ↑1 4 f fd ["steps"] (ziL K A):=by refine F.okV zfJ ↑5 ↑33;have hu:=hr.units;replace hp:zeh P0:=hp;unfold zeh at hp;refine ⟨_,(zaa (zar (i:=1) zfJ.nd rfl ↥0 (zbc zcY)) (zaa (zdl PassesOwn.never rfl (zqX rfl rfl T.reversed ↑[pv 0]) (zaE (i:=2) zfJ.nd rfl ↥0 ↥0) (zaa (zar (i:=1) zfJ.nd rfl ↥0 (zaw zeo (zbc ↑[zaR yaf ↑3 rfl zaL ↑[pv 2,pv 1]]) (pv 1))) zad)) (zaa (zaM (pv 1)) zad))),.inl ?_⟩;show L2.Run _ ([⇑[dQ K ↑28],.no,.no]:L2.Ctx) _ (↑86 (zcw P0));unfold zcw;exact (zbG (m:=true) (EvO.ev (zbU (m:=true) zae)) (zbS (s0:=[]) (λ(s131:Jq)=>([⇑[dQ K ↑28],↥[dL (List.map lI s131)],.no]:L2.Ctx)) ↑86 (λ(s131:Jq) (x132:Ji)=>(Let ([(m_lowered x132 s131)]++s131) (λ(v136:Jq)=>v136))) (λ(i:Nat) (s131:Jq)=>s131=Lat.stl (P0.drop (P0.length-i))) (zrn (m:=false) lI (xs:=P0) ⇑3) (.eq (.eq (.eq .nil))) (by simp [Lat.stl]) (λi133 x132 s131 hx134 hI135=>have v134:=List.mem_of_getElem? hx134;⟨↥(Lat.zsS ⇑0 ⇑0 (zrG _ _)),(zas (m:=true) (x:=([(m_lowered x132 s131)]++s131)) (λ(xs:Jq)=>dL (List.map lI xs)) (λz=>Oc.nx ((λ(s131:Jq)=>([⇑[dQ K ↑28],↥[dL (List.map lI s131)],.no]:L2.Ctx)) z)) (EvO.ev (zc7 (f:=lI) (xs:=[(m_lowered x132 s131)]) (ys:=s131) (EvO.ev (zbR (zac (zau (x:=(x132,s131)) (zac ↑36 (zac (Ev.old ↑18) zae)) rfl (by show zb7 x132 s131;exact Lat.zse hp ⇑0 ⇑0) rfl) zae) ↑61)) ↑7 ↥(ztm hp ⇑0 ⇑0))) (λv136 hv136=>(zao (.eq (.eq (.no .nil))))))⟩) (λr137 hr137 hI=>(zak (zaD ↑7)))))
theorem ziB (ss:Jq):zcw ss=Lat.stl ss:=by unfold zcw;simp only [zdq];exact Lat.zwH ss
theorem zsW {rows ss:Jq} {r:Ji} {i:Nat} (hr:rows[i]?=some r) (e:ss=Lat.clm Lat.MG (rows.take i)):Let (zcw (m_taken_in ss r)) (λ(y:Jq)=>y)=Lat.clm Lat.MG (rows.take (i+1)):=by unfold Let;rw [ziB,zjr,Lat.ziZ hr,e]
noncomputable def zaV (P0:Jq):Jq :=
 (Let (List.foldl (λ(s138:Jq) (x139:Ji)=>(Let (zcw (m_taken_in s138 x139)) (λ(v143:Jq)=>v143))) [] P0) (λ(r144:Jq)=>r144))
def zd4 (P0:Jq):Prop:=Lat.zvR P0
def zgA (K:W.Frag) (A:Adr):Sp:=Spv (ι:=Jq) (λx=>[dQ K (List.map lI x)]) (λx=>zd4 x) (λx=> ↥[dL (List.map lI (zaV x))])
theorem zfD:FnScope ["rows","steps","row"] ["rows"] (zaf zhM):=⇑5
theorem zmS (F:Fun K "climbed" "climbed" zhM f fd) (T:Txt K mg A) (ybN:Callee P w K mg base ↑1 4 "settled" ["steps"] (ziL K A)) (ybA:Callee P w K mg base ↑1 4 "taken_in" ["steps","row"] (zhv K A)):FnOk P w K mg base ↑1 5 f fd ["rows"] (zgA K A):=by refine F.okV zfD ↑5 ↑33;have hu:=hr.units;replace hp:zd4 P0:=hp;unfold zd4 at hp;obtain ⟨N0,B0,R0,p1,p2,p3⟩:=hp;refine ⟨_,(zaa (zar (i:=1) zfD.nd rfl ↥0 (zbc zcY)) (zaa (zdl PassesOwn.never rfl (za3 (K:=K) rfl (pv 0)) (zaE (i:=2) zfD.nd rfl ↥0 ↥0) (zaa (zar (i:=1) zfD.nd rfl ↥0 (zaR ybN ↑3 rfl zaL ↑[zaR ybA ↑3 rfl zaL ↑[pv 1,pv 2]])) zad)) (zaa (zaM (pv 1)) zad))),.inl ?_⟩;show L2.Run _ ([⇑[dQ K ↑28],.no,.no]:L2.Ctx) _ (↑86 (zaV P0));unfold zaV;exact (zbG (m:=true) (EvO.ev (zbU (m:=true) zae)) (zbS (s0:=[]) (λ(s138:Jq)=>([⇑[dQ K ↑28],↥[dL (List.map lI s138)],.no]:L2.Ctx)) ↑86 (λ(s138:Jq) (x139:Ji)=>(Let (zcw (m_taken_in s138 x139)) (λ(v143:Jq)=>v143))) (λ(i:Nat) (s138:Jq)=>s138=Lat.clm Lat.MG (P0.take i)) (zbQ (m:=false) lI (xs:=P0) ⇑3) (.eq (.eq (.eq .nil))) (by rfl) (λi140 x139 s138 hx141 hI142=>have v141:=List.mem_of_getElem? hx141;⟨↥(zsW ⇑0 ⇑0),(zas (m:=true) (x:=(zcw (m_taken_in s138 x139))) (λ(xs:Jq)=>dL (List.map lI xs)) (λz=>Oc.nx ((λ(s138:Jq)=>([⇑[dQ K ↑28],↥[dL (List.map lI s138)],.no]:L2.Ctx)) z)) (zau (x:=(m_taken_in s138 x139)) (zac (Ev.weak (K:=K) (zau (x:=(s138,x139)) (zac (Ev.old ↑18) (zac ↑36 zae)) rfl (by show zet s138 x139;exact (Lat.zoq p1 p2 p3 ⇑0 ⇑0).2.1) rfl)) zae) rfl (by show zeh (m_taken_in s138 x139);unfold zeh;rw [zjr];exact (Lat.zoq p1 p2 p3 ⇑0 ⇑0).2.2) rfl) (λv143 hv143=>(zao (.eq (.eq (.no .nil))))))⟩) (λr144 hr144 hI=>(zak (zaD ↑7)))))
theorem zgV (rows:Jq):zaV rows=Lat.clm Lat.MG rows:=by unfold zaV Lat.clm;simp only [ziB,zjr];rfl
def TrP (rows:Jq):Prop:=∃n b R,Lat.Fit (n+rows.length) b R∧rows.length≤R∧∀r∈rows,r.length=n∧Lat.Bit b r
theorem ztu {s:Jq} {i:Nat} {y:Ji} (h:s.length≤i):(s++[y]).length≤i+1:=by simp;omega
theorem zvN {rows:Jq} {i:Nat} {p:Int×Ji} {c:Ji} (q:i<rows.length∧p.1=(i:Int)∧rows[i]? =some p.2) (e:c=zdM ((rows.length:Nat):Int) [(0:Int)]):InB c.length p.1:=by rw [e,Lat.ze1];unfold InB;omega
theorem zvx {n b R i:Nat} {rows:Jq} {p:Int×Ji} {c c0:Ji} {y:Int} (p1:Lat.Fit (n+rows.length) b R) (p2:rows.length≤R) (p3:∀r∈rows,r.length=n∧Lat.Bit b r) (q:i<rows.length∧p.1=(i:Int)∧rows[i]? =some p.2) (e0:c0=zdM ((rows.length:Nat):Int) [(0:Int)]) (e:c=zcZ c0 p.1 y):p.2.length+c.length≤PySem.sizeLine:=by have h1:=(p3 _ (List.mem_of_getElem? q.2.2)).1;have h2:=p1.1;rw [e,zeN,e0,Lat.ze1,h1];exact zap ↑0
theorem zvQ {n b R i:Nat} {rows s:Jq} {p:Int×Ji} (p1:Lat.Fit (n+rows.length) b R) (p2:rows.length≤R) (h:s.length≤i) (q:i<rows.length∧p.1=(i:Int)∧rows[i]? =some p.2):s.length<PySem.sizeLine:=Nat.lt_of_le_of_lt (show _≤1000 by have:=p1.2.1;omega) ↥1
theorem ztq {rows:Jq}:List.foldl (λ(s:Jq) (x:Int×Ji)=>Let (zcZ (zdM ((rows.length:Nat):Int) [(0:Int)]) x.1 (1:Int)) (λ(c:Ji)=>s++[x.2++c])) [] (zeH rows)=Lat.mark rows:=by show List.foldl (λ(s:Jq) (x:Int×Ji)=>s++[x.2++Lat.znd rows.length x.1]) [] (zeH rows)=_;rw [Lat.zlT];rfl
theorem ztQ {n b R:Nat} {rows ms:Jq} (p1:Lat.Fit (n+rows.length) b R) (p2:rows.length≤R) (p3:∀r∈rows,r.length=n∧Lat.Bit b r) (e:ms=List.foldl (λ(s:Jq) (x:Int×Ji)=>Let (zcZ (zdM ((rows.length:Nat):Int) [(0:Int)]) x.1 (1:Int)) (λ(c:Ji)=>s++[x.2++c])) [] (zeH rows)):Lat.zvR ms:=by rw [e,ztq];exact ⟨_,b,R,p1,by rw [Lat.ziX];exact p2,Lat.zkQ p3⟩
noncomputable def zem (P0:Jq):Jq :=
 (Let (List.foldl (λ(s145:Jq) (x146:(Int×Ji))=>(Let (zdM ↑10 [(0:Int)]) (λ(v150:Ji)=>(Let (zcZ v150 x146.1 (1:Int)) (λ(v151:Ji)=>(s145++[(x146.2++v151)])))))) [] (zeH P0)) (λ(r152:Jq)=>r152))
def zfz (P0:Jq):Prop:=TrP P0
def zkm (K:W.Frag) (A:Adr):Sp:=Spv (ι:=Jq) (λx=>[dQ K (List.map lI x)]) (λx=>zfz x) (λx=> ↥[dL (List.map lI (zem x))])
theorem zfl:FnScope ["rows","longer","place","row","counts"] ["rows"] (zaf ziV):=⇑5
theorem zn8 (F:Fun K "marked" "marked" ziV f fd) (T:Txt K mg A) :FnOk P w K mg base ↑1 1 f fd ["rows"] (zkm K A):=by refine F.okV zfl ↑5 ↑33;have hu:=hr.units;replace hp:zfz P0:=hp;unfold zfz at hp;obtain ⟨N0,B0,R0,p1,p2,p3⟩:=hp;refine ⟨_,(zaa (zar (i:=1) zfl.nd rfl ↥0 (zbc zcY)) (zaa (zdl PassesOwn.never rfl (zhp rfl rfl T.enumerate ↑[pv 0]) (zdi (K:=K) (n:=2) rfl rfl (zbb (zaE (i:=2) zfl.nd rfl ↥0 ↥0) (zbb (zaE (i:=3) zfl.nd rfl ↥0 ↥0) zdP))) (zaa (zar (i:=4) zfl.nd rfl ↥0 (zaw zlG (zbc ↑[zah]) ↑59)) (zaa (zij zah (zki (pv 4) (pv 2) zf9)) (zaa (zb1 (zbI (K:=K) rfl (pv 1) ↑[zaw zeo (pv 3) (pv 4)])) zad)))) (zaa (zaM (pv 1)) zad))),.inl ?_⟩;show L2.Run _ ([⇑[dQ K ↑28],.no,.no,.no,.no]:L2.Ctx) _ (↑86 (zem P0));unfold zem;exact (zdX (m:=true) (ds:=List.map lI []) (zbU (m:=true) zae) (zbS (s0:=[]) (λ(s145:Jq)=>([⇑[dQ K ↑28],.ow true (List.map lI s145),.no,.no,.no]:L2.Ctx)) ↑86 (λ(s145:Jq) (x146:(Int×Ji))=>(Let (zdM ↑10 [(0:Int)]) (λ(v150:Ji)=>(Let (zcZ v150 x146.1 (1:Int)) (λ(v151:Ji)=>(s145++[(x146.2++v151)])))))) (λ(i:Nat) (s145:Jq)=>s145.length≤i) (zhz (m:=false) lI (xs:=P0) ⇑3) ↑21 ↥(Nat.le_refl 0) (λi147 x146 s145 hx148 hI149=>have v148:=zdh hx148;⟨↥(ztu ⇑0),(zfF (m:=true) (x:=(zdM ↑10 [(0:Int)])) (λz=>List.map dI z) (λz=>Oc.nx ((λ(s145:Jq)=>([⇑[dQ K ↑28],.ow true (List.map lI s145),.no,.no,.no]:L2.Ctx)) z)) (zi9 (f:=dI) (xs:=[(0:Int)]) (n:=↑10) ↑75 (zbq (f:=lI) (xs:=P0) ⇑3) (by have z:=p1.2.1;constructor<;>omega) (by show 1*_≤PySem.sizeLine;apply zap;have z:=p1.2.1;omega)) (λv150 hv150=>(zgQ (f:=dI) (xs:=v150) (x:=(1:Int)) (j:=x146.1) (λz=>Oc.nx ((λ(s145:Jq)=>([⇑[dQ K ↑28],.ow true (List.map lI s145),.no,.no,.no]:L2.Ctx)) z)) rfl zax (Ev.any (m:=false) ↑12) ↥(zvN ⇑0 ⇑0) (λv151 hv151=>(zbV (i:=4) rfl (zca (f:=lI) (xs:=s145) (x:=(x146.2++v151)) rfl (EvO.ev (EvO.anyI (m:=false) (zc7 (f:=dI) (xs:=x146.2) (ys:=v151) ↑17 (Ev.old (zab (i:=4) rfl)) ↥(zvx p1 p2 p3 ⇑0 ⇑0 ⇑0)))) ↥(zvQ p1 p2 ⇑0 ⇑0) (zao (.eq (.eq (.no (.no (.no .nil))))))))))))⟩) (λr152 hr152 hI=>(zbV (i:=1) rfl (zak (zaD ↑7))))))
noncomputable def zbk (P0:Jq):Jq :=
 (zaV (zem P0))
def zeL (P0:Jq):Prop:=TrP P0
def zhH (K:W.Frag) (A:Adr):Sp:=Spv (ι:=Jq) (λx=>[dQ K (List.map lI x)]) (λx=>zeL x) (λx=> ↥[dL (List.map lI (zbk x))])
theorem zoW:FnScope ["rows"] ["rows"] (zaf zi5):=⇑5
theorem zoP (F:Fun K "traced" "traced" zi5 f fd) (T:Txt K mg A) (yaG:Callee P w K mg base ↑1 5 "climbed" ["rows"] (zgA K A)) (ycb:Callee P w K mg base ↑1 1 "marked" ["rows"] (zkm K A)):FnOk P w K mg base ↑1 6 f fd ["rows"] (zhH K A):=by refine F.okV zoW ↑5 ↑33;have hu:=hr.units;replace hp:zeL P0:=hp;unfold zeL at hp;obtain ⟨N0,B0,R0,p1,p2,p3⟩:=hp;refine ⟨_,(zaa (zaM (zaR yaG ↑3 rfl zaL ↑[zaR ycb ↑3 rfl zaL ↑[pv 0]])) zad),.inl ?_⟩;show L2.Run _ ([⇑[dQ K ↑28]]:L2.Ctx) _ (↑86 (zbk P0));unfold zbk;exact (zak (zaD (zau (x:=(zem P0)) (zac (Ev.old (Ev.weak (K:=K) (zau (x:=P0) (zac ⇑3 zae) rfl (by show zfz P0;exact ⟨N0,B0,R0,p1,p2,p3⟩) rfl))) zae) rfl (by show zd4 (zem P0);exact ztQ p1 p2 p3 rfl) rfl)))
theorem zfo (rows:Jq):zbk rows=Lat.clm Lat.MG (Lat.mark rows):=by unfold zbk;rw [zgV];exact congrArg _ ztq
theorem zpb {rows:Jq} (h:TrP rows):(zbk rows).length≤31:=by obtain ⟨n,b,R,p1,p2,p3⟩:=h;rw [zfo];have:=(Lat.zkn p1 (rows:=Lat.mark rows) (by rw [Lat.ziX];exact p2) (Lat.zkQ p3)).2.1;have:=p1.2.1;omega
theorem zvF {rows:Jq} (h:TrP rows):(zbk rows).length≤PySem.sizeLine:=zap (by have:=zpb h;omega)
theorem zrW {rows ys:Jq} {c:Ji->Bool} (h:TrP rows) (e:ys=List.map (λ(x:Ji)=>x) (List.filter c (zbk rows))):ys.length≤31:=by rw [e,List.length_map];exact Nat.le_trans (List.length_filter_le _ _) (zpb h)
def zwd (ss:Jq) (x:Ji) (m:Int):Prop:=0≤m∧m≤24∧x.length≤24∧Lat.LowP (zan x ↥3++zdM m [(0:Int)]) ss
theorem zr2 {ss:Jq} {x:Ji} {m:Int} (h:zwd ss x m):(zan x ↥3).length+(zdM m [(0:Int)]).length≤PySem.sizeLine:=by obtain ⟨h1,h2,h3,h4⟩:=h;obtain ⟨k,rfl⟩:∃k:Nat,m=(k:Int):=⟨m.toNat,by omega⟩;exact zap (by rw [Lat.ze1,show (zan x ↥3).length=x.length from Lat.zaW];omega)
theorem zi7 {l:Ji} {n:Nat}:zb9 l none (some (n:Int))=l.take n:=by
 unfold zb9;rw [HT.sIx_nat,HT.sIx_none];show (l.drop 0).take (min n l.length-0)=_;rw [List.drop_zero,Nat.sub_zero];by_cases h:n≤l.length;·rw [Nat.min_eq_left h]
 ·rw [Nat.min_eq_right ↑0,List.take_of_length_le ↑0,List.take_of_length_le ↑0]
noncomputable def zd7 (P0:Jq) (P1:Ji) (P2:Int):(Option Ji) :=
 (Let (m_lowered ((zan P1 ↥3)++(zdM P2 [(0:Int)])) P0) (λ(v153:Ji)=>(bif ((zb9 v153 none (some ↑48)).any (· !=0)) then none else (some (zb9 v153 (some ↑48) none)))))
def ze3 (P0:Jq) (P1:Ji) (P2:Int):Prop:=zwd P0 P1 P2
def ziH (K:W.Frag) (A:Adr):Sp:=Spv (ι:=Jq×Ji×Int) (λx=>[dQ K (List.map lI x.1),dQ K (List.map dI x.2.1),dI x.2.2]) (λx=>ze3 x.1 x.2.1 x.2.2) (λx=> ↥[dOpt lI (zd7 x.1 x.2.1 x.2.2)])
theorem ziw:FnScope ["steps","basket","many","left"] ["steps","basket","many"] (zaf zia):=⇑5
theorem zmU (F:Fun K "counted" "counted" zia f fd) (T:Txt K mg A) (yaf:Callee P w K mg base ↑1 3 "lowered" ["row","steps"] (zeD K A)) (yab:Callee P w K mg base ↑1 1 "times" ["some","many"] (zeT K A)):FnOk P w K mg base ↑1 4 f fd ["steps","basket","many"] (ziH K A):=by refine F.okV ziw ↑5 ↥8;obtain ⟨P0,P1,P2⟩:=x;have hu:=hr.units;replace hp:ze3 P0 P1 P2:=hp;unfold ze3 at hp;refine ⟨_,(zaa (zar (i:=3) ziw.nd rfl ↥0 (zaR yaf ↑3 rfl zaL ↑[zaw zeo (zaR yab ↑3 rfl zaL ↑[pv 1,zll zhy zah]) (zaw zlG (zbc ↑[zah]) (pv 2)),pv 0])) (zaa (za5 (zks (zaA (zn7 (K:=K) rfl rfl) rfl T.any PyProof.Rows.boot_any ↑[(zcO (zcg (K:=K) rfl) (pv 3) zd5 (zdy ↑70))])) (zaa (zaM ziO) zad) zad) (zaa (zaM (zcO (zcg (K:=K) rfl) (pv 3) (zdy ↑70) zd5)) zad))),.inl ?_⟩;show L2.Run _ ([⇑[dQ K ↑28],⇑[dQ K ↥7],⇑[dI P2],.no]:L2.Ctx) _ ((λ(r:(Option Ji))=>Oc.rt true (dOpt lI r)) (zd7 P0 P1 P2));unfold zd7;exact (zas (m:=true) (x:=(m_lowered ((zan P1 ↥3)++(zdM P2 [(0:Int)])) P0)) lI (λ(r:(Option Ji))=>Oc.rt true (dOpt lI r)) (zau (x:=(((zan P1 ↥3)++(zdM P2 [(0:Int)])),P0)) (zac (Ev.weak (K:=K) (EvO.ev (zc7 (f:=dI) (xs:=(zan P1 ↥3)) (ys:=(zdM P2 [(0:Int)])) (EvO.ev (EvO.anyI (m:=true) (zcu (x:=(P1,↥3)) (zac ↑7 (zac (zkz (x:=(1:Int)) zax) zae)) rfl (by show zbE P1 ↥3;exact ⟨by have z:=hp.2.2.1;omega,λ_ _=> .inr (.inl ⇑8)⟩) rfl))) (EvO.ev (zi9 (f:=dI) (xs:=[(0:Int)]) (n:=P2) ↑75 (Ev.any (m:=false) ↑12) (by have z:=hp.1;have z2:=hp.2.1;constructor<;>omega) (by show 1*_≤PySem.sizeLine;apply zap;have z:=hp.1;have z2:=hp.2.1;omega))) ↥(zr2 hp)))) (zac ⇑3 zae)) rfl (by show zb7 ((zan P1 ↥3)++(zdM P2 [(0:Int)])) P0;exact hp.2.2.2) rfl) (λv153 hv153=>(zbM (b:=((zb9 v153 none (some ↑48)).any (· !=0))) (λ(r:(Option Ji))=>Oc.rt true (dOpt lI r)) (zh8 (zt4 (xs:=(zb9 v153 none (some ↑48))) (Ev.weak (K:=K) (EvO.ev (EvO.anyI (m:=true) (zdN (f:=dI) (xs:=v153) (Ev.weak (K:=K) ↑17) zdf (zcC (zbq (f:=dI) (xs:=P1) ↑7)))))))) (λh154=>(zaK (zak (zaD zax)))) (λh154=>(zaj (zak (zaD (EvO.ev (EvO.anyI (m:=true) (zdN (f:=dI) (xs:=v153) (Ev.weak (K:=K) ↑17) (zcC (zbq (f:=dI) (xs:=P1) ↑7)) zdf))))))))))
noncomputable def zlv (P0:Int) (P1:Jq):BookD:=⟨P0,(List.map (λ(x155:Ji)=>x155) P1)⟩
def zb0 (P0:Int) (P1:Jq):Prop:=P1.length≤1000
def ze9 (K:W.Frag) (A:Adr):Sp:=zox (ι:=Int×Jq) A.Book (λx=>[dI x.1,dQ K (List.map lI x.2)]) (λx=>zb0 x.1 x.2) true (λx=>[("many",dI ((zlv x.1 x.2).many)),("swaps",dL (List.map lI ((zlv x.1 x.2).swaps)))])
theorem zg3:FnScope ["self","many","swaps"] ["self","many","swaps"] (zaf zc9):=⇑5
theorem zg6 (F:Fun K "__init__" "Book.__init__" zc9 f fd) (T:Txt K mg A) :FnOk P w K mg base ↑1 1 f fd ["self","many","swaps"] (ze9 K A):=by refine F.okI zg3 ↑5 ↥8;obtain ⟨P0,P1⟩:=x;have hu:=hr.units;replace hp:zb0 P0 P1:=hp;unfold zb0 at hp;refine ⟨_,(zaa (ze8 (pv 0) (pv 1) rfl) (zaa (ze8 (pv 0) (zcT rfl (.of (osc:=(zaf zc9)) (N:=["self","many","swaps"]) (own:=["swap"]) (fvn:=[]) (fv:=[]) rfl rfl ⇑6) (za3 (K:=K) rfl (pv 2)) (λ_ _ _ _ _=>⟨(zaE (i:=0) (show (["swap"]:List Str).Nodup by decide+kernel) rfl ↥0 (Or.inr rfl)),zce,(zbX (ze5 (K:=K) rfl) rfl T.list PyProof.Rows.boot_list ↑[pv 0])⟩)) rfl) zad)),λp dx=>⟨([.ob true A.Book p dx [("many",dI P0),("swaps",dL (List.map lI (List.map (λ(x155:Ji)=>x155) P1)))],⇑[dI P0],⇑[dQ K (List.map lI P1)]]:L2.Ctx),?_,rfl⟩⟩;show L2.Run _ ([.ob true A.Book p dx [],⇑[dI P0],⇑[dQ K (List.map lI P1)]]:L2.Ctx) _ _;exact (zdB (i:=0) rfl ↑13 T.Book_cl T.Book_many [] rfl ⇑6 ↥1 (zdB (i:=0) rfl (EvO.ev (EvO.conv (zdj (g:=(λ(x155:Ji)=>dL (List.map dI x155))) (zbQ (m:=false) lI (xs:=P1) ↑12) ↥(zap ↑0) ⇑8 (λi156 x155 hx157=>have v157:=List.mem_of_getElem? hx157;(EvO.ev (EvO.anyI (m:=false) (zjm ↑11))))) ↑30)) T.Book_cl T.Book_swaps ["many"] rfl ⇑6 ↥1 (zao (Wk.refl _))))
noncomputable def zdG (P0:Int) (P1:Jq):BookD :=
 (Let (List.foldl (λ(s160:Unit) (x161:(Int×Ji))=>()) () (zeH P1)) (λ(r166:Unit)=>(zlv P0 P1)))
def zdw (P0:Int) (P1:Jq):Prop:=1≤P0∧P0≤8∧P1.length≤12∧∀s∈P1,(s.length:Int)=P0
def ziA (K:W.Frag) (A:Adr):Sp:=Spv (ι:=Int×Jq) (λx=>[dI x.1,dQ K (List.map lI x.2)]) (λx=>zdw x.1 x.2) (λx=> ↥[zci A.Book (zdG x.1 x.2)])
theorem zgO:FnScope ["many","swaps","place","swap"] ["many","swaps"] (zaf zh0):=⇑5
theorem zm8 (F:Fun K "book_of" "book_of" zh0 f fd) (T:Txt K mg A)  {ydZ:Addr} {ydC:FuncData} (ydh:Mk K A.Book ydZ) (yaK:FnOk P w K mg base ↑1 1 ydZ ydC ["self","many","swaps"] (ze9 K A)) (yaL:zeW K ydC ["self","many","swaps"] []):FnOk P w K mg base ↑1 3 f fd ["many","swaps"] (ziA K A):=by refine F.okV zgO ↑5 ↥8;obtain ⟨P0,P1⟩:=x;have hu:=hr.units;replace hp:zdw P0 P1:=hp;unfold zdw at hp;obtain ⟨ya9,ydi⟩:=T.g_MOST_SWAPS;obtain ⟨yaJ,ya8⟩:=T.g_MOST_WARES;refine ⟨_,(zaa (za5 (PW.pt (zoZ (zaq zh7 (pv 0) zah (zay _)) (zkx (zaq zjV (pv 0) (zdR (v:= .int 8) rfl ya8 ⟨_,rfl⟩) (zay _))))) ↥9 zad) (zaa (za5 (zaq zjV ↑70 (zdR (v:= .int 12) rfl ydi ⟨_,rfl⟩) (zay _)) ↥9 zad) (zaa (zdl PassesOwn.never rfl (zhp rfl rfl T.enumerate ↑[pv 1]) (zdi (K:=K) (n:=2) rfl rfl (zbb (zaE (i:=2) zgO.nd rfl ↥0 ↥0) (zbb (zaE (i:=3) zgO.nd rfl ↥0 ↥0) zdP))) (zaa (za5 (zaq zgf (zaA (zaI (K:=K) rfl) rfl T.len PySem.boot_len ↑[pv 3]) (pv 0) (zay _)) ↥9 zad) zad)) (zaa (zaM (ziS ydh yaK ↑3 rfl T.Book yaL .nil zaL ↑[pv 0,pv 1])) zad)))),.inl ?_⟩;show L2.Run _ ([⇑[dI P0],⇑[dQ K (List.map lI P1)],.no,.no]:L2.Ctx) _ ((λ(r:BookD)=>Oc.rt true (zci A.Book r)) (zdG P0 P1));unfold zdG;exact (zav (EvT.conv (zjP (b:=(decide (P0<(1:Int)))) (zai (zaX (x:=P0) (y:=(1:Int)) ↑16 zax)) (λhb=>(zai (zaX (x:=P0) (y:=8) ↑16 zax)))) (by simp only [Bool.or_eq_false_iff,decide_eq_false_iff_not];omega)) (zaj (zav (EvT.conv (zai (zaX (x:=↑48) (y:=12) (zbq (f:=lI) (xs:=P1) ↑7) zax)) ↑119) (zaj (zbS (s0:=()) (λ(s160:Unit)=>([⇑[dI P0],⇑[dQ K (List.map lI P1)],.no,.no]:L2.Ctx)) (λ(r:BookD)=>Oc.rt true (zci A.Book r)) (λ(s160:Unit) (x161:(Int×Ji))=>()) (λ_ _=>True) (zhz (m:=false) lI (xs:=P1) ↑7) (.eq (.eq (.eq (.eq .nil)))) trivial (λi162 x161 s160 hx163 hI164=>have v163:=zdh hx163;⟨trivial,(zav (EvT.conv (zai (zg2 (x:=((x161.2.length:Nat):Int)) (y:=P0) (zbq (f:=dI) (xs:=x161.2) (Ev.weak (K:=K) ↑17)) ↑16)) (by have:=hp.2.2.2 _ (zqy ⇑0);simp only [Bool.not_eq_false',decide_eq_true_eq];exact this)) (zaj (zao (.eq (.eq (.no (.no .nil)))))))⟩) (λr166 hr166 hI=>(zak (zaD (zlp (i:=(P0,P1)) (zac ↑16 (zac ↑7 zae)) rfl (by show zb0 P0 P1;unfold zb0;omega))))))))))
theorem zu1 {w:Int} {sw:Jq}:zdG w sw=⟨w,sw⟩:=by unfold zdG zlv Let;simp
theorem zrS {ns:List Str} (h:BgP ns):zdw ↑9 []:=by have:=h.pos;unfold zdw;refine ⟨by omega,by omega,?_,?_⟩<;>simp
noncomputable def zd8 (P0:BookD) (P1:Ji):Unit:=()
def zbr (P0:BookD) (P1:Ji):Prop:=(P1.length:Int)=P0.many
def zcK (K:W.Frag) (A:Adr):Sp:=Spv (ι:=BookD×Ji) (λx=>[zci A.Book x.1,dQ K (List.map dI x.2)]) (λx=>zbr x.1 x.2) (λx=> ↥[dN])
theorem zfL:FnScope ["book","basket"] ["book","basket"] (zaf zcV):=⇑5
theorem zfK (F:Fun K "refuse_bad_basket" "refuse_bad_basket" zcV f fd) (T:Txt K mg A) :FnOk P w K mg base ↑1 1 f fd ["book","basket"] (zcK K A):=by refine F.okV zfL ↑5 ↥8;obtain ⟨P0,P1⟩:=x;have hu:=hr.units;replace hp:zbr P0 P1:=hp;unfold zbr at hp;refine ⟨_,(zaa (za5 (zaq zgf ↑70 ↑52 (zay _)) ↥9 zad) zad),.inr ⟨_,([⇑[zci A.Book P0],⇑[dQ K ↥7]]:L2.Ctx),rfl,?_⟩⟩;show L2.Run _ ([⇑[zci A.Book P0],⇑[dQ K ↥7]]:L2.Ctx) _ _;exact (zav (EvT.conv (zai (zg2 (x:=↑48) (y:=P0.many) (zbq (f:=dI) (xs:=P1) ↑7) ↑100)) ↑119) (zaj (zao (Wk.refl _))))
def zsQ (b:BookD) (x:Ji):Prop:=∃n a:Nat,b.many=(n:Int)∧x.length=n∧Lat.Bit a x∧a≤1000000∧n+b.swaps.length≤24∧b.swaps.length≤13∧∀r∈b.swaps,r.length=n∧Lat.Bit 200 r
theorem zvb {b:BookD} {x:Ji} (h:zsQ b x):TrP b.swaps:=by obtain ⟨n,a,h1,h2,h3,h4,h5,h6,h7⟩:=h;exact ⟨n,200,13,Lat.zhP h5,h6,h7⟩
theorem zrN {b:BookD} {x:Ji} {n a:Nat} (h2:x.length=n) (h3:Lat.Bit a x):(↑73).length=n+b.swaps.length∧Lat.Bit a ↑73:=by
 refine ⟨by rw [List.length_append,Lat.ze1,show (zan x ↥3).length=x.length from Lat.zaW,h2],λy hy=> ?_⟩;rcases List.mem_append.mp hy with hy|hy
 ·obtain ⟨z,hz,rfl⟩:=List.mem_map.mp hy;have:=h3 z hz;omega
 ·obtain ⟨j,_,rfl⟩:=Lat.zh9 hy;rw [Lat.ziU];exact Nat.zero_le _
theorem zrc {b:BookD} {x:Ji} (h:zsQ b x):∃n:Nat,b.many=(n:Int)∧(∀t∈zbk b.swaps,Lat.Sd (n+b.swaps.length) (Lat.sB 200 13) t)∧(zbk b.swaps).length≤13∧n+b.swaps.length≤24∧x.length=n:=by obtain ⟨n,a,h1,h2,h3,h4,h5,h6,h7⟩:=h;obtain ⟨S,s2,s3⟩:=Lat.zkn (Lat.zhP h5) (rows:=Lat.mark b.swaps) (by rw [Lat.ziX];omega) (Lat.zkQ h7);rw [zfo];exact ⟨n,h1,s3,by omega,h5,h2⟩
theorem zrB {b:BookD} {x:Ji} (h:zsQ b x):Lat.LowP ↑73 (zbk b.swaps):=by
 obtain ⟨n',e1,e2,e3,e4,e5⟩:=zrc h;obtain ⟨n,a,h1,h2,h3,h4,h5,h6,h7⟩:=h;have hn:n'=n:=by omega
 subst hn;have hv:=zrN (b:=b) h2 h3;refine ⟨n'+b.swaps.length,a,Lat.sB 200 13,by omega,hv.1,by omega,hv.2,e2,?_⟩;rw [show Lat.sB 200 13=40670 from rfl];have:=Nat.mul_le_mul_right (40670+1) e3;omega
theorem zsY {b:BookD} {x:Ji} (h:zsQ b x):zwd (zbk b.swaps) x ((b.swaps.length:Nat):Int):=by have h':=zrB h;obtain ⟨n,a,h1,h2,h3,h4,h5,h6,h7⟩:=h;exact ⟨by omega,by omega,by omega,h'⟩
noncomputable def zcp (P0:BookD) (P1:Ji):(Option Ji) :=
 (zd7 (zbk P0.swaps) P1 ((P0.swaps.length:Nat):Int))
def zfG (P0:BookD) (P1:Ji):Prop:=zsQ P0 P1
def zj5 (K:W.Frag) (A:Adr):Sp:=Spv (ι:=BookD×Ji) (λx=>[zci A.Book x.1,dQ K (List.map dI x.2)]) (λx=>zfG x.1 x.2) (λx=> ↥[dOpt lI (zcp x.1 x.2)])
theorem zpk:FnScope ["book","basket"] ["book","basket"] (zaf zjl):=⇑5
theorem zou (F:Fun K "way_to" "way_to" zjl f fd) (T:Txt K mg A) (ybO:Callee P w K mg base ↑1 4 "counted" ["steps","basket","many"] (ziH K A)) (yaT:Callee P w K mg base ↑1 6 "traced" ["rows"] (zhH K A)):FnOk P w K mg base ↑1 7 f fd ["book","basket"] (zj5 K A):=by refine F.okV zpk ↑5 ↥8;obtain ⟨P0,P1⟩:=x;have hu:=hr.units;replace hp:zfG P0 P1:=hp;unfold zfG at hp;refine ⟨_,(zaa (zaM (zaR ybO ↑3 rfl zaL ↑[(zaR yaT ↑3 rfl zaL ↑[↑52]),pv 1,(zaA (zaI (K:=K) rfl) rfl T.len PySem.boot_len ↑[↑52])])) zad),.inl ?_⟩;show L2.Run _ ([⇑[zci A.Book P0],⇑[dQ K ↥7]]:L2.Ctx) _ ((λ(r:(Option Ji))=>Oc.rt true (dOpt lI r)) (zcp P0 P1));unfold zcp;exact (zak (zaD (zau (x:=((zbk P0.swaps),P1,((P0.swaps.length:Nat):Int))) (zac (Ev.old (Ev.weak (K:=K) (zau (x:=P0.swaps) (zac (Ev.weak (K:=K) (zcM ⇑3 T.Book_cl T.Book_swaps rfl)) zae) rfl (by show zeL P0.swaps;exact zvb hp) rfl))) (zac ↑7 (zac (zbq (f:=lI) (xs:=P0.swaps) (Ev.weak (K:=K) (zcM ⇑3 T.Book_cl T.Book_swaps rfl))) zae))) rfl (by show ze3 (zbk P0.swaps) P1 ((P0.swaps.length:Nat):Int);exact zsY hp) rfl)))
theorem zqT {b:BookD} {x:Ji} {n:Nat} (hn:b.many=(n:Int)) (hx:x.length=n) (hr:∀r∈b.swaps,r.length=n) :
  (zcp b x=none->¬Lat.SpL b.swaps (Lat.vec x))∧∀r,zcp b x=some r->r.length=b.swaps.length∧r=(Lat.low ↑73 (zbk b.swaps)).drop n∧∀j,j<n->Lat.comb r (b.swaps.map Lat.vec) j=Lat.vec x j:=by
   have T:=Lat.znC hr
   have hv:=(zrN (b:=b) (a:=0+(List.map Int.natAbs x).sum) hx (λy hy=>by
    have:y.natAbs≤(List.map Int.natAbs x).sum:=by
     have:∀(l:Ji),y∈l->y.natAbs≤(List.map Int.natAbs l).sum:=by
      intro l
      induction l with
       |nil=>intro h;simp at h
       |cons a l ih=>
        intro h;rw [List.map_cons,List.sum_cons];rcases List.mem_cons.mp h with rfl|h
        ·omega
        ·have:=ih h;omega
     exact this x hy
    exact Nat.le_trans this (Nat.le_of_lt (by rw [Nat.zero_add];exact Nat.lt_two_pow_self)))).1
   have e:zcp b x=bif (zb9 (Lat.low ↑73 ↑67) none (some (n:Int))).any (· !=0) then none else some ((Lat.low ↑73 ↑67).drop n):=by unfold zcp zd7 Let;dsimp only;rw [zdq,zfo,hx,Lat.zeS]
   rw [zfo];have vj:∀j,j<n->Lat.vec ↑73 j=(-1)*Lat.vec x j:=λj hj=>by rw [Lat.zfj,if_pos (by rw [show (zan x ↥3).length=x.length from Lat.zaW,hx];exact hj),show zan x ↥3=Lat.mul x ↥3 from rfl,Lat.zdt];omega
   have vz:∀i,Lat.vec ↑73 (n+i)=0:=λi=>by rw [Lat.zfj,if_neg (by rw [show (zan x ↥3).length=x.length from Lat.zaW,hx];omega),Lat.ziU]
   generalize ↑73=v at*;obtain ⟨a1,_⟩:=Lat.zc5 T.st.ech hv
   have anyz:(zb9 (Lat.low v ↑67) none (some (n:Int))).any (· !=0)=false↔∀j,j<n->Lat.vec (Lat.low v ↑67) j=0:=by
    rw [zi7,List.any_eq_false];constructor
    ·intro h j hj
     have hm:Lat.vec (Lat.low v ↑67) j∈(Lat.low v ↑67).take n:=by
      have hl:j<((Lat.low v ↑67).take n).length:=by rw [List.length_take,a1];omega
      have:=Lat.zkA hl;rwa [Lat.zdE,if_pos hj] at this
     simpa using h _ hm
    ·intro h y hy;obtain ⟨j,hj,rfl⟩:=Lat.zh9 hy;rw [Lat.zdE];rw [List.length_take] at hj;rw [if_pos ↑0,h j ↑0];simp
   constructor
   ·intro h0 hsp
    have fr:=Lat.zoj hr T hv ((Lat.Sp.smul (-1) hsp).conv λi=>by
     unfold Lat.rst;by_cases hi:i<n;·rw [if_pos hi,vj i hi]
     ·rw [if_neg hi,Lat.zc6 ↑0];rfl)
    rw [e,anyz.mpr fr] at h0;cases h0
   ·intro r h0;rw [e] at h0;cases q:(zb9 (Lat.low v ↑67) none (some (n:Int))).any (· !=0) with|true=>rw [q] at h0;cases h0|false=>rw [q] at h0;have h0:(Lat.low v ↑67).drop n=r:=Option.some.inj h0;subst h0;refine ⟨by rw [List.length_drop,a1];omega,rfl,λj hj=> ?_⟩;rw [Lat.zqn T hv vz (anyz.mp q) j hj,vj j hj];omega
theorem zrv {b:BookD} {x r:Ji} {n a:Nat} (h:zsQ b x) (hn:b.many=(n:Int)) (hx:x.length=n) (ha:Lat.Bit a x) (e:zcp b x=some r):r.length=b.swaps.length∧Lat.Bit (a+528723) r:=by
 obtain ⟨n',e1,e2,e3,e4,e5⟩:=zrc h;have hnn:n'=n:=by omega
 subst hnn;obtain ⟨n0,a0,q1,q2,q3,q4,q5,q6,q7⟩:=h;have h0:n0=n':=by omega
 obtain ⟨k1,k2,_⟩:=(zqT (x:=x) hn hx (λr hr=>by rw [(q7 r hr).1,h0])).2 r e;refine ⟨k1,?_⟩;have hv:=zrN (b:=b) hx ha;rw [k2];have lb:=Lat.zgw e2 hv.1 hv.2;rw [show Lat.sB 200 13=40670 from rfl] at lb;have:=Nat.mul_le_mul_right (40670+1) e3;exactλz hz=>(lb.mono ↑0) z (List.mem_of_mem_drop hz)
theorem zwv {r:Int} {ws:Ji} (h:2≤r∧ws.length≤1000):decide (r<(2:Int))=false:=decide_eq_false ↑0
noncomputable def znw (P0:Ji):LineD:=⟨P0⟩
def zbz (P0:Ji):Prop:=True
def zdm (K:W.Frag) (A:Adr):Sp:=zox (ι:=Ji) A.Line (λx=>[dQ K (List.map dI x)]) (λx=>zbz x) true (λx=>[("weights",dL (List.map dI ((znw x).weights)))])
theorem zff:FnScope ["self","weights"] ["self","weights"] (zaf zdK):=⇑5
theorem zfh (F:Fun K "__init__" "Scale.__init__" zdK f fd) (T:Txt K mg A) :FnOk P w K mg base ↑1 1 f fd ["self","weights"] (zdm K A):=by refine F.okI zff ↑5 ↑33;have hu:=hr.units;replace hp:zbz P0:=hp;unfold zbz at hp;refine ⟨_,(zaa (ze8 (pv 0) (zbX (ze5 (K:=K) rfl) rfl T.list PyProof.Rows.boot_list ↑[pv 1]) rfl) zad),λp dx=>⟨([.ob true A.Line p dx [("weights",dL ↥6)],⇑[dQ K ↥6]]:L2.Ctx),?_,rfl⟩⟩;show L2.Run _ ([.ob true A.Line p dx [],⇑[dQ K ↥6]]:L2.Ctx) _ _;exact (zdB (i:=0) rfl (EvO.ev (EvO.anyI (m:=false) (zjm ↑7))) T.Line_cl T.Line_weights [] rfl ⇑6 ↥1 (zao (Wk.refl _)))
noncomputable def zbw (P0:Ji):Ji:=P0
def zbx (P0:Ji):Prop:=True
def zdk (K:W.Frag) (A:Adr):Sp:=zox (ι:=Ji) A.Rest (λx=>[dQ K (List.map dI x)]) (λx=>zbx x) true (λx=>[("weights",dL (List.map dI (zbw x)))])
theorem zfg:FnScope ["self","weights"] ["self","weights"] (zaf zdH):=⇑5
theorem zfe (F:Fun K "__init__" "Scale.__init__" zdH f fd) (T:Txt K mg A) :FnOk P w K mg base ↑1 1 f fd ["self","weights"] (zdk K A):=by refine F.okI zfg ↑5 ↑33;have hu:=hr.units;replace hp:zbx P0:=hp;unfold zbx at hp;refine ⟨_,(zaa (ze8 (pv 0) (zbX (ze5 (K:=K) rfl) rfl T.list PyProof.Rows.boot_list ↑[pv 1]) rfl) zad),λp dx=>⟨([.ob true A.Rest p dx [("weights",dL ↥6)],⇑[dQ K ↥6]]:L2.Ctx),?_,rfl⟩⟩;show L2.Run _ ([.ob true A.Rest p dx [],⇑[dQ K ↥6]]:L2.Ctx) _ _;exact (zdB (i:=0) rfl (EvO.ev (EvO.anyI (m:=false) (zjm ↑7))) T.Rest_cl T.Rest_weights [] rfl ⇑6 ↥1 (zao (Wk.refl _)))
noncomputable def zio (P0:Int) (P1:Ji):RestD:=⟨(zbw (List.map (λ(x169:Int)=>(x169%P0)) P1)),P0⟩
def zcI (P0:Int) (P1:Ji):Prop:=2≤P0∧P1.length≤1000
def zfb (K:W.Frag) (A:Adr):Sp:=zox (ι:=Int×Ji) A.Rest (λx=>[dI x.1,dQ K (List.map dI x.2)]) (λx=>zcI x.1 x.2) true (λx=>[("weights",dL (List.map dI ((zio x.1 x.2).weights))),("rest",dI ((zio x.1 x.2).rest))])
theorem zhc:FnScope ["self","rest","weights"] ["self","rest","weights"] (zaf zc4):=⇑5
theorem zg7 (F:Fun K "__init__" "Rest.__init__" zc4 f fd) (T:Txt K mg A) {yaH:Addr} {yaC:FuncData} (yao:ByCls K A.Scale yaH "__init__") (yap:FnOk P w K mg base ↑1 1 yaH yaC ["self","weights"] (zdk K A)) (ybw:zeW K yaC ["self","weights"] []):FnOk P w K mg base ↑1 2 f fd ["self","rest","weights"] (zfb K A):=by refine F.okI zhc ↑5 ↥8;obtain ⟨P0,P1⟩:=x;have hu:=hr.units;replace hp:zcI P0 P1:=hp;unfold zcI at hp;refine ⟨_,(zaa (za5 (zaq zh7 (pv 1) zah (zay _)) ↥9 zad) (zaa (zb1 (zqs (zdR (v:= .ref A.Scale) rfl T.Scale rfl) yao yap ↑3 ybw zaL ↑[pv 0,(zcT rfl (.of (osc:=(zaf zc4)) (N:=["self","rest","weights"]) (own:=["weight"]) (fvn:=["rest"]) (fv:=[1]) rfl rfl ⇑6) (za3 (K:=K) rfl (pv 2)) (λ_ _ _ _ _=>⟨(zaE (i:=0) (show (["weight","rest"]:List Str).Nodup by decide+kernel) rfl ↥0 (Or.inr rfl)),zce,(zaw zcr (pv 0) (pv 1))⟩))])) (zaa (ze8 (pv 0) (pv 1) rfl) zad))),λp dx=>⟨([.ob true A.Rest p dx [("weights",dL (List.map dI (zbw (List.map (λ(x169:Int)=>(x169%P0)) P1)))),("rest",dI P0)],⇑[dI P0],⇑[dQ K ↥7]]:L2.Ctx),?_,rfl⟩⟩;show L2.Run _ ([.ob true A.Rest p dx [],⇑[dI P0],⇑[dQ K ↥7]]:L2.Ctx) _ _;exact (zav (EvT.conv (zai (zaX (x:=P0) (y:=(2:Int)) ↑13 zax)) ↥(zwv hp)) (zaj (zmO (m2:=false) (i:=0) (x:=(List.map (λ(x169:Int)=>(x169%P0)) P1)) rfl (zac (Ev.weak (K:=K) (EvO.ev (EvO.conv (zdj (g:=(λ(x169:Int)=>dI (x169%P0))) (zbQ (m:=false) dI (xs:=P1) ↑12) ↥(zap (by have z:=hp.2;omega)) ⇑8 (λi170 x169 hx171=>have v171:=List.mem_of_getElem? hx171;(zaN (x:=x169) (y:=P0) ↑16 ↑13 (by show (0:Int)<_;have z:=hp.1;omega)))) ↑30))) zae) rfl (by show zbx (List.map (λ(x169:Int)=>(x169%P0)) P1);exact trivial) (zdB (i:=0) rfl ↑13 T.Rest_cl T.Rest_rest ["weights"] rfl ⇑6 ↥1 (zao (Wk.refl _))))))
def LvP (ss:Jq) (l:Int):Prop:=∃n s:Nat,l=(n:Int)+1∧n≤900∧ss.length≤100∧(∀t∈ss,Lat.Sd (n+1) s t)∧1+(ss.length+1)*(s+9000)≤50000000
theorem zw0 {n:Nat} {l:Int} {ss:Jq} {w:Ji} (p1:l=(n:Int)+1) (e:w=zdM (l-(1:Int)) [(0:Int)]++[(1:Int)]):Lat.lvI (n+1) ss 0 w:=by
 have:w=Lat.lv (n+1) []:=by rw [e,p1];rfl
 rw [this];exact Lat.zvJ
theorem zoE (s x:Ji):Let (zag x) ↑104=Lat.lv1 s x:=by unfold Let;dsimp only;rw [zcv,Lat.zcf,zmz];rfl
theorem zwW {n i:Nat} {ss:Jq} {s x:Ji} (hx:ss.reverse[i]? =some x) (I:Lat.lvI n ss i s):Lat.lvI n ss (i+1) (Let (zag x) ↑104):=by rw [zoE];exact Lat.zwo hx I
theorem zwh {n:Nat} {l:Int} (p1:l=(n:Int)+1) (p2:n≤900):[(0:Int)].length*(l-(1:Int)).toNat≤PySem.sizeLine:=zap (by rw [List.length_singleton];omega)
theorem zwm {n:Nat} {l:Int} (p1:l=(n:Int)+1) (p2:n≤900):(zdM (l-(1:Int)) [(0:Int)]).length+[(1:Int)].length≤PySem.sizeLine:=zap (by rw [p1,show (n:Int)+1-1=(n:Int) by omega,Lat.ze1,List.length_singleton];omega)
theorem zkS {n s i:Nat} {ss:Jq} {w x:Ji} (p2:n≤900) (p4:∀t∈ss,Lat.Sd (n+1) s t) (I:Lat.lvI (n+1) ss i w):w.length=n+1∧Lat.Bit (1+ss.length*(s+9000)) w:=by unfold Lat.lvI at I;obtain ⟨h1,h2⟩:=Lat.znE (ss:=ss.drop (ss.length-i)) (λt ht=>p4 t (List.mem_of_mem_drop ht)) p2;rw [←I] at h1 h2;refine ⟨h1,h2.mono ?_⟩;have:=Nat.mul_le_mul_right (s+9000) (show (ss.drop (ss.length-i)).length≤ss.length by rw [List.length_drop];omega);omega
theorem zpZ {ss:Jq} {x:Ji} {i:Nat} (hx:ss.reverse[i]? =some x):x∈ss:=List.mem_reverse.mp (List.mem_of_getElem? hx)
theorem zwi {n s i:Nat} {ss:Jq} {w x:Ji} (p2:n≤900) (p3:ss.length≤100) (p4:∀t∈ss,Lat.Sd (n+1) s t) (p5:1+(ss.length+1)*(s+9000)≤50000000) (hx:ss.reverse[i]? =some x) (I:Lat.lvI (n+1) ss i w):zee w x:=by obtain ⟨h1,h2⟩:=zkS (x:=x) p2 p4 I;have T:=p4 x (zpZ hx);rw [Nat.succ_mul] at p5;refine ⟨by rw [h1,T.len],by omega,λp hp=> ?_⟩;have hm:=List.of_mem_zip (a:=p.1) (b:=p.2) hp;exact Lat.zew.of (h2 _ hm.1) (T.bit _ hm.2) ↑0 ↑0
theorem zwl {n s i:Nat} {ss:Jq} {w x:Ji} {h:Int} (p2:n≤900) (p3:ss.length≤100) (p4:∀t∈ss,Lat.Sd (n+1) s t) (p5:1+(ss.length+1)*(s+9000)≤50000000) (hx:ss.reverse[i]? =some x) (I:Lat.lvI (n+1) ss i w) (hH:h=(Lat.hd x:Int)):zbE w (ixD x h):=by obtain ⟨h1,h2⟩:=zkS (x:=x) p2 p4 I;have T:=p4 x (zpZ hx);rw [Nat.succ_mul] at p5;subst hH;rw [Lat.zcf];exact ⟨by omega,λy hy=>Lat.zew.of (h2 _ hy) T.top ↑0 ↥1⟩
theorem zvI {n s i:Nat} {ss:Jq} {w x:Ji} {h c:Int} (p2:n≤900) (p4:∀t∈ss,Lat.Sd (n+1) s t) (hx:ss.reverse[i]? =some x) (I:Lat.lvI (n+1) ss i w) (hH:h=(Lat.hd x:Int)) {y:Ji} (e:y=zan w c):InB y.length h:=by obtain ⟨h1,h2⟩:=zkS (x:=x) p2 p4 I;have T:=(p4 x (zpZ hx)).hd;rw [e,show (zan w c).length=w.length from Lat.zaW,h1];unfold InB;omega
noncomputable def za9 (P0:Jq) (P1:Int):Ji :=
 (Let ((zdM (P1-(1:Int)) [(0:Int)])++[(1:Int)]) (λ(v172:Ji)=>(Let (List.foldl ↑141 v172 (List.reverse P0)) (λ(r182:Ji)=>r182))))
def zek (P0:Jq) (P1:Int):Prop:=LvP P0 P1
def zhs (K:W.Frag) (A:Adr):Sp:=Spv (ι:=Jq×Int) (λx=>[dQ K (List.map lI x.1),dI x.2]) (λx=>zek x.1 x.2) (λx=> ↥[dL (List.map dI (za9 x.1 x.2))])
theorem zdp:FnScope ["steps","length","numbers","step","head","weight"] ["steps","length"] (zaf zgy):=⇑5
theorem zk3 (F:Fun K "levelled" "levelled" zgy f fd) (T:Txt K mg A) (yaa:Callee P w K mg base ↑1 1 "head_of" ["row"] (zcW K A)) (yab:Callee P w K mg base ↑1 1 "times" ["some","many"] (zeT K A)) (ybP:Callee P w K mg base ↑1 2 "weighed" ["one","other"] (ziN K A)):FnOk P w K mg base ↑1 3 f fd ["steps","length"] (zhs K A):=by refine F.okV zdp ↑5 ↥8;obtain ⟨P0,P1⟩:=x;have hu:=hr.units;replace hp:zek P0 P1:=hp;unfold zek at hp;obtain ⟨N0,S0,p1,p2,p3,p4,p5⟩:=hp;refine ⟨_,(zaa (zar (i:=2) zdp.nd rfl ↥0 (zaw zeo (zaw zlG (zbc ↑[zah]) (zaw zgr (pv 1) zah)) (zbc ↑[zah]))) (zaa (zdl PassesOwn.never rfl (zqX rfl rfl T.reversed ↑[pv 0]) (zaE (i:=3) zdp.nd rfl ↥0 ↥0) (zaa (zar (i:=4) zdp.nd rfl ↥0 (zaR yaa ↑3 rfl zaL ↑[pv 3])) (zaa (zar (i:=5) zdp.nd rfl ↥0 (zaR ybP ↑3 rfl zaL ↑[pv 2,pv 3])) (zaa (zar (i:=2) zdp.nd rfl ↥0 (zaR yab ↑3 rfl zaL ↑[pv 2,(zbp ⇑9 (pv 3) (pv 4) ⇑7)])) (zaa (zij (zll zhy (pv 5)) (zki (pv 2) (pv 4) zf9)) zad))))) (zaa (zaM (pv 2)) zad))),.inl ?_⟩;show L2.Run _ ([⇑[dQ K ↑28],⇑[dI P1],.no,.no,.no,.no]:L2.Ctx) _ (↑62 (za9 P0 P1));unfold za9;exact (zfF (m:=true) (x:=((zdM (P1-(1:Int)) [(0:Int)])++[(1:Int)])) (λz=>List.map dI z) ↑62 (zc7 (f:=dI) (xs:=(zdM (P1-(1:Int)) [(0:Int)])) (ys:=[(1:Int)]) (EvO.ev (zi9 (f:=dI) (xs:=[(0:Int)]) (n:=(P1-(1:Int))) ↑75 (zaX (x:=P1) (y:=(1:Int)) ↑13 zax) (by constructor<;>omega) ↥(zwh p1 p2))) ↑75 ↥(zwm p1 p2)) (λv172 hv172=>have h0_numbers172:=hv172;(zbS (s0:=v172) ↑95 ↑62 ↑141 (λ(i:Nat) (s173:Ji)=>Lat.lvI (N0+1) P0 i s173) (zrn (m:=false) lI (xs:=P0) ⇑3) (.eq ↑21) ↥(zw0 p1 ⇑0) (λi175 x174 s173 hx176 hI177=>have v176:=List.mem_of_getElem? hx176;⟨↥(zwW ⇑0 ⇑0),(zas (m:=true) (x:=(zag x174)) dI (λz=>Oc.nx (↑95 z)) (Ev.any (m:=true) (zau (x:=x174) (zac (Ev.weak (K:=K) ↑17) zae) rfl (by show za7 x174;exact trivial) rfl)) (λhv178 hhead178=>have hH:=(hhead178).trans (zcv _);(zbV (i:=2) rfl (zas (m:=true) (x:=(zbZ s173 x174)) dI (λz=>Oc.nx (↑95 z)) (Ev.any (m:=true) (zau (x:=(s173,x174)) (zac (Ev.old ↑36) (zac (Ev.weak (K:=K) ↑17) zae)) rfl (by show zee s173 x174;exact zwi p2 p3 p4 p5 ⇑0 ⇑0) rfl)) (λv179 hv179=>(zfF (m:=true) (x:=(zan s173 (ixD x174 hv178))) (λz=>List.map dI z) (λz=>Oc.nx (↑95 z)) (EvO.anyI (m:=true) (zcu (x:=(s173,(ixD x174 hv178))) (zac (Ev.old ↑36) (zac (Ev.any (m:=false) (zbP (f:=dI) (xs:=x174) (Ev.weak (K:=K) ↑17) ↑49 ↥(zmr (p4 _ (zpZ ⇑0)) hH))) zae)) rfl (by show zbE s173 (ixD x174 hv178);exact zwl p2 p3 p4 p5 ⇑0 ⇑0 hH) rfl)) (λv180 hv180=>have h0_numbers180:=hv180;(zgQ (f:=dI) (xs:=v180) (x:=(-v179)) (j:=hv178) (λz=>Oc.nx (↑95 z)) rfl (zkz (x:=v179) ↑31) ↑49 ↥(zvI p2 p4 ⇑0 ⇑0 hH ⇑0) (λv181 hv181=>(zao (.eq (.eq (.eq (.no (.no (.no .nil))))))))))))))))⟩) (λr182 hr182 hI=>(zbV (i:=2) rfl (zak (zaD ↑12)))))))
theorem zkP (ss:Jq) (n:Nat):za9 ss ((n:Int)+1)=Lat.lv (n+1) ss:=by show List.foldl (λ(s:Ji) (x:Ji)=>Let (zag x) ↑104) (zdM ((n:Int)+1-(1:Int)) [(0:Int)]++[(1:Int)]) (List.reverse ss)=_;have e:(λ(s:Ji) (x:Ji)=>Let (zag x) ↑104)=Lat.lv1:=funext λs=>funext λx=>zoE s x;rw [e];exact Lat.znF (n+1) ss
theorem zu9 {g s:Int} {p:Int×Int} (I:Lat.GdI g s p) (h:(!decide (p.2=(0:Int)))=true):0<p.2:=by have:=I.b;simp only [Bool.not_eq_true',decide_eq_false_iff_not] at h;omega
theorem zo1 {g s:Int} {p:Int×Int} (I:Lat.GdI g s p) (h:(!decide (p.2=(0:Int)))=true):Lat.GdI g s (Let (p.1%p.2) (λ(l:Int)=>Let p.2 (λ(g:Int)=>(g,l))))∧((Let (p.1%p.2) (λ(l:Int)=>Let p.2 (λ(g:Int)=>(g,l)))).2).toNat<(p.2).toNat:=by simp only [Bool.not_eq_true',decide_eq_false_iff_not] at h;exact I.step h
theorem zvU {l:Ji} {i:Nat} {g s x:Int} (I:Lat.DvI l i g) (hA:s=((x.natAbs:Nat):Int)):Lat.GdI g s (g,s):=Lat.GdI.start I.1 ↑0
theorem zpt {l:Ji} {i:Nat} {g x:Int} (hx:l[i]?=some x) (I:Lat.DvI l i g):Lat.DvI l (i+1) (Let ((x.natAbs:Nat):Int) (λ(small:Int)=>Let (whl (λ(s:Int×Int)=>(!decide (s.2=(0:Int)))) (λ(s:Int×Int)=>Let (s.1%s.2) (λ(l:Int)=>Let s.2 (λ(g:Int)=>(g,l)))) ((small).toNat) (g,small)) (λ(r:Int×Int)=>r.1))):=by obtain ⟨h1,h2⟩:=zjI (c:=λ(s:Int×Int)=>(!decide (s.2=(0:Int)))) (f:=λ(s:Int×Int)=>Let (s.1%s.2) (λ(l:Int)=>Let s.2 (λ(g:Int)=>(g,l)))) (I:=Lat.GdI g ((x.natAbs:Nat):Int)) (μ:=λs=>s.2.toNat) (λs hs hc=>zo1 hs hc) (n:=(((x.natAbs:Nat):Int)).toNat) (s:=(g,((x.natAbs:Nat):Int))) (Lat.GdI.start I.1 ↑0) ↑8;simp only [Bool.not_eq_false',decide_eq_true_eq] at h2;exact I.step hx (h1.done h2)
noncomputable def zbg (P0:Ji):Int :=
 (Let (List.foldl ↑138 (0:Int) P0) (λ(r195:Int)=>r195))
def zeV (P0:Ji):Prop:=True
def ziv (K:W.Frag) (A:Adr):Sp:=Spv (ι:=Ji) (λx=>[dQ K (List.map dI x)]) (λx=>zeV x) (λx=> ↥[dI (zbg x)])
theorem zdv:FnScope ["numbers","great","number","small","left"] ["numbers"] (zaf zh3):=⇑5
theorem zmF (F:Fun K "divisor" "divisor" zh3 f fd) (T:Txt K mg A) :FnOk P w K mg base ↑1 1 f fd ["numbers"] (ziv K A):=by refine F.okV zdv ↑5 ↑33;have hu:=hr.units;replace hp:zeV P0:=hp;unfold zeV at hp;refine ⟨_,(zaa (zar (i:=1) zdv.nd rfl ↥0 zah) (zaa (zdl PassesOwn.never rfl (za3 (K:=K) rfl (pv 0)) (zaE (i:=2) zdv.nd rfl ↥0 ↥0) (zaa (zar (i:=3) zdv.nd rfl ↥0 (zaA zhm rfl T.abs ⇑6 ↑[pv 2])) (zaa (zmn PassesOwn.never (zaq zgf (pv 3) zah (zay _)) (zaa (zar (i:=4) zdv.nd rfl ↥0 (zaw zcr (pv 1) (pv 3))) (zaa (zar (i:=1) zdv.nd rfl ↥0 (pv 3)) (zaa (zar (i:=3) zdv.nd rfl ↥0 (pv 4)) zad)))) zad))) (zaa (zaM (pv 1)) zad))),.inl ?_⟩;show L2.Run _ ([⇑[dQ K ↥6],.no,.no,.no,.no]:L2.Ctx) _ (↑82 (zbg P0));unfold zbg;exact (zbG (m:=true) zax (zbS (s0:=(0:Int)) (λ(s183:Int)=>([⇑[dQ K ↥6],↥[dI s183],.no,.no,.no]:L2.Ctx)) ↑82 ↑138 (λ(i:Nat) (s183:Int)=>Lat.DvI P0 i s183) (zbQ (m:=false) dI (xs:=P0) ⇑3) ↑21 ↥(Lat.DvI.start) (λi185 x184 s183 hx186 hI187=>have v186:=List.mem_of_getElem? hx186;⟨↥(zpt ⇑0 ⇑0),(zas (m:=true) (x:=((x184.natAbs:Nat):Int)) dI (λz=>Oc.nx ((λ(s183:Int)=>([⇑[dQ K ↥6],↥[dI s183],.no,.no,.no]:L2.Ctx)) z)) (zly (Ev.any (m:=false) ↑12)) (λv188 hv188=>have hA:=hv188;(zjL (s0:=(s183,v188)) ↑131 (λz=>Oc.nx ((λ(s183:Int)=>([⇑[dQ K ↥6],↥[dI s183],.no,.no,.no]:L2.Ctx)) z)) (λ(s189:Int×Int)=>(!decide (s189.2=(0:Int)))) (λ(s189:Int×Int)=>(Let (s189.1%s189.2) (λ(v192:Int)=>(Let s189.2 (λ(v193:Int)=>(v193,v192)))))) (λ(s189:Int×Int)=>Lat.GdI (s183) (v188) s189) (λ(s189:Int×Int)=>(s189.2).toNat) ((v188).toNat) ↑21 ↥(zvU ⇑0 hA) ↥(Nat.le_refl _) (λs189 hI190=>⟨(zai (zg2 (x:=s189.2) (y:=(0:Int)) ↑22 zax)),λhc191=>⟨↥(zo1 ⇑0 ⇑0),(zas (m:=true) (x:=(s189.1%s189.2)) dI (λz=>Oc.nx (↑131 z)) (zaN (x:=s189.1) (y:=s189.2) (Ev.any (m:=true) ↑7) ↑22 (by show (0:Int)<_;exact zu9 ⇑0 ⇑0)) (λv192 hv192=>(zas (m:=true) (x:=s189.2) dI (λz=>Oc.nx (↑131 z)) ↑22 (λv193 hv193=>(zbG (m:=true) ↑49 (zao (.eq (.eq (.eq (.eq (.no .nil)))))))))))⟩⟩) (λr194 hr194 hI hc=>(zao (.eq (.eq (.no (.no (.eq .nil))))))))))⟩) (λr195 hr195 hI=>(zak (zaD (Ev.any (m:=true) ↑7))))))
theorem zgW (l:Ji):∀k,k≤l.length->Lat.DvI l k (List.foldl (λ(s:Int) (x:Int)=>Let ((x.natAbs:Nat):Int) (λ(small:Int)=>Let (whl (λ(s:Int×Int)=>(!decide (s.2=(0:Int)))) (λ(s:Int×Int)=>Let (s.1%s.2) (λ(l:Int)=>Let s.2 (λ(g:Int)=>(g,l)))) ((small).toNat) (s,small)) (λ(r:Int×Int)=>r.1))) (0:Int) (l.take k))
 | 0,_=>Lat.DvI.start
 | k+1,h=>by have hk:l[k]? =some l[k]:=List.getElem?_eq_getElem h;rw [List.take_succ_eq_append_getElem h,List.foldl_append];exact zpt hk (zgW l k ↑0)
theorem zgF (l:Ji):0≤zbg l∧(∀x∈l,zbg l∣x)∧((∃x∈l,x≠0)->0<zbg l):=by have:=zgW l l.length ↑8;unfold Lat.DvI at this;rw [List.take_length] at this;exact this
def zsV (l:Ji):Prop:=l.length≤1000∧0<zbg l∧(zbg l).natAbs≤2 ^ 8990
theorem zsR {l:Ji} {g x:Int} (h:zsV l) (e:g=zbg l):zgC x g:=by subst e;exact Lat.zgC.of h.2.1 h.2.2 ↥1
theorem ziz {g:Int}:∀ {l:Ji},(∀x∈l,g∣x)->∀u:Lat.Vc,Lat.dv (List.map (λ(x:Int)=>x/g) l) u*g=Lat.dv l u∧g∣Lat.dv l u
 | [],_,u=>⟨by show (0:Int)*g=0;omega,Int.dvd_zero _⟩
 | a :: l,h,u=>by obtain ⟨h1,h2⟩:=ziz (l:=l) (λx hx=>h x (List.mem_cons_of_mem _ hx)) λi=>u (i+1);have h3:=h a List.mem_cons_self;refine ⟨?_,Int.dvd_add (Int.dvd_trans h3 (Int.dvd_mul_right _ _)) h2⟩;show (a/g*u 0+Lat.dv (List.map (λ(x:Int)=>x/g) l) λi=>u (i+1))*g=a*u 0+Lat.dv l λi=>u (i+1);rw [Int.add_mul,h1,Int.mul_right_comm,Int.ediv_mul_cancel h3]
noncomputable def zaQ (P0:Ji):Ji :=
 (Let (zbg P0) (λ(v196:Int)=>(List.map (λ(x197:Int)=>(x197/v196)) P0)))
def zdg (P0:Ji):Prop:=zsV P0
def zgZ (K:W.Frag) (A:Adr):Sp:=Spv (ι:=Ji) (λx=>[dQ K (List.map dI x)]) (λx=>zdg x) (λx=> ↥[dL (List.map dI (zaQ x))])
theorem zgY:FnScope ["numbers","shared"] ["numbers"] (zaf zeR):=⇑5
theorem zka (F:Fun K "shortened" "shortened" zeR f fd) (T:Txt K mg A) (ybQ:Callee P w K mg base ↑1 1 "divisor" ["numbers"] (ziv K A)):FnOk P w K mg base ↑1 2 f fd ["numbers"] (zgZ K A):=by refine F.okV zgY ↑5 ↑33;have hu:=hr.units;replace hp:zdg P0:=hp;unfold zdg at hp;refine ⟨_,(zaa (zar (i:=1) zgY.nd rfl (Or.inr rfl) (zaR ybQ ↑3 rfl zaL ↑[pv 0])) (zaa (zaM (zcT rfl (.of (osc:=(zaf zeR)) (N:=["numbers","shared"]) (own:=["number"]) (fvn:=["shared"]) (fv:=[1]) rfl rfl ⇑6) (za3 (K:=K) rfl (pv 0)) (λ_ _ _ _ _=>⟨(zaE (i:=0) (show (["number","shared"]:List Str).Nodup by decide+kernel) rfl ↥0 (Or.inr rfl)),zce,(zaw zbf (pv 0) (pv 1))⟩))) zad)),.inl ?_⟩;show L2.Run _ ([⇑[dQ K ↥6],.no]:L2.Ctx) _ (↑62 (zaQ P0));unfold zaQ;exact (zas (m:=true) (x:=(zbg P0)) dI ↑62 (Ev.any (m:=true) (zau (x:=P0) (zac ⇑3 zae) rfl (by show zeV P0;exact trivial) rfl)) (λv196 hv196=>have hS:=hv196;(zak (zaD (EvO.ev (EvO.conv (zdj (g:=(λ(x197:Int)=>dI (x197/v196))) (zbQ (m:=false) dI (xs:=P0) ⇑3) ↥(zap (by have z:=hp.1;omega)) ⇑8 (λi198 x197 hx199=>have v199:=List.mem_of_getElem? hx199;(zaN (x:=x197) (y:=v196) ↑16 (Ev.any (m:=true) ↑7) ↥(zsR hp hS)))) ↑30))))))
theorem zgn (l:Ji):zaQ l=List.map (λ(x:Int)=>x/zbg l) l:=rfl
def SnP (b:BookD) (x:Ji):Prop:=∃n R bt:Nat,b.many=(n:Int)∧1≤n∧n≤8∧x.length=n∧(∀r∈b.swaps,r.length=n∧Lat.Bit bt r)∧Lat.Bit bt x∧b.swaps.length+1≤R∧R≤13∧bt≤400∧Lat.eB bt R*(n+1)≤8990
theorem ztV {n R bt:Nat} (h1:1≤n) (h2:n≤8) (h3:R≤13) (h4:bt≤400) (h5:Lat.eB bt R*(n+1)≤8990):Lat.Fit (n+1) bt R∧Lat.sB bt R≤63028∧Lat.eB bt R≤4495:=by
 have e1:Lat.eB bt R*2≤Lat.eB bt R*(n+1):=Nat.mul_le_mul_left _ ↑0;have e2:Lat.sB bt R≤4502*14:=Nat.mul_le_mul ↑0 ↑0;refine ⟨⟨by omega,by omega,by omega,?_⟩,by omega,by omega⟩;have e3:min (n+1) R≤9:=by omega
 generalize Lat.sB bt R=s at*;generalize min (n+1) R=k at*;have e4:(k+2)*((k+1)*(s+9000))≤11*(10*(63028+9000)):=Nat.mul_le_mul ↑0 (Nat.mul_le_mul ↑0 ↑0);have e5:(k+1)*(s+1)≤10*63029:=Nat.mul_le_mul ↑0 ↑0;omega
noncomputable def snR (b:BookD) (x:Ji):Jq:=Lat.clm Lat.MG ↑40
noncomputable def snS (n:Nat) (b:BookD) (x:Ji):Jq:=List.filter (λ(t:Ji)=>decide (Lat.hd t<n)) (snR b x)
theorem SnP.all {b:BookD} {x:Ji} (h:SnP b x):∃n s E:Nat,b.many=(n:Int)∧1≤n∧n≤8∧x.length=n∧b.swaps.length≤12∧Lat.Shw n b.swaps x (snR b x) (snS n b x)∧(∀t∈snR b x,Lat.Sd (n+1) s t)∧(∀t∈snR b x,(Lat.vec t (Lat.hd t)).natAbs≤2 ^ E)∧E*(n+1)≤8990∧s≤63028∧(snR b x).length≤n+1:=by
 obtain ⟨n,R,bt,h1,h2,h3,h4,h5,h6,h7,h8,h9,h10⟩:=h;obtain ⟨F,f2,f3⟩:=ztV h2 h3 h8 h9 h10;have hl:=Lat.zo6 (λr hr=>(h5 r hr).1) h4;have hb:=Lat.znt (λr hr=>(h5 r hr).2) h6;have hR:(↑40).length≤R:=by unfold Lat.zgh;rw [List.length_append,List.length_map];exact h7
 obtain ⟨S,s2,s3⟩:=Lat.zkn F hR λr hr=>⟨hl r hr,hb r hr⟩;exact ⟨n,Lat.sB bt R,Lat.eB bt R,h1,h2,h3,h4,by omega,⟨S,rfl,λr hr=>(h5 r hr).1,h4⟩,s3,λt ht=>(S.bits ↑0 hR hb t ht).1,h10,f2,by unfold snR;omega⟩
theorem zlK {b:BookD} {x:Ji} (h:SnP b x):b.swaps.length≤PySem.sizeLine∧(∀s∈b.swaps,s.length+[(0:Int)].length≤PySem.sizeLine)∧x.length+[↥3].length≤PySem.sizeLine∧(List.map (λ(r:Ji)=>r++[(0:Int)]) b.swaps).length+[x++[↥3]].length≤PySem.sizeLine:=by obtain ⟨n,R,bt,h1,h2,h3,h4,h5,h6,h7,h8,h9,h10⟩:=h;refine ⟨zap ↑0,λs hs=>zap (by rw [(h5 s hs).1,List.length_singleton];omega),zap (by rw [List.length_singleton];omega),zap (by rw [List.length_map,List.length_singleton];omega)⟩
theorem ztv {b:BookD} {x:Ji} (h:SnP b x):Lat.zvR ↑40:=by obtain ⟨n,R,bt,h1,h2,h3,h4,h5,h6,h7,h8,h9,h10⟩:=h;exact ⟨n+1,bt,R,(ztV h2 h3 h8 h9 h10).1,by unfold Lat.zgh;rw [List.length_append,List.length_map];exact h7,λr hr=>⟨Lat.zo6 (λr hr=>(h5 r hr).1) h4 r hr,Lat.znt (λr hr=>(h5 r hr).2) h6 r hr⟩⟩
section
variable {b:BookD} {x w short:Ji} {rows ss:Jq} {num:Ji} {c:Int}
theorem znf (hR:rows=zaV ↑40):rows=snR b x:=hR.trans (zgV _)
theorem zsk {n:Nat} (hn:b.many=(n:Int)) (hR:rows=snR b x) (hS:ss=List.map (λ(t:Ji)=>t) ↑60):ss=snS n b x:=by rw [hS,List.map_id',hR,hn];unfold snS;congr 1;funext t;rw [zcv];simp
theorem zwa (h:SnP b x) (hR:rows=zaV ↑40):rows.length≤PySem.sizeLine:=by obtain ⟨n,s,E,h1,h2,h3,h4,h5,h6,h7,h8,h9,h10,h11⟩:=h.all;rw [znf hR];exact zap ↑0
theorem zvt (h:SnP b x) (hR:rows=zaV ↑40) (hS:ss=List.map (λ(t:Ji)=>t) ↑60):LvP ss (b.many+(1:Int)):=by obtain ⟨n,s,E,h1,h2,h3,h4,h5,h6,h7,h8,h9,h10,h11⟩:=h.all;have hl:(snS n b x).length≤n+1:=Nat.le_trans (List.length_filter_le _ _) h11;rw [zsk h1 (znf hR) hS];have:=Nat.mul_le_mul (show (snS n b x).length+1≤10 by omega) (show s+9000≤72028 by omega);exact ⟨n,s,by omega,by omega,by omega,λt ht=>h7 t (h6.low t ht).1,by omega⟩
theorem ztT {n:Nat} (hn:b.many=(n:Int)) (hS:ss=snS n b x) (hN:num=za9 ss (b.many+(1:Int))):num=Lat.lv (n+1) (snS n b x):=by rw [hN,hS,hn,zkP]
theorem zvf {n:Nat} (hn:b.many=(n:Int)) (hN:num=Lat.lv (n+1) (snS n b x)) (hW:w=zb9 num none (some b.many)):w=(↑68).take n:=by rw [hW,hN,hn,zi7]
theorem zo2:∀ {l:Ji} {u:Lat.Vc},(∀y∈l,y=0)->Lat.dv l u=0
 | [],_,_=>rfl
 | a :: l,u,h=>by show a*u 0+Lat.dv l _=0;rw [h a List.mem_cons_self,zo2 λy hy=>h y (List.mem_cons_of_mem _ hy)];omega
theorem zlj {n E:Nat} {R:Jq} (h8:∀t∈R,(Lat.vec t (Lat.hd t)).natAbs≤2 ^ E) (h9:E*(n+1)≤8990) (h11:R.length≤n+1):(Lat.prh R).natAbs≤2 ^ 8990 :=
 Nat.le_trans (Lat.zqU h8) (Nat.pow_le_pow_right ↥1 (Nat.le_trans (Nat.mul_le_mul_left _ h11) h9))
theorem zpn {g P:Int} (hP:0<P) (h:g ∣ P) (hb:P.natAbs≤2 ^ 8990):g.natAbs≤2 ^ 8990:=Nat.le_trans (Nat.le_of_dvd (Int.natAbs_pos.mpr ↑0) (Int.natAbs_dvd_natAbs.mpr h)) hb
theorem zuA {n:Nat} (S:Lat.Shw n b.swaps x (snR b x) (snS n b x)) (q:(snS n b x).length=(snR b x).length):snR b x=snS n b x:=by
 rcases Lat.zk6 S.st.ech with z|⟨t,h1,h2⟩
 ·exact z
 ·have:(snR b x).length=(snS n b x).length+1:=by
   conv=>lhs;rw [h2]
   rw [List.length_append];rfl
  omega
theorem zsq {n:Nat} (S:Lat.Shw n b.swaps x (snR b x) (snS n b x)) (q:¬(snS n b x).length=(snR b x).length):∃t,Lat.hd t=n∧snR b x=snS n b x++[t]:=by
 rcases Lat.zk6 S.st.ech with z|z
 ·exact absurd (congrArg List.length z).symm q
 ·exact z
theorem zkK {α:Type} [Inhabited α] {xs:List α} {t:α}:ixD (xs++[t]) ↥3=t:=by
 unfold ixD atI ixN;rw [if_neg ↥1,if_pos (by rw [List.length_append,List.length_singleton];omega)];have:(↥3+(((xs++[t]).length:Nat):Int)).toNat=xs.length:=by rw [List.length_append,List.length_singleton];omega
 first|(show ((xs++[t])[_]?).getD _=t;rw [this];simp)|(simp [this])
theorem zn5 {n E:Nat} (S:Lat.Shw n b.swaps x (snR b x) (snS n b x)) (h8:∀t∈snR b x,(Lat.vec t (Lat.hd t)).natAbs≤2 ^ E) (h9:E*(n+1)≤8990) (h11:(snR b x).length≤n+1) (h3:n≤8) (q:(snS n b x).length=(snR b x).length):zsV ((↑68).take n):=by have e:=zuA S q;obtain ⟨l1,l2,l3⟩:=S.line e;obtain ⟨v1,v2,v3,v4⟩:=S.lv;obtain ⟨d1,d2,d3⟩:=zgF ((↑68).take n);have hx:=(ziz d2 (Lat.vec x)).2;rw [l2] at hx;refine ⟨by rw [List.length_take];omega,d3 (Classical.byContradiction λz=> ?_),zpn v4 hx (by rw [←e];exact zlj h8 h9 h11)⟩;have:=zo2 (u:=Lat.vec x) λy hy=>Classical.byContradiction λw=>z ⟨y,hy,w⟩;omega
theorem zrZ (h:SnP b x) (hR:rows=zaV ↑40) (hS:ss=List.map (λ(t:Ji)=>t) ↑60) (hN:num=za9 ss (b.many+(1:Int))) (hW:w=zb9 num none (some b.many)) (q:decide ↑84=true):zsV w:=by obtain ⟨n,s,E,h1,h2,h3,h4,h5,h6,h7,h8,h9,h10,h11⟩:=h.all;have eS:=zsk h1 (znf hR) hS;rw [eS,znf hR] at q;rw [zvf h1 (ztT h1 eS hN) hW];exact zn5 h6 h8 h9 h11 h3 (by have:=of_decide_eq_true q;omega)
theorem ztF (h:SnP b x) (hR:rows=zaV ↑40) (hS:ss=List.map (λ(t:Ji)=>t) ↑60) (q:decide ↑84=false):InB rows.length ↥3∧InB (ixD rows ↥3).length b.many:=by
 obtain ⟨n,s,E,h1,h2,h3,h4,h5,h6,h7,h8,h9,h10,h11⟩:=h.all;have eS:=zsk h1 (znf hR) hS;rw [eS,znf hR] at q;obtain ⟨t,t1,t2⟩:=zsq h6 (by have:=of_decide_eq_false q;omega);have ht:t∈snR b x:=by rw [t2];exact List.mem_append_right _ (List.mem_singleton.mpr rfl)
 rw [znf hR,t2,zkK,(h7 t ht).len,h1,List.length_append];unfold InB;simp only [List.length_singleton];omega
theorem zvw (h:SnP b x) (hR:rows=zaV ↑40) (hS:ss=List.map (λ(t:Ji)=>t) ↑60) (hN:num=za9 ss (b.many+(1:Int))):InB num.length b.many:=by obtain ⟨n,s,E,h1,h2,h3,h4,h5,h6,h7,h8,h9,h10,h11⟩:=h.all;rw [ztT h1 (zsk h1 (znf hR) hS) hN,h6.lv.1,h1];unfold InB;omega
theorem zrh (h:SnP b x) (hR:rows=zaV ↑40) (hS:ss=List.map (λ(t:Ji)=>t) ↑60) (hN:num=za9 ss (b.many+(1:Int))) (q:decide ↑84=false) (hM:c=ixD (ixD rows ↥3) b.many):∃(n:Nat) (t:Ji),b.many=(n:Int)∧n≤8∧Lat.hd t=n∧snR b x=snS n b x++[t]∧Lat.Shw n b.swaps x (snR b x) (snS n b x)∧c=Lat.vec t n∧ixD num b.many=Lat.prh (snS n b x)∧0<Lat.prh (snS n b x)∧num=Lat.lv (n+1) (snS n b x)∧(Lat.prh (snS n b x)*c).natAbs≤2 ^ 8990∧c.natAbs≤2 ^ 8980∧0<c:=by
 obtain ⟨n,s,E,h1,h2,h3,h4,h5,h6,h7,h8,h9,h10,h11⟩:=h.all;have eS:=zsk h1 (znf hR) hS;have eN:=ztT h1 eS hN;rw [eS,znf hR] at q;obtain ⟨t,t1,t2⟩:=zsq h6 (by have:=of_decide_eq_false q;omega);have ht:t∈snR b x:=by rw [t2];exact List.mem_append_right _ (List.mem_singleton.mpr rfl)
 rw [znf hR,t2,zkK,h1,Lat.zcf] at hM;have hb:=zlj h8 h9 h11;rw [t2,Lat.zlu,t1,←hM] at hb;obtain ⟨v1,v2,v3,v4⟩:=h6.lv;have T:=h7 t ht;have T1:=T.top;have T2:=T.pos;rw [t1,←hM] at T1 T2;exact ⟨n,t,h1,h3,t1,t2,h6,hM,by rw [eN,h1,Lat.zcf,v3],v4,eN,hb,T1,T2⟩
theorem zti (h:SnP b x) (hR:rows=zaV ↑40) (hS:ss=List.map (λ(t:Ji)=>t) ↑60) (hN:num=za9 ss (b.many+(1:Int))) (q:decide ↑84=false) (hM:c=ixD (ixD rows ↥3) b.many):zew (ixD num b.many) c:=by obtain ⟨n,t,t1,t2,t3,t4,t5,t6,t7,t8,t9,t10,t11,t12⟩:=zrh h hR hS hN q hM;rw [t7];refine Lat.zew.of (a:=8990) (Nat.le_trans ?_ t10) t11 ↥1 ↥1;rw [Int.natAbs_mul];exact Nat.le_mul_of_pos_right _ (Int.natAbs_pos.mpr ↑0)
theorem zvo {y:Int} (h:SnP b x) (hR:rows=zaV ↑40) (hS:ss=List.map (λ(t:Ji)=>t) ↑60) (hN:num=za9 ss (b.many+(1:Int))) (hW:w=zb9 num none (some b.many)):[y].length+w.length≤PySem.sizeLine:=by obtain ⟨n,s,E,h1,h2,h3,h4,h5,h6,h7,h8,h9,h10,h11⟩:=h.all;rw [zvf h1 (ztT h1 (zsk h1 (znf hR) hS) hN) hW];exact zap (by rw [List.length_take,List.length_singleton];omega)
structure RsO (n:Nat) (sw:Jq) (x:Ji) (c:Int) (l:Ji) (r:Int) (v:Ji):Prop where
 sho:zsV l
 er:ixD (zaQ l) (0:Int)=r
 ev:zb9 (zaQ l) ↑20 none=v
 len:v.length=n
 two:c≠1->2≤r
 d:c ∣ r
 lev:∀ s∈sw,r ∣ Lat.dv v (Lat.vec s)
 xx:r ∣ Lat.dv v (Lat.vec x)-r/c
 q:0<r/c∧(c≠1->r/c<r)
 top:r.natAbs≤2^8990
theorem zu4 {n:Nat} {sw R ss:Jq} {x t:Ji} (S:Lat.Shw n sw x R ss) (ht:Lat.hd t=n) (e:R=ss++[t]) (hb:(Lat.prh ss*Lat.vec t n).natAbs≤2 ^ 8990) (hn:n≤8):∃r v,RsO n sw x (Lat.vec t n) ([Lat.prh ss*Lat.vec t n]++(Lat.lv (n+1) ss).take n) r v:=by
 obtain ⟨r1,r2,r3,r4,r5⟩:=S.rest ht e;obtain ⟨v1,v2,v3,v4⟩:=S.lv;generalize hc:Lat.vec t n=c at*;generalize hP:Lat.prh ss=P at*;have hw:(↑53).length=n:=by rw [List.length_take];omega
 generalize (Lat.lv (n+1) ss).take n=W at*;obtain ⟨d1,d2,d3⟩:=zgF ([P*c]++W);have hM:0<P*c:=Int.mul_pos v4 r1;have g0:=d3 ⟨P*c,List.mem_append_left _ (List.mem_singleton.mpr rfl),by omega⟩;have gM:=d2 (P*c) (List.mem_append_left _ (List.mem_singleton.mpr rfl));have hs:zaQ ([P*c]++W)=(P*c/zbg ([P*c]++W))::List.map (λ(y:Int)=>y/zbg ([P*c]++W)) W:=rfl;have hsho:zsV ([P*c]++W):=⟨by rw [List.length_append,hw,List.length_singleton];omega,g0,zpn hM gM hb⟩;have gW:∀y∈W,zbg ([P*c]++W)∣y:=λy hy=>d2 y (List.mem_append_right _ hy);generalize zbg ([P*c]++W)=g at*;have gP:g∣P:=by have a1:=(ziz gW (Lat.vec x)).2;have a2:=Int.dvd_trans gM r3;have:=Int.dvd_sub a1 a2;rwa [show Lat.dv W (Lat.vec x)-(Lat.dv W (Lat.vec x)-P)=P by omega] at this
 obtain ⟨P',hP'⟩:=gP;have p0:0<P':=by refine Classical.byContradiction λz=> ?_;have:=Int.mul_nonpos_of_nonneg_of_nonpos (show 0≤g by omega) (show P'≤0 by omega);omega
 have er:P*c/g=P'*c:=by rw [hP',Int.mul_assoc];exact Int.mul_ediv_cancel_left _ ↑0
 have ec:P'*c/c=P':=Int.mul_ediv_cancel _ ↑0;have key:∀(u:Lat.Vc) (a:Int),P*c∣Lat.dv W u-g*a->P'*c∣Lat.dv (List.map (λ(y:Int)=>y/g) W) u-a:=λu a ⟨k,hk⟩=>by refine ⟨k,?_⟩;have h1:=(ziz gW u).1;refine Int.eq_of_mul_eq_mul_left (show g≠0 by omega) ?_;rw [Int.mul_sub,Int.mul_comm g,h1,hk,hP'];simp only [Int.mul_assoc]
 refine ⟨P'*c,List.map (λ(y:Int)=>y/g) W,hsho,by rw [hs,er];exact zpa (n:=0) rfl,?_,by rw [List.length_map,hw],λh1=> ?_,Int.dvd_mul_left _ _,λs hs'=> ?_,?_,?_,zpn hM ⟨g,by rw [hP',Int.mul_comm g,Int.mul_right_comm]⟩ hb⟩;·rw [hs,show ↑20=some ((1:Nat):Int) from rfl,Lat.zeS];rfl
 ·have:=Int.mul_le_mul_of_nonneg_right (show (1:Int)≤P' by omega) (show 0≤c by omega);omega
 ·have:=key (Lat.vec s) 0 (by rw [Int.mul_zero,Int.sub_zero];exact r2 s hs');rwa [Int.sub_zero] at this
 ·rw [ec];exact key (Lat.vec x) P' (by rw [←hP'];exact r3)
 ·rw [ec];refine ⟨p0,λh1=> ?_⟩;have:=Int.mul_le_mul_of_nonneg_left (show (2:Int)≤c by omega) (show 0≤P' by omega);omega
theorem zro (h:SnP b x) (hR:rows=zaV ↑40) (hS:ss=List.map (λ(t:Ji)=>t) ↑60) (hN:num=za9 ss (b.many+(1:Int))) (hW:w=zb9 num none (some b.many)) (q:decide ↑84=false) (hM:c=ixD (ixD rows ↥3) b.many):∃n r v,n≤8∧RsO n b.swaps x c ([ixD num b.many*c]++w) r v:=by obtain ⟨n,t,t1,t2,t3,t4,t5,t6,t7,t8,t9,t10,t11,t12⟩:=zrh h hR hS hN q hM;rw [t7,zvf t1 t9 hW,t6];rw [t6] at t10;obtain ⟨r,v,z⟩:=zu4 t5 t3 t4 t10 t2;exact ⟨n,r,v,t2,z⟩
theorem zsa (h:SnP b x) (hR:rows=zaV ↑40) (hS:ss=List.map (λ(t:Ji)=>t) ↑60) (hN:num=za9 ss (b.many+(1:Int))) (hW:w=zb9 num none (some b.many)) (q:decide ↑84=false) (hM:c=ixD (ixD rows ↥3) b.many):zsV ([ixD num b.many*c]++w):=by obtain ⟨n,r,v,_,z⟩:=zro h hR hS hN hW q hM;exact z.sho
theorem zv2 {y:Int} (e:short=zaQ ([y]++w)):InB short.length (0:Int):=by rw [e,zgn,List.length_map,List.length_append,List.length_singleton];unfold InB;omega
theorem zr3 (h:SnP b x) (hR:rows=zaV ↑40) (hS:ss=List.map (λ(t:Ji)=>t) ↑60) (hN:num=za9 ss (b.many+(1:Int))) (hW:w=zb9 num none (some b.many)) (q:decide ↑84=false) (hM:c=ixD (ixD rows ↥3) b.many) (q1:decide (c=(1:Int))=false) (hQ:short=zaQ ([ixD num b.many*c]++w)):2≤ixD short (0:Int)∧(zb9 short ↑20 none).length≤1000:=by obtain ⟨n,r,v,hn,z⟩:=zro h hR hS hN hW q hM;rw [hQ,z.er,z.ev,z.len];exact ⟨z.two (of_decide_eq_false q1),by omega⟩
end
noncomputable def m_shown (P0:BookD) (P1:Ji):(Int×(Option (LineD⊕RestD))) :=
 (Let (zaV ↑113) (λ(v203:Jq)=>(Let (List.map (λ(x204:Ji)=>x204) (List.filter (λ(x204:Ji)=>(decide ((zag x204)<P0.many))) v203)) (λ(v207:Jq)=>(Let (za9 v207 (P0.many+(1:Int))) (λ(v208:Ji)=>(Let (zb9 v208 none (some P0.many)) (λ(v209:Ji)=>(bif (decide (((v207.length:Nat):Int)=((v203.length:Nat):Int))) then ((0:Int),(some (Sum.inl (znw (zaQ v209))))) else (Let (ixD (ixD v203 ↥3) P0.many) (λ(v211:Int)=>(bif (decide (v211=(1:Int))) then ((1:Int),none) else (Let (zaQ ([((ixD v208 P0.many)*v211)]++v209)) (λ(v213:Ji)=>(v211,(some (Sum.inr (zio (ixD v213 (0:Int)) (zb9 v213 ↑20 none)))))))))))))))))))
def zgl (P0:BookD) (P1:Ji):Prop:=SnP P0 P1
def zmp (K:W.Frag) (A:Adr):Sp:=Spv (ι:=BookD×Ji) (λx=>[zci A.Book x.1,dL (List.map dI x.2)]) (λx=>zgl x.1 x.2) (λx=> ↥[dT [dI ((m_shown x.1 x.2).1),dOpt (dSc A) ((m_shown x.1 x.2).2)]])
theorem zeP:FnScope ["book","basket","rows","steps","numbers","weights","many","short"] ["book","basket"] (zaf zhr):=⇑5
theorem zpY (F:Fun K "shown" "shown" zhr f fd) (T:Txt K mg A) (yaG:Callee P w K mg base ↑1 5 "climbed" ["rows"] (zgA K A)) (yaa:Callee P w K mg base ↑1 1 "head_of" ["row"] (zcW K A)) (ybB:Callee P w K mg base ↑1 3 "levelled" ["steps","length"] (zhs K A)) (yaZ:Callee P w K mg base ↑1 2 "shortened" ["numbers"] (zgZ K A)) {yd0:Addr} {ydD:FuncData} (ydj:Mk K A.Rest yd0) (yaM:FnOk P w K mg base ↑1 2 yd0 ydD ["self","rest","weights"] (zfb K A)) (yaN:zeW K ydD ["self","rest","weights"] [])  {yd1:Addr} {ydE:FuncData} (ydk:Mk K A.Line yd1) (yaq:FnOk P w K mg base ↑1 1 yd1 ydE ["self","weights"] (zdm K A)) (ybx:zeW K ydE ["self","weights"] []):FnOk P w K mg base ↑1 6 f fd ["book","basket"] (zmp K A):=by refine F.okV zeP ↑5 ↥8;obtain ⟨P0,P1⟩:=x;have hu:=hr.units;replace hp:zgl P0 P1:=hp;unfold zgl at hp;refine ⟨_,(zaa (zar (i:=2) zeP.nd rfl ↥0 (zaR yaG ↑3 rfl zaL ↑[(zaw zeo (zcT rfl (.of (osc:=(zaf zhr)) (N:=["book","basket","rows","steps","numbers","weights","many","short"]) (own:=["swap"]) (fvn:=[]) (fv:=[]) rfl rfl ⇑6) (za3 (K:=K) rfl ↑52) (λ_ _ _ _ _=>⟨(zaE (i:=0) (show (["swap"]:List Str).Nodup by decide+kernel) rfl ↥0 (Or.inr rfl)),zce,(zaw zeo (pv 0) (zbc ↑[zah]))⟩)) (zbc ↑[zaw zeo (pv 1) (zbc ↑[zll zhy zah])]))])) (zaa (zgK (i:=3) rfl zeP.nd rfl rfl (.of (osc:=(zaf zhr)) (N:=["book","basket","rows","steps","numbers","weights","many","short"]) (own:=["row"]) (fvn:=["book"]) (fv:=[0]) rfl rfl ⇑6) (za3 (K:=K) rfl (pv 2)) (λ_ _ _ _ _=>⟨↑108,(zow (zaq zh7 (zaR yaa ↑3 rfl zaL ↑[pv 0]) (zbo (K:=K) rfl (pv 1) rfl) (zay _))),(pv 0)⟩)) (zaa (zar (i:=4) zeP.nd rfl ↥0 (zaR ybB ↑3 rfl zaL ↑[pv 3,(zaw zdS ↑52 zah)])) (zaa (zar (i:=5) zeP.nd rfl ↥0 (zcO (zcg (K:=K) rfl) (pv 4) zd5 (zdy ↑52))) (zaa (za5 (zaq zcD (zaA (zaI (K:=K) rfl) rfl T.len PySem.boot_len ↑[pv 3]) (zaA (zaI (K:=K) rfl) rfl T.len PySem.boot_len ↑[pv 2]) (zay _)) (zaa (zaM (zeC ↑[zah,ziS ydk yaq ↑3 rfl T.Line ybx .nil zaL ↑[zaR yaZ ↑3 rfl zaL ↑[pv 5]]])) zad) zad) (zaa (zar (i:=6) zeP.nd rfl ↥0 (zbp ⇑9 (zbp ⇑9 (pv 2) (zll zhy zah) ⇑7) ↑52 ⇑7)) (zaa (za5 (zaq zcD (pv 6) zah (zay _)) (zaa (zaM (zeC ↑[zah,ziO])) zad) zad) (zaa (zar (i:=7) zeP.nd rfl ↥0 (zaR yaZ ↑3 rfl zaL ↑[(zaw zeo (zbc ↑[(zaw zev (zbp ⇑9 (pv 4) ↑52 ⇑7) (pv 6))]) (pv 5))])) (zaa (zaM (zeC ↑[pv 6,(ziS ydj yaM ↑3 rfl T.Rest yaN .nil zaL ↑[(zbp ⇑9 (pv 7) zah ⇑7),(zcO (zcg (K:=K) rfl) (pv 7) (zdy zah) zd5)])])) zad))))))))),.inl ?_⟩;show L2.Run _ ([⇑[zci A.Book P0],⇑[dL ↥7],.no,.no,.no,.no,.no,.no]:L2.Ctx) _ (↑72 (m_shown P0 P1));unfold m_shown;exact (zas (m:=true) (x:=(zaV ↑113)) (λ(xs:Jq)=>dL (List.map lI xs)) ↑72 (zau (x:=↑113) (zac (Ev.weak (K:=K) (EvO.ev (zc7 (f:=lI) (xs:=(List.map (λ(x200:Ji)=>(x200++[(0:Int)])) P0.swaps)) (ys:=[(P1++[↥3])]) (EvO.ev (EvO.conv (zdj (g:=(λ(x200:Ji)=>dL (List.map dI (x200++[(0:Int)])))) (zbQ (m:=false) lI (xs:=P0.swaps) (Ev.weak (K:=K) (zcM ⇑3 T.Book_cl T.Book_swaps rfl))) ↥((zlK hp).1) ⇑8 (λi201 x200 hx202=>have v202:=List.mem_of_getElem? hx202;(EvO.ev (EvO.anyI (m:=false) (zc7 (f:=dI) (xs:=x200) (ys:=[(0:Int)]) ⇑3 ↑75 ↥((zlK hp).2.1 _ ⇑0)))))) ↑30)) (EvO.ev (zbR (zac (EvO.ev (EvO.anyI (m:=false) (zc7 (f:=dI) (xs:=P1) (ys:=[↥3]) ↑7 (EvO.ev (zbR (zac (zkz (x:=(1:Int)) zax) zae) ↑61)) ↥((zlK hp).2.2.1)))) zae) ↑61)) ↥((zlK hp).2.2.2)))) zae) rfl (by show zd4 ↑113;exact ztv hp) rfl) (λv203 hv203=>have hR:=hv203;(zas (m:=true) (x:=(List.map (λ(x204:Ji)=>x204) (List.filter (λ(x204:Ji)=>(decide ((zag x204)<P0.many))) v203))) (λ(xs:Jq)=>dL (List.map lI xs)) ↑72 (EvO.ev (EvO.conv (zlq (c:=λ(x204:Ji)=>(decide ((zag x204)<P0.many))) (g:=(λ(x204:Ji)=>dL (List.map dI x204))) (zbQ (m:=true) lI (xs:=v203) ↑36) ↥(zwa hp hR) ⇑8 (λi205 x204 hx206=>have v206:=List.mem_of_getElem? hx206;(zai (zaX (x:=(zag x204)) (y:=P0.many) (Ev.any (m:=true) (zau (x:=x204) (zac (Ev.old ↑11) zae) rfl (by show za7 x204;exact trivial) rfl)) (Ev.any (m:=false) (zcM ↑7 T.Book_cl T.Book_many rfl))))) (λi205 x204 hx206 hc=>have v206:=List.mem_of_getElem? hx206;⇑3)) ↑30)) (λv207 hv207=>have hS:=hv207;(zas (m:=true) (x:=(za9 v207 (P0.many+(1:Int)))) lI ↑72 (zau (x:=(v207,(P0.many+(1:Int)))) (zac (Ev.old (Ev.weak (K:=K) ↑17)) (zac (zaX (x:=P0.many) (y:=(1:Int)) ↑100 zax) zae)) rfl (by show zek v207 (P0.many+(1:Int));exact zvt hp hR hS) rfl) (λv208 hv208=>have hN:=hv208;(zas (m:=true) (x:=(zb9 v208 none (some P0.many))) lI ↑72 (EvO.ev (EvO.anyI (m:=true) (zdN (f:=dI) (xs:=v208) (Ev.weak (K:=K) (zab (i:=4) rfl)) zdf (zcC ↑100)))) (λv209 hv209=>have hW:=hv209;(zbM (b:=(decide (((v207.length:Nat):Int)=((v203.length:Nat):Int)))) ↑72 (zai (zeE (x:=((v207.length:Nat):Int)) (y:=((v203.length:Nat):Int)) (zbq (f:=lI) (xs:=v207) (Ev.old (Ev.weak (K:=K) ↑17))) (zbq (f:=lI) (xs:=v203) (Ev.old ↑36)))) (λh210=>(zaK (zak (zaD (zeF (zac zax (zac (zlp (i:=(zaQ v209)) (zac (Ev.old (Ev.weak (K:=K) (zau (x:=v209) (zac (Ev.old (Ev.weak (K:=K) (zab (i:=5) rfl))) zae) rfl (by show zdg v209;exact zrZ hp hR hS hN hW ⇑0) rfl))) zae) rfl (by show zbz (zaQ v209);exact trivial)) zae)) ↑47))))) (λh210=>(zaj (zas (m:=true) (x:=(ixD (ixD v203 ↥3) P0.many)) dI ↑72 (Ev.any (m:=true) (zbP (f:=dI) (xs:=(ixD v203 ↥3)) (Ev.weak (K:=K) (zbP (f:=lI) (xs:=v203) ↑36 (zkz (x:=(1:Int)) zax) ↥((ztF hp hR hS ⇑0).1))) ↑100 ↥((ztF hp hR hS ⇑0).2))) (λv211 hv211=>have hM:=hv211;(zbM (b:=(decide (v211=(1:Int)))) ↑72 (zai (zeE (x:=v211) (y:=(1:Int)) ↑65 zax)) (λh212=>(zaK (zak (zaD (zeF (zac zax (zac zax zae)) ↑47))))) (λh212=>(zaj (zas (m:=true) (x:=(zaQ ([((ixD v208 P0.many)*v211)]++v209))) lI ↑72 (zau (x:=([((ixD v208 P0.many)*v211)]++v209)) (zac (Ev.weak (K:=K) (EvO.ev (EvO.anyI (m:=true) (zc7 (f:=dI) (xs:=[((ixD v208 P0.many)*v211)]) (ys:=v209) (EvO.ev (zbR (zac (zaN (x:=(ixD v208 P0.many)) (y:=v211) (Ev.any (m:=true) (zbP (f:=dI) (xs:=v208) (Ev.weak (K:=K) (zab (i:=4) rfl)) ↑100 ↥(zvw hp hR hS hN))) ↑65 ↥(zti hp hR hS hN ⇑0 hM)) zae) ↑61)) (zab (i:=5) rfl) ↥(zvo hp hR hS hN hW))))) zae) rfl (by show zdg ([((ixD v208 P0.many)*v211)]++v209);exact zsa hp hR hS hN hW ⇑0 hM) rfl) (λv213 hv213=>have hQ:=hv213;(zak (zaD (zeF (zac ↑65 (zac (zlp (i:=((ixD v213 (0:Int)),(zb9 v213 ↑20 none))) (zac (Ev.any (m:=true) (zbP (f:=dI) (xs:=v213) (Ev.weak (K:=K) (zab (i:=7) rfl)) zax ↥(zv2 hQ))) (zac (Ev.weak (K:=K) (EvO.ev (EvO.anyI (m:=true) (zdN (f:=dI) (xs:=v213) (Ev.weak (K:=K) (zab (i:=7) rfl)) (zcC zax) zdf)))) zae)) rfl (by show zcI (ixD v213 (0:Int)) (zb9 v213 ↑20 none);exact zr3 hp hR hS hN hW ⇑0 hM ⇑0 hQ)) zae)) ↑47)))))))))))))))))))))
theorem zmv {b:BookD} {x:Ji} (h:SnP b x):∃n:Nat,b.many=(n:Int)∧((∃v,m_shown b x=(0,some (Sum.inl ⟨v⟩))∧Lat.Bit 700000 v∧v.length=n∧(∀s∈b.swaps,Lat.dv v (Lat.vec s)=0)∧Lat.dv v (Lat.vec x)≠0∧∀d:Int,Lat.SpL b.swaps (λi=>d*Lat.vec x i)->d=0)∨(∃c:Int,0<c∧c.natAbs≤2 ^ 8980∧Lat.SpL b.swaps (λi=>c*Lat.vec x i)∧(∀d:Int,Lat.SpL b.swaps (λi=>d*Lat.vec x i)->c∣d)∧((c=1∧m_shown b x=(1,none))∨(2≤c∧∃l r v,RsO n b.swaps x c l r v∧m_shown b x=(c,some (Sum.inr (zio r v))))))):=by
 obtain ⟨n,s,E,h1,h2,h3,h4,h5,h6,h7,h8,h9,h10,h11⟩:=h.all;refine ⟨n,h1,?_⟩;have eR:zaV ↑40=snR b x:=zgV _;have eS:=zsk (x:=x) (rows:=snR b x) h1 rfl rfl;have eN:=ztT (b:=b) (x:=x) h1 rfl rfl;have eW:=zvf (b:=b) (x:=x) h1 rfl rfl;have hs:m_shown b x=bif decide ((((snS n b x).length:Nat):Int)=(((snR b x).length:Nat):Int)) then ((0:Int),some (Sum.inl (znw (zaQ ((↑68).take n))))) else (bif (decide (ixD (ixD (snR b x) ↥3) b.many=(1:Int))) then ((1:Int),none) else (ixD (ixD (snR b x) ↥3) b.many,some (Sum.inr (zio (ixD (zaQ ([ixD ↑68 b.many*ixD (ixD (snR b x) ↥3) b.many]++(↑68).take n)) (0:Int)) (zb9 (zaQ ([ixD ↑68 b.many*ixD (ixD (snR b x) ↥3) b.many]++(↑68).take n)) ↑20 none))))):=by unfold m_shown;show Let (zaV ↑40) _=_;rw [eR];unfold Let;dsimp only;rw [eS,eN,eW]
 rw [hs];by_cases q:(snS n b x).length=(snR b x).length
 ·left;rw [decide_eq_true (show (((snS n b x).length:Nat):Int)=(((snR b x).length:Nat):Int) by omega)];have e:=zuA h6 q;obtain ⟨l1,l2,l3⟩:=h6.line e;obtain ⟨v1,v2,v3,v4⟩:=h6.lv;have sh:=zn5 h6 h8 h9 h11 h3 q;obtain ⟨d1,d2,d3⟩:=zgF ((↑68).take n);have g0:=sh.2.1;have lb:=(Lat.znE (ss:=snS n b x) (λt ht=>h7 t (h6.low t ht).1) ↑0).2;have hsl:(snS n b x).length≤9:=by omega
  have hb9:=Nat.mul_le_mul hsl (show s+9000≤72028 by omega);refine ⟨zaQ ((↑68).take n),rfl,λy hy=> ?_,by rw [zgn,List.length_map,List.length_take];omega,λs hs=> ?_,?_,l3⟩;·rw [zgn] at hy;obtain ⟨z,hz,rfl⟩:=List.mem_map.mp hy;exact Nat.le_trans (Lat.zhk g0) ((lb.mono ↑0) z (List.mem_of_mem_take hz))
  ·have:=(ziz d2 (Lat.vec s)).1;rw [l1 s hs] at this;rw [zgn];rcases Int.mul_eq_zero.mp this with z|z
   ·exact z
   ·omega
  ·intro z;rw [zgn] at z;have:=(ziz d2 (Lat.vec x)).1;rw [l2,z] at this;omega
 ·right;rw [decide_eq_false (show¬(((snS n b x).length:Nat):Int)=(((snR b x).length:Nat):Int) by omega)];obtain ⟨t,t1,t2⟩:=zsq h6 q;have ht:t∈snR b x:=by rw [t2];exact List.mem_append_right _ (List.mem_singleton.mpr rfl)
  obtain ⟨r1,r2,r3,r4,r5⟩:=h6.rest t1 t2;have T:=(h7 t ht).top;rw [t1] at T;have hb:=zlj h8 h9 h11;rw [t2,Lat.zlu,t1] at hb;obtain ⟨v1,v2,v3,v4⟩:=h6.lv;have e1:ixD (ixD (snR b x) ↥3) b.many=Lat.vec t n:=by rw [t2,zkK,h1,Lat.zcf]
  have e2:ixD ↑68 b.many=Lat.prh (snS n b x):=by rw [h1,Lat.zcf,v3]
  rw [e1,e2,cond_false];refine ⟨Lat.vec t n,r1,T,r4,r5,?_⟩;by_cases q1:Lat.vec t n=1;·left;rw [q1,decide_eq_true rfl];exact ⟨rfl,rfl⟩
  ·right;rw [decide_eq_false q1,cond_false];obtain ⟨r,v,z⟩:=zu4 h6 t1 t2 hb h3;refine ⟨by omega,_,r,v,z,?_⟩;rw [z.er,z.ev]
def TuP (b:BookD) (x:Ji):Prop:=(x.length:Int)=b.many∧SnP b x∧∀r∈b.swaps,Lat.Bit 200 r
theorem zoe {b:BookD} {x:Ji} {p:Int×Option (LineD⊕RestD)} {c:Int} (h:TuP b x) (hT:p=m_shown b x) (hM:c=p.1):c.natAbs≤2 ^ 8980:=by
 obtain ⟨n,h1,h2⟩:=zmv h.2.1;rw [hM,hT];rcases h2 with ⟨v,e,_⟩|⟨c',c1,c2,c3,c4,c5⟩
 ·rw [e];exact Nat.zero_le _
 ·rcases c5 with ⟨q,e⟩|⟨q,l,r,v,z,e⟩
  ·rw [e];exact Nat.one_le_two_pow
  ·rw [e];exact c2
theorem zpp {b:BookD} {x:Ji} (h:SnP b x):∃n:Nat,b.many=(n:Int)∧n≤8∧x.length=n∧Lat.Bit 400 x∧b.swaps.length≤12∧∀r∈b.swaps,r.length=n:=by obtain ⟨n,R,bt,h1,h2,h3,h4,h5,h6,h7,h8,h9,h10⟩:=h;exact ⟨n,h1,h3,h4,h6.mono h9,by omega,λr hr=>(h5 r hr).1⟩
theorem zwt {b:BookD} {x:Ji} {p:Int×Option (LineD⊕RestD)} {c:Int} (h:TuP b x) (hT:p=m_shown b x) (hM:c=p.1):zbE x c:=by obtain ⟨n,h1,h2,h3,h4,h5,h6⟩:=zpp h.2.1;exact ⟨by omega,λy hy=>Lat.zew.of (h4 y hy) (zoe h hT hM) ↥1 ↥1⟩
theorem zuR {b:BookD} {x:Ji} {p:Int×Option (LineD⊕RestD)} {c:Int} (h:TuP b x) (hT:p=m_shown b x) (hM:c=p.1):zsQ b (zan x c):=by obtain ⟨n,h1,h2,h3,h4,h5,h6⟩:=zpp h.2.1;refine ⟨n,400+8980,h1,by rw [show (zan x c).length=x.length from Lat.zaW,h3],λy hy=> ?_,by decide,by omega,by omega,λr hr=>⟨h6 r hr,h.2.2 r hr⟩⟩;obtain ⟨z,hz,rfl⟩:=List.mem_map.mp hy;show (z*c).natAbs≤_;rw [Int.natAbs_mul];exact Lat.zeu (h4 z hz) (zoe h hT hM)
noncomputable def za6 (P0:BookD) (P1:Ji):(T3 Int (Option Ji) (Option (LineD⊕RestD))) :=
 (Let (m_shown P0 P1) (λ(v214:(Int×(Option (LineD⊕RestD))))=>(Let v214.1 (λ(v215:Int)=>(Let (bif (decide (v215=(0:Int))) then none else (zcp P0 (zan P1 v215))) (λ(v216:(Option Ji))=>(T3.mk v215 v216 v214.2)))))))
def zd9 (P0:BookD) (P1:Ji):Prop:=TuP P0 P1
def ziK (K:W.Frag) (A:Adr):Sp:=Spv (ι:=BookD×Ji) (λx=>[zci A.Book x.1,dL (List.map dI x.2)]) (λx=>zd9 x.1 x.2) (λx=> ↥[dT [dI ((za6 x.1 x.2).a),dOpt lI ((za6 x.1 x.2).b),dOpt (dSc A) ((za6 x.1 x.2).c)]])
theorem zft:FnScope ["book","basket","told","many","way"] ["book","basket"] (zaf zhn):=⇑5
theorem zmB (F:Fun K "turn_of" "turn_of" zhn f fd) (T:Txt K mg A) (yad:Callee P w K mg base ↑1 1 "refuse_bad_basket" ["book","basket"] (zcK K A)) (ycw:Callee P w K mg base ↑1 6 "shown" ["book","basket"] (zmp K A)) (yab:Callee P w K mg base ↑1 1 "times" ["some","many"] (zeT K A)) (ycc:Callee P w K mg base ↑1 7 "way_to" ["book","basket"] (zj5 K A)):FnOk P w K mg base ↑1 8 f fd ["book","basket"] (ziK K A):=by refine F.okV zft ↑5 ↥8;obtain ⟨P0,P1⟩:=x;have hu:=hr.units;replace hp:zd9 P0 P1:=hp;unfold zd9 at hp;refine ⟨_,(zaa (zb1 (zaR yad ↑3 rfl zaL ↑[pv 0,pv 1])) (zaa (zar (i:=2) zft.nd rfl ↥0 (zaR ycw ↑3 rfl zaL ↑[pv 0,pv 1])) (zaa (zar (i:=3) zft.nd rfl ↥0 ↑78) (zaa (zar (i:=4) zft.nd rfl ↥0 (zgj (zaq zcD (pv 3) zah (zay _)) ziO (zaR ycc ↑3 rfl zaL ↑[pv 0,zaR yab ↑3 rfl zaL ↑[pv 1,pv 3]]))) (zaa (zaM (zeC ↑[pv 3,pv 4,↑78])) zad))))),.inl ?_⟩;show L2.Run _ ([⇑[zci A.Book P0],⇑[dL ↥7],.no,.no,.no]:L2.Ctx) _ (↑105 (za6 P0 P1));unfold za6;exact (zfw (m:=true) (Ev.any (m:=true) (zau (x:=(P0,P1)) (zac ⇑3 (zac ↑18 zae)) rfl (by show zbr P0 P1;exact hp.1) rfl)) (zas (m:=true) (x:=(m_shown P0 P1)) (λ(p:(Int×(Option (LineD⊕RestD))))=>dT [dI p.1,dOpt (dSc A) p.2]) ↑105 (zau (x:=(P0,P1)) (zac ⇑3 (zac ↑7 zae)) rfl (by show zgl P0 P1;exact hp.2.1) rfl) (λv214 hv214=>have hT:=hv214;(zas (m:=true) (x:=v214.1) dI ↑105 (Ev.any (m:=true) (zd3 ↑12 zax rfl)) (λv215 hv215=>have hM:=hv215;(zas (m:=true) (x:=(bif (decide (v215=(0:Int))) then none else (zcp P0 (zan P1 v215)))) (dOpt lI) ↑105 (znK (dOpt lI) (b:=(decide (v215=(0:Int)))) (x:=none) (y:=(zcp P0 (zan P1 v215))) (zai (zeE (x:=v215) (y:=(0:Int)) ↑22 zax)) (λhb=>zax) (λhb=>(zau (x:=(P0,(zan P1 v215))) (zac ⇑3 (zac (Ev.weak (K:=K) (EvO.ev (EvO.anyI (m:=true) (zcu (x:=(P1,v215)) (zac ↑18 (zac ↑22 zae)) rfl (by show zbE P1 v215;exact zwt hp hT hM) rfl)))) zae)) rfl (by show zfG P0 (zan P1 v215);exact zuR hp hT hM) rfl))) (λv216 hv216=>(zak (zaD (zeF (zac ↑22 (zac (zab (i:=4) rfl) (zac (zd3 ↑12 zax rfl) zae))) (by show 3≤sizeLine;decide)))))))))))
theorem zsX {b:BookD} {x:Ji} (h:TuP b x):∃n:Nat,b.many=(n:Int)∧x.length=n∧((∃v,za6 b x=⟨0,none,some (Sum.inl ⟨v⟩)⟩∧Lat.Bit 700000 v∧v.length=n∧(∀s∈b.swaps,Lat.dv v (Lat.vec s)=0)∧Lat.dv v (Lat.vec x)≠0∧∀d:Int,Lat.SpL b.swaps (λi=>d*Lat.vec x i)->d=0)∨(∃(c:Int) (r:Ji),0<c∧c.natAbs≤2 ^ 8980∧r.length=b.swaps.length∧Lat.Bit 600000 r∧(∀j,j<n->Lat.comb r (b.swaps.map Lat.vec) j=c*Lat.vec x j)∧Lat.SpL b.swaps (λi=>c*Lat.vec x i)∧(∀d:Int,Lat.SpL b.swaps (λi=>d*Lat.vec x i)->c∣d)∧((c=1∧za6 b x=⟨1,some r,none⟩)∨(2≤c∧∃l rr v,RsO n b.swaps x c l rr v∧za6 b x=⟨c,some r,some (Sum.inr (zio rr v))⟩)))):=by
 obtain ⟨n,n1,n2⟩:=zmv h.2.1;obtain ⟨n',m1,m2,m3,m4,m5,m6⟩:=zpp h.2.1;have hnn:n'=n:=by omega
 subst hnn;refine ⟨n',n1,m3,?_⟩;rcases n2 with ⟨v,e,z⟩|⟨c,c1,c2,c3,c4,c5⟩
 ·left;refine ⟨v,?_,z⟩;unfold za6;rw [e];rfl
 ·right
  have e1:(m_shown b x).1=c:=by
   rcases c5 with ⟨q,e⟩|⟨q,l,r,v,z,e⟩
   ·rw [e,q]
   ·rw [e]
  have hW:=zuR h rfl rfl;rw [e1] at hW;have hl:(zan x c).length=n':=by rw [show (zan x c).length=x.length from Lat.zaW,m3]
  have hv:∀i,Lat.vec (zan x c) i=c*Lat.vec x i:=λi=>by rw [show zan x c=Lat.mul x c from rfl,Lat.zdt,Int.mul_comm]
  obtain ⟨w1,w2⟩:=zqT n1 hl m6
  cases hw:zcp b (zan x c) with
   |none=>exact absurd (c3.conv λi=>(hv i).symm) (w1 hw)
   |some r=>
    obtain ⟨k1,k2,k3⟩:=w2 r hw;obtain ⟨b1,b2⟩:=zrv (a:=9380) hW n1 hl (λy hy=>by obtain ⟨z,hz,rfl⟩:=List.mem_map.mp hy;show (z*c).natAbs≤_;rw [Int.natAbs_mul,show 9380=400+8980 from rfl];exact Lat.zeu (m4 z hz) c2) hw;have hne:decide (c=(0:Int))=false:=decide_eq_false ↑0;refine ⟨c,r,c1,c2,b1,b2.mono ↥1,λj hj=>by rw [k3 j hj,hv],c3,c4,?_⟩;rcases c5 with ⟨q,e⟩|⟨q,l,rr,v,z,e⟩
    ·left;refine ⟨q,?_⟩;subst q;unfold za6 Let;dsimp only;rw [e];dsimp only;rw [hne,cond_false,hw]
    ·right;refine ⟨q,l,rr,v,z,?_⟩;unfold za6 Let;dsimp only;rw [e];dsimp only;rw [hne,cond_false,hw]
noncomputable def zgu (P0:Jq) (P1:Ji) (P2:Jq):StairsD:=⟨P0,P1,P2⟩
def zcb (P0:Jq) (P1:Ji) (P2:Jq):Prop:=True
def zej (K:W.Frag) (A:Adr):Sp:=zox (ι:=Jq×Ji×Jq) A.Stairs (λx=>[dL (List.map lI x.1),dL (List.map dI x.2.1),dL (List.map lI x.2.2)]) (λx=>zcb x.1 x.2.1 x.2.2) false (λx=>[("steps",dL (List.map lI ((zgu x.1 x.2.1 x.2.2).steps))),("heads",dL (List.map dI ((zgu x.1 x.2.1 x.2.2).heads))),("roads",dL (List.map lI ((zgu x.1 x.2.1 x.2.2).roads)))])
theorem zgs:FnScope ["self","steps","heads","roads"] ["self","steps","heads","roads"] (zaf zdz):=⇑5
theorem zgo (F:Fun K "__init__" "Stairs.__init__" zdz f fd) (T:Txt K mg A) :FnOk P w K mg base ↑1 1 f fd ["self","steps","heads","roads"] (zej K A):=by refine F.okI zgs ↑5 ↥8;obtain ⟨P0,P1,P2⟩:=x;have hu:=hr.units;replace hp:zcb P0 P1 P2:=hp;unfold zcb at hp;refine ⟨_,(zaa (ze8 (pv 0) (pv 1) rfl) (zaa (ze8 (pv 0) (pv 2) rfl) (zaa (ze8 (pv 0) (pv 3) rfl) zad))),λp dx=>⟨([.ob false A.Stairs p dx [("steps",dL ↑28),("heads",dL ↥7),("roads",dL (List.map lI P2))],⇑[dL ↑28],⇑[dL ↥7],⇑[dL (List.map lI P2)]]:L2.Ctx),?_,rfl⟩⟩;show L2.Run _ ([.ob false A.Stairs p dx [],⇑[dL ↑28],⇑[dL ↥7],⇑[dL (List.map lI P2)]]:L2.Ctx) _ _;exact (zdB (i:=0) rfl ↑7 T.Stairs_cl T.Stairs_steps [] rfl ⇑6 ↥1 (zdB (i:=0) rfl ↑12 T.Stairs_cl T.Stairs_heads ["steps"] rfl ⇑6 ↥1 (zdB (i:=0) rfl ↑17 T.Stairs_cl T.Stairs_roads ["steps","heads"] rfl ⇑6 ↥1 (zao (Wk.refl _)))))
noncomputable def zdc (P0:BookD):StairsD :=
 (Let (List.map (λ(x217:Ji)=>x217) (List.filter (λ(x217:Ji)=>(decide ((zag x217)<P0.many))) (zbk P0.swaps))) (λ(v220:Jq)=>(Let (List.map (λ(x221:Ji)=>(zb9 x221 none (some P0.many))) v220) (λ(v224:Jq)=>(Let (List.map (λ(x225:Ji)=>(zag x225)) v220) (λ(hv228:Ji)=>(Let (List.map (λ(x229:Ji)=>(zb9 x229 (some P0.many) none)) v220) (λ(v232:Jq)=>(zgu v224 hv228 v232)))))))))
def zeI (P0:BookD):Prop:=TrP P0.swaps∧0≤P0.many∧P0.many≤100
def zjR (K:W.Frag) (A:Adr):Sp:=Spv (ι:=BookD) (λx=>[zci A.Book x]) (λx=>zeI x) (λx=> ↥[zgR A.Stairs (zdc x)])
theorem zfs:FnScope ["book","rows","steps","heads","roads"] ["book"] (zaf ze0):=⇑5
theorem zol (F:Fun K "stairs" "stairs" ze0 f fd) (T:Txt K mg A) (yaa:Callee P w K mg base ↑1 1 "head_of" ["row"] (zcW K A)) (yaT:Callee P w K mg base ↑1 6 "traced" ["rows"] (zhH K A)) {ydl:Addr} {yc0:FuncData} (ycd:Mk K A.Stairs ydl) (yaz:FnOk P w K mg base ↑1 1 ydl yc0 ["self","steps","heads","roads"] (zej K A)) (yaA:zeW K yc0 ["self","steps","heads","roads"] []):FnOk P w K mg base ↑1 7 f fd ["book"] (zjR K A):=by refine F.okV zfs ↑5 ↑33;have hu:=hr.units;replace hp:zeI P0:=hp;unfold zeI at hp;refine ⟨_,(zaa (zgK (i:=1) rfl zfs.nd rfl rfl ↑126 (za3 (K:=K) rfl (zaR yaT ↑3 rfl zaL ↑[↑52])) (λ_ _ _ _ _=>⟨↑108,(zow (zaq zh7 (zaR yaa ↑3 rfl zaL ↑[pv 0]) (zbo (K:=K) rfl (pv 1) rfl) (zay _))),(pv 0)⟩)) (zaa (zgK (i:=2) rfl zfs.nd rfl rfl ↑126 (za3 (K:=K) rfl (pv 1)) (λ_ _ _ _ _=>⟨↑108,zce,(zcO (zcg (K:=K) rfl) (pv 0) zd5 (zdy (zbo (K:=K) rfl (pv 1) rfl)))⟩)) (zaa (zgK (i:=3) rfl zfs.nd rfl rfl (.of (osc:=(zaf ze0)) (N:=["book","rows","steps","heads","roads"]) (own:=["row"]) (fvn:=[]) (fv:=[]) rfl rfl ⇑6) (za3 (K:=K) rfl (pv 1)) (λ_ _ _ _ _=>⟨(zaE (i:=0) (show (["row"]:List Str).Nodup by decide+kernel) rfl ↥0 (Or.inr rfl)),zce,(zaR yaa ↑3 rfl zaL ↑[pv 0])⟩)) (zaa (zgK (i:=4) rfl zfs.nd rfl rfl ↑126 (za3 (K:=K) rfl (pv 1)) (λ_ _ _ _ _=>⟨↑108,zce,(zcO (zcg (K:=K) rfl) (pv 0) (zdy (zbo (K:=K) rfl (pv 1) rfl)) zd5)⟩)) (zaa (zaM (ziS ycd yaz ↑3 rfl T.Stairs yaA .nil zaL ↑[pv 2,pv 3,pv 4])) zad))))),.inl ?_⟩;show L2.Run _ ([⇑[zci A.Book P0],.no,.no,.no,.no]:L2.Ctx) _ ((λ(r:StairsD)=>Oc.rt true (zgR A.Stairs r)) (zdc P0));unfold zdc;exact (zas (m:=true) (x:=(List.map (λ(x217:Ji)=>x217) (List.filter (λ(x217:Ji)=>(decide ((zag x217)<P0.many))) (zbk P0.swaps)))) (λ(xs:Jq)=>dL (List.map lI xs)) (λ(r:StairsD)=>Oc.rt true (zgR A.Stairs r)) (EvO.ev (EvO.conv (zlq (c:=λ(x217:Ji)=>(decide ((zag x217)<P0.many))) (g:=(λ(x217:Ji)=>dL (List.map dI x217))) (zbQ (m:=true) lI (xs:=(zbk P0.swaps)) (Ev.weak (K:=K) (zau (x:=P0.swaps) (zac (Ev.weak (K:=K) (zcM ⇑3 T.Book_cl T.Book_swaps rfl)) zae) rfl (by show zeL P0.swaps;exact hp.1) rfl))) ↥(zvF hp.1) ⇑8 (λi218 x217 hx219=>have v219:=List.mem_of_getElem? hx219;(zai (zaX (x:=(zag x217)) (y:=P0.many) (Ev.any (m:=true) (zau (x:=x217) (zac (Ev.old ↑11) zae) rfl (by show za7 x217;exact trivial) rfl)) (Ev.any (m:=false) (zcM ↑7 T.Book_cl T.Book_many rfl))))) (λi218 x217 hx219 hc=>have v219:=List.mem_of_getElem? hx219;⇑3)) ↑30)) (λv220 hv220=>have hR:=zrW hp.1 hv220;(zas (m:=true) (x:=(List.map (λ(x221:Ji)=>(zb9 x221 none (some P0.many))) v220)) (λ(xs:Jq)=>dL (List.map lI xs)) (λ(r:StairsD)=>Oc.rt true (zgR A.Stairs r)) (EvO.ev (EvO.conv (zdj (g:=(λ(x221:Ji)=>dL (List.map dI (zb9 x221 none (some P0.many))))) (zbQ (m:=true) lI (xs:=v220) ↑18) ↥(zap ↑0) ⇑8 (λi222 x221 hx223=>have v223:=List.mem_of_getElem? hx223;(EvO.ev (EvO.anyI (m:=true) (zdN (f:=dI) (xs:=x221) ↑11 zdf (zcC (Ev.any (m:=false) (zcM ↑7 T.Book_cl T.Book_many rfl)))))))) ↑30)) (λv224 hv224=>(zas (m:=true) (x:=(List.map (λ(x225:Ji)=>(zag x225)) v220)) lI (λ(r:StairsD)=>Oc.rt true (zgR A.Stairs r)) (EvO.ev (EvO.conv (zdj (g:=(λ(x225:Ji)=>dI (zag x225))) (zbQ (m:=true) lI (xs:=v220) ↑18) ↥(zap ↑0) ⇑8 (λi226 x225 hx227=>have v227:=List.mem_of_getElem? hx227;(Ev.any (m:=true) (zau (x:=x225) (zac (Ev.old ↑11) zae) rfl (by show za7 x225;exact trivial) rfl)))) ↑30)) (λhv228 hheads228=>(zas (m:=true) (x:=(List.map (λ(x229:Ji)=>(zb9 x229 (some P0.many) none)) v220)) (λ(xs:Jq)=>dL (List.map lI xs)) (λ(r:StairsD)=>Oc.rt true (zgR A.Stairs r)) (EvO.ev (EvO.conv (zdj (g:=(λ(x229:Ji)=>dL (List.map dI (zb9 x229 (some P0.many) none)))) (zbQ (m:=true) lI (xs:=v220) ↑18) ↥(zap ↑0) ⇑8 (λi230 x229 hx231=>have v231:=List.mem_of_getElem? hx231;(EvO.ev (EvO.anyI (m:=true) (zdN (f:=dI) (xs:=x229) ↑11 (zcC (Ev.any (m:=false) (zcM ↑7 T.Book_cl T.Book_many rfl))) zdf))))) ↑30)) (λv232 hv232=>(zak (zaD (zpF (i:=(v224,hv228,v232)) (zac ↑12 (zac ↑17 (zac (zab (i:=4) rfl) zae))) rfl (by show zcb v224 hv228 v232;exact trivial))))))))))))
noncomputable def zqS (n:Nat) (sw:Jq):Jq:=List.filter (λ(x:Ji)=>decide (Lat.hd x<n)) (Lat.clm Lat.MG (Lat.mark sw))
theorem zjS {b:BookD} {n:Nat} (hn:b.many=(n:Int)):zdc b=⟨Lat.zov n ↑67,List.map (λ(x:Ji)=>(Lat.hd x:Int)) (zqS n b.swaps),List.map (λ(x:Ji)=>x.drop n) (zqS n b.swaps)⟩:=by
 unfold zdc zgu Let;simp only [zfo,zcv,hn,zi7,Lat.zeS];have e:(λ(x:Ji)=>decide ((Lat.hd x:Int)<(n:Int)))=λ(x:Ji)=>decide (Lat.hd x<n):=funext λx=>by simp
 rw [e,List.map_id'];rfl
noncomputable def zdJ (P0:BookD) (P1:Ji):Ji :=
 (m_lowered P1 ((zdc P0).steps))
def zfu (P0:BookD) (P1:Ji):Prop:=(P1.length:Int)=P0.many∧zeI P0∧Lat.LowP P1 (zdc P0).steps
def zog (K:W.Frag) (A:Adr):Sp:=Spv (ι:=BookD×Ji) (λx=>[zci A.Book x.1,dQ K (List.map dI x.2)]) (λx=>zfu x.1 x.2) (λx=> ↥[dL (List.map dI (zdJ x.1 x.2))])
theorem zte:FnScope ["book","basket"] ["book","basket"] (zaf zpv):=⇑5
theorem zrA (F:Fun K "home" "home" zpv f fd) (T:Txt K mg A) (yaf:Callee P w K mg base ↑1 3 "lowered" ["row","steps"] (zeD K A)) (yad:Callee P w K mg base ↑1 1 "refuse_bad_basket" ["book","basket"] (zcK K A)) (yce:Callee P w K mg base ↑1 7 "stairs" ["book"] (zjR K A)):FnOk P w K mg base ↑1 8 f fd ["book","basket"] (zog K A):=by refine F.okV zte ↑5 ↥8;obtain ⟨P0,P1⟩:=x;have hu:=hr.units;replace hp:zfu P0 P1:=hp;unfold zfu at hp;refine ⟨_,(zaa (zb1 (zaR yad ↑3 rfl zaL ↑[pv 0,pv 1])) (zaa (zaM (zaR yaf ↑3 rfl zaL ↑[pv 1,(zbo (K:=K) rfl (zaR yce ↑3 rfl zaL ↑[pv 0]) rfl)])) zad)),.inl ?_⟩;show L2.Run _ ([⇑[zci A.Book P0],⇑[dQ K ↥7]]:L2.Ctx) _ (↑62 (zdJ P0 P1));unfold zdJ;exact (zfw (m:=true) (Ev.any (m:=true) (zau (x:=(P0,P1)) (zac ⇑3 (zac ↑7 zae)) rfl (by show zbr P0 P1;exact hp.1) rfl)) (zak (zaD (zau (x:=(P1,(zdc P0).steps)) (zac ↑7 (zac (Ev.old (Ev.weak (K:=K) (zcM (zau (x:=P0) (zac ⇑3 zae) rfl (by show zeI P0;exact hp.2.1) rfl) T.Stairs_cl T.Stairs_steps rfl))) zae)) rfl (by show zb7 P1 ((zdc P0).steps);exact hp.2.2) rfl))))
theorem zr5 {b:BookD} {n:Nat} (hn:b.many=(n:Int)) (x:Ji):zdJ b x=Lat.low x (Lat.zov n ↑67):=by unfold zdJ;rw [zdq,zjS hn]
def DkP (d:DeskD):Prop:=∃n:Nat,d.names.length=n∧1≤n∧n≤8∧Wd.NmsP d.names∧d.book=some ⟨(n:Int),[]⟩
def XsP (n:Nat) (x:Ji):Prop:=x.length=n∧∀y∈x,y.natAbs<10 ^ 12
theorem XsP.bit {n:Nat} {x:Ji} (h:XsP n x):Lat.Bit 40 x:=λy hy=>Nat.le_of_lt (Nat.lt_of_lt_of_le (h.2 y hy) ↥1)
theorem zt8:TrP []:=⟨0,200,13,Lat.zhP ↥1,by simp,λ_ h=>by cases h⟩
theorem zqK {n:Nat} {x:Ji}:zdJ ⟨(n:Int),[]⟩ x=x:=by rw [zr5 (n:=n) rfl];rfl
theorem zwT {n:Nat} {x:Ji} (h:XsP n x) (hn:n≤8):zfu ⟨(n:Int),[]⟩ x:=by refine ⟨by rw [h.1],⟨zt8,by show (0:Int)≤(n:Int);omega,by show (n:Int)≤100;omega⟩,?_⟩;rw [zjS (n:=n) rfl];show Lat.LowP x [];exact ⟨n,40,0,by omega,h.1,by show 0≤1000;decide,h.bit,(λ_ z=>by cases z),by show 40+0*1+0≤50000000;decide⟩
theorem zwG {n:Nat} {x:Ji} (h:XsP n x) (h1:1≤n) (hn:n≤8):TuP ⟨(n:Int),[]⟩ x:=by refine ⟨by rw [h.1],⟨n,1,40,rfl,h1,hn,h.1,(λ_ z=>by cases z),h.bit,by show 0+1≤1;decide,by decide,by decide,?_⟩,λ_ z=>by cases z⟩;have e:Lat.eB 40 1=94:=rfl;rw [e];omega
theorem zuP {ns:List Str} {sd x:List (Int×Str)} (h:BoP ns sd) (hx:x∈[sd]):BoP ns x:=by
 have:x=sd:=by simpa using hx
 rw [this];exact h
theorem zwV {u:Lat.Vc} (h:Lat.SpL [] u):∀ i,u i=0:=Lat.zjy (n:=0) (lo:=0) (ss:=[]) trivial h λ_ z=>by cases z
theorem zvL {x:Ji} (h:∀i,Lat.vec x i=0):∀ y∈x,y=0:=λy hy=>by obtain ⟨i,_,rfl⟩:=Lat.zh9 hy;exact h i
theorem zwr {x:Ji} (h:∀ y∈x,y=0):∀i,Lat.vec x i=0:=λi=>by show x.getD i 0=0;rw [List.getD_eq_getElem?_getD];cases e:x[i]? with|none=>rfl|some y=>exact h y (List.mem_of_getElem? e)
theorem zrj {n:Nat} {x:Ji} (h:XsP n x) (h1:1≤n) (hn:n≤8):((∀y∈x,y=0)∧(za6 ⟨(n:Int),[]⟩ x).a=1)∨((¬∀y∈x,y=0)∧(za6 ⟨(n:Int),[]⟩ x).a=0):=by
 obtain ⟨m,_,_,k⟩:=zsX (zwG h h1 hn);rcases k with ⟨v,e,_,_,_,z,_⟩|⟨c,r,c0,_,_,_,_,c5,c6,c7⟩
 ·right;refine ⟨λq=>z ?_,by rw [e]⟩;have:Lat.vec x=λ_=>0:=funext (zwr q);rw [this];exact Lat.zn4 v
 ·left
  have a0:∀i,Lat.vec x i=0:=λi=>by
   have:=zwV c5 i;have this:c*Lat.vec x i=0:=this;rcases Int.mul_eq_zero.mp this with q|q
   ·omega
   ·exact q
  have d1:c∣1:=c6 1 (c5.conv λi=>by show c*Lat.vec x i=1*Lat.vec x i;rw [a0 i,Int.mul_zero,Int.mul_zero]);have c1:c=1:=by have:=Int.le_of_dvd ↥1 d1;omega
  refine ⟨zvL a0,?_⟩;rcases c7 with ⟨_,e⟩|⟨q,_⟩
  ·rw [e]
  ·omega
def AnP (k:Str) (d:DeskD) (o:Str) (ss:Jq):Prop:=DkP d∧o=k∧∃x,ss=[x]∧XsP d.names.length x
def TeP (k:Str) (d:DeskD) (l:Str):Prop:=DkP d∧(k=⇑4∨k=↑14)∧∃ws,Wd.LnP l (k::ws)∧SdP ws∧BoP d.names (zaO ws)∧XsP d.names.length (zaG d.names (zaO ws))
theorem AnP.some {k o:Str} {d:DeskD} {ss:Jq} (h:AnP k d o ss):d.book.isSome=true:=by obtain ⟨⟨n,_,_,_,_,e⟩,_⟩:=h;rw [e];rfl
theorem AnP.ix {k o:Str} {d:DeskD} {ss:Jq} (h:AnP k d o ss):InB ss.length (0:Int):=by obtain ⟨_,_,x,e,_⟩:=h;rw [e];unfold InB;simp
theorem AnP.home {k o:Str} {d:DeskD} {ss:Jq} (h:AnP k d o ss):zfu (gS d.book) (ixD ss (0:Int)):=by obtain ⟨⟨n,h1,_,h3,_,e⟩,_,x,e2,hx⟩:=h;rw [e,e2,Wd.ix0];exact zwT (n:=n) (h1 ▸ hx) h3
theorem AnP.turn {k o:Str} {d:DeskD} {ss:Jq} (h:AnP k d o ss):zd9 (gS d.book) (ixD ss (0:Int)):=by obtain ⟨⟨n,h1,h2,h3,_,e⟩,_,x,e2,hx⟩:=h;rw [e,e2,Wd.ix0];exact zwG (n:=n) (h1 ▸ hx) h2 h3
theorem AnP.bw {k o:Str} {d:DeskD} {ss:Jq} (h:AnP k d o ss):Wd.BwP d.names (zdJ (gS d.book) (ixD ss (0:Int))):=by obtain ⟨⟨n,h1,_,h3,h4,e⟩,_,x,e2,hx⟩:=h;rw [e,e2,Wd.ix0];show Wd.BwP d.names (zdJ ⟨(n:Int),[]⟩ x);rw [zqK];exact ⟨by omega,λz hz=>(h4.1 z hz).2.2.1,hx.2⟩
theorem AnP.len {k o:Str} {d:DeskD} {ss:Jq} (h:AnP k d o ss):(↑23).length+(zaF d.names (zdJ (gS d.book) (ixD ss (0:Int)))).length≤sizeLine:=by
 have h1:=Wd.bw_len h.bw;have h2:(↑23).length=5:=by decide+kernel
 have h1:(zaF d.names (zdJ (gS d.book) (ixD ss (0:Int)))).length≤1000:=h1;exact zap ↑0
theorem TeP.rl {k l:Str} {d:DeskD} (h:TeP k d l):RlS l:=by obtain ⟨_,hk,ws,h1,h2,_⟩:=h;exact ⟨k,ws,h1,hk,h2⟩
theorem TeP.told {k l:Str} {d:DeskD} (h:TeP k d l):∃ws,zaT l=(k,[zaO ws])∧BoP d.names (zaO ws)∧XsP d.names.length (zaG d.names (zaO ws)):=by obtain ⟨_,hk,ws,h1,h2,h3,h4⟩:=h;exact ⟨ws,znD h1,h3,h4⟩
theorem TeP.no {k l:Str} {d:DeskD} (h:TeP k d l):d.book.isNone=false:=by obtain ⟨⟨n,_,_,_,_,e⟩,_⟩:=h;rw [e];rfl
theorem zv6 {k o:Str} {d:DeskD} {ss:Jq} (h:AnP k d o ss):Wd.NwP ↑14 [(za6 (gS d.book) (ixD ss (0:Int))).a]:=by obtain ⟨⟨n,h1,h2,h3,_,e⟩,_,x,e2,hx⟩:=h;rw [e,e2,Wd.ix0];refine ⟨by decide+kernel,by simp,λy hy=> ?_⟩;have:y=(za6 ⟨(n:Int),[]⟩ x).a:=List.mem_singleton.mp hy;rcases zrj (n:=n) (h1 ▸ hx) h2 h3 with ⟨_,q⟩|⟨_,q⟩<;>rw [this,q]<;>decide
noncomputable def zik :DeskD:=⟨[],none⟩
def zcF :Prop:=True
def ze7 (K:W.Frag) (A:Adr):Sp:=zox (ι:=Unit) A.Desk (λx=>[]) (λx=>zcF) true (λx=>[("names",dL (List.map dS ((zik).names))),("book",dOpt (zci A.Book) ((zik).book))])
theorem zg5:FnScope ["self"] ["self"] (zaf zea):=⇑5
theorem zg4 (F:Fun K "__init__" "Desk.__init__" zea f fd) (T:Txt K mg A) :FnOk P w K mg base ↑1 1 f fd ["self"] (ze7 K A):=by refine F.okI zg5 ↑5 ↥8;have hu:=hr.units;replace hp:zcF:=hp;unfold zcF at hp;refine ⟨_,(zaa (ze8 (pv 0) (zbc zcY) rfl) (zaa (ze8 (pv 0) ziO rfl) zad)),λp dx=>⟨([.ob true A.Desk p dx [("names",dL (List.map dS [])),("book",dOpt (zci A.Book) none)]]:L2.Ctx),?_,rfl⟩⟩;show L2.Run _ ([.ob true A.Desk p dx []]:L2.Ctx) _ _;exact (zdB (i:=0) rfl (Ev.conv (e:=dL (List.map dS [])) (EvO.ev (zbU (m:=true) zae)) rfl) T.Desk_cl T.Desk_names [] rfl ⇑6 ↥1 (zdB (i:=0) rfl zax T.Desk_cl T.Desk_book ["names"] rfl ⇑6 ↥1 (zao (Wk.refl _))))
noncomputable def za8 (P0:DeskD) (P1:↑2):Str×DeskD :=
 ((zaU ↑15 [↑48]),(DeskD.mk (DeskD.mk P1 P0.book).names (some (zdG ↑48 []))))
def zdC (P0:DeskD) (P1:↑2):Prop:=BgP P1
def zeZ (K:W.Frag) (A:Adr):Sp:=SpvO (ι:=DeskD×↑2) A.Desk (λx=>[("names",dL (List.map dS x.1.names)),("book",dOpt (zci A.Book) x.1.book)]) (λx=>[dL (List.map dS x.2)]) (λx=>zdC x.1 x.2) (λx=>dS ((za8 x.1 x.2).1)) (λx=>[("names",dL (List.map dS (((za8 x.1 x.2).2).names))),("book",dOpt (zci A.Book) (((za8 x.1 x.2).2).book))])
theorem zjq:FnScope ["self","names"] ["self","names"] (zaf zfm):=⇑5
theorem zje (F:Fun K "begin" "Desk.begin" zfm f fd) (T:Txt K mg A) (ybR:Callee P w K mg base ↑1 3 "book_of" ["many","swaps"] (ziA K A)) (yah:Callee P w K mg base ↑1 1 "numbers_written" ["word","numbers"] (zde K A)) (yax:Callee P w K mg base ↑1 3 "refuse_bad_names" ["names"] (zec K A)):FnOk P w K mg base ↑1 4 f fd ["self","names"] (zeZ K A):=by refine F.okO zjq ↑5 ↥8;obtain ⟨P0,P1⟩:=x;have hu:=hr.units;replace hp:zdC P0 P1:=hp;unfold zdC at hp;refine ⟨_,(zaa (zb1 (zaR yax ↑3 rfl zaL ↑[pv 1])) (zaa (ze8 (pv 0) (pv 1) rfl) (zaa (ze8 (pv 0) (zaR ybR ↑3 rfl zaL ↑[↑70,zbc zcY]) rfl) (zaa (zaM (zaR yah ↑3 rfl zaL ↑[zaC,(zbc ↑[↑70])])) zad)))),λp dx=>⟨([.ob false A.Desk p dx [("names",dL (List.map dS (((za8 P0 P1).2).names))),("book",dOpt (zci A.Book) (((za8 P0 P1).2).book))],.no]:L2.Ctx),?_,rfl⟩⟩;show L2.Run _ ([.ob false A.Desk p dx [("names",dL (List.map dS P0.names)),("book",dOpt (zci A.Book) P0.book)],⇑[dL (List.map dS P1)]]:L2.Ctx) _ ((λ(r:Str×DeskD)=>Oc.rw ([.ob false A.Desk p dx [("names",dL (List.map dS r.2.names)),("book",dOpt (zci A.Book) r.2.book)],.no]:L2.Ctx) (dS r.1)) (za8 P0 P1));unfold za8;exact (zfw (m:=true) (Ev.any (m:=true) (zau (x:=P1) (zac ↑7 zae) rfl (by show zbT P1;exact hp.1) rfl)) (zl0 (i:=0) rfl ↑7 T.Desk_cl T.Desk_names (by show 2<1000;decide) zj6 (zl0 (i:=0) rfl (Ev.old (zau (x:=(↑48,[])) (zac (zbq (f:=dS) (xs:=P1) ↑18) (zac (Ev.old (Ev.weak (K:=K) (Ev.conv (e:=dL (List.map lI [])) (EvO.ev (zbU (m:=true) zae)) rfl))) zae)) rfl (by show zdw ↑48 [];exact zrS hp) rfl)) T.Desk_cl T.Desk_book (by show 2<1000;decide) (zoY ⇑6 zj6) (zmW (Ev.any (m:=true) (zau (x:=(↑15,[↑48])) (zac zax (zac (EvO.ev (zbR (zac (zbq (f:=dS) (xs:=P1) ↑18) zae) ↑61)) zae)) rfl (by show zbF ↑15 [↑48];exact zvu hp) rfl)) (.eq (.no .nil))))))
noncomputable def zaz (P0:DeskD) (P1:Str):Str×DeskD :=
 (Let (zba P1) (λ(v233:(Str×↑2))=>(Let v233.1 (λ(v234:Str)=>(za8 P0 v233.2)))))
def zbt (P0:DeskD) (P1:Str):Prop:=TwP P1
def zb5 (K:W.Frag) (A:Adr):Sp:=SpvO (ι:=DeskD×Str) A.Desk (λx=>[("names",dL (List.map dS x.1.names)),("book",dOpt (zci A.Book) x.1.book)]) (λx=>[dS x.2]) (λx=>zbt x.1 x.2) (λx=>dS ((zaz x.1 x.2).1)) (λx=>[("names",dL (List.map dS (((zaz x.1 x.2).2).names))),("book",dOpt (zci A.Book) (((zaz x.1 x.2).2).book))])
theorem zb4:FnScope ["self","line","told","order"] ["self","line"] (zaf zdn):=⇑5
theorem zeX (F:Fun K "tell" "Desk.tell" zdn f fd) (T:Txt K mg A) (yba:CalleeM P w K mg base ↑1 4 A.Desk "begin" ["self","names"] (zeZ K A)) (yaB:Callee P w K mg base ↑1 2 "read_line" ["line"] (zel K A)):FnOk P w K mg base ↑1 5 f fd ["self","line"] (zb5 K A):=by refine F.okO zb4 ↑5 ↥8;obtain ⟨P0,P1⟩:=x;have hu:=hr.units;replace hp:zbt P0 P1:=hp;unfold zbt at hp;obtain ⟨ws,hL,hN,hG⟩:=hp;refine ⟨_,(zaa (zar (i:=2) zb4.nd rfl ↥0 (zaR yaB ↑3 rfl zaL ↑[pv 1])) (zaa (zar (i:=3) zb4.nd rfl ↥0 ↑78) (zaa (za5 (zaq zcD (pv 3) zaC (zay _)) (zaa (zaM (zgX (pv 0) T.Desk_cl yba ↑3 zaL ↑[↑78])) zad) zad) (zaa zaJ (zaa zaJ ↥9))))),λp dx=>⟨([.ob false A.Desk p dx [("names",dL (List.map dS (((zaz P0 P1).2).names))),("book",dOpt (zci A.Book) (((zaz P0 P1).2).book))],.no,.no,.no]:L2.Ctx),?_,rfl⟩⟩;show L2.Run _ ([.ob false A.Desk p dx [("names",dL (List.map dS P0.names)),("book",dOpt (zci A.Book) P0.book)],⇑[dS P1],.no,.no]:L2.Ctx) _ (↑124 (zaz P0 P1));unfold zaz;exact (zas (m:=false) (x:=(zba P1)) (λ(p:(Str×↑2))=>dT [dS p.1,dL (List.map dS p.2)]) ↑124 (zau (x:=P1) (zac ↑13 zae) rfl (by show zb8 P1;exact ⟨ws,hL,hN⟩) rfl) (λv233 hv233=>have hT:=Eq.trans hv233 (zqN hL);(zas (m:=true) (x:=v233.1) dS ↑124 (Ev.any (m:=false) (zd3 ↑12 zax rfl)) (λv234 hv234=>have hO:=hv234;(zeg (EvT.conv (zai (zcL (x:=v234) (y:=↑15) ↑22 zax)) (by rw [hO,hT];exact decide_eq_true rfl)) (zaK (zjN (zlW (i:=0) (x:=(P0,v233.2)) (d:=dS ((za8 P0 v233.2).1)) (fs0:=[("names",dL (List.map dS (((za8 P0 v233.2).2).names))),("book",dOpt (zci A.Book) (((za8 P0 v233.2).2).book))]) rfl (zac (zd3 ↑12 zax rfl) zae) rfl rfl (by show zdC P0 v233.2;rw [hT];exact hG) rfl rfl rfl) (.eq (.no (.no (.no .nil)))))))))))
noncomputable def za2 (P0:DeskD) (P1:Str) (P2:Jq):Str :=
 (↑23++(zaF P0.names (zdJ (gS P0.book) (ixD P2 (0:Int)))))
def zbl (P0:DeskD) (P1:Str) (P2:Jq):Prop:=AnP ⇑4 P0 P1 P2
def zbW (K:W.Frag) (A:Adr):Sp:=Spv (ι:=DeskD×Str×Jq) (λx=>[zig A A.Desk x.1,dS x.2.1,dL (List.map lI x.2.2)]) (λx=>zbl x.1 x.2.1 x.2.2) (λx=> ↥[dS (za2 x.1 x.2.1 x.2.2)])
theorem zeB:FnScope ["self","order","sides"] ["self","order","sides"] (zaf zc8):=⇑5
theorem zey (F:Fun K "answer" "Desk.answer" zc8 f fd) (T:Txt K mg A) (yaD:Callee P w K mg base ↑1 1 "basket_written" ["names","basket"] (zeG K A)) (ydm:Callee P w K mg base ↑1 8 "home" ["book","basket"] (zog K A)):FnOk P w K mg base ↑1 9 f fd ["self","order","sides"] (zbW K A):=by refine F.okV zeB ↑5 ↥8;obtain ⟨P0,P1,P2⟩:=x;have hu:=hr.units;replace hp:zbl P0 P1 P2:=hp;unfold zbl at hp;refine ⟨_,(zaa (za5 (zaq zcD (pv 1) zaC (zay _)) ↥9 zad) (zaa (za5 (zaq zcD (pv 1) zaC (zay _)) ↥9 zad) (zaa (za5 (zaq zcD (pv 1) zaC (zay _)) (zaa (zaM (zaw zbj zaC (zaR yaD ↑3 rfl zaL ↑[↑52,(zaR ydm ↑3 rfl zaL ↑[↑52,(zbp ⇑9 (pv 2) zah ⇑7)])]))) zad) zad) ↥9))),.inl ?_⟩;show L2.Run _ ([⇑[zig A A.Desk P0],⇑[dS P1],⇑[dL (List.map lI P2)]]:L2.Ctx) _ (↑46 (za2 P0 P1 P2));unfold za2;exact (zav (EvT.conv (zai (zcL (x:=P1) (y:=("swap" :Str)) ↑13 zax)) (by rw [hp.2.1];decide+kernel)) (zaj (zav (EvT.conv (zai (zcL (x:=P1) (y:=("ask" :Str)) ↑13 zax)) (by rw [hp.2.1];decide+kernel)) (zaj (zeg (EvT.conv (zai (zcL (x:=P1) (y:=⇑4) ↑13 zax)) (by rw [hp.2.1];decide+kernel)) (zaK (zak (zaD (zcP (x:=↑23) (y:=(zaF P0.names (zdJ (gS P0.book) (ixD P2 (0:Int))))) zax (Ev.any (m:=true) (zau (x:=(P0.names,(zdJ (gS P0.book) (ixD P2 (0:Int))))) (zac (zcM ⇑3 T.Desk_cl T.Desk_names rfl) (zac (Ev.old (zau (x:=((gS P0.book),(ixD P2 (0:Int)))) (zac (ev_some (f:=(zci A.Book)) (x:=P0.book) (zcM ⇑3 T.Desk_cl T.Desk_book rfl) ↥(hp.some)) (zac (Ev.weak (K:=K) (zbP (f:=lI) (xs:=P2) ↑36 zax ↥(hp.ix))) zae)) rfl (by show zfu (gS P0.book) (ixD P2 (0:Int));exact hp.home) rfl)) zae)) rfl (by show zcs P0.names (zdJ (gS P0.book) (ixD P2 (0:Int)));exact hp.bw) rfl)) ↥(hp.len))))))))))
noncomputable def za1 (P0:DeskD) (P1:Str) (P2:Jq):Str :=
 (zaU ↑14 [(za6 (gS P0.book) (ixD P2 (0:Int))).a])
def zbm (P0:DeskD) (P1:Str) (P2:Jq):Prop:=AnP ↑14 P0 P1 P2
def zb2 (K:W.Frag) (A:Adr):Sp:=Spv (ι:=DeskD×Str×Jq) (λx=>[zig A A.Desk x.1,dS x.2.1,dL (List.map lI x.2.2)]) (λx=>zbm x.1 x.2.1 x.2.2) (λx=> ↥[dS (za1 x.1 x.2.1 x.2.2)])
theorem zex:FnScope ["self","order","sides"] ["self","order","sides"] (zaf zda):=⇑5
theorem zez (F:Fun K "answer" "Desk.answer" zda f fd) (T:Txt K mg A) (yah:Callee P w K mg base ↑1 1 "numbers_written" ["word","numbers"] (zde K A)) (ybS:Callee P w K mg base ↑1 8 "turn_of" ["book","basket"] (ziK K A)):FnOk P w K mg base ↑1 9 f fd ["self","order","sides"] (zb2 K A):=by refine F.okV zex ↑5 ↥8;obtain ⟨P0,P1,P2⟩:=x;have hu:=hr.units;replace hp:zbm P0 P1 P2:=hp;unfold zbm at hp;refine ⟨_,(zaa (za5 (zaq zcD (pv 1) zaC (zay _)) ↥9 zad) (zaa (za5 (zaq zcD (pv 1) zaC (zay _)) ↥9 zad) (zaa (za5 (zaq zcD (pv 1) zaC (zay _)) ↥9 zad) (zaa (zaM (zaR yah ↑3 rfl zaL ↑[zaC,(zbc ↑[(zbp (zb3 (K:=K) rfl) (zaR ybS ↑3 rfl zaL ↑[↑52,(zbp ⇑9 (pv 2) zah ⇑7)]) zah ⇑7)])])) zad)))),.inl ?_⟩;show L2.Run _ ([⇑[zig A A.Desk P0],⇑[dS P1],⇑[dL (List.map lI P2)]]:L2.Ctx) _ (↑46 (za1 P0 P1 P2));unfold za1;exact (zav (EvT.conv (zai (zcL (x:=P1) (y:=("swap" :Str)) ↑13 zax)) (by rw [hp.2.1];decide+kernel)) (zaj (zav (EvT.conv (zai (zcL (x:=P1) (y:=("ask" :Str)) ↑13 zax)) (by rw [hp.2.1];decide+kernel)) (zaj (zav (EvT.conv (zai (zcL (x:=P1) (y:=⇑4) ↑13 zax)) (by rw [hp.2.1];decide+kernel)) (zaj (zak (zaD (Ev.any (m:=true) (zau (x:=(↑14,[(za6 (gS P0.book) (ixD P2 (0:Int))).a])) (zac zax (zac (EvO.ev (zbR (zac (Ev.any (m:=true) (zd3 (zau (x:=((gS P0.book),(ixD P2 (0:Int)))) (zac (ev_some (f:=(zci A.Book)) (x:=P0.book) (zcM ⇑3 T.Desk_cl T.Desk_book rfl) ↥(hp.some)) (zac (zbP (f:=lI) (xs:=P2) ↑36 zax ↥(hp.ix)) zae)) rfl (by show zd9 (gS P0.book) (ixD P2 (0:Int));exact hp.turn) rfl) zax rfl)) zae) ↑61)) zae)) rfl (by show zbF ↑14 [(za6 (gS P0.book) (ixD P2 (0:Int))).a];exact zv6 hp) rfl))))))))))
noncomputable def zal (P0:DeskD) (P1:Str):Str :=
 (Let (zaT P1) (λ(v242:(Str×(List ↑27)))=>(Let v242.1 (λ(v243:Str)=>(za2 P0 v243 (List.map (λ(x247:↑27)=>(zaG P0.names x247)) v242.2))))))
def za0 (P0:DeskD) (P1:Str):Prop:=TeP ⇑4 P0 P1
def zcm (K:W.Frag) (A:Adr):Sp:=Spv (ι:=DeskD×Str) (λx=>[zig A A.Desk x.1,dS x.2]) (λx=>za0 x.1 x.2) (λx=> ↥[dS (zal x.1 x.2)])
theorem zck:FnScope ["self","line","told","order"] ["self","line"] (zaf zcx):=⇑5
theorem zfc (F:Fun K "tell" "Desk.tell" zcx f fd) (T:Txt K mg A) (yal:CalleeM P w K mg base ↑1 9 A.Desk "answer" ["self","order","sides"] (zbW K A)) (yaw:Callee P w K mg base ↑1 1 "basket_of" ["names","side"] (zfq K A)) (yai:Callee P w K mg base ↑1 5 "read_line" ["line"] (zdr K A)):FnOk P w K mg base ↑1 10 f fd ["self","line"] (zcm K A):=by refine F.okV zck ↑5 ↥8;obtain ⟨P0,P1⟩:=x;have hu:=hr.units;replace hp:za0 P0 P1:=hp;unfold za0 at hp;obtain ⟨ws,hw,hb,hx⟩:=hp.told;refine ⟨_,(zaa (zar (i:=2) zck.nd rfl ↥0 (zaR yai ↑3 rfl zaL ↑[pv 1])) (zaa (zar (i:=3) zck.nd rfl ↥0 ↑78) (zaa (za5 (zaq zcD (pv 3) zaC (zay _)) ↥9 zad) (zaa (za5 (zaq zqZ ↑52 ziO (zay _)) ↥9 zad) (zaa (za5 (zaq zcD (pv 3) zaC (zay _)) ↥9 zad) (zaa (zaM (zgX (pv 0) T.Desk_cl yal ↑3 zaL ↑[pv 3,(zcT rfl (.of (osc:=(zaf zcx)) (N:=["self","line","told","order"]) (own:=["side"]) (fvn:=["self"]) (fv:=[0]) rfl rfl ⇑6) (za3 (K:=K) rfl ↑78) ↑142)])) zad)))))),.inl ?_⟩;show L2.Run _ ([⇑[zig A A.Desk P0],⇑[dS P1],.no,.no]:L2.Ctx) _ (↑46 (zal P0 P1));unfold zal;exact (zas (m:=true) (x:=(zaT P1)) (λ(p:(Str×(List ↑27)))=>dT [dS p.1,dL (List.map ↑79 p.2)]) ↑46 (zau (x:=P1) (zac ↑13 zae) rfl (by show zbO P1;exact hp.rl) rfl) (λv242 hv242=>have hT:=Eq.trans hv242 hw;(zas (m:=true) (x:=v242.1) dS ↑46 (Ev.any (m:=true) (zd3 ↑12 zax rfl)) (λv243 hv243=>have hO:=hv243;(zav (EvT.conv (zai (zcL (x:=v243) (y:=↑15) ↑22 zax)) (by rw [hO,hT];show decide (⇑4=_)=false;decide+kernel)) (zaj (zav (EvT.conv (zai (zke (x:=P0.book) (f:=(zci A.Book)) (zcM ⇑3 T.Desk_cl T.Desk_book rfl) zax NN.obj)) ↥(hp.no)) (zaj (zav (EvT.conv (zai (zcL (x:=v243) (y:=("drop" :Str)) ↑22 zax)) (by rw [hO,hT];show decide (⇑4=_)=false;decide+kernel)) (zaj (zak (zaD (Ev.any (m:=true) (zgD (x:=(P0,v243,(List.map (λ(x247:↑27)=>(zaG P0.names x247)) v242.2))) ⇑3 (zac ↑22 (zac (Ev.old (EvO.ev (EvO.conv (zdj (g:=(λ(x247:↑27)=>dL (List.map dI (zaG P0.names x247)))) (zbQ (m:=true) ↑79 (xs:=v242.2) (Ev.weak (K:=K) (zd3 ↑12 zax rfl))) (by rw [hT];show 1≤sizeLine;decide) ⇑8 (λi248 x247 hx249=>have v249:=List.mem_of_getElem? hx249;(zau (x:=(P0.names,x247)) (zac (zcM ↑7 T.Desk_cl T.Desk_names rfl) (zac (Ev.old ⇑3) zae)) rfl (by show zc1 P0.names x247;rw [hT] at*;exact zuP hb ⇑0) rfl))) ↑30))) zae)) rfl (by show zbl P0 v243 (List.map (λ(x247:↑27)=>(zaG P0.names x247)) v242.2);rw [hO,hT];exact ⟨hp.1,rfl,_,rfl,hx⟩) rfl rfl))))))))))))))
noncomputable def zaS (P0:DeskD) (P1:Str):Str :=
 (Let (zaT P1) (λ(v250:(Str×(List ↑27)))=>(Let v250.1 (λ(v251:Str)=>(za1 P0 v251 (List.map (λ(x255:↑27)=>(zaG P0.names x255)) v250.2))))))
def zby (P0:DeskD) (P1:Str):Prop:=TeP ↑14 P0 P1
def zcn (K:W.Frag) (A:Adr):Sp:=Spv (ι:=DeskD×Str) (λx=>[zig A A.Desk x.1,dS x.2]) (λx=>zby x.1 x.2) (λx=> ↥[dS (zaS x.1 x.2)])
theorem zcl:FnScope ["self","line","told","order"] ["self","line"] (zaf zcz):=⇑5
theorem zfd (F:Fun K "tell" "Desk.tell" zcz f fd) (T:Txt K mg A) (yam:CalleeM P w K mg base ↑1 9 A.Desk "answer" ["self","order","sides"] (zb2 K A)) (yaw:Callee P w K mg base ↑1 1 "basket_of" ["names","side"] (zfq K A)) (yai:Callee P w K mg base ↑1 5 "read_line" ["line"] (zdr K A)):FnOk P w K mg base ↑1 10 f fd ["self","line"] (zcn K A):=by refine F.okV zcl ↑5 ↥8;obtain ⟨P0,P1⟩:=x;have hu:=hr.units;replace hp:zby P0 P1:=hp;unfold zby at hp;obtain ⟨ws,hw,hb,hx⟩:=hp.told;refine ⟨_,(zaa (zar (i:=2) zcl.nd rfl ↥0 (zaR yai ↑3 rfl zaL ↑[pv 1])) (zaa (zar (i:=3) zcl.nd rfl ↥0 ↑78) (zaa (za5 (zaq zcD (pv 3) zaC (zay _)) ↥9 zad) (zaa (za5 (zaq zqZ ↑52 ziO (zay _)) ↥9 zad) (zaa (za5 (zaq zcD (pv 3) zaC (zay _)) ↥9 zad) (zaa (zaM (zgX (pv 0) T.Desk_cl yam ↑3 zaL ↑[pv 3,(zcT rfl (.of (osc:=(zaf zcz)) (N:=["self","line","told","order"]) (own:=["side"]) (fvn:=["self"]) (fv:=[0]) rfl rfl ⇑6) (za3 (K:=K) rfl ↑78) ↑142)])) zad)))))),.inl ?_⟩;show L2.Run _ ([⇑[zig A A.Desk P0],⇑[dS P1],.no,.no]:L2.Ctx) _ (↑46 (zaS P0 P1));unfold zaS;exact (zas (m:=true) (x:=(zaT P1)) (λ(p:(Str×(List ↑27)))=>dT [dS p.1,dL (List.map ↑79 p.2)]) ↑46 (zau (x:=P1) (zac ↑13 zae) rfl (by show zbO P1;exact hp.rl) rfl) (λv250 hv250=>have hT:=Eq.trans hv250 hw;(zas (m:=true) (x:=v250.1) dS ↑46 (Ev.any (m:=true) (zd3 ↑12 zax rfl)) (λv251 hv251=>have hO:=hv251;(zav (EvT.conv (zai (zcL (x:=v251) (y:=↑15) ↑22 zax)) (by rw [hO,hT];show decide (↑14=_)=false;decide+kernel)) (zaj (zav (EvT.conv (zai (zke (x:=P0.book) (f:=(zci A.Book)) (zcM ⇑3 T.Desk_cl T.Desk_book rfl) zax NN.obj)) ↥(hp.no)) (zaj (zav (EvT.conv (zai (zcL (x:=v251) (y:=("drop" :Str)) ↑22 zax)) (by rw [hO,hT];show decide (↑14=_)=false;decide+kernel)) (zaj (zak (zaD (Ev.any (m:=true) (zgD (x:=(P0,v251,(List.map (λ(x255:↑27)=>(zaG P0.names x255)) v250.2))) ⇑3 (zac ↑22 (zac (Ev.old (EvO.ev (EvO.conv (zdj (g:=(λ(x255:↑27)=>dL (List.map dI (zaG P0.names x255)))) (zbQ (m:=true) ↑79 (xs:=v250.2) (Ev.weak (K:=K) (zd3 ↑12 zax rfl))) (by rw [hT];show 1≤sizeLine;decide) ⇑8 (λi256 x255 hx257=>have v257:=List.mem_of_getElem? hx257;(zau (x:=(P0.names,x255)) (zac (zcM ↑7 T.Desk_cl T.Desk_names rfl) (zac (Ev.old ⇑3) zae)) rfl (by show zc1 P0.names x255;rw [hT] at*;exact zuP hb ⇑0) rfl))) ↑30))) zae)) rfl (by show zbm P0 v251 (List.map (λ(x255:↑27)=>(zaG P0.names x255)) v250.2);rw [hO,hT];exact ⟨hp.1,rfl,_,rfl,hx⟩) rfl rfl))))))))))))))
noncomputable def zaB (P0:Ji) (P1:Int):Int :=
 (bif (decide (P1<↑10)) then ((ixD P0 P1)%(2147483647:Int)) else (0:Int))
def zcX (P0:Ji) (P1:Int):Prop:=0≤P1
def zfV (K:W.Frag) (A:Adr):Sp:=Spv (ι:=Ji×Int) (λx=>[dQ K (List.map dI x.1),dI x.2]) (λx=>zcX x.1 x.2) (λx=> ↥[dI (zaB x.1 x.2)])
theorem zkZ:FnScope ["_law_script","_law_k"] ["_law_script","_law_k"] (zaf zgN):=⇑5
theorem zle (F:Fun K "_law_cell" "_law_cell" zgN f fd) (T:Txt K mg A) :FnOk P w K mg base ↑1 1 f fd ["_law_script","_law_k"] (zfV K A):=by refine F.okV zkZ ↑5 ↥8;obtain ⟨P0,P1⟩:=x;have hu:=hr.units;replace hp:zcX P0 P1:=hp;unfold zcX at hp;refine ⟨_,(zaa (za5 (zaq zh7 (pv 1) ↑59 (zay _)) (zaa (zaM (zaw zcr (zbp ⇑9 (pv 0) (pv 1) ⇑7) zah)) zad) zad) (zaa (zaM zah) zad)),.inl ?_⟩;show L2.Run _ ([⇑[dQ K ↥6],⇑[dI P1]]:L2.Ctx) _ (↑82 (zaB P0 P1));unfold zaB;exact (zbM (b:=(decide (P1<↑10))) ↑82 (zai (zaX (x:=P1) (y:=↑10) ↑13 (zbq (f:=dI) (xs:=P0) ⇑3))) (λh258=>(zaK (zak (zaD (zaN (x:=(ixD P0 P1)) (y:=(2147483647:Int)) (Ev.any (m:=false) (zbP (f:=dI) (xs:=P0) ⇑3 ↑13 (by unfold InB;constructor<;>((try simp only [decide_eq_true_eq,decide_eq_false_iff_not,Bool.not_eq_true',Bool.not_eq_false',Bool.and_eq_true,Bool.or_eq_false_iff,Bool.or_eq_true,Bool.and_eq_false_iff,Bool.cond_eq_ite] at*)<;>omega)))) zax ↥1))))) (λh258=>(zaj (zak (zaD zax)))))
noncomputable def zaP (P0:↑2) (P1:Ji):Str :=
 (Let (List.foldl (λ(s259:↑2) (x260:(Str×Int))=>(Let ↑120 (λ(v266:↑2)=>v266))) [] (List.zip P0 P1)) (λ(r267:↑2)=>(bif (decide (r267=[])) then ↑6 else (Let (bif (decide ((ixD r267 (0:Int))=↥2)) then (r267.tail) else r267) (λ(v270:↑2)=>(Txt.join ⇑1 v270))))))
def zei (P0:↑2) (P1:Ji):Prop:=Wd.BwP P0 P1
def zhN (K:W.Frag) (A:Adr):Sp:=Spv (ι:=↑2×Ji) (λx=>[dL (List.map dS x.1),dL (List.map dI x.2)]) (λx=>zei x.1 x.2) (λx=> ↥[dS (zaP x.1 x.2)])
theorem zdo:FnScope ["_law_names","_law_basket","_law_words","_law_name","_law_number"] ["_law_names","_law_basket"] (zaf zgB):=⇑5
theorem zlg (F:Fun K "_law_side" "_law_side" zgB f fd) (T:Txt K mg A) :FnOk P w K mg base ↑1 1 f fd ["_law_names","_law_basket"] (zhN K A):=by refine F.okV zdo ↑5 ↥8;obtain ⟨P0,P1⟩:=x;have hu:=hr.units;replace hp:zei P0 P1:=hp;unfold zei at hp;refine ⟨_,(zaa (zar (i:=2) zdo.nd rfl ↥0 (zbc zcY)) (zaa (zdl PassesOwn.never rfl (zgd (K:=K) rfl rfl T.zip ↑[pv 0,pv 1]) (zdi (K:=K) (n:=2) rfl rfl (zbb (zaE (i:=3) zdo.nd rfl ↥0 ↥0) (zbb (zaE (i:=4) zdo.nd rfl ↥0 ↥0) zdP))) (zaa (za5 (zaq zh7 (pv 4) zah (zay _)) (zaa (zar (i:=2) zdo.nd rfl ↥0 (zaw zeo (pv 2) (zbc ↑[zaC,zbX zcB rfl T.str ⇑6 ↑[zaw zgr zah (pv 4)],pv 3]))) zad) (zaa (za5 (zaq zjV (pv 4) zah (zay _)) (zaa (zar (i:=2) zdo.nd rfl ↥0 (zaw zeo (pv 2) (zbc ↑[zaC,zbX zcB rfl T.str ⇑6 ↑[pv 4],pv 3]))) zad) zad) zad)) zad)) (zaa (za5 (zaq (zkY (K:=K) rfl hu) (pv 2) (zbc zcY) (zay _)) (zaa (zaM zaC) zad) zad) (zaa (za5 (zaq zcD (zbp ⇑9 (pv 2) zah ⇑7) zaC (zay _)) (zaa (zb1 (znb (K:=K) rfl (pv 2) ↑[zah])) zad) zad) (zaa (zaM (zjx (K:=K) rfl zaC ↑[pv 2])) zad))))),.inl ?_⟩;show L2.Run _ ([⇑[dL ↑19],⇑[dL ↥7],.no,.no,.no]:L2.Ctx) _ (↑46 (zaP P0 P1));unfold zaP;exact (zdX (m:=true) (ds:=List.map dS []) (zbU (m:=true) zae) (zbS (s0:=[]) (λ(s259:↑2)=>([⇑[dL ↑19],⇑[dL ↥7],.ow true (List.map dS s259),.no,.no]:L2.Ctx)) ↑46 (λ(s259:↑2) (x260:(Str×Int))=>(Let ↑120 (λ(v266:↑2)=>v266))) (λ(i:Nat) (s259:↑2)=>Wd.BwI i s259) (zjX (m:=false) dS dI (xs:=P0) (ys:=P1) ↑11 ↑18) ↑21 ↥(Wd.BwI.start) (λi261 x260 s259 hx262 hI263=>have v262:=zfY hx262;⟨↥(Wd.BwI.stepL ⇑0 hp ⇑0),(zbJ (b:=(decide (x260.2<(0:Int)))) (λbb=>([⇑[dL ↑19],⇑[dL ↥7],.ow true (List.map dS (bif bb then (s259++[⇑2,((toString ((0:Int)-x260.2):String):Str),x260.1]) else (bif (decide ((0:Int)<x260.2)) then (s259++[↥2,((toString x260.2:String):Str),x260.1]) else s259))),⇑[dS x260.1],⇑[dI x260.2]]:L2.Ctx)) (zai (zaX (x:=x260.2) (y:=(0:Int)) ↑63 zax)) (λh264=>(zbV (i:=2) rfl (zdX (m:=true) (EvO.anyS (m:=true) (zc7 (f:=dS) (xs:=s259) (ys:=[⇑2,((toString ((0:Int)-x260.2):String):Str),x260.1]) ↑12 (EvO.ev (zbR (zac zax (zac (zfT (i:=((0:Int)-x260.2)) (zaX (x:=(0:Int)) (y:=x260.2) zax ↑63) (by have z:=(hp.mem ⇑0).2;exact Wd.log_lt ↑0)) (zac (Ev.any (m:=false) ↑17) zae))) (by show 3≤sizeLine;decide))) (by have z:=Wd.BwI.lt ⇑0 hp ⇑0;apply zap;simp;omega))) (zao ↑21)))) (λh264=>(zbJ (b:=(decide ((0:Int)<x260.2))) (λbb=>([⇑[dL ↑19],⇑[dL ↥7],.ow true (List.map dS (bif bb then (s259++[↥2,((toString x260.2:String):Str),x260.1]) else s259)),⇑[dS x260.1],⇑[dI x260.2]]:L2.Ctx)) (zai (zaX (x:=x260.2) (y:=(0:Int)) ↑63 zax)) (λh265=>(zbV (i:=2) rfl (zdX (m:=true) (EvO.anyS (m:=true) (zc7 (f:=dS) (xs:=s259) (ys:=[↥2,((toString x260.2:String):Str),x260.1]) ↑12 (EvO.ev (zbR (zac zax (zac (zfT (i:=x260.2) ↑63 (by have z:=(hp.mem ⇑0).2;exact Wd.log_lt ↑0)) (zac (Ev.any (m:=false) ↑17) zae))) (by show 3≤sizeLine;decide))) (by have z:=Wd.BwI.lt ⇑0 hp ⇑0;apply zap;simp;omega))) (zao ↑21)))) (λh265=>(zao ↑21)) (zao ↑21))) (zco (x:=↑120) (λv266=>([⇑[dL ↑19],⇑[dL ↥7],.ow true (List.map dS v266),⇑[dS x260.1],⇑[dI x260.2]]:L2.Ctx)) (λz=>Oc.nx ((λ(s259:↑2)=>([⇑[dL ↑19],⇑[dL ↥7],.ow true (List.map dS s259),.no,.no]:L2.Ctx)) z)) (λv266 hv266=>(zao (.eq (.eq (.eq (.no (.no .nil)))))))))⟩) (λr267 hr267 hI=>(zbM (b:=(decide (r267=[]))) ↑46 (EvT.borrowO (i:=2) rfl (zai (zo3 (n:=0) (neg:=false) (xs:=r267) (ys:=[]) EqD.str (Ev.old ↑36) (Ev.old (Ev.weak (K:=K) (EvO.ev (zbU (m:=true) zae))))))) (λh268=>(zaK (zak (zaD zax)))) (λh268=>(zaj (zbJ (b:=(decide ((ixD r267 (0:Int))=↥2))) (λbb=>([⇑[dL ↑19],⇑[dL ↥7],.ow true (List.map dS (bif bb then (r267.tail) else r267)),.no,.no]:L2.Ctx)) (zai (zcL (x:=(ixD r267 (0:Int))) (y:=↥2) (Ev.any (m:=true) (zhB (f:=dS) (xs:=r267) rfl zax ↥(Wd.ix_ne (of_decide_eq_false ⇑0)))) zax)) (λh269=>(zpM (K:=K) (f:=dS) (xs:=r267) rfl ↥(List.length_pos_iff.mpr (of_decide_eq_false ⇑0)) (zao ↑21))) (λh269=>(zao ↑21)) (zco (x:=(bif (decide ((ixD r267 (0:Int))=↥2)) then (r267.tail) else r267)) (λv270=>([⇑[dL ↑19],⇑[dL ↥7],.ow true (List.map dS v270),.no,.no]:L2.Ctx)) ↑46 (λv270 hv270=>(zbV (i:=2) rfl (zak (zaD (zi8 (K:=K) (x:=⇑1) (ys:=v270) zax (Ev.old ↑36) ↥(Wd.BwI.joinL ⇑0 hp ⇑0))))))))))))))
noncomputable def wds (ns:List Str) (xs:Ji):List Str:=(Wd.tmL ns xs).flatMap Wd.Tm.ws
theorem zhx (ns:List Str) (xs:Ji):wds ns xs=[]∨∃a b c r,wds ns xs=a::b::c::r:=by
 unfold wds
 cases e:Wd.tmL ns xs with
  |nil=>left;rfl
  |cons t ts=>
   right;rw [List.flatMap_cons];have ht:t∈Wd.tmL ns xs:=by rw [e];exact List.mem_cons_self
   unfold Wd.tmL at ht;obtain ⟨p,_,rfl⟩:=List.mem_map.mp ht;exact ⟨_,_,_,_,rfl⟩
theorem zuc (ns:List Str) (xs:Ji):zaF ns xs=bif decide (wds ns xs=[]) then ↑6 else Txt.join ⇑1 (Wd.drp (wds ns xs)):=by
 have e:zaF ns xs=Let ((↑32).foldl Wd.bwF []) (λ(r:List Str)=>(bif (decide ((0:Int)<((r.length:Nat):Int))) then (Txt.join ⇑1 r) else ↑6)):=rfl;rw [e,Wd.bw_fold0];show (bif (decide ((0:Int)<(((Wd.drp (wds ns xs)).length:Nat):Int))) then (Txt.join ⇑1 (Wd.drp (wds ns xs))) else ↑6)=_;rcases zhx ns xs with q|⟨a,b,c,r,q⟩
 ·rw [q];rfl
 ·rw [decide_eq_false (show¬wds ns xs=[] by rw [q];simp)];have:(0:Int)<(((Wd.drp (wds ns xs)).length:Nat):Int):=by rw [q];unfold Wd.drp;cases decide ((a::b::c::r).head? =some ↥2) with|true=>show (0:Int)<(((b::c::r).length:Nat):Int);simp;omega|false=>show (0:Int)<(((a::b::c::r).length:Nat):Int);simp;omega
  rw [decide_eq_true this];rfl
theorem zhZ (ns:List Str) (xs:Ji):zaP ns xs=zaF ns xs:=by
 rw [zuc];have e:zaP ns xs=Let ((↑32).foldl Wd.lsF []) (λ(r:List Str)=>(bif (decide (r=[])) then ↑6 else (Let (bif (decide ((ixD r (0:Int))=↥2)) then (r.tail) else r) (λ(w:List Str)=>Txt.join ⇑1 w)))):=rfl;rw [e,Wd.ls_fold,List.nil_append];show (bif (decide (wds ns xs=[])) then ↑6 else (Txt.join ⇑1 (bif (decide ((ixD (wds ns xs) (0:Int))=↥2)) then ((wds ns xs).tail) else wds ns xs)))=_;rcases zhx ns xs with q|⟨a,b,c,r,q⟩
 ·rw [q];rfl
 ·rw [q];unfold Wd.drp;rw [Wd.ix0]
  have:decide ((a::b::c::r).head? =some ↥2)=decide (a=↥2):=by
   by_cases z:a=↥2;·rw [decide_eq_true z,z];simp
   ·rw [decide_eq_false z];exact decide_eq_false (by simp [z])
  rw [this]
noncomputable def boF (ns:List Str) (s:Ji) (x:Int×Str):Ji:=zcZ s ((ns.idxOf x.2:Nat):Int) (ixD s ((ns.idxOf x.2:Nat):Int)+x.1)
theorem zuF {a z:Ji} {y:Int}:ixD (a++y::z) ((a.length:Nat):Int)=y:=by unfold ixD atI ixN;rw [if_pos ↑0,if_pos (by simp;omega)];show ((a++y::z)[(((a.length:Nat):Int)).toNat]?).getD default=y;rw [Int.toNat_natCast,List.getElem?_append_right ↑8];simp
theorem zrP {a z:Ji} {y x:Int}:zcZ (a++y::z) ((a.length:Nat):Int) x=a++x::z:=by unfold zcZ ixN;rw [if_pos ↑0,if_pos (by simp;omega)];show (a++y::z).set (((a.length:Nat):Int)).toNat x=a++x::z;rw [Int.toNat_natCast,List.set_append_right _ _ ↑8];simp
theorem znW:∀(B A:List Str) (a b:Ji),A.length=a.length->B.length=b.length->(A++B).Nodup→(((List.zip B b).filter ↑58).map (λp=>(p.2,p.1))).foldl (boF (A++B)) (a++List.replicate b.length 0)=a++b
 | [],A,a,b,_,h2,_=>by have:b=[]:=List.length_eq_zero_iff.mp h2.symm;subst this;rfl
 | n :: B,A,a,[],_,h2,_=>by cases h2
 | n :: B,A,a,x :: b,h1,h2,hn=>by
  have nA:n∉A:=λz=>(List.nodup_append.mp hn).2.2 n z n List.mem_cons_self rfl;have ih:=znW B (A++[n]) (a++[x]) b (by simp [h1]) (by simpa using h2) (by simpa using hn);have e1:A++[n]++B=A++n::B:=by simp
  rw [e1] at ih;rw [List.zip_cons_cons];by_cases z:x=0
  ·subst z;rw [List.filter_cons_of_neg ↥4];have e2:a++List.replicate ((0:Int)::b).length 0=a++[(0:Int)]++List.replicate b.length 0:=by rw [List.length_cons,List.replicate_succ];simp
   rw [e2,ih];simp
  ·rw [List.filter_cons_of_pos (by simp [z]),List.map_cons,List.foldl_cons]
   have e2:boF (A++n::B) (a++List.replicate (x::b).length 0) (x,n)=a++[x]++List.replicate b.length 0:=by
    unfold boF;have:(A++n::B).idxOf n=A.length:=by rw [List.idxOf_append,if_neg nA];simp
    show zcZ _ (((A++n::B).idxOf n:Nat):Int) (ixD _ (((A++n::B).idxOf n:Nat):Int)+x)=_;rw [this,h1,List.length_cons,List.replicate_succ,zuF,zrP];simp
   rw [e2,ih];simp
theorem znl {n:Nat}:zdM ((n:Nat):Int) [(0:Int)]=List.replicate n 0:=by unfold zdM;rw [Int.toNat_natCast];simp
theorem zvz {ns:List Str} {xs:Ji} (hn:ns.Nodup) (hl:xs.length=ns.length):zaG ns (((↑32).filter ↑58).map (λp=>(p.2,p.1)))=xs:=by have e:∀sd,zaG ns sd=sd.foldl (boF ns) (zdM ↑9 [(0:Int)]):=λ_=>rfl;rw [e,znl];have:=znW ns [] [] xs rfl hl.symm (by simpa using hn);rw [hl] at this;simpa using this
theorem zn9:¬(↥2=⇑2):=by decide+kernel
theorem ziD {x:Str} (h:Wd.Nm x):x∉[↥2,⇑2]∧x≠("=" :Str):=by
 have k:∀y:Str,(∃c∈y.cps.toList,c<97)->x≠y:=λy ⟨c,hc,q⟩ e=>by have:=h.1 c (e ▸ hc);omega
 have e1:x≠↥2:=k _ ⟨43,by decide+kernel,by decide⟩;have e2:x≠⇑2:=k _ ⟨45,by decide+kernel,by decide⟩;exact ⟨by simp [e1,e2],k _ ⟨61,by decide+kernel,by decide⟩⟩
theorem zpr {ns:List Str} {xs:Ji} {t:Wd.Tm} (ht:t∈Wd.tmL ns xs):∃p,p∈List.zip ns xs∧p.2≠0∧t=Wd.tmOf p:=by unfold Wd.tmL at ht;obtain ⟨p,hp,rfl⟩:=List.mem_map.mp ht;obtain ⟨h1,h2⟩:=List.mem_filter.mp hp;exact ⟨p,h1,by simpa using h2,rfl⟩
theorem ztI {ns:List Str} {xs:Ji} (h:Wd.NmsP ns) (hx:XsP ns.length xs) {t:Wd.Tm} (ht:t∈Wd.tmL ns xs):t.Ok∧∀k,t.ct=some k->0<k∧k<10 ^ 12:=by
 obtain ⟨p,h1,h2,rfl⟩:=zpr ht;have m1:=h.1 p.1 (List.of_mem_zip (show (p.1,p.2)∈_ from h1)).1;have m2:=hx.2 p.2 (List.of_mem_zip (show (p.1,p.2)∈_ from h1)).2;refine ⟨⟨?_,(ziD m1).1,λk _=>Wd.num_nsg k⟩,λk e=> ?_⟩;·show (bif decide (p.2<0) then ⇑2 else ↥2)∈_;cases decide (p.2<0)<;>simp
 ·have:p.2.natAbs=k:=Option.some.inj e;omega
theorem zuH {p:Str×Int} (h2:p.2≠0) (h3:p.2.natAbs<10 ^ 12):zbY (Wd.tmOf p).ws=(p.2,p.1):=by
 rw [zuY λk e=>by have:p.2.natAbs=k:=Option.some.inj e;omega];show ((bif decide ((bif decide (p.2<0) then ⇑2 else ↥2)=⇑2) then-1 else 1)*((p.2.natAbs:Nat):Int),p.1)=_;by_cases z:p.2<0;·rw [decide_eq_true z];show ((bif decide (⇑2=⇑2) then (-1:Int) else 1)*((p.2.natAbs:Nat):Int),p.1)=_;rw [decide_eq_true rfl];show ((-1:Int)*((p.2.natAbs:Nat):Int),p.1)=(p.2,p.1);congr 1;omega
 ·rw [decide_eq_false z];show ((bif decide (↥2=⇑2) then (-1:Int) else 1)*((p.2.natAbs:Nat):Int),p.1)=_;rw [decide_eq_false zn9];show ((1:Int)*((p.2.natAbs:Nat):Int),p.1)=(p.2,p.1);congr 1;omega
noncomputable def zkH (ns:List Str) (xs:Ji):List Str:=bif decide (wds ns xs=[]) then [↑6] else Wd.drp (wds ns xs)
theorem zoM {ns:List Str} {xs:Ji} (h0:wds ns xs≠[]):Wd.sgn (Wd.drp (wds ns xs))=wds ns xs∧Wd.drp (wds ns xs)≠[↑6]:=by
 have ⟨t,ts,e⟩:∃t ts,Wd.tmL ns xs=t::ts:=by cases e:Wd.tmL ns xs with|nil=>exact absurd (by unfold wds;rw [e];rfl) h0|cons t ts=>exact ⟨t,ts,rfl⟩
 obtain ⟨p,_,_,rfl⟩:=zpr (ns:=ns) (xs:=xs) (t:=t) (by rw [e];exact List.mem_cons_self);have ew:wds ns xs=(bif decide (p.2<0) then ⇑2 else ↥2)::Wd.num p.2.natAbs::p.1::ts.flatMap Wd.Tm.ws:=by unfold wds;rw [e];rfl
 have hn:Wd.num p.2.natAbs≠⇑2:=λz=>Wd.num_nsg p.2.natAbs (by rw [z];simp);rw [ew]
 cases decide (p.2<0) with
  |true=>
   have d:Wd.drp (⇑2::Wd.num p.2.natAbs::p.1::ts.flatMap Wd.Tm.ws)=⇑2::Wd.num p.2.natAbs::p.1::ts.flatMap Wd.Tm.ws:=by unfold Wd.drp;rw [decide_eq_false (by intro q;exact zn9 (Option.some.inj q).symm)];rfl
   show Wd.sgn (Wd.drp (⇑2::_))=⇑2::_∧Wd.drp (⇑2::_)≠_;rw [d];refine ⟨?_,by simp⟩;unfold Wd.sgn;rw [Wd.cut1];show (bif decide ([⇑2]=[⇑2]) then _ else _)=_;rw [decide_eq_true rfl];rfl
  |false=>
   have d:Wd.drp (↥2::Wd.num p.2.natAbs::p.1::ts.flatMap Wd.Tm.ws)=Wd.num p.2.natAbs::p.1::ts.flatMap Wd.Tm.ws:=by unfold Wd.drp;show (bif decide (some ↥2=some ↥2) then _ else _)=_;rw [decide_eq_true rfl];rfl
   show Wd.sgn (Wd.drp (↥2::_))=↥2::_∧Wd.drp (↥2::_)≠_;rw [d];refine ⟨?_,by simp⟩;unfold Wd.sgn;rw [Wd.cut1,decide_eq_false (by simp [hn])];rfl
theorem zlx (ns:List Str) (xs:Ji):zaF ns xs=Txt.join ⇑1 (zkH ns xs):=by rw [zuc];unfold zkH;cases decide (wds ns xs=[]) with|true=>show ↑6=Builtin.Str.glued ⇑1 [↑6];rw [StrLaws.glued_eq_join];rfl|false=>rfl
theorem zo8 {ns:List Str} {xs:Ji} {w:Str} (hw:w∈wds ns xs):w=↥2∨w=⇑2∨∃p∈List.zip ns xs,p.2≠0∧(w=p.1∨w=Wd.num p.2.natAbs):=by
 unfold wds at hw;obtain ⟨t,ht,h⟩:=List.mem_flatMap.mp hw;obtain ⟨p,h1,h2,rfl⟩:=zpr ht;have h:w=(bif decide (p.2<0) then ⇑2 else ↥2)∨w=Wd.num p.2.natAbs∨w=p.1:=by have h:w∈[(bif decide (p.2<0) then ⇑2 else ↥2),Wd.num p.2.natAbs,p.1]:=h;simpa using h
 rcases h with h|h|h
 ·cases z:decide (p.2<0) with|true=>rw [z] at h;exact .inr (.inl h)|false=>rw [z] at h;exact .inl h
 ·exact .inr (.inr ⟨p,h1,h2,.inr h⟩)
 ·exact .inr (.inr ⟨p,h1,h2,.inl h⟩)
theorem zfS {ws:List Str}:(Wd.drp ws).length≤ws.length∧∀w∈Wd.drp ws,w∈ws:=by unfold Wd.drp;cases decide (ws.head? =some ↥2) with|true=>exact ⟨by show ws.tail.length≤_;simp,λw hw=>List.mem_of_mem_tail hw⟩|false=>exact ⟨Nat.le_refl _,λw hw=>hw⟩
theorem znq {ns:List Str} {xs:Ji} (h:ns.length≤8):(wds ns xs).length≤24:=by
 have k:∀ts:List Wd.Tm,(↑54).length≤3*ts.length:=λts=>by
  induction ts with
   |nil=>simp
   |cons t ts ih=>
    rw [List.flatMap_cons,List.length_append,List.length_cons];have:t.ws.length≤3:=by unfold Wd.Tm.ws;cases t.ct<;>simp
    omega
 have h1:=k (Wd.tmL ns xs);have h2:(Wd.tmL ns xs).length≤(↑32).length:=by unfold Wd.tmL;rw [List.length_map];exact List.length_filter_le _ _
 rw [List.length_zip] at h2;unfold wds;omega
theorem zpl (k:Nat):Wd.num k≠("=" :Str):=λz=>by have:=Wd.num_all k 61 (by show 61∈(Wd.num k).cps.toList;rw [z];decide+kernel);omega
theorem zu7 {ns:List Str} {xs:Ji} (h:Wd.NmsP ns) (hx:XsP ns.length xs):SdP (zkH ns xs)∧zaO (zkH ns xs)=((↑32).filter ↑58).map (λp=>(p.2,p.1)):=by
 unfold zkH;by_cases z:wds ns xs=[]
 ·rw [decide_eq_true z];refine ⟨⟨by show ("=" :Str)∉[↑6];decide+kernel,by show 1≤1000;decide,λq=>absurd rfl q⟩,?_⟩;have e:(↑32).filter ↑58=[]:=by cases e:(↑32).filter ↑58 with|nil=>rfl|cons p ps=>exact absurd z (by unfold wds Wd.tmL;rw [e];simp [Wd.Tm.ws,Wd.tmOf])
  rw [e];show zaO [↑6]=[];unfold zaO;rw [decide_eq_true rfl];rfl
 ·rw [decide_eq_false z];obtain ⟨s1,s2⟩:=zoM z;have f:(wds ns xs).foldl Wd.stepT []=(Wd.tmL ns xs).map Wd.Tm.ws:=by unfold wds;rw [Wd.fold_tms λt ht=>(ztI h hx ht).1];rfl
  refine ⟨⟨λq=> ?_,?_,λ_ t ht=> ?_⟩,?_⟩
  ·rcases zo8 (zfS.2 _ q) with e|e|⟨p,hp,_,e|e⟩
   ·exact absurd e ⇑6
   ·exact absurd e ⇑6
   ·exact (ziD (h.1 p.1 (List.of_mem_zip (show (p.1,p.2)∈_ from hp)).1)).2 e.symm
   ·exact zpl _ e.symm
  ·have:=zfS (ws:=wds ns xs);have:=znq (ns:=ns) (xs:=xs) h.2.2;show (Wd.drp (wds ns xs)).length≤1000;omega
  ·have ht:t∈(Wd.sgn (Wd.drp (wds ns xs))).foldl Wd.stepT []:=ht;rw [s1,f] at ht;obtain ⟨u,hu,rfl⟩:=List.mem_map.mp ht;exact ⟨u,rfl,(ztI h hx hu).2⟩
  ·show zaO (Wd.drp (wds ns xs))=_;rw [ztJ s2,s1,f];unfold Wd.tmL;rw [List.map_map,List.map_map];refine List.map_congr_left λp hp=> ?_;obtain ⟨h1,h2⟩:=List.mem_filter.mp hp;exact zuH (by simpa using h2) (hx.2 p.2 (List.of_mem_zip (show (p.1,p.2)∈_ from h1)).2)
theorem zsn {x:Str} (h:Wd.Nm x):Wd.Fr 32 x∧1≤x.length∧x.length≤12:=⟨λz=>by have:=h.1 32 z;omega,h.2.1,h.2.2.1⟩
theorem zqR {k:Nat} (h0:0<k) (h:k<10^12):Wd.Fr 32 (Wd.num k)∧1≤(Wd.num k).length∧(Wd.num k).length≤12:=⟨λz=>by have:=Wd.num_all k 32 z;omega,(Wd.num_wrd h h0).2.1,(Wd.num_wrd h h0).2.2⟩
theorem zgP:(Wd.Fr 32 ↥2∧1≤(↥2).length∧(↥2).length≤12)∧(Wd.Fr 32 ⇑2∧1≤(⇑2).length∧(⇑2).length≤12)∧(Wd.Fr 32 ↑6∧1≤(↑6).length∧(↑6).length≤12)∧(Wd.Fr 32 ⇑4∧1≤(⇑4).length∧(⇑4).length≤12)∧(Wd.Fr 32 ↑14∧1≤(↑14).length∧(↑14).length≤12)∧(Wd.Fr 32 ↑15∧1≤(↑15).length∧(↑15).length≤12):=by unfold Wd.Fr;decide+kernel
theorem zrl {ns:List Str} {xs:Ji} (h:Wd.NmsP ns) (hx:XsP ns.length xs) {w:Str} (hw:w∈zkH ns xs):Wd.Fr 32 w∧1≤w.length∧w.length≤12:=by
 unfold zkH at hw;by_cases z:wds ns xs=[];·rw [decide_eq_true z] at hw;have:w=↑6:=List.mem_singleton.mp hw;rw [this];exact zgP.2.2.1
 ·rw [decide_eq_false z] at hw;rcases zo8 (zfS.2 _ hw) with e|e|⟨p,hp,h0,e|e⟩
  ·rw [e];exact zgP.1
  ·rw [e];exact zgP.2.1
  ·rw [e];exact zsn (h.1 p.1 (List.of_mem_zip (show (p.1,p.2)∈_ from hp)).1)
  ·rw [e];exact zqR ↑0 (hx.2 p.2 (List.of_mem_zip (show (p.1,p.2)∈_ from hp)).2)
theorem zrk {ns:List Str} {xs:Ji} (h:ns.length≤8):zkH ns xs≠[]∧(zkH ns xs).length≤24:=by
 unfold zkH;rcases zhx ns xs with q|⟨a,b,c,r,q⟩
 ·rw [decide_eq_true q];exact ⟨by show [↑6]≠[];simp,by show 1≤24;decide⟩
 ·rw [decide_eq_false (show¬wds ns xs=[] by rw [q];simp)];refine ⟨?_,Nat.le_trans zfS.1 (znq h)⟩;show Wd.drp (wds ns xs)≠[];rw [q];unfold Wd.drp;cases decide ((a::b::c::r).head? =some ↥2) with|true=>show b::c::r≠[];simp|false=>show a::b::c::r≠[];simp
theorem zdQ {k:Str} {ws:List Str} (h:ws≠[]):Txt.join ⇑1 (k::ws)=k++⇑1++Txt.join ⇑1 ws:=by show Builtin.Str.glued ⇑1 (k::ws)=k++⇑1++Builtin.Str.glued ⇑1 ws;rw [StrLaws.glued_eq_join,StrLaws.glued_eq_join];cases ws with|nil=>exact absurd rfl h|cons w r=>rfl
theorem zug {k x:Str} {ws:List Str} (h:ws≠[]) (hl:ws.length≤100) (hk:Wd.Fr 32 k∧1≤k.length∧k.length≤12) (hw:∀w∈ws,Wd.Fr 32 w∧1≤w.length∧w.length≤12) (e:x=k++⇑1++Txt.join ⇑1 ws):Wd.LnP x (k::ws):=by
 have e2:x=Txt.join ⇑1 (k::ws):=by rw [zdQ h];exact e
 have hw':∀w∈k::ws,Wd.Fr 32 w∧1≤w.length∧w.length≤12:=λw q=>by
  rcases List.mem_cons.mp q with rfl|q
  ·exact hk
  ·exact hw w q
 refine ⟨e2,by simp,λw q=>⟨(hw' w q).1,(hw' w q).2.1⟩,?_⟩;rw [e2];exact Nat.le_trans (Wd.join_len (n:=101) (B:=12) (by simp;omega) λw q=>(hw' w q).2.2) ↥1
theorem zkB:(↑23=⇑4++⇑1)∧(("turn " :Str)=↑14++⇑1)∧(↑39=↑15++⇑1):=by decide+kernel
theorem zq2 {d:DeskD} {k x:Str} {xs:Ji} (h:DkP d) (hx:XsP d.names.length xs) (hk:k=⇑4∨k=↑14) (e:x=k++⇑1++zaP d.names xs):TeP k d x∧∃ws,Wd.LnP x (k::ws)∧zaG d.names (zaO ws)=xs:=by
 obtain ⟨n,h1,h2,h3,h4,h5⟩:=h;obtain ⟨d1,d2⟩:=zrk (ns:=d.names) (xs:=xs) h4.2.2;have L:Wd.LnP x (k::zkH d.names xs):=zug d1 ↑0 (by rcases hk with rfl|rfl;exact zgP.2.2.2.1;exact zgP.2.2.2.2.1) (λw hw=>zrl h4 hx hw) (by rw [e,zhZ,zlx]);obtain ⟨s1,s2⟩:=zu7 h4 hx;have b:zaG d.names (zaO (zkH d.names xs))=xs:=by rw [s2];exact zvz h4.2.1 hx.1
 refine ⟨⟨⟨n,h1,h2,h3,h4,h5⟩,hk,_,L,s1,⟨h4.2.2,λp hp=> ?_⟩,by rw [b];exact hx⟩,_,L,b⟩;rw [s2] at hp;obtain ⟨q,hq,rfl⟩:=List.mem_map.mp hp;exact (List.of_mem_zip (show (q.1,q.2)∈_ from (List.mem_filter.mp hq).1)).1
theorem zjf {d:DeskD} {x:Str} {ws:List Str} (h:DkP d) (L:Wd.LnP x (⇑4::ws)):zal d x=↑23++zaF d.names (zaG d.names (zaO ws)):=by obtain ⟨n,h1,h2,h3,h4,h5⟩:=h;unfold zal;rw [znD L];show za2 d ⇑4 [zaG d.names (zaO ws)]=_;unfold za2;rw [h5,Wd.ix0];show ↑23++zaF d.names (zdJ ⟨(n:Int),[]⟩ _)=_;rw [zqK]
theorem zs9 {ns:List Str} {xs:Ji} (hl:xs.length=ns.length):(↑32).filter ↑58=[]↔∀y∈xs,y=0:=by
 rw [List.filter_eq_nil_iff];constructor
 ·intro h y hy;obtain ⟨i,hi,e⟩:=List.getElem_of_mem hy;have:=h (ns[i]'↑0,xs[i]) (List.mem_iff_getElem.mpr ⟨i,by rw [List.length_zip];omega,by rw [List.getElem_zip]⟩);have:xs[i]=0:=by simpa using this
  omega
 ·intro h p hp;have:=h p.2 (List.of_mem_zip (show (p.1,p.2)∈_ from hp)).2;simp [this]
theorem zjs {ns:List Str} {xs:Ji} (h:Wd.NmsP ns) (hx:XsP ns.length xs):zaP ns xs=↑6↔∀y∈xs,y=0:=by
 rw [zhZ,zlx,←zs9 hx.1];have j1:↑6=Txt.join ⇑1 [↑6]:=by show _=Builtin.Str.glued ⇑1 [↑6];rw [StrLaws.glued_eq_join];rfl
 have w0:wds ns xs=[]↔(↑32).filter ↑58=[]:=by unfold wds Wd.tmL;cases (↑32).filter ↑58 with|nil=>simp|cons p ps=>simp [Wd.Tm.ws,Wd.tmOf]
 rw [←w0];constructor
 ·intro e;rw [j1] at e;have e2:Txt.split (Txt.join ⇑1 (zkH ns xs)) ⇑1=Txt.split (Txt.join ⇑1 [↑6]) ⇑1:=by rw [e]
  rw [Wd.split_joinT (zrk h.2.2).1 (λw hw=>(zrl h hx hw).1),Wd.split_joinT ↥4 (λw hw=>by rw [List.mem_singleton.mp hw];exact zgP.2.2.1.1)] at e2;by_cases z:wds ns xs=[];·exact z
  ·unfold zkH at e2;rw [decide_eq_false z] at e2;exact absurd e2 (zoM z).2
 ·intro e;unfold zkH;rw [decide_eq_true e];exact j1.symm
theorem zrY {d:DeskD} {x:Str} {xs:Ji} {ws:List Str} (h:DkP d) (hx:XsP d.names.length xs) (L:Wd.LnP x (↑14::ws)) (b:zaG d.names (zaO ws)=xs) :
  zaS d x=("turn " :Str)++((toString (if (decide (zaP d.names xs=↑6))=true then (1:Int) else 0):String):Str):=by
   obtain ⟨n,h1,h2,h3,h4,h5⟩:=h;unfold zaS;rw [znD L];show za1 d ↑14 [zaG d.names (zaO ws)]=_;unfold za1;rw [h5,Wd.ix0,b];show zaU ↑14 [(za6 ⟨(n:Int),[]⟩ xs).a]=_;have nw:∀k:Int,zaU ↑14 [k]=("turn " :Str)++((toString k:String):Str):=λk=>by show Txt.join ⇑1 [↑14,((toString k:String):Str)]=_;rw [zdQ ↥4,zkB.2.1];show _=↑14++⇑1++((toString k:String):Str);congr 1
   rw [nw];rcases zrj (n:=n) (h1 ▸ hx) h2 h3 with ⟨a,q⟩|⟨a,q⟩
   ·rw [q,if_pos (decide_eq_true ((zjs h4 hx).mpr a))]
   ·rw [q,if_neg (by rw [decide_eq_false λz=>a ((zjs h4 hx).mp z)];simp)]
theorem ztN {ns:List Str} {d:DeskD} (h:Wd.NmsP ns) (h0:ns≠[]):TwP (↑39++Txt.join ⇑1 ns)∧zaz d (↑39++Txt.join ⇑1 ns)=((↑39++((toString ↑9:String):Str)),⟨ns,some ⟨↑9,[]⟩⟩):=by
 have L:Wd.LnP (↑39++Txt.join ⇑1 ns) (↑15::ns):=zug h0 (by have:=h.2.2;omega) zgP.2.2.2.2.2 (λw hw=>zsn (h.1 w hw)) (by rw [zkB.2.2]);have N:Wd.NsP ns:=⟨h0,h.2.2,λw hw=>by obtain ⟨a,b⟩:=ziD (h.1 w hw);simp at a ⊢;exact ⟨a.1,a.2,b⟩⟩;refine ⟨⟨ns,L,N,h,h0⟩,?_⟩;unfold zaz;rw [zqN L];show za8 d ns=_;unfold za8;have nw:∀k:Int,zaU ↑15 [k]=↑39++((toString k:String):Str):=λk=>by show Txt.join ⇑1 [↑15,((toString k:String):Str)]=_;rw [zdQ ↥4,zkB.2.2];show _=↑15++⇑1++((toString k:String):Str);congr 1
 rw [zu1,nw]
theorem zwj {ns:List Str} (h:Wd.NmsP ns) (h0:ns≠[]):DkP ⟨ns,some ⟨↑9,[]⟩⟩:=⟨ns.length,rfl,List.length_pos_iff.mpr h0,h.2.2,h,rfl⟩
theorem zl1 {s:List Str} {y:Str} {i:Nat} (h:s.length≤i):(s++[y]).length≤i+1:=by simp;omega
theorem zsN {d:Int}:InB (↑45).length (d%(26:Int)):=by
 have e:(↑45).length=26:=by decide+kernel
 rw [e];unfold InB;omega
theorem zvV {s L:Str} {d:Int} {i:Nat} (h:s.length≤i):(s++ixS L d).length≤i+1:=by rw [Wd.app_len];have:(ixS L d).length=1:=rfl;omega
theorem zld {n:Nat}:(zdA 0 n).length=n:=by simp [zdA]
theorem zvW {z d:Int} {r:Str} (hZ:z=(1:Int)+(d%(12:Int))) (h:r.length≤(zdA 0 z.toNat).length):r.length≤12:=by rw [zld] at h;omega
theorem zaW {L:Str} {f n:Int} (h:0≤n):(Txt.mul (ixS L f) n).length=n.toNat:=by rw [Wd.cs_len,Wd.cs_mul rfl h,List.length_replicate]
theorem zvq {s L:Str} {b:Bool} {x:Int} {i:Nat} (h:s.length≤12) (hx:i<(10:Int).toNat∧x=0+(i:Int)):(bif b then (Txt.mul (ixS L x) ((1:Int)+x)) else s).length≤12:=by have:i<10:=hx.1;cases b with|true=>show (Txt.mul (ixS L x) ((1:Int)+x)).length≤12;rw [zaW ↑0];omega|false=>exact h
theorem zwx {z d e:Int} {s L:Str} {i:Nat} {x:Int} (hZ:z=(1:Int)+(d%(12:Int))) (h:s.length≤i) (hx:i<z.toNat∧x=0+(i:Int)):s.length+(ixS L e).length≤sizeLine:=by have:(ixS L e).length=1:=rfl;exact zap ↑0
theorem ztn {x:Int} {i:Nat} (hx:i<(10:Int).toNat∧x=0+(i:Int)):InB (↑45).length x:=by
 have:i<10:=hx.1;have e:(↑45).length=26:=by decide+kernel
 rw [e];unfold InB;omega
theorem zqk {L:Str} {f n:Int} (h:0≤n) (h9:n≤100):MulOk (ixS L f) n:=Wd.mul_ok (c:=_) rfl h h9
theorem zuW {L:Str} {x:Int} {i:Nat} (hx:i<(10:Int).toNat∧x=0+(i:Int)):MulOk (ixS L x) ((1:Int)+x):=by have:i<10:=hx.1;exact zqk ↑0 ↑0
theorem zsZ {n x:Int} {s:List Str} {i:Nat} (hp:0≤n∧n≤8) (h:s.length≤i) (hx:i<n.toNat∧x=0+(i:Int)):s.length<sizeLine :=
 Nat.lt_of_le_of_lt (show _≤10000 by omega) ↥1
noncomputable def zbn (P0:Int) (P1:Int):↑2 :=
 (Let ↑45 (λ(v271:Str)=>(Let (List.foldl ↑134 (P0,[]) (zdA 0 P1.toNat)) (λ(r296:Int×↑2)=>r296.2))))
def zc3 (P0:Int) (P1:Int):Prop:=0≤P1∧P1≤8
def zfM (K:W.Frag) (A:Adr):Sp:=Spv (ι:=Int×Int) (λx=>[dI x.1,dI x.2]) (λx=>zc3 x.1 x.2) (λx=> .ow true (List.map dS (zbn x.1 x.2)))
theorem zaZ:FnScope ["_law_digits","_law_many","_law_letters","_law_names","_law_k","_law_word","_law_size","_law_place","_law_extra"] ["_law_digits","_law_many"] (zaf ze4):=⇑5
theorem zif (F:Fun K "_law_spelled" "_law_spelled" ze4 f fd) (T:Txt K mg A) :FnOk P w K mg base ↑1 1 f fd ["_law_digits","_law_many"] (zfM K A):=by refine F.okV zaZ ↑5 ↥8;obtain ⟨P0,P1⟩:=x;have hu:=hr.units;replace hp:zc3 P0 P1:=hp;unfold zc3 at hp;refine ⟨_,(zaa (zar (i:=2) zaZ.nd rfl ↥0 zaC) (zaa (zar (i:=3) zaZ.nd rfl ↥0 (zbc zcY)) (zaa (zdl PassesOwn.never rfl (zf4 rfl T.range ↑[pv 1]) (zaE (i:=4) zaZ.nd rfl ↥0 ↥0) (zaa (zar (i:=5) zaZ.nd rfl ↥0 zaC) (zaa (zar (i:=6) zaZ.nd rfl ↥0 (zaw zdS zah (zaw zcr (pv 0) zah))) (zaa (zar (i:=0) zaZ.nd rfl ↥0 (zaw zbf (pv 0) zah)) (zaa (zdl PassesOwn.never rfl (zf4 rfl T.range ↑[pv 6]) (zaE (i:=7) zaZ.nd rfl ↥0 ↥0) (zaa (zar (i:=5) zaZ.nd rfl ↥0 (zaw zbj (pv 5) (zbp zkf (pv 2) (zaw zcr (pv 0) zah) ⇑7))) (zaa (zar (i:=0) zaZ.nd rfl ↥0 (zaw zbf (pv 0) zah)) zad))) (zaa (zdl PassesOwn.never rfl (zf4 rfl T.range ↑[zah]) (zaE (i:=8) zaZ.nd rfl ↥0 ↥0) (zaa (za5 (PW.pt (zoZ (zaq (zfp (K:=K) rfl) (pv 5) (pv 3) rfl) (zkx (zaq zcD (pv 5) zaC (zay _))))) (zaa (zar (i:=5) zaZ.nd rfl ↥0 (zaw zfE (zbp zkf (pv 2) (pv 8) ⇑7) (zaw zdS zah (pv 8)))) zad) zad) zad)) (zaa (zb1 (zbI (K:=K) rfl (pv 3) ↑[pv 5])) zad))))))) (zaa (zaM (pv 3)) zad)))),.inl ?_⟩;show L2.Run _ ([⇑[dI P0],⇑[dI P1],.no,.no,.no,.no,.no,.no,.no]:L2.Ctx) _ (↑55 (zbn P0 P1));unfold zbn;exact (zas (m:=true) (x:=↑45) dS ↑55 zax (λv271 hv271=>have hL:=hv271;(zdX (m:=true) (ds:=List.map dS []) (zbU (m:=true) zae) (zbS (s0:=(P0,[])) ↑89 ↑55 ↑134 (λ(i:Nat) (s272:Int×↑2)=>s272.2.length≤i) (zi3 (m:=true) (n:=P1) ↑13 (by first|(refine ⟨?_,?_⟩<;>omega)|decide)) ↑25 ↥(Nat.le_refl 0) (λi274 x273 s272 hx275 hI276=>have v275:=zcq hx275;⟨↥(zl1 ⇑0),(zas (m:=true) (x:=("" :Str)) dS (λz=>Oc.nx (↑89 z)) zax (λv277 hv277=>have hW:=hv277;(zas (m:=true) (x:=((1:Int)+(s272.1%(12:Int)))) dI (λz=>Oc.nx (↑89 z)) (zaX (x:=(1:Int)) (y:=(s272.1%(12:Int))) zax (zaN (x:=s272.1) (y:=(12:Int)) ↑16 zax ↥1)) (λv278 hv278=>have hZ:=hv278;(zas (m:=true) (x:=(s272.1/(12:Int))) dI (λz=>Oc.nx (↑89 z)) (zaN (x:=s272.1) (y:=(12:Int)) ↑16 zax ↥(⇑8)) (λv279 hv279=>(zbS (s0:=(v277,v279)) ↑125 (λz=>Oc.nx (↑89 z)) (λ(s280:Str×Int) (x281:Int)=>(Let (s280.1++(ixS v271 (s280.2%(26:Int)))) (λ(v285:Str)=>(Let (s280.2/(26:Int)) (λ(v286:Int)=>(v285,v286)))))) (λ(i:Nat) (s280:Str×Int)=>s280.1.length≤i) (zi3 (m:=true) (n:=v278) ↑65 (by first|(refine ⟨?_,?_⟩<;>omega)|decide)) ↑25 (by rw [hW];show (("" :Str)).length≤0;decide+kernel) (λi282 x281 s280 hx283 hI284=>have v283:=zcq hx283;⟨↥(zvV ⇑0),(zas (m:=true) (x:=(s280.1++(ixS v271 (s280.2%(26:Int))))) dS (λz=>Oc.nx (↑125 z)) (zcP (x:=s280.1) (y:=(ixS v271 (s280.2%(26:Int)))) ↑31 (zkj (x:=v271) (i:=(s280.2%(26:Int))) ↑34 (zaN (x:=s280.2) (y:=(26:Int)) (Ev.any (m:=true) ⇑3) zax ↥1) (by rw [hL];decide+kernel) (by rw [hL];exact zsN)) ↥(zwx hZ ⇑0 (zcq ⇑0))) (λv285 hv285=>have hW:=hv285;(zas (m:=true) (x:=(s280.2/(26:Int))) dI (λz=>Oc.nx (↑125 z)) (zaN (x:=s280.2) (y:=(26:Int)) (Ev.any (m:=true) ⇑3) zax ↥(⇑8)) (λv286 hv286=>(zao (.eq (.eq (.eq (.eq (.eq (.eq (.eq (.no (.eq .nil))))))))))))))⟩) (λr287 hr287 hI=>(zbS (s0:=r287.1) (λ(s288:Str)=>([↥[dI r287.2],⇑[dI P1],↥[dS v271],.ow true (List.map dS s272.2),↥[dI x273],↥[dS s288],↥[dI v278],.no,.no]:L2.Ctx)) (λz=>Oc.nx (↑89 z)) (λ(s288:Str) (x289:Int)=>(Let (bif ((decide (s288∈s272.2))||(decide (s288=↑6))) then (Txt.mul (ixS v271 x289) ((1:Int)+x289)) else s288) (λ(v294:Str)=>v294))) (λ(i:Nat) (s288:Str)=>s288.length≤12) (zi3 (m:=true) (n:=(10:Int)) zax (by first|(refine ⟨?_,?_⟩<;>omega)|decide)) ↑25 ↥(zvW hZ ⇑0) (λi290 x289 s288 hx291 hI292=>have v291:=zcq hx291;⟨↥(zvq ⇑0 (zcq ⇑0)),(zbJ (b:=((decide (s288∈s272.2))||(decide (s288=↑6)))) (λbb=>([↥[dI r287.2],⇑[dI P1],↥[dS v271],.ow true (List.map dS s272.2),↥[dI x273],↥[dS (bif bb then (Txt.mul (ixS v271 x289) ((1:Int)+x289)) else s288)],↥[dI v278],.no,↥[dI x289]]:L2.Ctx)) (zjP (b:=(decide (s288∈s272.2))) (zai (zpc (i:=3) (x:=s288) (xs:=s272.2) rfl ↑31)) (λhb=>(zai (zcL (x:=s288) (y:=↑6) ↑31 zax)))) (λh293=>(zbG (m:=true) (zju (x:=(ixS v271 x289)) (i:=((1:Int)+x289)) (zkj (x:=v271) (i:=x289) ↑34 ↑66 (by rw [hL];decide+kernel) (by rw [hL];exact ztn (zcq ⇑0))) (zaX (x:=(1:Int)) (y:=x289) zax ↑66) ↥(zuW (zcq ⇑0))) (zao ↑25))) (λh293=>(zao ↑25)) (zco (x:=(bif ((decide (s288∈s272.2))||(decide (s288=↑6))) then (Txt.mul (ixS v271 x289) ((1:Int)+x289)) else s288)) (λv294=>([↥[dI r287.2],⇑[dI P1],↥[dS v271],.ow true (List.map dS s272.2),↥[dI x273],↥[dS v294],↥[dI v278],.no,↥[dI x289]]:L2.Ctx)) (λz=>Oc.nx ((λ(s288:Str)=>([↥[dI r287.2],⇑[dI P1],↥[dS v271],.ow true (List.map dS s272.2),↥[dI x273],↥[dS s288],↥[dI v278],.no,.no]:L2.Ctx)) z)) (λv294 hv294=>(zao (.eq (.eq (.eq (.eq (.eq (.eq (.eq (.eq (.no .nil)))))))))))))⟩) (λr295 hr295 hI=>(zca (f:=dS) (xs:=s272.2) (x:=r295) rfl ↑31 ↥(zsZ hp ⇑0 (zcq ⇑0)) (zao (.old (.eq (.eq (.eq (.no (.no (.no (.eq (.eq .nil)))))))))))))))))))))⟩) (λr296 hr296 hI=>(zd1 (ziq (i:=3) rfl)))))))
noncomputable def spG (s:Str×Int) (_:Int):Str×Int:=(s.1++ixS Wd.abc (s.2%26),s.2/26)
noncomputable def spF (s:Int×List Str) (_:Int):Int×List Str :=
 Let ((zdA 0 (1+s.1%12).toNat).foldl spG (("" :Str),s.1/12)) λr=>(r.2,s.2++[(zdA 0 10).foldl (Wd.chg (λt=>decide (t∈s.2)||decide (t=↑6)) Wd.wk) r.1])
theorem zmG {d n:Int}:zbn d n=((zdA 0 n.toNat).foldl spF (d,[])).2:=rfl
theorem zuh {d:Int} {n:Nat}:Wd.Lt ((zdA 0 n).foldl spG (("" :Str),d)).1∧((zdA 0 n).foldl spG (("" :Str),d)).1.length=n:=by
 have:=zeK (f:=spG) (I:=λi s=>Wd.Lt s.1∧s.1.length=i) (xs:=zdA 0 n) (s:=(("" :Str),d)) (n:=0) ⟨(λc hc=>by
  have:Wd.cs ("" :Str)=[]:=by decide+kernel
  rw [this] at hc;cases hc),by show (("" :Str)).length=0;decide+kernel⟩ λi x s e q=>by refine ⟨q.1.app (Wd.Lt.of (x:=s.1) ↑0 ↑0),?_⟩;show (s.1++ixS Wd.abc (s.2%26)).length=_;rw [Wd.app_len,q.2];rfl
 rw [zld,Nat.zero_add] at this;exact this
theorem zm2 {d n:Int} (h:0≤n∧n≤8):Wd.NmsP (zbn d n)∧(zbn d n).length=n.toNat:=by
 rw [zmG];have:=zeK (f:=spF) (I:=λi s=>Wd.NmsP s.2∧s.2.length=i) (xs:=zdA 0 n.toNat) (s:=(d,[])) (n:=0) ⟨Wd.NmsP.nil,rfl⟩ λi x s e q=>by have hi:=(zcq e).1;rw [Nat.zero_add] at q ⊢;obtain ⟨g1,g2⟩:=zuh (d:=s.1/12) (n:=(1+s.1%12).toNat);obtain ⟨n1,n2⟩:=Wd.spell_new (ns:=s.2) (w:=((zdA 0 (1+s.1%12).toNat).foldl spG (("" :Str),s.1/12)).1) ↑0 g1 ↑0 ↑0;refine ⟨q.1.snoc n1 n2 ↑0,?_⟩;show (s.2++[_]).length=_;simp;omega
 rw [zld,Nat.zero_add] at this;exact this
theorem zsu {a:Int} {n:Nat} (h0:0≤a) (h:decide (a<((n:Nat):Int))=true):InB n a:=by have:=of_decide_eq_true h;unfold InB;omega
theorem zrr {a:Int} {n:Nat} {b:Bool} (h0:0≤a) (h:(decide (a<((n:Nat):Int)) && b)=true):InB n a:=zsu h0 (Bool.and_eq_true_iff.mp h).1
theorem zuV {z p c e:Int} (hZ:z=(1:Int)+(c%(12:Int))) (hP:p=e%z):(0≤p∧p<z)∧1≤z∧z≤12:=by
 have h1:0<z:=by omega
 have:=Int.emod_nonneg e (show z≠0 by omega);have:=Int.emod_lt_of_pos e h1;omega
theorem zpE {s:List Str} {a c:Str} {b:Bool} {i:Nat} (h:s.length≤i):(bif b then (s++[a]) else (s++[c])).length≤i+1:=by cases b<;>exact zl1 h
theorem zwf {L g:Str} {f d p z:Int} (h:(0≤p∧p<z)∧1≤z∧z≤12) (hg:g=ixS L d):(Txt.mul (ixS L f) p).length+g.length≤sizeLine:=by rw [zaW h.1.1,hg];have:(ixS L d).length=1:=rfl;exact zap ↑0
theorem zwe {L g:Str} {f d p z:Int} (h:(0≤p∧p<z)∧1≤z∧z≤12) (hg:g=ixS L d):((Txt.mul (ixS L f) p)++g).length+(Txt.mul (ixS L f) ((z-p)-(1:Int))).length≤sizeLine:=by rw [Wd.app_len,zaW h.1.1,zaW ↑0,hg];have:(ixS L d).length=1:=rfl;exact zap ↑0
theorem zvs {L g:Str} {f d e:Int} (hg:g=ixS L d):g.length+(Txt.mul (ixS L f) (e%(12:Int))).length≤sizeLine:=by rw [zaW ↑0,hg];have:(ixS L d).length=1:=rfl;exact zap ↑0
noncomputable def zbv (P0:Ji) (P1:Int) (P2:Int):↑2 :=
 (Let ↑45 (λ(v297:Str)=>(Let (zaB P0 P1) (λ(v298:Int)=>(bif ((decide (P1<↑10)) && (decide (((↑77/(2147483647:Int))%(2:Int))=(1:Int)))) then (zbn (↑77/(4294967294:Int)) P2) else (Let ((1:Int)+(v298%(12:Int))) (λ(v300:Int)=>(Let ((v298/(12:Int))%(26:Int)) (λ(v301:Int)=>(Let ((v298/(312:Int))%v300) (λ(v302:Int)=>(Let (ixS v297 v301) (λ(v303:Str)=>(Let (List.foldl (λ(s304:↑2) (x305:Int)=>(Let (ixS v297 (((v301+x305)+(1:Int))%(26:Int))) (λ(v309:Str)=>(Let ↑121 (λ(v311:↑2)=>v311))))) [] (zdA 0 P2.toNat)) (λ(r312:↑2)=>r312)))))))))))))))
def zdY (P0:Ji) (P1:Int) (P2:Int):Prop:=0≤P1∧0≤P2∧P2≤8
def zg0 (K:W.Frag) (A:Adr):Sp:=Spv (ι:=Ji×Int×Int) (λx=>[dQ K (List.map dI x.1),dI x.2.1,dI x.2.2]) (λx=>zdY x.1 x.2.1 x.2.2) (λx=> .ow true (List.map dS (zbv x.1 x.2.1 x.2.2)))
theorem zbB:FnScope ["_law_script","_law_at","_law_many","_law_letters","_law_cell_here","_law_size","_law_first","_law_place","_law_base","_law_names","_law_k","_law_sign"] ["_law_script","_law_at","_law_many"] (zaf zf0):=⇑5
theorem zj2 (F:Fun K "_law_named" "_law_named" zf0 f fd) (T:Txt K mg A) (yat:Callee P w K mg base ↑1 1 "_law_cell" ["_law_script","_law_k"] (zfV K A)) (ya4:Callee P w K mg base ↑1 1 "_law_spelled" ["_law_digits","_law_many"] (zfM K A)):FnOk P w K mg base ↑1 2 f fd ["_law_script","_law_at","_law_many"] (zg0 K A):=by refine F.okV zbB ↑5 ↥8;obtain ⟨P0,P1,P2⟩:=x;have hu:=hr.units;replace hp:zdY P0 P1 P2:=hp;unfold zdY at hp;refine ⟨_,(zaa (zar (i:=3) zbB.nd rfl ↥0 zaC) (zaa (zar (i:=4) zbB.nd rfl ↥0 (zaR yat ↑3 rfl zaL ↑[pv 0,pv 1])) (zaa (za5 (PW.pt (zl7 (zaq zh7 (pv 1) ↑59 (zay _)) (zjh (zaq zcD (zaw zcr (zaw zbf (zaA zhm rfl T.abs ⇑6 ↑[(zbp ⇑9 (pv 0) (pv 1) ⇑7)]) zah) zah) zah (zay _))))) (zaa (zaM (zaR ya4 ↑3 rfl zaL ↑[(zaw zbf (zaA zhm rfl T.abs ⇑6 ↑[(zbp ⇑9 (pv 0) (pv 1) ⇑7)]) zah),pv 2])) zad) zad) (zaa (zar (i:=5) zbB.nd rfl ↥0 (zaw zdS zah (zaw zcr (pv 4) zah))) (zaa (zar (i:=6) zbB.nd rfl ↥0 (zaw zcr (zaw zbf (pv 4) zah) zah)) (zaa (zar (i:=7) zbB.nd rfl ↥0 (zaw zcr (zaw zbf (pv 4) zah) (pv 5))) (zaa (zar (i:=8) zbB.nd rfl ↥0 (zbp zkf (pv 3) (pv 6) ⇑7)) (zaa (zar (i:=9) zbB.nd rfl ↥0 (zbc zcY)) (zaa (zdl PassesOwn.never rfl (zf4 rfl T.range ↑[pv 2]) (zaE (i:=10) zbB.nd rfl ↥0 ↥0) (zaa (zar (i:=11) zbB.nd rfl ↥0 (zbp zkf (pv 3) (zaw zcr (zaw zdS (zaw zdS (pv 6) (pv 10)) zah) zah) ⇑7)) (zaa (za5 (zaq zcD (zaw zcr (zaw zbf (pv 4) zah) zah) zah (zay _)) (zaa (zb1 (zbI (K:=K) rfl (pv 9) ↑[zaw zbj (zaw zbj (zaw zfE (pv 8) (pv 7)) (pv 11)) (zaw zfE (pv 8) (zaw zgr (zaw zgr (pv 5) (pv 7)) zah))])) zad) (zaa (zb1 (zbI (K:=K) rfl (pv 9) ↑[zaw zbj (pv 11) (zaw zfE (pv 8) (zaw zcr (zaw zdS (pv 5) (pv 10)) zah))])) zad)) zad))) (zaa (zaM (pv 9)) zad)))))))))),.inl ?_⟩;show L2.Run _ ([⇑[dQ K ↥6],⇑[dI P1],⇑[dI P2],.no,.no,.no,.no,.no,.no,.no,.no,.no]:L2.Ctx) _ (↑55 (zbv P0 P1 P2));unfold zbv;exact (zas (m:=true) (x:=↑45) dS ↑55 zax (λv297 hv297=>have hL:=hv297;(zas (m:=true) (x:=(zaB P0 P1)) dI ↑55 (Ev.any (m:=true) (zau (x:=(P0,P1)) (zac ⇑3 (zac ↑13 zae)) rfl (by show zcX P0 P1;exact hp.1) rfl)) (λv298 hv298=>(zbM (b:=((decide (P1<↑10)) && (decide (((↑77/(2147483647:Int))%(2:Int))=(1:Int))))) ↑55 (ziW (b:=(decide (P1<↑10))) (zai (zaX (x:=P1) (y:=↑10) ↑13 (zbq (f:=dI) (xs:=P0) ⇑3))) (λhb=>(zai (zeE (x:=((↑77/(2147483647:Int))%(2:Int))) (y:=(1:Int)) (zaN (x:=(↑77/(2147483647:Int))) (y:=(2:Int)) (zaN (x:=↑77) (y:=(2147483647:Int)) (zly (Ev.any (m:=false) (zbP (f:=dI) (xs:=P0) ⇑3 ↑13 (by first|exact zsu hp.1 ⇑0|exact zrr hp.1 ⇑0)))) zax ↥(⇑8)) zax ↥1) zax)))) (λh299=>(zaK (zd1 (zhl (EvO.anyS (m:=true) (zcu (x:=((↑77/(4294967294:Int)),P2)) (zac (zaN (x:=↑77) (y:=(4294967294:Int)) (zly (Ev.any (m:=false) (zbP (f:=dI) (xs:=P0) ⇑3 ↑13 (by first|exact zsu hp.1 ⇑0|exact zrr hp.1 ⇑0)))) zax ↥(⇑8)) (zac (Ev.any (m:=false) ↑12) zae)) rfl (by show zc3 (↑77/(4294967294:Int)) P2;exact hp.2) rfl)))))) (λh299=>(zaj (zas (m:=true) (x:=((1:Int)+(v298%(12:Int)))) dI ↑55 (zaX (x:=(1:Int)) (y:=(v298%(12:Int))) zax (zaN (x:=v298) (y:=(12:Int)) ↑49 zax ↥1)) (λv300 hv300=>have hZ:=hv300;(zas (m:=true) (x:=((v298/(12:Int))%(26:Int))) dI ↑55 (zaN (x:=(v298/(12:Int))) (y:=(26:Int)) (zaN (x:=v298) (y:=(12:Int)) ↑49 zax ↥(⇑8)) zax ↥1) (λv301 hv301=>have hF:=hv301;(zas (m:=true) (x:=((v298/(312:Int))%v300)) dI ↑55 (zaN (x:=(v298/(312:Int))) (y:=v300) (zaN (x:=v298) (y:=(312:Int)) ↑49 zax ↥(⇑8)) ↑31 (by first|decide|(show (0:Int)<_;((try simp only [decide_eq_true_eq,decide_eq_false_iff_not,Bool.not_eq_true',Bool.not_eq_false',Bool.and_eq_true,Bool.or_eq_false_iff,Bool.or_eq_true,Bool.and_eq_false_iff,Bool.cond_eq_ite] at*)<;>omega)))) (λv302 hv302=>have hP:=zuV hZ hv302;(zas (m:=true) (x:=(ixS v297 v301)) dS ↑55 (zkj (x:=v297) (i:=v301) ↑22 ↑65 (by rw [hL];decide+kernel) (by rw [hL,hF];exact zsN)) (λv303 hv303=>have hB:=hv303;(zdX (m:=true) (ds:=List.map dS []) (zbU (m:=true) zae) (zbS (s0:=[]) ↑122 ↑55 (λ(s304:↑2) (x305:Int)=>(Let (ixS v297 (((v301+x305)+(1:Int))%(26:Int))) (λ(v309:Str)=>(Let ↑121 (λ(v311:↑2)=>v311))))) (λ(i:Nat) (s304:↑2)=>s304.length≤i) (zi3 (m:=true) (n:=P2) (Ev.any (m:=false) ↑12) (by have z:=hp.2;refine ⟨?_,?_⟩<;>omega)) (.eq (.eq (.eq ↑25))) ↥(Nat.le_refl 0) (λi306 x305 s304 hx307 hI308=>have v307:=zcq hx307;⟨↥(zpE ⇑0),(zas (m:=true) (x:=(ixS v297 (((v301+x305)+(1:Int))%(26:Int)))) dS (λz=>Oc.nx (↑122 z)) (zkj (x:=v297) (i:=(((v301+x305)+(1:Int))%(26:Int))) ↑22 (zaN (x:=((v301+x305)+(1:Int))) (y:=(26:Int)) (zaX (x:=(v301+x305)) (y:=(1:Int)) (zaX (x:=v301) (y:=x305) ↑65 (Ev.any (m:=true) (zab (i:=10) rfl))) zax) zax ↥1) (by rw [hL];decide+kernel) (by rw [hL];exact zsN)) (λv309 hv309=>have hG:=hv309;(zbJ (b:=(decide (((v298/(3744:Int))%(2:Int))=(0:Int)))) (λbb=>([⇑[dQ K ↥6],⇑[dI P1],⇑[dI P2],↥[dS v297],↥[dI v298],↥[dI v300],↥[dI v301],↥[dI v302],↥[dS v303],.ow true (List.map dS (bif bb then (s304++[(((Txt.mul v303 v302)++v309)++(Txt.mul v303 ((v300-v302)-(1:Int))))]) else (s304++[(v309++(Txt.mul v303 ((v300+x305)%(12:Int))))]))),↥[dI x305],↥[dS v309]]:L2.Ctx)) (zai (zeE (x:=((v298/(3744:Int))%(2:Int))) (y:=(0:Int)) (zaN (x:=(v298/(3744:Int))) (y:=(2:Int)) (zaN (x:=v298) (y:=(3744:Int)) ↑49 zax ↥(⇑8)) zax ↥1) zax)) (λh310=>(zca (f:=dS) (xs:=s304) (x:=(((Txt.mul v303 v302)++v309)++(Txt.mul v303 ((v300-v302)-(1:Int))))) rfl (zcP (x:=((Txt.mul v303 v302)++v309)) (y:=(Txt.mul v303 ((v300-v302)-(1:Int)))) (zcP (x:=(Txt.mul v303 v302)) (y:=v309) (zju (x:=v303) (i:=v302) ↑66 ↑71 (by rw [hB];exact zqk hP.1.1 ↑0)) (Ev.any (m:=true) (zab (i:=11) rfl)) (by rw [hB];exact zwf hP hG)) (zju (x:=v303) (i:=((v300-v302)-(1:Int))) ↑66 (zaX (x:=(v300-v302)) (y:=(1:Int)) (zaX (x:=v300) (y:=v302) ↑31 ↑71) zax) (by rw [hB];exact zqk ↑0 ↑0)) (by rw [hB];exact zwe hP hG)) ↥(zsZ hp.2 ⇑0 (zcq ⇑0)) (zao (.eq (.eq (.eq ↑25)))))) (λh310=>(zca (f:=dS) (xs:=s304) (x:=(v309++(Txt.mul v303 ((v300+x305)%(12:Int))))) rfl (zcP (x:=v309) (y:=(Txt.mul v303 ((v300+x305)%(12:Int)))) (Ev.any (m:=true) (zab (i:=11) rfl)) (zju (x:=v303) (i:=((v300+x305)%(12:Int))) ↑66 (zaN (x:=(v300+x305)) (y:=(12:Int)) (zaX (x:=v300) (y:=x305) ↑31 (Ev.any (m:=true) (zab (i:=10) rfl))) zax ↥1) (by rw [hB];exact zqk ↑0 ↑0)) (by rw [hB];exact zvs hG)) ↥(zsZ hp.2 ⇑0 (zcq ⇑0)) (zao (.eq (.eq (.eq ↑25)))))) (zco (x:=↑121) (λv311=>([⇑[dQ K ↥6],⇑[dI P1],⇑[dI P2],↥[dS v297],↥[dI v298],↥[dI v300],↥[dI v301],↥[dI v302],↥[dS v303],.ow true (List.map dS v311),↥[dI x305],↥[dS v309]]:L2.Ctx)) (λz=>Oc.nx (↑122 z)) (λv311 hv311=>(zao (.eq (.eq (.eq (.eq (.eq (.eq (.eq (.eq (.eq (.eq (.no (.no .nil))))))))))))))))))⟩) (λr312 hr312 hI=>(zd1 (ziq (i:=9) rfl))))))))))))))))))))
theorem zqG {sc:Ji} {a n c z f p:Int} (hc:c=zaB sc a) (hz:z=1+c%12) (hf:f=c/12%26) (hp:p=c/312%z) :
  zbv sc a n=(bif ((decide (a<((sc.length:Nat):Int))) && (decide ((((((ixD sc a).natAbs:Nat):Int)/(2147483647:Int))%(2:Int))=(1:Int)))) then (zbn ((((ixD sc a).natAbs:Nat):Int)/(4294967294:Int)) n) else (bif decide (c/3744%2=0) then (zdA 0 n.toNat).map (Wd.nA f p z) else (zdA 0 n.toNat).map (Wd.nB f z))):=by subst hp hf hz hc;unfold zbv;show (bif _ then _ else _)=(bif _ then _ else _);congr 1;show List.foldl _ [] _=_;cases q:decide (zaB sc a/3744%2=0) with|true=>show _=List.map _ _;have:=Wd.fold_map (g:=Wd.nA (zaB sc a/12%26) (zaB sc a/312%(1+zaB sc a%12)) (1+zaB sc a%12)) (zdA 0 n.toNat) [];rw [List.nil_append] at this;rw [←this];rfl|false=>show _=List.map _ _;have:=Wd.fold_map (g:=Wd.nB (zaB sc a/12%26) (1+zaB sc a%12)) (zdA 0 n.toNat) [];rw [List.nil_append] at this;rw [←this];rfl
theorem zqd {sc:Ji} {a n:Int} (h:0≤n∧n≤8):Wd.NmsP (zbv sc a n)∧(zbv sc a n).length=n.toNat:=by
 rw [zqG rfl rfl rfl rfl]
 cases ((decide (a<((sc.length:Nat):Int))) && (decide ((((((ixD sc a).natAbs:Nat):Int)/(2147483647:Int))%(2:Int))=(1:Int)))) with
  |true=>exact zm2 h
  |false=>
   have hf:0≤zaB sc a/12%26∧zaB sc a/12%26<26:=by omega
   have hp:=zuV (z:=1+zaB sc a%12) (p:=zaB sc a/312%(1+zaB sc a%12)) rfl rfl;cases decide (zaB sc a/3744%2=0) with|true=>exact ⟨Wd.nms_map ↑0 (λk _ _=>Wd.nA_nm hf hp.1 hp.2.2) (λk l hk hl e=>Wd.nA_inj hf hp.1 hk hl e),by show (List.map _ _).length=_;simp [zdA]⟩|false=>exact ⟨Wd.nms_map ↑0 (λk _ _=>Wd.nB_nm hf) (λk l hk hl e=>Wd.nB_inj hf hk hl e),by show (List.map _ _).length=_;simp [zdA]⟩
noncomputable def nbA (k c:Int):Int:=bif (decide ((0:Int)<((c/(8:Int))%(3:Int)))) then ((1:Int)+((c/(48:Int))%(ixD [(9:Int),(99:Int),((10:Int) ^ (6:Int).toNat),((10:Int) ^ (9:Int).toNat)] (k%(4:Int))))) else (1:Int)
noncomputable def nbB (k c n:Int):Int:=bif ((decide (k=(0:Int))) && (decide (((c/(8:Int))%(3:Int))=(2:Int)))) then ((1:Int)+((c/(48:Int))%((9:Int)*((10:Int) ^ (11:Int).toNat)))) else n
noncomputable def tmT (c n:Int) (w:Str):Str:=bif (decide ((0:Int)<((c/(8:Int))%(3:Int)))) then ((((toString n:String):Str)++⇑1)++w) else w
noncomputable def ahT (l:Str) (g:Int) (a:Str):Str:=bif (decide (l=⇑4)) then (ixD [⇑1,(" - " :Str)] g) else a
theorem zvp {k:Int}:9≤ixD [(9:Int),(99:Int),((10:Int) ^ (6:Int).toNat),((10:Int) ^ (9:Int).toNat)] (k%(4:Int))∧ixD [(9:Int),(99:Int),((10:Int) ^ (6:Int).toNat),((10:Int) ^ (9:Int).toNat)] (k%(4:Int))≤10 ^ 9:=by
 have:k%4=0∨k%4=1∨k%4=2∨k%4=3:=by omega
 rcases this with e|e|e|e<;>rw [e]<;>decide
theorem zuE {k c:Int}:1≤nbA k c∧nbA k c≤10 ^ 9:=by
 unfold nbA
 cases (decide ((0:Int)<((c/(8:Int))%(3:Int)))) with
  |true=>obtain ⟨a,b⟩:=zvp (k:=k);have h1:=Int.emod_nonneg (c/48) (show (ixD [(9:Int),(99:Int),((10:Int) ^ (6:Int).toNat),((10:Int) ^ (9:Int).toNat)] (k%(4:Int)))≠0 by omega);have h2:=Int.emod_lt_of_pos (c/48) (show 0<(ixD [(9:Int),(99:Int),((10:Int) ^ (6:Int).toNat),((10:Int) ^ (9:Int).toNat)] (k%(4:Int))) by omega);show 1≤1+_∧1+_≤_;omega
  |false=>show (1:Int)≤1∧(1:Int)≤10 ^ 9;decide
theorem ziP {k c:Int}:1≤nbB k c (nbA k c)∧nbB k c (nbA k c)≤9*10 ^ 11∧(k≠0->nbB k c (nbA k c)≤10 ^ 9):=by
 have h:=zuE (k:=k) (c:=c);unfold nbB;by_cases z:k=0
 ·cases q:((decide (k=(0:Int))) && (decide (((c/(8:Int))%(3:Int))=(2:Int)))) with
   |true=>
    have e:((9:Int)*((10:Int) ^ (11:Int).toNat))=900000000000:=by decide
    rw [e];show 1≤1+_∧1+_≤_∧_;refine ⟨by omega,by omega,λq=>absurd z q⟩
   |false=>exact ⟨h.1,by show nbA k c≤_;omega,λ_=>h.2⟩
 ·rw [decide_eq_false z];exact ⟨h.1,by show nbA k c≤_;omega,λ_=>h.2⟩
theorem zus {k c n1 n2:Int} (h1:n1=nbA k c) (h2:n2=nbB k c n1):n2.natAbs.log2<1920:=by subst h1 h2;have:=ziP (k:=k) (c:=c);exact Wd.log_lt ↑0
theorem znJ {k c n1 n2:Int} (h1:n1=nbA k c) (h2:n2=nbB k c n1):(((toString n2:String):Str)).length≤12:=by subst h1 h2;have:=ziP (k:=k) (c:=c);exact Wd.num_leI ↑0 ↑0
theorem bl1:(⇑1).length=1:=by decide+kernel
theorem zih {α:Type} [Inhabited α] {xs:List α} {i:Int} (h:InB xs.length i):ixD xs i∈xs:=by
 unfold ixD atI ixN;unfold InB at h;by_cases z:0≤i;·rw [if_pos z,if_pos h.2];show (xs[i.toNat]?).getD default∈xs;rw [List.getElem?_eq_getElem ↑0];exact List.getElem_mem _
 ·rw [if_neg z,if_pos h.1];show (xs[(i+(xs.length:Int)).toNat]?).getD default∈xs;rw [List.getElem?_eq_getElem ↑0];exact List.getElem_mem _
theorem zqz {ns:List Str} {w c:Int} (h0:ns≠[]) (h:w=c%↑9):InB ns.length w:=by have h1:0<ns.length:=List.length_pos_iff.mpr h0;have:=Int.emod_nonneg c (show ↑9≠0 by omega);have:=Int.emod_lt_of_pos c (show (0:Int)<↑9 by omega);unfold InB;omega
theorem zv3 {ns:List Str} {w:Int} {t:Str} (hp:Wd.NmsP ns) (hw:InB ns.length w) (h:t=ixD ns w):t.length≤12:=by rw [h];exact (hp.1 _ (zih hw)).2.2.1
theorem zv7 {k c n1 n2:Int} {t u:Str} (h1:n1=nbA k c) (h2:n2=nbB k c n1) (ht:t.length≤12) (hu:u=tmT c n2 t):u.length≤25:=by have:=znJ h1 h2;rw [hu];unfold tmT;cases (decide ((0:Int)<((c/(8:Int))%(3:Int)))) with|true=>show ((((toString n2:String):Str)++⇑1)++t).length≤25;rw [Wd.app_len,Wd.app_len,bl1];omega|false=>show t.length≤25;omega
theorem zmq {g c:Int} {n:Nat} (h:g=(c/(24:Int))%(2:Int)) (hn:n=2):InB n g:=by unfold InB;omega
theorem zt2 {l a b:Str} {g c:Int} (hg:g=(c/(24:Int))%(2:Int)) (ha:a=ixD [(" + " :Str),(" - " :Str)] g) (hb:b=ahT l g a):b.length≤3:=by
 have e1:∀w∈[(" + " :Str),(" - " :Str)],w.length≤3:=by decide+kernel
 have e2:∀w∈[⇑1,(" - " :Str)],w.length≤3:=by decide+kernel
 rw [hb];unfold ahT;cases decide (l=⇑4) with|true=>exact e2 _ (zih (zmq hg rfl))|false=>show a.length≤3;rw [ha];exact e1 _ (zih (zmq hg rfl))
theorem zt3 {l a t:Str} (h:decide ↑109=true):((l++a)++t).length≤400:=by have:=of_decide_eq_true h;rw [Wd.app_len,Wd.app_len];omega
theorem zt6 {l a t:Str} {xs ys:Ji} {n:Nat} (h:l.length≤400∧xs.length=n) (hy:ys.length=xs.length):(bif (decide ↑109) then ((l++a)++t) else l).length≤400∧(bif (decide ↑109) then ys else xs).length=n:=by cases q:(decide ↑109) with|true=>exact ⟨zt3 q,by show ys.length=n;omega⟩|false=>exact h
theorem zv1 {n:List Str}:(⇑4,List.map (λ(x:Str)=>(0:Int)) n).1.length≤400∧(⇑4,List.map (λ(x:Str)=>(0:Int)) n).2.length=n.length:=⟨by show (⇑4).length≤400;decide+kernel,by show (List.map _ _).length=_;simp⟩
theorem zuK {ns:List Str} (h0:ns≠[]):(0:Int)<↑9:=by have h1:0<ns.length:=List.length_pos_iff.mpr h0;omega
theorem ztw {n:Nat} {w:Int} {l:Nat} {xs:Ji} (hw:InB n w) (h:l≤400∧xs.length=n):InB xs.length w:=by rw [h.2];exact hw
theorem zvv {k c n1 n2:Int} (h1:n1=nbA k c) (h2:n2=nbB k c n1):(((toString n2:String):Str)).length+(⇑1).length≤sizeLine:=by have:=znJ h1 h2;rw [bl1];exact zap ↑0
theorem zvK {k c n1 n2:Int} {t:Str} (h1:n1=nbA k c) (h2:n2=nbB k c n1) (ht:t.length≤12):((((toString n2:String):Str))++⇑1).length+t.length≤sizeLine:=by have:=znJ h1 h2;rw [Wd.app_len,bl1];exact zap ↑0
theorem zwk {l a:Str} {p:Prop} (h:l.length≤400∧p) (ha:a.length≤3):l.length+a.length≤sizeLine:=zap ↑0
theorem zvB {l a t:Str} {p:Prop} (h:l.length≤400∧p) (ha:a.length≤3) (ht:t.length≤25):(l++a).length+t.length≤sizeLine:=by rw [Wd.app_len];exact zap ↑0
theorem zwy {l:Str} {p:Prop} (h:l.length≤400∧p):l.length≤sizeLine:=zap ↑0
noncomputable def zbu (P0:Ji) (P1:↑2):(Str×Ji) :=
 (Let (List.map (λ(x313:Str)=>(0:Int)) P1) (λ(v316:Ji)=>(Let ⇑4 (λ(v317:Str)=>(Let (List.foldl ↑132 (v317,v316) (zeH (zb9 P0 (some (2:Int)) (some (62:Int))))) (λ(r338:Str×Ji)=>(r338.1,r338.2)))))))
def zdU (P0:Ji) (P1:↑2):Prop:=Wd.NmsP P1∧P1≠[]
def zg1 (K:W.Frag) (A:Adr):Sp:=Spv (ι:=Ji×↑2) (λx=>[dQ K (List.map dI x.1),dL (List.map dS x.2)]) (λx=>zdU x.1 x.2) (λx=> ↥[dL [dS ((zbu x.1 x.2).1),dL (List.map dI ((zbu x.1 x.2).2))]])
theorem zaY:FnScope ["_law_script","_law_names","_law_basket","_law_line","_law_k","_law_cell_here","_law_ware","_law_number","_law_term","_law_sign","_law_ahead"] ["_law_script","_law_names"] (zaf zeU):=⇑5
theorem zjW (F:Fun K "_law_terms" "_law_terms" zeU f fd) (T:Txt K mg A) :FnOk P w K mg base ↑1 1 f fd ["_law_script","_law_names"] (zg1 K A):=by refine F.okV zaY ↑5 ↥8;obtain ⟨P0,P1⟩:=x;have hu:=hr.units;replace hp:zdU P0 P1:=hp;unfold zdU at hp;refine ⟨_,(zaa (zgK (i:=2) rfl zaY.nd rfl rfl (.of (osc:=(zaf zeU)) (N:=["_law_script","_law_names","_law_basket","_law_line","_law_k","_law_cell_here","_law_ware","_law_number","_law_term","_law_sign","_law_ahead"]) (own:=["_law_name"]) (fvn:=[]) (fv:=[]) rfl rfl ⇑6) (za3 (K:=K) rfl (pv 1)) (λ_ _ _ _ _=>⟨(zaE (i:=0) (show (["_law_name"]:List Str).Nodup by decide+kernel) rfl ↥0 (Or.inr rfl)),zce,zah⟩)) (zaa (zar (i:=3) zaY.nd rfl ↥0 zaC) (zaa (zdl PassesOwn.never rfl (zhp rfl rfl T.enumerate ↑[(zcO (zcg (K:=K) rfl) (pv 0) (zdy zah) (zdy zah))]) (zdi (K:=K) (n:=2) rfl rfl (zbb (zaE (i:=4) zaY.nd rfl ↥0 ↥0) (zbb (zaE (i:=5) zaY.nd rfl ↥0 ↥0) zdP))) (zaa (zar (i:=6) zaY.nd rfl ↥0 (zaw zcr (pv 5) ↑70)) (zaa (zar (i:=7) zaY.nd rfl ↥0 zah) (zaa (zar (i:=8) zaY.nd rfl ↥0 (zbp ⇑9 (pv 1) (pv 6) ⇑7)) (zaa (za5 (zaq zjV (zaw zcr (zaw zbf (pv 5) zah) zah) zah (zay _)) (zaa (zar (i:=7) zaY.nd rfl ↥0 (zaw zdS zah (zaw zcr (zaw zbf (pv 5) zah) (zbp ⇑9 (zbc ↑[zah,zah,zaw znx zah zah,zaw znx zah zah]) (zaw zcr (pv 4) zah) ⇑7)))) zad) zad) (zaa (za5 (PW.pt (zl7 (zaq zcD (pv 4) zah (zay _)) (zjh (zaq zcD (zaw zcr (zaw zbf (pv 5) zah) zah) zah (zay _))))) (zaa (zar (i:=7) zaY.nd rfl ↥0 (zaw zdS zah (zaw zcr (zaw zbf (pv 5) zah) (zaw zev zah (zaw znx zah zah))))) zad) zad) (zaa (za5 (zaq zjV (zaw zcr (zaw zbf (pv 5) zah) zah) zah (zay _)) (zaa (zar (i:=8) zaY.nd rfl ↥0 (zaw zbj (zaw zbj (zbX zcB rfl T.str ⇑6 ↑[pv 7]) zaC) (pv 8))) zad) zad) (zaa (zar (i:=9) zaY.nd rfl ↥0 (zaw zcr (zaw zbf (pv 5) zah) zah)) (zaa (zar (i:=10) zaY.nd rfl ↥0 (zbp ⇑9 (zbc ↑[zaC,zaC]) (pv 9) ⇑7)) (zaa (za5 (zaq zcD (pv 3) zaC (zay _)) (zaa (zar (i:=10) zaY.nd rfl ↥0 (zbp ⇑9 (zbc ↑[zaC,zaC]) (pv 9) ⇑7)) zad) zad) (zaa (za5 (zaq zrQ (zaw zdS (zaw zdS (zaA zdL rfl T.len PySem.boot_len ↑[pv 3]) (zaA zdL rfl T.len PySem.boot_len ↑[pv 10])) (zaA zdL rfl T.len PySem.boot_len ↑[pv 8])) zah (zay _)) (zaa (zar (i:=3) zaY.nd rfl ↥0 (zaw zbj (zaw zbj (pv 3) (pv 10)) (pv 8))) (zaa (zij (zaw zdS (zbp ⇑9 (pv 2) (pv 6) ⇑7) (zaw zev (pv 7) (zaw zgr zah (zaw zev zah (pv 9))))) (zki (pv 2) (pv 6) zf9)) zad)) zad) zad))))))))))) (zaa (zaM (zbc ↑[pv 3,pv 2])) zad)))),.inl ?_⟩;show L2.Run _ ([⇑[dQ K ↥6],⇑[dL (List.map dS P1)],.no,.no,.no,.no,.no,.no,.no,.no,.no]:L2.Ctx) _ (↑115 (zbu P0 P1));unfold zbu;exact (zfF (m:=true) (x:=(List.map (λ(x313:Str)=>(0:Int)) P1)) (λz=>List.map dI z) ↑115 (EvO.conv (zdj (g:=(λ(x313:Str)=>dI (0:Int))) (zbQ (m:=false) dS (xs:=P1) ↑18) ↥(hp.1.len) ⇑8 (λi314 x313 hx315=>have v315:=List.mem_of_getElem? hx315;zax)) ↑30) (λv316 hv316=>have hK:=hv316;(zas (m:=true) (x:=⇑4) dS ↑115 zax (λv317 hv317=>have hL:=hv317;(zbS (s0:=(v317,v316)) (λ(s318:Str×Ji)=>([⇑[dQ K ↥6],⇑[dL (List.map dS P1)],.ow true (List.map dI s318.2),↥[dS s318.1],.no,.no,.no,.no,.no,.no,.no]:L2.Ctx)) ↑115 ↑132 (λ(i:Nat) (s318:Str×Ji)=>s318.1.length≤400∧s318.2.length=P1.length) (zhz (m:=true) dI (xs:=(zb9 P0 (some (2:Int)) (some (62:Int)))) (Ev.weak (K:=K) (EvO.ev (EvO.anyI (m:=false) (zdN (f:=dI) (xs:=P0) ⇑3 (zcC zax) (zcC zax)))))) (.eq (.eq ↑25)) (by rw [hL,hK];exact zv1) (λi320 x319 s318 hx321 hI322=>have v321:=zdh hx321;⟨↥(zt6 ⇑0 zeN),(zas (m:=true) (x:=(x319.2%↑48)) dI ↑69 (zaN (x:=x319.2) (y:=↑48) ↑31 (zbq (f:=dS) (xs:=P1) ↑18) ↥(zuK hp.2)) (λv323 hv323=>have hW:=zqz hp.2 hv323;(zbG (m:=true) zax (zas (m:=true) (x:=(ixD P1 v323)) dS ↑69 (Ev.any (m:=false) (zbP (f:=dS) (xs:=P1) ↑18 ↑65 ↥(hW))) (λv324 hv324=>have hT:=zv3 hp.1 hW hv324;(zbJ (b:=(decide ((0:Int)<((x319.2/(8:Int))%(3:Int))))) (λbb=>([⇑[dQ K ↥6],⇑[dL (List.map dS P1)],.ow true (List.map dI s318.2),↥[dS s318.1],↥[dI x319.1],↥[dI x319.2],↥[dI v323],↥[dI (bif bb then ((1:Int)+((x319.2/(48:Int))%↑107)) else (1:Int))],↥[dS v324],.no,.no]:L2.Ctx)) (zai (zaX (x:=((x319.2/(8:Int))%(3:Int))) (y:=(0:Int)) ↑129 zax)) (λh325=>(zbG (m:=true) (zaX (x:=(1:Int)) (y:=((x319.2/(48:Int))%↑107)) zax (zaN (x:=(x319.2/(48:Int))) (y:=↑107) (zaN (x:=x319.2) (y:=(48:Int)) ↑31 zax ↥(⇑8)) (zbP (f:=dI) (xs:=[(9:Int),(99:Int),((10:Int) ^ (6:Int).toNat),((10:Int) ^ (9:Int).toNat)]) (Ev.weak (K:=K) (EvO.ev (zbR (zac zax (zac zax (zac (zaN (x:=(10:Int)) (y:=(6:Int)) zax zax ↥(⟨by decide,by decide,by decide⟩)) (zac (zaN (x:=(10:Int)) (y:=(9:Int)) zax zax ↥(⟨by decide,by decide,by decide⟩)) zae)))) (by show 4≤sizeLine;decide)))) (zaN (x:=x319.1) (y:=(4:Int)) ↑49 zax ↥1) (by unfold InB;constructor<;>simp<;>omega)) (by first|decide|exact Int.lt_of_lt_of_le ↥1 zvp.1))) (zao (.eq (.eq ↑25))))) (λh325=>(zao (.eq (.eq ↑25)))) (zco (x:=(bif (decide ((0:Int)<((x319.2/(8:Int))%(3:Int)))) then ((1:Int)+((x319.2/(48:Int))%↑107)) else (1:Int))) (λv326=>([⇑[dQ K ↥6],⇑[dL (List.map dS P1)],.ow true (List.map dI s318.2),↥[dS s318.1],↥[dI x319.1],↥[dI x319.2],↥[dI v323],↥[dI v326],↥[dS v324],.no,.no]:L2.Ctx)) ↑69 (λv326 hv326=>have hN:=hv326;(zbJ (b:=((decide (x319.1=(0:Int))) && (decide (((x319.2/(8:Int))%(3:Int))=(2:Int))))) (λbb=>([⇑[dQ K ↥6],⇑[dL (List.map dS P1)],.ow true (List.map dI s318.2),↥[dS s318.1],↥[dI x319.1],↥[dI x319.2],↥[dI v323],↥[dI (bif bb then ((1:Int)+((x319.2/(48:Int))%((9:Int)*((10:Int) ^ (11:Int).toNat)))) else v326)],↥[dS v324],.no,.no]:L2.Ctx)) (ziW (b:=(decide (x319.1=(0:Int)))) (zai (zeE (x:=x319.1) (y:=(0:Int)) ↑49 zax)) (λhb=>(zai (zeE (x:=((x319.2/(8:Int))%(3:Int))) (y:=(2:Int)) ↑129 zax)))) (λh327=>(zbG (m:=true) (zaX (x:=(1:Int)) (y:=((x319.2/(48:Int))%((9:Int)*((10:Int) ^ (11:Int).toNat)))) zax (zaN (x:=(x319.2/(48:Int))) (y:=((9:Int)*((10:Int) ^ (11:Int).toNat))) (zaN (x:=x319.2) (y:=(48:Int)) ↑31 zax ↥(⇑8)) (zaN (x:=(9:Int)) (y:=((10:Int) ^ (11:Int).toNat)) zax (zaN (x:=(10:Int)) (y:=(11:Int)) zax zax ↥(⟨by decide,by decide,by decide⟩)) ↑133) (by first|decide|exact Int.lt_of_lt_of_le ↥1 zvp.1))) (zao (.eq (.eq ↑25))))) (λh327=>(zao (.eq (.eq ↑25)))) (zco (x:=(bif ((decide (x319.1=(0:Int))) && (decide (((x319.2/(8:Int))%(3:Int))=(2:Int)))) then ((1:Int)+((x319.2/(48:Int))%((9:Int)*((10:Int) ^ (11:Int).toNat)))) else v326)) (λv328=>([⇑[dQ K ↥6],⇑[dL (List.map dS P1)],.ow true (List.map dI s318.2),↥[dS s318.1],↥[dI x319.1],↥[dI x319.2],↥[dI v323],↥[dI v328],↥[dS v324],.no,.no]:L2.Ctx)) ↑69 (λv328 hv328=>have hM:=hv328;(zbJ (b:=(decide ((0:Int)<((x319.2/(8:Int))%(3:Int))))) (λbb=>([⇑[dQ K ↥6],⇑[dL (List.map dS P1)],.ow true (List.map dI s318.2),↥[dS s318.1],↥[dI x319.1],↥[dI x319.2],↥[dI v323],↥[dI v328],↥[dS (bif bb then ((((toString v328:String):Str)++⇑1)++v324) else v324)],.no,.no]:L2.Ctx)) (zai (zaX (x:=((x319.2/(8:Int))%(3:Int))) (y:=(0:Int)) ↑129 zax)) (λh329=>(zbG (m:=true) (zcP (x:=(((toString v328:String):Str)++⇑1)) (y:=v324) (zcP (x:=((toString v328:String):Str)) (y:=⇑1) (zfT (i:=v328) ↑71 ↥(zus hN hM)) zax ↥(zvv hN hM)) ↑66 ↥(zvK hN hM hT)) (zao (.eq (.eq ↑25))))) (λh329=>(zao (.eq (.eq ↑25)))) (zco (x:=(bif (decide ((0:Int)<((x319.2/(8:Int))%(3:Int)))) then ((((toString v328:String):Str)++⇑1)++v324) else v324)) (λv330=>([⇑[dQ K ↥6],⇑[dL (List.map dS P1)],.ow true (List.map dI s318.2),↥[dS s318.1],↥[dI x319.1],↥[dI x319.2],↥[dI v323],↥[dI v328],↥[dS v330],.no,.no]:L2.Ctx)) ↑69 (λv330 hv330=>have hU:=zv7 hN hM hT hv330;(zas (m:=true) (x:=((x319.2/(24:Int))%(2:Int))) dI ↑69 (zaN (x:=(x319.2/(24:Int))) (y:=(2:Int)) (zaN (x:=x319.2) (y:=(24:Int)) ↑31 zax ↥(⇑8)) zax ↥1) (λv331 hv331=>have hG:=hv331;(zas (m:=true) (x:=(ixD [(" + " :Str),(" - " :Str)] v331)) dS ↑69 (zbP (f:=dS) (xs:=[(" + " :Str),(" - " :Str)]) (Ev.weak (K:=K) (EvO.ev (zbR (zac zax (zac zax zae)) ↑47))) (Ev.any (m:=true) (zab (i:=9) rfl)) ↥(zmq hG rfl)) (λv332 hv332=>have hA:=hv332;(zbJ (b:=(decide (s318.1=⇑4))) (λbb=>([⇑[dQ K ↥6],⇑[dL (List.map dS P1)],.ow true (List.map dI s318.2),↥[dS s318.1],↥[dI x319.1],↥[dI x319.2],↥[dI v323],↥[dI v328],↥[dS v330],↥[dI v331],↥[dS (bif bb then (ixD [⇑1,(" - " :Str)] v331) else v332)]]:L2.Ctx)) (zai (zcL (x:=s318.1) (y:=⇑4) ↑22 zax)) (λh333=>(zbG (m:=true) (zbP (f:=dS) (xs:=[⇑1,(" - " :Str)]) (Ev.weak (K:=K) (EvO.ev (zbR (zac zax (zac zax zae)) ↑47))) (Ev.any (m:=true) (zab (i:=9) rfl)) ↥(zmq hG rfl)) (zao (.eq (.eq ↑25))))) (λh333=>(zao (.eq (.eq ↑25)))) (zco (x:=(bif (decide (s318.1=⇑4)) then (ixD [⇑1,(" - " :Str)] v331) else v332)) (λv334=>([⇑[dQ K ↥6],⇑[dL (List.map dS P1)],.ow true (List.map dI s318.2),↥[dS s318.1],↥[dI x319.1],↥[dI x319.2],↥[dI v323],↥[dI v328],↥[dS v330],↥[dI v331],↥[dS v334]]:L2.Ctx)) ↑69 (λv334 hv334=>have hB:=zt2 hG hA hv334;(zbJ (b:=(decide (↑97≤(400:Int)))) (λbb=>([⇑[dQ K ↥6],⇑[dL (List.map dS P1)],.ow true (List.map dI (bif bb then (zcZ s318.2 v323 ((ixD s318.2 v323)+(v328*((1:Int)-((2:Int)*v331))))) else s318.2)),↥[dS (bif bb then ((s318.1++v334)++v330) else s318.1)],↥[dI x319.1],↥[dI x319.2],↥[dI v323],↥[dI v328],↥[dS v330],↥[dI v331],↥[dS v334]]:L2.Ctx)) (zai (zaX (x:=↑97) (y:=(400:Int)) (zaX (x:=(((s318.1.length:Nat):Int)+((v334.length:Nat):Int))) (y:=((v330.length:Nat):Int)) (zaX (x:=((s318.1.length:Nat):Int)) (y:=((v334.length:Nat):Int)) (zhI (x:=s318.1) ↑22 ↥(zwy ⇑0)) (zhI (x:=v334) (Ev.any (m:=true) (zab (i:=10) rfl)) ↥(zap ↑0))) (zhI (x:=v330) ↑66 ↥(zap ↑0))) zax)) (λh335=>(zbG (m:=true) (zcP (x:=(s318.1++v334)) (y:=v330) (zcP (x:=s318.1) (y:=v334) ↑22 (Ev.any (m:=true) (zab (i:=10) rfl)) ↥(zwk ⇑0 hB)) ↑66 ↥(zvB ⇑0 hB hU)) (zgx (f:=dI) (xs:=s318.2) (x:=((ixD s318.2 v323)+(v328*((1:Int)-((2:Int)*v331))))) rfl (zaX (x:=(ixD s318.2 v323)) (y:=(v328*((1:Int)-((2:Int)*v331)))) (Ev.any (m:=true) (zhB (f:=dI) (xs:=s318.2) rfl ↑65 ↥(ztw hW ⇑0))) (zaN (x:=v328) (y:=((1:Int)-((2:Int)*v331))) ↑71 (zaX (x:=(1:Int)) (y:=((2:Int)*v331)) zax (zaN (x:=(2:Int)) (y:=v331) zax (Ev.any (m:=true) (zab (i:=9) rfl)) ↑133)) ↥(.inr (.inl ⟨by omega,by omega⟩)))) ↑65 ↥(ztw hW ⇑0) (zao (.eq (.eq ↑25)))))) (λh335=>(zao (.eq (.eq ↑25)))) (zco (x:=(bif (decide (↑97≤(400:Int))) then ((s318.1++v334)++v330) else s318.1)) (λv336=>([⇑[dQ K ↥6],⇑[dL (List.map dS P1)],.ow true (List.map dI (bif (decide (↑97≤(400:Int))) then (zcZ s318.2 v323 ((ixD s318.2 v323)+(v328*((1:Int)-((2:Int)*v331))))) else s318.2)),↥[dS v336],↥[dI x319.1],↥[dI x319.2],↥[dI v323],↥[dI v328],↥[dS v330],↥[dI v331],↥[dS v334]]:L2.Ctx)) ↑69 (λv336 hv336=>(zco (x:=(bif (decide (↑97≤(400:Int))) then (zcZ s318.2 v323 ((ixD s318.2 v323)+(v328*((1:Int)-((2:Int)*v331))))) else s318.2)) (λv337=>([⇑[dQ K ↥6],⇑[dL (List.map dS P1)],.ow true (List.map dI v337),↥[dS v336],↥[dI x319.1],↥[dI x319.2],↥[dI v323],↥[dI v328],↥[dS v330],↥[dI v331],↥[dS v334]]:L2.Ctx)) ↑69 (λv337 hv337=>(zao (.eq (.eq (.eq (.eq (.no (.no (.no (.no (.no (.no (.no .nil))))))))))))))))))))))))))))))))))))))⟩) (λr338 hr338 hI=>(zbV (i:=2) rfl (zak (zaD (EvO.ev (zbR (zac ↑22 (zac ↑12 zae)) ↑47)))))))))))
noncomputable def trF (ns:List Str) (s:Str×Ji) (x:Int×Int):Str×Ji :=
 Let (nbB x.1 x.2 (nbA x.1 x.2)) λn=>Let (tmT x.2 n (ixD ns (x.2%↑9))) λt=>Let (ahT s.1 (x.2/24%2) (ixD [(" + " :Str),(" - " :Str)] (x.2/24%2))) λa=>(bif (decide (((((s.1.length:Nat):Int)+((a.length:Nat):Int))+((t.length:Nat):Int))≤(400:Int))) then ((s.1++a)++t) else s.1,bif (decide (((((s.1.length:Nat):Int)+((a.length:Nat):Int))+((t.length:Nat):Int))≤(400:Int))) then (zcZ s.2 (x.2%↑9) ((ixD s.2 (x.2%↑9))+(n*((1:Int)-((2:Int)*(x.2/24%2)))))) else s.2)
theorem zqj {sc:Ji} {ns:List Str}:zbu sc ns=(zeH (zb9 sc (some (2:Int)) (some (62:Int)))).foldl (trF ns) (⇑4,ns.map λ_=>(0:Int)):=rfl
noncomputable def sgT (g:Int):Str:=bif decide (g=1) then ⇑2 else ↥2
noncomputable def tmC (ns:List Str) (k c:Int):Wd.Tm:=⟨sgT (c/24%2),bif decide ((0:Int)<c/8%3) then some (nbB k c (nbA k c)).toNat else none,ixD ns (c%↑9)⟩
def Tk (ns:List Str) (t:Wd.Tm):Prop:=(t.sg=↥2∨t.sg=⇑2)∧t.nm∈ns∧∀k,t.ct=some k->0<k∧k<10 ^ 12
noncomputable def tv (t:Wd.Tm):Int×Str:=((bif decide (t.sg=⇑2) then-1 else 1)*((t.ct.getD 1:Nat):Int),t.nm)
noncomputable def hln (ts:List Wd.Tm):Str:=Txt.join ⇑1 (⇑4::Wd.drp ↑54)
theorem zmb {x:Str}:Txt.join ⇑1 [x]=x:=by show Builtin.Str.glued ⇑1 [x]=x;rw [StrLaws.glued_eq_join];rfl
theorem zlo (a b c:Str):a++b++c=a++(b++c):=Wd.cs_ext (by simp only [Wd.cs_app,List.append_assoc])
theorem zlM {ys:List Str} (hy:ys≠[]):∀ {xs:List Str},xs≠[]->Txt.join ⇑1 (xs++ys)=Txt.join ⇑1 xs++⇑1++Txt.join ⇑1 ys
 | [],h=>absurd rfl h
 | [x],_=>by show Txt.join ⇑1 (x::ys)=_;rw [zdQ hy,zmb]
 | x :: z :: r,_=>by have ih:=zlM hy (xs:=z::r) ↥4;show Txt.join ⇑1 (x::(z::r++ys))=_;rw [zdQ ↥4,ih,zdQ (k:=x) (ws:=z::r) ↥4];simp only [zlo]
theorem znN (t:Wd.Tm):∃b r,t.ws=t.sg::b::r∧(b=t.nm∧r=[]∧t.ct=none∨∃k,b=Wd.num k∧r=[t.nm]∧t.ct=some k):=by unfold Wd.Tm.ws;cases t.ct with|none=>exact ⟨_,_,rfl,.inl ⟨rfl,rfl,rfl⟩⟩|some k=>exact ⟨_,_,rfl,.inr ⟨k,rfl,rfl,rfl⟩⟩
theorem zrI {ns:List Str} {k c:Int}:Txt.join ⇑1 (tmC ns k c).ws.tail=tmT c (nbB k c (nbA k c)) (ixD ns (c%↑9)):=by unfold tmC Wd.Tm.ws tmT;have h:=ziP (k:=k) (c:=c);cases decide ((0:Int)<c/8%3) with|false=>exact zmb|true=>show Txt.join ⇑1 [Wd.num (nbB k c (nbA k c)).toNat,_]=_;rw [zdQ ↥4,zmb];show Wd.num (nbB k c (nbA k c)).toNat++⇑1++_=((toString (nbB k c (nbA k c)):String):Str)++⇑1++_;unfold Wd.num;rw [Int.toNat_of_nonneg (show 0≤nbB k c (nbA k c) by omega)]
theorem znp {g c:Int} (h:g=c/24%2):g=0∨g=1:=by omega
theorem zw3 {g:Int} (h:g=0∨g=1):ixD [(" + " :Str),(" - " :Str)] g=⇑1++sgT g++⇑1:=by rcases h with rfl|rfl<;>decide+kernel
theorem zw2 {g:Int} (h:g=0∨g=1):ixD [⇑1,(" - " :Str)] g=bif decide (g=1) then ⇑1++⇑2++⇑1 else ⇑1:=by rcases h with rfl|rfl<;>decide+kernel
theorem znS {ts:List Wd.Tm} (h:ts≠[]):∃a b r,ts.flatMap Wd.Tm.ws=a::b::r:=by
 cases ts with
  |nil=>exact absurd rfl h
  |cons t ts=>obtain ⟨b,r,e,_⟩:=znN t;rw [List.flatMap_cons,e];exact ⟨_,_,_,rfl⟩
theorem zm9 {a b:Str} {r:List Str}:Wd.drp (a::b::r)=bif decide (a=↥2) then b::r else a::b::r:=by
 unfold Wd.drp
 have:decide ((a::b::r).head? =some ↥2)=decide (a=↥2):=by
  by_cases z:a=↥2;·rw [decide_eq_true z,z];simp
  ·rw [decide_eq_false z];exact decide_eq_false (by simp [z])
 rw [this];rfl
theorem zt9 {ts:List Wd.Tm} (h:ts≠[]):Wd.drp ↑54≠[]:=by obtain ⟨a,b,r,e⟩:=znS h;rw [e,zm9];cases decide (a=↥2)<;>simp
theorem zsD {xs ys:List Str} (h:∃a b r,xs=a::b::r):Wd.drp (xs++ys)=Wd.drp xs++ys:=by obtain ⟨a,b,r,rfl⟩:=h;show Wd.drp (a::b::(r++ys))=_;rw [zm9,zm9];cases decide (a=↥2)<;>rfl
theorem zs8:hln []=⇑4:=by unfold hln;show Txt.join ⇑1 (⇑4::Wd.drp [])=_;have:Wd.drp []=[]:=rfl;rw [this];exact zmb
theorem ztz {ts:List Wd.Tm} (h:ts≠[]):hln ts≠⇑4:=by unfold hln;rw [zdQ (zt9 h)];intro z;have:=congrArg Str.length z;rw [Wd.app_len,Wd.app_len,bl1] at this;omega
theorem zpD {ns:List Str} {k c:Int} {ts:List Wd.Tm}:(hln ts++ahT (hln ts) (c/24%2) (ixD [(" + " :Str),(" - " :Str)] (c/24%2)))++tmT c (nbB k c (nbA k c)) (ixD ns (c%↑9))=hln (ts++[tmC ns k c]):=by
 have g2:=znp (g:=c/24%2) (c:=c) rfl;rw [←zrI];obtain ⟨b,r,e,_⟩:=znN (tmC ns k c);have es:(tmC ns k c).sg=sgT (c/24%2):=rfl;rw [es] at e;by_cases z:ts=[]
 ·subst z;rw [zs8];unfold ahT;rw [decide_eq_true rfl,zw2 g2];unfold hln;have fm:([]++[tmC ns k c]).flatMap Wd.Tm.ws=(tmC ns k c).ws:=by simp
  rw [fm,e,zm9];unfold sgT;rcases g2 with q|q
  ·rw [q];show ⇑4++⇑1++Txt.join ⇑1 (b::r)=Txt.join ⇑1 (⇑4::(bif decide (↥2=↥2) then b::r else _));rw [decide_eq_true rfl];exact (zdQ ↥4).symm
  ·rw [q];show ⇑4++(⇑1++⇑2++⇑1)++Txt.join ⇑1 (b::r)=Txt.join ⇑1 (⇑4::(bif decide (⇑2=↥2) then b::r else ⇑2::b::r));rw [decide_eq_false (λq=>zn9 q.symm)];show _=Txt.join ⇑1 (⇑4::⇑2::b::r);rw [zdQ (k:=⇑4) ↥4,zdQ (k:=⇑2) ↥4];simp only [zlo]
 ·have n1:=ztz z;unfold ahT;rw [decide_eq_false n1];show (hln ts++ixD [(" + " :Str),(" - " :Str)] (c/24%2))++_=_;rw [zw3 g2]
  have e2:hln (ts++[tmC ns k c])=Txt.join ⇑1 ((⇑4::Wd.drp ↑54)++(tmC ns k c).ws):=by
   unfold hln;have fm:(ts++[tmC ns k c]).flatMap Wd.Tm.ws=ts.flatMap Wd.Tm.ws++(tmC ns k c).ws:=by simp
   rw [fm,zsD (znS z)];rfl
  rw [e2,zlM (by rw [e];simp) ↥4];show (hln ts++_)++_=hln ts++⇑1++_;rw [e,zdQ (k:=sgT (c/24%2)) ↥4];simp only [zlo,List.tail_cons]
noncomputable def bd (i:Nat):Nat:=if i=0 then 0 else 900000000000+(i-1)*1000000000
def TI (ns:List Str) (i:Nat) (s:Str×Ji):Prop:=s.1.length≤400∧s.2.length=ns.length∧(∀y∈s.2,y.natAbs≤bd i)∧∃ts:List Wd.Tm,(∀t∈ts,Tk ns t)∧ts.length≤i∧s.1=hln ts∧s.2=(ts.map tv).foldl (boF ns) (List.replicate ns.length 0)
theorem zhj {xs:Ji} {i v y:Int} (h:y∈zcZ xs i v):y∈xs∨y=v:=by unfold zcZ at h;cases e:ixN xs.length i with|none=>rw [e] at h;exact .inl h|some j=>rw [e] at h;exact List.mem_or_eq_of_mem_set h
theorem ztO {ns:List Str} {w:Int} (hn:ns.Nodup) (h0:0≤w) (h1:w<ns.length):((ns.idxOf (ixD ns w):Nat):Int)=w:=by
 obtain ⟨m,rfl⟩:=Int.eq_ofNat_of_zero_le h0;have hm:m<ns.length:=by omega
 have e:ixD ns ((m:Nat):Int)=ns[m]:=by unfold ixD atI ixN;rw [if_pos ↑0,if_pos ↑0];show (ns[(((m:Nat):Int)).toNat]?).getD default=_;rw [Int.toNat_natCast,List.getElem?_eq_getElem hm];rfl
 rw [e,List.Nodup.idxOf_getElem hn m hm]
theorem zww {ns:List Str} {k c:Int}:tv (tmC ns k c)=(nbB k c (nbA k c)*((1:Int)-((2:Int)*(c/24%2))),ixD ns (c%↑9)):=by
 have h:=ziP (k:=k) (c:=c)
 have e1:(((tmC ns k c).ct.getD 1:Nat):Int)=nbB k c (nbA k c):=by
  show (((bif decide ((0:Int)<c/8%3) then some (nbB k c (nbA k c)).toNat else none).getD 1:Nat):Int)=_;by_cases z:(0:Int)<c/8%3;·rw [decide_eq_true z];exact Int.toNat_of_nonneg ↑0
  ·rw [decide_eq_false z];unfold nbB nbA;rw [decide_eq_false z,decide_eq_false (show¬c/8%3=2 by omega),Bool.and_false];rfl
 unfold tv;rw [e1];show ((bif decide (sgT (c/24%2)=⇑2) then-1 else 1)*_,_)=_;have g2:=znp (g:=c/24%2) (c:=c) rfl;unfold sgT;rcases g2 with q|q
 ·rw [q];show ((bif decide (↥2=⇑2) then (-1:Int) else 1)*_,_)=_;rw [decide_eq_false zn9];show ((1:Int)*_,_)=_;congr 1;omega
 ·rw [q];show ((bif decide (⇑2=⇑2) then (-1:Int) else 1)*_,_)=_;rw [decide_eq_true rfl];show ((-1:Int)*_,_)=_;congr 1;omega
theorem zwY {ns:List Str} {k c:Int} (h0:ns≠[]):Tk ns (tmC ns k c):=by
 refine ⟨?_,zih (zqz h0 rfl),λm e=> ?_⟩
 ·show sgT _=_∨sgT _=_;unfold sgT;cases decide (c/24%2=1);·exact .inl rfl
  ·exact .inr rfl
 ·have h:=ziP (k:=k) (c:=c);have e:(bif decide ((0:Int)<c/8%3) then some (nbB k c (nbA k c)).toNat else none)=some m:=e;cases q:decide ((0:Int)<c/8%3) with|true=>rw [q] at e;have:(nbB k c (nbA k c)).toNat=m:=Option.some.inj e;omega|false=>rw [q] at e;cases e
theorem TI.step {ns:List Str} {i:Nat} {s:Str×Ji} {x:Int×Int} (hn:Wd.NmsP ns) (h0:ns≠[]) (h:TI ns i s) (hx:x.1=(i:Int)):TI ns (i+1) (trF ns s x):=by
 obtain ⟨l,b⟩:=s;obtain ⟨k,c⟩:=x;obtain ⟨h1,h2,h3,ts,h4,h5,h6,h7⟩:=h;have h1:l.length≤400:=h1;have h2:b.length=ns.length:=h2;have hx:k=(i:Int):=hx;have h6:l=hln ts:=h6;have h7:b=(ts.map tv).foldl (boF ns) (List.replicate ns.length 0):=h7;have nb:=ziP (k:=k) (c:=c);have bi:bd i≤bd (i+1):=by unfold bd;split<;>simp<;>omega
 cases q:↑94 with
  |false=>
   have e:trF ns (l,b) (k,c)=(l,b):=by unfold trF;show (bif ↑94 then _ else l,bif ↑94 then _ else b)=(l,b);rw [q];rfl
   rw [e];exact ⟨h1,h2,λy hy=>Nat.le_trans (h3 y hy) bi,ts,h4,by omega,h6,h7⟩
  |true=>
   have e:trF ns (l,b) (k,c)=((l++ahT l (c/24%2) (ixD [(" + " :Str),(" - " :Str)] (c/24%2)))++tmT c (nbB k c (nbA k c)) (ixD ns (c%↑9)),zcZ b (c%↑9) (ixD b (c%↑9)+nbB k c (nbA k c)*((1:Int)-((2:Int)*(c/24%2))))):=by unfold trF;show (bif ↑94 then _ else l,bif ↑94 then _ else b)=_;rw [q];rfl
   rw [e];have wi:=zqz (w:=c%↑9) (c:=c) h0 rfl;have w0:0≤c%↑9:=Int.emod_nonneg _ (by have:=List.length_pos_iff.mpr h0;omega);refine ⟨zt3 q,by show (zcZ _ _ _).length=_;rw [zeN];exact h2,λy hy=> ?_,ts++[tmC ns k c],λt ht=> ?_,by simp;omega,?_,?_⟩
   ·rcases zhj hy with z|z
    ·exact Nat.le_trans (h3 y z) bi
    ·have hm:=h3 _ (zih (xs:=b) (i:=c%↑9) (by rw [h2];exact wi));have hm:(ixD b (c%↑9)).natAbs≤bd i:=hm;have hd:(nbB k c (nbA k c)*((1:Int)-((2:Int)*(c/24%2)))).natAbs=(nbB k c (nbA k c)).natAbs:=by rcases znp (g:=c/24%2) (c:=c) rfl with q|q<;>rw [q]<;>simp
     have hs:bd i+(nbB k c (nbA k c)).natAbs≤bd (i+1):=by
      unfold bd;by_cases z:i=0;·rw [if_pos z,if_neg ↑0];omega
      ·have:=nb.2.2 ↑0;rw [if_neg z,if_neg ↑0];omega
     rw [z];omega
   ·rcases List.mem_append.mp ht with z|z
    ·exact h4 t z
    ·rw [List.mem_singleton.mp z];exact zwY h0
   ·show _=hln (ts++[tmC ns k c]);rw [←zpD,←h6]
   ·show _=((ts++[tmC ns k c]).map tv).foldl (boF ns) _;rw [List.map_append,List.foldl_append,←h7];show _=boF ns b (tv (tmC ns k c));rw [zww];unfold boF;rw [ztO hn.2.1 w0 wi.2]
theorem zqP {sc:Ji}:(zb9 sc (some (2:Int)) (some (62:Int))).length≤60:=by
 unfold zb9;rw [List.length_take];have e1:HT.sIx sc.length sc.length (some (62:Int))=min 62 sc.length:=by unfold HT.sIx;simp
 have e2:HT.sIx sc.length 0 (some (2:Int))=min 2 sc.length:=by unfold HT.sIx;simp
 rw [e1,e2,List.length_drop];omega
theorem TI.all {sc:Ji} {ns:List Str} (hn:Wd.NmsP ns) (h0:ns≠[]):TI ns (zb9 sc (some (2:Int)) (some (62:Int))).length (zbu sc ns):=by
 rw [zqj];have:=zeK (f:=trF ns) (I:=TI ns) (xs:=zeH (zb9 sc (some (2:Int)) (some (62:Int)))) (s:=(⇑4,ns.map λ_=>(0:Int))) (n:=0) ⟨by show (⇑4).length≤400;decide+kernel,by show (List.map _ _).length=_;simp,(λy hy=>by have hy:y∈ns.map λ_=>(0:Int):=hy;obtain ⟨_,_,rfl⟩:=List.mem_map.mp hy;show 0≤_;omega),[],(λ_ z=>by cases z),by simp,zs8.symm,by show List.map _ _=List.replicate _ _;rw [List.map_const']⟩ λi x s e q=>by rw [Nat.zero_add] at q ⊢;exact q.step hn h0 (zdh e).2.1
 rw [Nat.zero_add,zf5] at this;exact this
theorem TI.xs {ns:List Str} {i:Nat} {s:Str×Ji} (h:TI ns i s) (hi:i≤60):XsP ns.length s.2:=⟨h.2.1,λy hy=>by
 have h1:=h.2.2.1 y hy;have:bd i<10 ^ 12:=by unfold bd;split<;>omega
 omega⟩
theorem zvk {ns:List Str} {t:Wd.Tm} (hn:Wd.NmsP ns) (h:Tk ns t):t.Ok:=by refine ⟨?_,(ziD (hn.1 _ h.2.1)).1,λk _=>Wd.num_nsg k⟩;rcases h.1 with e|e<;>rw [e]<;>simp
theorem zvD {a b:Str} {r:List Str} (ha:a=↥2∨a=⇑2) (hb:b≠("-":Str)):Wd.sgn (Wd.drp (a::b::r))=a::b::r:=by
 rw [zm9];rcases ha with rfl|rfl
 ·rw [decide_eq_true rfl];show Wd.sgn (b::r)=_;unfold Wd.sgn;rw [Wd.cut1,decide_eq_false (by simp [hb])];rfl
 ·rw [decide_eq_false (λq=>zn9 q.symm)];show Wd.sgn (⇑2::b::r)=_;unfold Wd.sgn;rw [Wd.cut1];show (bif decide ([⇑2]=[⇑2]) then _ else _)=_;rw [decide_eq_true rfl];rfl
theorem ztH {ns:List Str} {ts:List Wd.Tm} (hn:Wd.NmsP ns) (h0:ts≠[]) (hk:∀t∈ts,Tk ns t) (hl:ts.length≤100):SdP (Wd.drp ↑54)∧zaO (Wd.drp ↑54)=ts.map tv:=by
 have ⟨t,us,e⟩:∃t us,ts=t::us:=by cases ts with|nil=>exact absurd rfl h0|cons t us=>exact ⟨t,us,rfl⟩
 obtain ⟨b,r,ew,hb⟩:=znN t;have kt:=hk t (by rw [e];exact List.mem_cons_self);have fw:ts.flatMap Wd.Tm.ws=t.sg::b::(r++us.flatMap Wd.Tm.ws):=by rw [e,List.flatMap_cons,ew];rfl
 have nb:b≠⇑2:=by
  rcases hb with ⟨q,_⟩|⟨k,q,_⟩
  ·rw [q];intro z;exact (ziD (hn.1 _ kt.2.1)).1 (by rw [z];simp)
  ·rw [q];intro z;exact Wd.num_nsg k (by rw [z];simp)
 have s1:Wd.sgn (Wd.drp ↑54)=ts.flatMap Wd.Tm.ws:=by rw [fw];exact zvD kt.1 nb
 have s2:Wd.drp ↑54≠[↑6]:=by
  rw [fw,zm9]
  cases decide (t.sg=↥2) with
   |false=>show t.sg::b::_≠_;simp
   |true=>
    show b::_≠_;intro z;obtain ⟨z1,z2⟩:=List.cons.inj z;rcases hb with ⟨q,_⟩|⟨k,q,q2,_⟩
    ·exact (hn.1 _ kt.2.1).2.2.2 (by rw [←q,z1])
    ·rw [q2] at z2;simp at z2
 have f:(↑54).foldl Wd.stepT []=ts.map Wd.Tm.ws:=by rw [Wd.fold_tms λt ht=>zvk hn (hk t ht)];rfl
 have mem:∀w∈ts.flatMap Wd.Tm.ws,w=↥2∨w=⇑2∨w∈ns∨∃k,w=Wd.num k:=λw hw=>by
  obtain ⟨u,hu,hw⟩:=List.mem_flatMap.mp hw;obtain ⟨b,r,ew,hb⟩:=znN u;have ku:=hk u hu;rw [ew] at hw;rcases List.mem_cons.mp hw with q|hw
  ·rcases ku.1 with z|z
   ·exact .inl (q.trans z)
   ·exact .inr (.inl (q.trans z))
  ·rcases hb with ⟨q1,q2,_⟩|⟨k,q1,q2,_⟩
   ·rw [q1,q2] at hw;exact .inr (.inr (.inl (by rw [List.mem_singleton.mp hw];exact ku.2.1)))
   ·rw [q1,q2] at hw;rcases List.mem_cons.mp hw with q|q
    ·exact .inr (.inr (.inr ⟨k,q⟩))
    ·exact .inr (.inr (.inl (by rw [List.mem_singleton.mp q];exact ku.2.1)))
 refine ⟨⟨λq=> ?_,?_,λ_ x hx=> ?_⟩,?_⟩
 ·rcases mem _ (zfS.2 _ q) with e|e|e|⟨k,e⟩
  ·exact absurd e ⇑6
  ·exact absurd e ⇑6
  ·exact (ziD (hn.1 _ e)).2 rfl
  ·exact zpl k e.symm
 ·have h1:=zfS (ws:=ts.flatMap Wd.Tm.ws)
  have k:∀ts:List Wd.Tm,(↑54).length≤3*ts.length:=λts=>by
   induction ts with
    |nil=>simp
    |cons t ts ih=>
     rw [List.flatMap_cons,List.length_append,List.length_cons];have:t.ws.length≤3:=by unfold Wd.Tm.ws;cases t.ct<;>simp
     omega
  have h2:=k ts;omega
 ·rw [s1,f] at hx;obtain ⟨u,hu,rfl⟩:=List.mem_map.mp hx;exact ⟨u,rfl,(hk u hu).2.2⟩
 ·rw [ztJ s2,s1,f,List.map_map];exact List.map_congr_left λu hu=>zuY (hk u hu).2.2
theorem zuM {ns:List Str} {ts:List Wd.Tm} (hn:Wd.NmsP ns) (hk:∀t∈ts,Tk ns t) (hl:(hln ts).length≤400):Wd.LnP (hln ts) (⇑4::Wd.drp ↑54):=by
 refine ⟨rfl,by simp,λw hw=> ?_,by omega⟩;rcases List.mem_cons.mp hw with rfl|hw
 ·exact ⟨zgP.2.2.2.1.1,zgP.2.2.2.1.2.1⟩
 ·obtain ⟨u,hu,hw⟩:=List.mem_flatMap.mp (zfS.2 _ hw);obtain ⟨b,r,ew,hb⟩:=znN u;have ku:=hk u hu;have nmu:=zsn (hn.1 _ ku.2.1);rw [ew] at hw;rcases List.mem_cons.mp hw with q|hw
  ·rcases ku.1 with z|z
   ·rw [q,z];exact ⟨zgP.1.1,zgP.1.2.1⟩
   ·rw [q,z];exact ⟨zgP.2.1.1,zgP.2.1.2.1⟩
  ·rcases hb with ⟨q1,q2,_⟩|⟨k,q1,q2,q3⟩
   ·rw [q1,q2] at hw;rw [List.mem_singleton.mp hw];exact ⟨nmu.1,nmu.2.1⟩
   ·rw [q1,q2] at hw;rcases List.mem_cons.mp hw with q|q
    ·obtain ⟨a,b⟩:=ku.2.2 k q3;have:=zqR a b;rw [q];exact ⟨this.1,this.2.1⟩
    ·rw [List.mem_singleton.mp q];exact ⟨nmu.1,nmu.2.1⟩
theorem zqF {sc:Ji} {d:DeskD} {r:Str×Ji} (h:DkP d) (e:r=zbu sc d.names):XsP d.names.length r.2∧TeP ⇑4 d (bif (decide (r.1=⇑4)) then ↑35 else r.1)∧zal d (bif (decide (r.1=⇑4)) then ↑35 else r.1)=↑23++zaP d.names r.2:=by
 have h':=h;obtain ⟨n,h1,h2,h3,h4,h5⟩:=h;have n0:d.names≠[]:=λz=>by rw [z] at h1;simp at h1;omega
 have I:=TI.all (sc:=sc) h4 n0;rw [←e] at I;have X:=I.xs zqP;obtain ⟨i1,i2,i3,ts,i4,i5,i6,i7⟩:=I;refine ⟨X,?_⟩;by_cases z:ts=[]
 ·subst z;have e0:r.1=⇑4:=by rw [i6,zs8]
  rw [decide_eq_true e0];have all0:∀y∈r.2,y=0:=λy hy=>by rw [i7] at hy;exact List.eq_of_mem_replicate hy
  have dn:=(zjs h4 X).mpr all0;obtain ⟨t1,ws,L,b⟩:=zq2 (k:=⇑4) (x:=↑35) h' X (.inl rfl) (by rw [dn];decide+kernel);exact ⟨t1,by rw [zhZ];exact (zjf h' L).trans (by rw [b])⟩
 ·have e0:¬r.1=⇑4:=by rw [i6];exact ztz z
  rw [decide_eq_false e0];show TeP ⇑4 d r.1∧zal d r.1=_;have L:Wd.LnP r.1 (⇑4::Wd.drp ↑54):=by rw [i6];exact zuM h4 i4 (by rw [←i6];exact i1)
  obtain ⟨s1,s2⟩:=ztH h4 z i4 (by have:=zqP (sc:=sc);omega);have b:zaG d.names (zaO (Wd.drp ↑54))=r.2:=by rw [s2,i7,←znl];rfl
  refine ⟨⟨h',.inl rfl,_,L,s1,⟨h4.2.2,λp hp=> ?_⟩,by rw [b];exact X⟩,by rw [zhZ];exact (zjf h' L).trans (by rw [b])⟩;rw [s2] at hp;obtain ⟨u,hu,rfl⟩:=List.mem_map.mp hp;exact (i4 u hu).2.1
theorem zuZ {sc:Ji} {ns:List Str} {c:Int} (h:ns=zbv sc (1:Int) ((1:Int)+(c%(8:Int)))):Wd.NmsP ns∧ns≠[]:=by obtain ⟨a,b⟩:=zqd (sc:=sc) (a:=1) (n:=(1:Int)+(c%(8:Int))) ↑0;rw [h];refine ⟨a,λz=> ?_⟩;rw [z] at b;simp at b;omega
theorem zre {o:Int} {n:Nat} (h:n=6):InB n (o%(6:Int)):=by unfold InB;omega
theorem ztS {ns nw:List Str} {w:Str} {b:Bool} {i o:Int} (h:Wd.NmsP ns∧ns≠[]) (hw:w=ixD [↑15,("swap" :Str),("drop" :Str),("ask" :Str),⇑4,↑14] (o%(6:Int))) (e:nw=bif (b && (!decide (w∈ns))) then (zcZ ns i w) else ns):Wd.NmsP nw∧nw≠[]:=by
 rw [e]
 cases q:(b && (!decide (w∈ns))) with
  |false=>exact h
  |true=>
   have hn:w∉ns:=by have:=(Bool.and_eq_true_iff.mp q).2;simpa using this
   have hm:Wd.Nm w:=by rw [hw];exact Wd.six_nm _ (zih (zre rfl))
   refine ⟨h.1.set hm hn,λz=>h.2 ?_⟩;have:=congrArg List.length z;rw [show (bif true then (zcZ ns i w) else ns)=zcZ ns i w from rfl,zeN] at this;exact List.length_eq_zero_iff.mp this
theorem zvn {ns:List Str} (h:Wd.NmsP ns∧ns≠[]):JoinOk ⇑1 ns=true:=Wd.join_ok (by have:=h.1.2.2;omega) λw hw=>by have:=(h.1.1 w hw).2.2.1;omega
theorem zir:(↑39).length=6∧(↑23).length=5∧(("turn " :Str)).length=5:=by decide+kernel
theorem zvZ {ns:List Str} (h:Wd.NmsP ns∧ns≠[]):(↑39).length+(Txt.join ⇑1 ns).length≤sizeLine:=by have:=Wd.join_len (ws:=ns) (n:=8) (B:=12) h.1.2.2 λw hw=>(h.1.1 w hw).2.2.1;rw [zir.1];exact zap ↑0
theorem zvY {ns:List Str} (h:Wd.NmsP ns∧ns≠[]):(↑9).natAbs.log2<1920:=Wd.log_lt (by have:=h.1.2.2;omega)
theorem zvC {ns:List Str} (h:Wd.NmsP ns∧ns≠[]):(↑39).length+(((toString ↑9:String):Str)).length≤sizeLine:=by have:=Wd.num_leI (x:=↑9) ↑0 (by have:=h.1.2.2;omega);rw [zir.1];exact zap ↑0
theorem zth {ns:List Str} {d:DeskD} {w:Str×DeskD} (h:Wd.NmsP ns∧ns≠[]) (e:w=zaz d (↑39++Txt.join ⇑1 ns)):DkP w.2∧w.2.names=ns∧w.1=↑39++((toString ↑9:String):Str):=by rw [e,(ztN h.1 h.2).2];exact ⟨zwj h.1 h.2,rfl,rfl⟩
theorem zt0 {sc:Ji} {ns:List Str} {d:DeskD} {q:Prop} {p:Str×Ji} (hD:DkP d∧d.names=ns∧q) (e:p=zbu sc ns):XsP ns.length p.2∧TeP ⇑4 d (bif (decide (p.1=⇑4)) then ↑35 else p.1)∧zal d (bif (decide (p.1=⇑4)) then ↑35 else p.1)=↑23++zaP ns p.2:=by obtain ⟨h1,h2,_⟩:=hD;subst h2;exact zqF h1 e
theorem zuu {ns:List Str} {xs:Ji} {q:Prop} (h:Wd.NmsP ns∧ns≠[]) (hx:XsP ns.length xs∧q):Wd.BwP ns xs:=⟨h.1.2.2,λn hn=>(h.1.1 n hn).2.2.1,hx.1.2⟩
theorem zwu {ns:List Str} {xs:Ji} {q:Prop} {u:Str} (h:Wd.NmsP ns∧ns≠[]) (hx:XsP ns.length xs∧q) (e:u=zaP ns xs):u.length≤1000:=by rw [e,zhZ];exact Wd.bw_len (zuu h hx)
theorem zqp {k u:Str} (hk:k.length≤12) (h:u.length≤1000):k.length+u.length≤sizeLine:=zap ↑0
theorem zoT {ns:List Str} {d:DeskD} {q q2:Prop} {xs:Ji} {u k x:Str} (hD:DkP d∧d.names=ns∧q) (hx:XsP ns.length xs∧q2) (e:u=zaP ns xs) (hk:k=⇑4∨k=↑14) (ex:x=k++⇑1++u):TeP k d x∧∃ws,Wd.LnP x (k::ws)∧zaG d.names (zaO ws)=xs:=by obtain ⟨h1,h2,_⟩:=hD;subst h2 e;exact zq2 h1 hx.1 hk ex
noncomputable def zer (ns:List Str):Ji:=List.replicate ns.length 0
theorem ztj {ns:List Str}:XsP ns.length (zer ns):=⟨by unfold zer;simp,λy hy=>by rw [List.eq_of_mem_replicate hy];decide⟩
theorem zuL {ns:List Str} (h:Wd.NmsP ns):zaP ns (zer ns)=↑6:=(zjs h ztj).mpr λy hy=>List.eq_of_mem_replicate hy
theorem zva {ns:List Str} {d:DeskD} {q:Prop} (h:Wd.NmsP ns∧ns≠[]) (hD:DkP d∧d.names=ns∧q):TeP ⇑4 d ↑35∧zal d ↑35=↑35:=by obtain ⟨t,ws,L,b⟩:=zoT (xs:=zer ns) (k:=⇑4) (x:=↑35) (q2:=True) hD ⟨ztj,trivial⟩ rfl (.inl rfl) (by rw [zuL h.1];decide+kernel);refine ⟨t,?_⟩;rw [zjf hD.1 L,b,←zhZ,hD.2.1,zuL h.1];decide+kernel
theorem zvy {ns:List Str} {d:DeskD} {q q2:Prop} {xs:Ji} (hD:DkP d∧d.names=ns∧q) (hx:XsP ns.length xs∧q2):zal d (↑23++zaP ns xs)=↑23++zaP ns xs:=by obtain ⟨t,ws,L,b⟩:=zoT (k:=⇑4) (x:=↑23++zaP ns xs) hD hx rfl (.inl rfl) (by rw [zkB.1]);rw [zjf hD.1 L,b,zhZ,hD.2.1]
theorem zvH {ns:List Str} {d:DeskD} {q q2:Prop} {xs:Ji} (hD:DkP d∧d.names=ns∧q) (hx:XsP ns.length xs∧q2):zaS d (("turn " :Str)++zaP ns xs)=("turn " :Str)++((toString (if (decide (zaP ns xs=↑6))=true then (1:Int) else 0):String):Str):=by obtain ⟨t,ws,L,b⟩:=zoT (k:=↑14) (x:=("turn " :Str)++zaP ns xs) hD hx rfl (.inr rfl) (by rw [zkB.2.1]);obtain ⟨h1,h2,_⟩:=hD;subst h2;exact zrY h1 hx.1 L b
theorem zuI {b:Bool}:(if b=true then (1:Int) else 0).natAbs.log2<1920∧(((toString (if b=true then (1:Int) else 0):String):Str)).length≤12:=by cases b<;>decide+kernel
noncomputable def zln (P0:Ji):Bool :=
 (Let (zbv P0 (1:Int) ((1:Int)+((zaB P0 (0:Int))%(8:Int)))) (λ(v339:↑2)=>(Let ((zaB P0 (0:Int))/(8:Int)) (λ(v340:Int)=>(Let (ixD [↑15,("swap" :Str),("drop" :Str),("ask" :Str),⇑4,↑14] ((v340/(64:Int))%(6:Int))) (λ(v341:Str)=>(Let (bif ((decide ((v340%(8:Int))=(3:Int))) && (!decide (v341∈v339))) then (zcZ v339 ((v340/(8:Int))%((v339.length:Nat):Int)) v341) else v339) (λ(v343:↑2)=>(Let (zaz zik (↑39++(Txt.join ⇑1 v343))) (λ(w344:Str×DeskD)=>(bif (!decide (w344.1=(↑39++((toString ((v343.length:Nat):Int):String):Str)))) then false else (Let (zbu P0 v343) (λ(p346:(Str×Ji))=>(Let (bif (decide (p346.1=⇑4)) then ↑35 else p346.1) (λ(v348:Str)=>(Let (zaP v343 p346.2) (λ(v349:Str)=>(Let (zal w344.2 v348) (λ(v350:Str)=>(bif ((!true)||(!decide (v350=(↑23++v349)))) then false else (bif ((!decide ((zal w344.2 (↑23++v349))=v350))||(!decide ((zal w344.2 ↑35)=↑35))) then false else (decide ((zaS w344.2 (("turn " :Str)++v349))=(("turn " :Str)++((toString (if (decide (v349=↑6)) then (1:Int) else 0):String):Str)))))))))))))))))))))))))
def zkV (P0:Ji):Prop:=P0.length≤63
def zq7 (K:W.Frag) (A:Adr):Sp:=Spv (ι:=Ji) (λx=>[dQ K (List.map dI x)]) (λx=>zkV x) (λx=> ↥[dB (zln x)])
theorem zfO:FnScope ["_law_script","_law_names","_law_odd","_law_word","_law_desk","_law_line","_law_basket","_law_due","_law_found"] ["_law_script"] (zaf zkD):=⇑5
theorem zur (F:Fun K "law" "law" zkD f fd) (T:Txt K mg A) (yag:CalleeM P w K mg base ↑1 10 A.Desk "tell" ["self","line"] (zcm K A)) (yar:CalleeM P w K mg base ↑1 10 A.Desk "tell" ["self","line"] (zcn K A)) (yan:CalleeM P w K mg base ↑1 5 A.Desk "tell" ["self","line"] (zb5 K A)) (yat:Callee P w K mg base ↑1 1 "_law_cell" ["_law_script","_law_k"] (zfV K A)) (ybn:Callee P w K mg base ↑1 2 "_law_named" ["_law_script","_law_at","_law_many"] (zg0 K A)) (ybC:Callee P w K mg base ↑1 1 "_law_side" ["_law_names","_law_basket"] (zhN K A)) (ybo:Callee P w K mg base ↑1 1 "_law_terms" ["_law_script","_law_names"] (zg1 K A)) {yd2:Addr} {ydF:FuncData} (ydn:Mk K A.Desk yd2) (yaO:FnOk P w K mg base ↑1 1 yd2 ydF ["self"] (ze7 K A)) (yaP:zeW K ydF ["self"] []):FnOk P w K mg base ↑1 11 f fd ["_law_script"] (zq7 K A):=by refine F.okV zfO ↑5 ↑33;have hu:=hr.units;replace hp:zkV P0:=hp;unfold zkV at hp;refine ⟨_,(zaa (zar (i:=1) zfO.nd rfl ↥0 (zaR ybn ↑3 rfl zaL ↑[pv 0,zah,zaw zdS zah (zaw zcr (zaR yat ↑3 rfl zaL ↑[pv 0,zah]) zah)])) (zaa (zar (i:=2) zfO.nd rfl ↥0 (zaw zbf (zaR yat ↑3 rfl zaL ↑[pv 0,zah]) zah)) (zaa (zar (i:=3) zfO.nd rfl ↥0 (zbp ⇑9 (zbc ↑[zaC,zaC,zaC,zaC,zaC,zaC]) (zaw zcr (zaw zbf (pv 2) zah) zah) ⇑7)) (zaa (za5 (PW.pt (zl7 (zaq zcD (zaw zcr (pv 2) zah) zah (zay _)) (zjh (zaq (zlI (K:=K) rfl) (pv 3) (pv 1) rfl)))) (zaa (zij (pv 3) (zki (pv 1) (zaw zcr (zaw zbf (pv 2) zah) ↑70) zf9)) zad) zad) (zaa (zar (i:=4) zfO.nd rfl ↥0 (zql ydn yaO ↑3 rfl T.Desk yaP .nil zaL)) (zaa (za5 (zaq zgf (zgX (pv 4) T.Desk_cl yan ↑3 zaL ↑[(zaw zbj zaC (zjx (K:=K) rfl zaC ↑[pv 1]))]) (zaw zbj zaC (zbX zcB rfl T.str ⇑6 ↑[↑70])) (zay _)) (zaa (zaM zsp) zad) zad) (zaa (zij (zaR ybo ↑3 rfl zaL ↑[pv 0,pv 1]) (ztg (n:=2) rfl (zbb (zaE (i:=5) zfO.nd rfl ↥0 ↥0) (zbb (zaE (i:=6) zfO.nd rfl ↥0 ↥0) zdP)))) (zaa (za5 (zaq zcD (pv 5) zaC (zay _)) (zaa (zar (i:=5) zfO.nd rfl ↥0 zaC) zad) zad) (zaa (zar (i:=7) zfO.nd rfl ↥0 (zaR ybC ↑3 rfl zaL ↑[pv 1,pv 6])) (zaa (zar (i:=8) zfO.nd rfl ↥0 (zgX (pv 4) T.Desk_cl yag ↑3 zaL ↑[pv 5])) (zaa (za5 (PW.pt (zoZ (zrs (zks (zaA (znr (K:=K) rfl) rfl T.isinstance PyProof.Rows.boot_isinstance ↑[pv 8,(zsC rfl T.str (v:= .ty "str") (u:= .type "str") ⇑6 rfl)]))) (zkx (zaq zgf (pv 8) (zaw zbj zaC (pv 7)) (zay _))))) (zaa (zaM zsp) zad) zad) (zaa (za5 (PW.pt (zoZ (zaq zgf (zgX (pv 4) T.Desk_cl yag ↑3 zaL ↑[zaw zbj zaC (pv 7)]) (pv 8) (zay _)) (zkx (zaq zgf (zgX (pv 4) T.Desk_cl yag ↑3 zaL ↑[zaC]) zaC (zay _))))) (zaa (zaM zsp) zad) zad) (zaa (zaM (zfk zcD (zgX (pv 4) T.Desk_cl yar ↑3 zaL ↑[zaw zbj zaC (pv 7)]) (zaw zbj zaC (zbX zcB rfl T.str ⇑6 ↑[zbX zoy rfl T.int ⇑6 ↑[zfk zcD (pv 7) zaC (zay _)]])) (zay _))) zad))))))))))))),.inl ?_⟩;show L2.Run _ ([⇑[dQ K ↥6],.no,.no,.no,.no,.no,.no,.no,.no]:L2.Ctx) _ (↑43 (zln P0));unfold zln;exact (zfF (m:=true) (x:=(zbv P0 (1:Int) ((1:Int)+((zaB P0 (0:Int))%(8:Int))))) (λz=>List.map dS z) ↑43 (EvO.anyS (m:=true) (zcu (x:=(P0,(1:Int),((1:Int)+((zaB P0 (0:Int))%(8:Int))))) (zac ⇑3 (zac zax (zac (zaX (x:=(1:Int)) (y:=((zaB P0 (0:Int))%(8:Int))) zax (zaN (x:=(zaB P0 (0:Int))) (y:=(8:Int)) (Ev.any (m:=true) (zau (x:=(P0,(0:Int))) (zac ⇑3 (zac zax zae)) rfl (by show zcX P0 (0:Int);show (0:Int)≤0;decide) rfl)) zax ↥1)) zae))) rfl (by show zdY P0 (1:Int) ((1:Int)+((zaB P0 (0:Int))%(8:Int)));refine ⟨?_,?_,?_⟩<;>omega) rfl)) (λv339 hv339=>have hN:=zuZ hv339;(zas (m:=true) (x:=((zaB P0 (0:Int))/(8:Int))) dI ↑43 (zaN (x:=(zaB P0 (0:Int))) (y:=(8:Int)) (Ev.any (m:=true) (zau (x:=(P0,(0:Int))) (zac ⇑3 (zac zax zae)) rfl (by show zcX P0 (0:Int);show (0:Int)≤0;decide) rfl)) zax ↥(⇑8)) (λv340 hv340=>(zas (m:=true) (x:=(ixD [↑15,("swap" :Str),("drop" :Str),("ask" :Str),⇑4,↑14] ((v340/(64:Int))%(6:Int)))) dS ↑43 (zbP (f:=dS) (xs:=[↑15,("swap" :Str),("drop" :Str),("ask" :Str),⇑4,↑14]) (Ev.weak (K:=K) (EvO.ev (zbR (zac zax (zac zax (zac zax (zac zax (zac zax (zac zax zae)))))) (by show 6≤sizeLine;decide)))) (zaN (x:=(v340/(64:Int))) (y:=(6:Int)) (zaN (x:=v340) (y:=(64:Int)) ↑34 zax ↥(⇑8)) zax ↥1) ↥(zre rfl)) (λv341 hv341=>have hO:=hv341;(zbJ (b:=((decide ((v340%(8:Int))=(3:Int))) && (!decide (v341∈v339)))) (λbb=>([⇑[dQ K ↥6],.ow true (List.map dS (bif bb then (zcZ v339 ((v340/(8:Int))%((v339.length:Nat):Int)) v341) else v339)),↥[dI v340],↥[dS v341],.no,.no,.no,.no,.no]:L2.Ctx)) (EvT.borrowO (i:=1) rfl (ziW (b:=(decide ((v340%(8:Int))=(3:Int)))) (zai (zeE (x:=(v340%(8:Int))) (y:=(3:Int)) (zaN (x:=v340) (y:=(8:Int)) ↑34 zax ↥1) zax)) (λhb=>(zai (zoc (x:=v341) (xs:=v339) ↑22 (Ev.old ↑18)))))) (λh342=>(zgx (f:=dS) (xs:=v339) (x:=v341) rfl ↑22 (zaN (x:=(v340/(8:Int))) (y:=((v339.length:Nat):Int)) (zaN (x:=v340) (y:=(8:Int)) ↑34 zax ↥(⇑8)) (ziQ (f:=dS) (xs:=v339) rfl) ↥(zuK hN.2)) ↥(zqz hN.2 rfl) (zao ↑25))) (λh342=>(zao ↑25)) (zco (x:=(bif ((decide ((v340%(8:Int))=(3:Int))) && (!decide (v341∈v339))) then (zcZ v339 ((v340/(8:Int))%((v339.length:Nat):Int)) v341) else v339)) (λv343=>([⇑[dQ K ↥6],.ow true (List.map dS v343),↥[dI v340],↥[dS v341],.no,.no,.no,.no,.no]:L2.Ctx)) ↑43 (λv343 hv343=>have hM:=ztS hN hO hv343;(znB (K:=K) (i:=()) zae rfl (by show zcF;exact trivial) (λp dx=>(zbV (i:=1) rfl (zqq ↑43 (λw344 hw344=>have hD:=zth hM hw344;(zr4 (c:=(!decide (w344.1=(↑39++((toString ((v343.length:Nat):Int):String):Str))))) ↑43 (zsO (x:=w344.1) (y:=(↑39++((toString ((v343.length:Nat):Int):String):Str))) (zlW (i:=4) (x:=(zik,(↑39++(Txt.join ⇑1 v343)))) (d:=dS w344.1) (fs0:=[("names",dL (List.map dS w344.2.names)),("book",dOpt (zci A.Book) w344.2.book)]) rfl (zac (zcP (x:=↑39) (y:=(Txt.join ⇑1 v343)) zax (zi8 (K:=K) (x:=⇑1) (ys:=v343) zax (Ev.old ↑18) ↥(zvn hM)) ↥(zvZ hM)) zae) rfl rfl (by show zbt zik (↑39++(Txt.join ⇑1 v343));exact (ztN (d:=zik) hM.1 hM.2).1) (by rw [hw344];try rfl) (by rw [hw344];try rfl) rfl) (zcP (x:=↑39) (y:=((toString ((v343.length:Nat):Int):String):Str)) zax (zfT (i:=((v343.length:Nat):Int)) (zbq (f:=dS) (xs:=v343) (Ev.old ↑18)) ↥(zvY hM)) ↥(zvC hM))) (λh345=>(zaK (zak (zaD zax)))) (λh345=>(zmK (i:=4) rfl rfl (zaj (zjB (m:=true) (x:=(zbu P0 v343)) (λ(p346:(Str×Ji))=>dS p346.1) (λ(p346:(Str×Ji))=>dL (List.map dI p346.2)) ↑43 (zau (x:=(P0,v343)) (zac ⇑3 (zac (Ev.old ↑7) zae)) rfl (by show zdU P0 v343;exact hM) rfl) (λp346 hp346=>have hT:=zt0 hD hp346;(zbJ (b:=(decide (p346.1=⇑4))) (λbb=>([⇑[dQ K ↥6],↥[dL (List.map dS v343)],↥[dI v340],↥[dS v341],⇑[zig A A.Desk w344.2],↥[dS (bif bb then ↑35 else p346.1)],↥[dL (List.map dI p346.2)],.no,.no]:L2.Ctx)) (zai (zcL (x:=p346.1) (y:=⇑4) ↑31 zax)) (λh347=>(zbG (m:=true) zax (zao ↑25))) (λh347=>(zao ↑25)) (zco (x:=(bif (decide (p346.1=⇑4)) then ↑35 else p346.1)) (λv348=>([⇑[dQ K ↥6],↥[dL (List.map dS v343)],↥[dI v340],↥[dS v341],⇑[zig A A.Desk w344.2],↥[dS v348],↥[dL (List.map dI p346.2)],.no,.no]:L2.Ctx)) ↑43 (λv348 hv348=>have hI:=hv348;(zas (m:=true) (x:=(zaP v343 p346.2)) dS ↑43 (Ev.any (m:=true) (zau (x:=(v343,p346.2)) (zac (Ev.old ↑7) (zac (Ev.old (zab (i:=6) rfl)) zae)) rfl (by show zei v343 p346.2;exact zuu hM hT) rfl)) (λv349 hv349=>have hU:=hv349;have hV:=zwu hM hT hv349;(zas (m:=true) (x:=(zal w344.2 v348)) dS ↑43 (Ev.any (m:=true) (zgD (x:=(w344.2,v348)) (zab (i:=4) rfl) (zac ↑31 zae) rfl (by show za0 w344.2 v348;rw [hI];exact hT.2.1) rfl rfl)) (λv350 hv350=>(zbM (b:=((!true)||(!decide (v350=(↑23++v349))))) ↑43 (zjP (b:=(!true)) (zoJ (zh8 (zs4 (λ_=>TyOf.str _) ↑66 T.kit_str_str))) (λhb=>(zai (zj3 (x:=v350) (y:=(↑23++v349)) ↑66 (zcP (x:=↑23) (y:=v349) zax ↑71 ↥(zqp (by rw [zir.2.1];decide) hV)))))) (λh351=>(zaK (zak (zaD zax)))) (λh351=>(zaj (zbM (b:=((!decide ((zal w344.2 (↑23++v349))=v350))||(!decide ((zal w344.2 ↑35)=↑35)))) ↑43 (zjP (b:=(!decide ((zal w344.2 (↑23++v349))=v350))) (zai (zj3 (x:=(zal w344.2 (↑23++v349))) (y:=v350) (Ev.any (m:=true) (zgD (x:=(w344.2,(↑23++v349))) (zab (i:=4) rfl) (zac (zcP (x:=↑23) (y:=v349) zax ↑71 ↥(zqp (by rw [zir.2.1];decide) hV)) zae) rfl (by show za0 w344.2 (↑23++v349);exact (zoT hD hT hU (.inl rfl) (by rw [zkB.1])).1) rfl rfl)) ↑66)) (λhb=>(zai (zj3 (x:=(zal w344.2 ↑35)) (y:=↑35) (Ev.any (m:=true) (zgD (x:=(w344.2,↑35)) (zab (i:=4) rfl) (zac zax zae) rfl (by show za0 w344.2 ↑35;exact (zva hM hD).1) rfl rfl)) zax)))) (λh352=>(zaK (zak (zaD zax)))) (λh352=>(zaj (zak (zaD (zcL (x:=(zaS w344.2 (("turn " :Str)++v349))) (y:=(("turn " :Str)++((toString (if (decide (v349=↑6)) then (1:Int) else 0):String):Str))) (Ev.any (m:=true) (zgD (x:=(w344.2,(("turn " :Str)++v349))) (zab (i:=4) rfl) (zac (zcP (x:=("turn " :Str)) (y:=v349) zax ↑71 ↥(zqp (by rw [zir.2.2];decide) hV)) zae) rfl (by show zby w344.2 (("turn " :Str)++v349);exact (zoT hD hT hU (.inr rfl) (by rw [zkB.2.1])).1) rfl rfl)) (zcP (x:=("turn " :Str)) (y:=((toString (if (decide (v349=↑6)) then (1:Int) else 0):String):Str)) zax (zfT (i:=(if (decide (v349=↑6)) then (1:Int) else 0)) (zrE (b:=(decide (v349=↑6))) (zac (zcL (x:=v349) (y:=↑6) ↑71 zax) zae)) ↥(zuI.1)) ↥(zqp (by rw [zir.2.2];decide) (Nat.le_trans zuI.2 ↥1)))))))))))))))))))))))))))))))))))))))
theorem zgm {α β:Type} {x:α} {f:α->β} {b:β} (h:∀y,y=x->f y=b):Let x f=b:=h x rfl
theorem zpS (sc:Ji) (_:sc.length≤63):zln sc=true:=by
 unfold zln;refine zgm λns hns=> ?_;have hN:=zuZ hns;refine zgm λod _=> ?_;refine zgm λwd hwd=> ?_;refine zgm λnw hnw=> ?_;have hM:=ztS hN hwd hnw;refine zgm λw hw=> ?_;have hD:=zth hM hw;rw [hD.2.2,decide_eq_true rfl,Bool.not_true,cond_false];refine zgm λp hp=> ?_;have hT:=zt0 hD hp;refine zgm λl hl=> ?_;refine zgm λu hu=> ?_;refine zgm λf hf=> ?_;have e1:f=↑23++u:=by rw [hf,hl,hu];exact hT.2.2
 subst e1;subst hu;rw [zvy hD hT,(zva hM hD).2,zvH hD hT,decide_eq_true rfl,decide_eq_true rfl];simp
def zp9 (K:W.Frag):Sp:=λvs H Q _=>∃(a:Addr) (ns:Ji),vs=[.ref a]∧SqL K H a (ns.map V.int)∧ns.length≤63∧∀H',Q (.bl true) H'
theorem ztP {K:W.Frag} {A:Adr} {vs:List V} {H:Hp} {Q:VK} {E:XK} (h:zp9 K vs H Q E):zq7 K A vs H Q E:=by
 obtain ⟨a,ns,rfl,hS,hl,q⟩:=h;refine ⟨ns,H,Same.refl _,.cons ⟨a,_,rfl,hS,?_⟩ .nil,hl,λv F' H' _ hv=> ?_⟩;·clear hS hl;induction ns with|nil=>exact .nil|cons n ns ih=>exact .cons rfl ih
 ·have hv:v= .bl (zln ns):=hv;rw [hv,zpS ns hl];exact q _
theorem zun {l:W.OpenLaw} {w:World} {K:W.Frag} {h:Heap} {mg:Str->Option Value} {fa f0 f1 f2 f3 f4 f5 f6 f7 f8 f9 f10 f11 f12 f13 f14 f15 f16 f17 f18 f19 f20 f21 f22 f23 f24 f25 f26 f27 f28 f29 f30 f31 f32 f33 f34 f35 f36 f37 f38 f39 f40 f41 f42 f43 f44 f45 f46 f47 f48 f49 f50 yaj yau yak yay yav yae T_MARKS:Addr} (X:K.In h) (G:h.Ns mainGlobals mg) (hfa:mg "law" =some (.ref fa))
  {yaJ ya9 ybI ybJ yaS yaI ybb ya1:Tok}
  (ybT:W.nsIn K mainGlobals "Stairs" =some (some (.ref yaj)))
  (ycx:W.nsIn K mainGlobals "Book" =some (some (.ref yau)))
  (ycf:W.nsIn K mainGlobals "Scale" =some (some (.ref yak)))
  (ycy:W.nsIn K mainGlobals "Line" =some (some (.ref yay)))
  (ycz:W.nsIn K mainGlobals "Rest" =some (some (.ref yav)))
  (ycA:W.nsIn K mainGlobals "Desk" =some (some (.ref yae)))
  (a0:W.nsIn K mainGlobals "made_of" =some (some (.ref f0)))
  (q0:FA K f0 "made_of" "made_of" zgp)
  (a1:W.nsIn K mainGlobals "is_name" =some (some (.ref f1)))
  (q1:FA K f1 "is_name" "is_name" zib)
  (a2:W.nsIn K mainGlobals "is_count" =some (some (.ref f2)))
  (q2:FA K f2 "is_count" "is_count" zgS)
  (a3:W.nsIn K mainGlobals "names_of" =some (some (.ref f3)))
  (q3:FA K f3 "names_of" "names_of" zfA)
  (a4:W.nsIn K mainGlobals "term_of" =some (some (.ref f4)))
  (q4:FA K f4 "term_of" "term_of" zh5)
  (a5:W.nsIn K mainGlobals "side_of" =some (some (.ref f5)))
  (q5:FA K f5 "side_of" "side_of" zgv)
  (a6:W.nsIn K mainGlobals "refuse_bad_names" =some (some (.ref f6)))
  (q6:FA K f6 "refuse_bad_names" "refuse_bad_names" zct)
  (a7:W.nsIn K mainGlobals "basket_of" =some (some (.ref f7)))
  (q7:FA K f7 "basket_of" "basket_of" zfW)
  (a8:W.nsIn K mainGlobals "numbers_written" =some (some (.ref f8)))
  (q8:FA K f8 "numbers_written" "numbers_written" zcG)
  (a9:W.nsIn K mainGlobals "basket_written" =some (some (.ref f9)))
  (q9:FA K f9 "basket_written" "basket_written" zdO)
  (a10:W.nsIn K mainGlobals "read_line" =some (some (.ref f10)))
  (q10:FA K f10 "read_line" "read_line" zkR)
  (a11:W.nsIn K mainGlobals "refuse_unlike" =some (some (.ref f11)))
  (q11:FA K f11 "refuse_unlike" "refuse_unlike" zd6)
  (a12:W.nsIn K mainGlobals "plus" =some (some (.ref f12)))
  (q12:FA K f12 "plus" "plus" zlY)
  (a13:W.nsIn K mainGlobals "less" =some (some (.ref f13)))
  (q13:FA K f13 "less" "less" zmg)
  (a14:W.nsIn K mainGlobals "times" =some (some (.ref f14)))
  (q14:FA K f14 "times" "times" zja)
  (a15:W.nsIn K mainGlobals "weighed" =some (some (.ref f15)))
  (q15:FA K f15 "weighed" "weighed" zgq)
  (a16:W.nsIn K mainGlobals "head_of" =some (some (.ref f16)))
  (q16:FA K f16 "head_of" "head_of" zhW)
  (a17:W.nsIn K mainGlobals "common" =some (some (.ref f17)))
  (q17:FA K f17 "common" "common" zjD)
  (a18:W.nsIn K mainGlobals "upright" =some (some (.ref f18)))
  (q18:FA K f18 "upright" "upright" zho)
  (a19:W.nsIn K mainGlobals "lowered" =some (some (.ref f19)))
  (q19:FA K f19 "lowered" "lowered" zhU)
  (a20:W.nsIn K mainGlobals "merged" =some (some (.ref f20)))
  (q20:FA K f20 "merged" "merged" zjc)
  (a21:W.nsIn K mainGlobals "taken_in" =some (some (.ref f21)))
  (q21:FA K f21 "taken_in" "taken_in" zgJ)
  (a22:W.nsIn K mainGlobals "settled" =some (some (.ref f22)))
  (q22:FA K f22 "settled" "settled" zhQ)
  (a23:W.nsIn K mainGlobals "climbed" =some (some (.ref f23)))
  (q23:FA K f23 "climbed" "climbed" zhM)
  (a24:W.nsIn K mainGlobals "marked" =some (some (.ref f24)))
  (q24:FA K f24 "marked" "marked" ziV)
  (a25:W.nsIn K mainGlobals "traced" =some (some (.ref f25)))
  (q25:FA K f25 "traced" "traced" zi5)
  (a26:W.nsIn K mainGlobals "counted" =some (some (.ref f26)))
  (q26:FA K f26 "counted" "counted" zia)
  (a27:W.nsIn K mainGlobals "book_of" =some (some (.ref f27)))
  (q27:FA K f27 "book_of" "book_of" zh0)
  (a28:W.nsIn K mainGlobals "refuse_bad_basket" =some (some (.ref f28)))
  (q28:FA K f28 "refuse_bad_basket" "refuse_bad_basket" zcV)
  (a29:W.nsIn K mainGlobals "way_to" =some (some (.ref f29)))
  (q29:FA K f29 "way_to" "way_to" zjl)
  (a30:W.nsIn K mainGlobals "levelled" =some (some (.ref f30)))
  (q30:FA K f30 "levelled" "levelled" zgy)
  (a31:W.nsIn K mainGlobals "divisor" =some (some (.ref f31)))
  (q31:FA K f31 "divisor" "divisor" zh3)
  (a32:W.nsIn K mainGlobals "shortened" =some (some (.ref f32)))
  (q32:FA K f32 "shortened" "shortened" zeR)
  (a33:W.nsIn K mainGlobals "shown" =some (some (.ref f33)))
  (q33:FA K f33 "shown" "shown" zhr)
  (a34:W.nsIn K mainGlobals "turn_of" =some (some (.ref f34)))
  (q34:FA K f34 "turn_of" "turn_of" zhn)
  (a35:W.nsIn K mainGlobals "stairs" =some (some (.ref f35)))
  (q35:FA K f35 "stairs" "stairs" ze0)
  (a36:W.nsIn K mainGlobals "home" =some (some (.ref f36)))
  (q36:FA K f36 "home" "home" zpv)
  (a37:W.nsIn K mainGlobals "_law_cell" =some (some (.ref f37)))
  (q37:FA K f37 "_law_cell" "_law_cell" zgN)
  (a38:W.nsIn K mainGlobals "_law_side" =some (some (.ref f38)))
  (q38:FA K f38 "_law_side" "_law_side" zgB)
  (a39:W.nsIn K mainGlobals "_law_spelled" =some (some (.ref f39)))
  (q39:FA K f39 "_law_spelled" "_law_spelled" ze4)
  (a40:W.nsIn K mainGlobals "_law_named" =some (some (.ref f40)))
  (q40:FA K f40 "_law_named" "_law_named" zf0)
  (a41:W.nsIn K mainGlobals "_law_terms" =some (some (.ref f41)))
  (q41:FA K f41 "_law_terms" "_law_terms" zeU)
  (a42:W.nsIn K mainGlobals "law" =some (some (.ref f42)))
  (q42:FA K f42 "law" "law" zkD)
  (ycg:W.findIn K (.ref yae) "begin" =some (some (.ref f43)))
  (i43:W.isFn K (.ref f43)=true)
  (q43:FA K f43 "begin" "Desk.begin" zfm)
  (ybc:W.findIn K (.ref yae) "tell" =some (some (.ref f44)))
  (i44:W.isFn K (.ref f44)=true)
  (q44:FA K f44 "tell" "Desk.tell" zkM)
  (ybD:W.findIn K (.ref yae) "answer" =some (some (.ref f45)))
  (i45:W.isFn K (.ref f45)=true)
  (q45:FA K f45 "answer" "Desk.answer" zjg)
  (a46:W.findIn K (.ref yau) "__init__" =some (some (.ref f46)))
  (i46:W.isFn K (.ref f46)=true)
  (q46:FA K f46 "__init__" "Book.__init__" zc9)
  (a47:W.findIn K (.ref yak) "__init__" =some (some (.ref f47)))
  (i47:W.isFn K (.ref f47)=true)
  (ych:W.findIn K (.ref yay) "__init__" =some (some (.ref f47)))
  (bg47:W.specialIn K (.ref yak) "__getattribute__" =some (some (.builtin "type.__getattribute__")))
  (br47:W.readsIn K yak (.type "type")=true)
  (bf47:W.findCls K (.ref yak) (.type "type") "__init__" =some (.val (.ref f47)))
  (q47:FA K f47 "__init__" "Scale.__init__" zg8)
  (a48:W.findIn K (.ref yav) "__init__" =some (some (.ref f48)))
  (i48:W.isFn K (.ref f48)=true)
  (q48:FA K f48 "__init__" "Rest.__init__" zc4)
  (a49:W.findIn K (.ref yaj) "__init__" =some (some (.ref f49)))
  (i49:W.isFn K (.ref f49)=true)
  (q49:FA K f49 "__init__" "Stairs.__init__" zdz)
  (a50:W.findIn K (.ref yae) "__init__" =some (some (.ref f50)))
  (i50:W.isFn K (.ref f50)=true)
  (q50:FA K f50 "__init__" "Desk.__init__" zea)
  (ybU:W.plainGet K yaj Str.empty=true)
  (ybV:W.hasDictIn K yaj=true)
  (ybW:W.plainOver K yaj=true)
  (ybX:W.findIn K (.ref yaj) "__setattr__" =some ↑74)
  (ybY:W.makesIn K yaj=true)
  (ybZ:W.keepIn K (.ref yaj)=true)
  (yaU:W.findIn K (.ref yaj) "steps" =some none)
  (yaV:W.findIn K (.ref yaj) "heads" =some none)
  (yaW:W.findIn K (.ref yaj) "roads" =some none)
  (ycB:W.plainGet K yau Str.empty=true)
  (ycC:W.hasDictIn K yau=true)
  (ycD:W.plainOver K yau=true)
  (ycE:W.findIn K (.ref yau) "__setattr__" =some ↑74)
  (ycF:W.makesIn K yau=true)
  (ycG:W.keepIn K (.ref yau)=true)
  (ybp:W.findIn K (.ref yau) "many" =some none)
  (ybd:W.findIn K (.ref yau) "swaps" =some none)
  (yci:W.plainGet K yak Str.empty=true)
  (ycj:W.hasDictIn K yak=true)
  (yck:W.plainOver K yak=true)
  (ycl:W.findIn K (.ref yak) "__setattr__" =some ↑74)
  (ydo:W.makesIn K yak=true)
  (ydp:W.keepIn K (.ref yak)=true)
  (yaQ:W.findIn K (.ref yak) "weights" =some none)
  (ycH:W.plainGet K yay Str.empty=true)
  (ycI:W.hasDictIn K yay=true)
  (ycJ:W.plainOver K yay=true)
  (ycK:W.findIn K (.ref yay) "__setattr__" =some ↑74)
  (ycL:W.makesIn K yay=true)
  (ycM:W.keepIn K (.ref yay)=true)
  (yaX:W.findIn K (.ref yay) "weights" =some none)
  (ycN:W.plainGet K yav Str.empty=true)
  (ycO:W.hasDictIn K yav=true)
  (ycP:W.plainOver K yav=true)
  (ycQ:W.findIn K (.ref yav) "__setattr__" =some ↑74)
  (ycR:W.makesIn K yav=true)
  (ycS:W.keepIn K (.ref yav)=true)
  (yaY:W.findIn K (.ref yav) "weights" =some none)
  (ybq:W.findIn K (.ref yav) "rest" =some none)
  (ycT:W.plainGet K yae Str.empty=true)
  (ycU:W.hasDictIn K yae=true)
  (ycV:W.plainOver K yae=true)
  (ycW:W.findIn K (.ref yae) "__setattr__" =some ↑74)
  (ycX:W.makesIn K yae=true)
  (ycY:W.keepIn K (.ref yae)=true)
  (ybe:W.findIn K (.ref yae) "names" =some none)
  (ybr:W.findIn K (.ref yae) "book" =some none)
  (ydI:W.nsIn K mainGlobals "abs" =some none)
  (ydJ:W.nsIn K mainGlobals "all" =some none)
  (ydK:W.nsIn K mainGlobals "any" =some none)
  (ybs:W.nsIn K mainGlobals "enumerate" =some none)
  (ydL:W.nsIn K mainGlobals "int" =some none)
  (ybf:W.nsIn K mainGlobals "isinstance" =some none)
  (ydM:W.nsIn K mainGlobals "len" =some none)
  (ydq:W.nsIn K mainGlobals "list" =some none)
  (ycZ:W.nsIn K mainGlobals "range" =some none)
  (ybE:W.nsIn K mainGlobals "reversed" =some none)
  (ydN:W.nsIn K mainGlobals "set" =some none)
  (ydO:W.nsIn K mainGlobals "str" =some none)
  (ydP:W.nsIn K mainGlobals "sum" =some none)
  (ydQ:W.nsIn K mainGlobals "zip" =some none)
  (g_MOST_WARES:W.nsIn K mainGlobals "MOST_WARES" =some (some (.int 8 yaJ)))
  (g_MOST_SWAPS:W.nsIn K mainGlobals "MOST_SWAPS" =some (some (.int 12 ya9)))
  (g_LETTERS:W.nsIn K mainGlobals "LETTERS" =some (some (.str "abcdefghijklmnopqrstuvwxyz" ybI)))
  (g_FIGURES:W.nsIn K mainGlobals "FIGURES" =some (some (.str "0123456789" ybJ)))
  (g_LONGEST_NAME:W.nsIn K mainGlobals "LONGEST_NAME" =some (some (.int 12 yaS)))
  (g_LONGEST_COUNT:W.nsIn K mainGlobals "LONGEST_COUNT" =some (some (.int 12 yaI)))
  (yas:W.nsIn K mainGlobals "LONGEST_NUMBER" =some (some (.int 2 ybb)))
  (g_NOTHING:W.nsIn K mainGlobals "NOTHING" =some (some (.str "nothing" ya1)))
  (aT_MARKS:W.nsIn K mainGlobals "MARKS" =some (some (.ref T_MARKS)))
  (tk_MARKS:zrt K T_MARKS=some [↥2,⇑2,("=" :Str)])
  (kit_str_str:W.kitOne K (.type "str") (.type "str")=some true) :
  ∃fd:FuncData,(∀(s:Shared) (v:Value),BindsTo s fd ⟨[v],[]⟩ [("_law_script",v)])∧∀base:Heap,K.In base->base.Ns mainGlobals mg->FnOk l.prog w K mg base (CXE l.prog w) 11 fa fd ["_law_script"] (zp9 K):=by
   have e:=hfa.symm.trans (W.mg_of X G a42);cases e;have yc1:=q0.f;have yd3:=yc1.binds (ps:=["word","signs"]) λ_ _ _ _ _ _ us hl=>match us,hl with|[_,_],_=>rfl
   have zcA:=W.mg_of X G a0;have yc2:=q1.f;have yd4:=yc2.binds (ps:=["word"]) λ_ _ _ _ _ _ us hl=>match us,hl with|[_],_=>rfl
   have zcy:=W.mg_of X G a1;have yco:=q2.f;have ydR:=yco.binds (ps:=["word"]) λ_ _ _ _ _ _ us hl=>match us,hl with|[_],_=>rfl
   have zcH:=W.mg_of X G a2;have ycp:=q3.f;have ydS:=ycp.binds (ps:=["words"]) λ_ _ _ _ _ _ us hl=>match us,hl with|[_],_=>rfl
   have zdu:=W.mg_of X G a3;have yc3:=q4.f;have yd5:=yc3.binds (ps:=["words"]) λ_ _ _ _ _ _ us hl=>match us,hl with|[_],_=>rfl
   have zbY:=W.mg_of X G a4;have yc4:=q5.f;have yd6:=yc4.binds (ps:=["words"]) λ_ _ _ _ _ _ us hl=>match us,hl with|[_],_=>rfl
   have zaO:=W.mg_of X G a5;have ya3:=q6.f;have yb0:=ya3.binds (ps:=["names"]) λ_ _ _ _ _ _ us hl=>match us,hl with|[_],_=>rfl
   have zep:=W.mg_of X G a6;have yb3:=q7.f;have ydy:=yb3.binds (ps:=["names","side"]) λ_ _ _ _ _ _ us hl=>match us,hl with|[_,_],_=>rfl
   have zaG:=W.mg_of X G a7;have ya6:=q8.f;have yb2:=ya6.binds (ps:=["word","numbers"]) λ_ _ _ _ _ _ us hl=>match us,hl with|[_,_],_=>rfl
   have zaU:=W.mg_of X G a8;have ybg:=q9.f;have ycm:=ybg.binds (ps:=["names","basket"]) λ_ _ _ _ _ _ us hl=>match us,hl with|[_,_],_=>rfl
   have zaF:=W.mg_of X G a9;have ybt:=q10.f;have yb4:=ybt.binds (ps:=["line"]) λ_ _ _ _ _ _ us hl=>match us,hl with|[_],_=>rfl
   have yb5:=W.mg_of X G a10;have ybj:=q11.f;have ycq:=ybj.binds (ps:=["one","other"]) λ_ _ _ _ _ _ us hl=>match us,hl with|[_,_],_=>rfl
   have zfn:=W.mg_of X G a11;have yd7:=q12.f;have yet:=yd7.binds (ps:=["one","other"]) λ_ _ _ _ _ _ us hl=>match us,hl with|[_,_],_=>rfl
   have zhO:=W.mg_of X G a12;have yd8:=q13.f;have yeu:=yd8.binds (ps:=["one","other"]) λ_ _ _ _ _ _ us hl=>match us,hl with|[_,_],_=>rfl
   have ze6:=W.mg_of X G a13;have ydG:=q14.f;have yer:=ydG.binds (ps:=["some","many"]) λ_ _ _ _ _ _ us hl=>match us,hl with|[_,_],_=>rfl
   have zan:=W.mg_of X G a14;have yc5:=q15.f;have yd9:=yc5.binds (ps:=["one","other"]) λ_ _ _ _ _ _ us hl=>match us,hl with|[_,_],_=>rfl
   have zbZ:=W.mg_of X G a15;have yc6:=q16.f;have yea:=yc6.binds (ps:=["row"]) λ_ _ _ _ _ _ us hl=>match us,hl with|[_],_=>rfl
   have zag:=W.mg_of X G a16;have ydr:=q17.f;have yek:=ydr.binds (ps:=["one","other"]) λ_ _ _ _ _ _ us hl=>match us,hl with|[_,_],_=>rfl
   have zc2:=W.mg_of X G a17;have yc7:=q18.f;have yeb:=yc7.binds (ps:=["row"]) λ_ _ _ _ _ _ us hl=>match us,hl with|[_],_=>rfl
   have zbH:=W.mg_of X G a18;have yc8:=q19.f;have yec:=yc8.binds (ps:=["row","steps"]) λ_ _ _ _ _ _ us hl=>match us,hl with|[_,_],_=>rfl
   have m_lowered:=W.mg_of X G a19;have yds:=q20.f;have yel:=yds.binds (ps:=["step","row"]) λ_ _ _ _ _ _ us hl=>match us,hl with|[_,_],_=>rfl
   have zbs:=W.mg_of X G a20;have ycr:=q21.f;have ydT:=ycr.binds (ps:=["steps","row"]) λ_ _ _ _ _ _ us hl=>match us,hl with|[_,_],_=>rfl
   have m_taken_in:=W.mg_of X G a21;have yc9:=q22.f;have yed:=yc9.binds (ps:=["steps"]) λ_ _ _ _ _ _ us hl=>match us,hl with|[_],_=>rfl
   have zcw:=W.mg_of X G a22;have yda:=q23.f;have yee:=yda.binds (ps:=["rows"]) λ_ _ _ _ _ _ us hl=>match us,hl with|[_],_=>rfl
   have zaV:=W.mg_of X G a23;have ydt:=q24.f;have yem:=ydt.binds (ps:=["rows"]) λ_ _ _ _ _ _ us hl=>match us,hl with|[_],_=>rfl
   have zem:=W.mg_of X G a24;have ydu:=q25.f;have yen:=ydu.binds (ps:=["rows"]) λ_ _ _ _ _ _ us hl=>match us,hl with|[_],_=>rfl
   have zbk:=W.mg_of X G a25;have ydb:=q26.f;have yef:=ydb.binds (ps:=["steps","basket","many"]) λ_ _ _ _ _ _ us hl=>match us,hl with|[_,_,_],_=>rfl
   have zd7:=W.mg_of X G a26;have ydc:=q27.f;have yeg:=ydc.binds (ps:=["many","swaps"]) λ_ _ _ _ _ _ us hl=>match us,hl with|[_,_],_=>rfl
   have zdG:=W.mg_of X G a27;have yaR:=q28.f;have ybH:=yaR.binds (ps:=["book","basket"]) λ_ _ _ _ _ _ us hl=>match us,hl with|[_,_],_=>rfl
   have zd8:=W.mg_of X G a28;have ydv:=q29.f;have yeo:=ydv.binds (ps:=["book","basket"]) λ_ _ _ _ _ _ us hl=>match us,hl with|[_,_],_=>rfl
   have zcp:=W.mg_of X G a29;have ycs:=q30.f;have ydU:=ycs.binds (ps:=["steps","length"]) λ_ _ _ _ _ _ us hl=>match us,hl with|[_,_],_=>rfl
   have za9:=W.mg_of X G a30;have ydd:=q31.f;have yeh:=ydd.binds (ps:=["numbers"]) λ_ _ _ _ _ _ us hl=>match us,hl with|[_],_=>rfl
   have zbg:=W.mg_of X G a31;have yb6:=q32.f;have ydz:=yb6.binds (ps:=["numbers"]) λ_ _ _ _ _ _ us hl=>match us,hl with|[_],_=>rfl
   have zaQ:=W.mg_of X G a32;have ydH:=q33.f;have yes:=ydH.binds (ps:=["book","basket"]) λ_ _ _ _ _ _ us hl=>match us,hl with|[_,_],_=>rfl
   have m_shown:=W.mg_of X G a33;have yde:=q34.f;have yei:=yde.binds (ps:=["book","basket"]) λ_ _ _ _ _ _ us hl=>match us,hl with|[_,_],_=>rfl
   have za6:=W.mg_of X G a34;have ydw:=q35.f;have yep:=ydw.binds (ps:=["book"]) λ_ _ _ _ _ _ us hl=>match us,hl with|[_],_=>rfl
   have zdc:=W.mg_of X G a35;have yej:=q36.f;have yev:=yej.binds (ps:=["book","basket"]) λ_ _ _ _ _ _ us hl=>match us,hl with|[_,_],_=>rfl
   have zdJ:=W.mg_of X G a36;have yct:=q37.f;have ydV:=yct.binds (ps:=["_law_script","_law_k"]) λ_ _ _ _ _ _ us hl=>match us,hl with|[_,_],_=>rfl
   have zaB:=W.mg_of X G a37;have ycu:=q38.f;have ydW:=ycu.binds (ps:=["_law_names","_law_basket"]) λ_ _ _ _ _ _ us hl=>match us,hl with|[_,_],_=>rfl
   have zaP:=W.mg_of X G a38;have ybF:=q39.f;have ydf:=ybF.binds (ps:=["_law_digits","_law_many"]) λ_ _ _ _ _ _ us hl=>match us,hl with|[_,_],_=>rfl
   have zbn:=W.mg_of X G a39;have yb7:=q40.f;have ydA:=yb7.binds (ps:=["_law_script","_law_at","_law_many"]) λ_ _ _ _ _ _ us hl=>match us,hl with|[_,_,_],_=>rfl
   have zbv:=W.mg_of X G a40;have yb8:=q41.f;have ydB:=yb8.binds (ps:=["_law_script","_law_names"]) λ_ _ _ _ _ _ us hl=>match us,hl with|[_,_],_=>rfl
   have zbu:=W.mg_of X G a41;obtain ⟨_,kV42,dc42,pm42,cd42,ct42,_,an42,_,l42,c42,k42⟩:=q42;have yeq:=zqJ (st:=zkD) l42 c42 k42;have yew:=yeq.binds (ps:=["_law_script"]) λ_ _ _ _ _ _ us hl=>match us,hl with|[_],_=>rfl
   have zln:=W.mg_of X G a42;have yb1:=q43.f;have ydx:=yb1.binds (ps:=["self","names"]) λ_ _ _ _ _ _ us hl=>match us,hl with|[_,_],_=>rfl
   have ya0:=q44.f;have ybu:=ya0.binds (ps:=["self","line"]) λ_ _ _ _ _ _ us hl=>match us,hl with|[_,_],_=>rfl
   have ya5:=q45.f;have ybG:=ya5.binds (ps:=["self","order","sides"]) λ_ _ _ _ _ _ us hl=>match us,hl with|[_,_,_],_=>rfl
   have ybk:=q46.f;have yaL:=ybk.binds (ps:=["self","many","swaps"]) λ_ _ _ _ _ _ us hl=>match us,hl with|[_,_,_],_=>rfl
   have yaE:=q47.f;have ybh:=yaE.binds (ps:=["self","weights"]) λ_ _ _ _ _ _ us hl=>match us,hl with|[_,_],_=>rfl
   have ybl:=q48.f;have yaN:=ybl.binds (ps:=["self","rest","weights"]) λ_ _ _ _ _ _ us hl=>match us,hl with|[_,_,_],_=>rfl
   have ya7:=q49.f;have yaA:=ya7.binds (ps:=["self","steps","heads","roads"]) λ_ _ _ _ _ _ us hl=>match us,hl with|[_,_,_,_],_=>rfl
   have ybm:=q50.f;have yaP:=ybm.binds (ps:=["self"]) λ_ _ _ _ _ _ us hl=>match us,hl with|[_],_=>rfl
   have T:Txt K mg ⟨(),yaj,yau,yak,yay,yav,yae,T_MARKS⟩:=⟨W.mg_none_of X G ydI,W.mg_none_of X G ydJ,W.mg_none_of X G ydK,W.mg_none_of X G ybs,W.mg_none_of X G ydL,W.mg_none_of X G ybf,W.mg_none_of X G ydM,W.mg_none_of X G ydq,W.mg_none_of X G ycZ,W.mg_none_of X G ybE,W.mg_none_of X G ydN,W.mg_none_of X G ydO,W.mg_none_of X G ydP,W.mg_none_of X G ydQ,W.mg_of X G ybT,⟨ybU,ybV,ybW,ybX⟩,yaU,yaV,yaW,W.mg_of X G ycx,⟨ycB,ycC,ycD,ycE⟩,ybp,ybd,W.mg_of X G ycf,⟨yci,ycj,yck,ycl⟩,yaQ,W.mg_of X G ycy,⟨ycH,ycI,ycJ,ycK⟩,yaX,W.mg_of X G ycz,⟨ycN,ycO,ycP,ycQ⟩,yaY,ybq,W.mg_of X G ycA,⟨ycT,ycU,ycV,ycW⟩,ybe,ybr,⟨yaJ,W.mg_of X G g_MOST_WARES⟩,⟨ya9,W.mg_of X G g_MOST_SWAPS⟩,⟨ybI,W.mg_of X G g_LETTERS⟩,⟨ybJ,W.mg_of X G g_FIGURES⟩,⟨yaS,W.mg_of X G g_LONGEST_NAME⟩,⟨yaI,W.mg_of X G g_LONGEST_COUNT⟩,⟨ybb,W.mg_of X G yas⟩,⟨ya1,W.mg_of X G g_NOTHING⟩,W.mg_of X G aT_MARKS,tk_MARKS,kit_str_str⟩;refine ⟨W.fnOf "law" "law" (zf1 zkD) (zed zkD) (zaf zkD) .none kV42 dc42 pm42 an42 cd42 ct42,λs v=> .of_eq rfl,λbase _ _=> ?_⟩;have ydh:Mk K yau f46:=⟨ycF,a46,i46,ycG⟩;have ydk:Mk K yay f47:=⟨ycL,ych,i47,ycM⟩;have yao:ByCls K yak f47 "__init__" :=⟨bg47,br47,bf47,q47.k⟩;have ydj:Mk K yav f48:=⟨ycR,a48,i48,ycS⟩;have ycd:Mk K yaj f49:=⟨ybY,a49,i49,ybZ⟩;have ydn:Mk K yae f50:=⟨ycX,a50,i50,ycY⟩;have yaF:=cm l w base (zmE yc1 T) zcA q0.k yd3;have ybL:=cm l w base (zmT yc2 T yaF) zcy q1.k yd4;have yby:=cm l w base (zk2 yco T yaF) zcH q2.k ydR;have ybz:=cm l w base (zkF ycp T) zdu q3.k ydS;have ybK:=cm l w base (zm5 yc3 T yby) zbY q4.k yd5;have ybM:=cm l w base (zmR yc4 T ybK) zaO q5.k yd6;have yax:=cm l w base (zfX ya3 T ybL) zep q6.k yb0;have yaw:=cm l w base (zku yb3 T) zaG q7.k ydy;have yah:=cm l w base (zge ya6 T) zaU q8.k yb2;have yaD:=cm l w base (zgz ybg T) zaF q9.k ycm;have yaB:=cm l w base (zgi ybt T ybz) yb5 q10.k yb4;have yai:=cm l w base (zgG ybt T ybM) yb5 q10.k yb4;have yac:=cm l w base (zha ybj T) zfn q11.k ycq;have ydg:=cm l w base (zsU yd7 T yac) zhO q12.k yet;have ybv:=cm l w base (zss yd8 T yac) ze6 q13.k yeu;have yab:=cm l w base (zqw ydG T) zan q14.k yer;have ybP:=cm l w base (zmP yc5 T yac) zbZ q15.k yd9;have yaa:=cm l w base (zmC yc6 T) zag q16.k yea;have yb9:=cm l w base (zo9 ydr T) zc2 q17.k yek;have ybi:=cm l w base (zm7 yc7 T yaa yab) zbH q18.k yeb;have yaf:=cm l w base (zna yc8 T yaa ybv yab) m_lowered q19.k yec;have yca:=cm l w base (zpg yds T yb9 yaa ybv ydg yab) zbs q20.k yel;have ybA:=cm l w base (zlc ycr T yaa yaf yca ybi) m_taken_in q21.k ydT;have ybN:=cm l w base (zm3 yc9 T yaf) zcw q22.k yed;have yaG:=cm l w base (zmS yda T ybN ybA) zaV q23.k yee;have ycb:=cm l w base (zn8 ydt T) zem q24.k yem;have yaT:=cm l w base (zoP ydu T yaG ycb) zbk q25.k yen;have ybO:=cm l w base (zmU ydb T yaf yab) zd7 q26.k yef;have yaK:=zg6 (P:=l.prog) (w:=w) (base:=base) ybk T;have ybR:=cm l w base (zm8 ydc T ydh yaK yaL) zdG q27.k yeg;have yad:=cm l w base (zfK yaR T) zd8 q28.k ybH;have ycc:=cm l w base (zou ydv T ybO yaT) zcp q29.k yeo;have yaq:=zfh (P:=l.prog) (w:=w) (base:=base) yaE T;have yap:=zfe (P:=l.prog) (w:=w) (base:=base) yaE T;have yaM:=zg7 (P:=l.prog) (w:=w) (base:=base) ybl T yao yap ybh;have ybB:=cm l w base (zk3 ycs T yaa yab ybP) za9 q30.k ydU;have ybQ:=cm l w base (zmF ydd T) zbg q31.k yeh;have yaZ:=cm l w base (zka yb6 T ybQ) zaQ q32.k ydz;have ycw:=cm l w base (zpY ydH T yaG yaa ybB yaZ ydj yaM yaN ydk yaq ybh) m_shown q33.k yes;have ybS:=cm l w base (zmB yde T yad ycw yab ycc) za6 q34.k yei;have yaz:=zgo (P:=l.prog) (w:=w) (base:=base) ya7 T;have yce:=cm l w base (zol ydw T yaa yaT ycd yaz yaA) zdc q35.k yep;have ydm:=cm l w base (zrA yej T yaf yad yce) zdJ q36.k yev;have yaO:=zg4 (P:=l.prog) (w:=w) (base:=base) ybm T;have yba:CalleeM l.prog w K mg base (CXE l.prog w) 4 yae "begin" ["self","names"] (zeZ K _):=⟨_,_,zje yb1 T ybR yah yax,⟨ycg,i43,q43.k⟩,ydx⟩;have yan:CalleeM l.prog w K mg base (CXE l.prog w) 5 yae "tell" ["self","line"] (zb5 K _):=⟨_,_,zeX ya0 T yba yaB,⟨ybc,i44,q44.k⟩,ybu⟩;have yal:CalleeM l.prog w K mg base (CXE l.prog w) 9 yae "answer" ["self","order","sides"] (zbW K _):=⟨_,_,zey ya5 T yaD ydm,⟨ybD,i45,q45.k⟩,ybG⟩;have yam:CalleeM l.prog w K mg base (CXE l.prog w) 9 yae "answer" ["self","order","sides"] (zb2 K _):=⟨_,_,zez ya5 T yah ybS,⟨ybD,i45,q45.k⟩,ybG⟩;have yag:CalleeM l.prog w K mg base (CXE l.prog w) 10 yae "tell" ["self","line"] (zcm K _):=⟨_,_,zfc ya0 T yal yaw yai,⟨ybc,i44,q44.k⟩,ybu⟩;have yar:CalleeM l.prog w K mg base (CXE l.prog w) 10 yae "tell" ["self","line"] (zcn K _):=⟨_,_,zfd ya0 T yam yaw yai,⟨ybc,i44,q44.k⟩,ybu⟩;have yat:=cm l w base (zle yct T) zaB q37.k ydV;have ybC:=cm l w base (zlg ycu T) zaP q38.k ydW;have ya4:=cm l w base (zif ybF T) zbn q39.k ydf;have ybn:=cm l w base (zj2 yb7 T yat ya4) zbv q40.k ydA;have ybo:=cm l w base (zjW yb8 T) zbu q41.k ydB;exact (zur yeq T yag yar yan yat ybn ybC ybo ydn yaO yaP).imp λ_ _ _ _ q=>ztP q
theorem zwZ {l:W.OpenLaw} {q:Program} {loose:List Str} {XP:(Str->Option Value)->Heap->Prop} {YP:World->Heap->Prop} {d:DefRec} {K:Params->W.Frag} (hn:l.most=some 63) (hdf:d.params.defaults=[])
  (hY:∀(w:World) (h:Heap),YP w h->(K w.params).In h)
  (F:∀(w:World) (mg:Str->Option Value) (fa:Addr) (h:Heap),(K w.params).In h->h.Ns mainGlobals mg->mg d.name=some (.ref fa)→∃fd:FuncData,(∀(s:Shared) (u:Value),BindsTo s fd ⟨[u],[]⟩ [("_law_script",u)])∧∀base:Heap,(K w.params).In base->base.Ns mainGlobals mg->FnOk l.prog w (K w.params) mg base (CXE l.prog w) 11 fa fd ["_law_script"] (zp9 (K w.params))) :
  W.WalkO q loose XP YP l.row.toRowW d [] (λf vs=>PySem.call f vs) :=
 L2.zr9 (n:=63) (k:=11) (x:="_law_script") (CX:=λw=>CXE l.prog w) (sp:=λw=>zp9 (K w.params)) hn ↥1 hdf ⟨rfl,by decide,by decide⟩ hY F (λ_ _ a ns hl _ hS=>⟨a,ns,rfl,hS,hl,λ_=>rfl⟩) λ_ _ _ _ _ ⟨_,_,_,_,_,_,_,_,_,_,z⟩=>z
end
end My
section
open PySem PySem.W PyProof.Rows
set_option maxRecDepth 100000 in
set_option maxHeartbeats 0 in
theorem PySem.Challenge.cw_swapbook_k81_sides_read_and_written_holds : PySem.Challenge.rw_swapbook_k81_sides_read_and_written.Holds := by
 refine My.headT ?hc
 k_fill
 refine My.zwZ (l:=PySem.Challenge.rw_swapbook_k81_sides_read_and_written) rfl rfl (λw h Y=>W.kIn_of Y) ?F
 case F =>
  intro w mg fa h KX G hmg
  refine' My.zun KX G hmg ?ybT ?ycx ?ycf ?ycy ?ycz ?ycA ?a0 ?q0 ?a1 ?q1 ?a2 ?q2 ?a3 ?q3 ?a4 ?q4 ?a5 ?q5 ?a6 ?q6 ?a7 ?q7 ?a8 ?q8 ?a9 ?q9 ?a10 ?q10 ?a11 ?q11 ?a12 ?q12 ?a13 ?q13 ?a14 ?q14 ?a15 ?q15 ?a16 ?q16 ?a17 ?q17 ?a18 ?q18 ?a19 ?q19 ?a20 ?q20 ?a21 ?q21 ?a22 ?q22 ?a23 ?q23 ?a24 ?q24 ?a25 ?q25 ?a26 ?q26 ?a27 ?q27 ?a28 ?q28 ?a29 ?q29 ?a30 ?q30 ?a31 ?q31 ?a32 ?q32 ?a33 ?q33 ?a34 ?q34 ?a35 ?q35 ?a36 ?q36 ?a37 ?q37 ?a38 ?q38 ?a39 ?q39 ?a40 ?q40 ?a41 ?q41 ?a42 ?q42 ?ycg ?i43 ?q43 ?ybc ?i44 ?q44 ?ybD ?i45 ?q45 ?a46 ?i46 ?q46 ?a47 ?i47 ?ych ?bg47 ?br47 ?bf47 ?q47 ?a48 ?i48 ?q48 ?a49 ?i49 ?q49 ?a50 ?i50 ?q50 ?ybU ?ybV ?ybW ?ybX ?ybY ?ybZ ?yaU ?yaV ?yaW ?ycB ?ycC ?ycD ?ycE ?ycF ?ycG ?ybp ?ybd ?yci ?ycj ?yck ?ycl ?ydo ?ydp ?yaQ ?ycH ?ycI ?ycJ ?ycK ?ycL ?ycM ?yaX ?ycN ?ycO ?ycP ?ycQ ?ycR ?ycS ?yaY ?ybq ?ycT ?ycU ?ycV ?ycW ?ycX ?ycY ?ybe ?ybr ?ydI ?ydJ ?ydK ?ybs ?ydL ?ybf ?ydM ?ydq ?ycZ ?ybE ?ydN ?ydO ?ydP ?ydQ ?g_MOST_WARES ?g_MOST_SWAPS ?g_LETTERS ?g_FIGURES ?g_LONGEST_NAME ?g_LONGEST_COUNT ?yas ?g_NOTHING ?aT_MARKS ?tk_MARKS ?kit_str_str
  (case ybT=>k_is)
  (case ycx=>k_is)
  (case ycf=>k_is)
  (case ycy=>k_is)
  (case ycz=>k_is)
  (case ycA=>k_is)
  (case a0=>k_is)
  (case q0=>apply L2.FA.m<;>k_is)
  (case a1=>k_is)
  (case q1=>apply L2.FA.m<;>k_is)
  (case a2=>k_is)
  (case q2=>apply L2.FA.m<;>k_is)
  (case a3=>k_is)
  (case q3=>apply L2.FA.m<;>k_is)
  (case a4=>k_is)
  (case q4=>apply L2.FA.m<;>k_is)
  (case a5=>k_is)
  (case q5=>apply L2.FA.m<;>k_is)
  (case a6=>k_is)
  (case q6=>apply L2.FA.m<;>k_is)
  (case a7=>k_is)
  (case q7=>apply L2.FA.m<;>k_is)
  (case a8=>k_is)
  (case q8=>apply L2.FA.m<;>k_is)
  (case a9=>k_is)
  (case q9=>apply L2.FA.m<;>k_is)
  (case a10=>k_is)
  (case q10=>apply L2.FA.m<;>k_is)
  (case a11=>k_is)
  (case q11=>apply L2.FA.m<;>k_is)
  (case a12=>k_is)
  (case q12=>apply L2.FA.m<;>k_is)
  (case a13=>k_is)
  (case q13=>apply L2.FA.m<;>k_is)
  (case a14=>k_is)
  (case q14=>apply L2.FA.m<;>k_is)
  (case a15=>k_is)
  (case q15=>apply L2.FA.m<;>k_is)
  (case a16=>k_is)
  (case q16=>apply L2.FA.m<;>k_is)
  (case a17=>k_is)
  (case q17=>apply L2.FA.m<;>k_is)
  (case a18=>k_is)
  (case q18=>apply L2.FA.m<;>k_is)
  (case a19=>k_is)
  (case q19=>apply L2.FA.m<;>k_is)
  (case a20=>k_is)
  (case q20=>apply L2.FA.m<;>k_is)
  (case a21=>k_is)
  (case q21=>apply L2.FA.m<;>k_is)
  (case a22=>k_is)
  (case q22=>apply L2.FA.m<;>k_is)
  (case a23=>k_is)
  (case q23=>apply L2.FA.m<;>k_is)
  (case a24=>k_is)
  (case q24=>apply L2.FA.m<;>k_is)
  (case a25=>k_is)
  (case q25=>apply L2.FA.m<;>k_is)
  (case a26=>k_is)
  (case q26=>apply L2.FA.m<;>k_is)
  (case a27=>k_is)
  (case q27=>apply L2.FA.m<;>k_is)
  (case a28=>k_is)
  (case q28=>apply L2.FA.m<;>k_is)
  (case a29=>k_is)
  (case q29=>apply L2.FA.m<;>k_is)
  (case a30=>k_is)
  (case q30=>apply L2.FA.m<;>k_is)
  (case a31=>k_is)
  (case q31=>apply L2.FA.m<;>k_is)
  (case a32=>k_is)
  (case q32=>apply L2.FA.m<;>k_is)
  (case a33=>k_is)
  (case q33=>apply L2.FA.m<;>k_is)
  (case a34=>k_is)
  (case q34=>apply L2.FA.m<;>k_is)
  (case a35=>k_is)
  (case q35=>apply L2.FA.m<;>k_is)
  (case a36=>k_is)
  (case q36=>apply L2.FA.m<;>k_is)
  (case a37=>k_is)
  (case q37=>apply L2.FA.m<;>k_is)
  (case a38=>k_is)
  (case q38=>apply L2.FA.m<;>k_is)
  (case a39=>k_is)
  (case q39=>apply L2.FA.m<;>k_is)
  (case a40=>k_is)
  (case q40=>apply L2.FA.m<;>k_is)
  (case a41=>k_is)
  (case q41=>apply L2.FA.m<;>k_is)
  (case a42=>k_is)
  (case q42=>apply L2.FA.m<;>k_is)
  (case ycg=>k_is)
  (case i43=>k_is)
  (case q43=>apply L2.FA.m<;>k_is)
  (case ybc=>k_is)
  (case i44=>k_is)
  (case q44=>apply L2.FA.m<;>k_is)
  (case ybD=>k_is)
  (case i45=>k_is)
  (case q45=>apply L2.FA.m<;>k_is)
  (case a46=>k_is)
  (case i46=>k_is)
  (case q46=>apply L2.FA.m<;>k_is)
  (case a47=>k_is)
  (case i47=>k_is)
  (case ych=>k_is)
  (case bg47=>k_is)
  (case br47=>k_is)
  (case bf47=>k_is)
  (case q47=>apply L2.FA.m<;>k_is)
  (case a48=>k_is)
  (case i48=>k_is)
  (case q48=>apply L2.FA.m<;>k_is)
  (case a49=>k_is)
  (case i49=>k_is)
  (case q49=>apply L2.FA.m<;>k_is)
  (case a50=>k_is)
  (case i50=>k_is)
  (case q50=>apply L2.FA.m<;>k_is)
  (case ybU=>k_is)
  (case ybV=>k_is)
  (case ybW=>k_is)
  (case ybX=>k_is)
  (case ybY=>k_is)
  (case ybZ=>k_is)
  (case yaU=>k_is)
  (case yaV=>k_is)
  (case yaW=>k_is)
  (case ycB=>k_is)
  (case ycC=>k_is)
  (case ycD=>k_is)
  (case ycE=>k_is)
  (case ycF=>k_is)
  (case ycG=>k_is)
  (case ybp=>k_is)
  (case ybd=>k_is)
  (case yci=>k_is)
  (case ycj=>k_is)
  (case yck=>k_is)
  (case ycl=>k_is)
  (case ydo=>k_is)
  (case ydp=>k_is)
  (case yaQ=>k_is)
  (case ycH=>k_is)
  (case ycI=>k_is)
  (case ycJ=>k_is)
  (case ycK=>k_is)
  (case ycL=>k_is)
  (case ycM=>k_is)
  (case yaX=>k_is)
  (case ycN=>k_is)
  (case ycO=>k_is)
  (case ycP=>k_is)
  (case ycQ=>k_is)
  (case ycR=>k_is)
  (case ycS=>k_is)
  (case yaY=>k_is)
  (case ybq=>k_is)
  (case ycT=>k_is)
  (case ycU=>k_is)
  (case ycV=>k_is)
  (case ycW=>k_is)
  (case ycX=>k_is)
  (case ycY=>k_is)
  (case ybe=>k_is)
  (case ybr=>k_is)
  (case ydI=>k_is)
  (case ydJ=>k_is)
  (case ydK=>k_is)
  (case ybs=>k_is)
  (case ydL=>k_is)
  (case ybf=>k_is)
  (case ydM=>k_is)
  (case ydq=>k_is)
  (case ycZ=>k_is)
  (case ybE=>k_is)
  (case ydN=>k_is)
  (case ydO=>k_is)
  (case ydP=>k_is)
  (case ydQ=>k_is)
  (case g_MOST_WARES=>k_is)
  (case g_MOST_SWAPS=>k_is)
  (case g_LETTERS=>k_is)
  (case g_FIGURES=>k_is)
  (case g_LONGEST_NAME=>k_is)
  (case g_LONGEST_COUNT=>k_is)
  (case yas=>k_is)
  (case g_NOTHING=>k_is)
  (case aT_MARKS=>k_is)
  (case tk_MARKS=>(apply L2.zua;k_is;rfl))
  (case kit_str_str=>kit_is)
end
