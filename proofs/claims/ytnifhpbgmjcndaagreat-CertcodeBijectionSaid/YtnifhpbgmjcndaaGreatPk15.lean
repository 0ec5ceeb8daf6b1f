import Derived.Test.YtnifhpbgmjcndaaGreatPk12
import Derived.Test.YtnifhpbgmjcndaaGreatPk1
import Derived.Test.YtnifhpbgmjcndaaGreatPk14
import Derived.Test.YtnifhpbgmjcndaaGreatPk7
set_option linter.unusedVariables false
set_option linter.unusedSimpArgs false
set_option linter.unusedSectionVars false
set_option maxRecDepth 100000
namespace Go.Proofs.YtnifhpbgmjcndaaGreat
def prE(v r s:Int)(q:Option Pr)(p:Pr):Int:=
 if p.1<0∨v≤p.1 then 9 else if yl p.2 r s=false then 10 else
 match q with
 |none=>0
 |some q=>if ltP q p then 0 else 13
def vlE(v r s:Int):Option Pr→List Pr→Int
 |_, []=>0
 |q,p::l=>if prE v r s q p≠0 then prE v r s q p else vlE v r s (some p) l
def jR(v r s:Int):List (List Pr)→Int
 | []=>0
 |l::w=>if vlE v r s none l≠0 then vlE v r s none l else jR v r s w
def zV(w:List (List Pr))(n v r s:Int):Int:=if (w.length:Int)≠n then 14 else jR v r s w
def bef(l:List Pr)(k:Nat):Option Pr:=if k=0 then none else l[k - 1]?
theorem zay{v r s:Int}{l:List Pr}{k:Nat}(hk:k<l.length):vlE v r s (bef l k) (l.drop k)=if prE v r s (bef l k) l[k]≠0 then prE v r s (bef l k) l[k] else vlE v r s (bef l (k+1)) (l.drop (k+1)):=by
 rw [List.drop_eq_getElem_cons hk,vlE]
 have e:bef l (k+1)=some l[k]:=by simp [bef,hk]
 rw [e]
theorem ZS{v r s:Int}{w:List (List Pr)}{k:Nat}(hk:k<w.length):jR v r s (w.drop k)=if vlE v r s none w[k]≠0 then vlE v r s none w[k] else jR v r s (w.drop (k+1)):=by
 rw [List.drop_eq_getElem_cons hk,jR]
def jc(w:List (List Pr)):Nat:=(w.map List.length).sum
theorem Zf{w:List (List Pr)}{m:Nat}(h:∀l∈w,l.length≤m):jc w≤w.length*m:=by
 induction w with
 |nil=>simp [jc]
 |cons x w ih=>
  have h1:=h x (by simp)
  have h2:=ih fun l hl=>h l (by simp [hl])
  simp only [jc,List.map_cons,List.sum_cons,List.length_cons] at*
  rw [Nat.add_mul,Nat.one_mul]
  omega
theorem Qj{w:List (List Pr)}{k:Nat}(hk:k<w.length):jc (w.take (k+1))=jc (w.take k)+w[k].length:=by
 unfold jc
 rw [List.take_succ_eq_append_getElem hk,List.map_append,List.sum_append]
 simp
theorem zaz{w:List (List Pr)}{m:Nat}(h:∀l∈w,l.length≤m)(k:Nat):∀l∈w.take k,l.length≤m:=fun l hl=>h l (List.mem_of_mem_take hl)
end Go.Proofs.YtnifhpbgmjcndaaGreat
namespace Go.Proofs.YtnifhpbgmjcndaaGreat
open Go.RowKit
structure Ct where
 sa:Int
 sr:Int
 bs:List Blk
 ta:Int
 tr:Int
 ts:Int
 ms:List MBlk
 inv:List (List Pr)
def zD(c:Ct):Int:=
 if eF c.sa c.sr c.bs≠0 then eF c.sa c.sr c.bs else if eMF c.ta c.tr c.ts c.ms≠0 then eMF c.ta c.tr c.ts c.ms
 else if c.bs.length≠c.ms.length∨c.sa≠c.ta then 14 else zV c.inv c.bs.length c.sr c.tr c.ts
end Go.Proofs.YtnifhpbgmjcndaaGreat
namespace Go.Proofs.YtnifhpbgmjcndaaGreat
open Go.RowKit Go.ChangeShapes Go.WideShapes Go.Deep
def Qa(p:Pr):Prop:=I64 p.1∧I64 p.2
def CellsP(w:World)(B:Nat)(vs:List Value)(xs:List (List Pr)):Prop:=
 vs.length=xs.length∧∀(i:Nat) (x:List Pr),xs[i]?=some x→∃A c,vs[i]?=some (Value.slice A x.length c)∧x.length≤c∧c≤maxLen∧Sees w B A (prs x)
def SeesPP(w:World)(B:Nat)(A:Option Addr)(xs:List (List Pr)):Prop:=∃vs,Sees w B A vs∧CellsP w B vs xs
section
variable {w w' : World} {B B' : Nat} {A : Option Addr} {vs : List Value} {xs : List (List Pr)}
theorem CellsP.nil(w:World)(B:Nat):CellsP w B [] []:=⟨rfl,fun i x h=>by simp at h⟩
theorem CellsP.keep(h:CellsP w B vs xs)(hk:∀p:Addr,p.block<B→w'.cell? p=w.cell? p):CellsP w' B vs xs:=
 ⟨h.1,fun i x hx=>by
  obtain ⟨A,c,h1,h2,h3,h4⟩:=h.2 i x hx
  exact ⟨A,c,h1,h2,h3,h4.keep hk⟩⟩
theorem CellsP.more(h:CellsP w B vs xs)(hB:B≤B'):CellsP w B' vs xs:=
 ⟨h.1,fun i x hx=>by
  obtain ⟨A,c,h1,h2,h3,h4⟩:=h.2 i x hx
  exact ⟨A,c,h1,h2,h3,h4.more hB⟩⟩
theorem CellsP.snoc(h:CellsP w B vs xs){A:Option Addr}{x:List Pr}{c:Nat}(hc:x.length≤c)(hm:c≤maxLen)(hs:Sees w B A (prs x)):CellsP w B (vs++ [Value.slice A x.length c]) (xs++ [x]):=by
 refine ⟨by simp [h.1],fun i y hy=> ?_⟩
 rcases Nat.lt_trichotomy i xs.length with hi|hi|hi
 ·rw [List.getElem?_append_left hi] at hy
  obtain ⟨A,c,h1,h2⟩:=h.2 i y hy
  exact ⟨A,c,by rw [List.getElem?_append_left (by rw [h.1];exact hi)];exact h1,h2⟩
 ·subst hi
  rw [List.getElem?_append_right (Nat.le_refl _),Nat.sub_self] at hy
  injection hy with hy
  subst hy
  exact ⟨A,c,by rw [List.getElem?_append_right (by rw [h.1];exact Nat.le_refl _),h.1,Nat.sub_self];rfl,hc,hm,hs⟩
 ·rw [List.getElem?_eq_none (by simp;omega)] at hy
  cases hy
theorem SeesPP.keep(h:SeesPP w B A xs)(hk:∀p:Addr,p.block<B→w'.cell? p=w.cell? p):SeesPP w' B A xs:=by
 obtain ⟨vs,h1,h2⟩:=h
 exact ⟨vs,h1.keep hk,h2.keep hk⟩
theorem SeesPP.more(h:SeesPP w B A xs)(hB:B≤B'):SeesPP w B' A xs:=by
 obtain ⟨vs,h1,h2⟩:=h
 exact ⟨vs,h1.more hB,h2.more hB⟩
theorem SeesPP.below(h:SeesPP w B A xs)(hb:Below B w w'):SeesPP w' B A xs:=h.keep fun _ hp=>hb.cell hp
theorem SeesPP.at_(h:SeesPP w B A xs){i:Nat}(hi:i<xs.length):
  ∃b o Ai ci,A=some ⟨b,o,none⟩∧b<B∧w.cell? ⟨b,o+i,none⟩=some (.slice Ai xs[i].length ci)∧xs[i].length≤ci∧ci≤maxLen∧Sees w B Ai (prs xs[i]):=by
 obtain ⟨vs,h1,h2,h3⟩:=h
 obtain ⟨Ai,ci,h4,h5,h6,h7⟩:=h3 i xs[i] (List.getElem?_eq_getElem hi)
 obtain ⟨b,o,hA,hb,hc⟩:=h1 (by intro e;subst e;simp at h4)
 exact ⟨b,o,Ai,ci,hA,hb,hc i _ h4,h5,h6,h7⟩
end
structure CeAt(w:World)(B:Nat)(A1:Option Addr)(k1:Nat)(A2:Option Addr)(k2:Nat)(A3:Option Addr)(k3:Nat)(c:Ct):Prop where
 bs:BlksAt w B A1 c.bs
 ms:MBlksAt w B A2 c.ms
 inv:SeesPP w B A3 c.inv
 l1:c.bs.length≤k1∧k1≤maxLen
 l2:c.ms.length≤k2∧k2≤maxLen
 l3:c.inv.length≤k3∧k3≤maxLen
section
variable {w w' : World} {B B' : Nat} {A1 : Option Addr} {k1 : Nat} {A2 : Option Addr} {k2 : Nat} {A3 : Option Addr} {k3 : Nat} {c : Ct}
theorem CeAt.below(h:CeAt w B A1 k1 A2 k2 A3 k3 c)(hb:Below B w w'):CeAt w' B A1 k1 A2 k2 A3 k3 c:=⟨h.bs.below hb,h.ms.below hb,h.inv.below hb,h.l1,h.l2,h.l3⟩
theorem CeAt.more(h:CeAt w B A1 k1 A2 k2 A3 k3 c)(hB:B≤B'):CeAt w B' A1 k1 A2 k2 A3 k3 c:=⟨h.bs.more hB,h.ms.more hB,h.inv.more hB,h.l1,h.l2,h.l3⟩
end
structure Ct.Wf(c:Ct):Prop where
 sa:I64 c.sa
 sr:I64 c.sr
 ta:I64 c.ta
 tr:I64 c.tr
 ts:I64 c.ts
 bs:∀y∈c.bs,y.Wf
 ms:∀y∈c.ms,y.Wf
 inv:∀l∈c.inv,∀p∈l,Qa p
def IsCert(w:World)(cs:Array Value):Prop:=
 ∃(c:Ct) (A1:Option Addr) (k1:Nat) (A2:Option Addr) (k2:Nat) (A3:Option Addr) (k3:Nat),
  cs= #[.int .i64 c.sa,.int .i64 c.sr,.slice A1 c.bs.length k1,.int .i64 c.ta,.int .i64 c.tr,.int .i64 c.ts,.slice A2 c.ms.length k2,.slice A3 c.inv.length k3]∧CeAt w w.heap.size A1 k1 A2 k2 A3 k3 c∧c.Wf
end Go.Proofs.YtnifhpbgmjcndaaGreat
