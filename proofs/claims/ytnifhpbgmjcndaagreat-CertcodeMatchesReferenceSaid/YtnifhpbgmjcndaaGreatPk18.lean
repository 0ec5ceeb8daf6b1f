import Derived.Test.YtnifhpbgmjcndaaGreatPk15
import Derived.Test.YtnifhpbgmjcndaaGreatMacCopy
set_option linter.unusedVariables false
set_option linter.unusedSimpArgs false
namespace Go.Proofs.YtnifhpbgmjcndaaGreat
open Go.RowKit
def Jn:Shp (List Pr) where
 eo:=52
 ei:=55
 so:=1
 si:=2
 oc:=fun u _=> [u]
 ic:=prs
 il:=List.length
 ne:=by decide
 hoc:=fun _ _=>rfl
theorem Q3(y:List Pr)(A:Option Addr)(n c:Nat):∀u∈Jn.oc (.slice A n c) y,u.oneCell'=true:=by
 intro u hu
 simp only [Jn,List.mem_cons,List.not_mem_nil,or_false] at hu
 subst hu
 rfl
theorem zcg:(Tryz.prog.info? 52).map (fun i=>(i.zero,i.size,i.bytes))=some (some (.slice none 0 0),1,24):=by kernel_rfl
theorem zgt(vs:List Value)(xs:List (List Pr))(h:vs.length=xs.length):((vs.zip xs).flatMap fun p=>Jn.oc p.1 p.2)=vs:=by
 induction vs generalizing xs with
 |nil=>rfl
 |cons v vs ih=>
  rcases xs with _|⟨x,xs⟩
  ·cases h
  ·rw [List.zip_cons_cons,List.flatMap_cons,ih xs (by simpa using h)]
   rfl
theorem zgu{w:World}{base:Nat}{v:Value}{vs:List Value}{xs:List (List Pr)}(h:NestV Jn w base v vs xs):∃A c,v= .slice A xs.length c∧xs.length≤c∧c≤maxLen∧SeesPP w w.heap.size A xs:=by
 have ho:=h.outer
 obtain ⟨A,c,rfl,h1,h2⟩:=zh ho
 rw [h.len] at h1
 refine ⟨A,c,by rw [h.len],h1,h2,vs,?_,h.len,fun i x hx=> ?_⟩
 ·have:=J8 ho
  rw [zgt vs xs h.len] at this
  exact this
 ·have hi:i<vs.length:=by rw [h.len];exact (List.getElem?_eq_some_iff.1 hx).1
  have hu:vs[i]?=some vs[i]:=List.getElem?_eq_getElem hi
  have hin:=h.inner i _ x hu hx
  obtain ⟨A',c',e,h3,h4⟩:=zh hin
  rw [e] at hin
  exact ⟨A',c',by rw [hu,e];rfl,h3,h4,J8 hin⟩
theorem Jo{w:World}{lo n p sz:Nat}{e T:TypeId}{v:Value}{xs:List Value}{cs:Array Value}(h:w.ownsRow lo e sz v n xs)(hr:Row w p T cs)(hT:e≠T):∀k,v.ownBlock=some k→¬k=p:=by
 intro k hk e1
 subst e1
 rcases h.2 with ⟨rfl,_⟩|⟨a,cap,cur,rfl,_,h1,_⟩
 ·cases hk
 ·simp only [Value.ownBlock,Option.some.injEq] at hk
  subst hk
  unfold Row at hr
  rw [h1] at hr
  simp only [Option.some.injEq,Obj.cells.injEq] at hr
  exact hT hr.2.1
theorem zch{w:World}{base:Nat}{v:Value}{vs:List Value}{bs:List MBlk}(h:NestV jV w base v vs bs)(hok:∀x∈bs,∀y∈x.code,y.Ok):∃A c,v= .slice A bs.length c∧bs.length≤c∧c≤maxLen∧MBlksAt w w.heap.size A bs:=by
 have ho:=h.outer
 obtain ⟨A,c,rfl,h1,h2⟩:=zh ho
 rw [h.len] at h1
 refine ⟨A,c,by rw [h.len],h1,h2,fun hn=> ?_⟩
 have hg:=JZ (fun p:Value × MBlk=>jV.oc p.1 p.2) 5 (fun _=>rfl) (vs.zip bs)
 have hz:∀i x,bs[i]?=some x→∃u,vs[i]?=some u∧(vs.zip bs)[i]?=some (u,x):=fun i x hx=>by
  have hi:i<bs.length:=(List.getElem?_eq_some_iff.1 hx).1
  have hi':i<vs.length:=by rw [h.len];exact hi
  refine ⟨vs[i],List.getElem?_eq_getElem hi',?_⟩
  rw [List.getElem?_zip_eq_some]
  exact ⟨List.getElem?_eq_getElem hi',hx⟩
 have hne:(vs.zip bs).flatMap (fun p=>jV.oc p.1 p.2)≠ []:=by
  rcases bs with _|⟨x,r⟩
  ·exact absurd rfl hn
  ·obtain ⟨u,_,hu⟩:=hz 0 x rfl
   intro e
   have:=hg 0 (u,x) hu 0 u rfl
   rw [e] at this
   cases this
 obtain ⟨b,o,e,hb,hc⟩:=J8 ho hne
 refine ⟨b,o,e,hb,fun i x hx=> ?_⟩
 obtain ⟨u,hu,hux⟩:=hz i x hx
 have hin:=h.inner i u x hu hx
 obtain ⟨A',c',rfl,h3,h4⟩:=zh hin
 refine ⟨⟨A',c',hc _ _ (hg i _ hux 0 _ rfl),h3,h4,MisAt.of_own hin (hok x (List.mem_of_getElem? hx))⟩,?_,?_,?_,?_⟩
 ·rw [Nat.add_assoc];exact hc _ _ (hg i _ hux 1 _ rfl)
 ·rw [Nat.add_assoc];exact hc _ _ (hg i _ hux 2 _ rfl)
 ·rw [Nat.add_assoc];exact hc _ _ (hg i _ hux 3 _ rfl)
 ·rw [Nat.add_assoc];exact hc _ _ (hg i _ hux 4 _ rfl)
theorem UX{w:World}{base:Nat}{Av1 Av2 Av3:Option Addr}{cv1 cv2 cv3:Nat}{vs1 vs2 vs3:List Value}{c:Ct}{inv:List (List Pr)}(h1:NestV Jk w base (.slice Av1 c.bs.length cv1) vs1 c.bs)(h2:NestV jV w base (.slice Av2 c.ms.length cv2) vs2 c.ms)(h3:NestV Jn w base (.slice Av3 inv.length cv3) vs3 inv)(hok:∀x∈c.ms,∀y∈x.code,y.Ok):
  CeAt w w.heap.size Av1 cv1 Av2 cv2 Av3 cv3 {c with inv:=inv}:=by
 obtain ⟨A1,c1,e1,p1,q1,r1⟩:=ZW h1
 obtain ⟨A2,c2,e2,p2,q2,r2⟩:=zch h2 hok
 obtain ⟨A3,c3,e3,p3,q3,r3⟩:=zgu h3
 injection e1 with a1 _ b1
 injection e2 with a2 _ b2
 injection e3 with a3 _ b3
 subst a1 a2 a3 b1 b2 b3
 exact ⟨r1,r2,r3,⟨p1,q1⟩,⟨p2,q2⟩,⟨p3,q3⟩⟩
end Go.Proofs.YtnifhpbgmjcndaaGreat
