import Derived.Test.YtnifhpbgmjcndaaGreatPk8
import Derived.Test.YtnifhpbgmjcndaaGreatPk18
import Derived.Test.YtnifhpbgmjcndaaGreatPk9
set_option linter.unusedVariables false
set_option linter.unusedSimpArgs false
set_option linter.unusedSectionVars false
set_option maxRecDepth 100000
set_option maxHeartbeats 8000000
namespace Go.Proofs.YtnifhpbgmjcndaaGreat
open Go.RowKit
def jH(vr:Int)(q:Pr)(s:Ip):Int × Ip:=jh (vr - q.1) 9 s
def jU(vr:Int)(q:Pr)(s:Ip):Int × Ip:=jh 4611686018427387904 10 (jH vr q s).2
def plE(vr:Int)(f:Bool)(q:Pr)(s:Ip):Int:=if f=false∧(jH vr q s).1=0 then q.2+1+(jU vr q s).1 else (jU vr q s).1
def zG(vr r n:Int)(f:Bool)(q:Pr)(s:Ip):Pr × Ip:=
 ((q.1+(jH vr q s).1,plE vr f q s),if (jU vr q s).2.err=0∧yl (plE vr f q s) r n=false then zO 10 (jU vr q s).2 else (jU vr q s).2)
def jD(vr r n:Int):Nat→Bool→Pr→Ip→List Pr × Ip
 |0,_,_,s=>([],s)
 |k+1,f,q,s=>if s.err≠0 then ([],s) else
  ((zG vr r n f q s).1::(jD vr r n k false (zG vr r n f q s).1 (zG vr r n f q s).2).1,(jD vr r n k false (zG vr r n f q s).1 (zG vr r n f q s).2).2)
def icE(tot:Int)(s:Ip):Int × Ip:=((yC 2 s).1,if 1048576<tot+(yC 2 s).1 then zO 6 (yC 2 s).2 else (yC 2 s).2)
def ivE(vr r n tot:Int)(s:Ip):List Pr × Ip:=jD vr r n (icE tot s).1.toNat true (0,0) (icE tot s).2
def jQ(vr r n:Int):Nat→Int→Ip→List (List Pr) × Ip
 |0,_,s=>([],s)
 |m+1,tot,s=>if s.err≠0 then ([],s) else
  ((ivE vr r n tot s).1::(jQ vr r n m (tot+(icE tot s).1) (ivE vr r n tot s).2).1,(jQ vr r n m (tot+(icE tot s).1) (ivE vr r n tot s).2).2)
def yG(vr r n:Int)(m:Nat)(s:Ip):List (List Pr) × Ip:=if (jQ vr r n m 0 s).2.err≠0 then ([],(jQ vr r n m 0 s).2) else jQ vr r n m 0 s
def yg(f:Bool)(q p:Pr):List Nat:=zc (p.1 - q.1).toNat++zc (if f=false∧p.1 - q.1=0 then p.2 - q.2 - 1 else p.2).toNat
def zH:Bool→Pr→List Pr→List Nat
 |_,_, []=> []
 |f,q,p::r=>yg f q p++zH false p r
def yN(l:List Pr):List Nat:=zc l.length++zH true (0,0) l
def zl(w:List (List Pr)):List Nat:=w.flatMap yN
theorem jE{vr r n:Int}{k:Nat}{f:Bool}{q:Pr}{s:Ip}(h:s.err≠0):jD vr r n k f q s=([],s):=by
 cases k with
 |zero=>rfl
 |succ k=>exact if_pos h
theorem J7{vr r n tot:Int}{m:Nat}{s:Ip}(h:s.err≠0):jQ vr r n m tot s=([],s):=by
 cases m with
 |zero=>rfl
 |succ m=>exact if_pos h
def YW(vr:Int)(f:Bool)(q:Pr):Prop:=(f=true∧q=(0,0))∨(f=false∧0≤q.1∧q.1<vr∧0≤q.2)
def YD(f:Bool)(q:Pr):Option Pr:=if f then none else some q
theorem zgk{l r s:Int}(h:yl l r s=true):0≤l:=Jq h
theorem zaX{vr r n:Int}{f:Bool}{q:Pr}{s:Ip}(hq:YW vr f q)(hb:Byt s.rest)(h:(zG vr r n f q s).2.err=0):
  s.err=0∧prE vr r n (YD f q) (zG vr r n f q s).1=0∧YW vr false (zG vr r n f q s).1∧s.rest=yg f q (zG vr r n f q s).1++(zG vr r n f q s).2.rest:=by
 have hz:(jU vr q s).2.err=0:=by
  by_cases h9:(jU vr q s).2.err=0
  ·exact h9
  ·unfold zG at h
   dsimp only at h
   rw [if_neg (fun hh=>h9 hh.1)] at h
   exact absurd h h9
 have hl:yl (plE vr f q s) r n=true:=by
  cases h9:yl (plE vr f q s) r n
  ·unfold zG at h
   dsimp only at h
   rw [if_pos ⟨hz,h9⟩] at h
   exact absurd h (yi (by decide))
  ·rfl
 have he:(zG vr r n f q s).2=(jU vr q s).2:=if_neg (fun hh=>by rw [hl] at hh;exact absurd hh.2 (by decide))
 rw [he]
 have hv:(jH vr q s).2.err=0:=by
  by_cases h9:(jH vr q s).2.err=0
  ·exact h9
  ·unfold jU at hz;rw [jS h9] at hz;exact hz
 obtain ⟨v1,v2,v3,_,v5⟩:=Yo (bd:=vr - q.1) (why:=9) hb (by decide) hv
 have hb2:Byt (jH vr q s).2.rest:=hb.right v5
 obtain ⟨_,d2,d3,_,d5⟩:=Yo (bd:=4611686018427387904) (why:=10) hb2 (by decide) hz
 have hl0:=zgk hl
 have v2':0≤(jH vr q s).1:=v2
 have v3':(jH vr q s).1<vr - q.1:=v3
 have d2':0≤(jU vr q s).1:=d2
 refine ⟨v1,?_,?_,?_⟩
 ·show prE vr r n (YD f q) (q.1+(jH vr q s).1,plE vr f q s)=0
  unfold prE
  dsimp only
  rcases hq with ⟨rfl,rfl⟩|⟨rfl,q1,q2,q3⟩
  ·rw [if_neg (by dsimp only;dsimp only at v3';omega),if_neg (by rw [hl];decide)]
   rfl
  ·rw [if_neg (by omega),if_neg (by rw [hl];decide)]
   show (if ltP q (q.1+(jH vr q s).1,plE vr false q s)=true then (0:Int) else 13)=0
   rw [if_pos]
   rw [Yq]
   dsimp only
   by_cases h0:(jH vr q s).1=0
   ·right
    refine ⟨by omega,?_⟩
    unfold plE
    rw [if_pos ⟨rfl,h0⟩]
    omega
   ·left
    omega
 ·right
  refine ⟨rfl,?_,?_,hl0⟩
  ·show 0≤q.1+(jH vr q s).1
   rcases hq with ⟨_,rfl⟩|⟨_,q1,_,_⟩
   ·dsimp only;omega
   ·omega
  ·show q.1+(jH vr q s).1<vr
   omega
 ·have e1:yg f q (zG vr r n f q s).1=zc (jH vr q s).1.toNat++zc (jU vr q s).1.toNat:=by
   unfold yg
   show zc (q.1+(jH vr q s).1 - q.1).toNat++zc (if f=false∧q.1+(jH vr q s).1 - q.1=0 then plE vr f q s - q.2 - 1 else plE vr f q s).toNat=_
   rw [show q.1+(jH vr q s).1 - q.1=(jH vr q s).1 by omega]
   unfold plE
   by_cases h0:f=false∧(jH vr q s).1=0
   ·rw [if_pos h0,if_pos h0,show q.2+1+(jU vr q s).1 - q.2 - 1=(jU vr q s).1 by omega]
   ·rw [if_neg h0,if_neg h0]
  rw [e1,List.append_assoc]
  have v5':s.rest=zc (jH vr q s).1.toNat++(jH vr q s).2.rest:=v5
  have d5':(jH vr q s).2.rest=zc (jU vr q s).1.toNat++(jU vr q s).2.rest:=d5
  rw [←d5']
  exact v5'
theorem zc9{vr r n:Int}:∀(k:Nat) (f:Bool) (q:Pr) (s:Ip),YW vr f q→Byt s.rest→(jD vr r n k f q s).2.err=0→
  s.err=0∧(jD vr r n k f q s).1.length=k∧vlE vr r n (YD f q) (jD vr r n k f q s).1=0∧s.rest=zH f q (jD vr r n k f q s).1++(jD vr r n k f q s).2.rest
 |0,f,q,s,_,hb,h=>⟨h,rfl,rfl,rfl⟩
 |k+1,f,q,s,hq,hb,h=>by
  have h0:s.err=0:=by
   by_cases h9:s.err=0
   ·exact h9
   ·rw [jE h9] at h;exact h
  have e:jD vr r n (k+1) f q s=((zG vr r n f q s).1::(jD vr r n k false (zG vr r n f q s).1 (zG vr r n f q s).2).1,(jD vr r n k false (zG vr r n f q s).1 (zG vr r n f q s).2).2):=if_neg fun hh=>hh h0
  rw [e] at h⊢
  dsimp only at h⊢
  have hi:(zG vr r n f q s).2.err=0:=by
   by_cases h9:(zG vr r n f q s).2.err=0
   ·exact h9
   ·rw [jE h9] at h;exact h
  obtain ⟨_,g1,g2,g3⟩:=zaX hq hb hi
  obtain ⟨_,i2,i3,i4⟩:=zc9 k false _ _ g2 (hb.right g3) h
  refine ⟨h0,by rw [List.length_cons,i2],?_,?_⟩
  ·rw [vlE,g1,if_neg (by simp)]
   exact i3
  ·show s.rest=(yg f q _++zH false _ _)++_
   rw [List.append_assoc,←i4]
   exact g3
theorem zhd{tot:Int}{s:Ip}(hb:Byt s.rest)(h:(icE tot s).2.err=0):s.err=0∧0≤(icE tot s).1∧tot+(icE tot s).1≤1048576∧s.rest=zc (icE tot s).1.toNat++(icE tot s).2.rest:=by
 unfold icE at*
 dsimp only at*
 by_cases h0:1048576<tot+(yC 2 s).1
 ·rw [if_pos h0] at h
  exact absurd h (yi (by decide))
 ·rw [if_neg h0] at*
  obtain ⟨h1,h2,h3,h4,_⟩:=QS hb h
  exact ⟨h1,h2,by omega,h4⟩
theorem zda{vr r n:Int}:∀(m:Nat) (tot:Int) (s:Ip),Byt s.rest→(jQ vr r n m tot s).2.err=0→
  s.err=0∧(jQ vr r n m tot s).1.length=m∧jT vr r n (jQ vr r n m tot s).1=0∧s.rest=zl (jQ vr r n m tot s).1++(jQ vr r n m tot s).2.rest
 |0,tot,s,hb,h=>⟨h,rfl,rfl,rfl⟩
 |m+1,tot,s,hb,h=>by
  have h0:s.err=0:=by
   by_cases h9:s.err=0
   ·exact h9
   ·rw [J7 h9] at h;exact h
  have e:jQ vr r n (m+1) tot s=((ivE vr r n tot s).1::(jQ vr r n m (tot+(icE tot s).1) (ivE vr r n tot s).2).1,(jQ vr r n m (tot+(icE tot s).1) (ivE vr r n tot s).2).2):=if_neg fun hh=>hh h0
  rw [e] at h⊢
  dsimp only at h⊢
  have hi:(ivE vr r n tot s).2.err=0:=by
   by_cases h9:(ivE vr r n tot s).2.err=0
   ·exact h9
   ·rw [J7 h9] at h;exact h
  have hc:(icE tot s).2.err=0:=by
   by_cases h9:(icE tot s).2.err=0
   ·exact h9
   ·unfold ivE at hi;rw [jE h9] at hi;exact hi
  obtain ⟨_,c2,c3,c4⟩:=zhd hb hc
  have b1:=hb.right c4
  obtain ⟨_,p2,p3,p4⟩:=zc9 (vr:=vr) (r:=r) (n:=n) (icE tot s).1.toNat true (0,0) (icE tot s).2 (.inl ⟨rfl,rfl⟩) b1 hi
  obtain ⟨_,k2,k3,k4⟩:=zda m (tot+(icE tot s).1) (ivE vr r n tot s).2 (b1.right p4) h
  refine ⟨h0,by rw [List.length_cons,k2],?_,?_⟩
  ·have p3':vlE vr r n none (ivE vr r n tot s).1=0:=p3
   rw [jT,p3',if_neg (by simp)]
   exact k3
  ·show s.rest=(yN _++zl _)++_
   rw [List.append_assoc,←k4]
   unfold yN
   have p2':(ivE vr r n tot s).1.length=(icE tot s).1.toNat:=p2
   have p4':(icE tot s).2.rest=zH true (0,0) (ivE vr r n tot s).1++(ivE vr r n tot s).2.rest:=p4
   rw [p2',List.append_assoc,←p4']
   exact c4
theorem zd1{vr r n:Int}{m:Nat}{s:Ip}(hb:Byt s.rest)(h:(yG vr r n m s).2.err=0):s.err=0∧zV (yG vr r n m s).1 m vr r n=0∧s.rest=zl (yG vr r n m s).1++(yG vr r n m s).2.rest:=by
 unfold yG at*
 by_cases h9:(jQ vr r n m 0 s).2.err≠0
 ·rw [if_pos h9] at h
  exact absurd h h9
 ·rw [if_neg h9] at*
  obtain ⟨h1,h2,h3,h4⟩:=zda m 0 s hb h
  exact ⟨h1,by unfold zV;rw [if_neg (by rw [h2];simp)];exact h3,h4⟩
theorem Q1{l r s:Int}(hr:r≤1000000000)(hs:s≤1000000000)(h:yl l r s=true):0≤l∧l<2000000002:=by
 have h0:=Jq h
 unfold yl at h
 rw [if_neg (by omega)] at h
 split at h
 ·have:=of_decide_eq_true h;omega
 ·have:=of_decide_eq_true h;omega
theorem UT{vr r n:Int}{f:Bool}{q p:Pr}(h:prE vr r n (YD f q) p=0):(0≤p.1∧p.1<vr)∧yl p.2 r n=true∧(f=false→ltP q p=true):=by
 unfold prE at h
 by_cases h1:p.1<0∨vr≤p.1
 ·rw [if_pos h1] at h;cases h
 ·rw [if_neg h1] at h
  cases h2:yl p.2 r n
  ·rw [if_pos h2] at h;cases h
  ·rw [if_neg (by rw [h2];decide)] at h
   refine ⟨by omega,rfl,fun hf=> ?_⟩
   subst hf
   change (if ltP q p=true then (0:Int) else 13)=0 at h
   by_cases h3:ltP q p=true
   ·exact h3
   ·rw [if_neg h3] at h;cases h
theorem zfd{vr r n:Int}{f:Bool}{q p:Pr}(hq:YW vr f q)(h:prE vr r n (YD f q) p=0)(hv:vr≤1000000000)(hr:r≤1000000000)(hn:n≤1000000000)(t:List Nat)(j:Nat):
  Gt (zG vr r n f q ⟨(yg f q p++t).take j,0⟩) p (yg f q p) t j:=by
 obtain ⟨⟨p1,p2⟩,hl,hlt⟩:=UT h
 obtain ⟨l1,l2⟩:=Q1 hr hn hl
 have hd:0≤p.1 - q.1∧p.1 - q.1<vr - q.1:=by
  rcases hq with ⟨_,rfl⟩|⟨hf,q1,q2,q3⟩
  ·dsimp only;omega
  ·have:=Yq.1 (hlt hf);omega
 obtain ⟨x,hx⟩:∃x,(if f=false∧p.1 - q.1=0 then p.2 - q.2 - 1 else p.2)=x:=⟨_,rfl⟩
 have hxr:0≤x∧x<2000000002:=by
  rw [←hx]
  by_cases h0:f=false∧p.1 - q.1=0
  ·rw [if_pos h0]
   rcases hq with ⟨hf,rfl⟩|⟨hf,q1,q2,q3⟩
   ·exact absurd (hf.symm.trans h0.1) (by decide)
   ·have:=Yq.1 (hlt hf);omega
  ·rw [if_neg h0];omega
 have he:yg f q p=zc (p.1 - q.1).toNat++zc x.toNat:=by unfold yg;rw [hx]
 have hle:p.1 - q.1≤18446744073709551615:=by
  rcases hq with ⟨_,rfl⟩|⟨_,q1,_⟩
  ·dsimp only at hd⊢;omega
  ·omega
 have C1:=(J4 (bd:=vr - q.1) (why:=9) hd.1 hd.2 hle).gt (zc x.toNat++t) j
 have heq:(yg f q p++t)=zc (p.1 - q.1).toNat++(zc x.toNat++t):=by rw [he,List.append_assoc]
 rw [←heq] at C1
 rcases C1 with ⟨g1,e1⟩|⟨g1,e1⟩
 ·have e1':jH vr q ⟨(yg f q p++t).take j,0⟩=(p.1 - q.1,⟨(zc x.toNat++t).take (j - (zc (p.1 - q.1).toNat).length),0⟩):=e1
  have C2:=(J4 (bd:=4611686018427387904) (why:=10) hxr.1 (by omega) (by omega)).gt t (j - (zc (p.1 - q.1).toNat).length)
  rcases C2 with ⟨g2,e2⟩|⟨g2,e2⟩
  ·have e2':jU vr q ⟨(yg f q p++t).take j,0⟩=(x,⟨t.take (j - (zc (p.1 - q.1).toNat).length - (zc x.toNat).length),0⟩):=by unfold jU;rw [e1'];exact e2
   have e3:plE vr f q ⟨(yg f q p++t).take j,0⟩=p.2:=by
    unfold plE
    rw [e1',e2']
    dsimp only
    rw [←hx]
    by_cases h0:f=false∧p.1 - q.1=0
    ·rw [if_pos h0,if_pos h0];omega
    ·rw [if_neg h0,if_neg h0]
   left
   refine ⟨by rw [he,List.length_append];omega,?_⟩
   unfold zG
   rw [e1',e3,e2',if_neg (by rw [hl];exact fun hh=>absurd hh.2 (by decide))]
   rw [he,List.length_append,Nat.sub_sub,show q.1+(p.1 - q.1)=p.1 by omega]
  ·right
   refine ⟨by rw [heq];simp only [List.length_append] at g2⊢;omega,?_⟩
   have e2':(jU vr q ⟨(yg f q p++t).take j,0⟩).2.err=1:=by unfold jU;rw [e1'];exact e2
   unfold zG
   dsimp only
   rw [if_neg (by rw [e2'];exact fun hh=>absurd hh.1 (by decide))]
   exact e2'
 ·right
  refine ⟨by rw [heq];exact g1,?_⟩
  have e1':(jH vr q ⟨(yg f q p++t).take j,0⟩).2.err=1:=e1
  have e2':(jU vr q ⟨(yg f q p++t).take j,0⟩).2.err=1:=by unfold jU;rw [jS (by rw [e1'];decide)];exact e1'
  unfold zG
  dsimp only
  rw [if_neg (by rw [e2'];exact fun hh=>absurd hh.1 (by decide))]
  exact e2'
theorem Qt{vr r n:Int}{f:Bool}{q p:Pr}(h:prE vr r n (YD f q) p=0):YW vr false p:=by
 obtain ⟨⟨p1,p2⟩,hl,_⟩:=UT h
 exact .inr ⟨rfl,p1,p2,Jq hl⟩
theorem zdb{vr r n:Int}(hv:vr≤1000000000)(hr:r≤1000000000)(hn:n≤1000000000):∀(l:List Pr) (f:Bool) (q:Pr) (t:List Nat) (j:Nat),YW vr f q→vlE vr r n (YD f q) l=0→
  Gt (jD vr r n l.length f q ⟨(zH f q l++t).take j,0⟩) l (zH f q l) t j
 | [],f,q,t,j,_,_=> .inl ⟨Nat.zero_le _,rfl⟩
 |p::l,f,q,t,j,hq,h=>by
  have hp:prE vr r n (YD f q) p=0:=by
   by_cases h9:prE vr r n (YD f q) p=0
   ·exact h9
   ·rw [vlE,if_pos h9] at h;exact h
  have hl:vlE vr r n (YD false p) l=0:=by rw [vlE,if_neg (by simp [hp])] at h;exact h
  have e:∀s:Ip,s.err=0→jD vr r n (p::l).length f q s=((zG vr r n f q s).1::(jD vr r n l.length false (zG vr r n f q s).1 (zG vr r n f q s).2).1,(jD vr r n l.length false (zG vr r n f q s).1 (zG vr r n f q s).2).2):=fun s hs=>if_neg fun hh=>hh hs
  rw [e _ rfl]
  have ha:zH f q (p::l)++t=yg f q p++(zH false p l++t):=List.append_assoc ..
  have hln:(zH f q (p::l)).length=(yg f q p).length+(zH false p l).length:=List.length_append
  have G:=zfd hq hp hv hr hn (zH false p l++t) j
  rw [←ha] at G
  rcases G with ⟨g1,e1⟩|⟨g1,e1⟩
  ·rw [e1]
   dsimp only
   have I:=zdb hv hr hn l false p t (j - (yg f q p).length) (Qt hp) hl
   rcases I with ⟨g2,e2⟩|⟨g2,e2⟩
   ·left
    refine ⟨by omega,?_⟩
    rw [e2,hln]
    dsimp only
    rw [Nat.sub_sub]
   ·right
    refine ⟨by rw [ha];simp only [List.length_append] at g2⊢;omega,e2⟩
  ·right
   refine ⟨by rw [ha];exact g1,?_⟩
   rw [jE (by rw [e1];decide)]
   exact e1
theorem Ji:∀(l:List Pr) (f:Bool) (q:Pr),2*l.length≤(zH f q l).length∧(zH f q l).length≤20*l.length
 | [],_,_=>⟨Nat.le_refl _,Nat.le_refl _⟩
 |p::l,f,q=>by
  obtain ⟨h1,h2⟩:=Ji l false p
  have a1:=yy (p.1 - q.1).toNat
  have a2:=zA (p.1 - q.1).toNat
  have b1:=yy (if f=false∧p.1 - q.1=0 then p.2 - q.2 - 1 else p.2).toNat
  have b2:=zA (if f=false∧p.1 - q.1=0 then p.2 - q.2 - 1 else p.2).toNat
  have e:(zH f q (p::l)).length=(zc (p.1 - q.1).toNat).length+(zc (if f=false∧p.1 - q.1=0 then p.2 - q.2 - 1 else p.2).toNat).length+(zH false p l).length:=by
   show (yg f q p++zH false p l).length=_
   unfold yg
   rw [List.length_append,List.length_append]
  rw [e,List.length_cons]
  omega
theorem zhe{vr r n tot:Int}(hv:vr≤1000000000)(hr:r≤1000000000)(hn:n≤1000000000){l:List Pr}(h:vlE vr r n none l=0)(ht:0≤tot)(hm:tot+l.length≤1048576)(t:List Nat)(j:Nat):
  Gt (ivE vr r n tot ⟨(yN l++t).take j,0⟩) l (yN l) t j:=by
 have ha:yN l++t=zc (l.length:Int).toNat++(zH true (0,0) l++t):=by unfold yN;rw [List.append_assoc,Int.toNat_natCast]
 have hln:(yN l).length=(zc (l.length:Int).toNat).length+(zH true (0,0) l).length:=by unfold yN;rw [List.length_append,Int.toNat_natCast]
 have hen:=(Ji l true (0,0)).1
 have G:=QU (k:=2) (v:=(l.length:Int)) (by decide) (by omega) (by omega) (zH true (0,0) l++t) j (by rw [List.length_append];omega)
 rw [←ha] at G
 have hic:∀s:Ip,tot+(yC 2 s).1≤1048576→icE tot s=yC 2 s:=fun s hs=>by unfold icE;rw [if_neg (by omega)]
 rcases G with ⟨g1,e1⟩|⟨g1,e1⟩
 ·have e2:icE tot ⟨(yN l++t).take j,0⟩=((l.length:Int),⟨(zH true (0,0) l++t).take (j - (zc (l.length:Int).toNat).length),0⟩):=by rw [hic _ (by rw [e1];exact hm),e1]
  unfold ivE
  rw [e2]
  dsimp only
  rw [Int.toNat_natCast]
  have I:=zdb hv hr hn l true (0,0) t (j - (zc (l.length:Int).toNat).length) (.inl ⟨rfl,rfl⟩) h
  rw [Int.toNat_natCast] at I hln g1
  rcases I with ⟨g2,e3⟩|⟨g2,e3⟩
  ·left
   refine ⟨by omega,?_⟩
   rw [e3,hln,Nat.sub_sub]
  ·right
   refine ⟨?_,e3⟩
   rw [ha,Int.toNat_natCast]
   simp only [List.length_append] at g2⊢
   omega
 ·refine .inr ⟨by rw [ha];exact g1,?_⟩
  have e2:(icE tot ⟨(yN l++t).take j,0⟩).2.err=1:=by
   unfold icE
   dsimp only
   split
   ·rw [yU (by rw [e1];decide)];exact e1
   ·exact e1
  unfold ivE
  rw [jE (by rw [e2];decide)]
  exact e2
theorem YX{vr r n:Int}:∀(k:Nat) (f:Bool) (q:Pr) (s:Ip),(jD vr r n k f q s).1.length≤k∧((jD vr r n k f q s).2.err=0→(jD vr r n k f q s).1.length=k)
 |0,f,q,s=>⟨Nat.le_refl _,fun _=>rfl⟩
 |k+1,f,q,s=>by
  by_cases h0:s.err=0
  ·have e:jD vr r n (k+1) f q s=((zG vr r n f q s).1::(jD vr r n k false (zG vr r n f q s).1 (zG vr r n f q s).2).1,(jD vr r n k false (zG vr r n f q s).1 (zG vr r n f q s).2).2):=if_neg fun hh=>hh h0
   obtain ⟨h1,h2⟩:=YX k false (zG vr r n f q s).1 (zG vr r n f q s).2
   rw [e]
   exact ⟨Nat.succ_le_succ h1,fun h=>congrArg Nat.succ (h2 h)⟩
  ·rw [jE h0]
   exact ⟨Nat.zero_le _,fun h=>absurd h h0⟩
theorem zcg{tot:Int}{s:Ip}:0≤(icE tot s).1:=JG.1
theorem zdc{vr r n:Int}(hv:vr≤1000000000)(hr:r≤1000000000)(hn:n≤1000000000):∀(w:List (List Pr)) (tot:Int) (t:List Nat) (j:Nat),jT vr r n w=0→0≤tot→tot+(jd w:Int)≤1048576→
  Gt (jQ vr r n w.length tot ⟨(zl w++t).take j,0⟩) w (zl w) t j
 | [],tot,t,j,_,_,_=> .inl ⟨Nat.zero_le _,rfl⟩
 |l::w,tot,t,j,h,ht,hm=>by
  have hl:vlE vr r n none l=0:=by
   by_cases h9:vlE vr r n none l=0
   ·exact h9
   ·rw [jT,if_pos h9] at h;exact h
  have hw:jT vr r n w=0:=by rw [jT,if_neg (by simp [hl])] at h;exact h
  have htp:jd (l::w)=l.length+jd w:=rfl
  have e:∀s:Ip,s.err=0→jQ vr r n (l::w).length tot s=((ivE vr r n tot s).1::(jQ vr r n w.length (tot+(icE tot s).1) (ivE vr r n tot s).2).1,(jQ vr r n w.length (tot+(icE tot s).1) (ivE vr r n tot s).2).2):=fun s hs=>if_neg fun hh=>hh hs
  rw [e _ rfl]
  have ha:zl (l::w)++t=yN l++(zl w++t):=List.append_assoc ..
  have hln:(zl (l::w)).length=(yN l).length+(zl w).length:=List.length_append
  have G:=zhe (tot:=tot) hv hr hn hl ht (by omega) (zl w++t) j
  rw [←ha] at G
  rcases G with ⟨g1,e1⟩|⟨g1,e1⟩
  ·have hic:(icE tot ⟨(zl (l::w)++t).take j,0⟩).1=(l.length:Int):=by
    have h1:=(YX (vr:=vr) (r:=r) (n:=n) (icE tot ⟨(zl (l::w)++t).take j,0⟩).1.toNat true (0,0) (icE tot ⟨(zl (l::w)++t).take j,0⟩).2).2 (by show (ivE vr r n tot _).2.err=0;rw [e1])
    have h2:(ivE vr r n tot ⟨(zl (l::w)++t).take j,0⟩).1.length=(icE tot ⟨(zl (l::w)++t).take j,0⟩).1.toNat:=h1
    rw [e1] at h2
    have h3:=zcg (tot:=tot) (s:=⟨(zl (l::w)++t).take j,0⟩)
    dsimp only at h2
    omega
   rw [hic,e1]
   dsimp only
   have I:=zdc hv hr hn w (tot+l.length) t (j - (yN l).length) hw (by omega) (by omega)
   rcases I with ⟨g2,e2⟩|⟨g2,e2⟩
   ·left
    refine ⟨by omega,?_⟩
    rw [e2,hln]
    dsimp only
    rw [Nat.sub_sub]
   ·right
    refine ⟨by rw [ha];simp only [List.length_append] at g2⊢;omega,e2⟩
  ·right
   refine ⟨by rw [ha];exact g1,?_⟩
   rw [J7 (by rw [e1];decide)]
   exact e1
theorem zd2{vr r n:Int}(hv:vr≤1000000000)(hr:r≤1000000000)(hn:n≤1000000000){w:List (List Pr)}(h:zV w w.length vr r n=0)(hm:jd w≤1048576)(t:List Nat)(j:Nat):
  Gt (yG vr r n w.length ⟨(zl w++t).take j,0⟩) w (zl w) t j:=by
 have hw:jT vr r n w=0:=by unfold zV at h;rw [if_neg (by simp)] at h;exact h
 unfold yG
 rcases zdc hv hr hn w 0 t j hw (by omega) (by omega) with ⟨g1,e1⟩|⟨g1,e1⟩
 ·left
  rw [e1,if_neg (by simp)]
  exact ⟨g1,rfl⟩
 ·right
  rw [if_pos (by rw [e1];decide)]
  exact ⟨g1,e1⟩
theorem zch{vr r n:Int}(hv:vr≤1000000000)(hr:r≤1000000000)(hn:n≤1000000000){w:List (List Pr)}(h:zV w w.length vr r n=0)(hm:jd w≤1048576)(t:List Nat):yG vr r n w.length ⟨zl w++t,0⟩=(w,⟨t,0⟩):=(zd2 hv hr hn h hm t _).full
theorem zaY(l:List Pr):2*l.length+1≤(yN l).length∧(yN l).length≤20*l.length+10:=by
 have h1:=yy l.length;have h2:=zA l.length;have h3:=Ji l true (0,0)
 unfold yN
 rw [List.length_append]
 omega
theorem jI:∀w:List (List Pr),2*jd w+w.length≤(zl w).length∧(zl w).length≤20*jd w+10*w.length
 | []=>⟨Nat.le_refl _,Nat.le_refl _⟩
 |l::w=>by
  obtain ⟨h1,h2⟩:=jI w
  have h3:=zaY l
  have e:(zl (l::w)).length=(yN l).length+(zl w).length:=List.length_append
  have htp:jd (l::w)=l.length+jd w:=rfl
  rw [e,htp,List.length_cons]
  omega
def YY(f:Bool)(q:Pr):List Pr→Prop
 | []=>True
 |p::l=>(0≤p.1 - q.1∧p.1 - q.1≤1000000000)∧(0≤(if f=false∧p.1 - q.1=0 then p.2 - q.2 - 1 else p.2)∧(if f=false∧p.1 - q.1=0 then p.2 - q.2 - 1 else p.2)≤4000000000)∧(InI p.1∧InI p.2)∧YY false p l
theorem zfe{vr r n:Int}(hv:vr≤1000000000)(hr:r≤1000000000)(hn:n≤1000000000):∀(l:List Pr) (f:Bool) (q:Pr),YW vr f q→vlE vr r n (YD f q) l=0→YY f q l
 | [],_,_,_,_=>trivial
 |p::l,f,q,hq,h=>by
  have hp:prE vr r n (YD f q) p=0:=by
   by_cases h9:prE vr r n (YD f q) p=0
   ·exact h9
   ·rw [vlE,if_pos h9] at h;exact h
  have hl:vlE vr r n (YD false p) l=0:=by rw [vlE,if_neg (by simp [hp])] at h;exact h
  obtain ⟨⟨p1,p2⟩,hls,hlt⟩:=UT hp
  obtain ⟨l1,l2⟩:=Q1 hr hn hls
  have hd:0≤p.1 - q.1∧p.1 - q.1<vr:=by
   rcases hq with ⟨_,rfl⟩|⟨hf,q1,q2,q3⟩
   ·dsimp only;omega
   ·have:=Yq.1 (hlt hf);omega
  refine ⟨by omega,?_,⟨by unfold InI;omega,by unfold InI;omega⟩,zfe hv hr hn l false p (Qt hp) hl⟩
  by_cases h0:f=false∧p.1 - q.1=0
  ·rw [if_pos h0]
   rcases hq with ⟨hf,rfl⟩|⟨hf,q1,q2,q3⟩
   ·exact absurd (hf.symm.trans h0.1) (by decide)
   ·have:=Yq.1 (hlt hf);omega
  ·rw [if_neg h0];omega
theorem Q2{vr r n:Int}(hv:vr≤1000000000)(hr:r≤1000000000)(hn:n≤1000000000):∀(w:List (List Pr)),jT vr r n w=0→∀l∈w,YY true (0,0) l
 | [],_,l,hl=>by cases hl
 |x::w,h,l,hl=>by
  have hx:vlE vr r n none x=0:=by
   by_cases h9:vlE vr r n none x=0
   ·exact h9
   ·rw [jT,if_pos h9] at h;exact h
  have hw:jT vr r n w=0:=by rw [jT,if_neg (by simp [hx])] at h;exact h
  rcases List.mem_cons.1 hl with rfl|hl
  ·exact zfe hv hr hn _ true (0,0) (.inl ⟨rfl,rfl⟩) hx
  ·exact Q2 hv hr hn w hw l hl
theorem Ug:∀(l:List Pr) (f:Bool) (q:Pr),YY f q l→Byt (zH f q l)
 | [],_,_,_=>fun x hx=>by cases hx
 |p::l,f,q,h=>by
  obtain ⟨h1,h2,_,h4⟩:=h
  exact zX (zX (yM _ (by omega)) (yM _ (by omega))) (Ug l false p h4)
theorem zci{w:List (List Pr)}(h:∀l∈w,YY true (0,0) l)(hs:∀l∈w,l.length≤1000000000):Byt (zl w):=
 ZG _ _ fun l hl=>zX (yM _ (by have:=hs l hl;omega)) (Ug l true (0,0) (h l hl))
theorem YE{bd why:Int}{t:Ip}:jh bd why t=if bd≤(yr t:Int) then (0,zO why (ya t)) else ((yr t:Int),ya t):=by
 by_cases h0:t.err=0
 ·by_cases h1:(zp t.rest).2.2=0
  ·have hT:ya t=⟨t.rest.drop (zp t.rest).2.1,0⟩:=by unfold ya;rw [if_neg (by omega),if_neg (by omega)]
   have hV:yr t=(zp t.rest).1:=by unfold yr;rw [hT,if_pos rfl]
   rw [hT,hV,jh,if_neg (by omega),if_neg (by omega)]
   split<;>rfl
  ·have hT:ya t=⟨[],((zp t.rest).2.2:Int)⟩:=by unfold ya;rw [if_neg (by omega),if_pos h1]
   have h9:(((zp t.rest).2.2:Nat):Int)≠0:=by omega
   have hV:yr t=0:=by unfold yr;rw [hT,if_neg (by simp only;omega)]
   rw [hT,hV,jh,if_neg (by omega),if_pos h1]
   have hF:zO why ⟨[],((zp t.rest).2.2:Int)⟩=⟨[],((zp t.rest).2.2:Int)⟩:=if_pos h9
   rw [hF]
   split<;>rfl
 ·have hT:ya t=t:=by unfold ya;rw [if_pos h0]
  have hV:yr t=0:=by unfold yr;rw [hT,if_neg h0]
  have hF:zO why t=t:=if_pos h0
  rw [hT,hV,jh,if_pos h0,hF]
  split<;>rfl
theorem zhf{vr r n:Int}{f:Bool}{q:Pr}{s:Ip}(h:vr - q.1≤(yr s:Int)):(zG vr r n f q s).2=zO 9 (ya s)∧(zG vr r n f q s).2.err≠0:=by
 have h1:jH vr q s=(0,zO 9 (ya s)):=by unfold jH;rw [YE,if_pos h]
 have h2:(jH vr q s).2.err≠0:=by rw [h1];exact yi (by decide)
 have h3:jU vr q s=(0,zO 9 (ya s)):=by unfold jU;rw [jS h2,h1]
 have h4:(zG vr r n f q s).2=zO 9 (ya s):=by
  unfold zG
  rw [h3]
  exact if_neg fun hh=>absurd hh.1 (yi (by decide))
 exact ⟨h4,by rw [h4];exact yi (by decide)⟩
theorem zhg{vr r n:Int}{f:Bool}{q:Pr}{s:Ip}(h:¬vr - q.1≤(yr s:Int))(h2:4611686018427387904≤(yr (ya s):Int)):(zG vr r n f q s).2=zO 10 (ya (ya s))∧(zG vr r n f q s).2.err≠0:=by
 have h1:jH vr q s=((yr s:Int),ya s):=by unfold jH;rw [YE,if_neg h]
 have h3:jU vr q s=(0,zO 10 (ya (ya s))):=by unfold jU;rw [h1,YE,if_pos h2]
 have h4:(zG vr r n f q s).2=zO 10 (ya (ya s)):=by
  unfold zG
  rw [h3]
  exact if_neg fun hh=>absurd hh.1 (yi (by decide))
 exact ⟨h4,by rw [h4];exact yi (by decide)⟩
theorem zhh{vr r n:Int}{f:Bool}{q:Pr}{s:Ip}(h:¬vr - q.1≤(yr s:Int))(h2:¬4611686018427387904≤(yr (ya s):Int)){lo:Int}(hl:lo=if f=false∧(yr s:Int)=0 then q.2+1+(yr (ya s):Int) else (yr (ya s):Int)):
  zG vr r n f q s=((q.1+(yr s:Int),lo),if yl lo r n=false then zO 10 (ya (ya s)) else ya (ya s)):=by
 have h1:jH vr q s=((yr s:Int),ya s):=by unfold jH;rw [YE,if_neg h]
 have h3:jU vr q s=((yr (ya s):Int),ya (ya s)):=by unfold jU;rw [h1,YE,if_neg h2]
 have h4:plE vr f q s=lo:=by unfold plE;rw [h1,h3];exact hl.symm
 unfold zG
 rw [h4,h3,h1]
 dsimp only
 by_cases h9:yl lo r n=false
 ·rw [if_pos h9]
  by_cases h8:(ya (ya s)).err=0
  ·rw [if_pos ⟨h8,h9⟩]
  ·rw [if_neg fun hh=>h8 hh.1,yU h8]
 ·rw [if_neg h9,if_neg fun hh=>h9 hh.2]
structure WP(w:World)(lo p:Nat)(l:List Nat)(A:Option Addr)(c:Nat)(t:Ip)(v:Value)(xs:List (List Pr))(W:World):Prop where
 md:Mods (Is p) w W
 ce:CE lo p l A c t W
 nst:∃vs,NestV jV W w.heap.size v vs xs
 pw:p<w.heap.size
structure WQ(w Wq:World)(z lo p:Nat)(l:List Nat)(A:Option Addr)(c:Nat)(t:Ip)(v:Value)(xs:List (List Pr))(u:Value)(ps:List Pr)(W:World):Prop where
 q:∃t0,WP w lo p l A c t0 v xs Wq
 md:Mods (Is p) Wq W
 ce:CE lo p l A c t W
 own:W.ownsRow z 55 2 u ps.length (prs ps)
 hz:Wq.heap.size≤z
section
variable {w W W' Wq : World} {z lo p : Nat} {l : List Nat} {A : Option Addr} {c : Nat} {t t' : Ip} {v v' u u' : Value} {xs : List (List Pr)} {ps : List Pr}
theorem WQ.pz(h:WQ w Wq z lo p l A c t v xs u ps W):p<w.heap.size∧w.heap.size≤Wq.heap.size∧Wq.heap.size≤W.heap.size∧p<z:=by
 obtain ⟨t0,hq⟩:=h.q
 have h1:=hq.md.size;have h2:=h.md.size;have h3:=hq.pw;have h4:=h.hz
 exact ⟨h3,h1,h2,by omega⟩
theorem zaZ(l:List Pr)(p:Pr):prs (l++ [p])=prs l++ [.int .i64 p.1,.int .i64 p.2]:=by simp [prs]
theorem WQ.fin(h:WQ w Wq z lo p l A c t v xs u ps W){vs:List Value}(hn:NestV jV Wq w.heap.size v vs xs){o:Obj}
  (ho:W'.ownsRow w.heap.size 52 1 v' (vs.length+1) (((vs.zip xs).flatMap fun p=>jV.oc p.1 p.2)++jV.oc u ps)) (hg:(W.alloc o).grownBy W' v.ownBlock):WP w lo p l A c t v' (xs++ [ps]) W':=by
 have hp:=h.pz
 obtain ⟨t0,hq⟩:=h.q
 have hsn:=hn.snoc (x:=ps) h.md (fun k hk=>by unfold Is at hk;omega) (by omega) (ju h.own h.hz) o ho hg
 have hon:=(hn.mods h.md fun k h1 _ h2=>by unfold Is at h2;omega).outer
 have hm:Mods (fun k=>v.ownBlock=some k) W W':=((Mods.refl _ W).alloc o).grown hg fun k hk=> .inl hk
 have hk:∀k,v.ownBlock=some k→w.heap.size≤k:=fun k hk=>(z9 hon k hk).1
 exact ⟨(hq.md.trans h.md).then hm fun k hh=> .inr (hk k hh),h.ce.mods hm fun k hh=> .inr (by have:=hk k hh;omega),⟨_,hsn⟩,hq.pw⟩
end
end Go.Proofs.YtnifhpbgmjcndaaGreat
