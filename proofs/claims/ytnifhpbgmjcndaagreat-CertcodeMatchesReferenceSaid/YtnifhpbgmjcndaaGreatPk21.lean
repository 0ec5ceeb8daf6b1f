import Derived.Test.YtnifhpbgmjcndaaGreatPk8
import Derived.Test.YtnifhpbgmjcndaaGreatPk18
import Derived.Test.YtnifhpbgmjcndaaGreatPk9
set_option linter.unusedVariables false
set_option linter.unusedSimpArgs false
set_option linter.unusedSectionVars false
set_option maxRecDepth 100000
set_option maxHeartbeats 8000000
namespace Go.Proofs.YtnifhpbgmjcndaaGreat
open Go.RowKit
def jI(vr:Int)(q:Pr)(s:Ip):Int × Ip:=yo (vr - q.1) 9 s
def jQ(vr:Int)(q:Pr)(s:Ip):Int × Ip:=yo 4611686018427387904 10 (jI vr q s).2
def plE(vr:Int)(f:Bool)(q:Pr)(s:Ip):Int:=if f=false∧(jI vr q s).1=0 then q.2+1+(jQ vr q s).1 else (jQ vr q s).1
def zw(vr r n:Int)(f:Bool)(q:Pr)(s:Ip):Pr × Ip:=
 ((q.1+(jI vr q s).1,plE vr f q s),if (jQ vr q s).2.err=0∧yd (plE vr f q s) r n=false then zA 10 (jQ vr q s).2 else (jQ vr q s).2)
def jj(vr r n:Int):Nat→Bool→Pr→Ip→List Pr × Ip
 |0,_,_,s=>([],s)
 |k+1,f,q,s=>if s.err≠0 then ([],s) else
  ((zw vr r n f q s).1::(jj vr r n k false (zw vr r n f q s).1 (zw vr r n f q s).2).1,(jj vr r n k false (zw vr r n f q s).1 (zw vr r n f q s).2).2)
def icE(tot:Int)(s:Ip):Int × Ip:=((yu 2 s).1,if 1048576<tot+(yu 2 s).1 then zA 6 (yu 2 s).2 else (yu 2 s).2)
def ivE(vr r n tot:Int)(s:Ip):List Pr × Ip:=jj vr r n (icE tot s).1.toNat true (0,0) (icE tot s).2
def yU(vr r n:Int):Nat→Int→Ip→List (List Pr) × Ip
 |0,_,s=>([],s)
 |m+1,tot,s=>if s.err≠0 then ([],s) else
  ((ivE vr r n tot s).1::(yU vr r n m (tot+(icE tot s).1) (ivE vr r n tot s).2).1,(yU vr r n m (tot+(icE tot s).1) (ivE vr r n tot s).2).2)
def yA(vr r n:Int)(m:Nat)(s:Ip):List (List Pr) × Ip:=if (yU vr r n m 0 s).2.err≠0 then ([],(yU vr r n m 0 s).2) else yU vr r n m 0 s
def yn(f:Bool)(q p:Pr):List Nat:=zc (p.1 - q.1).toNat++zc (if f=false∧p.1 - q.1=0 then p.2 - q.2 - 1 else p.2).toNat
def zM:Bool→Pr→List Pr→List Nat
 |_,_, []=> []
 |f,q,p::r=>yn f q p++zM false p r
def jc(l:List Pr):List Nat:=zc l.length++zM true (0,0) l
def zp(w:List (List Pr)):List Nat:=w.flatMap jc
theorem jn{vr r n:Int}{k:Nat}{f:Bool}{q:Pr}{s:Ip}(h:s.err≠0):jj vr r n k f q s=([],s):=by
 cases k with
 |zero=>rfl
 |succ k=>exact if_pos h
theorem JJ{vr r n tot:Int}{m:Nat}{s:Ip}(h:s.err≠0):yU vr r n m tot s=([],s):=by
 cases m with
 |zero=>rfl
 |succ m=>exact if_pos h
def Z1(vr:Int)(f:Bool)(q:Pr):Prop:=(f=true∧q=(0,0))∨(f=false∧0≤q.1∧q.1<vr∧0≤q.2)
def YF(f:Bool)(q:Pr):Option Pr:=if f then none else some q
theorem zgg{l r s:Int}(h:yd l r s=true):0≤l:=Ju h
theorem zaS{vr r n:Int}{f:Bool}{q:Pr}{s:Ip}(hq:Z1 vr f q)(hb:Byt s.rest)(h:(zw vr r n f q s).2.err=0):
  s.err=0∧prE vr r n (YF f q) (zw vr r n f q s).1=0∧Z1 vr false (zw vr r n f q s).1∧s.rest=yn f q (zw vr r n f q s).1++(zw vr r n f q s).2.rest:=by
 have hz:(jQ vr q s).2.err=0:=by
  by_cases h9:(jQ vr q s).2.err=0
  ·exact h9
  ·unfold zw at h
   dsimp only at h
   rw [if_neg (fun hh=>h9 hh.1)] at h
   exact absurd h h9
 have hl:yd (plE vr f q s) r n=true:=by
  cases h9:yd (plE vr f q s) r n
  ·unfold zw at h
   dsimp only at h
   rw [if_pos ⟨hz,h9⟩] at h
   exact absurd h (yh (by decide))
  ·rfl
 have he:(zw vr r n f q s).2=(jQ vr q s).2:=if_neg (fun hh=>by rw [hl] at hh;exact absurd hh.2 (by decide))
 rw [he]
 have hv:(jI vr q s).2.err=0:=by
  by_cases h9:(jI vr q s).2.err=0
  ·exact h9
  ·unfold jQ at hz;rw [jT h9] at hz;exact hz
 obtain ⟨v1,v2,v3,_,v5⟩:=ZP (bd:=vr - q.1) (why:=9) hb (by decide) hv
 have hb2:Byt (jI vr q s).2.rest:=hb.right v5
 obtain ⟨_,d2,d3,_,d5⟩:=ZP (bd:=4611686018427387904) (why:=10) hb2 (by decide) hz
 have hl0:=zgg hl
 have v2':0≤(jI vr q s).1:=v2
 have v3':(jI vr q s).1<vr - q.1:=v3
 have d2':0≤(jQ vr q s).1:=d2
 refine ⟨v1,?_,?_,?_⟩
 ·show prE vr r n (YF f q) (q.1+(jI vr q s).1,plE vr f q s)=0
  unfold prE
  dsimp only
  rcases hq with ⟨rfl,rfl⟩|⟨rfl,q1,q2,q3⟩
  ·rw [if_neg (by dsimp only;dsimp only at v3';omega),if_neg (by rw [hl];decide)]
   rfl
  ·rw [if_neg (by omega),if_neg (by rw [hl];decide)]
   show (if ltP q (q.1+(jI vr q s).1,plE vr false q s)=true then (0:Int) else 13)=0
   rw [if_pos]
   rw [Yv]
   dsimp only
   by_cases h0:(jI vr q s).1=0
   ·right
    refine ⟨by omega,?_⟩
    unfold plE
    rw [if_pos ⟨rfl,h0⟩]
    omega
   ·left
    omega
 ·right
  refine ⟨rfl,?_,?_,hl0⟩
  ·show 0≤q.1+(jI vr q s).1
   rcases hq with ⟨_,rfl⟩|⟨_,q1,_,_⟩
   ·dsimp only;omega
   ·omega
  ·show q.1+(jI vr q s).1<vr
   omega
 ·have e1:yn f q (zw vr r n f q s).1=zc (jI vr q s).1.toNat++zc (jQ vr q s).1.toNat:=by
   unfold yn
   show zc (q.1+(jI vr q s).1 - q.1).toNat++zc (if f=false∧q.1+(jI vr q s).1 - q.1=0 then plE vr f q s - q.2 - 1 else plE vr f q s).toNat=_
   rw [show q.1+(jI vr q s).1 - q.1=(jI vr q s).1 by omega]
   unfold plE
   by_cases h0:f=false∧(jI vr q s).1=0
   ·rw [if_pos h0,if_pos h0,show q.2+1+(jQ vr q s).1 - q.2 - 1=(jQ vr q s).1 by omega]
   ·rw [if_neg h0,if_neg h0]
  rw [e1,lg]
  have v5':s.rest=zc (jI vr q s).1.toNat++(jI vr q s).2.rest:=v5
  have d5':(jI vr q s).2.rest=zc (jQ vr q s).1.toNat++(jQ vr q s).2.rest:=d5
  rw [←d5']
  exact v5'
theorem zc6{vr r n:Int}:∀(k:Nat) (f:Bool) (q:Pr) (s:Ip),Z1 vr f q→Byt s.rest→(jj vr r n k f q s).2.err=0→
  s.err=0∧(jj vr r n k f q s).1.length=k∧vlE vr r n (YF f q) (jj vr r n k f q s).1=0∧s.rest=zM f q (jj vr r n k f q s).1++(jj vr r n k f q s).2.rest
 |0,f,q,s,_,hb,h=>⟨h,rfl,rfl,rfl⟩
 |k+1,f,q,s,hq,hb,h=>by
  have h0:s.err=0:=by
   by_cases h9:s.err=0
   ·exact h9
   ·rw [jn h9] at h;exact h
  have e:jj vr r n (k+1) f q s=((zw vr r n f q s).1::(jj vr r n k false (zw vr r n f q s).1 (zw vr r n f q s).2).1,(jj vr r n k false (zw vr r n f q s).1 (zw vr r n f q s).2).2):=if_neg fun hh=>hh h0
  rw [e] at h⊢
  dsimp only at h⊢
  have hi:(zw vr r n f q s).2.err=0:=by
   by_cases h9:(zw vr r n f q s).2.err=0
   ·exact h9
   ·rw [jn h9] at h;exact h
  obtain ⟨_,g1,g2,g3⟩:=zaS hq hb hi
  obtain ⟨_,i2,i3,i4⟩:=zc6 k false _ _ g2 (hb.right g3) h
  refine ⟨h0,by rw [lp,i2],?_,?_⟩
  ·rw [vlE,g1,if_neg (by simp)]
   exact i3
  ·show s.rest=(yn f q _++zM false _ _)++_
   rw [lg,←i4]
   exact g3
theorem zg7{tot:Int}{s:Ip}(hb:Byt s.rest)(h:(icE tot s).2.err=0):s.err=0∧0≤(icE tot s).1∧tot+(icE tot s).1≤1048576∧s.rest=zc (icE tot s).1.toNat++(icE tot s).2.rest:=by
 unfold icE at*
 dsimp only at*
 by_cases h0:1048576<tot+(yu 2 s).1
 ·rw [if_pos h0] at h
  exact absurd h (yh (by decide))
 ·rw [if_neg h0] at*
  obtain ⟨h1,h2,h3,h4,_⟩:=QP hb h
  exact ⟨h1,h2,by omega,h4⟩
theorem zc7{vr r n:Int}:∀(m:Nat) (tot:Int) (s:Ip),Byt s.rest→(yU vr r n m tot s).2.err=0→
  s.err=0∧(yU vr r n m tot s).1.length=m∧jZ vr r n (yU vr r n m tot s).1=0∧s.rest=zp (yU vr r n m tot s).1++(yU vr r n m tot s).2.rest
 |0,tot,s,hb,h=>⟨h,rfl,rfl,rfl⟩
 |m+1,tot,s,hb,h=>by
  have h0:s.err=0:=by
   by_cases h9:s.err=0
   ·exact h9
   ·rw [JJ h9] at h;exact h
  have e:yU vr r n (m+1) tot s=((ivE vr r n tot s).1::(yU vr r n m (tot+(icE tot s).1) (ivE vr r n tot s).2).1,(yU vr r n m (tot+(icE tot s).1) (ivE vr r n tot s).2).2):=if_neg fun hh=>hh h0
  rw [e] at h⊢
  dsimp only at h⊢
  have hi:(ivE vr r n tot s).2.err=0:=by
   by_cases h9:(ivE vr r n tot s).2.err=0
   ·exact h9
   ·rw [JJ h9] at h;exact h
  have hc:(icE tot s).2.err=0:=by
   by_cases h9:(icE tot s).2.err=0
   ·exact h9
   ·unfold ivE at hi;rw [jn h9] at hi;exact hi
  obtain ⟨_,c2,c3,c4⟩:=zg7 hb hc
  have b1:=hb.right c4
  obtain ⟨_,p2,p3,p4⟩:=zc6 (vr:=vr) (r:=r) (n:=n) (icE tot s).1.toNat true (0,0) (icE tot s).2 (.inl ⟨rfl,rfl⟩) b1 hi
  obtain ⟨_,k2,k3,k4⟩:=zc7 m (tot+(icE tot s).1) (ivE vr r n tot s).2 (b1.right p4) h
  refine ⟨h0,by rw [lp,k2],?_,?_⟩
  ·have p3':vlE vr r n none (ivE vr r n tot s).1=0:=p3
   rw [jZ,p3',if_neg (by simp)]
   exact k3
  ·show s.rest=(jc _++zp _)++_
   rw [lg,←k4]
   unfold jc
   have p2':(ivE vr r n tot s).1.length=(icE tot s).1.toNat:=p2
   have p4':(icE tot s).2.rest=zM true (0,0) (ivE vr r n tot s).1++(ivE vr r n tot s).2.rest:=p4
   rw [p2',lg,←p4']
   exact c4
theorem zdW{vr r n:Int}{m:Nat}{s:Ip}(hb:Byt s.rest)(h:(yA vr r n m s).2.err=0):s.err=0∧yp (yA vr r n m s).1 m vr r n=0∧s.rest=zp (yA vr r n m s).1++(yA vr r n m s).2.rest:=by
 unfold yA at*
 by_cases h9:(yU vr r n m 0 s).2.err≠0
 ·rw [if_pos h9] at h
  exact absurd h h9
 ·rw [if_neg h9] at*
  obtain ⟨h1,h2,h3,h4⟩:=zc7 m 0 s hb h
  exact ⟨h1,by unfold yp;rw [if_neg (by rw [h2];simp)];exact h3,h4⟩
theorem QX{l r s:Int}(hr:r≤1000000000)(hs:s≤1000000000)(h:yd l r s=true):0≤l∧l<2000000002:=by
 have h0:=Ju h
 unfold yd at h
 rw [if_neg (by omega)] at h
 split at h
 ·have:=of_decide_eq_true h;omega
 ·have:=of_decide_eq_true h;omega
theorem UR{vr r n:Int}{f:Bool}{q p:Pr}(h:prE vr r n (YF f q) p=0):(0≤p.1∧p.1<vr)∧yd p.2 r n=true∧(f=false→ltP q p=true):=by
 unfold prE at h
 by_cases h1:p.1<0∨vr≤p.1
 ·rw [if_pos h1] at h;cases h
 ·rw [if_neg h1] at h
  cases h2:yd p.2 r n
  ·rw [if_pos h2] at h;cases h
  ·rw [if_neg (by rw [h2];decide)] at h
   refine ⟨by omega,rfl,fun hf=> ?_⟩
   subst hf
   change (if ltP q p=true then (0:Int) else 13)=0 at h
   by_cases h3:ltP q p=true
   ·exact h3
   ·rw [if_neg h3] at h;cases h
theorem ze5{vr r n:Int}{f:Bool}{q p:Pr}(hq:Z1 vr f q)(h:prE vr r n (YF f q) p=0)(hv:vr≤1000000000)(hr:r≤1000000000)(hn:n≤1000000000)(t:List Nat)(j:Nat):
  Gt (zw vr r n f q ⟨(yn f q p++t).take j,0⟩) p (yn f q p) t j:=by
 obtain ⟨⟨p1,p2⟩,hl,hlt⟩:=UR h
 obtain ⟨l1,l2⟩:=QX hr hn hl
 have hd:0≤p.1 - q.1∧p.1 - q.1<vr - q.1:=by
  rcases hq with ⟨_,rfl⟩|⟨hf,q1,q2,q3⟩
  ·dsimp only;omega
  ·have:=Yv.1 (hlt hf);omega
 obtain ⟨x,hx⟩:∃x,(if f=false∧p.1 - q.1=0 then p.2 - q.2 - 1 else p.2)=x:=⟨_,rfl⟩
 have hxr:0≤x∧x<2000000002:=by
  rw [←hx]
  by_cases h0:f=false∧p.1 - q.1=0
  ·rw [if_pos h0]
   rcases hq with ⟨hf,rfl⟩|⟨hf,q1,q2,q3⟩
   ·exact absurd (hf.symm.trans h0.1) (by decide)
   ·have:=Yv.1 (hlt hf);omega
  ·rw [if_neg h0];omega
 have he:yn f q p=zc (p.1 - q.1).toNat++zc x.toNat:=by unfold yn;rw [hx]
 have hle:p.1 - q.1≤18446744073709551615:=by
  rcases hq with ⟨_,rfl⟩|⟨_,q1,_⟩
  ·dsimp only at hd⊢;omega
  ·omega
 have C1:=(J4 (bd:=vr - q.1) (why:=9) hd.1 hd.2 hle).gt (zc x.toNat++t) j
 have heq:(yn f q p++t)=zc (p.1 - q.1).toNat++(zc x.toNat++t):=by rw [he,lg]
 rw [←heq] at C1
 rcases C1 with ⟨g1,e1⟩|⟨g1,e1⟩
 ·have e1':jI vr q ⟨(yn f q p++t).take j,0⟩=(p.1 - q.1,⟨(zc x.toNat++t).take (j - (zc (p.1 - q.1).toNat).length),0⟩):=e1
  have C2:=(J4 (bd:=4611686018427387904) (why:=10) hxr.1 (by omega) (by omega)).gt t (j - (zc (p.1 - q.1).toNat).length)
  rcases C2 with ⟨g2,e2⟩|⟨g2,e2⟩
  ·have e2':jQ vr q ⟨(yn f q p++t).take j,0⟩=(x,⟨t.take (j - (zc (p.1 - q.1).toNat).length - (zc x.toNat).length),0⟩):=by unfold jQ;rw [e1'];exact e2
   have e3:plE vr f q ⟨(yn f q p++t).take j,0⟩=p.2:=by
    unfold plE
    rw [e1',e2']
    dsimp only
    rw [←hx]
    by_cases h0:f=false∧p.1 - q.1=0
    ·rw [if_pos h0,if_pos h0];omega
    ·rw [if_neg h0,if_neg h0]
   left
   refine ⟨by rw [he,lc];omega,?_⟩
   unfold zw
   rw [e1',e3,e2',if_neg (by rw [hl];exact fun hh=>absurd hh.2 (by decide))]
   rw [he,lc,Nat.sub_sub,show q.1+(p.1 - q.1)=p.1 by omega]
  ·right
   refine ⟨by rw [heq];simp only [lc] at g2⊢;omega,?_⟩
   have e2':(jQ vr q ⟨(yn f q p++t).take j,0⟩).2.err=1:=by unfold jQ;rw [e1'];exact e2
   unfold zw
   dsimp only
   rw [if_neg (by rw [e2'];exact fun hh=>absurd hh.1 (by decide))]
   exact e2'
 ·right
  refine ⟨by rw [heq];exact g1,?_⟩
  have e1':(jI vr q ⟨(yn f q p++t).take j,0⟩).2.err=1:=e1
  have e2':(jQ vr q ⟨(yn f q p++t).take j,0⟩).2.err=1:=by unfold jQ;rw [jT (by rw [e1'];decide)];exact e1'
  unfold zw
  dsimp only
  rw [if_neg (by rw [e2'];exact fun hh=>absurd hh.1 (by decide))]
  exact e2'
theorem Qp{vr r n:Int}{f:Bool}{q p:Pr}(h:prE vr r n (YF f q) p=0):Z1 vr false p:=by
 obtain ⟨⟨p1,p2⟩,hl,_⟩:=UR h
 exact .inr ⟨rfl,p1,p2,Ju hl⟩
theorem zc8{vr r n:Int}(hv:vr≤1000000000)(hr:r≤1000000000)(hn:n≤1000000000):∀(l:List Pr) (f:Bool) (q:Pr) (t:List Nat) (j:Nat),Z1 vr f q→vlE vr r n (YF f q) l=0→
  Gt (jj vr r n l.length f q ⟨(zM f q l++t).take j,0⟩) l (zM f q l) t j
 | [],f,q,t,j,_,_=> .inl ⟨lF _,rfl⟩
 |p::l,f,q,t,j,hq,h=>by
  have hp:prE vr r n (YF f q) p=0:=by
   by_cases h9:prE vr r n (YF f q) p=0
   ·exact h9
   ·rw [vlE,if_pos h9] at h;exact h
  have hl:vlE vr r n (YF false p) l=0:=by rw [vlE,if_neg (by simp [hp])] at h;exact h
  have e:∀s:Ip,s.err=0→jj vr r n (p::l).length f q s=((zw vr r n f q s).1::(jj vr r n l.length false (zw vr r n f q s).1 (zw vr r n f q s).2).1,(jj vr r n l.length false (zw vr r n f q s).1 (zw vr r n f q s).2).2):=fun s hs=>if_neg fun hh=>hh hs
  rw [e _ rfl]
  have ha:zM f q (p::l)++t=yn f q p++(zM false p l++t):=lg ..
  have hln:(zM f q (p::l)).length=(yn f q p).length+(zM false p l).length:=lc
  have G:=ze5 hq hp hv hr hn (zM false p l++t) j
  rw [←ha] at G
  rcases G with ⟨g1,e1⟩|⟨g1,e1⟩
  ·rw [e1]
   dsimp only
   have I:=zc8 hv hr hn l false p t (j - (yn f q p).length) (Qp hp) hl
   rcases I with ⟨g2,e2⟩|⟨g2,e2⟩
   ·left
    refine ⟨by omega,?_⟩
    rw [e2,hln]
    dsimp only
    rw [Nat.sub_sub]
   ·right
    refine ⟨by rw [ha];simp only [lc] at g2⊢;omega,e2⟩
  ·right
   refine ⟨by rw [ha];exact g1,?_⟩
   rw [jn (by rw [e1];decide)]
   exact e1
theorem Jl:∀(l:List Pr) (f:Bool) (q:Pr),2*l.length≤(zM f q l).length∧(zM f q l).length≤20*l.length
 | [],_,_=>⟨la _,la _⟩
 |p::l,f,q=>by
  obtain ⟨h1,h2⟩:=Jl l false p
  have a1:=yG (p.1 - q.1).toNat
  have a2:=zC (p.1 - q.1).toNat
  have b1:=yG (if f=false∧p.1 - q.1=0 then p.2 - q.2 - 1 else p.2).toNat
  have b2:=zC (if f=false∧p.1 - q.1=0 then p.2 - q.2 - 1 else p.2).toNat
  have e:(zM f q (p::l)).length=(zc (p.1 - q.1).toNat).length+(zc (if f=false∧p.1 - q.1=0 then p.2 - q.2 - 1 else p.2).toNat).length+(zM false p l).length:=by
   show (yn f q p++zM false p l).length=_
   unfold yn
   rw [lc,lc]
  rw [e,lp]
  omega
theorem zg8{vr r n tot:Int}(hv:vr≤1000000000)(hr:r≤1000000000)(hn:n≤1000000000){l:List Pr}(h:vlE vr r n none l=0)(ht:0≤tot)(hm:tot+l.length≤1048576)(t:List Nat)(j:Nat):
  Gt (ivE vr r n tot ⟨(jc l++t).take j,0⟩) l (jc l) t j:=by
 have ha:jc l++t=zc (l.length:Int).toNat++(zM true (0,0) l++t):=by unfold jc;rw [lg,Int.toNat_natCast]
 have hln:(jc l).length=(zc (l.length:Int).toNat).length+(zM true (0,0) l).length:=by unfold jc;rw [lc,Int.toNat_natCast]
 have hen:=(Jl l true (0,0)).1
 have G:=QR (k:=2) (v:=(l.length:Int)) (by decide) (by omega) (by omega) (zM true (0,0) l++t) j (by rw [lc];omega)
 rw [←ha] at G
 have hic:∀s:Ip,tot+(yu 2 s).1≤1048576→icE tot s=yu 2 s:=fun s hs=>by unfold icE;rw [if_neg (by omega)]
 rcases G with ⟨g1,e1⟩|⟨g1,e1⟩
 ·have e2:icE tot ⟨(jc l++t).take j,0⟩=((l.length:Int),⟨(zM true (0,0) l++t).take (j - (zc (l.length:Int).toNat).length),0⟩):=by rw [hic _ (by rw [e1];exact hm),e1]
  unfold ivE
  rw [e2]
  dsimp only
  rw [Int.toNat_natCast]
  have I:=zc8 hv hr hn l true (0,0) t (j - (zc (l.length:Int).toNat).length) (.inl ⟨rfl,rfl⟩) h
  rw [Int.toNat_natCast] at I hln g1
  rcases I with ⟨g2,e3⟩|⟨g2,e3⟩
  ·left
   refine ⟨by omega,?_⟩
   rw [e3,hln,Nat.sub_sub]
  ·right
   refine ⟨?_,e3⟩
   rw [ha,Int.toNat_natCast]
   simp only [lc] at g2⊢
   omega
 ·refine .inr ⟨by rw [ha];exact g1,?_⟩
  have e2:(icE tot ⟨(jc l++t).take j,0⟩).2.err=1:=by
   unfold icE
   dsimp only
   split
   ·rw [jf (by rw [e1];decide)];exact e1
   ·exact e1
  unfold ivE
  rw [jn (by rw [e2];decide)]
  exact e2
theorem YW{vr r n:Int}:∀(k:Nat) (f:Bool) (q:Pr) (s:Ip),(jj vr r n k f q s).1.length≤k∧((jj vr r n k f q s).2.err=0→(jj vr r n k f q s).1.length=k)
 |0,f,q,s=>⟨la _,fun _=>rfl⟩
 |k+1,f,q,s=>by
  by_cases h0:s.err=0
  ·have e:jj vr r n (k+1) f q s=((zw vr r n f q s).1::(jj vr r n k false (zw vr r n f q s).1 (zw vr r n f q s).2).1,(jj vr r n k false (zw vr r n f q s).1 (zw vr r n f q s).2).2):=if_neg fun hh=>hh h0
   obtain ⟨h1,h2⟩:=YW k false (zw vr r n f q s).1 (zw vr r n f q s).2
   rw [e]
   exact ⟨Nat.succ_le_succ h1,fun h=>congrArg Nat.succ (h2 h)⟩
  ·rw [jn h0]
   exact ⟨lF _,fun h=>absurd h h0⟩
theorem zb9{tot:Int}{s:Ip}:0≤(icE tot s).1:=jm.1
theorem zc9{vr r n:Int}(hv:vr≤1000000000)(hr:r≤1000000000)(hn:n≤1000000000):∀(w:List (List Pr)) (tot:Int) (t:List Nat) (j:Nat),jZ vr r n w=0→0≤tot→tot+(jw w:Int)≤1048576→
  Gt (yU vr r n w.length tot ⟨(zp w++t).take j,0⟩) w (zp w) t j
 | [],tot,t,j,_,_,_=> .inl ⟨lF _,rfl⟩
 |l::w,tot,t,j,h,ht,hm=>by
  have hl:vlE vr r n none l=0:=by
   by_cases h9:vlE vr r n none l=0
   ·exact h9
   ·rw [jZ,if_pos h9] at h;exact h
  have hw:jZ vr r n w=0:=by rw [jZ,if_neg (by simp [hl])] at h;exact h
  have htp:jw (l::w)=l.length+jw w:=rfl
  have e:∀s:Ip,s.err=0→yU vr r n (l::w).length tot s=((ivE vr r n tot s).1::(yU vr r n w.length (tot+(icE tot s).1) (ivE vr r n tot s).2).1,(yU vr r n w.length (tot+(icE tot s).1) (ivE vr r n tot s).2).2):=fun s hs=>if_neg fun hh=>hh hs
  rw [e _ rfl]
  have ha:zp (l::w)++t=jc l++(zp w++t):=lg ..
  have hln:(zp (l::w)).length=(jc l).length+(zp w).length:=lc
  have G:=zg8 (tot:=tot) hv hr hn hl ht (by omega) (zp w++t) j
  rw [←ha] at G
  rcases G with ⟨g1,e1⟩|⟨g1,e1⟩
  ·have hic:(icE tot ⟨(zp (l::w)++t).take j,0⟩).1=(l.length:Int):=by
    have h1:=(YW (vr:=vr) (r:=r) (n:=n) (icE tot ⟨(zp (l::w)++t).take j,0⟩).1.toNat true (0,0) (icE tot ⟨(zp (l::w)++t).take j,0⟩).2).2 (by show (ivE vr r n tot _).2.err=0;rw [e1])
    have h2:(ivE vr r n tot ⟨(zp (l::w)++t).take j,0⟩).1.length=(icE tot ⟨(zp (l::w)++t).take j,0⟩).1.toNat:=h1
    rw [e1] at h2
    have h3:=zb9 (tot:=tot) (s:=⟨(zp (l::w)++t).take j,0⟩)
    dsimp only at h2
    omega
   rw [hic,e1]
   dsimp only
   have I:=zc9 hv hr hn w (tot+l.length) t (j - (jc l).length) hw (by omega) (by omega)
   rcases I with ⟨g2,e2⟩|⟨g2,e2⟩
   ·left
    refine ⟨by omega,?_⟩
    rw [e2,hln]
    dsimp only
    rw [Nat.sub_sub]
   ·right
    refine ⟨by rw [ha];simp only [lc] at g2⊢;omega,e2⟩
  ·right
   refine ⟨by rw [ha];exact g1,?_⟩
   rw [JJ (by rw [e1];decide)]
   exact e1
theorem zdX{vr r n:Int}(hv:vr≤1000000000)(hr:r≤1000000000)(hn:n≤1000000000){w:List (List Pr)}(h:yp w w.length vr r n=0)(hm:jw w≤1048576)(t:List Nat)(j:Nat):
  Gt (yA vr r n w.length ⟨(zp w++t).take j,0⟩) w (zp w) t j:=by
 have hw:jZ vr r n w=0:=by unfold yp at h;rw [if_neg (by simp)] at h;exact h
 unfold yA
 rcases zc9 hv hr hn w 0 t j hw (by omega) (by omega) with ⟨g1,e1⟩|⟨g1,e1⟩
 ·left
  rw [e1,if_neg (by simp)]
  exact ⟨g1,rfl⟩
 ·right
  rw [if_pos (by rw [e1];decide)]
  exact ⟨g1,e1⟩
theorem zca{vr r n:Int}(hv:vr≤1000000000)(hr:r≤1000000000)(hn:n≤1000000000){w:List (List Pr)}(h:yp w w.length vr r n=0)(hm:jw w≤1048576)(t:List Nat):yA vr r n w.length ⟨zp w++t,0⟩=(w,⟨t,0⟩):=(zdX hv hr hn h hm t _).full
theorem zaT(l:List Pr):2*l.length+1≤(jc l).length∧(jc l).length≤20*l.length+10:=by
 have h1:=yG l.length;have h2:=zC l.length;have h3:=Jl l true (0,0)
 unfold jc
 rw [lc]
 omega
theorem JK:∀w:List (List Pr),2*jw w+w.length≤(zp w).length∧(zp w).length≤20*jw w+10*w.length
 | []=>⟨la _,la _⟩
 |l::w=>by
  obtain ⟨h1,h2⟩:=JK w
  have h3:=zaT l
  have e:(zp (l::w)).length=(jc l).length+(zp w).length:=lc
  have htp:jw (l::w)=l.length+jw w:=rfl
  rw [e,htp,lp]
  omega
def U9(f:Bool)(q:Pr):List Pr→Prop
 | []=>True
 |p::l=>(0≤p.1 - q.1∧p.1 - q.1≤1000000000)∧(0≤(if f=false∧p.1 - q.1=0 then p.2 - q.2 - 1 else p.2)∧(if f=false∧p.1 - q.1=0 then p.2 - q.2 - 1 else p.2)≤4000000000)∧(InI p.1∧InI p.2)∧U9 false p l
theorem ze6{vr r n:Int}(hv:vr≤1000000000)(hr:r≤1000000000)(hn:n≤1000000000):∀(l:List Pr) (f:Bool) (q:Pr),Z1 vr f q→vlE vr r n (YF f q) l=0→U9 f q l
 | [],_,_,_,_=>trivial
 |p::l,f,q,hq,h=>by
  have hp:prE vr r n (YF f q) p=0:=by
   by_cases h9:prE vr r n (YF f q) p=0
   ·exact h9
   ·rw [vlE,if_pos h9] at h;exact h
  have hl:vlE vr r n (YF false p) l=0:=by rw [vlE,if_neg (by simp [hp])] at h;exact h
  obtain ⟨⟨p1,p2⟩,hls,hlt⟩:=UR hp
  obtain ⟨l1,l2⟩:=QX hr hn hls
  have hd:0≤p.1 - q.1∧p.1 - q.1<vr:=by
   rcases hq with ⟨_,rfl⟩|⟨hf,q1,q2,q3⟩
   ·dsimp only;omega
   ·have:=Yv.1 (hlt hf);omega
  refine ⟨by omega,?_,⟨by unfold InI;omega,by unfold InI;omega⟩,ze6 hv hr hn l false p (Qp hp) hl⟩
  by_cases h0:f=false∧p.1 - q.1=0
  ·rw [if_pos h0]
   rcases hq with ⟨hf,rfl⟩|⟨hf,q1,q2,q3⟩
   ·exact absurd (hf.symm.trans h0.1) (by decide)
   ·have:=Yv.1 (hlt hf);omega
  ·rw [if_neg h0];omega
theorem zda{vr r n:Int}(hv:vr≤1000000000)(hr:r≤1000000000)(hn:n≤1000000000):∀(w:List (List Pr)),jZ vr r n w=0→∀l∈w,U9 true (0,0) l
 | [],_,l,hl=>by cases hl
 |x::w,h,l,hl=>by
  have hx:vlE vr r n none x=0:=by
   by_cases h9:vlE vr r n none x=0
   ·exact h9
   ·rw [jZ,if_pos h9] at h;exact h
  have hw:jZ vr r n w=0:=by rw [jZ,if_neg (by simp [hx])] at h;exact h
  rcases List.mem_cons.1 hl with rfl|hl
  ·exact ze6 hv hr hn _ true (0,0) (.inl ⟨rfl,rfl⟩) hx
  ·exact zda hv hr hn w hw l hl
theorem YG{bd why:Int}{t:Ip}:yo bd why t=if bd≤(yw t:Int) then (0,zA why (ya t)) else ((yw t:Int),ya t):=by
 by_cases h0:t.err=0
 ·by_cases h1:(zj t.rest).2.2=0
  ·have hT:ya t=⟨t.rest.drop (zj t.rest).2.1,0⟩:=by unfold ya;rw [if_neg (by omega),if_neg (by omega)]
   have hV:yw t=(zj t.rest).1:=by unfold yw;rw [hT,if_pos rfl]
   rw [hT,hV,yo,if_neg (by omega),if_neg (by omega)]
   split<;>rfl
  ·have hT:ya t=⟨[],((zj t.rest).2.2:Int)⟩:=by unfold ya;rw [if_neg (by omega),if_pos h1]
   have h9:(((zj t.rest).2.2:Nat):Int)≠0:=by omega
   have hV:yw t=0:=by unfold yw;rw [hT,if_neg (by simp only;omega)]
   rw [hT,hV,yo,if_neg (by omega),if_pos h1]
   have hF:zA why ⟨[],((zj t.rest).2.2:Int)⟩=⟨[],((zj t.rest).2.2:Int)⟩:=if_pos h9
   rw [hF]
   split<;>rfl
 ·have hT:ya t=t:=by unfold ya;rw [if_pos h0]
  have hV:yw t=0:=by unfold yw;rw [hT,if_neg h0]
  have hF:zA why t=t:=if_pos h0
  rw [hT,hV,yo,if_pos h0,hF]
  split<;>rfl
theorem zg9{vr r n:Int}{f:Bool}{q:Pr}{s:Ip}(h:vr - q.1≤(yw s:Int)):(zw vr r n f q s).2=zA 9 (ya s)∧(zw vr r n f q s).2.err≠0:=by
 have h1:jI vr q s=(0,zA 9 (ya s)):=by unfold jI;rw [YG,if_pos h]
 have h2:(jI vr q s).2.err≠0:=by rw [h1];exact yh (by decide)
 have h3:jQ vr q s=(0,zA 9 (ya s)):=by unfold jQ;rw [jT h2,h1]
 have h4:(zw vr r n f q s).2=zA 9 (ya s):=by
  unfold zw
  rw [h3]
  exact if_neg fun hh=>absurd hh.1 (yh (by decide))
 exact ⟨h4,by rw [h4];exact yh (by decide)⟩
theorem zha{vr r n:Int}{f:Bool}{q:Pr}{s:Ip}(h:¬vr - q.1≤(yw s:Int))(h2:4611686018427387904≤(yw (ya s):Int)):(zw vr r n f q s).2=zA 10 (ya (ya s))∧(zw vr r n f q s).2.err≠0:=by
 have h1:jI vr q s=((yw s:Int),ya s):=by unfold jI;rw [YG,if_neg h]
 have h3:jQ vr q s=(0,zA 10 (ya (ya s))):=by unfold jQ;rw [h1,YG,if_pos h2]
 have h4:(zw vr r n f q s).2=zA 10 (ya (ya s)):=by
  unfold zw
  rw [h3]
  exact if_neg fun hh=>absurd hh.1 (yh (by decide))
 exact ⟨h4,by rw [h4];exact yh (by decide)⟩
theorem zhb{vr r n:Int}{f:Bool}{q:Pr}{s:Ip}(h:¬vr - q.1≤(yw s:Int))(h2:¬4611686018427387904≤(yw (ya s):Int)){lo:Int}(hl:lo=if f=false∧(yw s:Int)=0 then q.2+1+(yw (ya s):Int) else (yw (ya s):Int)):
  zw vr r n f q s=((q.1+(yw s:Int),lo),if yd lo r n=false then zA 10 (ya (ya s)) else ya (ya s)):=by
 have h1:jI vr q s=((yw s:Int),ya s):=by unfold jI;rw [YG,if_neg h]
 have h3:jQ vr q s=((yw (ya s):Int),ya (ya s)):=by unfold jQ;rw [h1,YG,if_neg h2]
 have h4:plE vr f q s=lo:=by unfold plE;rw [h1,h3];exact hl.symm
 unfold zw
 rw [h4,h3,h1]
 dsimp only
 by_cases h9:yd lo r n=false
 ·rw [if_pos h9]
  by_cases h8:(ya (ya s)).err=0
  ·rw [if_pos ⟨h8,h9⟩]
  ·rw [if_neg fun hh=>h8 hh.1,jf h8]
 ·rw [if_neg h9,if_neg fun hh=>h9 hh.2]
structure WP(w:World)(lo p:Nat)(l:List Nat)(A:Option Addr)(c:Nat)(t:Ip)(v:Value)(xs:List (List Pr))(W:World):Prop where
 md:Mods (Is p) w W
 ce:CE lo p l A c t W
 nst:∃vs,NestV Jn W w.heap.size v vs xs
 pw:p<w.heap.size
structure WQ(w Wq:World)(z lo p:Nat)(l:List Nat)(A:Option Addr)(c:Nat)(t:Ip)(v:Value)(xs:List (List Pr))(u:Value)(ps:List Pr)(W:World):Prop where
 q:∃t0,WP w lo p l A c t0 v xs Wq
 md:Mods (Is p) Wq W
 ce:CE lo p l A c t W
 own:W.ownsRow z 55 2 u ps.length (prs ps)
 hz:Wq.heap.size≤z
section
variable {w W W' Wq : World} {z lo p : Nat} {l : List Nat} {A : Option Addr} {c : Nat} {t t' : Ip} {v v' u u' : Value} {xs : List (List Pr)} {ps : List Pr}
theorem WQ.pz(h:WQ w Wq z lo p l A c t v xs u ps W):p<w.heap.size∧w.heap.size≤Wq.heap.size∧Wq.heap.size≤W.heap.size∧p<z:=by
 obtain ⟨t0,hq⟩:=h.q
 have h1:=hq.md.size;have h2:=h.md.size;have h3:=hq.pw;have h4:=h.hz
 exact ⟨h3,h1,h2,by omega⟩
theorem zaU(l:List Pr)(p:Pr):prs (l++ [p])=prs l++ [.int .i64 p.1,.int .i64 p.2]:=by simp [prs]
theorem WQ.fin(h:WQ w Wq z lo p l A c t v xs u ps W){vs:List Value}(hn:NestV Jn Wq w.heap.size v vs xs){o:Obj}
  (ho:W'.ownsRow w.heap.size 52 1 v' (vs.length+1) (((vs.zip xs).flatMap fun p=>Jn.oc p.1 p.2)++Jn.oc u ps)) (hg:(W.alloc o).grownBy W' v.ownBlock):WP w lo p l A c t v' (xs++ [ps]) W':=by
 have hp:=h.pz
 obtain ⟨t0,hq⟩:=h.q
 have hsn:=hn.snoc (x:=ps) h.md (fun k hk=>by unfold Is at hk;omega) (by omega) (jo h.own h.hz) o ho hg
 have hon:=(hn.mods h.md fun k h1 _ h2=>by unfold Is at h2;omega).outer
 have hm:Mods (fun k=>v.ownBlock=some k) W W':=((Mods.refl _ W).alloc o).grown hg fun k hk=> .inl hk
 have hk:∀k,v.ownBlock=some k→w.heap.size≤k:=fun k hk=>(zW hon k hk).1
 exact ⟨(hq.md.trans h.md).then hm fun k hh=> .inr (hk k hh),h.ce.mods hm fun k hh=> .inr (by have:=hk k hh;omega),⟨_,hsn⟩,hq.pw⟩
end
theorem Qq{bd why:Int}{s:Ip}:0≤(yo bd why s).1∧((yo bd why s).1<bd∨(yo bd why s).1=0):=by
 unfold yo
 split
 ·exact ⟨Int.le_refl _,.inr rfl⟩
 ·split
  ·exact ⟨Int.le_refl _,.inr rfl⟩
  ·split
   ·exact ⟨Int.le_refl _,.inr rfl⟩
   ·exact ⟨by dsimp only;omega,.inl (by dsimp only;omega)⟩
structure PRS(w:World)(B:Nat)(A:Option Addr)(c:Nat)(s:Ip)(q1 q2:Int)(W:World):Prop where
 blw:Below w.heap.size w W
 inb:Row W w.heap.size 88 #[.slice A s.rest.length c,.int .i64 s.err]
 qb:Row W (w.heap.size+1) 55 #[.int .i64 q1,.int .i64 q2]
 z2:Row W (w.heap.size+1+1) 55 #[.int .i64 0,.int .i64 0]
 z3:Row W (w.heap.size+1+1+1) 88 #[.slice none 0 0,.int .i64 0]
 ip:IpV W B A c s
section
variable {w : World} {B : Nat} {A A' : Option Addr} {c c' : Nat} {s s' : Ip} {q1 q2 : Int} {W W' : World}
theorem PRS.start(h:IpV w B A c s)(hB:B≤w.heap.size)(q1 q2:Int):
  PRS w B A c s q1 q2 ((((w.alloc (.cells #[.slice A s.rest.length c,.int .i64 s.err] 88)).alloc (.cells #[.int .i64 q1,.int .i64 q2] 55)).alloc (.cells #[.int .i64 0,.int .i64 0] 55)).alloc (.cells #[.slice none 0 0,.int .i64 0] 88)):=by
 have hb:=((((ld w.heap.size w).alloc (la _) (.cells #[.slice A s.rest.length c,.int .i64 s.err] 88)).alloc (by simp) (.cells #[.int .i64 q1,.int .i64 q2] 55)).alloc (by simp;omega) (.cells #[.int .i64 0,.int .i64 0] 55)).alloc (by simp;omega) (.cells #[.slice none 0 0,.int .i64 0] 88)
 exact ⟨hb,(((Row.new w _ _).alloc _).alloc _).alloc _,((Row.new' (p:=w.heap.size+1) (by simp) _ _).alloc _).alloc _,(Row.new' (p:=w.heap.size+1+1) (by simp) _ _).alloc _,Row.new' (p:=w.heap.size+1+1+1) (by simp) _ _,h.below (hb.mono hB)⟩
theorem PRS.next(h:PRS w B A c s q1 q2 W)(hb:Below W.heap.size W W')(hB:B≤w.heap.size):PRS w B A c s q1 q2 W':=
 ⟨h.blw.trans (hb.mono h.blw.size),h.inb.below hb h.inb.lt,h.qb.below hb h.qb.lt,h.z2.below hb h.z2.lt,h.z3.below hb h.z3.lt,h.ip.below (hb.mono (lf hB h.blw.size))⟩
theorem PRS.inpt(h:PRS w B A c s q1 q2 W)(hI:IpV W B A' c' s')(hB:B≤w.heap.size):PRS w B A' c' s' q1 q2 ((W.setCell ⟨w.heap.size,0,none⟩ (.slice A' s'.rest.length c')).setCell ⟨w.heap.size,1,none⟩ (.int .i64 s'.err)):=by
 have hb:Below w.heap.size W ((W.setCell ⟨w.heap.size,0,none⟩ (.slice A' s'.rest.length c')).setCell ⟨w.heap.size,1,none⟩ (.int .i64 s'.err)):=((ld _ W).setCell (p:=⟨w.heap.size,0,none⟩) (la _) _).setCell (p:=⟨w.heap.size,1,none⟩) (la _) _
 have hm:Mods (Is w.heap.size) W ((W.setCell ⟨w.heap.size,0,none⟩ (.slice A' s'.rest.length c')).setCell ⟨w.heap.size,1,none⟩ (.int .i64 s'.err)):=((Mods.refl _ W).put 0 _).put 1 _
 exact ⟨h.blw.trans hb,(h.inb.put 0 _).put 1 _,h.qb.mods hm (fun e=>by unfold Is at e;omega),h.z2.mods hm (fun e=>by unfold Is at e;omega),h.z3.mods hm (fun e=>by unfold Is at e;omega),hI.below (hb.mono hB)⟩
theorem PRS.fin(h:PRS w B A c s q1 q2 W)(hB:B≤w.heap.size)(x y:Int):
  Row (((((W.setCell ⟨w.heap.size+1+1,0,none⟩ (.int .i64 x)).setCell ⟨w.heap.size+1+1,1,none⟩ (.int .i64 y)).setCell ⟨w.heap.size+1+1+1,0,none⟩ (.slice A s.rest.length c)).setCell ⟨w.heap.size+1+1+1,1,none⟩ (.int .i64 s.err)).drew) (w.heap.size+1+1) 55 #[.int .i64 x,.int .i64 y]∧
  Row (((((W.setCell ⟨w.heap.size+1+1,0,none⟩ (.int .i64 x)).setCell ⟨w.heap.size+1+1,1,none⟩ (.int .i64 y)).setCell ⟨w.heap.size+1+1+1,0,none⟩ (.slice A s.rest.length c)).setCell ⟨w.heap.size+1+1+1,1,none⟩ (.int .i64 s.err)).drew) (w.heap.size+1+1+1) 88 #[.slice A s.rest.length c,.int .i64 s.err]∧
  Below w.heap.size w (((((W.setCell ⟨w.heap.size+1+1,0,none⟩ (.int .i64 x)).setCell ⟨w.heap.size+1+1,1,none⟩ (.int .i64 y)).setCell ⟨w.heap.size+1+1+1,0,none⟩ (.slice A s.rest.length c)).setCell ⟨w.heap.size+1+1+1,1,none⟩ (.int .i64 s.err)).drew)∧
  IpV (((((W.setCell ⟨w.heap.size+1+1,0,none⟩ (.int .i64 x)).setCell ⟨w.heap.size+1+1,1,none⟩ (.int .i64 y)).setCell ⟨w.heap.size+1+1+1,0,none⟩ (.slice A s.rest.length c)).setCell ⟨w.heap.size+1+1+1,1,none⟩ (.int .i64 s.err)).drew) B A c s:=by
 have h1:Mods (Is (w.heap.size+1+1)) W ((W.setCell ⟨w.heap.size+1+1,0,none⟩ (.int .i64 x)).setCell ⟨w.heap.size+1+1,1,none⟩ (.int .i64 y)):=((Mods.refl _ W).put 0 _).put 1 _
 have r1:Row ((W.setCell ⟨w.heap.size+1+1,0,none⟩ (.int .i64 x)).setCell ⟨w.heap.size+1+1,1,none⟩ (.int .i64 y)) (w.heap.size+1+1) 55 #[.int .i64 x,.int .i64 y]:=(h.z2.put 0 _).put 1 _
 have r3:=h.z3.mods h1 (fun e=>by unfold Is at e;omega)
 generalize ((W.setCell ⟨w.heap.size+1+1,0,none⟩ (.int .i64 x)).setCell ⟨w.heap.size+1+1,1,none⟩ (.int .i64 y))=V at*
 have h2:Mods (Is (w.heap.size+1+1+1)) V ((V.setCell ⟨w.heap.size+1+1+1,0,none⟩ (.slice A s.rest.length c)).setCell ⟨w.heap.size+1+1+1,1,none⟩ (.int .i64 s.err)).drew:=(((Mods.refl _ V).put 0 _).put 1 _).drew
 have r4:Row ((V.setCell ⟨w.heap.size+1+1+1,0,none⟩ (.slice A s.rest.length c)).setCell ⟨w.heap.size+1+1+1,1,none⟩ (.int .i64 s.err)).drew (w.heap.size+1+1+1) 88 #[.slice A s.rest.length c,.int .i64 s.err]:=((r3.put 0 _).put 1 _).drew
 generalize ((V.setCell ⟨w.heap.size+1+1+1,0,none⟩ (.slice A s.rest.length c)).setCell ⟨w.heap.size+1+1+1,1,none⟩ (.int .i64 s.err)).drew=U at*
 have hb1:Below w.heap.size W V:=h1.below h.blw.size fun k hk=>by unfold Is at hk;omega
 have hb2:Below w.heap.size V U:=h2.below (by have:=hb1.size;have:=h.blw.size;omega) fun k hk=>by unfold Is at hk;omega
 exact ⟨r1.mods h2 (fun e=>by unfold Is at e;omega),r4,h.blw.trans (hb1.trans hb2),h.ip.below ((hb1.trans hb2).mono hB)⟩
end
def RPR(w:World)(B:Nat)(p:Pr)(t:Ip)(e:Ending)(w':World):Prop:=
 ∃A' c',e= .returned (.tuple #[.agg #[.int .i64 p.1,.int .i64 p.2],.agg #[.slice A' t.rest.length c',.int .i64 t.err]])∧IpV w' B A' c' t∧Below w.heap.size w w'
theorem zaV{w:World}{B:Nat}{A:Option Addr}{c:Nat}{s:Ip}(h:IpV w B A c s)(hB:B≤w.heap.size){vr r n:Int}{f:Bool}{q:Pr}(hv:0≤vr∧vr≤1000000000)(hr:r≤1000000000)(hn:n≤1000000000)(hq:Z1 vr f q)(hq2:q.2≤4000000000):
  Calls Tryz.prog 89 #[.agg #[.slice A s.rest.length c,.int .i64 s.err],.bool f,.agg #[.int .i64 q.1,.int .i64 q.2],.int .i64 vr,.int .i64 r,.int .i64 n] w (RPR w B (zw vr r n f q s).1 (zw vr r n f q s).2):=by
 obtain ⟨⟨dv,s1⟩,h1⟩:∃y,jI vr q s=y:=⟨_,rfl⟩
 obtain ⟨⟨dl,s2⟩,h2⟩:∃y,yo 4611686018427387904 10 s1=y:=⟨_,rfl⟩
 have h2':jQ vr q s=(dl,s2):=by unfold jQ;rw [h1];exact h2
 obtain ⟨lo,hl⟩:∃y,(if f=false∧dv=0 then q.2+1+dl else dl)=y:=⟨_,rfl⟩
 obtain ⟨s3,h3⟩:∃y,(if s2.err=0∧yd lo r n=false then zA 10 s2 else s2)=y:=⟨_,rfl⟩
 have HE:zw vr r n f q s=((q.1+dv,lo),s3):=by
  have:plE vr f q s=lo:=by unfold plE;rw [h1,h2'];exact hl
  unfold zw
  rw [this,h1,h2',←h3]
 rw [HE]
 have hqr:0≤q.1∧q.1≤vr∧0≤q.2:=by
  rcases hq with ⟨_,rfl⟩|⟨_,a,b,c⟩
  ·exact ⟨Int.le_refl _,hv.1,Int.le_refl _⟩
  ·exact ⟨a,by omega,c⟩
 have hd:0≤dv∧dv≤1000000000:=by
  have:=Qq (bd:=vr - q.1) (why:=9) (s:=s)
  rw [show yo (vr - q.1) 9 s=(dv,s1) from h1] at this
  dsimp only at this
  omega
 have hdl:0≤dl∧dl≤4611686018427387904:=by
  have:=Qq (bd:=4611686018427387904) (why:=10) (s:=s1)
  rw [h2] at this
  dsimp only at this
  omega
 have hlo:0≤lo∧lo≤5000000000000000000:=by rw [←hl];split<;>omega
 have HBB:=qH hB
 have HP:=qH (PRS.start h hB q.1 q.2)
 have H1:=qH (show yo (vr - q.1) 9 s=(dv,s1) from h1)
 have H2:=qH h2
 have HL:=qH hl
 have H3:=qH h3
 obtain ⟨q1,q2⟩:=q
 dsimp only at*
 clear h hB h1 h2 h2' hl h3 HE hq
 go_enter Tryz.func89,Tryz.ntmps89
 go_upto_region 1 with fail
 generalize ((((w.alloc (.cells #[.slice A s.rest.length c,.int .i64 s.err] 88)).alloc (.cells #[.int .i64 q1,.int .i64 q2] 55)).alloc (.cells #[.int .i64 0,.int .i64 0] 55)).alloc (.cells #[.slice none 0 0,.int .i64 0] 88))=W0 at*
 have C1:=qH (jH (vr - q1) 9 HP.out.ip (lf HBB.out HP.out.blw.size) (by omega) (by omega) (by decide))
 rw [H1.out] at C1
 have p0:=HP.out.inb.k0;have p1:=HP.out.inb.k1
 have y0:=HP.out.qb.k0;have y1:=HP.out.qb.k1
 go_wp2_with fail
 refine C1.out.mono ?_
 rintro e W1 ⟨A1,c1,rfl,hI,hb⟩
 have HP1:=qH (HP.out.next hb HBB.out)
 have HI1:=qH hI
 clear hb hI C1 HP p0 p1 y0 y1
 have p0:=HP1.out.inb.k0;have p1:=HP1.out.inb.k1
 have pf0:=HP1.out.inb.frozen 0;have pf1:=HP1.out.inb.frozen 1
 go_upto_region 4 with fail
 have HP2:=qH (HP1.out.inpt HI1.out HBB.out)
 clear p0 p1 pf0 pf1 HP1 HI1
 generalize ((W1.setCell ⟨w.heap.size,0,none⟩ (.slice A1 s1.rest.length c1)).setCell ⟨w.heap.size,1,none⟩ (.int .i64 s1.err))=W2 at*
 have C2:=qH (jH 4611686018427387904 10 HP2.out.ip (lf HBB.out HP2.out.blw.size) (by decide) (by decide) (by decide))
 rw [H2.out] at C2
 have p0:=HP2.out.inb.k0;have p1:=HP2.out.inb.k1
 go_wp2_with fail
 refine C2.out.mono ?_
 rintro e W3 ⟨A3,c3,rfl,hI,hb⟩
 have HP3:=qH (HP2.out.next hb HBB.out)
 have HI3:=qH hI
 clear hb hI C2 HP2 p0 p1
 have p0:=HP3.out.inb.k0;have p1:=HP3.out.inb.k1
 have pf0:=HP3.out.inb.frozen 0;have pf1:=HP3.out.inb.frozen 1
 go_upto_region 5 with fail
 have HP4:=qH (HP3.out.inpt HI3.out HBB.out)
 clear p0 p1 pf0 pf1 HP3 HI3
 generalize ((W3.setCell ⟨w.heap.size,0,none⟩ (.slice A3 s2.rest.length c3)).setCell ⟨w.heap.size,1,none⟩ (.int .i64 s2.err))=W4 at*
 have y0:=HP4.out.qb.k0;have y1:=HP4.out.qb.k1
 obtain ⟨bl,hbl⟩:∃b,decide (f=false∧dv=0)=b:=⟨_,rfl⟩
 have HBL:=qH hbl
 clear hbl
 go_upto_region 6 with fail
 go_cut [37] from 17 (fun s37 wx=>s37= .bool bl∧wx=W4)
 case first=>
  cases f
  ·have hb:Hid ((dv==0)=bl):=by show _=_;rw [←HBL.out,Bool.eq_iff_iff];simp
   go_wp2_with fail
   go_meet
   case rel=>exact ⟨by rw [hb.out],rfl⟩
  ·have hb:Hid (false=bl):=by show _=_;rw [←HBL.out];simp
   go_wp2_with fail
   go_meet
   case rel=>exact ⟨by rw [←hb.out],rfl⟩
 case rest=>
  obtain ⟨hs37,hwc⟩:=hcut
  subst hs37 hwc
  go_upto_if 37 with fail
  go_cut [16] from 17 (fun s16 wx=>s16= .int .i64 lo∧wx=wc)
  case first=>
   cases bl
   ·have hle:Hid (dl=lo):=by show _=_;rw [←HL.out,if_neg (of_decide_eq_false HBL.out)]
    go_wp2_with fail
    go_meet
    case rel=>exact ⟨by rw [hle.out],rfl⟩
   ·have hle:Hid (q2+1+dl=lo):=by show _=_;rw [←HL.out,if_pos (of_decide_eq_true HBL.out)]
    go_wp2_with fail
    go_meet
    case rel=>exact ⟨by rw [hle.out],rfl⟩
  case rest=>
   obtain ⟨hs16,hwc⟩:=hcut
   subst hs16 hwc
   clear y0 y1 HL HBL
   obtain ⟨b2,hb2⟩:∃b,decide (s2.err=0∧yd lo r n=false)=b:=⟨_,rfl⟩
   have HB2:=qH hb2
   clear hb2
   have p0:=HP4.out.inb.k0;have p1:=HP4.out.inb.k1
   go_upto_region 8 with fail
   obtain ⟨W5,hW5⟩:∃z,z=wc:=⟨_,rfl⟩
   subst hW5
   go_cut [52] from 17 (fun s52 wx=>s52= .bool b2∧wx=W5)
   case first=>
    by_cases he:s2.err=0
    ·have d0:(s2.err==0)=true:=by simp [he]
     have hb:Hid ((!yd lo r n)=b2):=by show _=_;rw [←HB2.out,Bool.eq_iff_iff];simp [he]
     have C3:=qH (Z8 lo r n W5 ⟨by omega,by omega⟩)
     generalize yd lo r n=bb at*
     clear he
     go_wp2_with fail
     refine C3.out.mono ?_
     rintro e W ⟨rfl,rfl⟩
     go_wp2_with fail
     go_meet
     case rel=>exact ⟨by rw [hb.out],rfl⟩
    ·have d0:(s2.err==0)=false:=by simp [he]
     have hb:Hid (false=b2):=by show _=_;rw [←HB2.out];simp [he]
     clear he
     go_wp2_with fail
     go_meet
     case rel=>exact ⟨by rw [←hb.out],rfl⟩
   case rest=>
    obtain ⟨hs52,hwc⟩:=hcut
    subst hs52 hwc
    go_upto_if 52 with fail
    obtain ⟨W5,hW5⟩:∃z,z=wc:=⟨_,rfl⟩
    subst hW5
    go_cut [] from 17 (fun wx=>∃A c,Hid (PRS w B A c s3 q1 q2 wx))
    case first=>
     cases b2
     ·have hs:Hid (s2=s3):=by show _=_;rw [←H3.out,if_neg (of_decide_eq_false HB2.out)]
      go_wp2_with fail
      go_meet
      case rel=>exact ⟨A3,c3,by rw [←hs.out];exact HP4.out⟩
     ·have hs:Hid (zA 10 s2=s3):=by show _=_;rw [←H3.out,if_pos (of_decide_eq_true HB2.out)]
      have C4:=qH (jb 10 HP4.out.ip (lf HBB.out HP4.out.blw.size))
      rw [hs.out] at C4
      go_wp2_with fail
      refine C4.out.mono ?_
      rintro e W6 ⟨A6,c6,rfl,hI,hb⟩
      have HP6:=qH (HP4.out.next hb HBB.out)
      have HI6:=qH hI
      clear hb hI C4 HP4 p0 p1
      have p0:=HP6.out.inb.k0;have p1:=HP6.out.inb.k1
      have pf0:=HP6.out.inb.frozen 0;have pf1:=HP6.out.inb.frozen 1
      go_wp2_with fail
      go_meet
      case rel=>exact ⟨A6,c6,HP6.out.inpt HI6.out HBB.out⟩
    case rest=>
     clear HP4 p0 p1 HB2 H3
     obtain ⟨A7,c7,HP7⟩:=hcut
     have p0:=HP7.out.inb.k0;have p1:=HP7.out.inb.k1
     have y0:=HP7.out.qb.k0;have y1:=HP7.out.qb.k1
     have z0:=HP7.out.z2.k0;have z1:=HP7.out.z2.k1
     have u0:=HP7.out.z3.k0;have u1:=HP7.out.z3.k1
     have zf0:=HP7.out.z2.frozen 0;have zf1:=HP7.out.z2.frozen 1
     have uf0:=HP7.out.z3.frozen 0;have uf1:=HP7.out.z3.frozen 1
     go_wp2_with fail
     go_region
     go_wp2
     (try simp only [Exit.inBlock,Exit.then])
     obtain ⟨f1,f2,f3,f4⟩:=HP7.out.fin HBB.out (q1+dv) lo
     refine bodyPost_ret (v:= .tuple #[.agg #[.int .i64 (q1+dv),.int .i64 lo],.agg #[.slice A7 s3.rest.length c7,.int .i64 s3.err]]) ?_ rfl ⟨A7,c7,rfl,f4,f3⟩
     exact zH rfl _ _ (w.heap.size+1+1+1) (w.heap.size+1+1) 88 55 #[.slice A7 s3.rest.length c7,.int .i64 s3.err] #[.int .i64 (q1+dv),.int .i64 lo] (0,0) (0,0) _ _ rfl f2 Tryz.underlying88 rfl (by kernel_rfl) rfl f1 Tryz.underlying55 rfl (by kernel_rfl)
end Go.Proofs.YtnifhpbgmjcndaaGreat
