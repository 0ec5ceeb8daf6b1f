import Derived.Test.YtnifhpbgmjcndaaGreatPk19
import Derived.Test.YtnifhpbgmjcndaaGreatPk21
import Derived.Test.YtnifhpbgmjcndaaGreatCkVal
set_option linter.unusedVariables false
set_option linter.unusedSimpArgs false
namespace Go.Proofs.YtnifhpbgmjcndaaGreat
open Go.RowKit
def Ct.f(c:Ct):Fd:=⟨c.sa,c.sr,c.bs⟩
def Ct.g(c:Ct):Gd:=⟨c.ta,c.tr,c.ts,c.ms⟩
def zCt:Ct:=⟨0,0, [],0,0,0, [], []⟩
def zn:List Nat:= [1,2,3]
def zu(c:Ct):List (List Nat):= [zO c.f,yz c.g,zp c.inv]
def zP(c:Ct):List Nat:=82::67::1::zD zn (zu c)
def yC(t:Ip):Int:=if t.err=0∧0<t.rest.length then 2 else t.err
def Yh(f:Fd)(g:Gd)(p:List Nat):Ct × Int:=
 if yC (yA f.regs g.regs g.slots f.bs.length ⟨p,0⟩).2≠0 then (zCt,yC (yA f.regs g.regs g.slots f.bs.length ⟨p,0⟩).2)
 else (⟨f.args,f.regs,f.bs,g.args,g.regs,g.slots,g.ms,(yA f.regs g.regs g.slots f.bs.length ⟨p,0⟩).1⟩,0)
def Ul(f:Fd)(p q:List Nat):Ct × Int:=
 if yC (zq ⟨p,0⟩).2≠0 then (zCt,yC (zq ⟨p,0⟩).2)
 else if f.bs.length≠(zq ⟨p,0⟩).1.ms.length∨f.args≠(zq ⟨p,0⟩).1.args then (zCt,14) else Yh f (zq ⟨p,0⟩).1 q
def Yi(o p q:List Nat):Ct × Int:=
 if yC (zJ ⟨o,0⟩).2≠0 then (zCt,yC (zJ ⟨o,0⟩).2) else Ul (zJ ⟨o,0⟩).1 p q
def JX(r:List Nat):Ct × Int:=
 if yg zn r≠0 then (zCt,yg zn r) else Yi ((zL zn r).2.1.getD 0 []) ((zL zn r).2.1.getD 1 []) ((zL zn r).2.1.getD 2 [])
def yD(b:List Nat):Ct × Int:=
 if b.length<2 then (zCt,1) else if b.getD 0 0≠82∨b.getD 1 0≠67 then (zCt,4) else if b.length<3 then (zCt,1) else if b.getD 2 0≠1 then (zCt,5) else JX (b.drop 3)
theorem jN{t:Ip}(h:yC t=0):t.err=0∧t.rest= []:=by
 unfold yC at h
 by_cases h9:t.err=0∧0<t.rest.length
 ·rw [if_pos h9] at h;cases h
 ·rw [if_neg h9] at h
  exact ⟨h,List.length_eq_zero_iff.1 (by omega)⟩
theorem YX:yC ⟨[],0⟩=0:=rfl
structure CtI(c:Ct):Prop where
 s:∀b∈c.bs,∀x∈b.code,InI x.imm
 t:∀b∈c.ms,∀x∈b.code,InI x.imm
theorem ZE{c:Ct}(h:zV c=0):eF c.sa c.sr c.bs=0∧eMF c.ta c.tr c.ts c.ms=0∧c.bs.length=c.ms.length∧c.sa=c.ta∧yp c.inv c.bs.length c.sr c.tr c.ts=0:=by
 unfold zV at h
 by_cases h1:eF c.sa c.sr c.bs≠0
 ·rw [if_pos h1] at h;exact absurd h h1
 ·rw [if_neg h1] at h
  by_cases h2:eMF c.ta c.tr c.ts c.ms≠0
  ·rw [if_pos h2] at h;exact absurd h h2
  ·rw [if_neg h2] at h
   by_cases h3:c.bs.length≠c.ms.length∨c.sa≠c.ta
   ·rw [if_pos h3] at h;cases h
   ·rw [if_neg h3] at h
    exact ⟨by omega,by omega,by omega,by omega,h⟩
theorem ze7{c:Ct}(h1:eF c.sa c.sr c.bs=0)(h2:eMF c.ta c.tr c.ts c.ms=0)(h3:c.bs.length=c.ms.length)(h4:c.sa=c.ta)(h5:yp c.inv c.bs.length c.sr c.tr c.ts=0):zV c=0:=by
 unfold zV
 rw [if_neg (by omega),if_neg (by omega),if_neg (by omega)]
 exact h5
theorem zgh{o p q:List Nat}(ho:Byt o)(hp:Byt p)(hq:Byt q)(h:(Yi o p q).2=0):zV (Yi o p q).1=0∧CtI (Yi o p q).1∧ [o,p,q]=zu (Yi o p q).1:=by
 unfold Yi at*
 by_cases h1:yC (zJ ⟨o,0⟩).2≠0
 ·rw [if_pos h1] at h;exact absurd h h1
 rw [if_neg h1] at h⊢
 obtain ⟨a1,a2⟩:=jN (t:=(zJ ⟨o,0⟩).2) (by omega)
 obtain ⟨_,f1,f2,f3,_,_,_⟩:=UN (s:=⟨o,0⟩) ho a1
 rw [a2,lA] at f3
 generalize (zJ ⟨o,0⟩).1=f at*
 unfold Ul at*
 by_cases h2:yC (zq ⟨p,0⟩).2≠0
 ·rw [if_pos h2] at h;exact absurd h h2
 rw [if_neg h2] at h⊢
 obtain ⟨b1,b2⟩:=jN (t:=(zq ⟨p,0⟩).2) (by omega)
 obtain ⟨_,g1,g2,g3,_,_,_⟩:=YU (s:=⟨p,0⟩) hp b1
 rw [b2,lA] at g3
 generalize (zq ⟨p,0⟩).1=g at*
 by_cases h3:f.bs.length≠g.ms.length∨f.args≠g.args
 ·rw [if_pos h3] at h;cases h
 rw [if_neg h3] at h⊢
 unfold Yh at*
 by_cases h4:yC (yA f.regs g.regs g.slots f.bs.length ⟨q,0⟩).2≠0
 ·rw [if_pos h4] at h;exact absurd h h4
 rw [if_neg h4] at h⊢
 obtain ⟨c1,c2⟩:=jN (t:=(yA f.regs g.regs g.slots f.bs.length ⟨q,0⟩).2) (by omega)
 obtain ⟨_,w1,w2⟩:=zdW (s:=⟨q,0⟩) hq c1
 rw [c2,lA] at w2
 generalize (yA f.regs g.regs g.slots f.bs.length ⟨q,0⟩).1=w at*
 refine ⟨ze7 f1 g1 (by dsimp only;omega) (by dsimp only;omega) w1,⟨f2,g2⟩,?_⟩
 show [o,p,q]= [zO f,yz g,zp w]
 rw [show o=zO f from f3,show p=yz g from g3,show q=zp w from w2]
theorem ze8{α:Type}{l:List α}(h:l.length=3)(d:α):l= [l.getD 0 d,l.getD 1 d,l.getD 2 d]:=by
 match l,h with
 | [a,b,c],_=>rfl
theorem JB:∀(ids:List Nat) (xs:List (List Nat)),ids.length=xs.length→∀x∈xs,∀c∈x,c∈zD ids xs
 |id::ids,y::xs,h,x,hx,c,hc=>by
  rw [zD]
  rcases List.mem_cons.1 hx with rfl|hx
  ·exact List.mem_append_left _ (by unfold Ji;exact List.mem_cons_of_mem _ (List.mem_append_right _ hc))
  ·exact List.mem_append_right _ (JB ids xs (by simpa using h) x hx c hc)
 | [],_::_,h,_,_,_,_=>by simp at h
 |_, [],_,_,hx,_,_=>by cases hx
theorem zhC{b:List Nat}(h:3≤b.length):b=b.getD 0 0::b.getD 1 0::b.getD 2 0::b.drop 3:=by
 match b,h with
 |x::y::z::r,_=>rfl
theorem zgi{r:List Nat}(hr:Byt r)(h:(JX r).2=0):zV (JX r).1=0∧CtI (JX r).1∧r=zD zn (zu (JX r).1):=by
 unfold JX at*
 by_cases h3:yg zn r≠0
 ·rw [if_pos h3] at h
  have:((yg zn r:Nat):Int)=0:=h
  omega
 rw [if_neg h3] at h⊢
 obtain ⟨s1,s2⟩:=Zz (ids:=zn) (l:=r) hr (by omega)
 have hl3:=ze8 s2 []
 generalize (zL zn r).2.1=ps at*
 have hbp:∀x∈ps,Byt x:=fun x hx c hc=>hr c (by rw [←s1];exact JB zn ps s2.symm x hx c hc)
 obtain ⟨e1,e2,e3⟩:=zgh (o:=ps.getD 0 []) (p:=ps.getD 1 []) (q:=ps.getD 2 []) (hbp _ (by rw [hl3];simp)) (hbp _ (by rw [hl3];simp)) (hbp _ (by rw [hl3];simp)) h
 exact ⟨e1,e2,by rw [←e3,←hl3,s1]⟩
theorem zgj{b:List Nat}(hb:Byt b)(h:(yD b).2=0):zV (yD b).1=0∧CtI (yD b).1∧b=zP (yD b).1:=by
 unfold yD at*
 by_cases h0:b.length<2
 ·rw [if_pos h0] at h;cases h
 rw [if_neg h0] at h⊢
 by_cases h1:b.getD 0 0≠82∨b.getD 1 0≠67
 ·rw [if_pos h1] at h;cases h
 rw [if_neg h1] at h⊢
 by_cases h2:b.length<3
 ·rw [if_pos h2] at h;cases h
 rw [if_neg h2] at h⊢
 by_cases h3:b.getD 2 0≠1
 ·rw [if_pos h3] at h;cases h
 rw [if_neg h3] at h⊢
 obtain ⟨e1,e2,e3⟩:=zgi (r:=b.drop 3) (fun c hc=>hb c (List.mem_of_mem_drop hc)) h
 refine ⟨e1,e2,?_⟩
 unfold zP
 rw [←e3]
 have:=zhC (b:=b) (by omega)
 rw [show b.getD 0 0=82 by omega,show b.getD 1 0=67 by omega,show b.getD 2 0=1 by omega] at this
 exact this
structure CtL(c:Ct):Prop where
 f:(zO c.f).length<18446744073709551616
 g:(yz c.g).length<18446744073709551616
 w:(zp c.inv).length<18446744073709551616
theorem CtL.all{c:Ct}(h:CtL c):∀x∈zu c,x.length<18446744073709551616:=by
 intro x hx
 unfold zu at hx
 rcases List.mem_cons.1 hx with rfl|hx
 ·exact h.f
 rcases List.mem_cons.1 hx with rfl|hx
 ·exact h.g
 rcases List.mem_cons.1 hx with rfl|hx
 ·exact h.w
 ·cases hx
structure CtR(c:Ct):Prop where
 sr:c.sr≤1000000000
 tr:c.tr≤1000000000
 ts:c.ts≤1000000000
 np:jw c.inv≤1048576
theorem ze9{c:Ct}(h:zV c=0)(hi:CtI c)(hr:CtR c):Yi (zO c.f) (yz c.g) (zp c.inv)=(c,0):=by
 obtain ⟨v1,v2,v3,v4,v5⟩:=ZE h
 have e1:=zdV (f:=c.f) v1 hi.s []
 have e2:=zb0 (g:=c.g) v2 hi.t []
 rw [lA] at e1 e2
 have v6:c.bs.length=c.inv.length:=by
  unfold yp at v5
  by_cases h9:(c.inv.length:Int)≠(c.bs.length:Int)
  ·rw [if_pos h9] at v5;cases v5
  ·omega
 have v7:yp c.inv c.inv.length c.sr c.tr c.ts=0:=by rw [v6] at v5;exact v5
 have e3:=zca hr.sr hr.tr hr.ts v7 hr.np []
 rw [lA,←v6] at e3
 unfold Yi
 rw [e1,if_neg (by rw [YX];decide)]
 unfold Ul
 rw [e2,if_neg (by rw [YX];decide),if_neg (by show¬(c.bs.length≠c.ms.length∨c.sa≠c.ta);omega)]
 unfold Yh
 rw [show yA c.f.regs c.g.regs c.g.slots c.f.bs.length ⟨zp c.inv,0⟩=(c.inv,⟨[],0⟩) from e3,if_neg (by rw [YX];decide)]
 rfl
theorem zfa{c:Ct}(h:zV c=0)(hi:CtI c)(hr:CtR c)(hl:CtL c):yD (zP c)=(c,0):=by
 have hlen:3≤(zP c).length:=by unfold zP;simp
 unfold yD
 rw [if_neg (by omega),if_neg (by show¬((82:Nat)≠82∨(67:Nat)≠67);decide),if_neg (by omega),if_neg (by show¬((1:Nat)≠1);decide)]
 show JX (zD zn (zu c))=_
 unfold JX
 rw [zaz zn (zu c) rfl hl.all,if_neg (by decide),UK zn (zu c) rfl hl.all]
 exact ze9 h hi hr
def LE(x:Int):Prop:=0≤x∧x≤16∧x≠12∧x≠13
theorem LE.lit{x:Int}(h:x=0∨x=1∨x=2∨x=3∨x=4∨x=5∨x=6∨x=7∨x=8∨x=9∨x=10∨x=11∨x=14∨x=15∨x=16):LE x:=by unfold LE;omega
theorem QY(l:List Nat):LE ((zj l).2.2:Int):=by
 rcases JE l with ⟨x,n,h⟩|h|h<;>rw [h]<;>exact LE.lit (by simp)
theorem YH{bd why:Int}{s:Ip}(h:LE s.err)(hw:LE why):LE (yo bd why s).2.err:=by
 unfold yo
 by_cases h0:s.err≠0
 ·rw [if_pos h0];exact h
 rw [if_neg h0]
 by_cases h1:(zj s.rest).2.2≠0
 ·rw [if_pos h1];exact QY _
 rw [if_neg h1]
 by_cases h2:bd≤((zj s.rest).1:Int)
 ·rw [if_pos h2];exact hw
 ·rw [if_neg h2];exact LE.lit (by simp)
theorem ZX{b:Bool}{bd why:Int}{s:Ip}(h:LE s.err)(hw:LE why):LE (jv b bd why s).2.err:=by
 unfold jv
 split
 ·exact YH h hw
 ·exact h
theorem zgk{b:Bool}{s:Ip}(h:LE s.err):LE (jP b s).2.err:=by
 unfold jP
 split
 ·split
  ·exact QY _
  ·exact LE.lit (by simp)
 ·exact h
theorem zgl{r n:Int}{s:Ip}(h:LE s.err):LE (jS r n s).2.err:=by
 unfold jS
 split
 ·exact LE.lit (by simp)
 ·exact YH h (LE.lit (by simp))
theorem zaW{b:Bool}{r n:Int}{s:Ip}(h:LE s.err):LE (jD b r n s).2.err:=by
 unfold jD
 split
 ·exact zgl h
 ·exact h
theorem zgm{b:Bool}{x y:Int}{s:Ip}(h:LE s.err):LE (J1 b x y s).err:=by
 unfold J1
 split
 ·exact LE.lit (by simp)
 ·exact h
theorem YY{most nt why:Int}{s:Ip}(h:LE s.err)(hw:LE why):LE (zm most nt why s).2.err:=by
 unfold zm
 by_cases h0:s.err≠0
 ·rw [if_pos h0];exact h
 rw [if_neg h0]
 cases s.rest with
 |nil=>exact LE.lit (by simp)
 |cons c r=>
  dsimp only
  split
  ·exact hw
  ·exact LE.lit (by simp)
theorem Jm{e:Int}{s:Ip}(h:LE s.err)(he:LE e):LE (zA e s).err:=by
 unfold zA
 split
 ·exact h
 ·exact he
theorem zaX{op regs n:Int}{s:Ip}(h:LE s.err):LE (yO op regs n s).2.err:=by
 have hz:LE (zE op regs n s).err:=zgm (zaW (zaW (zgk (ZX (ZX (ZX h (LE.lit (by simp))) (LE.lit (by simp))) (LE.lit (by simp))))))
 unfold yO
 split<;>exact hz
theorem zaY{r n:Int}{s:Ip}(h:LE s.err):LE (zt r n s).2.err:=by
 have h1:LE (zm 18 2 8 s).2.err:=YY h (LE.lit (by simp))
 unfold zt
 split
 ·exact h1
 ·exact zaX h1
theorem zdY{r:Int}{s:Ip}(h:LE s.err):LE (zI r s).2.err:=by
 have h1:LE (zm 17 0 8 s).2.err:=YY h (LE.lit (by simp))
 unfold zI
 split
 ·exact h1
 ·exact zaX h1
theorem zaZ{r n:Int}{s:Ip}(h:LE s.err):LE (yL r n s).2.err:=by
 have h1:LE (teE r n s).2.err:=ZX (ZX (ZX (YY h (LE.lit (by simp))) (LE.lit (by simp))) (LE.lit (by simp))) (LE.lit (by simp))
 unfold yL
 split<;>exact h1
theorem JL{s:Ip}(h:LE s.err):LE (zR s).2.err:=YH h (LE.lit (by simp))
theorem ZY{k:Int}{s:Ip}(h:LE s.err):LE (yu k s).2.err:=by
 unfold yu
 split
 ·exact Jm (JL h) (LE.lit (by simp))
 ·exact JL h
theorem za0{s:Ip}(h:LE s.err):LE (yl s).2.err:=by
 unfold yl
 split
 ·exact Jm (ZY h) (LE.lit (by simp))
 ·exact ZY h
theorem za1{tot:Int}{s:Ip}(h:LE s.err):LE (zN tot s).2.err:=by
 unfold zN
 split
 ·exact Jm (ZY h) (LE.lit (by simp))
 ·exact ZY h
theorem zdb{r:Int}:∀(k:Nat) (s:Ip),LE s.err→LE (yR r k s).2.err
 |0,s,h=>h
 |k+1,s,h=>by
  by_cases h0:s.err=0
  ·rw [show yR r (k+1) s=((zI r s).1.ins::(yR r k (zI r s).2).1,(yR r k (zI r s).2).2) from if_neg fun hh=>hh h0]
   exact zdb k _ (zdY h)
  ·rw [jU h0];exact h
theorem zfb{r n:Int}:∀(k run:Nat) (s:Ip),LE s.err→LE (miE r n k run s).2.err
 |0,run,s,h=>h
 |k+1,run,s,h=>by
  by_cases h0:s.err=0
  ·rw [show miE r n (k+1) run s=((zt r n s).1::(miE r n k (ext run (zt r n s).1) (mvE run (zt r n s).1 (zt r n s).2)).1,(miE r n k (ext run (zt r n s).1) (mvE run (zt r n s).1 (zt r n s).2)).2) from if_neg fun hh=>hh h0]
   refine zfb k _ _ ?_
   unfold mvE
   split
   ·exact Jm (zaY h) (LE.lit (by simp))
   ·exact zaY h
  ·rw [Jx h0];exact h
theorem za2{r n:Int}:∀(m:Nat) (tot:Int) (s:Ip),LE s.err→LE (zY r n m tot s).2.err
 |0,tot,s,h=>h
 |m+1,tot,s,h=>by
  by_cases h0:s.err=0
  ·rw [show zY r n (m+1) tot s=(⟨(yY r tot s).1,(yZ r n tot s).1⟩::(zY r n m (tot+yJ tot s) (yZ r n tot s).2).1,(zY r n m (tot+yJ tot s) (yZ r n tot s).2).2) from if_neg fun hh=>hh h0]
   exact za2 m _ _ (zaZ (zdb _ _ (za1 h)))
  ·rw [ja h0];exact h
theorem Qr{r sl n:Int}:∀(m:Nat) (tot:Int) (s:Ip),LE s.err→LE (zK r sl n m tot s).2.err
 |0,tot,s,h=>h
 |m+1,tot,s,h=>by
  by_cases h0:s.err=0
  ·rw [show zK r sl n (m+1) tot s=(⟨(ym r sl tot s).1,(yr r sl n tot s).1⟩::(zK r sl n m (tot+yJ tot s) (yr r sl n tot s).2).1,(zK r sl n m (tot+yJ tot s) (yr r sl n tot s).2).2) from if_neg fun hh=>hh h0]
   exact Qr m _ _ (zaZ (zfb _ _ _ (za1 h)))
  ·rw [yP h0];exact h
theorem zfc{s:Ip}(h:LE s.err):LE (zJ s).2.err:=by
 have h1:LE (fR' s).2.err:=JL (JL h)
 have h2:LE (fC s).err:=by
  unfold fC
  split
  ·exact Jm h1 (LE.lit (by simp))
  ·exact h1
 have h3:LE (fB s).2.err:=za2 _ _ _ (za0 h2)
 unfold zJ
 split<;>exact h3
theorem zdZ{s:Ip}(h:LE s.err):LE (zq s).2.err:=by
 have h1:LE (gS s).2.err:=JL (JL (JL h))
 have h2:LE (gC s).err:=by
  unfold gC
  split
  ·exact Jm h1 (LE.lit (by simp))
  ·exact h1
 have h3:LE (gB s).2.err:=Qr _ _ _ (za0 h2)
 unfold zq
 split<;>exact h3
theorem zfd{vr r n:Int}{f:Bool}{q:Pr}{s:Ip}(h:LE s.err):LE (zw vr r n f q s).2.err:=by
 have h1:LE (jQ vr q s).2.err:=YH (YH h (LE.lit (by simp))) (LE.lit (by simp))
 unfold zw
 dsimp only
 split
 ·exact Jm h1 (LE.lit (by simp))
 ·exact h1
theorem zdc{vr r n:Int}:∀(k:Nat) (f:Bool) (q:Pr) (s:Ip),LE s.err→LE (jj vr r n k f q s).2.err
 |0,f,q,s,h=>h
 |k+1,f,q,s,h=>by
  by_cases h0:s.err=0
  ·rw [show jj vr r n (k+1) f q s=((zw vr r n f q s).1::(jj vr r n k false (zw vr r n f q s).1 (zw vr r n f q s).2).1,(jj vr r n k false (zw vr r n f q s).1 (zw vr r n f q s).2).2) from if_neg fun hh=>hh h0]
   exact zdc k _ _ _ (zfd h)
  ·rw [jn h0];exact h
theorem zhc{vr r n tot:Int}{s:Ip}(h:LE s.err):LE (ivE vr r n tot s).2.err:=by
 refine zdc _ _ _ _ ?_
 unfold icE
 dsimp only
 split
 ·exact Jm (ZY h) (LE.lit (by simp))
 ·exact ZY h
theorem zdd{vr r n:Int}:∀(m:Nat) (tot:Int) (s:Ip),LE s.err→LE (yU vr r n m tot s).2.err
 |0,tot,s,h=>h
 |m+1,tot,s,h=>by
  by_cases h0:s.err=0
  ·rw [show yU vr r n (m+1) tot s=((ivE vr r n tot s).1::(yU vr r n m (tot+(icE tot s).1) (ivE vr r n tot s).2).1,(yU vr r n m (tot+(icE tot s).1) (ivE vr r n tot s).2).2) from if_neg fun hh=>hh h0]
   exact zdd m _ _ (zhc h)
  ·rw [JJ h0];exact h
theorem zd0{vr r n:Int}{m:Nat}{s:Ip}(h:LE s.err):LE (yA vr r n m s).2.err:=by
 have h1:=zdd (vr:=vr) (r:=r) (n:=n) m 0 s h
 unfold yA
 split<;>exact h1
theorem QZ{t:Ip}(h:LE t.err):LE (yC t):=by
 unfold yC
 split
 ·exact LE.lit (by simp)
 ·exact h
theorem zgn(id:Nat)(l:List Nat):LE ((yS id l).1:Int):=by
 cases l with
 |nil=>exact LE.lit (by simp [yS])
 |cons x t=>
  rw [yS]
  by_cases h0:x≠id
  ·rw [if_pos h0];exact LE.lit (by simp)
  rw [if_neg h0]
  by_cases h1:(zj t).2.2≠0
  ·rw [if_pos h1];exact QY _
  rw [if_neg h1]
  by_cases h2:t.length<(zj t).2.1+(zj t).1
  ·rw [if_pos h2];exact LE.lit (by simp)
  ·rw [if_neg h2];exact LE.lit (by simp)
theorem Qs:∀(ids l:List Nat),LE ((zL ids l).1:Int)
 | [],l=>LE.lit (by simp [zL])
 |id::ids,l=>by
  rw [zL]
  split
  ·exact zgn _ _
  ·exact Qs ids _
theorem zd1(ids l:List Nat):LE (yg ids l:Int):=by
 unfold yg
 split
 ·exact Qs _ _
 ·split
  ·exact LE.lit (by simp)
  ·exact LE.lit (by simp)
theorem zgo(b:List Nat):LE (yD b).2∧((yD b).2≠0→(yD b).1=zCt):=by
 have z:LE (0:Int):=LE.lit (by simp)
 have h3:∀f g p,LE (Yh f g p).2∧((Yh f g p).2≠0→(Yh f g p).1=zCt):=fun f g p=>by
  unfold Yh
  split
  ·exact ⟨QZ (zd0 z),fun _=>rfl⟩
  ·exact ⟨z,fun h=>absurd rfl h⟩
 have h2:∀f p q,LE (Ul f p q).2∧((Ul f p q).2≠0→(Ul f p q).1=zCt):=fun f p q=>by
  unfold Ul
  split
  ·exact ⟨QZ (zdZ z),fun _=>rfl⟩
  ·split
   ·exact ⟨LE.lit (by simp),fun _=>rfl⟩
   ·exact h3 _ _ _
 have h1:∀o p q,LE (Yi o p q).2∧((Yi o p q).2≠0→(Yi o p q).1=zCt):=fun o p q=>by
  unfold Yi
  split
  ·exact ⟨QZ (zfc z),fun _=>rfl⟩
  ·exact h2 _ _ _
 have h0:∀r,LE (JX r).2∧((JX r).2≠0→(JX r).1=zCt):=fun r=>by
  unfold JX
  split
  ·exact ⟨zd1 _ _,fun _=>rfl⟩
  ·exact h1 _ _ _
 unfold yD
 split
 ·exact ⟨LE.lit (by simp),fun _=>rfl⟩
 split
 ·exact ⟨LE.lit (by simp),fun _=>rfl⟩
 split
 ·exact ⟨LE.lit (by simp),fun _=>rfl⟩
 split
 ·exact ⟨LE.lit (by simp),fun _=>rfl⟩
 exact h0 _
theorem zS{P:Program}{fn:Func}{t p:Tmp}{ty:TypeId}(h:fn.results= #[.cell p ty,.tmp t])(tmps:Array Value)(w:World)(g:Nat)(T:TypeId)(cs:Array Value)(fr:Nat × Nat)(d:TypeDesc){v:Value}(hv:tmps.getD t undef=v)
  (hp:tmps.getD p undef= .pointer (some ⟨g,0,none⟩)) (hg:w.heap[g]?=some (.cells cs T fr))
  (hu:P.underlying ty=some d) (hd:(match d with| .struct _| .array _ _=>true|_=>false)=true) (hi:(P.info? ty).map (·.size)=some cs.size):
  (results fn tmps).run P w= .ok (.tuple #[.agg cs,v]) w:=by
 subst hv
 have hp':tmps[p]?.getD undef= .pointer (some ⟨g,0,none⟩):=by simpa using hp
 simp [results,h,hp',asAddr,run_loadVar_row w g T ty cs fr d hg hu hd hi,Result.andThen]
def put8c(W:World)(p:Nat)(a0 a1 a2 a3 a4 a5 a6 a7:Value):World:=
 ((((((((W.setCell ⟨p,0,none⟩ a0).setCell ⟨p,1,none⟩ a1).setCell ⟨p,2,none⟩ a2).setCell ⟨p,3,none⟩ a3).setCell ⟨p,4,none⟩ a4).setCell ⟨p,5,none⟩ a5).setCell ⟨p,6,none⟩ a6).setCell ⟨p,7,none⟩ a7)
theorem Row.put8c{W:World}{p:Nat}{T:TypeId}{z0 z1 z2 z3 z4 z5 z6 z7:Value}(h:Row W p T #[z0,z1,z2,z3,z4,z5,z6,z7])(a0 a1 a2 a3 a4 a5 a6 a7:Value):Row (put8c W p a0 a1 a2 a3 a4 a5 a6 a7) p T #[a0,a1,a2,a3,a4,a5,a6,a7]:=by
 unfold Proofs.YtnifhpbgmjcndaaGreat.put8c
 have q0:Row _ p T #[a0,z1,z2,z3,z4,z5,z6,z7]:=h.put 0 a0
 have q1:Row _ p T #[a0,a1,z2,z3,z4,z5,z6,z7]:=q0.put 1 a1
 have q2:Row _ p T #[a0,a1,a2,z3,z4,z5,z6,z7]:=q1.put 2 a2
 have q3:Row _ p T #[a0,a1,a2,a3,z4,z5,z6,z7]:=q2.put 3 a3
 have q4:Row _ p T #[a0,a1,a2,a3,a4,z5,z6,z7]:=q3.put 4 a4
 have q5:Row _ p T #[a0,a1,a2,a3,a4,a5,z6,z7]:=q4.put 5 a5
 have q6:Row _ p T #[a0,a1,a2,a3,a4,a5,a6,z7]:=q5.put 6 a6
 exact q6.put 7 a7
theorem Q0(W:World)(p:Nat)(a0 a1 a2 a3 a4 a5 a6 a7:Value):Mods (Is p) W (put8c W p a0 a1 a2 a3 a4 a5 a6 a7):=
 ((((((((Mods.refl _ W).put 0 a0).put 1 a1).put 2 a2).put 3 a3).put 4 a4).put 5 a5).put 6 a6).put 7 a7
def zhd(w:World)(c:Ct)(e:Ending)(w':World):Prop:=
 Below w.heap.size w w'∧((zV c=0∧∃A k,e= .returned (.tuple #[.slice A (zP c).length k,.int .i64 0])∧w'.ownsRow w.heap.size 5 1 (.slice A (zP c).length k) (zP c).length (bts (zP c)))∨
  (zV c≠0∧e= .returned (.tuple #[.slice none 0 0,.int .i64 (zV c)])))
def DecP(w:World)(r:Ct × Int)(e:Ending)(w':World):Prop:=
 ∃Av1 cv1 vs1 Av2 cv2 vs2 Av3 cv3 vs3,e= .returned (.tuple #[.agg #[.int .i64 r.1.sa,.int .i64 r.1.sr,.slice Av1 r.1.bs.length cv1,.int .i64 r.1.ta,.int .i64 r.1.tr,.int .i64 r.1.ts,.slice Av2 r.1.ms.length cv2,.slice Av3 r.1.inv.length cv3],.int .i64 r.2])∧
  NestV Jk w' w.heap.size (.slice Av1 r.1.bs.length cv1) vs1 r.1.bs∧NestV jV w' w.heap.size (.slice Av2 r.1.ms.length cv2) vs2 r.1.ms∧NestV Jn w' w.heap.size (.slice Av3 r.1.inv.length cv3) vs3 r.1.inv∧Below w.heap.size w w'
theorem DecP.bad{w W:World}(hb:Below w.heap.size w W)(x:Int):DecP w (zCt,x) (.returned (.tuple #[.agg #[.int .i64 0,.int .i64 0,.slice none 0 0,.int .i64 0,.int .i64 0,.int .i64 0,.slice none 0 0,.slice none 0 0],.int .i64 x])) W:=
 ⟨none,0, [],none,0, [],none,0, [],rfl,NestV.nil _ _,NestV.nil _ _,NestV.nil _ _,hb⟩
structure RDC(w:World)(A:Option Addr)(l:List Nat)(W:World):Prop where
 blw:Below w.heap.size w W
 z:Row W w.heap.size 31 #[.int .i64 0,.int .i64 0,.slice none 0 0,.int .i64 0,.int .i64 0,.int .i64 0,.slice none 0 0,.slice none 0 0]
 y:Row W (w.heap.size+1) 31 #[.int .i64 0,.int .i64 0,.slice none 0 0,.int .i64 0,.int .i64 0,.int .i64 0,.slice none 0 0,.slice none 0 0]
 see:Sees W w.heap.size A (bts l)
theorem RDC.next{w W W':World}{A:Option Addr}{l:List Nat}(h:RDC w A l W)(hb:Below W.heap.size W W'):RDC w A l W':=
 ⟨h.blw.trans (hb.mono h.blw.size),h.z.below hb h.z.lt,h.y.below hb h.y.lt,h.see.below (hb.mono h.blw.size)⟩
theorem RDC.start{w:World}{A:Option Addr}{l:List Nat}(h:Sees w w.heap.size A (bts l)):RDC w A l ((w.alloc (.cells #[.int .i64 0,.int .i64 0,.slice none 0 0,.int .i64 0,.int .i64 0,.int .i64 0,.slice none 0 0,.slice none 0 0] 31)).alloc (.cells #[.int .i64 0,.int .i64 0,.slice none 0 0,.int .i64 0,.int .i64 0,.int .i64 0,.slice none 0 0,.slice none 0 0] 31)):=by
 have hb:Below w.heap.size w ((w.alloc (.cells #[.int .i64 0,.int .i64 0,.slice none 0 0,.int .i64 0,.int .i64 0,.int .i64 0,.slice none 0 0,.slice none 0 0] 31)).alloc (.cells #[.int .i64 0,.int .i64 0,.slice none 0 0,.int .i64 0,.int .i64 0,.int .i64 0,.slice none 0 0,.slice none 0 0] 31)):=((ld w.heap.size w).alloc (la _) _).alloc (by simp) _
 have hy:=Row.new (w.alloc (.cells #[.int .i64 0,.int .i64 0,.slice none 0 0,.int .i64 0,.int .i64 0,.int .i64 0,.slice none 0 0,.slice none 0 0] 31)) 31 #[.int .i64 0,.int .i64 0,.slice none 0 0,.int .i64 0,.int .i64 0,.int .i64 0,.slice none 0 0,.slice none 0 0]
 rw [show (w.alloc (.cells #[.int .i64 0,.int .i64 0,.slice none 0 0,.int .i64 0,.int .i64 0,.int .i64 0,.slice none 0 0,.slice none 0 0] 31)).heap.size=w.heap.size+1 by simp] at hy
 exact ⟨hb,(Row.new w _ _).alloc _,hy,h.below hb⟩
theorem RDC.put{w W:World}{A:Option Addr}{l:List Nat}(h:RDC w A l W)(a0 a1 a2 a3 a4 a5 a6 a7:Value):Row (put8c W w.heap.size a0 a1 a2 a3 a4 a5 a6 a7) w.heap.size 31 #[a0,a1,a2,a3,a4,a5,a6,a7]∧Below w.heap.size w (put8c W w.heap.size a0 a1 a2 a3 a4 a5 a6 a7):=
 ⟨Row.put8c h.z _ _ _ _ _ _ _ _,h.blw.trans ((Q0 W w.heap.size a0 a1 a2 a3 a4 a5 a6 a7).below h.blw.size fun k hk=>by unfold Is at hk;omega)⟩
end Go.Proofs.YtnifhpbgmjcndaaGreat
