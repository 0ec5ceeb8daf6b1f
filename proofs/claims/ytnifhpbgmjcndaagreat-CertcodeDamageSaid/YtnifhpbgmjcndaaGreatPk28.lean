import Derived.Test.YtnifhpbgmjcndaaGreatPk19
import Derived.Test.YtnifhpbgmjcndaaGreatPk21
import Derived.Test.YtnifhpbgmjcndaaGreatCkVal
set_option linter.unusedVariables false
set_option linter.unusedSimpArgs false
namespace Go.Proofs.YtnifhpbgmjcndaaGreat
open Go.RowKit
def Ct.f(c:Ct):Fd:=⟨c.sa,c.sr,c.bs⟩
def Ct.g(c:Ct):Gd:=⟨c.ta,c.tr,c.ts,c.ms⟩
def zCt:Ct:=⟨0,0, [],0,0,0, [], []⟩
def zo:List Nat:= [1,2,3]
def zh(c:Ct):List (List Nat):= [zI c.f,yf c.g,zl c.inv]
def zv(c:Ct):List Nat:=82::67::1::zq zo (zh c)
def yK(t:Ip):Int:=if t.err=0∧0<t.rest.length then 2 else t.err
def UU(f:Fd)(g:Gd)(p:List Nat):Ct × Int:=
 if yK (yG f.regs g.regs g.slots f.bs.length ⟨p,0⟩).2≠0 then (zCt,yK (yG f.regs g.regs g.slots f.bs.length ⟨p,0⟩).2)
 else (⟨f.args,f.regs,f.bs,g.args,g.regs,g.slots,g.ms,(yG f.regs g.regs g.slots f.bs.length ⟨p,0⟩).1⟩,0)
def Qd(f:Fd)(p q:List Nat):Ct × Int:=
 if yK (zF ⟨p,0⟩).2≠0 then (zCt,yK (zF ⟨p,0⟩).2)
 else if f.bs.length≠(zF ⟨p,0⟩).1.ms.length∨f.args≠(zF ⟨p,0⟩).1.args then (zCt,14) else UU f (zF ⟨p,0⟩).1 q
def YF(o p q:List Nat):Ct × Int:=
 if yK (yc ⟨o,0⟩).2≠0 then (zCt,yK (yc ⟨o,0⟩).2) else Qd (yc ⟨o,0⟩).1 p q
def JY(r:List Nat):Ct × Int:=
 if yj zo r≠0 then (zCt,yj zo r) else YF ((zM zo r).2.1.getD 0 []) ((zM zo r).2.1.getD 1 []) ((zM zo r).2.1.getD 2 [])
def jw(b:List Nat):Ct × Int:=
 if b.length<2 then (zCt,1) else if b.getD 0 0≠82∨b.getD 1 0≠67 then (zCt,4) else if b.length<3 then (zCt,1) else if b.getD 2 0≠1 then (zCt,5) else JY (b.drop 3)
theorem Jy{t:Ip}(h:yK t=0):t.err=0∧t.rest= []:=by
 unfold yK at h
 by_cases h9:t.err=0∧0<t.rest.length
 ·rw [if_pos h9] at h;cases h
 ·rw [if_neg h9] at h
  exact ⟨h,List.length_eq_zero_iff.1 (by omega)⟩
theorem YZ:yK ⟨[],0⟩=0:=rfl
structure CtI(c:Ct):Prop where
 s:∀b∈c.bs,∀x∈b.code,InI x.imm
 t:∀b∈c.ms,∀x∈b.code,InI x.imm
theorem Jj{c:Ct}(h:zD c=0):eF c.sa c.sr c.bs=0∧eMF c.ta c.tr c.ts c.ms=0∧c.bs.length=c.ms.length∧c.sa=c.ta∧zV c.inv c.bs.length c.sr c.tr c.ts=0:=by
 unfold zD at h
 by_cases h1:eF c.sa c.sr c.bs≠0
 ·rw [if_pos h1] at h;exact absurd h h1
 ·rw [if_neg h1] at h
  by_cases h2:eMF c.ta c.tr c.ts c.ms≠0
  ·rw [if_pos h2] at h;exact absurd h h2
  ·rw [if_neg h2] at h
   by_cases h3:c.bs.length≠c.ms.length∨c.sa≠c.ta
   ·rw [if_pos h3] at h;cases h
   ·rw [if_neg h3] at h
    exact ⟨by omega,by omega,by omega,by omega,h⟩
theorem zff{c:Ct}(h1:eF c.sa c.sr c.bs=0)(h2:eMF c.ta c.tr c.ts c.ms=0)(h3:c.bs.length=c.ms.length)(h4:c.sa=c.ta)(h5:zV c.inv c.bs.length c.sr c.tr c.ts=0):zD c=0:=by
 unfold zD
 rw [if_neg (by omega),if_neg (by omega),if_neg (by omega)]
 exact h5
theorem zgl{o p q:List Nat}(ho:Byt o)(hp:Byt p)(hq:Byt q)(h:(YF o p q).2=0):zD (YF o p q).1=0∧CtI (YF o p q).1∧ [o,p,q]=zh (YF o p q).1:=by
 unfold YF at*
 by_cases h1:yK (yc ⟨o,0⟩).2≠0
 ·rw [if_pos h1] at h;exact absurd h h1
 rw [if_neg h1] at h⊢
 obtain ⟨a1,a2⟩:=Jy (t:=(yc ⟨o,0⟩).2) (by omega)
 obtain ⟨_,f1,f2,f3,_,_,_⟩:=zaL (s:=⟨o,0⟩) ho a1
 rw [a2,List.append_nil] at f3
 generalize (yc ⟨o,0⟩).1=f at*
 unfold Qd at*
 by_cases h2:yK (zF ⟨p,0⟩).2≠0
 ·rw [if_pos h2] at h;exact absurd h h2
 rw [if_neg h2] at h⊢
 obtain ⟨b1,b2⟩:=Jy (t:=(zF ⟨p,0⟩).2) (by omega)
 obtain ⟨_,g1,g2,g3,_,_,_⟩:=Qq (s:=⟨p,0⟩) hp b1
 rw [b2,List.append_nil] at g3
 generalize (zF ⟨p,0⟩).1=g at*
 by_cases h3:f.bs.length≠g.ms.length∨f.args≠g.args
 ·rw [if_pos h3] at h;cases h
 rw [if_neg h3] at h⊢
 unfold UU at*
 by_cases h4:yK (yG f.regs g.regs g.slots f.bs.length ⟨q,0⟩).2≠0
 ·rw [if_pos h4] at h;exact absurd h h4
 rw [if_neg h4] at h⊢
 obtain ⟨c1,c2⟩:=Jy (t:=(yG f.regs g.regs g.slots f.bs.length ⟨q,0⟩).2) (by omega)
 obtain ⟨_,w1,w2⟩:=zd1 (s:=⟨q,0⟩) hq c1
 rw [c2,List.append_nil] at w2
 generalize (yG f.regs g.regs g.slots f.bs.length ⟨q,0⟩).1=w at*
 refine ⟨zff f1 g1 (by dsimp only;omega) (by dsimp only;omega) w1,⟨f2,g2⟩,?_⟩
 show [o,p,q]= [zI f,yf g,zl w]
 rw [show o=zI f from f3,show p=yf g from g3,show q=zl w from w2]
theorem zgU{α:Type}{l:List α}(h:l.length=3)(d:α):l= [l.getD 0 d,l.getD 1 d,l.getD 2 d]:=by
 match l,h with
 | [a,b,c],_=>rfl
theorem Y0:∀(ids:List Nat) (xs:List (List Nat)),ids.length=xs.length→∀x∈xs,∀c∈x,c∈zq ids xs
 |id::ids,y::xs,h,x,hx,c,hc=>by
  rw [zq]
  rcases List.mem_cons.1 hx with rfl|hx
  ·exact List.mem_append_left _ (by unfold jj;exact List.mem_cons_of_mem _ (List.mem_append_right _ hc))
  ·exact List.mem_append_right _ (Y0 ids xs (by simpa using h) x hx c hc)
 | [],_::_,h,_,_,_,_=>by simp at h
 |_, [],_,_,hx,_,_=>by cases hx
theorem zhJ{b:List Nat}(h:3≤b.length):b=b.getD 0 0::b.getD 1 0::b.getD 2 0::b.drop 3:=by
 match b,h with
 |x::y::z::r,_=>rfl
theorem zgm{r:List Nat}(hr:Byt r)(h:(JY r).2=0):zD (JY r).1=0∧CtI (JY r).1∧r=zq zo (zh (JY r).1):=by
 unfold JY at*
 by_cases h3:yj zo r≠0
 ·rw [if_pos h3] at h
  have:((yj zo r:Nat):Int)=0:=h
  omega
 rw [if_neg h3] at h⊢
 obtain ⟨s1,s2⟩:=Ub (ids:=zo) (l:=r) hr (by omega)
 have hl3:=zgU s2 []
 generalize (zM zo r).2.1=ps at*
 have hbp:∀x∈ps,Byt x:=fun x hx c hc=>hr c (by rw [←s1];exact Y0 zo ps s2.symm x hx c hc)
 obtain ⟨e1,e2,e3⟩:=zgl (o:=ps.getD 0 []) (p:=ps.getD 1 []) (q:=ps.getD 2 []) (hbp _ (by rw [hl3];simp)) (hbp _ (by rw [hl3];simp)) (hbp _ (by rw [hl3];simp)) h
 exact ⟨e1,e2,by rw [←e3,←hl3,s1]⟩
theorem Us{b:List Nat}(hb:Byt b)(h:(jw b).2=0):zD (jw b).1=0∧CtI (jw b).1∧b=zv (jw b).1:=by
 unfold jw at*
 by_cases h0:b.length<2
 ·rw [if_pos h0] at h;cases h
 rw [if_neg h0] at h⊢
 by_cases h1:b.getD 0 0≠82∨b.getD 1 0≠67
 ·rw [if_pos h1] at h;cases h
 rw [if_neg h1] at h⊢
 by_cases h2:b.length<3
 ·rw [if_pos h2] at h;cases h
 rw [if_neg h2] at h⊢
 by_cases h3:b.getD 2 0≠1
 ·rw [if_pos h3] at h;cases h
 rw [if_neg h3] at h⊢
 obtain ⟨e1,e2,e3⟩:=zgm (r:=b.drop 3) (fun c hc=>hb c (List.mem_of_mem_drop hc)) h
 refine ⟨e1,e2,?_⟩
 unfold zv
 rw [←e3]
 have:=zhJ (b:=b) (by omega)
 rw [show b.getD 0 0=82 by omega,show b.getD 1 0=67 by omega,show b.getD 2 0=1 by omega] at this
 exact this
structure CtL(c:Ct):Prop where
 f:(zI c.f).length<18446744073709551616
 g:(yf c.g).length<18446744073709551616
 w:(zl c.inv).length<18446744073709551616
theorem CtL.all{c:Ct}(h:CtL c):∀x∈zh c,x.length<18446744073709551616:=by
 intro x hx
 unfold zh at hx
 rcases List.mem_cons.1 hx with rfl|hx
 ·exact h.f
 rcases List.mem_cons.1 hx with rfl|hx
 ·exact h.g
 rcases List.mem_cons.1 hx with rfl|hx
 ·exact h.w
 ·cases hx
structure CtR(c:Ct):Prop where
 sr:c.sr≤1000000000
 tr:c.tr≤1000000000
 ts:c.ts≤1000000000
 np:jd c.inv≤1048576
theorem zfg{c:Ct}(h:zD c=0)(hi:CtI c)(hr:CtR c):YF (zI c.f) (yf c.g) (zl c.inv)=(c,0):=by
 obtain ⟨v1,v2,v3,v4,v5⟩:=Jj h
 have e1:=zdZ (f:=c.f) v1 hi.s []
 have e2:=zb5 (g:=c.g) v2 hi.t []
 rw [List.append_nil] at e1 e2
 have v6:c.bs.length=c.inv.length:=by
  unfold zV at v5
  by_cases h9:(c.inv.length:Int)≠(c.bs.length:Int)
  ·rw [if_pos h9] at v5;cases v5
  ·omega
 have v7:zV c.inv c.inv.length c.sr c.tr c.ts=0:=by rw [v6] at v5;exact v5
 have e3:=zch hr.sr hr.tr hr.ts v7 hr.np []
 rw [List.append_nil,←v6] at e3
 unfold YF
 rw [e1,if_neg (by rw [YZ];decide)]
 unfold Qd
 rw [e2,if_neg (by rw [YZ];decide),if_neg (by show¬(c.bs.length≠c.ms.length∨c.sa≠c.ta);omega)]
 unfold UU
 rw [show yG c.f.regs c.g.regs c.g.slots c.f.bs.length ⟨zl c.inv,0⟩=(c.inv,⟨[],0⟩) from e3,if_neg (by rw [YZ];decide)]
 rfl
theorem UV{c:Ct}(h:zD c=0)(hi:CtI c)(hr:CtR c)(hl:CtL c):jw (zv c)=(c,0):=by
 have hlen:3≤(zv c).length:=by unfold zv;simp
 unfold jw
 rw [if_neg (by omega),if_neg (by show¬((82:Nat)≠82∨(67:Nat)≠67);decide),if_neg (by omega),if_neg (by show¬((1:Nat)≠1);decide)]
 show JY (zq zo (zh c))=_
 unfold JY
 rw [zaE zo (zh c) rfl hl.all,if_neg (by decide),UJ zo (zh c) rfl hl.all]
 exact zfg h hi hr
theorem zfh{c:Ct}(hl:CtL c){j:Nat}(hj:j<(zv c).length):jw ((zv c).take j)=(zCt,1):=by
 have hlen:(zv c).length=(zq zo (zh c)).length+3:=by unfold zv;simp
 have ht:((zv c).take j).length=j:=by rw [List.length_take];omega
 match j,hj with
 |0,_=>rfl
 |1,_=>rfl
 |2,_=>rfl
 |j+3,hj=>
  have e:(zv c).take (j+3)=82::67::1::(zq zo (zh c)).take j:=rfl
  rw [e]
  unfold jw
  rw [if_neg (by simp),if_neg (by show¬((82:Nat)≠82∨(67:Nat)≠67);decide),if_neg (by simp),if_neg (by show¬((1:Nat)≠1);decide)]
  show JY ((zq zo (zh c)).take j)=_
  unfold JY
  rw [zb0 zo (zh c) j rfl hl.all (by omega),if_pos (by decide)]
  rfl
theorem zd3{c:Ct}(hl:CtL c)(y:Nat):jw (zv c++ [y])=(zCt,2):=by
 have e:zv c++ [y]=82::67::1::(zq zo (zh c)++ [y]):=rfl
 rw [e]
 unfold jw
 rw [if_neg (by simp),if_neg (by show¬((82:Nat)≠82∨(67:Nat)≠67);decide),if_neg (by simp),if_neg (by show¬((1:Nat)≠1);decide)]
 show JY (zq zo (zh c)++ [y])=_
 unfold JY
 rw [zaF zo (zh c) y rfl hl.all,if_pos (by decide)]
 rfl
theorem zfi{c d:Ct}(h:zD c=0)(hi:CtI c)(hr:CtR c)(hl:CtL c){x:List Nat}(hx:Byt x)(hd:jw x=(d,0))(hc:x=zv c):d=c:=by
 rw [hc,UV h hi hr hl] at hd
 injection hd with e _
 exact e.symm
theorem zcj{c d:Ct}{x:List Nat}(hx:Byt x)(hd:jw x=(d,0))(hc:x≠zv c):d≠c:=fun e=>by
 have:=(Us hx (by rw [hd])).2.2
 rw [hd,e] at this
 exact hc this
def LE(x:Int):Prop:=0≤x∧x≤16∧x≠12∧x≠13
theorem LE.lit{x:Int}(h:x=0∨x=1∨x=2∨x=3∨x=4∨x=5∨x=6∨x=7∨x=8∨x=9∨x=10∨x=11∨x=14∨x=15∨x=16):LE x:=by unfold LE;omega
theorem Q3(l:List Nat):LE ((zp l).2.2:Int):=by
 rcases UB l with ⟨x,n,h⟩|h|h<;>rw [h]<;>exact LE.lit (by simp)
theorem YG{bd why:Int}{s:Ip}(h:LE s.err)(hw:LE why):LE (jh bd why s).2.err:=by
 unfold jh
 by_cases h0:s.err≠0
 ·rw [if_pos h0];exact h
 rw [if_neg h0]
 by_cases h1:(zp s.rest).2.2≠0
 ·rw [if_pos h1];exact Q3 _
 rw [if_neg h1]
 by_cases h2:bd≤((zp s.rest).1:Int)
 ·rw [if_pos h2];exact hw
 ·rw [if_neg h2];exact LE.lit (by simp)
theorem ZY{b:Bool}{bd why:Int}{s:Ip}(h:LE s.err)(hw:LE why):LE (jR b bd why s).2.err:=by
 unfold jR
 split
 ·exact YG h hw
 ·exact h
theorem zgn{b:Bool}{s:Ip}(h:LE s.err):LE (jZ b s).2.err:=by
 unfold jZ
 split
 ·split
  ·exact Q3 _
  ·exact LE.lit (by simp)
 ·exact h
theorem zgo{r n:Int}{s:Ip}(h:LE s.err):LE (Jr r n s).2.err:=by
 unfold Jr
 split
 ·exact LE.lit (by simp)
 ·exact YG h (LE.lit (by simp))
theorem za0{b:Bool}{r n:Int}{s:Ip}(h:LE s.err):LE (jL b r n s).2.err:=by
 unfold jL
 split
 ·exact zgo h
 ·exact h
theorem zgp{b:Bool}{x y:Int}{s:Ip}(h:LE s.err):LE (Zf b x y s).err:=by
 unfold Zf
 split
 ·exact LE.lit (by simp)
 ·exact h
theorem Y1{most nt why:Int}{s:Ip}(h:LE s.err)(hw:LE why):LE (zu most nt why s).2.err:=by
 unfold zu
 by_cases h0:s.err≠0
 ·rw [if_pos h0];exact h
 rw [if_neg h0]
 cases s.rest with
 |nil=>exact LE.lit (by simp)
 |cons c r=>
  dsimp only
  split
  ·exact hw
  ·exact LE.lit (by simp)
theorem Jk{e:Int}{s:Ip}(h:LE s.err)(he:LE e):LE (zO e s).err:=by
 unfold zO
 split
 ·exact h
 ·exact he
theorem za1{op regs n:Int}{s:Ip}(h:LE s.err):LE (jk op regs n s).2.err:=by
 have hz:LE (zE op regs n s).err:=zgp (za0 (za0 (zgn (ZY (ZY (ZY h (LE.lit (by simp))) (LE.lit (by simp))) (LE.lit (by simp))))))
 unfold jk
 split<;>exact hz
theorem za2{r n:Int}{s:Ip}(h:LE s.err):LE (zB r n s).2.err:=by
 have h1:LE (zu 18 2 8 s).2.err:=Y1 h (LE.lit (by simp))
 unfold zB
 split
 ·exact h1
 ·exact za1 h1
theorem zd4{r:Int}{s:Ip}(h:LE s.err):LE (zJ r s).2.err:=by
 have h1:LE (zu 17 0 8 s).2.err:=Y1 h (LE.lit (by simp))
 unfold zJ
 split
 ·exact h1
 ·exact za1 h1
theorem za3{r n:Int}{s:Ip}(h:LE s.err):LE (jc r n s).2.err:=by
 have h1:LE (teE r n s).2.err:=ZY (ZY (ZY (Y1 h (LE.lit (by simp))) (LE.lit (by simp))) (LE.lit (by simp))) (LE.lit (by simp))
 unfold jc
 split<;>exact h1
theorem JI{s:Ip}(h:LE s.err):LE (yo s).2.err:=YG h (LE.lit (by simp))
theorem ZZ{k:Int}{s:Ip}(h:LE s.err):LE (yC k s).2.err:=by
 unfold yC
 split
 ·exact Jk (JI h) (LE.lit (by simp))
 ·exact JI h
theorem za4{s:Ip}(h:LE s.err):LE (yv s).2.err:=by
 unfold yv
 split
 ·exact Jk (ZZ h) (LE.lit (by simp))
 ·exact ZZ h
theorem za5{tot:Int}{s:Ip}(h:LE s.err):LE (zW tot s).2.err:=by
 unfold zW
 split
 ·exact Jk (ZZ h) (LE.lit (by simp))
 ·exact ZZ h
theorem zdd{r:Int}:∀(k:Nat) (s:Ip),LE s.err→LE (je r k s).2.err
 |0,s,h=>h
 |k+1,s,h=>by
  by_cases h0:s.err=0
  ·rw [show je r (k+1) s=((zJ r s).1.ins::(je r k (zJ r s).2).1,(je r k (zJ r s).2).2) from if_neg fun hh=>hh h0]
   exact zdd k _ (zd4 h)
  ·rw [Jh h0];exact h
theorem zfj{r n:Int}:∀(k run:Nat) (s:Ip),LE s.err→LE (miE r n k run s).2.err
 |0,run,s,h=>h
 |k+1,run,s,h=>by
  by_cases h0:s.err=0
  ·rw [show miE r n (k+1) run s=((zB r n s).1::(miE r n k (ext run (zB r n s).1) (mvE run (zB r n s).1 (zB r n s).2)).1,(miE r n k (ext run (zB r n s).1) (mvE run (zB r n s).1 (zB r n s).2)).2) from if_neg fun hh=>hh h0]
   refine zfj k _ _ ?_
   unfold mvE
   split
   ·exact Jk (za2 h) (LE.lit (by simp))
   ·exact za2 h
  ·rw [JO h0];exact h
theorem za6{r n:Int}:∀(m:Nat) (tot:Int) (s:Ip),LE s.err→LE (yw r n m tot s).2.err
 |0,tot,s,h=>h
 |m+1,tot,s,h=>by
  by_cases h0:s.err=0
  ·rw [show yw r n (m+1) tot s=(⟨(jo r tot s).1,(jz r n tot s).1⟩::(yw r n m (tot+jt tot s) (jz r n tot s).2).1,(yw r n m (tot+jt tot s) (jz r n tot s).2).2) from if_neg fun hh=>hh h0]
   exact za6 m _ _ (za3 (zdd _ _ (za5 h)))
  ·rw [jf h0];exact h
theorem Qu{r sl n:Int}:∀(m:Nat) (tot:Int) (s:Ip),LE s.err→LE (zY r sl n m tot s).2.err
 |0,tot,s,h=>h
 |m+1,tot,s,h=>by
  by_cases h0:s.err=0
  ·rw [show zY r sl n (m+1) tot s=(⟨(yA r sl tot s).1,(yD r sl n tot s).1⟩::(zY r sl n m (tot+jt tot s) (yD r sl n tot s).2).1,(zY r sl n m (tot+jt tot s) (yD r sl n tot s).2).2) from if_neg fun hh=>hh h0]
   exact Qu m _ _ (za3 (zfj _ _ _ (za5 h)))
  ·rw [yL h0];exact h
theorem zfk{s:Ip}(h:LE s.err):LE (yc s).2.err:=by
 have h1:LE (fR' s).2.err:=JI (JI h)
 have h2:LE (fC s).err:=by
  unfold fC
  split
  ·exact Jk h1 (LE.lit (by simp))
  ·exact h1
 have h3:LE (fB s).2.err:=za6 _ _ _ (za4 h2)
 unfold yc
 split<;>exact h3
theorem zd5{s:Ip}(h:LE s.err):LE (zF s).2.err:=by
 have h1:LE (gS s).2.err:=JI (JI (JI h))
 have h2:LE (gC s).err:=by
  unfold gC
  split
  ·exact Jk h1 (LE.lit (by simp))
  ·exact h1
 have h3:LE (gB s).2.err:=Qu _ _ _ (za4 h2)
 unfold zF
 split<;>exact h3
theorem zfl{vr r n:Int}{f:Bool}{q:Pr}{s:Ip}(h:LE s.err):LE (zG vr r n f q s).2.err:=by
 have h1:LE (jU vr q s).2.err:=YG (YG h (LE.lit (by simp))) (LE.lit (by simp))
 unfold zG
 dsimp only
 split
 ·exact Jk h1 (LE.lit (by simp))
 ·exact h1
theorem zde{vr r n:Int}:∀(k:Nat) (f:Bool) (q:Pr) (s:Ip),LE s.err→LE (jD vr r n k f q s).2.err
 |0,f,q,s,h=>h
 |k+1,f,q,s,h=>by
  by_cases h0:s.err=0
  ·rw [show jD vr r n (k+1) f q s=((zG vr r n f q s).1::(jD vr r n k false (zG vr r n f q s).1 (zG vr r n f q s).2).1,(jD vr r n k false (zG vr r n f q s).1 (zG vr r n f q s).2).2) from if_neg fun hh=>hh h0]
   exact zde k _ _ _ (zfl h)
  ·rw [jE h0];exact h
theorem zhi{vr r n tot:Int}{s:Ip}(h:LE s.err):LE (ivE vr r n tot s).2.err:=by
 refine zde _ _ _ _ ?_
 unfold icE
 dsimp only
 split
 ·exact Jk (ZZ h) (LE.lit (by simp))
 ·exact ZZ h
theorem zdf{vr r n:Int}:∀(m:Nat) (tot:Int) (s:Ip),LE s.err→LE (jQ vr r n m tot s).2.err
 |0,tot,s,h=>h
 |m+1,tot,s,h=>by
  by_cases h0:s.err=0
  ·rw [show jQ vr r n (m+1) tot s=((ivE vr r n tot s).1::(jQ vr r n m (tot+(icE tot s).1) (ivE vr r n tot s).2).1,(jQ vr r n m (tot+(icE tot s).1) (ivE vr r n tot s).2).2) from if_neg fun hh=>hh h0]
   exact zdf m _ _ (zhi h)
  ·rw [J7 h0];exact h
theorem zd6{vr r n:Int}{m:Nat}{s:Ip}(h:LE s.err):LE (yG vr r n m s).2.err:=by
 have h1:=zdf (vr:=vr) (r:=r) (n:=n) m 0 s h
 unfold yG
 split<;>exact h1
theorem Q4{t:Ip}(h:LE t.err):LE (yK t):=by
 unfold yK
 split
 ·exact LE.lit (by simp)
 ·exact h
theorem zgq(id:Nat)(l:List Nat):LE ((yT id l).1:Int):=by
 cases l with
 |nil=>exact LE.lit (by simp [yT])
 |cons x t=>
  rw [yT]
  by_cases h0:x≠id
  ·rw [if_pos h0];exact LE.lit (by simp)
  rw [if_neg h0]
  by_cases h1:(zp t).2.2≠0
  ·rw [if_pos h1];exact Q3 _
  rw [if_neg h1]
  by_cases h2:t.length<(zp t).2.1+(zp t).1
  ·rw [if_pos h2];exact LE.lit (by simp)
  ·rw [if_neg h2];exact LE.lit (by simp)
theorem Qv:∀(ids l:List Nat),LE ((zM ids l).1:Int)
 | [],l=>LE.lit (by simp [zM])
 |id::ids,l=>by
  rw [zM]
  split
  ·exact zgq _ _
  ·exact Qv ids _
theorem zd7(ids l:List Nat):LE (yj ids l:Int):=by
 unfold yj
 split
 ·exact Qv _ _
 ·split
  ·exact LE.lit (by simp)
  ·exact LE.lit (by simp)
theorem zdg(b:List Nat):LE (jw b).2∧((jw b).2≠0→(jw b).1=zCt):=by
 have z:LE (0:Int):=LE.lit (by simp)
 have h3:∀f g p,LE (UU f g p).2∧((UU f g p).2≠0→(UU f g p).1=zCt):=fun f g p=>by
  unfold UU
  split
  ·exact ⟨Q4 (zd6 z),fun _=>rfl⟩
  ·exact ⟨z,fun h=>absurd rfl h⟩
 have h2:∀f p q,LE (Qd f p q).2∧((Qd f p q).2≠0→(Qd f p q).1=zCt):=fun f p q=>by
  unfold Qd
  split
  ·exact ⟨Q4 (zd5 z),fun _=>rfl⟩
  ·split
   ·exact ⟨LE.lit (by simp),fun _=>rfl⟩
   ·exact h3 _ _ _
 have h1:∀o p q,LE (YF o p q).2∧((YF o p q).2≠0→(YF o p q).1=zCt):=fun o p q=>by
  unfold YF
  split
  ·exact ⟨Q4 (zfk z),fun _=>rfl⟩
  ·exact h2 _ _ _
 have h0:∀r,LE (JY r).2∧((JY r).2≠0→(JY r).1=zCt):=fun r=>by
  unfold JY
  split
  ·exact ⟨zd7 _ _,fun _=>rfl⟩
  ·exact h1 _ _ _
 unfold jw
 split
 ·exact ⟨LE.lit (by simp),fun _=>rfl⟩
 split
 ·exact ⟨LE.lit (by simp),fun _=>rfl⟩
 split
 ·exact ⟨LE.lit (by simp),fun _=>rfl⟩
 split
 ·exact ⟨LE.lit (by simp),fun _=>rfl⟩
 exact h0 _
def put8c(W:World)(p:Nat)(a0 a1 a2 a3 a4 a5 a6 a7:Value):World:=
 ((((((((W.setCell ⟨p,0,none⟩ a0).setCell ⟨p,1,none⟩ a1).setCell ⟨p,2,none⟩ a2).setCell ⟨p,3,none⟩ a3).setCell ⟨p,4,none⟩ a4).setCell ⟨p,5,none⟩ a5).setCell ⟨p,6,none⟩ a6).setCell ⟨p,7,none⟩ a7)
theorem Row.put8c{W:World}{p:Nat}{T:TypeId}{z0 z1 z2 z3 z4 z5 z6 z7:Value}(h:Row W p T #[z0,z1,z2,z3,z4,z5,z6,z7])(a0 a1 a2 a3 a4 a5 a6 a7:Value):Row (put8c W p a0 a1 a2 a3 a4 a5 a6 a7) p T #[a0,a1,a2,a3,a4,a5,a6,a7]:=by
 unfold Proofs.YtnifhpbgmjcndaaGreat.put8c
 have q0:Row _ p T #[a0,z1,z2,z3,z4,z5,z6,z7]:=h.put 0 a0
 have q1:Row _ p T #[a0,a1,z2,z3,z4,z5,z6,z7]:=q0.put 1 a1
 have q2:Row _ p T #[a0,a1,a2,z3,z4,z5,z6,z7]:=q1.put 2 a2
 have q3:Row _ p T #[a0,a1,a2,a3,z4,z5,z6,z7]:=q2.put 3 a3
 have q4:Row _ p T #[a0,a1,a2,a3,a4,z5,z6,z7]:=q3.put 4 a4
 have q5:Row _ p T #[a0,a1,a2,a3,a4,a5,z6,z7]:=q4.put 5 a5
 have q6:Row _ p T #[a0,a1,a2,a3,a4,a5,a6,z7]:=q5.put 6 a6
 exact q6.put 7 a7
theorem zhj(W:World)(p:Nat)(a0 a1 a2 a3 a4 a5 a6 a7:Value):Mods (Is p) W (put8c W p a0 a1 a2 a3 a4 a5 a6 a7):=
 ((((((((Mods.refl _ W).put 0 a0).put 1 a1).put 2 a2).put 3 a3).put 4 a4).put 5 a5).put 6 a6).put 7 a7
def zfm(w:World)(c:Ct)(e:Ending)(w':World):Prop:=
 Below w.heap.size w w'∧((zD c=0∧∃A k,e= .returned (.tuple #[.slice A (zv c).length k,.int .i64 0])∧w'.ownsRow w.heap.size 5 1 (.slice A (zv c).length k) (zv c).length (bts (zv c)))∨
  (zD c≠0∧e= .returned (.tuple #[.slice none 0 0,.int .i64 (zD c)])))
def DecP(w:World)(r:Ct × Int)(e:Ending)(w':World):Prop:=
 ∃Av1 cv1 vs1 Av2 cv2 vs2 Av3 cv3 vs3,e= .returned (.tuple #[.agg #[.int .i64 r.1.sa,.int .i64 r.1.sr,.slice Av1 r.1.bs.length cv1,.int .i64 r.1.ta,.int .i64 r.1.tr,.int .i64 r.1.ts,.slice Av2 r.1.ms.length cv2,.slice Av3 r.1.inv.length cv3],.int .i64 r.2])∧
  NestV jC w' w.heap.size (.slice Av1 r.1.bs.length cv1) vs1 r.1.bs∧NestV jv w' w.heap.size (.slice Av2 r.1.ms.length cv2) vs2 r.1.ms∧NestV jV w' w.heap.size (.slice Av3 r.1.inv.length cv3) vs3 r.1.inv∧Below w.heap.size w w'
theorem DecP.bad{w W:World}(hb:Below w.heap.size w W)(x:Int):DecP w (zCt,x) (.returned (.tuple #[.agg #[.int .i64 0,.int .i64 0,.slice none 0 0,.int .i64 0,.int .i64 0,.int .i64 0,.slice none 0 0,.slice none 0 0],.int .i64 x])) W:=
 ⟨none,0, [],none,0, [],none,0, [],rfl,NestV.nil _ _,NestV.nil _ _,NestV.nil _ _,hb⟩
end Go.Proofs.YtnifhpbgmjcndaaGreat
