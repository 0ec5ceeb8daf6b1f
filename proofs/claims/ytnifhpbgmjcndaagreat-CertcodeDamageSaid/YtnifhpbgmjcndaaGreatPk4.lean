import Derived.Test.YtnifhpbgmjcndaaGreatPk1
import Derived.Deep.WholeRow
import Derived.BigRegion
import Derived.Deep.Cut
import Derived.Deep.CutRange
set_option linter.unusedVariables false
set_option linter.unusedSimpArgs false
set_option linter.unusedSectionVars false
set_option maxRecDepth 100000
set_option maxHeartbeats 4000000
namespace Go.Proofs.YtnifhpbgmjcndaaGreat
open Go.RowKit
structure MOk(regs n:Int)(m:Mi):Prop where
 r1:fR regs (uD m.op,m.d)=true
 r2:fR regs (uA m.op,m.a)=true
 r3:fR regs (uB m.op,m.b)=true
 z1:fZ (uD m.op,m.d)=true
 z2:fZ (uA m.op,m.a)=true
 z3:fZ (uB m.op,m.b)=true
 z4:fZ (m.op==1,m.imm)=true
 l1:((m.op==18)=true→yl m.dst regs n=true)∧((m.op==18)=false→m.dst=0)
 l2:((m.op==18)=true→yl m.src regs n=true)∧((m.op==18)=false→m.src=0)
 l3:(m.op==18)=true→¬(m.dst%2=1∧m.src%2=1)
theorem j8{b:Bool}{v:Int}:fZ (b,v)=true↔(b=false→v=0):=by cases b<;>simp [fZ]
theorem JW{b:Bool}{n v:Int}:fR n (b,v)=true↔(b=true→0≤v∧v<n):=by cases b<;>simp [fR]
theorem YR{regs n:Int}{m:Mi}:eM m regs n=0↔(1≤m.op∧m.op≤18∧m.op≠2)∧MOk regs n m:=by
 have ho:QK m.op=true↔1≤m.op∧m.op≤18∧m.op≠2:=by
  simp [QK,uO]
  omega
 unfold eM
 by_cases h0:QK m.op=true
 ·rw [if_pos h0]
  have h1:=ho.1 h0
  by_cases h2:m.mv=true
  ·rw [if_pos h2]
   have h3:m.op=18:=by simpa [Mi.mv] using h2
   have e1:uD m.op=false:=by simp [uD,h3]
   have e2:uA m.op=false:=by simp [uA,h3]
   have e3:uB m.op=false:=by simp [uB,h3]
   have e4:(m.op==1)=false:=by simp [h3]
   have e5:(m.op==18)=true:=by simp [h3]
   unfold eMv
   constructor
   ·intro h
    have hb:m.bad regs n=false:=by
     rcases hh:m.bad regs n with _|_
     ·rfl
     ·rw [hh] at h;simp at h
    have hz:m.zf=false:=by
     rcases hh:m.zf with _|_
     ·rfl
     ·rw [hb,hh] at h;simp at h
    simp only [Mi.bad,Bool.or_eq_false_iff,Bool.not_eq_false',Bool.and_eq_false_iff,decide_eq_false_iff_not] at hb
    simp only [Mi.zf,Bool.or_eq_false_iff,bne_eq_false_iff_eq] at hz
    obtain ⟨⟨b1,b2⟩,b3⟩:=hb
    obtain ⟨⟨⟨z1,z2⟩,z3⟩,z4⟩:=hz
    exact ⟨h1,JW.2 (by rw [e1];simp),JW.2 (by rw [e2];simp),JW.2 (by rw [e3];simp),j8.2 fun _=>z1,j8.2 fun _=>z2,j8.2 fun _=>z3,j8.2 fun _=>z4,
     ⟨fun _=>b1,by rw [e5];simp⟩,⟨fun _=>b2,by rw [e5];simp⟩,fun _ hh=>b3.elim (fun g=>g hh.1) (fun g=>g hh.2)⟩
   ·rintro ⟨_,hm⟩
    have z1:=j8.1 hm.z1 e1
    have z2:=j8.1 hm.z2 e2
    have z3:=j8.1 hm.z3 e3
    have z4:=j8.1 hm.z4 e4
    have hb:m.bad regs n=false:=by
     simp only [Mi.bad,hm.l1.1 e5,hm.l2.1 e5,Bool.not_true,Bool.false_or,Bool.and_eq_false_iff,decide_eq_false_iff_not]
     have:=hm.l3 e5
     omega
    have hz:m.zf=false:=by simp [Mi.zf,z1,z2,z3,z4]
    rw [hb,hz]
    rfl
  ·rw [if_neg h2]
   have h3:m.op≠18:=by simpa [Mi.mv] using h2
   have e5:(m.op==18)=false:=by simp [h3]
   have hs:Uk m.ins.op=true:=by
    show (uO m.op && !(m.op==18))=true
    simp [uO,h3]
    omega
   have hi:uI m.op=(m.op==1):=by
    unfold uI
    by_cases h9:m.op=1<;>simp [h9]
   unfold eOt eI
   rw [if_pos hs]
   have hR:okR regs m.ins.regF=true↔fR regs (uD m.op,m.d)=true∧fR regs (uA m.op,m.a)=true∧fR regs (uB m.op,m.b)=true:=by
    show ([(uD m.op,m.d),(uA m.op,m.a),(uB m.op,m.b)].all (fR regs))=true↔_
    simp [List.all]
   have hZ:okZ m.ins.allF=true↔fZ (uD m.op,m.d)=true∧fZ (uA m.op,m.a)=true∧fZ (uB m.op,m.b)=true∧fZ (m.op==1,m.imm)=true:=by
    show ([(uD m.op,m.d),(uA m.op,m.a),(uB m.op,m.b),(uI m.op,m.imm)].all fZ)=true↔_
    rw [hi]
    simp [List.all]
   constructor
   ·intro h
    by_cases hr:okR regs m.ins.regF=true
    ·rw [if_pos hr] at h
     by_cases hz:okZ m.ins.allF=true
     ·rw [if_pos hz] at h
      have hd:(m.dst !=0||m.src !=0)=false:=by
       rcases hh:(m.dst !=0||m.src !=0) with _|_
       ·rfl
       ·rw [hh] at h;simp at h
      simp only [Bool.or_eq_false_iff,bne_eq_false_iff_eq] at hd
      obtain ⟨a1,a2,a3⟩:=hR.1 hr
      obtain ⟨b1,b2,b3,b4⟩:=hZ.1 hz
      exact ⟨h1,a1,a2,a3,b1,b2,b3,b4,⟨by rw [e5];simp,fun _=>hd.1⟩,⟨by rw [e5];simp,fun _=>hd.2⟩,by rw [e5];simp⟩
     ·rw [if_neg hz] at h;simp at h
    ·rw [if_neg hr] at h;simp at h
   ·rintro ⟨_,hm⟩
    rw [if_pos (hR.2 ⟨hm.r1,hm.r2,hm.r3⟩),if_pos (hZ.2 ⟨hm.z1,hm.z2,hm.z3,hm.z4⟩),hm.l1.2 e5,hm.l2.2 e5]
    rfl
 ·rw [if_neg h0]
  exact ⟨fun h=>by simp at h,fun h=>absurd (ho.2 h.1) h0⟩
theorem UL{regs n:Int}{m:Mi}(hd:m.dst=0)(hs:m.src=0):eI m.ins regs=0↔(1≤m.op∧m.op≤17)∧MOk regs n m:=by
 have hi:uI m.op=(m.op==1):=by
  unfold uI
  by_cases h9:m.op=1<;>simp [h9]
 have hR:okR regs m.ins.regF=true↔fR regs (uD m.op,m.d)=true∧fR regs (uA m.op,m.a)=true∧fR regs (uB m.op,m.b)=true:=by
  show ([(uD m.op,m.d),(uA m.op,m.a),(uB m.op,m.b)].all (fR regs))=true↔_
  simp [List.all]
 have hZ:okZ m.ins.allF=true↔fZ (uD m.op,m.d)=true∧fZ (uA m.op,m.a)=true∧fZ (uB m.op,m.b)=true∧fZ (m.op==1,m.imm)=true:=by
  show ([(uD m.op,m.d),(uA m.op,m.a),(uB m.op,m.b),(uI m.op,m.imm)].all fZ)=true↔_
  rw [hi]
  simp [List.all]
 have hO:Uk m.ins.op=true↔1≤m.op∧m.op≤17:=by
  show (uO m.op && !(m.op==18))=true↔_
  simp [uO]
  omega
 unfold eI
 constructor
 ·intro h
  by_cases ho:Uk m.ins.op=true
  ·rw [if_pos ho] at h
   by_cases hr:okR regs m.ins.regF=true
   ·rw [if_pos hr] at h
    by_cases hz:okZ m.ins.allF=true
    ·obtain ⟨a1,a2,a3⟩:=hR.1 hr
     obtain ⟨b1,b2,b3,b4⟩:=hZ.1 hz
     have e5:(m.op==18)=false:=by
      have:=hO.1 ho
      simp
      omega
     exact ⟨hO.1 ho,a1,a2,a3,b1,b2,b3,b4,⟨by rw [e5];simp,fun _=>hd⟩,⟨by rw [e5];simp,fun _=>hs⟩,by rw [e5];simp⟩
    ·rw [if_neg hz] at h;simp at h
   ·rw [if_neg hr] at h;simp at h
  ·rw [if_neg ho] at h;simp at h
 ·rintro ⟨ho,hm⟩
  rw [if_pos (hO.2 ho),if_pos (hR.2 ⟨hm.r1,hm.r2,hm.r3⟩),if_pos (hZ.2 ⟨hm.z1,hm.z2,hm.z3,hm.z4⟩)]
theorem ReadOk.mok{op regs n:Int}{s t:Ip}{m:Mi}(h:ReadOk op regs n s m t):MOk regs n m:=by
 have e:=h.op_
 subst e
 exact ⟨h.r1,h.r2,h.r3,h.z1,h.z2,h.z3,h.z4,h.l1,h.l2,h.l3⟩
theorem ze0{regs n:Int}{l:List Nat}(hb:Byt l)(h:(zB regs n ⟨l,0⟩).2.err=0):
  eM (zB regs n ⟨l,0⟩).1 regs n=0∧InI (zB regs n ⟨l,0⟩).1.imm∧l=zS (zB regs n ⟨l,0⟩).1++(zB regs n ⟨l,0⟩).2.rest:=by
 unfold zB at*
 by_cases h0:(zu 18 2 8 ⟨l,0⟩).2.err≠0
 ·rw [if_pos h0] at h;exact absurd h h0
 ·rw [if_neg h0] at*
  obtain ⟨_,p1,p2,p3,p4,p5⟩:=ZU (most:=18) (nt:=2) (why:=8) (s:=⟨l,0⟩) hb (by decide) (by omega)
  have hb2:Byt (zu 18 2 8 ⟨l,0⟩).2.rest:=Byt.tail (l:= [(zu 18 2 8 ⟨l,0⟩).1.toNat]) (by rw [List.singleton_append,←p5];exact hb)
  have hr:=zaw hb2 h
  refine ⟨YR.2 ⟨by rw [hr.op_];exact ⟨p1,p2,p3⟩,hr.mok⟩,hr.i4,?_⟩
  have p5:l=(zu 18 2 8 ⟨l,0⟩).1.toNat::(zu 18 2 8 ⟨l,0⟩).2.rest:=p5
  have hby:=hr.bytes
  rw [hby] at p5
  refine p5.trans ?_
  unfold zS
  rw [hr.op_,List.cons_append]
theorem zdS{regs:Int}{l:List Nat}(hb:Byt l)(h:(zJ regs ⟨l,0⟩).2.err=0):
  eI (zJ regs ⟨l,0⟩).1.ins regs=0∧InI (zJ regs ⟨l,0⟩).1.imm∧l=zS (zJ regs ⟨l,0⟩).1++(zJ regs ⟨l,0⟩).2.rest∧(zJ regs ⟨l,0⟩).1.dst=0∧(zJ regs ⟨l,0⟩).1.src=0:=by
 unfold zJ at*
 by_cases h0:(zu 17 0 8 ⟨l,0⟩).2.err≠0
 ·rw [if_pos h0] at h;exact absurd h h0
 ·rw [if_neg h0] at*
  obtain ⟨_,p1,p2,p3,p4,p5⟩:=ZU (most:=17) (nt:=0) (why:=8) (s:=⟨l,0⟩) hb (by decide) (by omega)
  have hb2:Byt (zu 17 0 8 ⟨l,0⟩).2.rest:=Byt.tail (l:= [(zu 17 0 8 ⟨l,0⟩).1.toNat]) (by rw [List.singleton_append,←p5];exact hb)
  have hr:=zaw hb2 h
  have e5:((zu 17 0 8 ⟨l,0⟩).1==18)=false:=by simp;omega
  have hd:=hr.l1.2 e5
  have hs:=hr.l2.2 e5
  refine ⟨(UL hd hs).2 ⟨by rw [hr.op_];exact ⟨p1,p2⟩,hr.mok⟩,hr.i4,?_,hd,hs⟩
  have p5:l=(zu 17 0 8 ⟨l,0⟩).1.toNat::(zu 17 0 8 ⟨l,0⟩).2.rest:=p5
  have hby:=hr.bytes
  rw [hby] at p5
  refine p5.trans ?_
  unfold zS
  rw [hr.op_,List.cons_append]
structure Cuts(f:Ip→Int × Ip)(p:List Nat)(v:Int):Prop where
 get:∀q,f ⟨p++q,0⟩=(v,⟨q,0⟩)
 cut:∀j,j<p.length→f ⟨p.take j,0⟩=(0,⟨[],1⟩)
 err:∀s:Ip,s.err≠0→f s=(0,s)
theorem Cuts.at_{f:Ip→Int × Ip}{p:List Nat}{v:Int}(h:Cuts f p v)(q:List Nat)(j:Nat):
  (j<p.length∧f ⟨(p++q).take j,0⟩=(0,⟨[],1⟩))∨(p.length≤j∧f ⟨(p++q).take j,0⟩=(v,⟨q.take (j - p.length),0⟩)):=by
 by_cases hj:j<p.length
 ·refine .inl ⟨hj,?_⟩
  rw [List.take_append_of_le_length (by omega)]
  exact h.cut j hj
 ·refine .inr ⟨by omega,?_⟩
  rw [List.take_append,List.take_of_length_le (by omega)]
  exact h.get _
theorem J4{bd why v:Int}(h0:0≤v)(h1:v<bd)(h2:v≤18446744073709551615):Cuts (jh bd why) (zc v.toNat) v:=by
 refine ⟨fun q=> ?_,fun j hj=> ?_,fun s hs=>jS hs⟩
 ·have e:=ZQ v.toNat q (by omega)
  unfold jh
  rw [if_neg (by simp)]
  dsimp only
  rw [e]
  rw [if_neg (by simp),if_neg (by dsimp only;omega)]
  dsimp only
  rw [List.drop_left,Int.toNat_of_nonneg h0]
 ·have e:=Zw v.toNat j hj
  unfold jh
  rw [if_neg (by simp)]
  dsimp only
  rw [e]
  rw [if_pos (by simp)]
  rfl
theorem js{b:Bool}{bd why v:Int}(h:fR bd (b,v)=true)(hz:fZ (b,v)=true)(h2:bd≤18446744073709551615):Cuts (jR b bd why) (zk b v) v:=by
 cases b
 ·have e:=j8.1 hz rfl
  subst e
  exact ⟨fun q=>rfl,fun j hj=>by simp [zk] at hj,fun s hs=>zZ hs⟩
 ·obtain ⟨k1,k2⟩:=JW.1 h rfl
  have hc:=J4 (why:=why) k1 k2 (by omega)
  exact ⟨hc.get,hc.cut,hc.err⟩
theorem zdT{b:Bool}{v:Int}(hz:fZ (b,v)=true)(hv:InI v):Cuts (jZ b) (zk b (zz v)) v:=by
 cases b
 ·have e:=j8.1 hz rfl
  subst e
  exact ⟨fun q=>by simp [jZ,zk],fun j hj=>by simp [zk] at hj,fun s hs=>J3 hs⟩
 ·have hu:=zcZ hv
  refine ⟨fun q=> ?_,fun j hj=> ?_,fun s hs=>J3 hs⟩
  ·have e:=ZQ (zz v).toNat q (by unfold InU at hu;omega)
   unfold jZ zk
   rw [if_pos ⟨rfl,rfl⟩,if_pos rfl]
   dsimp only
   rw [e]
   rw [if_neg (by simp)]
   dsimp only
   rw [List.drop_left,Int.toNat_of_nonneg hu.1,zhx]
  ·have e:=Zw (zz v).toNat j (by simpa [zk] using hj)
   unfold jZ zk
   rw [if_pos ⟨rfl,rfl⟩,if_pos rfl]
   dsimp only
   rw [e]
   rw [if_pos (by simp)]
   rfl
theorem ze1{l r n:Int}(h:yl l r n=true)(hr:r≤1000000000)(hn:n≤1000000000):l<4611686018427387904:=by
 unfold yl at h
 split at h
 ·cases h
 ·split at h
  ·have:=of_decide_eq_true h;omega
  ·have:=of_decide_eq_true h;omega
theorem UM{b:Bool}{r n v:Int}(h:(b=true→yl v r n=true)∧(b=false→v=0))(hr:r≤1000000000)(hn:n≤1000000000):Cuts (jL b r n) (zk b v) v:=by
 cases b
 ·have e:=h.2 rfl
  subst e
  exact ⟨fun q=>by simp [jL,zk],fun j hj=>by simp [zk] at hj,fun s hs=>jM hs⟩
 ·have hl:=h.1 rfl
  have h0:=Jq hl
  have h1:=ze1 hl hr hn
  have hc:=J4 (bd:=4611686018427387904) (why:=10) h0 h1 (by omega)
  refine ⟨fun q=> ?_,fun j hj=> ?_,fun s hs=>jM hs⟩
  ·have e:=hc.get q
   unfold jL zk Jr
   rw [if_pos ⟨rfl,rfl⟩,if_pos rfl,e]
   rw [if_neg (by rw [hl];simp)]
  ·have e:=hc.cut j (by simpa [zk] using hj)
   unfold jL zk Jr
   rw [if_pos ⟨rfl,rfl⟩,if_pos rfl,e]
   rw [if_neg (by simp)]
def Yu(m:Mi):List Nat:=zk (uD m.op) m.d++(zk (uA m.op) m.a++(zk (uB m.op) m.b++(zk (m.op==1) (zz m.imm)++(zk (m.op==18) m.dst++zk (m.op==18) m.src))))
theorem Uq(m:Mi):zS m=m.op.toNat::Yu m:=rfl
theorem Yv{regs n:Int}{m:Mi}(hm:MOk regs n m)(hi:InI m.imm)(hr:regs≤1000000000)(hn:n≤1000000000)(q:List Nat)(j:Nat):
  (j<(Yu m).length∧jk m.op regs n ⟨(Yu m++q).take j,0⟩=(Mi0,⟨[],1⟩))∨((Yu m).length≤j∧jk m.op regs n ⟨(Yu m++q).take j,0⟩=(m,⟨q.take (j - (Yu m).length),0⟩)):=by
 have C1:=js (why:=9) hm.r1 hm.z1 (by omega)
 have C2:=js (why:=9) hm.r2 hm.z2 (by omega)
 have C3:=js (why:=9) hm.r3 hm.z3 (by omega)
 have C4:=zdT hm.z4 hi
 have C5:=UM hm.l1 hr hn
 have C6:=UM hm.l2 hr hn
 have E:(⟨[],1⟩:Ip).err≠0:=by decide
 generalize hp1:zk (uD m.op) m.d=p1 at*
 generalize hp2:zk (uA m.op) m.a=p2 at*
 generalize hp3:zk (uB m.op) m.b=p3 at*
 generalize hp4:zk (m.op==1) (zz m.imm)=p4 at*
 generalize hp5:zk (m.op==18) m.dst=p5 at*
 generalize hp6:zk (m.op==18) m.src=p6 at*
 have hF:Yu m=p1++(p2++(p3++(p4++(p5++p6)))):=by unfold Yu;rw [hp1,hp2,hp3,hp4,hp5,hp6]
 have hl:(Yu m).length=p1.length+p2.length+p3.length+p4.length+p5.length+p6.length:=by rw [hF];simp only [List.length_append];omega
 have hA:Yu m++q=p1++(p2++(p3++(p4++(p5++(p6++q))))):=by rw [hF];simp only [List.append_assoc]
 rw [hA,hl]
 obtain ⟨s,hs⟩:∃s:Ip,s=⟨(p1++(p2++(p3++(p4++(p5++(p6++q)))))).take j,0⟩:=⟨_,rfl⟩
 rw [←hs]
 have bad:∀x:Ip,x.err≠0→zE m.op regs n s=x→jk m.op regs n s=(Mi0,x):=fun x hx hz=>by unfold jk;rw [hz,if_pos hx]
 have z7:∀x:Ip,x.err≠0→(yE m.op regs n s).2=x→zE m.op regs n s=x:=fun x hx hy=>by unfold zE;rw [hy];exact zau hx
 have z6:∀x:Ip,x.err≠0→(xE m.op regs n s).2=x→zE m.op regs n s=x:=fun x hx hy=>z7 x hx (by unfold yE;rw [hy,jM hx])
 have z5:∀x:Ip,x.err≠0→(iE m.op regs s).2=x→zE m.op regs n s=x:=fun x hx hy=>z6 x hx (by unfold xE;rw [hy,jM hx])
 have z4:∀x:Ip,x.err≠0→(bE m.op regs s).2=x→zE m.op regs n s=x:=fun x hx hy=>z5 x hx (by unfold iE;rw [hy,J3 hx])
 have z3:∀x:Ip,x.err≠0→(aE m.op regs s).2=x→zE m.op regs n s=x:=fun x hx hy=>z4 x hx (by unfold bE;rw [hy,zZ hx])
 have z2:∀x:Ip,x.err≠0→(dE m.op regs s).2=x→zE m.op regs n s=x:=fun x hx hy=>z3 x hx (by unfold aE;rw [hy,zZ hx])
 rcases C1.at_ (p2++(p3++(p4++(p5++(p6++q))))) j with ⟨g1,e1⟩|⟨g1,e1⟩
 ·rw [←hs] at e1
  exact .inl ⟨by omega,bad _ E (z2 _ E (by unfold dE;rw [e1]))⟩
 ·rw [←hs] at e1
  have e1:dE m.op regs s=_:=e1
  rcases C2.at_ (p3++(p4++(p5++(p6++q)))) (j - p1.length) with ⟨g2,e2⟩|⟨g2,e2⟩
  ·exact .inl ⟨by omega,bad _ E (z3 _ E (by unfold aE;rw [e1];dsimp only;rw [e2]))⟩
  ·have e2:aE m.op regs s=(m.a,⟨(p3++(p4++(p5++(p6++q)))).take (j - p1.length - p2.length),0⟩):=by unfold aE;rw [e1];exact e2
   rcases C3.at_ (p4++(p5++(p6++q))) (j - p1.length - p2.length) with ⟨g3,e3⟩|⟨g3,e3⟩
   ·exact .inl ⟨by omega,bad _ E (z4 _ E (by unfold bE;rw [e2];dsimp only;rw [e3]))⟩
   ·have e3:bE m.op regs s=(m.b,⟨(p4++(p5++(p6++q))).take (j - p1.length - p2.length - p3.length),0⟩):=by unfold bE;rw [e2];exact e3
    rcases C4.at_ (p5++(p6++q)) (j - p1.length - p2.length - p3.length) with ⟨g4,e4⟩|⟨g4,e4⟩
    ·exact .inl ⟨by omega,bad _ E (z5 _ E (by unfold iE;rw [e3];dsimp only;rw [e4]))⟩
    ·have e4:iE m.op regs s=(m.imm,⟨(p5++(p6++q)).take (j - p1.length - p2.length - p3.length - p4.length),0⟩):=by unfold iE;rw [e3];exact e4
     rcases C5.at_ (p6++q) (j - p1.length - p2.length - p3.length - p4.length) with ⟨g5,e5⟩|⟨g5,e5⟩
     ·exact .inl ⟨by omega,bad _ E (z6 _ E (by unfold xE;rw [e4];dsimp only;rw [e5]))⟩
     ·have e5:xE m.op regs n s=(m.dst,⟨(p6++q).take (j - p1.length - p2.length - p3.length - p4.length - p5.length),0⟩):=by unfold xE;rw [e4];exact e5
      rcases C6.at_ q (j - p1.length - p2.length - p3.length - p4.length - p5.length) with ⟨g6,e6⟩|⟨g6,e6⟩
      ·exact .inl ⟨by omega,bad _ E (z7 _ E (by unfold yE;rw [e5];dsimp only;rw [e6]))⟩
      ·have e6:yE m.op regs n s=(m.src,⟨q.take (j - p1.length - p2.length - p3.length - p4.length - p5.length - p6.length),0⟩):=by unfold yE;rw [e5];exact e6
       refine .inr ⟨by omega,?_⟩
       have e7:zE m.op regs n s=⟨q.take (j - p1.length - p2.length - p3.length - p4.length - p5.length - p6.length),0⟩:=by
        unfold zE Zf
        rw [e5,e6]
        dsimp only
        rw [if_neg]
        rintro ⟨h1,_,h2⟩
        exact hm.l3 h1 h2
       unfold jk
       rw [e7,if_neg (by simp),e1,e2,e3,e4,e5,e6]
       rw [show j - (p1.length+p2.length+p3.length+p4.length+p5.length+p6.length)=j - p1.length - p2.length - p3.length - p4.length - p5.length - p6.length by omega]
theorem j9{most nt why v:Int}(h1:1≤v)(h2:v≤most)(h3:v≠nt)(q:List Nat):zu most nt why ⟨v.toNat::q,0⟩=(v,⟨q,0⟩):=by
 unfold zu
 rw [if_neg (by simp)]
 dsimp only
 rw [Int.toNat_of_nonneg (by omega),if_neg (by omega)]
theorem zdU{regs n:Int}{m:Mi}(h:eM m regs n=0)(hi:InI m.imm)(hr:regs≤1000000000)(hn:n≤1000000000)(q:List Nat):zB regs n ⟨zS m++q,0⟩=(m,⟨q,0⟩):=by
 obtain ⟨⟨h1,h2,h3⟩,hm⟩:=YR.1 h
 rw [Uq,List.cons_append]
 unfold zB
 rw [j9 h1 h2 h3,if_neg (by simp)]
 rcases Yv hm hi hr hn q (Yu m++q).length with ⟨g,_⟩|⟨g,e⟩
 ·simp at g
  omega
 ·rw [List.take_length] at e
  dsimp only
  rw [e,List.length_append,Nat.add_sub_cancel_left,List.take_length]
theorem zb1{regs:Int}{m:Mi}(hd:m.dst=0)(hs:m.src=0)(h:eI m.ins regs=0)(hi:InI m.imm)(hr:regs≤1000000000)(q:List Nat):zJ regs ⟨zS m++q,0⟩=(m,⟨q,0⟩):=by
 obtain ⟨⟨h1,h2⟩,hm⟩:=(UL (n:=0) hd hs).1 h
 rw [Uq,List.cons_append]
 unfold zJ
 rw [j9 h1 h2 (by omega),if_neg (by simp)]
 rcases Yv hm hi hr (by omega) q (Yu m++q).length with ⟨g,_⟩|⟨g,e⟩
 ·simp at g
  omega
 ·rw [List.take_length] at e
  dsimp only
  rw [e,List.length_append,Nat.add_sub_cancel_left,List.take_length]
theorem zdV{regs n:Int}{m:Mi}(h:eM m regs n=0)(hi:InI m.imm)(hr:regs≤1000000000)(hn:n≤1000000000){j:Nat}(hj:j<(zS m).length):zB regs n ⟨(zS m).take j,0⟩=(Mi0,⟨[],1⟩):=by
 obtain ⟨⟨h1,h2,h3⟩,hm⟩:=YR.1 h
 rw [Uq] at hj⊢
 rcases j with _|j
 ·rfl
 ·rw [List.take_succ_cons]
  unfold zB
  rw [j9 h1 h2 h3,if_neg (by simp)]
  have hj:j<(Yu m).length:=by simpa using hj
  rcases Yv hm hi hr hn [] j with ⟨g,e⟩|⟨g,_⟩
  ·rw [List.append_nil] at e
   exact e
  ·omega
theorem YS{t:Tm}{regs n:Int}:eT t regs n=0↔(1≤t.kind∧t.kind≤3)∧fR regs (t.kind !=1,t.a)=true∧fR n (t.kind !=3,t.to)=true∧fR n (t.kind==2,t.el)=true∧fZ (t.kind !=1,t.a)=true∧fZ (t.kind !=3,t.to)=true∧fZ (t.kind==2,t.el)=true:=by
 have hk:kO t.kind=true↔1≤t.kind∧t.kind≤3:=by
  simp [kO]
  omega
 have hA:okR regs t.aF=true↔fR regs (t.kind !=1,t.a)=true:=by simp [okR,Tm.aF,List.all]
 have hT:okR n t.toF=true↔fR n (t.kind !=3,t.to)=true∧fR n (t.kind==2,t.el)=true:=by simp [okR,Tm.toF,List.all]
 have hZ:okZ t.allF=true↔fZ (t.kind !=1,t.a)=true∧fZ (t.kind !=3,t.to)=true∧fZ (t.kind==2,t.el)=true:=by simp [okZ,Tm.allF,List.all]
 unfold eT
 constructor
 ·intro h
  by_cases h1:kO t.kind=true
  ·rw [if_pos h1] at h
   by_cases h2:okR regs t.aF=true
   ·rw [if_pos h2] at h
    by_cases h3:okR n t.toF=true
    ·rw [if_pos h3] at h
     by_cases h4:okZ t.allF=true
     ·exact ⟨hk.1 h1,hA.1 h2,(hT.1 h3).1,(hT.1 h3).2,hZ.1 h4⟩
     ·rw [if_neg h4] at h;simp at h
    ·rw [if_neg h3] at h;simp at h
   ·rw [if_neg h2] at h;simp at h
  ·rw [if_neg h1] at h;simp at h
 ·rintro ⟨h1,h2,h3,h4,h5⟩
  rw [if_pos (hk.2 h1),if_pos (hA.2 h2),if_pos (hT.2 ⟨h3,h4⟩),if_pos (hZ.2 h5)]
theorem zaH{regs n:Int}{l:List Nat}(hb:Byt l)(h:(jc regs n ⟨l,0⟩).2.err=0):
  eT (jc regs n ⟨l,0⟩).1 regs n=0∧l=ye (jc regs n ⟨l,0⟩).1++(jc regs n ⟨l,0⟩).2.rest:=by
 have he0:(teE regs n ⟨l,0⟩).2.err=0:=by
  unfold jc at h
  by_cases h0:(teE regs n ⟨l,0⟩).2.err≠0
  ·rw [if_pos h0] at h;exact h
  ·omega
 have hv:jc regs n ⟨l,0⟩=(⟨(tkE ⟨l,0⟩).1,(taE regs ⟨l,0⟩).1,(ttE regs n ⟨l,0⟩).1,(teE regs n ⟨l,0⟩).1⟩,(teE regs n ⟨l,0⟩).2):=by
  unfold jc
  rw [if_neg (by omega)]
 rw [hv]
 have ht0:(ttE regs n ⟨l,0⟩).2.err=0:=by
  by_cases h9:(ttE regs n ⟨l,0⟩).2.err=0
  ·exact h9
  ·unfold teE at he0;rw [zZ h9] at he0;exact he0
 have ha0:(taE regs ⟨l,0⟩).2.err=0:=by
  by_cases h9:(taE regs ⟨l,0⟩).2.err=0
  ·exact h9
  ·unfold ttE at ht0;rw [zZ h9] at ht0;exact ht0
 have hk0:(tkE ⟨l,0⟩).2.err=0:=by
  by_cases h9:(tkE ⟨l,0⟩).2.err=0
  ·exact h9
  ·unfold taE at ha0;rw [zZ h9] at ha0;exact ha0
 obtain ⟨_,p1,p2,p3,p4,p5⟩:=ZU (most:=3) (nt:=0) (why:=16) (s:=⟨l,0⟩) hb (by decide) hk0
 have f0:l=(tkE ⟨l,0⟩).1.toNat::(tkE ⟨l,0⟩).2.rest:=p5
 have b0:Byt (tkE ⟨l,0⟩).2.rest:=Byt.tail (l:= [(tkE ⟨l,0⟩).1.toNat]) (by rw [List.singleton_append,←f0];exact hb)
 obtain ⟨_,r1,z1,_,e1⟩:=ZT (b:=(tkE ⟨l,0⟩).1 !=1) b0 (by decide) ha0
 have f1:(tkE ⟨l,0⟩).2.rest=zk ((tkE ⟨l,0⟩).1 !=1) (taE regs ⟨l,0⟩).1++(taE regs ⟨l,0⟩).2.rest:=e1
 have b1:Byt (taE regs ⟨l,0⟩).2.rest:=Byt.tail (l:=zk ((tkE ⟨l,0⟩).1 !=1) (taE regs ⟨l,0⟩).1) (by rw [←f1];exact b0)
 obtain ⟨_,r2,z2,_,e2⟩:=ZT (b:=(tkE ⟨l,0⟩).1 !=3) b1 (by decide) ht0
 have f2:(taE regs ⟨l,0⟩).2.rest=zk ((tkE ⟨l,0⟩).1 !=3) (ttE regs n ⟨l,0⟩).1++(ttE regs n ⟨l,0⟩).2.rest:=e2
 have b2:Byt (ttE regs n ⟨l,0⟩).2.rest:=Byt.tail (l:=zk ((tkE ⟨l,0⟩).1 !=3) (ttE regs n ⟨l,0⟩).1) (by rw [←f2];exact b1)
 obtain ⟨_,r3,z3,_,e3⟩:=ZT (b:=(tkE ⟨l,0⟩).1==2) b2 (by decide) he0
 have f3:(ttE regs n ⟨l,0⟩).2.rest=zk ((tkE ⟨l,0⟩).1==2) (teE regs n ⟨l,0⟩).1++(teE regs n ⟨l,0⟩).2.rest:=e3
 refine ⟨YS.2 ⟨⟨p1,p2⟩,r1,r2,r3,z1,z2,z3⟩,?_⟩
 refine f0.trans ?_
 rw [f1,f2,f3]
 simp only [ye,List.cons_append,List.append_assoc]
theorem zdW{regs n:Int}{t:Tm}(h:eT t regs n=0)(hr:regs≤1000000000)(hn:n≤1000000000)(q:List Nat):jc regs n ⟨ye t++q,0⟩=(t,⟨q,0⟩):=by
 obtain ⟨⟨k1,k2⟩,r1,r2,r3,z1,z2,z3⟩:=YS.1 h
 have C1:=js (why:=9) r1 z1 (by omega)
 have C2:=js (why:=11) r2 z2 (by omega)
 have C3:=js (why:=11) r3 z3 (by omega)
 have e0:tkE ⟨ye t++q,0⟩=(t.kind,⟨zk (t.kind !=1) t.a++(zk (t.kind !=3) t.to++(zk (t.kind==2) t.el++q)),0⟩):=by
  unfold tkE ye
  rw [List.cons_append,j9 k1 k2 (by omega)]
  simp only [List.append_assoc]
 have e1:taE regs ⟨ye t++q,0⟩=(t.a,⟨zk (t.kind !=3) t.to++(zk (t.kind==2) t.el++q),0⟩):=by unfold taE;rw [e0];exact C1.get _
 have e2:ttE regs n ⟨ye t++q,0⟩=(t.to,⟨zk (t.kind==2) t.el++q,0⟩):=by unfold ttE;rw [e1,e0];exact C2.get _
 have e3:teE regs n ⟨ye t++q,0⟩=(t.el,⟨q,0⟩):=by unfold teE;rw [e2,e0];exact C3.get _
 unfold jc
 rw [e3,if_neg (by simp),e2,e1,e0]
def zO(e:Int)(s:Ip):Ip:=if s.err≠0 then s else ⟨[],e⟩
def yo(s:Ip):Int × Ip:=jh 1048577 6 s
def yC(k:Int)(s:Ip):Int × Ip:=if (yo s).2.err=0∧((yo s).2.rest.length:Int) / k<(yo s).1 then (0,zO 1 (yo s).2) else yo s
def yv(s:Ip):Int × Ip:=if (yC 3 s).1=0 then (0,zO 14 (yC 3 s).2) else yC 3 s
def zW(before:Int)(s:Ip):Int × Ip:=if 1048576<before+(yC 2 s).1 then (0,zO 6 (yC 2 s).2) else yC 2 s
def je(regs:Int):Nat→Ip→List In × Ip
 |0,s=>([],s)
 |k+1,s=>if s.err≠0 then ([],s) else ((zJ regs s).1.ins::(je regs k (zJ regs s).2).1,(je regs k (zJ regs s).2).2)
def mvE(run:Nat)(x:Mi)(t:Ip):Ip:=if 64<ext run x then zO 15 t else t
def miE(regs slots:Int):Nat→Nat→Ip→List Mi × Ip
 |0,_,s=>([],s)
 |k+1,run,s=>if s.err≠0 then ([],s) else
  ((zB regs slots s).1::(miE regs slots k (ext run (zB regs slots s).1) (mvE run (zB regs slots s).1 (zB regs slots s).2)).1,(miE regs slots k (ext run (zB regs slots s).1) (mvE run (zB regs slots s).1 (zB regs slots s).2)).2)
def jt(tot:Int)(s:Ip):Int:=(zW tot s).1
def jo(regs tot:Int)(s:Ip):List In × Ip:=je regs (zW tot s).1.toNat (zW tot s).2
def jz(regs n tot:Int)(s:Ip):Tm × Ip:=jc regs n (jo regs tot s).2
def yw(regs n:Int):Nat→Int→Ip→List Blk × Ip
 |0,_,s=>([],s)
 |m+1,tot,s=>if s.err≠0 then ([],s) else (⟨(jo regs tot s).1,(jz regs n tot s).1⟩::(yw regs n m (tot+jt tot s) (jz regs n tot s).2).1,(yw regs n m (tot+jt tot s) (jz regs n tot s).2).2)
def yA(regs slots tot:Int)(s:Ip):List Mi × Ip:=miE regs slots (zW tot s).1.toNat 0 (zW tot s).2
def yD(regs slots n tot:Int)(s:Ip):Tm × Ip:=jc regs n (yA regs slots tot s).2
def zY(regs slots n:Int):Nat→Int→Ip→List MBlk × Ip
 |0,_,s=>([],s)
 |m+1,tot,s=>if s.err≠0 then ([],s) else (⟨(yA regs slots tot s).1,(yD regs slots n tot s).1⟩::(zY regs slots n m (tot+jt tot s) (yD regs slots n tot s).2).1,(zY regs slots n m (tot+jt tot s) (yD regs slots n tot s).2).2)
def fA(s:Ip):Int × Ip:=yo s
def fR'(s:Ip):Int × Ip:=yo (fA s).2
def fC(s:Ip):Ip:=if (fR' s).1<(fA s).1 then zO 9 (fR' s).2 else (fR' s).2
def fN(s:Ip):Int × Ip:=yv (fC s)
def fB(s:Ip):List Blk × Ip:=yw (fR' s).1 (fN s).1 (fN s).1.toNat 0 (fN s).2
structure Fd where
 args:Int
 regs:Int
 bs:List Blk
def yc(s:Ip):Fd × Ip:=if (fB s).2.err≠0 then (⟨0,0, []⟩,(fB s).2) else (⟨(fA s).1,(fR' s).1,(fB s).1⟩,(fB s).2)
def gS(s:Ip):Int × Ip:=yo (fR' s).2
def gC(s:Ip):Ip:=if (gS s).1<(fA s).1 then zO 10 (gS s).2 else (gS s).2
def gN(s:Ip):Int × Ip:=yv (gC s)
def gB(s:Ip):List MBlk × Ip:=zY (fR' s).1 (gS s).1 (gN s).1 (gN s).1.toNat 0 (gN s).2
structure Gd where
 args:Int
 regs:Int
 slots:Int
 ms:List MBlk
def zF(s:Ip):Gd × Ip:=if (gB s).2.err≠0 then (⟨0,0,0, []⟩,(gB s).2) else (⟨(fA s).1,(fR' s).1,(gS s).1,(gB s).1⟩,(gB s).2)
def inM(x:In):Mi:=⟨x.op,x.d,x.a,x.b,x.imm,0,0⟩
def yF(xs:List In):List Nat:=xs.flatMap fun x=>zS (inM x)
def yx(xs:List Mi):List Nat:=xs.flatMap zS
def Ju(b:Blk):List Nat:=zc b.code.length++(yF b.code++ye b.term)
def zC(bs:List Blk):List Nat:=bs.flatMap Ju
def jl(b:MBlk):List Nat:=zc b.code.length++(yx b.code++ye b.term)
def zn(bs:List MBlk):List Nat:=bs.flatMap jl
def zI(f:Fd):List Nat:=zc f.args.toNat++(zc f.regs.toNat++(zc f.bs.length++zC f.bs))
def yf(g:Gd):List Nat:=zc g.args.toNat++(zc g.regs.toNat++(zc g.slots.toNat++(zc g.ms.length++zn g.ms)))
theorem yi{e:Int}{s:Ip}(he:e≠0):(zO e s).err≠0:=by
 unfold zO
 split
 ·assumption
 ·exact he
theorem yU{e:Int}{s:Ip}(h:s.err≠0):zO e s=s:=if_pos h
theorem J5{s:Ip}(hb:Byt s.rest)(h:(yo s).2.err=0):s.err=0∧0≤(yo s).1∧(yo s).1≤1048576∧s.rest=zc (yo s).1.toNat++(yo s).2.rest:=by
 obtain ⟨h1,h2,h3,_,h5⟩:=Yo (bd:=1048577) (why:=6) hb (by decide) h
 exact ⟨h1,h2,by unfold yo;omega,h5⟩
theorem QS{k:Int}{s:Ip}(hb:Byt s.rest)(h:(yC k s).2.err=0):s.err=0∧0≤(yC k s).1∧(yC k s).1≤1048576∧s.rest=zc (yC k s).1.toNat++(yC k s).2.rest∧(yC k s).1≤((yC k s).2.rest.length:Int) / k:=by
 unfold yC at*
 by_cases h0:(yo s).2.err=0∧((yo s).2.rest.length:Int) / k<(yo s).1
 ·rw [if_pos h0] at h
  exact absurd h (yi (by decide))
 ·rw [if_neg h0] at*
  obtain ⟨h1,h2,h3,h4⟩:=J5 hb h
  exact ⟨h1,h2,h3,h4,by
   by_cases hh:((yo s).2.rest.length:Int) / k<(yo s).1
   ·exact absurd ⟨h,hh⟩ h0
   ·omega⟩
theorem zaI{s:Ip}(hb:Byt s.rest)(h:(yv s).2.err=0):s.err=0∧1≤(yv s).1∧(yv s).1≤1048576∧s.rest=zc (yv s).1.toNat++(yv s).2.rest∧(yv s).1≤((yv s).2.rest.length:Int) / 3:=by
 unfold yv at*
 by_cases h0:(yC 3 s).1=0
 ·rw [if_pos h0] at h
  exact absurd h (yi (by decide))
 ·rw [if_neg h0] at*
  obtain ⟨h1,h2,h3,h4,h5⟩:=QS hb h
  exact ⟨h1,by omega,h3,h4,h5⟩
theorem zaJ{tot:Int}{s:Ip}(hb:Byt s.rest)(h:(zW tot s).2.err=0):s.err=0∧0≤(zW tot s).1∧tot+(zW tot s).1≤1048576∧s.rest=zc (zW tot s).1.toNat++(zW tot s).2.rest∧(zW tot s).1≤((zW tot s).2.rest.length:Int) / 2:=by
 unfold zW at*
 by_cases h0:1048576<tot+(yC 2 s).1
 ·rw [if_pos h0] at h
  exact absurd h (yi (by decide))
 ·rw [if_neg h0] at*
  obtain ⟨h1,h2,h3,h4,h5⟩:=QS hb h
  exact ⟨h1,h2,by omega,h4,h5⟩
theorem Byt.right{l r:List Nat}{m:List Nat}(h:Byt l)(e:l=m++r):Byt r:=Byt.tail (l:=m) (by rw [←e];exact h)
theorem QT{s:Ip}(h:s.err=0):s=⟨s.rest,0⟩:=by
 obtain ⟨l,e⟩:=s
 dsimp only at h
 rw [h]
theorem jO{regs n:Int}{s:Ip}(h:s.err≠0):jc regs n s=(Tm0,s):=by
 have hf:tkE s=(0,s):=if_pos h
 have h1:taE regs s=(0,s):=by unfold taE;rw [hf];exact zZ h
 have h2:ttE regs n s=(0,s):=by unfold ttE;rw [h1];exact zZ h
 have h3:teE regs n s=(0,s):=by unfold teE;rw [h2];exact zZ h
 unfold jc
 rw [h3,if_pos h]
theorem Jh{regs:Int}{k:Nat}{s:Ip}(h:s.err≠0):je regs k s=([],s):=by
 cases k with
 |zero=>rfl
 |succ k=>exact if_pos h
theorem JO{regs slots:Int}{k run:Nat}{s:Ip}(h:s.err≠0):miE regs slots k run s=([],s):=by
 cases k with
 |zero=>rfl
 |succ k=>exact if_pos h
theorem jf{regs n tot:Int}{k:Nat}{s:Ip}(h:s.err≠0):yw regs n k tot s=([],s):=by
 cases k with
 |zero=>rfl
 |succ k=>exact if_pos h
theorem yL{regs slots n tot:Int}{k:Nat}{s:Ip}(h:s.err≠0):zY regs slots n k tot s=([],s):=by
 cases k with
 |zero=>rfl
 |succ k=>exact if_pos h
theorem Ja{s:Ip}(h:s.err≠0):yo s=(0,s):=jS h
theorem ze2{k:Int}{s:Ip}(h:s.err≠0):yC k s=(0,s):=by
 unfold yC
 rw [Ja h,if_neg fun hh=>h hh.1]
theorem ZX{s:Ip}(h:s.err≠0):yv s=(0,s):=by
 unfold yv
 rw [ze2 h,if_pos rfl,yU h]
theorem zc5{regs:Int}:∀(k:Nat) (s:Ip),Byt s.rest→(je regs k s).2.err=0→
  s.err=0∧(je regs k s).1.length=k∧eIs regs (je regs k s).1=0∧(∀x∈(je regs k s).1,InI x.imm∧eI x regs=0)∧s.rest=yF (je regs k s).1++(je regs k s).2.rest
 |0,s,hb,h=>⟨h,rfl,rfl,fun x hx=>(by cases hx),rfl⟩
 |k+1,s,hb,h=>by
  have h0:s.err=0:=by
   by_cases h9:s.err=0
   ·exact h9
   ·rw [Jh h9] at h;exact h
  have e:je regs (k+1) s=((zJ regs s).1.ins::(je regs k (zJ regs s).2).1,(je regs k (zJ regs s).2).2):=if_neg fun hh=>hh h0
  rw [e] at h⊢
  have hi:(zJ regs s).2.err=0:=by
   by_cases h9:(zJ regs s).2.err=0
   ·exact h9
   ·dsimp only at h;rw [Jh h9] at h;exact h
  have hs:=QT h0
  have hk:=zdS (regs:=regs) (l:=s.rest) hb (by rw [←hs];exact hi)
  rw [←hs] at hk
  obtain ⟨g1,g2,g3,g4,g5⟩:=hk
  obtain ⟨i1,i2,i3,i4,i5⟩:=zc5 k (zJ regs s).2 (hb.right g3) h
  have hm:inM (zJ regs s).1.ins=(zJ regs s).1:=by
   generalize (zJ regs s).1=m at*
   obtain ⟨a,b,c,d,e,f,g⟩:=m
   dsimp only at g4 g5
   subst g4 g5
   rfl
  refine ⟨h0,by dsimp only;rw [List.length_cons,i2],?_,fun x hx=> ?_,?_⟩
  ·show (if eI _ regs=0 then _ else _)=_
   rw [if_pos g1]
   exact i3
  ·rcases List.mem_cons.1 hx with rfl|hx
   ·exact ⟨g2,g1⟩
   ·exact i4 x hx
  ·show s.rest=(zS (inM _)++yF _)++_
   rw [hm,List.append_assoc,←i5]
   exact g3
theorem ze3{regs slots:Int}:∀(k run:Nat) (s:Ip),Byt s.rest→(miE regs slots k run s).2.err=0→
  s.err=0∧(miE regs slots k run s).1.length=k∧eCd regs slots run (miE regs slots k run s).1=0∧(∀x∈(miE regs slots k run s).1,InI x.imm∧eM x regs slots=0)∧s.rest=yx (miE regs slots k run s).1++(miE regs slots k run s).2.rest
 |0,run,s,hb,h=>⟨h,rfl,rfl,fun x hx=>(by cases hx),rfl⟩
 |k+1,run,s,hb,h=>by
  have h0:s.err=0:=by
   by_cases h9:s.err=0
   ·exact h9
   ·rw [JO h9] at h;exact h
  have e:miE regs slots (k+1) run s=((zB regs slots s).1::(miE regs slots k (ext run (zB regs slots s).1) (mvE run (zB regs slots s).1 (zB regs slots s).2)).1,(miE regs slots k (ext run (zB regs slots s).1) (mvE run (zB regs slots s).1 (zB regs slots s).2)).2):=if_neg fun hh=>hh h0
  rw [e] at h⊢
  dsimp only at h⊢
  have hi0:(mvE run (zB regs slots s).1 (zB regs slots s).2).err=0:=by
   by_cases h9:(mvE run (zB regs slots s).1 (zB regs slots s).2).err=0
   ·exact h9
   ·rw [JO h9] at h;exact h
  have hx:¬64<ext run (zB regs slots s).1:=fun h9=>by
   unfold mvE at hi0
   rw [if_pos h9] at hi0
   exact yi (by decide) hi0
  have hmv:mvE run (zB regs slots s).1 (zB regs slots s).2=(zB regs slots s).2:=if_neg hx
  rw [hmv] at h hi0⊢
  have hs:=QT h0
  have hk:=ze0 (regs:=regs) (n:=slots) (l:=s.rest) hb (by rw [←hs];exact hi0)
  rw [←hs] at hk
  obtain ⟨g1,g2,g3⟩:=hk
  obtain ⟨i1,i2,i3,i4,i5⟩:=ze3 k (ext run (zB regs slots s).1) (zB regs slots s).2 (hb.right g3) h
  refine ⟨h0,by rw [List.length_cons,i2],?_,fun x hx=> ?_,?_⟩
  ·show (if eM _ regs slots=0 then if 64<ext run _ then _ else _ else _)=_
   rw [if_pos g1,if_neg hx]
   exact i3
  ·rcases List.mem_cons.1 hx with rfl|hx
   ·exact ⟨g2,g1⟩
   ·exact i4 x hx
  ·show s.rest=(zS _++yx _)++_
   rw [List.append_assoc,←i5]
   exact g3
theorem zaK{regs n:Int}:∀(m:Nat) (tot:Int) (s:Ip),Byt s.rest→(yw regs n m tot s).2.err=0→
  s.err=0∧(yw regs n m tot s).1.length=m∧(tot≤1048576→tot+(zN (yw regs n m tot s).1:Int)≤1048576)∧eBs regs n (yw regs n m tot s).1=0∧(∀b∈(yw regs n m tot s).1,∀x∈b.code,InI x.imm)∧s.rest=zC (yw regs n m tot s).1++(yw regs n m tot s).2.rest
 |0,tot,s,hb,h=>⟨h,rfl,fun h=>(by show tot+((0:Nat):Int)≤_;omega),rfl,fun x hx=>(by cases hx),rfl⟩
 |m+1,tot,s,hb,h=>by
  have h0:s.err=0:=by
   by_cases h9:s.err=0
   ·exact h9
   ·rw [jf h9] at h;exact h
  have e:yw regs n (m+1) tot s=(⟨(jo regs tot s).1,(jz regs n tot s).1⟩::(yw regs n m (tot+jt tot s) (jz regs n tot s).2).1,(yw regs n m (tot+jt tot s) (jz regs n tot s).2).2):=if_neg fun hh=>hh h0
  rw [e] at h⊢
  dsimp only at h⊢
  have ht:(jz regs n tot s).2.err=0:=by
   by_cases h9:(jz regs n tot s).2.err=0
   ·exact h9
   ·rw [jf h9] at h;exact h
  have hi:(jo regs tot s).2.err=0:=by
   by_cases h9:(jo regs tot s).2.err=0
   ·exact h9
   ·unfold jz at ht;rw [jO h9] at ht;exact ht
  have hc:(zW tot s).2.err=0:=by
   by_cases h9:(zW tot s).2.err=0
   ·exact h9
   ·unfold jo at hi;rw [Jh h9] at hi;exact hi
  obtain ⟨_,c2,c3,c4,_⟩:=zaJ hb hc
  have b1:=hb.right c4
  obtain ⟨_,i2,i3,i4,i5⟩:=zc5 (regs:=regs) (zW tot s).1.toNat (zW tot s).2 b1 hi
  have b2:=b1.right i5
  have hs2:=QT hi
  have tk:=zaH (regs:=regs) (n:=n) (l:=(jo regs tot s).2.rest) b2 (by rw [←hs2];exact ht)
  rw [←hs2] at tk
  obtain ⟨t1,t2⟩:=tk
  obtain ⟨_,k2,k3,k4,k5,k6⟩:=zaK m (tot+jt tot s) (jz regs n tot s).2 (b2.right t2) h
  have hk:((jo regs tot s).1.length:Int)=jt tot s:=by
   show (((je regs (zW tot s).1.toNat (zW tot s).2).1.length:Nat):Int)=(zW tot s).1
   rw [i2];omega
  have hk':(jo regs tot s).1.length=(zW tot s).1.toNat:=i2
  refine ⟨h0,by rw [List.length_cons,k2],fun h9=> ?_,?_,fun b hb'=> ?_,?_⟩
  ·have:=k3 (by show tot+(zW tot s).1≤_;exact c3)
   rw [jX]
   dsimp only
   omega
  ·have hB:eB ⟨(jo regs tot s).1,(jz regs n tot s).1⟩ regs n=0:=by
    exact (if_pos i3).trans t1
   show (if eB _ regs n=0 then _ else _)=_
   rw [if_pos hB]
   exact k4
  ·rcases List.mem_cons.1 hb' with rfl|hb'
   ·exact fun x hx=>(i4 x hx).1
   ·exact k5 b hb'
  ·show s.rest=(Ju _++zC _)++_
   unfold Ju
   dsimp only
   rw [hk']
   rw [List.append_assoc,←k6,List.append_assoc,List.append_assoc]
   rw [c4,i5]
   rw [show (je regs (zW tot s).1.toNat (zW tot s).2).2.rest=(jo regs tot s).2.rest from rfl,t2]
   rfl
theorem Qp{regs slots n:Int}:∀(m:Nat) (tot:Int) (s:Ip),Byt s.rest→(zY regs slots n m tot s).2.err=0→
  s.err=0∧(zY regs slots n m tot s).1.length=m∧(tot≤1048576→tot+(zw (zY regs slots n m tot s).1:Int)≤1048576)∧jY regs slots n (zY regs slots n m tot s).1=0∧(∀b∈(zY regs slots n m tot s).1,∀x∈b.code,InI x.imm)∧s.rest=zn (zY regs slots n m tot s).1++(zY regs slots n m tot s).2.rest
 |0,tot,s,hb,h=>⟨h,rfl,fun h=>(by show tot+((0:Nat):Int)≤_;omega),rfl,fun x hx=>(by cases hx),rfl⟩
 |m+1,tot,s,hb,h=>by
  have h0:s.err=0:=by
   by_cases h9:s.err=0
   ·exact h9
   ·rw [yL h9] at h;exact h
  have e:zY regs slots n (m+1) tot s=(⟨(yA regs slots tot s).1,(yD regs slots n tot s).1⟩::(zY regs slots n m (tot+jt tot s) (yD regs slots n tot s).2).1,(zY regs slots n m (tot+jt tot s) (yD regs slots n tot s).2).2):=if_neg fun hh=>hh h0
  rw [e] at h⊢
  dsimp only at h⊢
  have ht:(yD regs slots n tot s).2.err=0:=by
   by_cases h9:(yD regs slots n tot s).2.err=0
   ·exact h9
   ·rw [yL h9] at h;exact h
  have hi:(yA regs slots tot s).2.err=0:=by
   by_cases h9:(yA regs slots tot s).2.err=0
   ·exact h9
   ·unfold yD at ht;rw [jO h9] at ht;exact ht
  have hc:(zW tot s).2.err=0:=by
   by_cases h9:(zW tot s).2.err=0
   ·exact h9
   ·unfold yA at hi;rw [JO h9] at hi;exact hi
  obtain ⟨_,c2,c3,c4,_⟩:=zaJ hb hc
  have b1:=hb.right c4
  obtain ⟨_,i2,i3,i4,i5⟩:=ze3 (regs:=regs) (slots:=slots) (zW tot s).1.toNat 0 (zW tot s).2 b1 hi
  have b2:=b1.right i5
  have hs2:=QT hi
  have tk:=zaH (regs:=regs) (n:=n) (l:=(yA regs slots tot s).2.rest) b2 (by rw [←hs2];exact ht)
  rw [←hs2] at tk
  obtain ⟨t1,t2⟩:=tk
  obtain ⟨_,k2,k3,k4,k5,k6⟩:=Qp m (tot+jt tot s) (yD regs slots n tot s).2 (b2.right t2) h
  have hk:((yA regs slots tot s).1.length:Int)=jt tot s:=by
   show (((miE regs slots (zW tot s).1.toNat 0 (zW tot s).2).1.length:Nat):Int)=(zW tot s).1
   rw [i2];omega
  have hk':(yA regs slots tot s).1.length=(zW tot s).1.toNat:=i2
  refine ⟨h0,by rw [List.length_cons,k2],fun h9=> ?_,?_,fun b hb'=> ?_,?_⟩
  ·have:=k3 (by show tot+(zW tot s).1≤_;exact c3)
   rw [jJ]
   dsimp only
   omega
  ·have hB:eMB ⟨(yA regs slots tot s).1,(yD regs slots n tot s).1⟩ regs slots n=0:=by
    exact (if_pos i3).trans t1
   show (if eMB _ regs slots n=0 then _ else _)=_
   rw [if_pos hB]
   exact k4
  ·rcases List.mem_cons.1 hb' with rfl|hb'
   ·exact fun x hx=>(i4 x hx).1
   ·exact k5 b hb'
  ·show s.rest=(jl _++zn _)++_
   unfold jl
   dsimp only
   rw [hk']
   rw [List.append_assoc,←k6,List.append_assoc,List.append_assoc]
   rw [c4,i5]
   rw [show (miE regs slots (zW tot s).1.toNat 0 (zW tot s).2).2.rest=(yA regs slots tot s).2.rest from rfl,t2]
   rfl
theorem zaL{s:Ip}(hb:Byt s.rest)(h:(yc s).2.err=0):
  s.err=0∧eF (yc s).1.args (yc s).1.regs (yc s).1.bs=0∧(∀b∈(yc s).1.bs,∀x∈b.code,InI x.imm)∧s.rest=zI (yc s).1++(yc s).2.rest∧0≤(yc s).1.args∧(yc s).1.regs≤1048576∧(yc s).1.bs.length≤1048576:=by
 have h5:(fB s).2.err=0:=by
  by_cases h9:(fB s).2.err=0
  ·exact h9
  ·unfold yc at h;rw [if_pos h9] at h;exact h
 have e:yc s=(⟨(fA s).1,(fR' s).1,(fB s).1⟩,(fB s).2):=if_neg fun hh=>hh h5
 rw [e]
 have h4:(fN s).2.err=0:=by
  by_cases h9:(fN s).2.err=0
  ·exact h9
  ·unfold fB at h5;rw [jf h9] at h5;exact h5
 have h3:(fC s).err=0:=by
  by_cases h9:(fC s).err=0
  ·exact h9
  ·unfold fN at h4;rw [ZX h9] at h4;exact h4
 have hcmp:¬(fR' s).1<(fA s).1:=fun h9=>by
  unfold fC at h3
  rw [if_pos h9] at h3
  exact yi (by decide) h3
 have hC:fC s=(fR' s).2:=if_neg hcmp
 have h2:(fR' s).2.err=0:=by rw [←hC];exact h3
 have h1:(fA s).2.err=0:=by
  by_cases h9:(fA s).2.err=0
  ·exact h9
  ·unfold fR' at h2;rw [Ja h9] at h2;exact h2
 obtain ⟨a0,a1,a2,a3⟩:=J5 hb h1
 have b1:=hb.right a3
 obtain ⟨_,r1,r2,r3⟩:=J5 (s:=(fA s).2) b1 h2
 have b2:=b1.right r3
 obtain ⟨_,n1,n2,n3,_⟩:=zaI (s:=fC s) (by rw [hC];exact b2) h4
 have n3':(fR' s).2.rest=zc (fN s).1.toNat++(fN s).2.rest:=by rw [←hC];exact n3
 have b3:Byt (fN s).2.rest:=b2.right n3'
 obtain ⟨_,k2,k3,k4,k5,k6⟩:=zaK (regs:=(fR' s).1) (n:=(fN s).1) (fN s).1.toNat 0 (fN s).2 b3 h5
 have hl:(fB s).1.length=(fN s).1.toNat:=k2
 have hn:(fN s).1=((fB s).1.length:Int):=by have:1≤(fN s).1:=n1;omega
 have n1':1≤(fN s).1:=n1
 have n2':(fN s).1≤1048576:=n2
 have r2':(fR' s).1≤1048576:=r2
 have a1':0≤(fA s).1:=a1
 have k3':(zN (fB s).1:Int)≤1048576:=by have:(0:Int)+(zN (fB s).1:Int)≤1048576:=k3 (by decide);omega
 have k4':eBs (fR' s).1 (fN s).1 (fB s).1=0:=k4
 refine ⟨a0,?_,k5,?_,a1',r2',by dsimp only;omega⟩
 ·have hz:eSz (fA s).1 (fR' s).1 (fB s).1=0:=by
   unfold eSz
   rw [if_neg (by omega),if_neg (by omega),if_neg (by omega),if_neg (by omega)]
  unfold eF
  dsimp only
  rw [if_pos hz,←hn]
  exact k4'
 ·show s.rest=(zc _++(zc _++(zc (fB s).1.length++zC _)))++_
  rw [hl]
  simp only [List.append_assoc]
  have k6':(fN s).2.rest=zC (fB s).1++(fB s).2.rest:=k6
  have r3':(fA s).2.rest=zc (fR' s).1.toNat++(fR' s).2.rest:=r3
  rw [←k6',←n3',←r3']
  exact a3
theorem Qq{s:Ip}(hb:Byt s.rest)(h:(zF s).2.err=0):
  s.err=0∧eMF (zF s).1.args (zF s).1.regs (zF s).1.slots (zF s).1.ms=0∧(∀b∈(zF s).1.ms,∀x∈b.code,InI x.imm)∧s.rest=yf (zF s).1++(zF s).2.rest∧0≤(zF s).1.args∧(zF s).1.regs≤1048576∧(zF s).1.slots≤1048576∧(zF s).1.ms.length≤1048576:=by
 have h5:(gB s).2.err=0:=by
  by_cases h9:(gB s).2.err=0
  ·exact h9
  ·unfold zF at h;rw [if_pos h9] at h;exact h
 have e:zF s=(⟨(fA s).1,(fR' s).1,(gS s).1,(gB s).1⟩,(gB s).2):=if_neg fun hh=>hh h5
 rw [e]
 have h4:(gN s).2.err=0:=by
  by_cases h9:(gN s).2.err=0
  ·exact h9
  ·unfold gB at h5;rw [yL h9] at h5;exact h5
 have h3:(gC s).err=0:=by
  by_cases h9:(gC s).err=0
  ·exact h9
  ·unfold gN at h4;rw [ZX h9] at h4;exact h4
 have hcmp:¬(gS s).1<(fA s).1:=fun h9=>by
  unfold gC at h3
  rw [if_pos h9] at h3
  exact yi (by decide) h3
 have hC:gC s=(gS s).2:=if_neg hcmp
 have hs:(gS s).2.err=0:=by rw [←hC];exact h3
 have h2:(fR' s).2.err=0:=by
  by_cases h9:(fR' s).2.err=0
  ·exact h9
  ·unfold gS at hs;rw [Ja h9] at hs;exact hs
 have h1:(fA s).2.err=0:=by
  by_cases h9:(fA s).2.err=0
  ·exact h9
  ·unfold fR' at h2;rw [Ja h9] at h2;exact h2
 obtain ⟨a0,a1,a2,a3⟩:=J5 hb h1
 have b1:=hb.right a3
 obtain ⟨_,r1,r2,r3⟩:=J5 (s:=(fA s).2) b1 h2
 have b2:=b1.right r3
 obtain ⟨_,s1,s2,s3⟩:=J5 (s:=(fR' s).2) b2 hs
 have b2':=b2.right s3
 obtain ⟨_,n1,n2,n3,_⟩:=zaI (s:=gC s) (by rw [hC];exact b2') h4
 have n3':(gS s).2.rest=zc (gN s).1.toNat++(gN s).2.rest:=by rw [←hC];exact n3
 have b3:Byt (gN s).2.rest:=b2'.right n3'
 obtain ⟨_,k2,k3,k4,k5,k6⟩:=Qp (regs:=(fR' s).1) (slots:=(gS s).1) (n:=(gN s).1) (gN s).1.toNat 0 (gN s).2 b3 h5
 have hl:(gB s).1.length=(gN s).1.toNat:=k2
 have n1':1≤(gN s).1:=n1
 have hn:(gN s).1=((gB s).1.length:Int):=by omega
 have n2':(gN s).1≤1048576:=n2
 have r1':0≤(fR' s).1:=r1
 have r2':(fR' s).1≤1048576:=r2
 have s2':(gS s).1≤1048576:=s2
 have a1':0≤(fA s).1:=a1
 have k3':(zw (gB s).1:Int)≤1048576:=by have:(0:Int)+(zw (gB s).1:Int)≤1048576:=k3 (by decide);omega
 have k4':jY (fR' s).1 (gS s).1 (gN s).1 (gB s).1=0:=k4
 refine ⟨a0,?_,k5,?_,a1',r2',s2',by dsimp only;omega⟩
 ·have hz:JL (fA s).1 (fR' s).1 (gS s).1 (gB s).1=0:=by
   unfold JL
   rw [if_neg (by omega),if_neg (by omega),if_neg (by omega),if_neg (by omega),if_neg (by omega)]
  unfold eMF
  dsimp only
  rw [if_pos hz,←hn]
  exact k4'
 ·show s.rest=(zc _++(zc _++(zc _++(zc (gB s).1.length++zn _))))++_
  rw [hl]
  simp only [List.append_assoc]
  have k6':(gN s).2.rest=zn (gB s).1++(gB s).2.rest:=k6
  have s3':(fR' s).2.rest=zc (gS s).1.toNat++(gS s).2.rest:=s3
  have r3':(fA s).2.rest=zc (fR' s).1.toNat++(fR' s).2.rest:=r3
  rw [←k6',←n3',←s3',←r3']
  exact a3
theorem zb2{bd why:Int}{s:Ip}(hb:0<bd):0≤(jh bd why s).1∧(jh bd why s).1<bd:=by
 unfold jh
 split
 ·exact ⟨Int.le_refl _,hb⟩
 ·split
  ·exact ⟨Int.le_refl _,hb⟩
  ·split
   ·exact ⟨Int.le_refl _,hb⟩
   ·exact ⟨by dsimp only;omega,by dsimp only;omega⟩
theorem Jb{s:Ip}:0≤(yo s).1∧(yo s).1≤1048576:=by
 have:=zb2 (bd:=1048577) (why:=6) (s:=s) (by decide)
 unfold yo
 omega
theorem JG{k:Int}{s:Ip}:0≤(yC k s).1∧(yC k s).1≤1048576:=by
 unfold yC
 split
 ·exact ⟨Int.le_refl _,(by show (0:Int)≤1048576;decide)⟩
 ·exact Jb
end Go.Proofs.YtnifhpbgmjcndaaGreat
