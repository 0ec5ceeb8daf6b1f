import Derived.Defers
import Derived.Recover
import Derived.Test.YtnifhpbgmjcndaaGreatCcCur
import Derived.Test.YtnifhpbgmjcndaaGreatFcProg
import Derived.Test.YtnifhpbgmjcndaaGreatFcMfn
import Derived.Test.YtnifhpbgmjcndaaGreatPk24
import Derived.Test.YtnifhpbgmjcndaaGreatPk20
set_option linter.unusedVariables false
set_option linter.unusedSimpArgs false
set_option linter.unusedSectionVars false
set_option maxRecDepth 100000
set_option maxHeartbeats 8000000
namespace Go.Proofs.YtnifhpbgmjcndaaGreat
open Go.RowKit
def zd9(e:Int):List PanicEntry:= [{v:= .iface 68 (.agg #[.int .i64 e]),recovered:=false}]
theorem jy(er:Int)(w:World):
  Calls Tryz.prog 27 #[.int .i64 er] w fun e w'=>e=(if er≠0 then .panicked (zd9 er) else .returned (.tuple #[]))∧w=w':=by
 by_cases h0:er=0
 ·subst h0
  go_enter Tryz.func27,Tryz.ntmps27
  go_wp2
  first|go_end0|refine bodyPost_ret (results_none rfl _ _ _) rfl ?_
  exact ⟨by simp,rfl⟩
 ·have h1:(er==0)=false:=by simp [h0]
  have h2:(er !=0)=true:=by simp [h0]
  rw [if_pos h0]
  clear h0
  go_enter Tryz.func27,Tryz.ntmps27
  go_wp2
  exact ⟨rfl,rfl,rfl⟩
theorem Q4{w W1:World}{q p:Nat}{z0 z1 z2 z3 z4 z5 z6 z7 y:Value}{T:TypeId}(hq:Row W1 q 31 #[z0,z1,z2,z3,z4,z5,z6,z7])(hp:Row W1 p T #[y])(hne:¬q=p)(hm:Mods (fun k=>k=q∨k=p) w W1)(er:Int):
  Row ((put8c W1 q (.int .i64 0) (.int .i64 0) (.slice none 0 0) (.int .i64 0) (.int .i64 0) (.int .i64 0) (.slice none 0 0) (.slice none 0 0)).setCell ⟨p,0,none⟩ (.int .i64 er)) q 31 #[.int .i64 0,.int .i64 0,.slice none 0 0,.int .i64 0,.int .i64 0,.int .i64 0,.slice none 0 0,.slice none 0 0]∧Row ((put8c W1 q (.int .i64 0) (.int .i64 0) (.slice none 0 0) (.int .i64 0) (.int .i64 0) (.int .i64 0) (.slice none 0 0) (.slice none 0 0)).setCell ⟨p,0,none⟩ (.int .i64 er)) p T #[.int .i64 er]∧Mods (fun k=>k=q∨k=p) w ((put8c W1 q (.int .i64 0) (.int .i64 0) (.slice none 0 0) (.int .i64 0) (.int .i64 0) (.int .i64 0) (.slice none 0 0) (.slice none 0 0)).setCell ⟨p,0,none⟩ (.int .i64 er)):=by
 have h1:=hq.put8c (.int .i64 0) (.int .i64 0) (.slice none 0 0) (.int .i64 0) (.int .i64 0) (.int .i64 0) (.slice none 0 0) (.slice none 0 0)
 have m1:Mods (Is q) W1 (put8c W1 q (.int .i64 0) (.int .i64 0) (.slice none 0 0) (.int .i64 0) (.int .i64 0) (.int .i64 0) (.slice none 0 0) (.slice none 0 0)):=(((((((((Mods.refl _ W1).put 0 _).put 1 _).put 2 _).put 3 _).put 4 _).put 5 _).put 6 _).put 7 _)
 have h2:=hp.mods m1 (by unfold Is;omega)
 have m2:Mods (Is p) (put8c W1 q (.int .i64 0) (.int .i64 0) (.slice none 0 0) (.int .i64 0) (.int .i64 0) (.int .i64 0) (.slice none 0 0) (.slice none 0 0)) ((put8c W1 q (.int .i64 0) (.int .i64 0) (.slice none 0 0) (.int .i64 0) (.int .i64 0) (.int .i64 0) (.slice none 0 0) (.slice none 0 0)).setCell ⟨p,0,none⟩ (.int .i64 er)):=(Mods.refl _ _).put 0 _
 refine ⟨h1.mods m2 (by unfold Is;omega),h2.put 0 _,?_⟩
 exact hm.trans ((m1.mono (fun k hk=> .inl hk)).trans (m2.mono (fun k hk=> .inr hk)))
theorem zea(x:Int)(W:World):(Instr.typeAssert (.iface 68 (.agg #[.int .i64 x])) 20 68 true).run Tryz.prog W= .ok (.tuple #[.agg #[.int .i64 x],.bool true]) W:=by
 kernel_rfl
theorem YI(q p:Nat)(er:Int)(older:List PanicEntry)(z0 z1 z2 z3 z4 z5 z6 z7 y:Value)(T:TypeId)(w:World)(hq:Row w q 31 #[z0,z1,z2,z3,z4,z5,z6,z7])(hp:Row w p T #[y])(hne:¬q=p)(hne':¬p=q):
  CallsD Tryz.prog 22 #[.pointer (some ⟨q,0,none⟩),.pointer (some ⟨p,0,none⟩)] (.panicking ({v:= .iface 68 (.agg #[.int .i64 er]),recovered:=false}::older)) w fun x u' w'=>
   x= .returned (.tuple #[])∧u'= .panicking ({v:= .iface 68 (.agg #[.int .i64 er]),recovered:=true}::older)∧Row w' q 31 #[.int .i64 0,.int .i64 0,.slice none 0 0,.int .i64 0,.int .i64 0,.int .i64 0,.slice none 0 0,.slice none 0 0]∧Row w' p T #[.int .i64 er]∧Mods (fun k=>k=q∨k=p) w w':=by
 refine callsD_of_wpS Tryz.func22 rfl fun c₀ cs hu=> ?_
 apply wpS_seq
 apply wpS_region
 simp [wpOpsS,go_sem,recoverD,hu,Tryz.ntmps22,Exit.thenS]
 refine wpS_of_wp ?_
 have hfr:(#[Value.pointer (some ⟨q,0,none⟩),Value.pointer (some ⟨p,0,none⟩)]++((Array.replicate 17 undef).setIfInBounds 3 (.iface 68 (.agg #[.int .i64 er]))).setIfInBounds 0 (.iface 68 (.agg #[.int .i64 er])))= #[.pointer (some ⟨q,0,none⟩),.pointer (some ⟨p,0,none⟩),.iface 68 (.agg #[.int .i64 er]),undef,undef,.iface 68 (.agg #[.int .i64 er]),undef,undef,undef,undef,undef,undef,undef,undef,undef,undef,undef,undef,undef]:=by simp [Array.replicate]
 rw [hfr]
 clear hfr
 have HQ:=qH hq
 have HP:=qH hp
 clear hq hp
 have hta:=zea er w
 go_upto_region 5 with fail
 have HQ1:=qH (HQ.out.alloc (.cells #[.int .i64 er] 68))
 have HP1:=qH (HP.out.alloc (.cells #[.int .i64 er] 68))
 have HF1:=qH (Row.new w 68 #[.int .i64 er])
 have HM1:Hid (Mods (fun k=>k=q∨k=p) w (w.alloc (.cells #[.int .i64 er] 68))):=(Mods.refl _ w).alloc _
 have l1:=HQ.out.lt
 have l2:=HP.out.lt
 clear hta HQ HP
 generalize w.alloc (.cells #[.int .i64 er] 68)=W1 at*
 generalize w.heap.size=fb at*
 have n1:¬fb=q:=by omega
 have n2:¬fb=p:=by omega
 have n3:¬q=fb:=by omega
 have n4:¬p=fb:=by omega
 clear l1 l2
 have e0:=HF1.out.k0
 have p0:=HP1.out.k0;have h0:=HP1.out.frozen 0
 have q0:=HQ1.out.k0;have q1:=HQ1.out.k1;have q2:=HQ1.out.k2;have q3:=HQ1.out.k3;have q4:=HQ1.out.k4;have q5:=HQ1.out.k5;have q6:=HQ1.out.k6;have q7:=HQ1.out.k7
 have g0:=HQ1.out.frozen 0;have g1:=HQ1.out.frozen 1;have g2:=HQ1.out.frozen 2;have g3:=HQ1.out.frozen 3;have g4:=HQ1.out.frozen 4;have g5:=HQ1.out.frozen 5;have g6:=HQ1.out.frozen 6;have g7:=HQ1.out.frozen 7
 go_region
 have HE:=qH (Q4 HQ1.out HP1.out hne HM1.out er)
 obtain ⟨w1,w2,w3⟩:=HE.out
 unfold put8c at w1 w2 w3
 exact ⟨rfl,_,rfl,.tuple #[],results_none rfl _ _ _,rfl,rfl,w1.drew,w2.drew,w3.drew⟩
theorem Q5(q p:Nat)(w:World):
  CallsD Tryz.prog 22 #[.pointer (some ⟨q,0,none⟩),.pointer (some ⟨p,0,none⟩)] .returning w fun x u' w'=>x= .returned (.tuple #[])∧u'= .returning∧w'=w:=by
 refine callsD_of_wpS Tryz.func22 rfl fun c₀ cs hu=> ?_
 apply wpS_seq
 apply wpS_region
 simp [wpOpsS,go_sem,recoverD,hu,Tryz.ntmps22,Exit.thenS]
 refine wpS_of_wp ?_
 have hfr:(#[Value.pointer (some ⟨q,0,none⟩),Value.pointer (some ⟨p,0,none⟩)]++((Array.replicate 17 undef).setIfInBounds 3 (Value.nilIface)).setIfInBounds 0 (Value.nilIface))= #[.pointer (some ⟨q,0,none⟩),.pointer (some ⟨p,0,none⟩),Value.nilIface,undef,undef,Value.nilIface,undef,undef,undef,undef,undef,undef,undef,undef,undef,undef,undef,undef,undef]:=by simp [Array.replicate]
 rw [hfr]
 clear hfr
 go_wp2
 refine ⟨rfl,.returning,?_,.tuple #[],results_none rfl _ _ _,rfl,rfl,rfl⟩
 cases c₀
 simp_all
def JY(l:List Nat):Int:=if l.length<2 then 1 else if l.getD 0 0≠82∨l.getD 1 0≠67 then 4 else if l.length<3 then 1 else if l.getD 2 0≠1 then 5 else 0
theorem zfp(l:List Nat):yD l=if JY l≠0 then (zCt,JY l) else JX (l.drop 3):=by
 unfold yD JY
 by_cases h1:l.length<2
 ·rw [if_pos h1,if_pos h1,if_pos (by decide)]
 rw [if_neg h1,if_neg h1]
 by_cases h2:l.getD 0 0≠82∨l.getD 1 0≠67
 ·rw [if_pos h2,if_pos h2,if_pos (by decide)]
 rw [if_neg h2,if_neg h2]
 by_cases h3:l.length<3
 ·rw [if_pos h3,if_pos h3,if_pos (by decide)]
 rw [if_neg h3,if_neg h3]
 by_cases h4:l.getD 2 0≠1
 ·rw [if_pos h4,if_pos h4,if_pos (by decide)]
 rw [if_neg h4,if_neg h4,if_neg (by decide)]
def hd2(l:List Nat):Ip:=byT (byT ⟨l,0⟩)
def hd3(l:List Nat):Ip:=if byV ⟨l,0⟩≠82∨byV (byT ⟨l,0⟩)≠67 then zA 4 (hd2 l) else hd2 l
def hd5(l:List Nat):Ip:=if byV (hd3 l)≠1 then zA 5 (byT (hd3 l)) else byT (hd3 l)
theorem zgv(l:List Nat):(hd5 l).err=JY l∧(JY l=0→(hd5 l).rest=l.drop 3):=by
 match l with
 | []=>exact ⟨rfl,fun h=>by revert h;decide⟩
 | [x]=>
  have e2:hd2 [x]=⟨[],1⟩:=rfl
  have e3:hd3 [x]=⟨[],1⟩:=by
   unfold hd3
   rw [e2]
   split<;>rfl
  have e5:hd5 [x]=⟨[],1⟩:=by
   unfold hd5
   rw [e3]
   rfl
  rw [e5]
  have e6:JY [x]=1:=if_pos (by simp)
  exact ⟨e6.symm,fun h=>by rw [e6] at h;cases h⟩
 |x::y::r=>
  have e0:∀d,(x::y::r).getD 0 d=x:=fun _=>rfl
  have e1:∀d,(x::y::r).getD 1 d=y:=fun _=>rfl
  have v0:byV ⟨x::y::r,0⟩=x:=rfl
  have v1:byV (byT ⟨x::y::r,0⟩)=y:=rfl
  have e2:hd2 (x::y::r)=⟨r,0⟩:=rfl
  unfold JY
  rw [if_neg (by simp),e0,e1]
  by_cases h1:x≠82∨y≠67
  ·have e3:hd3 (x::y::r)=⟨[],4⟩:=by
    unfold hd3
    rw [v0,v1,if_pos h1,e2]
    rfl
   have e5:hd5 (x::y::r)=⟨[],4⟩:=by
    unfold hd5
    rw [e3]
    rfl
   rw [if_pos h1,e5]
   exact ⟨rfl,fun h=>by cases h⟩
  have e3:hd3 (x::y::r)=⟨r,0⟩:=by
   unfold hd3
   rw [v0,v1,if_neg h1,e2]
  rw [if_neg h1]
  match r with
  | []=>
   have e5:hd5 [x,y]=⟨[],1⟩:=by
    unfold hd5
    rw [e3]
    rfl
   rw [if_pos (by simp),e5]
   exact ⟨rfl,fun h=>by cases h⟩
  |z::r=>
   have e9:∀d,(x::y::z::r).getD 2 d=z:=fun _=>rfl
   rw [if_neg (by simp),e9]
   have v3:byV (hd3 (x::y::z::r))=z:=by rw [e3];rfl
   have t3:byT (hd3 (x::y::z::r))=⟨r,0⟩:=by rw [e3];rfl
   unfold hd5
   rw [v3,t3]
   by_cases h2:z≠1
   ·rw [if_pos h2,if_pos h2]
    exact ⟨rfl,fun h=>by cases h⟩
   ·rw [if_neg h2,if_neg h2]
    exact ⟨rfl,fun _=>rfl⟩
def RHd(lo p:Nat)(l:List Nat)(A:Option Addr)(c:Nat)(w:World)(e:Ending)(w':World):Prop:=
 ∃A' c' x,e= .returned (.slice A' (x:List Nat).length c')∧Mods (Is p) w w'∧(∃t,CE lo p l A c t w'∧t.err=JY l∧(JY l=0→t.rest= []))∧(JY l=0→x=l.drop 3)∧w'.ownsRow w.heap.size 5 1 (.slice A' x.length c') x.length (bts x)
theorem zeb{w:World}{lo p:Nat}{l:List Nat}{A:Option Addr}{c:Nat}{t:Ip}(h:CE lo p l A c t w)(hl:l.length≤1000000):
  Calls Tryz.prog 67 #[.pointer (some ⟨p,0,none⟩)] w fun e w'=>e= .returned (.int .i64 (if t.err=0 then (t.rest.length:Int) else 0))∧∃n,w.drewN n=w':=by
 obtain ⟨i,hc,hr⟩:=h
 refine (J0 hc).mono ?_
 rintro e w' ⟨rfl,h⟩
 refine ⟨?_,h⟩
 unfold jK
 by_cases h0:t.err=0
 ·rw [if_pos h0,if_pos h0,←hr h0,lr]
  have:=hc.le
  rw [Int.ofNat_sub this]
 ·rw [if_neg h0,if_neg h0]
theorem zfq{w:World}{lo p:Nat}{l:List Nat}{A:Option Addr}{c:Nat}{t:Ip}(h:CE lo p l A c t w)(hl:l.length≤1000000){n:Int}(hn:n=if t.err=0 then (t.rest.length:Int) else 0):
  Calls Tryz.prog 66 #[.pointer (some ⟨p,0,none⟩),.int .i64 n] w fun e w'=>∃A' c' x,e= .returned (.slice A' (x:List Nat).length c')∧Mods (Is p) w w'∧CE lo p l A c ⟨[],t.err⟩ w'∧(t.err=0→x=t.rest)∧w'.ownsRow w.heap.size 5 1 (.slice A' x.length c') x.length (bts x):=by
 obtain ⟨i,hc,hr⟩:=h
 have hle:=hc.le
 have hln:t.err=0→t.rest.length≤1000000:=fun h0=>by rw [←hr h0,lr];omega
 refine (Za hc n (by by_cases h0:t.err=0<;>simp only [h0,if_true,if_false] at hn<;>have:=hln<;>omega) (by omega)).mono ?_
 rintro e w' ⟨A',c',rfl,hm,hc2,ho,_⟩
 refine ⟨A',c',_,rfl,hm,?_,?_,ho⟩
 ·by_cases h0:t.err=0
  ·rw [if_pos h0] at hn
   have hb:jk n (l.drop i)=(0,n.toNat,0):=by
    unfold jk
    rw [hr h0,if_neg (by omega),if_neg (by omega)]
   rw [hb,h0] at hc2
   refine ⟨_,by rw [h0];exact hc2,fun _=> ?_⟩
   have e1:yN i 0 (0,n.toNat,0)=i+n.toNat:=if_pos ⟨rfl,rfl⟩
   rw [e1]
   have:t.rest.length=l.length - i:=by rw [←hr h0,lr]
   exact List.drop_eq_nil_of_le (by omega)
  ·have e1:yQ t.err (jk n (l.drop i))=t.err:=if_neg h0
   rw [e1] at hc2
   exact ⟨_,hc2,fun h9=>absurd h9 h0⟩
 ·intro h0
  rw [if_pos h0] at hn
  rw [h0,Y3 (by omega) (by rw [hr h0];omega),hr h0,hn]
  exact List.take_of_length_le (by simp)
theorem zec{w:World}{lo p:Nat}{l:List Nat}{A:Option Addr}{c:Nat}(h:CE lo p l A c ⟨l,0⟩ w)(hl:l.length≤1000000):
  Calls Tryz.prog 25 #[.pointer (some ⟨p,0,none⟩)] w (RHd lo p l A c w):=by
 obtain ⟨a,ha⟩:∃a,byV ⟨l,0⟩=a:=⟨_,rfl⟩
 obtain ⟨b,hb⟩:∃b,byV (byT ⟨l,0⟩)=b:=⟨_,rfl⟩
 have C1:=qH (Uu h)
 rw [ha] at C1
 have hp:=h.lt
 go_enter Tryz.func25,Tryz.ntmps25
 go_wp2_with fail
 refine C1.out.mono ?_
 rintro e W1 ⟨rfl,hm1,h1⟩
 have C2:=qH (Uu h1)
 rw [hb] at C2
 have HM1:=qH hm1
 clear C1 h hm1 h1
 go_wp2_with fail
 refine C2.out.mono ?_
 rintro e W2 ⟨rfl,hm2,h2⟩
 have HC2:Hid (CE lo p l A c (hd2 l) W2):=h2
 have HM2:=qH (HM1.out.trans hm2)
 clear C2 HM1 hm2 h2
 obtain ⟨bl,hbl⟩:∃bl,decide (a≠82∨b≠67)=bl:=⟨_,rfl⟩
 have HBL:=qH hbl
 have H3:Hid (hd3 l=if a≠82∨b≠67 then zA 4 (hd2 l) else hd2 l):=by show _=_;unfold hd3;rw [ha,hb]
 clear hbl ha hb
 go_upto_region 2 with fail
 go_cut [16] from 5 (fun s16 wx=>s16= .bool bl∧wx=W2)
 case first=>
  by_cases h0:a=82
  ·have d0:((a:Int) !=(((({data:= #[82,67]}:ByteArray)[0]'(by decide)).toNat:Nat):Int))=false:=by show ((a:Int) !=82)=false;simp;omega
   have hb:Hid (((b:Int) !=(((({data:= #[82,67]}:ByteArray)[1]'(by decide)).toNat:Nat):Int))=bl):=by
    show ((b:Int) !=67)=_
    rw [←HBL.out,Bool.eq_iff_iff]
    simp [h0]
    omega
   clear h0
   go_wp2_with fail
   go_meet
   case rel=>exact ⟨by rw [hb.out],rfl⟩
  ·have d0:((a:Int) !=(((({data:= #[82,67]}:ByteArray)[0]'(by decide)).toNat:Nat):Int))=true:=by show ((a:Int) !=82)=true;simp;omega
   have hb:Hid (true=bl):=by show _=_;rw [←HBL.out];simp [h0]
   clear h0
   go_wp2_with fail
   go_meet
   case rel=>exact ⟨by rw [←hb.out],rfl⟩
 case rest=>
  obtain ⟨hs16,hwc⟩:=hcut
  subst hs16 hwc
  go_upto_if 16 with fail
  obtain ⟨W5,hW5⟩:∃z,z=wc:=⟨_,rfl⟩
  subst hW5
  go_cut [] from 5 (fun wx=>Hid (CE lo p l A c (hd3 l) wx)∧Hid (Mods (Is p) w wx))
  case first=>
   cases bl
   ·have hs:Hid (hd3 l=hd2 l):=by show _=_;rw [H3.out,if_neg (of_decide_eq_false HBL.out)]
    go_wp2_with fail
    go_meet
    case rel=>exact ⟨by rw [hs.out];exact HC2,HM2⟩
   ·have hs:Hid (hd3 l=zA 4 (hd2 l)):=by show _=_;rw [H3.out,if_pos (of_decide_eq_true HBL.out)]
    have C3:=qH (Jr HC2.out 4 (by decide))
    go_wp2_with fail
    refine C3.out.mono ?_
    rintro e W6 ⟨rfl,hm,hc⟩
    have HX:Hid (CE lo p l A c (hd3 l) W6):=by rw [hs.out];exact hc
    have HY:=qH (HM2.out.trans hm)
    clear hm hc
    go_wp2_with fail
    go_meet
    case rel=>exact ⟨HX,HY⟩
  case rest=>
   clear HC2 HM2 HBL H3
   obtain ⟨HC3,HM3⟩:=hcut
   obtain ⟨d,hd⟩:∃d,byV (hd3 l)=d:=⟨_,rfl⟩
   have C4:=qH (Uu HC3.out)
   rw [hd] at C4
   have H5:Hid (hd5 l=if d≠1 then zA 5 (byT (hd3 l)) else byT (hd3 l)):=by show _=_;unfold hd5;rw [hd]
   clear hd
   go_wp2_with fail
   refine C4.out.mono ?_
   rintro e W4 ⟨rfl,hm,hc⟩
   have HC4:=qH hc
   have HM4:=qH (HM3.out.trans hm)
   clear HC3 HM3 C4 hm hc
   go_upto_if 21 with fail
   obtain ⟨W5,hW5⟩:∃z,z=W4:=⟨_,rfl⟩
   subst hW5
   go_cut [] from 5 (fun wx=>Hid (CE lo p l A c (hd5 l) wx)∧Hid (Mods (Is p) w wx))
   case first=>
    by_cases h0:d=1
    ·have d0:((d:Int) !=1)=false:=by simp;omega
     have hs:Hid (hd5 l=byT (hd3 l)):=by show _=_;rw [H5.out,if_neg fun h=>h h0]
     clear h0
     go_wp2_with fail
     go_meet
     case rel=>exact ⟨by rw [hs.out];exact HC4,HM4⟩
    ·have d0:((d:Int) !=1)=true:=by simp;omega
     have hs:Hid (hd5 l=zA 5 (byT (hd3 l))):=by show _=_;rw [H5.out,if_pos h0]
     have C5:=qH (Jr HC4.out 5 (by decide))
     clear h0
     go_wp2_with fail
     refine C5.out.mono ?_
     rintro e W6 ⟨rfl,hm,hc⟩
     have HX:Hid (CE lo p l A c (hd5 l) W6):=by rw [hs.out];exact hc
     have HY:=qH (HM4.out.trans hm)
     clear hm hc
     go_wp2_with fail
     go_meet
     case rel=>exact ⟨HX,HY⟩
   case rest=>
    clear HC4 HM4 H5
    obtain ⟨HC5,HM5⟩:=hcut
    obtain ⟨k,hk⟩:∃k,(if (hd5 l).err=0 then ((hd5 l).rest.length:Int) else 0)=k:=⟨_,rfl⟩
    have C6:=qH (zeb HC5.out hl)
    rw [hk] at C6
    have HK:=qH hk
    clear hk
    go_wp2_with fail
    refine C6.out.mono ?_
    rintro e W6 ⟨rfl,n6,rfl⟩
    have C7:=qH (zfq (HC5.out.mods (S:=No) ((Mods.refl _ _).drewN n6) fun _ h=>h.elim) hl HK.out.symm)
    have HM6:=qH (HM5.out.drewN n6)
    clear C6 HC5 HM5 HK
    generalize wc.drewN n6=W6 at*
    go_wp2_with fail
    refine C7.out.mono ?_
    rintro e W7 ⟨A',c',x,rfl,hm,hc,hx,ho⟩
    have HX:=qH hx
    have HO:=qH ho
    have HC7:=qH hc
    have HM7:=qH (HM6.out.trans hm)
    have HZ:=qH HM6.out.size
    clear C7 HM6 hm hc hx ho
    go_wp2_with fail
    go_ret
    obtain ⟨e1,e2⟩:=zgv l
    exact ⟨A',c',x,rfl,HM7.out,⟨_,HC7.out,e1,fun _=>rfl⟩,fun h=>(HX.out (e1.trans h)).trans (e2 h),jo HO.out HZ.out⟩
def RdH(l:List Nat)(w:World)(e:Ending)(w':World):Prop:=
 Below w.heap.size w w'∧((JY l=0∧∃A c,e= .returned (.slice A (l.drop 3).length c)∧w'.ownsRow w.heap.size 5 1 (.slice A (l.drop 3).length c) (l.drop 3).length (bts (l.drop 3)))∨(JY l≠0∧e= .panicked (zd9 (JY l))))
theorem zci(A:Option Addr)(l:List Nat)(k:Nat)(w:World)(hs:Sees w w.heap.size A (bts l))(hb:Byt l)(hl:l.length≤1000000):
  Calls Tryz.prog 24 #[.slice A l.length k,.func (.func 25) #[] #[]] w (RdH l w):=by
 have CN:=qH (YK A l k w hs hb hl)
 unfold RdH
 obtain ⟨E,hE⟩:∃E,JY l=E:=⟨_,rfl⟩
 rw [hE]
 have HE0:Hid (JY l=E):=hE
 clear hs hE
 go_enter Tryz.func24,Tryz.ntmps24
 go_wp2_with fail
 refine CN.out.mono ?_
 rintro e W1 ⟨p,A',c',rfl,hp,hce,hb1⟩
 have CG:=qH (zec hce hl)
 have HB1:=qH hb1
 have hpl:=hce.lt
 clear CN hce hb1 hb
 go_wp2_with fail
 refine CG.out.mono ?_
 rintro e W2 ⟨A2,c2,x,rfl,hm2,⟨t,hc2,ht,ht2⟩,hx,ho⟩
 have HX:=qH hx
 have HO2:=qH ho
 have HB2:Hid (Below w.heap.size w W2):=HB1.out.trans (hm2.below HB1.out.size fun k hk=>by unfold Is at hk;omega)
 have CE2:=qH (YL hc2)
 have hlo:=HB1.out.size
 have HE:Hid (yC t=JY l):=by
  show _=_
  unfold yC
  rw [ht]
  by_cases h0:JY l=0
  ·rw [if_neg (fun h=>by rw [ht2 h0] at h;exact absurd h.2 (by simp))]
  ·rw [if_neg (fun h=>h0 h.1)]
 clear CG HB1 hm2 hx ho ht ht2
 go_wp2_with fail
 refine CE2.out.mono ?_
 rintro e W3 ⟨rfl,hm3,hc3⟩
 have HO3:=qH (hm3.own HO2.out fun k h1 h3=>by have:=zW HO2.out k h1;unfold Is at h3;omega)
 have HB3:Hid (Below w.heap.size w W3):=HB2.out.trans (hm3.below HB2.out.size fun k hk=>by unfold Is at hk;omega)
 have CR:=qH (Js hc3)
 rw [show (⟨t.rest,yC t⟩:Ip).err=JY l from HE.out] at CR
 clear CE2 HO2 HB2 hm3 hc3 hc2 HE
 rw [HE0.out] at CR
 have HX3:Hid (E=0→x=l.drop 3):=by rw [←HE0.out];exact HX.out
 clear HX HE0
 go_wp2_with fail
 refine CR.out.mono ?_
 rintro e Wx ⟨rfl,rfl⟩
 clear CR
 go_wp2_with fail
 refine (jy _ _).mono ?_
 rintro e Wx ⟨rfl,rfl⟩
 by_cases h0:E=0
 ·rw [if_neg (fun h=>h h0)]
  go_wp2
  go_ret
  obtain rfl:=HX3.out h0
  exact ⟨HB3.out,.inl ⟨h0,A2,c2,rfl,jo HO3.out hlo⟩⟩
 ·rw [if_pos h0]
  exact ⟨rfl,HB3.out,.inr ⟨h0,rfl⟩⟩
theorem Qv(w:World):Calls Tryz.prog 26 #[] w fun e w'=>∃g,e= .returned (.slice (some ⟨g,0,none⟩) 3 3)∧w'.ownsRow w.heap.size 5 1 (.slice (some ⟨g,0,none⟩) 3 3) 3 (bts zn)∧Below w.heap.size w w':=by
 have HB:=qH ((ld w.heap.size w).alloc (la _) (.cells #[.int .u8 1,.int .u8 2,.int .u8 3] 5))
 have HR:=qH (Row.new w 5 #[.int .u8 1,.int .u8 2,.int .u8 3])
 go_enter Tryz.func26,Tryz.ntmps26
 go_wp2
 go_ret
 exact ⟨w.heap.size,rfl,⟨rfl,.inr ⟨w.heap.size,3,_,rfl,la _,HR.out,by decide,by decide,rfl,rfl⟩⟩,HB.out⟩
def RdF(l:List Nat)(w:World)(e:Ending)(w':World):Prop:=
 Below w.heap.size w w'∧((yC (zJ ⟨l,0⟩).2=0∧∃v vs,e= .returned (.agg #[.int .i64 (zJ ⟨l,0⟩).1.args,.int .i64 (zJ ⟨l,0⟩).1.regs,v])∧NestV Jk w' w.heap.size v vs (zJ ⟨l,0⟩).1.bs)∨
  (yC (zJ ⟨l,0⟩).2≠0∧e= .panicked (zd9 (yC (zJ ⟨l,0⟩).2))))
theorem za9(A:Option Addr)(l:List Nat)(k:Nat)(w:World)(hs:Sees w w.heap.size A (bts l))(hb:Byt l)(hm:l.length≤1000000):
  Calls Tryz.prog 28 #[.slice A l.length k,.func (.func 29) #[] #[]] w (RdF l w):=by
 have CN:=qH (YK A l k (w.alloc (.cells #[.int .i64 0,.int .i64 0,.slice none 0 0] 25)) ((hs.alloc (la _) _).more (by simp)) hb hm)
 have HB:=qH ((ld w.heap.size w).alloc (la _) (.cells #[.int .i64 0,.int .i64 0,.slice none 0 0] 25))
 have HZ:=qH (Row.new w 25 #[.int .i64 0,.int .i64 0,.slice none 0 0])
 obtain ⟨⟨f,t⟩,hf⟩:∃y,zJ ⟨l,0⟩=y:=⟨_,rfl⟩
 have HF:=qH hf
 unfold RdF
 rw [hf]
 clear hs hf
 go_enter Tryz.func28,Tryz.ntmps28
 go_upto_region 1 with fail
 generalize (w.alloc (.cells #[.int .i64 0,.int .i64 0,.slice none 0 0] 25))=W0 at*
 go_wp2_with fail
 refine CN.out.mono ?_
 rintro e W1 ⟨p,A',c',rfl,hp,hce,hb1⟩
 have CF:=qH (zfH hce)
 rw [HF.out] at CF
 go_wp2_with fail
 refine CF.out.mono ?_
 rintro e W2 ⟨v,vs,rfl,hn,hm2,hce2⟩
 obtain ⟨Av,cv,rfl,_,_,_⟩:=ZW hn
 have hz1:W1.heap.size≤W2.heap.size:=hm2.size
 have hlo:W0.heap.size≤W1.heap.size:=hb1.size
 have hpl:=hce.lt
 have HB2:Hid (Below W0.heap.size W0 W2):=hb1.trans (hm2.below hb1.size fun k hk=>by unfold Is at hk;omega)
 have HN2:=qH hn
 have HC2:=qH hce2
 have HZ2:=qH (HZ.out.below HB2.out HZ.out.lt)
 have hzw:w.heap.size<W0.heap.size:=HZ.out.lt
 clear CN CF hce hb1 hn hm2 hce2 HZ
 go_upto_region 3 with fail
 have HB3:Hid (Below W0.heap.size W0 (W2.alloc (.cells #[.int .i64 f.args,.int .i64 f.regs,.slice Av f.bs.length cv] 25))):=HB2.out.alloc HB2.out.size _
 have HN3:=qH (HN2.out.below ((ld W2.heap.size W2).alloc (la _) (.cells #[.int .i64 f.args,.int .i64 f.regs,.slice Av f.bs.length cv] 25)))
 have HC3:=qH (HC2.out.alloc (.cells #[.int .i64 f.args,.int .i64 f.regs,.slice Av f.bs.length cv] 25))
 have HZ3:=qH (HZ2.out.alloc (.cells #[.int .i64 f.args,.int .i64 f.regs,.slice Av f.bs.length cv] 25))
 have HX3:=qH (Row.new W2 25 #[.int .i64 f.args,.int .i64 f.regs,.slice Av f.bs.length cv])
 have hp2:p<W2.heap.size:=by omega
 clear HB2 HN2 HC2 HZ2
 generalize (W2.alloc (.cells #[.int .i64 f.args,.int .i64 f.regs,.slice Av f.bs.length cv] 25))=W3 at*
 obtain ⟨x,hx⟩:∃x,W2.heap.size=x:=⟨_,rfl⟩
 rw [hx] at HX3 hz1 hp2⊢
 clear hx
 have CE3:=qH (YL HC3.out)
 go_wp2_with fail
 refine CE3.out.mono ?_
 rintro e W4 ⟨rfl,hm4,hce4⟩
 have HB4:Hid (Below W0.heap.size W0 W4):=HB3.out.trans (hm4.below HB3.out.size fun k hk=>by unfold Is at hk;omega)
 have HN4:=qH (HN3.out.mods hm4 fun k h1 _ h3=>by unfold Is at h3;omega)
 have HZ4:=qH (HZ3.out.mods hm4 (by unfold Is;omega))
 have HX4:=qH (HX3.out.mods hm4 (by unfold Is;omega))
 have CR:=qH (Js hce4)
 clear CE3 HB3 HN3 HC3 HZ3 HX3 hm4 hce4
 generalize hE:yC t=E at*
 go_wp2_with fail
 refine CR.out.mono ?_
 rintro e Wx ⟨rfl,rfl⟩
 dsimp only
 clear CR
 go_wp2_with fail
 refine (jy _ _).mono ?_
 rintro e Wx ⟨rfl,rfl⟩
 by_cases h0:E=0
 ·rw [if_neg (fun h=>h h0)]
  have hzx:w.heap.size<x:=by omega
  have z0:=HZ4.out.k0;have z1:=HZ4.out.k1;have z2:=HZ4.out.k2
  have y0:=HZ4.out.frozen 0;have y1:=HZ4.out.frozen 1;have y2:=HZ4.out.frozen 2
  have x0:=HX4.out.k0;have x1:=HX4.out.k1;have x2:=HX4.out.k2
  obtain ⟨b,hbx⟩:∃b,w.heap.size=b:=⟨_,rfl⟩
  have HM:Hid (Mods (Is b) W4 (((W4.setCell ⟨b,0,none⟩ (.int .i64 f.args)).setCell ⟨b,1,none⟩ (.int .i64 f.regs)).setCell ⟨b,2,none⟩ (.slice Av f.bs.length cv))):=(((Mods.refl _ W4).put 0 _).put 1 _).put 2 _
  have HR:Hid (Row (((W4.setCell ⟨b,0,none⟩ (.int .i64 f.args)).setCell ⟨b,1,none⟩ (.int .i64 f.regs)).setCell ⟨b,2,none⟩ (.slice Av f.bs.length cv)) b 25 #[.int .i64 f.args,.int .i64 f.regs,.slice Av f.bs.length cv]):=by
   subst hbx
   have q0:Row _ w.heap.size 25 #[.int .i64 f.args,.int .i64 0,.slice none 0 0]:=HZ4.out.put 0 _
   have q1:Row _ w.heap.size 25 #[.int .i64 f.args,.int .i64 f.regs,.slice none 0 0]:=q0.put 1 _
   exact q1.put 2 _
  have HB5:Hid (Below w.heap.size w (((W4.setCell ⟨b,0,none⟩ (.int .i64 f.args)).setCell ⟨b,1,none⟩ (.int .i64 f.regs)).setCell ⟨b,2,none⟩ (.slice Av f.bs.length cv))):=
   (HB.out.trans (HB4.out.mono HB.out.size)).trans (HM.out.below (lf HB.out.size HB4.out.size) fun k hk=>by unfold Is at hk;omega)
  have HN5:=qH ((HN4.out.mods HM.out fun k h1 _ h3=>by unfold Is at h3;omega).rebase (show w.heap.size≤W1.heap.size by omega))
  have hbx':¬x=b:=by omega
  have hbx'':¬b=x:=by omega
  rw [hbx] at z0 z1 z2 y0 y1 y2⊢
  clear hzx hzw HM HB HB4 HN4 HZ4 HX4 hp hlo hpl hp2 hz1
  go_wp2
  refine bodyPost_ret (results_cell_row rfl _ _ b 25 #[.int .i64 f.args,.int .i64 f.regs,.slice Av f.bs.length cv] (0,0) _ rfl HR.out Tryz.underlying25 rfl (by kernel_rfl)) rfl ?_
  exact ⟨HB5.out,.inl ⟨hE.trans h0,_,vs,rfl,HN5.out⟩⟩
 ·rw [if_pos h0]
  exact ⟨rfl,HB.out.trans (HB4.out.mono HB.out.size),.inr ⟨fun h=>h0 (hE.symm.trans h),by rw [hE]⟩⟩
def RdM(l:List Nat)(w:World)(e:Ending)(w':World):Prop:=
 Below w.heap.size w w'∧((yC (zq ⟨l,0⟩).2=0∧∃v vs,e= .returned (.agg #[.int .i64 (zq ⟨l,0⟩).1.args,.int .i64 (zq ⟨l,0⟩).1.regs,.int .i64 (zq ⟨l,0⟩).1.slots,v])∧NestV jV w' w.heap.size v vs (zq ⟨l,0⟩).1.ms)∨
  (yC (zq ⟨l,0⟩).2≠0∧e= .panicked (zd9 (yC (zq ⟨l,0⟩).2))))
theorem Q6(A:Option Addr)(l:List Nat)(k:Nat)(w:World)(hs:Sees w w.heap.size A (bts l))(hb:Byt l)(hm:l.length≤1000000):
  Calls Tryz.prog 30 #[.slice A l.length k,.func (.func 31) #[] #[]] w (RdM l w):=by
 have CN:=qH (YK A l k (w.alloc (.cells #[.int .i64 0,.int .i64 0,.int .i64 0,.slice none 0 0] 28)) ((hs.alloc (la _) _).more (by simp)) hb hm)
 have HB:=qH ((ld w.heap.size w).alloc (la _) (.cells #[.int .i64 0,.int .i64 0,.int .i64 0,.slice none 0 0] 28))
 have HZ:=qH (Row.new w 28 #[.int .i64 0,.int .i64 0,.int .i64 0,.slice none 0 0])
 obtain ⟨⟨f,t⟩,hf⟩:∃y,zq ⟨l,0⟩=y:=⟨_,rfl⟩
 have HF:=qH hf
 unfold RdM
 rw [hf]
 clear hs hf
 go_enter Tryz.func30,Tryz.ntmps30
 go_upto_region 1 with fail
 generalize (w.alloc (.cells #[.int .i64 0,.int .i64 0,.int .i64 0,.slice none 0 0] 28))=W0 at*
 go_wp2_with fail
 refine CN.out.mono ?_
 rintro e W1 ⟨p,A',c',rfl,hp,hce,hb1⟩
 have CF:=qH (zeo hce)
 rw [HF.out] at CF
 go_wp2_with fail
 refine CF.out.mono ?_
 rintro e W2 ⟨v,vs,rfl,hn,hm2,hce2⟩
 obtain ⟨Av,cv,hv,_,_⟩:=zh hn.outer
 rw [hn.len] at hv
 subst hv
 have hz1:W1.heap.size≤W2.heap.size:=hm2.size
 have hlo:W0.heap.size≤W1.heap.size:=hb1.size
 have hpl:=hce.lt
 have HB2:Hid (Below W0.heap.size W0 W2):=hb1.trans (hm2.below hb1.size fun k hk=>by unfold Is at hk;omega)
 have HN2:=qH hn
 have HC2:=qH hce2
 have HZ2:=qH (HZ.out.below HB2.out HZ.out.lt)
 have hzw:w.heap.size<W0.heap.size:=HZ.out.lt
 clear CN CF hce hb1 hn hm2 hce2 HZ
 go_upto_region 3 with fail
 have HB3:Hid (Below W0.heap.size W0 (W2.alloc (.cells #[.int .i64 f.args,.int .i64 f.regs,.int .i64 f.slots,.slice Av f.ms.length cv] 28))):=HB2.out.alloc HB2.out.size _
 have HN3:=qH (HN2.out.below ((ld W2.heap.size W2).alloc (la _) (.cells #[.int .i64 f.args,.int .i64 f.regs,.int .i64 f.slots,.slice Av f.ms.length cv] 28)))
 have HC3:=qH (HC2.out.alloc (.cells #[.int .i64 f.args,.int .i64 f.regs,.int .i64 f.slots,.slice Av f.ms.length cv] 28))
 have HZ3:=qH (HZ2.out.alloc (.cells #[.int .i64 f.args,.int .i64 f.regs,.int .i64 f.slots,.slice Av f.ms.length cv] 28))
 have HX3:=qH (Row.new W2 28 #[.int .i64 f.args,.int .i64 f.regs,.int .i64 f.slots,.slice Av f.ms.length cv])
 have hp2:p<W2.heap.size:=by omega
 clear HB2 HN2 HC2 HZ2
 generalize (W2.alloc (.cells #[.int .i64 f.args,.int .i64 f.regs,.int .i64 f.slots,.slice Av f.ms.length cv] 28))=W3 at*
 obtain ⟨x,hx⟩:∃x,W2.heap.size=x:=⟨_,rfl⟩
 rw [hx] at HX3 hz1 hp2⊢
 clear hx
 have CE3:=qH (YL HC3.out)
 go_wp2_with fail
 refine CE3.out.mono ?_
 rintro e W4 ⟨rfl,hm4,hce4⟩
 have HB4:Hid (Below W0.heap.size W0 W4):=HB3.out.trans (hm4.below HB3.out.size fun k hk=>by unfold Is at hk;omega)
 have HN4:=qH (HN3.out.mods hm4 fun k h1 _ h3=>by unfold Is at h3;omega)
 have HZ4:=qH (HZ3.out.mods hm4 (by unfold Is;omega))
 have HX4:=qH (HX3.out.mods hm4 (by unfold Is;omega))
 have CR:=qH (Js hce4)
 clear CE3 HB3 HN3 HC3 HZ3 HX3 hm4 hce4
 generalize hE:yC t=E at*
 go_wp2_with fail
 refine CR.out.mono ?_
 rintro e Wx ⟨rfl,rfl⟩
 dsimp only
 clear CR
 go_wp2_with fail
 refine (jy _ _).mono ?_
 rintro e Wx ⟨rfl,rfl⟩
 by_cases h0:E=0
 ·rw [if_neg (fun h=>h h0)]
  have hzx:w.heap.size<x:=by omega
  have z0:=HZ4.out.k0;have z1:=HZ4.out.k1;have z2:=HZ4.out.k2;have z3:=HZ4.out.k3
  have y0:=HZ4.out.frozen 0;have y1:=HZ4.out.frozen 1;have y2:=HZ4.out.frozen 2;have y3:=HZ4.out.frozen 3
  have x0:=HX4.out.k0;have x1:=HX4.out.k1;have x2:=HX4.out.k2;have x3:=HX4.out.k3
  obtain ⟨b,hbx⟩:∃b,w.heap.size=b:=⟨_,rfl⟩
  have HM:Hid (Mods (Is b) W4 ((((W4.setCell ⟨b,0,none⟩ (.int .i64 f.args)).setCell ⟨b,1,none⟩ (.int .i64 f.regs)).setCell ⟨b,2,none⟩ (.int .i64 f.slots)).setCell ⟨b,3,none⟩ (.slice Av f.ms.length cv))):=((((Mods.refl _ W4).put 0 _).put 1 _).put 2 _).put 3 _
  have HR:Hid (Row ((((W4.setCell ⟨b,0,none⟩ (.int .i64 f.args)).setCell ⟨b,1,none⟩ (.int .i64 f.regs)).setCell ⟨b,2,none⟩ (.int .i64 f.slots)).setCell ⟨b,3,none⟩ (.slice Av f.ms.length cv)) b 28 #[.int .i64 f.args,.int .i64 f.regs,.int .i64 f.slots,.slice Av f.ms.length cv]):=by
   subst hbx
   have q0:Row _ w.heap.size 28 #[.int .i64 f.args,.int .i64 0,.int .i64 0,.slice none 0 0]:=HZ4.out.put 0 _
   have q1:Row _ w.heap.size 28 #[.int .i64 f.args,.int .i64 f.regs,.int .i64 0,.slice none 0 0]:=q0.put 1 _
   have q2:Row _ w.heap.size 28 #[.int .i64 f.args,.int .i64 f.regs,.int .i64 f.slots,.slice none 0 0]:=q1.put 2 _
   exact q2.put 3 _
  have HB5:Hid (Below w.heap.size w ((((W4.setCell ⟨b,0,none⟩ (.int .i64 f.args)).setCell ⟨b,1,none⟩ (.int .i64 f.regs)).setCell ⟨b,2,none⟩ (.int .i64 f.slots)).setCell ⟨b,3,none⟩ (.slice Av f.ms.length cv))):=
   (HB.out.trans (HB4.out.mono HB.out.size)).trans (HM.out.below (lf HB.out.size HB4.out.size) fun k hk=>by unfold Is at hk;omega)
  have HN5:=qH ((HN4.out.mods HM.out fun k h1 _ h3=>by unfold Is at h3;omega).rebase (show w.heap.size≤W1.heap.size by omega))
  have hbx':¬x=b:=by omega
  have hbx'':¬b=x:=by omega
  rw [hbx] at z0 z1 z2 z3 y0 y1 y2 y3⊢
  clear hzx hzw HM HB HB4 HN4 HZ4 HX4 hp hlo hpl hp2 hz1
  go_wp2
  refine bodyPost_ret (results_cell_row rfl _ _ b 28 #[.int .i64 f.args,.int .i64 f.regs,.int .i64 f.slots,.slice Av f.ms.length cv] (0,0) _ rfl HR.out Tryz.underlying28 rfl (by kernel_rfl)) rfl ?_
  exact ⟨HB5.out,.inl ⟨hE.trans h0,_,vs,rfl,HN5.out⟩⟩
 ·rw [if_pos h0]
  exact ⟨rfl,HB.out.trans (HB4.out.mono HB.out.size),.inr ⟨fun h=>h0 (hE.symm.trans h),by rw [hE]⟩⟩
def RdW(r:List (List Pr) × Ip)(w:World)(e:Ending)(w':World):Prop:=
 Below w.heap.size w w'∧((yC r.2=0∧∃v vs,e= .returned v∧NestV Jn w' w.heap.size v vs r.1)∨(yC r.2≠0∧e= .panicked (zd9 (yC r.2))))
theorem Qb{w:World}{lo p q:Nat}{l:List Nat}{A:Option Addr}{c:Nat}{s:Ip}(h:CE lo p l A c s w)(hl:l.length≤1000000){z0 z3 z7:Value}{vr r n:Int}{Af Ag:Option Addr}{nb cf ng cg:Nat}
  (hf:Row w q 31 #[z0,.int .i64 vr,.slice Af nb cf,z3,.int .i64 r,.int .i64 n,.slice Ag ng cg,z7]) (hm:nb≤1000000) (hvr:0≤vr∧vr≤1048576) (hr:0≤r∧r≤1048576) (hn:0≤n∧n≤1048576) {zs:List (List Pr)} {t:Ip} (he:yA vr r n nb s=(zs,t)):
  Calls Tryz.prog 33 #[.pointer (some ⟨p,0,none⟩),.pointer (some ⟨q,0,none⟩)] w (RGet lo p l A c zs t w):=by
 have f1:=hf.k1;have f2:=hf.k2
 have g1:=hf.k4;have g2:=hf.k5
 have C:=qH (zeu h (m:=(nb:Int)) hl ⟨by omega,by omega⟩ hvr hr hn (zs:=zs) (t:=t) he)
 clear h hf he
 go_enter Tryz.func33,Tryz.ntmps33
 go_wp2_with fail
 refine C.out.mono ?_
 rintro e W2 ⟨v,vs,rfl,hv,hm2,hc2⟩
 have HV:=qH hv;have HM:=qH hm2;have HC:=qH hc2
 clear hv hm2 hc2 C
 go_wp2
 go_ret
 exact ⟨v,vs,rfl,HV.out,HM.out,HC.out⟩
theorem zcj(A:Option Addr)(l:List Nat)(k:Nat)(w:World)(hs:Sees w w.heap.size A (bts l))(hb:Byt l)(hl:l.length≤1000000){q:Nat}{z0 z3 z7:Value}{vr r n:Int}{Af Ag:Option Addr}{nb cf ng cg:Nat}
  (hf:Row w q 31 #[z0,.int .i64 vr,.slice Af nb cf,z3,.int .i64 r,.int .i64 n,.slice Ag ng cg,z7]) (hm:nb≤1000000) (hvr:0≤vr∧vr≤1048576) (hr:0≤r∧r≤1048576) (hn:0≤n∧n≤1048576):
  Calls Tryz.prog 32 #[.slice A l.length k,.func (.func 33) #[] #[.pointer (some ⟨q,0,none⟩)]] w (RdW (yA vr r n nb ⟨l,0⟩) w):=by
 have CN:=qH (YK A l k w hs hb hl)
 obtain ⟨⟨zs,t⟩,he⟩:∃y,yA vr r n nb ⟨l,0⟩=y:=⟨_,rfl⟩
 have HE:=qH he
 rw [he]
 have HF:=qH hf
 unfold RdW
 dsimp only
 clear hs he hf
 go_enter Tryz.func32,Tryz.ntmps32
 go_wp2_with fail
 refine CN.out.mono ?_
 rintro e W1 ⟨p,A',c',rfl,hp,hce,hb1⟩
 have CG:=qH (Qb hce hl (HF.out.below hb1 HF.out.lt) hm hvr hr hn HE.out)
 have HB1:=qH hb1
 have hpl:=hce.lt
 clear CN HF hce hb1 hb
 go_wp2_with fail
 refine CG.out.mono ?_
 rintro e W2 ⟨v,vs,rfl,hv,hm2,hc2⟩
 have HV2:=qH hv
 have HB2:Hid (Below w.heap.size w W2):=HB1.out.trans (hm2.below HB1.out.size fun k hk=>by unfold Is at hk;omega)
 have CE2:=qH (YL hc2)
 have hlo:=HB1.out.size
 clear CG HB1 hv hm2
 go_wp2_with fail
 refine CE2.out.mono ?_
 rintro e W3 ⟨rfl,hm3,hc3⟩
 have HV3:=qH (HV2.out.mods hm3 fun k h1 _ h3=>by unfold Is at h3;omega)
 have HB3:Hid (Below w.heap.size w W3):=HB2.out.trans (hm3.below HB2.out.size fun k hk=>by unfold Is at hk;omega)
 have CR:=qH (Js hc3)
 clear CE2 HV2 HB2 hm3 hc3 hc2
 generalize hE:yC t=E at*
 go_wp2_with fail
 refine CR.out.mono ?_
 rintro e Wx ⟨rfl,rfl⟩
 dsimp only
 clear CR
 go_wp2_with fail
 refine (jy _ _).mono ?_
 rintro e Wx ⟨rfl,rfl⟩
 by_cases h0:E=0
 ·rw [if_neg (fun h=>h h0)]
  go_wp2
  go_ret
  exact ⟨HB3.out,.inl ⟨hE.trans h0,v,vs,rfl,HV3.out.rebase hlo⟩⟩
 ·rw [if_pos h0]
  exact ⟨rfl,HB3.out,.inr ⟨fun h=>h0 (hE.symm.trans h),by rw [hE]⟩⟩
theorem YZ{P:Program}{fn:Func}{q p:Tmp}{ty ty':TypeId}(h:fn.results= #[.cell q ty',.cell p ty])(tmps:Array Value)(w:World)(g g':Nat)(T':TypeId)(cs':Array Value)(fr':Nat × Nat)(d d':TypeDesc)(v:Value)
  (hp:tmps.getD p undef= .pointer (some ⟨g,0,none⟩)) (hg:w.cell? ⟨g,0,none⟩=some v) (hu:P.underlying ty=some d) (hd:(match d with| .struct _| .array _ _=>true|_=>false)=false)
  (hp2:tmps.getD q undef= .pointer (some ⟨g',0,none⟩)) (hg2:w.heap[g']?=some (.cells cs' T' fr'))
  (hu2:P.underlying ty'=some d') (hd2:(match d' with| .struct _| .array _ _=>true|_=>false)=true) (hi2:(P.info? ty').map (·.size)=some cs'.size):
  (results fn tmps).run P w= .ok (.tuple #[.agg cs',v]) w:=by
 have hp':tmps[p]?.getD undef= .pointer (some ⟨g,0,none⟩):=by simpa using hp
 have hp2':tmps[q]?.getD undef= .pointer (some ⟨g',0,none⟩):=by simpa using hp2
 have hl:(loadVar ty ⟨g,0,none⟩).run P w= .ok v w:=by
  simp [loadVar,Sem.run_bind,run_isAgg_plain hu hd w,hg,Result.andThen]
 simp [results,h,hp',hp2',asAddr,hl,run_loadVar_row w g' T' ty' cs' fr' d' hg2 hu2 hd2 hi2,Sem.run_bind,Result.andThen]
theorem UY{tmps:Array Value}{q p:Nat}{w:World}{x:Int}{z0 z1 z2 z3 z4 z5 z6 z7:Value}(hq:tmps.getD 2 undef= .pointer (some ⟨q,0,none⟩))(hp:tmps.getD 3 undef= .pointer (some ⟨p,0,none⟩))(hrq:Row w q 31 #[z0,z1,z2,z3,z4,z5,z6,z7])(hrp:Row w p 34 #[.int .i64 x]):
  (results Tryz.f10 tmps).run Tryz.prog w= .ok (.tuple #[.agg #[z0,z1,z2,z3,z4,z5,z6,z7],.int .i64 x]) w:=
 YZ rfl tmps w p q 31 #[z0,z1,z2,z3,z4,z5,z6,z7] (0,0) _ _ (.int .i64 x) hp (hrp.cell 0) Tryz.underlying34 rfl hq hrq Tryz.underlying31 rfl (by kernel_rfl)
theorem jp{w W:World}{q p:Nat}{er:Int}{tmps:Array Value}{z0 z1 z2 z3 z4 z5 z6 z7 y:Value}(hq:tmps.getD 2 undef= .pointer (some ⟨q,0,none⟩))(hp:tmps.getD 3 undef= .pointer (some ⟨p,0,none⟩))(hrq:Row W q 31 #[z0,z1,z2,z3,z4,z5,z6,z7])(hrp:Row W p 34 #[y])
  (hb:Below w.heap.size w W) (hq0:w.heap.size≤q) (hqp:q<p):
  Leaves Tryz.prog Tryz.f10 tmps (DecP w (zCt,er)) [{target:= .fn (.func 22) #[.pointer (some ⟨q,0,none⟩),.pointer (some ⟨p,0,none⟩)],args:= #[]}] (.panicking (zd9 er)) W:=by
 refine leaves_cons (f:=22) (args:= #[.pointer (some ⟨q,0,none⟩),.pointer (some ⟨p,0,none⟩)]) (by simp) (by simp [go_sem]) ?_
 refine (YI q p er [] z0 z1 z2 z3 z4 z5 z6 z7 y 34 W hrq hrp (by omega) (by omega)).mono ?_
 rintro e u' w'' ⟨rfl,rfl,hq2,hp2,hm⟩
 exact ⟨_,UY hq hp hq2 hp2,DecP.bad (hb.trans (hm.below hb.size fun k hk=>by omega)) er⟩
theorem zba{w W:World}{q p:Nat}{r:Ct × Int}{x:Int}{tmps:Array Value}{z0 z1 z2 z3 z4 z5 z6 z7:Value}(hq:tmps.getD 2 undef= .pointer (some ⟨q,0,none⟩))(hp:tmps.getD 3 undef= .pointer (some ⟨p,0,none⟩))(hrq:Row W q 31 #[z0,z1,z2,z3,z4,z5,z6,z7])(hrp:Row W p 34 #[.int .i64 x])
  (h:DecP w r (.returned (.tuple #[.agg #[z0,z1,z2,z3,z4,z5,z6,z7],.int .i64 x])) W):
  Leaves Tryz.prog Tryz.f10 tmps (DecP w r) [{target:= .fn (.func 22) #[.pointer (some ⟨q,0,none⟩),.pointer (some ⟨p,0,none⟩)],args:= #[]}] .returning W:=by
 refine leaves_cons (f:=22) (args:= #[.pointer (some ⟨q,0,none⟩),.pointer (some ⟨p,0,none⟩)]) (by simp) (by simp [go_sem]) ?_
 refine (Q5 q p W).mono ?_
 rintro e u' w'' ⟨rfl,rfl,rfl⟩
 exact ⟨_,UY hq hp hrq hrp,h⟩
theorem UZ:∀(ids:List Nat) (xs:List (List Nat)),ids.length=xs.length→∀x∈xs,x.length≤(zD ids xs).length
 |id::ids,y::xs,h,x,hx=>by
  rw [zD,lc]
  rcases List.mem_cons.1 hx with rfl|hx
  ·have:x.length≤(Ji id x).length:=by unfold Ji;simp;omega
   omega
  ·have:=UZ ids xs (by simpa using h) x hx
   omega
 | [],_::_,h,_,_=>by simp at h
 |_, [],_,_,hx=>by cases hx
theorem zck{r:List Nat}(hr:Byt r)(h:yg zn r=0):∃x1 x2 x3,(zL zn r).2.1= [x1,x2,x3]∧Byt x1∧Byt x2∧Byt x3∧x1.length≤r.length∧x2.length≤r.length∧x3.length≤r.length:=by
 obtain ⟨s1,s2⟩:=Zz (ids:=zn) (l:=r) hr h
 have hl3:=ze8 s2 []
 generalize (zL zn r).2.1=ps at*
 have hbp:∀x∈ps,Byt x:=fun x hx c hc=>hr c (by rw [←s1];exact JB zn ps s2.symm x hx c hc)
 have hlp:∀x∈ps,x.length≤r.length:=fun x hx=>by rw [←s1];exact UZ zn ps s2.symm x hx
 generalize ps.getD 0 []=a at*
 generalize ps.getD 1 []=b at*
 generalize ps.getD 2 []=c at*
 subst hl3
 exact ⟨a,b,c,rfl,hbp a (by simp),hbp b (by simp),hbp c (by simp),hlp a (by simp),hlp b (by simp),hlp c (by simp)⟩
theorem zhg{p:List Nat}(hp:Byt p)(h:yC (zJ ⟨p,0⟩).2=0):(zJ ⟨p,0⟩).1.bs.length≤p.length∧0≤(zJ ⟨p,0⟩).1.regs∧(zJ ⟨p,0⟩).1.regs≤1048576:=by
 obtain ⟨a1,a2⟩:=jN h
 obtain ⟨_,f1,f2,f3,_,_,_⟩:=UN (s:=⟨p,0⟩) hp a1
 have hv:=VF.of f1 f2
 have h9:=congrArg List.length f3
 rw [lc] at h9
 have h8:=Yg (f:=(zJ ⟨p,0⟩).1) (n:=p.length) (by have h7:(⟨p,0⟩:Ip).rest.length=p.length:=rfl;omega)
 exact ⟨by omega,hv.r.1,hv.r.2⟩
theorem zhh{p:List Nat}(hp:Byt p)(h:yC (zq ⟨p,0⟩).2=0):0≤(zq ⟨p,0⟩).1.regs∧(zq ⟨p,0⟩).1.regs≤1048576∧0≤(zq ⟨p,0⟩).1.slots∧(zq ⟨p,0⟩).1.slots≤1048576:=by
 obtain ⟨a1,a2⟩:=jN h
 obtain ⟨_,g0,g3,_,_,g1,g2,_⟩:=YU (s:=⟨p,0⟩) hp a1
 have hv:=VG.of g0 g3
 exact ⟨hv.r.1,g1,hv.s.1,g2⟩
structure DW(w:World)(q p:Nat)(A:Option Addr)(c:Nat)(xs:List (List Nat))(zs:Array Value)(y:Value)(W:World):Prop where
 blw:Below w.heap.size w W
 hq:Row W q 31 zs
 hp:Row W p 34 #[y]
 own:Lst W (p+1) (.slice A xs.length c) xs
 qw:w.heap.size≤q
 qp:q<p
section
variable {w W W' : World} {q p : Nat} {A : Option Addr} {c : Nat} {xs : List (List Nat)} {zs zs' : Array Value} {y y' : Value}
theorem DW.next(h:DW w q p A c xs zs y W)(hb:Below W.heap.size W W'):DW w q p A c xs zs y W':=⟨h.blw.trans (hb.mono h.blw.size),h.hq.below hb h.hq.lt,h.hp.below hb h.hp.lt,h.own.below hb,h.qw,h.qp⟩
theorem DW.putq(h:DW w q p A c xs zs y W)(hm:Mods (Is q) W W')(hr:Row W' q 31 zs'):DW w q p A c xs zs' y W':=
 ⟨h.blw.trans (hm.below h.blw.size fun k hk=>by have:=h.qw;unfold Is at hk;omega),hr,h.hp.mods hm (by have:=h.qp;unfold Is;omega),h.own.mods hm fun k h1 _ h3=>by have:=h.qp;unfold Is at h3;omega,h.qw,h.qp⟩
theorem DW.putp(h:DW w q p A c xs zs y W)(hm:Mods (Is p) W W')(hr:Row W' p 34 #[y']):DW w q p A c xs zs y' W':=
 ⟨h.blw.trans (hm.below h.blw.size fun k hk=>by have:=h.qw;have:=h.qp;unfold Is at hk;omega),h.hq.mods hm (by have:=h.qp;unfold Is;omega),hr,h.own.mods hm fun k h1 _ h3=>by unfold Is at h3;omega,h.qw,h.qp⟩
theorem DW.at_(h:DW w q p A c xs zs y W){i:Nat}(hi:i<xs.length):∃b o Ai ci,A=some ⟨b,o,none⟩∧W.cell? ⟨b,o+i,none⟩=some (.slice Ai xs[i].length ci)∧Sees W W.heap.size Ai (bts xs[i]):=by
 obtain ⟨A1,c1,e,_,_,hs⟩:=h.own.sees
 injection e with e1 _ _
 subst e1
 obtain ⟨b,o,Ai,ci,h1,_,h2,_,_,h3⟩:=hs.at_ hi
 exact ⟨b,o,Ai,ci,h1,h2,h3⟩
theorem DW.at2{b o:Nat}(h:DW w q p (some ⟨b,o,none⟩) c xs zs y W){i:Nat}(hi:i<xs.length):∃Ai ci,W.cell? ⟨b,o+i,none⟩=some (.slice Ai xs[i].length ci)∧Sees W W.heap.size Ai (bts xs[i]):=by
 obtain ⟨b',o',Ai,ci,h1,h2,h3⟩:=h.at_ hi
 injection h1 with h1
 injection h1 with h4 h5 _
 subst h4 h5
 exact ⟨Ai,ci,h2,h3⟩
end
theorem JM(A:Option Addr)(l:List Nat)(k:Nat)(w:World)(hs:Sees w w.heap.size A (bts l))(hby:Byt l)(hm:l.length≤1000000)(hk:l.length≤k)(hkm:k≤maxLen):
  Calls Tryz.prog 10 #[.slice A l.length k] w (DecP w (yD l)):=by
 have hmf:∀(fn:Fn) (first cap:Array Value) (w:World),(Instr.makeFunc fn first cap).run Tryz.prog w= .ok (.func fn first cap) w:=fun _ _ _ _=>rfl
 have hb0:=((ld w.heap.size w).alloc (la _) (.cells #[.int .i64 0,.int .i64 0,.slice none 0 0,.int .i64 0,.int .i64 0,.int .i64 0,.slice none 0 0,.slice none 0 0] 31)).alloc (by simp) (.cells #[.int .i64 0] 34)
 have hq0:=(Row.new w 31 #[.int .i64 0,.int .i64 0,.slice none 0 0,.int .i64 0,.int .i64 0,.int .i64 0,.slice none 0 0,.slice none 0 0]).alloc (.cells #[.int .i64 0] 34)
 have hp0:=Row.new (w.alloc (.cells #[.int .i64 0,.int .i64 0,.slice none 0 0,.int .i64 0,.int .i64 0,.int .i64 0,.slice none 0 0,.slice none 0 0] 31)) 34 #[.int .i64 0]
 rw [show (w.alloc (.cells #[.int .i64 0,.int .i64 0,.slice none 0 0,.int .i64 0,.int .i64 0,.int .i64 0,.slice none 0 0,.slice none 0 0] 31)).heap.size=w.heap.size+1 by simp] at hp0
 have HB:=qH hb0
 have HQ:=qH hq0
 have HP:=qH hp0
 obtain ⟨r,hr⟩:∃r,yD l=r:=⟨_,rfl⟩
 have HR:Hid (r=if JY l≠0 then (zCt,JY l) else JX (l.drop 3)):=by show _=_;rw [←hr,zfp]
 have HS:=qH (hs.below hb0)
 have HBY:=qH hby
 rw [hr]
 clear hb0 hq0 hp0 hr hs hby
 obtain ⟨n,hn⟩:∃n,l.length=n:=⟨_,rfl⟩
 rw [hn] at hm hk⊢
 have HN:=qH hn
 clear hn
 go_enter_defers Tryz.func10,Tryz.ntmps10
 go_upto_region 2 with fail
 generalize ((w.alloc (.cells #[.int .i64 0,.int .i64 0,.slice none 0 0,.int .i64 0,.int .i64 0,.int .i64 0,.slice none 0 0,.slice none 0 0] 31)).alloc (.cells #[.int .i64 0] 34))=W1 at*
 obtain ⟨q,hq⟩:∃q,w.heap.size=q:=⟨_,rfl⟩
 obtain ⟨p,hp⟩:∃p,w.heap.size+1=p:=⟨_,rfl⟩
 have hwq:w.heap.size≤q:=Nat.le_of_eq hq
 have hqp:q<p:=by omega
 rw [hq] at HQ
 rw [hp] at HP
 have C1:Hid (Calls Tryz.prog 24 #[.slice A n k,.func (.func 25) #[] #[]] W1 (RdH l W1)):=by
  have:=zci A l k W1 (HS.out.more HB.out.size) HBY.out (by rw [HN.out];exact hm)
  rw [HN.out] at this
  exact this
 have hl3:(l.drop 3).length≤1000000:=by rw [lr,HN.out];omega
 have HBD:Hid (Byt (l.drop 3)):=fun c hc=>HBY.out c (List.mem_of_mem_drop hc)
 rw [hp,hq]
 obtain ⟨rs,hrs⟩:∃rs,l.drop 3=rs:=⟨_,rfl⟩
 obtain ⟨E0,hE0⟩:∃E0,JY l=E0:=⟨_,rfl⟩
 unfold RdH at C1
 rw [hrs,hE0] at C1
 rw [hrs,hE0] at HR
 rw [hrs] at hl3 HBD
 clear HS HBY HN hq hp hrs hE0
 go_wp2_with fail
 refine C1.out.mono ?_
 rintro e W2 ⟨hb2,⟨h0,A2,c2,rfl,ho2⟩|⟨h0,rfl⟩⟩
 case inr=>
  have e:=HR.out
  rw [if_pos h0] at e
  subst e
  exact jp rfl rfl (HQ.out.below hb2 HQ.out.lt) (HP.out.below hb2 HP.out.lt) (HB.out.trans (hb2.mono HB.out.size)) hwq hqp
 have HR1:Hid (r=JX rs):=by show _=_;rw [HR.out,if_neg (fun h=>h h0)]
 have HQ2:=qH (HQ.out.below hb2 HQ.out.lt)
 have HP2:=qH (HP.out.below hb2 HP.out.lt)
 have HB2:=qH (HB.out.trans (hb2.mono HB.out.size))
 have HO2:=qH ho2
 clear HR C1 HQ HP HB ho2 h0 hb2
 have CI:=qH (Qv W2)
 go_wp2_with fail
 refine CI.out.mono ?_
 rintro e W3 ⟨g,rfl,ho3,hb3⟩
 have HSP:Hid (Calls Tryz.prog 23 #[.slice A2 rs.length c2,.slice (some ⟨g,0,none⟩) 3 3] W3 (zfU W3 zn rs)):=
  zex W3.heap.size A2 (some ⟨g,0,none⟩) rs zn c2 3 W3 ((Sees.of_own HO2.out).below hb3|>.more hb3.size) (Sees.of_own ho3) (la _) HBD.out (by intro c hc;unfold zn at hc;simp at hc;omega) hl3 (by decide)
 have HQ3:=qH (HQ2.out.below hb3 HQ2.out.lt)
 have HP3:=qH (HP2.out.below hb3 HP2.out.lt)
 have HB3:=qH (HB2.out.trans (hb3.mono HB2.out.size))
 clear CI HQ2 HP2 HB2 ho3 hb3 HO2
 go_wp2_with fail
 refine HSP.out.mono ?_
 rintro e W4 ⟨hb4,⟨h0,v,rfl,hl⟩|⟨h0,rfl⟩⟩
 case inr=>
  have e:=HR1.out
  unfold JX at e
  rw [if_pos h0] at e
  obtain ⟨E,hE⟩:∃E,yg zn rs=E:=⟨_,rfl⟩
  rw [hE] at e h0⊢
  have HQ4:=qH (HQ3.out.below hb4 HQ3.out.lt)
  have HP4:=qH (HP3.out.below hb4 HP3.out.lt)
  have HB4:=qH (HB3.out.trans (hb4.mono HB3.out.size))
  subst e
  clear HSP HR1 HQ3 HP3 HB3 hb4 hE HBD
  have p0:=HP4.out.k0;have pf:=HP4.out.frozen 0
  have hE0:(E:Int)≠0:=by omega
  clear h0
  have CL:=qH (jy (E:Int) (W4.setCell ⟨p,0,none⟩ (.int .i64 E)))
  rw [if_pos hE0] at CL
  clear hE0
  go_wp2_with fail
  refine CL.out.mono ?_
  rintro e W5 ⟨rfl,rfl⟩
  have hm5:Mods (Is p) W4 (W4.setCell ⟨p,0,none⟩ (.int .i64 E)):=(Mods.refl _ _).put 0 _
  exact jp rfl rfl (HQ4.out.mods hm5 (by unfold Is;omega)) (HP4.out.put 0 _) (HB4.out.trans (hm5.below HB4.out.size fun k hk=>by unfold Is at hk;omega)) hwq hqp
 obtain ⟨x1,x2,x3,hps,by1,by2,by3,le1,le2,le3⟩:=zck HBD.out h0
 rw [hps] at hl
 obtain ⟨A4,c4,hv,hl4,hc4,_⟩:=hl.sees
 rw [show ([x1,x2,x3]:List (List Nat)).length=3 from rfl] at hv hl4
 subst hv
 have HR2:Hid (r=Yi x1 x2 x3):=by show _=_;rw [HR1.out];unfold JX;rw [if_neg (fun h=>h h0),hps];rfl
 have D4:Hid (DW w q p A4 c4 [x1,x2,x3] #[.int .i64 0,.int .i64 0,.slice none 0 0,.int .i64 0,.int .i64 0,.int .i64 0,.slice none 0 0,.slice none 0 0] (.int .i64 0) W4):=⟨HB3.out.trans (hb4.mono HB3.out.size),HQ3.out.below hb4 HQ3.out.lt,HP3.out.below hb4 HP3.out.lt,hl.rebase HP3.out.lt,hwq,hqp⟩
 have L1:x1.length≤1000000:=by omega
 have L2:x2.length≤1000000:=by omega
 have L3:x3.length≤1000000:=by omega
 have BY1:=qH by1;have BY2:=qH by2;have BY3:=qH by3
 have p0:=D4.out.hp.k0;have pf:=D4.out.hp.frozen 0
 have CL:=qH (jy 0 (W4.setCell ⟨p,0,none⟩ (.int .i64 0)))
 rw [if_neg (fun h=>h rfl)] at CL
 clear HBD h0 hl hps by1 by2 by3 le1 le2 le3 HR1 HQ3 HP3 HB3 HSP hb4 hl3
 go_wp2_with fail
 refine CL.out.mono ?_
 rintro e W5 ⟨rfl,rfl⟩
 have D5:=qH (D4.out.putp ((Mods.refl _ _).put 0 _) (D4.out.hp.put 0 (.int .i64 0)))
 clear CL D4 p0 pf
 generalize (W4.setCell ⟨p,0,none⟩ (.int .i64 0))=W5 at*
 obtain ⟨b,o,Ai,ci,rfl,hc,hse⟩:=D5.out.at_ (i:=0) (by simp)
 rw [lH] at hc
 have hc0:W5.cell? ⟨b,o,none⟩=some (.slice Ai x1.length ci):=hc
 have CF:=qH (za9 Ai x1 ci W5 hse BY1.out L1)
 obtain ⟨⟨f,t⟩,hf⟩:∃y,zJ ⟨x1,0⟩=y:=⟨_,rfl⟩
 unfold RdF at CF
 rw [hf] at CF
 have HR3:Hid (r=if yC t≠0 then (zCt,yC t) else Ul f x2 x3):=by show _=_;rw [HR2.out];unfold Yi;rw [hf]
 have HFB:Hid (yC t=0→f.bs.length≤x1.length∧0≤f.regs∧f.regs≤1048576):=fun h=>by have:=zhg BY1.out (by rw [hf];exact h);rw [hf] at this;exact this
 clear hc hse hf HR2 BY1
 dsimp only at CF
 generalize yC t=E1 at*
 go_wp2_with fail
 refine CF.out.mono ?_
 rintro e W6 ⟨hb6,⟨h0,v,vs,rfl,hn6⟩|⟨h0,rfl⟩⟩
 case inr=>
  have e:=HR3.out
  rw [if_pos h0] at e
  subst e
  have D6:=D5.out.next hb6
  exact jp rfl rfl D6.hq D6.hp D6.blw hwq hqp
 obtain ⟨Av,cv,rfl,_,_,_⟩:=ZW hn6
 have HR4:Hid (r=Ul f x2 x3):=by show _=_;rw [HR3.out,if_neg (fun h=>h h0)]
 have HF:=qH (HFB.out h0)
 have D6:=qH (D5.out.next hb6)
 have HN6:=qH (hn6.rebase (show p+1≤W5.heap.size from D5.out.hp.lt))
 clear HR3 HFB CF D5 hb6 hn6 hc0 h0
 have q0:=D6.out.hq.k0;have q1:=D6.out.hq.k1;have q2:=D6.out.hq.k2;have q3:=D6.out.hq.k3;have q4:=D6.out.hq.k4;have q5:=D6.out.hq.k5;have q6:=D6.out.hq.k6;have q7:=D6.out.hq.k7
 have g0:=D6.out.hq.frozen 0;have g1:=D6.out.hq.frozen 1;have g2:=D6.out.hq.frozen 2;have g3:=D6.out.hq.frozen 3;have g4:=D6.out.hq.frozen 4;have g5:=D6.out.hq.frozen 5;have g6:=D6.out.hq.frozen 6;have g7:=D6.out.hq.frozen 7
 go_upto_region 5 with fail
 have HM7:Hid (Mods (Is q) W6 (((W6.setCell ⟨q,0,none⟩ (.int .i64 f.args)).setCell ⟨q,1,none⟩ (.int .i64 f.regs)).setCell ⟨q,2,none⟩ (.slice Av f.bs.length cv))):=((((Mods.refl _ W6).put 0 _).put 1 _).put 2 _)
 have HR7:Hid (Row (((W6.setCell ⟨q,0,none⟩ (.int .i64 f.args)).setCell ⟨q,1,none⟩ (.int .i64 f.regs)).setCell ⟨q,2,none⟩ (.slice Av f.bs.length cv)) q 31 #[.int .i64 f.args,.int .i64 f.regs,.slice Av f.bs.length cv,.int .i64 0,.int .i64 0,.int .i64 0,.slice none 0 0,.slice none 0 0]):=by
  have r0:Row _ q 31 #[.int .i64 f.args,.int .i64 0,.slice none 0 0,.int .i64 0,.int .i64 0,.int .i64 0,.slice none 0 0,.slice none 0 0]:=D6.out.hq.put 0 _
  have r1:Row _ q 31 #[.int .i64 f.args,.int .i64 f.regs,.slice none 0 0,.int .i64 0,.int .i64 0,.int .i64 0,.slice none 0 0,.slice none 0 0]:=r0.put 1 _
  exact r1.put 2 _
 have D7:=qH (D6.out.putq HM7.out HR7.out)
 have HN7:=qH (HN6.out.mods HM7.out fun k h1 _ h3=>by unfold Is at h3;omega)
 clear D6 HN6 HM7 HR7 q0 q1 q2 q3 q4 q5 q6 q7 g0 g1 g2 g3 g4 g5 g6 g7
 generalize (((W6.setCell ⟨q,0,none⟩ (.int .i64 f.args)).setCell ⟨q,1,none⟩ (.int .i64 f.regs)).setCell ⟨q,2,none⟩ (.slice Av f.bs.length cv))=W7 at*
 obtain ⟨Ai2,ci2,hc,hse⟩:=D7.out.at2 (i:=1) (by simp)
 have hc1:W7.cell? ⟨b,o+1,none⟩=some (.slice Ai2 x2.length ci2):=hc
 have CG:=qH (Q6 Ai2 x2 ci2 W7 hse BY2.out L2)
 obtain ⟨⟨g,t2⟩,hg⟩:∃y,zq ⟨x2,0⟩=y:=⟨_,rfl⟩
 unfold RdM at CG
 rw [hg] at CG
 have HR5:Hid (r=if yC t2≠0 then (zCt,yC t2) else if f.bs.length≠g.ms.length∨f.args≠g.args then (zCt,14) else Yh f g x3):=by show _=_;rw [HR4.out];unfold Ul;rw [hg]
 have HGB:Hid (yC t2=0→0≤g.regs∧g.regs≤1048576∧0≤g.slots∧g.slots≤1048576):=fun h=>by have:=zhh BY2.out (by rw [hg];exact h);rw [hg] at this;exact this
 clear hc hse hg HR4 BY2
 dsimp only at CG
 generalize yC t2=E2 at*
 go_wp2_with fail
 refine CG.out.mono ?_
 rintro e W8 ⟨hb8,⟨h0,v,vs2,rfl,hn8⟩|⟨h0,rfl⟩⟩
 case inr=>
  have e:=HR5.out
  rw [if_pos h0] at e
  subst e
  have D8:=D7.out.next hb8
  exact jp rfl rfl D8.hq D8.hp D8.blw hwq hqp
 obtain ⟨Ag,cg,hv,_,_⟩:=zh hn8.outer
 rw [hn8.len] at hv
 subst hv
 have HR6:Hid (r=if f.bs.length≠g.ms.length∨f.args≠g.args then (zCt,14) else Yh f g x3):=by show _=_;rw [HR5.out,if_neg (fun h=>h h0)]
 have HG:=qH (HGB.out h0)
 have D8:=qH (D7.out.next hb8)
 have HG8:=qH (hn8.rebase (show p+1≤W7.heap.size from D7.out.hp.lt))
 have HN8:=qH (HN7.out.below hb8)
 clear HR5 HGB CG D7 HN7 hb8 hn8 hc1 h0
 have q0:=D8.out.hq.k0;have q1:=D8.out.hq.k1;have q2:=D8.out.hq.k2;have q3:=D8.out.hq.k3;have q4:=D8.out.hq.k4;have q5:=D8.out.hq.k5;have q6:=D8.out.hq.k6;have q7:=D8.out.hq.k7
 have g0:=D8.out.hq.frozen 0;have g1:=D8.out.hq.frozen 1;have g2:=D8.out.hq.frozen 2;have g3:=D8.out.hq.frozen 3;have g4:=D8.out.hq.frozen 4;have g5:=D8.out.hq.frozen 5;have g6:=D8.out.hq.frozen 6;have g7:=D8.out.hq.frozen 7
 go_upto_region 6 with fail
 have HM9:Hid (Mods (Is q) W8 ((((W8.setCell ⟨q,3,none⟩ (.int .i64 g.args)).setCell ⟨q,4,none⟩ (.int .i64 g.regs)).setCell ⟨q,5,none⟩ (.int .i64 g.slots)).setCell ⟨q,6,none⟩ (.slice Ag g.ms.length cg))):=(((((Mods.refl _ W8).put 3 _).put 4 _).put 5 _).put 6 _)
 have HR9:Hid (Row ((((W8.setCell ⟨q,3,none⟩ (.int .i64 g.args)).setCell ⟨q,4,none⟩ (.int .i64 g.regs)).setCell ⟨q,5,none⟩ (.int .i64 g.slots)).setCell ⟨q,6,none⟩ (.slice Ag g.ms.length cg)) q 31 #[.int .i64 f.args,.int .i64 f.regs,.slice Av f.bs.length cv,.int .i64 g.args,.int .i64 g.regs,.int .i64 g.slots,.slice Ag g.ms.length cg,.slice none 0 0]):=by
  have r0:Row _ q 31 #[.int .i64 f.args,.int .i64 f.regs,.slice Av f.bs.length cv,.int .i64 g.args,.int .i64 0,.int .i64 0,.slice none 0 0,.slice none 0 0]:=D8.out.hq.put 3 _
  have r1:Row _ q 31 #[.int .i64 f.args,.int .i64 f.regs,.slice Av f.bs.length cv,.int .i64 g.args,.int .i64 g.regs,.int .i64 0,.slice none 0 0,.slice none 0 0]:=r0.put 4 _
  have r2:Row _ q 31 #[.int .i64 f.args,.int .i64 f.regs,.slice Av f.bs.length cv,.int .i64 g.args,.int .i64 g.regs,.int .i64 g.slots,.slice none 0 0,.slice none 0 0]:=r1.put 5 _
  exact r2.put 6 _
 have D9:=qH (D8.out.putq HM9.out HR9.out)
 have HN9:=qH (HN8.out.mods HM9.out fun k h1 _ h3=>by unfold Is at h3;omega)
 have HG9:=qH (HG8.out.mods HM9.out fun k h1 _ h3=>by unfold Is at h3;omega)
 clear D8 HN8 HG8 HM9 HR9 q0 q1 q2 q3 q4 q5 q6 q7 g0 g1 g2 g3 g4 g5 g6 g7
 generalize ((((W8.setCell ⟨q,3,none⟩ (.int .i64 g.args)).setCell ⟨q,4,none⟩ (.int .i64 g.regs)).setCell ⟨q,5,none⟩ (.int .i64 g.slots)).setCell ⟨q,6,none⟩ (.slice Ag g.ms.length cg))=W9 at*
 obtain ⟨bl,hbl⟩:∃bl,decide (f.bs.length≠g.ms.length∨f.args≠g.args)=bl:=⟨_,rfl⟩
 have HBL:=qH hbl
 clear hbl
 have q0:=D9.out.hq.k0;have q1:=D9.out.hq.k1;have q2:=D9.out.hq.k2;have q3:=D9.out.hq.k3;have q4:=D9.out.hq.k4;have q5:=D9.out.hq.k5;have q6:=D9.out.hq.k6;have q7:=D9.out.hq.k7
 have g0:=D9.out.hq.frozen 0;have g1:=D9.out.hq.frozen 1;have g2:=D9.out.hq.frozen 2;have g3:=D9.out.hq.frozen 3;have g4:=D9.out.hq.frozen 4;have g5:=D9.out.hq.frozen 5;have g6:=D9.out.hq.frozen 6;have g7:=D9.out.hq.frozen 7
 go_cut [42] from 5 (fun s42 wx=>s42= .bool bl∧wx=W9)
 case first=>
  by_cases h1:f.bs.length=g.ms.length
  ·have d0:((f.bs.length:Int) !=(g.ms.length:Int))=false:=by rw [h1];simp
   have hb:Hid ((f.args !=g.args)=bl):=by
    show _=_
    rw [←HBL.out,Bool.eq_iff_iff]
    simp [h1]
   clear h1
   go_wp2_with fail
   go_meet
   case rel=>exact ⟨by rw [hb.out],rfl⟩
  ·have d0:((f.bs.length:Int) !=(g.ms.length:Int))=true:=by simp;omega
   have hb:Hid (true=bl):=by show _=_;rw [←HBL.out];simp [h1]
   clear h1
   go_wp2_with fail
   go_meet
   case rel=>exact ⟨by rw [←hb.out],rfl⟩
 case rest=>
  obtain ⟨hs42,hwc⟩:=hcut
  subst hs42 hwc
  clear q0 q1 q2 q3 q4 q5 q6 q7 g0 g1 g2 g3 g4 g5 g6 g7
  cases bl
  case true=>
   have e:=HR6.out
   rw [if_pos (of_decide_eq_true HBL.out)] at e
   subst e
   have CL:=qH (jy 14 wc)
   rw [if_pos (by decide)] at CL
   go_wp2_with fail
   refine CL.out.mono ?_
   rintro e W10 ⟨rfl,rfl⟩
   exact jp rfl rfl D9.out.hq D9.out.hp D9.out.blw hwq hqp
  case false=>
   have HR7:Hid (r=Yh f g x3):=by show _=_;rw [HR6.out,if_neg (of_decide_eq_false HBL.out)]
   clear HR6 HBL
   obtain ⟨W9,hW9⟩:∃z,z=wc:=⟨_,rfl⟩
   subst hW9
   obtain ⟨Ai3,ci3,hc,hse⟩:=D9.out.at2 (i:=2) (by simp)
   have hc2:W9.cell? ⟨b,o+2,none⟩=some (.slice Ai3 x3.length ci3):=hc
   have CW:=qH (zcj Ai3 x3 ci3 W9 hse BY3.out L3 D9.out.hq (by have:=HF.out.1;omega) HF.out.2 ⟨HG.out.1,HG.out.2.1⟩ HG.out.2.2)
   obtain ⟨⟨zs,t3⟩,hz⟩:∃y,yA f.regs g.regs g.slots f.bs.length ⟨x3,0⟩=y:=⟨_,rfl⟩
   unfold RdW at CW
   rw [hz] at CW
   have HR8:Hid (r=if yC t3≠0 then (zCt,yC t3) else (⟨f.args,f.regs,f.bs,g.args,g.regs,g.slots,g.ms,zs⟩,0)):=by show _=_;rw [HR7.out];unfold Yh;rw [hz]
   clear hc hse hz HR7 BY3
   dsimp only at CW
   generalize yC t3=E3 at*
   go_wp2_with fail
   refine CW.out.mono ?_
   rintro e W10 ⟨hb10,⟨h0,v,vs3,rfl,hn10⟩|⟨h0,rfl⟩⟩
   case inr=>
    have e:=HR8.out
    rw [if_pos h0] at e
    subst e
    have D10:=D9.out.next hb10
    exact jp rfl rfl D10.hq D10.hp D10.blw hwq hqp
   obtain ⟨Aw,cw,hv,_,_⟩:=zh hn10.outer
   rw [hn10.len] at hv
   subst hv
   have HR9:Hid (r=(⟨f.args,f.regs,f.bs,g.args,g.regs,g.slots,g.ms,zs⟩,0)):=by show _=_;rw [HR8.out,if_neg (fun h=>h h0)]
   have D10:=qH (D9.out.next hb10)
   have HW10:=qH (hn10.rebase (show p+1≤W9.heap.size from D9.out.hp.lt))
   have HN10:=qH (HN9.out.below hb10)
   have HG10:=qH (HG9.out.below hb10)
   clear HR8 CW D9 HN9 HG9 hb10 hn10 hc2 h0 HF HG
   have q0:=D10.out.hq.k0;have q1:=D10.out.hq.k1;have q2:=D10.out.hq.k2;have q3:=D10.out.hq.k3;have q4:=D10.out.hq.k4;have q5:=D10.out.hq.k5;have q6:=D10.out.hq.k6;have q7:=D10.out.hq.k7
   have g0:=D10.out.hq.frozen 0;have g1:=D10.out.hq.frozen 1;have g2:=D10.out.hq.frozen 2;have g3:=D10.out.hq.frozen 3;have g4:=D10.out.hq.frozen 4;have g5:=D10.out.hq.frozen 5;have g6:=D10.out.hq.frozen 6;have g7:=D10.out.hq.frozen 7
   go_upto_region 9 with fail
   have HM11:Hid (Mods (Is q) W10 (W10.setCell ⟨q,7,none⟩ (.slice Aw zs.length cw))):=(Mods.refl _ _).put 7 _
   have D11:=qH (D10.out.putq HM11.out (D10.out.hq.put 7 (.slice Aw zs.length cw)))
   have HW11:=qH (HW10.out.mods HM11.out fun k h1 _ h3=>by unfold Is at h3;omega)
   have HN11:=qH (HN10.out.mods HM11.out fun k h1 _ h3=>by unfold Is at h3;omega)
   have HG11:=qH (HG10.out.mods HM11.out fun k h1 _ h3=>by unfold Is at h3;omega)
   clear D10 HW10 HN10 HG10 HM11 q0 q1 q2 q3 q4 q5 q6 q7 g0 g1 g2 g3 g4 g5 g6 g7
   generalize (W10.setCell ⟨q,7,none⟩ (.slice Aw zs.length cw))=W11 at*
   have HQ11:Hid (Row W11 q 31 #[.int .i64 f.args,.int .i64 f.regs,.slice Av f.bs.length cv,.int .i64 g.args,.int .i64 g.regs,.int .i64 g.slots,.slice Ag g.ms.length cg,.slice Aw zs.length cw]):=D11.out.hq
   have HE:Hid (Row ((put8c W11 q (.int .i64 f.args) (.int .i64 f.regs) (.slice Av f.bs.length cv) (.int .i64 g.args) (.int .i64 g.regs) (.int .i64 g.slots) (.slice Ag g.ms.length cg) (.slice Aw zs.length cw)).setCell ⟨p,0,none⟩ (.int .i64 0)) q 31 #[.int .i64 f.args,.int .i64 f.regs,.slice Av f.bs.length cv,.int .i64 g.args,.int .i64 g.regs,.int .i64 g.slots,.slice Ag g.ms.length cg,.slice Aw zs.length cw]∧Row ((put8c W11 q (.int .i64 f.args) (.int .i64 f.regs) (.slice Av f.bs.length cv) (.int .i64 g.args) (.int .i64 g.regs) (.int .i64 g.slots) (.slice Ag g.ms.length cg) (.slice Aw zs.length cw)).setCell ⟨p,0,none⟩ (.int .i64 0)) p 34 #[.int .i64 0]∧Mods (fun k=>k=q∨k=p) W11 ((put8c W11 q (.int .i64 f.args) (.int .i64 f.regs) (.slice Av f.bs.length cv) (.int .i64 g.args) (.int .i64 g.regs) (.int .i64 g.slots) (.slice Ag g.ms.length cg) (.slice Aw zs.length cw)).setCell ⟨p,0,none⟩ (.int .i64 0))):=by
    have h1:=HQ11.out.put8c (.int .i64 f.args) (.int .i64 f.regs) (.slice Av f.bs.length cv) (.int .i64 g.args) (.int .i64 g.regs) (.int .i64 g.slots) (.slice Ag g.ms.length cg) (.slice Aw zs.length cw)
    have m1:=Q0 W11 q (.int .i64 f.args) (.int .i64 f.regs) (.slice Av f.bs.length cv) (.int .i64 g.args) (.int .i64 g.regs) (.int .i64 g.slots) (.slice Ag g.ms.length cg) (.slice Aw zs.length cw)
    have h2:=D11.out.hp.mods m1 (by unfold Is;omega)
    have m2:Mods (Is p) (put8c W11 q (.int .i64 f.args) (.int .i64 f.regs) (.slice Av f.bs.length cv) (.int .i64 g.args) (.int .i64 g.regs) (.int .i64 g.slots) (.slice Ag g.ms.length cg) (.slice Aw zs.length cw)) ((put8c W11 q (.int .i64 f.args) (.int .i64 f.regs) (.slice Av f.bs.length cv) (.int .i64 g.args) (.int .i64 g.regs) (.int .i64 g.slots) (.slice Ag g.ms.length cg) (.slice Aw zs.length cw)).setCell ⟨p,0,none⟩ (.int .i64 0)):=(Mods.refl _ _).put 0 _
    exact ⟨h1.mods m2 (by unfold Is;omega),h2.put 0 _,(m1.mono (fun k hk=> .inl hk)).trans (m2.mono (fun k hk=> .inr hk))⟩
   have HD:Hid (DecP w r (.returned (.tuple #[.agg #[.int .i64 f.args,.int .i64 f.regs,.slice Av f.bs.length cv,.int .i64 g.args,.int .i64 g.regs,.int .i64 g.slots,.slice Ag g.ms.length cg,.slice Aw zs.length cw],.int .i64 0])) ((put8c W11 q (.int .i64 f.args) (.int .i64 f.regs) (.slice Av f.bs.length cv) (.int .i64 g.args) (.int .i64 g.regs) (.int .i64 g.slots) (.slice Ag g.ms.length cg) (.slice Aw zs.length cw)).setCell ⟨p,0,none⟩ (.int .i64 0))):=by
    have hm:=HE.out.2.2
    have hbl:=D11.out.blw
    show DecP _ _ _ _
    rw [HR9.out]
    refine ⟨Av,cv,vs,Ag,cg,vs2,Aw,cw,vs3,rfl,?_,?_,?_,hbl.trans (hm.below hbl.size fun k hk=>by omega)⟩
    ·exact (HN11.out.mods hm fun k h1 _ h3=>by omega).rebase (by omega)
    ·exact (HG11.out.mods hm fun k h1 _ h3=>by omega).rebase (by omega)
    ·exact (HW11.out.mods hm fun k h1 _ h3=>by omega).rebase (by omega)
   have n1:¬q=p:=by omega
   have n2:¬p=q:=by omega
   have q0:=HQ11.out.k0;have q1:=HQ11.out.k1;have q2:=HQ11.out.k2;have q3:=HQ11.out.k3;have q4:=HQ11.out.k4;have q5:=HQ11.out.k5;have q6:=HQ11.out.k6;have q7:=HQ11.out.k7
   have g0:=HQ11.out.frozen 0;have g1:=HQ11.out.frozen 1;have g2:=HQ11.out.frozen 2;have g3:=HQ11.out.frozen 3;have g4:=HQ11.out.frozen 4;have g5:=HQ11.out.frozen 5;have g6:=HQ11.out.frozen 6;have g7:=HQ11.out.frozen 7
   have p0:=D11.out.hp.k0;have pf:=D11.out.hp.frozen 0
   clear D11 HQ11 HW11 HN11 HG11 HR9 hwq hqp
   go_wp2
   obtain ⟨w1,w2,_⟩:=HE.out
   have w3:=HD.out
   unfold put8c at w1 w2 w3
   exact zba rfl rfl w1 w2 w3
end Go.Proofs.YtnifhpbgmjcndaaGreat
