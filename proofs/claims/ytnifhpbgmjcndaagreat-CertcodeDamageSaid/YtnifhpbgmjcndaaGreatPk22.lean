import Derived.Test.YtnifhpbgmjcndaaGreatPk21
set_option linter.unusedVariables false
set_option linter.unusedSimpArgs false
set_option linter.unusedSectionVars false
set_option maxRecDepth 100000
set_option maxHeartbeats 16000000
namespace Go.Proofs.YtnifhpbgmjcndaaGreat
open Go.RowKit
theorem zex{vr r n:Int}{f:Bool}{q:Pr}{s:Ip}(hq:YW vr f q)(hb:Byt s.rest)(hr:r≤1000000000)(hn:n≤1000000000)(h:(zG vr r n f q s).2.err=0):
  YW vr false (zG vr r n f q s).1∧(zG vr r n f q s).1.2≤4000000000:=by
 obtain ⟨_,h2,h3,_⟩:=zaX hq hb h
 refine ⟨h3,?_⟩
 have hl:yl (zG vr r n f q s).1.2 r n=true:=by
  cases h9:yl (zG vr r n f q s).1.2 r n
  ·unfold prE at h2
   rw [h9] at h2
   split at h2
   ·cases h2
   ·rw [if_pos rfl] at h2
    cases h2
  ·rfl
 have:=Q1 hr hn hl
 omega
def Yk(v:Int):Int:=if v<2097152 then v else 2097152
theorem QD{w:World}{lo p:Nat}{l:List Nat}{A:Option Addr}{c:Nat}{t:Ip}(h:CE lo p l A c t w):
  Calls Tryz.prog 132 #[.pointer (some ⟨p,0,none⟩)] w fun e w'=>e= .returned (.int .i64 (Yk (yr t)))∧Mods (Is p) w w'∧CE lo p l A c (ya t) w':=by
 have C:=qH (zdo h)
 have hv:=zdn h.byt
 clear h
 generalize yr t=v at*
 have hv1:(0:Int)≤(v:Int)∧(v:Int)≤18446744073709551615:=by omega
 clear hv
 have C':=C.out
 clear C
 generalize (v:Int)=d at*
 have C:=qH C'
 clear C'
 obtain ⟨m,hm⟩:∃y,Yk d=y:=⟨_,rfl⟩
 rw [hm]
 have HM:=qH hm
 clear hm
 by_cases h0:d≤2097152
 ·have hmd:Hid (m=d):=by show _=_;rw [←HM.out];unfold Yk;split<;>omega
  go_enter Tryz.func132,Tryz.ntmps132
  go_wp2_with fail
  refine C.out.mono ?_
  rintro e W1 ⟨rfl,hm,hc⟩
  have HMM:=qH hm
  have HC:=qH hc
  clear hm hc C
  go_wp2
  go_ret
  exact ⟨by rw [hmd.out];rfl,HMM.out,HC.out⟩
 ·have hmd:Hid (m=2097152):=by show _=_;rw [←HM.out];exact if_neg (by omega)
  have h1:2097152<d:=by omega
  go_enter Tryz.func132,Tryz.ntmps132
  go_wp2_with fail
  refine C.out.mono ?_
  rintro e W1 ⟨rfl,hm,hc⟩
  have HMM:=qH hm
  have HC:=qH hc
  clear hm hc C
  go_wp2
  go_ret
  exact ⟨by rw [hmd.out];rfl,HMM.out,HC.out⟩
theorem YM(w:World):
  Calls Tryz.prog 130 #[] w fun e w'=>e= .returned (.agg #[.int .i64 0,.int .i64 (-1)])∧Below w.heap.size w w':=by
 have HB:=qH (((Below.refl w.heap.size w).alloc (Nat.le_refl _) (.cells #[.int .i64 0,.int .i64 0] 55)))
 have HR:=qH (Row.new w 55 #[.int .i64 0,.int .i64 0])
 go_enter Tryz.func130,Tryz.ntmps130
 go_upto_region 1 with fail
 generalize (w.alloc (.cells #[.int .i64 0,.int .i64 0] 55))=W0 at*
 have z0:=HR.out.k0;have z1:=HR.out.k1
 have zf0:=HR.out.frozen 0;have zf1:=HR.out.frozen 1
 have HR2:Hid (Row ((W0.setCell ⟨w.heap.size,0,none⟩ (.int .i64 0)).setCell ⟨w.heap.size,1,none⟩ (.int .i64 (-1))) w.heap.size 55 #[.int .i64 0,.int .i64 (-1)]):=(HR.out.put 0 _).put 1 _
 have HB2:Hid (Below w.heap.size w ((W0.setCell ⟨w.heap.size,0,none⟩ (.int .i64 0)).setCell ⟨w.heap.size,1,none⟩ (.int .i64 (-1)))):=HB.out.trans ((((Mods.refl (Is w.heap.size) W0).put 0 _).put 1 _).below HB.out.size fun k hk=>by unfold Is at hk;omega)
 go_wp2
 (try simp only [Exit.inBlock,Exit.then])
 refine bodyPost_ret (v:= .agg #[.int .i64 0,.int .i64 (-1)]) ?_ rfl ⟨rfl,HB2.out⟩
 exact results_cell_row rfl _ _ w.heap.size 55 #[.int .i64 0,.int .i64 (-1)] (0,0) _ rfl HR2.out Tryz.underlying55 rfl (by kernel_rfl)
def Um(q2 d:Int):Int:=if d=0 then q2+1 else 0
theorem Uj(w:World)(q1 q2 d:Int)(hq:d=0→ -9223372036854775808≤q2+1∧q2+1≤9223372036854775807):
  Calls Tryz.prog 133 #[.agg #[.int .i64 q1,.int .i64 q2],.int .i64 d] w fun e w'=>e= .returned (.int .i64 (Um q2 d))∧Below w.heap.size w w':=by
 have HB:=qH (((Below.refl w.heap.size w).alloc (Nat.le_refl _) (.cells #[.int .i64 q1,.int .i64 q2] 55)))
 have HR:=qH (Row.new w 55 #[.int .i64 q1,.int .i64 q2])
 obtain ⟨m,hm⟩:∃y,Um q2 d=y:=⟨_,rfl⟩
 rw [hm]
 have HM:=qH hm
 clear hm
 by_cases h0:d=0
 ·have hd:(d==0)=true:=by simp [h0]
  have hmd:Hid (q2+1=m):=by show _=_;rw [←HM.out];exact (if_pos h0).symm
  have hq2:=hq h0
  clear h0 hq
  go_enter Tryz.func133,Tryz.ntmps133
  go_wp2
  go_ret
  exact ⟨by rw [hmd.out];rfl,HB.out⟩
 ·have hd:(d==0)=false:=by simp [h0]
  have hmd:Hid (m=0):=by show _=_;rw [←HM.out];exact if_neg h0
  clear h0 hq
  go_enter Tryz.func133,Tryz.ntmps133
  go_wp2
  go_ret
  exact ⟨by rw [hmd.out];rfl,HB.out⟩
def jA(f:Bool)(q:Pr):Int:=if f then -1 else q.2
theorem zdx{v:Int}(h:0≤v):0≤Yk v∧Yk v≤2097152:=by unfold Yk;split<;>omega
theorem zey{t:Ip}(h:t.err≠0):ya t=t:=if_pos h
theorem zhT{vr r n:Int}{f:Bool}{q:Pr}{s T1:Ip}{d lo1:Int}(hq:YW vr f q)(hvr:vr≤1048576)(hr:r≤1048576)(hn:n≤1048576)(hd:d=Yk (yr s))(h1:T1=if vr≤q.1+d then zO 9 (ya s) else ya s)(hl:lo1=Um (jA f q) d+Yk (yr T1)):
  (zG vr r n f q s).2=(if yl lo1 r n=false then zO 10 (ya T1) else ya T1)∧((if yl lo1 r n=false then zO 10 (ya T1) else ya T1).err=0→(zG vr r n f q s).1=(q.1+d,lo1)):=by
 have hq0:0≤q.1∧0≤q.2:=by
  rcases hq with ⟨_,rfl⟩|⟨_,a,b,c⟩
  ·exact ⟨Int.le_refl _,Int.le_refl _⟩
  ·exact ⟨a,c⟩
 by_cases hA:vr - q.1≤(yr s:Int)
 ·have hA2:vr≤q.1+d:=by rw [hd];unfold Yk;split<;>omega
  rw [if_pos hA2] at h1
  have he:T1.err≠0:=by rw [h1];exact yi (by decide)
  obtain ⟨p1,p2⟩:=zhf (vr:=vr) (r:=r) (n:=n) (f:=f) (q:=q) (s:=s) hA
  have h3:(if yl lo1 r n=false then zO 10 (ya T1) else ya T1)=T1:=by
   rw [zey he,yU he]
   split<;>rfl
  rw [h3]
  exact ⟨by rw [p1,h1],fun h=>absurd h he⟩
 ·have hds:d=yr s:=by rw [hd];unfold Yk;rw [if_pos (by omega)]
  rw [if_neg (by omega)] at h1
  have hll:0≤Um (jA f q) d:=by
   unfold Um jA
   split
   ·split<;>omega
   ·omega
  by_cases hB:4611686018427387904≤(yr (ya s):Int)
  ·obtain ⟨p1,p2⟩:=zhg (vr:=vr) (r:=r) (n:=n) (f:=f) (q:=q) (s:=s) hA hB
   have hm:Yk (yr T1)=2097152:=by rw [h1];exact if_neg (by omega)
   have hL:yl lo1 r n=false:=by
    cases h9:yl lo1 r n
    ·rfl
    ·unfold yl at h9
     rw [if_neg (by omega)] at h9
     split at h9<;>(have:=of_decide_eq_true h9;omega)
   rw [if_pos hL]
   exact ⟨by rw [p1,h1],fun h=>absurd h (yi (by decide))⟩
  ·obtain ⟨lo2,hlo2⟩:∃y,y=if f=false∧(yr s:Int)=0 then q.2+1+(yr (ya s):Int) else (yr (ya s):Int):=⟨_,rfl⟩
   have hc:=zhh (vr:=vr) (r:=r) (n:=n) (f:=f) (q:=q) (s:=s) hA hB hlo2
   rw [hc]
   dsimp only
   have hl2:lo2=Um (jA f q) d+(yr (ya s):Int):=by
    rw [hlo2]
    unfold Um jA
    rw [hds]
    cases f
    ·by_cases h0:(yr s:Int)=0
     ·simp only [h0,and_self,if_true,Bool.false_eq_true,if_false]
     ·simp only [h0,and_false,if_false];omega
    ·simp only [Bool.true_eq_false,false_and,if_false,if_true]
     split<;>omega
   by_cases hC:(yr (ya s):Int)<2097152
   ·have hm:Yk (yr T1)=yr (ya s):=by rw [h1];exact if_pos hC
    have he:lo1=lo2:=by omega
    rw [he,h1,hds]
    exact ⟨rfl,fun _=>rfl⟩
   ·have hm:Yk (yr T1)=2097152:=by rw [h1];exact if_neg hC
    have hL:∀k,2097152≤k→yl k r n=false:=fun k hk=>by
     cases h9:yl k r n
     ·rfl
     ·unfold yl at h9
      rw [if_neg (by omega)] at h9
      split at h9<;>(have:=of_decide_eq_true h9;omega)
    rw [hL lo1 (by omega),hL lo2 (by omega),h1]
    exact ⟨rfl,fun h=>absurd h (yi (by decide))⟩
structure RDB(b bb p:Nat)(vr r n q1 q2:Int)(W:World):Prop where
 x0:Row W b 82 #[.pointer (some ⟨p,0,none⟩)]
 x1:Row W (b+1) 3 #[.int .i64 vr]
 x2:Row W (b+2) 3 #[.int .i64 r]
 x3:Row W (b+3) 3 #[.int .i64 n]
 x4:Row W bb 55 #[.int .i64 q1,.int .i64 q2]
 xb:b+3<bb
theorem RDB.mods{b bb p:Nat}{vr r n q1 q2:Int}{W W':World}{S:Nat→Prop}(h:RDB b bb p vr r n q1 q2 W)(hm:Mods S W W')(hS:∀k,S k→k<b∨bb<k):RDB b bb p vr r n q1 q2 W':=by
 have:=h.xb
 exact ⟨h.x0.mods hm fun e=>by have:=hS _ e;omega,h.x1.mods hm fun e=>by have:=hS _ e;omega,h.x2.mods hm fun e=>by have:=hS _ e;omega,h.x3.mods hm fun e=>by have:=hS _ e;omega,h.x4.mods hm fun e=>by have:=hS _ e;omega,h.xb⟩
theorem RDB.lt{b bb p:Nat}{vr r n q1 q2:Int}{W:World}(h:RDB b bb p vr r n q1 q2 W):bb<W.heap.size:=h.x4.lt
structure RDS(w:World)(lo p:Nat)(l:List Nat)(A:Option Addr)(c:Nat)(t:Ip)(b bb:Nat)(vr r n q1 q2:Int)(z:Nat)(W:World):Prop where
 md:Mods (fun k=>k=p∨k=bb) w W
 ce:CE lo p l A c t W
 bx:RDB b bb p vr r n q1 q2 W
 zr:Row W z 55 #[.int .i64 0,.int .i64 0]
 pb:p<b
 bz:bb<z
 wz:w.heap.size≤z
section
variable {w W W' : World} {lo p : Nat} {l : List Nat} {A : Option Addr} {c : Nat} {t t' : Ip} {b bb : Nat} {vr r n q1 q2 : Int} {z : Nat}
theorem RDS.next(h:RDS w lo p l A c t b bb vr r n q1 q2 z W)(hm:Mods (Is p) W W')(hc:CE lo p l A c t' W'):RDS w lo p l A c t' b bb vr r n q1 q2 z W':=by
 have:=h.pb;have:=h.bz;have:=h.bx.xb
 exact ⟨h.md.then hm fun k hk=> .inl (.inl hk),hc,h.bx.mods hm fun k hk=>by unfold Is at hk;omega,h.zr.mods hm fun e=>by unfold Is at e;omega,h.pb,h.bz,h.wz⟩
theorem RDS.below(h:RDS w lo p l A c t b bb vr r n q1 q2 z W)(hb:Below W.heap.size W W'):RDS w lo p l A c t b bb vr r n q1 q2 z W':=
 h.next (Mods.of_below hb) (h.ce.mods (S:=No) (Mods.of_below hb) fun _ hk=>hk.elim)
theorem RDS.drew(h:RDS w lo p l A c t b bb vr r n q1 q2 z W):RDS w lo p l A c t b bb vr r n q1 q2 z W.drew:=h.below (let b:=Below.refl W.heap.size W;⟨b.os,b.tape,b.output,b.size,b.block⟩)
theorem RDS.cells(h:RDS w lo p l A c t b bb vr r n q1 q2 z W):W.cell? ⟨b,0,none⟩=some (.pointer (some ⟨p,0,none⟩))∧W.cell? ⟨bb,0,none⟩=some (.int .i64 q1)∧W.cell? ⟨bb,1,none⟩=some (.int .i64 q2):=by
 have b0:=h.bx.x0.k0;have b4:=h.bx.x4.k0;have b5:=h.bx.x4.k1
 exact ⟨b0,b4,b5⟩
theorem RDS.set(h:RDS w lo p l A c t b bb vr r n q1 q2 z W)(a1 a2:Int):
  RDS w lo p l A c t b bb vr r n a1 a2 z ((W.setCell ⟨bb,0,none⟩ (.int .i64 a1)).setCell ⟨bb,1,none⟩ (.int .i64 a2)):=by
 have hp:=h.pb;have hz:=h.bz;have hx:=h.bx.xb
 have m1:Mods (Is bb) W ((W.setCell ⟨bb,0,none⟩ (.int .i64 a1)).setCell ⟨bb,1,none⟩ (.int .i64 a2)):=((Mods.refl _ W).put 0 _).put 1 _
 exact ⟨h.md.then m1 fun k hk=> .inl (.inr hk),h.ce.mods m1 fun k hk=>by unfold Is at hk;omega,⟨h.bx.x0.mods m1 fun e=>by unfold Is at e;omega,h.bx.x1.mods m1 fun e=>by unfold Is at e;omega,h.bx.x2.mods m1 fun e=>by unfold Is at e;omega,h.bx.x3.mods m1 fun e=>by unfold Is at e;omega,(h.bx.x4.put 0 _).put 1 _,hx⟩,h.zr.mods m1 fun e=>by unfold Is at e;omega,hp,hz,h.wz⟩
end
def RD1(lo p:Nat)(l:List Nat)(A:Option Addr)(c b bb:Nat)(vr r n:Int)(pr:Pr)(t:Ip)(w:World)(e:Ending)(w':World):Prop:=
 ∃a1 a2,e= .returned (.agg #[.int .i64 a1,.int .i64 a2])∧Mods (fun k=>k=p∨k=bb) w w'∧CE lo p l A c t w'∧RDB b bb p vr r n a1 a2 w'∧(t.err=0→(a1,a2)=pr)
theorem RDS.fin{w W:World}{lo p:Nat}{l:List Nat}{A:Option Addr}{c:Nat}{t:Ip}{b bb:Nat}{vr r n:Int}{z:Nat}{pr:Pr}{a1 a2:Int}(h:RDS w lo p l A c t b bb vr r n a1 a2 z W)(hp:t.err=0→(a1,a2)=pr):
  RD1 lo p l A c b bb vr r n pr t w (.returned (.agg #[.int .i64 a1,.int .i64 a2])) ((W.setCell ⟨z,0,none⟩ (.int .i64 a1)).setCell ⟨z,1,none⟩ (.int .i64 a2))∧Row ((W.setCell ⟨z,0,none⟩ (.int .i64 a1)).setCell ⟨z,1,none⟩ (.int .i64 a2)) z 55 #[.int .i64 a1,.int .i64 a2]:=by
 have hm:Mods (Is z) W ((W.setCell ⟨z,0,none⟩ (.int .i64 a1)).setCell ⟨z,1,none⟩ (.int .i64 a2)):=((Mods.refl _ W).put 0 _).put 1 _
 have:=h.pb;have:=h.bz;have:=h.wz;have:=h.bx.xb
 exact ⟨⟨a1,a2,rfl,h.md.then hm fun k hk=> .inr (by unfold Is at hk;omega),h.ce.mods hm fun k hk=>by unfold Is at hk;omega,h.bx.mods hm fun k hk=>by unfold Is at hk;omega,hp⟩,(h.zr.put 0 _).put 1 _⟩
theorem zgJ{w:World}{lo p:Nat}{l:List Nat}{A:Option Addr}{c:Nat}{s:Ip}(h:CE lo p l A c s w){b bb:Nat}{vr r n:Int}{q:Pr}{f:Bool}(hb:RDB b bb p vr r n q.1 (jA f q) w)(hpb:p<b)(hvr:0≤vr∧vr≤1048576)(hr:0≤r∧r≤1048576)(hn:0≤n∧n≤1048576)(hq:YW vr f q)(hq2:q.2≤4000000000):
  Calls Tryz.prog 131 #[.pointer (some ⟨b,0,none⟩),.pointer (some ⟨bb,0,none⟩),.pointer (some ⟨b+1,0,none⟩),.pointer (some ⟨b+2,0,none⟩),.pointer (some ⟨b+3,0,none⟩)] w (RD1 lo p l A c b bb vr r n (zG vr r n f q s).1 (zG vr r n f q s).2 w):=by
 have hqr:(0≤q.1∧q.1≤vr)∧ -1≤jA f q∧jA f q≤4000000000:=by
  unfold jA
  rcases hq with ⟨rfl,rfl⟩|⟨rfl,a,b,c⟩
  ·exact ⟨⟨Int.le_refl _,hvr.1⟩,Int.le_refl _,by decide⟩
  ·exact ⟨⟨a,by omega⟩,by simp only [Bool.false_eq_true,if_false];omega⟩
 have hlt:=hb.lt
 obtain ⟨d,hd⟩:∃y,y=Yk (yr s):=⟨_,rfl⟩
 obtain ⟨T1,hT1⟩:∃y,y=if vr≤q.1+d then zO 9 (ya s) else ya s:=⟨_,rfl⟩
 obtain ⟨x,hx⟩:∃y,y=Yk (yr T1):=⟨_,rfl⟩
 obtain ⟨least,hle⟩:∃y,y=Um (jA f q) d:=⟨_,rfl⟩
 have HC:=zhT (lo1:=least+x) hq hvr.2 hr.2 hn.2 hd hT1 (by rw [hle,hx])
 obtain ⟨PE,hPE⟩:∃y,zG vr r n f q s=y:=⟨_,rfl⟩
 rw [hPE] at HC⊢
 have hdr:0≤d∧d≤2097152:=by rw [hd];exact zdx (Int.natCast_nonneg _)
 have hxr:0≤x∧x≤2097152:=by rw [hx];exact zdx (Int.natCast_nonneg _)
 have hlr:0≤least∧least≤4000000001:=by rw [hle];unfold Um;split<;>omega
 have h0:Hid (RDS w lo p l A c s b bb vr r n q.1 (jA f q) w.heap.size (w.alloc (.cells #[.int .i64 0,.int .i64 0] 55))):=
  ⟨(Mods.refl _ w).alloc _,h.alloc _,hb.mods ((Mods.refl No w).alloc _) fun _ hk=>hk.elim,Row.new _ _ _,hpb,by omega,Nat.le_refl _⟩
 have C1:=qH (QD h0.out.ce)
 rw [←hd] at C1
 have C2:=qH fun (W:World) (h:RDS w lo p l A c T1 b bb vr r n q.1 (jA f q) w.heap.size W)=>(QD h.ce).mono (R':=fun e w'=>e= .returned (.int .i64 x)∧RDS w lo p l A c (ya T1) b bb vr r n q.1 (jA f q) w.heap.size w') (by
  rintro e W' ⟨rfl,hm,hc⟩
  exact ⟨by rw [hx],h.next hm hc⟩)
 have C3:=qH fun (t:Ip) (W:World) (h:RDS w lo p l A c t b bb vr r n q.1 (jA f q) w.heap.size W)=>(Uj W q.1 (jA f q) d fun _=>by omega).mono (R':=fun e w'=>e= .returned (.int .i64 least)∧RDS w lo p l A c t b bb vr r n q.1 (jA f q) w.heap.size w') (by
  rintro e W' ⟨rfl,hm⟩
  exact ⟨by rw [hle],h.below hm⟩)
 have HT1:=qH hT1
 have HCC:=qH HC
 obtain ⟨T2,hT2⟩:∃y,y=ya T1:=⟨_,rfl⟩
 obtain ⟨S1,hS1⟩:∃y,y=ya s:=⟨_,rfl⟩
 rw [←hT2] at C2 HCC
 rw [←hS1] at C1 HT1
 clear hd hT1 hx hle HC hPE h hb hq hq2 hT2 hS1
 obtain ⟨q1,q2⟩:=q
 dsimp only at*
 generalize jA f (q1,q2)=q3 at*
 go_enter Tryz.func131,Tryz.ntmps131
 go_upto_region 1 with fail
 generalize (w.alloc (.cells #[.int .i64 0,.int .i64 0] 55))=W0 at*
 have b0:=h0.out.bx.x0.k0
 go_wp2_with fail
 refine C1.out.mono ?_
 rintro e W1 ⟨rfl,hm,hc⟩
 have h1:=qH (h0.out.next hm hc)
 clear b0 hm hc h0 C1
 have b0:=h1.out.bx.x0.k0;have b1:=h1.out.bx.x1.k0;have b4:=h1.out.bx.x4.k0;have b5:=h1.out.bx.x4.k1
 go_upto_if 17 with fail
 go_cut [] from 9 (fun wx=>∃W2,W2=wx∧Hid (RDS w lo p l A c T1 b bb vr r n q1 q3 w.heap.size W2))
 case first=>
  by_cases hA:vr≤q1+d
  ·have C4:=qH (Jn h1.out.ce 9 (by decide))
   have hte:Hid (T1=zO 9 S1):=by show _=_;rw [HT1.out,if_pos hA]
   go_wp2_with fail
   refine C4.out.mono ?_
   rintro e W2 ⟨rfl,hm,hc⟩
   have h2:=qH (h1.out.next hm hc)
   rw [←hte.out] at h2
   clear hm hc
   go_wp2_with fail
   go_meet
   case rel=>exact ⟨_,rfl,h2⟩
  ·have hte:Hid (T1=S1):=by show _=_;rw [HT1.out,if_neg hA]
   rw [←hte.out] at h1
   go_wp2_with fail
   go_meet
   case rel=>exact ⟨_,rfl,h1⟩
 case rest=>
  obtain ⟨W2,hW2,h2⟩:=hcut
  subst hW2
  clear b0 b1 b4 b5 h1 HT1
  go_upto_region 5 with fail
  have hG:=h2.out
  obtain ⟨b0,b4,b5⟩:=hG.cells
  have hsum:IntKind.i64.wrap (least+x)=least+x:=by rw [IntKind.wrap_i64];omega
  clear h2
  go_cut [8] from 9 (fun s8 wx=>s8= .int .i64 (least+x)∧RDS w lo p l A c T2 b bb vr r n q1 q3 w.heap.size wx)
  case first=>
   go_region_held3 (fun w'=>w'.cell? ⟨b,0,none⟩=some (.pointer (some ⟨p,0,none⟩))∧w'.cell? ⟨bb,0,none⟩=some (.int .i64 q1)∧w'.cell? ⟨bb,1,none⟩=some (.int .i64 q3)) (first|exact hG.cells|exact hG.drew.cells|exact (hG.drewN _).cells) (first
    |(go_at_call 132;go_must ((with_reducible refine (C2.out _ (by first|exact hG|exact hG.drew|exact hG.drewN _)).mono ?_);rintro e Wa ⟨rfl,hG⟩))
    |(go_at_call 133;go_must ((with_reducible refine (C3.out _ _ (by first|exact hG|exact hG.drew|exact hG.drewN _)).mono ?_);rintro e Wa ⟨rfl,hG⟩)))
   all_goals
    go_wp2_with fail
    go_meet
    case rel=>exact ⟨rfl,by first|exact hG|exact hG.drew|exact hG.drewN _⟩
  case rest=>
   obtain ⟨hs8,h3⟩:=hcut
   subst hs8
   clear b0 b4 b5 hG C2 C3 hsum
   have h4:=qH h3
   clear h3
   generalize wc=W3 at*
   have b0:=h4.out.bx.x0.k0;have b2:=h4.out.bx.x2.k0;have b3:=h4.out.bx.x3.k0
   obtain ⟨lo1,hlo1⟩:∃y,y=least+x:=⟨_,rfl⟩
   have hlor:0≤lo1∧lo1≤5000000000:=by omega
   rw [←hlo1] at HCC⊢
   clear hlo1
   have C4:=qH (YP lo1 r n W3 ⟨by omega,by omega⟩)
   generalize yl lo1 r n=bl at*
   go_wp2_with fail
   refine C4.out.mono ?_
   rintro e W ⟨rfl,rfl⟩
   go_upto_if 30 with fail
   go_cut [] from 9 (fun wx=>∃W5,W5=wx∧Hid (RDS w lo p l A c PE.2 b bb vr r n q1 q3 w.heap.size W5)∧Hid (PE.2.err=0→PE.1=(q1+d,lo1)))
   case first=>
    obtain ⟨e1,e2⟩:=HCC.out
    cases bl
    ·rw [if_pos rfl] at e1 e2
     have hte:=qH e1
     have htp:Hid (PE.2.err=0→PE.1=(q1+d,lo1)):=by show _→_;rw [e1];exact e2
     have C5:=qH (Jn h4.out.ce 10 (by decide))
     clear e1 e2
     go_wp2_with fail
     refine C5.out.mono ?_
     rintro e W6 ⟨rfl,hm,hc⟩
     have h6:=qH (h4.out.next hm hc)
     rw [←hte.out] at h6
     clear hm hc
     go_wp2_with fail
     go_meet
     case rel=>exact ⟨_,rfl,h6,htp⟩
    ·rw [if_neg (by decide)] at e1 e2
     have hte:=qH e1
     have htp:Hid (PE.2.err=0→PE.1=(q1+d,lo1)):=by show _→_;rw [e1];exact e2
     have h6:=h4
     rw [←hte.out] at h6
     clear e1 e2
     go_wp2_with fail
     go_meet
     case rel=>exact ⟨_,rfl,h6,htp⟩
   case rest=>
    obtain ⟨W5,hW5,h5,htp⟩:=hcut
    subst hW5
    clear b0 b2 b3 h4 HCC C4
    have b4f:=h5.out.bx.x4.frozen 0;have b5f:=h5.out.bx.x4.frozen 1
    have b4:=h5.out.bx.x4.k0;have b5:=h5.out.bx.x4.k1
    go_upto_region 9 with fail
    have h6:=qH (h5.out.set (q1+d) lo1)
    clear b4 b5 b4f b5f h5
    generalize ((W5.setCell ⟨bb,0,none⟩ (.int .i64 (q1+d))).setCell ⟨bb,1,none⟩ (.int .i64 lo1))=W6 at*
    have y0:=h6.out.bx.x4.k0;have y1:=h6.out.bx.x4.k1
    have z0:=h6.out.zr.k0;have z1:=h6.out.zr.k1
    have zf0:=h6.out.zr.frozen 0;have zf1:=h6.out.zr.frozen 1
    obtain ⟨HX,HR⟩:=h6.out.fin (pr:=PE.1) (fun h9=>(htp.out h9).symm)
    have HXX:=qH HX
    have HRR:=qH HR
    clear HX HR
    go_wp2
    (try simp only [Exit.inBlock,Exit.then])
    refine bodyPost_ret (v:= .agg #[.int .i64 (q1+d),.int .i64 lo1]) ?_ rfl HXX.out
    exact results_cell_row rfl _ _ w.heap.size 55 #[.int .i64 (q1+d),.int .i64 lo1] (0,0) _ rfl HRR.out Tryz.underlying55 rfl (by kernel_rfl)
theorem zcL(p:Nat)(vr r n:Int)(w:World):
  Calls Tryz.prog 79 #[.pointer (some ⟨p,0,none⟩),.int .i64 vr,.int .i64 r,.int .i64 n] w fun e w'=>∃bb,e= .returned (.func (.func 131) #[] #[.pointer (some ⟨w.heap.size,0,none⟩),.pointer (some ⟨bb,0,none⟩),.pointer (some ⟨w.heap.size+1,0,none⟩),.pointer (some ⟨w.heap.size+2,0,none⟩),.pointer (some ⟨w.heap.size+3,0,none⟩)])∧RDB w.heap.size bb p vr r n 0 (-1) w'∧Below w.heap.size w w':=by
 go_enter Tryz.func79,Tryz.ntmps79
 go_upto_region 1 with fail
 have a0:=Row.new w 82 #[.pointer (some ⟨p,0,none⟩)]
 have e0:(w.alloc (.cells #[.pointer (some ⟨p,0,none⟩)] 82)).heap.size=w.heap.size+1:=by simp
 have hb0:=(Below.refl w.heap.size w).alloc (Nat.le_refl _) (.cells #[.pointer (some ⟨p,0,none⟩)] 82)
 generalize (w.alloc (.cells #[.pointer (some ⟨p,0,none⟩)] 82))=W0 at*
 have a1:=Row.new' e0 3 #[.int .i64 vr]
 have e1:(W0.alloc (.cells #[.int .i64 vr] 3)).heap.size=w.heap.size+2:=by simp [e0]
 have hb1:=hb0.alloc hb0.size (.cells #[.int .i64 vr] 3)
 replace a0:=a0.alloc (.cells #[.int .i64 vr] 3)
 generalize (W0.alloc (.cells #[.int .i64 vr] 3))=W1 at*
 have a2:=Row.new' e1 3 #[.int .i64 r]
 have e2:(W1.alloc (.cells #[.int .i64 r] 3)).heap.size=w.heap.size+3:=by simp [e1]
 have hb2:=hb1.alloc hb1.size (.cells #[.int .i64 r] 3)
 replace a0:=a0.alloc (.cells #[.int .i64 r] 3);replace a1:=a1.alloc (.cells #[.int .i64 r] 3)
 generalize (W1.alloc (.cells #[.int .i64 r] 3))=W2 at*
 have a3:=Row.new' e2 3 #[.int .i64 n]
 have e3:(W2.alloc (.cells #[.int .i64 n] 3)).heap.size=w.heap.size+4:=by simp [e2]
 have hb3:=hb2.alloc hb2.size (.cells #[.int .i64 n] 3)
 replace a0:=a0.alloc (.cells #[.int .i64 n] 3);replace a1:=a1.alloc (.cells #[.int .i64 n] 3);replace a2:=a2.alloc (.cells #[.int .i64 n] 3)
 generalize (W2.alloc (.cells #[.int .i64 n] 3))=W3 at*
 have HB3:=qH hb3
 have A0:=qH a0;have A1:=qH a1;have A2:=qH a2;have A3:=qH a3
 have HE3:=qH e3
 have C:=qH (YM W3)
 clear hb0 hb1 hb2 hb3 a0 a1 a2 a3 e0 e1 e2 e3
 go_wp2_with fail
 refine C.out.mono ?_
 rintro e W4 ⟨rfl,hb4⟩
 have HB4:=qH hb4
 clear hb4 C
 go_wp2
 go_ret
 have hs:=HB4.out.size
 have he:=HE3.out
 have hn:=Row.new W4 55 #[.int .i64 0,.int .i64 (-1)]
 refine ⟨W4.heap.size,rfl,⟨(A0.out.below HB4.out A0.out.lt).alloc _,(A1.out.below HB4.out A1.out.lt).alloc _,(A2.out.below HB4.out A2.out.lt).alloc _,(A3.out.below HB4.out A3.out.lt).alloc _,hn,by omega⟩,?_⟩
 exact (HB3.out.trans (HB4.out.mono (by omega))).alloc (by omega) _
end Go.Proofs.YtnifhpbgmjcndaaGreat
