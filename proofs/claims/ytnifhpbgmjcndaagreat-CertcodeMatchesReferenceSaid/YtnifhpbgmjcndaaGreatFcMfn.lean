/- The reference of layer 18: MFunc (made by wip/lab/genfcmfunc.py). -/
import Derived.Test.YtnifhpbgmjcndaaGreatFcFunc
set_option linter.unusedVariables false
set_option linter.unusedSimpArgs false
set_option maxRecDepth 100000
set_option maxHeartbeats 16000000
namespace Go.Proofs.YtnifhpbgmjcndaaGreat
open Go.RowKit
theorem FHM.start{w:World}{B:Nat}{A:Option Addr}{c:Nat}{s:Ip}(h:IpV w B A c s)(hB:B≤w.heap.size):
  FHM w B A c s 0 0 0 (.slice none 0 0) [] ((((w.alloc (.cells #[.slice A s.rest.length c,.int .i64 s.err] 88)).alloc (.cells #[.int .i64 0,.int .i64 0,.int .i64 0,.slice none 0 0] 28)).alloc (.cells #[.slice none 0 0,.int .i64 0] 88)).alloc (.cells #[.int .i64 0,.int .i64 0,.int .i64 0,.slice none 0 0] 28)):=by
 have hb:=((((ld w.heap.size w).alloc (la _) (.cells #[.slice A s.rest.length c,.int .i64 s.err] 88)).alloc (by simp) (.cells #[.int .i64 0,.int .i64 0,.int .i64 0,.slice none 0 0] 28)).alloc (by simp;omega) (.cells #[.slice none 0 0,.int .i64 0] 88)).alloc (by simp;omega) (.cells #[.int .i64 0,.int .i64 0,.int .i64 0,.slice none 0 0] 28)
 exact ⟨hb,(((Row.new w _ _).alloc _).alloc _).alloc _,((Row.new' (p:=w.heap.size+1) (by simp) _ _).alloc _).alloc _,(Row.new' (p:=w.heap.size+1+1) (by simp) _ _).alloc _,Row.new' (p:=w.heap.size+1+1+1) (by simp) _ _,h.below (hb.mono hB),⟨[],NestV.nil _ _⟩⟩
theorem zfK(x:Mi):∀u∈x.cells,u.oneCell'=true:=by
 intro u hu
 simp only [Mi.cells,List.mem_cons,List.not_mem_nil,or_false] at hu
 rcases hu with rfl|rfl|rfl|rfl|rfl|rfl|rfl<;>rfl
theorem QC(y:MBlk)(A:Option Addr)(n c:Nat):∀u∈jV.oc (.slice A n c) y,u.oneCell'=true:=by
 intro u hu
 simp only [jV,List.mem_cons,List.not_mem_nil,or_false] at hu
 rcases hu with rfl|rfl|rfl|rfl|rfl<;>rfl
def RQG(w:World)(B:Nat)(f:Gd)(t:Ip)(e:Ending)(w':World):Prop:=
 ∃v vs A' c',e= .returned (.tuple #[.agg #[.int .i64 f.args,.int .i64 f.regs,.int .i64 f.slots,v],.agg #[.slice A' t.rest.length c',.int .i64 t.err]])∧NestV jV w' w.heap.size v vs f.ms∧IpV w' B A' c' t∧Below w.heap.size w w'
theorem FHM.fin{w:World}{B:Nat}{A:Option Addr}{c:Nat}{t:Ip}{a r sl:Int}{v:Value}{bs:List MBlk}{W:World}(h:FHM w B A c t a r sl v bs W)(hB:B≤w.heap.size)(u0 u1 u2 u3:Value):
  Row ((((((W.setCell ⟨w.heap.size+1,0,none⟩ u0).setCell ⟨w.heap.size+1,1,none⟩ u1).setCell ⟨w.heap.size+1,2,none⟩ u2).setCell ⟨w.heap.size+1,3,none⟩ u3).setCell ⟨w.heap.size+1+1,0,none⟩ (.slice A t.rest.length c)).setCell ⟨w.heap.size+1+1,1,none⟩ (.int .i64 t.err)).drew (w.heap.size+1) 28 #[u0,u1,u2,u3]∧
  Row ((((((W.setCell ⟨w.heap.size+1,0,none⟩ u0).setCell ⟨w.heap.size+1,1,none⟩ u1).setCell ⟨w.heap.size+1,2,none⟩ u2).setCell ⟨w.heap.size+1,3,none⟩ u3).setCell ⟨w.heap.size+1+1,0,none⟩ (.slice A t.rest.length c)).setCell ⟨w.heap.size+1+1,1,none⟩ (.int .i64 t.err)).drew (w.heap.size+1+1) 88 #[.slice A t.rest.length c,.int .i64 t.err]∧
  Below w.heap.size w ((((((W.setCell ⟨w.heap.size+1,0,none⟩ u0).setCell ⟨w.heap.size+1,1,none⟩ u1).setCell ⟨w.heap.size+1,2,none⟩ u2).setCell ⟨w.heap.size+1,3,none⟩ u3).setCell ⟨w.heap.size+1+1,0,none⟩ (.slice A t.rest.length c)).setCell ⟨w.heap.size+1+1,1,none⟩ (.int .i64 t.err)).drew∧
  IpV ((((((W.setCell ⟨w.heap.size+1,0,none⟩ u0).setCell ⟨w.heap.size+1,1,none⟩ u1).setCell ⟨w.heap.size+1,2,none⟩ u2).setCell ⟨w.heap.size+1,3,none⟩ u3).setCell ⟨w.heap.size+1+1,0,none⟩ (.slice A t.rest.length c)).setCell ⟨w.heap.size+1+1,1,none⟩ (.int .i64 t.err)).drew B A c t∧
  ∃vs,NestV jV ((((((W.setCell ⟨w.heap.size+1,0,none⟩ u0).setCell ⟨w.heap.size+1,1,none⟩ u1).setCell ⟨w.heap.size+1,2,none⟩ u2).setCell ⟨w.heap.size+1,3,none⟩ u3).setCell ⟨w.heap.size+1+1,0,none⟩ (.slice A t.rest.length c)).setCell ⟨w.heap.size+1+1,1,none⟩ (.int .i64 t.err)).drew (w.heap.size+1+1+1+1) v vs bs:=by
 have h1:Mods (Is (w.heap.size+1)) W ((((W.setCell ⟨w.heap.size+1,0,none⟩ u0).setCell ⟨w.heap.size+1,1,none⟩ u1).setCell ⟨w.heap.size+1,2,none⟩ u2).setCell ⟨w.heap.size+1,3,none⟩ u3):=((((Mods.refl _ W).put 0 u0).put 1 u1).put 2 u2).put 3 u3
 have r1:Row ((((W.setCell ⟨w.heap.size+1,0,none⟩ u0).setCell ⟨w.heap.size+1,1,none⟩ u1).setCell ⟨w.heap.size+1,2,none⟩ u2).setCell ⟨w.heap.size+1,3,none⟩ u3) (w.heap.size+1) 28 #[u0,u1,u2,u3]:=(((h.z2.put 0 u0).put 1 u1).put 2 u2).put 3 u3
 have r3:=h.z3.mods h1 (fun e=>by unfold Is at e;omega)
 generalize ((((W.setCell ⟨w.heap.size+1,0,none⟩ u0).setCell ⟨w.heap.size+1,1,none⟩ u1).setCell ⟨w.heap.size+1,2,none⟩ u2).setCell ⟨w.heap.size+1,3,none⟩ u3)=V at*
 have h2:Mods (Is (w.heap.size+1+1)) V ((V.setCell ⟨w.heap.size+1+1,0,none⟩ (.slice A t.rest.length c)).setCell ⟨w.heap.size+1+1,1,none⟩ (.int .i64 t.err)).drew:=(((Mods.refl _ V).put 0 _).put 1 _).drew
 have r4:Row ((V.setCell ⟨w.heap.size+1+1,0,none⟩ (.slice A t.rest.length c)).setCell ⟨w.heap.size+1+1,1,none⟩ (.int .i64 t.err)).drew (w.heap.size+1+1) 88 #[.slice A t.rest.length c,.int .i64 t.err]:=((r3.put 0 _).put 1 _).drew
 generalize ((V.setCell ⟨w.heap.size+1+1,0,none⟩ (.slice A t.rest.length c)).setCell ⟨w.heap.size+1+1,1,none⟩ (.int .i64 t.err)).drew=U at*
 have hbw:=h.blw.size
 have hb1:Below w.heap.size W V:=h1.below hbw fun k hk=>by unfold Is at hk;omega
 have hb2:Below w.heap.size V U:=h2.below (by have:=hb1.size;omega) fun k hk=>by unfold Is at hk;omega
 obtain ⟨vs,hn⟩:=h.nest
 exact ⟨r1.mods h2 (fun e=>by unfold Is at e;omega),r4,h.blw.trans (hb1.trans hb2),h.ip.below ((hb1.trans hb2).mono hB),vs,(hn.mods h1 fun k a1 _ a2=>by unfold Is at a2;omega).mods h2 fun k a1 _ a2=>by unfold Is at a2;omega⟩
theorem zab{w:World}{B:Nat}{A:Option Addr}{c:Nat}{s:Ip}(h:IpV w B A c s)(hB:B≤w.heap.size):
  Calls Tryz.prog 38 #[.agg #[.slice A s.rest.length c,.int .i64 s.err]] w (RQG w B (zq s).1 (zq s).2):=by
 obtain ⟨i0,hi0,hz0,hz1,hz2⟩:=info_parts zb7
 obtain ⟨i1,hi1,hy0,hy1,hy2⟩:=info_parts zb8
 obtain ⟨⟨a,sa⟩,hA⟩:∃y,fA s=y:=⟨_,rfl⟩
 obtain ⟨⟨r,sr⟩,hR⟩:∃y,fR' s=y:=⟨_,rfl⟩
 obtain ⟨⟨sl,ss⟩,hS⟩:∃y,gS s=y:=⟨_,rfl⟩
 obtain ⟨sc,hC⟩:∃y,gC s=y:=⟨_,rfl⟩
 obtain ⟨⟨n,sn⟩,hN⟩:∃y,gN s=y:=⟨_,rfl⟩
 obtain ⟨FB,hFB⟩:∃y,gB s=y:=⟨_,rfl⟩
 have EA:Hid (zR s=(a,sa)):=hA
 have ER:Hid (zR sa=(r,sr)):=by show _=_;have:=hR;unfold fR' at this;rw [hA] at this;exact this
 have ES:Hid (zR sr=(sl,ss)):=by show _=_;have:=hS;unfold gS at this;rw [hR] at this;exact this
 have EC:Hid ((if sl<a then zA 10 ss else ss)=sc):=by show _=_;have:=hC;unfold gC at this;rw [hA,hS] at this;exact this
 have EN:Hid (yl sc=(n,sn)):=by show _=_;have:=hN;unfold gN at this;rw [hC] at this;exact this
 have EB:Hid (zK r sl n n.toNat 0 sn=FB):=by show _=_;have:=hFB;unfold gB at this;rw [hN,hR,hS] at this;exact this
 have EF:Hid (zq s=if FB.2.err≠0 then (⟨0,0,0, []⟩,FB.2) else (⟨a,r,sl,FB.1⟩,FB.2)):=by show _=_;unfold zq;rw [hFB,hA,hR,hS]
 have ra:0≤a∧a≤1048576:=by have:=yM (s:=s);rw [EA.out] at this;exact this
 have rr:0≤r∧r≤1048576:=by have:=yM (s:=sa);rw [ER.out] at this;exact this
 have rl:0≤sl∧sl≤1048576:=by have:=yM (s:=sr);rw [ES.out] at this;exact this
 have rn:0≤n∧n≤1048576:=by have:=QA (s:=sc);rw [EN.out] at this;exact this
 obtain ⟨FE,hFE⟩:∃y,y=zq s:=⟨_,rfl⟩
 rw [←hFE] at EF⊢
 clear hA hR hS hC hN hFB hFE
 have HBB:=qH hB
 have HF0:=qH (FHM.start h hB)
 clear h hB
 go_enter Tryz.func38,Tryz.ntmps38
 go_upto_region 2 with fail
 generalize ((((w.alloc (.cells #[.slice A s.rest.length c,.int .i64 s.err] 88)).alloc (.cells #[.int .i64 0,.int .i64 0,.int .i64 0,.slice none 0 0] 28)).alloc (.cells #[.slice none 0 0,.int .i64 0] 88)).alloc (.cells #[.int .i64 0,.int .i64 0,.int .i64 0,.slice none 0 0] 28))=W0 at*
 have C:=qH (jM HF0.out.ip (lf HBB.out HF0.out.blw.size))
 rw [EA.out] at C
 have p0:=HF0.out.inp.k0;have p1:=HF0.out.inp.k1
 go_wp2_with fail
 refine C.out.mono ?_
 rintro e W1 ⟨A1,c1,rfl,hI,hb⟩
 have HF1:=qH (HF0.out.next hb HBB.out)
 have HI1:=qH hI
 clear hb hI C p0 p1 HF0
 have p0:=HF1.out.inp.k0;have p1:=HF1.out.inp.k1
 have pf0:=HF1.out.inp.frozen 0;have pf1:=HF1.out.inp.frozen 1
 have f0:=HF1.out.fb.k0;have f1:=HF1.out.fb.k1;have f2:=HF1.out.fb.k2;have f3:=HF1.out.fb.k3
 have ff0:=HF1.out.fb.frozen 0;have ff1:=HF1.out.fb.frozen 1;have ff2:=HF1.out.fb.frozen 2;have ff3:=HF1.out.fb.frozen 3
 go_upto_region 3 with fail
 have HF1s:=qH ((HF1.out.fld 0 (.int .i64 a) rfl HBB.out).inpt (HI1.out.below ((ld _ _).setCell (p:=⟨w.heap.size+1+1+1,0,none⟩) (by show _≤w.heap.size+1+1+1;have:=HBB.out;omega) (.int .i64 a))) HBB.out)
 clear p0 p1 pf0 pf1 f0 f1 f2 f3 ff0 ff1 ff2 ff3 HF1 HI1
 generalize (((W1.setCell ⟨w.heap.size+1+1+1,0,none⟩ (.int .i64 a)).setCell ⟨w.heap.size,0,none⟩ (.slice A1 sa.rest.length c1)).setCell ⟨w.heap.size,1,none⟩ (.int .i64 sa.err))=W1s at*
 have C:=qH (jM HF1s.out.ip (lf HBB.out HF1s.out.blw.size))
 rw [ER.out] at C
 have p0:=HF1s.out.inp.k0;have p1:=HF1s.out.inp.k1
 go_wp2_with fail
 refine C.out.mono ?_
 rintro e W2 ⟨A2,c2,rfl,hI,hb⟩
 have HF2:=qH (HF1s.out.next hb HBB.out)
 have HI2:=qH hI
 clear hb hI C p0 p1 HF1s
 have p0:=HF2.out.inp.k0;have p1:=HF2.out.inp.k1
 have pf0:=HF2.out.inp.frozen 0;have pf1:=HF2.out.inp.frozen 1
 have f0:=HF2.out.fb.k0;have f1:=HF2.out.fb.k1;have f2:=HF2.out.fb.k2;have f3:=HF2.out.fb.k3
 have ff0:=HF2.out.fb.frozen 0;have ff1:=HF2.out.fb.frozen 1;have ff2:=HF2.out.fb.frozen 2;have ff3:=HF2.out.fb.frozen 3
 go_upto_region 4 with fail
 have HF2s:=qH ((HF2.out.fld 1 (.int .i64 r) rfl HBB.out).inpt (HI2.out.below ((ld _ _).setCell (p:=⟨w.heap.size+1+1+1,1,none⟩) (by show _≤w.heap.size+1+1+1;have:=HBB.out;omega) (.int .i64 r))) HBB.out)
 clear p0 p1 pf0 pf1 f0 f1 f2 f3 ff0 ff1 ff2 ff3 HF2 HI2
 generalize (((W2.setCell ⟨w.heap.size+1+1+1,1,none⟩ (.int .i64 r)).setCell ⟨w.heap.size,0,none⟩ (.slice A2 sr.rest.length c2)).setCell ⟨w.heap.size,1,none⟩ (.int .i64 sr.err))=W2s at*
 have C:=qH (jM HF2s.out.ip (lf HBB.out HF2s.out.blw.size))
 rw [ES.out] at C
 have p0:=HF2s.out.inp.k0;have p1:=HF2s.out.inp.k1
 go_wp2_with fail
 refine C.out.mono ?_
 rintro e W6 ⟨A6,c6,rfl,hI,hb⟩
 have HF6:=qH (HF2s.out.next hb HBB.out)
 have HI6:=qH hI
 clear hb hI C p0 p1 HF2s
 have p0:=HF6.out.inp.k0;have p1:=HF6.out.inp.k1
 have pf0:=HF6.out.inp.frozen 0;have pf1:=HF6.out.inp.frozen 1
 have f0:=HF6.out.fb.k0;have f1:=HF6.out.fb.k1;have f2:=HF6.out.fb.k2;have f3:=HF6.out.fb.k3
 have ff0:=HF6.out.fb.frozen 0;have ff1:=HF6.out.fb.frozen 1;have ff2:=HF6.out.fb.frozen 2;have ff3:=HF6.out.fb.frozen 3
 go_upto_region 5 with fail
 have HF6s:=qH ((HF6.out.fld 2 (.int .i64 sl) rfl HBB.out).inpt (HI6.out.below ((ld _ _).setCell (p:=⟨w.heap.size+1+1+1,2,none⟩) (by show _≤w.heap.size+1+1+1;have:=HBB.out;omega) (.int .i64 sl))) HBB.out)
 clear p0 p1 pf0 pf1 f0 f1 f2 f3 ff0 ff1 ff2 ff3 HF6 HI6
 generalize (((W6.setCell ⟨w.heap.size+1+1+1,2,none⟩ (.int .i64 sl)).setCell ⟨w.heap.size,0,none⟩ (.slice A6 ss.rest.length c6)).setCell ⟨w.heap.size,1,none⟩ (.int .i64 ss.err))=W6s at*
 have f0:=HF6s.out.fb.k0;have f1:=HF6s.out.fb.k1;have f2:=HF6s.out.fb.k2;have f3:=HF6s.out.fb.k3
 have p0:=HF6s.out.inp.k0;have p1:=HF6s.out.inp.k1
 have pf0:=HF6s.out.inp.frozen 0;have pf1:=HF6s.out.inp.frozen 1
 go_upto_if 35 with fail
 go_cut [] from 13 (fun wx=>∃A c,Hid (FHM w B A c sc a r sl (.slice none 0 0) [] wx))
 case first=>
  by_cases hc:sl<a
  ·have hcE:Hid (zA 10 ss=sc):=by show _=_;rw [←EC.out,if_pos hc]
   have C:=qH (jb 10 HF6s.out.ip (lf HBB.out HF6s.out.blw.size))
   rw [hcE.out] at C
   go_wp2_with fail
   refine C.out.mono ?_
   rintro e W3 ⟨A3,c3,rfl,hI,hb⟩
   have HF3:=qH (HF6s.out.next hb HBB.out)
   have HI3:=qH hI
   clear hb hI C p0 p1 pf0 pf1 f0 f1 f2 f3 HF6s
   have p0:=HF3.out.inp.k0;have p1:=HF3.out.inp.k1
   have pf0:=HF3.out.inp.frozen 0;have pf1:=HF3.out.inp.frozen 1
   go_wp2_with fail
   go_meet
   case rel=>exact ⟨A3,c3,HF3.out.inpt HI3.out HBB.out⟩
  ·have hcE:Hid (ss=sc):=by show _=_;rw [←EC.out,if_neg hc]
   have hc':a≤sl:=by omega
   clear hc
   go_wp2_with fail
   go_meet
   case rel=>exact ⟨A6,c6,by rw [←hcE.out];exact HF6s.out⟩
 case rest=>
  obtain ⟨A4,c4,HF4⟩:=hcut
  clear HF6s p0 p1 pf0 pf1 f0 f1 f2 f3 EC
  go_upto_region 8 with fail
  have C:=qH (Z3 HF4.out.ip (lf HBB.out HF4.out.blw.size))
  rw [EN.out] at C
  have p0:=HF4.out.inp.k0;have p1:=HF4.out.inp.k1
  go_wp2_with fail
  refine C.out.mono ?_
  rintro e W5 ⟨A5,c5,rfl,hI,hb⟩
  have HF5:=qH (HF4.out.next hb HBB.out)
  have HI5:=qH hI
  clear hb hI C p0 p1 HF4
  have p0:=HF5.out.inp.k0;have p1:=HF5.out.inp.k1
  have pf0:=HF5.out.inp.frozen 0;have pf1:=HF5.out.inp.frozen 1
  go_upto_region 9 with fail
  have HF6:=qH (HF5.out.inpt HI5.out HBB.out)
  clear p0 p1 pf0 pf1 HF5 HI5
  generalize ((W5.setCell ⟨w.heap.size,0,none⟩ (.slice A5 sn.rest.length c5)).setCell ⟨w.heap.size,1,none⟩ (.int .i64 sn.err))=W6 at*
  go_wp2
  go_loopg [6,7] n.toNat (fun g v6 v7 wr=>∃(i:Nat) (tot:Int) (A:Option Addr) (c:Nat) (t:Ip) (v:Value) (bs:List MBlk),i+g=n.toNat∧v6= .int .i64 tot∧v7= .int .i64 i∧(0≤tot∧tot≤1048576)∧Hid (bs.length=i)∧Hid (FB=(bs++(zK r sl n g tot t).1,(zK r sl n g tot t).2))∧Hid (FHM w B A c t a r sl v bs wr))
  case atStart=>exact ⟨0,0,A5,c5,sn,_, [],by omega,rfl,rfl,by omega,rfl,EB.out.symm,HF6.out⟩
  case round=>
   clear HF6 EB EN
   obtain ⟨i,tot,A,c,t,v,bs,hig,rfl,rfl,ht,hbl,HE,HF⟩:=hrel
   cases gk with
   |zero=>
    have hin:¬(i:Int)<n:=by omega
    have HEE:Hid (FB=(bs,t)):=by show _=_;rw [HE.out];show (bs++ [],t)=_;rw [lA]
    by_cases he:t.err≠0
    ·have p0:=HF.out.inp.cell 0;have p1:=HF.out.inp.cell 1
     simp only [ln,lk,lm] at p0 p1
     have g0:=HF.out.z2.k0;have g1:=HF.out.z2.k1;have g2:=HF.out.z2.k2;have g3:=HF.out.z2.k3
     have gf0:=HF.out.z2.frozen 0;have gf1:=HF.out.z2.frozen 1;have gf2:=HF.out.z2.frozen 2;have gf3:=HF.out.z2.frozen 3
     have q0:=HF.out.z3.k0;have q1:=HF.out.z3.k1
     have qf0:=HF.out.z3.frozen 0;have qf1:=HF.out.z3.frozen 1
     have d0:(t.err !=0)=true:=by simp [he]
     have d1:(t.err==0)=false:=by simp [he]
     have HFE:Hid (FE=(⟨0,0,0, []⟩,t)):=by show _=_;rw [EF.out,HEE.out];exact if_pos he
     clear he
     go_wp2_with fail
     go_region
     go_wp2
     (try simp only [Exit.inBlock,Exit.then])
     obtain ⟨f1,f2,f3,f4,f5⟩:=HF.out.fin HBB.out (.int .i64 0) (.int .i64 0) (.int .i64 0) (.slice none 0 0)
     refine bodyPost_ret (v:= .tuple #[.agg #[.int .i64 0,.int .i64 0,.int .i64 0,.slice none 0 0],.agg #[.slice A t.rest.length c,.int .i64 t.err]]) ?_ rfl ⟨.slice none 0 0, [],A,c,by rw [HFE.out],by rw [HFE.out];exact NestV.nil _ _,by rw [HFE.out];exact f4,f3⟩
     exact zH rfl _ _ (w.heap.size+1+1) (w.heap.size+1) 88 28 #[.slice A t.rest.length c,.int .i64 t.err] #[.int .i64 0,.int .i64 0,.int .i64 0,.slice none 0 0] (0,0) (0,0) _ _ rfl f2 Tryz.underlying88 rfl (by kernel_rfl) rfl f1 Tryz.underlying28 rfl (by kernel_rfl)
    ·have he:t.err=0:=by omega
     obtain ⟨vs0,hn0⟩:=HF.out.nest
     obtain ⟨Av,cv,rfl,_,_⟩:=zh hn0.outer
     clear hn0
     have p0:=HF.out.inp.k0;have p1:=HF.out.inp.k1
     have g0:=HF.out.z2.k0;have g1:=HF.out.z2.k1;have g2:=HF.out.z2.k2;have g3:=HF.out.z2.k3
     have gf0:=HF.out.z2.frozen 0;have gf1:=HF.out.z2.frozen 1;have gf2:=HF.out.z2.frozen 2;have gf3:=HF.out.z2.frozen 3
     have q0:=HF.out.z3.k0;have q1:=HF.out.z3.k1
     have qf0:=HF.out.z3.frozen 0;have qf1:=HF.out.z3.frozen 1
     have f0:=HF.out.fb.k0;have f1:=HF.out.fb.k1;have f2:=HF.out.fb.k2;have f3:=HF.out.fb.k3
     have d0:(t.err !=0)=false:=by simp [he]
     have HFE:Hid (FE=(⟨a,r,sl,bs⟩,t)):=by show _=_;rw [EF.out,HEE.out];exact if_neg fun hh=>hh he
     clear he
     go_wp2_with fail
     go_region
     go_wp2
     (try simp only [Exit.inBlock,Exit.then])
     obtain ⟨f1,f2,f3,f4,vs,f5⟩:=HF.out.fin HBB.out (.int .i64 a) (.int .i64 r) (.int .i64 sl) (.slice Av vs0.length cv)
     refine bodyPost_ret (v:= .tuple #[.agg #[.int .i64 a,.int .i64 r,.int .i64 sl,.slice Av vs0.length cv],.agg #[.slice A t.rest.length c,.int .i64 t.err]]) ?_ rfl ⟨.slice Av vs0.length cv,vs,A,c,by rw [HFE.out],by rw [HFE.out];exact f5.rebase (by omega),by rw [HFE.out];exact f4,f3⟩
     exact zH rfl _ _ (w.heap.size+1+1) (w.heap.size+1) 88 28 #[.slice A t.rest.length c,.int .i64 t.err] #[.int .i64 a,.int .i64 r,.int .i64 sl,.slice Av vs0.length cv] (0,0) (0,0) _ _ rfl f2 Tryz.underlying88 rfl (by kernel_rfl) rfl f1 Tryz.underlying28 rfl (by kernel_rfl)
   |succ g=>
    have hin:(i:Int)<n:=by omega
    by_cases he:t.err≠0
    ·have HEE:Hid (FB=(bs,t)):=by show _=_;rw [HE.out,yP he];show (bs++ [],t)=_;rw [lA]
     have p0:=HF.out.inp.k0;have p1:=HF.out.inp.k1
     have g0:=HF.out.z2.k0;have g1:=HF.out.z2.k1;have g2:=HF.out.z2.k2;have g3:=HF.out.z2.k3
     have gf0:=HF.out.z2.frozen 0;have gf1:=HF.out.z2.frozen 1;have gf2:=HF.out.z2.frozen 2;have gf3:=HF.out.z2.frozen 3
     have q0:=HF.out.z3.k0;have q1:=HF.out.z3.k1
     have qf0:=HF.out.z3.frozen 0;have qf1:=HF.out.z3.frozen 1
     have d0:(t.err !=0)=true:=by simp [he]
     have d1:(t.err==0)=false:=by simp [he]
     have HFE:Hid (FE=(⟨0,0,0, []⟩,t)):=by show _=_;rw [EF.out,HEE.out];exact if_pos he
     clear he
     go_wp2_with fail
     go_region
     go_wp2
     (try simp only [Exit.inBlock,Exit.then])
     obtain ⟨f1,f2,f3,f4,f5⟩:=HF.out.fin HBB.out (.int .i64 0) (.int .i64 0) (.int .i64 0) (.slice none 0 0)
     refine bodyPost_ret (v:= .tuple #[.agg #[.int .i64 0,.int .i64 0,.int .i64 0,.slice none 0 0],.agg #[.slice A t.rest.length c,.int .i64 t.err]]) ?_ rfl ⟨.slice none 0 0, [],A,c,by rw [HFE.out],by rw [HFE.out];exact NestV.nil _ _,by rw [HFE.out];exact f4,f3⟩
     exact zH rfl _ _ (w.heap.size+1+1) (w.heap.size+1) 88 28 #[.slice A t.rest.length c,.int .i64 t.err] #[.int .i64 0,.int .i64 0,.int .i64 0,.slice none 0 0] (0,0) (0,0) _ _ rfl f2 Tryz.underlying88 rfl (by kernel_rfl) rfl f1 Tryz.underlying28 rfl (by kernel_rfl)
    ·have he:t.err=0:=by omega
     have HEZ:=qH he
     have d0:(t.err==0)=true:=by simp [he]
     obtain ⟨⟨k,tk⟩,hK⟩:∃y,zN tot t=y:=⟨_,rfl⟩
     have rk:0≤k∧tot+k≤1048576:=by have:=QB (s:=t) ht.2;rw [hK] at this;exact this
     have EK:=qH hK
     have EKK:Hid (yJ tot t=k):=by show _=_;unfold yJ;rw [hK]
     clear he hK
     have p0:=HF.out.inp.k0;have p1:=HF.out.inp.k1
     go_upto_region 15 with fail
     have hbx:=(ld wr.heap.size wr).alloc (la _) (.cells #[.slice none 0 0,.int .i64 0,.int .i64 0,.int .i64 0,.int .i64 0] 63)
     have HG0:Hid (GHM w wr B A c t a r sl v bs (.slice none 0 0) [] (wr.alloc (.cells #[.slice none 0 0,.int .i64 0,.int .i64 0,.int .i64 0,.int .i64 0] 63))):=
      ⟨⟨A,c,t,HF.out⟩,(Mods.refl _ _).alloc _,HF.out.inp.alloc _,HF.out.ip.below (hbx.mono (lf HBB.out HF.out.blw.size)),Row.new _ _ _,⟨by simp,.inl ⟨rfl,rfl⟩⟩⟩
     clear hbx p0 p1 HF
     generalize (wr.alloc (.cells #[.slice none 0 0,.int .i64 0,.int .i64 0,.int .i64 0,.int .i64 0] 63))=Wb at*
     obtain ⟨wo,hwo⟩:∃z,z=wr:=⟨_,rfl⟩
     subst hwo
     have C:=qH (Ua tot ⟨ht.1,by omega⟩ HG0.out.ip (lf HBB.out HG0.out.blw.size))
     rw [EK.out] at C
     have p0:=HG0.out.inp.k0;have p1:=HG0.out.inp.k1
     go_wp2_with fail
     refine C.out.mono ?_
     rintro e W2 ⟨A2,c2,rfl,hI,hb⟩
     have HG1:=qH (HG0.out.next hb HBB.out)
     have HI1:=qH hI
     clear hb hI C p0 p1 HG0
     have p0:=HG1.out.inp.k0;have p1:=HG1.out.inp.k1
     have pf0:=HG1.out.inp.frozen 0;have pf1:=HG1.out.inp.frozen 1
     go_upto_region 16 with fail
     have HG2:=qH (HG1.out.inpt HI1.out HBB.out)
     clear p0 p1 pf0 pf1 HG1 HI1
     generalize ((W2.setCell ⟨w.heap.size,0,none⟩ (.slice A2 tk.rest.length c2)).setCell ⟨w.heap.size,1,none⟩ (.int .i64 tk.err))=W3 at*
     go_wp2
     go_loopg [10,11] k.toNat (fun g2 v10 v11 wx=>∃(j run:Nat) (A:Option Addr) (c:Nat) (t2:Ip) (vc:Value) (xs:List Mi),j+g2=k.toNat∧v10= .int .i64 run∧v11= .int .i64 j∧run≤j∧Hid (xs.length=j)∧Hid (ym r sl tot t=(xs++(miE r sl g2 run t2).1,(miE r sl g2 run t2).2))∧Hid (GHM w wo B A c t2 a r sl v bs vc xs wx))
     case atStart=>exact ⟨0,0,A2,c2,tk,_, [],by omega,rfl,rfl,la _,rfl,(by show ym r sl tot t=_;unfold ym;rw [EK.out];rfl),HG2.out⟩
     case round=>
      clear HG2
      obtain ⟨j,run,A,c,t2,vc,xs,hjg,rfl,rfl,hrun,hxl2,HI,HG⟩:=hrel
      cases gk with
      |zero=>
       have hjn:¬(j:Int)<k:=by omega
       replace HI:Hid (ym r sl tot t=(xs,t2)):=by show _=_;rw [HI.out];show (xs++ [],t2)=_;rw [lA]
       obtain ⟨⟨tm,tt⟩,hT⟩:∃y,yL r n t2=y:=⟨_,rfl⟩
       have ET:Hid (yr r sl n tot t=(tm,tt)):=by show _=_;unfold yr;rw [HI.out];exact hT
       have C:=qH (JQ r n HG.out.ip (lf HBB.out HG.out.blw.size) ⟨rr.1,by omega⟩ ⟨rn.1,by omega⟩)
       rw [hT] at C
       clear hT
       have p0:=HG.out.inp.k0;have p1:=HG.out.inp.k1
       have f0:=HG.out.fb.k0;have f1:=HG.out.fb.k1;have f2:=HG.out.fb.k2;have f3:=HG.out.fb.k3
       go_wp2_with fail
       refine C.out.mono ?_
       rintro e W2 ⟨A2,c2,rfl,hI,hb⟩
       have HG2:=qH (HG.out.next hb HBB.out)
       have HI2:=qH hI
       clear hb hI C HG p0 p1 f0 f1 f2 f3
       have p0:=HG2.out.inp.k0;have p1:=HG2.out.inp.k1
       have pf0:=HG2.out.inp.frozen 0;have pf1:=HG2.out.inp.frozen 1
       have b0:=HG2.out.bb.k0;have b1:=HG2.out.bb.k1;have b2:=HG2.out.bb.k2;have b3:=HG2.out.bb.k3;have b4:=HG2.out.bb.k4
       have bf0:=HG2.out.bb.frozen 0;have bf1:=HG2.out.bb.frozen 1;have bf2:=HG2.out.bb.frozen 2;have bf3:=HG2.out.bb.frozen 3;have bf4:=HG2.out.bb.frozen 4
       have hq1:¬wo.heap.size=w.heap.size:=by have:=HG2.out.lo;omega
       have hq2:¬w.heap.size=wo.heap.size:=by omega
       go_upto_region 30 with fail
       have HT:=qH (HG2.out.term tm HI2.out HBB.out)
       clear HG2 HI2 p0 p1 pf0 pf1 b0 b1 b2 b3 b4 bf0 bf1 bf2 bf3 bf4
       generalize ((((((W2.setCell ⟨wo.heap.size,1,none⟩ (.int .i64 tm.kind)).setCell ⟨wo.heap.size,2,none⟩ (.int .i64 tm.a)).setCell ⟨wo.heap.size,3,none⟩ (.int .i64 tm.to)).setCell ⟨wo.heap.size,4,none⟩ (.int .i64 tm.el)).setCell ⟨w.heap.size,0,none⟩ (.slice A2 tt.rest.length c2)).setCell ⟨w.heap.size,1,none⟩ (.int .i64 tt.err))=V2 at*
       obtain ⟨vs,hn,hn2⟩:=HT.out.nest
       have HN:=qH hn
       have hvl:=qH hn.len
       have hon:=hn2.outer
       obtain ⟨Av,cv,rfl,_,_⟩:=zh hon
       have hown:(V2.alloc (.cells #[vc,.int .i64 tm.kind,.int .i64 tm.a,.int .i64 tm.to,.int .i64 tm.el] 63)).ownsRow (w.heap.size+1+1+1+1) 63 5 (.slice Av vs.length cv) vs.length ((vs.zip bs).flatMap fun p=>jV.oc p.1 p.2):=((Mods.refl No V2).alloc _).ownS hon fun _ _ hk=>hk.elim
       have hnew:=yI V2 #[vc,.int .i64 tm.kind,.int .i64 tm.a,.int .i64 tm.to,.int .i64 tm.el] 63
       have hlo:=HT.out.lo
       have hvc:∃Ac cc,vc= .slice Ac xs.length cc:=by obtain ⟨Ac,cc,h9,_⟩:=zh HT.out.own;exact ⟨Ac,cc,h9⟩
       obtain ⟨Ac,cc,rfl⟩:=hvc
       have b0:=HT.out.bb.k0;have b1:=HT.out.bb.k1;have b2:=HT.out.bb.k2;have b3:=HT.out.bb.k3;have b4:=HT.out.bb.k4
       have f0:=HT.out.fb.k0;have f1:=HT.out.fb.k1;have f2:=HT.out.fb.k2;have f3:=HT.out.fb.k3
       clear hn hn2 hon
       go_wp2_with (at_builtin;refine zB _ rfl (.tmp 106) (.tmp 108) 26 rfl (w.heap.size+1+1+1+1) 63 i1 (.agg #[.slice none 0 0,.int .i64 0,.int .i64 0,.int .i64 0,.int .i64 0]) 5 56 Tryz.underlying26 hi1 hy0 hy1 hy2 rfl (by decide) _ _ _ rfl hown (V2.heap.size+1) _ 1 1 _ rfl hnew rfl (QC ⟨xs,tm⟩ Ac xs.length cc) ?c1 ?c2 ?c3 ?_)
       case c1=>have:=hvl.out;have:=hbl.out;unfold maxLen;omega
       case c2=>have:=hvl.out;have:=hbl.out;omega
       case c3=>(try rw [World.size_alloc]);omega
       intro v5 W5 ho hg _
       obtain ⟨Aw,cw,rfl,_,_⟩:=zh ho
       obtain ⟨hrw,hfh⟩:=HT.out.app HBB.out HN.out ho hg
       have HF7:=qH hfh
       clear b0 b1 b2 b3 b4 f0 f1 f2 f3 hown hnew ho hg hfh HT HN
       have f2:=hrw.k3;have ff2:=hrw.frozen 3
       clear hrw
       have HE7:Hid (FB=((bs++ [⟨xs,tm⟩])++(zK r sl n g (tot+k) tt).1,(zK r sl n g (tot+k) tt).2)):=by
        show _=_
        rw [HE.out]
        have e9:zK r sl n (g+1) tot t=(⟨(ym r sl tot t).1,(yr r sl n tot t).1⟩::(zK r sl n g (tot+yJ tot t) (yr r sl n tot t).2).1,(zK r sl n g (tot+yJ tot t) (yr r sl n tot t).2).2):=if_neg fun hh=>hh HEZ.out
        rw [e9,ET.out,HI.out,show yJ tot t=k from EKK.out]
        simp only [lg,List.singleton_append]
       go_wp2
       go_roundg g
       case measure=>omega
       case rel=>exact ⟨i+1,tot+k,A2,c2,tt,_,bs++ [(⟨xs,tm⟩:MBlk)],by omega,by go_num,by go_num,by omega,by show _=_;rw [lc,hbl.out];rfl,HE7.out,HF7.out⟩
      |succ g2=>
       have hjn:(j:Int)<k:=by omega
       by_cases he2:t2.err=0
       ·have HE2Z:=qH he2
        have d2:(t2.err==0)=true:=by simp [he2]
        clear he2
        have p0:=HG.out.inp.k0;have p1:=HG.out.inp.k1
        obtain ⟨⟨m,tm⟩,hM⟩:∃y,zt r sl t2=y:=⟨_,rfl⟩
        have EM:=qH hM
        clear hM
        go_upto_region 22 with fail
        have hbx:=(ld wr.heap.size wr).alloc (la _) (.cells #[.int .i64 0,.int .i64 0,.int .i64 0,.int .i64 0,.int .i64 0,.int .i64 0,.int .i64 0] 131)
        have HGx:=qH (HG.out.next hbx HBB.out)
        have hxr:=Row.new wr 131 #[.int .i64 0,.int .i64 0,.int .i64 0,.int .i64 0,.int .i64 0,.int .i64 0,.int .i64 0]
        have C:=qH (zaQ r sl HGx.out.ip (lf HBB.out HGx.out.blw.size) ⟨rr.1,by omega⟩)
        rw [EM.out] at C
        have p0:=HGx.out.inp.k0;have p1:=HGx.out.inp.k1
        have f0:=HGx.out.fb.k0;have f1:=HGx.out.fb.k1;have f2:=HGx.out.fb.k2;have f3:=HGx.out.fb.k3
        go_wp2_with fail
        refine C.out.mono ?_
        rintro e W2 ⟨A2,c2,rfl,hI,hb⟩
        have hxr2:=hxr.below hb hxr.lt
        have hw2:Below wr.heap.size wr W2:=hbx.trans (hb.mono hbx.size)
        have HG2:=qH (HGx.out.next hb HBB.out)
        have HI2:=qH hI
        have hxl:=hxr2.lt
        have hBx:B≤wr.heap.size:=lf HBB.out HG.out.blw.size
        have hown0:∀k,vc.ownBlock=some k→k<wr.heap.size:=fun k hk=>(zW HG.out.own k hk).2
        clear hb hI C p0 p1 f0 f1 f2 f3 hxr HGx hbx
        have p0:=HG2.out.inp.k0;have p1:=HG2.out.inp.k1
        have pf0:=HG2.out.inp.frozen 0;have pf1:=HG2.out.inp.frozen 1
        have y0:=hxr2.k0;have y1:=hxr2.k1;have y2:=hxr2.k2;have y3:=hxr2.k3;have y4:=hxr2.k4;have y5:=hxr2.k5;have y6:=hxr2.k6
        have yf0:=hxr2.frozen 0;have yf1:=hxr2.frozen 1;have yf2:=hxr2.frozen 2;have yf3:=hxr2.frozen 3;have yf4:=hxr2.frozen 4;have yf5:=hxr2.frozen 5;have yf6:=hxr2.frozen 6
        have hq1:¬wr.heap.size=w.heap.size:=by have:=HG.out.lo;omega
        have hq2:¬w.heap.size=wr.heap.size:=by omega
        have hq3:¬wr.heap.size=wo.heap.size:=by have:=HG.out.lo;omega
        go_upto_region 23 with fail
        have hm5:=Jc W2 wr.heap.size (.int .i64 m.op) (.int .i64 m.d) (.int .i64 m.a) (.int .i64 m.b) (.int .i64 m.imm) (.int .i64 m.dst) (.int .i64 m.src)
        have hb5:Below wr.heap.size wr (((((((W2.setCell ⟨wr.heap.size,0,none⟩ (.int .i64 m.op)).setCell ⟨wr.heap.size,1,none⟩ (.int .i64 m.d)).setCell ⟨wr.heap.size,2,none⟩ (.int .i64 m.a)).setCell ⟨wr.heap.size,3,none⟩ (.int .i64 m.b)).setCell ⟨wr.heap.size,4,none⟩ (.int .i64 m.imm)).setCell ⟨wr.heap.size,5,none⟩ (.int .i64 m.dst)).setCell ⟨wr.heap.size,6,none⟩ (.int .i64 m.src)):=hw2.trans (hm5.below hw2.size fun k hk=>by unfold Is at hk;omega)
        have HG3:=qH ((HG.out.next hb5 HBB.out).inpt (HI2.out.below (hm5.below (by have:=hw2.size;omega) fun k hk=>by unfold Is at hk;omega)) HBB.out)
        have hxr3:Row (((((((((W2.setCell ⟨wr.heap.size,0,none⟩ (.int .i64 m.op)).setCell ⟨wr.heap.size,1,none⟩ (.int .i64 m.d)).setCell ⟨wr.heap.size,2,none⟩ (.int .i64 m.a)).setCell ⟨wr.heap.size,3,none⟩ (.int .i64 m.b)).setCell ⟨wr.heap.size,4,none⟩ (.int .i64 m.imm)).setCell ⟨wr.heap.size,5,none⟩ (.int .i64 m.dst)).setCell ⟨wr.heap.size,6,none⟩ (.int .i64 m.src)).setCell ⟨w.heap.size,0,none⟩ (.slice A2 tm.rest.length c2)).setCell ⟨w.heap.size,1,none⟩ (.int .i64 tm.err)) wr.heap.size 131 #[.int .i64 m.op,.int .i64 m.d,.int .i64 m.a,.int .i64 m.b,.int .i64 m.imm,.int .i64 m.dst,.int .i64 m.src]:=((hxr2.put7i _ _ _ _ _ _ _).far (q:=⟨w.heap.size,0,none⟩) hq1 _).far (q:=⟨w.heap.size,1,none⟩) hq1 _
        clear p0 p1 pf0 pf1 y0 y1 y2 y3 y4 y5 y6 yf0 yf1 yf2 yf3 yf4 yf5 yf6 hm5 hb5 hw2 hxr2 HG2 HI2
        generalize (((((((((W2.setCell ⟨wr.heap.size,0,none⟩ (.int .i64 m.op)).setCell ⟨wr.heap.size,1,none⟩ (.int .i64 m.d)).setCell ⟨wr.heap.size,2,none⟩ (.int .i64 m.a)).setCell ⟨wr.heap.size,3,none⟩ (.int .i64 m.b)).setCell ⟨wr.heap.size,4,none⟩ (.int .i64 m.imm)).setCell ⟨wr.heap.size,5,none⟩ (.int .i64 m.dst)).setCell ⟨wr.heap.size,6,none⟩ (.int .i64 m.src)).setCell ⟨w.heap.size,0,none⟩ (.slice A2 tm.rest.length c2)).setCell ⟨w.heap.size,1,none⟩ (.int .i64 tm.err))=V3 at*
        obtain ⟨Ac,cc,rfl,_,_⟩:=zh HG3.out.own
        have hown:(V3.alloc (.cells #[.int .i64 m.op,.int .i64 m.d,.int .i64 m.a,.int .i64 m.b,.int .i64 m.imm,.int .i64 m.dst,.int .i64 m.src] 131)).ownsRow wo.heap.size 131 7 (.slice Ac xs.length cc) xs.length (xs.flatMap Mi.cells):=((Mods.refl No V3).alloc _).ownS HG3.out.own fun _ _ hk=>hk.elim
        have hnew:=yI V3 #[.int .i64 m.op,.int .i64 m.d,.int .i64 m.a,.int .i64 m.b,.int .i64 m.imm,.int .i64 m.dst,.int .i64 m.src] 131
        have hlo:=HG3.out.lo
        have b0:=HG3.out.bb.k0;have b1:=HG3.out.bb.k1;have b2:=HG3.out.bb.k2;have b3:=HG3.out.bb.k3;have b4:=HG3.out.bb.k4
        have y0:=hxr3.k0;have y1:=hxr3.k1;have y2:=hxr3.k2;have y3:=hxr3.k3;have y4:=hxr3.k4;have y5:=hxr3.k5;have y6:=hxr3.k6
        go_wp2_with (at_builtin;refine zB _ rfl (.tmp 82) (.tmp 84) 61 rfl wo.heap.size 131 i0 (.agg #[.int .i64 0,.int .i64 0,.int .i64 0,.int .i64 0,.int .i64 0,.int .i64 0,.int .i64 0]) 7 56 Tryz.underlying61 hi0 hz0 hz1 hz2 rfl (by decide) _ _ _ rfl hown (V3.heap.size+1) _ 1 1 _ rfl hnew rfl (zfK m) ?c1 ?c2 ?c3 ?_)
        case c1=>have:=hxl2.out;unfold maxLen;omega
        case c2=>have:=hxl2.out;omega
        case c3=>(try rw [World.size_alloc]);omega
        intro v5 W5 ho hg _
        obtain ⟨Aw,cw,rfl,_,_⟩:=zh ho
        obtain ⟨hrw,hgh⟩:=HG3.out.app HBB.out m ho hg
        have HG7:=qH hgh
        have hxr5:Row W5 wr.heap.size 131 #[.int .i64 m.op,.int .i64 m.d,.int .i64 m.a,.int .i64 m.b,.int .i64 m.imm,.int .i64 m.dst,.int .i64 m.src]:=(hg.block _ (by rw [World.size_alloc];have:=hxr3.lt;omega) (fun e=>by have:=hown0 _ e.symm;omega)).trans (hxr3.alloc _)
        have HX6:=qH (hxr5.far (q:=⟨wo.heap.size,0,none⟩) hq3 (.slice Aw (xs.length+1) cw))
        clear b0 b1 b2 b3 b4 y0 y1 y2 y3 y4 y5 y6 hown hnew ho hg hgh HG3 hxr3 hxr5 hown0
        have b0:=hrw.k0;have bf0:=hrw.frozen 0
        clear hrw
        go_upto_region 25 with fail
        generalize (W5.setCell ⟨wo.heap.size,0,none⟩ (.slice Aw (xs.length+1) cw))=W6 at*
        clear b0 bf0
        have y0:=HX6.out.k0
        clear HX6
        by_cases h18:m.op=18
        ·have dz:(m.op !=18)=false:=by simp [h18]
         have HX:Hid (ext run m=run+1):=by show _=_;unfold ext Mi.mv;rw [h18];rfl
         clear h18
         by_cases h64:64<run+1
         ·have h64z:(64:Int)<(run:Int)+1:=by omega
          have HMV:Hid (mvE run m tm=zA 15 tm):=by show _=_;unfold mvE;rw [HX.out,if_pos h64]
          clear h64
          have C:=qH (jb 15 HG7.out.ip (lf HBB.out HG7.out.blw.size))
          have p0:=HG7.out.inp.k0;have p1:=HG7.out.inp.k1
          go_wp2_with fail
          refine C.out.mono ?_
          rintro e W8 ⟨A8,c8,rfl,hI,hb⟩
          have HG7b:=qH (HG7.out.next hb HBB.out)
          have HI8:=qH hI
          clear hb hI C p0 p1 HG7
          have p0:=HG7b.out.inp.k0;have p1:=HG7b.out.inp.k1
          have pf0:=HG7b.out.inp.frozen 0;have pf1:=HG7b.out.inp.frozen 1
          have HG8:=qH (HG7b.out.inpt HI8.out HBB.out)
          have HI7:Hid (ym r sl tot t=((xs++ [m])++(miE r sl g2 (run+1) (zA 15 tm)).1,(miE r sl g2 (run+1) (zA 15 tm)).2)):=by
           show _=_
           rw [HI.out]
           have e9:miE r sl (g2+1) run t2=((zt r sl t2).1::(miE r sl g2 (ext run (zt r sl t2).1) (mvE run (zt r sl t2).1 (zt r sl t2).2)).1,(miE r sl g2 (ext run (zt r sl t2).1) (mvE run (zt r sl t2).1 (zt r sl t2).2)).2):=if_neg fun hh=>hh HE2Z.out
           rw [e9,EM.out]
           dsimp only
           rw [HX.out,HMV.out]
           simp only [lg,List.singleton_append]
          go_wp2
          go_roundg g2
          case measure=>omega
          case rel=>exact ⟨j+1,run+1,A8,c8,zA 15 tm,_,xs++ [m],by omega,by go_num,by go_num,by omega,by show _=_;rw [lc,hxl2.out];rfl,HI7.out,HG8.out⟩
         ·have h64z:¬(64:Int)<(run:Int)+1:=by omega
          have HMV:Hid (mvE run m tm=tm):=by show _=_;unfold mvE;rw [HX.out,if_neg h64]
          clear h64
          have HG8:=HG7
          have HI7:Hid (ym r sl tot t=((xs++ [m])++(miE r sl g2 (run+1) tm).1,(miE r sl g2 (run+1) tm).2)):=by
           show _=_
           rw [HI.out]
           have e9:miE r sl (g2+1) run t2=((zt r sl t2).1::(miE r sl g2 (ext run (zt r sl t2).1) (mvE run (zt r sl t2).1 (zt r sl t2).2)).1,(miE r sl g2 (ext run (zt r sl t2).1) (mvE run (zt r sl t2).1 (zt r sl t2).2)).2):=if_neg fun hh=>hh HE2Z.out
           rw [e9,EM.out]
           dsimp only
           rw [HX.out,HMV.out]
           simp only [lg,List.singleton_append]
          go_wp2
          go_roundg g2
          case measure=>omega
          case rel=>exact ⟨j+1,run+1,A2,c2,tm,_,xs++ [m],by omega,by go_num,by go_num,by omega,by show _=_;rw [lc,hxl2.out];rfl,HI7.out,HG8.out⟩
        ·have dz:(m.op !=18)=true:=by simp [h18]
         have HX:Hid (ext run m=0):=by show _=_;unfold ext Mi.mv;rw [show (m.op==18)=false from beq_eq_false_iff_ne.2 h18];rfl
         have HMV:Hid (mvE run m tm=tm):=by show _=_;unfold mvE;rw [HX.out,if_neg (by decide)]
         clear h18
         have HG8:=HG7
         have HI7:Hid (ym r sl tot t=((xs++ [m])++(miE r sl g2 0 tm).1,(miE r sl g2 0 tm).2)):=by
          show _=_
          rw [HI.out]
          have e9:miE r sl (g2+1) run t2=((zt r sl t2).1::(miE r sl g2 (ext run (zt r sl t2).1) (mvE run (zt r sl t2).1 (zt r sl t2).2)).1,(miE r sl g2 (ext run (zt r sl t2).1) (mvE run (zt r sl t2).1 (zt r sl t2).2)).2):=if_neg fun hh=>hh HE2Z.out
          rw [e9,EM.out]
          dsimp only
          rw [HX.out,HMV.out]
          simp only [lg,List.singleton_append]
         go_wp2
         go_roundg g2
         case measure=>omega
         case rel=>exact ⟨j+1,0,A2,c2,tm,_,xs++ [m],by omega,by go_num,by go_num,by omega,by show _=_;rw [lc,hxl2.out];rfl,HI7.out,HG8.out⟩
       ·have d2:(t2.err==0)=false:=by simp [he2]
        replace HI:Hid (ym r sl tot t=(xs,t2)):=by show _=_;rw [HI.out,Jx he2];show (xs++ [],t2)=_;rw [lA]
        clear he2
        obtain ⟨⟨tm,tt⟩,hT⟩:∃y,yL r n t2=y:=⟨_,rfl⟩
        have ET:Hid (yr r sl n tot t=(tm,tt)):=by show _=_;unfold yr;rw [HI.out];exact hT
        have C:=qH (JQ r n HG.out.ip (lf HBB.out HG.out.blw.size) ⟨rr.1,by omega⟩ ⟨rn.1,by omega⟩)
        rw [hT] at C
        clear hT
        have p0:=HG.out.inp.k0;have p1:=HG.out.inp.k1
        have f0:=HG.out.fb.k0;have f1:=HG.out.fb.k1;have f2:=HG.out.fb.k2;have f3:=HG.out.fb.k3
        go_wp2_with fail
        refine C.out.mono ?_
        rintro e W2 ⟨A2,c2,rfl,hI,hb⟩
        have HG2:=qH (HG.out.next hb HBB.out)
        have HI2:=qH hI
        clear hb hI C HG p0 p1 f0 f1 f2 f3
        have p0:=HG2.out.inp.k0;have p1:=HG2.out.inp.k1
        have pf0:=HG2.out.inp.frozen 0;have pf1:=HG2.out.inp.frozen 1
        have b0:=HG2.out.bb.k0;have b1:=HG2.out.bb.k1;have b2:=HG2.out.bb.k2;have b3:=HG2.out.bb.k3;have b4:=HG2.out.bb.k4
        have bf0:=HG2.out.bb.frozen 0;have bf1:=HG2.out.bb.frozen 1;have bf2:=HG2.out.bb.frozen 2;have bf3:=HG2.out.bb.frozen 3;have bf4:=HG2.out.bb.frozen 4
        have hq1:¬wo.heap.size=w.heap.size:=by have:=HG2.out.lo;omega
        have hq2:¬w.heap.size=wo.heap.size:=by omega
        go_upto_region 30 with fail
        have HT:=qH (HG2.out.term tm HI2.out HBB.out)
        clear HG2 HI2 p0 p1 pf0 pf1 b0 b1 b2 b3 b4 bf0 bf1 bf2 bf3 bf4
        generalize ((((((W2.setCell ⟨wo.heap.size,1,none⟩ (.int .i64 tm.kind)).setCell ⟨wo.heap.size,2,none⟩ (.int .i64 tm.a)).setCell ⟨wo.heap.size,3,none⟩ (.int .i64 tm.to)).setCell ⟨wo.heap.size,4,none⟩ (.int .i64 tm.el)).setCell ⟨w.heap.size,0,none⟩ (.slice A2 tt.rest.length c2)).setCell ⟨w.heap.size,1,none⟩ (.int .i64 tt.err))=V2 at*
        obtain ⟨vs,hn,hn2⟩:=HT.out.nest
        have HN:=qH hn
        have hvl:=qH hn.len
        have hon:=hn2.outer
        obtain ⟨Av,cv,rfl,_,_⟩:=zh hon
        have hown:(V2.alloc (.cells #[vc,.int .i64 tm.kind,.int .i64 tm.a,.int .i64 tm.to,.int .i64 tm.el] 63)).ownsRow (w.heap.size+1+1+1+1) 63 5 (.slice Av vs.length cv) vs.length ((vs.zip bs).flatMap fun p=>jV.oc p.1 p.2):=((Mods.refl No V2).alloc _).ownS hon fun _ _ hk=>hk.elim
        have hnew:=yI V2 #[vc,.int .i64 tm.kind,.int .i64 tm.a,.int .i64 tm.to,.int .i64 tm.el] 63
        have hlo:=HT.out.lo
        have hvc:∃Ac cc,vc= .slice Ac xs.length cc:=by obtain ⟨Ac,cc,h9,_⟩:=zh HT.out.own;exact ⟨Ac,cc,h9⟩
        obtain ⟨Ac,cc,rfl⟩:=hvc
        have b0:=HT.out.bb.k0;have b1:=HT.out.bb.k1;have b2:=HT.out.bb.k2;have b3:=HT.out.bb.k3;have b4:=HT.out.bb.k4
        have f0:=HT.out.fb.k0;have f1:=HT.out.fb.k1;have f2:=HT.out.fb.k2;have f3:=HT.out.fb.k3
        clear hn hn2 hon
        go_wp2_with (at_builtin;refine zB _ rfl (.tmp 106) (.tmp 108) 26 rfl (w.heap.size+1+1+1+1) 63 i1 (.agg #[.slice none 0 0,.int .i64 0,.int .i64 0,.int .i64 0,.int .i64 0]) 5 56 Tryz.underlying26 hi1 hy0 hy1 hy2 rfl (by decide) _ _ _ rfl hown (V2.heap.size+1) _ 1 1 _ rfl hnew rfl (QC ⟨xs,tm⟩ Ac xs.length cc) ?c1 ?c2 ?c3 ?_)
        case c1=>have:=hvl.out;have:=hbl.out;unfold maxLen;omega
        case c2=>have:=hvl.out;have:=hbl.out;omega
        case c3=>(try rw [World.size_alloc]);omega
        intro v5 W5 ho hg _
        obtain ⟨Aw,cw,rfl,_,_⟩:=zh ho
        obtain ⟨hrw,hfh⟩:=HT.out.app HBB.out HN.out ho hg
        have HF7:=qH hfh
        clear b0 b1 b2 b3 b4 f0 f1 f2 f3 hown hnew ho hg hfh HT HN
        have f2:=hrw.k3;have ff2:=hrw.frozen 3
        clear hrw
        have HE7:Hid (FB=((bs++ [⟨xs,tm⟩])++(zK r sl n g (tot+k) tt).1,(zK r sl n g (tot+k) tt).2)):=by
         show _=_
         rw [HE.out]
         have e9:zK r sl n (g+1) tot t=(⟨(ym r sl tot t).1,(yr r sl n tot t).1⟩::(zK r sl n g (tot+yJ tot t) (yr r sl n tot t).2).1,(zK r sl n g (tot+yJ tot t) (yr r sl n tot t).2).2):=if_neg fun hh=>hh HEZ.out
         rw [e9,ET.out,HI.out,show yJ tot t=k from EKK.out]
         simp only [lg,List.singleton_append]
        go_wp2
        go_roundg g
        case measure=>omega
        case rel=>exact ⟨i+1,tot+k,A2,c2,tt,_,bs++ [(⟨xs,tm⟩:MBlk)],by omega,by go_num,by go_num,by omega,by show _=_;rw [lc,hbl.out];rfl,HE7.out,HF7.out⟩
end Go.Proofs.YtnifhpbgmjcndaaGreat
