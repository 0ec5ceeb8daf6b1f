/- The walk of CertcodeKeeps (made by wip/lab/genccl2.py). -/
import Derived.Test.YtnifhpbgmjcndaaGreatCcAwk
import Derived.Test.YtnifhpbgmjcndaaGreatCkCopy
import Derived.Test.YtnifhpbgmjcndaaGreatOwnB
set_option linter.unusedVariables false
set_option linter.unusedSimpArgs false
set_option linter.unusedSectionVars false
set_option maxRecDepth 100000
set_option maxHeartbeats 16000000
namespace Go.Proofs.YtnifhpbgmjcndaaGreat
open Go.RowKit Go.Deep
structure CB(w:World)(ob:Nat)(A1:Option Addr)(k1:Nat)(A2:Option Addr)(k2:Nat)(A3:Option Addr)(k3:Nat)(Av1:Option Addr)(cv1:Nat)(Av2:Option Addr)(cv2:Nat)(Av3:Option Addr)(cv3:Nat)(c:Ct)(W:World):Prop where
 k:CeK w w.heap.size A1 k1 A2 k2 A3 k3 c W
 ow:∃B,B≤W.heap.size∧CeAt W B Av1 cv1 Av2 cv2 Av3 cv3 c
 row:Row W ob 31 #[.int .i64 c.sa,.int .i64 c.sr,.slice Av1 c.bs.length cv1,.int .i64 c.ta,.int .i64 c.tr,.int .i64 c.ts,.slice Av2 c.ms.length cv2,.slice Av3 c.inv.length cv3]
def Z2(c:Ct):List Nat:=if zD c=0 then zv c else []
def SE20(A:Option Addr)(l:List Nat)(W:World):Prop:=∃B,B≤W.heap.size∧Sees W B A (bts l)
structure KD(w:World)(bd:Nat)(d:Ct)(D1:Option Addr)(m1:Nat)(D2:Option Addr)(m2:Nat)(D3:Option Addr)(m3:Nat)(vs:List Value)(ys:List (List Pr))(W:World):Prop where
 blw:Below w.heap.size w W
 nst:NestV jV W w.heap.size (.slice D3 d.inv.length m3) vs ys
 row:Row W bd 31 #[.int .i64 d.sa,.int .i64 d.sr,.slice D1 d.bs.length m1,.int .i64 d.ta,.int .i64 d.tr,.int .i64 d.ts,.slice D2 d.ms.length m2,.slice D3 d.inv.length m3]
section
variable {w W W' : World} {ob bd : Nat} {A1 : Option Addr} {k1 : Nat} {A2 : Option Addr} {k2 : Nat} {A3 : Option Addr} {k3 : Nat} {c : Ct} {Av1 : Option Addr} {cv1 : Nat} {Av2 : Option Addr} {cv2 : Nat} {Av3 : Option Addr} {cv3 : Nat} {l : List Nat} {d : Ct} {D1 : Option Addr} {m1 : Nat} {D2 : Option Addr} {m2 : Nat} {D3 : Option Addr} {m3 : Nat} {vs : List Value} {ys : List (List Pr)}
theorem CB.next(h:CB w ob A1 k1 A2 k2 A3 k3 Av1 cv1 Av2 cv2 Av3 cv3 c W)(hb:Below W.heap.size W W'):CB w ob A1 k1 A2 k2 A3 k3 Av1 cv1 Av2 cv2 Av3 cv3 c W':=by
 obtain ⟨B,hB,hc⟩:=h.ow
 exact ⟨h.k.next hb,⟨B,Nat.le_trans hB hb.size,hc.below (hb.mono hB)⟩,h.row.below hb h.row.lt⟩
theorem CB.drewN(h:CB w ob A1 k1 A2 k2 A3 k3 Av1 cv1 Av2 cv2 Av3 cv3 c W)(n:Nat):CB w ob A1 k1 A2 k2 A3 k3 Av1 cv1 Av2 cv2 Av3 cv3 c (W.drewN n):=h.next (jq (Below.refl _ _) n)
theorem CB.see(h:CB w ob A1 k1 A2 k2 A3 k3 Av1 cv1 Av2 cv2 Av3 cv3 c W):CeAt W W.heap.size Av1 cv1 Av2 cv2 Av3 cv3 c:=by
 obtain ⟨B,hB,hc⟩:=h.ow
 exact hc.more hB
theorem CB.arg(h:CB w ob A1 k1 A2 k2 A3 k3 Av1 cv1 Av2 cv2 Av3 cv3 c W):CeAt W W.heap.size A1 k1 A2 k2 A3 k3 c:=h.k.see.more h.k.blw.size
theorem CB.cells(h:CB w ob A1 k1 A2 k2 A3 k3 Av1 cv1 Av2 cv2 Av3 cv3 c W):W.cell? ⟨w.heap.size,0,none⟩=some (.int .i64 c.sa)∧W.cell? ⟨w.heap.size,1,none⟩=some (.int .i64 c.sr)∧W.cell? ⟨w.heap.size,2,none⟩=some (.slice A1 c.bs.length k1)∧W.cell? ⟨w.heap.size,3,none⟩=some (.int .i64 c.ta)∧W.cell? ⟨w.heap.size,4,none⟩=some (.int .i64 c.tr)∧W.cell? ⟨w.heap.size,5,none⟩=some (.int .i64 c.ts)∧W.cell? ⟨w.heap.size,6,none⟩=some (.slice A2 c.ms.length k2)∧W.cell? ⟨w.heap.size,7,none⟩=some (.slice A3 c.inv.length k3)∧W.cell? ⟨ob,0,none⟩=some (.int .i64 c.sa)∧W.cell? ⟨ob,1,none⟩=some (.int .i64 c.sr)∧W.cell? ⟨ob,2,none⟩=some (.slice Av1 c.bs.length cv1)∧W.cell? ⟨ob,3,none⟩=some (.int .i64 c.ta)∧W.cell? ⟨ob,4,none⟩=some (.int .i64 c.tr)∧W.cell? ⟨ob,5,none⟩=some (.int .i64 c.ts)∧W.cell? ⟨ob,6,none⟩=some (.slice Av2 c.ms.length cv2)∧W.cell? ⟨ob,7,none⟩=some (.slice Av3 c.inv.length cv3):=
 ⟨h.k.row.cell 0,h.k.row.cell 1,h.k.row.cell 2,h.k.row.cell 3,h.k.row.cell 4,h.k.row.cell 5,h.k.row.cell 6,h.k.row.cell 7,h.row.cell 0,h.row.cell 1,h.row.cell 2,h.row.cell 3,h.row.cell 4,h.row.cell 5,h.row.cell 6,h.row.cell 7⟩
theorem SE20.next{A:Option Addr}(h:SE20 A l W)(hb:Below W.heap.size W W'):SE20 A l W':=let ⟨B,h1,h2⟩:=h;⟨B,Nat.le_trans h1 hb.size,h2.below (hb.mono h1)⟩
theorem SE20.drewN{A:Option Addr}(h:SE20 A l W)(n:Nat):SE20 A l (W.drewN n):=h.next (jq (Below.refl _ _) n)
theorem SE20.more{A:Option Addr}(h:SE20 A l W):Sees W W.heap.size A (bts l):=let ⟨_,h1,h2⟩:=h;h2.more h1
theorem zdB{e:Ending}(h:zfm w c e W):∃A k,e= .returned (.tuple #[.slice A (Z2 c).length k,.int .i64 (zD c)])∧W.ownsRow w.heap.size 5 1 (.slice A (Z2 c).length k) (Z2 c).length (bts (Z2 c))∧Below w.heap.size w W:=by
 obtain ⟨hb,⟨hv,A,k,he,ho⟩|⟨hv,he⟩⟩:=h
 ·have hU:Z2 c=zv c:=by unfold Z2;rw [if_pos hv]
  rw [hU,hv]
  exact ⟨A,k,he,ho,hb⟩
 ·have hU:Z2 c= []:=by unfold Z2;rw [if_neg hv]
  rw [hU]
  exact ⟨none,0,he,⟨by simp [bts],.inl ⟨rfl,rfl⟩⟩,hb⟩
theorem zeI(hs:SmC c)(hw:c.Wf):Byt (Z2 c)∧(Z2 c).length≤700003:=by
 unfold Z2
 split
 ·rename_i hv
  have h:=CV.of hv hs (QH hw)
  exact ⟨h.byt,h.size.2.2⟩
 ·exact ⟨fun x hx=>(by cases hx),Nat.zero_le _⟩
theorem QJ:∀(l:List Pr) (k:Nat) (h:k<l.length) (z:Int),prs (l.set k (z,l[k].2))=(prs l).set (k*2) (.int .i64 z)
 | [],k,h,z=>by simp at h
 |p::r,0,h,z=>rfl
 |p::r,k+1,h,z=>by
  have hk:k<r.length:=by simpa using h
  have ih:=QJ r k hk z
  have e:(k+1)*2=k*2+1+1:=by omega
  rw [e]
  show [Value.int .i64 p.1,Value.int .i64 p.2]++prs (r.set k (z,r[k].2))=_
  rw [ih]
  rfl
theorem KD.at_(h:KD w bd d D1 m1 D2 m2 D3 m3 vs ys W)(hn:ys.length=d.inv.length){i:Nat}(hi:i<ys.length):
  ∃g A c,D3=some ⟨g,0,none⟩∧W.cell? ⟨g,i,none⟩=some (.slice A ys[i].length c)∧vs[i]?=some (.slice A ys[i].length c)∧W.ownsRow w.heap.size 55 2 (.slice A ys[i].length c) ys[i].length (prs ys[i]):=by
 obtain ⟨u,hu,hin⟩:=h.nst.got hi
 obtain ⟨A,c,rfl,_,_⟩:=zg hin
 have ho:=h.nst.outer
 rw [zdk _ _ h.nst.len,h.nst.len,hn] at ho
 rcases ho.2 with ⟨e,h0⟩|⟨g,cp,cur,e,hg,hh,h1,h2,h3,h4⟩
 ·omega
 ·injection e with e1 e2 e3
  subst e1
  refine ⟨g,A,c,rfl,?_,hu,hin⟩
  have hsee:=Sees.of_own (w:=W) (A:=some ⟨g,0,none⟩) (n:=d.inv.length) (c:=m3) ho
  obtain ⟨b,o,e,_,hc⟩:=hsee (by intro e9;subst e9;simp at hu)
  injection e with e
  injection e with e1 e2
  subst e1;subst e2
  have:=hc i _ hu
  rwa [Nat.zero_add] at this
theorem KD.store(h:KD w bd d D1 m1 D2 m2 D3 m3 vs ys W){i k g n c':Nat}(hi:i<ys.length)(hk:k<ys[i].length)(hvs:vs[i]?=some (.slice (some ⟨g,0,none⟩) n c'))(z:Int):
  KD w bd d D1 m1 D2 m2 D3 m3 vs (ys.set i (ys[i].set k (z,ys[i][k].2))) (W.setCell ⟨g,k*2,none⟩ (.int .i64 z)):=by
 obtain ⟨x,hx,hin⟩:=h.nst.get hvs
 have hg:=z9 hin g rfl
 have hne:=JQ hin h.row (by decide) g rfl
 have hm:Mods (Is g) W (W.setCell ⟨g,k*2,none⟩ (.int .i64 z)):=(Mods.refl _ W).put _ _
 exact ⟨h.blw.setCell (p:=⟨g,k*2,none⟩) hg.1 _,h.nst.put hvs (List.getElem?_eq_getElem hi) (x':=ys[i].set k (z,ys[i][k].2)) rfl (by show k*2<(prs ys[i]).length;rw [jF];omega) _ (QJ _ _ hk z) (by show (ys[i].set k _).length=_;rw [List.length_set];rfl) (fun _=>rfl),h.row.mods hm (fun e=>hne e.symm)⟩
end
theorem CertcodeKeeps_walk(a0:Array Value)(w:World)(w0:IsCert w a0):
  Calls Tryz.prog 7 #[.agg a0] w fun e w'=>e= .returned (.bool true)∧Below w.heap.size w w':=by
 have mixed:Tryz.prog.follows .mixedOrders=true:=by kernel_rfl
 obtain ⟨i0,hi0,hz0,hz1,hz2⟩:=info_parts Tryz.infoU8c
 obtain ⟨c,A1,k1,A2,k2,A3,k3,rfl,hce,hwf⟩:=w0
 have AW:Hid (∀W,Calls Tryz.prog 8 #[] W fun e w'=>e= .returned (.bool true)∧Below W.heap.size W w'):=fun W=>ZP W
 have HK:=qH (CeK.start hce)
 have HWF:=qH hwf
 clear hce hwf
 go_enter Tryz.func7,Tryz.ntmps7
 go_upto_region 1 with fail
 generalize (w.alloc (.cells #[.int .i64 c.sa,.int .i64 c.sr,.slice A1 c.bs.length k1,.int .i64 c.ta,.int .i64 c.tr,.int .i64 c.ts,.slice A2 c.ms.length k2,.slice A3 c.inv.length k3] 31))=W0 at*
 go_wp2_with fail
 refine (AW.out _).mono ?_
 rintro e W1 ⟨rfl,hb⟩
 have HK1:=qH (HK.out.next hb)
 clear hb HK
 have c0:=HK1.out.row.k0;have c1:=HK1.out.row.k1;have c2:=HK1.out.row.k2;have c3:=HK1.out.row.k3;have c4:=HK1.out.row.k4;have c5:=HK1.out.row.k5;have c6:=HK1.out.row.k6;have c7:=HK1.out.row.k7
 go_wp2_with fail
 refine (Yh W1 (HK1.out.see.more HK1.out.blw.size)).mono ?_
 rintro e W2 ⟨⟨b,rfl,hF⟩,hb⟩
 have HK2:=qH (HK1.out.next hb)
 clear hb HK1
 clear c0 c1 c2 c3 c4 c5 c6 c7
 cases b
 ·go_wp2_with fail
  refine (AW.out _).mono ?_
  rintro e W9 ⟨rfl,hb⟩
  have HZ:=qH (HK2.out.next hb)
  clear hb HK2
  go_wp2
  go_ret
  exact ⟨rfl,HZ.out.blw⟩
 have HSM:=qH (hF rfl)
 clear hF AW
 have c0:=HK2.out.row.k0;have c1:=HK2.out.row.k1;have c2:=HK2.out.row.k2;have c3:=HK2.out.row.k3;have c4:=HK2.out.row.k4;have c5:=HK2.out.row.k5;have c6:=HK2.out.row.k6;have c7:=HK2.out.row.k7
 go_wp2_with fail
 refine (zbK W2 (HK2.out.see.more HK2.out.blw.size) HSM.out).mono ?_
 rintro e W3 ⟨Av1,cv1,vs1,Av2,cv2,vs2,Av3,cv3,vs3,rfl,hn1,hn2,hn3,hb⟩
 clear c0 c1 c2 c3 c4 c5 c6 c7
 have hce:CeAt W3 W3.heap.size Av1 cv1 Av2 cv2 Av3 cv3 c:=J8 hn1 hn2 hn3 (zef HK2.out.see.ms)
 have HK3:=qH (HK2.out.next hb)
 have HCE:=qH hce
 clear hb HK2 hn1 hn2 hn3 hce
 go_upto_region 4 with fail
 have HC3:Hid (CB w W3.heap.size A1 k1 A2 k2 A3 k3 Av1 cv1 Av2 cv2 Av3 cv3 c (W3.alloc (.cells #[.int .i64 c.sa,.int .i64 c.sr,.slice Av1 c.bs.length cv1,.int .i64 c.ta,.int .i64 c.tr,.int .i64 c.ts,.slice Av2 c.ms.length cv2,.slice Av3 c.inv.length cv3] 31))):=⟨HK3.out.alloc _,⟨W3.heap.size,by simp,HCE.out.below ((Below.refl _ _).alloc (Nat.le_refl _) _)⟩,Row.new W3 _ _⟩
 clear HK3 HCE
 generalize (W3.alloc (.cells #[.int .i64 c.sa,.int .i64 c.sr,.slice Av1 c.bs.length cv1,.int .i64 c.ta,.int .i64 c.tr,.int .i64 c.ts,.slice Av2 c.ms.length cv2,.slice Av3 c.inv.length cv3] 31))=W4 at*
 generalize W3.heap.size=ob at*
 have f0:=HC3.out.row.k0;have f1:=HC3.out.row.k1;have f2:=HC3.out.row.k2;have f3:=HC3.out.row.k3;have f4:=HC3.out.row.k4;have f5:=HC3.out.row.k5;have f6:=HC3.out.row.k6;have f7:=HC3.out.row.k7
 have C1:=qH (JK W4 HC3.out.see HSM.out HWF.out)
 have HFT:=qH (zeI HSM.out HWF.out)
 go_wp2_with fail
 refine C1.out.mono ?_
 rintro e W5 he
 obtain ⟨Ab,kb,rfl,ho5,hb5⟩:=zdB he
 clear he C1
 clear f0 f1 f2 f3 f4 f5 f6 f7
 have HEN:Hid (∀W e w',zfm W c e w'→∃A k,e= .returned (.tuple #[.slice A (Z2 c).length k,.int .i64 (zD c)])∧w'.ownsRow W.heap.size 5 1 (.slice A (Z2 c).length k) (Z2 c).length (bts (Z2 c))∧Below W.heap.size W w'):=fun W e w' h=>zdB h
 generalize hL:Z2 c=L at*
 generalize zD c=ve at*
 clear hL
 obtain ⟨hby,hlm⟩:=HFT.out
 have HBY:=qH hby
 clear hby HFT
 obtain ⟨hcap1,hcap2⟩:=zR ho5
 have HO5:=qH ho5
 have HB5:=qH hb5
 clear ho5 hb5
 go_wp2_with (at_builtin;refine zt _ rfl (.tmp 30) (.tmp 31) 22 rfl W5.heap.size 5 i0 (.int .u8 0) 1 Tryz.underlying22 hi0 hz0 hz1 hz2 rfl _ _ _ rfl (World.ownsRow_made W5 #[] 0 (Nat.le_refl _) (by decide) rfl) W5.heap.size _ _ _ (bts L) rfl ((Sees.of_own HO5.out).alloc (Nat.le_refl _) _) (zm L) (yh L) ?c1 ?c2 ?c3 ?_)
 case c1=>unfold maxLen;omega
 case c2=>omega
 case c3=>simp
 intro v6 W6 ho6 hg6
 have hb6:Below W5.heap.size W5 W6:=((Below.refl _ _).alloc (Nat.le_refl _) _).grown hg6 (by simp) (fun k hk=>by simp [Value.ownBlock] at hk;omega)
 replace ho6:W6.ownsRow W5.heap.size 5 1 v6 L.length (bts L):=by simpa using ho6
 obtain ⟨Aw,kw,rfl,_,_⟩:=zg ho6
 obtain ⟨hcaq1,hcaq2⟩:=zR ho6
 have HO6:=qH ho6
 have HP6:=qH ((Mods.of_below (S:=No) hb6).own HO5.out fun _ _ h=>h.elim)
 have HB6:=qH (HB5.out.trans (hb6.mono HB5.out.size))
 have hz56:Hid (∀k,(Value.slice Ab L.length kb).ownBlock=some k→W4.heap.size≤k∧k<W5.heap.size):=fun k hk=>z9 HO5.out k hk
 have hz6:=qH hb6.size
 clear hg6 hb6 ho6 HO5 HB5
 have CD:=qH (yZ Ab L kb W6 (Sees.of_own HP6.out) HBY.out (by omega) hcap1 hcap2)
 obtain ⟨⟨d,er⟩,hd⟩:∃y,jw L=y:=⟨_,rfl⟩
 rw [hd] at CD
 clear hd
 go_wp2_with fail
 refine CD.out.mono ?_
 rintro e W7 ⟨D1,m1,v1,D2,m2,v2,D3,m3,vs,rfl,n1,n2,n3,hb7⟩
 clear n1 n2 CD
 go_upto_region 7 with fail
 have hal:=(Below.refl W7.heap.size W7).alloc (Nat.le_refl _) (.cells #[.int .i64 d.sa,.int .i64 d.sr,.slice D1 d.bs.length m1,.int .i64 d.ta,.int .i64 d.tr,.int .i64 d.ts,.slice D2 d.ms.length m2,.slice D3 d.inv.length m3] 31)
 have HKD:Hid (KD W6 W7.heap.size d D1 m1 D2 m2 D3 m3 vs d.inv (W7.alloc (.cells #[.int .i64 d.sa,.int .i64 d.sr,.slice D1 d.bs.length m1,.int .i64 d.ta,.int .i64 d.tr,.int .i64 d.ts,.slice D2 d.ms.length m2,.slice D3 d.inv.length m3] 31))):=⟨hb7.trans (hal.mono hb7.size),n3.below hal,Row.new W7 _ _⟩
 obtain ⟨hdm1,hdm2⟩:d.inv.length≤m3∧m3≤maxLen:=by
  obtain ⟨A',c',e,h1,h2,_⟩:=zdl n3
  injection e with _ _ e3
  subst e3
  exact ⟨h1,h2⟩
 have hdm:d.inv.length≤9223372036854775807:=by unfold maxLen at hdm2;omega
 clear hal hb7 n3 hdm1 hdm2
 generalize (W7.alloc (.cells #[.int .i64 d.sa,.int .i64 d.sr,.slice D1 d.bs.length m1,.int .i64 d.ta,.int .i64 d.tr,.int .i64 d.ts,.slice D2 d.ms.length m2,.slice D3 d.inv.length m3] 31))=W8 at*
 generalize W7.heap.size=bd at*
 go_wp2
 go_loopg [9] d.inv.length (fun g v9 wr=>∃(i:Nat) (ys:List (List Pr)),i+g=d.inv.length∧v9= .int .i64 i∧Hid (ys.length=d.inv.length)∧Hid (KD W6 bd d D1 m1 D2 m2 D3 m3 vs ys wr))
 case atStart=>exact ⟨0,d.inv,by omega,by go_num,rfl,HKD.out⟩
 case round=>
  clear HKD
  obtain ⟨i,ys,hig,rfl,HYL,HKR⟩:=hrel
  have x7:=HKR.out.row.k7
  cases gk with
  |succ g=>
   have hlt:(i:Int)<(d.inv.length:Int):=by omega
   have hi:i<ys.length:=by rw [HYL.out];omega
   obtain ⟨M,hM⟩:∃M,ys[i].length=M:=⟨_,rfl⟩
   have HMI:Hid (∃h:i<ys.length,ys[i].length=M):=⟨hi,hM⟩
   have hMM:M≤9223372036854775807:=by
    obtain ⟨_,_,_,_,_,_,hown⟩:=HKR.out.at_ HYL.out hi
    obtain ⟨_,_,_,h1,h2⟩:=zg hown
    unfold maxLen at h2
    omega
   clear hi hM
   go_upto_region 11 with fail
   clear x7
   obtain ⟨wo,hwo⟩:∃z,z=wr:=⟨_,rfl⟩
   subst hwo
   go_wp2
   go_loopg [10] M (fun g2 v10 wx=>∃(k:Nat) (zs:List (List Pr)),k+g2=M∧v10= .int .i64 k∧Hid (zs.length=d.inv.length)∧Hid (∃h:i<zs.length,zs[i].length=M)∧Hid (KD W6 bd d D1 m1 D2 m2 D3 m3 vs zs wx))
   case atStart=>exact ⟨0,ys,by omega,by go_num,HYL.out,HMI.out,HKR.out⟩
   case round=>
    clear HKR HYL HMI
    obtain ⟨k,zs,hkg,rfl,HYL,HMI,HKR⟩:=hrel
    obtain ⟨hi,hMe⟩:=HMI.out
    obtain ⟨b,A9,c9,rfl,hcell,hvs,hown⟩:=HKR.out.at_ HYL.out hi
    have x7:=HKR.out.row.k7
    rw [hMe] at hcell hvs hown
    cases gk with
    |zero=>
     have hk:¬(k:Int)<(M:Int):=by omega
     clear hMe hvs hown
     go_wp2_with fail
     go_roundg g
     case measure=>omega
     case rel=>exact ⟨i+1,zs,by omega,by go_num,HYL.out,HKR.out⟩
    |succ g2=>
     have hk:(k:Int)<(M:Int):=by omega
     have hkM:k<M:=by omega
     obtain ⟨gb,rfl⟩:∃gb,A9=some ⟨gb,0,none⟩:=by
      rcases hown.2 with ⟨e,_⟩|⟨g',cap',cur,hv',_⟩
      ·injection e with _ e2 _
       omega
      ·injection hv' with e1 _ _
       exact ⟨g',e1⟩
     have hkc:k<zs[i].length:=by rw [hMe];exact hkM
     have HST:=qH (HKR.out.store hi hkc hvs (-1))
     have hfr:wr.frozen? ⟨gb,k*2,none⟩=false:=by
      rcases hown.2 with ⟨e,_⟩|⟨g',cap',cur,hv',_,hh,_⟩
      ·cases e
      ·injection hv' with e1 _ _
       injection e1 with e1
       injection e1 with e1 _ _
       subst e1
       exact Row.frozen (T:=55) (cs:=cur) hh _
     have hzc:∃y,wr.cell? ⟨gb,k*2,none⟩=some (.int .i64 y):=by
      have hsee:=JH hown
      obtain ⟨b',o',e,_,hc⟩:=hsee (by intro e9;have:=jF zs[i];rw [e9] at this;simp at this;omega)
      injection e with e
      injection e with e1 e2
      subst e1;subst e2
      have:=hc (k*2) _ (Yr hkc).1
      rw [Nat.zero_add] at this
      exact ⟨_,this⟩
     obtain ⟨y,hzc⟩:=hzc
     have HL2:Hid ((zs.set i (zs[i].set k (-1,zs[i][k].2))).length=d.inv.length):=by show _=_;rw [List.length_set];exact HYL.out
     have HM2:Hid (∃h:i<(zs.set i (zs[i].set k (-1,zs[i][k].2))).length,(zs.set i (zs[i].set k (-1,zs[i][k].2)))[i].length=M):=⟨by rw [List.length_set];exact hi,by simp [hMe]⟩
     generalize zs.set i (zs[i].set k (-1,zs[i][k].2))=zs3 at*
     clear hkc hMe hvs hown HYL HMI HKR
     go_wp2_with fail
     go_roundg g2
     case measure=>omega
     case rel=>exact ⟨k+1,zs3,by omega,by go_num,HL2.out,HM2.out,HST.out⟩
  |zero=>
   have hlt:¬(i:Int)<(d.inv.length:Int):=by omega
   have hb8:=HKR.out.blw
   have HPr:=qH ((Mods.of_below (S:=No) hb8).own HP6.out fun _ _ h=>h.elim)
   have HOr:=qH ((Mods.of_below (S:=No) hb8).own HO6.out fun _ _ h=>h.elim)
   have HBr:=qH (HB6.out.trans (hb8.mono HB6.out.size))
   clear hb8 HP6 HO6 HB6 HKR HYL
   have CS:=qH (zc4 L L true L.length L.length wr.heap.size Ab Aw kb kw wr (Yd L) rfl rfl (by unfold maxLen;omega) (by unfold maxLen;omega) (Sees.of_own HPr.out) (Sees.of_own HOr.out))
   go_wp2_with fail
   clear x7
   refine CS.out.mono ?_
   rintro e W9 ⟨rfl,n9,h9⟩
   have hb9:Below wr.heap.size wr W9:=h9 ▸ jq (Below.refl wr.heap.size wr) n9
   have HP9:=qH ((Mods.of_below (S:=No) hb9).own HPr.out fun _ _ h=>h.elim)
   have HO9:=qH ((Mods.of_below (S:=No) hb9).own HOr.out fun _ _ h=>h.elim)
   have HB9:=qH (HBr.out.trans (hb9.mono HBr.out.size))
   have HW9:Hid (OwnB W9 W4.heap.size Ab L.length kb):=OwnB.of HP9.out rfl
   clear hb9 h9 HPr HOr HBr HP9 CS hig hlt
   obtain ⟨w8,hw8⟩:∃z,z=wr:=⟨_,rfl⟩
   subst hw8
   go_wp2
   go_loopg [12] L.length (fun g v12 wy=>∃i:Nat,i+g=L.length∧v12= .int .i64 i∧Hid (OwnB wy W4.heap.size Ab L.length kb)∧Hid (Mods (zg2 (.slice Ab L.length kb)) W9 wy))
   case atStart=>exact ⟨0,by omega,by go_num,HW9.out,Mods.refl _ _⟩
   case round=>
    clear HW9
    obtain ⟨q,hqg,rfl,HOW,HMW⟩:=hrel
    cases gk with
    |succ g=>
     have hlt:(q:Int)<(L.length:Int):=by omega
     obtain ⟨gb,y,rfl,hgb,hcell,hfr,hst⟩:=HOW.out.cell (show q<L.length by omega)
     have HT:=qH hst
     clear hst HOW
     go_wp2
     go_roundg g
     case measure=>omega
     case rel=>exact ⟨q+1,by omega,by go_num,HT.out _,HMW.out.setCell (p:=⟨gb,q,none⟩) (.inl (zcT gb _ _)) _⟩
    |zero=>
     have hlt:¬(q:Int)<(L.length:Int):=by omega
     clear HOW
     have HOT:=qH (HMW.out.own HO9.out fun k hk hs=>by
      have h1:=hz56.out k hs
      have h2:=z9 HO9.out k hk
      omega)
     have HBT:Hid (Below W4.heap.size W4 wr):=HB9.out.trans (HMW.out.below HB9.out.size fun k hk=>(hz56.out k hk).1)
     have HCT:=qH (HC3.out.next HBT.out)
     clear HMW HO9 HB9 HBT HC3
     have f0:=HCT.out.row.k0;have f1:=HCT.out.row.k1;have f2:=HCT.out.row.k2;have f3:=HCT.out.row.k3;have f4:=HCT.out.row.k4;have f5:=HCT.out.row.k5;have f6:=HCT.out.row.k6;have f7:=HCT.out.row.k7
     have C1:=qH (JK wr HCT.out.see HSM.out HWF.out)
     go_wp2_with fail
     refine C1.out.mono ?_
     rintro e W11 he
     obtain ⟨Ap,kp,rfl,hop,hbp⟩:=HEN.out _ _ _ he
     clear he C1
     clear f0 f1 f2 f3 f4 f5 f6 f7
     have HG:Hid (CB w ob A1 k1 A2 k2 A3 k3 Av1 cv1 Av2 cv2 Av3 cv3 c W11∧SE20 Ap L W11∧SE20 Aw L W11):=⟨HCT.out.next hbp,⟨_,Nat.le_refl _,Sees.of_own hop⟩,SE20.next ⟨_,Nat.le_refl _,Sees.of_own HOT.out⟩ hbp⟩
     clear hop hbp HOT HCT
     obtain ⟨⟨s1,s2,s3⟩,⟨s4,s5,s6,s7⟩,s8,s9⟩:=HSM.out
     have C3:Hid (∀W,CB w ob A1 k1 A2 k2 A3 k3 Av1 cv1 Av2 cv2 Av3 cv3 c W∧SE20 Ap L W∧SE20 Aw L W→Calls Tryz.prog 14 #[.agg #[.int .i64 c.sa,.int .i64 c.sr,.slice Av1 c.bs.length cv1,.int .i64 c.ta,.int .i64 c.tr,.int .i64 c.ts,.slice Av2 c.ms.length cv2,.slice Av3 c.inv.length cv3],.agg #[.int .i64 c.sa,.int .i64 c.sr,.slice A1 c.bs.length k1,.int .i64 c.ta,.int .i64 c.tr,.int .i64 c.ts,.slice A2 c.ms.length k2,.slice A3 c.inv.length k3]] W fun e w'=>e= .returned (.bool true)∧CB w ob A1 k1 A2 k2 A3 k3 Av1 cv1 Av2 cv2 Av3 cv3 c w'∧SE20 Ap L w'∧SE20 Aw L w'):=fun W h=>
      (JT (c:=c) (d:=c) W h.1.see h.1.arg ⟨by omega,by omega⟩ ⟨by omega,by omega⟩ ⟨by omega,by omega⟩ ⟨by omega,by omega⟩ ⟨by omega,by omega⟩ true (by simp)).mono fun e w' ⟨he,hb⟩=>⟨he,h.1.next hb,h.2.1.next hb,h.2.2.next hb⟩
     clear s1 s2 s3 s4 s5 s6 s7 s8 s9
     have C4:Hid (∀W,CB w ob A1 k1 A2 k2 A3 k3 Av1 cv1 Av2 cv2 Av3 cv3 c W∧SE20 Ap L W∧SE20 Aw L W→Calls Tryz.prog 15 #[.slice Ap L.length kp,.slice Aw L.length kw] W fun e w'=>e= .returned (.bool true)∧CB w ob A1 k1 A2 k2 A3 k3 Av1 cv1 Av2 cv2 Av3 cv3 c w'∧SE20 Ap L w'∧SE20 Aw L w'):=fun W h=>
      (zc4 L L true L.length L.length W.heap.size Ap Aw kp kw W (Yd L) rfl rfl (by unfold maxLen;omega) (by unfold maxLen;omega) h.2.1.more h.2.2.more).mono fun e w' ⟨he,n,hb⟩=>⟨he,hb ▸ ⟨h.1.drewN n,h.2.1.drewN n,h.2.2.drewN n⟩⟩
     have hG:=HG.out
     clear HG HEN HSM HWF HBY
     obtain ⟨f0,f1,f2,f3,f4,f5,f6,f7,g0,g1,g2,g3,g4,g5,g6,g7⟩:=hG.1.cells
     go_wp2_with fail
     refine (C3.out _ hG).mono ?_
     rintro e Wa ⟨rfl,hH⟩
     clear f0 f1 f2 f3 f4 f5 f6 f7 g0 g1 g2 g3 g4 g5 g6 g7 hG C3
     go_wp2_with fail
     refine (C4.out _ hH).mono ?_
     rintro e Wb ⟨rfl,hI⟩
     have HZ:=qH hI.1.k.blw
     clear hH hI C4
     go_wp2
     go_ret
     exact ⟨rfl,HZ.out⟩
end Go.Proofs.YtnifhpbgmjcndaaGreat
