/- The reference of layer 18: PutFunc. -/
import Derived.Test.YtnifhpbgmjcndaaGreatPk8
import Derived.Deep.LoopGhost
set_option linter.unusedVariables false
set_option linter.unusedSimpArgs false
set_option linter.unusedSectionVars false
set_option maxRecDepth 100000
set_option maxHeartbeats 16000000
namespace Go.Proofs.YtnifhpbgmjcndaaGreat
open Go.RowKit
structure FES(w:World)(a r:Int)(A:Option Addr)(n c:Nat)(v:Value)(l:List Nat)(W:World):Prop where
 box:Row W w.heap.size 25 #[.int .i64 a,.int .i64 r,.slice A n c]
 bl:BL (w.alloc (.cells #[.int .i64 a,.int .i64 r,.slice A n c] 25)) v l W
section
variable {w W W' : World} {a r : Int} {A : Option Addr} {n c : Nat} {v v' : Value} {l l' : List Nat}
theorem FES.app(h:FES w a r A n c v l W)(hb:BL (w.alloc (.cells #[.int .i64 a,.int .i64 r,.slice A n c] 25)) v' l' W'):FES w a r A n c v' l' W':=
 ⟨(Row.new w _ _).below hb.blw (by simp),hb⟩
theorem FES.below(h:FES w a r A n c v l W)(hb:Below W.heap.size W W'):FES w a r A n c v l W':=h.app (h.bl.next hb)
theorem FES.drew(h:FES w a r A n c v l W):FES w a r A n c v l W.drew:=h.below (let b:=ld W.heap.size W;⟨b.os,b.tape,b.output,b.size,b.block⟩)
theorem FES.cells(h:FES w a r A n c v l W):W.cell? ⟨w.heap.size,0,none⟩=some (.int .i64 a)∧W.cell? ⟨w.heap.size,1,none⟩=some (.int .i64 r)∧W.cell? ⟨w.heap.size,2,none⟩=some (.slice A n c):=by
 have d0:=h.box.k0;have d1:=h.box.k1;have d2:=h.box.k2
 exact ⟨d0,d1,d2⟩
end
theorem zbF(B:Nat)(A:Option Addr)(bs:List Blk)(c:Nat)(a r:Int)(w:World)(hs:BlksAt w B A bs)(hB:B≤w.heap.size)(ha:0≤a∧a≤9223372036854775807)(hr:0≤r∧r≤9223372036854775807)
  (hm:bs.length≤1000000000) (hp:∀x∈bs,PB x) (hl:(zO ⟨a,r,bs⟩).length≤1000000000000):
  Calls Tryz.prog 47 #[.agg #[.int .i64 a,.int .i64 r,.slice A bs.length c]] w (RB w (zO ⟨a,r,bs⟩)):=by
 obtain ⟨i0,hi,hz0,hz1,hz2⟩:=info_parts Tryz.infoU8c
 have HB0:=qH ((ld w.heap.size w).alloc (la _) (.cells #[.int .i64 a,.int .i64 r,.slice A bs.length c] 25))
 have HF0:Hid (FES w a r A bs.length c (.slice none 0 0) [] (w.alloc (.cells #[.int .i64 a,.int .i64 r,.slice A bs.length c] 25))):=⟨Row.new w _ _,zbY _⟩
 have hs0:=(hs.more hB).alloc (la _) (.cells #[.int .i64 a,.int .i64 r,.slice A bs.length c] 25)
 obtain ⟨L3,hL3⟩:∃z,z=zc a.toNat++zc r.toNat++zc bs.length:=⟨_,rfl⟩
 have HEq:Hid (zO ⟨a,r,bs⟩=L3++zG bs):=by show _=_;rw [hL3];unfold zO;simp only [lg]
 have HLn:Hid (L3.length+(zG bs).length≤1000000000000):=by show _≤_;rw [HEq.out,lc] at hl;exact hl
 obtain ⟨EF,hEF⟩:∃z,z=zO ⟨a,r,bs⟩:=⟨_,rfl⟩
 rw [←hEF] at HEq⊢
 have HP:=qH hp
 have HL3:=qH hL3
 clear hEF hl hp hL3 hs
 go_enter Tryz.func47,Tryz.ntmps47
 go_upto_region 1 with fail
 have HS0:Hid (∀W v l,FES w a r A bs.length c v l W→BlksAt W w.heap.size A bs):=fun W v l h=>hs0.below (h.bl.blw.mono (by simp))
 clear hs0
 generalize (w.alloc (.cells #[.int .i64 a,.int .i64 r,.slice A bs.length c] 25))=W0 at HF0
 go_cut [3] from 2 (fun s3 wx=>Hid (FES w a r A bs.length c s3 L3 wx))
 case first=>
  have K1:Hid (∀W,FES w a r A bs.length c (.slice none 0 0) [] W→Calls Tryz.prog 104 #[.slice none 0 0,.int .i64 a] W fun e W'=>∃v',e= .returned v'∧FES w a r A bs.length c v' (zc a.toNat) W'):=fun W h=>(jg h.bl a ha.1 ha.2 (by simp)).mono (by
   rintro e W' ⟨v',rfl,h1,_⟩
   exact ⟨v',rfl,h.app h1⟩)
  have K2:Hid (∀v W,FES w a r A bs.length c v (zc a.toNat) W→Calls Tryz.prog 104 #[v,.int .i64 r] W fun e W'=>∃v',e= .returned v'∧FES w a r A bs.length c v' (zc a.toNat++zc r.toNat) W'):=fun v W h=>(jg h.bl r hr.1 hr.2 (by have:=zC a.toNat;omega)).mono (by
   rintro e W' ⟨v',rfl,h1,_⟩
   exact ⟨v',rfl,h.app h1⟩)
  have K3:Hid (∀v W,FES w a r A bs.length c v (zc a.toNat++zc r.toNat) W→Calls Tryz.prog 104 #[v,.int .i64 bs.length] W fun e W'=>∃v',e= .returned v'∧FES w a r A bs.length c v' L3 W'):=fun v W h=>(jg h.bl bs.length (by omega) (by omega) (by have:=zC a.toNat;have:=zC r.toNat;rw [lc];omega)).mono (by
   rintro e W' ⟨v',rfl,h1,_⟩
   rw [Int.toNat_natCast,←HL3.out] at h1
   exact ⟨v',rfl,h.app h1⟩)
  have hG:=HF0.out
  obtain ⟨d0,d1,d2⟩:=hG.cells
  clear HF0 HP HLn HEq HL3 HS0 HB0
  go_wp2_with fail
  go_region_held3 (fun w'=>w'.cell? ⟨w.heap.size,0,none⟩=some (.int .i64 a)∧w'.cell? ⟨w.heap.size,1,none⟩=some (.int .i64 r)∧w'.cell? ⟨w.heap.size,2,none⟩=some (.slice A bs.length c)) (first|exact hG.cells|exact hG.drew.cells|exact (hG.drewN _).cells) (first|(go_at_call 104;go_must (first
   |((with_reducible refine (K1.out _ (by first|exact hG|exact hG.drew|exact hG.drewN _)).mono ?_);rintro e Wa ⟨v1,rfl,hG⟩)
   |((with_reducible refine (K2.out _ _ (by first|exact hG|exact hG.drew|exact hG.drewN _)).mono ?_);rintro e Wa ⟨v2,rfl,hG⟩)
   |((with_reducible refine (K3.out _ _ (by first|exact hG|exact hG.drew|exact hG.drewN _)).mono ?_);rintro e Wa ⟨v3,rfl,hG⟩))))
  go_wp2_with fail
  go_meet
  case rel=>show FES _ _ _ _ _ _ _ _ _;first|exact hG|exact hG.drew|exact hG.drewN _
 case rest=>
  have HF1:=hcut
  clear HF0 hcut HL3
  generalize wc=W1 at*
  go_wp2_with fail
  go_loopg [3,4] bs.length (fun g v3 v4 wr=>∃k:Nat,k+g=bs.length∧v4= .int .i64 k∧Hid (FES w a r A bs.length c v3 (L3++zG (bs.take k)) wr))
  case atStart=>exact ⟨0,by omega,rfl,by show FES _ _ _ _ _ _ _ _ _;rw [List.take_zero];show FES _ _ _ _ _ _ _ (L3++ []) _;rw [lA];exact HF1.out⟩
  case round=>
   clear HF1
   obtain ⟨k,hkg,rfl,HF⟩:=hrel
   cases gk with
   |zero=>
    obtain rfl:k=bs.length:=by omega
    rw [List.take_length,←HEq.out] at HF
    obtain ⟨d0,d1,d2⟩:=HF.out.cells
    go_wp2
    go_ret
    exact RB.of HF.out.bl HB0.out
   |succ g=>
    have hlt:k<bs.length:=by omega
    obtain ⟨b,o,hA,hb,hat⟩:=(HS0.out _ _ _ HF.out).at_ hlt
    obtain ⟨A1,c1,e0,hl1,hl2,hin⟩:=hat.code
    have e1:=hat.t0;have e2:=hat.t1;have e3:=hat.t2;have e4:=hat.t3
    have HIN:=qH hin
    have HSU:Hid (zG (bs.take (k+1))=zG (bs.take k)++Jw bs[k]):=jh Jw bs k hlt
    have HLE:Hid ((zG (bs.take k)).length+(Jw bs[k]).length≤(zG bs).length):=Zg Jw bs k hlt
    have HPx:=qH (HP.out bs[k] (List.getElem_mem hlt))
    obtain ⟨d0,d1,d2⟩:=HF.out.cells
    clear hat hin
    generalize bs[k]=x at*
    obtain ⟨LB,hLB⟩:∃z,z=L3++zG (bs.take k):=⟨_,rfl⟩
    have HBX:Hid (LB.length+(zc x.code.length).length+(yK x.code).length+(yf x.term).length≤1000000000000):=by
     show _≤_
     have h1:=HLE.out;have h2:=HLn.out
     rw [hLB,lc]
     simp only [Jw,lc] at h1
     omega
    have HNX:Hid (L3++zG (bs.take (k+1))=LB++zc x.code.length++yK x.code++yf x.term):=by
     show _=_
     rw [HSU.out,hLB]
     simp only [Jw,lg]
    rw [←hLB] at HF
    clear hLB HSU HLE
    subst hA
    go_upto_region 6 with fail
    have hblk:=(ld wr.heap.size wr).alloc (la _) (.cells #[.slice A1 x.code.length c1,.int .i64 x.term.kind,.int .i64 x.term.a,.int .i64 x.term.to,.int .i64 x.term.el] 60)
    have HF2:=qH (HF.out.below hblk)
    have HX2:=qH (Row.new wr 60 #[.slice A1 x.code.length c1,.int .i64 x.term.kind,.int .i64 x.term.a,.int .i64 x.term.to,.int .i64 x.term.el])
    have HCD:Hid (∀W v l,FES w a r (some ⟨b,o,none⟩) bs.length c v l W→InsAt W w.heap.size A1 x.code):=fun W v l h=>HIN.out.keep fun p hp=>((h.bl.blw.mono (by simp)).cell hp).trans ((HF.out.bl.blw.mono (by simp)).cell hp).symm
    obtain ⟨wo,hwo⟩:∃z,z=wr:=⟨_,rfl⟩
    subst hwo
    clear hblk HIN e0 e1 e2 e3 e4 d0 d1 d2 HF
    generalize (wo.alloc (.cells #[.slice A1 x.code.length c1,.int .i64 x.term.kind,.int .i64 x.term.a,.int .i64 x.term.to,.int .i64 x.term.el] 60))=W2 at*
    have C:=qH (jg HF2.out.bl x.code.length (by omega) (by unfold maxLen at hl2;omega) (by have:=HBX.out;omega))
    rw [Int.toNat_natCast] at C
    have b0:=HX2.out.k0
    go_wp2_with fail
    refine C.out.mono ?_
    rintro e W3 ⟨v3,rfl,hbl,hkt⟩
    have HF3:=qH (HF2.out.app hbl)
    have HX3:=qH (hkt _ _ _ (by decide) HX2.out)
    clear C hbl hkt b0 HF2 HX2
    go_wp2_with fail
    go_loopg [3,6] x.code.length (fun g2 v3 v6 wx=>∃j:Nat,j+g2=x.code.length∧v6= .int .i64 j∧Hid (FES w a r (some ⟨b,o,none⟩) bs.length c v3 (LB++zc x.code.length++yK (x.code.take j)) wx)∧Hid (Row wx wo.heap.size 60 #[.slice A1 x.code.length c1,.int .i64 x.term.kind,.int .i64 x.term.a,.int .i64 x.term.to,.int .i64 x.term.el]))
    case atStart=>exact ⟨0,by omega,rfl,by show FES _ _ _ _ _ _ _ _ _;rw [List.take_zero];show FES _ _ _ _ _ _ _ (LB++zc x.code.length++ []) _;rw [lA];exact HF3.out,HX3.out⟩
    case round=>
     clear HF3 HX3
     obtain ⟨j,hjg,rfl,HF,HX⟩:=hrel
     have b0:=HX.out.k0;have b1:=HX.out.k1;have b2:=HX.out.k2;have b3:=HX.out.k3;have b4:=HX.out.k4
     cases gk with
     |zero=>
      obtain rfl:j=x.code.length:=by omega
      rw [List.take_length] at HF
      obtain ⟨LC,hLC⟩:∃z,z=LB++zc x.code.length++yK x.code:=⟨_,rfl⟩
      have HLC:Hid (LC.length+(yf x.term).length≤1000000000000):=by
       show _≤_
       rw [hLC,lc,lc]
       exact HBX.out
      rw [←hLC] at HF HNX
      have C:=qH fun W=>Uf (w:=W) HPx.out.2.1 HPx.out.2.2.1 HPx.out.2.2.2.1 HPx.out.2.2.2.2
      clear hLC HBX HCD HPx
      go_wp2_with fail
      refine (C.out _).mono ?_
      rintro e W4 ⟨A4,c4,rfl,ho,hb4⟩
      have HF4:=qH (HF.out.below hb4)
      have hsee:=Sees.of_own ho
      have hlo:(w.alloc (.cells #[.int .i64 a,.int .i64 r,.slice (some ⟨b,o,none⟩) bs.length c] 25)).heap.size≤W4.heap.size:=HF4.out.bl.blw.size
      have hown:=HF4.out.bl.own
      clear ho hb4 C HF HX b0 b1 b2 b3 b4
      go_wp2_with (at_builtin;refine zv _ rfl (.tmp 49) (.tmp 52) 22 rfl (w.alloc (.cells #[.int .i64 a,.int .i64 r,.slice (some ⟨b,o,none⟩) bs.length c] 25)).heap.size 5 i0 (.int .u8 0) 1 Tryz.underlying22 hi hz0 hz1 hz2 rfl _ LC.length (bts LC) rfl hown W4.heap.size _ _ _ (bts (yf x.term)) rfl hsee (zg _) (ye _) ?c1 ?c2 ?c3 ?_)
      case c1=>have:=HLC.out;unfold maxLen;omega
      case c2=>have:=HLC.out;omega
      case c3=>exact hlo
      intro v5 W5 ho5 hg5
      have HF5:=qH (HF4.out.app (HF4.out.bl.app (v':=v5) (W':=W5) (r:=yf x.term) rfl (by rw [World.size_alloc];exact ho5) hg5))
      rw [←HNX.out] at HF5
      clear ho5 hg5 hown hsee hlo HF4
      go_wp2_with fail
      go_roundg g
      case measure=>omega
      case rel=>exact ⟨k+1,by omega,by go_num,HF5.out⟩
     |succ g2=>
      have hjt:j<x.code.length:=by omega
      have hj63:j≤9223372036854775806:=by unfold maxLen at hl2;omega
      obtain ⟨bi,oi,hA1,hbi,hati⟩:=(HCD.out _ _ _ HF.out).at_ hjt
      have y0:=hati.c0;have y1:=hati.c1;have y2:=hati.c2;have y3:=hati.c3;have y4:=hati.c4
      have HSU:Hid (yK (x.code.take (j+1))=yK (x.code.take j)++zU (inM x.code[j])):=jh (fun x=>zU (inM x)) x.code j hjt
      have HLE:Hid ((yK (x.code.take j)).length+(zU (inM x.code[j])).length≤(yK x.code).length):=Zg (fun x=>zU (inM x)) x.code j hjt
      have HPi:=qH (HPx.out.1 x.code[j] (List.getElem_mem hjt))
      clear hati
      generalize x.code[j]=y at*
      obtain ⟨LC,hLC⟩:∃z,z=LB++zc x.code.length++yK (x.code.take j):=⟨_,rfl⟩
      have HLC:Hid (LC.length+(zU (inM y)).length≤1000000000000):=by
       show _≤_
       have h1:=HBX.out;have h2:=HLE.out
       rw [hLC,lc,lc]
       omega
      have HNC:Hid (LB++zc x.code.length++yK (x.code.take (j+1))=LC++zU (inM y)):=by
       show _=_
       rw [HSU.out,hLC,lg,lg,lg]
      rw [←hLC] at HF
      have C:Hid (∀W,Calls Tryz.prog 105 #[.agg #[.int .i64 y.op,.int .i64 y.d,.int .i64 y.a,.int .i64 y.b,.int .i64 y.imm]] W (RB W (zU (inM y)))):=fun W=>zaR (w:=W) (m:=inM y) rfl rfl HPi.out.1 HPi.out.2.1 HPi.out.2.2.1 HPi.out.2.2.2.1 HPi.out.2.2.2.2.1
      clear hLC HSU HLE HPi
      subst hA1
      go_wp2_with fail
      refine (C.out _).mono ?_
      rintro e W4 ⟨A4,c4,rfl,ho,hb4⟩
      have HF4:=qH (HF.out.below hb4)
      have HX4:=qH (HX.out.below hb4 HX.out.lt)
      have hsee:=Sees.of_own ho
      have hlo:(w.alloc (.cells #[.int .i64 a,.int .i64 r,.slice (some ⟨b,o,none⟩) bs.length c] 25)).heap.size≤W4.heap.size:=HF4.out.bl.blw.size
      have hown:=HF4.out.bl.own
      clear ho hb4 C HF HX b0 b1 b2 b3 b4 y0 y1 y2 y3 y4
      go_wp2_with (at_builtin;refine zv _ rfl (.tmp 41) (.tmp 47) 22 rfl (w.alloc (.cells #[.int .i64 a,.int .i64 r,.slice (some ⟨b,o,none⟩) bs.length c] 25)).heap.size 5 i0 (.int .u8 0) 1 Tryz.underlying22 hi hz0 hz1 hz2 rfl _ LC.length (bts LC) rfl hown W4.heap.size _ _ _ (bts (zU (inM y))) rfl hsee (zg _) (ye _) ?c1 ?c2 ?c3 ?_)
      case c1=>have:=HLC.out;unfold maxLen;omega
      case c2=>have:=HLC.out;omega
      case c3=>exact hlo
      intro v5 W5 ho5 hg5
      have HF5:=qH (HF4.out.app (HF4.out.bl.app (v':=v5) (W':=W5) (r:=zU (inM y)) rfl (by rw [World.size_alloc];exact ho5) hg5))
      have HX5:=qH ((KT.grown hown hg5) _ _ _ (by decide) HX4.out)
      rw [←HNC.out] at HF5
      clear ho5 hg5 hown hsee hlo HF4 HX4
      go_wp2_with fail
      go_roundg g2
      case measure=>omega
      case rel=>exact ⟨j+1,by omega,by go_num,HF5.out,HX5.out⟩
end Go.Proofs.YtnifhpbgmjcndaaGreat
