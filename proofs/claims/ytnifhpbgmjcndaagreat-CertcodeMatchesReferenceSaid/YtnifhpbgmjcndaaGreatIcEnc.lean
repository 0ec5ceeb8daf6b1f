/- The reference of layer 17: Put, PutTerm (texts made by wip/lab/genicenc.py). -/
import Derived.Test.YtnifhpbgmjcndaaGreatPk3
import Derived.BigRegion
set_option linter.unusedVariables false
set_option linter.unusedSimpArgs false
set_option maxRecDepth 100000
set_option maxHeartbeats 8000000
namespace Go.Proofs.YtnifhpbgmjcndaaGreat
open Go.RowKit
theorem Zn(v:Int):zk false v= []:=rfl
theorem Zo(v:Int):zk true v=zc v.toNat:=rfl
theorem JR{l:List Nat}{n:Nat}(h:l.length≤n){b:Bool}{v:Int}:(l++zk b v).length≤n+10:=by
 have:=zC v.toNat
 unfold zk
 split
 ·rw [lc];omega
 ·simp;omega
theorem ze4(w0 W:World)(hb:Below w0.heap.size w0 W)(x:Nat):BL w0 (.slice (some ⟨W.heap.size,0,none⟩) 1 1) [x] (W.alloc (.cells #[.int .u8 (x:Int)] 5)):=
 ⟨⟨rfl,.inr ⟨W.heap.size,1,#[.int .u8 (x:Int)],rfl,hb.size,Row.new W _ _,la _,by unfold maxLen;omega,rfl,rfl⟩⟩,hb.alloc hb.size _⟩
structure EnS(w:World)(m:Mi)(v:Value)(l:List Nat)(W:World):Prop where
 box:Row W w.heap.size 131 #[.int .i64 m.op,.int .i64 m.d,.int .i64 m.a,.int .i64 m.b,.int .i64 m.imm,.int .i64 m.dst,.int .i64 m.src]
 bl:BL (w.alloc (.cells #[.int .i64 m.op,.int .i64 m.d,.int .i64 m.a,.int .i64 m.b,.int .i64 m.imm,.int .i64 m.dst,.int .i64 m.src] 131)) v l W
structure EtS(w:World)(m:Tm)(v:Value)(l:List Nat)(W:World):Prop where
 box:Row W w.heap.size 57 #[.int .i64 m.kind,.int .i64 m.a,.int .i64 m.to,.int .i64 m.el]
 bl:BL (w.alloc (.cells #[.int .i64 m.kind,.int .i64 m.a,.int .i64 m.to,.int .i64 m.el] 57)) v l W
theorem EnS.app{w W W':World}{m:Mi}{v v':Value}{l l':List Nat}(h:EnS w m v l W)(hb:BL (w.alloc (.cells #[.int .i64 m.op,.int .i64 m.d,.int .i64 m.a,.int .i64 m.b,.int .i64 m.imm,.int .i64 m.dst,.int .i64 m.src] 131)) v' l' W'):EnS w m v' l' W':=
 ⟨(Row.new w _ _).below hb.blw (by simp),hb⟩
theorem EtS.app{w W W':World}{m:Tm}{v v':Value}{l l':List Nat}(h:EtS w m v l W)(hb:BL (w.alloc (.cells #[.int .i64 m.kind,.int .i64 m.a,.int .i64 m.to,.int .i64 m.el] 57)) v' l' W'):EtS w m v' l' W':=
 ⟨(Row.new w _ _).below hb.blw (by simp),hb⟩
def RB(w:World)(l:List Nat)(e:Ending)(w':World):Prop:=
 ∃A c,e= .returned (.slice A l.length c)∧w'.ownsRow w.heap.size 5 1 (.slice A l.length c) l.length (bts l)∧Below w.heap.size w w'
theorem RB.of{w0 w W:World}{v:Value}{l:List Nat}(h:BL w0 v l W)(hb:Below w.heap.size w w0):RB w l (.returned v) W:=by
 have hbl:=hb.trans (h.blw.mono hb.size)
 have ho:=h.own
 rcases ho.2 with ⟨rfl,h0⟩|⟨g,cap,cur,rfl,hg,h2⟩
 ·refine ⟨none,0,by rw [h0],?_,hbl⟩
  rw [h0]
  exact ⟨by rw [ho.1,h0],.inl ⟨rfl,rfl⟩⟩
 ·exact ⟨_,cap,rfl,⟨ho.1,.inr ⟨g,cap,cur,rfl,lf hb.size hg,h2⟩⟩,hbl⟩
theorem Ue{w:World}{m:Mi}(ho:0≤m.op∧m.op<256)(hi:InI m.imm)(hd:uD m.op=true→0≤m.d∧m.d≤9223372036854775807)(ha:uA m.op=true→0≤m.a∧m.a≤9223372036854775807)(hb:uB m.op=true→0≤m.b∧m.b≤9223372036854775807)
  (hx:(m.op==18)=true→0≤m.dst∧m.dst≤9223372036854775807) (hy:(m.op==18)=true→0≤m.src∧m.src≤9223372036854775807):
  Calls Tryz.prog 107 #[.agg #[.int .i64 m.op,.int .i64 m.d,.int .i64 m.a,.int .i64 m.b,.int .i64 m.imm,.int .i64 m.dst,.int .i64 m.src]] w (RB w (zU m)):=by
 have HB0:=qH ((ld w.heap.size w).alloc (la _) (.cells #[.int .i64 m.op,.int .i64 m.d,.int .i64 m.a,.int .i64 m.b,.int .i64 m.imm,.int .i64 m.dst,.int .i64 m.src] 131))
 have hrow:=Row.new w 131 #[.int .i64 m.op,.int .i64 m.d,.int .i64 m.a,.int .i64 m.b,.int .i64 m.imm,.int .i64 m.dst,.int .i64 m.src]
 obtain ⟨EM,hEM⟩:∃z,z=zU m:=⟨_,rfl⟩
 rw [←hEM]
 have HEM:=qH hEM
 have HON:=qH (show ((m.op.toNat:Nat):Int)=m.op by omega)
 clear hEM
 go_enter Tryz.func107,Tryz.ntmps107
 obtain ⟨i0,hi0,hz0,hz1,hz2⟩:=info_parts Tryz.infoU8c
 go_upto_region 2 with fail
 have HE0:Hid (EnS w m (.slice (some ⟨w.heap.size+1,0,none⟩) 1 1) [m.op.toNat] ((w.alloc (.cells #[.int .i64 m.op,.int .i64 m.d,.int .i64 m.a,.int .i64 m.b,.int .i64 m.imm,.int .i64 m.dst,.int .i64 m.src] 131)).alloc (.cells #[.int .u8 m.op] 5))):=by
  have h1:=ze4 (w.alloc (.cells #[.int .i64 m.op,.int .i64 m.d,.int .i64 m.a,.int .i64 m.b,.int .i64 m.imm,.int .i64 m.dst,.int .i64 m.src] 131)) (w.alloc (.cells #[.int .i64 m.op,.int .i64 m.d,.int .i64 m.a,.int .i64 m.b,.int .i64 m.imm,.int .i64 m.dst,.int .i64 m.src] 131)) (ld _ _) m.op.toNat
  rw [HON.out] at h1
  simp only [World.size_alloc] at h1
  exact ⟨hrow.alloc _,h1⟩
 have hlen:([m.op.toNat]:List Nat).length≤1:=la _
 clear hrow
 generalize ((w.alloc (.cells #[.int .i64 m.op,.int .i64 m.d,.int .i64 m.a,.int .i64 m.b,.int .i64 m.imm,.int .i64 m.dst,.int .i64 m.src] 131)).alloc (.cells #[.int .u8 m.op] 5))=W0 at*
 have i0:=HE0.out.box.k0;have i1:=HE0.out.box.k1;have i2:=HE0.out.box.k2;have i3:=HE0.out.box.k3
 have i4:=HE0.out.box.k4;have i5:=HE0.out.box.k5;have i6:=HE0.out.box.k6
 obtain ⟨ub,hub⟩:∃z,z=(uD m.op):=⟨_,rfl⟩
 have HP:Hid (ub=true→0≤m.d∧m.d≤9223372036854775807):=fun h=>hd (by rw [←hub];exact h)
 have HUB:=qH hub
 have CU:=qH fun W=>yV m.op ub W hub.symm
 clear hub
 go_wp2_with fail
 refine (CU.out _).mono ?_
 rintro e V ⟨rfl,rfl⟩
 clear CU
 go_upto_if 10 with fail
 go_cut [3] from 11 to 14 (fun s3 wx=>Hid (EnS w m s3 ([m.op.toNat]++zk (uD m.op) m.d) wx))
 case first=>
  cases ub
  ·go_wp2_with fail
   go_meet
   case rel=>show EnS _ _ _ _ _;rw [←HUB.out,Zn,lA];exact HE0.out
  ·obtain ⟨h0,h1⟩:=HP.out rfl
   have C:=qH (jx HE0.out.bl m.d h0 h1 (by omega))
   go_wp2_with fail
   refine C.out.mono ?_
   rintro e V ⟨v9,rfl,hbl⟩
   have HN:=qH (HE0.out.app hbl)
   clear i0 i1 i2 i3 i4 i5 i6
   clear C hbl
   go_wp2_with fail
   go_meet
   case rel=>show EnS _ _ _ _ _;rw [←HUB.out,Zo];exact HN.out
 case rest=>
  have HE1:=hcut
  clear i0 i1 i2 i3 i4 i5 i6
  clear HE0 HP HUB hcut
  generalize wc=W1 at*
  have hlen:=JR hlen (b:=(uD m.op)) (v:=m.d)
  have i0:=HE1.out.box.k0;have i1:=HE1.out.box.k1;have i2:=HE1.out.box.k2;have i3:=HE1.out.box.k3
  have i4:=HE1.out.box.k4;have i5:=HE1.out.box.k5;have i6:=HE1.out.box.k6
  obtain ⟨ub,hub⟩:∃z,z=(uA m.op):=⟨_,rfl⟩
  have HP:Hid (ub=true→0≤m.a∧m.a≤9223372036854775807):=fun h=>ha (by rw [←hub];exact h)
  have HUB:=qH hub
  have CU:=qH fun W=>yW m.op ub W hub.symm
  clear hub
  go_wp2_with fail
  refine (CU.out _).mono ?_
  rintro e V ⟨rfl,rfl⟩
  clear CU
  go_upto_if 17 with fail
  go_cut [3] from 18 to 21 (fun s3 wx=>Hid (EnS w m s3 (([m.op.toNat]++zk (uD m.op) m.d)++zk (uA m.op) m.a) wx))
  case first=>
   cases ub
   ·go_wp2_with fail
    go_meet
    case rel=>show EnS _ _ _ _ _;rw [←HUB.out,Zn,lA];exact HE1.out
   ·obtain ⟨h0,h1⟩:=HP.out rfl
    have C:=qH (jx HE1.out.bl m.a h0 h1 (by omega))
    go_wp2_with fail
    refine C.out.mono ?_
    rintro e V ⟨v9,rfl,hbl⟩
    have HN:=qH (HE1.out.app hbl)
    clear i0 i1 i2 i3 i4 i5 i6
    clear C hbl
    go_wp2_with fail
    go_meet
    case rel=>show EnS _ _ _ _ _;rw [←HUB.out,Zo];exact HN.out
  case rest=>
   have HE2:=hcut
   clear i0 i1 i2 i3 i4 i5 i6
   clear HE1 HP HUB hcut
   generalize wc=W1 at*
   have hlen:=JR hlen (b:=(uA m.op)) (v:=m.a)
   have i0:=HE2.out.box.k0;have i1:=HE2.out.box.k1;have i2:=HE2.out.box.k2;have i3:=HE2.out.box.k3
   have i4:=HE2.out.box.k4;have i5:=HE2.out.box.k5;have i6:=HE2.out.box.k6
   obtain ⟨ub,hub⟩:∃z,z=(uB m.op):=⟨_,rfl⟩
   have HP:Hid (ub=true→0≤m.b∧m.b≤9223372036854775807):=fun h=>hb (by rw [←hub];exact h)
   have HUB:=qH hub
   have CU:=qH fun W=>yX m.op ub W hub.symm
   clear hub
   go_wp2_with fail
   refine (CU.out _).mono ?_
   rintro e V ⟨rfl,rfl⟩
   clear CU
   go_upto_if 24 with fail
   go_cut [3] from 25 to 28 (fun s3 wx=>Hid (EnS w m s3 ((([m.op.toNat]++zk (uD m.op) m.d)++zk (uA m.op) m.a)++zk (uB m.op) m.b) wx))
   case first=>
    cases ub
    ·go_wp2_with fail
     go_meet
     case rel=>show EnS _ _ _ _ _;rw [←HUB.out,Zn,lA];exact HE2.out
    ·obtain ⟨h0,h1⟩:=HP.out rfl
     have C:=qH (jx HE2.out.bl m.b h0 h1 (by omega))
     go_wp2_with fail
     refine C.out.mono ?_
     rintro e V ⟨v9,rfl,hbl⟩
     have HN:=qH (HE2.out.app hbl)
     clear i0 i1 i2 i3 i4 i5 i6
     clear C hbl
     go_wp2_with fail
     go_meet
     case rel=>show EnS _ _ _ _ _;rw [←HUB.out,Zo];exact HN.out
   case rest=>
    have HE3:=hcut
    clear i0 i1 i2 i3 i4 i5 i6
    clear HE2 HP HUB hcut
    generalize wc=W1 at*
    have hlen:=JR hlen (b:=(uB m.op)) (v:=m.b)
    obtain ⟨ub,hub⟩:∃z,z=(m.op==1):=⟨_,rfl⟩
    have HUB:=qH hub
    have e1:=hub.symm
    clear hub
    have i0:=HE3.out.box.k0;have i1:=HE3.out.box.k1;have i2:=HE3.out.box.k2;have i3:=HE3.out.box.k3
    have i4:=HE3.out.box.k4;have i5:=HE3.out.box.k5;have i6:=HE3.out.box.k6
    go_upto_if 31 with fail
    go_cut [3] from 32 to 37 (fun s3 wx=>Hid (EnS w m s3 (((([m.op.toNat]++zk (uD m.op) m.d)++zk (uA m.op) m.a)++zk (uB m.op) m.b)++zk (m.op==1) (zz m.imm)) wx))
    case first=>
     clear e1
     cases ub
     ·go_wp2_with fail
      go_meet
      case rel=>show EnS _ _ _ _ _;rw [←HUB.out,Zn,lA];exact HE3.out
     ·have hzu:=zeC hi
      have C1:=qH (zeO m.imm W1 hi)
      have C2:=qH (Zy (zz m.imm) W1 hzu.1 hzu.2)
      have hp:=zC (zz m.imm).toNat
      go_wp2_with fail
      refine C1.out.mono ?_
      rintro e V ⟨rfl,rfl⟩
      clear C1
      go_wp2_with fail
      refine C2.out.mono ?_
      rintro e V ⟨g,c,rfl,ho2,hb2⟩
      have HL1:=qH (HE3.out.bl.next hb2)
      have hsee:=Sees.of_own ho2
      clear ho2 hb2 C2
      clear i0 i1 i2 i3 i4 i5 i6
      have hown:=HL1.out.own
      have hlz:=HL1.out.blw.size
      generalize (((([m.op.toNat]++zk (uD m.op) m.d)++zk (uA m.op) m.a)++zk (uB m.op) m.b))=l3 at*
      go_wp2_with (at_builtin;refine zv _ rfl (.tmp 32) (.tmp 36) 22 rfl (w.alloc (.cells #[.int .i64 m.op,.int .i64 m.d,.int .i64 m.a,.int .i64 m.b,.int .i64 m.imm,.int .i64 m.dst,.int .i64 m.src] 131)).heap.size 5 i0 (.int .u8 0) 1 Tryz.underlying22 hi0 hz0 hz1 hz2 rfl _ l3.length (bts l3) rfl hown V.heap.size _ _ _ (bts (zc (zz m.imm).toNat)) rfl hsee (zg _) (ye _) ?c1 ?c2 ?c3 ?_)
      case c1=>have h9:yc (zz m.imm).toNat=(zc (zz m.imm).toNat).length:=rfl;unfold maxLen;omega
      case c2=>have h9:yc (zz m.imm).toNat=(zc (zz m.imm).toNat).length:=rfl;omega
      case c3=>exact hlz
      intro v2 W2 ho2 hg2
      have HN:=qH (HE3.out.app (HL1.out.app rfl (by rw [World.size_alloc];exact ho2) hg2))
      clear ho2 hg2 hown hsee HL1 hlz
      go_wp2_with fail
      go_meet
      case rel=>show EnS _ _ _ _ _;rw [←HUB.out,Zo];exact HN.out
    case rest=>
     have HE4:=hcut
     clear i0 i1 i2 i3 i4 i5 i6
     clear HE3 HUB hcut e1
     generalize wc=W1 at*
     have hlen:=JR hlen (b:=(m.op==1)) (v:=zz m.imm)
     obtain ⟨ub,hub⟩:∃z,z=(m.op==18):=⟨_,rfl⟩
     have HP5:Hid (ub=true→0≤m.dst∧m.dst≤9223372036854775807):=fun h=>hx (by rw [←hub];exact h)
     have HP6:Hid (ub=true→0≤m.src∧m.src≤9223372036854775807):=fun h=>hy (by rw [←hub];exact h)
     have HUB:=qH hub
     have e1:=hub.symm
     clear hub hx hy
     have i0:=HE4.out.box.k0;have i1:=HE4.out.box.k1;have i2:=HE4.out.box.k2;have i3:=HE4.out.box.k3
     have i4:=HE4.out.box.k4;have i5:=HE4.out.box.k5;have i6:=HE4.out.box.k6
     go_upto_if 40 with fail
     go_cut [3] from 41 to 47 (fun s3 wx=>Hid (EnS w m s3 (((((([m.op.toNat]++zk (uD m.op) m.d)++zk (uA m.op) m.a)++zk (uB m.op) m.b)++zk (m.op==1) (zz m.imm))++zk (m.op==18) m.dst)++zk (m.op==18) m.src) wx))
     case first=>
      clear e1
      cases ub
      ·go_wp2_with fail
       go_meet
       case rel=>show EnS _ _ _ _ _;rw [←HUB.out,Zn,Zn,lA,lA];exact HE4.out
      ·have h5:=HP5.out rfl
       have h6:=HP6.out rfl
       generalize ((((([m.op.toNat]++zk (uD m.op) m.d)++zk (uA m.op) m.a)++zk (uB m.op) m.b)++zk (m.op==1) (zz m.imm)))=l4 at*
       go_wp2_with fail
       refine wp_region_held_drew (S:=fun w'=>w'.cell? ⟨w.heap.size,5,none⟩=some (.int .i64 m.dst)∧w'.cell? ⟨w.heap.size,6,none⟩=some (.int .i64 m.src)) (by kernel_rfl) ⟨i5,i6⟩ (fun hHeld=> ?_)
       have HQ0:Hid (BL (w.alloc (.cells #[.int .i64 m.op,.int .i64 m.d,.int .i64 m.a,.int .i64 m.b,.int .i64 m.imm,.int .i64 m.dst,.int .i64 m.src] 131)) _ _ W1.drew):=⟨HE4.out.bl.own,HE4.out.bl.blw.drew⟩
       generalize hVV:W1.drew=V0 at*
       clear hVV
       refine ze 0 41 (u3) rfl rfl (by kernel_rfl) (by kernel_rfl) (by kernel_rfl) (fun _ _ _ h=>h) (Or.inl ⟨by rfl,?_⟩) hHeld ?_
       ·intro w9 hSw
        (try dsimp only at hSw)
        go_simp
        all_goals (first|(intro h9;omega)|omega)
       (try simp only [Act.put,lh,li,lj])
       refine ze 1 42 (.pointer (some ⟨w.heap.size,5,none⟩)) rfl rfl (by kernel_rfl) (by kernel_rfl) (by kernel_rfl) (fun _ _ _ h=>h) (Or.inl ⟨by rfl,?_⟩) hHeld ?_
       ·intro w9 hSw
        (try dsimp only at hSw)
        go_simp
        all_goals (first|(intro h9;omega)|omega)
       (try simp only [Act.put,lh,li,lj])
       refine ze 2 43 (.int .i64 m.dst) rfl rfl (by kernel_rfl) (by kernel_rfl) (by kernel_rfl) (fun _ _ _ h=>h) (Or.inl ⟨by rfl,?_⟩) hHeld ?_
       ·intro w9 hSw
        (try dsimp only at hSw)
        go_simp
        all_goals (first|(intro h9;omega)|omega)
       (try simp only [Act.put,lh,li,lj])
       refine ze 4 45 (.pointer (some ⟨w.heap.size,6,none⟩)) rfl rfl (by kernel_rfl) (by kernel_rfl) (by kernel_rfl) (fun _ _ _ h=>h) (Or.inl ⟨by rfl,?_⟩) hHeld ?_
       ·intro w9 hSw
        (try dsimp only at hSw)
        go_simp
        all_goals (first|(intro h9;omega)|omega)
       (try simp only [Act.put,lh,li,lj])
       refine ze 5 46 (.int .i64 m.src) rfl rfl (by kernel_rfl) (by kernel_rfl) (by kernel_rfl) (fun _ _ _ h=>h) (Or.inl ⟨by rfl,?_⟩) hHeld ?_
       ·intro w9 hSw
        (try dsimp only at hSw)
        go_simp
        all_goals (first|(intro h9;omega)|omega)
       (try simp only [Act.put,lh,li,lj])
       refine wpAnyH_ready (rs:= [3]) (by kernel_rfl) (by simp) ?_
       refine AllReadyH.cons rfl (fun K hK=> ?_) ?_
       ·go_simp
        refine (jx HQ0.out m.dst h5.1 h5.2 (by omega)).mono ?_
        rintro e V1 ⟨v5,rfl,hbl⟩
        (try go_wp2_with fail)
        have HQ1:=qH hbl
        have HN1:=qH (HE4.out.app hbl)
        clear hbl
        have j5:=HN1.out.box.k5;have j6:=HN1.out.box.k6
        refine hK.out _ _ ⟨j5,j6⟩ (fun hHeld=> ?_)
        clear hK K
        refine wpAnyH_ready (rs:= [6]) (by kernel_rfl) (by simp) ?_
        refine AllReadyH.cons rfl (fun K hK=> ?_) ?_
        ·go_simp
         refine (jx HQ1.out m.src h6.1 h6.2 (by have:=zC m.dst.toNat;rw [lc];omega)).mono ?_
         rintro e V2 ⟨v6,rfl,hbl⟩
         (try go_wp2_with fail)
         have HN2:=qH (HE4.out.app hbl)
         clear hbl
         have k5:=HN2.out.box.k5;have k6:=HN2.out.box.k6
         refine hK.out _ _ ⟨k5,k6⟩ (fun hHeld=> ?_)
         clear hK K
         refine ze 7 3 (v6) rfl rfl (by kernel_rfl) (by kernel_rfl) (by kernel_rfl) (fun _ _ _ h=>h) (Or.inl ⟨by rfl,?_⟩) hHeld ?_
         ·intro w9 hSw
          (try dsimp only at hSw)
          go_simp
          all_goals (first|(intro h9;omega)|omega)
         (try simp only [Act.put,lh,li,lj])
         refine wpAnyH_done (by kernel_rfl) ?_ _
         clear hHeld j5 j6 k5 k6
         go_wp2_with fail
         go_meet
         case rel=>show EnS _ _ _ _ _;rw [←HUB.out,Zo,Zo];exact HN2.out
        exact lq
       exact lq
     case rest=>
      have HE5:=hcut
      clear HE4 hcut HP5 HP6 HUB e1
      clear i0 i1 i2 i3 i4 i5 i6
      have HEQ:Hid (EM=(((((([m.op.toNat]++zk (uD m.op) m.d)++zk (uA m.op) m.a)++zk (uB m.op) m.b)++zk (m.op==1) (zz m.imm))++zk (m.op==18) m.dst)++zk (m.op==18) m.src)):=by show _=_;rw [HEM.out];simp [zU,lg]
      rw [←HEQ.out] at HE5
      go_wp2
      go_ret
      exact RB.of HE5.out.bl HB0.out
theorem Uf{w:World}{t:Tm}(ho:0≤t.kind∧t.kind<256)(ha:(t.kind !=1)=true→0≤t.a∧t.a≤9223372036854775807)(ht:(t.kind !=3)=true→0≤t.to∧t.to≤9223372036854775807)(he:(t.kind==2)=true→0≤t.el∧t.el≤9223372036854775807):
  Calls Tryz.prog 106 #[.agg #[.int .i64 t.kind,.int .i64 t.a,.int .i64 t.to,.int .i64 t.el]] w (RB w (yf t)):=by
 have HB0:=qH ((ld w.heap.size w).alloc (la _) (.cells #[.int .i64 t.kind,.int .i64 t.a,.int .i64 t.to,.int .i64 t.el] 57))
 have hrow:=Row.new w 57 #[.int .i64 t.kind,.int .i64 t.a,.int .i64 t.to,.int .i64 t.el]
 obtain ⟨EM,hEM⟩:∃z,z=yf t:=⟨_,rfl⟩
 rw [←hEM]
 have HEM:=qH hEM
 have HON:=qH (show ((t.kind.toNat:Nat):Int)=t.kind by omega)
 clear hEM
 go_enter Tryz.func106,Tryz.ntmps106
 go_upto_region 2 with fail
 have HE0:Hid (EtS w t (.slice (some ⟨w.heap.size+1,0,none⟩) 1 1) [t.kind.toNat] ((w.alloc (.cells #[.int .i64 t.kind,.int .i64 t.a,.int .i64 t.to,.int .i64 t.el] 57)).alloc (.cells #[.int .u8 t.kind] 5))):=by
  have h1:=ze4 (w.alloc (.cells #[.int .i64 t.kind,.int .i64 t.a,.int .i64 t.to,.int .i64 t.el] 57)) (w.alloc (.cells #[.int .i64 t.kind,.int .i64 t.a,.int .i64 t.to,.int .i64 t.el] 57)) (ld _ _) t.kind.toNat
  rw [HON.out] at h1
  simp only [World.size_alloc] at h1
  exact ⟨hrow.alloc _,h1⟩
 have hlen:([t.kind.toNat]:List Nat).length≤1:=la _
 clear hrow
 generalize ((w.alloc (.cells #[.int .i64 t.kind,.int .i64 t.a,.int .i64 t.to,.int .i64 t.el] 57)).alloc (.cells #[.int .u8 t.kind] 5))=W0 at*
 have i0:=HE0.out.box.k0;have i1:=HE0.out.box.k1;have i2:=HE0.out.box.k2;have i3:=HE0.out.box.k3
 obtain ⟨ub,hub⟩:∃z,z=(t.kind !=1):=⟨_,rfl⟩
 have HP:Hid (ub=true→0≤t.a∧t.a≤9223372036854775807):=fun h=>ha (by rw [←hub];exact h)
 have HUB:=qH hub
 have e1:=hub.symm
 clear hub
 go_upto_if 10 with fail
 go_cut [3] from 11 to 14 (fun s3 wx=>Hid (EtS w t s3 ([t.kind.toNat]++zk (t.kind !=1) t.a) wx))
 case first=>
  clear e1
  cases ub
  ·go_wp2_with fail
   go_meet
   case rel=>show EtS _ _ _ _ _;rw [←HUB.out,Zn,lA];exact HE0.out
  ·obtain ⟨h0,h1⟩:=HP.out rfl
   have C:=qH (jx HE0.out.bl t.a h0 h1 (by omega))
   go_wp2_with fail
   refine C.out.mono ?_
   rintro e V ⟨v9,rfl,hbl⟩
   have HN:=qH (HE0.out.app hbl)
   clear i0 i1 i2 i3
   clear C hbl
   go_wp2_with fail
   go_meet
   case rel=>show EtS _ _ _ _ _;rw [←HUB.out,Zo];exact HN.out
 case rest=>
  have HE1:=hcut
  clear i0 i1 i2 i3
  clear HE0 HP HUB hcut e1
  generalize wc=W1 at*
  have hlen:=JR hlen (b:=(t.kind !=1)) (v:=t.a)
  have i0:=HE1.out.box.k0;have i1:=HE1.out.box.k1;have i2:=HE1.out.box.k2;have i3:=HE1.out.box.k3
  obtain ⟨ub,hub⟩:∃z,z=(t.kind !=3):=⟨_,rfl⟩
  have HP:Hid (ub=true→0≤t.to∧t.to≤9223372036854775807):=fun h=>ht (by rw [←hub];exact h)
  have HUB:=qH hub
  have e1:=hub.symm
  clear hub
  go_upto_if 17 with fail
  go_cut [3] from 18 to 21 (fun s3 wx=>Hid (EtS w t s3 (([t.kind.toNat]++zk (t.kind !=1) t.a)++zk (t.kind !=3) t.to) wx))
  case first=>
   clear e1
   cases ub
   ·go_wp2_with fail
    go_meet
    case rel=>show EtS _ _ _ _ _;rw [←HUB.out,Zn,lA];exact HE1.out
   ·obtain ⟨h0,h1⟩:=HP.out rfl
    have C:=qH (jx HE1.out.bl t.to h0 h1 (by omega))
    go_wp2_with fail
    refine C.out.mono ?_
    rintro e V ⟨v9,rfl,hbl⟩
    have HN:=qH (HE1.out.app hbl)
    clear i0 i1 i2 i3
    clear C hbl
    go_wp2_with fail
    go_meet
    case rel=>show EtS _ _ _ _ _;rw [←HUB.out,Zo];exact HN.out
  case rest=>
   have HE2:=hcut
   clear i0 i1 i2 i3
   clear HE1 HP HUB hcut e1
   generalize wc=W1 at*
   have hlen:=JR hlen (b:=(t.kind !=3)) (v:=t.to)
   have i0:=HE2.out.box.k0;have i1:=HE2.out.box.k1;have i2:=HE2.out.box.k2;have i3:=HE2.out.box.k3
   obtain ⟨ub,hub⟩:∃z,z=(t.kind==2):=⟨_,rfl⟩
   have HP:Hid (ub=true→0≤t.el∧t.el≤9223372036854775807):=fun h=>he (by rw [←hub];exact h)
   have HUB:=qH hub
   have e1:=hub.symm
   clear hub
   go_upto_if 24 with fail
   go_cut [3] from 25 to 28 (fun s3 wx=>Hid (EtS w t s3 ((([t.kind.toNat]++zk (t.kind !=1) t.a)++zk (t.kind !=3) t.to)++zk (t.kind==2) t.el) wx))
   case first=>
    clear e1
    cases ub
    ·go_wp2_with fail
     go_meet
     case rel=>show EtS _ _ _ _ _;rw [←HUB.out,Zn,lA];exact HE2.out
    ·obtain ⟨h0,h1⟩:=HP.out rfl
     have C:=qH (jx HE2.out.bl t.el h0 h1 (by omega))
     go_wp2_with fail
     refine C.out.mono ?_
     rintro e V ⟨v9,rfl,hbl⟩
     have HN:=qH (HE2.out.app hbl)
     clear i0 i1 i2 i3
     clear C hbl
     go_wp2_with fail
     go_meet
     case rel=>show EtS _ _ _ _ _;rw [←HUB.out,Zo];exact HN.out
   case rest=>
    have HE3:=hcut
    clear i0 i1 i2 i3
    clear HE2 HP HUB hcut e1
    generalize wc=W1 at*
    have hlen:=JR hlen (b:=(t.kind==2)) (v:=t.el)
    have HEQ:Hid (EM=((([t.kind.toNat]++zk (t.kind !=1) t.a)++zk (t.kind !=3) t.to)++zk (t.kind==2) t.el)):=by show _=_;rw [HEM.out];simp [yf,lg]
    rw [←HEQ.out] at HE3
    go_wp2
    go_ret
    exact RB.of HE3.out.bl HB0.out
theorem zaR{w:World}{m:Mi}(h5:m.dst=0)(h6:m.src=0)(ho:0≤m.op∧m.op<256)(hi:InI m.imm)(hd:uD m.op=true→0≤m.d∧m.d≤9223372036854775807)(ha:uA m.op=true→0≤m.a∧m.a≤9223372036854775807)(hb:uB m.op=true→0≤m.b∧m.b≤9223372036854775807):
  Calls Tryz.prog 105 #[.agg #[.int .i64 m.op,.int .i64 m.d,.int .i64 m.a,.int .i64 m.b,.int .i64 m.imm]] w (RB w (zU m)):=by
 have hba:=(ld w.heap.size w).alloc (la _) (.cells #[.int .i64 m.op,.int .i64 m.d,.int .i64 m.a,.int .i64 m.b,.int .i64 m.imm] 125)
 have hrow:=Row.new w 125 #[.int .i64 m.op,.int .i64 m.d,.int .i64 m.a,.int .i64 m.b,.int .i64 m.imm]
 have C:=qH fun W=>Ue (w:=W) (m:=m) ho hi hd ha hb (fun _=>by rw [h5];exact ⟨by decide,by decide⟩) (fun _=>by rw [h6];exact ⟨by decide,by decide⟩)
 rw [h5,h6] at C
 have HBA:=qH hba
 clear hba h5 h6
 obtain ⟨EM,hEM⟩:∃z,z=zU m:=⟨_,rfl⟩
 rw [←hEM] at C⊢
 clear hEM
 go_enter Tryz.func105,Tryz.ntmps105
 go_upto_region 1 with fail
 generalize (w.alloc (.cells #[.int .i64 m.op,.int .i64 m.d,.int .i64 m.a,.int .i64 m.b,.int .i64 m.imm] 125))=W0 at*
 have i0:=hrow.k0;have i1:=hrow.k1;have i2:=hrow.k2;have i3:=hrow.k3;have i4:=hrow.k4
 clear hrow
 go_wp2_with fail
 refine (C.out _).mono ?_
 rintro e W1 ⟨A,c,rfl,how,hb1⟩
 clear i0 i1 i2 i3 i4 C
 have HB1:=qH (HBA.out.trans (hb1.mono HBA.out.size))
 have HOW:Hid (W1.ownsRow w.heap.size 5 1 (.slice A EM.length c) EM.length (bts EM)):=by
  refine ⟨how.1,?_⟩
  rcases how.2 with h|⟨g,cap,cur,e1,e2,e3⟩
  ·exact .inl h
  ·exact .inr ⟨g,cap,cur,e1,lf HBA.out.size e2,e3⟩
 clear how hb1
 go_wp2
 go_ret
 exact ⟨A,c,rfl,HOW.out,HB1.out⟩
end Go.Proofs.YtnifhpbgmjcndaaGreat
