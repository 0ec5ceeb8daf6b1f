import Derived.Test.YtnifhpbgmjcndaaGreatIcProg
import Derived.Test.YtnifhpbgmjcndaaGreatPk23
set_option linter.unusedVariables false
set_option linter.unusedSimpArgs false
set_option linter.unusedSectionVars false
set_option maxRecDepth 100000
set_option maxHeartbeats 8000000
namespace Go.Proofs.YtnifhpbgmjcndaaGreat
open Go.RowKit
def Jy(l:List Pr)(q:Pr)(m:Nat):Pr:=if m=0 then q else l.getD (m - 1) (0,0)
def flP(f:Bool)(m:Nat):Bool:=if m=0 then f else false
theorem QF(p:Pr)(l:List Pr)(q:Pr)(m:Nat):Jy (p::l) q (m+1)=Jy l p m:=by
 cases m<;>simp [Jy]
theorem QG(m:Nat):flP false m=false:=by unfold flP;split<;>rfl
theorem U8(f:Bool)(m:Nat):flP f (m+1)=false:=rfl
theorem Zs:∀(l:List Pr) (f:Bool) (q:Pr) (m:Nat) (h:m<l.length),zM f q (l.take (m+1))=zM f q (l.take m)++yn (flP f m) (Jy l q m) l[m]
 |p::l,f,q,0,_=>by
  show yn f q p++zM false p (l.take 0)= []++yn f q p
  rw [List.take_zero]
  show yn f q p++ []= []++yn f q p
  rw [lA,lz]
 |p::l,f,q,m+1,h=>by
  have hm:m<l.length:=by simpa using h
  have ih:=Zs l false p m hm
  rw [ly,ly,QF,U8,←QG m]
  show yn f q p++zM false p (l.take (m+1))=(yn f q p++zM false p (l.take m))++_
  rw [ih,lg]
  rfl
theorem Uw:∀(l:List Pr) (f:Bool) (q:Pr),U9 f q l→∀(m:Nat) (h:m<l.length),
  (0≤l[m].1 - (Jy l q m).1∧l[m].1 - (Jy l q m).1≤1000000000)∧(0≤(if flP f m=false∧l[m].1 - (Jy l q m).1=0 then l[m].2 - (Jy l q m).2 - 1 else l[m].2)∧(if flP f m=false∧l[m].1 - (Jy l q m).1=0 then l[m].2 - (Jy l q m).2 - 1 else l[m].2)≤4000000000)∧(InI l[m].1∧InI l[m].2)
 |p::l,f,q,hp,0,_=>⟨hp.1,hp.2.1,hp.2.2.1⟩
 |p::l,f,q,hp,m+1,h=>by
  have hm:m<l.length:=by simpa using h
  have:=Uw l false p hp.2.2.2 m hm
  rw [QG] at this
  rw [QF,U8]
  exact this
theorem Jf{w0 W:World}{v:Value}{l:List Nat}(h:BL w0 v l W)(x:Int)(h0:0≤x)(h1:x≤9223372036854775807)(hl:l.length≤1000000000000):
  Calls Tryz.prog 108 #[v,.int .i64 x] W fun e W'=>∃v',e= .returned v'∧BL w0 v' (l++zc x.toNat) W'∧KT W W':=by
 obtain ⟨i0,hi,hz0,hz1,hz2⟩:=info_parts Tryz.infoU8c
 have C1:=qH (Zy x W h0 (by omega))
 have HL:=qH h
 have hp:=zC x.toNat
 clear h
 go_enter Tryz.func108,Tryz.ntmps108
 go_wp2_with fail
 refine C1.out.mono ?_
 rintro e W1 ⟨g,c,rfl,ho,hb⟩
 have HL1:=qH (HL.out.next hb)
 have HK1:=qH (KT.of_below hb)
 have hsee:=Sees.of_own ho
 have hlo:w0.heap.size≤W1.heap.size:=HL1.out.blw.size
 have HLS:Hid (yc x.toNat=(zc x.toNat).length):=rfl
 clear ho hb C1 HL
 have hown:=HL1.out.own
 go_wp2_with (at_builtin;refine zv _ rfl (.tmp 5) (.tmp 8) 22 rfl w0.heap.size 5 i0 (.int .u8 0) 1 Tryz.underlying22 hi hz0 hz1 hz2 rfl v l.length (bts l) rfl hown W1.heap.size _ _ _ (bts (zc x.toNat)) rfl hsee (zg _) (ye _) ?c1 ?c2 ?c3 ?_)
 case c1=>have h9:yc x.toNat=(zc x.toNat).length:=rfl;unfold maxLen;omega
 case c2=>have h9:yc x.toNat=(zc x.toNat).length:=rfl;omega
 case c3=>exact hlo
 intro v2 W2 ho2 hg2
 have HL2:=qH (HL1.out.app rfl ho2 hg2)
 have HK2:=qH (HK1.out.trans (KT.grown hown hg2))
 clear ho2 hg2 hown hsee
 go_wp2
 go_ret
 exact ⟨v2,rfl,HL2.out,HK2.out⟩
structure PW(w:World)(v:Value)(l:List Nat)(x:Nat)(p1 p2:Int)(W:World):Prop where
 bl:BL w v l W
 row:Row W x 55 #[.int .i64 p1,.int .i64 p2]
theorem PW.app{w:World}{v v':Value}{l l':List Nat}{x:Nat}{p1 p2:Int}{W W':World}(h:PW w v l x p1 p2 W)(hb:BL w v' l' W')(hk:KT W W'):PW w v' l' x p1 p2 W':=⟨hb,hk _ _ _ (by decide) h.row⟩
theorem PW.next{w:World}{v:Value}{l:List Nat}{x:Nat}{p1 p2:Int}{W W':World}(h:PW w v l x p1 p2 W)(hb:Below W.heap.size W W'):PW w v l x p1 p2 W':=⟨h.bl.next hb,h.row.below hb h.row.lt⟩
theorem PW.drew{w:World}{v:Value}{l:List Nat}{x:Nat}{p1 p2:Int}{W:World}(h:PW w v l x p1 p2 W):PW w v l x p1 p2 W.drew:=h.next (let b:=ld W.heap.size W;⟨b.os,b.tape,b.output,b.size,b.block⟩)
theorem PW.cells{w:World}{v:Value}{l:List Nat}{x:Nat}{p1 p2:Int}{W:World}(h:PW w v l x p1 p2 W):W.cell? ⟨x,0,none⟩=some (.int .i64 p1)∧W.cell? ⟨x,1,none⟩=some (.int .i64 p2):=⟨h.row.cell 0,h.row.cell 1⟩
theorem zev(B:Nat)(A:Option Addr)(xs:List (List Pr))(c:Nat)(w:World)(hs:SeesPP w B A xs)(hB:B≤w.heap.size)(hf:xs.length≤3000)(hl:∀x∈xs,x.length≤3000)(hp:∀l∈xs,U9 true (0,0) l):
  Calls Tryz.prog 49 #[.slice A xs.length c] w (RB w (zp xs)):=by
 have HS:=qH hs
 have HL:=qH hl
 have HP:=qH hp
 have HT:Hid (∀k,(zp (xs.take k)).length≤1000000000):=fun k=>by
  have h1:=(JK (xs.take k)).2
  have h2:=ZT (w:=xs.take k) (m:=3000) fun l h=>HL.out l (List.mem_of_mem_take h)
  rw [lu] at h1 h2
  have h3:min k xs.length*3000≤3000*3000:=Nat.mul_le_mul_right _ (by omega)
  omega
 clear hs hl hp
 go_enter Tryz.func49,Tryz.ntmps49
 go_wp2
 go_loopg [3,4] xs.length (fun g v3 v4 wr=>∃k:Nat,k+g=xs.length∧v4= .int .i64 k∧Hid (BL w v3 (zp (xs.take k)) wr))
 case atStart=>exact ⟨0,by omega,rfl,zbY w⟩
 case round=>
  obtain ⟨k,hkg,rfl,HBL⟩:=hrel
  cases gk with
  |zero=>
   obtain rfl:k=xs.length:=by omega
   rw [List.take_length] at HBL
   go_wp2
   go_ret
   exact RB.of HBL.out (ld _ _)
  |succ g=>
   have hk:k<xs.length:=by omega
   have HSK:Hid (∀W v l,BL w v l W→∃b o Ai ci,A=some ⟨b,o,none⟩∧b<B∧W.cell? ⟨b,o+k,none⟩=some (.slice Ai xs[k].length ci)∧xs[k].length≤ci∧ci≤maxLen∧Sees W B Ai (prs xs[k])):=fun W v l h=>by
    obtain ⟨b,o,Ai,ci,e,h0,h1,h2,h3,h4⟩:=(HS.out.below (h.blw.mono hB)).at_ hk
    exact ⟨b,o,Ai,ci,e,h0,h1,h2,h3,h4⟩
   have HLK:Hid (xs[k].length≤3000):=HL.out _ (List.getElem_mem hk)
   have HPK:Hid (U9 true (0,0) xs[k]):=HP.out _ (List.getElem_mem hk)
   have HSU:Hid (zp (xs.take (k+1))=zp (xs.take k)++(zc xs[k].length++zM true (0,0) xs[k])):=jh jc xs k hk
   have HTK:=qH (HT.out k)
   generalize xs[k]=x at*
   generalize zp (xs.take k)=L at*
   obtain ⟨b,o,Ai,ci,rfl,hbB,hcell,hci,hcm,hsee⟩:=HSK.out _ _ _ HBL.out
   have hx:=HLK.out
   have C1:=qH (Jf HBL.out x.length (by omega) (by omega) (by have:=HTK.out;omega))
   rw [Int.toNat_natCast] at C1
   clear hsee HBL
   unfold maxLen at hcm
   go_wp2_with fail
   refine C1.out.mono ?_
   rintro e W1 ⟨v1,rfl,hbl,hkt⟩
   have HB1:=qH hbl
   obtain ⟨wo,hwo⟩:∃z,z=wr:=⟨_,rfl⟩
   subst hwo
   clear hbl hkt C1 hcell
   go_wp2
   go_loopg [3,5] x.length (fun g2 v3 v5 wx=>∃m:Nat,m+g2=x.length∧v5= .int .i64 m∧Hid (BL w v3 (L++zc x.length++zM true (0,0) (x.take m)) wx))
   case atStart=>exact ⟨0,by omega,rfl,by rw [List.take_zero];show BL w v1 (L++zc x.length++ []) W1;rw [lA];exact HB1.out⟩
   case round=>
    clear HB1
    obtain ⟨m,hmg,rfl,HBL⟩:=hrel
    obtain ⟨b',o',A2,c2,he,_,hcell,hci2,hcm2,hsee⟩:=HSK.out _ _ _ HBL.out
    injection he with he
    injection he with he1 he2
    subst he1 he2
    unfold maxLen at hcm2
    cases gk with
    |zero=>
     obtain rfl:m=x.length:=by omega
     have hlt:¬((x.length:Nat):Int)<(x.length:Nat):=by omega
     rw [List.take_length] at HBL
     have HN:Hid (BL w u3 (zp (xs.take (k+1))) wr):=by
      show BL _ _ _ _
      rw [HSU.out,←lg]
      exact HBL.out
     clear hsee
     go_wp2_with fail
     go_roundg g
     case measure=>omega
     case rel=>exact ⟨k+1,by omega,by go_num,HN.out⟩
    |succ g2=>
     have hm:m<x.length:=by omega
     have hlt:(m:Int)<(x.length:Int):=by omega
     obtain ⟨bp,op,rfl,hbp,hp1,hp2⟩:=jB hsee hm
     obtain ⟨q1,q2,q3⟩:=Uw x true (0,0) HPK.out m hm
     have HSN:Hid (L++zc x.length++zM true (0,0) (x.take (m+1))=L++zc x.length++zM true (0,0) (x.take m)++yn (flP true m) (Jy x (0,0) m) x[m]):=by show _=_;rw [Zs x true (0,0) m hm,lg (L++zc x.length)]
     have HLN:Hid ((L++zc x.length++zM true (0,0) (x.take m)).length≤2000000000):=by
      show _≤_
      have h1:=(Jl (x.take m) true (0,0)).2
      have h2:=HTK.out
      have h3:=zC x.length
      simp only [lc,lu] at h1⊢
      omega
     generalize L++zc x.length++zM true (0,0) (x.take m)=LL at*
     by_cases h0:m=0
     ·subst h0
      change 0≤x[0].1 - 0∧x[0].1 - 0≤1000000000 at q1
      change 0≤(if true=false∧x[0].1 - 0=0 then x[0].2 - 0 - 1 else x[0].2)∧(if true=false∧x[0].1 - 0=0 then x[0].2 - 0 - 1 else x[0].2)≤4000000000 at q2
      rw [if_neg (fun h=>absurd h.1 (by decide))] at q2
      have HEN:Hid (LL++yn (flP true 0) (Jy x (0,0) 0) x[0]=LL++zc x[0].1.toNat++zc x[0].2.toNat):=by
       show LL++(zc (x[0].1 - 0).toNat++zc (if true=false∧x[0].1 - 0=0 then x[0].2 - 0 - 1 else x[0].2).toNat)=_
       rw [if_neg (fun h=>absurd h.1 (by decide)),Int.sub_zero,lg]
      rw [HEN.out] at HSN
      generalize x[0]=p at*
      obtain ⟨p1,p2⟩:=p
      dsimp only at q1 q2 q3 hp1 hp2 HSN
      simp only [Nat.zero_mul,lH] at hp1 hp2
      have hlt0:(0:Int)<(x.length:Int):=by omega
      clear hsee HEN hlt
      go_upto_region 10 with fail
      have HW:Hid (PW w u3 LL wr.heap.size p1 p2 (wr.alloc (.cells #[.int .i64 p1,.int .i64 p2] 55))):=⟨HBL.out.next ((ld _ _).alloc (la _) _),Row.new _ _ _⟩
      generalize (wr.alloc (.cells #[.int .i64 p1,.int .i64 p2] 55))=W2 at*
      generalize wr.heap.size=px at*
      have K1:Hid (∀W,PW w u3 LL px p1 p2 W→Calls Tryz.prog 108 #[u3,.int .i64 p1] W fun e W'=>∃v',e= .returned v'∧PW w v' (LL++zc p1.toNat) px p1 p2 W'):=fun W h=>(Jf h.bl p1 (by omega) (by omega) (by have:=HLN.out;omega)).mono (by
       rintro e W' ⟨v',rfl,h1,h2⟩
       exact ⟨v',rfl,h.app h1 h2⟩)
      have K2:Hid (∀v W,PW w v (LL++zc p1.toNat) px p1 p2 W→Calls Tryz.prog 108 #[v,.int .i64 p2] W fun e W'=>∃v',e= .returned v'∧PW w v' (LL++zc p1.toNat++zc p2.toNat) px p1 p2 W'):=fun v W h=>(Jf h.bl p2 (by omega) (by omega) (by have:=HLN.out;have:=zC p1.toNat;rw [lc];omega)).mono (by
       rintro e W' ⟨v',rfl,h1,h2⟩
       exact ⟨v',rfl,h.app h1 h2⟩)
      have hG:=HW.out
      obtain ⟨d0,d1⟩:=hG.cells
      clear HW HBL hcell hp1 hp2
      go_upto_region 11 with fail
      go_wp2_with fail
      go_region_held3 (fun w'=>w'.cell? ⟨px,0,none⟩=some (.int .i64 p1)∧w'.cell? ⟨px,1,none⟩=some (.int .i64 p2)) (first|exact hG.cells|exact hG.drew.cells|exact (hG.drewN _).cells) (first|(go_at_call 108;go_must (first
       |((with_reducible refine (K1.out _ (by first|exact hG|exact hG.drew|exact hG.drewN _)).mono ?_);rintro e Wa ⟨va,rfl,hG⟩)
       |((with_reducible refine (K2.out _ _ (by first|exact hG|exact hG.drew|exact hG.drewN _)).mono ?_);rintro e Wa ⟨vb,rfl,hG⟩))))
      rw [←HSN.out] at hG
      go_wp2
      go_roundg g2
      case measure=>omega
      case rel=>exact ⟨1,by omega,by go_num,hG.bl⟩
     ·obtain ⟨m,rfl⟩:∃m',m=m'+1:=⟨m - 1,by omega⟩
      have hm':m<x.length:=by omega
      obtain ⟨bq,oq,he,_,hq1,hq2⟩:=jB hsee hm'
      injection he with he
      injection he with he1 he2
      subst he1 he2
      have epv:Jy x (0,0) (m+1)=x[m]:=by
       unfold Jy
       rw [if_neg (by omega),Nat.add_sub_cancel,List.getD_eq_getElem?_getD,List.getElem?_eq_getElem hm']
       rfl
      rw [epv,U8] at HSN q2
      rw [epv] at q1
      generalize x[m+1]=p at*
      generalize x[m]=q at*
      obtain ⟨p1,p2⟩:=p
      obtain ⟨r1,r2⟩:=q
      dsimp only at q1 q2 q3 hp1 hp2 hq1 hq2 HSN
      obtain ⟨q3a,q3b⟩:=q3
      unfold InI at q3a q3b
      have hlt1:(m:Int)<(x.length:Int):=by omega
      have hlt2:(m:Int)+1<(x.length:Int):=by omega
      clear hsee epv h0
      have hsz:=HBL.out.blw.size
      have hb1:b<wr.heap.size:=by omega
      have hb2:bp<wr.heap.size:=by omega
      go_upto_region 13 with fail
      have HBB:Hid (Below wr.heap.size wr ((wr.alloc (.cells #[.int .i64 p1,.int .i64 p2] 55)).alloc (.cells #[.int .i64 r1,.int .i64 r2] 55))):=((ld _ _).alloc (la _) _).alloc (by simp) _
      have HW:Hid (PW w u3 LL wr.heap.size p1 p2 ((wr.alloc (.cells #[.int .i64 p1,.int .i64 p2] 55)).alloc (.cells #[.int .i64 r1,.int .i64 r2] 55))):=⟨HBL.out.next HBB.out,(Row.new _ _ _).alloc _⟩
      have HY:Hid (Row ((wr.alloc (.cells #[.int .i64 p1,.int .i64 p2] 55)).alloc (.cells #[.int .i64 r1,.int .i64 r2] 55)) (wr.heap.size+1) 55 #[.int .i64 r1,.int .i64 r2]):=Row.new' (by simp) _ _
      clear HBB HBL hcell hp1 hp2 hq1 hq2 hsz hb1 hb2
      generalize ((wr.alloc (.cells #[.int .i64 p1,.int .i64 p2] 55)).alloc (.cells #[.int .i64 r1,.int .i64 r2] 55))=W2 at*
      generalize wr.heap.size=px at*
      have d0:=HW.out.row.k0;have d1:=HW.out.row.k1
      have f0:=HY.out.k0;have f1:=HY.out.k1
      have C2:=qH (Jf HW.out.bl (p1 - r1) q1.1 (by omega) (by have:=HLN.out;omega))
      by_cases hd:p1 - r1=0
      ·rw [if_pos ⟨rfl,hd⟩] at q2
       have HEN:Hid (LL++yn false (r1,r2) (p1,p2)=LL++zc (p1 - r1).toNat++zc (p2 - r2 - 1).toNat):=by
        show LL++(zc (p1 - r1).toNat++zc (if false=false∧p1 - r1=0 then p2 - r2 - 1 else p2).toNat)=_
        rw [if_pos ⟨rfl,hd⟩,lg]
       rw [HEN.out] at HSN
       have de:(p1==r1)=true:=by simp;omega
       clear hd HEN
       go_wp2_with fail
       refine C2.out.mono ?_
       rintro e W3 ⟨va,rfl,h1,h2⟩
       have HW3:=qH (HW.out.app h1 h2)
       have HY3:=qH (h2 _ _ _ (by decide) HY.out)
       clear h1 h2 C2 HW HY d0 d1 f0 f1
       have d0:=HW3.out.row.k0;have d1:=HW3.out.row.k1
       have f0:=HY3.out.k0;have f1:=HY3.out.k1
       have C3:=qH (Jf HW3.out.bl (p2 - r2 - 1) q2.1 (by omega) (by have:=HLN.out;have:=zC (p1 - r1).toNat;rw [lc];omega))
       go_wp2_with fail
       refine C3.out.mono ?_
       rintro e W4 ⟨vb,rfl,h1,h2⟩
       rw [←HSN.out] at h1
       have HB4:=qH h1
       clear h1 h2 C3 HW3 HY3 d0 d1 f0 f1
       go_wp2
       go_roundg g2
       case measure=>omega
       case rel=>exact ⟨m+1+1,by omega,by go_num,HB4.out⟩
      ·rw [if_neg (fun h=>hd h.2)] at q2
       have HEN:Hid (LL++yn false (r1,r2) (p1,p2)=LL++zc (p1 - r1).toNat++zc p2.toNat):=by
        show LL++(zc (p1 - r1).toNat++zc (if false=false∧p1 - r1=0 then p2 - r2 - 1 else p2).toNat)=_
        rw [if_neg (fun h=>hd h.2),lg]
       rw [HEN.out] at HSN
       have de:(p1==r1)=false:=by simp;omega
       clear hd HEN
       go_wp2_with fail
       refine C2.out.mono ?_
       rintro e W3 ⟨va,rfl,h1,h2⟩
       have HW3:=qH (HW.out.app h1 h2)
       have HY3:=qH (h2 _ _ _ (by decide) HY.out)
       clear h1 h2 C2 HW HY d0 d1 f0 f1
       have d0:=HW3.out.row.k0;have d1:=HW3.out.row.k1
       have f0:=HY3.out.k0;have f1:=HY3.out.k1
       have C3:=qH (Jf HW3.out.bl p2 q2.1 (by omega) (by have:=HLN.out;have:=zC (p1 - r1).toNat;rw [lc];omega))
       go_wp2_with fail
       refine C3.out.mono ?_
       rintro e W4 ⟨vb,rfl,h1,h2⟩
       rw [←HSN.out] at h1
       have HB4:=qH h1
       clear h1 h2 C3 HW3 HY3 d0 d1 f0 f1
       go_wp2
       go_roundg g2
       case measure=>omega
       case rel=>exact ⟨m+1+1,by omega,by go_num,HB4.out⟩
theorem GPS.box{w W W':World}{q:Nat}{l:List Nat}(h:GPS w q l W){bx:Nat}{T:TypeId}{cs:Array Value}(hr:Row W bx T cs)(h1:T≠5)(h2:T≠98)(hw:w.heap.size≤bx)(hq:q<w.heap.size)(hm:Mods (Is bx) W W'):GPS w q l W':=by
 obtain ⟨v,hv⟩:=h.wr
 obtain ⟨a1,a2⟩:=hv.apart hr h1 h2
 refine ⟨h.md.then hm fun k hk=> .inl (by unfold Is at hk;unfold Zt;omega),⟨v,?_⟩,⟨fun B T' cs' hB t1 t2=> ?_,fun v9 hv9 B o hB hq9 hk9=> ?_⟩⟩
 ·have hx:Wri W' q W.heap.size v l:=⟨hv.row.mods hm fun e=>by unfold Is at e;exact a2 e.symm,hm.own hv.own fun k hk hs=>by unfold Is at hs;exact a1 (by rw [hk,hs]),hv.blk,hv.qhi⟩
  exact hx.more hm.size
 ·have:=hB.lt
  exact (h.kp.ty B T' cs' hB t1 t2).mods hm fun e=>by unfold Is at e;omega
 ·obtain ⟨e1,v1,e2,e3⟩:=h.kp.old v9 hv9 B o hB hq9 hk9
  have:=Zq hB
  exact ⟨(hm.block B (Zq e1) (fun e=>by unfold Is at e;omega)).trans e1,v1,e2.mods hm (fun e=>by unfold Is at e;omega),e3⟩
structure PV19(w:World)(q:Nat)(l:List Nat)(b1 b2:Nat)(q1 q2 p1 p2:Int)(W:World):Prop where
 g:GPS w q l W
 x:Row W b1 55 #[.int .i64 q1,.int .i64 q2]
 y:Row W b2 55 #[.int .i64 p1,.int .i64 p2]
section
variable {w W W' : World} {q : Nat} {l l' : List Nat} {b1 b2 : Nat} {q1 q2 p1 p2 : Int}
theorem PV19.below(h:PV19 w q l b1 b2 q1 q2 p1 p2 W)(hb:Below W.heap.size W W'):PV19 w q l b1 b2 q1 q2 p1 p2 W':=⟨h.g.below hb,h.x.below hb h.x.lt,h.y.below hb h.y.lt⟩
theorem PV19.drew(h:PV19 w q l b1 b2 q1 q2 p1 p2 W):PV19 w q l b1 b2 q1 q2 p1 p2 W.drew:=h.below (let b:=ld W.heap.size W;⟨b.os,b.tape,b.output,b.size,b.block⟩)
theorem PV19.cells(h:PV19 w q l b1 b2 q1 q2 p1 p2 W):W.cell? ⟨b2,1,none⟩=some (.int .i64 p2)∧W.cell? ⟨b1,0,none⟩=some (.int .i64 q1)∧W.cell? ⟨b1,1,none⟩=some (.int .i64 q2):=by
 have x0:=h.x.k0;have x1:=h.x.k1;have y1:=h.y.k1
 exact ⟨y1,x0,x1⟩
end
theorem zhm{f:Bool}{q:Pr}{d p2:Int}:p2 - Um (jE f q) d=if f=false∧d=0 then p2 - q.2 - 1 else p2:=by
 unfold Um jE
 by_cases h0:d=0
 ·cases f
  ·simp only [h0,and_self,if_true,Bool.false_eq_true,if_false];omega
  ·simp only [h0,Bool.true_eq_false,false_and,if_false,if_true];omega
 ·rw [if_neg h0,if_neg (by omega)];omega
theorem zfN{w:World}{q hi:Nat}{v:Value}{L:List Nat}(h:Wri w q hi v L)(hm:L.length+30000≤70368744177664)(hhi:hi≤w.heap.size){x:List Pr}{A:Option Addr}{c:Nat}(hs:Sees w q A (prs x))(hx:x.length≤1000)(hc:x.length≤c)(hcm:c≤maxLen)(hp:U9 true (0,0) x):
  Calls Tryz.prog 98 #[.pointer (some ⟨q,0,none⟩),.slice A x.length c] w (WroteK w q (L++jc x)):=by
 have HG0:Hid (GPS w q L w):=GPS.new h hhi
 have hqw:q<w.heap.size:=h.row.lt
 have HSE:Hid (∀W,Mods (Zt q) w W→Sees W q A (prs x)):=fun W hm=>hs.below (hm.below (Nat.le_of_lt hqw) fun k hk=>hk)
 have HPK:=qH hp
 have HLM:=qH hm
 have HIV:Hid (L++jc x=L++zc x.length++zM true (0,0) x):=by show _=_;unfold jc;rw [lg]
 have C1:=qH (Y4 h x.length (by omega) (by omega) (by omega) hhi)
 rw [Int.toNat_natCast] at C1
 clear h hhi hs hp
 unfold maxLen at hcm
 go_enter Tryz.func98,Tryz.ntmps98
 go_wp2_with fail
 refine C1.out.mono ?_
 rintro e W1 ⟨⟨rfl,hw,hmm⟩,hkp⟩
 have HG1:=qH (HG0.out.next hw hmm hkp)
 clear hw hmm hkp C1 HG0
 have C2:=qH (YM W1)
 go_wp2_with fail
 refine C2.out.mono ?_
 rintro e W2 ⟨rfl,hb2⟩
 have HG2:=qH (HG1.out.below hb2)
 clear hb2 C2 HG1
 go_upto_region 2 with fail
 have HG3:=qH (HG2.out.below ((ld W2.heap.size W2).alloc (la _) (.cells #[.int .i64 0,.int .i64 (-1)] 55)))
 have HX3:=qH (Row.new W2 55 #[.int .i64 0,.int .i64 (-1)])
 have HZ3:=qH HG2.out.md.size
 clear HG2
 generalize (W2.alloc (.cells #[.int .i64 0,.int .i64 (-1)] 55))=W3 at*
 generalize W2.heap.size=b1 at*
 go_wp2
 go_loopg [16] x.length (fun g v16 wx=>∃m:Nat,m+g=x.length∧v16= .int .i64 m∧Hid (GPS w q (L++zc x.length++zM true (0,0) (x.take m)) wx)∧Hid (Row wx b1 55 #[.int .i64 (Jy x (0,0) m).1,.int .i64 (jE (flP true m) (Jy x (0,0) m))]))
 case atStart=>exact ⟨0,by omega,rfl,by rw [List.take_zero];show GPS w q (L++zc x.length++ []) W3;rw [lA];exact HG3.out,HX3.out⟩
 case round=>
  clear HG3 HX3
  obtain ⟨m,hmg,rfl,HG,HX⟩:=hrel
  cases gk with
  |zero=>
   have hlt2:¬(m:Int)<(x.length:Int):=by omega
   have HN:Hid (GPS w q (L++jc x) wr):=by
    show GPS _ _ _ _
    rw [HIV.out]
    have:=HG.out
    rw [List.take_of_length_le (by omega)] at this
    exact this
   go_wp2
   go_end0
   exact HN.out.done rfl
  |succ g2=>
   have hm2:m<x.length:=by omega
   have hlt2:(m:Int)<(x.length:Int):=by omega
   obtain ⟨bp,op,rfl,hbp,hp1,hp2⟩:=jB (HSE.out _ HG.out.md) hm2
   obtain ⟨r1,r2,r3⟩:=Uw x true (0,0) HPK.out m hm2
   have HSN:Hid (L++zc x.length++zM true (0,0) (x.take (m+1))=L++zc x.length++zM true (0,0) (x.take m)++yn (flP true m) (Jy x (0,0) m) x[m]):=by show _=_;rw [Zs x true (0,0) m hm2,lg (L++zc x.length)]
   have HLN:Hid ((L++zc x.length++zM true (0,0) (x.take m)).length≤70368744177600):=by
    show _≤_
    have h1:=(Jl (x.take m) true (0,0)).2
    have h2:=HLM.out
    have h3:=zC x.length
    simp only [lc,lu] at h1⊢
    omega
   have HNX:Hid ((Jy x (0,0) (m+1)).1=x[m].1∧jE (flP true (m+1)) (Jy x (0,0) (m+1))=x[m].2):=by
    have e:Jy x (0,0) (m+1)=x[m]:=by
     unfold Jy
     rw [if_neg (by omega),Nat.add_sub_cancel,List.getD_eq_getElem?_getD,List.getElem?_eq_getElem hm2]
     rfl
    rw [e]
    exact ⟨rfl,rfl⟩
   have hqi:InI (Jy x (0,0) m).2:=by
    unfold Jy
    by_cases h9:m=0
    ·rw [if_pos h9];unfold InI;decide
    ·rw [if_neg h9,List.getD_eq_getElem?_getD,List.getElem?_eq_getElem (by omega)]
     exact (Uw x true (0,0) HPK.out (m - 1) (by omega)).2.2.2
   generalize L++zc x.length++zM true (0,0) (x.take m)=LL at*
   generalize x[m]=pr at*
   obtain ⟨p1,p2⟩:=pr
   generalize Jy x (0,0) m=qq at*
   generalize flP true m=fl at*
   dsimp only at r1 r2 r3 hp1 hp2 HX
   obtain ⟨d,hd⟩:∃z,z=p1 - qq.1:=⟨_,rfl⟩
   have HYY:=zhm (f:=fl) (q:=qq) (d:=d) (p2:=p2)
   rw [←hd,←HYY] at r2
   rw [←hd] at r1
   obtain ⟨least,hle⟩:∃z,z=Um (jE fl qq) d:=⟨_,rfl⟩
   rw [←hle] at r2 HYY
   have HSN2:Hid (L++zc x.length++zM true (0,0) (x.take (m+1))=LL++zc d.toNat++zc (p2 - least).toNat):=by
    show _=_
    rw [HSN.out,HYY,hd,lg]
    rfl
   have hov:d=0→ -9223372036854775808≤jE fl qq+1∧jE fl qq+1≤9223372036854775807:=fun h9=>by
    have e1:least=jE fl qq+1:=by rw [hle];exact if_pos h9
    have h8:=r3.2
    have h7: -9223372036854775808≤jE fl qq:=by unfold jE;unfold InI at hqi;split<;>omega
    unfold InI at h8
    omega
   have C4:=qH fun (l':List Nat) (b2:Nat) (W:World) (h:PV19 w q l' b1 b2 qq.1 (jE fl qq) p1 p2 W)=>(Uh W qq.1 (jE fl qq) d hov).mono (R':=fun e w'=>e= .returned (.int .i64 least)∧PV19 w q l' b1 b2 qq.1 (jE fl qq) p1 p2 w') (by
    rintro e W' ⟨rfl,hm⟩
    exact ⟨by rw [hle],h.below hm⟩)
   obtain ⟨q1,qz⟩:=qq
   dsimp only at*
   generalize jE fl (q1,qz)=q2 at*
   have hd':=hd.symm
   have hsub:IntKind.i64.wrap (p2 - least)=p2 - least:=by rw [IntKind.wrap_i64];omega
   clear hd HSN HYY hle hov hqi
   go_upto_region 5 with fail
   have HG3:=qH (HG.out.below ((ld wr.heap.size wr).alloc (la _) (.cells #[.int .i64 p1,.int .i64 p2] 55)))
   have HX3:=qH (HX.out.alloc (.cells #[.int .i64 p1,.int .i64 p2] 55))
   have HY3:=qH (Row.new wr 55 #[.int .i64 p1,.int .i64 p2])
   clear HG HX hp1 hp2
   generalize (wr.alloc (.cells #[.int .i64 p1,.int .i64 p2] 55))=W3 at*
   generalize wr.heap.size=b2 at*
   have x0:=HX3.out.k0;have x1:=HX3.out.k1
   have y0:=HY3.out.k0;have y1:=HY3.out.k1
   obtain ⟨v3,hv3⟩:=HG3.out.wr
   have C2:=qH (Y4 hv3 d (by omega) (by omega) (by have:=HLN.out;omega) (la _))
   clear hv3
   go_wp2_with fail
   refine C2.out.mono ?_
   rintro e W4 ⟨⟨rfl,hw,hmm⟩,hkp⟩
   have HV4:Hid (PV19 w q (LL++zc d.toNat) b1 b2 q1 q2 p1 p2 W4):=⟨HG3.out.next hw hmm hkp,hkp.ty _ _ _ HX3.out (by decide) (by decide),hkp.ty _ _ _ HY3.out (by decide) (by decide)⟩
   clear hw hmm hkp C2 HG3 HX3 HY3 x0 x1 y0 y1
   go_upto_region 7 with fail
   go_cut [] from 17 (fun wx=>∃W5,W5=wx∧Hid (PV19 w q (LL++zc d.toNat++zc (p2 - least).toNat) b1 b2 q1 q2 p1 p2 W5))
   case first=>
    have C5:Hid (∀W,PV19 w q (LL++zc d.toNat) b1 b2 q1 q2 p1 p2 W→Calls Tryz.prog 100 #[.pointer (some ⟨q,0,none⟩),.int .u64 (p2 - least)] W fun e w'=>e= .returned (.tuple #[])∧PV19 w q (LL++zc d.toNat++zc (p2 - least).toNat) b1 b2 q1 q2 p1 p2 w'):=fun W h=>by
     obtain ⟨v5,hv5⟩:=h.g.wr
     refine (Y4 hv5 (p2 - least) (by omega) (by omega) (by have:=HLN.out;have:=zC d.toNat;rw [lc];omega) (la _)).mono ?_
     rintro e W' ⟨⟨rfl,hw,hmm⟩,hkp⟩
     exact ⟨rfl,h.g.next hw hmm hkp,hkp.ty _ _ _ h.x (by decide) (by decide),hkp.ty _ _ _ h.y (by decide) (by decide)⟩
    have hG:=HV4.out
    obtain ⟨y1,x0,x1⟩:=hG.cells
    clear HV4
    have hu:IntKind.u64.wrap (p2 - least)=p2 - least:=Zr (by omega)
    go_region_held3 (fun w'=>w'.cell? ⟨b2,1,none⟩=some (.int .i64 p2)∧w'.cell? ⟨b1,0,none⟩=some (.int .i64 q1)∧w'.cell? ⟨b1,1,none⟩=some (.int .i64 q2)) (first|exact hG.cells|exact hG.drew.cells|exact (hG.drewN _).cells) (first
     |(go_at_call 133;go_must ((with_reducible refine (C4.out _ _ _ (by first|exact hG|exact hG.drew|exact hG.drewN _)).mono ?_);rintro e Wa ⟨rfl,hG⟩))
     |(go_at_call 100;go_must ((with_reducible refine (C5.out _ (by first|exact hG|exact hG.drew|exact hG.drewN _)).mono ?_);rintro e Wa ⟨rfl,hG⟩)))
    all_goals
     go_wp2_with fail
     go_meet
     case rel=>exact ⟨_,rfl,by first|exact hG|exact hG.drew|exact hG.drewN _⟩
   case rest=>
    obtain ⟨W5,hW5,HV5⟩:=hcut
    subst hW5
    have x0:=HV5.out.x.k0;have x1:=HV5.out.x.k1
    have xf0:=HV5.out.x.frozen 0;have xf1:=HV5.out.x.frozen 1
    have y0:=HV5.out.y.k0;have y1:=HV5.out.y.k1
    go_upto_region 9 with fail
    have hmx:Mods (Is b1) W5 ((W5.setCell ⟨b1,0,none⟩ (.int .i64 p1)).setCell ⟨b1,1,none⟩ (.int .i64 p2)):=((Mods.refl _ _).put 0 _).put 1 _
    have HG6:=qH (HV5.out.g.box HV5.out.x (by decide) (by decide) HZ3.out hqw hmx)
    have HX6:Hid (Row ((W5.setCell ⟨b1,0,none⟩ (.int .i64 p1)).setCell ⟨b1,1,none⟩ (.int .i64 p2)) b1 55 #[.int .i64 p1,.int .i64 p2]):=(HV5.out.x.put 0 _).put 1 _
    rw [←HSN2.out] at HG6
    clear hmx x0 x1 y0 y1 xf0 xf1 HV4 HV5
    generalize ((W5.setCell ⟨b1,0,none⟩ (.int .i64 p1)).setCell ⟨b1,1,none⟩ (.int .i64 p2))=W6 at*
    go_wp2
    go_roundg g2
    case measure=>omega
    case rel=>exact ⟨m+1,by omega,by go_num,HG6,by rw [HNX.out.1,HNX.out.2];exact HX6.out⟩
theorem zfO{w:World}{q hi:Nat}{v:Value}{l:List Nat}(h:Wri w q hi v l)(hm:l.length+200000000≤70368744177664)(hhi:hi≤w.heap.size){xs:List (List Pr)}{A:Option Addr}{c:Nat}(hs:SeesPP w q A xs)(hx:xs.length≤1000)(hl:∀x∈xs,x.length≤1000)(hp:∀x∈xs,U9 true (0,0) x):
  Calls Tryz.prog 43 #[.pointer (some ⟨q,0,none⟩),.slice A xs.length c] w (WroteK w q (l++zp xs)):=by
 have HG:Hid (GPS w q l w):=GPS.new h hhi
 have hqw:q<w.heap.size:=h.row.lt
 have HS:=qH hs
 have HL:=qH hl
 have HP:=qH hp
 have HQ:Hid (∀W,Mods (Zt q) w W→Below q w W):=fun W hm=>hm.below (Nat.le_of_lt hqw) fun k hk=>hk
 have HT:Hid (∀k,(zp (xs.take k)).length≤100000000):=fun k=>by
  have h1:=(JK (xs.take k)).2
  have h2:=ZT (w:=xs.take k) (m:=1000) fun l h=>HL.out l (List.mem_of_mem_take h)
  rw [lu] at h1 h2
  have h3:min k xs.length*1000≤1000*1000:=Nat.mul_le_mul_right _ (by omega)
  omega
 clear h hhi hs hl hp
 go_enter Tryz.func43,Tryz.ntmps43
 go_wp2
 go_loopg [8] xs.length (fun g v8 wr=>∃k:Nat,k+g=xs.length∧v8= .int .i64 k∧Hid (GPS w q (l++zp (xs.take k)) wr))
 case atStart=>exact ⟨0,by omega,rfl,by rw [List.take_zero];show GPS w q (l++ []) w;rw [lA];exact HG.out⟩
 case round=>
  clear HG
  obtain ⟨k,hkg,rfl,HG⟩:=hrel
  cases gk with
  |zero=>
   have hlt:¬(k:Int)<(xs.length:Int):=by omega
   have HJ:Hid (zp (xs.take k)=zp xs):=by show _=_;rw [List.take_of_length_le (by omega)]
   go_wp2
   go_end0
   exact HG.out.done (by rw [HJ.out])
  |succ g=>
   have hk:k<xs.length:=by omega
   have hlt:(k:Int)<(xs.length:Int):=by omega
   have HSK:∃b o Ai ci,A=some ⟨b,o,none⟩∧b<q∧xs[k].length≤ci∧ci≤maxLen∧Hid (∀W,Mods (Zt q) w W→W.cell? ⟨b,o+k,none⟩=some (.slice Ai xs[k].length ci)∧Sees W q Ai (prs xs[k])):=by
    obtain ⟨b,o,Ai,ci,e,h0,h1,h2,h3,h4⟩:=HS.out.at_ hk
    exact ⟨b,o,Ai,ci,e,h0,h2,h3,fun W h=>⟨((HQ.out _ h).cell (p:=⟨b,o+k,none⟩) h0).trans h1,h4.below (HQ.out _ h)⟩⟩
   have HLK:Hid (xs[k].length≤1000):=HL.out _ (List.getElem_mem hk)
   have HPK:Hid (U9 true (0,0) xs[k]):=HP.out _ (List.getElem_mem hk)
   have HSU:Hid (l++zp (xs.take (k+1))=l++zp (xs.take k)++jc xs[k]):=by
    show _=_
    have h9:zp (xs.take (k+1))=zp (xs.take k)++jc xs[k]:=jh jc xs k hk
    rw [h9,lg]
   have HTK:Hid ((l++zp (xs.take k)).length+30000≤70368744177664):=by show _≤_;rw [lc];have:=HT.out k;omega
   generalize xs[k]=x at*
   generalize l++zp (xs.take k)=L at*
   obtain ⟨b,o,Ai,ci,rfl,hbB,hci,hcm,HSE⟩:=HSK
   obtain ⟨hcell,hsee⟩:=HSE.out _ HG.out.md
   obtain ⟨v0,hv0⟩:=HG.out.wr
   have C1:=qH (zfN hv0 HTK.out (la _) hsee HLK.out hci hcm HPK.out)
   rw [←HSU.out] at C1
   clear hsee hv0
   unfold maxLen at hcm
   go_wp2_with fail
   refine C1.out.mono ?_
   rintro e W1 ⟨⟨rfl,hw,hmm⟩,hkp⟩
   have HG1:=qH (HG.out.next hw hmm hkp)
   clear hw hmm hkp C1 HG hcell
   go_wp2
   go_roundg g
   case measure=>omega
   case rel=>exact ⟨k+1,by omega,by go_num,HG1.out⟩
end Go.Proofs.YtnifhpbgmjcndaaGreat
