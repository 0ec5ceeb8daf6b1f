import Derived.Test.YtnifhpbgmjcndaaGreatPk2
import Derived.Lib.BitFns
import Derived.Lib.ItoaNum
set_option linter.unusedVariables false
set_option linter.unusedSimpArgs false
set_option maxRecDepth 100000
set_option maxHeartbeats 2000000
namespace Go.Proofs.YtnifhpbgmjcndaaGreat
open Go.RowKit
def Flds(w:World)(B:Nat)(A:Option Addr)(fs:List Fld):Prop:=Sees w B A (fs.flatMap Fld.cells)
theorem Flds.at_{w:World}{B:Nat}{A:Option Addr}{fs:List Fld}(h:Flds w B A fs){k:Nat}(hk:k<fs.length):
  ∃b o,A=some ⟨b,o,none⟩∧b<B∧w.cell? ⟨b,o+k*2,none⟩=some (.bool fs[k].1)∧w.cell? ⟨b,o+k*2+1,none⟩=some (.int .i64 fs[k].2):=by
 have hg:=JZ Fld.cells 2 (fun _=>rfl) fs k fs[k] (List.getElem?_eq_getElem hk)
 have h0:=hg 0 _ rfl
 have h1:=hg 1 _ rfl
 obtain ⟨b,o,e,hb,hc⟩:=h (by intro e;rw [e] at h0;cases h0)
 exact ⟨b,o,e,hb,hc _ _ h0,by rw [Nat.add_assoc];exact hc _ _ h1⟩
theorem Flds.below{w w':World}{B:Nat}{A:Option Addr}{fs:List Fld}(h:Flds w B A fs)(hb:Below B w w'):Flds w' B A fs:=Sees.below h hb
theorem Flds.more{w:World}{B B':Nat}{A:Option Addr}{fs:List Fld}(h:Flds w B A fs)(hB:B≤B'):Flds w B' A fs:=Sees.more h hB
theorem Zw(B:Nat)(A:Option Addr)(fs:List Fld)(c:Nat)(n:Int)(w:World)(hs:Flds w B A fs)(hB:B≤w.heap.size)(hm:fs.length≤1000):
  Calls Tryz.prog 187 #[.int .i64 n,.slice A fs.length c] w fun e w'=>e= .returned (.bool (okR n fs))∧Below w.heap.size w w':=by
 go_enter Tryz.func187,Tryz.ntmps187
 go_wp2
 go_loopw [9] (fun i wr=>∃k:Nat,k≤fs.length∧i= .int .i64 k∧Hid (okR n fs=okR n (fs.drop k))∧Hid (Below w.heap.size w wr)) (fun i _=>fs.length - (intOf i).toNat)
 case atStart=>exact ⟨0,lF _,rfl,rfl,ld _ _⟩
 case round=>
  obtain ⟨k,hk,rfl,HT,HB⟩:=hrel
  by_cases hlt:k<fs.length
  ·obtain ⟨b,o,rfl,hb,hc0,hc1⟩:=((hs.more hB).below HB.out).at_ hlt
   have HS:=qH (HT.out.trans (zeE n fs k hlt))
   have HB2:=qH (HB.out.alloc HB.out.size (.cells #[.bool fs[k].1,.int .i64 fs[k].2] 242))
   clear HT HB hs
   obtain ⟨rest,hr⟩:∃z,okR n (fs.drop (k+1))=z:=⟨_,rfl⟩
   rw [hr] at HS
   have HR:=qH hr
   clear hr
   generalize fs[k]=p at*
   obtain ⟨u,v⟩:=p
   dsimp only at hc0 hc1 HB2
   cases u
   ·go_wp2
    go_roundw
    case rel=>exact ⟨k+1,by omega,by go_num,by have:=HS.out;simpa [fR,Hid,HR.out] using this,HB2.out⟩
    case measure=>simp [intOf];omega
   ·by_cases h0:v<0
    ·go_wp2
     go_ret
     exact ⟨by rw [HS.out];simp [fR,h0],HB2.out⟩
    ·by_cases h1:n≤v
     ·go_wp2
      go_ret
      exact ⟨by rw [HS.out];simp [fR,h1],HB2.out⟩
     ·go_wp2
      go_roundw
      case rel=>exact ⟨k+1,by omega,by go_num,by have:=HS.out;simpa [fR,h0,h1,Hid,HR.out] using this,HB2.out⟩
      case measure=>simp [intOf];omega
  ·obtain rfl:k=fs.length:=by omega
   rw [List.drop_length] at HT
   go_wp2
   go_ret
   exact ⟨by rw [HT.out];rfl,HB.out⟩
theorem UH(B:Nat)(A:Option Addr)(fs:List Fld)(c:Nat)(w:World)(hs:Flds w B A fs)(hB:B≤w.heap.size)(hm:fs.length≤1000):
  Calls Tryz.prog 188 #[.slice A fs.length c] w fun e w'=>e= .returned (.bool (okZ fs))∧Below w.heap.size w w':=by
 go_enter Tryz.func188,Tryz.ntmps188
 go_wp2
 go_loopw [7] (fun i wr=>∃k:Nat,k≤fs.length∧i= .int .i64 k∧Hid (okZ fs=okZ (fs.drop k))∧Hid (Below w.heap.size w wr)) (fun i _=>fs.length - (intOf i).toNat)
 case atStart=>exact ⟨0,lF _,rfl,rfl,ld _ _⟩
 case round=>
  obtain ⟨k,hk,rfl,HT,HB⟩:=hrel
  by_cases hlt:k<fs.length
  ·obtain ⟨b,o,rfl,hb,hc0,hc1⟩:=((hs.more hB).below HB.out).at_ hlt
   have HS:=qH (HT.out.trans (zeF fs k hlt))
   have HB2:=qH (HB.out.alloc HB.out.size (.cells #[.bool fs[k].1,.int .i64 fs[k].2] 242))
   clear HT HB hs
   obtain ⟨rest,hr⟩:∃z,okZ (fs.drop (k+1))=z:=⟨_,rfl⟩
   rw [hr] at HS
   have HR:=qH hr
   clear hr
   generalize fs[k]=p at*
   obtain ⟨u,v⟩:=p
   dsimp only at hc0 hc1 HB2
   cases u
   ·by_cases h0:v=0
    ·have e0:(v !=0)=false:=by simp [h0]
     have H0:=qH h0
     clear h0
     go_wp2
     go_roundw
     case rel=>exact ⟨k+1,by omega,by go_num,by have:=HS.out;simpa [fZ,H0.out,Hid,HR.out] using this,HB2.out⟩
     case measure=>simp [intOf];omega
    ·have e0:(v !=0)=true:=by simp [h0]
     go_wp2
     go_ret
     exact ⟨by rw [HS.out];simp [fZ,h0],HB2.out⟩
   ·go_wp2
    go_roundw
    case rel=>exact ⟨k+1,by omega,by go_num,by have:=HS.out;simpa [fZ,Hid,HR.out] using this,HB2.out⟩
    case measure=>simp [intOf];omega
  ·obtain rfl:k=fs.length:=by omega
   rw [List.drop_length] at HT
   go_wp2
   go_ret
   exact ⟨by rw [HT.out];rfl,HB.out⟩
theorem J3{W:World}{p:Nat}(hp:W.heap.size=p)(cs:Array Value)(t:TypeId){xs:List Value}(hx:xs=cs.toList):Sees (W.alloc (.cells cs t)) (p+1) (some ⟨p,0,none⟩) xs:=by
 subst hp
 subst hx
 exact yI W cs t
theorem Row.new'{W:World}{p:Nat}(hp:W.heap.size=p)(T:TypeId)(cs:Array Value):Row (W.alloc (.cells cs T)) p T cs:=by
 subst hp
 exact Row.new W T cs
theorem zhB{W1 W3:World}{s0 f0 f1 f2 f3 g:Array Value}{ts t:TypeId}(hb:Below ((((((W1.alloc (.cells s0 ts)).alloc (.cells f0 t)).alloc (.cells f1 t)).alloc (.cells f2 t)).alloc (.cells f3 t)).alloc (.cells g t)).heap.size ((((((W1.alloc (.cells s0 ts)).alloc (.cells f0 t)).alloc (.cells f1 t)).alloc (.cells f2 t)).alloc (.cells f3 t)).alloc (.cells g t)) W3):
  (∀i,W3.cell? ⟨W1.heap.size+1,i,none⟩=f0[i]?)∧(∀i,W3.cell? ⟨W1.heap.size+1+1,i,none⟩=f1[i]?)∧(∀i,W3.cell? ⟨W1.heap.size+1+1+1,i,none⟩=f2[i]?)∧(∀i,W3.cell? ⟨W1.heap.size+1+1+1+1,i,none⟩=f3[i]?)∧Below W1.heap.size W1 W3:=by
 have r0:=(((((Row.new' (W:=W1.alloc (.cells s0 ts)) (p:=W1.heap.size+1) (by simp) t f0).alloc (.cells f1 t)).alloc (.cells f2 t)).alloc (.cells f3 t)).alloc (.cells g t)).below hb (by simp)
 have r1:=((((Row.new' (W:=(W1.alloc (.cells s0 ts)).alloc (.cells f0 t)) (p:=W1.heap.size+1+1) (by simp) t f1).alloc (.cells f2 t)).alloc (.cells f3 t)).alloc (.cells g t)).below hb (by simp)
 have r2:=(((Row.new' (W:=((W1.alloc (.cells s0 ts)).alloc (.cells f0 t)).alloc (.cells f1 t)) (p:=W1.heap.size+1+1+1) (by simp) t f2).alloc (.cells f3 t)).alloc (.cells g t)).below hb (by simp)
 have r3:=((Row.new' (W:=(((W1.alloc (.cells s0 ts)).alloc (.cells f0 t)).alloc (.cells f1 t)).alloc (.cells f2 t)) (p:=W1.heap.size+1+1+1+1) (by simp) t f3).alloc (.cells g t)).below hb (by simp)
 refine ⟨r0.cell,r1.cell,r2.cell,r3.cell,?_⟩
 have h0:=((((((ld W1.heap.size W1).alloc (la _) (.cells s0 ts)).alloc (by simp) (.cells f0 t)).alloc (by simp;omega) (.cells f1 t)).alloc (by simp;omega) (.cells f2 t)).alloc (by simp;omega) (.cells f3 t)).alloc (by simp;omega) (.cells g t)
 exact h0.trans (hb.mono h0.size)
theorem Qi(x:In)(regs:Int)(w:World):
  Calls Tryz.prog 179 #[.agg #[.int .i64 x.op,.int .i64 x.d,.int .i64 x.a,.int .i64 x.b,.int .i64 x.imm],.int .i64 regs] w fun e w'=>e= .returned (.int .i64 (eI x regs))∧Below w.heap.size w w':=by
 have hbox:=Row.new w 125 #[.int .i64 x.op,.int .i64 x.d,.int .i64 x.a,.int .i64 x.b,.int .i64 x.imm]
 have HB:=qH ((ld w.heap.size w).alloc (la _) (.cells #[.int .i64 x.op,.int .i64 x.d,.int .i64 x.a,.int .i64 x.b,.int .i64 x.imm] 125))
 cases hO:Ui x.op
 ·have HE:Hid (eI x regs=8):=by rw [Hid,eI,hO];rfl
  have HO:=qH hO
  clear hO hbox
  go_enter Tryz.func179,Tryz.ntmps179
  go_wp2_with fail
  refine (Yb x.op false _ HO.out).mono ?_
  rintro e w' ⟨rfl,rfl⟩
  go_wp2
  go_ret
  exact ⟨by rw [HE.out];rfl,HB.out⟩
 ·have HO:=qH hO
  have HE:Hid (eI x regs=if okR regs x.regF then if okZ x.allF then 0 else 12 else 9):=by rw [Hid,eI,hO];rfl
  obtain ⟨d,hd⟩:∃z,uD x.op=z:=⟨_,rfl⟩
  obtain ⟨a,ha⟩:∃z,uA x.op=z:=⟨_,rfl⟩
  obtain ⟨b,hb⟩:∃z,uB x.op=z:=⟨_,rfl⟩
  obtain ⟨i,hi⟩:∃z,uI x.op=z:=⟨_,rfl⟩
  have HR:Hid (x.regF= [(d,x.d),(a,x.a),(b,x.b)]):=by rw [Hid,In.regF,hd,ha,hb]
  have HZ:Hid (x.allF= [(d,x.d),(a,x.a),(b,x.b),(i,x.imm)]):=by rw [Hid,In.allF,hd,ha,hb,hi]
  have HF:=qH fun W=>zhy x.op d a b i (uO x.op) W hd ha hb hi rfl
  clear hO hd ha hb hi
  go_enter Tryz.func179,Tryz.ntmps179
  go_wp2_with fail
  refine (Yb x.op true _ HO.out).mono ?_
  rintro e w' ⟨rfl,rfl⟩
  go_wp2_with fail
  refine (HF.out _).mono ?_
  rintro e W1 ⟨rfl,hb1⟩
  have hr1:=hbox.below hb1 hbox.lt
  have HB1:=qH (HB.out.trans (hb1.mono HB.out.size))
  have hl1:w.heap.size<W1.heap.size:=hr1.lt
  have hl2:w.heap.size<W1.heap.size+1:=by omega
  have hl3:w.heap.size<W1.heap.size+1+1:=by omega
  have hl4:w.heap.size<W1.heap.size+1+1+1:=by omega
  have hl5:w.heap.size<W1.heap.size+1+1+1+1:=by omega
  have c0:=hr1.k0;have c1:=hr1.k1;have c2:=hr1.k2;have c3:=hr1.k3;have c4:=hr1.k4
  have H1:=qH hr1
  clear hr1 hb1 hbox
  go_wp2_with fail
  refine (Zw (W1.heap.size+1+1+1+1+1+1) _ [(d,x.d),(a,x.a),(b,x.b)] 3 regs _ ?s1 ?s2 ?s3).mono ?_
  case s1=>exact J3 (by simp) _ _ rfl
  case s2=>simp
  case s3=>simp
  rintro e W3 ⟨rfl,hb3⟩
  obtain ⟨q0,q1,q2,q3,hb⟩:=zhB hb3
  have HB3:=qH (HB1.out.trans (hb.mono HB1.out.size))
  have c0:=q0 0;have c1:=q0 1;have c2:=q1 0;have c3:=q1 1;have c4:=q2 0;have c5:=q2 1;have c6:=q3 0;have c7:=q3 1
  simp only [ln,lk,lm] at c0 c1 c2 c3 c4 c5 c6 c7
  clear q0 q1 q2 q3 hb hb3 hl1 hl2 hl3 hl4 hl5
  rw [←HR.out]
  cases hok:okR regs x.regF
  ·have HE2:Hid (eI x regs=9):=by rw [Hid,HE.out,hok];rfl
   clear hok
   go_wp2
   go_ret
   exact ⟨by rw [HE2.out];rfl,HB3.out⟩
  ·have HE2:Hid (eI x regs=if okZ x.allF then 0 else 12):=by rw [Hid,HE.out,hok];rfl
   clear hok
   go_wp2_with fail
   refine (UH (W3.heap.size+1) _ [(d,x.d),(a,x.a),(b,x.b),(i,x.imm)] 4 _ ?s4 ?s5 ?s6).mono ?_
   case s4=>exact J3 rfl _ _ rfl
   case s5=>simp
   case s6=>simp
   rintro e W4 ⟨rfl,hb4⟩
   have hb5:=HB3.out.alloc HB3.out.size (.cells #[.bool d,.int .i64 x.d,.bool a,.int .i64 x.a,.bool b,.int .i64 x.b,.bool i,.int .i64 x.imm] 242)
   have HB4:=qH (hb5.trans (hb4.mono hb5.size))
   clear hb4 hb5
   rw [←HZ.out]
   cases hok:okZ x.allF
   ·have HE3:Hid (eI x regs=12):=by rw [Hid,HE2.out,hok];rfl
    clear hok
    go_wp2
    go_ret
    exact ⟨by rw [HE3.out];rfl,HB4.out⟩
   ·have HE3:Hid (eI x regs=0):=by rw [Hid,HE2.out,hok];rfl
    clear hok
    go_wp2
    go_ret
    exact ⟨by rw [HE3.out];rfl,HB4.out⟩
def Jh(xs:List Mi):List Value:=xs.flatMap Mi.cells
theorem QM(a b:List Mi):Jh (a++b)=Jh a++Jh b:=by simp [Jh]
theorem zdH(x:Mi):Jh [x]=x.cells:=by simp [Jh]
theorem QN(xs:List Mi):(Jh xs).length=xs.length*7:=by
 induction xs with
 |nil=>rfl
 |cons x r ih=>
  show (x.cells++Jh r).length=_
  rw [lc,ih,lp]
  show 7+r.length*7=_
  omega
theorem MisAt.of_own{W:World}{base:Nat}{T:TypeId}{A:Option Addr}{c:Nat}{xs:List Mi}(h:W.ownsRow base T 7 (.slice A xs.length c) xs.length (Jh xs))(hok:∀x∈xs,x.Ok):MisAt W W.heap.size A xs:=fun hn=>by
 have h0:Jh xs≠ []:=fun e=>by
  have:=congrArg List.length e
  rw [QN] at this
  exact hn (List.eq_nil_of_length_eq_zero (by simp at this;omega))
 obtain ⟨b,o,e,hb,hc⟩:=J8 h h0
 refine ⟨b,o,e,hb,fun i x hx=> ?_⟩
 have hg:=JZ Mi.cells 7 (fun _=>rfl) xs i x hx
 have g:=fun j u hu=>hc _ _ (hg j u hu)
 refine ⟨hok x (List.mem_of_getElem? hx),?_,?_,?_,?_,?_,?_,?_⟩
 ·exact g 0 _ rfl
 ·rw [Nat.add_assoc];exact g 1 _ rfl
 ·rw [Nat.add_assoc];exact g 2 _ rfl
 ·rw [Nat.add_assoc];exact g 3 _ rfl
 ·rw [Nat.add_assoc];exact g 4 _ rfl
 ·rw [Nat.add_assoc];exact g 5 _ rfl
 ·rw [Nat.add_assoc];exact g 6 _ rfl
theorem zbP(i:Nat)(h:i<Lib.len8tab.size):(Lib.len8tab[i]).toNat=Lib.bitLen i:=by
 have hi:i<256:=by rwa [Lib.len8tab_size] at h
 have e:=Lib.len8_eq ⟨i,hi⟩
 simp only [Lib.len8,Int.toNat_natCast,ByteArray.getElem?_lt' _ _ h,Option.getD_some] at e
 omega
theorem Zf{s d:Nat}{x y:Int}(h0:0≤x)(hx:x<18446744073709551616)(hd:d=2 ^ s)(hb:d≤x.toNat)(hy:y=x / d)(hy':y<256)
  {h:y.toNat<Lib.len8tab.size}:(s:Int)+((Lib.len8tab[y.toNat]).toNat:Int)=(Lib.bitLen x.toNat:Int):=by
 subst hd
 have e:=Lib.bitLen_shift s x.toNat hb (by omega)
 have hyn:y.toNat=x.toNat / 2 ^ s:=by
  subst hy
  obtain ⟨n,rfl⟩:=Int.eq_ofNat_of_zero_le h0
  rw [←Int.natCast_ediv,Int.toNat_natCast,Int.toNat_natCast]
 rw [zbP,hyn,e]
 omega
theorem zeL{x:Int}{h:x.toNat<Lib.len8tab.size}:((Lib.len8tab[x.toNat]).toNat:Int)=(Lib.bitLen x.toNat:Int):=by rw [zbP]
theorem Zx(i:Nat)(h:i<Lib.len8tab.size):(Lib.len8tab[i]).toNat≤8:=by
 have hi:i<256:=by rwa [Lib.len8tab_size] at h
 rw [zbP]
 exact Lib.bitLen_le8 ⟨i,hi⟩
theorem Jv{x:Int}(h0:0≤x)(h1:x≤1000):wrap64 x=x:=by unfold wrap64;omega
theorem JH{s n:Nat}(hs:s≤56)(hn:n≤8):wrap64 ((s:Int)+wrap64 (n:Int))=(s:Int)+n:=by
 rw [Jv (x:=(n:Int)) (by omega) (by omega),Jv (by omega) (by omega)]
theorem zdI{n:Nat}(hn:n≤8):wrap64 (wrap64 (n:Int))=n:=by
 rw [Jv (x:=(n:Int)) (by omega) (by omega),Jv (by omega) (by omega)]
theorem zdJ(x:Int)(w:World)(h0:0≤x)(h1:x≤18446744073709551615):
  Calls Tryz.prog 198 #[.int .u64 x] w fun e w'=>e= .returned (.int .i64 (Lib.bitLen x.toNat))∧w=w':=by
 have hsz:=Lib.len8tab_size
 go_enter Tryz.func198,Tryz.ntmps198
 go_wp2
 all_goals (go_ret;refine ⟨congrArg Ending.returned (congrArg (Value.int IntKind.i64) ?_),rfl⟩)
 all_goals first
  |exact (zdI (Zx _ _)).trans zeL
  |exact (JH (s:=56) (by decide) (Zx _ _)).trans (Zf (s:=56) (d:=72057594037927936) h0 (by omega) (by decide) (by omega) (by omega) (by omega))
  |exact (JH (s:=48) (by decide) (Zx _ _)).trans (Zf (s:=48) (d:=281474976710656) h0 (by omega) (by decide) (by omega) (by omega) (by omega))
  |exact (JH (s:=40) (by decide) (Zx _ _)).trans (Zf (s:=40) (d:=1099511627776) h0 (by omega) (by decide) (by omega) (by omega) (by omega))
  |exact (JH (s:=32) (by decide) (Zx _ _)).trans (Zf (s:=32) (d:=4294967296) h0 (by omega) (by decide) (by omega) (by omega) (by omega))
  |exact (JH (s:=24) (by decide) (Zx _ _)).trans (Zf (s:=24) (d:=16777216) h0 (by omega) (by decide) (by omega) (by omega) (by omega))
  |exact (JH (s:=16) (by decide) (Zx _ _)).trans (Zf (s:=16) (d:=65536) h0 (by omega) (by decide) (by omega) (by omega) (by omega))
  |exact (JH (s:=8) (by decide) (Zx _ _)).trans (Zf (s:=8) (d:=256) h0 (by omega) (by decide) (by omega) (by omega) (by omega))
def yc(v:Nat):Nat:=(zc v).length
theorem QO(x:Nat)(h:x≠0)(hx:x<2 ^ 64):2 ^ (Lib.bitLen x - 1)≤x∧x<2 ^ Lib.bitLen x∧1≤Lib.bitLen x:=by
 obtain ⟨a,b,c⟩:=Lib.bitLenAux_bounds 64 x hx h
 exact ⟨b,c,a⟩
theorem zbQ(v:Nat)(hv:v<18446744073709551616):(Lib.bitLen (v|||1)+6) / 7=yc v:=by
 have hlt:=zfZ v (by omega)
 have hge:=zf7 v
 have hpos:=yG v
 unfold yc
 generalize (zc v).length=m at hlt hge hpos
 have ho:v|||1=v / 2*2+1:=by
  have:=nat_join 1 (v / 2*2) 1 (by simp) (by decide)
  rw [←this]
  apply Nat.eq_of_testBit_eq
  intro i
  rw [Nat.testBit_or,Nat.testBit_or]
  cases i with
  |zero=>simp
  |succ i=>rw [Nat.testBit_succ,Nat.testBit_succ (x:=v / 2*2)];simp
 have hs:=QO (v|||1) (by omega) (by omega)
 generalize Lib.bitLen (v|||1)=n at hs
 obtain ⟨s1,s2,s3⟩:=hs
 rw [ho] at s1 s2
 have e7:(128:Nat) ^ m=2 ^ (7*m):=by rw [Nat.pow_mul]
 have h1:n - 1<7*m:=by
  apply (Nat.pow_lt_pow_iff_right (a:=2) (by decide)).1
  have he:2 ^ (7*m)%2=0:=by
   rw [show 7*m=(7*m - 1)+1 by omega,Nat.pow_succ]
   exact Nat.mul_mod_left _ _
  rw [←e7] at he⊢
  omega
 by_cases hm:m=1
 ·omega
 ·have h2:=hge.resolve_left hm
  have e8:(128:Nat) ^ (m - 1)=2 ^ (7*(m - 1)):=by rw [Nat.pow_mul]
  have h3:7*(m - 1)<n:=by
   apply (Nat.pow_lt_pow_iff_right (a:=2) (by decide)).1
   rw [←e8]
   omega
  omega
theorem zgd(v:Int)(w:World)(h0:0≤v)(h1:v≤18446744073709551615):
  Calls Tryz.prog 191 #[.int .u64 v] w fun e w'=>e= .returned (.int .i64 (yc v.toNat))∧w=w':=by
 obtain ⟨n,rfl⟩:=Int.eq_ofNat_of_zero_le h0
 have hl:=qH (zbQ n (by omega))
 have hor:bits .or .u64 (n:Int) 1=((n|||1:Nat):Int):=u64_or_nat n 1 (by omega) (by omega)
 have hb:n|||1<18446744073709551616:=Nat.or_lt_two_pow (n:=64) (by omega) (by decide)
 have hbl:Lib.bitLen (n|||1)≤64:=Lib.bitLen_le _ 64 (by omega) (by omega)
 go_enter Tryz.func191,Tryz.ntmps191
 go_wp2_with (go_at_call 198;refine (zdJ _ _ (by omega) (by omega)).mono ?_;rintro e w' ⟨rfl,rfl⟩)
 go_ret
 exact ⟨zai (by rw [Int.toNat_natCast,←hl.out];omega),rfl⟩
theorem Tryz.infoU8:(Tryz.prog.info? 5).map (fun i=>(i.zero,i.size,i.bytes))=some (some (.int .u8 0),1,1):=by kernel_rfl
def ups(v m k:Nat):List Nat:=(List.range m).map fun j=>if j<k then v / 128 ^ j%128+128 else 0
theorem j7(v m k:Nat):(ups v m k).length=m:=by simp [ups]
theorem ZU(v m k j:Nat)(h:j<m):(ups v m k)[j]?=some (if j<k then v / 128 ^ j%128+128 else 0):=by simp [ups,h]
theorem zeM(v m:Nat):bts (ups v m 0)=List.replicate m (.int .u8 0):=by
 apply List.ext_getElem?
 intro j
 rw [Un]
 by_cases h:j<m
 ·rw [ZU v m 0 j h]
  simp [h]
 ·rw [List.getElem?_eq_none (by rw [j7];omega)]
  simp [h]
theorem zcX(l:List Nat)(j x:Nat):(bts l).set j (.int .u8 (x:Int))=bts (l.set j x):=by simp [bts,List.map_set]
theorem zeN(v m k:Nat)(h:k<m):(ups v m k).set k (v / 128 ^ k%128+128)=ups v m (k+1):=by
 apply List.ext_getElem?
 intro j
 rw [List.getElem?_set]
 by_cases hj:j<m
 ·rw [ZU v m k j hj,ZU v m (k+1) j hj]
  by_cases e:k=j
  ·subst e
   simp [j7,h]
  ·rw [if_neg e]
   congr 1
   by_cases h2:j<k
   ·rw [if_pos h2,if_pos (by omega)]
   ·rw [if_neg h2,if_neg (by omega)]
 ·rw [List.getElem?_eq_none (l:=ups v m (k+1)) (by rw [j7];omega),if_neg (by omega),List.getElem?_eq_none (by rw [j7];omega)]
theorem zge(v m:Nat)(hv:v<128 ^ 10)(hm:m=(zc v).length):(ups v m m).set (m - 1) (v / 128 ^ (m - 1)%128)=zc v:=by
 have hp:=yG v
 apply List.ext_getElem?
 intro j
 rw [List.getElem?_set]
 by_cases hj:j<m
 ·rw [ZU v m m j hj,zeB v j hv (by omega),if_pos hj]
  by_cases e:m - 1=j
  ·subst e
   rw [if_pos rfl,if_pos (by rw [j7];omega),if_neg (by omega)]
   simp
  ·rw [if_neg e,if_pos (by omega)]
 ·rw [if_neg (by omega),List.getElem?_eq_none (by rw [j7];omega),List.getElem?_eq_none (by omega)]
theorem zbR(v:Nat)(hv:v<18446744073709551616):bits .or .u8 (bits .and .u64 (v:Int) 127%256) 128=((v%128+128:Nat):Int):=by
 have h1:bits .and .u64 (v:Int) 127=((v%128:Nat):Int):=by
  have:=u64_and_nat v 127 hv (by omega)
  rwa [nat_mask7] at this
 rw [h1,Int.emod_eq_of_lt (by omega) (by omega),u8_or128_right _ (by omega) (by omega)]
 omega
theorem zcY(v:Int)(w:World)(h0:0≤v)(h1:v≤18446744073709551615):
  Calls Tryz.prog 150 #[.int .u64 v] w fun e w'=>∃g,e= .returned (.slice (some ⟨g,0,none⟩) (yc v.toNat) (yc v.toNat))∧
   w'.ownsRow w.heap.size 5 1 (.slice (some ⟨g,0,none⟩) (yc v.toNat) (yc v.toNat)) (yc v.toNat) (bts (zc v.toNat))∧Below w.heap.size w w':=by
 obtain ⟨n,rfl⟩:=Int.eq_ofNat_of_zero_le h0
 have hl1:1≤yc n:=yG n
 have hl2:yc n≤10:=zC n
 obtain ⟨i0,hi,hz0,hz1,hz2⟩:=info_parts Tryz.infoU8
 go_enter Tryz.func150,Tryz.ntmps150
 go_wp2_with (first
  |(go_at_call 191;refine (zgd _ _ (by omega) (by omega)).mono ?_;rintro e w' ⟨rfl,rfl⟩;rw [Int.toNat_natCast])
  |(at_make;refine wpList_make_full _ rfl _ _ 22 rfl w.heap.size 5 i0 (.int .u8 0) 1 Tryz.underlying22 hi hz0 hz1 _ _ _ _ (yc n) rfl rfl rfl rfl ?b2 ?b3 (la _) ?_))
 case b2=>rw [hz2];omega
 case b3=>unfold maxLen;omega
 intro w1 hown hgr
 have hown0:w1.ownsRow w.heap.size 5 1 (.slice (some ⟨w.heap.size,0,none⟩) (yc n) (yc n)) (yc n) (bts (ups n (yc n) 0)):=by
  rw [zeM]
  have:=toList_madeCells_one (.int .u8 0) (yc n)
  rwa [this] at hown
 have hbel:Below w.heap.size w w1:=(ld _ _).grown hgr (la _) (fun _ h=>by cases h)
 clear hown hgr
 go_wp2
 go_loopw [0,10] (fun u i wr=>∃k:Nat,k≤yc n∧i= .int .i64 k∧u= .int .u64 (n / 128 ^ k:Nat)∧
   wr.ownsRow w.heap.size 5 1 (.slice (some ⟨w.heap.size,0,none⟩) (yc n) (yc n)) (yc n) (bts (ups n (yc n) k))∧Below w.heap.size w wr) (fun _ i _=>yc n - (intOf i).toNat)
 case atStart=>exact ⟨0,lF _,rfl,by simp,hown0,hbel⟩
 case round=>
  clear hown0 hbel
  obtain ⟨k,hk,rfl,rfl,hown,hbel⟩:=hrel
  by_cases hlt:k<yc n
  ·have hcell:∃u0,wr.cell? ⟨w.heap.size,k,none⟩=some u0:=⟨_,(hown.cellAt k (by omega)).trans (by rw [Un,ZU _ _ _ _ hlt];rfl)⟩
   obtain ⟨u0,hcell⟩:=hcell
   have hfr:=hown.frozenAt k
   have hst:=hown.stored k (.int .u8 ((n / 128 ^ k%128+128:Nat):Int))
   rw [zcX,zeN _ _ _ hlt] at hst
   have hdig:=zbR (n / 128 ^ k) (Nat.lt_of_le_of_lt (Nat.div_le_self _ _) (by omega))
   have hq:n / 128 ^ (k+1)=n / 128 ^ k / 128:=by rw [Nat.pow_succ,Nat.div_div_eq_div_mul]
   have hqb:n / 128 ^ k<18446744073709551616:=Nat.lt_of_le_of_lt (Nat.div_le_self _ _) (by omega)
   have HQ:=qH hq
   have HS:=qH hst
   clear hst hown hq
   generalize n / 128 ^ k=q at hdig HQ HS hqb
   have HD:=qH hdig
   clear hdig
   go_wp2
   go_roundw
   case rel=>
    rw [HD.out]
    exact ⟨k+1,by omega,by go_num,by rw [HQ.out];go_num,HS.out.1,hbel.setCell (p:=⟨w.heap.size,k,none⟩) (la _) _⟩
   case measure=>simp [intOf];omega
  ·have hke:k=yc n:=by omega
   have hcell:wr.cell? ⟨w.heap.size,yc n - 1,none⟩=some (.int .u8 ((n / 128 ^ (yc n - 1)%128+128:Nat):Int)):=
    (hown.cellAt (yc n - 1) (by omega)).trans (by rw [Un,ZU _ _ _ _ (by omega),if_pos (by omega)];rfl)
   have hfr:=hown.frozenAt (yc n - 1)
   have hst:=hown.stored (yc n - 1) (.int .u8 ((n / 128 ^ (yc n - 1)%128:Nat):Int))
   subst hke
   rw [zcX,zge n (yc n) (by omega) rfl] at hst
   have HS:=qH hst
   have hx:n / 128 ^ (yc n - 1)%128<128:=Nat.mod_lt _ (by omega)
   clear hst hown
   generalize n / 128 ^ (yc n - 1)%128=x at hcell HS hx
   go_wp2
   go_ret
   exact ⟨w.heap.size,rfl,HS.out.1,hbel.setCell (p:=⟨w.heap.size,yc n - 1,none⟩) (la _) _⟩
def PutAt(n:Nat)(d:List Nat)(v:Nat):Prop:=∃f,zc n=d++jl f v∧v<128 ^ (f+1)∧d.length+f=9
theorem PutAt.zero(n:Nat)(h:n<128 ^ 10):PutAt n [] n:=⟨9,rfl,h,rfl⟩
theorem PutAt.more{n v:Nat}{d:List Nat}(h:PutAt n d v)(hv:128≤v):PutAt n (d++ [v%128+128]) (v / 128):=by
 obtain ⟨f,h1,h2,h3⟩:=h
 cases f with
 |zero=>simp at h2;omega
 |succ f=>
  refine ⟨f,?_,by rw [Nat.pow_succ] at h2;omega,by simp;omega⟩
  rw [h1,jl,if_neg (by omega)]
  simp
theorem PutAt.last{n v:Nat}{d:List Nat}(h:PutAt n d v)(hv:v<128):zc n=d++ [v]:=by
 obtain ⟨f,h1,_,_⟩:=h
 rw [h1]
 cases f with
 |zero=>rfl
 |succ f=>rw [jl,if_pos hv]
theorem PutAt.len{n v:Nat}{d:List Nat}(h:PutAt n d v):d.length≤9:=by obtain ⟨f,_,_,h3⟩:=h;omega
theorem Zy(v:Int)(w:World)(h0:0≤v)(h1:v≤18446744073709551615):
  Calls Tryz.prog 151 #[.int .u64 v] w fun e w'=>∃g c,e= .returned (.slice (some ⟨g,0,none⟩) (yc v.toNat) c)∧
   w'.ownsRow w.heap.size 5 1 (.slice (some ⟨g,0,none⟩) (yc v.toNat) c) (yc v.toNat) (bts (zc v.toNat))∧Below w.heap.size w w':=by
 obtain ⟨n,rfl⟩:=Int.eq_ofNat_of_zero_le h0
 obtain ⟨i0,hi,hz0,hz1,hz2⟩:=info_parts Tryz.infoU8
 go_enter Tryz.func151,Tryz.ntmps151
 go_wp2
 go_loopw [0,3] (fun u o wr=>∃(d:List Nat) (v:Nat),u= .int .u64 v∧v<18446744073709551616∧PutAt n d v∧
   wr.ownsRow w.heap.size 5 1 o d.length (bts d)∧Below w.heap.size w wr) (fun u _ _=>(intOf u).toNat)
 case atStart=>exact ⟨[],n,rfl,by omega,PutAt.zero n (by omega),World.ownsRow_nil _ _ _ _,ld _ _⟩
 case round=>
  obtain ⟨d,v,rfl,hv,hat,hown,hbel⟩:=hrel
  have hdl:=hat.len
  have hsz:=hbel.size
  by_cases hge:128≤v
  ·have HA:=qH (hat.more hge)
   clear hat
   go_wp2_with (first
    |(at_builtin;refine wpList_append_own _ rfl _ _ 22 rfl w.heap.size 5 i0 (.int .u8 0) 1 1 Tryz.underlying22 hi hz0 hz1 hz2 rfl (by decide) _ _ _ rfl (hown.alloc _) ⟨wr.heap.size,0,none⟩ 1 1 (bts [v%128+128]) rfl rfl ?c1 (ye _) ?c3 ?c4 ?c5 ?_))
   case c1=>exact zcT (by omega)
   case c3=>unfold maxLen;omega
   case c4=>omega
   case c5=>simp;omega
   intro o' w1 hown1 hgr _
   have hown2:w1.ownsRow w.heap.size 5 1 o' (d++ [v%128+128]).length (bts (d++ [v%128+128])):=by
    rw [yx,lc]
    exact hown1
   have hb2:Below w.heap.size w w1:=(hbel.alloc hsz _).grown hgr (by simp;omega) (fun k hk=>(hown.lt k hk).1)
   clear hown1 hgr hown hbel
   go_wp2
   go_roundw
   case rel=>exact ⟨_,v / 128,by go_num,by omega,HA.out,hown2,hb2⟩
   case measure=>simp [intOf];omega
  ·have HE:=hat.last (by omega)
   clear hat
   go_wp2_with (first
    |(at_builtin;refine wpList_append_own _ rfl _ _ 22 rfl w.heap.size 5 i0 (.int .u8 0) 1 1 Tryz.underlying22 hi hz0 hz1 hz2 rfl (by decide) _ _ _ rfl (hown.alloc _) ⟨wr.heap.size,0,none⟩ 1 1 (bts [v]) rfl rfl ?c1 (ye _) ?c3 ?c4 ?c5 ?_))
   case c1=>exact zcT (by omega)
   case c3=>unfold maxLen;omega
   case c4=>omega
   case c5=>simp;omega
   intro o' w1 hown1 hgr _
   have hb2:Below w.heap.size w w1:=(hbel.alloc hsz _).grown hgr (by simp;omega) (fun k hk=>(hown.lt k hk).1)
   have hlen:yc n=d.length+1:=by unfold yc;rw [HE];simp
   rw [←yx,←HE,←hlen] at hown1
   clear hgr hown hbel
   have HL:=qH hlen
   clear hlen HE
   go_wp2
   go_ret
   have hpos:0<yc n:=by rw [HL.out];omega
   obtain ⟨g,c,rfl,_,_⟩:=hown1.form hpos
   exact ⟨g,c,rfl,hown1,hb2⟩
theorem zeO(n:Int)(w:World)(h:InI n):
  Calls Tryz.prog 156 #[.int .i64 n] w fun e w'=>e= .returned (.int .u64 (zz n))∧w=w':=by
 obtain ⟨h0,h1⟩:=h
 go_enter Tryz.func156,Tryz.ntmps156
 go_wp2
 all_goals go_ret
 ·exact ⟨zai (zgZ (by assumption)),rfl⟩
 ·exact ⟨zai (zg0 (by assumption)),rfl⟩
theorem zbS(u:Int)(w:World)(h:InU u):
  Calls Tryz.prog 176 #[.int .u64 u] w fun e w'=>e= .returned (.int .i64 (uz u))∧w=w':=by
 obtain ⟨h0,h1⟩:=h
 go_enter Tryz.func176,Tryz.ntmps176
 go_wp2
 all_goals go_ret
 ·exact ⟨zai (zf8 (by assumption)),rfl⟩
 ·exact ⟨zai (zg1 (by assumption)),rfl⟩
def Y8(l r:List Nat):Bool:=decide (l=r)
theorem Yc(l:List Nat):Y8 l l=true:=by simp [Y8]
theorem zdK{l r:List Nat}(h:l=r):Y8 l r=true:=by simp [Y8,h]
theorem zaw{l r:List Nat}(h:l≠r):Y8 l r=false:=by simp [Y8,h]
theorem zeP{l r:List Nat}(hl:l.length=r.length){k:Nat}(hk:l.length≤k)(h:l.take k=r.take k):l=r:=by
 rwa [List.take_of_length_le hk,List.take_of_length_le (by omega)] at h
theorem zdL{l r:List Nat}{k:Nat}(h:l.take k=r.take k)(hl:k<l.length)(hr:k<r.length)(he:l[k]=r[k]):l.take (k+1)=r.take (k+1):=by
 rw [List.take_succ_eq_append_getElem hl,List.take_succ_eq_append_getElem hr,h,he]
theorem zax(B:Nat)(A A':Option Addr)(l r:List Nat)(c c':Nat)(w:World)(hs:Sees w B A (bts l))(hs':Sees w B A' (bts r))(hm:l.length≤maxLen)(hm':r.length≤maxLen):
  Calls Tryz.prog 15 #[.slice A l.length c,.slice A' r.length c'] w fun e w'=>e= .returned (.bool (Y8 l r))∧∃n,w.drewN n=w':=by
 unfold maxLen at hm hm'
 by_cases hlen:l.length=r.length
 ·have e1:((l.length:Int) !=(r.length:Int))=false:=by simp [hlen]
  have HL:=qH hlen
  clear hlen
  go_enter Tryz.func15,Tryz.ntmps15
  go_wp2
  go_loopw [5] (fun i wr=>∃k n:Nat,k≤l.length∧i= .int .i64 k∧Hid (l.take k=r.take k)∧wr=w.drewN n) (fun i _=>l.length - (intOf i).toNat)
  case atStart=>exact ⟨0,0,lF _,rfl,by simp [Hid],rfl⟩
  case round=>
   obtain ⟨k,n,hk,rfl,HT,rfl⟩:=hrel
   by_cases hlt:k<l.length
   ·have hltr:k<r.length:=by have:=HL.out;omega
    obtain ⟨b,o,rfl,_,hc⟩:=hs (JU hlt)
    obtain ⟨b',o',rfl,_,hc'⟩:=hs' (JU hltr)
    have hcell:w.cell? ⟨b,o+k,none⟩=some (.int .u8 (l[k]:Int)):=hc k _ (by simp [bts,hlt])
    have hcell':w.cell? ⟨b',o'+k,none⟩=some (.int .u8 (r[k]:Int)):=hc' k _ (by simp [bts,hltr])
    have HS:=fun he=>zdL HT.out hlt hltr he
    have HN:l[k]≠r[k]→l≠r:=fun h e=>by subst e;exact h rfl
    clear hc hc' hs hs' HT
    generalize l[k]=x at hcell HS HN
    generalize r[k]=y at hcell' HS HN
    by_cases hxy:x=y
    ·have HS':=qH (HS hxy)
     subst hxy
     have e2:((x:Int) !=(x:Int))=false:=by simp
     clear HS HN
     go_wp2
     go_quiet (fail)
     go_wp2
     go_roundw
     case rel=>exact ⟨k+1,_,by omega,by go_num,HS'.out,rfl⟩
     case measure=>simp [intOf];omega
    ·have HE:=qH (zaw (HN hxy))
     have e2:((x:Int) !=(y:Int))=true:=by simp;omega
     clear HS HN hxy
     go_wp2
     go_quiet (fail)
     go_wp2
     go_ret
     exact ⟨by rw [HE.out];rfl,_,(World.drewN_drewN _ _ _).symm⟩
   ·have HE:=qH (zdK (zeP HL.out (by omega) HT.out))
    clear HT hs hs'
    go_wp2
    go_ret
    exact ⟨by rw [HE.out];rfl,_,rfl⟩
 ·have HE:=qH (zaw (l:=l) (r:=r) (fun e=>hlen (by rw [e])))
  have e1:((l.length:Int) !=(r.length:Int))=true:=by simp;omega
  clear hlen
  go_enter Tryz.func15,Tryz.ntmps15
  go_wp2
  go_ret
  exact ⟨by rw [HE.out];rfl,0,rfl⟩
theorem zcZ(l r:List Nat)(b:Bool)(n m:Nat)(B:Nat)(A A':Option Addr)(c c':Nat)(w:World)(he:Y8 l r=b)(hn:l.length=n)(hm:r.length=m)(hl:n≤maxLen)(hr:m≤maxLen)
  (hs:Sees w B A (bts l)) (hs':Sees w B A' (bts r)):
  Calls Tryz.prog 15 #[.slice A n c,.slice A' m c'] w fun e w'=>e= .returned (.bool b)∧∃n,w.drewN n=w':=by
 subst he
 subst hn
 subst hm
 exact zax B A A' l r c c' w hs hs' hl hr
theorem Tryz.infoU8c:(Tryz.prog.info? 5).map (fun i=>(i.zero,i.size,i.bytes))=some (some (.int .u8 0),1,1):=by kernel_rfl
structure BL(w0:World)(v:Value)(l:List Nat)(W:World):Prop where
 own:W.ownsRow w0.heap.size 5 1 v l.length (bts l)
 blw:Below w0.heap.size w0 W
theorem BL.next{w0 W W':World}{v:Value}{l:List Nat}(h:BL w0 v l W)(hb:Below W.heap.size W W'):BL w0 v l W':=
 ⟨(Mods.of_below (S:=No) hb).own h.own fun _ _ hs=>hs.elim,h.blw.trans (hb.mono h.blw.size)⟩
theorem BL.app{w0 W W':World}{v v':Value}{l r:List Nat}{n:Nat}(h:BL w0 v l W)(hn:n=l.length)(ho:W'.ownsRow w0.heap.size 5 1 v' (n+r.length) (bts l++bts r))(hg:W.grownBy W' v.ownBlock):BL w0 v' (l++r) W':=by
 subst hn
 refine ⟨by rw [yx,lc];exact ho,h.blw.grown hg h.blw.size fun k hk=> ?_⟩
 rcases h.own.2 with ⟨rfl,_⟩|⟨g,cap,cur,rfl,hg9,_⟩
 ·cases hk
 ·simp only [Value.ownBlock,Option.some.injEq] at hk
  omega
theorem jx{w0 W:World}{v:Value}{l:List Nat}(h:BL w0 v l W)(x:Int)(h0:0≤x)(h1:x≤9223372036854775807)(hl:l.length≤10000):
  Calls Tryz.prog 152 #[v,.int .i64 x] W fun e W'=>∃v',e= .returned v'∧BL w0 v' (l++zc x.toNat) W':=by
 obtain ⟨i0,hi,hz0,hz1,hz2⟩:=info_parts Tryz.infoU8c
 have C1:=qH (Zy x W h0 (by omega))
 have HL:=qH h
 have hp:=zC x.toNat
 clear h
 go_enter Tryz.func152,Tryz.ntmps152
 go_wp2_with fail
 refine C1.out.mono ?_
 rintro e W1 ⟨g,c,rfl,ho,hb⟩
 have HL1:=qH (HL.out.next hb)
 have hsee:=Sees.of_own ho
 have hlo:w0.heap.size≤W1.heap.size:=HL1.out.blw.size
 have HLS:Hid (yc x.toNat=(zc x.toNat).length):=rfl
 clear ho hb C1 HL
 have hown:=HL1.out.own
 go_wp2_with (at_builtin;refine zv _ rfl (.tmp 5) (.tmp 8) 22 rfl w0.heap.size 5 i0 (.int .u8 0) 1 Tryz.underlying22 hi hz0 hz1 hz2 rfl v l.length (bts l) rfl hown W1.heap.size _ _ _ (bts (zc x.toNat)) rfl hsee (zg _) (ye _) ?c1 ?c2 ?c3 ?_)
 case c1=>have h9:yc x.toNat=(zc x.toNat).length:=rfl;unfold maxLen;omega
 case c2=>have h9:yc x.toNat=(zc x.toNat).length:=rfl;omega
 case c3=>exact hlo
 intro v2 W2 ho2 hg2
 have HL2:=qH (HL1.out.app rfl ho2 hg2)
 clear ho2 hg2 hown hsee
 go_wp2
 go_ret
 exact ⟨v2,rfl,HL2.out⟩
end Go.Proofs.YtnifhpbgmjcndaaGreat
