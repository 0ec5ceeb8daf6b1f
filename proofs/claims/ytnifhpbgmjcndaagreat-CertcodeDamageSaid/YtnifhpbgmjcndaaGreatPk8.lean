import Derived.Test.YtnifhpbgmjcndaaGreatIcMach
import Derived.Test.YtnifhpbgmjcndaaGreatIcTerm
import Derived.Test.YtnifhpbgmjcndaaGreatSrcCopy
import Derived.Test.YtnifhpbgmjcndaaGreatMacCopy
import Derived.Test.YtnifhpbgmjcndaaGreatIcEnc
set_option linter.unusedVariables false
set_option linter.unusedSimpArgs false
set_option linter.unusedSectionVars false
set_option maxRecDepth 100000
set_option maxHeartbeats 2000000
namespace Go.Proofs.YtnifhpbgmjcndaaGreat
open Go.RowKit
theorem Yw{w:World}{lo n p sz:Nat}{e T:TypeId}{v:Value}{xs:List Value}{cs:Array Value}(h:w.ownsRow lo e sz v n xs)(hr:Row w p T cs)(hT:e≠T):∀k,v.ownBlock=some k→¬k=p:=by
 intro k hk e1
 subst e1
 rcases h.2 with ⟨rfl,_⟩|⟨a,cap,cur,rfl,_,h1,_⟩
 ·cases hk
 ·simp only [Value.ownBlock,Option.some.injEq] at hk
  subst hk
  unfold Row at hr
  rw [h1] at hr
  simp only [Option.some.injEq,Obj.cells.injEq] at hr
  exact hT hr.2.1
def KT(W W':World):Prop:=∀p T cs,5≠T→Row W p T cs→Row W' p T cs
section
variable {W W' W'' : World}
theorem KT.trans(h:KT W W')(h':KT W' W''):KT W W'':=fun p T cs hT hr=>h' p T cs hT (h p T cs hT hr)
theorem KT.of_below(hb:Below W.heap.size W W'):KT W W':=fun _ _ _ _ h=>h.below hb h.lt
theorem KT.grown{lo n:Nat}{v:Value}{xs:List Value}(ho:W.ownsRow lo 5 1 v n xs)(hg:W.grownBy W' v.ownBlock):KT W W':=fun p T cs hT hr=>by
 refine (hg.block p hr.lt fun e=> ?_).trans hr
 first|exact Yw ho hr hT p e rfl|exact Yw ho hr hT p e.symm rfl
end
theorem yV{w0 W:World}{v:Value}{l:List Nat}(h:BL w0 v l W)(x:Int)(h0:0≤x)(h1:x≤9223372036854775807)(hl:l.length≤1000000000000):
  Calls Tryz.prog 104 #[v,.int .i64 x] W fun e W'=>∃v',e= .returned v'∧BL w0 v' (l++zc x.toNat) W'∧KT W W':=by
 obtain ⟨i0,hi,hz0,hz1,hz2⟩:=info_parts Tryz.infoU8c
 have C1:=qH (ZB x W h0 (by omega))
 have HL:=qH h
 have hp:=zA x.toNat
 clear h
 go_enter Tryz.func104,Tryz.ntmps104
 go_wp2_with fail
 refine C1.out.mono ?_
 rintro e W1 ⟨g,c,rfl,ho,hb⟩
 have HL1:=qH (HL.out.next hb)
 have HK1:=qH (KT.of_below hb)
 have hsee:=Sees.of_own ho
 have hlo:w0.heap.size≤W1.heap.size:=HL1.out.blw.size
 have HLS:Hid (zQ x.toNat=(zc x.toNat).length):=rfl
 clear ho hb C1 HL
 have hown:=HL1.out.own
 go_wp2_with (at_builtin;refine zt _ rfl (.tmp 5) (.tmp 8) 22 rfl w0.heap.size 5 i0 (.int .u8 0) 1 Tryz.underlying22 hi hz0 hz1 hz2 rfl v l.length (bts l) rfl hown W1.heap.size _ _ _ (bts (zc x.toNat)) rfl hsee (zm _) (yh _) ?c1 ?c2 ?c3 ?_)
 case c1=>have h9:zQ x.toNat=(zc x.toNat).length:=rfl;unfold maxLen;omega
 case c2=>have h9:zQ x.toNat=(zc x.toNat).length:=rfl;omega
 case c3=>exact hlo
 intro v2 W2 ho2 hg2
 have HL2:=qH (HL1.out.app rfl ho2 hg2)
 have HK2:=qH (HK1.out.trans (KT.grown hown hg2))
 clear ho2 hg2 hown hsee
 go_wp2
 go_ret
 exact ⟨v2,rfl,HL2.out,HK2.out⟩
theorem yW{α:Type}(f:α→List Nat)(l:List α)(k:Nat)(hk:k<l.length):(l.take (k+1)).flatMap f=(l.take k).flatMap f++f l[k]:=by
 rw [List.take_succ_eq_append_getElem hk,List.flatMap_append,List.flatMap_cons,List.flatMap_nil,List.append_nil]
theorem Zi{α:Type}(f:α→List Nat)(l:List α)(k:Nat)(hk:k<l.length):((l.take k).flatMap f).length+(f l[k]).length≤(l.flatMap f).length:=by
 have h:=congrArg List.length (congrArg (List.flatMap f) (List.take_append_drop (k+1) l))
 rw [List.flatMap_append,yW f l k hk,List.length_append,List.length_append] at h
 omega
def PI(m:Mi):Prop:=(0≤m.op∧m.op<256)∧InI m.imm∧(uD m.op=true→0≤m.d∧m.d≤9223372036854775807)∧(uA m.op=true→0≤m.a∧m.a≤9223372036854775807)∧(uB m.op=true→0≤m.b∧m.b≤9223372036854775807)∧
 ((m.op==18)=true→0≤m.dst∧m.dst≤9223372036854775807)∧((m.op==18)=true→0≤m.src∧m.src≤9223372036854775807)
def PT(t:Tm):Prop:=(0≤t.kind∧t.kind<256)∧((t.kind !=1)=true→0≤t.a∧t.a≤9223372036854775807)∧((t.kind !=3)=true→0≤t.to∧t.to≤9223372036854775807)∧((t.kind==2)=true→0≤t.el∧t.el≤9223372036854775807)
def PB(x:Blk):Prop:=(∀y∈x.code,PI (inM y))∧PT x.term
def PMB(x:MBlk):Prop:=(∀y∈x.code,PI y)∧PT x.term
theorem zb3(w:World):BL w (.slice none 0 0) [] w:=⟨⟨rfl,.inl ⟨rfl,rfl⟩⟩,Below.refl _ _⟩
def Gt{α:Type}(r:α × Ip)(v:α)(p q:List Nat)(j:Nat):Prop:=
 (p.length≤j∧r=(v,⟨q.take (j - p.length),0⟩))∨(j<(p++q).length∧r.2.err=1)
theorem Gt.full{α:Type}{f:Ip→α × Ip}{v:α}{p q:List Nat}(h:Gt (f ⟨(p++q).take (p++q).length,0⟩) v p q (p++q).length):f ⟨p++q,0⟩=(v,⟨q,0⟩):=by
 rcases h with ⟨_,h⟩|⟨h,_⟩
 ·rw [List.take_length,List.length_append,Nat.add_sub_cancel_left,List.take_length] at h
  exact h
 ·omega
theorem Cuts.gt{f:Ip→Int × Ip}{p:List Nat}{v:Int}(h:Cuts f p v)(q:List Nat)(j:Nat):Gt (f ⟨(p++q).take j,0⟩) v p q j:=by
 rcases h.at_ q j with ⟨hj,e⟩|⟨hj,e⟩
 ·exact .inr ⟨by rw [List.length_append];omega,by rw [e]⟩
 ·exact .inl ⟨hj,e⟩
theorem J6{v:Int}(h0:0≤v)(h1:v≤1048576)(q:List Nat)(j:Nat):Gt (yo ⟨(zc v.toNat++q).take j,0⟩) v (zc v.toNat) q j:=
 (J4 (bd:=1048577) (why:=6) h0 (by omega) (by omega)).gt q j
theorem QU{k v:Int}(hk:0<k)(h0:0≤v)(h1:v≤1048576)(q:List Nat)(j:Nat)(hq:v*k≤(q.length:Int)):Gt (yC k ⟨(zc v.toNat++q).take j,0⟩) v (zc v.toNat) q j:=by
 rcases J6 h0 h1 q j with ⟨hj,e⟩|⟨hj,e⟩
 ·unfold yC
  rw [e]
  dsimp only
  by_cases hc:((q.take (j - (zc v.toNat).length)).length:Int) / k<v
  ·rw [if_pos ⟨rfl,hc⟩]
   refine .inr ⟨?_,rfl⟩
   rw [List.length_append]
   by_cases hh:(zc v.toNat).length+q.length≤j
   ·rw [List.take_of_length_le (by omega)] at hc
    have:=Int.lt_mul_of_ediv_lt hk hc
    omega
   ·omega
  ·rw [if_neg fun hh=>hc hh.2]
   exact .inl ⟨hj,rfl⟩
 ·refine .inr ⟨hj,?_⟩
  unfold yC
  rw [if_neg fun hh=>by rw [e] at hh;exact absurd hh.1 (by decide)]
  exact e
theorem zaM{v:Int}(h0:1≤v)(h1:v≤1048576)(q:List Nat)(j:Nat)(hq:v*3≤(q.length:Int)):Gt (yv ⟨(zc v.toNat++q).take j,0⟩) v (zc v.toNat) q j:=by
 rcases QU (k:=3) (by decide) (by omega) h1 q j hq with ⟨hj,e⟩|⟨hj,e⟩
 ·refine .inl ⟨hj,?_⟩
  unfold yv
  rw [e,if_neg (by dsimp only;omega)]
 ·refine .inr ⟨hj,?_⟩
  unfold yv
  split
  ·dsimp only
   rw [yU (by rw [e];decide)]
   exact e
  ·exact e
theorem zaN{tot v:Int}(h0:0≤v)(h1:tot+v≤1048576)(ht:0≤tot)(q:List Nat)(j:Nat)(hq:v*2≤(q.length:Int)):Gt (zW tot ⟨(zc v.toNat++q).take j,0⟩) v (zc v.toNat) q j:=by
 rcases QU (k:=2) (by decide) h0 (by omega) q j hq with ⟨hj,e⟩|⟨hj,e⟩
 ·refine .inl ⟨hj,?_⟩
  unfold zW
  rw [e,if_neg (by dsimp only;omega)]
 ·refine .inr ⟨hj,?_⟩
  unfold zW
  split
  ·dsimp only
   rw [yU (by rw [e];decide)]
   exact e
  ·exact e
theorem zb4{regs:Int}{m:Mi}(hd:m.dst=0)(hs:m.src=0)(h:eI m.ins regs=0)(hi:InI m.imm)(hr:regs≤1000000000){j:Nat}(hj:j<(zS m).length):zJ regs ⟨(zS m).take j,0⟩=(Mi0,⟨[],1⟩):=by
 obtain ⟨⟨h1,h2⟩,hm⟩:=(UL (n:=0) hd hs).1 h
 rw [Uq] at hj⊢
 rcases j with _|j
 ·rfl
 ·rw [List.take_succ_cons]
  unfold zJ
  rw [j9 h1 h2 (by omega),if_neg (by simp)]
  have hj:j<(Yu m).length:=by simpa using hj
  rcases Yv hm hi hr (by omega) [] j with ⟨g,e⟩|⟨g,_⟩
  ·rw [List.append_nil] at e
   exact e
  ·omega
theorem zdX{regs:Int}{m:Mi}(hd:m.dst=0)(hs:m.src=0)(h:eI m.ins regs=0)(hi:InI m.imm)(hr:regs≤1000000000)(q:List Nat)(j:Nat):Gt (zJ regs ⟨(zS m++q).take j,0⟩) m (zS m) q j:=by
 by_cases hj:j<(zS m).length
 ·refine .inr ⟨by rw [List.length_append];omega,?_⟩
  rw [List.take_append_of_le_length (by omega),zb4 hd hs h hi hr hj]
 ·refine .inl ⟨by omega,?_⟩
  rw [List.take_append,List.take_of_length_le (by omega)]
  exact zb1 hd hs h hi hr _
theorem ze4{regs n:Int}{m:Mi}(h:eM m regs n=0)(hi:InI m.imm)(hr:regs≤1000000000)(hn:n≤1000000000)(q:List Nat)(j:Nat):Gt (zB regs n ⟨(zS m++q).take j,0⟩) m (zS m) q j:=by
 by_cases hj:j<(zS m).length
 ·refine .inr ⟨by rw [List.length_append];omega,?_⟩
  rw [List.take_append_of_le_length (by omega),zdV h hi hr hn hj]
 ·refine .inl ⟨by omega,?_⟩
  rw [List.take_append,List.take_of_length_le (by omega)]
  exact zdU h hi hr hn _
theorem zaO{regs n:Int}{t:Tm}(h:eT t regs n=0)(hr:regs≤1000000000)(hn:n≤1000000000)(q:List Nat)(j:Nat):Gt (jc regs n ⟨(ye t++q).take j,0⟩) t (ye t) q j:=by
 by_cases hj:(ye t).length≤j
 ·refine .inl ⟨hj,?_⟩
  rw [List.take_append,List.take_of_length_le hj]
  exact zdW h hr hn _
 refine .inr ⟨by rw [List.length_append];omega,?_⟩
 rw [List.take_append_of_le_length (by omega)]
 obtain ⟨⟨k1,k2⟩,r1,r2,r3,z1,z2,z3⟩:=YS.1 h
 have C1:=js (why:=9) r1 z1 (by omega)
 have C2:=js (why:=11) r2 z2 (by omega)
 have C3:=js (why:=11) r3 z3 (by omega)
 have fin:∀s,(teE regs n s).2.err=1→(jc regs n s).2.err=1:=fun s hs=>by
  unfold jc
  rw [if_pos (by rw [hs];decide)]
  exact hs
 refine fin _ ?_
 rcases j with _|j
 ·have e0:tkE ⟨(ye t).take 0,0⟩=(0,⟨[],1⟩):=rfl
  have e1:taE regs ⟨(ye t).take 0,0⟩=(0,⟨[],1⟩):=by unfold taE;rw [e0];exact zZ (by decide)
  have e2:ttE regs n ⟨(ye t).take 0,0⟩=(0,⟨[],1⟩):=by unfold ttE;rw [e1];exact zZ (by decide)
  unfold teE
  rw [e2,zZ (by decide)]
 ·have hj':j<(zk (t.kind !=1) t.a++(zk (t.kind !=3) t.to++zk (t.kind==2) t.el)).length:=by
   unfold ye at hj
   rw [List.length_cons] at hj
   omega
  have e0:tkE ⟨(ye t).take (j+1),0⟩=(t.kind,⟨(zk (t.kind !=1) t.a++(zk (t.kind !=3) t.to++zk (t.kind==2) t.el)).take j,0⟩):=by
   unfold tkE ye
   rw [List.take_succ_cons,j9 k1 k2 (by omega)]
  rcases C1.at_ (zk (t.kind !=3) t.to++zk (t.kind==2) t.el) j with ⟨g1,e1⟩|⟨g1,e1⟩
  ·have e1':taE regs ⟨(ye t).take (j+1),0⟩=(0,⟨[],1⟩):=by unfold taE;rw [e0];exact e1
   have e2':ttE regs n ⟨(ye t).take (j+1),0⟩=(0,⟨[],1⟩):=by unfold ttE;rw [e1'];exact zZ (by decide)
   unfold teE
   rw [e2',zZ (by decide)]
  ·have e1':taE regs ⟨(ye t).take (j+1),0⟩=(t.a,⟨(zk (t.kind !=3) t.to++zk (t.kind==2) t.el).take (j - (zk (t.kind !=1) t.a).length),0⟩):=by unfold taE;rw [e0];exact e1
   rcases C2.at_ (zk (t.kind==2) t.el) (j - (zk (t.kind !=1) t.a).length) with ⟨g2,e2⟩|⟨g2,e2⟩
   ·have e2':ttE regs n ⟨(ye t).take (j+1),0⟩=(0,⟨[],1⟩):=by unfold ttE;rw [e1',e0];exact e2
    unfold teE
    rw [e2',zZ (by decide)]
   ·have e2':ttE regs n ⟨(ye t).take (j+1),0⟩=(t.to,⟨(zk (t.kind==2) t.el).take (j - (zk (t.kind !=1) t.a).length - (zk (t.kind !=3) t.to).length),0⟩):=by unfold ttE;rw [e1',e0];exact e2
    have h3:j - (zk (t.kind !=1) t.a).length - (zk (t.kind !=3) t.to).length<(zk (t.kind==2) t.el).length:=by
     rw [List.length_append,List.length_append] at hj'
     omega
    have e3:=C3.cut _ h3
    unfold teE
    rw [e2',e0]
    show (jR (t.kind==2) n 11 _).2.err=1
    rw [e3]
theorem zaP{m:Mi}(h:1≤m.op∧m.op≤18):2≤(zS m).length:=by
 rcases (by omega:m.op≤16∨m.op=17∨m.op=18) with h1|h1|h1
 ·have hd:uD m.op=true:=decide_eq_true ⟨h.1,h1⟩
  have:=yy m.d.toNat
  unfold zS
  rw [hd]
  simp only [List.length_cons,List.length_append,zk,if_true]
  omega
 ·have hd:uA m.op=true:=decide_eq_true ⟨by omega,by omega⟩
  have:=yy m.a.toNat
  unfold zS
  rw [hd]
  simp only [List.length_cons,List.length_append,zk,if_true]
  omega
 ·have hd:(m.op==18)=true:=by rw [h1];rfl
  have:=yy m.dst.toNat
  unfold zS
  rw [hd]
  simp only [List.length_cons,List.length_append,zk,if_true]
  omega
theorem zaQ{t:Tm}(h:1≤t.kind∧t.kind≤3):2≤(ye t).length:=by
 by_cases h1:t.kind=1
 ·have hd:(t.kind !=3)=true:=by rw [h1];rfl
  have:=yy t.to.toNat
  unfold ye
  rw [hd]
  simp only [List.length_cons,List.length_append,zk,if_true]
  omega
 ·have hd:(t.kind !=1)=true:=by simpa using h1
  have:=yy t.a.toNat
  unfold ye
  rw [hd]
  simp only [List.length_cons,List.length_append,zk,if_true]
  omega
theorem zaR{regs:Int}:∀(xs:List In),(∀x∈xs,eI x regs=0)→xs.length*2≤(yF xs).length
 | [],_=>Nat.zero_le _
 |x::r,h=>by
  have:=zaR r fun y hy=>h y (List.mem_cons_of_mem _ hy)
  obtain ⟨⟨o1,o2⟩,_⟩:=(UL (m:=inM x) (n:=0) rfl rfl).1 (h x List.mem_cons_self)
  have h2:=zaP (m:=inM x) ⟨o1,by omega⟩
  show (r.length+1)*2≤(zS (inM x)++yF r).length
  rw [List.length_append]
  omega
theorem zaS{regs n:Int}:∀(xs:List Mi),(∀x∈xs,eM x regs n=0)→xs.length*2≤(yx xs).length
 | [],_=>Nat.zero_le _
 |x::r,h=>by
  have:=zaS r fun y hy=>h y (List.mem_cons_of_mem _ hy)
  obtain ⟨⟨o1,o2,_⟩,_⟩:=YR.1 (h x List.mem_cons_self)
  have h2:=zaP (m:=x) ⟨o1,o2⟩
  show (r.length+1)*2≤(zS x++yx r).length
  rw [List.length_append]
  omega
theorem QV{regs:Int}:∀{xs:List In},eIs regs xs=0→∀x∈xs,eI x regs=0
 | [],_=>fun x hx=>by cases hx
 |y::r,h=>fun x hx=>by
  have h':(if eI y regs=0 then eIs regs r else eI y regs)=0:=h
  by_cases hy:eI y regs=0
  ·rw [if_pos hy] at h'
   rcases List.mem_cons.1 hx with rfl|hx
   ·exact hy
   ·exact QV h' x hx
  ·rw [if_neg hy] at h'
   exact absurd h' hy
theorem Yx{regs slots:Int}:∀{run:Nat} {xs:List Mi},eCd regs slots run xs=0→∀x∈xs,eM x regs slots=0
 |_, [],_=>fun x hx=>by cases hx
 |run,y::r,h=>fun x hx=>by
  have h':(if eM y regs slots=0 then if 64<ext run y then 15 else eCd regs slots (ext run y) r else eM y regs slots)=0:=h
  by_cases hy:eM y regs slots=0
  ·rw [if_pos hy] at h'
   rcases List.mem_cons.1 hx with rfl|hx
   ·exact hy
   ·by_cases hx':64<ext run y
    ·rw [if_pos hx'] at h';cases h'
    ·rw [if_neg hx'] at h'
     exact Yx h' x hx
  ·rw [if_neg hy] at h'
   exact absurd h' hy
theorem zc6{regs:Int}(hr:regs≤1000000000):∀(xs:List In),(∀x∈xs,eI x regs=0∧InI x.imm)→∀(q:List Nat) (j:Nat),Gt (je regs xs.length ⟨(yF xs++q).take j,0⟩) xs (yF xs) q j
 | [],_,q,j=> .inl ⟨Nat.zero_le _,rfl⟩
 |x::r,h,q,j=>by
  obtain ⟨h1,h2⟩:=h x List.mem_cons_self
  have e0:yF (x::r)++q=zS (inM x)++(yF r++q):=by
   show (zS (inM x)++yF r)++q=_
   rw [List.append_assoc]
  have el:(yF (x::r)).length=(zS (inM x)).length+(yF r).length:=by
   show (zS (inM x)++yF r).length=_
   rw [List.length_append]
  have g:=zdX (m:=inM x) rfl rfl h1 h2 hr (yF r++q) j
  rw [←e0] at g
  have e:je regs (x::r).length ⟨(yF (x::r)++q).take j,0⟩=((zJ regs ⟨(yF (x::r)++q).take j,0⟩).1.ins::(je regs r.length (zJ regs ⟨(yF (x::r)++q).take j,0⟩).2).1,(je regs r.length (zJ regs ⟨(yF (x::r)++q).take j,0⟩).2).2):=if_neg fun hh=>hh rfl
  rw [e]
  rcases g with ⟨g1,g2⟩|⟨g1,g2⟩
  ·rw [g2]
   dsimp only
   rcases zc6 hr r (fun y hy=>h y (List.mem_cons_of_mem _ hy)) q (j - (zS (inM x)).length) with ⟨k1,k2⟩|⟨k1,k2⟩
   ·refine .inl ⟨by omega,?_⟩
    rw [k2,el,←Nat.sub_sub]
    rfl
   ·refine .inr ⟨?_,k2⟩
    rw [List.length_append] at k1⊢
    omega
  ·refine .inr ⟨by rw [e0];exact g1,?_⟩
   rw [Jh (by rw [g2];decide)]
   exact g2
theorem ze5{regs slots:Int}(hr:regs≤1000000000)(hn:slots≤1000000000):∀(xs:List Mi) (run:Nat),eCd regs slots run xs=0→(∀x∈xs,InI x.imm)→∀(q:List Nat) (j:Nat),Gt (miE regs slots xs.length run ⟨(yx xs++q).take j,0⟩) xs (yx xs) q j
 | [],_,_,_,q,j=> .inl ⟨Nat.zero_le _,rfl⟩
 |x::r,run,hc,h,q,j=>by
  have h1:=Yx hc x List.mem_cons_self
  have h2:=h x List.mem_cons_self
  have hc':(if eM x regs slots=0 then if 64<ext run x then 15 else eCd regs slots (ext run x) r else eM x regs slots)=0:=hc
  rw [if_pos h1] at hc'
  have hx:¬64<ext run x:=fun hh=>by rw [if_pos hh] at hc';cases hc'
  rw [if_neg hx] at hc'
  have e0:yx (x::r)++q=zS x++(yx r++q):=by
   show (zS x++yx r)++q=_
   rw [List.append_assoc]
  have el:(yx (x::r)).length=(zS x).length+(yx r).length:=by
   show (zS x++yx r).length=_
   rw [List.length_append]
  have g:=ze4 (m:=x) h1 h2 hr hn (yx r++q) j
  rw [←e0] at g
  have e:miE regs slots (x::r).length run ⟨(yx (x::r)++q).take j,0⟩=((zB regs slots ⟨(yx (x::r)++q).take j,0⟩).1::(miE regs slots r.length (ext run (zB regs slots ⟨(yx (x::r)++q).take j,0⟩).1) (mvE run (zB regs slots ⟨(yx (x::r)++q).take j,0⟩).1 (zB regs slots ⟨(yx (x::r)++q).take j,0⟩).2)).1,(miE regs slots r.length (ext run (zB regs slots ⟨(yx (x::r)++q).take j,0⟩).1) (mvE run (zB regs slots ⟨(yx (x::r)++q).take j,0⟩).1 (zB regs slots ⟨(yx (x::r)++q).take j,0⟩).2)).2):=if_neg fun hh=>hh rfl
  rw [e]
  rcases g with ⟨g1,g2⟩|⟨g1,g2⟩
  ·rw [g2]
   dsimp only
   rw [show∀t,mvE run x t=t from fun t=>if_neg hx]
   rcases ze5 hr hn r (ext run x) hc' (fun y hy=>h y (List.mem_cons_of_mem _ hy)) q (j - (zS x).length) with ⟨k1,k2⟩|⟨k1,k2⟩
   ·refine .inl ⟨by omega,?_⟩
    rw [k2,el,←Nat.sub_sub]
   ·refine .inr ⟨?_,k2⟩
    rw [List.length_append] at k1⊢
    omega
  ·refine .inr ⟨by rw [e0];exact g1,?_⟩
   have hm:∀(m:Mi) (t:Ip),t.err=1→mvE run m t=t:=fun m t ht=>by
    unfold mvE
    split
    ·exact yU (by rw [ht];decide)
    ·rfl
   rw [hm _ _ g2,JO (by rw [g2];decide)]
   exact g2
theorem zaT{regs n:Int}(hr:regs≤1000000000)(hn:n≤1000000000):∀(bs:List Blk) (tot:Int),0≤tot→tot+(zN bs:Int)≤1048576→eBs regs n bs=0→(∀b∈bs,∀x∈b.code,InI x.imm)→∀(q:List Nat) (j:Nat),Gt (yw regs n bs.length tot ⟨(zC bs++q).take j,0⟩) bs (zC bs) q j
 | [],_,_,_,_,_,q,j=> .inl ⟨Nat.zero_le _,rfl⟩
 |b::r,tot,ht,hc,he,hi,q,j=>by
  have he':(if eB b regs n=0 then eBs regs n r else eB b regs n)=0:=he
  have hb:eB b regs n=0:=by
   by_cases h9:eB b regs n=0
   ·exact h9
   ·rw [if_neg h9] at he';exact he'
  rw [if_pos hb] at he'
  have hI:eIs regs b.code=0:=by
   by_cases h9:eIs regs b.code=0
   ·exact h9
   ·unfold eB at hb;rw [if_neg h9] at hb;exact hb
  have hT:eT b.term regs n=0:=by unfold eB at hb;rw [if_pos hI] at hb;exact hb
  have hall:=QV hI
  rw [jX] at hc
  have e0:zC (b::r)++q=zc (b.code.length:Int).toNat++(yF b.code++(ye b.term++(zC r++q))):=by
   show (Ju b++zC r)++q=_
   unfold Ju
   simp only [List.append_assoc,Int.toNat_natCast]
  have el:(zC (b::r)).length=(zc (b.code.length:Int).toNat).length+(yF b.code).length+(ye b.term).length+(zC r).length:=by
   show (Ju b++zC r).length=_
   unfold Ju
   simp only [List.length_append,Int.toNat_natCast]
   omega
  have el2:(zC (b::r)++q).length=(zC (b::r)).length+q.length:=List.length_append
  have e:∀s:Ip,s.err=0→yw regs n (b::r).length tot s=(⟨(jo regs tot s).1,(jz regs n tot s).1⟩::(yw regs n r.length (tot+jt tot s) (jz regs n tot s).2).1,(yw regs n r.length (tot+jt tot s) (jz regs n tot s).2).2):=fun s hs=>if_neg fun hh=>hh hs
  have hfin:∀s:Ip,s.err=0→(jz regs n tot s).2.err=1→(yw regs n (b::r).length tot s).2.err=1:=fun s hs h9=>by
   rw [e s hs]
   dsimp only
   rw [jf (by rw [h9];decide)]
   exact h9
  have g:=zaN (tot:=tot) (v:=(b.code.length:Int)) (by omega) (by omega) ht (yF b.code++(ye b.term++(zC r++q))) j (by
   have:=zaR b.code hall
   rw [List.length_append]
   omega)
  rw [←e0] at g
  obtain ⟨s,hs⟩:∃s:Ip,s=⟨(zC (b::r)++q).take j,0⟩:=⟨_,rfl⟩
  rw [←hs] at g⊢
  have hs0:s.err=0:=by rw [hs]
  have ef:(zc (b.code.length:Int).toNat++(yF b.code++(ye b.term++(zC r++q)))).length=(zC (b::r)).length+q.length:=by rw [←e0,el2]
  rcases g with ⟨g1,g2⟩|⟨g1,g2⟩
  ·have hK:jt tot s=(b.code.length:Int):=by unfold jt;rw [g2]
   have hblkI:jo regs tot s=je regs b.code.length ⟨(yF b.code++(ye b.term++(zC r++q))).take (j - (zc (b.code.length:Int).toNat).length),0⟩:=by
    unfold jo
    rw [g2]
    rfl
   rcases zc6 hr b.code (fun x hx=>⟨hall x hx,hi b List.mem_cons_self x hx⟩) (ye b.term++(zC r++q)) (j - (zc (b.code.length:Int).toNat).length) with ⟨i1,i2⟩|⟨i1,i2⟩
   ·rw [←hblkI] at i2
    have hblkT:jz regs n tot s=jc regs n ⟨(ye b.term++(zC r++q)).take (j - (zc (b.code.length:Int).toNat).length - (yF b.code).length),0⟩:=by
     unfold jz
     rw [i2]
    rcases zaO hT hr hn (zC r++q) (j - (zc (b.code.length:Int).toNat).length - (yF b.code).length) with ⟨k1,k2⟩|⟨k1,k2⟩
    ·rw [←hblkT] at k2
     rcases zaT hr hn r (tot+(b.code.length:Int)) (by omega) (by omega) he' (fun y hy=>hi y (List.mem_cons_of_mem _ hy)) q (j - (zc (b.code.length:Int).toNat).length - (yF b.code).length - (ye b.term).length) with ⟨m1,m2⟩|⟨m1,m2⟩
     ·refine .inl ⟨by omega,?_⟩
      rw [e s hs0,hK,k2]
      dsimp only
      rw [m2,i2,el]
      dsimp only
      rw [show j - ((zc (b.code.length:Int).toNat).length+(yF b.code).length+(ye b.term).length+(zC r).length)=j - (zc (b.code.length:Int).toNat).length - (yF b.code).length - (ye b.term).length - (zC r).length by omega]
     ·refine .inr ⟨?_,?_⟩
      ·rw [List.length_append] at m1
       omega
      ·rw [e s hs0,hK,k2]
       exact m2
    ·rw [←hblkT] at k2
     refine .inr ⟨?_,hfin s hs0 k2⟩
     rw [List.length_append,List.length_append] at k1
     omega
   ·rw [←hblkI] at i2
    refine .inr ⟨?_,hfin s hs0 ?_⟩
    ·rw [List.length_append,List.length_append,List.length_append] at i1
     omega
    ·unfold jz
     rw [jO (by rw [i2];decide)]
     exact i2
  ·refine .inr ⟨by rw [←e0] at g1;exact g1,hfin s hs0 ?_⟩
   have hblkI:(jo regs tot s).2.err=1:=by
    unfold jo
    rw [Jh (by rw [g2];decide)]
    exact g2
   unfold jz
   rw [jO (by rw [hblkI];decide)]
   exact hblkI
theorem Qr{regs slots n:Int}(hr:regs≤1000000000)(hsl:slots≤1000000000)(hn:n≤1000000000):∀(bs:List MBlk) (tot:Int),0≤tot→tot+(zw bs:Int)≤1048576→jY regs slots n bs=0→(∀b∈bs,∀x∈b.code,InI x.imm)→∀(q:List Nat) (j:Nat),Gt (zY regs slots n bs.length tot ⟨(zn bs++q).take j,0⟩) bs (zn bs) q j
 | [],_,_,_,_,_,q,j=> .inl ⟨Nat.zero_le _,rfl⟩
 |b::r,tot,ht,hc,he,hi,q,j=>by
  have he':(if eMB b regs slots n=0 then jY regs slots n r else eMB b regs slots n)=0:=he
  have hb:eMB b regs slots n=0:=by
   by_cases h9:eMB b regs slots n=0
   ·exact h9
   ·rw [if_neg h9] at he';exact he'
  rw [if_pos hb] at he'
  have hI:eCd regs slots 0 b.code=0:=by
   by_cases h9:eCd regs slots 0 b.code=0
   ·exact h9
   ·unfold eMB at hb;rw [if_neg h9] at hb;exact hb
  have hT:eT b.term regs n=0:=by unfold eMB at hb;rw [if_pos hI] at hb;exact hb
  have hall:=Yx hI
  rw [jJ] at hc
  have e0:zn (b::r)++q=zc (b.code.length:Int).toNat++(yx b.code++(ye b.term++(zn r++q))):=by
   show (jl b++zn r)++q=_
   unfold jl
   simp only [List.append_assoc,Int.toNat_natCast]
  have el:(zn (b::r)).length=(zc (b.code.length:Int).toNat).length+(yx b.code).length+(ye b.term).length+(zn r).length:=by
   show (jl b++zn r).length=_
   unfold jl
   simp only [List.length_append,Int.toNat_natCast]
   omega
  have el2:(zn (b::r)++q).length=(zn (b::r)).length+q.length:=List.length_append
  have e:∀s:Ip,s.err=0→zY regs slots n (b::r).length tot s=(⟨(yA regs slots tot s).1,(yD regs slots n tot s).1⟩::(zY regs slots n r.length (tot+jt tot s) (yD regs slots n tot s).2).1,(zY regs slots n r.length (tot+jt tot s) (yD regs slots n tot s).2).2):=fun s hs=>if_neg fun hh=>hh hs
  have hfin:∀s:Ip,s.err=0→(yD regs slots n tot s).2.err=1→(zY regs slots n (b::r).length tot s).2.err=1:=fun s hs h9=>by
   rw [e s hs]
   dsimp only
   rw [yL (by rw [h9];decide)]
   exact h9
  have g:=zaN (tot:=tot) (v:=(b.code.length:Int)) (by omega) (by omega) ht (yx b.code++(ye b.term++(zn r++q))) j (by
   have:=zaS b.code hall
   rw [List.length_append]
   omega)
  rw [←e0] at g
  obtain ⟨s,hs⟩:∃s:Ip,s=⟨(zn (b::r)++q).take j,0⟩:=⟨_,rfl⟩
  rw [←hs] at g⊢
  have hs0:s.err=0:=by rw [hs]
  have ef:(zc (b.code.length:Int).toNat++(yx b.code++(ye b.term++(zn r++q)))).length=(zn (b::r)).length+q.length:=by rw [←e0,el2]
  rcases g with ⟨g1,g2⟩|⟨g1,g2⟩
  ·have hK:jt tot s=(b.code.length:Int):=by unfold jt;rw [g2]
   have hmblkI:yA regs slots tot s=miE regs slots b.code.length 0 ⟨(yx b.code++(ye b.term++(zn r++q))).take (j - (zc (b.code.length:Int).toNat).length),0⟩:=by
    unfold yA
    rw [g2]
    rfl
   rcases ze5 hr hsl b.code 0 hI (hi b List.mem_cons_self) (ye b.term++(zn r++q)) (j - (zc (b.code.length:Int).toNat).length) with ⟨i1,i2⟩|⟨i1,i2⟩
   ·rw [←hmblkI] at i2
    have hmblkT:yD regs slots n tot s=jc regs n ⟨(ye b.term++(zn r++q)).take (j - (zc (b.code.length:Int).toNat).length - (yx b.code).length),0⟩:=by
     unfold yD
     rw [i2]
    rcases zaO hT hr hn (zn r++q) (j - (zc (b.code.length:Int).toNat).length - (yx b.code).length) with ⟨k1,k2⟩|⟨k1,k2⟩
    ·rw [←hmblkT] at k2
     rcases Qr hr hsl hn r (tot+(b.code.length:Int)) (by omega) (by omega) he' (fun y hy=>hi y (List.mem_cons_of_mem _ hy)) q (j - (zc (b.code.length:Int).toNat).length - (yx b.code).length - (ye b.term).length) with ⟨m1,m2⟩|⟨m1,m2⟩
     ·refine .inl ⟨by omega,?_⟩
      rw [e s hs0,hK,k2]
      dsimp only
      rw [m2,i2,el]
      dsimp only
      rw [show j - ((zc (b.code.length:Int).toNat).length+(yx b.code).length+(ye b.term).length+(zn r).length)=j - (zc (b.code.length:Int).toNat).length - (yx b.code).length - (ye b.term).length - (zn r).length by omega]
     ·refine .inr ⟨?_,?_⟩
      ·rw [List.length_append] at m1
       omega
      ·rw [e s hs0,hK,k2]
       exact m2
    ·rw [←hmblkT] at k2
     refine .inr ⟨?_,hfin s hs0 k2⟩
     rw [List.length_append,List.length_append] at k1
     omega
   ·rw [←hmblkI] at i2
    refine .inr ⟨?_,hfin s hs0 ?_⟩
    ·rw [List.length_append,List.length_append,List.length_append] at i1
     omega
    ·unfold yD
     rw [jO (by rw [i2];decide)]
     exact i2
  ·refine .inr ⟨by rw [←e0] at g1;exact g1,hfin s hs0 ?_⟩
   have hmblkI:(yA regs slots tot s).2.err=1:=by
    unfold yA
    rw [JO (by rw [g2];decide)]
    exact g2
   unfold yD
   rw [jO (by rw [hmblkI];decide)]
   exact hmblkI
theorem Uc{regs n:Int}:∀(bs:List Blk),eBs regs n bs=0→bs.length*3≤(zC bs).length
 | [],_=>Nat.zero_le _
 |b::r,he=>by
  have he':(if eB b regs n=0 then eBs regs n r else eB b regs n)=0:=he
  have hb:eB b regs n=0:=by
   by_cases h9:eB b regs n=0
   ·exact h9
   ·rw [if_neg h9] at he';exact he'
  rw [if_pos hb] at he'
  have hI:eIs regs b.code=0:=by
   by_cases h9:eIs regs b.code=0
   ·exact h9
   ·unfold eB at hb;rw [if_neg h9] at hb;exact hb
  have hT:eT b.term regs n=0:=by unfold eB at hb;rw [if_pos hI] at hb;exact hb
  have h2:=zaQ (YS.1 hT).1
  have:=Uc r he'
  have h1:=yy b.code.length
  show (r.length+1)*3≤(Ju b++zC r).length
  unfold Ju
  simp only [List.length_append]
  omega
theorem Yy{regs slots n:Int}:∀(bs:List MBlk),jY regs slots n bs=0→bs.length*3≤(zn bs).length
 | [],_=>Nat.zero_le _
 |b::r,he=>by
  have he':(if eMB b regs slots n=0 then jY regs slots n r else eMB b regs slots n)=0:=he
  have hb:eMB b regs slots n=0:=by
   by_cases h9:eMB b regs slots n=0
   ·exact h9
   ·rw [if_neg h9] at he';exact he'
  rw [if_pos hb] at he'
  have hI:eCd regs slots 0 b.code=0:=by
   by_cases h9:eCd regs slots 0 b.code=0
   ·exact h9
   ·unfold eMB at hb;rw [if_neg h9] at hb;exact hb
  have hT:eT b.term regs n=0:=by unfold eMB at hb;rw [if_pos hI] at hb;exact hb
  have h2:=zaQ (YS.1 hT).1
  have:=Yy r he'
  have h1:=yy b.code.length
  show (r.length+1)*3≤(jl b++zn r).length
  unfold jl
  simp only [List.length_append]
  omega
theorem zc7{args regs:Int}{bs:List Blk}(h:eSz args regs bs=0):0≤args∧args≤regs∧regs≤1048576∧1≤bs.length∧bs.length≤1048576∧zN bs≤1048576:=by
 unfold eSz at h
 split at h
 ·cases h
 ·split at h
  ·cases h
  ·split at h
   ·cases h
   ·split at h
    ·cases h
    ·omega
theorem UN{args regs slots:Int}{bs:List MBlk}(h:JL args regs slots bs=0):0≤args∧args≤slots∧0≤regs∧regs≤1048576∧slots≤1048576∧1≤bs.length∧bs.length≤1048576∧zw bs≤1048576:=by
 unfold JL at h
 split at h
 ·cases h
 ·split at h
  ·cases h
  ·split at h
   ·cases h
   ·split at h
    ·cases h
    ·split at h
     ·cases h
     ·omega
theorem ze6{f:Fd}(hf:eF f.args f.regs f.bs=0)(hi:∀b∈f.bs,∀x∈b.code,InI x.imm)(q:List Nat)(j:Nat):Gt (yc ⟨(zI f++q).take j,0⟩) f (zI f) q j:=by
 have hz:eSz f.args f.regs f.bs=0:=by
  by_cases h9:eSz f.args f.regs f.bs=0
  ·exact h9
  ·unfold eF at hf;rw [if_neg h9] at hf;exact absurd hf h9
 have hB:eBs f.regs f.bs.length f.bs=0:=by unfold eF at hf;rw [if_pos hz] at hf;exact hf
 obtain ⟨z1,z2,z3,z4,z5,z6⟩:=zc7 hz
 have h3:=Uc f.bs hB
 have fin:∀s:Ip,(fB s).2.err=1→(yc s).2.err=1:=fun s hs=>by
  unfold yc
  rw [if_pos (by rw [hs];decide)]
  exact hs
 have e0:zI f++q=zc f.args.toNat++(zc f.regs.toNat++(zc (f.bs.length:Int).toNat++(zC f.bs++q))):=by
  unfold zI
  simp only [List.append_assoc,Int.toNat_natCast]
 have el:(zI f).length=(zc f.args.toNat).length+(zc f.regs.toNat).length+(zc (f.bs.length:Int).toNat).length+(zC f.bs).length:=by
  unfold zI
  simp only [List.length_append,Int.toNat_natCast]
  omega
 have el2:(zI f++q).length=(zI f).length+q.length:=List.length_append
 obtain ⟨s,hs⟩:∃s:Ip,s=⟨(zI f++q).take j,0⟩:=⟨_,rfl⟩
 rw [←hs]
 have errN:(fC s).err=1→(yc s).2.err=1:=fun h9=>fin s (by
  have hN:fN s=(0,fC s):=ZX (by rw [h9];decide)
  unfold fB
  rw [hN,jf (by rw [h9];decide)]
  exact h9)
 have errC:(fR' s).2.err=1→(yc s).2.err=1:=fun h9=>errN (by
  unfold fC
  split
  ·rw [yU (by rw [h9];decide)]
   exact h9
  ·exact h9)
 have errR:=errC
 have errA:(fA s).2.err=1→(yc s).2.err=1:=fun h9=>errR (by
  unfold fR'
  rw [Ja (by rw [h9];decide)]
  exact h9)
 have full:∀k,k<(zI f).length+q.length - (j - k)→True:=fun _ _=>trivial
 clear full
 have gA:=J6 (v:=f.args) (by omega) (by omega) (zc f.regs.toNat++(zc (f.bs.length:Int).toNat++(zC f.bs++q))) j
 rw [←e0,←hs] at gA
 rcases gA with ⟨a1,a2⟩|⟨a1,a2⟩
 case inr=>exact .inr ⟨by rw [←e0] at a1;exact a1,errA a2⟩
 have hA:fA s=(f.args,⟨(zc f.regs.toNat++(zc (f.bs.length:Int).toNat++(zC f.bs++q))).take (j - (zc f.args.toNat).length),0⟩):=a2
 have gR:=J6 (v:=f.regs) (by omega) (by omega) (zc (f.bs.length:Int).toNat++(zC f.bs++q)) (j - (zc f.args.toNat).length)
 have hR0:fR' s=yo ⟨(zc f.regs.toNat++(zc (f.bs.length:Int).toNat++(zC f.bs++q))).take (j - (zc f.args.toNat).length),0⟩:=by unfold fR';rw [hA]
 rw [←hR0] at gR
 rcases gR with ⟨b1,hR⟩|⟨b1,b2⟩
 case inr=>exact .inr ⟨by simp only [List.length_append] at b1 el2⊢;omega,errR b2⟩
 have hC:fC s=⟨(zc (f.bs.length:Int).toNat++(zC f.bs++q)).take (j - (zc f.args.toNat).length - (zc f.regs.toNat).length),0⟩:=by
  unfold fC
  rw [hR,hA,if_neg (by dsimp only;omega)]
 have gN':=zaM (v:=(f.bs.length:Int)) (by omega) (by omega) (zC f.bs++q) (j - (zc f.args.toNat).length - (zc f.regs.toNat).length) (by rw [List.length_append];omega)
 have hN0:fN s=yv ⟨(zc (f.bs.length:Int).toNat++(zC f.bs++q)).take (j - (zc f.args.toNat).length - (zc f.regs.toNat).length),0⟩:=by unfold fN;rw [hC]
 rw [←hN0] at gN'
 rcases gN' with ⟨d1,hN⟩|⟨d1,d2⟩
 case inr=>
  refine .inr ⟨by simp only [List.length_append] at d1 el2⊢;omega,fin s ?_⟩
  unfold fB
  rw [jf (by rw [d2];decide)]
  exact d2
 have gB':=zaT (regs:=f.regs) (n:=(f.bs.length:Int)) (by omega) (by omega) f.bs 0 (by decide) (by omega) hB hi q ((j - (zc f.args.toNat).length - (zc f.regs.toNat).length) - (zc (f.bs.length:Int).toNat).length)
 have hB0:fB s=yw f.regs (f.bs.length:Int) f.bs.length 0 ⟨(zC f.bs++q).take ((j - (zc f.args.toNat).length - (zc f.regs.toNat).length) - (zc (f.bs.length:Int).toNat).length),0⟩:=by
  unfold fB
  rw [hN,hR]
  rfl
 rw [←hB0] at gB'
 rcases gB' with ⟨e1,hBB⟩|⟨e1,e2⟩
 case inr=>exact .inr ⟨by simp only [List.length_append] at e1 el2⊢;omega,fin s e2⟩
 refine .inl ⟨by omega,?_⟩
 unfold yc
 rw [hBB,if_neg (by simp),hA,hR]
 dsimp only
 rw [el]
 rw [show j - ((zc f.args.toNat).length+(zc f.regs.toNat).length+(zc (f.bs.length:Int).toNat).length+(zC f.bs).length)=(j - (zc f.args.toNat).length - (zc f.regs.toNat).length) - (zc (f.bs.length:Int).toNat).length - (zC f.bs).length by omega]
theorem zdY{f:Gd}(hf:eMF f.args f.regs f.slots f.ms=0)(hi:∀b∈f.ms,∀x∈b.code,InI x.imm)(q:List Nat)(j:Nat):Gt (zF ⟨(yf f++q).take j,0⟩) f (yf f) q j:=by
 have hz:JL f.args f.regs f.slots f.ms=0:=by
  by_cases h9:JL f.args f.regs f.slots f.ms=0
  ·exact h9
  ·unfold eMF at hf;rw [if_neg h9] at hf;exact absurd hf h9
 have hB:jY f.regs f.slots f.ms.length f.ms=0:=by unfold eMF at hf;rw [if_pos hz] at hf;exact hf
 obtain ⟨z1,z2,z3,z4,z5,z6,z7,z8⟩:=UN hz
 have h3:=Yy f.ms hB
 have fin:∀s:Ip,(gB s).2.err=1→(zF s).2.err=1:=fun s hs=>by
  unfold zF
  rw [if_pos (by rw [hs];decide)]
  exact hs
 have e0:yf f++q=zc f.args.toNat++(zc f.regs.toNat++(zc f.slots.toNat++(zc (f.ms.length:Int).toNat++(zn f.ms++q)))):=by
  unfold yf
  simp only [List.append_assoc,Int.toNat_natCast]
 have el:(yf f).length=(zc f.args.toNat).length+(zc f.regs.toNat).length+(zc f.slots.toNat).length+(zc (f.ms.length:Int).toNat).length+(zn f.ms).length:=by
  unfold yf
  simp only [List.length_append,Int.toNat_natCast]
  omega
 have el2:(yf f++q).length=(yf f).length+q.length:=List.length_append
 obtain ⟨s,hs⟩:∃s:Ip,s=⟨(yf f++q).take j,0⟩:=⟨_,rfl⟩
 rw [←hs]
 have errN:(gC s).err=1→(zF s).2.err=1:=fun h9=>fin s (by
  have hN:gN s=(0,gC s):=ZX (by rw [h9];decide)
  unfold gB
  rw [hN,yL (by rw [h9];decide)]
  exact h9)
 have errC:(gS s).2.err=1→(zF s).2.err=1:=fun h9=>errN (by
  unfold gC
  split
  ·rw [yU (by rw [h9];decide)]
   exact h9
  ·exact h9)
 have errR:(fR' s).2.err=1→(zF s).2.err=1:=fun h9=>errC (by
  unfold gS
  rw [Ja (by rw [h9];decide)]
  exact h9)
 have errA:(fA s).2.err=1→(zF s).2.err=1:=fun h9=>errR (by
  unfold fR'
  rw [Ja (by rw [h9];decide)]
  exact h9)
 have full:∀k,k<(yf f).length+q.length - (j - k)→True:=fun _ _=>trivial
 clear full
 have gA:=J6 (v:=f.args) (by omega) (by omega) (zc f.regs.toNat++(zc f.slots.toNat++(zc (f.ms.length:Int).toNat++(zn f.ms++q)))) j
 rw [←e0,←hs] at gA
 rcases gA with ⟨a1,a2⟩|⟨a1,a2⟩
 case inr=>exact .inr ⟨by rw [←e0] at a1;exact a1,errA a2⟩
 have hA:fA s=(f.args,⟨(zc f.regs.toNat++(zc f.slots.toNat++(zc (f.ms.length:Int).toNat++(zn f.ms++q)))).take (j - (zc f.args.toNat).length),0⟩):=a2
 have gR:=J6 (v:=f.regs) (by omega) (by omega) (zc f.slots.toNat++(zc (f.ms.length:Int).toNat++(zn f.ms++q))) (j - (zc f.args.toNat).length)
 have hR0:fR' s=yo ⟨(zc f.regs.toNat++(zc f.slots.toNat++(zc (f.ms.length:Int).toNat++(zn f.ms++q)))).take (j - (zc f.args.toNat).length),0⟩:=by unfold fR';rw [hA]
 rw [←hR0] at gR
 rcases gR with ⟨b1,hR⟩|⟨b1,b2⟩
 case inr=>exact .inr ⟨by simp only [List.length_append] at b1 el2⊢;omega,errR b2⟩
 have gS':=J6 (v:=f.slots) (by omega) (by omega) (zc (f.ms.length:Int).toNat++(zn f.ms++q)) (j - (zc f.args.toNat).length - (zc f.regs.toNat).length)
 have hS0:gS s=yo ⟨(zc f.slots.toNat++(zc (f.ms.length:Int).toNat++(zn f.ms++q))).take (j - (zc f.args.toNat).length - (zc f.regs.toNat).length),0⟩:=by unfold gS;rw [hR]
 rw [←hS0] at gS'
 rcases gS' with ⟨c1,hL⟩|⟨c1,c2⟩
 case inr=>exact .inr ⟨by simp only [List.length_append] at c1 el2⊢;omega,errC c2⟩
 have hC:gC s=⟨(zc (f.ms.length:Int).toNat++(zn f.ms++q)).take ((j - (zc f.args.toNat).length - (zc f.regs.toNat).length) - (zc f.slots.toNat).length),0⟩:=by
  unfold gC
  rw [hL,hA,if_neg (by dsimp only;omega)]
 have gN':=zaM (v:=(f.ms.length:Int)) (by omega) (by omega) (zn f.ms++q) ((j - (zc f.args.toNat).length - (zc f.regs.toNat).length) - (zc f.slots.toNat).length) (by rw [List.length_append];omega)
 have hN0:gN s=yv ⟨(zc (f.ms.length:Int).toNat++(zn f.ms++q)).take ((j - (zc f.args.toNat).length - (zc f.regs.toNat).length) - (zc f.slots.toNat).length),0⟩:=by unfold gN;rw [hC]
 rw [←hN0] at gN'
 rcases gN' with ⟨d1,hN⟩|⟨d1,d2⟩
 case inr=>
  refine .inr ⟨by simp only [List.length_append] at d1 el2⊢;omega,fin s ?_⟩
  unfold gB
  rw [yL (by rw [d2];decide)]
  exact d2
 have gB':=Qr (regs:=f.regs) (slots:=f.slots) (n:=(f.ms.length:Int)) (by omega) (by omega) (by omega) f.ms 0 (by decide) (by omega) hB hi q (((j - (zc f.args.toNat).length - (zc f.regs.toNat).length) - (zc f.slots.toNat).length) - (zc (f.ms.length:Int).toNat).length)
 have hB0:gB s=zY f.regs f.slots (f.ms.length:Int) f.ms.length 0 ⟨(zn f.ms++q).take (((j - (zc f.args.toNat).length - (zc f.regs.toNat).length) - (zc f.slots.toNat).length) - (zc (f.ms.length:Int).toNat).length),0⟩:=by
  unfold gB
  rw [hN,hR,hL]
  rfl
 rw [←hB0] at gB'
 rcases gB' with ⟨e1,hBB⟩|⟨e1,e2⟩
 case inr=>exact .inr ⟨by simp only [List.length_append] at e1 el2⊢;omega,fin s e2⟩
 refine .inl ⟨by omega,?_⟩
 unfold zF
 rw [hBB,if_neg (by simp),hA,hR,hL]
 dsimp only
 rw [el]
 rw [show j - ((zc f.args.toNat).length+(zc f.regs.toNat).length+(zc f.slots.toNat).length+(zc (f.ms.length:Int).toNat).length+(zn f.ms).length)=((j - (zc f.args.toNat).length - (zc f.regs.toNat).length) - (zc f.slots.toNat).length) - (zc (f.ms.length:Int).toNat).length - (zn f.ms).length by omega]
theorem zdZ{f:Fd}(hf:eF f.args f.regs f.bs=0)(hi:∀b∈f.bs,∀x∈b.code,InI x.imm)(q:List Nat):yc ⟨zI f++q,0⟩=(f,⟨q,0⟩):=(ze6 hf hi q _).full
theorem zb5{g:Gd}(hg:eMF g.args g.regs g.slots g.ms=0)(hi:∀b∈g.ms,∀x∈b.code,InI x.imm)(q:List Nat):zF ⟨yf g++q,0⟩=(g,⟨q,0⟩):=(zdY hg hi q _).full
theorem UO{v r n:Int}(h:yl v r n=true)(hr:r≤1000000000)(hn:n≤1000000000):0≤v∧v≤10000000000:=by
 have h0:=Jq h
 unfold yl at h
 rw [if_neg (by omega)] at h
 split at h
 ·have:=of_decide_eq_true h;omega
 ·have:=of_decide_eq_true h;omega
theorem MOk.rng18{r n:Int}{m:Mi}(h:MOk r n m)(hr:r≤1000000000)(hn:n≤1000000000):
  (0≤m.d∧m.d≤10000000000)∧(0≤m.a∧m.a≤10000000000)∧(0≤m.b∧m.b≤10000000000)∧(0≤m.dst∧m.dst≤10000000000)∧(0≤m.src∧m.src≤10000000000):=by
 have h1:=JW.1 h.r1
 have h2:=JW.1 h.r2
 have h3:=JW.1 h.r3
 have z1:=j8.1 h.z1
 have z2:=j8.1 h.z2
 have z3:=j8.1 h.z3
 have l1:=h.l1
 have l2:=h.l2
 refine ⟨?_,?_,?_,?_,?_⟩
 ·cases hb:uD m.op
  ·rw [z1 hb];decide
  ·have:=h1 hb;omega
 ·cases hb:uA m.op
  ·rw [z2 hb];decide
  ·have:=h2 hb;omega
 ·cases hb:uB m.op
  ·rw [z3 hb];decide
  ·have:=h3 hb;omega
 ·cases hb:(m.op==18)
  ·rw [l1.2 hb];decide
  ·exact UO (l1.1 hb) hr hn
 ·cases hb:(m.op==18)
  ·rw [l2.2 hb];decide
  ·exact UO (l2.1 hb) hr hn
theorem MOk.pi{r n:Int}{m:Mi}(h:MOk r n m)(hr:r≤1000000000)(hn:n≤1000000000)(ho:1≤m.op∧m.op≤18)(hi:InI m.imm):PI m:=by
 obtain ⟨h1,h2,h3,h4,h5⟩:=h.rng18 hr hn
 exact ⟨by omega,hi,fun _=>by omega,fun _=>by omega,fun _=>by omega,fun _=>by omega,fun _=>by omega⟩
theorem zgS{t:Tm}{r n:Int}(h:eT t r n=0)(hr:r≤1000000000)(hn:n≤1000000000):(1≤t.kind∧t.kind≤3)∧PT t:=by
 obtain ⟨h0,h1,h2,h3,_,_,_⟩:=YS.1 h
 have g1:=JW.1 h1;have g2:=JW.1 h2;have g3:=JW.1 h3
 exact ⟨h0,by omega,fun hh=>by have:=g1 hh;omega,fun hh=>by have:=g2 hh;omega,fun hh=>by have:=g3 hh;omega⟩
def VB(x:Blk):Prop:=(∀y∈x.code,(1≤y.op∧y.op≤17)∧PI (inM y))∧(1≤x.term.kind∧x.term.kind≤3)∧PT x.term
def VMB(x:MBlk):Prop:=(∀y∈x.code,(1≤y.op∧y.op≤18)∧PI y)∧(1≤x.term.kind∧x.term.kind≤3)∧PT x.term
theorem VB.pb{x:Blk}(h:VB x):PB x:=⟨fun y hy=>(h.1 y hy).2,h.2.2⟩
theorem VMB.pb{x:MBlk}(h:VMB x):PMB x:=⟨fun y hy=>(h.1 y hy).2,h.2.2⟩
theorem ze7{regs n:Int}(hr:regs≤1000000000)(hn:n≤1000000000):∀(bs:List Blk),eBs regs n bs=0→(∀b∈bs,∀x∈b.code,InI x.imm)→∀b∈bs,VB b
 | [],_,_,b,hb=>by cases hb
 |b::r,he,hi,c,hc=>by
  have he':(if eB b regs n=0 then eBs regs n r else eB b regs n)=0:=he
  have hb:eB b regs n=0:=by
   by_cases h9:eB b regs n=0
   ·exact h9
   ·rw [if_neg h9] at he';exact he'
  rw [if_pos hb] at he'
  rcases List.mem_cons.1 hc with rfl|hc
  ·have hI:eIs regs c.code=0:=by
    by_cases h9:eIs regs c.code=0
    ·exact h9
    ·unfold eB at hb;rw [if_neg h9] at hb;exact hb
   have hT:eT c.term regs n=0:=by unfold eB at hb;rw [if_pos hI] at hb;exact hb
   have hall:=QV hI
   obtain ⟨t1,t2⟩:=zgS hT hr hn
   refine ⟨fun y hy=> ?_,t1,t2⟩
   have h1:eI (inM y).ins regs=0:=hall y hy
   obtain ⟨h2,h3⟩:=(UL (n:=0) (m:=inM y) rfl rfl).1 h1
   exact ⟨h2,h3.pi hr (by omega) ⟨h2.1,by omega⟩ (hi c List.mem_cons_self y hy)⟩
  ·exact ze7 hr hn r he' (fun b hb=>hi b (List.mem_cons_of_mem _ hb)) c hc
theorem zc8{regs slots n:Int}(hr:regs≤1000000000)(hsl:slots≤1000000000)(hn:n≤1000000000):∀(bs:List MBlk),jY regs slots n bs=0→(∀b∈bs,∀x∈b.code,InI x.imm)→∀b∈bs,VMB b
 | [],_,_,b,hb=>by cases hb
 |b::r,he,hi,c,hc=>by
  have he':(if eMB b regs slots n=0 then jY regs slots n r else eMB b regs slots n)=0:=he
  have hb:eMB b regs slots n=0:=by
   by_cases h9:eMB b regs slots n=0
   ·exact h9
   ·rw [if_neg h9] at he';exact he'
  rw [if_pos hb] at he'
  rcases List.mem_cons.1 hc with rfl|hc
  ·have hI:eCd regs slots 0 c.code=0:=by
    by_cases h9:eCd regs slots 0 c.code=0
    ·exact h9
    ·unfold eMB at hb;rw [if_neg h9] at hb;exact hb
   have hT:eT c.term regs n=0:=by unfold eMB at hb;rw [if_pos hI] at hb;exact hb
   have hall:=Yx hI
   obtain ⟨t1,t2⟩:=zgS hT hr hn
   refine ⟨fun y hy=> ?_,t1,t2⟩
   obtain ⟨⟨o1,o2,o3⟩,h3⟩:=YR.1 (hall y hy)
   exact ⟨⟨o1,o2⟩,h3.pi hr hsl ⟨o1,o2⟩ (hi c List.mem_cons_self y hy)⟩
  ·exact zc8 hr hsl hn r he' (fun b hb=>hi b (List.mem_cons_of_mem _ hb)) c hc
theorem yX{b:Bool}{v:Int}:(zk b v).length≤10:=by
 have:=JP (l:= []) (n:=0) (by simp) (b:=b) (v:=v)
 simpa using this
theorem Zj(m:Mi):(zS m).length≤61:=by
 unfold zS
 have h1:=yX (b:=uD m.op) (v:=m.d)
 have h2:=yX (b:=uA m.op) (v:=m.a)
 have h3:=yX (b:=uB m.op) (v:=m.b)
 have h4:=yX (b:=m.op==1) (v:=zz m.imm)
 have h5:=yX (b:=m.op==18) (v:=m.dst)
 have h6:=yX (b:=m.op==18) (v:=m.src)
 simp only [List.length_cons,List.length_append]
 omega
theorem UP(t:Tm):(ye t).length≤31:=by
 unfold ye
 have h1:=yX (b:=t.kind !=1) (v:=t.a)
 have h2:=yX (b:=t.kind !=3) (v:=t.to)
 have h3:=yX (b:=t.kind==2) (v:=t.el)
 simp only [List.length_cons,List.length_append]
 omega
theorem ZE{α:Type}(f:α→List Nat)(n:Nat)(h:∀x,(f x).length≤n):∀l:List α,(l.flatMap f).length≤n*l.length
 | []=>by simp
 |x::r=>by
  have h1:=h x
  have h2:=ZE f n h r
  rw [List.flatMap_cons,List.length_append,List.length_cons,Nat.mul_succ]
  omega
theorem ZF:∀bs:List Blk,(zC bs).length≤61*zN bs+41*bs.length
 | []=>by simp [zC]
 |b::r=>by
  have h1:=ZF r
  have h2:=ZE (fun x=>zS (inM x)) 61 (fun x=>Zj _) b.code
  have h3:=UP b.term
  have h4:=zA b.code.length
  rw [show zC (b::r)=Ju b++zC r from rfl,List.length_append,jX,List.length_cons]
  unfold Ju yF
  simp only [List.length_append]
  omega
theorem Zl:∀bs:List MBlk,(zn bs).length≤61*zw bs+41*bs.length
 | []=>by simp [zn]
 |b::r=>by
  have h1:=Zl r
  have h2:=ZE zS 61 Zj b.code
  have h3:=UP b.term
  have h4:=zA b.code.length
  rw [show zn (b::r)=jl b++zn r from rfl,List.length_append,jJ,List.length_cons]
  unfold jl yx
  simp only [List.length_append]
  omega
theorem zb6(f:Fd):(zI f).length≤30+61*zN f.bs+41*f.bs.length:=by
 have h1:=ZF f.bs
 have h2:=zA f.args.toNat;have h3:=zA f.regs.toNat;have h4:=zA f.bs.length
 unfold zI
 simp only [List.length_append]
 omega
theorem zb7(g:Gd):(yf g).length≤40+61*zw g.ms+41*g.ms.length:=by
 have h1:=Zl g.ms
 have h2:=zA g.args.toNat;have h3:=zA g.regs.toNat;have h4:=zA g.slots.toNat;have h5:=zA g.ms.length
 unfold yf
 simp only [List.length_append]
 omega
theorem zX{a b:List Nat}(ha:Byt a)(hb:Byt b):Byt (a++b):=fun x hx=>(List.mem_append.1 hx).elim (ha x) (hb x)
theorem ZG{α:Type}(f:α→List Nat)(l:List α)(h:∀x∈l,Byt (f x)):Byt (l.flatMap f):=fun y hy=>by
 obtain ⟨x,hx,h2⟩:=List.mem_flatMap.1 hy
 exact h x hx y h2
theorem yM(v:Nat)(h:v<18446744073709551616):Byt (zc v):=zak v (by
 have:(128:Nat) ^ 10=1180591620717411303424:=by decide
 omega)
theorem yY{b:Bool}{v:Int}(h:b=true→v≤18446744073709551615):Byt (zk b v):=by
 unfold zk
 split
 ·rename_i hb
  exact yM _ (by have:=h hb;omega)
 ·intro x hx;cases hx
theorem PI.byt{m:Mi}(h:PI m):Byt (zS m):=by
 obtain ⟨h0,hi,h1,h2,h3,h4,h5⟩:=h
 have hz:=zcZ hi
 unfold InU at hz
 unfold zS
 intro x hx
 rcases List.mem_cons.1 hx with rfl|hx
 ·omega
 ·exact zX (yY fun hh=>by have:=h1 hh;omega) (zX (yY fun hh=>by have:=h2 hh;omega) (zX (yY fun hh=>by have:=h3 hh;omega) (zX (yY fun hh=>by omega) (zX (yY fun hh=>by have:=h4 hh;omega) (yY fun hh=>by have:=h5 hh;omega))))) x hx
theorem PT.byt{t:Tm}(h:PT t):Byt (ye t):=by
 obtain ⟨h0,h1,h2,h3⟩:=h
 unfold ye
 intro x hx
 rcases List.mem_cons.1 hx with rfl|hx
 ·omega
 ·exact zX (yY fun hh=>by have:=h1 hh;omega) (zX (yY fun hh=>by have:=h2 hh;omega) (yY fun hh=>by have:=h3 hh;omega)) x hx
theorem ZH:∀{bs:List Blk} {b:Blk},b∈bs→b.code.length≤zN bs
 |x::r,b,h=>by
  rw [jX]
  rcases List.mem_cons.1 h with rfl|h
  ·omega
  ·have:=ZH h;omega
theorem Zn:∀{bs:List MBlk} {b:MBlk},b∈bs→b.code.length≤zw bs
 |x::r,b,h=>by
  rw [jJ]
  rcases List.mem_cons.1 h with rfl|h
  ·omega
  ·have:=Zn h;omega
structure VF(f:Fd):Prop where
 a:0≤f.args∧f.args≤1048576
 r:0≤f.regs∧f.regs≤1048576
 n:1≤f.bs.length∧f.bs.length≤1048576
 c:zN f.bs≤1048576
 v:∀b∈f.bs,VB b
structure VG(g:Gd):Prop where
 a:0≤g.args∧g.args≤1048576
 r:0≤g.regs∧g.regs≤1048576
 s:0≤g.slots∧g.slots≤1048576
 n:1≤g.ms.length∧g.ms.length≤1048576
 c:zw g.ms≤1048576
 v:∀b∈g.ms,VMB b
theorem VF.of{f:Fd}(hf:eF f.args f.regs f.bs=0)(hi:∀b∈f.bs,∀x∈b.code,InI x.imm):VF f:=by
 have hz:eSz f.args f.regs f.bs=0:=by
  by_cases h9:eSz f.args f.regs f.bs=0
  ·exact h9
  ·unfold eF at hf;rw [if_neg h9] at hf;exact absurd hf h9
 have hB:eBs f.regs f.bs.length f.bs=0:=by unfold eF at hf;rw [if_pos hz] at hf;exact hf
 obtain ⟨z1,z2,z3,z4,z5,z6⟩:=zc7 hz
 exact ⟨by omega,by omega,⟨z4,z5⟩,z6,ze7 (by omega) (by omega) _ hB hi⟩
theorem VG.of{g:Gd}(hf:eMF g.args g.regs g.slots g.ms=0)(hi:∀b∈g.ms,∀x∈b.code,InI x.imm):VG g:=by
 have hz:JL g.args g.regs g.slots g.ms=0:=by
  by_cases h9:JL g.args g.regs g.slots g.ms=0
  ·exact h9
  ·unfold eMF at hf;rw [if_neg h9] at hf;exact absurd hf h9
 have hB:jY g.regs g.slots g.ms.length g.ms=0:=by unfold eMF at hf;rw [if_pos hz] at hf;exact hf
 obtain ⟨z1,z2,z3,z4,z5,z6,z7,z8⟩:=UN hz
 exact ⟨by omega,by omega,by omega,⟨z6,z7⟩,z8,zc8 (by omega) (by omega) (by omega) _ hB hi⟩
theorem VF.byt{f:Fd}(h:VF f):Byt (zI f):=by
 have ha:=h.a;have hr:=h.r;have hn:=h.n
 unfold zI
 refine zX (yM _ (by omega)) (zX (yM _ (by omega)) (zX (yM _ (by omega)) (ZG _ _ fun b hb=> ?_)))
 have hv:=h.v b hb
 have hc:=ZH hb
 have hcc:=h.c
 exact zX (yM _ (by omega)) (zX (ZG _ _ fun y hy=>(hv.1 y hy).2.byt) hv.2.2.byt)
theorem VG.byt{g:Gd}(h:VG g):Byt (yf g):=by
 have ha:=h.a;have hr:=h.r;have hn:=h.n;have hs:=h.s
 unfold yf
 refine zX (yM _ (by omega)) (zX (yM _ (by omega)) (zX (yM _ (by omega)) (zX (yM _ (by omega)) (ZG _ _ fun b hb=> ?_))))
 have hv:=h.v b hb
 have hc:=Zn hb
 have hcc:=h.c
 exact zX (yM _ (by omega)) (zX (ZG _ _ fun y hy=>(hv.1 y hy).2.byt) hv.2.2.byt)
theorem QW{α:Type}(f:α→List Nat)(h:∀x,1≤(f x).length):∀l:List α,l.length≤(l.flatMap f).length
 | []=>by simp
 |x::r=>by
  have h1:=h x
  have h2:=QW f h r
  rw [List.flatMap_cons,List.length_append,List.length_cons]
  omega
theorem Yz:∀bs:List Blk,zN bs≤(zC bs).length
 | []=>Nat.le_refl _
 |b::r=>by
  have h1:=Yz r
  have h2:=QW (fun x=>zS (inM x)) (fun x=>by simp [zS]) b.code
  rw [show zC (b::r)=Ju b++zC r from rfl,List.length_append,jX]
  unfold Ju yF
  simp only [List.length_append]
  omega
theorem Z4:∀bs:List MBlk,zw bs≤(zn bs).length
 | []=>Nat.le_refl _
 |b::r=>by
  have h1:=Z4 r
  have h2:=QW zS (fun x=>by simp [zS]) b.code
  rw [show zn (b::r)=jl b++zn r from rfl,List.length_append,jJ]
  unfold jl yx
  simp only [List.length_append]
  omega
theorem Ud:∀bs:List Blk,2*bs.length≤(zC bs).length
 | []=>Nat.le_refl _
 |b::r=>by
  have h1:=Ud r
  have h2:=yy b.code.length
  have h3:1≤(ye b.term).length:=by simp [ye]
  rw [show zC (b::r)=Ju b++zC r from rfl,List.length_append,List.length_cons]
  unfold Ju
  simp only [List.length_append]
  omega
theorem YA:∀bs:List MBlk,2*bs.length≤(zn bs).length
 | []=>Nat.le_refl _
 |b::r=>by
  have h1:=YA r
  have h2:=yy b.code.length
  have h3:1≤(ye b.term).length:=by simp [ye]
  rw [show zn (b::r)=jl b++zn r from rfl,List.length_append,List.length_cons]
  unfold jl
  simp only [List.length_append]
  omega
theorem Zo{f:Fd}{n:Nat}(h:(zI f).length≤n):2*f.bs.length+1≤n∧zN f.bs≤n:=by
 have h1:=Yz f.bs;have h2:=Ud f.bs;have h3:=yy f.args.toNat
 unfold zI at h
 simp only [List.length_append] at h
 omega
theorem Yf{g:Gd}{n:Nat}(h:(yf g).length≤n):2*g.ms.length+1≤n∧zw g.ms≤n:=by
 have h1:=Z4 g.ms;have h2:=YA g.ms;have h3:=yy g.args.toNat
 unfold yf at h
 simp only [List.length_append] at h
 omega
theorem Qs{regs slots n:Int}(hr:regs≤1000000000)(hsl:slots≤1000000000):∀(bs:List MBlk),jY regs slots n bs=0→∀b∈bs,∀y∈b.code,y.Ok
 | [],_,b,hb=>by cases hb
 |b::r,he,c,hc=>by
  have he':(if eMB b regs slots n=0 then jY regs slots n r else eMB b regs slots n)=0:=he
  have hb:eMB b regs slots n=0:=by
   by_cases h9:eMB b regs slots n=0
   ·exact h9
   ·rw [if_neg h9] at he';exact he'
  rw [if_pos hb] at he'
  rcases List.mem_cons.1 hc with rfl|hc
  ·have hI:eCd regs slots 0 c.code=0:=by
    by_cases h9:eCd regs slots 0 c.code=0
    ·exact h9
    ·unfold eMB at hb;rw [if_neg h9] at hb;exact hb
   intro y hy
   obtain ⟨_,_,_,h4,h5⟩:=(YR.1 (Yx hI y hy)).2.rng18 hr hsl
   unfold Mi.Ok Ym
   omega
  ·exact Qs hr hsl r he' c hc
theorem YB{g:Gd}(hf:eMF g.args g.regs g.slots g.ms=0):∀b∈g.ms,∀y∈b.code,y.Ok:=by
 have hz:JL g.args g.regs g.slots g.ms=0:=by
  by_cases h9:JL g.args g.regs g.slots g.ms=0
  ·exact h9
  ·unfold eMF at hf;rw [if_neg h9] at hf;exact absurd hf h9
 have hB:jY g.regs g.slots g.ms.length g.ms=0:=by unfold eMF at hf;rw [if_pos hz] at hf;exact hf
 obtain ⟨z1,z2,z3,z4,z5,z6,z7,z8⟩:=UN hz
 exact Qs (by omega) (by omega) _ hB
end Go.Proofs.YtnifhpbgmjcndaaGreat
