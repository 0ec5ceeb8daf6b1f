import Derived.Test.YtnifhpbgmjcndaaGreatPk6
set_option linter.unusedVariables false
set_option linter.unusedSimpArgs false
set_option linter.unusedSectionVars false
set_option maxRecDepth 100000
set_option maxHeartbeats 2000000
namespace Go.Proofs.YtnifhpbgmjcndaaGreat
open Go.RowKit
def Ji(id:Nat)(x:List Nat):List Nat:=id::(zc x.length++x)
def zD:List Nat→List (List Nat)→List Nat
 |id::ids,x::xs=>Ji id x++zD ids xs
 |_,_=> []
def jG:List (List Nat)→Nat
 | []=>0
 |x::xs=>1+yc x.length+x.length+jG xs
def JV:List (List Nat)→Nat
 | []=>0
 |x::xs=>x.length+JV xs
def yS(id:Nat):List Nat→Nat × Nat × Nat
 | []=>(1,0,0)
 |x::t=>if x≠id then (7,0,0) else if (zj t).2.2≠0 then ((zj t).2.2,0,0) else if t.length<(zj t).2.1+(zj t).1 then (1,0,0) else (0,1+(zj t).2.1,(zj t).1)
def zL:List Nat→List Nat→Nat × List (List Nat) × List Nat
 | [],r=>(0, [],r)
 |id::ids,r=>if (yS id r).1≠0 then ((yS id r).1, [], []) else
  ((zL ids (r.drop ((yS id r).2.1+(yS id r).2.2))).1,((r.drop (yS id r).2.1).take (yS id r).2.2)::(zL ids (r.drop ((yS id r).2.1+(yS id r).2.2))).2.1,(zL ids (r.drop ((yS id r).2.1+(yS id r).2.2))).2.2)
def yg(ids l:List Nat):Nat:=if (zL ids l).1≠0 then (zL ids l).1 else if (zL ids l).2.2= [] then 0 else 2
theorem Jj(id:Nat)(x:List Nat):(Ji id x).length=1+yc x.length+x.length:=by
 unfold Ji yc
 rw [lp,lc]
 omega
theorem j8:∀(ids:List Nat) (xs:List (List Nat)),ids.length=xs.length→(zD ids xs).length=jG xs
 | [], [],_=>rfl
 |id::ids,x::xs,h=>by
  rw [zD,jG,lc,Jj,j8 ids xs (by simpa using h)]
 | [],_::_,h=>by simp at h
 |_::_, [],h=>by simp at h
theorem zay:∀xs:List (List Nat),jG xs≤11*xs.length+JV xs
 | []=>by simp [jG]
 |x::xs=>by
  have:=zay xs
  have:=zC x.length
  rw [jG,JV,lp]
  unfold yc
  omega
theorem Yd:∀(xs:List (List Nat)) (x:List Nat),x∈xs→x.length≤JV xs
 | [],_,h=>by simp at h
 |y::xs,x,h=>by
  rw [JV]
  rcases List.mem_cons.1 h with rfl|h
  ·omega
  ·have:=Yd xs x h
   omega
theorem Yw:∀(xs ys:List (List Nat)),jG (xs++ys)=jG xs+jG ys
 | [],ys=>by simp [jG]
 |x::xs,ys=>by rw [lD,jG,jG,Yw];omega
theorem zbT(xs:List (List Nat))(k:Nat):jG (xs.take k)≤jG xs:=by
 conv=>rhs;rw [←List.take_append_drop k xs,Yw]
 omega
theorem UI:∀(ids:List Nat) (xs:List (List Nat)) (id:Nat) (x:List Nat),ids.length=xs.length→zD (ids++ [id]) (xs++ [x])=zD ids xs++Ji id x
 | [], [],id,x,_=>by simp [zD]
 |i::ids,y::xs,id,x,h=>by
  rw [lD,lD,zD,zD,UI ids xs id x (by simpa using h),lg]
 | [],_::_,_,_,h=>by simp at h
 |_::_, [],_,_,h=>by simp at h
theorem UJ(ids:List Nat)(xs:List (List Nat))(k:Nat)(h:k<xs.length)(h':k<ids.length):zD (ids.take (k+1)) (xs.take (k+1))=zD (ids.take k) (xs.take k)++Ji ids[k] xs[k]:=by
 rw [List.take_succ_eq_append_getElem h,List.take_succ_eq_append_getElem h']
 exact UI _ _ _ _ (by rw [lu,lu];omega)
theorem zeQ(id:Nat)(x r:List Nat)(h:x.length<18446744073709551616):yS id (Ji id x++r)=(0,1+yc x.length,x.length):=by
 unfold Ji
 rw [lD,yS,lg,YP _ _ h]
 rw [if_neg (by simp),if_neg (by simp),if_neg (by simp only [lc];omega)]
 rfl
theorem Qj(id:Nat)(x r:List Nat):(Ji id x++r).drop (1+yc x.length)=x++r:=by
 unfold Ji yc
 rw [lD,Nat.add_comm 1,List.drop_succ_cons,lg,List.drop_left]
theorem zbU(id:Nat)(x r:List Nat):(Ji id x++r).drop (1+yc x.length+x.length)=r:=by
 rw [←List.drop_drop,Qj,List.drop_left]
theorem Y9:∀(ids:List Nat) (xs:List (List Nat)) (r:List Nat),ids.length=xs.length→(∀x∈xs,x.length<18446744073709551616)→zL ids (zD ids xs++r)=(0,xs,r)
 | [], [],r,_,_=>rfl
 |id::ids,x::xs,r,h,hx=>by
  have ho:=zeQ id x (zD ids xs++r) (hx x (by simp))
  rw [zD,lg,zL,ho,if_neg (by simp),Qj,zbU,List.take_left,Y9 ids xs r (by simpa using h) fun y hy=>hx y (by simp [hy])]
 | [],_::_,_,h,_=>by simp at h
 |_::_, [],_,h,_=>by simp at h
theorem UK(ids:List Nat)(xs:List (List Nat))(h:ids.length=xs.length)(hx:∀x∈xs,x.length<18446744073709551616):zL ids (zD ids xs)=(0,xs, []):=by
 have:=Y9 ids xs [] h hx
 rwa [lA] at this
theorem zaz(ids:List Nat)(xs:List (List Nat))(h:ids.length=xs.length)(hx:∀x∈xs,x.length<18446744073709551616):yg ids (zD ids xs)=0:=by
 unfold yg
 rw [UK ids xs h hx]
 rfl
theorem zbV{id:Nat}{l:List Nat}(hb:∀c∈l,c<256){h v:Nat}(he:yS id l=(0,h,v)):Ji id ((l.drop h).take v)=l.take (h+v)∧h+v≤l.length∧((l.drop h).take v).length=v:=by
 cases l with
 |nil=>simp [yS] at he
 |cons x t=>
  rw [yS] at he
  by_cases h1:x=id
  case neg=>rw [if_pos h1] at he;simp at he
  rw [if_neg (by simpa using h1)] at he
  by_cases h2:(zj t).2.2=0
  case neg=>rw [if_pos h2] at he;exact absurd (congrArg Prod.fst he) h2
  rw [if_neg (by simpa using h2)] at he
  by_cases h3:t.length<(zj t).2.1+(zj t).1
  ·rw [if_pos h3] at he;simp at he
  rw [if_neg h3] at he
  injection he with _ he
  injection he with e1 e2
  obtain ⟨n1,n2,n3⟩:=jt (l:=t) (fun c hc=>hb c (by simp [hc])) (x:=(zj t).1) (n:=(zj t).2.1) (by rw [←h2])
  rw [e2] at n3 h3
  generalize (zj t).2.1=n at*
  subst h1
  subst e1
  have hl:((t.drop n).take v).length=v:=by rw [lu,lr];omega
  have hd:(x::t).drop (1+n)=t.drop n:=by rw [Nat.add_comm,List.drop_succ_cons]
  rw [hd]
  refine ⟨?_,by rw [lp];omega,hl⟩
  unfold Ji
  rw [hl,n3,show 1+n+v=(n+v)+1 by omega,ly,←List.take_add]
theorem Yx:∀(ids l:List Nat),(∀c∈l,c<256)→(zL ids l).1=0→zD ids (zL ids l).2.1++(zL ids l).2.2=l∧(zL ids l).2.1.length=ids.length
 | [],l,_,_=>⟨by simp [zL,zD],rfl⟩
 |id::ids,l,hb,h=>by
  rw [zL] at h⊢
  by_cases h1:(yS id l).1=0
  case neg=>rw [if_pos h1] at h;exact absurd h h1
  rw [if_neg (by simpa using h1)] at h⊢
  obtain ⟨c1,c2,c3⟩:=zbV (id:=id) hb (h:=(yS id l).2.1) (v:=(yS id l).2.2) (by rw [←h1])
  obtain ⟨r1,r2⟩:=Yx ids (l.drop ((yS id l).2.1+(yS id l).2.2)) (fun c hc=>hb c (List.mem_of_mem_drop hc)) h
  refine ⟨?_,by simp [r2]⟩
  show zD (id::ids) (_::_)++_=l
  rw [zD,lg]
  show _++(zD ids _++_)=l
  rw [r1,c1,List.take_append_drop]
theorem zaA{ids l:List Nat}(h:yg ids l=0):(zL ids l).1=0∧(zL ids l).2.2= []:=by
 unfold yg at h
 by_cases h1:(zL ids l).1=0
 case neg=>rw [if_pos h1] at h;exact absurd h h1
 rw [if_neg (by simpa using h1)] at h
 refine ⟨h1,?_⟩
 by_cases h2:(zL ids l).2.2= []
 ·exact h2
 ·rw [if_neg h2] at h;cases h
theorem Zz{ids l:List Nat}(hb:∀c∈l,c<256)(h:yg ids l=0):zD ids (zL ids l).2.1=l∧(zL ids l).2.1.length=ids.length:=by
 obtain ⟨h1,h2⟩:=zaA h
 obtain ⟨h3,h4⟩:=Yx ids l hb h1
 rw [h2,lA] at h3
 exact ⟨h3,h4⟩
def SplitAt(ids l:List Nat)(k a:Nat)(xs:List (List Nat)):Prop:=
 zL ids l=((zL (ids.drop k) (l.drop a)).1,xs++(zL (ids.drop k) (l.drop a)).2.1,(zL (ids.drop k) (l.drop a)).2.2)
section
variable {ids l : List Nat} {k a : Nat} {xs : List (List Nat)}
theorem SplitAt.zero(ids l:List Nat):SplitAt ids l 0 0 []:=by simp [SplitAt]
theorem SplitAt.bad(h:SplitAt ids l k a xs)(hk:k<ids.length){e:Nat}(he:(yS ids[k] (l.drop a)).1=e)(h0:e≠0):yg ids l=e:=by
 subst he
 have:(zL ids l).1=(yS ids[k] (l.drop a)).1:=by
  rw [h,List.drop_eq_getElem_cons hk,zL,if_pos h0]
 unfold yg
 rw [this,if_pos h0]
theorem SplitAt.step(h:SplitAt ids l k a xs)(hk:k<ids.length){hd v:Nat}(he:yS ids[k] (l.drop a)=(0,hd,v)):SplitAt ids l (k+1) (a+hd+v) (xs++ [(l.drop (a+hd)).take v]):=by
 unfold SplitAt at*
 rw [h,List.drop_eq_getElem_cons hk,zL,he,if_neg (by simp)]
 simp only [List.drop_drop,lg,List.singleton_append,Nat.add_assoc]
theorem SplitAt.last(h:SplitAt ids l k a xs)(hk:ids.length≤k):zL ids l=(0,xs,l.drop a):=by
 rw [h,List.drop_eq_nil_of_le hk,zL,lA]
theorem SplitAt.fit(h:SplitAt ids l k a xs)(hk:ids.length≤k)(ha:l.length≤a):yg ids l=0∧(zL ids l).2.1=xs:=by
 have:=h.last hk
 unfold yg
 rw [this,List.drop_eq_nil_of_le ha]
 simp
theorem SplitAt.long(h:SplitAt ids l k a xs)(hk:ids.length≤k)(ha:a<l.length):yg ids l=2:=by
 have:=h.last hk
 unfold yg
 rw [this,if_neg (by simp),if_neg]
 intro e
 have:=congrArg List.length e
 rw [lr,lE] at this
 omega
end
def Cells(w:World)(B:Nat)(vs:List Value)(xs:List (List Nat)):Prop:=
 vs.length=xs.length∧∀(i:Nat) (x:List Nat),xs[i]?=some x→∃A c,vs[i]?=some (Value.slice A x.length c)∧x.length≤c∧c≤maxLen∧Sees w B A (bts x)
def SeesL(w:World)(B:Nat)(A:Option Addr)(xs:List (List Nat)):Prop:=∃vs,Sees w B A vs∧Cells w B vs xs
section
variable {w w' : World} {B B' : Nat} {A : Option Addr} {vs : List Value} {xs : List (List Nat)}
theorem Cells.nil(w:World)(B:Nat):Cells w B [] []:=⟨rfl,fun i x h=>by simp at h⟩
theorem Cells.keep(h:Cells w B vs xs)(hk:∀p:Addr,p.block<B→w'.cell? p=w.cell? p):Cells w' B vs xs:=
 ⟨h.1,fun i x hx=>by
  obtain ⟨A,c,h1,h2,h3,h4⟩:=h.2 i x hx
  exact ⟨A,c,h1,h2,h3,h4.keep hk⟩⟩
theorem Cells.more(h:Cells w B vs xs)(hB:B≤B'):Cells w B' vs xs:=
 ⟨h.1,fun i x hx=>by
  obtain ⟨A,c,h1,h2,h3,h4⟩:=h.2 i x hx
  exact ⟨A,c,h1,h2,h3,h4.more hB⟩⟩
theorem Cells.below(h:Cells w B vs xs)(hb:Below B w w'):Cells w' B vs xs:=h.keep fun _ hp=>hb.cell hp
theorem Cells.snoc(h:Cells w B vs xs){A:Option Addr}{x:List Nat}{c:Nat}(hc:x.length≤c)(hm:c≤maxLen)(hs:Sees w B A (bts x)):Cells w B (vs++ [Value.slice A x.length c]) (xs++ [x]):=by
 refine ⟨by simp [h.1],fun i y hy=> ?_⟩
 rcases Nat.lt_trichotomy i xs.length with hi|hi|hi
 ·rw [List.getElem?_append_left hi] at hy
  obtain ⟨A,c,h1,h2⟩:=h.2 i y hy
  exact ⟨A,c,by rw [List.getElem?_append_left (by rw [h.1];exact hi)];exact h1,h2⟩
 ·subst hi
  rw [List.getElem?_append_right (la _),Nat.sub_self] at hy
  injection hy with hy
  subst hy
  exact ⟨A,c,by rw [List.getElem?_append_right (by rw [h.1];exact la _),h.1,Nat.sub_self];rfl,hc,hm,hs⟩
 ·rw [List.getElem?_eq_none (by simp;omega)] at hy
  cases hy
theorem SeesL.keep(h:SeesL w B A xs)(hk:∀p:Addr,p.block<B→w'.cell? p=w.cell? p):SeesL w' B A xs:=by
 obtain ⟨vs,h1,h2⟩:=h
 exact ⟨vs,h1.keep hk,h2.keep hk⟩
theorem SeesL.more(h:SeesL w B A xs)(hB:B≤B'):SeesL w B' A xs:=by
 obtain ⟨vs,h1,h2⟩:=h
 exact ⟨vs,h1.more hB,h2.more hB⟩
theorem SeesL.below(h:SeesL w B A xs)(hb:Below B w w'):SeesL w' B A xs:=h.keep fun _ hp=>hb.cell hp
theorem SeesL.at_(h:SeesL w B A xs){i:Nat}(hi:i<xs.length):
  ∃b o Ai ci,A=some ⟨b,o,none⟩∧b<B∧w.cell? ⟨b,o+i,none⟩=some (.slice Ai xs[i].length ci)∧xs[i].length≤ci∧ci≤maxLen∧Sees w B Ai (bts xs[i]):=by
 obtain ⟨vs,h1,h2,h3⟩:=h
 obtain ⟨Ai,ci,h4,h5,h6,h7⟩:=h3 i xs[i] (List.getElem?_eq_getElem hi)
 obtain ⟨b,o,hA,hb,hc⟩:=h1 (by intro e;subst e;simp at h4)
 exact ⟨b,o,Ai,ci,hA,hb,hc i _ h4,h5,h6,h7⟩
end
theorem zeR:(Tryz.prog.info? 22).map (fun i=>(i.zero,i.size,i.bytes))=some (some (.slice none 0 0),1,24):=by kernel_rfl
def zgP(w:World)(l:List Nat)(e:Ending)(w':World):Prop:=
 ∃A' c',e= .returned (.tuple #[.slice A' l.length c',.int .i64 0])∧w'.ownsRow w.heap.size 5 1 (.slice A' l.length c') l.length (bts l)∧Below w.heap.size w w'
theorem ZA(ids:List Nat)(xs:List (List Nat))(k:Nat)(h:ids.length=xs.length):(zD (ids.take k) (xs.take k)).length≤jG xs:=by
 rw [j8 _ _ (by rw [lu,lu,h])]
 exact zbT xs k
theorem zeS(B:Nat)(A A':Option Addr)(ids:List Nat)(xs:List (List Nat))(c c':Nat)(w:World)(hi:Sees w B A (bts ids))(hs:SeesL w B A' xs)(hB:B≤w.heap.size)(hlen:ids.length=xs.length)(hby:Byt ids)(hn:xs.length≤1000)(hm:jG xs≤1000000)(htot:JV xs≤1000000):
  Calls Tryz.prog 44 #[.slice A ids.length c,.slice A' xs.length c'] w (zgP w (zD ids xs)):=by
 have e1:((ids.length:Int) !=(xs.length:Int))=false:=by simp;omega
 have HL:=qH hlen
 have HBY:=qH hby
 clear hlen hby
 go_enter Tryz.func44,Tryz.ntmps44
 go_wp2
 go_loopw [16] (fun i wr=>∃(k:Nat) (v:Value),k≤xs.length∧i= .int .i64 k∧Hid (Wri wr w.heap.size wr.heap.size v (zD (ids.take k) (xs.take k)))∧Hid (Mods (Zt w.heap.size) w wr)) (fun i _=>xs.length - (intOf i).toNat)
 case atStart=>exact ⟨0,_,lF _,rfl,by
  have:=Wri.new w
  simpa [zD,Hid] using this,(Mods.refl _ _).alloc _⟩
 case round=>
  obtain ⟨k,v,hk,rfl,HW,HM⟩:=hrel
  by_cases hlt:k<xs.length
  ·have hlti:k<ids.length:=by have:=HL.out;omega
   have hbel:Below w.heap.size w wr:=HM.out.below (la _) fun k hk=>hk
   have hi0:=(hi.more hB).below hbel
   have hs0:=(hs.more hB).below hbel
   obtain ⟨b,o,rfl,_,hc⟩:=hi0 (JU hlti)
   have hcell:wr.cell? ⟨b,o+k,none⟩=some (.int .u8 (ids[k]:Int)):=hc k _ (by simp [bts,hlti])
   obtain ⟨b',o',Ai,ci,rfl,_,hcell',hci,hcm,hsi⟩:=hs0.at_ hlt
   have hx:ids[k]<256:=HBY.out _ (List.getElem_mem hlti)
   have HT:=qH (UJ ids xs k hlt hlti)
   have hl1:=ZA ids xs k HL.out
   have hxl:xs[k].length≤1000000:=lf (Yd xs _ (List.getElem_mem hlt)) htot
   have HS:=qH hsi
   have hbz:=hbel.size
   clear hi0 hs0 hc hsi hi hs hbel
   generalize ids[k]=id at*
   generalize xs[k]=x at*
   go_wp2_with fail
   refine (zeh HW.out id hx (by omega)).mono ?_
   rintro e Wa ⟨rfl,⟨va,hwa⟩,hma⟩
   have HWa:=qH hwa
   have HMa:=qH (HM.out.trans hma)
   have HSa:=qH (HS.out.below (hma.below hbz fun k hk=>hk))
   have hza:w.heap.size≤Wa.heap.size:=HMa.out.size
   clear hwa hma HW HM HS
   go_wp2_with fail
   refine (zei HWa.out (x.length:Int) (by omega) (by omega) (by rw [lc];simp only [lp,lE];omega) (la _)).mono ?_
   rintro e Wb ⟨rfl,⟨vb,hwb⟩,hmb⟩
   rw [Int.toNat_natCast] at hwb
   have HWb:=qH hwb
   have HMb:=qH (HMa.out.trans hmb)
   have HSb:=qH (HSa.out.below (hmb.below hza fun k hk=>hk))
   have hzb:w.heap.size≤Wb.heap.size:=HMb.out.size
   have hpl:=zC x.length
   clear hwb hmb HWa HMa HSa
   go_wp2_with fail
   refine (Yk HWb.out Ai x ci _ HSb.out hzb (by rw [lc,lc];simp only [lp,lE];omega)).mono ?_
   rintro e Wc ⟨rfl,⟨vc,hwc⟩,hmc⟩
   have HWc:=qH hwc
   have HMc:=qH (HMb.out.trans hmc)
   clear hwc hmc HWb HMb HSb
   go_wp2
   go_roundw
   case rel=>exact ⟨k+1,vc,by omega,by go_num,by
    rw [HT.out]
    have:=HWc.out
    simpa [Ji,Hid] using this,HMc.out⟩
   case measure=>simp [intOf];omega
  ·obtain rfl:k=xs.length:=by omega
   rw [←HL.out,List.take_length,HL.out,List.take_length] at HW
   have hl1:(zD ids xs).length≤70368744177664:=by rw [j8 ids xs HL.out];omega
   go_wp2_with fail
   refine (Uv HW.out hl1).mono ?_
   rintro e Wd ⟨Ad,cd,rfl,ho,hb⟩
   have hbel:Below w.heap.size w wr:=HM.out.below (la _) fun k hk=>hk
   have HB:=qH (hbel.trans (hb.mono hbel.size))
   have HO:=qH (show Wd.ownsRow w.heap.size 5 1 (.slice Ad (zD ids xs).length cd) (zD ids xs).length (bts (zD ids xs)) from ⟨ho.1,by
    rcases ho.2 with h|⟨g,cap,cur,h1,h2,h3⟩
    ·exact .inl h
    ·exact .inr ⟨g,cap,cur,h1,lf hbel.size h2,h3⟩⟩)
   clear ho hb hbel
   go_wp2
   go_ret2
   exact ⟨Ad,cd,rfl,HO.out,HB.out⟩
theorem zgf(B:Nat)(A:Option Addr)(id:Nat)(x:List Nat)(c:Nat)(w:World)(hs:Sees w B A (bts x))(hB:B≤w.heap.size)(hid:id<256)(hm:x.length≤1000000):
  Calls Tryz.prog 103 #[.int .u8 id,.slice A x.length c] w (zdq w (Ji id x)):=by
 obtain ⟨i0,hi0,hz0,hz1,hz2'⟩:=info_parts infoU8
 have HS:=qH (hs.more hB)
 have HP:=qH (Zy (x.length:Int) (w.alloc (.cells #[.int .u8 id] 5)) (by omega) (by omega))
 have hpl:yc x.length≤10:=zC x.length
 have HLE:=qH (Jj id x)
 clear hs
 go_enter Tryz.func103,Tryz.ntmps103
 go_wp2_with fail
 refine HP.out.mono ?_
 rintro e W1 ⟨g,c1,rfl,ho1,hb1⟩
 rw [Int.toNat_natCast] at ho1
 have hno:(w.alloc (.cells #[.int .u8 id] 5)).ownsRow w.heap.size 5 1 (.slice (some ⟨w.heap.size,0,none⟩) 1 1) 1 (bts [id]):=
  ⟨rfl,.inr ⟨w.heap.size,1,_,rfl,la _,heap_alloc_new w _,la _,by decide,rfl,rfl⟩⟩
 have hn1:=(Mods.of_below (S:=No) hb1).own hno fun _ _ h=>h
 have HN1:=qH hn1
 have HO1:=qH ho1
 have hzz:w.heap.size+1≤W1.heap.size:=by have:=hb1.size;simpa using this
 have HB1:=qH (((ld w.heap.size w).alloc (la _) (.cells #[.int .u8 id] 5)).trans (hb1.mono (by simp)))
 clear ho1 hb1 hno hn1 HP
 go_wp2_with (at_builtin;refine zv _ rfl (.tmp 7) (.tmp 11) 22 rfl w.heap.size 5 i0 (.int .u8 0) 1 Tryz.underlying22 hi0 hz0 hz1 hz2' rfl _ _ _ rfl HN1.out W1.heap.size _ _ _ (bts (zc x.length)) rfl (Sees.of_own HO1.out) (zg _) (ye _) ?c1 ?c2 ?c3 ?_)
 case c1=>unfold maxLen;omega
 case c2=>omega
 case c3=>omega
 intro v1 W2 ho2 hg2
 have HB2:=qH (HB1.out.grown hg2 (by omega) fun k hk=>by
  simp only [Value.ownBlock,Option.some.injEq] at hk
  omega)
 rw [←yx] at ho2
 have HO2:=qH ho2
 have HS2:=qH (HS.out.below HB2.out)
 have hz2:w.heap.size≤W2.heap.size:=HB2.out.size
 clear ho2 hg2 HB1 HN1 HO1 HS
 go_wp2_with (at_builtin;refine zv _ rfl (.tmp 13) (.tmp 14) 22 rfl w.heap.size 5 i0 (.int .u8 0) 1 Tryz.underlying22 hi0 hz0 hz1 hz2' rfl _ _ _ rfl HO2.out w.heap.size _ _ _ (bts x) rfl HS2.out (zg _) (ye _) ?d1 ?d2 ?d3 ?_)
 case d1=>unfold maxLen;omega
 case d2=>omega
 case d3=>omega
 intro v2 W3 ho3 hg3
 have HB3:=qH (HB2.out.grown hg3 hz2 fun k hk=>(jr HO2.out k hk).1)
 have HO3:Hid (W3.ownsRow w.heap.size 5 1 v2 (Ji id x).length (bts (Ji id x))):=by
  rw [HLE.out]
  rw [←yx] at ho3
  exact ho3
 obtain ⟨A3,c3,rfl,_,_⟩:=yi HO3.out (zg _)
 clear ho3 hg3
 go_wp2
 go_ret
 exact ⟨A3,c3,rfl,HO3.out,HB3.out⟩
theorem zeT{w:World}{base n g c:Nat}{e:TypeId}{xs:List Value}(h:w.ownsRow base e 1 (.slice (some ⟨g,0,none⟩) n c) n xs):∀j u,xs[j]?=some u→w.cell? ((⟨g,0,none⟩:Addr).add j)=some u:=fun j u hu=>h.cells (g:=g) rfl j u hu
theorem zdM(B:Nat)(A A':Option Addr)(ids:List Nat)(xs:List (List Nat))(c c':Nat)(w:World)(hi:Sees w B A (bts ids))(hs:SeesL w B A' xs)(hB:B≤w.heap.size)(hlen:ids.length=xs.length)(hby:Byt ids)(hn:xs.length≤1000)(hm:jG xs≤1000000)(htot:JV xs≤1000000):
  Calls Tryz.prog 46 #[.slice A ids.length c,.slice A' xs.length c'] w (zdq w (zD ids xs)):=by
 obtain ⟨i0,hi0,hz0,hz1,hz2⟩:=info_parts infoU8
 have HL:=qH hlen
 have HBY:=qH hby
 clear hlen hby
 go_enter Tryz.func46,Tryz.ntmps46
 go_wp2
 go_loopw [5,6] (fun s j wr=>∃(k:Nat) (v:Value),k≤xs.length∧v=s∧j= .int .i64 k∧Hid (wr.ownsRow w.heap.size 5 1 v (zD (ids.take k) (xs.take k)).length (bts (zD (ids.take k) (xs.take k))))∧Hid (Below w.heap.size w wr)) (fun _ j _=>xs.length - (intOf j).toNat)
 case atStart=>exact ⟨0,_,lF _,rfl,rfl,⟨rfl,.inl ⟨rfl,rfl⟩⟩,ld _ _⟩
 case round=>
  obtain ⟨k,v,hk,rfl,rfl,HO,HB⟩:=hrel
  by_cases hlt:k<xs.length
  ·have hlti:k<ids.length:=by have:=HL.out;omega
   have hi0':=(hi.more hB).below HB.out
   have hs0:=(hs.more hB).below HB.out
   obtain ⟨b,o,rfl,hbl,hc⟩:=hi0' (JU hlti)
   have hcell:wr.cell? ⟨b,o+k,none⟩=some (.int .u8 (ids[k]:Int)):=hc k _ (by simp [bts,hlti])
   obtain ⟨b',o',Ai,ci,rfl,hbl',hcell',hci,hcm,hsi⟩:=hs0.at_ hlt
   have HX:=qH (And.intro hcell hcell')
   have hx:ids[k]<256:=HBY.out _ (List.getElem_mem hlti)
   have HT:=qH (UJ ids xs k hlt hlti)
   have hl1:=ZA ids xs k HL.out
   have hxl:xs[k].length≤1000000:=lf (Yd xs _ (List.getElem_mem hlt)) htot
   have hbz:=HB.out.size
   have HC:Hid (∀w0,(∃m,w0=wr.drewN m)→Calls Tryz.prog 103 #[.int .u8 ids[k],.slice Ai xs[k].length ci] w0 fun e w'=>∃g cap,e= .returned (.slice (some ⟨g,0,none⟩) (Ji ids[k] xs[k]).length cap)∧
     w'.ownsRow wr.heap.size 5 1 (.slice (some ⟨g,0,none⟩) (Ji ids[k] xs[k]).length cap) (Ji ids[k] xs[k]).length (bts (Ji ids[k] xs[k]))∧Below wr.heap.size wr w'):=fun w0 ⟨m,hm⟩=>by
    subst hm
    refine (zgf w.heap.size Ai ids[k] xs[k] ci (wr.drewN m) (hsi.drewN m) hbz hx hxl).mono ?_
    rintro e w' ⟨A9,c9,rfl,h1,h2⟩
    obtain ⟨g,cap,hv,_⟩:=h1.form (by rw [Jj];omega)
    rw [hv] at h1⊢
    exact ⟨g,cap,rfl,h1,Qe h2 (la _)⟩
   have HLE:=qH (Jj ids[k] xs[k])
   have hpl:yc xs[k].length≤10:=zC _
   have hle2:1≤(Ji ids[k] xs[k]).length∧(Ji ids[k] xs[k]).length≤1000011:=by rw [Jj];omega
   clear hi0' hs0 hc hsi hi hs hcell hcell'
   generalize ids[k]=id at*
   generalize xs[k]=x at*
   go_wp2_with fail
   go_region_held_law (fun w'=>w'.cell? ⟨b,o+k,none⟩=some (.int .u8 (id:Int))∧w'.cell? ⟨b',o'+k,none⟩=some (.slice Ai x.length ci)) (first|exact HX.out|exact hXa|exact hXb) (first
    |(go_at_call 103;go_must ((with_reducible refine (HC.out _ (by first|exact ⟨1,rfl⟩|exact ⟨0,rfl⟩|exact ⟨_,rfl⟩)).mono ?_);rintro e Wa ⟨g1,ca,rfl,ho,hb⟩;have HOa:=qH ho;have HBb:=qH (HB.out.trans (hb.mono hbz));have hza:=HBb.out.size;have HVa:=qH ((Mods.of_below (S:=No) hb).own HO.out (fun _ _ h=>h));have hXa:Wa.cell? ⟨b,o+k,none⟩=some (.int .u8 (id:Int))∧Wa.cell? ⟨b',o'+k,none⟩=some (.slice Ai x.length ci):=(And.intro ((hb.cell (p:=⟨b,o+k,none⟩) (by show b<_;omega)).trans HX.out.1) ((hb.cell (p:=⟨b',o'+k,none⟩) (by show b'<_;omega)).trans HX.out.2));clear ho hb))
    |(refine step_append_lies _ rfl (.tmp 13) (.tmp 22) 22 rfl w.heap.size 5 i0 (.int .u8 0) 1 1 Tryz.underlying22 hi0 hz0 hz1 hz2 rfl (by decide) _ _ _ rfl HVa.out ⟨g1,0,none⟩ _ _ (bts (Ji id x)) rfl (by rw [zg,Nat.mul_one]) (zeT HOa.out) (ye _) (by omega) (by unfold maxLen;omega) (by omega) (by omega) _ rfl ?_;intro g2 cap2 W2 ho2 hg2 hat2 hlt2;have HO2:=qH ho2;have HB2:=qH (HBb.out.grown hg2 (by omega) (fun k hk=>(jr HVa.out k hk).1));have hXb:W2.cell? ⟨b,o+k,none⟩=some (.int .u8 (id:Int))∧W2.cell? ⟨b',o'+k,none⟩=some (.slice Ai x.length ci):=(And.intro ((HB2.out.cell (p:=⟨b,o+k,none⟩) hbl).trans ((HB.out.cell (p:=⟨b,o+k,none⟩) hbl).symm.trans HX.out.1)) ((HB2.out.cell (p:=⟨b',o'+k,none⟩) hbl').trans ((HB.out.cell (p:=⟨b',o'+k,none⟩) hbl').symm.trans HX.out.2)));clear ho2 hg2)
    )
   clear HX hXa hXb HC HOa HVa HO HB
   go_wp2
   go_roundw
   case rel=>exact ⟨k+1,_,by omega,rfl,by go_num,by
    rw [HT.out,lc,yx]
    exact HO2.out,HB2.out⟩
   case measure=>simp [intOf];omega
  ·obtain rfl:k=xs.length:=by omega
   rw [←HL.out,List.take_length,HL.out,List.take_length] at HO
   obtain ⟨A3,c3,rfl,_,_⟩:=yi HO.out (zg _)
   go_wp2
   go_ret
   exact ⟨A3,c3,rfl,HO.out,HB.out⟩
end Go.Proofs.YtnifhpbgmjcndaaGreat
