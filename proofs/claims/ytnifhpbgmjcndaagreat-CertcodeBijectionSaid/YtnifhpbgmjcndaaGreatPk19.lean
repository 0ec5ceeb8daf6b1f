import Derived.Test.YtnifhpbgmjcndaaGreatPk6
set_option linter.unusedVariables false
set_option linter.unusedSimpArgs false
set_option linter.unusedSectionVars false
set_option maxRecDepth 100000
set_option maxHeartbeats 2000000
namespace Go.Proofs.YtnifhpbgmjcndaaGreat
open Go.RowKit
def jj(id:Nat)(x:List Nat):List Nat:=id::(zc x.length++x)
def zq:List Nat→List (List Nat)→List Nat
 |id::ids,x::xs=>jj id x++zq ids xs
 |_,_=> []
def jy:List (List Nat)→Nat
 | []=>0
 |x::xs=>1+zQ x.length+x.length+jy xs
def JV:List (List Nat)→Nat
 | []=>0
 |x::xs=>x.length+JV xs
def yT(id:Nat):List Nat→Nat × Nat × Nat
 | []=>(1,0,0)
 |x::t=>if x≠id then (7,0,0) else if (zp t).2.2≠0 then ((zp t).2.2,0,0) else if t.length<(zp t).2.1+(zp t).1 then (1,0,0) else (0,1+(zp t).2.1,(zp t).1)
def zM:List Nat→List Nat→Nat × List (List Nat) × List Nat
 | [],r=>(0, [],r)
 |id::ids,r=>if (yT id r).1≠0 then ((yT id r).1, [], []) else
  ((zM ids (r.drop ((yT id r).2.1+(yT id r).2.2))).1,((r.drop (yT id r).2.1).take (yT id r).2.2)::(zM ids (r.drop ((yT id r).2.1+(yT id r).2.2))).2.1,(zM ids (r.drop ((yT id r).2.1+(yT id r).2.2))).2.2)
def yj(ids l:List Nat):Nat:=if (zM ids l).1≠0 then (zM ids l).1 else if (zM ids l).2.2= [] then 0 else 2
theorem jN(id:Nat)(x:List Nat):(jj id x).length=1+zQ x.length+x.length:=by
 unfold jj zQ
 rw [List.length_cons,List.length_append]
 omega
theorem jG:∀(ids:List Nat) (xs:List (List Nat)),ids.length=xs.length→(zq ids xs).length=jy xs
 | [], [],_=>rfl
 |id::ids,x::xs,h=>by
  rw [zq,jy,List.length_append,jN,jG ids xs (by simpa using h)]
 | [],_::_,h=>by simp at h
 |_::_, [],h=>by simp at h
theorem zaC:∀xs:List (List Nat),jy xs≤11*xs.length+JV xs
 | []=>by simp [jy]
 |x::xs=>by
  have:=zaC xs
  have:=zA x.length
  rw [jy,JV,List.length_cons]
  unfold zQ
  omega
theorem Ye:∀(xs:List (List Nat)) (x:List Nat),x∈xs→x.length≤JV xs
 | [],_,h=>by simp at h
 |y::xs,x,h=>by
  rw [JV]
  rcases List.mem_cons.1 h with rfl|h
  ·omega
  ·have:=Ye xs x h
   omega
theorem Ys:∀(xs ys:List (List Nat)),jy (xs++ys)=jy xs+jy ys
 | [],ys=>by simp [jy]
 |x::xs,ys=>by rw [List.cons_append,jy,jy,Ys];omega
theorem zbY(xs:List (List Nat))(k:Nat):jy (xs.take k)≤jy xs:=by
 conv=>rhs;rw [←List.take_append_drop k xs,Ys]
 omega
theorem UG:∀(ids:List Nat) (xs:List (List Nat)) (id:Nat) (x:List Nat),ids.length=xs.length→zq (ids++ [id]) (xs++ [x])=zq ids xs++jj id x
 | [], [],id,x,_=>by simp [zq]
 |i::ids,y::xs,id,x,h=>by
  rw [List.cons_append,List.cons_append,zq,zq,UG ids xs id x (by simpa using h),List.append_assoc]
 | [],_::_,_,_,h=>by simp at h
 |_::_, [],_,_,h=>by simp at h
theorem UH(ids:List Nat)(xs:List (List Nat))(k:Nat)(h:k<xs.length)(h':k<ids.length):zq (ids.take (k+1)) (xs.take (k+1))=zq (ids.take k) (xs.take k)++jj ids[k] xs[k]:=by
 rw [List.take_succ_eq_append_getElem h,List.take_succ_eq_append_getElem h']
 exact UG _ _ _ _ (by rw [List.length_take,List.length_take];omega)
theorem zeW{id:Nat}{x:List Nat}(hi:id<256)(hx:∀c∈x,c<256)(hl:x.length<18446744073709551616):∀c∈jj id x,c<256:=by
 intro c hc
 unfold jj at hc
 rcases List.mem_cons.1 hc with rfl|hc
 ·exact hi
 ·rcases List.mem_append.1 hc with hc|hc
  ·exact zak _ (by (have:(18446744073709551616:Nat)<128 ^ 10:=by decide);omega) c hc
  ·exact hx c hc
theorem Qn:∀(ids:List Nat) (xs:List (List Nat)),(∀c∈ids,c<256)→(∀x∈xs,∀c∈x,c<256)→(∀x∈xs,x.length<18446744073709551616)→∀c∈zq ids xs,c<256
 | [], [],_,_,_=>by simp [zq]
 | [],_::_,_,_,_=>by simp [zq]
 |_::_, [],_,_,_=>by simp [zq]
 |id::ids,x::xs,h1,h2,h3=>by
  intro c hc
  rw [zq] at hc
  rcases List.mem_append.1 hc with hc|hc
  ·exact zeW (h1 id (by simp)) (h2 x (by simp)) (h3 x (by simp)) c hc
  ·exact Qn ids xs (fun c hc=>h1 c (by simp [hc])) (fun x hx=>h2 x (by simp [hx])) (fun x hx=>h3 x (by simp [hx])) c hc
theorem zaD(id:Nat)(x r:List Nat)(h:x.length<18446744073709551616):yT id (jj id x++r)=(0,1+zQ x.length,x.length):=by
 unfold jj
 rw [List.cons_append,yT,List.append_assoc,ZQ _ _ h]
 rw [if_neg (by simp),if_neg (by simp),if_neg (by simp only [List.length_append];omega)]
 rfl
theorem Qo(id:Nat)(x r:List Nat):(jj id x++r).drop (1+zQ x.length)=x++r:=by
 unfold jj zQ
 rw [List.cons_append,Nat.add_comm 1,List.drop_succ_cons,List.append_assoc,List.drop_left]
theorem UI(id:Nat)(x r:List Nat):(jj id x++r).drop (1+zQ x.length+x.length)=r:=by
 rw [←List.drop_drop,Qo,List.drop_left]
theorem ZC:∀(ids:List Nat) (xs:List (List Nat)) (r:List Nat),ids.length=xs.length→(∀x∈xs,x.length<18446744073709551616)→zM ids (zq ids xs++r)=(0,xs,r)
 | [], [],r,_,_=>rfl
 |id::ids,x::xs,r,h,hx=>by
  have ho:=zaD id x (zq ids xs++r) (hx x (by simp))
  rw [zq,List.append_assoc,zM,ho,if_neg (by simp),Qo,UI,List.take_left,ZC ids xs r (by simpa using h) fun y hy=>hx y (by simp [hy])]
 | [],_::_,_,h,_=>by simp at h
 |_::_, [],_,h,_=>by simp at h
theorem UJ(ids:List Nat)(xs:List (List Nat))(h:ids.length=xs.length)(hx:∀x∈xs,x.length<18446744073709551616):zM ids (zq ids xs)=(0,xs, []):=by
 have:=ZC ids xs [] h hx
 rwa [List.append_nil] at this
theorem zaE(ids:List Nat)(xs:List (List Nat))(h:ids.length=xs.length)(hx:∀x∈xs,x.length<18446744073709551616):yj ids (zq ids xs)=0:=by
 unfold yj
 rw [UJ ids xs h hx]
 rfl
theorem zaF(ids:List Nat)(xs:List (List Nat))(y:Nat)(h:ids.length=xs.length)(hx:∀x∈xs,x.length<18446744073709551616):yj ids (zq ids xs++ [y])=2:=by
 unfold yj
 rw [ZC ids xs [y] h hx]
 simp
theorem zbZ{id:Nat}{l:List Nat}(hb:∀c∈l,c<256){h v:Nat}(he:yT id l=(0,h,v)):jj id ((l.drop h).take v)=l.take (h+v)∧h+v≤l.length∧((l.drop h).take v).length=v:=by
 cases l with
 |nil=>simp [yT] at he
 |cons x t=>
  rw [yT] at he
  by_cases h1:x=id
  case neg=>rw [if_pos h1] at he;simp at he
  rw [if_neg (by simpa using h1)] at he
  by_cases h2:(zp t).2.2=0
  case neg=>rw [if_pos h2] at he;exact absurd (congrArg Prod.fst he) h2
  rw [if_neg (by simpa using h2)] at he
  by_cases h3:t.length<(zp t).2.1+(zp t).1
  ·rw [if_pos h3] at he;simp at he
  rw [if_neg h3] at he
  injection he with _ he
  injection he with e1 e2
  obtain ⟨n1,n2,n3⟩:=Zc (l:=t) (fun c hc=>hb c (by simp [hc])) (x:=(zp t).1) (n:=(zp t).2.1) (by rw [←h2])
  rw [e2] at n3 h3
  generalize (zp t).2.1=n at*
  subst h1
  subst e1
  have hl:((t.drop n).take v).length=v:=by rw [List.length_take,List.length_drop];omega
  have hd:(x::t).drop (1+n)=t.drop n:=by rw [Nat.add_comm,List.drop_succ_cons]
  rw [hd]
  refine ⟨?_,by rw [List.length_cons];omega,hl⟩
  unfold jj
  rw [hl,n3,show 1+n+v=(n+v)+1 by omega,List.take_succ_cons,←List.take_add]
theorem Yt:∀(ids l:List Nat),(∀c∈l,c<256)→(zM ids l).1=0→zq ids (zM ids l).2.1++(zM ids l).2.2=l∧(zM ids l).2.1.length=ids.length
 | [],l,_,_=>⟨by simp [zM,zq],rfl⟩
 |id::ids,l,hb,h=>by
  rw [zM] at h⊢
  by_cases h1:(yT id l).1=0
  case neg=>rw [if_pos h1] at h;exact absurd h h1
  rw [if_neg (by simpa using h1)] at h⊢
  obtain ⟨c1,c2,c3⟩:=zbZ (id:=id) hb (h:=(yT id l).2.1) (v:=(yT id l).2.2) (by rw [←h1])
  obtain ⟨r1,r2⟩:=Yt ids (l.drop ((yT id l).2.1+(yT id l).2.2)) (fun c hc=>hb c (List.mem_of_mem_drop hc)) h
  refine ⟨?_,by simp [r2]⟩
  show zq (id::ids) (_::_)++_=l
  rw [zq,List.append_assoc]
  show _++(zq ids _++_)=l
  rw [r1,c1,List.take_append_drop]
theorem zaG{ids l:List Nat}(h:yj ids l=0):(zM ids l).1=0∧(zM ids l).2.2= []:=by
 unfold yj at h
 by_cases h1:(zM ids l).1=0
 case neg=>rw [if_pos h1] at h;exact absurd h h1
 rw [if_neg (by simpa using h1)] at h
 refine ⟨h1,?_⟩
 by_cases h2:(zM ids l).2.2= []
 ·exact h2
 ·rw [if_neg h2] at h;cases h
theorem Ub{ids l:List Nat}(hb:∀c∈l,c<256)(h:yj ids l=0):zq ids (zM ids l).2.1=l∧(zM ids l).2.1.length=ids.length:=by
 obtain ⟨h1,h2⟩:=zaG h
 obtain ⟨h3,h4⟩:=Yt ids l hb h1
 rw [h2,List.append_nil] at h3
 exact ⟨h3,h4⟩
theorem zeX(id:Nat)(x:List Nat)(k:Nat)(hk:k<(jj id x).length)(h:x.length<18446744073709551616):yT id ((jj id x).take k)=(1,0,0):=by
 rw [jN] at hk
 cases k with
 |zero=>rfl
 |succ j=>
  unfold jj
  rw [List.take_succ_cons,yT,if_neg (by simp)]
  by_cases hj:j<zQ x.length
  ·rw [List.take_append_of_le_length (by unfold zQ at hj;omega),Zw _ _ hj,if_pos (by simp)]
  ·obtain ⟨q,rfl⟩:∃q,j=zQ x.length+q:=⟨j - zQ x.length,by omega⟩
   have:(zc x.length++x).take (zQ x.length+q)=zc x.length++x.take q:=by
    unfold zQ
    rw [List.take_append,List.take_of_length_le (by omega)]
    simp
   rw [this,ZQ _ _ h,if_neg (by simp),if_pos (by simp only [List.length_append,List.length_take];omega)]
theorem UK:∀(ids:List Nat) (xs:List (List Nat)) (k:Nat),ids.length=xs.length→(∀x∈xs,x.length<18446744073709551616)→k<(zq ids xs).length→(zM ids ((zq ids xs).take k)).1=1
 | [], [],k,_,_,hk=>by simp [zq] at hk
 |id::ids,x::xs,k,h,hx,hk=>by
  rw [zq] at hk⊢
  rw [zM]
  have hxl:=hx x (by simp)
  by_cases h1:k<(jj id x).length
  ·rw [List.take_append_of_le_length (by omega),zeX id x k h1 hxl,if_pos (by simp)]
  ·obtain ⟨q,rfl⟩:∃q,k=(jj id x).length+q:=⟨k - (jj id x).length,by omega⟩
   have e:(jj id x++zq ids xs).take ((jj id x).length+q)=jj id x++(zq ids xs).take q:=by
    rw [List.take_append,List.take_of_length_le (by omega)]
    simp
   rw [e,zaD id x _ hxl,if_neg (by simp),UI]
   rw [List.length_append] at hk
   exact UK ids xs q (by simpa using h) (fun y hy=>hx y (by simp [hy])) (by omega)
 | [],_::_,_,h,_,_=>by simp at h
 |_::_, [],_,h,_,_=>by simp at h
theorem zb0(ids:List Nat)(xs:List (List Nat))(k:Nat)(h:ids.length=xs.length)(hx:∀x∈xs,x.length<18446744073709551616)(hk:k<(zq ids xs).length):yj ids ((zq ids xs).take k)=1:=by
 unfold yj
 rw [UK ids xs k h hx hk]
 rfl
def SplitAt(ids l:List Nat)(k a:Nat)(xs:List (List Nat)):Prop:=
 zM ids l=((zM (ids.drop k) (l.drop a)).1,xs++(zM (ids.drop k) (l.drop a)).2.1,(zM (ids.drop k) (l.drop a)).2.2)
section
variable {ids l : List Nat} {k a : Nat} {xs : List (List Nat)}
theorem SplitAt.zero(ids l:List Nat):SplitAt ids l 0 0 []:=by simp [SplitAt]
theorem SplitAt.bad(h:SplitAt ids l k a xs)(hk:k<ids.length){e:Nat}(he:(yT ids[k] (l.drop a)).1=e)(h0:e≠0):yj ids l=e:=by
 subst he
 have:(zM ids l).1=(yT ids[k] (l.drop a)).1:=by
  rw [h,List.drop_eq_getElem_cons hk,zM,if_pos h0]
 unfold yj
 rw [this,if_pos h0]
theorem SplitAt.step(h:SplitAt ids l k a xs)(hk:k<ids.length){hd v:Nat}(he:yT ids[k] (l.drop a)=(0,hd,v)):SplitAt ids l (k+1) (a+hd+v) (xs++ [(l.drop (a+hd)).take v]):=by
 unfold SplitAt at*
 rw [h,List.drop_eq_getElem_cons hk,zM,he,if_neg (by simp)]
 simp only [List.drop_drop,List.append_assoc,List.singleton_append,Nat.add_assoc]
theorem SplitAt.last(h:SplitAt ids l k a xs)(hk:ids.length≤k):zM ids l=(0,xs,l.drop a):=by
 rw [h,List.drop_eq_nil_of_le hk,zM,List.append_nil]
theorem SplitAt.fit(h:SplitAt ids l k a xs)(hk:ids.length≤k)(ha:l.length≤a):yj ids l=0∧(zM ids l).2.1=xs:=by
 have:=h.last hk
 unfold yj
 rw [this,List.drop_eq_nil_of_le ha]
 simp
theorem SplitAt.long(h:SplitAt ids l k a xs)(hk:ids.length≤k)(ha:a<l.length):yj ids l=2:=by
 have:=h.last hk
 unfold yj
 rw [this,if_neg (by simp),if_neg]
 intro e
 have:=congrArg List.length e
 rw [List.length_drop,List.length_nil] at this
 omega
end
def Cells(w:World)(B:Nat)(vs:List Value)(xs:List (List Nat)):Prop:=
 vs.length=xs.length∧∀(i:Nat) (x:List Nat),xs[i]?=some x→∃A c,vs[i]?=some (Value.slice A x.length c)∧x.length≤c∧c≤maxLen∧Sees w B A (bts x)
def SeesL(w:World)(B:Nat)(A:Option Addr)(xs:List (List Nat)):Prop:=∃vs,Sees w B A vs∧Cells w B vs xs
section
variable {w w' : World} {B B' : Nat} {A : Option Addr} {vs : List Value} {xs : List (List Nat)}
theorem Cells.keep(h:Cells w B vs xs)(hk:∀p:Addr,p.block<B→w'.cell? p=w.cell? p):Cells w' B vs xs:=
 ⟨h.1,fun i x hx=>by
  obtain ⟨A,c,h1,h2,h3,h4⟩:=h.2 i x hx
  exact ⟨A,c,h1,h2,h3,h4.keep hk⟩⟩
theorem Cells.more(h:Cells w B vs xs)(hB:B≤B'):Cells w B' vs xs:=
 ⟨h.1,fun i x hx=>by
  obtain ⟨A,c,h1,h2,h3,h4⟩:=h.2 i x hx
  exact ⟨A,c,h1,h2,h3,h4.more hB⟩⟩
theorem SeesL.keep(h:SeesL w B A xs)(hk:∀p:Addr,p.block<B→w'.cell? p=w.cell? p):SeesL w' B A xs:=by
 obtain ⟨vs,h1,h2⟩:=h
 exact ⟨vs,h1.keep hk,h2.keep hk⟩
theorem SeesL.more(h:SeesL w B A xs)(hB:B≤B'):SeesL w B' A xs:=by
 obtain ⟨vs,h1,h2⟩:=h
 exact ⟨vs,h1.more hB,h2.more hB⟩
theorem SeesL.below(h:SeesL w B A xs)(hb:Below B w w'):SeesL w' B A xs:=h.keep fun _ hp=>hb.cell hp
theorem SeesL.at_(h:SeesL w B A xs){i:Nat}(hi:i<xs.length):
  ∃b o Ai ci,A=some ⟨b,o,none⟩∧b<B∧w.cell? ⟨b,o+i,none⟩=some (.slice Ai xs[i].length ci)∧xs[i].length≤ci∧ci≤maxLen∧Sees w B Ai (bts xs[i]):=by
 obtain ⟨vs,h1,h2,h3⟩:=h
 obtain ⟨Ai,ci,h4,h5,h6,h7⟩:=h3 i xs[i] (List.getElem?_eq_getElem hi)
 obtain ⟨b,o,hA,hb,hc⟩:=h1 (by intro e;subst e;simp at h4)
 exact ⟨b,o,Ai,ci,hA,hb,hc i _ h4,h5,h6,h7⟩
end
theorem zhb:(Tryz.prog.info? 22).map (fun i=>(i.zero,i.size,i.bytes))=some (some (.slice none 0 0),1,24):=by kernel_rfl
def zgR(w:World)(l:List Nat)(e:Ending)(w':World):Prop:=
 ∃A' c',e= .returned (.tuple #[.slice A' l.length c',.int .i64 0])∧w'.ownsRow w.heap.size 5 1 (.slice A' l.length c') l.length (bts l)∧Below w.heap.size w w'
theorem ZD(ids:List Nat)(xs:List (List Nat))(k:Nat)(h:ids.length=xs.length):(zq (ids.take k) (xs.take k)).length≤jy xs:=by
 rw [jG _ _ (by rw [List.length_take,List.length_take,h])]
 exact zbY xs k
theorem zeY(B:Nat)(A A':Option Addr)(ids:List Nat)(xs:List (List Nat))(c c':Nat)(w:World)(hi:Sees w B A (bts ids))(hs:SeesL w B A' xs)(hB:B≤w.heap.size)(hlen:ids.length=xs.length)(hby:Byt ids)(hn:xs.length≤1000)(hm:jy xs≤1000000)(htot:JV xs≤1000000):
  Calls Tryz.prog 44 #[.slice A ids.length c,.slice A' xs.length c'] w (zgR w (zq ids xs)):=by
 have e1:((ids.length:Int) !=(xs.length:Int))=false:=by simp;omega
 have HL:=qH hlen
 have HBY:=qH hby
 clear hlen hby
 go_enter Tryz.func44,Tryz.ntmps44
 go_wp2
 go_loopw [16] (fun i wr=>∃(k:Nat) (v:Value),k≤xs.length∧i= .int .i64 k∧Hid (Wri wr w.heap.size wr.heap.size v (zq (ids.take k) (xs.take k)))∧Hid (Mods (Zv w.heap.size) w wr)) (fun i _=>xs.length - (intOf i).toNat)
 case atStart=>exact ⟨0,_,Nat.zero_le _,rfl,by
  have:=Wri.new w
  simpa [zq,Hid] using this,(Mods.refl _ _).alloc _⟩
 case round=>
  obtain ⟨k,v,hk,rfl,HW,HM⟩:=hrel
  by_cases hlt:k<xs.length
  ·have hlti:k<ids.length:=by have:=HL.out;omega
   have hbel:Below w.heap.size w wr:=HM.out.below (Nat.le_refl _) fun k hk=>hk
   have hi0:=(hi.more hB).below hbel
   have hs0:=(hs.more hB).below hbel
   obtain ⟨b,o,rfl,_,hc⟩:=hi0 (Z8 hlti)
   have hcell:wr.cell? ⟨b,o+k,none⟩=some (.int .u8 (ids[k]:Int)):=hc k _ (by simp [bts,hlti])
   obtain ⟨b',o',Ai,ci,rfl,_,hcell',hci,hcm,hsi⟩:=hs0.at_ hlt
   have hx:ids[k]<256:=HBY.out _ (List.getElem_mem hlti)
   have HT:=qH (UH ids xs k hlt hlti)
   have hl1:=ZD ids xs k HL.out
   have hxl:xs[k].length≤1000000:=Nat.le_trans (Ye xs _ (List.getElem_mem hlt)) htot
   have HS:=qH hsi
   have hbz:=hbel.size
   clear hi0 hs0 hc hsi hi hs hbel
   generalize ids[k]=id at*
   generalize xs[k]=x at*
   go_wp2_with fail
   refine (zeo HW.out id hx (by omega)).mono ?_
   rintro e Wa ⟨rfl,⟨va,hwa⟩,hma⟩
   have HWa:=qH hwa
   have HMa:=qH (HM.out.trans hma)
   have HSa:=qH (HS.out.below (hma.below hbz fun k hk=>hk))
   have hza:w.heap.size≤Wa.heap.size:=HMa.out.size
   clear hwa hma HW HM HS
   go_wp2_with fail
   refine (zep HWa.out (x.length:Int) (by omega) (by omega) (by rw [List.length_append];simp only [List.length_cons,List.length_nil];omega) (Nat.le_refl _)).mono ?_
   rintro e Wb ⟨rfl,⟨vb,hwb⟩,hmb⟩
   rw [Int.toNat_natCast] at hwb
   have HWb:=qH hwb
   have HMb:=qH (HMa.out.trans hmb)
   have HSb:=qH (HSa.out.below (hmb.below hza fun k hk=>hk))
   have hzb:w.heap.size≤Wb.heap.size:=HMb.out.size
   have hpl:=zA x.length
   clear hwb hmb HWa HMa HSa
   go_wp2_with fail
   refine (Yj HWb.out Ai x ci _ HSb.out hzb (by rw [List.length_append,List.length_append];simp only [List.length_cons,List.length_nil];omega)).mono ?_
   rintro e Wc ⟨rfl,⟨vc,hwc⟩,hmc⟩
   have HWc:=qH hwc
   have HMc:=qH (HMb.out.trans hmc)
   clear hwc hmc HWb HMb HSb
   go_wp2
   go_roundw
   case rel=>exact ⟨k+1,vc,by omega,by go_num,by
    rw [HT.out]
    have:=HWc.out
    simpa [jj,Hid] using this,HMc.out⟩
   case measure=>simp [intOf];omega
  ·obtain rfl:k=xs.length:=by omega
   rw [←HL.out,List.take_length,HL.out,List.take_length] at HW
   have hl1:(zq ids xs).length≤70368744177664:=by rw [jG ids xs HL.out];omega
   go_wp2_with fail
   refine (Uw HW.out hl1).mono ?_
   rintro e Wd ⟨Ad,cd,rfl,ho,hb⟩
   have hbel:Below w.heap.size w wr:=HM.out.below (Nat.le_refl _) fun k hk=>hk
   have HB:=qH (hbel.trans (hb.mono hbel.size))
   have HO:=qH (show Wd.ownsRow w.heap.size 5 1 (.slice Ad (zq ids xs).length cd) (zq ids xs).length (bts (zq ids xs)) from ⟨ho.1,by
    rcases ho.2 with h|⟨g,cap,cur,h1,h2,h3⟩
    ·exact .inl h
    ·exact .inr ⟨g,cap,cur,h1,Nat.le_trans hbel.size h2,h3⟩⟩)
   clear ho hb hbel
   go_wp2
   go_ret2
   exact ⟨Ad,cd,rfl,HO.out,HB.out⟩
theorem zgi(B:Nat)(A:Option Addr)(id:Nat)(x:List Nat)(c:Nat)(w:World)(hs:Sees w B A (bts x))(hB:B≤w.heap.size)(hid:id<256)(hm:x.length≤1000000):
  Calls Tryz.prog 103 #[.int .u8 id,.slice A x.length c] w (zdv w (jj id x)):=by
 obtain ⟨i0,hi0,hz0,hz1,hz2'⟩:=info_parts infoU8
 have HS:=qH (hs.more hB)
 have HP:=qH (ZB (x.length:Int) (w.alloc (.cells #[.int .u8 id] 5)) (by omega) (by omega))
 have hpl:zQ x.length≤10:=zA x.length
 have HLE:=qH (jN id x)
 clear hs
 go_enter Tryz.func103,Tryz.ntmps103
 go_wp2_with fail
 refine HP.out.mono ?_
 rintro e W1 ⟨g,c1,rfl,ho1,hb1⟩
 rw [Int.toNat_natCast] at ho1
 have hno:(w.alloc (.cells #[.int .u8 id] 5)).ownsRow w.heap.size 5 1 (.slice (some ⟨w.heap.size,0,none⟩) 1 1) 1 (bts [id]):=
  ⟨rfl,.inr ⟨w.heap.size,1,_,rfl,Nat.le_refl _,heap_alloc_new w _,Nat.le_refl _,by decide,rfl,rfl⟩⟩
 have hn1:=(Mods.of_below (S:=No) hb1).own hno fun _ _ h=>h
 have HN1:=qH hn1
 have HO1:=qH ho1
 have hzz:w.heap.size+1≤W1.heap.size:=by have:=hb1.size;simpa using this
 have HB1:=qH (((Below.refl w.heap.size w).alloc (Nat.le_refl _) (.cells #[.int .u8 id] 5)).trans (hb1.mono (by simp)))
 clear ho1 hb1 hno hn1 HP
 go_wp2_with (at_builtin;refine zt _ rfl (.tmp 7) (.tmp 11) 22 rfl w.heap.size 5 i0 (.int .u8 0) 1 Tryz.underlying22 hi0 hz0 hz1 hz2' rfl _ _ _ rfl HN1.out W1.heap.size _ _ _ (bts (zc x.length)) rfl (Sees.of_own HO1.out) (zm _) (yh _) ?c1 ?c2 ?c3 ?_)
 case c1=>unfold maxLen;omega
 case c2=>omega
 case c3=>omega
 intro v1 W2 ho2 hg2
 have HB2:=qH (HB1.out.grown hg2 (by omega) fun k hk=>by
  simp only [Value.ownBlock,Option.some.injEq] at hk
  omega)
 rw [←ym] at ho2
 have HO2:=qH ho2
 have HS2:=qH (HS.out.below HB2.out)
 have hz2:w.heap.size≤W2.heap.size:=HB2.out.size
 clear ho2 hg2 HB1 HN1 HO1 HS
 go_wp2_with (at_builtin;refine zt _ rfl (.tmp 13) (.tmp 14) 22 rfl w.heap.size 5 i0 (.int .u8 0) 1 Tryz.underlying22 hi0 hz0 hz1 hz2' rfl _ _ _ rfl HO2.out w.heap.size _ _ _ (bts x) rfl HS2.out (zm _) (yh _) ?d1 ?d2 ?d3 ?_)
 case d1=>unfold maxLen;omega
 case d2=>omega
 case d3=>omega
 intro v2 W3 ho3 hg3
 have HB3:=qH (HB2.out.grown hg3 hz2 fun k hk=>(Je HO2.out k hk).1)
 have HO3:Hid (W3.ownsRow w.heap.size 5 1 v2 (jj id x).length (bts (jj id x))):=by
  rw [HLE.out]
  rw [←ym] at ho3
  exact ho3
 obtain ⟨A3,c3,rfl,_,_⟩:=yH HO3.out (zm _)
 clear ho3 hg3
 go_wp2
 go_ret
 exact ⟨A3,c3,rfl,HO3.out,HB3.out⟩
theorem zeZ{w:World}{base n g c:Nat}{e:TypeId}{xs:List Value}(h:w.ownsRow base e 1 (.slice (some ⟨g,0,none⟩) n c) n xs):∀j u,xs[j]?=some u→w.cell? ((⟨g,0,none⟩:Addr).add j)=some u:=fun j u hu=>h.cells (g:=g) rfl j u hu
theorem zdR(B:Nat)(A A':Option Addr)(ids:List Nat)(xs:List (List Nat))(c c':Nat)(w:World)(hi:Sees w B A (bts ids))(hs:SeesL w B A' xs)(hB:B≤w.heap.size)(hlen:ids.length=xs.length)(hby:Byt ids)(hn:xs.length≤1000)(hm:jy xs≤1000000)(htot:JV xs≤1000000):
  Calls Tryz.prog 46 #[.slice A ids.length c,.slice A' xs.length c'] w (zdv w (zq ids xs)):=by
 obtain ⟨i0,hi0,hz0,hz1,hz2⟩:=info_parts infoU8
 have HL:=qH hlen
 have HBY:=qH hby
 clear hlen hby
 go_enter Tryz.func46,Tryz.ntmps46
 go_wp2
 go_loopw [5,6] (fun s j wr=>∃(k:Nat) (v:Value),k≤xs.length∧v=s∧j= .int .i64 k∧Hid (wr.ownsRow w.heap.size 5 1 v (zq (ids.take k) (xs.take k)).length (bts (zq (ids.take k) (xs.take k))))∧Hid (Below w.heap.size w wr)) (fun _ j _=>xs.length - (intOf j).toNat)
 case atStart=>exact ⟨0,_,Nat.zero_le _,rfl,rfl,⟨rfl,.inl ⟨rfl,rfl⟩⟩,Below.refl _ _⟩
 case round=>
  obtain ⟨k,v,hk,rfl,rfl,HO,HB⟩:=hrel
  by_cases hlt:k<xs.length
  ·have hlti:k<ids.length:=by have:=HL.out;omega
   have hi0':=(hi.more hB).below HB.out
   have hs0:=(hs.more hB).below HB.out
   obtain ⟨b,o,rfl,hbl,hc⟩:=hi0' (Z8 hlti)
   have hcell:wr.cell? ⟨b,o+k,none⟩=some (.int .u8 (ids[k]:Int)):=hc k _ (by simp [bts,hlti])
   obtain ⟨b',o',Ai,ci,rfl,hbl',hcell',hci,hcm,hsi⟩:=hs0.at_ hlt
   have HX:=qH (And.intro hcell hcell')
   have hx:ids[k]<256:=HBY.out _ (List.getElem_mem hlti)
   have HT:=qH (UH ids xs k hlt hlti)
   have hl1:=ZD ids xs k HL.out
   have hxl:xs[k].length≤1000000:=Nat.le_trans (Ye xs _ (List.getElem_mem hlt)) htot
   have hbz:=HB.out.size
   have HC:Hid (∀w0,(∃m,w0=wr.drewN m)→Calls Tryz.prog 103 #[.int .u8 ids[k],.slice Ai xs[k].length ci] w0 fun e w'=>∃g cap,e= .returned (.slice (some ⟨g,0,none⟩) (jj ids[k] xs[k]).length cap)∧
     w'.ownsRow wr.heap.size 5 1 (.slice (some ⟨g,0,none⟩) (jj ids[k] xs[k]).length cap) (jj ids[k] xs[k]).length (bts (jj ids[k] xs[k]))∧Below wr.heap.size wr w'):=fun w0 ⟨m,hm⟩=>by
    subst hm
    refine (zgi w.heap.size Ai ids[k] xs[k] ci (wr.drewN m) (hsi.drewN m) hbz hx hxl).mono ?_
    rintro e w' ⟨A9,c9,rfl,h1,h2⟩
    obtain ⟨g,cap,hv,_⟩:=h1.form (by rw [jN];omega)
    rw [hv] at h1⊢
    exact ⟨g,cap,rfl,h1,Qi h2 (Nat.le_refl _)⟩
   have HLE:=qH (jN ids[k] xs[k])
   have hpl:zQ xs[k].length≤10:=zA _
   have hle2:1≤(jj ids[k] xs[k]).length∧(jj ids[k] xs[k]).length≤1000011:=by rw [jN];omega
   clear hi0' hs0 hc hsi hi hs hcell hcell'
   generalize ids[k]=id at*
   generalize xs[k]=x at*
   go_wp2_with fail
   go_region_held_law (fun w'=>w'.cell? ⟨b,o+k,none⟩=some (.int .u8 (id:Int))∧w'.cell? ⟨b',o'+k,none⟩=some (.slice Ai x.length ci)) (first|exact HX.out|exact hXa|exact hXb) (first
    |(go_at_call 103;go_must ((with_reducible refine (HC.out _ (by first|exact ⟨1,rfl⟩|exact ⟨0,rfl⟩|exact ⟨_,rfl⟩)).mono ?_);rintro e Wa ⟨g1,ca,rfl,ho,hb⟩;have HOa:=qH ho;have HBb:=qH (HB.out.trans (hb.mono hbz));have hza:=HBb.out.size;have HVa:=qH ((Mods.of_below (S:=No) hb).own HO.out (fun _ _ h=>h));have hXa:Wa.cell? ⟨b,o+k,none⟩=some (.int .u8 (id:Int))∧Wa.cell? ⟨b',o'+k,none⟩=some (.slice Ai x.length ci):=(And.intro ((hb.cell (p:=⟨b,o+k,none⟩) (by show b<_;omega)).trans HX.out.1) ((hb.cell (p:=⟨b',o'+k,none⟩) (by show b'<_;omega)).trans HX.out.2));clear ho hb))
    |(refine step_append_lies _ rfl (.tmp 13) (.tmp 22) 22 rfl w.heap.size 5 i0 (.int .u8 0) 1 1 Tryz.underlying22 hi0 hz0 hz1 hz2 rfl (by decide) _ _ _ rfl HVa.out ⟨g1,0,none⟩ _ _ (bts (jj id x)) rfl (by rw [zm,Nat.mul_one]) (zeZ HOa.out) (yh _) (by omega) (by unfold maxLen;omega) (by omega) (by omega) _ rfl ?_;intro g2 cap2 W2 ho2 hg2 hat2 hlt2;have HO2:=qH ho2;have HB2:=qH (HBb.out.grown hg2 (by omega) (fun k hk=>(Je HVa.out k hk).1));have hXb:W2.cell? ⟨b,o+k,none⟩=some (.int .u8 (id:Int))∧W2.cell? ⟨b',o'+k,none⟩=some (.slice Ai x.length ci):=(And.intro ((HB2.out.cell (p:=⟨b,o+k,none⟩) hbl).trans ((HB.out.cell (p:=⟨b,o+k,none⟩) hbl).symm.trans HX.out.1)) ((HB2.out.cell (p:=⟨b',o'+k,none⟩) hbl').trans ((HB.out.cell (p:=⟨b',o'+k,none⟩) hbl').symm.trans HX.out.2)));clear ho2 hg2)
    )
   clear HX hXa hXb HC HOa HVa HO HB
   go_wp2
   go_roundw
   case rel=>exact ⟨k+1,_,by omega,rfl,by go_num,by
    rw [HT.out,List.length_append,ym]
    exact HO2.out,HB2.out⟩
   case measure=>simp [intOf];omega
  ·obtain rfl:k=xs.length:=by omega
   rw [←HL.out,List.take_length,HL.out,List.take_length] at HO
   obtain ⟨A3,c3,rfl,_,_⟩:=yH HO.out (zm _)
   go_wp2
   go_ret
   exact ⟨A3,c3,rfl,HO.out,HB.out⟩
end Go.Proofs.YtnifhpbgmjcndaaGreat
