import Derived.Test.YtnifhpbgmjcndaaGreatPk1
import Derived.Shelf.SlSortCmp.QuietGrown
import Derived.Lib.Small
import Derived.Deep.Cut
import Derived.Deep.CutRange
import Derived.Deep.DeepMust
import Derived.Laws.StructEq
set_option linter.unusedVariables false
set_option linter.unusedSimpArgs false
set_option linter.unusedSectionVars false
namespace Go.Proofs.YtnifhpbgmjcndaaGreat
open Go.RowKit
section
variable {w w' : World} {base n s : Nat} {e : TypeId} {v : Value} {xs : List Value}
theorem z9(h:w.ownsRow base e s v n xs)(k:Nat)(hk:v.ownBlock=some k):base≤k∧k<w.heap.size:=by
 rcases h.2 with ⟨rfl,_⟩|⟨g,cap,cur,rfl,hg,hh,_⟩
 ·simp [Value.ownBlock] at hk
 ·have:g=k:=by simpa [Value.ownBlock] using hk
  subst this
  exact ⟨hg,(Array.getElem?_eq_some_iff.1 hh).1⟩
theorem zg(h:w.ownsRow base e s v n xs):∃A c,v= .slice A n c∧n≤c∧c≤maxLen:=by
 rcases h.2 with ⟨rfl,h0⟩|⟨g,cap,cur,rfl,_,_,h1,h2,_⟩
 ·subst h0
  exact ⟨none,0,rfl,Nat.le_refl _,Nat.zero_le _⟩
 ·exact ⟨_,cap,rfl,h1,h2⟩
theorem ju{base':Nat}(h:w.ownsRow base e s v n xs)(hb:base'≤base):w.ownsRow base' e s v n xs:=
 ⟨h.1,by
  rcases h.2 with h|⟨g,cap,cur,h1,h2,h3⟩
  ·exact .inl h
  ·exact .inr ⟨g,cap,cur,h1,Nat.le_trans hb h2,h3⟩⟩
theorem QX{base' m s':Nat}{e':TypeId}{u:Value}{ys:List Value}(h:w.ownsRow base e s v n xs)(k:w.ownsRow base' e' s' u m ys)(he:e≠e')(g:Nat)(hv:v.ownBlock=some g)(hu:u.ownBlock=some g):False:=by
 rcases h.2 with ⟨rfl,_⟩|⟨a,cap,cur,rfl,_,h1,_⟩
 ·cases hv
 ·rcases k.2 with ⟨rfl,_⟩|⟨b,cap',cur',rfl,_,h2,_⟩
  ·cases hu
  ·simp only [Value.ownBlock,Option.some.injEq] at hv hu
   subst hv
   rw [hu] at h2
   rw [h1] at h2
   simp only [Option.some.injEq,Obj.cells.injEq] at h2
   exact he h2.2.1
theorem Mods.ownS{S:Nat→Prop}(h:Mods S w w')(ho:w.ownsRow base e s v n xs)(hS:∀k,v.ownBlock=some k→¬S k):w'.ownsRow base e s v n xs:=by
 obtain ⟨h1,h2⟩:=ho
 refine ⟨h1,?_⟩
 rcases h2 with h2|⟨g,cap,cur,rfl,hg,hh,r⟩
 ·exact Or.inl h2
 ·exact Or.inr ⟨g,cap,cur,rfl,hg,(h.block g (Array.getElem?_eq_some_iff.1 hh).1 (hS g (by simp [Value.ownBlock]))).trans hh,r⟩
theorem JH{A:Option Addr}{c:Nat}(h:w.ownsRow base e s (.slice A n c) n xs):Sees w w.heap.size A xs:=fun hn=>by
 rcases h.2 with ⟨h0,h1⟩|⟨g,cap,cur,hv,_,hg,_⟩
 ·exact absurd (List.eq_nil_of_length_eq_zero (by have:=h.1;rw [h1] at this;omega)) hn
 ·injection hv with hA
  subst hA
  refine ⟨g,0,rfl,(Array.getElem?_eq_some_iff.1 hg).1,fun i u hu=> ?_⟩
  have:=h.cells (g:=g) rfl i u hu
  simpa [Addr.add_lit] using this
theorem ze9{g:Nat}(h:w.ownsRow base e s v n xs)(hg:v.ownBlock=some g){j:Nat}(hj:j<xs.length)(u:Value):(w.setCell ⟨g,j,none⟩ u).ownsRow base e s v n (xs.set j u):=by
 refine ⟨by rw [List.length_set];exact h.1,?_⟩
 rcases h.2 with ⟨rfl,_⟩|⟨g',cap,cur,rfl,hb,hh,h1,h2,h3,h4⟩
 ·cases hg
 ·simp only [Value.ownBlock,Option.some.injEq] at hg
  subst hg
  refine .inr ⟨g',cap,cur.setIfInBounds j u,rfl,hb,?_,h1,h2,by simpa using h3,?_⟩
  ·exact Row.put (w:=w) (p:=g') (T:=e) (cs:=cur) hh j u
  ·rw [Array.toList_setIfInBounds,←h4,List.take_set]
theorem YT(W:World)(e:TypeId)(s:Nat):(W.alloc (.cells #[] e)).ownsRow W.heap.size e s (.slice (some ⟨W.heap.size,0,none⟩) 0 0) 0 []:=
 ⟨by simp,.inr ⟨W.heap.size,0,#[],rfl,Nat.le_refl _,heap_alloc_new W _,Nat.le_refl _,Nat.zero_le _,by simp,by simp⟩⟩
end
section
variable {P : Program} (w : World)
theorem YU(base:Nat)(t ty e:TypeId)(i:TypeInfo)(size:Nat)(ht:P.underlying t=some (.slice e))(hi:P.info? e=some i)
  (v:Value) (n:Nat) (xs:List Value) (hown:w.ownsRow base e size v n xs) (c:Nat):(Builtin.append_ #[t,t] ty #[v,.slice none 0 c]).run P w= .ok v w:=by
 rcases hown.2 with ⟨rfl,rfl⟩|⟨g,cap,cur,rfl,_,_,hnc,_⟩
 ·simp [Builtin.append_,run_underlying ht,sizeOf,typeInfo,hi,Builtin.lenOf,Builtin.firstCells]
 ·simp [Builtin.append_,run_underlying ht,sizeOf,typeInfo,hi,Builtin.lenOf,Builtin.firstCells,hnc,storeCells]
theorem ZI(base:Nat)(t ty e:TypeId)(i:TypeInfo)(z:Value)(size bytes:Nat)(ht:P.underlying t=some (.slice e))(hi:P.info? e=some i)(hz:i.zero=some z)
  (hsize:i.size=size) (hby:i.bytes=bytes) (hzs:z.cells.size=size) (hsz:0<size)
  (v:Value) (n:Nat) (xs:List Value) (hown:w.ownsRow base e size v n xs)
  (B:Nat) (A:Option Addr) (m c:Nat) (news:List Value) (hr:Sees w B A news) (hl:news.length=m*size) (h1:∀u∈news,u.oneCell'=true)
  (h63:n+m≤maxLen) (hbytes:(n+m)*bytes≤140737488355328) (hbase:base≤w.heap.size):
  ∃v' w',(Builtin.append_ #[t,t] ty #[v,.slice A m c]).run P w= .ok v' w'∧w'.ownsRow base e size v' (n+m) (xs++news)∧w.grownBy w' v.ownBlock∧(v'.ownBlock=v.ownBlock∨v'.ownBlock=some w.heap.size):=by
 rcases A with _|ad
 ·have hn:news= []:=by
   rcases news with _|⟨y,ys⟩
   ·rfl
   ·obtain ⟨b,o,h,_⟩:=hr (by simp)
    cases h
  subst hn
  obtain rfl:m=0:=by
   rcases Nat.eq_zero_or_pos m with h|h
   ·exact h
   ·have:=Nat.mul_pos h hsz
    simp at hl
    omega
  exact ⟨v,w,YU (P:=P) w base t ty e i size ht hi v n xs hown c,by simpa using hown,World.grownBy.refl _ _,.inl rfl⟩
 ·obtain ⟨v',w',a1,a2,a3,_,a5⟩:=run_append_own_at (P:=P) w base t ty e i z size bytes ht hi hz hsize hby hzs hsz v n xs hown ad m c news hl (fun j u hu=>by
   obtain ⟨b,o,hA,_,hc⟩:=hr (by intro e;subst e;simp at hu)
   injection hA with hA
   subst hA
   simpa [Addr.add_lit] using hc j u hu) h1 h63 hbytes hbase
  exact ⟨v',w',a1,a2,a3,a5⟩
theorem zj{ops:Array Oper}{o:Oper}{a:Act}{K:Act→World→Prop}{Q:Exit→Act→World→Prop}{E:Prop}(hgd:o.guard=none)(s x:Operand)(t:TypeId)
  (ho:o.op= .call {callee:= .builtin .append,args:= #[s,x],argTypes:= #[t,t]})
  (base:Nat) (e:TypeId) (i:TypeInfo) (z:Value) (size bytes:Nat) (ht:P.underlying t=some (.slice e)) (hi:P.info? e=some i) (hz:i.zero=some z)
  (hsize:i.size=size) (hby:i.bytes=bytes) (hzs:z.cells.size=size) (hsz:0<size)
  (v:Value) (n:Nat) (xs:List Value) (hs:a.eval s=v) (hown:w.ownsRow base e size v n xs)
  (B:Nat) (A:Option Addr) (m c:Nat) (news:List Value) (hx:a.eval x= .slice A m c) (hr:Sees w B A news) (hl:news.length=m*size) (h1:∀u∈news,u.oneCell'=true)
  (h63:n+m≤maxLen) (hbytes:(n+m)*bytes≤140737488355328) (hbase:base≤w.heap.size)
  (h:∀v' w',w'.ownsRow base e size v' (n+m) (xs++news)→w.grownBy w' v.ownBlock→(v'.ownBlock=v.ownBlock∨v'.ownBlock=some w.heap.size)→K (a.put o.dst v') w'):
  if Region.wanted o (yielded ops a.tmps)=true then Oper.wp P o a w K Q else E:=by
 have hw:Region.wanted o (yielded ops a.tmps)=true:=by simp [Region.wanted,hgd]
 rw [if_pos hw]
 obtain ⟨v',w',hr2,h2,h3,h4⟩:=ZI (P:=P) w base t o.type e i z size bytes ht hi hz hsize hby hzs hsz v n xs hown B A m c news hr hl h1 h63 hbytes hbase
 unfold Oper.wp execOp
 simp only [ho,resolve,invoke,builtin,Sem.run_bind,Sem.run_pure,Result.andThen_ok,List.map_toArray,List.map_cons,List.map_nil,hs,hx,hr2]
 exact h v' w' h2 h3 h4
end
structure Shp(α:Type) where
 eo:TypeId
 ei:TypeId
 so:Nat
 si:Nat
 oc:Value→α→List Value
 ic:α→List Value
 il:α→Nat
 ne:eo≠ei
 hoc:∀u x,(oc u x).length=so
structure NestV{α:Type}(S:Shp α)(w:World)(base:Nat)(v:Value)(vs:List Value)(xs:List α):Prop where
 outer:w.ownsRow base S.eo S.so v vs.length ((vs.zip xs).flatMap fun p=>S.oc p.1 p.2)
 len:vs.length=xs.length
 inner:∀(i:Nat) (u:Value) (x:α),vs[i]?=some u→xs[i]?=some x→w.ownsRow base S.ei S.si u (S.il x) (S.ic x)
 dist:∀(i j:Nat) (u u':Value) (g:Nat),vs[i]?=some u→vs[j]?=some u'→u.ownBlock=some g→u'.ownBlock=some g→i=j
section
variable {α : Type} {S : Shp α} {w w' w0 : World} {base : Nat} {v v' u : Value} {vs : List Value} {xs : List α} {x : α}
theorem NestV.nil(w:World)(base:Nat):NestV S w base (.slice none 0 0) [] []:=
 ⟨⟨by simp,.inl ⟨rfl,rfl⟩⟩,rfl,fun i u x h=>by simp at h,fun i j u u' g h=>by simp at h⟩
theorem NestV.get(h:NestV S w base v vs xs){i:Nat}{u:Value}(hu:vs[i]?=some u):∃x,xs[i]?=some x∧w.ownsRow base S.ei S.si u (S.il x) (S.ic x):=by
 have hi:i<vs.length:=(List.getElem?_eq_some_iff.1 hu).1
 have hi':i<xs.length:=by rw [←h.len];exact hi
 exact ⟨xs[i],List.getElem?_eq_getElem hi',h.inner i u _ hu (List.getElem?_eq_getElem hi')⟩
theorem NestV.got(h:NestV S w base v vs xs){i:Nat}(hi:i<xs.length):∃u,vs[i]?=some u∧w.ownsRow base S.ei S.si u (S.il xs[i]) (S.ic xs[i]):=by
 have hi':i<vs.length:=by rw [h.len];exact hi
 exact ⟨vs[i],List.getElem?_eq_getElem hi',h.inner i _ _ (List.getElem?_eq_getElem hi') (List.getElem?_eq_getElem hi)⟩
theorem NestV.mods{M:Nat→Prop}(h:NestV S w base v vs xs)(hm:Mods M w w')(hS:∀k,base≤k→k<w.heap.size→¬M k):NestV S w' base v vs xs:=
 ⟨hm.ownS h.outer fun k hk=>by
   have:=z9 h.outer k hk
   exact hS k this.1 this.2,h.len,
  fun i u x h1 h2=>hm.ownS (h.inner i u x h1 h2) fun k hk=>by
   have:=z9 (h.inner i u x h1 h2) k hk
   exact hS k this.1 this.2,h.dist⟩
theorem NestV.below(h:NestV S w base v vs xs)(hb:Below w.heap.size w w'):NestV S w' base v vs xs:=h.mods (M:=No) (Mods.of_below hb) fun _ _ _ h=>h
theorem NestV.rebase(h:NestV S w base v vs xs){base':Nat}(hb:base'≤base):NestV S w base' v vs xs:=
 ⟨ju h.outer hb,h.len,fun i u x h1 h2=>ju (h.inner i u x h1 h2) hb,h.dist⟩
theorem zfa{β:Type}(vs:List β)(xs:List α)(u:β)(x:α)(h:vs.length=xs.length):(vs++ [u]).zip (xs++ [x])=vs.zip xs++ [(u,x)]:=by
 rw [List.zip_append h]
 rfl
theorem NestV.snoc{M:Nat→Prop}(h:NestV S w0 base v vs xs)(hm:Mods M w0 w)(hS:∀k,M k→k<base)(hb:base≤w0.heap.size)(hu:w.ownsRow w0.heap.size S.ei S.si u (S.il x) (S.ic x))(o:Obj)
  (ho:w'.ownsRow base S.eo S.so v' (vs.length+1) (((vs.zip xs).flatMap fun p=>S.oc p.1 p.2)++S.oc u x)) (hg:(w.alloc o).grownBy w' v.ownBlock):NestV S w' base v' (vs++ [u]) (xs++ [x]):=by
 have hS':∀k,base≤k→k<w0.heap.size→¬M k:=fun k h1 _ h3=>by have:=hS k h3;omega
 have h1:=h.mods hm hS'
 have hG:Mods (fun k=>v.ownBlock=some k) w w':=((Mods.refl _ _).alloc o).grown hg fun k hk=> .inl hk
 have hnew:∀(i:Nat) (u':Value),vs[i]?=some u'→∀g,u'.ownBlock=some g→u.ownBlock=some g→False:=fun i u' hi g h2 h3=>by
  obtain ⟨x',_,hx'⟩:=h.get hi
  have a:=z9 hx' g h2
  have b:=z9 hu g h3
  omega
 refine ⟨?_,by simp [h.len],fun i u' y hi hy=> ?_,fun i j a b g hi hj ha hb=> ?_⟩
 ·rw [List.length_append,zfa _ _ _ _ h.len,List.flatMap_append]
  simpa using ho
 ·rcases Nat.lt_trichotomy i vs.length with hl|hl|hl
  ·rw [List.getElem?_append_left hl] at hi
   rw [List.getElem?_append_left (by rw [←h.len];exact hl)] at hy
   have hin:=h1.inner i u' y hi hy
   exact hG.ownS hin fun k hk hs=>QX h1.outer hin S.ne k hs hk
  ·subst hl
   rw [List.getElem?_append_right (Nat.le_refl _),Nat.sub_self] at hi
   rw [h.len,List.getElem?_append_right (Nat.le_refl _),Nat.sub_self] at hy
   injection hi with hi
   injection hy with hy
   subst hi
   subst hy
   exact hG.ownS (ju hu hb) fun k hk hs=>QX h1.outer hu S.ne k hs hk
  ·rw [List.getElem?_eq_none (by simp;omega)] at hi
   cases hi
 ·have hI:∀(i:Nat) (a:Value),(vs++ [u])[i]?=some a→(vs[i]?=some a)∨(i=vs.length∧a=u):=fun i a hi=>by
   rcases Nat.lt_trichotomy i vs.length with hl|hl|hl
   ·rw [List.getElem?_append_left hl] at hi
    exact .inl hi
   ·subst hl
    rw [List.getElem?_append_right (Nat.le_refl _),Nat.sub_self] at hi
    injection hi with hi
    exact .inr ⟨rfl,hi.symm⟩
   ·rw [List.getElem?_eq_none (by simp;omega)] at hi
    cases hi
  rcases hI i a hi with h2|⟨h2,h3⟩
  ·rcases hI j b hj with h4|⟨h4,h5⟩
   ·exact h.dist i j a b g h2 h4 ha hb
   ·subst h5
    exact (hnew i a h2 g ha hb).elim
  ·subst h3
   rcases hI j b hj with h4|⟨h4,h5⟩
   ·exact (hnew j b h4 g hb ha).elim
   ·omega
theorem zaV(f:Value→α→List Value){x x':α}(e3:∀u,f u x'=f u x):∀(vs:List Value) (xs:List α) (i:Nat),xs[i]?=some x→((vs.zip (xs.set i x')).flatMap fun p=>f p.1 p.2)=(vs.zip xs).flatMap fun p=>f p.1 p.2
 |_, [],i,h=>by simp at h
 | [],_::_,i,h=>by simp
 |a::vs,y::r,0,h=>by
  simp only [List.getElem?_cons_zero,Option.some.injEq] at h
  subst h
  simp only [List.set_cons_zero,List.zip_cons_cons,List.flatMap_cons,e3]
 |a::vs,y::r,i+1,h=>by
  rw [List.getElem?_cons_succ] at h
  simp only [List.set_cons_succ,List.zip_cons_cons,List.flatMap_cons,zaV f e3 vs r i h]
theorem NestV.put(h:NestV S w base v vs xs){i:Nat}{u:Value}{x x':α}{g:Nat}(hu:vs[i]?=some u)(hx:xs[i]?=some x)(hg:u.ownBlock=some g){j:Nat}(hj:j<(S.ic x).length)(z:Value)
  (e1:S.ic x'=(S.ic x).set j z) (e2:S.il x'=S.il x) (e3:∀u,S.oc u x'=S.oc u x):NestV S (w.setCell ⟨g,j,none⟩ z) base v vs (xs.set i x'):=by
 have hin:=h.inner i u x hu hx
 have hM:Mods (Is g) w (w.setCell ⟨g,j,none⟩ z):=(Mods.refl (Is g) w).put j z
 have hi:i<xs.length:=(List.getElem?_eq_some_iff.1 hx).1
 refine ⟨?_,by simp [h.len],fun k a y ha hy=> ?_,h.dist⟩
 ·have hz:((vs.zip (xs.set i x')).flatMap fun p=>S.oc p.1 p.2)=(vs.zip xs).flatMap fun p=>S.oc p.1 p.2:=zaV S.oc e3 vs xs i hx
  rw [hz]
  exact hM.ownS h.outer fun k hk hs=>QX h.outer hin S.ne g (by rw [←hs];exact hk) hg
 ·by_cases hki:k=i
  ·subst hki
   rw [List.getElem?_set_self hi] at hy
   injection hy with hy
   subst hy
   rw [hu] at ha
   injection ha with ha
   subst ha
   rw [e1,e2]
   exact ze9 hin hg hj z
  ·rw [List.getElem?_set_ne (fun e=>hki e.symm)] at hy
   exact hM.ownS (h.inner k a y ha hy) fun p hp hs=>hki (h.dist k i a u g ha hu (by rw [hp,hs]) hg)
end
def jC:Shp Blk where
 eo:=60
 ei:=125
 so:=5
 si:=5
 oc:=fun u x=> [u,.int .i64 x.term.kind,.int .i64 x.term.a,.int .i64 x.term.to,.int .i64 x.term.el]
 ic:=fun x=>x.code.flatMap In.cells
 il:=fun x=>x.code.length
 ne:=by decide
 hoc:=fun _ _=>rfl
theorem zb9{w:World}{B:Nat}{A:Option Addr}{xs:List In}(h:Sees w B A (xs.flatMap In.cells)):InsAt w B A xs:=fun hn=>by
 have hg:=J0 In.cells 5 (fun _=>rfl) xs
 have hne:xs.flatMap In.cells≠ []:=by
  rcases xs with _|⟨x,r⟩
  ·exact absurd rfl hn
  ·simp [In.cells]
 obtain ⟨b,o,e,hb,hc⟩:=h hne
 refine ⟨b,o,e,hb,fun i x hx=>⟨?_,?_,?_,?_,?_⟩⟩
 ·exact hc _ _ (hg i x hx 0 _ rfl)
 ·rw [Nat.add_assoc];exact hc _ _ (hg i x hx 1 _ rfl)
 ·rw [Nat.add_assoc];exact hc _ _ (hg i x hx 2 _ rfl)
 ·rw [Nat.add_assoc];exact hc _ _ (hg i x hx 3 _ rfl)
 ·rw [Nat.add_assoc];exact hc _ _ (hg i x hx 4 _ rfl)
theorem UR{α:Type}(f:α→List Value)(s:Nat)(hs:∀x,(f x).length=s):∀(l:List α) (i:Nat) (u:Value),(l.flatMap f)[i]?=some u→∃k j x,l[k]?=some x∧(f x)[j]?=some u∧i=k*s+j
 | [],i,u,h=>by simp at h
 |y::r,i,u,h=>by
  rw [List.flatMap_cons] at h
  rcases Nat.lt_or_ge i (f y).length with hi|hi
  ·rw [List.getElem?_append_left hi] at h
   exact ⟨0,i,y,rfl,h,by omega⟩
  ·rw [List.getElem?_append_right hi] at h
   obtain ⟨k,j,x,h1,h2,h3⟩:=UR f s hs r _ u h
   rw [hs] at h3 hi
   exact ⟨k+1,j,x,by rw [List.getElem?_cons_succ];exact h1,h2,by rw [Nat.succ_mul];omega⟩
theorem zca{w:World}{B:Nat}{A:Option Addr}{xs:List In}(h:InsAt w B A xs):Sees w B A (xs.flatMap In.cells):=fun hn=>by
 obtain ⟨b,o,e,hb,hc⟩:=h (by rintro rfl;exact hn rfl)
 refine ⟨b,o,e,hb,fun i u hu=> ?_⟩
 obtain ⟨k,j,x,h1,h2,rfl⟩:=UR In.cells 5 (fun _=>rfl) xs i u hu
 have hx:=hc k x h1
 have hj:j<5:=(List.getElem?_eq_some_iff.1 h2).1
 rcases (by omega:j=0∨j=1∨j=2∨j=3∨j=4) with rfl|rfl|rfl|rfl|rfl
 ·rw [←h2];exact hx.c0
 ·rw [←h2,←Nat.add_assoc];exact hx.c1
 ·rw [←h2,←Nat.add_assoc];exact hx.c2
 ·rw [←h2,←Nat.add_assoc];exact hx.c3
 ·rw [←h2,←Nat.add_assoc];exact hx.c4
theorem QY(xs:List In):(xs.flatMap In.cells).length=xs.length*5:=by
 induction xs with
 |nil=>rfl
 |cons x r ih=>rw [List.flatMap_cons,List.length_append,ih,List.length_cons,show x.cells.length=5 from rfl];omega
theorem QZ(xs:List In):∀u∈xs.flatMap In.cells,u.oneCell'=true:=by
 intro u hu
 obtain ⟨x,_,hx⟩:=List.mem_flatMap.1 hu
 simp only [In.cells,List.mem_cons,List.not_mem_nil,or_false] at hx
 rcases hx with rfl|rfl|rfl|rfl|rfl<;>rfl
theorem YV{w:World}{base:Nat}{v:Value}{vs:List Value}{bs:List Blk}(h:NestV jC w base v vs bs):∃A c,v= .slice A bs.length c∧bs.length≤c∧c≤maxLen∧BlksAt w w.heap.size A bs:=by
 have ho:=h.outer
 obtain ⟨A,c,rfl,h1,h2⟩:=zg ho
 rw [h.len] at h1
 refine ⟨A,c,by rw [h.len],h1,h2,fun hn=> ?_⟩
 have hg:=J0 (fun p:Value × Blk=>jC.oc p.1 p.2) 5 (fun _=>rfl) (vs.zip bs)
 have hz:∀i x,bs[i]?=some x→∃u,vs[i]?=some u∧(vs.zip bs)[i]?=some (u,x):=fun i x hx=>by
  have hi:i<bs.length:=(List.getElem?_eq_some_iff.1 hx).1
  have hi':i<vs.length:=by rw [h.len];exact hi
  refine ⟨vs[i],List.getElem?_eq_getElem hi',?_⟩
  rw [List.getElem?_zip_eq_some]
  exact ⟨List.getElem?_eq_getElem hi',hx⟩
 have hne:(vs.zip bs).flatMap (fun p=>jC.oc p.1 p.2)≠ []:=by
  rcases bs with _|⟨x,r⟩
  ·exact absurd rfl hn
  ·obtain ⟨u,_,hu⟩:=hz 0 x rfl
   intro e
   have:=hg 0 (u,x) hu 0 u rfl
   rw [e] at this
   cases this
 obtain ⟨b,o,e,hb,hc⟩:=JH ho hne
 refine ⟨b,o,e,hb,fun i x hx=> ?_⟩
 obtain ⟨u,hu,hux⟩:=hz i x hx
 have hin:=h.inner i u x hu hx
 obtain ⟨A',c',rfl,h3,h4⟩:=zg hin
 refine ⟨⟨A',c',hc _ _ (hg i _ hux 0 _ rfl),h3,h4,zb9 (JH hin)⟩,?_,?_,?_,?_⟩
 ·rw [Nat.add_assoc];exact hc _ _ (hg i _ hux 1 _ rfl)
 ·rw [Nat.add_assoc];exact hc _ _ (hg i _ hux 2 _ rfl)
 ·rw [Nat.add_assoc];exact hc _ _ (hg i _ hux 3 _ rfl)
 ·rw [Nat.add_assoc];exact hc _ _ (hg i _ hux 4 _ rfl)
theorem yB{P:Program}(w:World){ops:Array Oper}{rest:List Oper}{o:Oper}{a:Act}{Q:Exit→Act→World→Prop}(hgd:o.guard=none)(s x:Operand)(t:TypeId)
  (ho:o.op= .call {callee:= .builtin .append,args:= #[s,x],argTypes:= #[t,t]})
  (base:Nat) (e:TypeId) (i:TypeInfo) (z:Value) (size bytes:Nat) (ht:P.underlying t=some (.slice e)) (hi:P.info? e=some i) (hz:i.zero=some z)
  (hsize:i.size=size) (hby:i.bytes=bytes) (hzs:z.cells.size=size) (hsz:0<size)
  (v:Value) (n:Nat) (xs:List Value) (hs:a.eval s=v) (hown:w.ownsRow base e size v n xs)
  (B:Nat) (A:Option Addr) (m c:Nat) (news:List Value) (hx:a.eval x= .slice A m c) (hr:Sees w B A news) (hl:news.length=m*size) (h1:∀u∈news,u.oneCell'=true)
  (h63:n+m≤maxLen) (hbytes:(n+m)*bytes≤140737488355328) (hbase:base≤w.heap.size)
  (h:∀v' w',w'.ownsRow base e size v' (n+m) (xs++news)→w.grownBy w' v.ownBlock→(v'.ownBlock=v.ownBlock∨v'.ownBlock=some w.heap.size)→wpList P ops Q rest (a.put o.dst v') w'):wpList P ops Q (o::rest) a w:=by
 obtain ⟨v',w',hr2,h2,h3,h4⟩:=ZI (P:=P) w base t o.type e i z size bytes ht hi hz hsize hby hzs hsz v n xs hown B A m c news hr hl h1 h63 hbytes hbase
 refine wpList_plain hgd fun K hK=> ?_
 unfold Oper.wp execOp
 simp only [ho,resolve,invoke,builtin,Sem.run_bind,Sem.run_pure,Result.andThen_ok,List.map_toArray,List.map_cons,List.map_nil,hs,hx,hr2]
 exact hK _ _ (h v' w' h2 h3 h4)
def Grew(w w':World):Prop:=∃n os,w'=Go.Sort.grow (w.drewN n) os
theorem Grew.refl(w:World):Grew w w:=⟨0,#[],by rw [Go.Sort.grow_empty];rfl⟩
theorem Grew.drewN{w w':World}(h:Grew w w')(k:Nat):Grew w (w'.drewN k):=by
 obtain ⟨n,os,rfl⟩:=h
 exact ⟨n+k,os,by rw [←World.drewN_drewN];rfl⟩
theorem Grew.drew{w w':World}(h:Grew w w'):Grew w w'.drew:=h.drewN 1
theorem Grew.alloc{w w':World}(h:Grew w w')(o:Obj):Grew w (w'.alloc o):=by
 obtain ⟨n,os,rfl⟩:=h
 exact ⟨n,os++ #[o],by rw [Go.Sort.alloc_eq_grow,Go.Sort.grow_grow]⟩
theorem Grew.trans{w w' w'':World}(h:Grew w w')(k:Grew w' w''):Grew w w'':=by
 obtain ⟨n,os,rfl⟩:=h
 obtain ⟨m,ot,rfl⟩:=k
 exact ⟨n+m,os++ot,by
  rw [←Go.Sort.grow_grow,←World.drewN_drewN]
  rfl⟩
theorem Grew.below{w w':World}(h:Grew w w'):Below w.heap.size w w':=by
 obtain ⟨n,os,rfl⟩:=h
 exact ⟨rfl,rfl,rfl,by simp [Go.Sort.grow,World.drewN],fun k hk=>by simp [Go.Sort.grow,World.drewN,Array.getElem?_append,hk]⟩
theorem Grew.cell{w w':World}(h:Grew w w'){p:Addr}{v:Value}(hc:w.cell? p=some v):w'.cell? p=some v:=by
 obtain ⟨n,os,rfl⟩:=h
 exact Go.cell_grown (World.block_lt_of_cell? w _ hc) hc n os
theorem zhc(x:In):∀u∈x.cells,u.oneCell'=true:=fun u hu=>by
 simp only [In.cells,List.mem_cons,List.not_mem_nil,or_false] at hu
 rcases hu with rfl|rfl|rfl|rfl|rfl<;>rfl
section
variable {w w' : World} {B B' : Nat} {A : Option Addr} {b o : Nat}
theorem MisAt.ok{xs:List Mi}(h:MisAt w B A xs):∀x∈xs,x.Ok:=fun x hx=>by
 obtain ⟨b,o,e,hb,hc⟩:=h (by rintro rfl;simp at hx)
 obtain ⟨i,hi⟩:=List.mem_iff_getElem?.1 hx
 exact (hc i x hi).ok
end
end Go.Proofs.YtnifhpbgmjcndaaGreat
