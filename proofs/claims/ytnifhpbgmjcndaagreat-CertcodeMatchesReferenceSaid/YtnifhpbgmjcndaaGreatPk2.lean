import Derived.Test.YtnifhpbgmjcndaaGreatPk1
import Derived.Shelf.SlSortCmp.QuietGrown
import Derived.Lib.Small
import Derived.Deep.Cut
import Derived.Deep.CutRange
import Derived.Deep.DeepMust
import Derived.Laws.StructEq
set_option linter.unusedVariables false
set_option linter.unusedSimpArgs false
set_option linter.unusedSectionVars false
namespace Go.Proofs.YtnifhpbgmjcndaaGreat
open Go.RowKit
section
variable {w w' : World} {base n s : Nat} {e : TypeId} {v : Value} {xs : List Value}
theorem zW(h:w.ownsRow base e s v n xs)(k:Nat)(hk:v.ownBlock=some k):base≤k∧k<w.heap.size:=by
 rcases h.2 with ⟨rfl,_⟩|⟨g,cap,cur,rfl,hg,hh,_⟩
 ·simp [Value.ownBlock] at hk
 ·have:g=k:=by simpa [Value.ownBlock] using hk
  subst this
  exact ⟨hg,(Array.getElem?_eq_some_iff.1 hh).1⟩
theorem zh(h:w.ownsRow base e s v n xs):∃A c,v= .slice A n c∧n≤c∧c≤maxLen:=by
 rcases h.2 with ⟨rfl,h0⟩|⟨g,cap,cur,rfl,_,_,h1,h2,_⟩
 ·subst h0
  exact ⟨none,0,rfl,la _,lF _⟩
 ·exact ⟨_,cap,rfl,h1,h2⟩
theorem jo{base':Nat}(h:w.ownsRow base e s v n xs)(hb:base'≤base):w.ownsRow base' e s v n xs:=
 ⟨h.1,by
  rcases h.2 with h|⟨g,cap,cur,h1,h2,h3⟩
  ·exact .inl h
  ·exact .inr ⟨g,cap,cur,h1,lf hb h2,h3⟩⟩
theorem zc5{base' m s':Nat}{e':TypeId}{u:Value}{ys:List Value}(h:w.ownsRow base e s v n xs)(k:w.ownsRow base' e' s' u m ys)(he:e≠e')(g:Nat)(hv:v.ownBlock=some g)(hu:u.ownBlock=some g):False:=by
 rcases h.2 with ⟨rfl,_⟩|⟨a,cap,cur,rfl,_,h1,_⟩
 ·cases hv
 ·rcases k.2 with ⟨rfl,_⟩|⟨b,cap',cur',rfl,_,h2,_⟩
  ·cases hu
  ·simp only [Value.ownBlock,Option.some.injEq] at hv hu
   subst hv
   rw [hu] at h2
   rw [h1] at h2
   simp only [Option.some.injEq,Obj.cells.injEq] at h2
   exact he h2.2.1
theorem Mods.ownS{S:Nat→Prop}(h:Mods S w w')(ho:w.ownsRow base e s v n xs)(hS:∀k,v.ownBlock=some k→¬S k):w'.ownsRow base e s v n xs:=by
 obtain ⟨h1,h2⟩:=ho
 refine ⟨h1,?_⟩
 rcases h2 with h2|⟨g,cap,cur,rfl,hg,hh,r⟩
 ·exact Or.inl h2
 ·exact Or.inr ⟨g,cap,cur,rfl,hg,(h.block g (Array.getElem?_eq_some_iff.1 hh).1 (hS g (by simp [Value.ownBlock]))).trans hh,r⟩
theorem J8{A:Option Addr}{c:Nat}(h:w.ownsRow base e s (.slice A n c) n xs):Sees w w.heap.size A xs:=fun hn=>by
 rcases h.2 with ⟨h0,h1⟩|⟨g,cap,cur,hv,_,hg,_⟩
 ·exact absurd (List.eq_nil_of_length_eq_zero (by have:=h.1;rw [h1] at this;omega)) hn
 ·injection hv with hA
  subst hA
  refine ⟨g,0,rfl,(Array.getElem?_eq_some_iff.1 hg).1,fun i u hu=> ?_⟩
  have:=h.cells (g:=g) rfl i u hu
  simpa [Addr.add_lit] using this
theorem Qo(W:World)(e:TypeId)(s:Nat):(W.alloc (.cells #[] e)).ownsRow W.heap.size e s (.slice (some ⟨W.heap.size,0,none⟩) 0 0) 0 []:=
 ⟨by simp,.inr ⟨W.heap.size,0,#[],rfl,la _,heap_alloc_new W _,la _,lF _,by simp,by simp⟩⟩
end
section
variable {P : Program} (w : World)
theorem YV(base:Nat)(t ty e:TypeId)(i:TypeInfo)(size:Nat)(ht:P.underlying t=some (.slice e))(hi:P.info? e=some i)
  (v:Value) (n:Nat) (xs:List Value) (hown:w.ownsRow base e size v n xs) (c:Nat):(Builtin.append_ #[t,t] ty #[v,.slice none 0 c]).run P w= .ok v w:=by
 rcases hown.2 with ⟨rfl,rfl⟩|⟨g,cap,cur,rfl,_,_,hnc,_⟩
 ·simp [Builtin.append_,run_underlying ht,sizeOf,typeInfo,hi,Builtin.lenOf,Builtin.firstCells]
 ·simp [Builtin.append_,run_underlying ht,sizeOf,typeInfo,hi,Builtin.lenOf,Builtin.firstCells,hnc,storeCells]
theorem ZD(base:Nat)(t ty e:TypeId)(i:TypeInfo)(z:Value)(size bytes:Nat)(ht:P.underlying t=some (.slice e))(hi:P.info? e=some i)(hz:i.zero=some z)
  (hsize:i.size=size) (hby:i.bytes=bytes) (hzs:z.cells.size=size) (hsz:0<size)
  (v:Value) (n:Nat) (xs:List Value) (hown:w.ownsRow base e size v n xs)
  (B:Nat) (A:Option Addr) (m c:Nat) (news:List Value) (hr:Sees w B A news) (hl:news.length=m*size) (h1:∀u∈news,u.oneCell'=true)
  (h63:n+m≤maxLen) (hbytes:(n+m)*bytes≤140737488355328) (hbase:base≤w.heap.size):
  ∃v' w',(Builtin.append_ #[t,t] ty #[v,.slice A m c]).run P w= .ok v' w'∧w'.ownsRow base e size v' (n+m) (xs++news)∧w.grownBy w' v.ownBlock∧(v'.ownBlock=v.ownBlock∨v'.ownBlock=some w.heap.size):=by
 rcases A with _|ad
 ·have hn:news= []:=by
   rcases news with _|⟨y,ys⟩
   ·rfl
   ·obtain ⟨b,o,h,_⟩:=hr (by simp)
    cases h
  subst hn
  obtain rfl:m=0:=by
   rcases Nat.eq_zero_or_pos m with h|h
   ·exact h
   ·have:=Nat.mul_pos h hsz
    simp at hl
    omega
  exact ⟨v,w,YV (P:=P) w base t ty e i size ht hi v n xs hown c,by simpa using hown,World.grownBy.refl _ _,.inl rfl⟩
 ·obtain ⟨v',w',a1,a2,a3,_,a5⟩:=run_append_own_at (P:=P) w base t ty e i z size bytes ht hi hz hsize hby hzs hsz v n xs hown ad m c news hl (fun j u hu=>by
   obtain ⟨b,o,hA,_,hc⟩:=hr (by intro e;subst e;simp at hu)
   injection hA with hA
   subst hA
   simpa [Addr.add_lit] using hc j u hu) h1 h63 hbytes hbase
  exact ⟨v',w',a1,a2,a3,a5⟩
theorem yt{ops:Array Oper}{o:Oper}{a:Act}{K:Act→World→Prop}{Q:Exit→Act→World→Prop}{E:Prop}(hgd:o.guard=none)(s x:Operand)(t:TypeId)
  (ho:o.op= .call {callee:= .builtin .append,args:= #[s,x],argTypes:= #[t,t]})
  (base:Nat) (e:TypeId) (i:TypeInfo) (z:Value) (size bytes:Nat) (ht:P.underlying t=some (.slice e)) (hi:P.info? e=some i) (hz:i.zero=some z)
  (hsize:i.size=size) (hby:i.bytes=bytes) (hzs:z.cells.size=size) (hsz:0<size)
  (v:Value) (n:Nat) (xs:List Value) (hs:a.eval s=v) (hown:w.ownsRow base e size v n xs)
  (B:Nat) (A:Option Addr) (m c:Nat) (news:List Value) (hx:a.eval x= .slice A m c) (hr:Sees w B A news) (hl:news.length=m*size) (h1:∀u∈news,u.oneCell'=true)
  (h63:n+m≤maxLen) (hbytes:(n+m)*bytes≤140737488355328) (hbase:base≤w.heap.size)
  (h:∀v' w',w'.ownsRow base e size v' (n+m) (xs++news)→w.grownBy w' v.ownBlock→(v'.ownBlock=v.ownBlock∨v'.ownBlock=some w.heap.size)→K (a.put o.dst v') w'):
  if Region.wanted o (yielded ops a.tmps)=true then Oper.wp P o a w K Q else E:=by
 have hw:Region.wanted o (yielded ops a.tmps)=true:=by simp [Region.wanted,hgd]
 rw [if_pos hw]
 obtain ⟨v',w',hr2,h2,h3,h4⟩:=ZD (P:=P) w base t o.type e i z size bytes ht hi hz hsize hby hzs hsz v n xs hown B A m c news hr hl h1 h63 hbytes hbase
 unfold Oper.wp execOp
 simp only [ho,resolve,invoke,builtin,Sem.run_bind,Sem.run_pure,Result.andThen_ok,List.map_toArray,lJ,List.map_nil,hs,hx,hr2]
 exact h v' w' h2 h3 h4
end
structure Shp(α:Type) where
 eo:TypeId
 ei:TypeId
 so:Nat
 si:Nat
 oc:Value→α→List Value
 ic:α→List Value
 il:α→Nat
 ne:eo≠ei
 hoc:∀u x,(oc u x).length=so
structure NestV{α:Type}(S:Shp α)(w:World)(base:Nat)(v:Value)(vs:List Value)(xs:List α):Prop where
 outer:w.ownsRow base S.eo S.so v vs.length ((vs.zip xs).flatMap fun p=>S.oc p.1 p.2)
 len:vs.length=xs.length
 inner:∀(i:Nat) (u:Value) (x:α),vs[i]?=some u→xs[i]?=some x→w.ownsRow base S.ei S.si u (S.il x) (S.ic x)
 dist:∀(i j:Nat) (u u':Value) (g:Nat),vs[i]?=some u→vs[j]?=some u'→u.ownBlock=some g→u'.ownBlock=some g→i=j
section
variable {α : Type} {S : Shp α} {w w' w0 : World} {base : Nat} {v v' u : Value} {vs : List Value} {xs : List α} {x : α}
theorem NestV.nil(w:World)(base:Nat):NestV S w base (.slice none 0 0) [] []:=
 ⟨⟨by simp,.inl ⟨rfl,rfl⟩⟩,rfl,fun i u x h=>by simp at h,fun i j u u' g h=>by simp at h⟩
theorem NestV.get(h:NestV S w base v vs xs){i:Nat}{u:Value}(hu:vs[i]?=some u):∃x,xs[i]?=some x∧w.ownsRow base S.ei S.si u (S.il x) (S.ic x):=by
 have hi:i<vs.length:=(List.getElem?_eq_some_iff.1 hu).1
 have hi':i<xs.length:=by rw [←h.len];exact hi
 exact ⟨xs[i],List.getElem?_eq_getElem hi',h.inner i u _ hu (List.getElem?_eq_getElem hi')⟩
theorem NestV.mods{M:Nat→Prop}(h:NestV S w base v vs xs)(hm:Mods M w w')(hS:∀k,base≤k→k<w.heap.size→¬M k):NestV S w' base v vs xs:=
 ⟨hm.ownS h.outer fun k hk=>by
   have:=zW h.outer k hk
   exact hS k this.1 this.2,h.len,
  fun i u x h1 h2=>hm.ownS (h.inner i u x h1 h2) fun k hk=>by
   have:=zW (h.inner i u x h1 h2) k hk
   exact hS k this.1 this.2,h.dist⟩
theorem NestV.below(h:NestV S w base v vs xs)(hb:Below w.heap.size w w'):NestV S w' base v vs xs:=h.mods (M:=No) (Mods.of_below hb) fun _ _ _ h=>h
theorem NestV.rebase(h:NestV S w base v vs xs){base':Nat}(hb:base'≤base):NestV S w base' v vs xs:=
 ⟨jo h.outer hb,h.len,fun i u x h1 h2=>jo (h.inner i u x h1 h2) hb,h.dist⟩
theorem ze3{β:Type}(vs:List β)(xs:List α)(u:β)(x:α)(h:vs.length=xs.length):(vs++ [u]).zip (xs++ [x])=vs.zip xs++ [(u,x)]:=by
 rw [List.zip_append h]
 rfl
theorem NestV.snoc{M:Nat→Prop}(h:NestV S w0 base v vs xs)(hm:Mods M w0 w)(hS:∀k,M k→k<base)(hb:base≤w0.heap.size)(hu:w.ownsRow w0.heap.size S.ei S.si u (S.il x) (S.ic x))(o:Obj)
  (ho:w'.ownsRow base S.eo S.so v' (vs.length+1) (((vs.zip xs).flatMap fun p=>S.oc p.1 p.2)++S.oc u x)) (hg:(w.alloc o).grownBy w' v.ownBlock):NestV S w' base v' (vs++ [u]) (xs++ [x]):=by
 have hS':∀k,base≤k→k<w0.heap.size→¬M k:=fun k h1 _ h3=>by have:=hS k h3;omega
 have h1:=h.mods hm hS'
 have hG:Mods (fun k=>v.ownBlock=some k) w w':=((Mods.refl _ _).alloc o).grown hg fun k hk=> .inl hk
 have hnew:∀(i:Nat) (u':Value),vs[i]?=some u'→∀g,u'.ownBlock=some g→u.ownBlock=some g→False:=fun i u' hi g h2 h3=>by
  obtain ⟨x',_,hx'⟩:=h.get hi
  have a:=zW hx' g h2
  have b:=zW hu g h3
  omega
 refine ⟨?_,by simp [h.len],fun i u' y hi hy=> ?_,fun i j a b g hi hj ha hb=> ?_⟩
 ·rw [lc,ze3 _ _ _ _ h.len,List.flatMap_append]
  simpa using ho
 ·rcases Nat.lt_trichotomy i vs.length with hl|hl|hl
  ·rw [List.getElem?_append_left hl] at hi
   rw [List.getElem?_append_left (by rw [←h.len];exact hl)] at hy
   have hin:=h1.inner i u' y hi hy
   exact hG.ownS hin fun k hk hs=>zc5 h1.outer hin S.ne k hs hk
  ·subst hl
   rw [List.getElem?_append_right (la _),Nat.sub_self] at hi
   rw [h.len,List.getElem?_append_right (la _),Nat.sub_self] at hy
   injection hi with hi
   injection hy with hy
   subst hi
   subst hy
   exact hG.ownS (jo hu hb) fun k hk hs=>zc5 h1.outer hu S.ne k hs hk
  ·rw [List.getElem?_eq_none (by simp;omega)] at hi
   cases hi
 ·have hI:∀(i:Nat) (a:Value),(vs++ [u])[i]?=some a→(vs[i]?=some a)∨(i=vs.length∧a=u):=fun i a hi=>by
   rcases Nat.lt_trichotomy i vs.length with hl|hl|hl
   ·rw [List.getElem?_append_left hl] at hi
    exact .inl hi
   ·subst hl
    rw [List.getElem?_append_right (la _),Nat.sub_self] at hi
    injection hi with hi
    exact .inr ⟨rfl,hi.symm⟩
   ·rw [List.getElem?_eq_none (by simp;omega)] at hi
    cases hi
  rcases hI i a hi with h2|⟨h2,h3⟩
  ·rcases hI j b hj with h4|⟨h4,h5⟩
   ·exact h.dist i j a b g h2 h4 ha hb
   ·subst h5
    exact (hnew i a h2 g ha hb).elim
  ·subst h3
   rcases hI j b hj with h4|⟨h4,h5⟩
   ·exact (hnew j b h4 g hb ha).elim
   ·omega
end
def Jk:Shp Blk where
 eo:=60
 ei:=125
 so:=5
 si:=5
 oc:=fun u x=> [u,.int .i64 x.term.kind,.int .i64 x.term.a,.int .i64 x.term.to,.int .i64 x.term.el]
 ic:=fun x=>x.code.flatMap In.cells
 il:=fun x=>x.code.length
 ne:=by decide
 hoc:=fun _ _=>rfl
theorem zb4{w:World}{B:Nat}{A:Option Addr}{xs:List In}(h:Sees w B A (xs.flatMap In.cells)):InsAt w B A xs:=fun hn=>by
 have hg:=JZ In.cells 5 (fun _=>rfl) xs
 have hne:xs.flatMap In.cells≠ []:=by
  rcases xs with _|⟨x,r⟩
  ·exact absurd rfl hn
  ·simp [In.cells]
 obtain ⟨b,o,e,hb,hc⟩:=h hne
 refine ⟨b,o,e,hb,fun i x hx=>⟨?_,?_,?_,?_,?_⟩⟩
 ·exact hc _ _ (hg i x hx 0 _ rfl)
 ·rw [Nat.add_assoc];exact hc _ _ (hg i x hx 1 _ rfl)
 ·rw [Nat.add_assoc];exact hc _ _ (hg i x hx 2 _ rfl)
 ·rw [Nat.add_assoc];exact hc _ _ (hg i x hx 3 _ rfl)
 ·rw [Nat.add_assoc];exact hc _ _ (hg i x hx 4 _ rfl)
theorem ZW{w:World}{base:Nat}{v:Value}{vs:List Value}{bs:List Blk}(h:NestV Jk w base v vs bs):∃A c,v= .slice A bs.length c∧bs.length≤c∧c≤maxLen∧BlksAt w w.heap.size A bs:=by
 have ho:=h.outer
 obtain ⟨A,c,rfl,h1,h2⟩:=zh ho
 rw [h.len] at h1
 refine ⟨A,c,by rw [h.len],h1,h2,fun hn=> ?_⟩
 have hg:=JZ (fun p:Value × Blk=>Jk.oc p.1 p.2) 5 (fun _=>rfl) (vs.zip bs)
 have hz:∀i x,bs[i]?=some x→∃u,vs[i]?=some u∧(vs.zip bs)[i]?=some (u,x):=fun i x hx=>by
  have hi:i<bs.length:=(List.getElem?_eq_some_iff.1 hx).1
  have hi':i<vs.length:=by rw [h.len];exact hi
  refine ⟨vs[i],List.getElem?_eq_getElem hi',?_⟩
  rw [List.getElem?_zip_eq_some]
  exact ⟨List.getElem?_eq_getElem hi',hx⟩
 have hne:(vs.zip bs).flatMap (fun p=>Jk.oc p.1 p.2)≠ []:=by
  rcases bs with _|⟨x,r⟩
  ·exact absurd rfl hn
  ·obtain ⟨u,_,hu⟩:=hz 0 x rfl
   intro e
   have:=hg 0 (u,x) hu 0 u rfl
   rw [e] at this
   cases this
 obtain ⟨b,o,e,hb,hc⟩:=J8 ho hne
 refine ⟨b,o,e,hb,fun i x hx=> ?_⟩
 obtain ⟨u,hu,hux⟩:=hz i x hx
 have hin:=h.inner i u x hu hx
 obtain ⟨A',c',rfl,h3,h4⟩:=zh hin
 refine ⟨⟨A',c',hc _ _ (hg i _ hux 0 _ rfl),h3,h4,zb4 (J8 hin)⟩,?_,?_,?_,?_⟩
 ·rw [Nat.add_assoc];exact hc _ _ (hg i _ hux 1 _ rfl)
 ·rw [Nat.add_assoc];exact hc _ _ (hg i _ hux 2 _ rfl)
 ·rw [Nat.add_assoc];exact hc _ _ (hg i _ hux 3 _ rfl)
 ·rw [Nat.add_assoc];exact hc _ _ (hg i _ hux 4 _ rfl)
theorem zB{P:Program}(w:World){ops:Array Oper}{rest:List Oper}{o:Oper}{a:Act}{Q:Exit→Act→World→Prop}(hgd:o.guard=none)(s x:Operand)(t:TypeId)
  (ho:o.op= .call {callee:= .builtin .append,args:= #[s,x],argTypes:= #[t,t]})
  (base:Nat) (e:TypeId) (i:TypeInfo) (z:Value) (size bytes:Nat) (ht:P.underlying t=some (.slice e)) (hi:P.info? e=some i) (hz:i.zero=some z)
  (hsize:i.size=size) (hby:i.bytes=bytes) (hzs:z.cells.size=size) (hsz:0<size)
  (v:Value) (n:Nat) (xs:List Value) (hs:a.eval s=v) (hown:w.ownsRow base e size v n xs)
  (B:Nat) (A:Option Addr) (m c:Nat) (news:List Value) (hx:a.eval x= .slice A m c) (hr:Sees w B A news) (hl:news.length=m*size) (h1:∀u∈news,u.oneCell'=true)
  (h63:n+m≤maxLen) (hbytes:(n+m)*bytes≤140737488355328) (hbase:base≤w.heap.size)
  (h:∀v' w',w'.ownsRow base e size v' (n+m) (xs++news)→w.grownBy w' v.ownBlock→(v'.ownBlock=v.ownBlock∨v'.ownBlock=some w.heap.size)→wpList P ops Q rest (a.put o.dst v') w'):wpList P ops Q (o::rest) a w:=by
 obtain ⟨v',w',hr2,h2,h3,h4⟩:=ZD (P:=P) w base t o.type e i z size bytes ht hi hz hsize hby hzs hsz v n xs hown B A m c news hr hl h1 h63 hbytes hbase
 refine wpList_plain hgd fun K hK=> ?_
 unfold Oper.wp execOp
 simp only [ho,resolve,invoke,builtin,Sem.run_bind,Sem.run_pure,Result.andThen_ok,List.map_toArray,lJ,List.map_nil,hs,hx,hr2]
 exact hK _ _ (h v' w' h2 h3 h4)
def Grew(w w':World):Prop:=∃n os,w'=Go.Sort.grow (w.drewN n) os
theorem Grew.refl(w:World):Grew w w:=⟨0,#[],by rw [Go.Sort.grow_empty];rfl⟩
theorem Grew.drewN{w w':World}(h:Grew w w')(k:Nat):Grew w (w'.drewN k):=by
 obtain ⟨n,os,rfl⟩:=h
 exact ⟨n+k,os,by rw [←World.drewN_drewN];rfl⟩
theorem Grew.drew{w w':World}(h:Grew w w'):Grew w w'.drew:=h.drewN 1
theorem Grew.alloc{w w':World}(h:Grew w w')(o:Obj):Grew w (w'.alloc o):=by
 obtain ⟨n,os,rfl⟩:=h
 exact ⟨n,os++ #[o],by rw [Go.Sort.alloc_eq_grow,Go.Sort.grow_grow]⟩
theorem Grew.trans{w w' w'':World}(h:Grew w w')(k:Grew w' w''):Grew w w'':=by
 obtain ⟨n,os,rfl⟩:=h
 obtain ⟨m,ot,rfl⟩:=k
 exact ⟨n+m,os++ot,by
  rw [←Go.Sort.grow_grow,←World.drewN_drewN]
  rfl⟩
theorem Grew.below{w w':World}(h:Grew w w'):Below w.heap.size w w':=by
 obtain ⟨n,os,rfl⟩:=h
 exact ⟨rfl,rfl,rfl,by simp [Go.Sort.grow,World.drewN],fun k hk=>by simp [Go.Sort.grow,World.drewN,Array.getElem?_append,hk]⟩
theorem Grew.cell{w w':World}(h:Grew w w'){p:Addr}{v:Value}(hc:w.cell? p=some v):w'.cell? p=some v:=by
 obtain ⟨n,os,rfl⟩:=h
 exact Go.cell_grown (World.block_lt_of_cell? w _ hc) hc n os
theorem zg6(x:In):∀u∈x.cells,u.oneCell'=true:=fun u hu=>by
 simp only [In.cells,List.mem_cons,List.not_mem_nil,or_false] at hu
 rcases hu with rfl|rfl|rfl|rfl|rfl<;>rfl
section
variable {w w' : World} {B B' : Nat} {A : Option Addr} {b o : Nat}
theorem MisAt.ok{xs:List Mi}(h:MisAt w B A xs):∀x∈xs,x.Ok:=fun x hx=>by
 obtain ⟨b,o,e,hb,hc⟩:=h (by rintro rfl;simp at hx)
 obtain ⟨i,hi⟩:=List.mem_iff_getElem?.1 hx
 exact (hc i x hi).ok
end
end Go.Proofs.YtnifhpbgmjcndaaGreat
