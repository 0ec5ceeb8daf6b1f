import Derived.Test.YtnifhpbgmjcndaaGreatIcProg
import Derived.Test.YtnifhpbgmjcndaaGreatPk8
import Derived.Deep.LoopGhost
set_option linter.unusedVariables false
set_option linter.unusedSimpArgs false
set_option maxRecDepth 100000
set_option maxHeartbeats 4000000
namespace Go.Proofs.YtnifhpbgmjcndaaGreat
open Go.RowKit
theorem zhK{w:World}{q hi:Nat}{v:Value}{l:List Nat}(h:Wri w q hi v l)(hm:l.length+100≤70368744177664)(hhi:hi≤w.heap.size){x:In}(hx:(1≤x.op∧x.op≤17)∧PI (inM x)):
  Calls Tryz.prog 95 #[.pointer (some ⟨q,0,none⟩),.agg #[.int .i64 x.op,.int .i64 x.d,.int .i64 x.a,.int .i64 x.b,.int .i64 x.imm]] w (WroteK w q (l++zU (inM x))):=by
 obtain ⟨ho,hp,hi2,hd,ha,hb,_,_⟩:=hx
 have h18:((inM x).op==18)=false:=beq_eq_false_iff_ne.2 (by show x.op≠18;omega)
 have e1:∀x,zk false x= []:=fun _=>rfl
 have e2:zU (inM x)=x.op.toNat::(zk (uD x.op) x.d++(zk (uA x.op) x.a++(zk (uB x.op) x.b++zk (uI x.op) (zz x.imm)))):=by
  unfold zU
  rw [h18,e1,e1,zgV,lA,lA]
  rfl
 rw [e2]
 exact zgU h hm hhi ⟨ho.1,by omega⟩ hi2 hd ha hb
theorem zgW{w:World}{q hi:Nat}{v:Value}{l:List Nat}(h:Wri w q hi v l)(hm:l.length+100≤70368744177664)(hhi:hi≤w.heap.size){t:Tm}(hk:1≤t.kind∧t.kind≤3)(ht:PT t):
  Calls Tryz.prog 145 #[.pointer (some ⟨q,0,none⟩),.agg #[.int .i64 t.kind,.int .i64 t.a,.int .i64 t.to,.int .i64 t.el]] w (WroteK w q (l++yf t)):=by
 obtain ⟨_,ha,hto,hel⟩:=ht
 have e1:kA t.kind=(t.kind !=1):=by rw [Bool.eq_iff_iff];simp [kA];omega
 have e2:kT t.kind=(t.kind !=3):=by rw [Bool.eq_iff_iff];simp [kT];omega
 have e3:kE t.kind=(t.kind==2):=by rw [Bool.eq_iff_iff];simp [kE]
 have:=zhJ h hm hhi hk (by rw [e1];exact ha) (by rw [e2];exact hto) (by rw [e3];exact hel)
 rw [e1,e2,e3] at this
 exact this
def jO(xs:List Int):List Nat:=xs.flatMap fun x=>zc x.toNat
theorem zcz(xs:List Int)(k:Nat)(h:k<xs.length):jO (xs.take (k+1))=jO (xs.take k)++zc xs[k].toNat:=by
 unfold jO
 rw [List.take_succ_eq_append_getElem h,List.flatMap_append,List.flatMap_cons,List.flatMap_nil,lA]
theorem U7(xs:List Int):(jO xs).length≤10*xs.length:=by
 induction xs with
 |nil=>exact la _
 |cons x r ih=>
  have:=zC x.toNat
  unfold jO at*
  rw [List.flatMap_cons,lc,lp]
  omega
theorem JT{w:World}{q hi:Nat}{v:Value}{l:List Nat}(h:Wri w q hi v l)(hhi:hi≤w.heap.size){k c:Nat}(xs:List Int){cs:Array Value}(hcs:cs=(xs.map fun x=>Value.int .i64 x).toArray)(hr:Row w k 3 cs)(hx:∀x∈xs,0≤x∧x≤9223372036854775807)(n:Nat)(hn:xs.length=n)(hm:l.length+100≤70368744177664)(hn8:n≤8):
  Calls Tryz.prog 93 #[.pointer (some ⟨q,0,none⟩),.slice (some ⟨k,0,none⟩) n c] w (WroteK w q (l++jO xs)):=by
 have HG:Hid (GPS w q l w):=GPS.new h hhi
 have HR:=qH hr
 have HX:=qH hx
 have HN:=qH hn
 have HCS:=qH hcs
 clear h hhi hr hx hn hcs
 go_enter Tryz.func93,Tryz.ntmps93
 go_wp2
 go_loopg [8] n (fun g v8 wr=>∃(j:Nat),j+g=n∧v8= .int .i64 j∧Hid (GPS w q (l++jO (xs.take j)) wr))
 case atStart=>exact ⟨0,by omega,rfl,by rw [List.take_zero];show GPS w q (l++ []) w;rw [lA];exact HG.out⟩
 case round=>
  clear HG
  obtain ⟨j,hj,rfl,HG⟩:=hrel
  cases gk with
  |zero=>
   have hlt:¬(j:Int)<(n:Int):=by omega
   have HJ:Hid (jO (xs.take j)=jO xs):=by show _=_;rw [List.take_of_length_le (by rw [HN.out];omega)]
   go_wp2
   go_end0
   exact HG.out.done (by rw [HJ.out])
  |succ g=>
   have hlt:(j:Int)<(n:Int):=by omega
   have hjl:j<xs.length:=by rw [HN.out];omega
   obtain ⟨x,hxe⟩:∃x,xs[j]=x:=⟨_,rfl⟩
   have hxx:=HX.out xs[j] (List.getElem_mem hjl)
   rw [hxe] at hxx
   have hc:wr.cell? ⟨k,0+j,none⟩=some (.int .i64 x):=by
    rw [(HG.out.kp.ty _ _ _ HR.out (by decide) (by decide)).cell,HCS.out,lI,←hxe]
    simp [hjl]
   rw [lI] at hc
   have HE:Hid (l++jO (xs.take (j+1))=l++jO (xs.take j)++zc x.toNat):=by show _=_;rw [zcz xs j hjl,hxe,lg]
   obtain ⟨v,hv⟩:=HG.out.wr
   have hle:(jO (xs.take j)).length≤10*n:=lf (U7 _) (by rw [lu];omega)
   have C:=qH (Y4 hv x hxx.1 (by omega) (by rw [lc];omega) (la _))
   clear hxe hle hv hjl
   go_wp2_with fail
   refine C.out.mono ?_
   rintro e W1 ⟨⟨rfl,hw,hmm⟩,hk⟩
   have HG2:=qH (HG.out.next hw hmm hk)
   clear hw hmm hk C HG hc hxx
   rw [←HE.out] at HG2
   go_wp2
   go_roundg g
   case measure=>omega
   case rel=>exact ⟨j+1,by omega,by go_num,HG2⟩
theorem zbq(xs:List In):(yK xs).length≤61*xs.length:=ZB (fun x=>zU (inM x)) 61 (fun x=>Zh _) xs
theorem zcA(xs:List In)(k:Nat)(h:k<xs.length):yK (xs.take (k+1))=yK (xs.take k)++zU (inM xs[k]):=by
 unfold yK
 rw [List.take_succ_eq_append_getElem h,List.flatMap_append,List.flatMap_cons,List.flatMap_nil,lA]
theorem zbr{w:World}{q hi:Nat}{v:Value}{l:List Nat}(h:Wri w q hi v l)(hhi:hi≤w.heap.size){A:Option Addr}{c n:Nat}{xs:List In}{t:Tm}(hs:InsAt w q A xs)(hv:VB ⟨xs,t⟩)(hn:xs.length=n)(hc:n≤c)(hn2:n≤1048576)(hm:l.length+61*n+200≤70368744177664):
  Calls Tryz.prog 94 #[.pointer (some ⟨q,0,none⟩),.slice A n c,.func (.func 95) #[] #[],.agg #[.int .i64 t.kind,.int .i64 t.a,.int .i64 t.to,.int .i64 t.el]] w (WroteK w q (l++Jw ⟨xs,t⟩)):=by
 have hmf:∀(fn:Fn) (first cap:Array Value) (w:World),(Instr.makeFunc fn first cap).run Tryz.prog w= .ok (.func fn first cap) w:=fun _ _ _ _=>rfl
 have HV:=qH hv
 have HN:=qH hn
 have HS:=qH hs
 have HQ:Hid (∀W,Mods (Zt q) w W→Below q w W):=fun W hm=>hm.below (Nat.le_of_lt h.row.lt) fun k hk=>hk
 have HG:Hid (GPS w q l (w.alloc (.cells #[.int .i64 t.kind,.int .i64 t.a,.int .i64 t.to,.int .i64 t.el] 57))):=(GPS.new h hhi).below ((ld _ _).alloc (la _) _)
 have HB:=qH (Row.new w 57 #[.int .i64 t.kind,.int .i64 t.a,.int .i64 t.to,.int .i64 t.el])
 clear h hhi hs hv hn
 go_enter Tryz.func94,Tryz.ntmps94
 go_upto_region 1 with fail
 generalize (w.alloc (.cells #[.int .i64 t.kind,.int .i64 t.a,.int .i64 t.to,.int .i64 t.el] 57))=W0 at*
 generalize w.heap.size=bx at*
 have HG0:Hid (GPS w q l (W0.alloc (.cells #[.int .i64 (n:Int)] 3))):=HG.out.below ((ld _ _).alloc (la _) _)
 have HB0:=qH (HB.out.alloc (.cells #[.int .i64 (n:Int)] 3))
 obtain ⟨v0,hv0⟩:=HG0.out.wr
 have C1:=qH (JT hv0 (la _) (k:=W0.heap.size) (c:=1) [(n:Int)] (cs:= #[.int .i64 (n:Int)]) rfl (Row.new W0 3 _) (by intro x hx;rw [List.mem_singleton.1 hx];omega) 1 rfl (by omega) (by omega))
 clear hv0
 go_wp2_with fail
 refine C1.out.mono ?_
 rintro e W1 ⟨⟨rfl,hw,hmm⟩,hk⟩
 have HG1:=qH (HG0.out.next hw hmm hk)
 have HB1:=qH (hk.ty _ _ _ HB0.out (by decide) (by decide))
 have HE1:Hid (l++jO [(n:Int)]=l++zc n):=by show _=_;unfold jO;simp
 rw [HE1.out] at HG1
 clear hw hmm hk C1 HG HB HG0 HB0 HE1
 go_wp2
 go_loopg [17] n (fun g v17 wr=>∃(j:Nat),j+g=n∧v17= .int .i64 j∧Hid (GPS w q (l++zc n++yK (xs.take j)) wr)∧Hid (Row wr bx 57 #[.int .i64 t.kind,.int .i64 t.a,.int .i64 t.to,.int .i64 t.el]))
 case atStart=>exact ⟨0,by omega,rfl,by rw [List.take_zero];show GPS w q (l++zc n++ []) W1;rw [lA];exact HG1.out,HB1.out⟩
 case round=>
  clear HG1 HB1
  obtain ⟨j,hj,rfl,HG,HB⟩:=hrel
  cases gk with
  |zero=>
   have hlt:¬(j:Int)<(n:Int):=by omega
   have HJ:Hid (xs.take j=xs):=by show _=_;rw [List.take_of_length_le (by rw [HN.out];omega)]
   rw [HJ.out] at HG
   have hle:=zbq xs
   rw [HN.out] at hle
   have hp:=zC n
   obtain ⟨v1,hv1⟩:=HG.out.wr
   have C:=qH (zgW hv1 (by simp only [lc];omega) (la _) HV.out.2.1 HV.out.2.2)
   have b0:=HB.out.k0;have b1:=HB.out.k1;have b2:=HB.out.k2;have b3:=HB.out.k3
   clear hle hp hv1
   go_wp2_with fail
   refine C.out.mono ?_
   rintro e W2 ⟨⟨rfl,hw,hmm⟩,hk⟩
   have HG2:=qH (HG.out.next hw hmm hk)
   clear hw hmm hk C b0 b1 b2 b3
   go_wp2
   go_end0
   exact HG2.out.done (by show _=l++(zc xs.length++(yK xs++yf t));rw [HN.out];simp only [lg])
  |succ g=>
   have hlt:(j:Int)<(n:Int):=by omega
   have hjl:j<xs.length:=by rw [HN.out];omega
   obtain ⟨x,hxe⟩:∃x,xs[j]=x:=⟨_,rfl⟩
   have hxv:=HV.out.1 xs[j] (List.getElem_mem hjl)
   rw [hxe] at hxv
   have hsw:InsAt wr q A xs:=HS.out.below (HQ.out _ HG.out.md)
   obtain ⟨b,o,rfl,hb,hat⟩:=hsw.at_ hjl
   rw [hxe] at hat
   have hc0:=hat.c0;have hc1:=hat.c1;have hc2:=hat.c2;have hc3:=hat.c3;have hc4:=hat.c4
   have HE:Hid (l++zc n++yK (xs.take (j+1))=l++zc n++yK (xs.take j)++zU (inM x)):=by show _=_;rw [zcA xs j hjl,hxe,lg (l++zc n)]
   have hle:(yK (xs.take j)).length≤61*j:=lf (zbq _) (by rw [lu];omega)
   have hp:=zC n
   have HGA:Hid (GPS w q (l++zc n++yK (xs.take j)) (wr.alloc (.cells #[.int .i64 x.op,.int .i64 x.d,.int .i64 x.a,.int .i64 x.b,.int .i64 x.imm] 125))):=HG.out.below ((ld _ _).alloc (la _) _)
   have HBA:=qH (HB.out.alloc (.cells #[.int .i64 x.op,.int .i64 x.d,.int .i64 x.a,.int .i64 x.b,.int .i64 x.imm] 125))
   have hxr:=Row.new wr 125 #[.int .i64 x.op,.int .i64 x.d,.int .i64 x.a,.int .i64 x.b,.int .i64 x.imm]
   obtain ⟨v1,hv1⟩:=HGA.out.wr
   have C:=qH (zhK hv1 (by simp only [lc];omega) (la _) hxv)
   clear hxe hle hp hv1 hjl hsw hxv HG HB hat
   go_upto_region 5 with fail
   generalize (wr.alloc (.cells #[.int .i64 x.op,.int .i64 x.d,.int .i64 x.a,.int .i64 x.b,.int .i64 x.imm] 125))=W1 at*
   have x0:=hxr.k0
   have x1:=hxr.k1
   have x2:=hxr.k2
   have x3:=hxr.k3
   have x4:=hxr.k4
   clear hxr
   go_wp2_with fail
   refine C.out.mono ?_
   rintro e W2 ⟨⟨rfl,hw,hmm⟩,hk⟩
   have HG2:=qH (HGA.out.next hw hmm hk)
   have HB2:=qH (hk.ty _ _ _ HBA.out (by decide) (by decide))
   clear hw hmm hk C HGA HBA
   rw [←HE.out] at HG2
   go_wp2
   go_roundg g
   case measure=>omega
   case rel=>exact ⟨j+1,by omega,by go_num,HG2,HB2⟩
theorem zbs(bs:List Blk)(k:Nat)(h:k<bs.length):zG (bs.take (k+1))=zG (bs.take k)++Jw bs[k]:=by
 unfold zG
 rw [List.take_succ_eq_append_getElem h,List.flatMap_append,List.flatMap_cons,List.flatMap_nil,lA]
theorem zep{bs:List Blk}{j n:Nat}(h:bs.length≤n):(zG (bs.take j)).length≤61*zQ bs+41*n:=by
 have h1:=ZC bs
 have h2:(zG (bs.take j)).length≤(zG bs).length:=by
  have:zG bs=zG (bs.take j)++zG (bs.drop j):=by
   unfold zG
   rw [←List.flatMap_append,List.take_append_drop]
  rw [this,lc]
  omega
 omega
theorem zgH{w:World}{q hi:Nat}{v:Value}{l:List Nat}(h:Wri w q hi v l)(hm:l.length+200000000≤70368744177664)(hhi:hi≤w.heap.size){f:Fd}(hf:VF f){A:Option Addr}{c:Nat}(hs:BlksAt w q A f.bs)(hc:f.bs.length≤c):
  Calls Tryz.prog 41 #[.pointer (some ⟨q,0,none⟩),.agg #[.int .i64 f.args,.int .i64 f.regs,.slice A f.bs.length c]] w (WroteK w q (l++zO f)):=by
 have hmf:∀(fn:Fn) (first cap:Array Value) (w:World),(Instr.makeFunc fn first cap).run Tryz.prog w= .ok (.func fn first cap) w:=fun _ _ _ _=>rfl
 obtain ⟨n,hn⟩:∃n,f.bs.length=n:=⟨_,rfl⟩
 rw [hn] at hc⊢
 have HV:=qH hf
 have HN:=qH hn
 have HS:=qH hs
 have hn2:n≤1048576:=by have:=hf.n;omega
 have HQ:Hid (∀W,Mods (Zt q) w W→Below q w W):=fun W hm=>hm.below (Nat.le_of_lt h.row.lt) fun k hk=>hk
 have HG:Hid (GPS w q l (w.alloc (.cells #[.int .i64 f.args,.int .i64 f.regs,.slice A n c] 25))):=(GPS.new h hhi).below ((ld _ _).alloc (la _) _)
 have HB:=qH (Row.new w 25 #[.int .i64 f.args,.int .i64 f.regs,.slice A n c])
 have HX:Hid (∀x∈ [f.args,f.regs,(n:Int)],0≤x∧x≤9223372036854775807):=fun x hx=>by
  have ha:=hf.a;have hr:=hf.r
  simp only [List.mem_cons,List.not_mem_nil,or_false] at hx
  rcases hx with rfl|rfl|rfl<;>omega
 clear h hhi hs hn hf
 go_enter Tryz.func41,Tryz.ntmps41
 go_upto_region 1 with fail
 generalize (w.alloc (.cells #[.int .i64 f.args,.int .i64 f.regs,.slice A n c] 25))=W0 at*
 generalize w.heap.size=bx at*
 have b0:=HB.out.k0
 have b1:=HB.out.k1
 have b2:=HB.out.k2
 have HG0:Hid (GPS w q l (W0.alloc (.cells #[.int .i64 f.args,.int .i64 f.regs,.int .i64 (n:Int)] 3))):=HG.out.below ((ld _ _).alloc (la _) _)
 have HB0:=qH (HB.out.alloc (.cells #[.int .i64 f.args,.int .i64 f.regs,.int .i64 (n:Int)] 3))
 obtain ⟨v0,hv0⟩:=HG0.out.wr
 have C1:=qH (JT hv0 (la _) (k:=W0.heap.size) (c:=3) [f.args,f.regs,(n:Int)] (cs:= #[.int .i64 f.args,.int .i64 f.regs,.int .i64 (n:Int)]) rfl (Row.new W0 3 _) HX.out 3 rfl (by omega) (by omega))
 clear hv0
 go_wp2_with fail
 refine C1.out.mono ?_
 rintro e W1 ⟨⟨rfl,hw,hmm⟩,hk⟩
 have HG1:=qH (HG0.out.next hw hmm hk)
 have HB1:=qH (hk.ty _ _ _ HB0.out (by decide) (by decide))
 obtain ⟨pre,hpre⟩:∃y,l++jO [f.args,f.regs,(n:Int)]=y:=⟨_,rfl⟩
 rw [hpre] at HG1
 have HPL:Hid (pre.length≤l.length+30):=by show _≤_;rw [←hpre,lc];have:=U7 [f.args,f.regs,(n:Int)];simp only [lp,lE] at this;omega
 have HPE:Hid (l++zO f=pre++zG f.bs):=by
  show _=_
  rw [←hpre]
  unfold zO jO
  rw [HN.out]
  simp [lg]
 clear hw hmm hk C1 HG HB HG0 HB0 hpre b0 b1 b2
 have b2:=HB1.out.k2
 go_upto_region 3 with fail
 clear b2 HB1
 go_wp2
 go_loopg [19] n (fun g v19 wr=>∃(j:Nat),j+g=n∧v19= .int .i64 j∧Hid (GPS w q (pre++zG (f.bs.take j)) wr))
 case atStart=>exact ⟨0,by omega,rfl,by rw [List.take_zero];show GPS w q (pre++ []) W1;rw [lA];exact HG1.out⟩
 case round=>
  clear HG1
  obtain ⟨j,hj,rfl,HG⟩:=hrel
  cases gk with
  |zero=>
   have hlt:¬(j:Int)<(n:Int):=by omega
   have HJ:Hid (f.bs.take j=f.bs):=by show _=_;rw [List.take_of_length_le (by rw [HN.out];omega)]
   rw [HJ.out] at HG
   go_wp2
   go_end0
   exact HG.out.done HPE.out.symm
  |succ g=>
   have hlt:(j:Int)<(n:Int):=by omega
   have hjl:j<f.bs.length:=by rw [HN.out];omega
   obtain ⟨b,hbe⟩:∃b,f.bs[j]=b:=⟨_,rfl⟩
   have hbv:=HV.out.v f.bs[j] (List.getElem_mem hjl)
   have hbc:=Uc (List.getElem_mem hjl)
   have hcc:=HV.out.c
   rw [hbe] at hbv hbc
   have hsw:BlksAt wr q A f.bs:=HS.out.below (HQ.out _ HG.out.md)
   obtain ⟨k,o,rfl,hb,hat⟩:=hsw (by intro e;rw [e] at hjl;cases hjl)
   have hat:=hat j _ (List.getElem?_eq_getElem hjl)
   rw [hbe] at hat
   obtain ⟨Ac,cc,h0,hcl,hcx,hca⟩:=hat.code
   have h1:=hat.t0;have h2:=hat.t1;have h3:=hat.t2;have h4:=hat.t3
   have HE:Hid (pre++zG (f.bs.take (j+1))=pre++zG (f.bs.take j)++Jw b):=by show _=_;rw [zbs f.bs j hjl,hbe,lg]
   have hle:(zG (f.bs.take j)).length≤61*zQ f.bs+41*n:=zep (by rw [HN.out];omega)
   have hpl:=HPL.out
   have HGA:Hid (GPS w q (pre++zG (f.bs.take j)) (wr.alloc (.cells #[.slice Ac b.code.length cc,.int .i64 b.term.kind,.int .i64 b.term.a,.int .i64 b.term.to,.int .i64 b.term.el] 60))):=HG.out.below ((ld _ _).alloc (la _) _)
   have hxr:=Row.new wr 60 #[.slice Ac b.code.length cc,.int .i64 b.term.kind,.int .i64 b.term.a,.int .i64 b.term.to,.int .i64 b.term.el]
   have HCA:Hid (InsAt (wr.alloc (.cells #[.slice Ac b.code.length cc,.int .i64 b.term.kind,.int .i64 b.term.a,.int .i64 b.term.to,.int .i64 b.term.el] 60)) q Ac b.code):=InsAt.below hca ((ld _ _).alloc (by have hq:=(HG.out.wr);obtain ⟨_,hq⟩:=hq;have:=hq.row.lt;omega) _)
   obtain ⟨v1,hv1⟩:=HGA.out.wr
   have C:=qH (zbr hv1 (la _) HCA.out hbv rfl hcl (by omega) (by simp only [lc];omega))
   clear hbe hle hpl hv1 hjl hsw hbv hbc hcc HG hat hca hcx
   go_upto_region 5 with fail
   generalize (wr.alloc (.cells #[.slice Ac b.code.length cc,.int .i64 b.term.kind,.int .i64 b.term.a,.int .i64 b.term.to,.int .i64 b.term.el] 60))=W2 at*
   have x0:=hxr.k0
   have x1:=hxr.k1
   have x2:=hxr.k2
   have x3:=hxr.k3
   have x4:=hxr.k4
   clear hxr
   go_wp2_with fail
   refine C.out.mono ?_
   rintro e W3 ⟨⟨rfl,hw,hmm⟩,hk⟩
   have HG2:=qH (HGA.out.next hw hmm hk)
   clear hw hmm hk C HGA HCA h0 h1 h2 h3 h4
   rw [←HE.out] at HG2
   go_wp2
   go_roundg g
   case measure=>omega
   case rel=>exact ⟨j+1,by omega,by go_num,HG2⟩
theorem zbt(xs:List Mi):(yF xs).length≤61*xs.length:=ZB zU 61 (fun x=>Zh _) xs
theorem zcB(xs:List Mi)(k:Nat)(h:k<xs.length):yF (xs.take (k+1))=yF (xs.take k)++zU xs[k]:=by
 unfold yF
 rw [List.take_succ_eq_append_getElem h,List.flatMap_append,List.flatMap_cons,List.flatMap_nil,lA]
theorem zhL{w:World}{q hi:Nat}{v:Value}{l:List Nat}(h:Wri w q hi v l)(hm:l.length+100≤70368744177664)(hhi:hi≤w.heap.size){x:Mi}(hx:(1≤x.op∧x.op≤18)∧PI x):
  Calls Tryz.prog 97 #[.pointer (some ⟨q,0,none⟩),.agg #[.int .i64 x.op,.int .i64 x.d,.int .i64 x.a,.int .i64 x.b,.int .i64 x.imm,.int .i64 x.dst,.int .i64 x.src]] w (WroteK w q (l++zU x)):=by
 obtain ⟨ho,hp,hi2,hd,ha,hb,h5,h6⟩:=hx
 have e2:zU x=x.op.toNat::(zk (uD x.op) x.d++(zk (uA x.op) x.a++(zk (uB x.op) x.b++(zk (uI x.op) (zz x.imm)++(zk (x.op==18) x.dst++zk (x.op==18) x.src))))):=by
  unfold zU
  rw [zgV]
 rw [e2]
 exact zhI h hm hhi ho hi2 hd ha hb h5 h6
theorem zbu{w:World}{q hi:Nat}{v:Value}{l:List Nat}(h:Wri w q hi v l)(hhi:hi≤w.heap.size){A:Option Addr}{c n:Nat}{xs:List Mi}{t:Tm}(hs:MisAt w q A xs)(hv:VMB ⟨xs,t⟩)(hn:xs.length=n)(hc:n≤c)(hn2:n≤1048576)(hm:l.length+61*n+200≤70368744177664):
  Calls Tryz.prog 96 #[.pointer (some ⟨q,0,none⟩),.slice A n c,.func (.func 97) #[] #[],.agg #[.int .i64 t.kind,.int .i64 t.a,.int .i64 t.to,.int .i64 t.el]] w (WroteK w q (l++js ⟨xs,t⟩)):=by
 have hmf:∀(fn:Fn) (first cap:Array Value) (w:World),(Instr.makeFunc fn first cap).run Tryz.prog w= .ok (.func fn first cap) w:=fun _ _ _ _=>rfl
 have HV:=qH hv
 have HN:=qH hn
 have HS:=qH hs
 have HQ:Hid (∀W,Mods (Zt q) w W→Below q w W):=fun W hm=>hm.below (Nat.le_of_lt h.row.lt) fun k hk=>hk
 have HG:Hid (GPS w q l (w.alloc (.cells #[.int .i64 t.kind,.int .i64 t.a,.int .i64 t.to,.int .i64 t.el] 57))):=(GPS.new h hhi).below ((ld _ _).alloc (la _) _)
 have HB:=qH (Row.new w 57 #[.int .i64 t.kind,.int .i64 t.a,.int .i64 t.to,.int .i64 t.el])
 clear h hhi hs hv hn
 go_enter Tryz.func96,Tryz.ntmps96
 go_upto_region 1 with fail
 generalize (w.alloc (.cells #[.int .i64 t.kind,.int .i64 t.a,.int .i64 t.to,.int .i64 t.el] 57))=W0 at*
 generalize w.heap.size=bx at*
 have HG0:Hid (GPS w q l (W0.alloc (.cells #[.int .i64 (n:Int)] 3))):=HG.out.below ((ld _ _).alloc (la _) _)
 have HB0:=qH (HB.out.alloc (.cells #[.int .i64 (n:Int)] 3))
 obtain ⟨v0,hv0⟩:=HG0.out.wr
 have C1:=qH (JT hv0 (la _) (k:=W0.heap.size) (c:=1) [(n:Int)] (cs:= #[.int .i64 (n:Int)]) rfl (Row.new W0 3 _) (by intro x hx;rw [List.mem_singleton.1 hx];omega) 1 rfl (by omega) (by omega))
 clear hv0
 go_wp2_with fail
 refine C1.out.mono ?_
 rintro e W1 ⟨⟨rfl,hw,hmm⟩,hk⟩
 have HG1:=qH (HG0.out.next hw hmm hk)
 have HB1:=qH (hk.ty _ _ _ HB0.out (by decide) (by decide))
 have HE1:Hid (l++jO [(n:Int)]=l++zc n):=by show _=_;unfold jO;simp
 rw [HE1.out] at HG1
 clear hw hmm hk C1 HG HB HG0 HB0 HE1
 go_wp2
 go_loopg [17] n (fun g v17 wr=>∃(j:Nat),j+g=n∧v17= .int .i64 j∧Hid (GPS w q (l++zc n++yF (xs.take j)) wr)∧Hid (Row wr bx 57 #[.int .i64 t.kind,.int .i64 t.a,.int .i64 t.to,.int .i64 t.el]))
 case atStart=>exact ⟨0,by omega,rfl,by rw [List.take_zero];show GPS w q (l++zc n++ []) W1;rw [lA];exact HG1.out,HB1.out⟩
 case round=>
  clear HG1 HB1
  obtain ⟨j,hj,rfl,HG,HB⟩:=hrel
  cases gk with
  |zero=>
   have hlt:¬(j:Int)<(n:Int):=by omega
   have HJ:Hid (xs.take j=xs):=by show _=_;rw [List.take_of_length_le (by rw [HN.out];omega)]
   rw [HJ.out] at HG
   have hle:=zbt xs
   rw [HN.out] at hle
   have hp:=zC n
   obtain ⟨v1,hv1⟩:=HG.out.wr
   have C:=qH (zgW hv1 (by simp only [lc];omega) (la _) HV.out.2.1 HV.out.2.2)
   have b0:=HB.out.k0;have b1:=HB.out.k1;have b2:=HB.out.k2;have b3:=HB.out.k3
   clear hle hp hv1
   go_wp2_with fail
   refine C.out.mono ?_
   rintro e W2 ⟨⟨rfl,hw,hmm⟩,hk⟩
   have HG2:=qH (HG.out.next hw hmm hk)
   clear hw hmm hk C b0 b1 b2 b3
   go_wp2
   go_end0
   exact HG2.out.done (by show _=l++(zc xs.length++(yF xs++yf t));rw [HN.out];simp only [lg])
  |succ g=>
   have hlt:(j:Int)<(n:Int):=by omega
   have hjl:j<xs.length:=by rw [HN.out];omega
   obtain ⟨x,hxe⟩:∃x,xs[j]=x:=⟨_,rfl⟩
   have hxv:=HV.out.1 xs[j] (List.getElem_mem hjl)
   rw [hxe] at hxv
   have hsw:MisAt wr q A xs:=HS.out.below (HQ.out _ HG.out.md)
   obtain ⟨b,o,rfl,hb,hat⟩:=hsw.at_ hjl
   rw [hxe] at hat
   have hc0:=hat.c0;have hc1:=hat.c1;have hc2:=hat.c2;have hc3:=hat.c3;have hc4:=hat.c4;have hc5:=hat.c5;have hc6:=hat.c6
   have HE:Hid (l++zc n++yF (xs.take (j+1))=l++zc n++yF (xs.take j)++zU x):=by show _=_;rw [zcB xs j hjl,hxe,lg (l++zc n)]
   have hle:(yF (xs.take j)).length≤61*j:=lf (zbt _) (by rw [lu];omega)
   have hp:=zC n
   have HGA:Hid (GPS w q (l++zc n++yF (xs.take j)) (wr.alloc (.cells #[.int .i64 x.op,.int .i64 x.d,.int .i64 x.a,.int .i64 x.b,.int .i64 x.imm,.int .i64 x.dst,.int .i64 x.src] 131))):=HG.out.below ((ld _ _).alloc (la _) _)
   have HBA:=qH (HB.out.alloc (.cells #[.int .i64 x.op,.int .i64 x.d,.int .i64 x.a,.int .i64 x.b,.int .i64 x.imm,.int .i64 x.dst,.int .i64 x.src] 131))
   have hxr:=Row.new wr 131 #[.int .i64 x.op,.int .i64 x.d,.int .i64 x.a,.int .i64 x.b,.int .i64 x.imm,.int .i64 x.dst,.int .i64 x.src]
   obtain ⟨v1,hv1⟩:=HGA.out.wr
   have C:=qH (zhL hv1 (by simp only [lc];omega) (la _) hxv)
   clear hxe hle hp hv1 hjl hsw hxv HG HB hat
   go_upto_region 5 with fail
   generalize (wr.alloc (.cells #[.int .i64 x.op,.int .i64 x.d,.int .i64 x.a,.int .i64 x.b,.int .i64 x.imm,.int .i64 x.dst,.int .i64 x.src] 131))=W1 at*
   have x0:=hxr.k0
   have x1:=hxr.k1
   have x2:=hxr.k2
   have x3:=hxr.k3
   have x4:=hxr.k4
   have x5:=hxr.k5
   have x6:=hxr.k6
   clear hxr
   go_wp2_with fail
   refine C.out.mono ?_
   rintro e W2 ⟨⟨rfl,hw,hmm⟩,hk⟩
   have HG2:=qH (HGA.out.next hw hmm hk)
   have HB2:=qH (hk.ty _ _ _ HBA.out (by decide) (by decide))
   clear hw hmm hk C HGA HBA
   rw [←HE.out] at HG2
   go_wp2
   go_roundg g
   case measure=>omega
   case rel=>exact ⟨j+1,by omega,by go_num,HG2,HB2⟩
theorem zaa(bs:List MBlk)(k:Nat)(h:k<bs.length):zo (bs.take (k+1))=zo (bs.take k)++js bs[k]:=by
 unfold zo
 rw [List.take_succ_eq_append_getElem h,List.flatMap_append,List.flatMap_cons,List.flatMap_nil,lA]
theorem zcC{bs:List MBlk}{j n:Nat}(h:bs.length≤n):(zo (bs.take j)).length≤61*zF bs+41*n:=by
 have h1:=Zi bs
 have h2:(zo (bs.take j)).length≤(zo bs).length:=by
  have:zo bs=zo (bs.take j)++zo (bs.drop j):=by
   unfold zo
   rw [←List.flatMap_append,List.take_append_drop]
  rw [this,lc]
  omega
 omega
theorem zfI{w:World}{q hi:Nat}{v:Value}{l:List Nat}(h:Wri w q hi v l)(hm:l.length+200000000≤70368744177664)(hhi:hi≤w.heap.size){f:Gd}(hf:VG f){A:Option Addr}{c:Nat}(hs:MBlksAt w q A f.ms)(hc:f.ms.length≤c):
  Calls Tryz.prog 42 #[.pointer (some ⟨q,0,none⟩),.agg #[.int .i64 f.args,.int .i64 f.regs,.int .i64 f.slots,.slice A f.ms.length c]] w (WroteK w q (l++yz f)):=by
 have hmf:∀(fn:Fn) (first cap:Array Value) (w:World),(Instr.makeFunc fn first cap).run Tryz.prog w= .ok (.func fn first cap) w:=fun _ _ _ _=>rfl
 obtain ⟨n,hn⟩:∃n,f.ms.length=n:=⟨_,rfl⟩
 rw [hn] at hc⊢
 have HV:=qH hf
 have HN:=qH hn
 have HS:=qH hs
 have hn2:n≤1048576:=by have:=hf.n;omega
 have HQ:Hid (∀W,Mods (Zt q) w W→Below q w W):=fun W hm=>hm.below (Nat.le_of_lt h.row.lt) fun k hk=>hk
 have HG:Hid (GPS w q l (w.alloc (.cells #[.int .i64 f.args,.int .i64 f.regs,.int .i64 f.slots,.slice A n c] 28))):=(GPS.new h hhi).below ((ld _ _).alloc (la _) _)
 have HB:=qH (Row.new w 28 #[.int .i64 f.args,.int .i64 f.regs,.int .i64 f.slots,.slice A n c])
 have HX:Hid (∀x∈ [f.args,f.regs,f.slots,(n:Int)],0≤x∧x≤9223372036854775807):=fun x hx=>by
  have ha:=hf.a;have hr:=hf.r;have hsl:=hf.s
  simp only [List.mem_cons,List.not_mem_nil,or_false] at hx
  rcases hx with rfl|rfl|rfl|rfl<;>omega
 clear h hhi hs hn hf
 go_enter Tryz.func42,Tryz.ntmps42
 go_upto_region 1 with fail
 generalize (w.alloc (.cells #[.int .i64 f.args,.int .i64 f.regs,.int .i64 f.slots,.slice A n c] 28))=W0 at*
 generalize w.heap.size=bx at*
 have b0:=HB.out.k0
 have b1:=HB.out.k1
 have b2:=HB.out.k2
 have b3:=HB.out.k3
 have HG0:Hid (GPS w q l (W0.alloc (.cells #[.int .i64 f.args,.int .i64 f.regs,.int .i64 f.slots,.int .i64 (n:Int)] 3))):=HG.out.below ((ld _ _).alloc (la _) _)
 have HB0:=qH (HB.out.alloc (.cells #[.int .i64 f.args,.int .i64 f.regs,.int .i64 f.slots,.int .i64 (n:Int)] 3))
 obtain ⟨v0,hv0⟩:=HG0.out.wr
 have C1:=qH (JT hv0 (la _) (k:=W0.heap.size) (c:=4) [f.args,f.regs,f.slots,(n:Int)] (cs:= #[.int .i64 f.args,.int .i64 f.regs,.int .i64 f.slots,.int .i64 (n:Int)]) rfl (Row.new W0 3 _) HX.out 4 rfl (by omega) (by omega))
 clear hv0
 go_wp2_with fail
 refine C1.out.mono ?_
 rintro e W1 ⟨⟨rfl,hw,hmm⟩,hk⟩
 have HG1:=qH (HG0.out.next hw hmm hk)
 have HB1:=qH (hk.ty _ _ _ HB0.out (by decide) (by decide))
 obtain ⟨pre,hpre⟩:∃y,l++jO [f.args,f.regs,f.slots,(n:Int)]=y:=⟨_,rfl⟩
 rw [hpre] at HG1
 have HPL:Hid (pre.length≤l.length+40):=by show _≤_;rw [←hpre,lc];have:=U7 [f.args,f.regs,f.slots,(n:Int)];simp only [lp,lE] at this;omega
 have HPE:Hid (l++yz f=pre++zo f.ms):=by
  show _=_
  rw [←hpre]
  unfold yz jO
  rw [HN.out]
  simp [lg]
 clear hw hmm hk C1 HG HB HG0 HB0 hpre b0 b1 b2 b3
 have b3:=HB1.out.k3
 go_upto_region 3 with fail
 clear b3 HB1
 go_wp2
 go_loopg [21] n (fun g v19 wr=>∃(j:Nat),j+g=n∧v19= .int .i64 j∧Hid (GPS w q (pre++zo (f.ms.take j)) wr))
 case atStart=>exact ⟨0,by omega,rfl,by rw [List.take_zero];show GPS w q (pre++ []) W1;rw [lA];exact HG1.out⟩
 case round=>
  clear HG1
  obtain ⟨j,hj,rfl,HG⟩:=hrel
  cases gk with
  |zero=>
   have hlt:¬(j:Int)<(n:Int):=by omega
   have HJ:Hid (f.ms.take j=f.ms):=by show _=_;rw [List.take_of_length_le (by rw [HN.out];omega)]
   rw [HJ.out] at HG
   go_wp2
   go_end0
   exact HG.out.done HPE.out.symm
  |succ g=>
   have hlt:(j:Int)<(n:Int):=by omega
   have hjl:j<f.ms.length:=by rw [HN.out];omega
   obtain ⟨b,hbe⟩:∃b,f.ms[j]=b:=⟨_,rfl⟩
   have hbv:=HV.out.v f.ms[j] (List.getElem_mem hjl)
   have hbc:=YC (List.getElem_mem hjl)
   have hcc:=HV.out.c
   rw [hbe] at hbv hbc
   have hsw:MBlksAt wr q A f.ms:=HS.out.below (HQ.out _ HG.out.md)
   obtain ⟨k,o,rfl,hb,hat⟩:=hsw (by intro e;rw [e] at hjl;cases hjl)
   have hat:=hat j _ (List.getElem?_eq_getElem hjl)
   rw [hbe] at hat
   obtain ⟨Ac,cc,h0,hcl,hcx,hca⟩:=hat.code
   have h1:=hat.t0;have h2:=hat.t1;have h3:=hat.t2;have h4:=hat.t3
   have HE:Hid (pre++zo (f.ms.take (j+1))=pre++zo (f.ms.take j)++js b):=by show _=_;rw [zaa f.ms j hjl,hbe,lg]
   have hle:(zo (f.ms.take j)).length≤61*zF f.ms+41*n:=zcC (by rw [HN.out];omega)
   have hpl:=HPL.out
   have HGA:Hid (GPS w q (pre++zo (f.ms.take j)) (wr.alloc (.cells #[.slice Ac b.code.length cc,.int .i64 b.term.kind,.int .i64 b.term.a,.int .i64 b.term.to,.int .i64 b.term.el] 63))):=HG.out.below ((ld _ _).alloc (la _) _)
   have hxr:=Row.new wr 63 #[.slice Ac b.code.length cc,.int .i64 b.term.kind,.int .i64 b.term.a,.int .i64 b.term.to,.int .i64 b.term.el]
   have HCA:Hid (MisAt (wr.alloc (.cells #[.slice Ac b.code.length cc,.int .i64 b.term.kind,.int .i64 b.term.a,.int .i64 b.term.to,.int .i64 b.term.el] 63)) q Ac b.code):=MisAt.below hca ((ld _ _).alloc (by have hq:=(HG.out.wr);obtain ⟨_,hq⟩:=hq;have:=hq.row.lt;omega) _)
   obtain ⟨v1,hv1⟩:=HGA.out.wr
   have C:=qH (zbu hv1 (la _) HCA.out hbv rfl hcl (by omega) (by simp only [lc];omega))
   clear hbe hle hpl hv1 hjl hsw hbv hbc hcc HG hat hca hcx
   go_upto_region 5 with fail
   generalize (wr.alloc (.cells #[.slice Ac b.code.length cc,.int .i64 b.term.kind,.int .i64 b.term.a,.int .i64 b.term.to,.int .i64 b.term.el] 63))=W2 at*
   have x0:=hxr.k0
   have x1:=hxr.k1
   have x2:=hxr.k2
   have x3:=hxr.k3
   have x4:=hxr.k4
   clear hxr
   go_wp2_with fail
   refine C.out.mono ?_
   rintro e W3 ⟨⟨rfl,hw,hmm⟩,hk⟩
   have HG2:=qH (HGA.out.next hw hmm hk)
   clear hw hmm hk C HGA HCA h0 h1 h2 h3 h4
   rw [←HE.out] at HG2
   go_wp2
   go_roundg g
   case measure=>omega
   case rel=>exact ⟨j+1,by omega,by go_num,HG2⟩
end Go.Proofs.YtnifhpbgmjcndaaGreat
