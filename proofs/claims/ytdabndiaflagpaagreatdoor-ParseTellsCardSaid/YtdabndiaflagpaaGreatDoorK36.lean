/- Parts: PsZ3. -/
import Derived.Test.YtdabndiaflagpaaGreatDoorK35
set_option maxRecDepth 100000
set_option maxHeartbeats 4000000
namespace Go.Proofs.YtdabndiaflagpaaGreatDoor
open Go.RowKit
attribute [local go_sem] Tame.Op Tame.upon
theorem JT:(Tryz.prog.info? 80).map (fun i=>(i.zero,i.size,i.bytes))=some (some (.agg #[.slice none 0 0,.int .i64 0,.int .i64 0,.int .i64 0,.string ⟨#[]⟩,.slice none 0 0]),6,88):=by kernel_rfl
def VQ (B2:Nat) (own:Option Nat) (y:Q) (u:Value) (w:World):Prop:=∃ A1 c1 A2 c2,u=.agg #[.slice A1 y.lhs.length c1,.int .i64 y.rhs.k,.int .i64 y.rhs.o,.int .i64 y.rhs.n,.string ⟨y.rhs.s.toArray⟩,.slice A2 y.rhs.ks.length c2]∧TS w (Sb B2 own w) A1 y.lhs∧KS w (Sb B2 own w) A2 y.rhs.ks∧y.lhs.length≤c1
def WQ (B2:Nat) (own:Option Nat) (y:Q) (u:Value) (w:World):Prop:=∃ q A1 c1 A2 c2,u=.slice (some ⟨q,0,none⟩) 1 1∧Row w q 80 (q6 y A1 c1 A2 c2)∧TS w (Sb B2 own w) A1 y.lhs∧KS w (Sb B2 own w) A2 y.rhs.ks∧y.lhs.length≤c1∧B2≤q∧some q≠own
theorem vA {B2:Nat} {own:Option Nat}:vU B2 own (VQ B2 own):=⟨fun ⟨A1,c1,A2,c2,h1,h2,h3,h4⟩ g hr=>⟨A1,c1,A2,c2,h1,h2.move fun q hq=>zE g hr q hq,h3.move fun q hq=>zE g hr q hq,h4⟩⟩
theorem vz {B2:Nat} {own:Option Nat}:vU B2 own (WQ B2 own):=⟨fun ⟨q,A1,c1,A2,c2,h1,h0,h2,h3,h4,h5,h6⟩ g hr=>⟨q,A1,c1,A2,c2,h1,h0.grown g (fun e=>(hr q e.symm).elim (fun h=>by omega) (fun h=>h6 (e.trans h))),h2.move fun q hq=>zE g hr q hq,h3.move fun q hq=>zE g hr q hq,h4,h5,h6⟩⟩
theorem yF {B2:Nat} {own:Option Nat} {y:Q} {w:World} {A1 A2:Option Addr} {c1 c2:Nat} (h:TS w (Sb B2 own w) A1 y.lhs∧KS w (Sb B2 own w) A2 y.rhs.ks∧y.lhs.length≤c1) (hB:B2≤w.heap.size) (ho:some w.heap.size≠own) :
  WQ B2 own y (.slice (some ⟨w.heap.size,0,none⟩) 1 1) (w.alloc (.cells (q6 y A1 c1 A2 c2) 80)):=
 ⟨w.heap.size,A1,c1,A2,c2,rfl,Row.made _ _ _,h.1.move fun q hq=>zE (zi (World.grownBy.refl w none) _) (fun q e=>by cases e) q hq,h.2.1.move fun q hq=>zE (zi (World.grownBy.refl w none) _) (fun q e=>by cases e) q hq,h.2.2,hB,ho⟩
theorem OwnW.qs {B2:Nat} {xs:List Q} {v:Value} {w:World} (h:OwnW RQ 80 6 B2 xs v w) {lo:Nat} (hl:lo≤B2):∃ A c,v=.slice A xs.length c∧QS w (Bt lo w.heap.size) A xs:=by
 have hlt:=h.lt
 obtain⟨A,c,hv,hr⟩:=OwnG.form zH h (S':=Bt lo w.heap.size) (fun q hq=>⟨by have:=hq.1;omega,hq.2.1⟩) (fun q cs hq _=>by have:=hlt q hq;exact⟨by omega,this.2⟩)
 exact⟨A,c,hv,rq_qs hr⟩
theorem YK {g c:Nat} {ts:List Tk} {b q:Nat} {w wx wk:World} {r:Pr Nd} {x:Nd} {A1 A2 A3 A4:Option Addr} {c1 c2 c3 c4:Nat} {old:Array Value} (hq:q=w.heap.size) (hV:Below w.heap.size w wx) (hG:wx.grownBy wk (some b)) (hbq:b<q) (hrow:Row wk q 78 old) (h1:VS wk (Bt (q+1) wk.heap.size) A1 x.ins) (h2:VS wk (Bt (q+1) wk.heap.size) A2 x.outs) (h3:VS wk (Bt (q+1) wk.heap.size) A3 x.locals) (h4:QS wk (Bt (q+1) wk.heap.size) A4 x.eqs) (hs:Rs g c ts wk b 0 r.unit) (hval:∀ y L,r=.ok y L→x=y) :
  Row (wk.setRow q (nd5 x A1 c1 A2 c2 A3 c3 A4 c4)) q 78 (nd5 x A1 c1 A2 c2 A3 c3 A4 c4)∧RRes g c ts b 0 w (NdV w.heap.size) r (.returned (.agg (nd5 x A1 c1 A2 c2 A3 c3 A4 c4))) (wk.setRow q (nd5 x A1 c1 A2 c2 A3 c3 A4 c4)):=by
 have hw:=hV.size
 have hz:=hG.size
 have hqk:=hrow.lt
 have hm:∀ m,Bt (q+1) wk.heap.size m→Bt w.heap.size (wk.setRow q (nd5 x A1 c1 A2 c2 A3 c3 A4 c4)).heap.size m∧(wk.setRow q (nd5 x A1 c1 A2 c2 A3 c3 A4 c4)).heap[m]? = wk.heap[m]?:=fun m hm=>⟨⟨by have:=hm.1;omega,by have:=hm.2;simpa using this⟩,(zj hrow).block m hm.2 (fun e=>by injection e with e;have:=hm.1;omega)⟩
 refine⟨hrow.setRow _,x,_,rfl,⟨A1,c1,A2,c2,A3,c3,A4,c4,rfl,h1.move hm,h2.move hm,h3.move hm,h4.move hm⟩,?_,hs.grown (zj hrow) (fun k e=>by injection e with e;omega),hval⟩
 exact jb (za (zb hV b) hG) (zj hrow) (fun k e=>by injection e with e;omega)
theorem rNode (g c:Nat) (ts:List Tk) (b:Nat) (σ:Pr Unit) (w:World) (h:Rs g c ts w b 0 σ) :
  Calls Tryz.prog 46 #[.pointer (some ⟨b,0,none⟩)] w (RRes g c ts b 0 w (NdV w.heap.size) (σ.bind fun _ L=>jO L)):=by
 obtain⟨R,hR⟩:∃ R,R=σ.bind fun _ L=>jO L:=⟨_,rfl⟩
 obtain⟨s1,hs1⟩:∃ s:Pr Unit,s=σ.bind fun _ L=>ze j8 L:=⟨_,rfl⟩
 obtain⟨rn,hrn⟩:∃ r,r=s1.bind fun _ L=>zh 0 L:=⟨_,rfl⟩
 obtain⟨s2,hs2⟩:∃ s:Pr Unit,s=rn.unit.bind fun _ L=>ze [40] L:=⟨_,rfl⟩
 have HE0:Hid (∀ nm,(∀ y L,rn=.ok y L→nm=y)→R=s2.bind fun _ L=>n0 nm L):=YV fun nm hn=>by
  rw[hR,hs2,hrn,hs1]
  exact node0 (by rw[← hs1,← hrn];exact hn)
 rw[← hR]
 have hlt:=h.lt
 obtain⟨v0,hv0⟩:∃ v,v=w.alloc (.cells #[.string ⟨#[]⟩,.slice none 0 0,.slice none 0 0,.slice none 0 0,.slice none 0 0] 78):=⟨_,rfl⟩
 have hv:Below w.heap.size w v0:=by rw[hv0];exact(Below.refl _ _).alloc (Nat.le_refl _) _
 have HV:=YV hv
 have hz0:v0.heap.size=w.heap.size+1:=by rw[hv0];simp
 have HZ0:=YV hz0
 have HR:Hid (Row v0 w.heap.size 78 z5n):=YV (by rw[hv0];exact Row.made _ _ _)
 have HS0:Hid (Rs g c ts v0 b 0 σ):=YV (h.later hv)
 obtain⟨q,hq⟩:∃ q,q=w.heap.size:=⟨_,rfl⟩
 have HQ:=YV hq
 rw[← hq] at HR hz0 hlt
 have hqb:q≠b:=by omega
 have hbq2:b≠q:=by omega
 have hbv:b<v0.heap.size:=by omega
 have HM1:Hid (∀ w1,Rs g c ts w1 b 0 σ→Calls Tryz.prog 83 #[.pointer (some ⟨b,0,none⟩),.string ⟨#[110,111,100,101]⟩] w1 (RRes g c ts b 0 w1 NoV s1)):=YV fun w1 h1=>by rw[hs1];exact jJ g c ts b 0 j8 σ w1 h1 (by decide)
 have HNA:Hid (∀ w1,Rs g c ts w1 b 0 s1→Calls Tryz.prog 84 #[.pointer (some ⟨b,0,none⟩),.int .i64 0] w1 (RRes g c ts b 0 w1 (fun (x:T) v _=>v=.string ⟨x.toArray⟩) rn)):=YV fun w1 h1=>by rw[hrn];exact u7 g c ts b 0 0 s1 w1 h1 (by omega)
 have HM2:Hid (∀ w1,Rs g c ts w1 b 0 rn.unit→Calls Tryz.prog 83 #[.pointer (some ⟨b,0,none⟩),.string ⟨#[40]⟩] w1 (RRes g c ts b 0 w1 NoV s2)):=YV fun w1 h1=>by rw[hs2];exact jJ g c ts b 0 [40] rn.unit w1 h1 (by decide)
 obtain⟨bl,hbl⟩:∃ bl,bl=isS [41] s2:=⟨_,rfl⟩
 have HIS:Hid (∀ w1,Rs g c ts w1 b 0 s2→Calls Tryz.prog 44 #[.pointer (some ⟨b,0,none⟩),.string ⟨#[41]⟩] w1 fun e w'=>e=.returned (.bool bl)∧Below w1.heap.size w1 w'):=YV fun w1 h1=>by rw[hbl];exact rIs g c ts b 0 [41] s2 w1 h1 (by decide)
 have HBL:=YV hbl
 clear h hv hz0 hR hs1 hrn hs2 hbl
 go_enter Tryz.func46,Tryz.ntmps46
 go_upto_region 1 with fail
 rw[← hv0,← hq]
 clear hv0 hq
 go_upto_region 3 with (first|(go_at_call 83;refine(HM1.out _ HS0.out).mono ?_;rintro e w1 ⟨_,v,rfl,hv,g1,g2,_⟩;obtain rfl:v=.tuple #[]:=hv;have HS1:Hid (Rs g c ts w1 b 0 s1):=YV (by rw[Pr.unit_id] at g2;exact g2);have HG1:Hid (v0.grownBy w1 (some b)):=YV g1;clear g1 g2 HM1)|(go_at_call 84;refine(HNA.out _ HS1.out).mono ?_;rintro e w2 ⟨nm,v,rfl,hv,g1,g2,g3⟩;obtain rfl:v=.string ⟨nm.toArray⟩:=hv;have HS2:Hid (Rs g c ts (w2.alloc (.cells #[.string ⟨nm.toArray⟩,.slice none 0 0,.slice none 0 0,.slice none 0 0,.slice none 0 0] 78)) b 0 rn.unit):=YV (g2.later ((Below.refl _ _).alloc (Nat.le_refl _) _));have HG2:Hid (v0.grownBy (w2.alloc (.cells #[.string ⟨nm.toArray⟩,.slice none 0 0,.slice none 0 0,.slice none 0 0,.slice none 0 0] 78)) (some b)):=YV (zi (za HG1.out g1) _);have HB2:Hid (Row (w2.alloc (.cells #[.string ⟨nm.toArray⟩,.slice none 0 0,.slice none 0 0,.slice none 0 0,.slice none 0 0] 78)) w2.heap.size 78 #[.string ⟨nm.toArray⟩,.slice none 0 0,.slice none 0 0,.slice none 0 0,.slice none 0 0]):=YV (Row.made _ _ _);have hlo:v0.heap.size≤w2.heap.size:=(za HG1.out g1).size;have HNM:=YV g3;clear g1 g2 g3 HNA))
 have HRQ2:Hid (Row _ q 78 z5n):=YV (HR.out.grown HG2.out (fun e=>by injection e with e;omega))
 generalize w2.alloc (.cells #[.string ⟨nm.toArray⟩,.slice none 0 0,.slice none 0 0,.slice none 0 0,.slice none 0 0] 78)=v2 at HS2 HG2 HB2 HRQ2 ⊢
 obtain⟨p,hp⟩:∃ p,p=w2.heap.size:=⟨_,rfl⟩
 rw[← hp] at HB2 hlo ⊢
 clear hp
 have hvp:v0.heap.size≤p:=hlo
 have hqp:q<p:=by have:=HZ0.out;have:=HQ.out;omega
 have hbp:b<p:=by omega
 have NA2:Hid (NAt g c ts b v0 p q rn.unit nm [] none 0 [] none 0 [] none 0 v2):=YV ⟨⟨HS2.out,HG2.out⟩,HB2.out,HRQ2.out,.inl rfl,.inl rfl,.inl rfl⟩
 have HR0:=YV (HE0.out nm HNM.out)
 clear HE0 HS2 HG2 HB2 HRQ2 HNM hlo
 go_upto_if 13 with (first|(go_at_call 83;refine(HM2.out _ NA2.out.ra.1).mono ?_;rintro e w3 ⟨_,v,rfl,hv,g1,g2,_⟩;obtain rfl:v=.tuple #[]:=hv;have NA3:=YV (NA2.out.grow (σ':=s2) (by rw[Pr.unit_id] at g2;exact g2) g1 hbq2 hbp);clear g1 g2 HM2)|(go_at_call 44;refine(HIS.out _ NA3.out.ra.1).mono ?_;rintro e w4 ⟨rfl,hb⟩;have NA4:=YV (NA3.out.grow (NA3.out.ra.1.later hb) (zb hb b) hbq2 hbp);clear hb HIS))
 go_cut [3] from 13 (fun v w'=>v=.pointer (some ⟨p,0,none⟩)∧∃ (ins:List Vr) (A1:Option Addr) (c1:Nat) (s:Pr Unit),(R=s.bind fun _ L=>n1 nm ins L)∧NAt g c ts b v0 p q s nm ins A1 c1 [] none 0 [] none 0 w')
 case first=>
  cases bl with
  | true=>
   go_wp2_with fail
   go_meet
   case rel=>exact⟨rfl,[],none,0,s2,by rw[HR0.out];exact kI HBL.out.symm,NA4.out⟩
  | false=>
   have HVS:Hid (∀ w1,Rs g c ts w1 b 0 s2→_):=YV fun w1 h1=>qf g c ts b 0 s2 w1 h1
   go_wp2_with (go_at_call 85;refine(HVS.out _ NA4.out.ra.1).mono ?_;rintro e w5 ⟨vs,v,rfl,hv,g1,g2,g3⟩;obtain⟨A5,c5,rfl,_⟩:=zw hv;have hpl:=NA4.out.box.lt;have NA5:=YV (NA4.out.grow g2 g1 hbq2 hbp);have HVV:Hid (VS w5 (Bt (p+1) w5.heap.size) A5 vs):=YV (qm hv hpl);have HV3:=YV g3;have x1:=NA5.out.box.cell 1;have y1:=NA5.out.box.free 1;have hpz:=NA5.out.box.lt;simp at x1;clear g1 g2 g3 hv hpl HVS)
   go_meet
   case rel=>exact⟨rfl,vs,A5,c5,_,by rw[HR0.out];exact kH HBL.out.symm HV3.out,NA5.out.put1 HVV.out hqp hbp hvp hbv⟩
 case rest=>
  obtain⟨rfl,ins,A1,c1,s,hr1,hna⟩:=hcut
  have HR1:=YV hr1
  have NA5:=YV hna
  clear hr1 hna NA2 HR0
  obtain⟨s3,hs3⟩:∃ s':Pr Unit,s'=s.bind fun _ L=>ze [41] L:=⟨_,rfl⟩
  obtain⟨s4,hs4⟩:∃ s':Pr Unit,s'=s3.bind fun _ L=>ze vd L:=⟨_,rfl⟩
  obtain⟨s5,hs5⟩:∃ s':Pr Unit,s'=s4.bind fun _ L=>ze [40] L:=⟨_,rfl⟩
  obtain⟨ro,hro⟩:∃ r,r=s5.bind fun _ L=>jF L:=⟨_,rfl⟩
  obtain⟨s6,hs6⟩:∃ s':Pr Unit,s'=ro.unit.bind fun _ L=>ze [41] L:=⟨_,rfl⟩
  obtain⟨s7,hs7⟩:∃ s':Pr Unit,s'=s6.bind fun _ L=>ze [59] L:=⟨_,rfl⟩
  have HE2:Hid (∀ vs,(∀ y L,ro=.ok y L→vs=y)→R=s7.bind fun _ L=>n2 nm ins vs L):=YV fun vs hv=>by
   rw[HR1.out,hs7,hs6,hro,hs5,hs4,hs3]
   exact node2 (by rw[← hs3,← hs4,← hs5,← hro];exact hv)
  have HM3:Hid (∀ w1,Rs g c ts w1 b 0 s→Calls Tryz.prog 83 #[.pointer (some ⟨b,0,none⟩),.string ⟨#[41]⟩] w1 (RRes g c ts b 0 w1 NoV s3)):=YV fun w1 h1=>by rw[hs3];exact jJ g c ts b 0 [41] s w1 h1 (by decide)
  have HM4:Hid (∀ w1,Rs g c ts w1 b 0 s3→Calls Tryz.prog 83 #[.pointer (some ⟨b,0,none⟩),.string ⟨#[114,101,116,117,114,110,115]⟩] w1 (RRes g c ts b 0 w1 NoV s4)):=YV fun w1 h1=>by rw[hs4];exact jJ g c ts b 0 vd s3 w1 h1 (by decide)
  have HM5:Hid (∀ w1,Rs g c ts w1 b 0 s4→Calls Tryz.prog 83 #[.pointer (some ⟨b,0,none⟩),.string ⟨#[40]⟩] w1 (RRes g c ts b 0 w1 NoV s5)):=YV fun w1 h1=>by rw[hs5];exact jJ g c ts b 0 [40] s4 w1 h1 (by decide)
  have HM6:Hid (∀ w1,Rs g c ts w1 b 0 ro.unit→Calls Tryz.prog 83 #[.pointer (some ⟨b,0,none⟩),.string ⟨#[41]⟩] w1 (RRes g c ts b 0 w1 NoV s6)):=YV fun w1 h1=>by rw[hs6];exact jJ g c ts b 0 [41] ro.unit w1 h1 (by decide)
  have HM7:Hid (∀ w1,Rs g c ts w1 b 0 s6→Calls Tryz.prog 83 #[.pointer (some ⟨b,0,none⟩),.string ⟨#[59]⟩] w1 (RRes g c ts b 0 w1 NoV s7)):=YV fun w1 h1=>by rw[hs7];exact jJ g c ts b 0 [59] s6 w1 h1 (by decide)
  have HVS:Hid (∀ w1,Rs g c ts w1 b 0 s5→Calls Tryz.prog 85 #[.pointer (some ⟨b,0,none⟩)] w1 (RRes g c ts b 0 w1 (fun vs v w'=>jQ w1.heap.size vs v w') ro)):=YV fun w1 h1=>by rw[hro];exact qf g c ts b 0 s5 w1 h1
  obtain⟨bv,hbv2⟩:∃ bl,bl=isS wVar s7:=⟨_,rfl⟩
  have HIV:Hid (∀ w1,Rs g c ts w1 b 0 s7→Calls Tryz.prog 44 #[.pointer (some ⟨b,0,none⟩),.string ⟨#[118,97,114]⟩] w1 fun e w'=>e=.returned (.bool bv)∧Below w1.heap.size w1 w'):=YV fun w1 h1=>by rw[hbv2];exact rIs g c ts b 0 wVar s7 w1 h1 (by decide)
  have HBV:=YV hbv2
  clear hs3 hs4 hs5 hro hs6 hs7 hbv2
  go_upto_region 7 with (go_at_call 83;refine(HM3.out _ NA5.out.ra.1).mono ?_;rintro e w6 ⟨_,v,rfl,hv,g1,g2,_⟩;obtain rfl:v=.tuple #[]:=hv;have NA6:=YV (NA5.out.grow (σ':=s3) (by rw[Pr.unit_id] at g2;exact g2) g1 hbq2 hbp);clear g1 g2 HM3)
  go_upto_region 9 with (first|(go_at_call 83;refine(HM4.out _ NA6.out.ra.1).mono ?_;rintro e w7 ⟨_,v,rfl,hv,g1,g2,_⟩;obtain rfl:v=.tuple #[]:=hv;have NA7:=YV (NA6.out.grow (σ':=s4) (by rw[Pr.unit_id] at g2;exact g2) g1 hbq2 hbp);clear g1 g2 HM4)|(go_at_call 83;refine(HM5.out _ NA7.out.ra.1).mono ?_;rintro e w8 ⟨_,v,rfl,hv,g1,g2,_⟩;obtain rfl:v=.tuple #[]:=hv;have NA8:=YV (NA7.out.grow (σ':=s5) (by rw[Pr.unit_id] at g2;exact g2) g1 hbq2 hbp);clear g1 g2 HM5))
  go_upto_region 10 with (go_at_call 85;refine(HVS.out _ NA8.out.ra.1).mono ?_;rintro e w9 ⟨outs,v,rfl,hv,g1,g2,g3⟩;obtain⟨A2,c2,rfl,_⟩:=zw hv;have hpl:=NA8.out.box.lt;have NA9:=YV (NA8.out.grow g2 g1 hbq2 hbp);have HVV:Hid (VS w9 (Bt (p+1) w9.heap.size) A2 outs):=YV (qm hv hpl);have HV3:=YV g3;have x1:=NA9.out.box.cell 2;have y1:=NA9.out.box.free 2;have hpz:=NA9.out.box.lt;simp at x1;clear g1 g2 g3 hv hpl HVS)
  have NA10:=YV (NA9.out.put2 (c2:=c2) HVV.out hqp hbp hvp hbv)
  clear x1 y1 hpz NA5 NA6 NA7 NA8 NA9 HVV
  generalize w9.setCell ⟨p,2,none⟩ (.slice A2 outs.length c2)=v9 at NA10 ⊢
  have HR2:=YV (HE2.out outs HV3.out)
  clear HE2 HV3 HR1
  go_upto_region 11 with (go_at_call 83;refine(HM6.out _ NA10.out.ra.1).mono ?_;rintro e w11 ⟨_,v,rfl,hv,g1,g2,_⟩;obtain rfl:v=.tuple #[]:=hv;have NA11:=YV (NA10.out.grow (σ':=s6) (by rw[Pr.unit_id] at g2;exact g2) g1 hbq2 hbp);clear g1 g2 HM6)
  go_upto_if 31 with (first|(go_at_call 83;refine(HM7.out _ NA11.out.ra.1).mono ?_;rintro e w12 ⟨_,v,rfl,hv,g1,g2,_⟩;obtain rfl:v=.tuple #[]:=hv;have NA12:=YV (NA11.out.grow (σ':=s7) (by rw[Pr.unit_id] at g2;exact g2) g1 hbq2 hbp);clear g1 g2 HM7)|(go_at_call 44;refine(HIV.out _ NA12.out.ra.1).mono ?_;rintro e w13 ⟨rfl,hb⟩;have NA13:=YV (NA12.out.grow (NA12.out.ra.1.later hb) (zb hb b) hbq2 hbp);clear hb HIV))
  go_cut [3] from 31 (fun v w'=>v=.pointer (some ⟨p,0,none⟩)∧∃ (locals:List Vr) (A3:Option Addr) (c3:Nat) (s:Pr Unit),(R=s.bind fun _ L=>n3 nm ins outs locals L)∧NAt g c ts b v0 p q s nm ins A1 c1 outs A2 c2 locals A3 c3 w')
  case first=>
   cases bv with
   | false=>
    go_wp2_with fail
    go_meet
    case rel=>exact⟨rfl,[],none,0,s7,by rw[HR2.out];exact kG HBV.out.symm,NA13.out⟩
   | true=>
    cases s7 with
    | bad k a=>exact absurd HBV.out (by simp[isS])
    | ok u L=>
     have hpp:isP wVar L=true:=HBV.out.symm
     have hwf:WFt L:=NA13.out.ra.1.good_
     have ht:=zI hwf hpp (by decide)
     have HWT:Hid (∀ M,(.ok () L:Pr Unit)=.ok () M→WFt M.tail):=YV fun M e=>by injection e with _ e;rw[← e];exact ht.1
     have HLF:Hid (∀ vs,(∀ y L',zq 0 L.tail=.ok y L'→vs=y)→∃ f,LcAt R nm ins outs f vs ((zq 0 L.tail).unit.bind fun _ L=>ze [59] L)):=YV fun vs hv=>LcAt.first HR2.out hwf hpp hv
     have HS13:=YV NA13.out.ra.1
     clear hpp hwf ht
     obtain⟨i13,op13,k13,a13,hr13,ha13⟩:=HS13.out.row_
     have HRW13:=YV hr13
     have HA13:=YV ha13
     have c1r:=hr13.cell 1
     have f1r:=hr13.free 1
     simp[zg] at c1r
     clear hr13 ha13
     go_upto_region 14 with fail
     have HS14:Hid (Rs g c ts (w13.setCell ⟨b,1,none⟩ (.int .i64 (wrap64 (i13+1)))) b 0 (.ok () L.tail)):=YV (HS13.out.inc HRW13.out HA13.out HWT.out)
     have NA14:=YV (NA13.out.grow HS14.out (zf (zd w13 b) 1 _) hbq2 hbp)
     clear HRW13 HA13 HS14 HS13
     generalize w13.setCell ⟨b,1,none⟩ (.int .i64 (wrap64 (i13+1)))=v14 at NA14 ⊢
     obtain⟨B3,hB3⟩:∃ B3,B3=v14.heap.size:=⟨_,rfl⟩
     have NL14:Hid (NLt g c ts b v0 p q B3 (.ok () L.tail) nm ins A1 c1 outs A2 c2 [] none 0 v14):=YV (by rw[hB3];exact NA14.out.toL)
     have hpB:p<B3:=by rw[hB3];exact NA14.out.box.lt
     have HGR:Hid (Calls Tryz.prog 86 #[.pointer (some ⟨b,0,none⟩),.slice none 0 0] v14 (JB g c ts b 0 B3 v14 (fun vs v w'=>jQ B3 ([]++vs) v w') (zq 0 L.tail))):=YV (xg g c ts b 0 B3 [] _ (.ok () L.tail) v14 NL14.out.ra.1 (by omega) (by omega) NL14.out.own (by simp))
     have HM59:Hid (∀ σ' w1,Rs g c ts w1 b 0 σ'→_):=YV fun σ' w1 h1=>jJ g c ts b 0 [59] σ' w1 h1 (by decide)
     clear hB3 NA14
     go_upto_region 15 with (go_at_call 86;refine HGR.out.mono ?_;rintro e w15 ⟨vs,v,rfl,hv,g1,g2,g3⟩;have hv:jQ B3 vs v w15:=hv;obtain⟨A5,c5,rfl,_⟩:=zw hv;obtain⟨hput,hbx⟩:=NL14.out.put (l':=vs) g2 g1 hv hbp hpB hqp hbq2 hvp hbv;have NL15:=YV hput;have x1:=hbx.cell 3;have y1:=hbx.free 3;have hpz:=hbx.lt;simp at x1;have HV3:=YV g3;clear g1 g2 g3 hv hput hbx HGR)
     obtain⟨Fu,hFu⟩:=HLF.out vs HV3.out
     have HFU:=YV hFu
     clear hFu x1 y1 hpz NL14 HLF
     generalize w15.setCell ⟨p,3,none⟩ (.slice A5 vs.length c5)=v15 at NL15 ⊢
     go_upto_region 16 with (go_at_call 83;refine(HM59.out _ _ NL15.out.ra.1).mono ?_;rintro e w16 ⟨_,v,rfl,hv,g1,g2,_⟩;obtain rfl:v=.tuple #[]:=hv;have NL16:=YV (NL15.out.grow (σ':=((zq 0 L.tail).unit.bind fun _ L=>ze [59] L)) (by rw[Pr.unit_id] at g2;exact g2) g1 hbq2 hbp hpB);clear g1 g2)
     go_loopg [45] Fu (fun g' _ wr=>∃ (acc:List Vr) (A3:Option Addr) (c3:Nat) (σ':Pr Unit),LcAt R nm ins outs g' acc σ'∧NLt g c ts b v0 p q B3 σ' nm ins A1 c1 outs A2 c2 acc A3 c3 wr)
     case atStart=>exact⟨vs,A5,c5,_,HFU.out,NL16.out⟩
     case round=>
      obtain⟨acc,A3,c3,σ',hlc,hnl⟩:=hrel
      have HLC:=YV hlc
      have NLr:=YV hnl
      have HNW:=YV (rNow g c ts b 0 σ' wr hnl.ra.1)
      obtain⟨Y0,hY0⟩:∃ y,y=nowT σ':=⟨_,rfl⟩
      obtain⟨N0,hN0⟩:∃ N,N=nowN σ':=⟨_,rfl⟩
      obtain⟨P0,hP0⟩:∃ F,F=nowF σ':=⟨_,rfl⟩
      obtain⟨K0,hK0⟩:∃ K,K=nowK σ':=⟨_,rfl⟩
      rw[← hK0,← hY0,← hN0,← hP0] at HNW
      have hfl:=ZN
      clear hY0 hN0 hP0
      by_cases hk:K0=1
      ·subst hk
       cases σ' with
       | bad k a=>exact absurd hK0 (by simp[nowK])
       | ok u Li=>
        have hk1:hdK Li=1:=hK0.symm
        have hac:=(hlc.fuel Li rfl).2
        obtain⟨fl,rfl⟩:∃ fl,gk=fl+1:=⟨gk - 1,by have:=(hlc.fuel Li rfl).1;omega⟩
        have HNX:Hid (∀ vs,(∀ y L',zq acc.length Li=.ok y L'→vs=y)→LcAt R nm ins outs fl (acc++vs) ((zq acc.length Li).unit.bind fun _ L=>ze [59] L)):=YV fun vs hv=>HLC.out.next hnl.ra.1.good_ hk1 hv
        have HGR2:Hid (∀ w1,Below wr.heap.size wr w1→Calls Tryz.prog 86 #[.pointer (some ⟨b,0,none⟩),.slice A3 acc.length c3] w1 (JB g c ts b 0 B3 w1 (fun vs v w'=>jQ B3 (acc++vs) v w') (zq acc.length Li))):=YV fun w1 hb=>by
         have hz:=hb.size
         have hz2:=hnl.hB
         exact xg g c ts b 0 B3 acc _ (.ok () Li) w1 (hnl.ra.1.later hb) (by omega) (by omega) (zY zN hnl.own (zc hb none) (fun q e=>by cases e)) hac
        clear hK0 hk1 hlc hnl
        go_upto_region 18 with (first|(go_at_call 43;refine HNW.out.mono ?_;rintro e w17 ⟨rfl,hb⟩;have NL17:=YV (NLr.out.grow (NLr.out.ra.1.later hb) (zb hb b) hbq2 hbp hpB);have HB17:=YV hb;have x3:=NL17.out.box.cell 3;have y3:=NL17.out.box.free 3;have hpz:=NL17.out.box.lt;simp at x3;clear hb HNW)|(go_at_call 86;refine(HGR2.out _ HB17.out).mono ?_;rintro e w18 ⟨vs2,v,rfl,hv,g1,g2,g3⟩;have hv:jQ B3 (acc++vs2) v w18:=hv;obtain⟨l2,hl2⟩:∃ l,l=acc++vs2:=⟨_,rfl⟩;rw[← hl2] at hv;have HL2:=YV hl2;clear hl2;obtain⟨A6,c6,rfl,_⟩:=zw hv;obtain⟨hput,hbx⟩:=NL17.out.put (l':=l2) g2 g1 hv hbp hpB hqp hbq2 hvp hbv;have NL18:=YV hput;clear x3 y3 hpz;have x1:=hbx.cell 3;have y1:=hbx.free 3;have hpz:=hbx.lt;simp at x1;have HV4:=YV g3;clear g1 g2 g3 hv hput hbx HGR2))
        clear x1 y1 hpz
        generalize w18.setCell ⟨p,3,none⟩ (.slice A6 l2.length c6)=v18 at NL18 ⊢
        go_wp2_with (go_at_call 83;refine(HM59.out _ _ NL18.out.ra.1).mono ?_;rintro e w19 ⟨_,v,rfl,hv,g1,g2,_⟩;obtain rfl:v=.tuple #[]:=hv;have NL19:=YV (NL18.out.grow (σ':=((zq acc.length Li).unit.bind fun _ L=>ze [59] L)) (by rw[Pr.unit_id] at g2;exact g2) g1 hbq2 hbp hpB);clear g1 g2)
        go_roundg fl
        case rel=>exact⟨l2,A6,c6,_,by rw[HL2.out];exact HNX.out vs2 HV4.out,NL19.out⟩
        case measure=>omega
      ·have hdn:=hlc.done (by rw[← hK0];exact hk)
       have HDN:=YV hdn
       clear hlc hnl hK0 hdn
       go_wp2_with (go_at_call 43;refine HNW.out.mono ?_;rintro e w17 ⟨rfl,hb⟩;have NL17:=YV (NLr.out.grow (NLr.out.ra.1.later hb) (zb hb b) hbq2 hbp hpB);clear hb HNW)
       go_meet
       case rel=>exact⟨rfl,acc,A3,c3,σ',HDN.out,NL17.out.out hpB⟩
  case rest=>
   obtain⟨rfl,locals,A3,c3,s8,hr3,hna⟩:=hcut
   have NA19:=YV hna
   have HM8:Hid (∀ w1,Rs g c ts w1 b 0 s8→_):=YV fun w1 h1=>jJ g c ts b 0 wLet s8 w1 h1 (by decide)
   obtain⟨Fu,hFu⟩:=EsAt.first hr3
   have HFU:=YV hFu
   clear hr3 hna hFu
   go_upto_region 20 with (go_at_call 83;refine(HM8.out _ NA19.out.ra.1).mono ?_;rintro e w20 ⟨_,v,rfl,hv,g1,g2,_⟩;obtain rfl:v=.tuple #[]:=hv;have NA20:=YV (NA19.out.grow (σ':=(s8.bind fun _ L=>ze wLet L)) (by rw[Pr.unit_id] at g2;exact g2) g1 hbq2 hbp);clear g1 g2 HM8)
   obtain⟨B2,hB2⟩:∃ B2,B2=w20.heap.size:=⟨_,rfl⟩
   have hpB:p<B2:=by rw[hB2];exact NA20.out.box.lt
   have hBx:B2≤w20.heap.size:=by omega
   have HVI:Hid (VS w20 (Bt (p+1) B2) A1 ins):=YV (by rw[hB2];exact NA20.out.vi)
   have HVO:Hid (VS w20 (Bt (p+1) B2) A2 outs):=YV (by rw[hB2];exact NA20.out.vo)
   have HVL:Hid (VS w20 (Bt (p+1) B2) A3 locals):=YV (by rw[hB2];exact NA20.out.vl)
   have HOE:Hid (OwnW RQ 80 6 B2 ([]:List Q) (.slice none 0 0) w20):=YV OwnW.nil
   obtain⟨i0,hi0,hz00,hz01,hz02⟩:=info_parts JT
   have HI0:=YV hi0
   have HI1:=YV hz00
   have HI2:=YV hz01
   have HI3:=YV hz02
   clear hi0 hz00 hz01 hz02 hB2
   go_loopg [58] Fu (fun g' _ wr=>∃ (acc:List Q) (Av:Option Addr) (cv:Nat) (σ':Pr Unit),EsAt R nm ins outs locals g' acc σ'∧RA g c ts b v0 0 σ' wr∧Row wr p 78 #[.string ⟨nm.toArray⟩,.slice A1 ins.length c1,.slice A2 outs.length c2,.slice A3 locals.length c3,.slice Av acc.length cv]∧OwnW RQ 80 6 B2 acc (.slice Av acc.length cv) wr∧Kp2 B2 b p w20 wr)
   case atStart=>exact⟨[],none,0,_,HFU.out,NA20.out.ra,NA20.out.box,HOE.out,Kp2.refl _ _ _ _⟩
   case round=>
    obtain⟨acc,Av,cv,σ',hes,hra,hrow,hown,hkp⟩:=hrel
    have HRT:=YV hra
    have HPT:=YV hrow
    have HOT:=YV hown
    have HKT:=YV hkp
    have hac1:=hes.few
    cases σ' with
    | bad k a=>
     have HDN:=YV (hes.done hra.1.good_ (fun L e=>by cases e))
     have hk0:¬ k=0:=hra.1.good_
     obtain⟨i4,op4,k4,a4,hr4,ha4⟩:=hra.1.row_
     obtain⟨hk4,_⟩:=ha4
     rw[← hk4] at hk0
     have c34:=hr4.cell 3
     simp[zg] at c34
     clear hes hra hrow hown hkp hr4 hk4
     go_upto_region 24 with fail
     clear c34
     have HM9:Hid (∀ w1,Rs g c ts w1 b 0 (.bad k a:Pr Unit)→_):=YV fun w1 h1=>jJ g c ts b 0 wTel (.bad k a:Pr Unit) w1 h1 (by decide)
     go_wp2_with (first|(go_at_call 83;refine(HM9.out _ HRT.out.1).mono ?_;rintro e w30 ⟨_,v,rfl,hv,g1,g2,_⟩;obtain rfl:v=.tuple #[]:=hv;have HS30:Hid (Rs g c ts w30 b 0 R.unit):=YV (by rw[HDN.out.1];rw[Pr.unit_id] at g2;exact g2);have HG30:=YV (za HRT.out.2 g1);have hp30:=HPT.out.grown g1 (fun e=>by injection e with e;omega);have HO30:=YV (HOT.out.keep zH g1 (fun q e=>by injection e with e;omega));have hk30:=HKT.out.step g1 hBx (fun q e=>by injection e with e;exact .inl e.symm);have HK30:=YV hk30;have HROW:=(hk30.block q (by omega) hqb (by omega)).trans NA20.out.res;have e0:=hp30.cell 0;have e1:=hp30.cell 1;have e2:=hp30.cell 2;have e3:=hp30.cell 3;have e4:=hp30.cell 4;have ez:=hp30.lt;simp at e0 e1 e2 e3 e4;clear g1 g2 hp30 hk30 HM9)|(refine wpList_store_row (o:=⟨none,Op.store _ _ _,_,_,_,_⟩) rfl _ _ _ rfl q (nd5 ⟨nm,ins,outs,locals,acc⟩ A1 c1 A2 c2 A3 c3 Av cv) rfl rfl _ _ HROW vp rfl (by simp[nd5,Value.oneCell']) ?_))
     obtain⟨A8,c8,h8,hqs⟩:=HO30.out.qs (lo:=q+1) (by omega)
     injection h8 with h81 h82 h83
     subst h81 h83
     have hvs:=fun {vs:List Vr} {A:Option Addr} (h:VS w20 (Bt (p+1) B2) A vs)=>HK30.out.vs h hbp hBx (lo:=q+1) (by omega)
     obtain⟨t1,t2⟩:=YK (r:=R) (x:=⟨nm,ins,outs,locals,acc⟩) (A1:=A1) (c1:=c1) (A2:=A2) (c2:=c2) (A3:=A3) (c3:=c3) (A4:=Av) (c4:=cv) HQ.out HV.out HG30.out (by omega) HROW (hvs HVI.out) (hvs HVO.out) (hvs HVL.out) hqs HS30.out HDN.out.2
     first | exact bodyPost_ret (results_cell_row rfl _ _ q _ _ _ _ rfl t1 Tryz.underlying78 rfl vp) rfl t2|(rw[← HQ.out] at t2;exact bodyPost_ret (results_cell_row rfl _ _ q _ _ _ _ rfl t1 Tryz.underlying78 rfl vp) rfl t2)
    | ok u Li=>
     have hwi:WFt Li:=hra.1.good_
     obtain⟨i4,op4,k4,a4,hr4,ha4⟩:=hra.1.row_
     obtain⟨rfl,rfl,_⟩:=ha4
     have c34:=hr4.cell 3
     simp[zg] at c34
     obtain⟨bt,hbt⟩:∃ bl,bl=isP wTel Li:=⟨_,rfl⟩
     have HIT:Hid (∀ w1,Rs g c ts w1 b 0 (.ok () Li)→Calls Tryz.prog 44 #[.pointer (some ⟨b,0,none⟩),.string ⟨#[116,101,108]⟩] w1 fun e w'=>e=.returned (.bool bt)∧Below w1.heap.size w1 w'):=YV fun w1 h1=>by rw[hbt];exact rIs g c ts b 0 wTel (.ok () Li) w1 h1 (by decide)
     cases bt with
     | true=>
      have HDN:=YV (hes.done hra.1.good_ (fun L e=>by injection e with _ e;rw[← e];exact hbt.symm))
      clear hes hra hrow hown hkp hr4 hbt hwi
      go_upto_region 24 with (go_at_call 44;refine(HIT.out _ HRT.out.1).mono ?_;rintro e w21 ⟨rfl,hb⟩;replace HRT:=YV (HRT.out.later hb);replace HPT:=YV (HPT.out.below hb HPT.out.lt);replace HOT:=YV (HOT.out.keep zH (zc hb none) (fun q e=>by cases e));replace HKT:=YV (HKT.out.step (zc hb none) hBx (fun q e=>by cases e));clear hb HIT)
      clear c34
      have HM9:Hid (∀ w1,Rs g c ts w1 b 0 (.ok () Li:Pr Unit)→_):=YV fun w1 h1=>jJ g c ts b 0 wTel (.ok () Li:Pr Unit) w1 h1 (by decide)
      go_wp2_with (first|(go_at_call 83;refine(HM9.out _ HRT.out.1).mono ?_;rintro e w30 ⟨_,v,rfl,hv,g1,g2,_⟩;obtain rfl:v=.tuple #[]:=hv;have HS30:Hid (Rs g c ts w30 b 0 R.unit):=YV (by rw[HDN.out.1];rw[Pr.unit_id] at g2;exact g2);have HG30:=YV (za HRT.out.2 g1);have hp30:=HPT.out.grown g1 (fun e=>by injection e with e;omega);have HO30:=YV (HOT.out.keep zH g1 (fun q e=>by injection e with e;omega));have hk30:=HKT.out.step g1 hBx (fun q e=>by injection e with e;exact .inl e.symm);have HK30:=YV hk30;have HROW:=(hk30.block q (by omega) hqb (by omega)).trans NA20.out.res;have e0:=hp30.cell 0;have e1:=hp30.cell 1;have e2:=hp30.cell 2;have e3:=hp30.cell 3;have e4:=hp30.cell 4;have ez:=hp30.lt;simp at e0 e1 e2 e3 e4;clear g1 g2 hp30 hk30 HM9)|(refine wpList_store_row (o:=⟨none,Op.store _ _ _,_,_,_,_⟩) rfl _ _ _ rfl q (nd5 ⟨nm,ins,outs,locals,acc⟩ A1 c1 A2 c2 A3 c3 Av cv) rfl rfl _ _ HROW vp rfl (by simp[nd5,Value.oneCell']) ?_))
      obtain⟨A8,c8,h8,hqs⟩:=HO30.out.qs (lo:=q+1) (by omega)
      injection h8 with h81 h82 h83
      subst h81 h83
      have hvs:=fun {vs:List Vr} {A:Option Addr} (h:VS w20 (Bt (p+1) B2) A vs)=>HK30.out.vs h hbp hBx (lo:=q+1) (by omega)
      obtain⟨t1,t2⟩:=YK (r:=R) (x:=⟨nm,ins,outs,locals,acc⟩) (A1:=A1) (c1:=c1) (A2:=A2) (c2:=c2) (A3:=A3) (c3:=c3) (A4:=Av) (c4:=cv) HQ.out HV.out HG30.out (by omega) HROW (hvs HVI.out) (hvs HVO.out) (hvs HVL.out) hqs HS30.out HDN.out.2
      first | exact bodyPost_ret (results_cell_row rfl _ _ q _ _ _ _ rfl t1 Tryz.underlying78 rfl vp) rfl t2|(rw[← HQ.out] at t2;exact bodyPost_ret (results_cell_row rfl _ _ q _ _ _ _ rfl t1 Tryz.underlying78 rfl vp) rfl t2)
     | false=>
      obtain⟨fl,rfl⟩:∃ fl,gk=fl+1:=⟨gk - 1,by have:=(hes.fuel Li rfl).1;omega⟩
      obtain⟨re,hre⟩:∃ re,re=(eqS acc.length Li).bind fun _ L=>eqnP L:=⟨_,rfl⟩
      have HNX:Hid (∀ y,(∀ z L',re=.ok z L'→y=z)→EsAt R nm ins outs locals fl (acc++[y]) re.unit):=YV fun y hy=>by
       rw[hre];exact hes.next hwi hbt.symm (by rw[← hre];exact hy)
      have HEQ:Hid (∀ w1,Rs g c ts w1 b 0 (eqS acc.length Li)→Calls Tryz.prog 87 #[.pointer (some ⟨b,0,none⟩)] w1 (RRes g c ts b 0 w1 (QVr w1.heap.size) re)):=YV fun w1 h1=>by rw[hre];exact JU g c ts b (eqS acc.length Li) w1 h1
      have hac:acc.length≤1000:=(hes.fuel Li rfl).2
      clear hes hra hrow hown hkp hr4 hbt hre
      go_upto_region 21 with (go_at_call 44;refine(HIT.out _ HRT.out.1).mono ?_;rintro e w21 ⟨rfl,hb⟩;replace HRT:=YV (HRT.out.later hb);replace HPT:=YV (HPT.out.below hb HPT.out.lt);replace HOT:=YV (HOT.out.keep zH (zc hb none) (fun q e=>by cases e));replace HKT:=YV (HKT.out.step (zc hb none) hBx (fun q e=>by cases e));clear hb HIT)
      clear c34
      have e4:=HPT.out.cell 4
      have ez:=HPT.out.lt
      simp at e4
      by_cases hl:1000≤acc.length
      ·have hli:(1000:Int)≤(acc.length:Int):=by omega
       obtain⟨Y0,hY0⟩:∃ y,y=hdT Li:=⟨_,rfl⟩
       obtain⟨N0,hN0⟩:∃ N,N=hdN Li:=⟨_,rfl⟩
       obtain⟨P0,hP0⟩:∃ F,F=hdF Li:=⟨_,rfl⟩
       obtain⟨K0,hK0⟩:∃ K,K=hdK Li:=⟨_,rfl⟩
       have HNW:Hid (∀ w1,Rs g c ts w1 b 0 (.ok () Li)→Calls Tryz.prog 43 #[.pointer (some ⟨b,0,none⟩)] w1 fun e w'=>e=.returned (.agg #[.int .i64 K0,.string ⟨Y0.toArray⟩,.int .i64 N0,.int .i64 (P0:Int)])∧Below w1.heap.size w1 w'):=YV fun w1 h1=>by rw[hK0,hY0,hN0,hP0];exact rNow g c ts b 0 (.ok () Li) w1 h1
       have HFL:Hid (∀ w1,Rs g c ts w1 b 0 (.ok () Li)→Calls Tryz.prog 45 #[.pointer (some ⟨b,0,none⟩),.int .i64 4] w1 (RRes g c ts b 0 w1 NoV (zC 4 Li:Pr Unit))):=YV fun w1 h1=>u9 g c ts b 0 4 (.ok () Li) w1 h1 (by decide)
       obtain⟨bp,hbp4⟩:∃ bl,bl=isP [40] Li:=⟨_,rfl⟩
       have HIB:Hid (∀ w1,Rs g c ts w1 b 0 (.ok () Li)→Calls Tryz.prog 44 #[.pointer (some ⟨b,0,none⟩),.string ⟨#[40]⟩] w1 fun e w'=>e=.returned (.bool bp)∧Below w1.heap.size w1 w'):=YV fun w1 h1=>by rw[hbp4];exact rIs g c ts b 0 [40] (.ok () Li) w1 h1 (by decide)
       have hfl:=ZN
       clear hY0 hN0 hP0
       by_cases hk:K0=1
       ·subst hk
        have HSE:Hid (eqS acc.length Li=zC 4 Li):=YV (by unfold eqS;rw[if_pos ⟨hl,.inl hK0.symm⟩])
        clear hK0 hbp4 HIB
        go_upto_region 23 with (first|(go_at_call 43;refine(HNW.out _ HRT.out.1).mono ?_;rintro e w22 ⟨rfl,hb⟩;replace HRT:=YV (HRT.out.later hb);replace HPT:=YV (HPT.out.below hb HPT.out.lt);replace HOT:=YV (HOT.out.keep zH (zc hb none) (fun q e=>by cases e));replace HKT:=YV (HKT.out.step (zc hb none) hBx (fun q e=>by cases e));clear hb HNW)|(go_at_call 45;refine(HFL.out _ HRT.out.1).mono ?_;rintro e w24 ⟨_,v,rfl,hv,g1,g2,_⟩;obtain rfl:v=.tuple #[]:=hv;replace HRT:Hid (RA g c ts b v0 0 (zC 4 Li) w24):=YV (HRT.out.step (by rw[Pr.unit_id] at g2;exact g2) g1);replace HPT:=YV (HPT.out.grown g1 (fun e=>by injection e with e;omega));replace HOT:=YV (HOT.out.keep zH g1 (fun q e=>by injection e with e;omega));replace HKT:=YV (HKT.out.step g1 hBx (fun q e=>by injection e with e;exact .inl e.symm));clear g1 g2 HFL))
        clear e4 ez hli hl
        have HRA:Hid (RA g c ts b v0 0 (eqS acc.length Li) w24):=YV (by rw[HSE.out];exact HRT.out)
        have HV5:Hid (∀ q,(Value.slice Av acc.length cv).ownBlock=some q→B2≤q∧q<w24.heap.size):=YV (HOT.out.lt)
        refine Tame.wp_region_tamg (L:=Tame.Later) (M:=ME b p (Value.slice Av acc.length cv)) (gs:=jr g c ts b 0 p B2 (eqS acc.length Li) v0 w20 78 #[.string ⟨nm.toArray⟩,.slice A1 ins.length c1,.slice A2 outs.length c2,.slice A3 locals.length c3,.slice Av acc.length cv] RQ 80 6 acc (Value.slice Av acc.length cv)) [3,5,7] (by kernel_rfl) (by kernel_rfl) Tame.Later.refl (fun _ w=>World.grownBy.refl w _) (jk zH HRA.out HPT.out HOT.out HKT.out hbv hvp hpB hBx) ?_
        repeat
         ((first
          |(refine Tame.walk3_known (o:=⟨some 85,_,_,_,_,_⟩) (by kernel_rfl) (fun _=>rfl) ?_;apply Exists.intro;refine⟨fun vals w2 hG hd=>?_,?_⟩;(focus(have r:=(hG 1 _ rfl (by kernel_rfl):Row w2 p 78 #[.string ⟨nm.toArray⟩,.slice A1 ins.length c1,.slice A2 outs.length c2,.slice A3 locals.length c3,.slice Av acc.length cv]);have u4:=r.cell 4;clear hd hG r;simp at u4;go_simp;exact Tame.Is.mk (Tame.Later.refl _))))
          |(refine Tame.walk3_write (o:=⟨some 87,_,_,_,_,_⟩) (AftC g c ts b v0 0 re.unit (VQ B2 (Value.slice Av acc.length cv).ownBlock) (fun y=>∀ z L',re=.ok z L'→y=z)) (none) ([5,7]) (fun _=>rfl) (by kernel_rfl) (by kernel_rfl) (fun u a c hl h=>AftC.later vA h hl) (fun i _ hj u a c hs h=>AftC.turn vA hj hs h (fun q hq=>(HV5.out q hq).1) hbv hvp hpB) (fun vals w2 hG hd=>?_) ?_;(focus(have ha2:=(hG 0 _ rfl (by kernel_rfl):RA g c ts b v0 0 (eqS acc.length Li) w2);have hk2:=(hG 3 _ rfl (by kernel_rfl):Kp2 B2 b p w20 w2);have ho2:=(hG 2 _ rfl (by kernel_rfl):OwnW RQ 80 6 B2 acc (Value.slice Av acc.length cv) w2);have HC:=YV (HEQ.out w2 ha2.1);have HA9:=YV ha2;have hk3:=hk2.size;have HO2:=YV ho2;clear hd hG ha2 hk2 ho2;go_simp;refine HC.out.mono ?_;rintro e w' ⟨y,v,rfl,⟨E1,d1,E2,d2,rfl,k1,k2,k3⟩,g1,g2,g3⟩;exact⟨_,rfl,Tame.Leaves.mk g1 ⟨HA9.out.step g2 g1,y,g3,⟨E1,d1,E2,d2,rfl,k1.move (fun q hq=>⟨⟨by have:=hq.1;omega,hq.2,fun e=>by have:=(HO2.out.lt q e.symm).2;have:=hq.1;omega⟩,rfl⟩),k2.move (fun q hq=>⟨⟨by have:=hq.1;omega,hq.2,fun e=>by have:=(HO2.out.lt q e.symm).2;have:=hq.1;omega⟩,rfl⟩),k3⟩⟩⟩)))
          |(refine Tame.walk3_some (o:=⟨some 88,_,_,_,_,_⟩) (AftR (WQ B2 (Value.slice Av acc.length cv).ownBlock) (fun y=>∀ z L',re=.ok z L'→y=z)) (none) ([3,5,7]) (by kernel_rfl) (fun _=>rfl) (by kernel_rfl) (fun u a c hl h=>AftR.later (v:=(Value.slice Av acc.length cv)) vz h hl) (fun i _ hj u a c hs h=>AftR.turn vz hj hs h (by omega) hpB) (fun vals w2 hG hd=>?_) ?_;(focus(have h1:=(hd 3 _ rfl (by kernel_rfl) rfl:AftC g c ts b v0 0 re.unit (VQ B2 (Value.slice Av acc.length cv).ownBlock) (fun y=>∀ z L',re=.ok z L'→y=z) (vals 3) w2);have hk2:=(hG 3 _ rfl (by kernel_rfl):Kp2 B2 b p w20 w2);have hk3:=hk2.size;have ho2:=(hG 2 _ rfl (by kernel_rfl):OwnW RQ 80 6 B2 acc (Value.slice Av acc.length cv) w2);have HO2:=YV ho2;clear hG hd hk2 ho2;obtain⟨ha2,y,hyy,E1,d1,E2,d2,hv1,k1,k2,k3⟩:=h1;have HK1:=YV (⟨k1,k2,k3⟩:TS w2 (Sb B2 (Value.slice Av acc.length cv).ownBlock w2) E1 y.lhs∧KS w2 (Sb B2 (Value.slice Av acc.length cv).ownBlock w2) E2 y.rhs.ks∧y.lhs.length≤d1);clear k1 k2 k3;clear ha2;go_simp;exact Tame.Has.mk ((Below.refl _ _).alloc (Nat.le_refl _) _) ⟨y,hyy,yF HK1.out (by omega) (fun e=>by have:=(HO2.out.lt _ e.symm).2;omega)⟩)))
          |(refine Tame.walk3_write (o:=⟨some 89,_,_,_,_,_⟩) (AftS RQ 80 6 B2 acc (fun y=>∀ z L',re=.ok z L'→y=z)) (none) ([7]) (fun _=>rfl) (by kernel_rfl) (by kernel_rfl) (fun u a c hl h=>AftS.later zH h hl) (fun i _ hj u a c hs h=>by obtain rfl:=zZ hj;exact AftS.other (p:=p) zH h hs hpB) (fun vals w2 hG hd=>?_) ?_;(focus(have hk2:=(hG 3 _ rfl (by kernel_rfl):Kp2 B2 b p w20 w2);have hk3:=hk2.size;have h1:=(hd 4 _ rfl (by kernel_rfl) rfl:AftR (WQ B2 (Value.slice Av acc.length cv).ownBlock) (fun y=>∀ z L',re=.ok z L'→y=z) (vals 4) w2);have h2:=(hG 2 _ rfl (by kernel_rfl):OwnW RQ 80 6 B2 acc (Value.slice Av acc.length cv) w2);clear hG hd hk2;obtain⟨y,hyy,g1,E1,d1,E2,d2,hv1,hr1,k1,k2,k3,k4,k5⟩:=h1;obtain⟨cs,ho,hx⟩:=h2;exact zK (.tmp 85) (.tmp 88) _ rfl B2 80 i0 _ 6 88 Tryz.underlying76 HI0.out HI1.out HI2.out HI3.out rfl (by omega) (by omega) (Value.slice Av acc.length cv) _ cs rfl ho g1 1 80 (q6 y E1 d1 E2 d2).toList hv1 rfl (by simpa using hr1) (zH.one (w:=w2) (S:=Sb B2 (Value.slice Av acc.length cv).ownBlock w2) (x:=y) ⟨E1,d1,E2,d2,rfl,k1,k2,k3⟩) (by omega) (by omega) (fun v' w' ho' hgr hat=>⟨hgr,y,hyy,OwnW.snoc zH hx ho' hgr hat ⟨E1,d1,E2,d2,rfl,k1,k2,k3⟩⟩))))
          |(refine Tame.walk3_lays (o:=⟨none,Op.store _ _ _,_,_,_,_⟩) (fun vals w=>Row w p 78 #[.string ⟨nm.toArray⟩,.slice A1 ins.length c1,.slice A2 outs.length c2,.slice A3 locals.length c3,vals 5]) none ([]) ([5]) (fun _=>rfl) (by kernel_rfl) (by kernel_rfl) (by kernel_rfl) (fun vals vals' w hh h=>by rw[← hh 5 (by decide)];exact h) (fun vals w w' hl h=>Row.below h hl (Row.lt h)) (fun j hj hk=>by cases hk) (fun vals w2 hG hd=>?_) ?_;(focus(have h1:=(hd 5 _ rfl (by kernel_rfl) (by kernel_rfl):AftS RQ 80 6 B2 acc (fun y=>∀ z L',re=.ok z L'→y=z) (vals 5) w2);have hr:=(hG 1 _ rfl (by kernel_rfl):Row w2 p 78 #[.string ⟨nm.toArray⟩,.slice A1 ins.length c1,.slice A2 outs.length c2,.slice A3 locals.length c3,.slice Av acc.length cv]);clear hG hd;obtain⟨E1,d1,hv1⟩:=h1.slice;have HR1:=YV hr;have c4:=hr.cell 4;have f4:=hr.free 4;simp at c4;clear hr h1;go_simp;exact⟨zf (zd _ p) 4 _,by first | exact HR1.out.set 4 (.slice E1 (acc.length+1) d1)|(rw[hv1];exact HR1.out.set 4 (.slice E1 (acc.length+1) d1))⟩)))
          |(refine Tame.walk3_known (by kernel_rfl) (fun _=>rfl) ?_;apply Exists.intro;refine⟨fun vals w2 hG hd=>?_,?_⟩;(focus(go_simp;first | exact Tame.Is.mk (Tame.Later.refl _)|(rw[if_neg];(focus exact Tame.Is.mk (Tame.Later.refl _));omega)))))
          simp only[Act.put,List.setIfInBounds_toArray,List.set_cons_zero,List.set_cons_succ,List.nil_append,List.cons_append,List.length_cons,List.length_nil,Nat.zero_add,Nat.reduceAdd])
        refine Tame.walk3_end fun vals w5 hG hts=>?_
        have HF0:Hid (Kp2 B2 b p w20 w5):=YV (hG 3 _ rfl (by kernel_rfl))
        have HF3:Hid (RA g c ts b v0 0 re.unit w5):=YV ((hts 3 _ rfl rfl:AftC g c ts b v0 0 re.unit (VQ B2 (Value.slice Av acc.length cv).ownBlock) (fun y=>∀ z L',re=.ok z L'→y=z) (vals 3) w5).1)
        have f5:AftS RQ 80 6 B2 acc (fun y=>∀ z L',re=.ok z L'→y=z) (vals 5) w5:=hts 5 _ rfl rfl
        have f7:Row w5 p 78 #[.string ⟨nm.toArray⟩,.slice A1 ins.length c1,.slice A2 outs.length c2,.slice A3 locals.length c3,vals 5]:=hts 7 _ rfl rfl
        obtain⟨y,hyy,f6⟩:=f5
        obtain⟨A7,c7,hv7,_⟩:=f6.slice
        rw[hv7] at f6 f7
        have HYY:=YV hyy
        have HF5:=YV f6
        have HF7:=YV f7
        clear f6 f7 hts hG hv7 hyy
        go_wp2_with fail
        go_roundg fl
        case rel=>exact⟨acc++[y],A7,c7,_,HNX.out y HYY.out,HF3.out,by simpa using HF7.out,HF5.out,HF0.out⟩
        case measure=>omega
       ·cases bp with
        | true=>
         have HSE:Hid (eqS acc.length Li=zC 4 Li):=YV (by unfold eqS;rw[if_pos ⟨hl,.inr hbp4.symm⟩])
         clear hK0 hbp4
         go_upto_region 23 with (first|(go_at_call 43;refine(HNW.out _ HRT.out.1).mono ?_;rintro e w22 ⟨rfl,hb⟩;replace HRT:=YV (HRT.out.later hb);replace HPT:=YV (HPT.out.below hb HPT.out.lt);replace HOT:=YV (HOT.out.keep zH (zc hb none) (fun q e=>by cases e));replace HKT:=YV (HKT.out.step (zc hb none) hBx (fun q e=>by cases e));clear hb HNW)|(go_at_call 44;refine(HIB.out _ HRT.out.1).mono ?_;rintro e w23 ⟨rfl,hb⟩;replace HRT:=YV (HRT.out.later hb);replace HPT:=YV (HPT.out.below hb HPT.out.lt);replace HOT:=YV (HOT.out.keep zH (zc hb none) (fun q e=>by cases e));replace HKT:=YV (HKT.out.step (zc hb none) hBx (fun q e=>by cases e));clear hb HIB)|(go_at_call 45;refine(HFL.out _ HRT.out.1).mono ?_;rintro e w24 ⟨_,v,rfl,hv,g1,g2,_⟩;obtain rfl:v=.tuple #[]:=hv;replace HRT:Hid (RA g c ts b v0 0 (zC 4 Li) w24):=YV (HRT.out.step (by rw[Pr.unit_id] at g2;exact g2) g1);replace HPT:=YV (HPT.out.grown g1 (fun e=>by injection e with e;omega));replace HOT:=YV (HOT.out.keep zH g1 (fun q e=>by injection e with e;omega));replace HKT:=YV (HKT.out.step g1 hBx (fun q e=>by injection e with e;exact .inl e.symm));clear g1 g2 HFL))
         clear e4 ez hli hl
         have HRA:Hid (RA g c ts b v0 0 (eqS acc.length Li) w24):=YV (by rw[HSE.out];exact HRT.out)
         have HV5:Hid (∀ q,(Value.slice Av acc.length cv).ownBlock=some q→B2≤q∧q<w24.heap.size):=YV (HOT.out.lt)
         refine Tame.wp_region_tamg (L:=Tame.Later) (M:=ME b p (Value.slice Av acc.length cv)) (gs:=jr g c ts b 0 p B2 (eqS acc.length Li) v0 w20 78 #[.string ⟨nm.toArray⟩,.slice A1 ins.length c1,.slice A2 outs.length c2,.slice A3 locals.length c3,.slice Av acc.length cv] RQ 80 6 acc (Value.slice Av acc.length cv)) [3,5,7] (by kernel_rfl) (by kernel_rfl) Tame.Later.refl (fun _ w=>World.grownBy.refl w _) (jk zH HRA.out HPT.out HOT.out HKT.out hbv hvp hpB hBx) ?_
         repeat
          ((first
           |(refine Tame.walk3_known (o:=⟨some 85,_,_,_,_,_⟩) (by kernel_rfl) (fun _=>rfl) ?_;apply Exists.intro;refine⟨fun vals w2 hG hd=>?_,?_⟩;(focus(have r:=(hG 1 _ rfl (by kernel_rfl):Row w2 p 78 #[.string ⟨nm.toArray⟩,.slice A1 ins.length c1,.slice A2 outs.length c2,.slice A3 locals.length c3,.slice Av acc.length cv]);have u4:=r.cell 4;clear hd hG r;simp at u4;go_simp;exact Tame.Is.mk (Tame.Later.refl _))))
           |(refine Tame.walk3_write (o:=⟨some 87,_,_,_,_,_⟩) (AftC g c ts b v0 0 re.unit (VQ B2 (Value.slice Av acc.length cv).ownBlock) (fun y=>∀ z L',re=.ok z L'→y=z)) (none) ([5,7]) (fun _=>rfl) (by kernel_rfl) (by kernel_rfl) (fun u a c hl h=>AftC.later vA h hl) (fun i _ hj u a c hs h=>AftC.turn vA hj hs h (fun q hq=>(HV5.out q hq).1) hbv hvp hpB) (fun vals w2 hG hd=>?_) ?_;(focus(have ha2:=(hG 0 _ rfl (by kernel_rfl):RA g c ts b v0 0 (eqS acc.length Li) w2);have hk2:=(hG 3 _ rfl (by kernel_rfl):Kp2 B2 b p w20 w2);have ho2:=(hG 2 _ rfl (by kernel_rfl):OwnW RQ 80 6 B2 acc (Value.slice Av acc.length cv) w2);have HC:=YV (HEQ.out w2 ha2.1);have HA9:=YV ha2;have hk3:=hk2.size;have HO2:=YV ho2;clear hd hG ha2 hk2 ho2;go_simp;refine HC.out.mono ?_;rintro e w' ⟨y,v,rfl,⟨E1,d1,E2,d2,rfl,k1,k2,k3⟩,g1,g2,g3⟩;exact⟨_,rfl,Tame.Leaves.mk g1 ⟨HA9.out.step g2 g1,y,g3,⟨E1,d1,E2,d2,rfl,k1.move (fun q hq=>⟨⟨by have:=hq.1;omega,hq.2,fun e=>by have:=(HO2.out.lt q e.symm).2;have:=hq.1;omega⟩,rfl⟩),k2.move (fun q hq=>⟨⟨by have:=hq.1;omega,hq.2,fun e=>by have:=(HO2.out.lt q e.symm).2;have:=hq.1;omega⟩,rfl⟩),k3⟩⟩⟩)))
           |(refine Tame.walk3_some (o:=⟨some 88,_,_,_,_,_⟩) (AftR (WQ B2 (Value.slice Av acc.length cv).ownBlock) (fun y=>∀ z L',re=.ok z L'→y=z)) (none) ([3,5,7]) (by kernel_rfl) (fun _=>rfl) (by kernel_rfl) (fun u a c hl h=>AftR.later (v:=(Value.slice Av acc.length cv)) vz h hl) (fun i _ hj u a c hs h=>AftR.turn vz hj hs h (by omega) hpB) (fun vals w2 hG hd=>?_) ?_;(focus(have h1:=(hd 3 _ rfl (by kernel_rfl) rfl:AftC g c ts b v0 0 re.unit (VQ B2 (Value.slice Av acc.length cv).ownBlock) (fun y=>∀ z L',re=.ok z L'→y=z) (vals 3) w2);have hk2:=(hG 3 _ rfl (by kernel_rfl):Kp2 B2 b p w20 w2);have hk3:=hk2.size;have ho2:=(hG 2 _ rfl (by kernel_rfl):OwnW RQ 80 6 B2 acc (Value.slice Av acc.length cv) w2);have HO2:=YV ho2;clear hG hd hk2 ho2;obtain⟨ha2,y,hyy,E1,d1,E2,d2,hv1,k1,k2,k3⟩:=h1;have HK1:=YV (⟨k1,k2,k3⟩:TS w2 (Sb B2 (Value.slice Av acc.length cv).ownBlock w2) E1 y.lhs∧KS w2 (Sb B2 (Value.slice Av acc.length cv).ownBlock w2) E2 y.rhs.ks∧y.lhs.length≤d1);clear k1 k2 k3;clear ha2;go_simp;exact Tame.Has.mk ((Below.refl _ _).alloc (Nat.le_refl _) _) ⟨y,hyy,yF HK1.out (by omega) (fun e=>by have:=(HO2.out.lt _ e.symm).2;omega)⟩)))
           |(refine Tame.walk3_write (o:=⟨some 89,_,_,_,_,_⟩) (AftS RQ 80 6 B2 acc (fun y=>∀ z L',re=.ok z L'→y=z)) (none) ([7]) (fun _=>rfl) (by kernel_rfl) (by kernel_rfl) (fun u a c hl h=>AftS.later zH h hl) (fun i _ hj u a c hs h=>by obtain rfl:=zZ hj;exact AftS.other (p:=p) zH h hs hpB) (fun vals w2 hG hd=>?_) ?_;(focus(have hk2:=(hG 3 _ rfl (by kernel_rfl):Kp2 B2 b p w20 w2);have hk3:=hk2.size;have h1:=(hd 4 _ rfl (by kernel_rfl) rfl:AftR (WQ B2 (Value.slice Av acc.length cv).ownBlock) (fun y=>∀ z L',re=.ok z L'→y=z) (vals 4) w2);have h2:=(hG 2 _ rfl (by kernel_rfl):OwnW RQ 80 6 B2 acc (Value.slice Av acc.length cv) w2);clear hG hd hk2;obtain⟨y,hyy,g1,E1,d1,E2,d2,hv1,hr1,k1,k2,k3,k4,k5⟩:=h1;obtain⟨cs,ho,hx⟩:=h2;exact zK (.tmp 85) (.tmp 88) _ rfl B2 80 i0 _ 6 88 Tryz.underlying76 HI0.out HI1.out HI2.out HI3.out rfl (by omega) (by omega) (Value.slice Av acc.length cv) _ cs rfl ho g1 1 80 (q6 y E1 d1 E2 d2).toList hv1 rfl (by simpa using hr1) (zH.one (w:=w2) (S:=Sb B2 (Value.slice Av acc.length cv).ownBlock w2) (x:=y) ⟨E1,d1,E2,d2,rfl,k1,k2,k3⟩) (by omega) (by omega) (fun v' w' ho' hgr hat=>⟨hgr,y,hyy,OwnW.snoc zH hx ho' hgr hat ⟨E1,d1,E2,d2,rfl,k1,k2,k3⟩⟩))))
           |(refine Tame.walk3_lays (o:=⟨none,Op.store _ _ _,_,_,_,_⟩) (fun vals w=>Row w p 78 #[.string ⟨nm.toArray⟩,.slice A1 ins.length c1,.slice A2 outs.length c2,.slice A3 locals.length c3,vals 5]) none ([]) ([5]) (fun _=>rfl) (by kernel_rfl) (by kernel_rfl) (by kernel_rfl) (fun vals vals' w hh h=>by rw[← hh 5 (by decide)];exact h) (fun vals w w' hl h=>Row.below h hl (Row.lt h)) (fun j hj hk=>by cases hk) (fun vals w2 hG hd=>?_) ?_;(focus(have h1:=(hd 5 _ rfl (by kernel_rfl) (by kernel_rfl):AftS RQ 80 6 B2 acc (fun y=>∀ z L',re=.ok z L'→y=z) (vals 5) w2);have hr:=(hG 1 _ rfl (by kernel_rfl):Row w2 p 78 #[.string ⟨nm.toArray⟩,.slice A1 ins.length c1,.slice A2 outs.length c2,.slice A3 locals.length c3,.slice Av acc.length cv]);clear hG hd;obtain⟨E1,d1,hv1⟩:=h1.slice;have HR1:=YV hr;have c4:=hr.cell 4;have f4:=hr.free 4;simp at c4;clear hr h1;go_simp;exact⟨zf (zd _ p) 4 _,by first | exact HR1.out.set 4 (.slice E1 (acc.length+1) d1)|(rw[hv1];exact HR1.out.set 4 (.slice E1 (acc.length+1) d1))⟩)))
           |(refine Tame.walk3_known (by kernel_rfl) (fun _=>rfl) ?_;apply Exists.intro;refine⟨fun vals w2 hG hd=>?_,?_⟩;(focus(go_simp;first | exact Tame.Is.mk (Tame.Later.refl _)|(rw[if_neg];(focus exact Tame.Is.mk (Tame.Later.refl _));omega)))))
           simp only[Act.put,List.setIfInBounds_toArray,List.set_cons_zero,List.set_cons_succ,List.nil_append,List.cons_append,List.length_cons,List.length_nil,Nat.zero_add,Nat.reduceAdd])
         refine Tame.walk3_end fun vals w5 hG hts=>?_
         have HF0:Hid (Kp2 B2 b p w20 w5):=YV (hG 3 _ rfl (by kernel_rfl))
         have HF3:Hid (RA g c ts b v0 0 re.unit w5):=YV ((hts 3 _ rfl rfl:AftC g c ts b v0 0 re.unit (VQ B2 (Value.slice Av acc.length cv).ownBlock) (fun y=>∀ z L',re=.ok z L'→y=z) (vals 3) w5).1)
         have f5:AftS RQ 80 6 B2 acc (fun y=>∀ z L',re=.ok z L'→y=z) (vals 5) w5:=hts 5 _ rfl rfl
         have f7:Row w5 p 78 #[.string ⟨nm.toArray⟩,.slice A1 ins.length c1,.slice A2 outs.length c2,.slice A3 locals.length c3,vals 5]:=hts 7 _ rfl rfl
         obtain⟨y,hyy,f6⟩:=f5
         obtain⟨A7,c7,hv7,_⟩:=f6.slice
         rw[hv7] at f6 f7
         have HYY:=YV hyy
         have HF5:=YV f6
         have HF7:=YV f7
         clear f6 f7 hts hG hv7 hyy
         go_wp2_with fail
         go_roundg fl
         case rel=>exact⟨acc++[y],A7,c7,_,HNX.out y HYY.out,HF3.out,by simpa using HF7.out,HF5.out,HF0.out⟩
         case measure=>omega
        | false=>
         have HSE:Hid (eqS acc.length Li=.ok () Li):=YV (by unfold eqS;rw[if_neg (fun h=>h.2.elim (fun e=>hk (hK0.trans e)) (fun e=>by rw[← hbp4] at e;cases e))])
         clear hK0 hbp4 HFL
         go_upto_region 23 with (first|(go_at_call 43;refine(HNW.out _ HRT.out.1).mono ?_;rintro e w22 ⟨rfl,hb⟩;replace HRT:=YV (HRT.out.later hb);replace HPT:=YV (HPT.out.below hb HPT.out.lt);replace HOT:=YV (HOT.out.keep zH (zc hb none) (fun q e=>by cases e));replace HKT:=YV (HKT.out.step (zc hb none) hBx (fun q e=>by cases e));clear hb HNW)|(go_at_call 44;refine(HIB.out _ HRT.out.1).mono ?_;rintro e w23 ⟨rfl,hb⟩;replace HRT:=YV (HRT.out.later hb);replace HPT:=YV (HPT.out.below hb HPT.out.lt);replace HOT:=YV (HOT.out.keep zH (zc hb none) (fun q e=>by cases e));replace HKT:=YV (HKT.out.step (zc hb none) hBx (fun q e=>by cases e));clear hb HIB))
         clear e4 ez hli hl
         have HRA:Hid (RA g c ts b v0 0 (eqS acc.length Li) w23):=YV (by rw[HSE.out];exact HRT.out)
         have HV5:Hid (∀ q,(Value.slice Av acc.length cv).ownBlock=some q→B2≤q∧q<w23.heap.size):=YV (HOT.out.lt)
         refine Tame.wp_region_tamg (L:=Tame.Later) (M:=ME b p (Value.slice Av acc.length cv)) (gs:=jr g c ts b 0 p B2 (eqS acc.length Li) v0 w20 78 #[.string ⟨nm.toArray⟩,.slice A1 ins.length c1,.slice A2 outs.length c2,.slice A3 locals.length c3,.slice Av acc.length cv] RQ 80 6 acc (Value.slice Av acc.length cv)) [3,5,7] (by kernel_rfl) (by kernel_rfl) Tame.Later.refl (fun _ w=>World.grownBy.refl w _) (jk zH HRA.out HPT.out HOT.out HKT.out hbv hvp hpB hBx) ?_
         repeat
          ((first
           |(refine Tame.walk3_known (o:=⟨some 85,_,_,_,_,_⟩) (by kernel_rfl) (fun _=>rfl) ?_;apply Exists.intro;refine⟨fun vals w2 hG hd=>?_,?_⟩;(focus(have r:=(hG 1 _ rfl (by kernel_rfl):Row w2 p 78 #[.string ⟨nm.toArray⟩,.slice A1 ins.length c1,.slice A2 outs.length c2,.slice A3 locals.length c3,.slice Av acc.length cv]);have u4:=r.cell 4;clear hd hG r;simp at u4;go_simp;exact Tame.Is.mk (Tame.Later.refl _))))
           |(refine Tame.walk3_write (o:=⟨some 87,_,_,_,_,_⟩) (AftC g c ts b v0 0 re.unit (VQ B2 (Value.slice Av acc.length cv).ownBlock) (fun y=>∀ z L',re=.ok z L'→y=z)) (none) ([5,7]) (fun _=>rfl) (by kernel_rfl) (by kernel_rfl) (fun u a c hl h=>AftC.later vA h hl) (fun i _ hj u a c hs h=>AftC.turn vA hj hs h (fun q hq=>(HV5.out q hq).1) hbv hvp hpB) (fun vals w2 hG hd=>?_) ?_;(focus(have ha2:=(hG 0 _ rfl (by kernel_rfl):RA g c ts b v0 0 (eqS acc.length Li) w2);have hk2:=(hG 3 _ rfl (by kernel_rfl):Kp2 B2 b p w20 w2);have ho2:=(hG 2 _ rfl (by kernel_rfl):OwnW RQ 80 6 B2 acc (Value.slice Av acc.length cv) w2);have HC:=YV (HEQ.out w2 ha2.1);have HA9:=YV ha2;have hk3:=hk2.size;have HO2:=YV ho2;clear hd hG ha2 hk2 ho2;go_simp;refine HC.out.mono ?_;rintro e w' ⟨y,v,rfl,⟨E1,d1,E2,d2,rfl,k1,k2,k3⟩,g1,g2,g3⟩;exact⟨_,rfl,Tame.Leaves.mk g1 ⟨HA9.out.step g2 g1,y,g3,⟨E1,d1,E2,d2,rfl,k1.move (fun q hq=>⟨⟨by have:=hq.1;omega,hq.2,fun e=>by have:=(HO2.out.lt q e.symm).2;have:=hq.1;omega⟩,rfl⟩),k2.move (fun q hq=>⟨⟨by have:=hq.1;omega,hq.2,fun e=>by have:=(HO2.out.lt q e.symm).2;have:=hq.1;omega⟩,rfl⟩),k3⟩⟩⟩)))
           |(refine Tame.walk3_some (o:=⟨some 88,_,_,_,_,_⟩) (AftR (WQ B2 (Value.slice Av acc.length cv).ownBlock) (fun y=>∀ z L',re=.ok z L'→y=z)) (none) ([3,5,7]) (by kernel_rfl) (fun _=>rfl) (by kernel_rfl) (fun u a c hl h=>AftR.later (v:=(Value.slice Av acc.length cv)) vz h hl) (fun i _ hj u a c hs h=>AftR.turn vz hj hs h (by omega) hpB) (fun vals w2 hG hd=>?_) ?_;(focus(have h1:=(hd 3 _ rfl (by kernel_rfl) rfl:AftC g c ts b v0 0 re.unit (VQ B2 (Value.slice Av acc.length cv).ownBlock) (fun y=>∀ z L',re=.ok z L'→y=z) (vals 3) w2);have hk2:=(hG 3 _ rfl (by kernel_rfl):Kp2 B2 b p w20 w2);have hk3:=hk2.size;have ho2:=(hG 2 _ rfl (by kernel_rfl):OwnW RQ 80 6 B2 acc (Value.slice Av acc.length cv) w2);have HO2:=YV ho2;clear hG hd hk2 ho2;obtain⟨ha2,y,hyy,E1,d1,E2,d2,hv1,k1,k2,k3⟩:=h1;have HK1:=YV (⟨k1,k2,k3⟩:TS w2 (Sb B2 (Value.slice Av acc.length cv).ownBlock w2) E1 y.lhs∧KS w2 (Sb B2 (Value.slice Av acc.length cv).ownBlock w2) E2 y.rhs.ks∧y.lhs.length≤d1);clear k1 k2 k3;clear ha2;go_simp;exact Tame.Has.mk ((Below.refl _ _).alloc (Nat.le_refl _) _) ⟨y,hyy,yF HK1.out (by omega) (fun e=>by have:=(HO2.out.lt _ e.symm).2;omega)⟩)))
           |(refine Tame.walk3_write (o:=⟨some 89,_,_,_,_,_⟩) (AftS RQ 80 6 B2 acc (fun y=>∀ z L',re=.ok z L'→y=z)) (none) ([7]) (fun _=>rfl) (by kernel_rfl) (by kernel_rfl) (fun u a c hl h=>AftS.later zH h hl) (fun i _ hj u a c hs h=>by obtain rfl:=zZ hj;exact AftS.other (p:=p) zH h hs hpB) (fun vals w2 hG hd=>?_) ?_;(focus(have hk2:=(hG 3 _ rfl (by kernel_rfl):Kp2 B2 b p w20 w2);have hk3:=hk2.size;have h1:=(hd 4 _ rfl (by kernel_rfl) rfl:AftR (WQ B2 (Value.slice Av acc.length cv).ownBlock) (fun y=>∀ z L',re=.ok z L'→y=z) (vals 4) w2);have h2:=(hG 2 _ rfl (by kernel_rfl):OwnW RQ 80 6 B2 acc (Value.slice Av acc.length cv) w2);clear hG hd hk2;obtain⟨y,hyy,g1,E1,d1,E2,d2,hv1,hr1,k1,k2,k3,k4,k5⟩:=h1;obtain⟨cs,ho,hx⟩:=h2;exact zK (.tmp 85) (.tmp 88) _ rfl B2 80 i0 _ 6 88 Tryz.underlying76 HI0.out HI1.out HI2.out HI3.out rfl (by omega) (by omega) (Value.slice Av acc.length cv) _ cs rfl ho g1 1 80 (q6 y E1 d1 E2 d2).toList hv1 rfl (by simpa using hr1) (zH.one (w:=w2) (S:=Sb B2 (Value.slice Av acc.length cv).ownBlock w2) (x:=y) ⟨E1,d1,E2,d2,rfl,k1,k2,k3⟩) (by omega) (by omega) (fun v' w' ho' hgr hat=>⟨hgr,y,hyy,OwnW.snoc zH hx ho' hgr hat ⟨E1,d1,E2,d2,rfl,k1,k2,k3⟩⟩))))
           |(refine Tame.walk3_lays (o:=⟨none,Op.store _ _ _,_,_,_,_⟩) (fun vals w=>Row w p 78 #[.string ⟨nm.toArray⟩,.slice A1 ins.length c1,.slice A2 outs.length c2,.slice A3 locals.length c3,vals 5]) none ([]) ([5]) (fun _=>rfl) (by kernel_rfl) (by kernel_rfl) (by kernel_rfl) (fun vals vals' w hh h=>by rw[← hh 5 (by decide)];exact h) (fun vals w w' hl h=>Row.below h hl (Row.lt h)) (fun j hj hk=>by cases hk) (fun vals w2 hG hd=>?_) ?_;(focus(have h1:=(hd 5 _ rfl (by kernel_rfl) (by kernel_rfl):AftS RQ 80 6 B2 acc (fun y=>∀ z L',re=.ok z L'→y=z) (vals 5) w2);have hr:=(hG 1 _ rfl (by kernel_rfl):Row w2 p 78 #[.string ⟨nm.toArray⟩,.slice A1 ins.length c1,.slice A2 outs.length c2,.slice A3 locals.length c3,.slice Av acc.length cv]);clear hG hd;obtain⟨E1,d1,hv1⟩:=h1.slice;have HR1:=YV hr;have c4:=hr.cell 4;have f4:=hr.free 4;simp at c4;clear hr h1;go_simp;exact⟨zf (zd _ p) 4 _,by first | exact HR1.out.set 4 (.slice E1 (acc.length+1) d1)|(rw[hv1];exact HR1.out.set 4 (.slice E1 (acc.length+1) d1))⟩)))
           |(refine Tame.walk3_known (by kernel_rfl) (fun _=>rfl) ?_;apply Exists.intro;refine⟨fun vals w2 hG hd=>?_,?_⟩;(focus(go_simp;first | exact Tame.Is.mk (Tame.Later.refl _)|(rw[if_neg];(focus exact Tame.Is.mk (Tame.Later.refl _));omega)))))
           simp only[Act.put,List.setIfInBounds_toArray,List.set_cons_zero,List.set_cons_succ,List.nil_append,List.cons_append,List.length_cons,List.length_nil,Nat.zero_add,Nat.reduceAdd])
         refine Tame.walk3_end fun vals w5 hG hts=>?_
         have HF0:Hid (Kp2 B2 b p w20 w5):=YV (hG 3 _ rfl (by kernel_rfl))
         have HF3:Hid (RA g c ts b v0 0 re.unit w5):=YV ((hts 3 _ rfl rfl:AftC g c ts b v0 0 re.unit (VQ B2 (Value.slice Av acc.length cv).ownBlock) (fun y=>∀ z L',re=.ok z L'→y=z) (vals 3) w5).1)
         have f5:AftS RQ 80 6 B2 acc (fun y=>∀ z L',re=.ok z L'→y=z) (vals 5) w5:=hts 5 _ rfl rfl
         have f7:Row w5 p 78 #[.string ⟨nm.toArray⟩,.slice A1 ins.length c1,.slice A2 outs.length c2,.slice A3 locals.length c3,vals 5]:=hts 7 _ rfl rfl
         obtain⟨y,hyy,f6⟩:=f5
         obtain⟨A7,c7,hv7,_⟩:=f6.slice
         rw[hv7] at f6 f7
         have HYY:=YV hyy
         have HF5:=YV f6
         have HF7:=YV f7
         clear f6 f7 hts hG hv7 hyy
         go_wp2_with fail
         go_roundg fl
         case rel=>exact⟨acc++[y],A7,c7,_,HNX.out y HYY.out,HF3.out,by simpa using HF7.out,HF5.out,HF0.out⟩
         case measure=>omega
      ·have hli:¬ (1000:Int)≤(acc.length:Int):=by omega
       have HSE:Hid (eqS acc.length Li=.ok () Li):=YV (by unfold eqS;rw[if_neg (fun h=>hl h.1)])
       go_upto_region 23 with fail
       clear e4 ez hli hl
       have HRA:Hid (RA g c ts b v0 0 (eqS acc.length Li) w21):=YV (by rw[HSE.out];exact HRT.out)
       have HV5:Hid (∀ q,(Value.slice Av acc.length cv).ownBlock=some q→B2≤q∧q<w21.heap.size):=YV (HOT.out.lt)
       refine Tame.wp_region_tamg (L:=Tame.Later) (M:=ME b p (Value.slice Av acc.length cv)) (gs:=jr g c ts b 0 p B2 (eqS acc.length Li) v0 w20 78 #[.string ⟨nm.toArray⟩,.slice A1 ins.length c1,.slice A2 outs.length c2,.slice A3 locals.length c3,.slice Av acc.length cv] RQ 80 6 acc (Value.slice Av acc.length cv)) [3,5,7] (by kernel_rfl) (by kernel_rfl) Tame.Later.refl (fun _ w=>World.grownBy.refl w _) (jk zH HRA.out HPT.out HOT.out HKT.out hbv hvp hpB hBx) ?_
       repeat
        ((first
         |(refine Tame.walk3_known (o:=⟨some 85,_,_,_,_,_⟩) (by kernel_rfl) (fun _=>rfl) ?_;apply Exists.intro;refine⟨fun vals w2 hG hd=>?_,?_⟩;(focus(have r:=(hG 1 _ rfl (by kernel_rfl):Row w2 p 78 #[.string ⟨nm.toArray⟩,.slice A1 ins.length c1,.slice A2 outs.length c2,.slice A3 locals.length c3,.slice Av acc.length cv]);have u4:=r.cell 4;clear hd hG r;simp at u4;go_simp;exact Tame.Is.mk (Tame.Later.refl _))))
         |(refine Tame.walk3_write (o:=⟨some 87,_,_,_,_,_⟩) (AftC g c ts b v0 0 re.unit (VQ B2 (Value.slice Av acc.length cv).ownBlock) (fun y=>∀ z L',re=.ok z L'→y=z)) (none) ([5,7]) (fun _=>rfl) (by kernel_rfl) (by kernel_rfl) (fun u a c hl h=>AftC.later vA h hl) (fun i _ hj u a c hs h=>AftC.turn vA hj hs h (fun q hq=>(HV5.out q hq).1) hbv hvp hpB) (fun vals w2 hG hd=>?_) ?_;(focus(have ha2:=(hG 0 _ rfl (by kernel_rfl):RA g c ts b v0 0 (eqS acc.length Li) w2);have hk2:=(hG 3 _ rfl (by kernel_rfl):Kp2 B2 b p w20 w2);have ho2:=(hG 2 _ rfl (by kernel_rfl):OwnW RQ 80 6 B2 acc (Value.slice Av acc.length cv) w2);have HC:=YV (HEQ.out w2 ha2.1);have HA9:=YV ha2;have hk3:=hk2.size;have HO2:=YV ho2;clear hd hG ha2 hk2 ho2;go_simp;refine HC.out.mono ?_;rintro e w' ⟨y,v,rfl,⟨E1,d1,E2,d2,rfl,k1,k2,k3⟩,g1,g2,g3⟩;exact⟨_,rfl,Tame.Leaves.mk g1 ⟨HA9.out.step g2 g1,y,g3,⟨E1,d1,E2,d2,rfl,k1.move (fun q hq=>⟨⟨by have:=hq.1;omega,hq.2,fun e=>by have:=(HO2.out.lt q e.symm).2;have:=hq.1;omega⟩,rfl⟩),k2.move (fun q hq=>⟨⟨by have:=hq.1;omega,hq.2,fun e=>by have:=(HO2.out.lt q e.symm).2;have:=hq.1;omega⟩,rfl⟩),k3⟩⟩⟩)))
         |(refine Tame.walk3_some (o:=⟨some 88,_,_,_,_,_⟩) (AftR (WQ B2 (Value.slice Av acc.length cv).ownBlock) (fun y=>∀ z L',re=.ok z L'→y=z)) (none) ([3,5,7]) (by kernel_rfl) (fun _=>rfl) (by kernel_rfl) (fun u a c hl h=>AftR.later (v:=(Value.slice Av acc.length cv)) vz h hl) (fun i _ hj u a c hs h=>AftR.turn vz hj hs h (by omega) hpB) (fun vals w2 hG hd=>?_) ?_;(focus(have h1:=(hd 3 _ rfl (by kernel_rfl) rfl:AftC g c ts b v0 0 re.unit (VQ B2 (Value.slice Av acc.length cv).ownBlock) (fun y=>∀ z L',re=.ok z L'→y=z) (vals 3) w2);have hk2:=(hG 3 _ rfl (by kernel_rfl):Kp2 B2 b p w20 w2);have hk3:=hk2.size;have ho2:=(hG 2 _ rfl (by kernel_rfl):OwnW RQ 80 6 B2 acc (Value.slice Av acc.length cv) w2);have HO2:=YV ho2;clear hG hd hk2 ho2;obtain⟨ha2,y,hyy,E1,d1,E2,d2,hv1,k1,k2,k3⟩:=h1;have HK1:=YV (⟨k1,k2,k3⟩:TS w2 (Sb B2 (Value.slice Av acc.length cv).ownBlock w2) E1 y.lhs∧KS w2 (Sb B2 (Value.slice Av acc.length cv).ownBlock w2) E2 y.rhs.ks∧y.lhs.length≤d1);clear k1 k2 k3;clear ha2;go_simp;exact Tame.Has.mk ((Below.refl _ _).alloc (Nat.le_refl _) _) ⟨y,hyy,yF HK1.out (by omega) (fun e=>by have:=(HO2.out.lt _ e.symm).2;omega)⟩)))
         |(refine Tame.walk3_write (o:=⟨some 89,_,_,_,_,_⟩) (AftS RQ 80 6 B2 acc (fun y=>∀ z L',re=.ok z L'→y=z)) (none) ([7]) (fun _=>rfl) (by kernel_rfl) (by kernel_rfl) (fun u a c hl h=>AftS.later zH h hl) (fun i _ hj u a c hs h=>by obtain rfl:=zZ hj;exact AftS.other (p:=p) zH h hs hpB) (fun vals w2 hG hd=>?_) ?_;(focus(have hk2:=(hG 3 _ rfl (by kernel_rfl):Kp2 B2 b p w20 w2);have hk3:=hk2.size;have h1:=(hd 4 _ rfl (by kernel_rfl) rfl:AftR (WQ B2 (Value.slice Av acc.length cv).ownBlock) (fun y=>∀ z L',re=.ok z L'→y=z) (vals 4) w2);have h2:=(hG 2 _ rfl (by kernel_rfl):OwnW RQ 80 6 B2 acc (Value.slice Av acc.length cv) w2);clear hG hd hk2;obtain⟨y,hyy,g1,E1,d1,E2,d2,hv1,hr1,k1,k2,k3,k4,k5⟩:=h1;obtain⟨cs,ho,hx⟩:=h2;exact zK (.tmp 85) (.tmp 88) _ rfl B2 80 i0 _ 6 88 Tryz.underlying76 HI0.out HI1.out HI2.out HI3.out rfl (by omega) (by omega) (Value.slice Av acc.length cv) _ cs rfl ho g1 1 80 (q6 y E1 d1 E2 d2).toList hv1 rfl (by simpa using hr1) (zH.one (w:=w2) (S:=Sb B2 (Value.slice Av acc.length cv).ownBlock w2) (x:=y) ⟨E1,d1,E2,d2,rfl,k1,k2,k3⟩) (by omega) (by omega) (fun v' w' ho' hgr hat=>⟨hgr,y,hyy,OwnW.snoc zH hx ho' hgr hat ⟨E1,d1,E2,d2,rfl,k1,k2,k3⟩⟩))))
         |(refine Tame.walk3_lays (o:=⟨none,Op.store _ _ _,_,_,_,_⟩) (fun vals w=>Row w p 78 #[.string ⟨nm.toArray⟩,.slice A1 ins.length c1,.slice A2 outs.length c2,.slice A3 locals.length c3,vals 5]) none ([]) ([5]) (fun _=>rfl) (by kernel_rfl) (by kernel_rfl) (by kernel_rfl) (fun vals vals' w hh h=>by rw[← hh 5 (by decide)];exact h) (fun vals w w' hl h=>Row.below h hl (Row.lt h)) (fun j hj hk=>by cases hk) (fun vals w2 hG hd=>?_) ?_;(focus(have h1:=(hd 5 _ rfl (by kernel_rfl) (by kernel_rfl):AftS RQ 80 6 B2 acc (fun y=>∀ z L',re=.ok z L'→y=z) (vals 5) w2);have hr:=(hG 1 _ rfl (by kernel_rfl):Row w2 p 78 #[.string ⟨nm.toArray⟩,.slice A1 ins.length c1,.slice A2 outs.length c2,.slice A3 locals.length c3,.slice Av acc.length cv]);clear hG hd;obtain⟨E1,d1,hv1⟩:=h1.slice;have HR1:=YV hr;have c4:=hr.cell 4;have f4:=hr.free 4;simp at c4;clear hr h1;go_simp;exact⟨zf (zd _ p) 4 _,by first | exact HR1.out.set 4 (.slice E1 (acc.length+1) d1)|(rw[hv1];exact HR1.out.set 4 (.slice E1 (acc.length+1) d1))⟩)))
         |(refine Tame.walk3_known (by kernel_rfl) (fun _=>rfl) ?_;apply Exists.intro;refine⟨fun vals w2 hG hd=>?_,?_⟩;(focus(go_simp;first | exact Tame.Is.mk (Tame.Later.refl _)|(rw[if_neg];(focus exact Tame.Is.mk (Tame.Later.refl _));omega)))))
         simp only[Act.put,List.setIfInBounds_toArray,List.set_cons_zero,List.set_cons_succ,List.nil_append,List.cons_append,List.length_cons,List.length_nil,Nat.zero_add,Nat.reduceAdd])
       refine Tame.walk3_end fun vals w5 hG hts=>?_
       have HF0:Hid (Kp2 B2 b p w20 w5):=YV (hG 3 _ rfl (by kernel_rfl))
       have HF3:Hid (RA g c ts b v0 0 re.unit w5):=YV ((hts 3 _ rfl rfl:AftC g c ts b v0 0 re.unit (VQ B2 (Value.slice Av acc.length cv).ownBlock) (fun y=>∀ z L',re=.ok z L'→y=z) (vals 3) w5).1)
       have f5:AftS RQ 80 6 B2 acc (fun y=>∀ z L',re=.ok z L'→y=z) (vals 5) w5:=hts 5 _ rfl rfl
       have f7:Row w5 p 78 #[.string ⟨nm.toArray⟩,.slice A1 ins.length c1,.slice A2 outs.length c2,.slice A3 locals.length c3,vals 5]:=hts 7 _ rfl rfl
       obtain⟨y,hyy,f6⟩:=f5
       obtain⟨A7,c7,hv7,_⟩:=f6.slice
       rw[hv7] at f6 f7
       have HYY:=YV hyy
       have HF5:=YV f6
       have HF7:=YV f7
       clear f6 f7 hts hG hv7 hyy
       go_wp2_with fail
       go_roundg fl
       case rel=>exact⟨acc++[y],A7,c7,_,HNX.out y HYY.out,HF3.out,by simpa using HF7.out,HF5.out,HF0.out⟩
       case measure=>omega
end Go.Proofs.YtdabndiaflagpaaGreatDoor
