/- Parts: PsX1, PsX2, PsX3, PsX4, PsX5, PsX6. -/
import Derived.Test.YtdabndiaflagpaaGreatDoorK15
import Derived.Deep.LoopGhost
set_option maxRecDepth 100000
set_option maxHeartbeats 4000000
namespace Go.Proofs.YtdabndiaflagpaaGreatDoor
open Go.RowKit
def nowK (σ:Pr Unit):Int:=match σ with | .ok _ L=>hdK L | .bad _ _=>0
def nowT (σ:Pr Unit):T:=match σ with | .ok _ L=>hdT L | .bad _ _=>[]
def nowN (σ:Pr Unit):Int:=match σ with | .ok _ L=>hdN L | .bad _ _=>0
def nowF (σ:Pr Unit):Nat:=match σ with | .ok _ L=>hdF L | .bad _ _=>0
def isS (s:T) (σ:Pr Unit):Bool:=match σ with | .ok _ L=>isP s L | .bad _ _=>false
def Pr.unit {α:Type} (r:Pr α):Pr Unit:=match r with | .ok _ L=>.ok () L | .bad c a=>.bad c a
def jR (σ:Pr Unit):Prop:=match σ with | .ok _ L=>WFt L | .bad c _=>c≠0
def keyB (s:T):Bool:=decide (s∈j5) || decide (s∈zJ)
theorem uw:∀ s,keyB s=true→s≠[]∧zB s=false∧¬ (∀ c∈s,dgt c=true):=by
 intro s h
 have hh:s∈j5∨s∈zJ:=by
  unfold keyB at h
  rcases Bool.or_eq_true _ _▸h with h | h
  ·exact .inl (of_decide_eq_true h)
  ·exact .inr (of_decide_eq_true h)
 rcases hh with h | h
 ·have h1:s≠[]∧¬ (∀ c∈s,dgt c=true):=by
   have:∀ s∈j5,s≠[]∧¬ (∀ c∈s,dgt c=true):=by decide
   exact this s h
  exact⟨h1.1,jc (fun hn=>hn.2.2.2 h),h1.2⟩
 ·have h1:s≠[]∧¬ (∀ c∈s,dgt c=true)∧s[0]?.map (fun c=>isL (c.toNat:Int))=some false:=by
   have:∀ s∈zJ,s≠[]∧¬ (∀ c∈s,dgt c=true)∧s[0]?.map (fun c=>isL (c.toNat:Int))=some false:=by decide
   exact this s h
  obtain⟨h1,h2,h3⟩:=h1
  refine⟨h1,jc (fun hn=>?_),h2⟩
  obtain⟨c,hc,hl⟩:=Option.map_eq_some_iff.1 h3
  rcases hn.1 0 c hc with e | ⟨e,_⟩
  ·rw[hl] at e;cases e
  ·omega
theorem isS_eq {s:T} {σ:Pr Unit} (hg:jR σ) (hs:keyB s=true):isS s σ=((nowK σ == 2 || nowK σ == 4) && decide (nowT σ=s)):=by
 obtain⟨k1,k2,k3⟩:=uw s hs
 cases σ with
 | bad c a=>simp[isS,nowK]
 | ok u L=>
  have hg:WFt L:=hg
  show isP s L=((hdK L == 2 || hdK L == 4) && decide (hdT L=s))
  unfold isP
  by_cases h:hdT L=s
  ·have ht:hdT L≠[]:=by rw[h];exact k1
   obtain⟨t,r,rfl,gt,_⟩:=hg.pass (.inl ht)
   have h:t.text=s:=h
   have hk:hdK (t::r)=t.kind:=rfl
   have e:hdT (t::r)=s:=h
   rw[hk,e]
   rcases gt.kind_ with e | e | e | e
   ·have:=gt.name_ e;rw[h,k2] at this;cases this
   ·rw[e];simp
   ·exact absurd (h▸gt.num_ e) k3
   ·rw[e];simp
  ·simp[h]
def zg (g c n:Nat) (i o k a:Int):Array Value:=#[.slice (some ⟨g,0,none⟩) n c,.int .i64 i,.int .i64 o,.int .i64 k,.int .i64 a]
def RsAt (ts:List Tk) (o:Nat) (σ:Pr Unit) (i op k a:Int):Prop:=
 match σ with
 | .ok _ L=>k=0∧a=0∧op=(o:Int)∧∃ j:Nat,i=(j:Int)∧L=ts.drop j
 | .bad c p=>k=c∧a=(p:Int)
structure Rs (g c:Nat) (ts:List Tk) (w:World) (b o:Nat) (σ:Pr Unit):Prop where
 row_:∃ i op k a:Int,Row w b 111 (zg g c ts.length i op k a)∧RsAt ts o σ i op k a
 good_:jR σ
 tk_:yE w g ts
 few_:ts.length≤1000000
 cap_:ts.length≤c
 open_:o≤400
 far_:g<b
theorem Rs.lt {g c:Nat} {ts:List Tk} {w:World} {b o:Nat} {σ:Pr Unit} (h:Rs g c ts w b o σ):b<w.heap.size:=by
 obtain⟨_,_,_,_,hr,_⟩:=h.row_
 exact hr.lt
theorem yE.same {w w':World} {g:Nat} {ts:List Tk} (h:yE w g ts) (hb:w'.heap[g]? = w.heap[g]?):yE w' g ts:=fun i t hi=>by
 obtain⟨h0,h1,h2,h3⟩:=h i t hi
 exact⟨(World.cell?_of_block hb).trans h0,(World.cell?_of_block hb).trans h1,(World.cell?_of_block hb).trans h2,(World.cell?_of_block hb).trans h3⟩
theorem Rs.grown {g c:Nat} {ts:List Tk} {w w':World} {b o:Nat} {σ:Pr Unit} {r:Option Nat} (h:Rs g c ts w b o σ) (hg:w.grownBy w' r) (hr:∀ q,r=some q→b<q):Rs g c ts w' b o σ:=by
 obtain⟨i,op,k,a,hrow,hat⟩:=h.row_
 have hlt:=h.lt
 exact⟨⟨i,op,k,a,hrow.grown hg (fun e=>by have:=hr b e.symm;omega),hat⟩,h.good_,h.tk_.same (hg.block g (by have:=h.far_;omega) (fun e=>by have:=hr g e.symm;have:=h.far_;omega)),h.few_,h.cap_,h.open_,h.far_⟩
theorem Rs.later {g c:Nat} {ts:List Tk} {w w':World} {b o:Nat} {σ:Pr Unit} (h:Rs g c ts w b o σ) (hb:Below w.heap.size w w'):Rs g c ts w' b o σ:=h.grown (zc hb none) (fun _ e=>by cases e)
theorem Rs.turn {g c:Nat} {ts:List Tk} {w w':World} {b o o':Nat} {σ σ':Pr Unit} {i op k a:Int} (h:Rs g c ts w b o σ) (hg:w.grownBy w' (some b)) (hr:Row w' b 111 (zg g c ts.length i op k a)) (ha:RsAt ts o' σ' i op k a) (hG:jR σ') (ho:o'≤400):Rs g c ts w' b o' σ':=
 ⟨⟨i,op,k,a,hr,ha⟩,hG,h.tk_.same (hg.block g (by have:=h.far_;have:=h.lt;omega) (fun e=>by injection e with e;have:=h.far_;omega)),h.few_,h.cap_,ho,h.far_⟩
def RRes {α:Type} (g c:Nat) (ts:List Tk) (b o:Nat) (w:World) (V:α→Value→World→Prop) (r:Pr α) (e:Ending) (w':World):Prop:=
 ∃ x v,e=.returned v∧V x v w'∧w.grownBy w' (some b)∧Rs g c ts w' b o r.unit∧∀ y L,r=.ok y L→x=y
theorem rNow (g c:Nat) (ts:List Tk) (b o:Nat) (σ:Pr Unit) (w:World) (h:Rs g c ts w b o σ) :
  Calls Tryz.prog 43 #[.pointer (some ⟨b,0,none⟩)] w fun e w'=>e=.returned (.agg #[.int .i64 (nowK σ),.string ⟨(nowT σ).toArray⟩,.int .i64 (nowN σ),.int .i64 (nowF σ:Int)])∧Below w.heap.size w w':=by
 obtain⟨i,op,k,a,hr,ha⟩:=h.row_
 have hlt:=h.lt
 have c0:=hr.cell 0
 have c1:=hr.cell 1
 have c3:=hr.cell 3
 simp[zg] at c0 c1 c3
 cases σ with
 | bad k' a'=>
  obtain⟨hk,_⟩:=ha
  have hk0:k≠0:=by rw[hk];exact h.good_
  show Calls _ _ _ _ fun e w'=>e=.returned (.agg #[.int .i64 0,.string ⟨#[]⟩,.int .i64 0,.int .i64 0])∧_
  clear h hr hk
  go_enter Tryz.func43,Tryz.ntmps43
  go_wp2_with fail
  refine bodyPost_ret (by simp[results,Tryz.results43,go_sem];rfl) rfl ?_
  exact⟨rfl,(Below.refl _ _).alloc (Nat.le_refl _) _⟩
 | ok u L=>
  obtain⟨hk,_,_,j,hj,hL⟩:=ha
  have hw:WFt L:=h.good_
  obtain⟨t,r,rfl⟩:=Jv hw
  have hjt:ts[j]? = some t:=by
   have:(ts.drop j)[0]? = some t:=by rw[← hL];rfl
   simpa using this
  have hjl:j<ts.length:=(List.getElem?_eq_some_iff.1 hjt).1
  obtain⟨d0,d1,d2,d3⟩:=h.tk_ j t hjt
  have hfew:=h.few_
  have hcap:=h.cap_
  have hfar:=h.far_
  show Calls _ _ _ _ fun e w'=>e=.returned (.agg #[.int .i64 t.kind,.string ⟨t.text.toArray⟩,.int .i64 t.n,.int .i64 (t.from_:Int)])∧_
  obtain⟨z0,hz0⟩:∃ z,z=t.kind:=⟨_,rfl⟩
  obtain⟨z1,hz1⟩:∃ z,z=t.text:=⟨_,rfl⟩
  obtain⟨z2,hz2⟩:∃ z,z=t.n:=⟨_,rfl⟩
  obtain⟨z3,hz3⟩:∃ z,z=(t.from_:Int):=⟨_,rfl⟩
  obtain⟨N,hN⟩:∃ N,N=ts.length:=⟨_,rfl⟩
  rw[← hz0] at d0 ⊢
  rw[← hz1] at d1 ⊢
  rw[← hz2] at d2 ⊢
  rw[← hz3] at d3 ⊢
  rw[← hN] at c0 hfew hcap hjl
  subst hk hj
  have hgw:g<w.heap.size:=by omega
  have hj1:(j:Int)<(N:Int):=by omega
  have hj0:(0:Int)≤(j:Int):=by omega
  clear hz0 hz1 hz2 hz3 hN h hr hL hjt hw
  go_enter Tryz.func43,Tryz.ntmps43
  go_upto_region 3 with fail
  go_region
  all_goals go_wp2_with fail
  refine bodyPost_ret (by simp[results,Tryz.results43,go_sem]) rfl ⟨rfl,((Below.refl _ _).alloc (Nat.le_refl _) _).drew⟩
end Go.Proofs.YtdabndiaflagpaaGreatDoor
namespace Go.Proofs.YtdabndiaflagpaaGreatDoor
open Go.RowKit
theorem rfld3 (a b c d:Value) (w:World):(Instr.field 113 (.agg #[a,b,c,d]) 3).run Tryz.prog w=.ok d w:=by kernel_rfl
theorem ZN (a b c d:Value) (w:World):(Instr.field 113 (.agg #[a,b,c,d]) 0).run Tryz.prog w=.ok a w:=by kernel_rfl
theorem rIs (g c:Nat) (ts:List Tk) (b o:Nat) (x:T) (σ:Pr Unit) (w:World) (h:Rs g c ts w b o σ) (hx:keyB x=true) :
  Calls Tryz.prog 44 #[.pointer (some ⟨b,0,none⟩),.string ⟨x.toArray⟩] w fun e w'=>e=.returned (.bool (isS x σ))∧Below w.heap.size w w':=by
 have HC:=YV (rNow g c ts b o σ w h)
 have HY:=YV (isS_eq h.good_ hx)
 obtain⟨K,hK⟩:∃ K,K=nowK σ:=⟨_,rfl⟩
 obtain⟨y,hy⟩:∃ y,y=nowT σ:=⟨_,rfl⟩
 obtain⟨N,hN⟩:∃ N,N=nowN σ:=⟨_,rfl⟩
 obtain⟨F,hF⟩:∃ F,F=nowF σ:=⟨_,rfl⟩
 rw[← hK,← hy,← hN,← hF] at HC
 rw[← hK,← hy] at HY
 obtain⟨R,hR⟩:∃ R,R=isS x σ:=⟨_,rfl⟩
 rw[← hR] at HY ⊢
 clear hK hy hN hF hR h hx
 by_cases h2:K=2
 ·subst h2
  have HZ:Hid (R=(y == x)):=YV (by rw[HY.out,Bool.eq_iff_iff];simp)
  clear HY
  go_enter Tryz.func44,Tryz.ntmps44
  go_wp2_with (go_at_call 43;refine HC.out.mono ?_;rintro e w1 ⟨rfl,hb⟩;have HB:=YV hb;clear hb HC)
  go_ret
  exact⟨by rw[HZ.out];rfl,HB.out.trans (((Below.refl _ _).alloc (Nat.le_refl _) _).mono HB.out.size)⟩
 ·by_cases h4:K=4
  ·subst h4
   have HZ:Hid (R=(y == x)):=YV (by rw[HY.out,Bool.eq_iff_iff];simp)
   clear HY
   go_enter Tryz.func44,Tryz.ntmps44
   go_wp2_with (go_at_call 43;refine HC.out.mono ?_;rintro e w1 ⟨rfl,hb⟩;have HB:=YV hb;clear hb HC)
   go_ret
   exact⟨by rw[HZ.out];rfl,HB.out.trans (((Below.refl _ _).alloc (Nat.le_refl _) _).mono HB.out.size)⟩
  ·have HZ:Hid (R=false):=YV (by rw[HY.out];simp[h2,h4])
   clear HY
   go_enter Tryz.func44,Tryz.ntmps44
   go_wp2_with (go_at_call 43;refine HC.out.mono ?_;rintro e w1 ⟨rfl,hb⟩;have HB:=YV hb;clear hb HC)
   go_ret
   exact⟨by rw[HZ.out];rfl,HB.out.trans (((Below.refl _ _).alloc (Nat.le_refl _) _).mono HB.out.size)⟩
theorem rGive (g c:Nat) (ts:List Tk) (b o:Nat) (code:Int) (p:Nat) (σ:Pr Unit) (w:World) (h:Rs g c ts w b o σ) (hc:code≠0) :
  Calls Tryz.prog 82 #[.pointer (some ⟨b,0,none⟩),.int .i64 code,.int .i64 (p:Int)] w (RRes g c ts b o w NoV (σ.bind fun _ _=>(.bad code p:Pr Unit))):=by
 obtain⟨i,op,k,a,hr,ha⟩:=h.row_
 have hlt:=h.lt
 have c3:=hr.cell 3
 have c4:=hr.cell 4
 have f3:=hr.free 3
 have f4:=hr.free 4
 simp[zg] at c3 c4
 have HH:=YV h
 have HR:=YV hr
 obtain⟨q,hq⟩:∃ q:Int,q=(p:Int):=⟨_,rfl⟩
 have HQ:=YV hq
 rw[← hq]
 cases σ with
 | bad k' a'=>
  obtain⟨hk,haa⟩:=ha
  have hk0:k≠0:=by rw[hk];exact h.good_
  clear h hr hk haa hq hc
  go_enter Tryz.func82,Tryz.ntmps82
  go_wp2_with fail
  refine bodyPost_end (results_none rfl _ _ _) rfl ⟨(),_,rfl,rfl,World.grownBy.refl _ _,HH.out,fun y L e=>by cases e⟩
 | ok u L=>
  obtain⟨hk,haa,hop,j,hj,hL⟩:=ha
  subst hk haa
  have HC:=YV hc
  clear h hr hq hop hj hL hc
  go_enter Tryz.func82,Tryz.ntmps82
  go_wp2_with fail
  refine bodyPost_end (results_none rfl _ _ _) rfl ⟨(),_,rfl,rfl,zf (zf (zd _ b) 3 _) 4 _,?_,fun y L e=>by cases e⟩
  exact HH.out.turn (i:=i) (op:=op) (k:=code) (a:=q) (zf (zf (zd _ b) 3 _) 4 _) (by simpa [zg] using (HR.out.set 3 (.int .i64 code)).set 4 (.int .i64 q)) ⟨rfl,HQ.out⟩ HC.out HH.out.open_
theorem u9 (g c:Nat) (ts:List Tk) (b o:Nat) (code:Int) (σ:Pr Unit) (w:World) (h:Rs g c ts w b o σ) (hc:code≠0) :
  Calls Tryz.prog 45 #[.pointer (some ⟨b,0,none⟩),.int .i64 code] w (RRes g c ts b o w NoV (σ.bind fun _ L=>(zC code L:Pr Unit))):=by
 have HC:=YV (rNow g c ts b o σ w h)
 obtain⟨F,hF⟩:∃ F,F=nowF σ:=⟨_,rfl⟩
 have HG:Hid (∀ w1,Below w.heap.size w w1→_):=YV fun w1 hb=>rGive g c ts b o code F σ w1 (h.later hb) hc
 have hR:(σ.bind fun _ L=>(zC code L:Pr Unit))=σ.bind fun _ _=>(.bad code F:Pr Unit):=by rw[hF];cases σ <;> rfl
 rw[hR]
 obtain⟨R,hR2⟩:∃ R,R=σ.bind fun _ _=>(.bad code F:Pr Unit):=⟨_,rfl⟩
 rw[← hR2] at HG ⊢
 rw[← hF] at HC
 have hfl:=rfld3
 clear h hF hR hR2
 go_enter Tryz.func45,Tryz.ntmps45
 go_wp2_with (first|(go_at_call 43;refine HC.out.mono ?_;rintro e w1 ⟨rfl,hb⟩;have HB:=YV hb;clear hb HC)|(go_at_call 82;refine(HG.out _ HB.out).mono ?_;rintro e w2 ⟨x,v,rfl,hv,g1,g2,g3⟩;obtain rfl:v=.tuple #[]:=hv;have HG1:=YV g1;have HG2:=YV g2;clear g1 g2 g3 HG))
 refine bodyPost_end (results_none rfl _ _ _) rfl ⟨x,_,rfl,rfl,za (zb HB.out b) HG1.out,HG2.out,fun _ _ _=>rfl⟩
theorem Rs.pass {g c:Nat} {ts:List Tk} {w w':World} {b o:Nat} {L:List Tk} {op k a:Int} {j:Nat} (h:Rs g c ts w b o (.ok () L)) (hL:L=ts.drop j) (hw:WFt L.tail) (ho:op=(o:Int)) (hk:k=0) (ha:a=0) (hg:w.grownBy w' (some b)) (hr:Row w' b 111 (zg g c ts.length (((j+1:Nat)):Int) op k a)):Rs g c ts w' b o (.ok () L.tail):=
 h.turn hg hr ⟨hk,ha,ho,j+1,rfl,by rw[hL,List.tail_drop]⟩ hw h.open_
theorem Rs.small {g c:Nat} {ts:List Tk} {w:World} {b o:Nat} {L:List Tk} {j:Nat} (h:Rs g c ts w b o (.ok () L)) (hL:L=ts.drop j):j<1000000:=by
 have hw:WFt L:=h.good_
 have hf:=h.few_
 rcases Nat.lt_or_ge j ts.length with e | e
 ·omega
 ·rw[hL,List.drop_eq_nil_of_le e] at hw;exact hw.elim
theorem jJ (g c:Nat) (ts:List Tk) (b o:Nat) (x:T) (σ:Pr Unit) (w:World) (h:Rs g c ts w b o σ) (hx:keyB x=true) :
  Calls Tryz.prog 83 #[.pointer (some ⟨b,0,none⟩),.string ⟨x.toArray⟩] w (RRes g c ts b o w NoV (σ.bind fun _ L=>ze x L)):=by
 have HI:=YV (rIs g c ts b o x σ w h hx)
 have HF:Hid (∀ w1,Below w.heap.size w w1→_):=YV fun w1 hb=>u9 g c ts b o 2 σ w1 (h.later hb) (by decide)
 have hne:=(uw x hx).1
 obtain⟨R,hR⟩:∃ R,R=isS x σ:=⟨_,rfl⟩
 rw[← hR] at HI
 cases R with
 | true=>
  cases σ with
  | bad k a=>cases hR
  | ok u L=>
   have hp:isP x L=true:=hR.symm
   have hw:=zI h.good_ hp hne
   obtain⟨i,op,k,a,hr,ha1,ha2,ha3,j,hj,hL⟩:=h.row_
   have hj1:=h.small hL
   have hE:(Pr.ok u L).bind (fun _ L=>ze x L)=.ok () L.tail:=by show ze x L=_;unfold ze;rw[if_pos hp]
   rw[hE]
   subst hj
   have HH:=YV h
   have HR:=YV hr
   have HL:=YV hL
   have HW:=YV hw.1
   have HA:=YV (And.intro ha1 (And.intro ha2 ha3))
   clear h hr hL hw hp hR hE ha1 ha2 ha3 HF hx hne
   go_enter Tryz.func83,Tryz.ntmps83
   go_wp2_with (go_at_call 44;refine HI.out.mono ?_;rintro e w1 ⟨rfl,hb⟩;have HB:=YV hb;have hr1:=HR.out.below hb HR.out.lt;have HR1:=YV hr1;have c1:=hr1.cell 1;have f1:=hr1.free 1;simp[zg] at c1;clear hb hr1 HI)
   refine bodyPost_end (results_none rfl _ _ _) rfl ⟨(),_,rfl,rfl,za (zb HB.out b) (zf (zd w1 b) 1 _),?_,fun _ _ _=>rfl⟩
   exact HH.out.pass HL.out HW.out HA.out.2.2 HA.out.1 HA.out.2.1 (za (zb HB.out b) (zf (zd w1 b) 1 _)) (by simpa [zg] using HR1.out.set 1 (.int .i64 ((j:Int)+1)))
 | false=>
  have hE:(σ.bind fun _ L=>ze x L)=σ.bind fun _ L=>(zC 2 L:Pr Unit):=by
   cases σ with
   | bad k a=>rfl
   | ok u L=>
    have hp:isP x L=false:=hR.symm
    show ze x L=_
    unfold ze
    rw[if_neg (by rw[hp];decide)];rfl
  rw[hE]
  obtain⟨k,p,hB⟩:∃ k p,(σ.bind fun _ L=>(zC 2 L:Pr Unit))=.bad k p:=by cases σ <;> exact⟨_,_,rfl⟩
  rw[hB] at HF ⊢
  clear h hR hE hB hx hne
  go_enter Tryz.func83,Tryz.ntmps83
  go_wp2_with (first|(go_at_call 44;refine HI.out.mono ?_;rintro e w1 ⟨rfl,hb⟩;have HB:=YV hb;clear hb HI)|(go_at_call 45;refine(HF.out _ HB.out).mono ?_;rintro e w2 ⟨x,v,rfl,hv,g1,g2,_⟩;obtain rfl:v=.tuple #[]:=hv;have HG1:=YV g1;have HG2:=YV g2;obtain⟨i2,op2,k2,a2,hr2,ha2⟩:=g2.row_;have HR2:=YV hr2;have HA2:=YV ha2;have c1:=hr2.cell 1;have f1:=hr2.free 1;simp[zg] at c1;clear g1 g2 hr2 ha2 HF))
  refine bodyPost_end (results_none rfl _ _ _) rfl ⟨(),_,rfl,rfl,za (zb HB.out b) (za HG1.out (zf (zd w2 b) 1 _)),?_,fun _ _ _=>rfl⟩
  have hg:=zf (zd w2 b) 1 (.int .i64 (wrap64 (i2+1)))
  have hr:=HR2.out.set 1 (.int .i64 (wrap64 (i2+1)))
  exact HG2.out.turn (o':=o) (σ':=.bad k p) (i:=wrap64 (i2+1)) (op:=op2) (k:=k2) (a:=a2) hg (by simpa [zg] using hr) HA2.out HG2.out.good_ HG2.out.open_
theorem Rs.bump {g c:Nat} {ts:List Tk} {w:World} {b o:Nat} {k:Int} {p:Nat} {i op k' a:Int} (h:Rs g c ts w b o (.bad k p)) (hr:Row w b 111 (zg g c ts.length i op k' a)) (ha:RsAt ts o (.bad k p) i op k' a) (i':Int):Rs g c ts (w.setCell ⟨b,1,none⟩ (.int .i64 i')) b o (.bad k p):=
 h.turn (i:=i') (op:=op) (k:=k') (a:=a) (zf (zd w b) 1 (.int .i64 i')) (by simpa [zg] using hr.set 1 (.int .i64 i')) ha h.good_ h.open_
theorem u7 (g c:Nat) (ts:List Tk) (b o n:Nat) (σ:Pr Unit) (w:World) (h:Rs g c ts w b o σ) (hn:n≤1000000) :
  Calls Tryz.prog 84 #[.pointer (some ⟨b,0,none⟩),.int .i64 (n:Int)] w (RRes g c ts b o w (fun (x:T) v _=>v=.string ⟨x.toArray⟩) (σ.bind fun _ L=>zh n L)):=by
 have HN:=YV (rNow g c ts b o σ w h)
 have hlt:=h.lt
 obtain⟨K,hK⟩:∃ K,K=nowK σ:=⟨_,rfl⟩
 obtain⟨y,hy⟩:∃ y,y=nowT σ:=⟨_,rfl⟩
 obtain⟨N,hN⟩:∃ N,N=nowN σ:=⟨_,rfl⟩
 obtain⟨F,hF⟩:∃ F,F=nowF σ:=⟨_,rfl⟩
 rw[← hK,← hy,← hN,← hF] at HN
 by_cases hk:K=1
 ·subst hk
  cases σ with
  | bad k a=>exact absurd hK (by show ¬ (1:Int)=0;decide)
  | ok u L=>
   have hk1:hdK L=1:=hK.symm
   have hw:=j4 h.good_ hk1 (by decide)
   have hy1:y=hdT L:=hy
   by_cases hf:1000≤n
   ·have hE:(Pr.ok u L).bind (fun _ L=>zh n L)=.bad 4 (hdF L):=by show zh n L=_;unfold zh;rw[if_pos hk1,if_pos hf];rfl
    rw[hE]
    have hge:(1000:Int)≤(n:Int):=by omega
    have HX:Hid (∀ w1,Below w.heap.size w w1→_):=YV fun w1 hb=>u9 g c ts b o 4 (.ok u L) w1 (h.later hb) (by decide)
    clear h hK hk1 hy hy1 hN hF hw hE
    go_enter Tryz.func84,Tryz.ntmps84
    go_upto_region 2 with (go_at_call 43;refine HN.out.mono ?_;rintro e w1 ⟨rfl,hb⟩;have HB:=YV hb;have hbq:=Nat.lt_of_lt_of_le hlt hb.size;clear hb HN)
    have HV:Hid (Below w.heap.size w (w1.alloc (.cells #[.int .i64 1,.string ⟨y.toArray⟩,.int .i64 N,.int .i64 (F:Int)] 113))):=YV (HB.out.trans (((Below.refl _ _).alloc (Nat.le_refl _) _).mono HB.out.size))
    have HBX:Hid (Row (w1.alloc (.cells #[.int .i64 1,.string ⟨y.toArray⟩,.int .i64 N,.int .i64 (F:Int)] 113)) w1.heap.size 113 #[.int .i64 1,.string ⟨y.toArray⟩,.int .i64 N,.int .i64 (F:Int)]):=YV (Row.made _ _ _)
    obtain⟨q,hq⟩:∃ q,q=w1.heap.size:=⟨_,rfl⟩
    generalize w1.alloc (.cells #[.int .i64 1,.string ⟨y.toArray⟩,.int .i64 N,.int .i64 (F:Int)] 113)=v1 at HV HBX ⊢
    rw[← hq] at HBX hbq ⊢
    clear hq HB
    have c5:=HBX.out.cell 1
    have c6:=HBX.out.cell 0
    have lq:=HBX.out.lt
    simp at c5 c6
    go_wp2_with (go_at_call 45;refine(HX.out _ HV.out).mono ?_;rintro e w2 ⟨x2,v,rfl,hv,g1,g2,_⟩;obtain rfl:v=.tuple #[]:=hv;have HG2:=YV g1;have HS2:=YV g2;have HBX2:=YV (HBX.out.grown g1 (fun e=>by injection e with e;omega));obtain⟨i2,op2,k2,a2,hr2,ha2⟩:=g2.row_;have HR2:=YV hr2;have HA2:=YV ha2;have c1:=hr2.cell 1;have f1:=hr2.free 1;have c5':=HBX2.out.cell 1;have lq':=HBX2.out.lt;simp[zg] at c1;simp at c5';clear g1 g2 hr2 ha2 HX)
    go_ret
    refine⟨y,_,rfl,rfl,za (zb HV.out b) (za HG2.out (zf (zd w2 b) 1 _)),?_,fun y' L' e=>by cases e⟩
    exact HS2.out.bump HR2.out HA2.out _
   ·have hE:(Pr.ok u L).bind (fun _ L=>zh n L)=.ok (hdT L) L.tail:=by show zh n L=_;unfold zh;rw[if_pos hk1,if_neg hf]
    rw[hE,← hy1]
    have hge:¬ (1000:Int)≤(n:Int):=by omega
    obtain⟨i,op,k,a,hr,ha1,ha2,ha3,j,hj,hL⟩:=h.row_
    have hj1:=h.small hL
    subst hj
    have HH:=YV h
    have HR:=YV hr
    have HL:=YV hL
    have HW:=YV hw.1
    have HA:=YV (And.intro ha1 (And.intro ha2 ha3))
    clear h hr hL hw hK hk1 hy hy1 hN hF hE ha1 ha2 ha3
    go_enter Tryz.func84,Tryz.ntmps84
    go_upto_region 2 with (go_at_call 43;refine HN.out.mono ?_;rintro e w1 ⟨rfl,hb⟩;have HB:=YV hb;have hbq:=Nat.lt_of_lt_of_le hlt hb.size;clear hb HN)
    have HV:Hid (Below w.heap.size w (w1.alloc (.cells #[.int .i64 1,.string ⟨y.toArray⟩,.int .i64 N,.int .i64 (F:Int)] 113))):=YV (HB.out.trans (((Below.refl _ _).alloc (Nat.le_refl _) _).mono HB.out.size))
    have HBX:Hid (Row (w1.alloc (.cells #[.int .i64 1,.string ⟨y.toArray⟩,.int .i64 N,.int .i64 (F:Int)] 113)) w1.heap.size 113 #[.int .i64 1,.string ⟨y.toArray⟩,.int .i64 N,.int .i64 (F:Int)]):=YV (Row.made _ _ _)
    obtain⟨q,hq⟩:∃ q,q=w1.heap.size:=⟨_,rfl⟩
    generalize w1.alloc (.cells #[.int .i64 1,.string ⟨y.toArray⟩,.int .i64 N,.int .i64 (F:Int)] 113)=v1 at HV HBX ⊢
    rw[← hq] at HBX hbq ⊢
    clear hq HB
    have c5:=HBX.out.cell 1
    have c6:=HBX.out.cell 0
    have lq:=HBX.out.lt
    simp at c5 c6
    have hr1:=HR.out.below HV.out HR.out.lt
    have HR1:=YV hr1
    have c1:=hr1.cell 1
    have f1:=hr1.free 1
    simp[zg] at c1
    clear hr1
    go_wp2_with fail
    go_ret
    refine⟨y,_,rfl,rfl,za (zb HV.out b) (zf (zd v1 b) 1 _),?_,fun y' L' e=>by injection e⟩
    exact HH.out.pass HL.out HW.out HA.out.2.2 HA.out.1 HA.out.2.1 (za (zb HV.out b) (zf (zd v1 b) 1 _)) (by simpa [zg] using HR1.out.set 1 (.int .i64 ((j:Int)+1)))
 ·have hE:(σ.bind fun _ L=>zh n L)=σ.bind fun _ L=>(zC 2 L:Pr T):=by
   cases σ with
   | bad k a=>rfl
   | ok u L=>
    show zh n L=_
    unfold zh
    rw[if_neg (fun e=>hk (by rw[hK];exact e))];rfl
  rw[hE]
  obtain⟨k,p,hB,hB2⟩:∃ k p,(σ.bind fun _ L=>(zC 2 L:Pr T))=.bad k p∧(σ.bind fun _ L=>(zC 2 L:Pr Unit))=.bad k p:=by cases σ <;> exact⟨_,_,rfl,rfl⟩
  rw[hB]
  have HX:Hid (∀ w1,Below w.heap.size w w1→Calls Tryz.prog 45 #[.pointer (some ⟨b,0,none⟩),.int .i64 2] w1 (RRes g c ts b o w1 NoV (.bad k p:Pr Unit))):=YV fun w1 hb=>by rw[← hB2];exact u9 g c ts b o 2 σ w1 (h.later hb) (by decide)
  clear h hK hy hN hF hE hB hB2
  by_cases hf:1000≤n
  ·have hge:(1000:Int)≤(n:Int):=by omega
   have HX2:Hid (∀ w1,Rs g c ts w1 b o (.bad k p)→Calls Tryz.prog 45 #[.pointer (some ⟨b,0,none⟩),.int .i64 4] w1 (RRes g c ts b o w1 NoV (.bad k p:Pr Unit))):=YV fun w1 hb=>u9 g c ts b o 4 (.bad k p) w1 hb (by decide)
   go_enter Tryz.func84,Tryz.ntmps84
   go_upto_region 2 with (go_at_call 43;refine HN.out.mono ?_;rintro e w1 ⟨rfl,hb⟩;have HB:=YV hb;have hbq:=Nat.lt_of_lt_of_le hlt hb.size;clear hb HN)
   have HV:Hid (Below w.heap.size w (w1.alloc (.cells #[.int .i64 K,.string ⟨y.toArray⟩,.int .i64 N,.int .i64 (F:Int)] 113))):=YV (HB.out.trans (((Below.refl _ _).alloc (Nat.le_refl _) _).mono HB.out.size))
   have HBX:Hid (Row (w1.alloc (.cells #[.int .i64 K,.string ⟨y.toArray⟩,.int .i64 N,.int .i64 (F:Int)] 113)) w1.heap.size 113 #[.int .i64 K,.string ⟨y.toArray⟩,.int .i64 N,.int .i64 (F:Int)]):=YV (Row.made _ _ _)
   obtain⟨q,hq⟩:∃ q,q=w1.heap.size:=⟨_,rfl⟩
   generalize w1.alloc (.cells #[.int .i64 K,.string ⟨y.toArray⟩,.int .i64 N,.int .i64 (F:Int)] 113)=v1 at HV HBX ⊢
   rw[← hq] at HBX hbq ⊢
   clear hq HB
   have c5:=HBX.out.cell 1
   have c6:=HBX.out.cell 0
   have lq:=HBX.out.lt
   simp at c5 c6
   go_upto_region 4 with (go_at_call 45;refine(HX.out _ HV.out).mono ?_;rintro e w2 ⟨x2,v,rfl,hv,g1,g2,_⟩;obtain rfl:v=.tuple #[]:=hv;have HG2:=YV g1;have HS2:=YV g2;have HBX2:=YV (HBX.out.grown g1 (fun e=>by injection e with e;omega));obtain⟨i2,op2,k2,a2,hr2,ha2⟩:=g2.row_;have HR2:=YV hr2;have HA2:=YV ha2;have c1:=hr2.cell 1;have f1:=hr2.free 1;have c5':=HBX2.out.cell 1;have lq':=HBX2.out.lt;simp[zg] at c1;simp at c5';clear g1 g2 hr2 ha2 HX)
   clear c1 f1 c5' lq' HR2 HA2
   go_wp2_with (go_at_call 45;refine(HX2.out _ HS2.out).mono ?_;rintro e w3 ⟨x3,v,rfl,hv,g1,g2,_⟩;obtain rfl:v=.tuple #[]:=hv;have HG3:=YV g1;have HS3:=YV g2;have HBX3:=YV (HBX2.out.grown g1 (fun e=>by injection e with e;omega));obtain⟨i2,op2,k2,a2,hr2,ha2⟩:=g2.row_;have HR2:=YV hr2;have HA2:=YV ha2;have c1:=hr2.cell 1;have f1:=hr2.free 1;have c5':=HBX3.out.cell 1;have lq':=HBX3.out.lt;simp[zg] at c1;simp at c5';clear g1 g2 hr2 ha2 HX2)
   go_ret
   refine⟨y,_,rfl,rfl,za (zb HV.out b) (za HG2.out (za HG3.out (zf (zd w3 b) 1 _))),?_,fun y' L' e=>by cases e⟩
   exact HS3.out.bump HR2.out HA2.out _
  ·have hge:¬ (1000:Int)≤(n:Int):=by omega
   go_enter Tryz.func84,Tryz.ntmps84
   go_upto_region 2 with (go_at_call 43;refine HN.out.mono ?_;rintro e w1 ⟨rfl,hb⟩;have HB:=YV hb;have hbq:=Nat.lt_of_lt_of_le hlt hb.size;clear hb HN)
   have HV:Hid (Below w.heap.size w (w1.alloc (.cells #[.int .i64 K,.string ⟨y.toArray⟩,.int .i64 N,.int .i64 (F:Int)] 113))):=YV (HB.out.trans (((Below.refl _ _).alloc (Nat.le_refl _) _).mono HB.out.size))
   have HBX:Hid (Row (w1.alloc (.cells #[.int .i64 K,.string ⟨y.toArray⟩,.int .i64 N,.int .i64 (F:Int)] 113)) w1.heap.size 113 #[.int .i64 K,.string ⟨y.toArray⟩,.int .i64 N,.int .i64 (F:Int)]):=YV (Row.made _ _ _)
   obtain⟨q,hq⟩:∃ q,q=w1.heap.size:=⟨_,rfl⟩
   generalize w1.alloc (.cells #[.int .i64 K,.string ⟨y.toArray⟩,.int .i64 N,.int .i64 (F:Int)] 113)=v1 at HV HBX ⊢
   rw[← hq] at HBX hbq ⊢
   clear hq HB
   have c5:=HBX.out.cell 1
   have c6:=HBX.out.cell 0
   have lq:=HBX.out.lt
   simp at c5 c6
   go_wp2_with (go_at_call 45;refine(HX.out _ HV.out).mono ?_;rintro e w2 ⟨x2,v,rfl,hv,g1,g2,_⟩;obtain rfl:v=.tuple #[]:=hv;have HG2:=YV g1;have HS2:=YV g2;have HBX2:=YV (HBX.out.grown g1 (fun e=>by injection e with e;omega));obtain⟨i2,op2,k2,a2,hr2,ha2⟩:=g2.row_;have HR2:=YV hr2;have HA2:=YV ha2;have c1:=hr2.cell 1;have f1:=hr2.free 1;have c5':=HBX2.out.cell 1;have lq':=HBX2.out.lt;simp[zg] at c1;simp at c5';clear g1 g2 hr2 ha2 HX)
   go_ret
   refine⟨y,_,rfl,rfl,za (zb HV.out b) (za HG2.out (zf (zd w2 b) 1 _)),?_,fun y' L' e=>by cases e⟩
   exact HS2.out.bump HR2.out HA2.out _
end Go.Proofs.YtdabndiaflagpaaGreatDoor
namespace Go.Proofs.YtdabndiaflagpaaGreatDoor
open Go.RowKit
def more (o:Nat):Nat:=if o<400 then o+1 else o
theorem more_le {o:Nat} (h:o≤400):more o≤400:=by unfold more;split <;> omega
theorem Rs.gone {g c:Nat} {ts:List Tk} {w:World} {b o o':Nat} {k:Int} {p:Nat} (h:Rs g c ts w b o (.bad k p)) (ho:o'≤400):Rs g c ts w b o' (.bad k p):=
 ⟨h.row_,h.good_,h.tk_,h.few_,h.cap_,ho,h.far_⟩
theorem Rs.bump2 {g c:Nat} {ts:List Tk} {w:World} {b o:Nat} {k:Int} {p:Nat} {i op k' a:Int} (h:Rs g c ts w b o (.bad k p)) (hr:Row w b 111 (zg g c ts.length i op k' a)) (ha:RsAt ts o (.bad k p) i op k' a) (op':Int):Rs g c ts (w.setCell ⟨b,2,none⟩ (.int .i64 op')) b o (.bad k p):=
 h.turn (i:=i) (op:=op') (k:=k') (a:=a) (zf (zd w b) 2 (.int .i64 op')) (by simpa [zg] using hr.set 2 (.int .i64 op')) ha h.good_ h.open_
def jP (o:Nat) (σ:Pr Unit):Pr Unit:=σ.bind fun _ L=>if 400≤o then zC 5 L else .ok () L
theorem qg (g c:Nat) (ts:List Tk) (b o:Nat) (σ:Pr Unit) (w:World) (h:Rs g c ts w b o σ) :
  Calls Tryz.prog 145 #[.pointer (some ⟨b,0,none⟩)] w fun e w'=>e=.returned (.tuple #[])∧w.grownBy w' (some b)∧Rs g c ts w' b (more o) (jP o σ):=by
 obtain⟨i,op,k,a,hr,ha⟩:=h.row_
 have hlt:=h.lt
 have hom:=more_le h.open_
 have HF:Hid (∀ w1,Below w.heap.size w w1→_):=YV fun w1 hb=>u9 g c ts b o 5 σ w1 (h.later hb) (by decide)
 have c2:=hr.cell 2
 have f2:=hr.free 2
 simp[zg] at c2
 have HH:=YV h
 have HR:=YV hr
 have HM:=YV hom
 cases σ with
 | bad k' a'=>
  have HA:=YV ha
  by_cases hop:400≤op
  ·clear h hr ha hom
   go_enter Tryz.func145,Tryz.ntmps145
   go_wp2_with (go_at_call 45;refine(HF.out _ (Below.refl _ _)).mono ?_;rintro e w2 ⟨x2,v,rfl,hv,g1,g2,_⟩;obtain rfl:v=.tuple #[]:=hv;have HG2:=YV g1;have HS2:=YV g2;obtain⟨i2,op2,k2,a2,hr2,ha2⟩:=g2.row_;have HR2:=YV hr2;have HA2:=YV ha2;have c2':=hr2.cell 2;have f2':=hr2.free 2;simp[zg] at c2';clear g1 g2 hr2 ha2 HF)
   refine bodyPost_end (results_none rfl _ _ _) rfl ⟨rfl,za HG2.out (zf (zd w2 b) 2 _),?_⟩
   exact(HS2.out.bump2 HR2.out HA2.out _).gone HM.out
  ·clear h hr ha hom HF
   go_enter Tryz.func145,Tryz.ntmps145
   go_wp2_with fail
   refine bodyPost_end (results_none rfl _ _ _) rfl ⟨rfl,zf (zd w b) 2 _,?_⟩
   exact(HH.out.bump2 HR.out HA.out _).gone HM.out
 | ok u L=>
  obtain⟨hk,haa,hopo,j,hj,hL⟩:=ha
  subst hk haa
  by_cases hop:400≤o
  ·have hge:(400:Int)≤op:=by omega
   have hE:jP o (.ok u L)=.bad 5 (hdF L):=by show (if 400≤o then (zC 5 L:Pr Unit) else .ok () L)=_;rw[if_pos hop];rfl
   rw[hE]
   clear h hr hom hE hop hopo hj hL
   go_enter Tryz.func145,Tryz.ntmps145
   go_wp2_with (go_at_call 45;refine(HF.out _ (Below.refl _ _)).mono ?_;rintro e w2 ⟨x2,v,rfl,hv,g1,g2,_⟩;obtain rfl:v=.tuple #[]:=hv;have HG2:=YV g1;have HS2:=YV g2;obtain⟨i2,op2,k2,a2,hr2,ha2⟩:=g2.row_;have HR2:=YV hr2;have HA2:=YV ha2;have c2':=hr2.cell 2;have f2':=hr2.free 2;simp[zg] at c2';clear g1 g2 hr2 ha2 HF)
   refine bodyPost_end (results_none rfl _ _ _) rfl ⟨rfl,za HG2.out (zf (zd w2 b) 2 _),?_⟩
   exact(HS2.out.bump2 HR2.out HA2.out _).gone HM.out
  ·have hge:¬ (400:Int)≤op:=by omega
   have hE:jP o (.ok u L)=.ok () L:=by show (if 400≤o then (zC 5 L:Pr Unit) else .ok () L)=_;rw[if_neg hop]
   rw[hE]
   have hm:more o=o+1:=by unfold more;rw[if_pos (by omega)]
   have HX:=YV (And.intro hopo (And.intro hj (And.intro hL hm)))
   have hb1:op<1000000:=by omega
   have hb2:0≤op:=by omega
   clear h hr hom hE hop hj hL hopo hm HF
   go_enter Tryz.func145,Tryz.ntmps145
   go_wp2_with fail
   refine bodyPost_end (results_none rfl _ _ _) rfl ⟨rfl,zf (zd w b) 2 _,?_⟩
   exact HH.out.turn (i:=i) (op:=op+1) (k:=0) (a:=0) (zf (zd w b) 2 _) (by simpa [zg] using HR.out.set 2 (.int .i64 (op+1))) ⟨rfl,rfl,by rw[HX.out.2.2.2,HX.out.1];omega,j,HX.out.2.1,HX.out.2.2.1⟩ HH.out.good_ HM.out
end Go.Proofs.YtdabndiaflagpaaGreatDoor
namespace Go.Proofs.YtdabndiaflagpaaGreatDoor
open Go.RowKit
theorem zo:(Tryz.prog.info? 52).map (·.size)=some 5:=by kernel_rfl
def z5:Array Value:=#[.int .i64 0,.int .i64 0,.int .i64 0,.string ⟨#[]⟩,.slice none 0 0]
theorem z5_one:z5.all (·.oneCell')=true:=by simp[z5,Value.oneCell']
def yQ:Value:=.agg #[.int .i64 0,.int .i64 0,.int .i64 0,.string ⟨#[]⟩,.slice none 0 0]
theorem qH (g c:Nat) (ts:List Tk) (b o:Nat) (k:Int) (p:Nat) (n:Int) (w:World) (h:Rs g c ts w b o (.bad k p)) :
  Calls Tryz.prog 144 #[.pointer (some ⟨b,0,none⟩),.int .i64 n] w fun e w'=>e=.returned yQ∧Below w.heap.size w w':=by
 obtain⟨i,op,k',a,hr,ha⟩:=h.row_
 have hlt:=h.lt
 have c3:=hr.cell 3
 simp[zg] at c3
 have hk0:k'≠0:=by rw[ha.1];exact h.good_
 unfold yQ
 clear h hr ha
 go_enter Tryz.func144,Tryz.ntmps144
 go_wp2_with fail
 refine bodyPost_ret (by simp[results,Tryz.results144,go_sem];rfl) rfl ?_
 exact⟨rfl,(Below.refl _ _).alloc (Nat.le_refl _) _⟩
theorem xQ (g c:Nat) (ts:List Tk) (b o:Nat) (k:Int) (p:Nat) (w:World) (h:Rs g c ts w b o (.bad k p)) :
  Calls Tryz.prog 116 #[.pointer (some ⟨b,0,none⟩)] w fun e w'=>e=.returned yQ∧Below w.heap.size w w':=by
 have HI:Hid (∀ w1,Below w.heap.size w w1→Calls Tryz.prog 44 #[.pointer (some ⟨b,0,none⟩),.string ⟨#[105,102]⟩] w1 fun e w'=>e=.returned (.bool false)∧Below w1.heap.size w1 w'):=YV fun w1 hb=>rIs g c ts b o wIf (.bad k p) w1 (h.later hb) (by decide)
 have HL:Hid (∀ w1,Below w.heap.size w w1→Calls Tryz.prog 144 #[.pointer (some ⟨b,0,none⟩),.int .i64 0] w1 fun e w'=>e=.returned yQ∧Below w1.heap.size w1 w'):=YV fun w1 hb=>qH g c ts b o k p 0 w1 (h.later hb)
 unfold yQ at HL ⊢
 clear h
 obtain⟨v0,hv0⟩:∃ v,v=w.alloc (.cells #[.int .i64 0,.int .i64 0,.int .i64 0,.string ⟨#[]⟩,.slice none 0 0] 52):=⟨_,rfl⟩
 have HV:Hid (Below w.heap.size w v0):=YV (by rw[hv0];exact(Below.refl _ _).alloc (Nat.le_refl _) _)
 have HR:Hid (Row v0 w.heap.size 52 #[.int .i64 0,.int .i64 0,.int .i64 0,.string ⟨#[]⟩,.slice none 0 0]):=YV (by rw[hv0];exact Row.made _ _ _)
 go_enter Tryz.func116,Tryz.ntmps116
 go_upto_region 1 with fail
 rw[← hv0]
 clear hv0
 go_upto_region 2 with (go_at_call 44;refine(HI.out _ HV.out).mono ?_;rintro e w1 ⟨rfl,hb⟩;have HB:=YV hb;clear hb HI)
 go_wp2_with (first|(go_at_call 144;refine(HL.out _ (HV.out.trans (HB.out.mono HV.out.size))).mono ?_;rintro e w2 ⟨rfl,hb⟩;have HB2:=YV hb;have HROW:=(HR.out.below HB.out HR.out.lt).below hb (HR.out.below HB.out HR.out.lt).lt;clear hb HL)|(refine wpList_store_row (o:=⟨none,Op.store _ _ _,_,_,_,_⟩) rfl _ _ _ rfl w.heap.size z5 rfl rfl _ _ HROW zo rfl z5_one ?_))
 have hb2:=HV.out.trans ((HB.out.mono HV.out.size).trans (HB2.out.mono (HV.out.trans (HB.out.mono HV.out.size)).size))
 exact bodyPost_ret (results_cell_row rfl _ _ w.heap.size _ _ _ _ rfl (HROW.setRow z5) Tryz.underlying52 rfl zo) rfl ⟨rfl,hb2.grown (zj HROW) hb2.size (fun q e=>by injection e with e;omega)⟩
end Go.Proofs.YtdabndiaflagpaaGreatDoor
namespace Go.Proofs.YtdabndiaflagpaaGreatDoor
open Go.RowKit
def XV (lo:Nat):X→Value→World→Prop:=fun x v w'=>∃ A c,v=.agg #[.int .i64 x.k,.int .i64 x.o,.int .i64 x.n,.string ⟨x.s.toArray⟩,.slice A x.ks.length c]∧KS w' (Bt lo w'.heap.size) A x.ks
theorem XV.zero (lo:Nat) (w:World):XV lo (.mk 0 0 0 [] []) yQ w:=⟨none,0,rfl,.inl rfl⟩
def s5 (x:T):Array Value:=#[.int .i64 2,.int .i64 0,.int .i64 0,.string ⟨x.toArray⟩,.slice none 0 0]
theorem s5_one (x:T):(s5 x).all (·.oneCell')=true:=by simp[s5,Value.oneCell']
theorem ZR (g c:Nat) (ts:List Tk) (b o:Nat) (k:Int) (p:Nat) (w:World) (h:Rs g c ts w b o (.bad k p)) :
  Calls Tryz.prog 186 #[.pointer (some ⟨b,0,none⟩)] w (RRes g c ts b o w (XV w.heap.size) (.bad k p:Pr X)):=by
 have hlt:=h.lt
 have HI:Hid (∀ (x:T) w1,keyB x=true→Rs g c ts w1 b o (.bad k p)→_):=YV fun (x:T) w1 hx hb=>rIs g c ts b o x (.bad k p) w1 hb hx
 have H1:Hid (∀ w1,Rs g c ts w1 b o (.bad k p)→Calls Tryz.prog 44 #[.pointer (some ⟨b,0,none⟩),.string ⟨#[116,114,117,101]⟩] w1 fun e w'=>e=.returned (.bool false)∧Below w1.heap.size w1 w'):=YV fun w1 hb=>HI.out jK w1 (by decide) hb
 have H2:Hid (∀ w1,Rs g c ts w1 b o (.bad k p)→Calls Tryz.prog 44 #[.pointer (some ⟨b,0,none⟩),.string ⟨#[102,97,108,115,101]⟩] w1 fun e w'=>e=.returned (.bool false)∧Below w1.heap.size w1 w'):=YV fun w1 hb=>HI.out ju w1 (by decide) hb
 have H3:Hid (∀ w1,Rs g c ts w1 b o (.bad k p)→Calls Tryz.prog 44 #[.pointer (some ⟨b,0,none⟩),.string ⟨#[40]⟩] w1 fun e w'=>e=.returned (.bool false)∧Below w1.heap.size w1 w'):=YV fun w1 hb=>HI.out [40] w1 (by decide) hb
 have H4:=H3
 have HN:Hid (∀ w1,Rs g c ts w1 b o (.bad k p)→Calls Tryz.prog 43 #[.pointer (some ⟨b,0,none⟩)] w1 fun e w'=>e=.returned (.agg #[.int .i64 0,.string ⟨#[]⟩,.int .i64 0,.int .i64 0])∧Below w1.heap.size w1 w'):=YV fun w1 hb=>rNow g c ts b o (.bad k p) w1 hb
 have HM:Hid (∀ w1,Rs g c ts w1 b o (.bad k p)→Calls Tryz.prog 84 #[.pointer (some ⟨b,0,none⟩),.int .i64 0] w1 (RRes g c ts b o w1 (fun (x:T) v _=>v=.string ⟨x.toArray⟩) (.bad k p:Pr T))):=YV fun w1 hb=>u7 g c ts b o 0 (.bad k p) w1 hb (by omega)
 clear HI
 obtain⟨v0,hv0⟩:∃ v,v=w.alloc (.cells #[.int .i64 0,.int .i64 0,.int .i64 0,.string ⟨#[]⟩,.slice none 0 0] 52):=⟨_,rfl⟩
 have hv:Below w.heap.size w v0:=by rw[hv0];exact(Below.refl _ _).alloc (Nat.le_refl _) _
 have HV:=YV hv
 have hz0:v0.heap.size=w.heap.size+1:=by rw[hv0];simp
 have HR:Hid (Row v0 w.heap.size 52 z5):=YV (by rw[hv0];exact Row.made _ _ _)
 have HS0:Hid (Rs g c ts v0 b o (.bad k p)):=YV (h.later hv)
 obtain⟨q,hq⟩:∃ q,q=w.heap.size:=⟨_,rfl⟩
 have HQ:=YV hq
 rw[← hq] at HR hz0 hlt
 clear h hv
 go_enter Tryz.func186,Tryz.ntmps186
 go_upto_region 1 with fail
 rw[← hv0,← hq]
 clear hv0 hq
 go_upto_region 2 with (go_at_call 43;refine(HN.out _ HS0.out).mono ?_;rintro e w1 ⟨rfl,hb⟩;have HS1:=YV (HS0.out.later hb);have HR1:=YV (HR.out.below hb HR.out.lt);have HG1:Hid (v0.grownBy w1 (some b)):=YV (zb hb b);clear hb HN)
 have hb1:Below w1.heap.size w1 (w1.alloc (.cells #[.int .i64 0,.string ⟨#[]⟩,.int .i64 0,.int .i64 0] 113)):=(Below.refl _ _).alloc (Nat.le_refl _) _
 have HBX:Hid (Row (w1.alloc (.cells #[.int .i64 0,.string ⟨#[]⟩,.int .i64 0,.int .i64 0] 113)) w1.heap.size 113 #[.int .i64 0,.string ⟨#[]⟩,.int .i64 0,.int .i64 0]):=YV (Row.made _ _ _)
 have HS2:=YV (HS1.out.later hb1)
 have HR2:=YV (HR1.out.below hb1 HR1.out.lt)
 have HG2:=YV (za HG1.out (zb hb1 b))
 obtain⟨m,hm⟩:∃ m,m=w1.heap.size:=⟨_,rfl⟩
 clear hb1
 generalize w1.alloc (.cells #[.int .i64 0,.string ⟨#[]⟩,.int .i64 0,.int .i64 0] 113)=v1 at HS2 HBX HR2 HG2 ⊢
 rw[← hm] at HBX ⊢
 clear hm
 have c6:=HBX.out.cell 0
 have lq:=HBX.out.lt
 simp at c6
 go_upto_region 11 with (first|(go_at_call 44;refine(H1.out _ HS2.out).mono ?_;rintro e w3 ⟨rfl,hb⟩;have HS3:=YV (HS2.out.later hb);have HR3:=YV (HR2.out.below hb HR2.out.lt);have HG3:=YV (za HG2.out (zb hb b));clear hb H1)|(go_at_call 44;refine(H2.out _ HS3.out).mono ?_;rintro e w4 ⟨rfl,hb⟩;have HS4:=YV (HS3.out.later hb);have HR4:=YV (HR3.out.below hb HR3.out.lt);have HG4:=YV (za HG3.out (zb hb b));clear hb H2))
 clear c6 lq
 go_upto_region 21 with (first|(go_at_call 44;refine(H3.out _ HS4.out).mono ?_;rintro e w5 ⟨rfl,hb⟩;have HS5:=YV (HS4.out.later hb);have HR5:=YV (HR4.out.below hb HR4.out.lt);have HG5:=YV (za HG4.out (zb hb b));clear hb H3)|(go_at_call 84;refine(HM.out _ HS5.out).mono ?_;rintro e w6 ⟨x,v,rfl,hv,g1,g2,_⟩;obtain rfl:v=.string ⟨x.toArray⟩:=hv;have HS6:=YV g2;have HR6:=YV (HR5.out.grown g1 (fun e=>by injection e with e;omega));have HG6:=YV (za HG5.out g1);clear g1 g2 HM))
 have hb6:Below w6.heap.size w6 (w6.alloc (.cells (s5 x) 52)):=(Below.refl _ _).alloc (Nat.le_refl _) _
 have HEX:Hid (Row (w6.alloc (.cells (s5 x) 52)) w6.heap.size 52 (s5 x)):=YV (Row.made _ _ _)
 have HS7:=YV (HS6.out.later hb6)
 have HR7:=YV (HR6.out.below hb6 HR6.out.lt)
 have HG7:=YV (za HG6.out (zb hb6 b))
 have hq6:q<w6.heap.size:=HR6.out.lt
 obtain⟨m6,hm6⟩:∃ m,m=w6.heap.size:=⟨_,rfl⟩
 clear hb6
 unfold s5 at HEX HS7 HR7 HG7
 generalize w6.alloc (.cells #[.int .i64 2,.int .i64 0,.int .i64 0,.string ⟨x.toArray⟩,.slice none 0 0] 52)=v6 at HS7 HEX HR7 HG7 ⊢
 rw[← hm6] at HEX hq6 ⊢
 clear hm6
 go_wp2_with (first|(go_at_call 44;refine(H4.out _ HS7.out).mono ?_;rintro e w8 ⟨rfl,hb⟩;have HS8:=YV (HS7.out.later hb);have HR8:=YV (HR7.out.below hb HR7.out.lt);have HG8:=YV (za HG7.out (zb hb b));have HROW:=HR8.out;have hex:=HEX.out.below hb HEX.out.lt;have c0:=hex.cell 0;have c1:=hex.cell 1;have c2:=hex.cell 2;have c3:=hex.cell 3;have c4:=hex.cell 4;have lx:=hex.lt;simp at c0 c1 c2 c3 c4;clear hex;clear hb H4)|(refine wpList_store_row (o:=⟨none,Op.store _ _ _,_,_,_,_⟩) rfl _ _ _ rfl q (s5 x) rfl rfl _ _ HROW zo rfl (s5_one x) ?_))
 have hgw:w.grownBy (w8.setRow q (s5 x)) (some b):=by
  have h0:=za (zb HV.out b) HG8.out
  exact jb h0 (zj HROW) (fun k e=>by injection e with e;have:=HQ.out;omega)
 exact bodyPost_ret (results_cell_row rfl _ _ q _ _ _ _ rfl (HROW.setRow (s5 x)) Tryz.underlying52 rfl zo) rfl ⟨.mk 2 0 0 x [],_,rfl,⟨none,0,rfl,.inl rfl⟩,hgw,HS8.out.grown (zj HROW) (fun k e=>by injection e with e;omega),fun y L e=>by cases e⟩
end Go.Proofs.YtdabndiaflagpaaGreatDoor
namespace Go.Proofs.YtdabndiaflagpaaGreatDoor
open Go.RowKit
def yx:Array Value:=#[.string ⟨#[45]⟩,.string ⟨#[110,111,116]⟩,.string ⟨#[112,114,101]⟩]
def x5 (x:X) (A:Option Addr) (c:Nat):Array Value:=#[.int .i64 x.k,.int .i64 x.o,.int .i64 x.n,.string ⟨x.s.toArray⟩,.slice A x.ks.length c]
theorem jf (x:X) (A:Option Addr) (c:Nat):(x5 x A c).all (·.oneCell')=true:=by simp[x5,Value.oneCell']
theorem qG (w:World):Calls Tryz.prog 185 #[] w fun e w'=>e=.returned (.slice (some ⟨w.heap.size,0,none⟩) 3 3)∧w'=w.alloc (.cells yx 9):=by
 unfold yx
 go_enter Tryz.func185,Tryz.ntmps185
 go_wp2_with fail
 go_ret
 exact⟨rfl,rfl⟩
theorem kD (g c:Nat) (ts:List Tk) (b o:Nat) (k:Int) (p:Nat) (w:World) (h:Rs g c ts w b o (.bad k p)) :
  Calls Tryz.prog 166 #[.pointer (some ⟨b,0,none⟩)] w (RRes g c ts b o w (XV w.heap.size) (.bad k p:Pr X)):=by
 have hlt:=h.lt
 have HI:Hid (∀ (x:T) w1,keyB x=true→Rs g c ts w1 b o (.bad k p)→_):=YV fun (x:T) w1 hx hb=>rIs g c ts b o x (.bad k p) w1 hb hx
 have H1:Hid (∀ w1,Rs g c ts w1 b o (.bad k p)→Calls Tryz.prog 44 #[.pointer (some ⟨b,0,none⟩),.string ⟨#[45]⟩] w1 fun e w'=>e=.returned (.bool false)∧Below w1.heap.size w1 w'):=YV fun w1 hb=>HI.out [45] w1 (by decide) hb
 have H2:Hid (∀ w1,Rs g c ts w1 b o (.bad k p)→Calls Tryz.prog 44 #[.pointer (some ⟨b,0,none⟩),.string ⟨#[110,111,116]⟩] w1 fun e w'=>e=.returned (.bool false)∧Below w1.heap.size w1 w'):=YV fun w1 hb=>HI.out wNot w1 (by decide) hb
 have H3:Hid (∀ w1,Rs g c ts w1 b o (.bad k p)→Calls Tryz.prog 44 #[.pointer (some ⟨b,0,none⟩),.string ⟨#[112,114,101]⟩] w1 fun e w'=>e=.returned (.bool false)∧Below w1.heap.size w1 w'):=YV fun w1 hb=>HI.out wPre w1 (by decide) hb
 have HA:Hid (∀ w1,Rs g c ts w1 b o (.bad k p)→_):=YV fun w1 hb=>ZR g c ts b o k p w1 hb
 have HP:=YV qG
 clear HI
 obtain⟨v0,hv0⟩:∃ v,v=w.alloc (.cells #[.int .i64 0,.int .i64 0,.int .i64 0,.string ⟨#[]⟩,.slice none 0 0] 52):=⟨_,rfl⟩
 have hv:Below w.heap.size w v0:=by rw[hv0];exact(Below.refl _ _).alloc (Nat.le_refl _) _
 have HV:=YV hv
 have hz0:v0.heap.size=w.heap.size+1:=by rw[hv0];simp
 have HR:Hid (Row v0 w.heap.size 52 z5):=YV (by rw[hv0];exact Row.made _ _ _)
 have HS0:Hid (Rs g c ts v0 b o (.bad k p)):=YV (h.later hv)
 obtain⟨q,hq⟩:∃ q,q=w.heap.size:=⟨_,rfl⟩
 have HQ:=YV hq
 rw[← hq] at HR hz0 hlt
 clear h hv
 go_enter Tryz.func166,Tryz.ntmps166
 go_upto_region 2 with fail
 rw[← hv0,← hq]
 clear hv0 hq
 go_loopg [3] 3 (fun g' kk wr=>∃ i:Nat,i+g'=3∧kk=.int .i64 (i:Int)∧v0.grownBy wr (some b)∧Rs g c ts wr b o (.bad k p)∧Row wr q 52 z5)
 case atStart=>exact⟨0,rfl,rfl,World.grownBy.refl _ _,HS0.out,HR.out⟩
 case round=>
  obtain⟨i,hi,rfl,hg,hs,hr⟩:=hrel
  have HG:=YV hg
  have HS:=YV hs
  have HROW:=hr
  have hqr:=hr.lt
  clear hg hs hr
  by_cases h3:i=3
  ·subst h3
   clear H1 H2 H3 HP
   go_wp2_with (first|(go_at_call 186;refine(HA.out _ HS.out).mono ?_;rintro e w2 ⟨x,v,rfl,⟨A,c',rfl,hk⟩,g1,g2,_⟩;have HX:=YV hk;have HG2:=YV (za HG.out g1);have HS2:=YV g2;replace HROW:=HROW.grown g1 (fun e=>by injection e with e;omega);clear g1 g2 hk HA)|(refine wpList_store_row (o:=⟨none,Op.store _ _ _,_,_,_,_⟩) rfl _ _ _ rfl q (x5 x A c') rfl rfl _ _ HROW zo rfl (jf x A c') ?_))
   have hw:=HV.out.size
   have hgs:=HG.out.size
   have hgw:w.grownBy (w2.setRow q (x5 x A c')) (some b):=jb (za (zb HV.out b) HG2.out) (zj HROW) (fun k e=>by injection e with e;have:=HQ.out;omega)
   exact bodyPost_ret (results_cell_row rfl _ _ q _ _ _ _ rfl (HROW.setRow (x5 x A c')) Tryz.underlying52 rfl zo) rfl ⟨x,_,rfl,⟨A,c',rfl,HX.out.move fun m hm=>⟨⟨by have:=hm.1;omega,by have:=hm.2;simpa using this⟩,(zj HROW).block m hm.2 (fun e=>by injection e with e;have:=hm.1;omega)⟩⟩,hgw,HS2.out.grown (zj HROW) (fun k e=>by injection e with e;omega),fun y L e=>by cases e⟩
  ·obtain⟨wm,hwm⟩:∃ wm,wm=wr.alloc (.cells yx 9):=⟨_,rfl⟩
   have hb1:Below wr.heap.size wr wm:=by rw[hwm];exact(Below.refl _ _).alloc (Nat.le_refl _) _
   have HW1:=YV (HS.out.later hb1)
   have HR1:=YV (HROW.below hb1 HROW.lt)
   have HG1:=YV (za HG.out (zb hb1 b))
   have hrow:Row wm wr.heap.size 9 yx:=by rw[hwm];exact Row.made _ _ _
   have p0:=hrow.cell 0
   have p1:=hrow.cell 1
   have p2:=hrow.cell 2
   simp[yx] at p0 p1 p2
   have HPW:Hid (Calls Tryz.prog 185 #[] wr fun e w'=>e=.returned (.slice (some ⟨wr.heap.size,0,none⟩) 3 3)∧w'=wm):=YV (by rw[hwm];exact HP.out wr)
   clear hb1 hrow hwm HP HA HROW
   obtain rfl | rfl | rfl:i=0∨i=1∨i=2:=by omega
   ·clear H2 H3 h3 p1 p2
    go_wp2_with (first|(go_at_call 185;refine HPW.out.mono ?_;rintro e w1 ⟨rfl,rfl⟩;clear HPW)|(go_at_call 44;refine(H1.out _ HW1.out).mono ?_;rintro e w2 ⟨rfl,hb⟩;have HS2:=YV (HW1.out.later hb);have HR2:=YV (HR1.out.below hb HR1.out.lt);have HG2:=YV (za HG1.out (zb hb b));clear hb H1))
    go_roundg 2
    case rel=>exact⟨1,rfl,rfl,HG2.out,HS2.out,HR2.out⟩
    case measure=>omega
   ·clear H1 H3 h3 p0 p2
    go_wp2_with (first|(go_at_call 185;refine HPW.out.mono ?_;rintro e w1 ⟨rfl,rfl⟩;clear HPW)|(go_at_call 44;refine(H2.out _ HW1.out).mono ?_;rintro e w2 ⟨rfl,hb⟩;have HS2:=YV (HW1.out.later hb);have HR2:=YV (HR1.out.below hb HR1.out.lt);have HG2:=YV (za HG1.out (zb hb b));clear hb H2))
    go_roundg 1
    case rel=>exact⟨2,rfl,rfl,HG2.out,HS2.out,HR2.out⟩
    case measure=>omega
   ·clear H1 H2 h3 p0 p1
    go_wp2_with (first|(go_at_call 185;refine HPW.out.mono ?_;rintro e w1 ⟨rfl,rfl⟩;clear HPW)|(go_at_call 44;refine(H3.out _ HW1.out).mono ?_;rintro e w2 ⟨rfl,hb⟩;have HS2:=YV (HW1.out.later hb);have HR2:=YV (HR1.out.below hb HR1.out.lt);have HG2:=YV (za HG1.out (zb hb b));clear hb H3))
    go_roundg 0
    case rel=>exact⟨3,rfl,rfl,HG2.out,HS2.out,HR2.out⟩
    case measure=>omega
end Go.Proofs.YtdabndiaflagpaaGreatDoor
