/- Parts: PsZ4. -/
import Derived.Test.YtdabndiaflagpaaGreatDoorK36
set_option maxRecDepth 100000
set_option maxHeartbeats 4000000
namespace Go.Proofs.YtdabndiaflagpaaGreatDoor
open Go.RowKit
attribute [local go_sem] Tame.Op Tame.upon
def VNd (B2:Nat) (own:Option Nat) (y:Nd) (u:Value) (w:World):Prop:=∃ A1 c1 A2 c2 A3 c3 A4 c4,u=.agg #[.string ⟨y.name.toArray⟩,.slice A1 y.ins.length c1,.slice A2 y.outs.length c2,.slice A3 y.locals.length c3,.slice A4 y.eqs.length c4]∧VS w (Sb B2 own w) A1 y.ins∧VS w (Sb B2 own w) A2 y.outs∧VS w (Sb B2 own w) A3 y.locals∧QS w (Sb B2 own w) A4 y.eqs
def WNd (B2:Nat) (own:Option Nat) (y:Nd) (u:Value) (w:World):Prop:=∃ q A1 c1 A2 c2 A3 c3 A4 c4,u=.slice (some ⟨q,0,none⟩) 1 1∧Row w q 78 (nd5 y A1 c1 A2 c2 A3 c3 A4 c4)∧VS w (Sb B2 own w) A1 y.ins∧VS w (Sb B2 own w) A2 y.outs∧VS w (Sb B2 own w) A3 y.locals∧QS w (Sb B2 own w) A4 y.eqs∧B2≤q∧some q≠own
theorem vJ {B2:Nat} {own:Option Nat}:vU B2 own (VNd B2 own):=⟨fun ⟨A1,c1,A2,c2,A3,c3,A4,c4,h1,h2,h3,h4,h5⟩ g hr=>⟨A1,c1,A2,c2,A3,c3,A4,c4,h1,h2.move fun q hq=>zE g hr q hq,h3.move fun q hq=>zE g hr q hq,h4.move fun q hq=>zE g hr q hq,h5.move fun q hq=>zE g hr q hq⟩⟩
theorem vI {B2:Nat} {own:Option Nat}:vU B2 own (WNd B2 own):=⟨fun ⟨q,A1,c1,A2,c2,A3,c3,A4,c4,h1,h0,h2,h3,h4,h5,h6,h7⟩ g hr=>⟨q,A1,c1,A2,c2,A3,c3,A4,c4,h1,h0.grown g (fun e=>(hr q e.symm).elim (fun h=>by omega) (fun h=>h7 (e.trans h))),h2.move fun q hq=>zE g hr q hq,h3.move fun q hq=>zE g hr q hq,h4.move fun q hq=>zE g hr q hq,h5.move fun q hq=>zE g hr q hq,h6,h7⟩⟩
theorem yS {B2:Nat} {own:Option Nat} {y:Nd} {w:World} {A1 A2 A3 A4:Option Addr} {c1 c2 c3 c4:Nat} (h:NG w (Sb B2 own w) y A1 A2 A3 A4) (hB:B2≤w.heap.size) (ho:some w.heap.size≠own) :
  WNd B2 own y (.slice (some ⟨w.heap.size,0,none⟩) 1 1) (w.alloc (.cells (nd5 y A1 c1 A2 c2 A3 c3 A4 c4) 78)):=by
 have hm:∀ q,Sb B2 own w q→Sb B2 own (w.alloc (.cells (nd5 y A1 c1 A2 c2 A3 c3 A4 c4) 78)) q∧(w.alloc (.cells (nd5 y A1 c1 A2 c2 A3 c3 A4 c4) 78)).heap[q]? = w.heap[q]?:=fun q hq=>zE (zi (World.grownBy.refl w none) _) (fun q e=>by cases e) q hq
 obtain⟨h1,h2,h3,h4⟩:=h
 exact⟨w.heap.size,A1,c1,A2,c2,A3,c3,A4,c4,rfl,Row.made _ _ _,h1.move hm,h2.move hm,h3.move hm,h4.move hm,hB,ho⟩
theorem OwnW.ns {B2:Nat} {xs:List Nd} {v:Value} {w:World} (h:OwnW RN 78 5 B2 xs v w) {lo:Nat} (hl:lo≤B2):∃ A c,v=.slice A xs.length c∧NS w (Bt lo w.heap.size) A xs:=by
 have hlt:=h.lt
 obtain⟨A,c,hv,hr⟩:=OwnG.form jg h (S':=Bt lo w.heap.size) (fun q hq=>⟨by have:=hq.1;omega,hq.2.1⟩) (fun q cs hq _=>by have:=hlt q hq;exact⟨by omega,this.2⟩)
 exact⟨A,c,hv,ZM hr⟩
theorem ZL:(Tryz.prog.info? 78).map (fun i=>(i.zero,i.size,i.bytes))=some (some (.agg #[.string ⟨#[]⟩,.slice none 0 0,.slice none 0 0,.slice none 0 0,.slice none 0 0]),5,112):=by kernel_rfl
def prS (n:Nat) (L:List Tk):Pr Unit:=if 1000≤n∧isP j8 L=true then zC 4 L else .ok () L
structure PgAt (R:Pr (List Nd)) (f:Nat) (acc:List Nd) (σ:Pr Unit):Prop where
 eq:R=σ.bind fun _ L=>jx f acc L
 fuel:∀ L,σ=.ok () L→L.length<f∧acc.length≤1000
 few:acc.length≤1001
theorem PgAt.next {R:Pr (List Nd)} {f:Nat} {acc:List Nd} {L:List Tk} {x:Nd} (h:PgAt R (f+1) acc (.ok () L)) (hw:WFt L) (hk:hdK L≠0) (hx:∀ y L',((prS acc.length L).bind fun _ L=>jO L)=.ok y L'→x=y) :
  PgAt R f (acc++[x]) ((prS acc.length L).bind fun _ L=>jO L).unit:=by
 obtain⟨hf,ha⟩:=h.fuel L rfl
 have e0:R=jx (f+1) acc L:=h.eq
 by_cases hc:isP j8 L=true
 ·have e:R=((prS acc.length L).bind fun _ L=>jO L).bind fun n L=>jx f (acc++[n]) L:=by
   rw[e0,ya,if_pos hc]
   unfold prS
   by_cases hl:1000≤acc.length
   ·rw[if_pos hl,if_pos ⟨hl,hc⟩];rfl
   ·rw[if_neg hl,if_neg (fun h=>hl h.1)];rfl
  refine⟨by rw[e];exact Pr.seq hx fun n L=>jx f (acc++[n]) L,fun M em=>?_,by simp;omega⟩
  unfold prS at em
  by_cases hl:1000≤acc.length
  ·rw[if_pos ⟨hl,hc⟩] at em;cases em
  ·rw[if_neg (fun h=>hl h.1)] at em
   have em:(jO L).unit=.ok () M:=em
   cases hr:jO L with
   | bad k a=>rw[hr] at em;cases em
   | ok y K=>
    rw[hr] at em
    obtain rfl:K=M:=by injection em
    have:=(qn hw y K hr).2
    exact⟨by omega,by simp;omega⟩
 ·have e1:((prS acc.length L).bind fun _ L=>jO L)=zC 2 L:=by
   unfold prS
   rw[if_neg (fun h=>hc h.2)]
   show jO L=_
   unfold jO ze
   rw[if_neg hc];rfl
  rw[e1]
  refine⟨?_,(fun M em=>by cases em),by simp;omega⟩
  rw[e0,ya,if_neg hc,if_neg hk]
  rfl
theorem PgAt.done {R:Pr (List Nd)} {f:Nat} {acc:List Nd} {L:List Tk} (h:PgAt R f acc (.ok () L)) (hw:WFt L) (hk:hdK L=0):R=.ok acc L:=by
 have hf:=(h.fuel L rfl).1
 obtain⟨f,rfl⟩:∃ f',f=f'+1:=⟨f - 1,by omega⟩
 rw[h.eq]
 show jx (f+1) acc L=_
 have hn:¬ isP j8 L=true:=fun hi=>by
  obtain⟨t,r,rfl,gt,_⟩:=hw.pass (.inl (xu hi (by decide)))
  have hk:t.kind=0:=hk
  rcases gt.kind_ with e | e | e | e <;> omega
 rw[ya,if_neg hn,if_pos hk]
theorem ref_ok2 {s:T} {ts:List Tk} (h:lexA s 0 []=(ts,0,0)) (w:World) (hs:s.length≤1000000):Calls Tryz.prog 42 #[.string ⟨s.toArray⟩] w fun e w'=>∃ g c,e=.returned (.tuple #[.slice (some ⟨g,0,none⟩) ts.length c,.int .i64 0,.int .i64 0])∧ts.length≤c∧g<w'.heap.size∧yE w' g ts∧Below w.heap.size w w':=
 (qe s w hs).mono fun e w' hp=>by
  rcases hp with ⟨ts',V,h1,rfl,hown,hb⟩ | ⟨a,code,h1,hc,_⟩
  ·rw[h] at h1
   injection h1 with h1 _
   subst h1
   obtain⟨A0,c0,hV,hcap⟩:=zw hown
   obtain⟨g,c,rfl,hg,hgs,hcs⟩:=OwnG.cells yp hown (yo h).1
   injection hV with _ _ hV
   subst hV
   refine⟨g,c,rfl,hcap,hgs,fun i t hi=>?_,hb⟩
   obtain⟨cs,hk,hat⟩:=hcs i t hi
   have hk:cs=rtC t:=hk
   subst hk
   exact⟨hat 0 _ rfl,hat 1 _ rfl,hat 2 _ rfl,hat 3 _ rfl⟩
  ·rw[h] at h1
   injection h1 with _ h1
   injection h1 with _ h1
   omega
def outP (R:Pr (List Nd)):List Nd×Nat×Int:=match R with | .ok ns _=>(ns,0,0) | .bad c a=>([],a,c)
def qX (s:T) (w:World) (e:Ending) (w':World):Prop:=∃ A c,e=.returned (.tuple #[.agg #[.slice A (j6 s).1.length c],.int .i64 ((j6 s).2.1:Int),.int .i64 (j6 s).2.2])∧NS w' (Bt w.heap.size w'.heap.size) A (j6 s).1∧Below w.heap.size w w'
theorem xP {s:T} {a:Nat} {code:Int} (hc0:code≠0) (h:lexA s 0 []=([],a,code)) (w:World) (hs:s.length≤999999):Calls Tryz.prog 22 #[.string ⟨s.toArray⟩] w (qX s w):=by
 have hp:j6 s=([],a,code):=by unfold j6;rw[h];show (if code=0 then _ else _)=_;rw[if_neg hc0]
 unfold qX
 rw[hp]
 obtain⟨v0,hv0⟩:∃ v,v=w.alloc (.cells #[.slice none 0 0] 31):=⟨_,rfl⟩
 have HB0:Hid (Below w.heap.size w v0):=YV (by rw[hv0];exact(Below.refl _ _).alloc (Nat.le_refl _) _)
 have HR0:Hid (Row v0 w.heap.size 31 #[.slice none 0 0]):=YV (by rw[hv0];exact Row.made _ _ _)
 have HLX:=YV (ref_no hc0 h v0 (by omega))
 obtain⟨az,haz⟩:∃ z:Int,z=(a:Int):=⟨_,rfl⟩
 unfold RefNo at HLX
 rw[← haz] at HLX ⊢
 clear h hp haz
 go_enter Tryz.func22,Tryz.ntmps22
 go_upto_region 1 with fail
 rw[← hv0]
 clear hv0
 go_wp2_with (go_at_call 42;refine HLX.out.mono ?_;rintro e w1 ⟨rfl,hb⟩;have HB1:=YV hb;have hrow:=HR0.out.below hb HR0.out.lt;have HROW:=YV hrow;have r0:=hrow.cell 0;have f0:=hrow.free 0;have hql:=hrow.lt;simp at r0;clear hb hrow HLX)
 all_goals
  have hb2:=HB0.out.trans (HB1.out.mono HB0.out.size)
  have hrr:=HROW.out.set 0 (.slice none 0 0)
  have q0:=hrr.cell 0
  have hb3:Below w.heap.size w (w1.setCell ⟨w.heap.size,0,none⟩ (.slice none 0 0)):=hb2.setCell (Nat.le_refl _) _
  simp at q0
  refine bodyPost_ret (by simp[results,Tryz.results22,go_sem,q0];rfl) rfl ?_
  exact⟨none,0,rfl,.inl rfl,by first | exact hb3 | exact hb3.drew⟩
theorem ko {B b:Nat} {w v wr:World} (h:Below B w v) (g:v.grownBy wr (some b)) (hb:B≤b∧B≤v.heap.size):Below B w wr:=
 h.grown g hb.2 (fun q e=>by injection e with e;omega)
theorem xO {s:T} {ts:List Tk} (h:lexA s 0 []=(ts,0,0)) (w:World) (hs:s.length≤999999):Calls Tryz.prog 22 #[.string ⟨s.toArray⟩] w (qX s w):=by
 obtain⟨R,hR⟩:∃ R,R=jx (ts.length+1) [] ts:=⟨_,rfl⟩
 have HPS:Hid (j6 s=outP R):=YV (by rw[hR];unfold j6;rw[h];rfl)
 obtain⟨hwts,hlts⟩:=yK h (by omega)
 obtain⟨v0,hv0⟩:∃ v,v=w.alloc (.cells #[.slice none 0 0] 31):=⟨_,rfl⟩
 have HB0:Hid (Below w.heap.size w v0):=YV (by rw[hv0];exact(Below.refl _ _).alloc (Nat.le_refl _) _)
 have HR0:Hid (Row v0 w.heap.size 31 #[.slice none 0 0]):=YV (by rw[hv0];exact Row.made _ _ _)
 have hz0:v0.heap.size=w.heap.size+1:=by rw[hv0];simp
 have HLX:=YV (ref_ok2 h v0 (by omega))
 obtain⟨q,hq⟩:∃ q,q=w.heap.size:=⟨_,rfl⟩
 have HQ:=YV hq
 rw[← hq] at HR0 hz0
 have HPG:Hid (PgAt R (ts.length+1) [] (.ok () ts)):=YV ⟨hR,(fun L e=>by injection e with _ e;subst e;exact⟨Nat.lt_succ_self _,by simp⟩),by simp⟩
 have HWTS:=YV hwts
 have HLTS:Hid (ts.length≤1000000):=YV (by omega)
 clear h hR hwts hlts
 go_enter Tryz.func22,Tryz.ntmps22
 go_upto_region 1 with fail
 rw[← hv0,← hq]
 clear hv0 hq
 go_upto_region 4 with (go_at_call 42;refine HLX.out.mono ?_;rintro e w1 ⟨g,c,rfl,hcp,hgl,hrk,hb⟩;have HB1:=YV hb;have HRQ:=YV (HR0.out.below hb HR0.out.lt);have HRK:=YV hrk;have HCP:=YV hcp;clear hb hrk hcp HLX)
 have hwz:=HB1.out.size
 go_upto_region 5 with fail
 have hb5:Below w1.heap.size w1 (w1.alloc (.cells #[.slice (some ⟨g,0,none⟩) ts.length c,.int .i64 0,.int .i64 0,.int .i64 0,.int .i64 0] 111)):=(Below.refl _ _).alloc (Nat.le_refl _) _
 have HRS5:Hid (Rs g c ts (w1.alloc (.cells #[.slice (some ⟨g,0,none⟩) ts.length c,.int .i64 0,.int .i64 0,.int .i64 0,.int .i64 0] 111)) w1.heap.size 0 (.ok () ts)):=YV ⟨⟨0,0,0,0,Row.made _ _ _,rfl,rfl,rfl,0,rfl,rfl⟩,HWTS.out,HRK.out.later hb5 hgl,HLTS.out,HCP.out,by omega,hgl⟩
 have HRQ5:=YV (HRQ.out.below hb5 HRQ.out.lt)
 have HB5:Hid (Below w.heap.size w (w1.alloc (.cells #[.slice (some ⟨g,0,none⟩) ts.length c,.int .i64 0,.int .i64 0,.int .i64 0,.int .i64 0] 111))):=YV (HB0.out.trans ((HB1.out.trans (hb5.mono HB1.out.size)).mono HB0.out.size))
 have hbz:w1.heap.size<(w1.alloc (.cells #[.slice (some ⟨g,0,none⟩) ts.length c,.int .i64 0,.int .i64 0,.int .i64 0,.int .i64 0] 111)).heap.size:=by simp
 obtain⟨b,hb0⟩:∃ b,b=w1.heap.size:=⟨_,rfl⟩
 have hbq:q<b:=by omega
 clear hb5 HRQ
 generalize w1.alloc (.cells #[.slice (some ⟨g,0,none⟩) ts.length c,.int .i64 0,.int .i64 0,.int .i64 0,.int .i64 0] 111)=vb at HRS5 HRQ5 HB5 hbz ⊢
 rw[← hb0] at HRS5 hbz ⊢
 clear hb0
 go_upto_region 6 with fail
 have hb6:Below vb.heap.size vb (vb.alloc (.cells #[.slice none 0 0] 31)):=(Below.refl _ _).alloc (Nat.le_refl _) _
 have HRA6:Hid (RA g c ts b vb 0 (.ok () ts) (vb.alloc (.cells #[.slice none 0 0] 31))):=YV ⟨HRS5.out.later hb6,zb hb6 b⟩
 have HP6:Hid (Row (vb.alloc (.cells #[.slice none 0 0] 31)) vb.heap.size 31 #[.slice none 0 0]):=YV (Row.made _ _ _)
 have HRQ6:=YV (HRQ5.out.below hb6 HRQ5.out.lt)
 obtain⟨p,hp⟩:∃ p,p=vb.heap.size:=⟨_,rfl⟩
 have hbv:b<vb.heap.size:=hbz
 have hvp:vb.heap.size≤p:=by omega
 have hpz:p<(vb.alloc (.cells #[.slice none 0 0] 31)).heap.size:=by rw[hp];simp
 clear hb6
 generalize vb.alloc (.cells #[.slice none 0 0] 31)=v6 at HRA6 HP6 HRQ6 hpz ⊢
 rw[← hp] at HP6 ⊢
 clear hp
 obtain⟨B2,hB2⟩:∃ B2,B2=v6.heap.size:=⟨_,rfl⟩
 have hpB:p<B2:=by omega
 have hBx:B2≤v6.heap.size:=by omega
 have hqB:q<B2:=by omega
 have HOE:Hid (OwnW RN 78 5 B2 ([]:List Nd) (.slice none 0 0) v6):=YV OwnW.nil
 obtain⟨i0,hi0,hz00,hz01,hz02⟩:=info_parts ZL
 have HI0:=YV hi0
 have HI1:=YV hz00
 have HI2:=YV hz01
 have HI3:=YV hz02
 clear hi0 hz00 hz01 hz02 hB2 hpz hwz hz0
 go_loopg [24] (ts.length+1) (fun g' _ wr=>∃ (acc:List Nd) (Av:Option Addr) (cv:Nat) (σ':Pr Unit),PgAt R g' acc σ'∧RA g c ts b vb 0 σ' wr∧Row wr p 31 #[.slice Av acc.length cv]∧OwnW RN 78 5 B2 acc (.slice Av acc.length cv) wr∧Kp2 B2 b p v6 wr)
 case atStart=>exact⟨[],none,0,_,HPG.out,HRA6.out,HP6.out,HOE.out,Kp2.refl _ _ _ _⟩
 case round=>
  obtain⟨acc,Av,cv,σ',hes,hra,hrow,hown,hkp⟩:=hrel
  have HRT:=YV hra
  have HPT:=YV hrow
  have HOT:=YV hown
  have HKT:=YV hkp
  have hac1:=hes.few
  cases σ' with
  | bad k a=>
   have hk0:¬ k=0:=hra.1.good_
   have hE:R=.bad k a:=hes.eq
   have HPE:Hid (j6 s=([],a,k)):=YV (by rw[HPS.out,hE];rfl)
   obtain⟨i4,op4,k4,a4,hr4,ha4⟩:=hra.1.row_
   obtain⟨hk4,ha4'⟩:=ha4
   rw[← hk4] at hk0
   have c34:=hr4.cell 3
   have c44:=hr4.cell 4
   have hbl:=hr4.lt
   simp[zg] at c34 c44
   have HROW:Row wr q 31 #[.slice none 0 0]:=(hkp.block q hqB (by omega) (by omega)).trans HRQ6.out
   have hql:=HROW.lt
   clear hes hra hrow hown hkp hr4 hE
   have HK4:=YV hk4
   have HA4:=YV ha4'
   clear hk4 ha4'
   have r0:=HROW.cell 0
   have f0:=HROW.free 0
   simp at r0
   have HRW:=YV HROW
   clear HROW
   go_upto_region 11 with fail
   go_region
   all_goals go_wp2_with fail
   all_goals
    have hgs:wr.grownBy (wr.setCell ⟨q,0,none⟩ (.slice none 0 0)) (some q):=zf (zd wr q) 0 _
    have hrr:=HRW.out.set 0 (.slice none 0 0)
    have q0:=hrr.cell 0
    have hb2:Below w.heap.size w wr:=ko HB5.out HRT.out.2 ⟨by have:=HQ.out;omega,HB5.out.size⟩
    have hb3:Below w.heap.size w (wr.setCell ⟨q,0,none⟩ (.slice none 0 0)):=hb2.setCell (by have:=HQ.out;show w.heap.size≤q;omega) _
    simp at q0
    refine bodyPost_ret (by simp[results,Tryz.results22,go_sem,q0];rfl) rfl ?_
    exact⟨none,0,by rw[HPE.out,HK4.out,HA4.out];rfl,by rw[HPE.out];exact .inl rfl,by first | exact hb3 | exact hb3.drew⟩
  | ok u Li=>
   have hwi:WFt Li:=hra.1.good_
   obtain⟨i4,op4,k4,a4,hr4,ha4⟩:=hra.1.row_
   obtain⟨rfl,rfl,_⟩:=ha4
   have c34:=hr4.cell 3
   have hbl:=hr4.lt
   simp[zg] at c34
   obtain⟨Y0,hY0⟩:∃ y,y=hdT Li:=⟨_,rfl⟩
   obtain⟨N0,hN0⟩:∃ N,N=hdN Li:=⟨_,rfl⟩
   obtain⟨P0,hP0⟩:∃ F,F=hdF Li:=⟨_,rfl⟩
   obtain⟨K0,hK0⟩:∃ K,K=hdK Li:=⟨_,rfl⟩
   have HNW:Hid (∀ w1,Rs g c ts w1 b 0 (.ok () Li)→Calls Tryz.prog 43 #[.pointer (some ⟨b,0,none⟩)] w1 fun e w'=>e=.returned (.agg #[.int .i64 K0,.string ⟨Y0.toArray⟩,.int .i64 N0,.int .i64 (P0:Int)])∧Below w1.heap.size w1 w'):=YV fun w1 h1=>by rw[hK0,hY0,hN0,hP0];exact rNow g c ts b 0 (.ok () Li) w1 h1
   have hfl:=ZN
   clear hY0 hN0 hP0
   by_cases hk:K0=0
   ·subst hk
    have hE:R=.ok acc Li:=hes.done hwi hK0.symm
    have HPE:Hid (j6 s=(acc,0,0)):=YV (by rw[HPS.out,hE];rfl)
    clear hes hra hrow hown hkp hr4 hK0 hE hwi
    go_wp2_with (go_at_call 43;refine(HNW.out _ HRT.out.1).mono ?_;rintro e w21 ⟨rfl,hb⟩;replace HRT:=YV (HRT.out.later hb);replace HPT:=YV (HPT.out.below hb HPT.out.lt);replace HOT:=YV (HOT.out.keep jg (zc hb none) (fun q e=>by cases e));replace HKT:=YV (HKT.out.step (zc hb none) hBx (fun q e=>by cases e));clear c34 hbl;obtain⟨i5,op5,k5,a5,hr5,ha5⟩:=HRT.out.1.row_;obtain⟨rfl,rfl,_⟩:=ha5;have c35:=hr5.cell 3;have hb5:=hr5.lt;simp[zg] at c35;have e0:=HPT.out.cell 0;have ez:=HPT.out.lt;simp at e0;have hrow:Row w21 q 31 #[.slice none 0 0]:=(HKT.out.block q hqB (by omega) (by omega)).trans HRQ6.out;have r0:=hrow.cell 0;have f0:=hrow.free 0;have hql:=hrow.lt;simp at r0;have HRW:=YV hrow;clear hb hr5 hrow HNW)
    all_goals
     have hgs:w21.grownBy (w21.setCell ⟨q,0,none⟩ (.slice Av acc.length cv)) (some q):=zf (zd w21 q) 0 _
     have hrr:=HRW.out.set 0 (.slice Av acc.length cv)
     have q0:=hrr.cell 0
     have hb2:Below w.heap.size w w21:=ko HB5.out HRT.out.2 ⟨by have:=HQ.out;omega,HB5.out.size⟩
     have hb3:Below w.heap.size w (w21.setCell ⟨q,0,none⟩ (.slice Av acc.length cv)):=hb2.setCell (by have:=HQ.out;show w.heap.size≤q;omega) _
     obtain⟨A8,c8,h8,hns⟩:=HOT.out.ns (lo:=q+1) (by omega)
     injection h8 with h81 h82 h83
     subst h81 h83
     simp at q0
     refine bodyPost_ret (by simp[results,Tryz.results22,go_sem,q0];rfl) rfl ?_
     refine⟨Av,cv,by rw[HPE.out];rfl,?_,by first | exact hb3 | exact hb3.drew⟩
     rw[HPE.out]
     exact hns.move fun m hm=>⟨⟨by have:=hm.1;have:=HQ.out;omega,by have:=hm.2;simpa using this⟩,hgs.block m hm.2 (fun e=>by injection e with e;have:=hm.1;omega)⟩
   ·have hk1:hdK Li≠0:=by rw[← hK0];exact hk
    obtain⟨fl,rfl⟩:∃ fl,gk=fl+1:=⟨gk - 1,by have:=(hes.fuel Li rfl).1;omega⟩
    obtain⟨re,hre⟩:∃ re,re=(prS acc.length Li).bind fun _ L=>jO L:=⟨_,rfl⟩
    have HNX:Hid (∀ y,(∀ z L',re=.ok z L'→y=z)→PgAt R fl (acc++[y]) re.unit):=YV fun y hy=>by
     rw[hre];exact hes.next hwi hk1 (by rw[← hre];exact hy)
    have HND:Hid (∀ w1,Rs g c ts w1 b 0 (prS acc.length Li)→Calls Tryz.prog 46 #[.pointer (some ⟨b,0,none⟩)] w1 (RRes g c ts b 0 w1 (NdV w1.heap.size) re)):=YV fun w1 h1=>by rw[hre];exact rNode g c ts b (prS acc.length Li) w1 h1
    have hac:acc.length≤1000:=(hes.fuel Li rfl).2
    obtain⟨bn,hbn⟩:∃ bl,bl=isP j8 Li:=⟨_,rfl⟩
    have HIN:Hid (∀ w1,Rs g c ts w1 b 0 (.ok () Li)→Calls Tryz.prog 44 #[.pointer (some ⟨b,0,none⟩),.string ⟨#[110,111,100,101]⟩] w1 fun e w'=>e=.returned (.bool bn)∧Below w1.heap.size w1 w'):=YV fun w1 h1=>by rw[hbn];exact rIs g c ts b 0 j8 (.ok () Li) w1 h1 (by decide)
    have HFL:Hid (∀ w1,Rs g c ts w1 b 0 (.ok () Li)→Calls Tryz.prog 45 #[.pointer (some ⟨b,0,none⟩),.int .i64 4] w1 (RRes g c ts b 0 w1 NoV (zC 4 Li:Pr Unit))):=YV fun w1 h1=>u9 g c ts b 0 4 (.ok () Li) w1 h1 (by decide)
    clear hes hra hrow hown hkp hr4 hK0 hk1 hre
    go_upto_region 7 with (go_at_call 43;refine(HNW.out _ HRT.out.1).mono ?_;rintro e w21 ⟨rfl,hb⟩;replace HRT:=YV (HRT.out.later hb);replace HPT:=YV (HPT.out.below hb HPT.out.lt);replace HOT:=YV (HOT.out.keep jg (zc hb none) (fun q e=>by cases e));replace HKT:=YV (HKT.out.step (zc hb none) hBx (fun q e=>by cases e));clear hb HNW)
    clear c34 hbl
    have e4:=HPT.out.cell 0
    have ez:=HPT.out.lt
    simp at e4
    by_cases hl:1000≤acc.length
    ·have hli:(1000:Int)≤(acc.length:Int):=by omega
     cases bn with
     | true=>
      have HSE:Hid (prS acc.length Li=zC 4 Li):=YV (by unfold prS;rw[if_pos ⟨hl,hbn.symm⟩])
      clear hbn
      go_upto_region 9 with (first|(go_at_call 44;refine(HIN.out _ HRT.out.1).mono ?_;rintro e w23 ⟨rfl,hb⟩;replace HRT:=YV (HRT.out.later hb);replace HPT:=YV (HPT.out.below hb HPT.out.lt);replace HOT:=YV (HOT.out.keep jg (zc hb none) (fun q e=>by cases e));replace HKT:=YV (HKT.out.step (zc hb none) hBx (fun q e=>by cases e));clear hb HIN)|(go_at_call 45;refine(HFL.out _ HRT.out.1).mono ?_;rintro e w24 ⟨_,v,rfl,hv,g1,g2,_⟩;obtain rfl:v=.tuple #[]:=hv;replace HRT:Hid (RA g c ts b vb 0 (zC 4 Li) w24):=YV (HRT.out.step (by rw[Pr.unit_id] at g2;exact g2) g1);replace HPT:=YV (HPT.out.grown g1 (fun e=>by injection e with e;omega));replace HOT:=YV (HOT.out.keep jg g1 (fun q e=>by injection e with e;omega));replace HKT:=YV (HKT.out.step g1 hBx (fun q e=>by injection e with e;exact .inl e.symm));clear g1 g2 HFL))
      clear e4 ez hli hl
      have HRA:Hid (RA g c ts b vb 0 (prS acc.length Li) w24):=YV (by rw[HSE.out];exact HRT.out)
      have HV5:Hid (∀ q,(Value.slice Av acc.length cv).ownBlock=some q→B2≤q∧q<w24.heap.size):=YV (HOT.out.lt)
      refine Tame.wp_region_tamg (L:=Tame.Later) (M:=ME b p (Value.slice Av acc.length cv)) (gs:=jr g c ts b 0 p B2 (prS acc.length Li) vb v6 31 #[.slice Av acc.length cv] RN 78 5 acc (Value.slice Av acc.length cv)) [3,5,7] (by kernel_rfl) (by kernel_rfl) Tame.Later.refl (fun _ w=>World.grownBy.refl w _) (jk jg HRA.out HPT.out HOT.out HKT.out hbv hvp hpB hBx) ?_
      repeat
       ((first
        |(refine Tame.walk3_known (o:=⟨some 46,_,_,_,_,_⟩) (by kernel_rfl) (fun _=>rfl) ?_;apply Exists.intro;refine⟨fun vals w2 hG hd=>?_,?_⟩;(focus(have r:=(hG 1 _ rfl (by kernel_rfl):Row w2 p 31 #[.slice Av acc.length cv]);have u4:=r.cell 0;clear hd hG r;simp at u4;go_simp;exact Tame.Is.mk (Tame.Later.refl _))))
        |(refine Tame.walk3_write (o:=⟨some 48,_,_,_,_,_⟩) (AftC g c ts b vb 0 re.unit (VNd B2 (Value.slice Av acc.length cv).ownBlock) (fun y=>∀ z L',re=.ok z L'→y=z)) (none) ([5,7]) (fun _=>rfl) (by kernel_rfl) (by kernel_rfl) (fun u a c hl h=>AftC.later vJ h hl) (fun i _ hj u a c hs h=>AftC.turn vJ hj hs h (fun q hq=>(HV5.out q hq).1) hbv hvp hpB) (fun vals w2 hG hd=>?_) ?_;(focus(have ha2:=(hG 0 _ rfl (by kernel_rfl):RA g c ts b vb 0 (prS acc.length Li) w2);have hk2:=(hG 3 _ rfl (by kernel_rfl):Kp2 B2 b p v6 w2);have ho2:=(hG 2 _ rfl (by kernel_rfl):OwnW RN 78 5 B2 acc (Value.slice Av acc.length cv) w2);have HC:=YV (HND.out w2 ha2.1);have HA9:=YV ha2;have hk3:=hk2.size;have HO2:=YV ho2;clear hd hG ha2 hk2 ho2;go_simp;refine HC.out.mono ?_;rintro e w' ⟨y,v,rfl,⟨E1,d1,E2,d2,E3,d3,E4,d4,rfl,k1,k2,k3,k4⟩,g1,g2,g3⟩;exact⟨_,rfl,Tame.Leaves.mk g1 ⟨HA9.out.step g2 g1,y,g3,⟨E1,d1,E2,d2,E3,d3,E4,d4,rfl,k1.move (fun q hq=>⟨⟨by have:=hq.1;omega,hq.2,fun e=>by have:=(HO2.out.lt q e.symm).2;have:=hq.1;omega⟩,rfl⟩),k2.move (fun q hq=>⟨⟨by have:=hq.1;omega,hq.2,fun e=>by have:=(HO2.out.lt q e.symm).2;have:=hq.1;omega⟩,rfl⟩),k3.move (fun q hq=>⟨⟨by have:=hq.1;omega,hq.2,fun e=>by have:=(HO2.out.lt q e.symm).2;have:=hq.1;omega⟩,rfl⟩),k4.move (fun q hq=>⟨⟨by have:=hq.1;omega,hq.2,fun e=>by have:=(HO2.out.lt q e.symm).2;have:=hq.1;omega⟩,rfl⟩)⟩⟩⟩)))
        |(refine Tame.walk3_some (o:=⟨some 49,_,_,_,_,_⟩) (AftR (WNd B2 (Value.slice Av acc.length cv).ownBlock) (fun y=>∀ z L',re=.ok z L'→y=z)) (none) ([3,5,7]) (by kernel_rfl) (fun _=>rfl) (by kernel_rfl) (fun u a c hl h=>AftR.later (v:=(Value.slice Av acc.length cv)) vI h hl) (fun i _ hj u a c hs h=>AftR.turn vI hj hs h (by omega) hpB) (fun vals w2 hG hd=>?_) ?_;(focus(have h1:=(hd 3 _ rfl (by kernel_rfl) rfl:AftC g c ts b vb 0 re.unit (VNd B2 (Value.slice Av acc.length cv).ownBlock) (fun y=>∀ z L',re=.ok z L'→y=z) (vals 3) w2);have hk2:=(hG 3 _ rfl (by kernel_rfl):Kp2 B2 b p v6 w2);have hk3:=hk2.size;have ho2:=(hG 2 _ rfl (by kernel_rfl):OwnW RN 78 5 B2 acc (Value.slice Av acc.length cv) w2);have HO2:=YV ho2;clear hG hd hk2 ho2;obtain⟨ha2,y,hyy,E1,d1,E2,d2,E3,d3,E4,d4,hv1,k1,k2,k3,k4⟩:=h1;have HK1:=YV (⟨k1,k2,k3,k4⟩:NG w2 (Sb B2 (Value.slice Av acc.length cv).ownBlock w2) y E1 E2 E3 E4);clear k1 k2 k3 k4;clear ha2;go_simp;exact Tame.Has.mk ((Below.refl _ _).alloc (Nat.le_refl _) _) ⟨y,hyy,yS HK1.out (by omega) (fun e=>by have:=(HO2.out.lt _ e.symm).2;omega)⟩)))
        |(refine Tame.walk3_write (o:=⟨some 50,_,_,_,_,_⟩) (AftS RN 78 5 B2 acc (fun y=>∀ z L',re=.ok z L'→y=z)) (none) ([7]) (fun _=>rfl) (by kernel_rfl) (by kernel_rfl) (fun u a c hl h=>AftS.later jg h hl) (fun i _ hj u a c hs h=>by obtain rfl:=zZ hj;exact AftS.other (p:=p) jg h hs hpB) (fun vals w2 hG hd=>?_) ?_;(focus(have hk2:=(hG 3 _ rfl (by kernel_rfl):Kp2 B2 b p v6 w2);have hk3:=hk2.size;have h1:=(hd 4 _ rfl (by kernel_rfl) rfl:AftR (WNd B2 (Value.slice Av acc.length cv).ownBlock) (fun y=>∀ z L',re=.ok z L'→y=z) (vals 4) w2);have h2:=(hG 2 _ rfl (by kernel_rfl):OwnW RN 78 5 B2 acc (Value.slice Av acc.length cv) w2);clear hG hd hk2;obtain⟨y,hyy,g1,E1,d1,E2,d2,E3,d3,E4,d4,hv1,hr1,k1,k2,k3,k4,k5,k6⟩:=h1;obtain⟨cs,ho,hx⟩:=h2;exact zK (.tmp 46) (.tmp 49) _ rfl B2 78 i0 _ 5 112 Tryz.underlying29 HI0.out HI1.out HI2.out HI3.out rfl (by omega) (by omega) (Value.slice Av acc.length cv) _ cs rfl ho g1 1 78 (nd5 y E1 d1 E2 d2 E3 d3 E4 d4).toList hv1 rfl (by simpa using hr1) (jg.one (w:=w2) (S:=Sb B2 (Value.slice Av acc.length cv).ownBlock w2) (x:=y) ⟨E1,d1,E2,d2,E3,d3,E4,d4,rfl,k1,k2,k3,k4⟩) (by omega) (by omega) (fun v' w' ho' hgr hat=>⟨hgr,y,hyy,OwnW.snoc jg hx ho' hgr hat ⟨E1,d1,E2,d2,E3,d3,E4,d4,rfl,k1,k2,k3,k4⟩⟩))))
        |(refine Tame.walk3_lays (o:=⟨none,Op.store _ _ _,_,_,_,_⟩) (fun vals w=>Row w p 31 #[vals 5]) none ([]) ([5]) (fun _=>rfl) (by kernel_rfl) (by kernel_rfl) (by kernel_rfl) (fun vals vals' w hh h=>by rw[← hh 5 (by decide)];exact h) (fun vals w w' hl h=>Row.below h hl (Row.lt h)) (fun j hj hk=>by cases hk) (fun vals w2 hG hd=>?_) ?_;(focus(have h1:=(hd 5 _ rfl (by kernel_rfl) (by kernel_rfl):AftS RN 78 5 B2 acc (fun y=>∀ z L',re=.ok z L'→y=z) (vals 5) w2);have hr:=(hG 1 _ rfl (by kernel_rfl):Row w2 p 31 #[.slice Av acc.length cv]);clear hG hd;obtain⟨E1,d1,hv1⟩:=h1.slice;have HR1:=YV hr;have c4:=hr.cell 0;have f4:=hr.free 0;simp at c4;clear hr h1;go_simp;exact⟨zf (zd _ p) 0 _,by first | exact HR1.out.set 0 (.slice E1 (acc.length+1) d1)|(rw[hv1];exact HR1.out.set 0 (.slice E1 (acc.length+1) d1))⟩)))
        |(refine Tame.walk3_known (by kernel_rfl) (fun _=>rfl) ?_;apply Exists.intro;refine⟨fun vals w2 hG hd=>?_,?_⟩;(focus(go_simp;first | exact Tame.Is.mk (Tame.Later.refl _)|(rw[if_neg];(focus exact Tame.Is.mk (Tame.Later.refl _));omega)))))
        simp only[Act.put,List.setIfInBounds_toArray,List.set_cons_zero,List.set_cons_succ,List.nil_append,List.cons_append,List.length_cons,List.length_nil,Nat.zero_add,Nat.reduceAdd])
      refine Tame.walk3_end fun vals w5 hG hts=>?_
      have HF0:Hid (Kp2 B2 b p v6 w5):=YV (hG 3 _ rfl (by kernel_rfl))
      have HF3:Hid (RA g c ts b vb 0 re.unit w5):=YV ((hts 3 _ rfl rfl:AftC g c ts b vb 0 re.unit (VNd B2 (Value.slice Av acc.length cv).ownBlock) (fun y=>∀ z L',re=.ok z L'→y=z) (vals 3) w5).1)
      have f5:AftS RN 78 5 B2 acc (fun y=>∀ z L',re=.ok z L'→y=z) (vals 5) w5:=hts 5 _ rfl rfl
      have f7:Row w5 p 31 #[vals 5]:=hts 7 _ rfl rfl
      obtain⟨y,hyy,f6⟩:=f5
      obtain⟨A7,c7,hv7,_⟩:=f6.slice
      rw[hv7] at f6 f7
      have HYY:=YV hyy
      have HF5:=YV f6
      have HF7:=YV f7
      clear f6 f7 hts hG hv7 hyy
      go_wp2_with fail
      go_roundg fl
      case rel=>exact⟨acc++[y],A7,c7,_,HNX.out y HYY.out,HF3.out,by simpa using HF7.out,HF5.out,HF0.out⟩
      case measure=>omega
     | false=>
      have HSE:Hid (prS acc.length Li=.ok () Li):=YV (by unfold prS;rw[if_neg (fun h=>by rw[← hbn] at h;cases h.2)])
      clear hbn HFL
      go_upto_region 9 with (go_at_call 44;refine(HIN.out _ HRT.out.1).mono ?_;rintro e w23 ⟨rfl,hb⟩;replace HRT:=YV (HRT.out.later hb);replace HPT:=YV (HPT.out.below hb HPT.out.lt);replace HOT:=YV (HOT.out.keep jg (zc hb none) (fun q e=>by cases e));replace HKT:=YV (HKT.out.step (zc hb none) hBx (fun q e=>by cases e));clear hb HIN)
      clear e4 ez hli hl
      have HRA:Hid (RA g c ts b vb 0 (prS acc.length Li) w23):=YV (by rw[HSE.out];exact HRT.out)
      have HV5:Hid (∀ q,(Value.slice Av acc.length cv).ownBlock=some q→B2≤q∧q<w23.heap.size):=YV (HOT.out.lt)
      refine Tame.wp_region_tamg (L:=Tame.Later) (M:=ME b p (Value.slice Av acc.length cv)) (gs:=jr g c ts b 0 p B2 (prS acc.length Li) vb v6 31 #[.slice Av acc.length cv] RN 78 5 acc (Value.slice Av acc.length cv)) [3,5,7] (by kernel_rfl) (by kernel_rfl) Tame.Later.refl (fun _ w=>World.grownBy.refl w _) (jk jg HRA.out HPT.out HOT.out HKT.out hbv hvp hpB hBx) ?_
      repeat
       ((first
        |(refine Tame.walk3_known (o:=⟨some 46,_,_,_,_,_⟩) (by kernel_rfl) (fun _=>rfl) ?_;apply Exists.intro;refine⟨fun vals w2 hG hd=>?_,?_⟩;(focus(have r:=(hG 1 _ rfl (by kernel_rfl):Row w2 p 31 #[.slice Av acc.length cv]);have u4:=r.cell 0;clear hd hG r;simp at u4;go_simp;exact Tame.Is.mk (Tame.Later.refl _))))
        |(refine Tame.walk3_write (o:=⟨some 48,_,_,_,_,_⟩) (AftC g c ts b vb 0 re.unit (VNd B2 (Value.slice Av acc.length cv).ownBlock) (fun y=>∀ z L',re=.ok z L'→y=z)) (none) ([5,7]) (fun _=>rfl) (by kernel_rfl) (by kernel_rfl) (fun u a c hl h=>AftC.later vJ h hl) (fun i _ hj u a c hs h=>AftC.turn vJ hj hs h (fun q hq=>(HV5.out q hq).1) hbv hvp hpB) (fun vals w2 hG hd=>?_) ?_;(focus(have ha2:=(hG 0 _ rfl (by kernel_rfl):RA g c ts b vb 0 (prS acc.length Li) w2);have hk2:=(hG 3 _ rfl (by kernel_rfl):Kp2 B2 b p v6 w2);have ho2:=(hG 2 _ rfl (by kernel_rfl):OwnW RN 78 5 B2 acc (Value.slice Av acc.length cv) w2);have HC:=YV (HND.out w2 ha2.1);have HA9:=YV ha2;have hk3:=hk2.size;have HO2:=YV ho2;clear hd hG ha2 hk2 ho2;go_simp;refine HC.out.mono ?_;rintro e w' ⟨y,v,rfl,⟨E1,d1,E2,d2,E3,d3,E4,d4,rfl,k1,k2,k3,k4⟩,g1,g2,g3⟩;exact⟨_,rfl,Tame.Leaves.mk g1 ⟨HA9.out.step g2 g1,y,g3,⟨E1,d1,E2,d2,E3,d3,E4,d4,rfl,k1.move (fun q hq=>⟨⟨by have:=hq.1;omega,hq.2,fun e=>by have:=(HO2.out.lt q e.symm).2;have:=hq.1;omega⟩,rfl⟩),k2.move (fun q hq=>⟨⟨by have:=hq.1;omega,hq.2,fun e=>by have:=(HO2.out.lt q e.symm).2;have:=hq.1;omega⟩,rfl⟩),k3.move (fun q hq=>⟨⟨by have:=hq.1;omega,hq.2,fun e=>by have:=(HO2.out.lt q e.symm).2;have:=hq.1;omega⟩,rfl⟩),k4.move (fun q hq=>⟨⟨by have:=hq.1;omega,hq.2,fun e=>by have:=(HO2.out.lt q e.symm).2;have:=hq.1;omega⟩,rfl⟩)⟩⟩⟩)))
        |(refine Tame.walk3_some (o:=⟨some 49,_,_,_,_,_⟩) (AftR (WNd B2 (Value.slice Av acc.length cv).ownBlock) (fun y=>∀ z L',re=.ok z L'→y=z)) (none) ([3,5,7]) (by kernel_rfl) (fun _=>rfl) (by kernel_rfl) (fun u a c hl h=>AftR.later (v:=(Value.slice Av acc.length cv)) vI h hl) (fun i _ hj u a c hs h=>AftR.turn vI hj hs h (by omega) hpB) (fun vals w2 hG hd=>?_) ?_;(focus(have h1:=(hd 3 _ rfl (by kernel_rfl) rfl:AftC g c ts b vb 0 re.unit (VNd B2 (Value.slice Av acc.length cv).ownBlock) (fun y=>∀ z L',re=.ok z L'→y=z) (vals 3) w2);have hk2:=(hG 3 _ rfl (by kernel_rfl):Kp2 B2 b p v6 w2);have hk3:=hk2.size;have ho2:=(hG 2 _ rfl (by kernel_rfl):OwnW RN 78 5 B2 acc (Value.slice Av acc.length cv) w2);have HO2:=YV ho2;clear hG hd hk2 ho2;obtain⟨ha2,y,hyy,E1,d1,E2,d2,E3,d3,E4,d4,hv1,k1,k2,k3,k4⟩:=h1;have HK1:=YV (⟨k1,k2,k3,k4⟩:NG w2 (Sb B2 (Value.slice Av acc.length cv).ownBlock w2) y E1 E2 E3 E4);clear k1 k2 k3 k4;clear ha2;go_simp;exact Tame.Has.mk ((Below.refl _ _).alloc (Nat.le_refl _) _) ⟨y,hyy,yS HK1.out (by omega) (fun e=>by have:=(HO2.out.lt _ e.symm).2;omega)⟩)))
        |(refine Tame.walk3_write (o:=⟨some 50,_,_,_,_,_⟩) (AftS RN 78 5 B2 acc (fun y=>∀ z L',re=.ok z L'→y=z)) (none) ([7]) (fun _=>rfl) (by kernel_rfl) (by kernel_rfl) (fun u a c hl h=>AftS.later jg h hl) (fun i _ hj u a c hs h=>by obtain rfl:=zZ hj;exact AftS.other (p:=p) jg h hs hpB) (fun vals w2 hG hd=>?_) ?_;(focus(have hk2:=(hG 3 _ rfl (by kernel_rfl):Kp2 B2 b p v6 w2);have hk3:=hk2.size;have h1:=(hd 4 _ rfl (by kernel_rfl) rfl:AftR (WNd B2 (Value.slice Av acc.length cv).ownBlock) (fun y=>∀ z L',re=.ok z L'→y=z) (vals 4) w2);have h2:=(hG 2 _ rfl (by kernel_rfl):OwnW RN 78 5 B2 acc (Value.slice Av acc.length cv) w2);clear hG hd hk2;obtain⟨y,hyy,g1,E1,d1,E2,d2,E3,d3,E4,d4,hv1,hr1,k1,k2,k3,k4,k5,k6⟩:=h1;obtain⟨cs,ho,hx⟩:=h2;exact zK (.tmp 46) (.tmp 49) _ rfl B2 78 i0 _ 5 112 Tryz.underlying29 HI0.out HI1.out HI2.out HI3.out rfl (by omega) (by omega) (Value.slice Av acc.length cv) _ cs rfl ho g1 1 78 (nd5 y E1 d1 E2 d2 E3 d3 E4 d4).toList hv1 rfl (by simpa using hr1) (jg.one (w:=w2) (S:=Sb B2 (Value.slice Av acc.length cv).ownBlock w2) (x:=y) ⟨E1,d1,E2,d2,E3,d3,E4,d4,rfl,k1,k2,k3,k4⟩) (by omega) (by omega) (fun v' w' ho' hgr hat=>⟨hgr,y,hyy,OwnW.snoc jg hx ho' hgr hat ⟨E1,d1,E2,d2,E3,d3,E4,d4,rfl,k1,k2,k3,k4⟩⟩))))
        |(refine Tame.walk3_lays (o:=⟨none,Op.store _ _ _,_,_,_,_⟩) (fun vals w=>Row w p 31 #[vals 5]) none ([]) ([5]) (fun _=>rfl) (by kernel_rfl) (by kernel_rfl) (by kernel_rfl) (fun vals vals' w hh h=>by rw[← hh 5 (by decide)];exact h) (fun vals w w' hl h=>Row.below h hl (Row.lt h)) (fun j hj hk=>by cases hk) (fun vals w2 hG hd=>?_) ?_;(focus(have h1:=(hd 5 _ rfl (by kernel_rfl) (by kernel_rfl):AftS RN 78 5 B2 acc (fun y=>∀ z L',re=.ok z L'→y=z) (vals 5) w2);have hr:=(hG 1 _ rfl (by kernel_rfl):Row w2 p 31 #[.slice Av acc.length cv]);clear hG hd;obtain⟨E1,d1,hv1⟩:=h1.slice;have HR1:=YV hr;have c4:=hr.cell 0;have f4:=hr.free 0;simp at c4;clear hr h1;go_simp;exact⟨zf (zd _ p) 0 _,by first | exact HR1.out.set 0 (.slice E1 (acc.length+1) d1)|(rw[hv1];exact HR1.out.set 0 (.slice E1 (acc.length+1) d1))⟩)))
        |(refine Tame.walk3_known (by kernel_rfl) (fun _=>rfl) ?_;apply Exists.intro;refine⟨fun vals w2 hG hd=>?_,?_⟩;(focus(go_simp;first | exact Tame.Is.mk (Tame.Later.refl _)|(rw[if_neg];(focus exact Tame.Is.mk (Tame.Later.refl _));omega)))))
        simp only[Act.put,List.setIfInBounds_toArray,List.set_cons_zero,List.set_cons_succ,List.nil_append,List.cons_append,List.length_cons,List.length_nil,Nat.zero_add,Nat.reduceAdd])
      refine Tame.walk3_end fun vals w5 hG hts=>?_
      have HF0:Hid (Kp2 B2 b p v6 w5):=YV (hG 3 _ rfl (by kernel_rfl))
      have HF3:Hid (RA g c ts b vb 0 re.unit w5):=YV ((hts 3 _ rfl rfl:AftC g c ts b vb 0 re.unit (VNd B2 (Value.slice Av acc.length cv).ownBlock) (fun y=>∀ z L',re=.ok z L'→y=z) (vals 3) w5).1)
      have f5:AftS RN 78 5 B2 acc (fun y=>∀ z L',re=.ok z L'→y=z) (vals 5) w5:=hts 5 _ rfl rfl
      have f7:Row w5 p 31 #[vals 5]:=hts 7 _ rfl rfl
      obtain⟨y,hyy,f6⟩:=f5
      obtain⟨A7,c7,hv7,_⟩:=f6.slice
      rw[hv7] at f6 f7
      have HYY:=YV hyy
      have HF5:=YV f6
      have HF7:=YV f7
      clear f6 f7 hts hG hv7 hyy
      go_wp2_with fail
      go_roundg fl
      case rel=>exact⟨acc++[y],A7,c7,_,HNX.out y HYY.out,HF3.out,by simpa using HF7.out,HF5.out,HF0.out⟩
      case measure=>omega
    ·have hli:¬ (1000:Int)≤(acc.length:Int):=by omega
     have HSE:Hid (prS acc.length Li=.ok () Li):=YV (by unfold prS;rw[if_neg (fun h=>hl h.1)])
     clear hbn HFL HIN
     go_upto_region 9 with fail
     clear e4 ez hli hl
     have HRA:Hid (RA g c ts b vb 0 (prS acc.length Li) w21):=YV (by rw[HSE.out];exact HRT.out)
     have HV5:Hid (∀ q,(Value.slice Av acc.length cv).ownBlock=some q→B2≤q∧q<w21.heap.size):=YV (HOT.out.lt)
     refine Tame.wp_region_tamg (L:=Tame.Later) (M:=ME b p (Value.slice Av acc.length cv)) (gs:=jr g c ts b 0 p B2 (prS acc.length Li) vb v6 31 #[.slice Av acc.length cv] RN 78 5 acc (Value.slice Av acc.length cv)) [3,5,7] (by kernel_rfl) (by kernel_rfl) Tame.Later.refl (fun _ w=>World.grownBy.refl w _) (jk jg HRA.out HPT.out HOT.out HKT.out hbv hvp hpB hBx) ?_
     repeat
      ((first
       |(refine Tame.walk3_known (o:=⟨some 46,_,_,_,_,_⟩) (by kernel_rfl) (fun _=>rfl) ?_;apply Exists.intro;refine⟨fun vals w2 hG hd=>?_,?_⟩;(focus(have r:=(hG 1 _ rfl (by kernel_rfl):Row w2 p 31 #[.slice Av acc.length cv]);have u4:=r.cell 0;clear hd hG r;simp at u4;go_simp;exact Tame.Is.mk (Tame.Later.refl _))))
       |(refine Tame.walk3_write (o:=⟨some 48,_,_,_,_,_⟩) (AftC g c ts b vb 0 re.unit (VNd B2 (Value.slice Av acc.length cv).ownBlock) (fun y=>∀ z L',re=.ok z L'→y=z)) (none) ([5,7]) (fun _=>rfl) (by kernel_rfl) (by kernel_rfl) (fun u a c hl h=>AftC.later vJ h hl) (fun i _ hj u a c hs h=>AftC.turn vJ hj hs h (fun q hq=>(HV5.out q hq).1) hbv hvp hpB) (fun vals w2 hG hd=>?_) ?_;(focus(have ha2:=(hG 0 _ rfl (by kernel_rfl):RA g c ts b vb 0 (prS acc.length Li) w2);have hk2:=(hG 3 _ rfl (by kernel_rfl):Kp2 B2 b p v6 w2);have ho2:=(hG 2 _ rfl (by kernel_rfl):OwnW RN 78 5 B2 acc (Value.slice Av acc.length cv) w2);have HC:=YV (HND.out w2 ha2.1);have HA9:=YV ha2;have hk3:=hk2.size;have HO2:=YV ho2;clear hd hG ha2 hk2 ho2;go_simp;refine HC.out.mono ?_;rintro e w' ⟨y,v,rfl,⟨E1,d1,E2,d2,E3,d3,E4,d4,rfl,k1,k2,k3,k4⟩,g1,g2,g3⟩;exact⟨_,rfl,Tame.Leaves.mk g1 ⟨HA9.out.step g2 g1,y,g3,⟨E1,d1,E2,d2,E3,d3,E4,d4,rfl,k1.move (fun q hq=>⟨⟨by have:=hq.1;omega,hq.2,fun e=>by have:=(HO2.out.lt q e.symm).2;have:=hq.1;omega⟩,rfl⟩),k2.move (fun q hq=>⟨⟨by have:=hq.1;omega,hq.2,fun e=>by have:=(HO2.out.lt q e.symm).2;have:=hq.1;omega⟩,rfl⟩),k3.move (fun q hq=>⟨⟨by have:=hq.1;omega,hq.2,fun e=>by have:=(HO2.out.lt q e.symm).2;have:=hq.1;omega⟩,rfl⟩),k4.move (fun q hq=>⟨⟨by have:=hq.1;omega,hq.2,fun e=>by have:=(HO2.out.lt q e.symm).2;have:=hq.1;omega⟩,rfl⟩)⟩⟩⟩)))
       |(refine Tame.walk3_some (o:=⟨some 49,_,_,_,_,_⟩) (AftR (WNd B2 (Value.slice Av acc.length cv).ownBlock) (fun y=>∀ z L',re=.ok z L'→y=z)) (none) ([3,5,7]) (by kernel_rfl) (fun _=>rfl) (by kernel_rfl) (fun u a c hl h=>AftR.later (v:=(Value.slice Av acc.length cv)) vI h hl) (fun i _ hj u a c hs h=>AftR.turn vI hj hs h (by omega) hpB) (fun vals w2 hG hd=>?_) ?_;(focus(have h1:=(hd 3 _ rfl (by kernel_rfl) rfl:AftC g c ts b vb 0 re.unit (VNd B2 (Value.slice Av acc.length cv).ownBlock) (fun y=>∀ z L',re=.ok z L'→y=z) (vals 3) w2);have hk2:=(hG 3 _ rfl (by kernel_rfl):Kp2 B2 b p v6 w2);have hk3:=hk2.size;have ho2:=(hG 2 _ rfl (by kernel_rfl):OwnW RN 78 5 B2 acc (Value.slice Av acc.length cv) w2);have HO2:=YV ho2;clear hG hd hk2 ho2;obtain⟨ha2,y,hyy,E1,d1,E2,d2,E3,d3,E4,d4,hv1,k1,k2,k3,k4⟩:=h1;have HK1:=YV (⟨k1,k2,k3,k4⟩:NG w2 (Sb B2 (Value.slice Av acc.length cv).ownBlock w2) y E1 E2 E3 E4);clear k1 k2 k3 k4;clear ha2;go_simp;exact Tame.Has.mk ((Below.refl _ _).alloc (Nat.le_refl _) _) ⟨y,hyy,yS HK1.out (by omega) (fun e=>by have:=(HO2.out.lt _ e.symm).2;omega)⟩)))
       |(refine Tame.walk3_write (o:=⟨some 50,_,_,_,_,_⟩) (AftS RN 78 5 B2 acc (fun y=>∀ z L',re=.ok z L'→y=z)) (none) ([7]) (fun _=>rfl) (by kernel_rfl) (by kernel_rfl) (fun u a c hl h=>AftS.later jg h hl) (fun i _ hj u a c hs h=>by obtain rfl:=zZ hj;exact AftS.other (p:=p) jg h hs hpB) (fun vals w2 hG hd=>?_) ?_;(focus(have hk2:=(hG 3 _ rfl (by kernel_rfl):Kp2 B2 b p v6 w2);have hk3:=hk2.size;have h1:=(hd 4 _ rfl (by kernel_rfl) rfl:AftR (WNd B2 (Value.slice Av acc.length cv).ownBlock) (fun y=>∀ z L',re=.ok z L'→y=z) (vals 4) w2);have h2:=(hG 2 _ rfl (by kernel_rfl):OwnW RN 78 5 B2 acc (Value.slice Av acc.length cv) w2);clear hG hd hk2;obtain⟨y,hyy,g1,E1,d1,E2,d2,E3,d3,E4,d4,hv1,hr1,k1,k2,k3,k4,k5,k6⟩:=h1;obtain⟨cs,ho,hx⟩:=h2;exact zK (.tmp 46) (.tmp 49) _ rfl B2 78 i0 _ 5 112 Tryz.underlying29 HI0.out HI1.out HI2.out HI3.out rfl (by omega) (by omega) (Value.slice Av acc.length cv) _ cs rfl ho g1 1 78 (nd5 y E1 d1 E2 d2 E3 d3 E4 d4).toList hv1 rfl (by simpa using hr1) (jg.one (w:=w2) (S:=Sb B2 (Value.slice Av acc.length cv).ownBlock w2) (x:=y) ⟨E1,d1,E2,d2,E3,d3,E4,d4,rfl,k1,k2,k3,k4⟩) (by omega) (by omega) (fun v' w' ho' hgr hat=>⟨hgr,y,hyy,OwnW.snoc jg hx ho' hgr hat ⟨E1,d1,E2,d2,E3,d3,E4,d4,rfl,k1,k2,k3,k4⟩⟩))))
       |(refine Tame.walk3_lays (o:=⟨none,Op.store _ _ _,_,_,_,_⟩) (fun vals w=>Row w p 31 #[vals 5]) none ([]) ([5]) (fun _=>rfl) (by kernel_rfl) (by kernel_rfl) (by kernel_rfl) (fun vals vals' w hh h=>by rw[← hh 5 (by decide)];exact h) (fun vals w w' hl h=>Row.below h hl (Row.lt h)) (fun j hj hk=>by cases hk) (fun vals w2 hG hd=>?_) ?_;(focus(have h1:=(hd 5 _ rfl (by kernel_rfl) (by kernel_rfl):AftS RN 78 5 B2 acc (fun y=>∀ z L',re=.ok z L'→y=z) (vals 5) w2);have hr:=(hG 1 _ rfl (by kernel_rfl):Row w2 p 31 #[.slice Av acc.length cv]);clear hG hd;obtain⟨E1,d1,hv1⟩:=h1.slice;have HR1:=YV hr;have c4:=hr.cell 0;have f4:=hr.free 0;simp at c4;clear hr h1;go_simp;exact⟨zf (zd _ p) 0 _,by first | exact HR1.out.set 0 (.slice E1 (acc.length+1) d1)|(rw[hv1];exact HR1.out.set 0 (.slice E1 (acc.length+1) d1))⟩)))
       |(refine Tame.walk3_known (by kernel_rfl) (fun _=>rfl) ?_;apply Exists.intro;refine⟨fun vals w2 hG hd=>?_,?_⟩;(focus(go_simp;first | exact Tame.Is.mk (Tame.Later.refl _)|(rw[if_neg];(focus exact Tame.Is.mk (Tame.Later.refl _));omega)))))
       simp only[Act.put,List.setIfInBounds_toArray,List.set_cons_zero,List.set_cons_succ,List.nil_append,List.cons_append,List.length_cons,List.length_nil,Nat.zero_add,Nat.reduceAdd])
     refine Tame.walk3_end fun vals w5 hG hts=>?_
     have HF0:Hid (Kp2 B2 b p v6 w5):=YV (hG 3 _ rfl (by kernel_rfl))
     have HF3:Hid (RA g c ts b vb 0 re.unit w5):=YV ((hts 3 _ rfl rfl:AftC g c ts b vb 0 re.unit (VNd B2 (Value.slice Av acc.length cv).ownBlock) (fun y=>∀ z L',re=.ok z L'→y=z) (vals 3) w5).1)
     have f5:AftS RN 78 5 B2 acc (fun y=>∀ z L',re=.ok z L'→y=z) (vals 5) w5:=hts 5 _ rfl rfl
     have f7:Row w5 p 31 #[vals 5]:=hts 7 _ rfl rfl
     obtain⟨y,hyy,f6⟩:=f5
     obtain⟨A7,c7,hv7,_⟩:=f6.slice
     rw[hv7] at f6 f7
     have HYY:=YV hyy
     have HF5:=YV f6
     have HF7:=YV f7
     clear f6 f7 hts hG hv7 hyy
     go_wp2_with fail
     go_roundg fl
     case rel=>exact⟨acc++[y],A7,c7,_,HNX.out y HYY.out,HF3.out,by simpa using HF7.out,HF5.out,HF0.out⟩
     case measure=>omega
theorem xe (s:T) (w:World) (hs:s.length≤999999):Calls Tryz.prog 22 #[.string ⟨s.toArray⟩] w (qX s w):=by
 rcases qp s with ⟨ts,h⟩ | ⟨a,code,h,hc⟩
 ·exact xO h w hs
 ·exact xP hc h w hs
end Go.Proofs.YtdabndiaflagpaaGreatDoor
