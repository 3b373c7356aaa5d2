/- Parts: BkP. -/
import Derived.Test.YtdabndiaflagpaaGreatDoorK02
set_option maxRecDepth 100000
set_option maxHeartbeats 4000000
namespace Go.Proofs.YtdabndiaflagpaaGreatDoor.bk
open Go.RowKit Go.Proofs.YtdabndiaflagpaaGreatDoor
attribute [local go_sem] Tame.Op Tame.upon
theorem QS.atc {w w':World} {S:Nat→Prop} {A:Option Addr} {l:List Q} (h:QS w S A l) (hS:∀ b,S b→b<w.heap.size) (hb:Below w.heap.size w w') {i:Nat} {x:Q} (hi:l[i]? = some x) :
  ∃ b off A1 c1 A2 c2,A=some ⟨b,off,none⟩∧w'.cell? ⟨b,off+i * 6,none⟩=some (.slice A1 x.lhs.length c1)∧w'.cell? ⟨b,off+i * 6+1,none⟩=some (.int .i64 x.rhs.k)∧w'.cell? ⟨b,off+i * 6+2,none⟩=some (.int .i64 x.rhs.o)∧
   w'.cell? ⟨b,off+i * 6+3,none⟩=some (.int .i64 x.rhs.n)∧w'.cell? ⟨b,off+i * 6+4,none⟩=some (.string ⟨x.rhs.s.toArray⟩)∧w'.cell? ⟨b,off+i * 6+5,none⟩=some (.slice A2 x.rhs.ks.length c2)∧TS w' S A1 x.lhs∧KS w' S A2 x.rhs.ks∧b<w.heap.size∧x.lhs.length≤c1:=by
 obtain⟨b,off,hA,hq,⟨A1,c1,c0,h1,hle⟩,he⟩:=Rw.at (h.move (stay hS hb)) hi
 obtain⟨A2,c2,e0,e1,e2,e3,e4,hk⟩:=he.ev
 exact⟨b,off,A1,c1,A2,c2,hA,c0,e0,e1,e2,e3,e4,h1,hk,hS b hq,hle⟩
theorem ownProg_any (l:List Nd) (A:Option Addr) (c:Nat) (w:World) (S:Nat→Prop) (hl:okNs l) (hll:l.length≤1099511627775) (hA0:NS w S A l) (hS:∀ b,S b→b<w.heap.size) :
  Calls Tryz.prog 25 #[.agg #[.slice A l.length c]] w (ProgMade w S l):=by
 obtain⟨ino,hin,hzn0,hzn1,hzn2⟩:=info_parts ym
 obtain⟨iq,hiq,hzq0,hzq1,hzq2⟩:=info_parts qu
 have HL:=YV hl
 have HN:=YV hA0
 clear hl hA0
 go_enter Tryz.func25,Tryz.ntmps25
 go_wp2_with fail
 go_loopw [4] (fun i wr=>∃ (j:Nat) (v:Value),j≤l.length∧i=.int .i64 j∧Row wr w.heap.size 36 #[.slice A l.length c]∧Row wr (w.heap.size+1) 31 #[.slice none 0 0]∧Row wr (w.heap.size+2) 31 #[v]∧AppN w S (w.heap.size+3) (l.take j) v wr∧Below w.heap.size w wr∧w.heap.size+3≤wr.heap.size) (fun i _=>l.length - (intOf i).toNat)
 case atStart=>
  refine⟨0,.slice none 0 0,by omega,rfl,?_,?_,?_,OwnG.nil _ _ _ _ _ _,?_,by simp⟩
  ·exact((Row.made w 36 _).alloc _).alloc _
  ·have:=(Row.made (w.alloc (.cells #[.slice A l.length c] 36)) 31 #[.slice none 0 0])
   rw[World.size_alloc] at this
   exact this.alloc _
  ·have:=(Row.made ((w.alloc (.cells #[.slice A l.length c] 36)).alloc (.cells #[.slice none 0 0] 31)) 31 #[.slice none 0 0])
   rw[World.size_alloc,World.size_alloc] at this
   exact this
  ·exact(((Below.refl _ _).alloc (Nat.le_refl _) _).alloc (by simp) _).alloc (by simp;omega) _
 case round=>
  obtain⟨j,vo,hj,rfl,hr,hr1,hr2,ho,hbw,hsz⟩:=hrel
  by_cases hlt:j<l.length
  ·obtain⟨x,hx⟩:∃ x,l[j]? = some x:=⟨_,List.getElem?_eq_getElem hlt⟩
   obtain⟨b,off,A1,c1,A2,c2,A3,c3,A4,c4,rfl,d0,d1,d2,d3,d4,h1,h2,h3,h4,hbl⟩:=HN.out.at' hS hbw hx
   have hxo:=HL.out.2 x (j7 hx)
   have HR:=YV hr
   have HR1:=YV hr1
   have HR2:=YV hr2
   have HO:=YV ho
   have HBW:=YV hbw
   have HX:=YV hx
   have HXO:=YV hxo
   have hxl1:=hxo.2.1.1
   have hxl2:=hxo.2.2.1.1
   have hxl3:=hxo.2.2.2.1.1
   have hxl4:=hxo.2.2.2.2.1
   have hws:=hbw.size
   have HVO:Hid (∀ q,vo.ownBlock=some q→w.heap.size+3≤q∧q<wr.heap.size):=ho.lt
   have H1:=YV h1
   have H2:=YV h2
   have H3:=YV h3
   have H4:=YV h4
   have HSR:Hid (∀ b,S b→b<wr.heap.size):=jI hS hbw
   have r0:=hr.cell 0
   simp at r0
   clear hr hr1 hr2 ho hbw hx hxo h1 h2 h3 h4
   go_wp2_with fail
   -- the struct n
   have HRN:Hid (Row (wr.alloc (.cells #[.string ⟨x.name.toArray⟩,.slice A1 x.ins.length c1,.slice A2 x.outs.length c2,.slice A3 x.locals.length c3,.slice A4 x.eqs.length c4] 41)) wr.heap.size 41 #[.string ⟨x.name.toArray⟩,.slice A1 x.ins.length c1,.slice A2 x.outs.length c2,.slice A3 x.locals.length c3,.slice A4 x.eqs.length c4]):=Row.made _ _ _
   have HBA:Hid (Below wr.heap.size wr (wr.alloc (.cells #[.string ⟨x.name.toArray⟩,.slice A1 x.ins.length c1,.slice A2 x.outs.length c2,.slice A3 x.locals.length c3,.slice A4 x.eqs.length c4] 41))):=(Below.refl _ _).alloc (Nat.le_refl _) _
   have hsa:(wr.alloc (.cells #[.string ⟨x.name.toArray⟩,.slice A1 x.ins.length c1,.slice A2 x.outs.length c2,.slice A3 x.locals.length c3,.slice A4 x.eqs.length c4] 41)).heap.size=wr.heap.size+1:=by simp
   generalize wr.alloc (.cells #[.string ⟨x.name.toArray⟩,.slice A1 x.ins.length c1,.slice A2 x.outs.length c2,.slice A3 x.locals.length c3,.slice A4 x.eqs.length c4] 41)=wa at HRN HBA hsa ⊢
   obtain⟨G,hGe⟩:∃ G,G=wr.heap.size:=⟨_,rfl⟩
   rw[← hGe] at HRN HBA hsa ⊢
   have hbN:∀ b,S b→b<G:=fun b hb=>by rw[hGe];exact HSR.out b hb
   have HBN:=YV hbN
   have HGE:=YV hGe
   have hwG:w.heap.size+3≤G:=by omega
   have HC1:Hid (∀ w2,Below (G+1) wa w2→Calls Tryz.prog 49 #[.slice A1 x.ins.length c1] w2 (VarsMade w2 x.ins)):=fun w2 hb2=>ownVars_any x.ins A1 c1 w2 S (by omega) (H1.out.move fun q hq=>⟨hq,(hb2.block q (by have:=HBN.out q hq;omega)).trans (HBA.out.block q (HBN.out q hq))⟩) (fun q hq=>by have:=HBN.out q hq;have:=hb2.size;omega)
   have HC2:Hid (∀ w2,Below (G+1) wa w2→Calls Tryz.prog 49 #[.slice A2 x.outs.length c2] w2 (VarsMade w2 x.outs)):=fun w2 hb2=>ownVars_any x.outs A2 c2 w2 S (by omega) (H2.out.move fun q hq=>⟨hq,(hb2.block q (by have:=HBN.out q hq;omega)).trans (HBA.out.block q (HBN.out q hq))⟩) (fun q hq=>by have:=HBN.out q hq;have:=hb2.size;omega)
   have HC3:Hid (∀ w2,Below (G+1) wa w2→Calls Tryz.prog 49 #[.slice A3 x.locals.length c3] w2 (VarsMade w2 x.locals)):=fun w2 hb2=>ownVars_any x.locals A3 c3 w2 S (by omega) (H3.out.move fun q hq=>⟨hq,(hb2.block q (by have:=HBN.out q hq;omega)).trans (HBA.out.block q (HBN.out q hq))⟩) (fun q hq=>by have:=HBN.out q hq;have:=hb2.size;omega)
   clear hbN r0 hGe
   go_wp2_with fail
   refine Tame.wp_region_tamg (L:=Tame.Later) (M:=fun _ a b=>Turn6 (G+1) a b) (gs:=ghosts6 (G+1) wa) [13] (by kernel_rfl) (by kernel_rfl) Tame.Later.refl (fun _ w=>Turn6.refl _ w) (ghosts6_ok (by omega)) ?_
   repeat
    ((first
     |(refine Tame.walk3_known (o:=⟨some 21,_,_,_,_,_⟩) (by kernel_rfl) (fun _=>rfl) ?_;apply Exists.intro;refine⟨fun vals w2 hG hd=>?_,?_⟩;(focus(have hb2:=(hG 0 _ rfl (by kernel_rfl):Below (G+1) wa w2);have hzz:=hb2.size;have hv:=(HRN.out.below hb2 (by omega)).cell 0;simp at hv;clear hG hd hb2;go_simp;exact Tame.Is.mk (Tame.Later.refl _))))
     |(refine Tame.walk3_known (o:=⟨some 23,_,_,_,_,_⟩) (by kernel_rfl) (fun _=>rfl) ?_;apply Exists.intro;refine⟨fun vals w2 hG hd=>?_,?_⟩;(focus(have hb2:=(hG 0 _ rfl (by kernel_rfl):Below (G+1) wa w2);have hzz:=hb2.size;have hv:=(HRN.out.below hb2 (by omega)).cell 1;simp at hv;clear hG hd hb2;go_simp;exact Tame.Is.mk (Tame.Later.refl _))))
     |(refine Tame.walk3_known (o:=⟨some 26,_,_,_,_,_⟩) (by kernel_rfl) (fun _=>rfl) ?_;apply Exists.intro;refine⟨fun vals w2 hG hd=>?_,?_⟩;(focus(have hb2:=(hG 0 _ rfl (by kernel_rfl):Below (G+1) wa w2);have hzz:=hb2.size;have hv:=(HRN.out.below hb2 (by omega)).cell 2;simp at hv;clear hG hd hb2;go_simp;exact Tame.Is.mk (Tame.Later.refl _))))
     |(refine Tame.walk3_known (o:=⟨some 29,_,_,_,_,_⟩) (by kernel_rfl) (fun _=>rfl) ?_;apply Exists.intro;refine⟨fun vals w2 hG hd=>?_,?_⟩;(focus(have hb2:=(hG 0 _ rfl (by kernel_rfl):Below (G+1) wa w2);have hzz:=hb2.size;have hv:=(HRN.out.below hb2 (by omega)).cell 3;simp at hv;clear hG hd hb2;go_simp;exact Tame.Is.mk (Tame.Later.refl _))))
     |(refine Tame.walk3_some (o:=⟨some 24,_,_,_,_,_⟩) (VarW (G+1) x.ins) (none) ([13]) (by kernel_rfl) (fun _=>rfl) (by kernel_rfl) (fun u a c hl h=>h.later hl) (fun i _ _ u a c hs h=>h.turn hs) (fun vals w2 hG hd=>?_) ?_;(focus(have hb2:=(hG 0 _ rfl (by kernel_rfl):Below (G+1) wa w2);have hzz:=hb2.size;have HC:=YV (HC1.out w2 hb2);clear hG hd hb2;go_simp;refine HC.out.mono ?_;rintro e w' ⟨A1,c1,rfl,hv1,hb1⟩;exact⟨_,rfl,hb1,A1,c1,rfl,hv1.move fun q hq=>⟨⟨by have:=hq.1;omega,hq.2⟩,rfl⟩⟩)))
     |(refine Tame.walk3_some (o:=⟨some 27,_,_,_,_,_⟩) (VarW (G+1) x.outs) (none) ([13]) (by kernel_rfl) (fun _=>rfl) (by kernel_rfl) (fun u a c hl h=>h.later hl) (fun i _ _ u a c hs h=>h.turn hs) (fun vals w2 hG hd=>?_) ?_;(focus(have hb2:=(hG 0 _ rfl (by kernel_rfl):Below (G+1) wa w2);have hzz:=hb2.size;have HC:=YV (HC2.out w2 hb2);clear hG hd hb2;go_simp;refine HC.out.mono ?_;rintro e w' ⟨A1,c1,rfl,hv1,hb1⟩;exact⟨_,rfl,hb1,A1,c1,rfl,hv1.move fun q hq=>⟨⟨by have:=hq.1;omega,hq.2⟩,rfl⟩⟩)))
     |(refine Tame.walk3_some (o:=⟨some 30,_,_,_,_,_⟩) (VarW (G+1) x.locals) (none) ([13]) (by kernel_rfl) (fun _=>rfl) (by kernel_rfl) (fun u a c hl h=>h.later hl) (fun i _ _ u a c hs h=>h.turn hs) (fun vals w2 hG hd=>?_) ?_;(focus(have hb2:=(hG 0 _ rfl (by kernel_rfl):Below (G+1) wa w2);have hzz:=hb2.size;have HC:=YV (HC3.out w2 hb2);clear hG hd hb2;go_simp;refine HC.out.mono ?_;rintro e w' ⟨A1,c1,rfl,hv1,hb1⟩;exact⟨_,rfl,hb1,A1,c1,rfl,hv1.move fun q hq=>⟨⟨by have:=hq.1;omega,hq.2⟩,rfl⟩⟩)))
     |(refine Tame.walk3_some (o:=⟨some 31,_,_,_,_,_⟩) (BldN (G+1) x) (none) ([13]) (by kernel_rfl) (fun _=>rfl) (by kernel_rfl) (fun u a c hl h=>h.later hl) (fun i _ _ u a c hs h=>h.turn hs) (fun vals w2 hG hd=>?_) ?_;(focus(have h1:=(hd 4 _ rfl (by kernel_rfl) rfl:VarW (G+1) x.ins (vals 4) w2);have h2:=(hd 7 _ rfl (by kernel_rfl) rfl:VarW (G+1) x.outs (vals 7) w2);have h3:=(hd 10 _ rfl (by kernel_rfl) rfl:VarW (G+1) x.locals (vals 10) w2);clear hG hd;obtain⟨E1,f1,hv1,hk1⟩:=h1;obtain⟨E2,f2,hv2,hk2⟩:=h2;obtain⟨E3,f3,hv3,hk3⟩:=h3;have HK:=YV (And.intro hk1 (And.intro hk2 hk3));clear hk1 hk2 hk3;go_simp;exact Tame.Has.mk (Tame.Later.refl _) ⟨E1,f1,E2,f2,E3,f3,rfl,HK.out⟩)))
     |(refine Tame.walk3_some (o:=⟨some 6,_,_,_,_,_⟩) (AllN (G+1)) (some 13) ([]) (by kernel_rfl) (fun _=>rfl) (by kernel_rfl) (fun u a c hl h=>h.later hl) (fun i _ hj=>by cases hj) (fun vals w2 hG hd=>?_) ?_;(focus(have hb2:=(hG 0 _ rfl (by kernel_rfl):Below (G+1) wa w2);have hzz:=hb2.size;clear hG hd hb2;go_simp;exact Tame.Has.mk ((Below.refl _ _).alloc (Nat.le_refl _) _) ⟨w2.heap.size,rfl,Row.made _ _ _,by omega⟩)))
     |(refine Tame.walk3_lays (o:=⟨none,Op.store _ _ _,_,_,_,_⟩) (LaidN (G+1) x) none ([]) ([12]) (fun _=>rfl) (by kernel_rfl) (by kernel_rfl) (by kernel_rfl) (fun vals vals' w hh h=>h.same (hh 12 (by decide))) (fun vals w w' hl h=>h.later hl) (fun j hj hk=>by cases hk) (fun vals w2 hG hd=>?_) ?_;(focus(have h1:=(hd 11 _ rfl (by kernel_rfl) rfl:BldN (G+1) x (vals 11) w2);have h2:=(hd 12 _ rfl (by kernel_rfl) (by kernel_rfl):AllN (G+1) (vals 12) w2);clear hG hd;obtain⟨E1,f1,E2,f2,E3,f3,hv1,hk1⟩:=h1;obtain⟨g,hv2,hr,hg⟩:=h2;have HK:=YV hk1;have HR:=YV hr;have HG:=YV hg;have q0:=hr.cell 0;have q1:=hr.cell 1;have q2:=hr.cell 2;have q3:=hr.cell 3;have q4:=hr.cell 4;have p0:=hr.free 0;have p1:=hr.free 1;have p2:=hr.free 2;have p3:=hr.free 3;have p4:=hr.free 4;simp at q0 q1 q2 q3 q4;clear hk1 hr hg;go_simp;have z:=((((HR.out.set 0 (.string ⟨x.name.toArray⟩)).set 1 (.slice E1 x.ins.length f1)).set 2 (.slice E2 x.outs.length f2)).set 3 (.slice E3 x.locals.length f3)).set 4 (.slice none 0 0);have z1:=(HR.out.set 0 (.string ⟨x.name.toArray⟩));have z2:=(z1.set 1 (.slice E1 x.ins.length f1));have z3:=(z2.set 2 (.slice E2 x.outs.length f2));have z4:=(z3.set 3 (.slice E3 x.locals.length f3));have zt:=((((((Turn6.refl (G+1) w2).set HG.out HR.out 0 (.string ⟨x.name.toArray⟩)).set HG.out HR.out 1 (.slice E1 x.ins.length f1)).set HG.out HR.out 2 (.slice E2 x.outs.length f2)).set HG.out HR.out 3 (.slice E3 x.locals.length f3)).set HG.out HR.out 4 (.slice none 0 0));exact⟨zt,⟨g,E1,f1,E2,f2,E3,f3,hv2,HG.out,by simpa using z,HK.out.turn zt⟩⟩)))
     |(refine Tame.walk3_known (by kernel_rfl) (fun _=>rfl) ?_;apply Exists.intro;refine⟨fun vals w2 hG hd=>?_,?_⟩;(focus(go_simp;first | exact Tame.Is.mk (Tame.Later.refl _)|(rw[if_neg];(focus exact Tame.Is.mk (Tame.Later.refl _));omega)))))
     simp only[Act.put,List.setIfInBounds_toArray,List.set_cons_zero,List.set_cons_succ,List.nil_append,List.cons_append,List.length_cons,List.length_nil,Nat.zero_add,Nat.reduceAdd])
   refine Tame.walk3_end fun vals wl hG hts=>?_
   have f0:Below (G+1) wa wl:=hG 0 _ rfl (by kernel_rfl)
   have f1:LaidN (G+1) x vals wl:=hts 13 _ rfl rfl
   obtain⟨g,E1,f1',E2,f2',E3,f3',hv12,hgG,hrg,hth⟩:=f1
   have FB:=YV f0
   have FT:=YV hth
   have hsl:=f0.size
   have HHN:Hid (HeldN g x.name (.slice E1 x.ins.length f1') (.slice E2 x.outs.length f2') (.slice E3 x.locals.length f3') (.slice none 0 0) wl):=YV hrg
   have hgl:g<wl.heap.size:=hrg.lt
   have HRL:Hid (Row wl G 41 #[.string ⟨x.name.toArray⟩,.slice A1 x.ins.length c1,.slice A2 x.outs.length c2,.slice A3 x.locals.length c3,.slice A4 x.eqs.length c4]):=HRN.out.below f0 (by omega)
   rw[hv12]
   clear f0 hth hrg hG hts HC1 HC2 HC3
   go_wp2_with fail
   obtain⟨u1,hu1⟩:∃ u,u=Value.slice E1 x.ins.length f1':=⟨_,rfl⟩
   obtain⟨u2,hu2⟩:∃ u,u=Value.slice E2 x.outs.length f2':=⟨_,rfl⟩
   obtain⟨u3,hu3⟩:∃ u,u=Value.slice E3 x.locals.length f3':=⟨_,rfl⟩
   rw[← hu1,← hu2,← hu3] at HHN
   have HU1:=YV hu1
   have HU2:=YV hu2
   have HU3:=YV hu3
   clear hu1 hu2 hu3
   have HWO:Hid (∀ q,w.heap.size+3≤q→True):=fun _ _=>trivial
   have HNE:Hid (some G≠some g):=YV (by intro e;injection e with e;omega)
   have HGB:Hid (g<wl.heap.size):=hgl
   obtain⟨wq,hwq⟩:∃ wq,wq=wr:=⟨wr,rfl⟩
   have HBQ:Hid (Below G wq wl):=YV (by rw[hwq];exact HBA.out.trans (FB.out.mono (by omega)))
   have HS4:Hid (∀ w2,wl.grownBy w2 (some g)→∀ q,S q→w2.heap[q]? = wq.heap[q]?∧q<w2.heap.size):=fun w2 h2 q hq=>⟨(h2.block q (by have:=HBN.out q hq;omega) (by intro e;injection e with e;have:=HBN.out q hq;omega)).trans (HBQ.out.block q (HBN.out q hq)),by have:=HBN.out q hq;have:=h2.size;omega⟩
   rw[← hwq] at HR HR1 HR2 HO HBW HVO H4 HSR hsz hws HGE
   clear HBA HRN H1 H2 H3 hwq FB hsa
   go_loopw [7] (fun k w2=>∃ (i:Nat) (v:Value),i≤x.eqs.length∧k=.int .i64 i∧HeldN g x.name u1 u2 u3 v w2∧AppQ w S wl.heap.size (x.eqs.take i) v w2∧wl.grownBy w2 (some g)) (fun k _=>x.eqs.length - (intOf k).toNat)
   case atStart=>exact⟨0,.slice none 0 0,by omega,rfl,HHN.out,OwnG.nil _ _ _ _ _ _,zd _ _⟩
   case round=>
    obtain⟨i,v,hi,rfl,hh,hq,hg⟩:=hrel
    have hgs:=hg.size
    have RN4:=(HRL.out.grown hg HNE.out).cell 4
    simp at RN4
    have HH:=YV hh
    have HAQ:=YV hq
    have HGR:=YV hg
    by_cases hlt2:i<x.eqs.length
    ·obtain⟨q,hq1⟩:∃ q,x.eqs[i]? = some q:=⟨_,List.getElem?_eq_getElem hlt2⟩
     obtain⟨b',off',P1,m1,P2,m2,rfl,e0,e1,e2,e3,e4,e5,hts,hks,hbl',hmc⟩:=QS.atc H4.out HSR.out (Below.refl _ _) hq1
     have hqo:=HXO.out.2.2.2.2.2 q (j7 hq1)
     have hql:=hqo.1.1
     have HCO:Hid (∀ w2,wl.grownBy w2 (some g)→Calls Tryz.prog 50 #[.agg #[.int .i64 q.rhs.k,.int .i64 q.rhs.o,.int .i64 q.rhs.n,.string ⟨q.rhs.s.toArray⟩,.slice P2 q.rhs.ks.length m2]] w2 (OwnMade w2 q.rhs)):=fun w2 h2=>
      Own_any 1099511627775 q.rhs P2 m2 w2 S hqo.2.2 (Nat.le_refl _) (hks.move fun b hb=>⟨hb,(HS4.out w2 h2 b hb).1⟩) (fun b hb=>(HS4.out w2 h2 b hb).2)
     have HTS:Hid (TS w S P1 q.lhs):=YV (hts.move fun b hb=>⟨hb,(HBW.out.block b (hS b hb)).symm⟩)
     have HMC:Hid (q.lhs.length≤m1):=YV hmc
     have hbG:b'<G:=by have:=HGE.out;omega
     have hbw':b'<wl.heap.size:=by omega
     have hbn':some b'≠some g:=by intro e;injection e with e;omega
     have HBB:=YV HBQ.out
     have E0:Hid (wl.cell? ⟨b',off'+i * 6,none⟩=_):=(HBB.out.cell (p:=⟨b',off'+i * 6,none⟩) (by show b'<G;omega)).trans e0
     have E1:Hid (wl.cell? ⟨b',off'+i * 6+1,none⟩=_):=(HBB.out.cell (p:=⟨b',off'+i * 6+1,none⟩) (by show b'<G;omega)).trans e1
     have E2:Hid (wl.cell? ⟨b',off'+i * 6+2,none⟩=_):=(HBB.out.cell (p:=⟨b',off'+i * 6+2,none⟩) (by show b'<G;omega)).trans e2
     have E3:Hid (wl.cell? ⟨b',off'+i * 6+3,none⟩=_):=(HBB.out.cell (p:=⟨b',off'+i * 6+3,none⟩) (by show b'<G;omega)).trans e3
     have E4:Hid (wl.cell? ⟨b',off'+i * 6+4,none⟩=_):=(HBB.out.cell (p:=⟨b',off'+i * 6+4,none⟩) (by show b'<G;omega)).trans e4
     have E5:Hid (wl.cell? ⟨b',off'+i * 6+5,none⟩=_):=(HBB.out.cell (p:=⟨b',off'+i * 6+5,none⟩) (by show b'<G;omega)).trans e5
     have HQ:=YV hq1
     have HV:Hid (∀ q,v.ownBlock=some q→wl.heap.size≤q∧q<wr.heap.size):=hq.lt
     clear hh hq hg hq1 hqo hts hks hmc e0 e1 e2 e3 e4 e5
     go_wp2_with fail
     refine Tame.wp_region_tamg (L:=Tame.Later) (M:=Turn2 g v.ownBlock) (gs:=ghosts10 w S wl.heap.size g wl wr x.name u1 u2 u3 v (x.eqs.take i)) [17,19] (by kernel_rfl) (by kernel_rfl) Tame.Later.refl (Turn2.refl _ _) (ghosts10_ok hgl rfl HGR.out HH.out HAQ.out) ?_
     repeat
      ((first
       |(refine Tame.walk3_known (o:=⟨some 40,_,_,_,_,_⟩) (by kernel_rfl) (fun _=>rfl) ?_;apply Exists.intro;refine⟨fun vals w2 hG hd=>?_,?_⟩;(focus(have hv:=(hG 1 _ rfl (by kernel_rfl):HeldN g x.name u1 u2 u3 v w2);have hv:=(show Row w2 g 78 _ from hv).cell 4;clear hG hd;simp at hv;go_simp;exact Tame.Is.mk (Tame.Later.refl _))))
       |(refine Tame.walk3_known (o:=⟨some 42,_,_,_,_,_⟩) (by kernel_rfl) (fun _=>rfl) ?_;apply Exists.intro;refine⟨fun vals w2 hG hd=>?_,?_⟩;(focus(have hg3:=(hG 0 _ rfl (by kernel_rfl):wl.grownBy w2 (some g)∧wr.heap.size≤w2.heap.size);have hg2:=hg3.1;have hzr:=hg3.2;have hzz:=hg2.size;clear hg3;have hv:=(HRL.out.grown hg2 HNE.out).cell 4;simp at hv;clear hG hd hg2;go_simp;exact Tame.Is.mk (Tame.Later.refl _))))
       |(refine Tame.walk3_known (o:=⟨some 46,_,_,_,_,_⟩) (by kernel_rfl) (fun _=>rfl) ?_;apply Exists.intro;refine⟨fun vals w2 hG hd=>?_,?_⟩;(focus(have hg3:=(hG 0 _ rfl (by kernel_rfl):wl.grownBy w2 (some g)∧wr.heap.size≤w2.heap.size);have hg2:=hg3.1;have hzr:=hg3.2;have hzz:=hg2.size;clear hg3;have k0:=(hg2.cell_far ⟨b',off'+i * 6,none⟩ hbw' hbn').trans E0.out;clear hG hd hg2;go_simp;exact Tame.Is.mk (Tame.Later.refl _))))
       |(refine Tame.walk3_known (o:=⟨some 48,_,_,_,_,_⟩) (by kernel_rfl) (fun _=>rfl) ?_;apply Exists.intro;refine⟨fun vals w2 hG hd=>?_,?_⟩;(focus(have hg3:=(hG 0 _ rfl (by kernel_rfl):wl.grownBy w2 (some g)∧wr.heap.size≤w2.heap.size);have hg2:=hg3.1;have hzr:=hg3.2;have hzz:=hg2.size;clear hg3;have hv:=(HRL.out.grown hg2 HNE.out).cell 4;simp at hv;clear hG hd hg2;go_simp;exact Tame.Is.mk (Tame.Later.refl _))))
       |(refine Tame.walk3_known (o:=⟨some 52,_,_,_,_,_⟩) (by kernel_rfl) (fun _=>rfl) ?_;apply Exists.intro;refine⟨fun vals w2 hG hd=>?_,?_⟩;(focus(have hg3:=(hG 0 _ rfl (by kernel_rfl):wl.grownBy w2 (some g)∧wr.heap.size≤w2.heap.size);have hg2:=hg3.1;have hzr:=hg3.2;have hzz:=hg2.size;clear hg3;have k1:=(hg2.cell_far ⟨b',off'+i * 6+1,none⟩ hbw' hbn').trans E1.out;have k2:=(hg2.cell_far ⟨b',off'+i * 6+2,none⟩ hbw' hbn').trans E2.out;have k3:=(hg2.cell_far ⟨b',off'+i * 6+3,none⟩ hbw' hbn').trans E3.out;have k4:=(hg2.cell_far ⟨b',off'+i * 6+4,none⟩ hbw' hbn').trans E4.out;have k5:=(hg2.cell_far ⟨b',off'+i * 6+5,none⟩ hbw' hbn').trans E5.out;clear hG hd hg2;go_simp;exact Tame.Is.mk (Tame.Later.refl _))))
       |(refine Tame.walk3_some (o:=⟨some 53,_,_,_,_,_⟩) (OwnVal wl.heap.size v q.rhs) (none) ([17,19]) (by kernel_rfl) (fun _=>rfl) (by kernel_rfl) (fun u a c hl h=>(firmOwn wl.heap.size v q.rhs).later h hl) (fun i _ _ u a c hs h=>(firmOwn wl.heap.size v q.rhs).turn (p:=g) HGB.out h hs) (fun vals w2 hG hd=>?_) ?_;(focus(have hg3:=(hG 0 _ rfl (by kernel_rfl):wl.grownBy w2 (some g)∧wr.heap.size≤w2.heap.size);have hg2:=hg3.1;have hzr:=hg3.2;have hzz:=hg2.size;clear hg3;have HC:=YV (HCO.out w2 hg2);clear hG hd hg2;go_simp;refine HC.out.mono ?_;rintro e w' ⟨A1,c1,rfl,hk1,hb1⟩;exact⟨_,rfl,hb1,A1,c1,rfl,hk1.move fun q hq=>⟨⟨by omega,hq.2,fun e=>by have:=HV.out q e.symm;omega⟩,rfl⟩⟩)))
       |(refine Tame.walk3_some (o:=⟨some 54,_,_,_,_,_⟩) (EqV w S wl.heap.size v q) (none) ([17,19]) (by kernel_rfl) (fun _=>rfl) (by kernel_rfl) (fun u a c hl h=>(firmEq w S wl.heap.size v q).later h hl) (fun i _ _ u a c hs h=>(firmEq w S wl.heap.size v q).turn (p:=g) HGB.out h hs) (fun vals w2 hG hd=>?_) ?_;(focus(have h2:=(hd 14 _ rfl (by kernel_rfl) rfl:OwnVal wl.heap.size v q.rhs (vals 14) w2);clear hG hd;obtain⟨E2,f2,hv2,hk2⟩:=h2;unfold ev at hv2;have HK2:=YV hk2;clear hk2;go_simp;exact Tame.Has.mk (Tame.Later.refl _) ⟨P1,m1,E2,f2,rfl,HTS.out,HK2.out,HMC.out⟩)))
       |(refine Tame.walk3_some (o:=⟨some 55,_,_,_,_,_⟩) (NewQ w S wl.heap.size v q) (none) ([17,19]) (by kernel_rfl) (fun _=>rfl) (by kernel_rfl) (fun u a c hl h=>(firmNewQ w S wl.heap.size v q).later h hl) (fun i _ _ u a c hs h=>(firmNewQ w S wl.heap.size v q).turn (p:=g) HGB.out h hs) (fun vals w2 hG hd=>?_) ?_;(focus(have hg3:=(hG 0 _ rfl (by kernel_rfl):wl.grownBy w2 (some g)∧wr.heap.size≤w2.heap.size);have hg2:=hg3.1;have hzr:=hg3.2;have hzz:=hg2.size;clear hg3;have h1:=(hd 15 _ rfl (by kernel_rfl) rfl:EqV w S wl.heap.size v q (vals 15) w2);clear hG hd hg2;obtain⟨E1,f1,E2,f2,hv1,hk1,hk2,hc1⟩:=h1;have HC1:=YV hc1;clear hc1;have HK1:=YV hk1;have HK2:=YV hk2;clear hk1 hk2;go_simp;exact Tame.Has.mk ((Below.refl _ _).alloc (Nat.le_refl _) _) ⟨w2.heap.size,E1,f1,E2,f2,rfl,Row.made _ _ _,HK1.out,HK2.out.move (zV ((Below.refl _ _).alloc (Nat.le_refl _) _)),⟨by omega,by simp,fun e=>by have:=HV.out _ e.symm;omega⟩,HC1.out⟩)))
       |(refine Tame.walk3_write (o:=⟨some 56,_,_,_,_,_⟩) (AppQ w S wl.heap.size (x.eqs.take (i+1))) (none) ([19]) (fun _=>rfl) (by kernel_rfl) (by kernel_rfl) (fun u a c hl h=>OwnG.later (lastsQ0 w S) h hl) (fun i _ hj u a c hs h=>OwnG.far (lastsQ0 w S) (p:=g) h HGB.out (by have:=zZ hj;subst this;exact hs)) (fun vals w2 hG hd=>?_) ?_;(focus(have hg3:=(hG 0 _ rfl (by kernel_rfl):wl.grownBy w2 (some g)∧wr.heap.size≤w2.heap.size);have hg2:=hg3.1;have hzr:=hg3.2;have hzz:=hg2.size;clear hg3;have h1:=(hd 16 _ rfl (by kernel_rfl) rfl:NewQ w S wl.heap.size v q (vals 16) w2);have h2:=(hG 2 _ rfl (by kernel_rfl):AppQ w S wl.heap.size (x.eqs.take i) v w2);clear hG hd hg2;obtain⟨g1,E1,f1,E2,f2,hv1,hr1,hk1,hk2,hs1,hc1⟩:=h1;obtain⟨cs,ho,hx⟩:=h2;exact zK (.tmp 40) (.tmp 55) _ rfl wl.heap.size 80 iq _ 6 88 Tryz.underlying76 hiq hzq0 hzq1 hzq2 rfl (by omega) (by omega) v _ cs rfl ho g1 1 80 (.slice E1 q.lhs.length f1::c5 q.rhs E2 f2) hv1 rfl hr1 ((lastsQ0 w S).one (w:=w2) ⟨E1,f1,E2,f2,rfl,hk1,hk2,hc1⟩) (by simp;omega) (by omega) (fun v' w' ho' hgr hat=>⟨hgr,OwnG.step (lastsQ0 w S) HQ.out hx ho' hgr hat ⟨E1,f1,E2,f2,rfl,hk1,hk2,hc1⟩⟩))))
       |(refine Tame.walk3_lays (o:=⟨none,Op.store _ _ _,_,_,_,_⟩) (LaidQ g x.name u1 u2 u3) none ([]) ([17]) (fun _=>rfl) (by kernel_rfl) (by kernel_rfl) (by kernel_rfl) (fun vals vals' w hh h=>h.same (hh 17 (by decide))) (fun vals w w' hl h=>Row.below h hl (Row.lt h)) (fun j hj hk=>by cases hk) (fun vals w2 hG hd=>?_) ?_;(focus(have h1:=(hd 17 _ rfl (by kernel_rfl) (by kernel_rfl):AppQ w S wl.heap.size (x.eqs.take (i+1)) (vals 17) w2);have hr:=(hG 1 _ rfl (by kernel_rfl):HeldN g x.name u1 u2 u3 v w2);clear hG hd;obtain⟨E1,f1,hv1⟩:=h1.form;rw[show (x.eqs.take (i+1)).length=i+1 by simp;omega] at hv1;have HR1:=YV hr;have q4:=(show Row w2 g 78 _ from hr).cell 4;have p4:=(show Row w2 g 78 _ from hr).free 4;simp at q4;clear hr h1;go_simp;exact⟨Turn2.store,LaidQ.mk hv1 (by have:=(show Row w2 g 78 _ from HR1.out).set 4 (.slice E1 (i+1) f1);unfold HeldN;simpa using this)⟩)))
       |(refine Tame.walk3_known (by kernel_rfl) (fun _=>rfl) ?_;apply Exists.intro;refine⟨fun vals w2 hG hd=>?_,?_⟩;(focus(go_simp;first | exact Tame.Is.mk (Tame.Later.refl _)|(rw[if_neg];(focus exact Tame.Is.mk (Tame.Later.refl _));omega)))))
       simp only[Act.put,List.setIfInBounds_toArray,List.set_cons_zero,List.set_cons_succ,List.nil_append,List.cons_append,List.length_cons,List.length_nil,Nat.zero_add,Nat.reduceAdd])
     refine Tame.walk3_end fun vals w2 hG hts=>?_
     have f0:wl.grownBy w2 (some g):=(hG 0 _ rfl (by kernel_rfl):wl.grownBy w2 (some g)∧wr.heap.size≤w2.heap.size).1
     have f1:AppQ w S wl.heap.size (x.eqs.take (i+1)) (vals 17) w2:=hts 17 _ rfl rfl
     have f2:LaidQ g x.name u1 u2 u3 vals w2:=hts 19 _ rfl rfl
     have F0:=YV f0
     have F1:=YV f1
     have F2:=YV f2
     clear f0 f1 f2 hts hG
     go_wp2_with fail
     go_roundw
     case rel=>exact⟨i+1,vals 17,by omega,by go_num,F2.out,F1.out,F0.out⟩
     case measure=>simp[intOf];omega
    ·obtain rfl:i=x.eqs.length:=by omega
     rw[List.take_length] at HAQ
     obtain⟨A5,c5',rfl,hqs⟩:=OwnG.form (lastsQ0 w S) HAQ.out (S':=fun b=>wl.heap.size≤b∧b<wr.heap.size) (fun b hb=>⟨hb.1,hb.2.1⟩) (fun q cs hq hr=>OwnG.lt HAQ.out q hq)
     have hqs:=rq_qs0 hqs
     -- the outer world, all that has come since
     have hbq:Below G wq wr:=HBQ.out.grown HGR.out (by omega) (fun k e=>by injection e with e;omega)
     have HBR:=YV hbq
     have HOW:Hid (AppN w S (w.heap.size+3) (l.take j) vo wr):=OwnG.later (lastsN0 w S) HO.out (by rw[HGE.out] at hbq;exact hbq)
     have hmv:∀ b,Sty 127 (G+1) wl b→Sb (w.heap.size+3) vo.ownBlock wr b∧wr.heap[b]? = wl.heap[b]?:=fun b ⟨s1,s2,cs,s3⟩=>⟨⟨by omega,by omega,fun e=>by have:=HVO.out b e.symm;have:=HGE.out;omega⟩,HGR.out.block b s2 (fun e=>by
      injection e with e
      subst e
      have:=(s3.same (show Row wl b 78 _ from HHN.out)).2
      exact absurd this (by decide))⟩
     have t1:=FT.out.1.move hmv
     have t2:=FT.out.2.1.move hmv
     have t3:=FT.out.2.2.move hmv
     have t4:QS0 w S wr (Sb (w.heap.size+3) vo.ownBlock wr) A5 x.eqs:=hqs.move fun b hb=>⟨⟨by have:=hb.1;omega,hb.2,fun e=>by have:=HVO.out b e.symm;have:=hb.1;have:=HGE.out;omega⟩,rfl⟩
     have HT:=YV (And.intro t1 (And.intro t2 (And.intro t3 t4)))
     have hrow:=(show Row wr g 78 _ from HH.out)
     have k0:=hrow.cell 0
     have k1:=hrow.cell 1
     have k2:=hrow.cell 2
     have k3:=hrow.cell 3
     have k4:=hrow.cell 4
     simp at k0 k1 k2 k3 k4
     rw[HU1.out] at k1
     rw[HU2.out] at k2
     rw[HU3.out] at k3
     have HP2:Hid (Row wr (w.heap.size+2) 31 #[vo]):=HR2.out.below hbq (by omega)
     have HP1:Hid (Row wr (w.heap.size+1) 31 #[.slice none 0 0]):=HR1.out.below hbq (by omega)
     have HP0:Hid (Row wr w.heap.size 36 #[.slice _ l.length c]):=HR.out.below hbq (by omega)
     have HBX:Hid (Below w.heap.size w wr):=HBW.out.trans (hbq.mono (by omega))
     have p0:=HP2.out.cell 0
     have p1:=HP2.out.free 0
     simp at p0
     have hgs':wl.heap.size≤wr.heap.size:=hgs
     have hwr3:w.heap.size+3≤wr.heap.size:=by omega
     clear hh hq hg hqs hmv t1 t2 t3 t4 hrow hbq
     have HT5:Hid (RN0 w S (wr.alloc (.cells #[.string ⟨x.name.toArray⟩,.slice E1 x.ins.length f1',.slice E2 x.outs.length f2',.slice E3 x.locals.length f3',.slice A5 x.eqs.length c5'] 78)) (Sb (w.heap.size+3) vo.ownBlock (wr.alloc (.cells #[.string ⟨x.name.toArray⟩,.slice E1 x.ins.length f1',.slice E2 x.outs.length f2',.slice E3 x.locals.length f3',.slice A5 x.eqs.length c5'] 78))) x [.string ⟨x.name.toArray⟩,.slice E1 x.ins.length f1',.slice E2 x.outs.length f2',.slice E3 x.locals.length f3',.slice A5 x.eqs.length c5']):=YV ⟨E1,f1',E2,f2',E3,f3',A5,c5',rfl,HT.out.1.move (zV ((Below.refl _ _).alloc (Nat.le_refl _) _)),HT.out.2.1.move (zV ((Below.refl _ _).alloc (Nat.le_refl _) _)),HT.out.2.2.1.move (zV ((Below.refl _ _).alloc (Nat.le_refl _) _)),HT.out.2.2.2.move (zV ((Below.refl _ _).alloc (Nat.le_refl _) _))⟩
     have HA1:Hid (AppN w S (w.heap.size+3) (l.take j) vo (wr.alloc (.cells #[.string ⟨x.name.toArray⟩,.slice E1 x.ins.length f1',.slice E2 x.outs.length f2',.slice E3 x.locals.length f3',.slice A5 x.eqs.length c5'] 78))):=OwnG.later (lastsN0 w S) HOW.out ((Below.refl _ _).alloc (Nat.le_refl _) _)
     obtain⟨cs,hown,hcx⟩:=HA1.out
     have HOWN:=YV hown
     have HCX:=YV hcx
     have HNW:Hid (∀ (jj:Nat) u,[.string ⟨x.name.toArray⟩,.slice E1 x.ins.length f1',.slice E2 x.outs.length f2',.slice E3 x.locals.length f3',.slice A5 x.eqs.length c5'][jj]? = some u→(wr.alloc (.cells #[.string ⟨x.name.toArray⟩,.slice E1 x.ins.length f1',.slice E2 x.outs.length f2',.slice E3 x.locals.length f3',.slice A5 x.eqs.length c5'] 78)).cell? ((⟨wr.heap.size,0,none⟩:Addr).add jj)=some u):=fun jj u hu=>by
      rw[jm,Nat.zero_add,(Row.made wr 78 _).cell,← Array.getElem?_toList];exact hu
     have hlj:(l.take j).length≤1099511627775:=by simp;omega
     have HLJ:=YV hlj
     have HE9:Hid ((l.take j).length=j):=YV (by simp;omega)
     have HNV:Hid (some (w.heap.size+2)≠vo.ownBlock):=fun e=>by have:=HVO.out _ e.symm;omega
     have HNV1:Hid (some (w.heap.size+1)≠vo.ownBlock):=fun e=>by have:=HVO.out _ e.symm;omega
     have HNV0:Hid (some w.heap.size≠vo.ownBlock):=fun e=>by have:=HVO.out _ e.symm;omega
     clear hown hcx hlj HA1 HOW
     go_wp2_with (refine wpList_append_own_at _ rfl (.tmp 59) (.tmp 61) _ rfl (w.heap.size+3) 78 ino _ 5 112 Tryz.underlying29 hin hzn0 hzn1 hzn2 rfl (by omega) vo _ cs rfl HOWN.out ⟨wr.heap.size,0,none⟩ 1 1 [.string ⟨x.name.toArray⟩,.slice E1 x.ins.length f1',.slice E2 x.outs.length f2',.slice E3 x.locals.length f3',.slice A5 x.eqs.length c5'] rfl rfl HNW.out ((lastsN0 w S).one HT5.out) (by unfold maxLen;have:=HLJ.out;omega) (by have:=HLJ.out;omega) (by simp;omega) ?_;intro v' w' ho' hgr _ hat;obtain⟨g9,cap9,rfl,_,_⟩:=ho'.form (by omega);have HST:Hid (AppN w S (w.heap.size+3) (l.take (j+1)) (.slice (some ⟨g9,0,none⟩) ((l.take j).length+1) cap9) w'):=OwnG.step (lastsN0 w S) HX.out HCX.out ho' hgr hat HT5.out;rw[HE9.out] at HST;have hr2':=(HP2.out.alloc _).grown hgr HNV.out;have x0:=hr2'.cell 0;have x1:=hr2'.free 0;simp at x0;have HR2':=YV hr2';have HGRW:=YV hgr;clear hr2' ho' hgr hat p0 p1)
     go_roundw
     case rel=>
      have hz':=HGRW.out.size
      simp at hz'
      have hbw':Below w.heap.size w w':=(HBX.out.alloc (by omega) _).grown HGRW.out (by simp;omega) (fun k hk=>by have:=HVO.out k hk;omega)
      refine⟨j+1,.slice (some ⟨g9,0,none⟩) (j+1) cap9,by omega,by go_num,?_,?_,?_,?_,?_,?_⟩
      ·exact((HP0.out.alloc _).grown HGRW.out HNV0.out).far (by show w.heap.size≠w.heap.size+2;omega) _
      ·exact((HP1.out.alloc _).grown HGRW.out HNV1.out).far (by show w.heap.size+1≠w.heap.size+2;omega) _
      ·have:=HR2'.out.set 0 (.slice (some ⟨g9,0,none⟩) (j+1) cap9)
       simpa using this
      ·exact OwnG.far (lastsN0 w S) (p:=w.heap.size+2) HST.out (by omega) (zf (zd _ _) 0 _)
      ·exact hbw'.setCell (p:=⟨w.heap.size+2,0,none⟩) (Nat.le_add_right _ _) _
      ·simp;omega
     case measure=>simp[intOf];omega
  ·obtain rfl:j=l.length:=by omega
   rw[List.take_length] at ho
   obtain⟨A2,c2,rfl,hns0⟩:=OwnG.form (lastsN0 w S) ho (S':=fun b=>w.heap.size+3≤b∧b<wr.heap.size) (fun b hb=>⟨hb.1,hb.2.1⟩) (fun q cs hq hr=>OwnG.lt ho q hq)
   have hns:=rn_ns0 (S':=fun b=>S b∨(w.heap.size+3≤b∧b<wr.heap.size)) (fun b hb=>⟨.inl hb,hbw.block b (hS b hb)⟩) (fun b hb=>.inr hb) hns0
   have r0:=hr.cell 0
   have e0:=hr2.cell 0
   have q0:=hr1.cell 0
   have q1:=hr1.free 0
   simp at r0 e0 q0
   have HNSS:=YV hns
   have HR1:=YV hr1
   have HBW:=YV hbw
   clear hr hr1 hr2 ho hbw hns hns0
   go_wp2_with fail
   have z:=HR1.out.set 0 (.slice A2 l.length c2)
   have hB5:Below w.heap.size w (wr.setCell ⟨w.heap.size+1,0,none⟩ (.slice A2 l.length c2)):=HBW.out.setCell (p:=⟨w.heap.size+1,0,none⟩) (Nat.le_add_right _ _) _
   have hK5:NS (wr.setCell ⟨w.heap.size+1,0,none⟩ (.slice A2 l.length c2)) (fun b=>S b∨(w.heap.size≤b∧b<(wr.setCell ⟨w.heap.size+1,0,none⟩ (.slice A2 l.length c2)).heap.size)) A2 l:=
    HNSS.out.move fun b hb=>hb.elim (fun hs=>⟨.inl hs,Below.heap_setCell _ _ _ _ (by have:=hS b hs;show b≠w.heap.size+1;omega)⟩) (fun hb=>⟨.inr ⟨by have:=hb.1;omega,by have:=hb.2;simp;omega⟩,Below.heap_setCell _ _ _ _ (by have:=hb.1;show b≠w.heap.size+1;omega)⟩)
   generalize wr.setCell ⟨w.heap.size+1,0,none⟩ (.slice A2 l.length c2)=w5 at z hB5 hK5 ⊢
   have z0:=z.cell 0
   simp at z0
   exact bodyPost_ret (v:=.agg #[.slice A2 l.length c2]) (by simp[results,Tryz.results25,go_sem,z0]) rfl ⟨A2,c2,rfl,hK5,hB5⟩
end Go.Proofs.YtdabndiaflagpaaGreatDoor.bk
