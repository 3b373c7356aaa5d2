/- Parts: PsY7, PsZR, PsXA, PsXB. -/
import Derived.Test.YtdabndiaflagpaaGreatDoorK29
import Derived.Test.YtdabndiaflagpaaGreatDoorK30
import Derived.Test.YtdabndiaflagpaaGreatDoorK31
import Derived.Test.YtdabndiaflagpaaGreatDoorK32
import Derived.Test.YtdabndiaflagpaaGreatDoorK25
import Derived.Deep.DeepMust
import Derived.Deep.CutRange
set_option maxRecDepth 100000
set_option maxHeartbeats 4000000
namespace Go.Proofs.YtdabndiaflagpaaGreatDoor
open Go.RowKit
theorem rAtom (g c:Nat) (ts:List Tk) (b f o:Nat) (L:List Tk) (w:World) (ih:∀ f',f'≤f→RE g c ts b f') (hf:16 * L.length+4≤f+1) (h:Rs g c ts w b o (.ok () L)) :
  Calls Tryz.prog 186 #[.pointer (some ⟨b,0,none⟩)] w (RRes g c ts b o w (XV w.heap.size) (jW (f+1) L o)):=by
 rw[jW]
 have hw:WFt L:=h.good_
 by_cases h3:hdK L=3
 ·rw[if_pos h3]
  exact ZQ g c ts b f o L w h h3 _ rfl
 ·rw[if_neg h3]
  by_cases hF:isP ju L=true
  ·rw[if_pos hF]
   exact kE g c ts b f o L w h hF h3 _ rfl
  ·rw[if_neg hF]
   have hF':isP ju L=false:=by simpa using hF
   by_cases hT:isP jK L=true
   ·rw[if_pos hT]
    exact JV g c ts b f o L w h hT h3 _ rfl
   ·rw[if_neg hT]
    have hT':isP jK L=false:=by simpa using hT
    by_cases hB:isP [40] L=true
    ·have h1:¬ hdK L=1:=by
      intro h1
      obtain⟨t,r,rfl,gt,_⟩:=hw.pass (.inr (by rw[h1];decide))
      have hn:=gt.name_ h1
      have e:t.text=[40]:=of_decide_eq_true hB
      rw[e] at hn
      exact absurd hn (by rw[(uw [40] (by decide)).2.1];decide)
     rw[if_neg h1]
     obtain⟨f,rfl⟩:∃ f',f=f'+1:=⟨f - 1,by omega⟩
     exact xh g c ts b f o L w h hB h3 _ rfl (ih f (by omega)) (by omega)
    ·have hB':isP [40] L=false:=by simpa using hB
     by_cases h1:hdK L=1
     ·rw[if_pos h1]
      by_cases hc:isP [40] L.tail=true
      ·rw[if_pos hc]
       exact JW g c ts b f o L w h h1 hc _ rfl ih (by omega)
      ·rw[if_neg hc]
       exact qI g c ts b f o L w h hT' hF' hB' h3 (fun _=>by simpa using hc) _ (by rw[if_pos h1])
     ·rw[if_neg h1]
      obtain⟨f,rfl⟩:∃ f',f=f'+1:=⟨f - 1,by omega⟩
      rw[zD,if_neg hB]
      exact qI g c ts b f o L w h hT' hF' hB' h3 (fun e=>absurd e h1) _ (by rw[if_neg h1])
theorem re_all (g c:Nat) (ts:List Tk) (b:Nat):∀ f,∀ f',f'≤f→RE g c ts b f':=by
 intro f
 induction f with
 | zero=>
  intro f' hf'
  obtain rfl:f'=0:=by omega
  refine⟨?_,?_,?_,?_⟩ <;> (intros;first | omega|(exfalso;rename_i h;have:=List.length_pos_iff.2 (WFt.ne (L:=_) h.good_);omega))
 | succ f ih=>
  intro f' hf'
  rcases Nat.lt_or_ge f' (f+1) with hlt | hge
  ·exact ih f' (by omega)
  ·obtain rfl:f'=f+1:=by omega
   exact⟨fun o L w hf h=>rExpr g c ts b f o L w ih hf h,fun o n L w hf hn h=>rLevel g c ts b f o n L w ih hf hn h,fun o L w hf h=>rPrefix g c ts b f o L w ih hf h,fun o L w hf h=>rAtom g c ts b f o L w ih hf h⟩
theorem ZP {g c:Nat} {ts:List Tk} {b:Nat} {σ:Pr Unit} {w:World} (h:Rs g c ts w b 0 σ) :
  Calls Tryz.prog 116 #[.pointer (some ⟨b,0,none⟩)] w (RRes g c ts b 0 w (XV w.heap.size) (σ.bind fun _ L=>zn (jn L) L 0)):=by
 cases σ with
 | bad k p=>exact(xQ g c ts b 0 k p w h).mono fun e w' hh=>yP h hh
 | ok u L=>exact(re_all g c ts b (jn L) (jn L) (Nat.le_refl _)).expr 0 L w (by unfold jn;omega) h
end Go.Proofs.YtdabndiaflagpaaGreatDoor
namespace Go.Proofs.YtdabndiaflagpaaGreatDoor
open Go.RowKit
def MEj (j1 j2 b p:Nat) (v:Value) (j:Nat) (a c:World):Prop:=a.grownBy c (if j=j1 then some b else if j=j2 then v.ownBlock else some p)
def uk {α:Type} (j1 j2 j3 g c:Nat) (ts:List Tk) (b o p B2:Nat) (σ:Pr Unit) (v0 w1:World) (tb:TypeId) (cells:Array Value) (R:Of α) (e:TypeId) (k:Nat) (acc:List α) (v:Value):List Tame.Ghost:=
 [⟨RA g c ts b v0 o σ,[j2,j3]⟩,⟨fun w=>Row w p tb cells,[j1,j2]⟩,⟨fun w=>OwnW R e k B2 acc v w,[j1,j3]⟩,⟨fun w=>Kp2 B2 b p w1 w,[j1,j2,j3]⟩]
theorem kV {α:Type} {j1 j2 j3 g c:Nat} {ts:List Tk} {b o p B2:Nat} {σ:Pr Unit} {v0 w1 w3:World} {tb:TypeId} {cells:Array Value} {R:Of α} {e:TypeId} {k:Nat} {acc:List α} {v:Value} (hl:jB R k) (h12:j1≠j2) (h13:j1≠j3) (h23:j2≠j3)
  (ha:RA g c ts b v0 o σ w3) (hb:Row w3 p tb cells) (hq:OwnW R e k B2 acc v w3) (hkp:Kp2 B2 b p w1 w3) (hbv:b<v0.heap.size) (hvp:v0.heap.size≤p) (hpB:p<B2) (hB:B2≤w1.heap.size) :
  ∀ (i:Nat) (gh:Tame.Ghost),(uk j1 j2 j3 g c ts b o p B2 σ v0 w1 tb cells R e k acc v)[i]? = some gh→gh.g w3.drew∧(∀ w w',Tame.Later w w'→gh.g w→gh.g w')∧
   ∀ j,[j1,j2,j3].contains j=true→gh.keeps.contains j=true→∀ w w',MEj j1 j2 b p v j w w'→gh.g w→gh.g w':=by
 have hv:=hq.lt
 intro i gh hi
 rcases i with _ | _ | _ | _ | i
 ·obtain rfl:(⟨RA g c ts b v0 o σ,[j2,j3]⟩:Tame.Ghost)=gh:=by simpa [uk] using hi
  refine⟨ha.later ((Below.refl _ _).drew),fun a c hl h=>h.later hl,fun j _ hj a c hs h=>?_⟩
  rcases jX hj with rfl | rfl <;> simp[MEj,h12,h13,h23,h12.symm,h13.symm,h23.symm] at hs
  ·exact h.far hs (fun q hq=>by have:=(hv q hq).1;omega) hbv
  ·exact h.far hs (fun q hq=>by injection hq with hq;omega) hbv
 ·obtain rfl:(⟨fun w=>Row w p tb cells,[j1,j2]⟩:Tame.Ghost)=gh:=by simpa [uk] using hi
  refine⟨Row.drew hb,fun a c hl h=>Row.below h hl (Row.lt h),fun j _ hj a c hs h=>?_⟩
  rcases jX hj with rfl | rfl <;> simp[MEj,h12,h13,h23,h12.symm,h13.symm,h23.symm] at hs
  ·exact Row.grown h hs (fun e=>by injection e with e;omega)
  ·exact Row.grown h hs (fun e=>by have:=(hv p e.symm).1;omega)
 ·obtain rfl:(⟨fun w=>OwnW R e k B2 acc v w,[j1,j3]⟩:Tame.Ghost)=gh:=by simpa [uk] using hi
  refine⟨hq.keep hl (zc ((Below.refl _ _).drew) none) (fun q e=>by cases e),fun a c hb h=>h.keep hl (zc hb none) (fun q e=>by cases e),fun j _ hj a c hs h=>?_⟩
  rcases jX hj with rfl | rfl <;> simp[MEj,h12,h13,h23,h12.symm,h13.symm,h23.symm] at hs
  ·exact h.keep hl hs (fun q e=>by injection e with e;omega)
  ·exact h.keep hl hs (fun q e=>by injection e with e;omega)
 ·obtain rfl:(⟨fun w=>Kp2 B2 b p w1 w,[j1,j2,j3]⟩:Tame.Ghost)=gh:=by simpa [uk] using hi
  refine⟨hkp.step (zc ((Below.refl _ _).drew) none) hB (fun q e=>by cases e),fun a c hl h=>h.step (zc hl none) hB (fun q e=>by cases e),fun j _ hj a c hs h=>?_⟩
  rcases vw hj with rfl | rfl | rfl <;> simp[MEj,h12,h13,h23,h12.symm,h13.symm,h23.symm] at hs
  ·exact h.step hs hB (fun q e=>by injection e with e;exact .inl e.symm)
  ·exact h.step hs hB (fun q e=>.inr (.inr (hv q e).1))
  ·exact h.step hs hB (fun q e=>by injection e with e;exact .inr (.inl e.symm))
 ·simp[uk] at hi
section
variable {α:Type} {j1 j2 j3 g c:Nat} {ts:List Tk} {b o p B2:Nat} {v0:World} {σ:Pr Unit} {V:α→Value→World→Prop} {hy:α→Prop} {R:Of α} {e:TypeId} {k:Nat} {acc:List α} {v u:Value} {w w':World} {i:Nat}
theorem AftC.turnJ (h12:j1≠j2) (h13:j1≠j3) (h23:j2≠j3) (hst:vU B2 v.ownBlock V) (hj:[j2,j3].contains i=true) (hs:MEj j1 j2 b p v i w w') (h:AftC g c ts b v0 o σ V hy u w) (hv:∀ q,v.ownBlock=some q→B2≤q) (hbv:b<v0.heap.size) (hvp:v0.heap.size≤p) (hpB:p<B2):AftC g c ts b v0 o σ V hy u w':=by
 obtain⟨h1,y,h2,h3⟩:=h
 rcases jX hj with rfl | rfl <;> simp[MEj,h12,h13,h23,h12.symm,h13.symm,h23.symm] at hs
 ·exact⟨h1.far hs (fun q hq=>by have:=hv q hq;omega) hbv,y,h2,hst.stay h3 hs (fun q _=>.inr rfl)⟩
 ·exact⟨h1.far hs (fun q hq=>by injection hq with hq;omega) hbv,y,h2,hst.stay h3 hs (fun q hq=>by injection hq with hq;exact .inl (by omega))⟩
theorem AftR.turnJ (h12:j1≠j2) (h13:j1≠j3) (h23:j2≠j3) (hst:vU B2 v.ownBlock V) (hj:[j1,j2,j3].contains i=true) (hs:MEj j1 j2 b p v i w w') (h:AftR V hy u w) (hbp:b<p) (hpB:p<B2):AftR V hy u w':=by
 obtain⟨y,h2,h3⟩:=h
 rcases vw hj with rfl | rfl | rfl <;> simp[MEj,h12,h13,h23,h12.symm,h13.symm,h23.symm] at hs
 ·exact⟨y,h2,hst.stay h3 hs (fun q hq=>by injection hq with hq;exact .inl (by omega))⟩
 ·exact⟨y,h2,hst.stay h3 hs (fun q _=>.inr rfl)⟩
 ·exact⟨y,h2,hst.stay h3 hs (fun q hq=>by injection hq with hq;exact .inl (by omega))⟩
end
def VN (_:Nat) (_:Option Nat) (y:T) (u:Value) (_:World):Prop:=u=.string ⟨y.toArray⟩
def WN (B2:Nat) (own:Option Nat) (y:T) (u:Value) (w:World):Prop:=∃ q,u=.slice (some ⟨q,0,none⟩) 1 1∧Row w q 9 #[.string ⟨y.toArray⟩]∧B2≤q∧some q≠own
theorem u6 {B2:Nat} {own:Option Nat}:vU B2 own (VN B2 own):=⟨fun h _ _=>h⟩
theorem u5 {B2:Nat} {own:Option Nat}:vU B2 own (WN B2 own):=⟨fun ⟨q,h1,h0,h3,h4⟩ g hr=>⟨q,h1,h0.grown g (fun e=>(hr q e.symm).elim (fun h=>by omega) (fun h=>h4 (e.trans h))),h3,h4⟩⟩
theorem Jg {B2:Nat} {own:Option Nat} {y:T} {w:World} (hB:B2≤w.heap.size) (ho:some w.heap.size≠own) :
  WN B2 own y (.slice (some ⟨w.heap.size,0,none⟩) 1 1) (w.alloc (.cells #[.string ⟨y.toArray⟩] 9)):=⟨w.heap.size,rfl,Row.made _ _ _,hB,ho⟩
theorem OwnW.ts {B2:Nat} {xs:List T} {v:Value} {w:World} (h:OwnW RS 9 1 B2 xs v w) {lo:Nat} (hl:lo≤B2):∃ A c,v=.slice A xs.length c∧xs.length≤c∧TS w (Bt lo w.heap.size) A xs:=by
 have hlt:=h.lt
 obtain⟨A0,c0,hv0,hc0⟩:=h.slice
 obtain⟨A,c,hv,hr⟩:=OwnG.form jE h (S':=Bt lo w.heap.size) (fun q hq=>⟨by have:=hq.1;omega,hq.2.1⟩) (fun q cs hq _=>by have:=hlt q hq;exact⟨by omega,this.2⟩)
 rw[hv0] at hv
 injection hv with e1 e2 e3
 subst e1 e3
 refine⟨A0,c0,hv0,hc0,Rw.imp hr fun x b off ⟨hb,cs,hx,hc⟩=>⟨hb,?_⟩⟩
 have hx:cs=_:=hx
 subst hx
 exact hc 0 _ rfl
end Go.Proofs.YtdabndiaflagpaaGreatDoor
namespace Go.Proofs.YtdabndiaflagpaaGreatDoor
open Go.RowKit
theorem YL {ns:List T} {i:Nat} {x:T} (h:ns[i]? = some x) (xs:List Vr) (ty:Int) :
  (xs++(asT (ns.take i) ty++asT (ns.drop i) 0)).set (xs.length+i) ⟨x,ty⟩=xs++(asT (ns.take (i+1)) ty++asT (ns.drop (i+1)) 0)∧(xs++(asT (ns.take i) ty++asT (ns.drop i) 0))[xs.length+i]? = some ⟨x,0⟩:=by
 have hl:i<ns.length:=(List.getElem?_eq_some_iff.1 h).1
 have hd:ns.drop i=x::ns.drop (i+1):=by
  rw[List.drop_eq_getElem_cons hl];congr 1;rw[List.getElem?_eq_getElem hl] at h;injection h
 have hlt:(asT (ns.take i) ty).length=i:=by simp[asT];omega
 refine⟨?_,?_⟩
 ·rw[List.set_append_right _ _ (by omega),List.set_append_right _ _ (by rw[hlt];omega),hlt,hd,jG h]
  have:xs.length+i - xs.length - i=0:=by omega
  rw[this]
  simp[asT]
 ·rw[List.getElem?_append_right (by omega),List.getElem?_append_right (by rw[hlt];omega),hlt,hd]
  have:xs.length+i - xs.length - i=0:=by omega
  rw[this]
  simp[asT]
def JB {α:Type} (g c:Nat) (ts:List Tk) (b o B0:Nat) (w:World) (V:α→Value→World→Prop) (r:Pr α) (e:Ending) (w':World):Prop:=
 ∃ x v,e=.returned v∧V x v w'∧Kp B0 b w w'∧Rs g c ts w' b o r.unit∧∀ y L,r=.ok y L→x=y
theorem xg (g c:Nat) (ts:List Tk) (b o B0:Nat) (xs:List Vr) (va:Value) (σ:Pr Unit) (w:World) (h:Rs g c ts w b o σ) (hbB:b<B0) (hBw:B0≤w.heap.size) (hown:jQ B0 xs va w) (hn:xs.length≤1000) :
  Calls Tryz.prog 86 #[.pointer (some ⟨b,0,none⟩),va] w (JB g c ts b o B0 w (fun vs v w'=>jQ B0 (xs++vs) v w') (σ.bind fun _ L=>zq xs.length L)):=by
 obtain⟨i0,hi0,hz0,hz1,hz2⟩:=info_parts xN
 obtain⟨A0,c0,rfl,_⟩:=zw hown
 have HN:=YV (u7 g c ts b o xs.length σ w h (by omega))
 obtain⟨ds,ho,hcg⟩:=hown
 have HCG:=YV hcg
 have HO0:=YV ho
 have HV:=YV (World.ownsRow.lt ho)
 obtain⟨R1,hR1⟩:∃ R1,R1=σ.bind fun _ L=>zh xs.length L:=⟨_,rfl⟩
 rw[← hR1] at HN
 have HR1:=YV hR1
 clear h ho hcg hR1
 go_enter Tryz.func86,Tryz.ntmps86
 go_upto_region 3 with (first|(go_at_call 84;refine HN.out.mono ?_;rintro e w1 ⟨x,v,rfl,hv,g1,g2,g3⟩;obtain rfl:v=.string ⟨x.toArray⟩:=hv;have hgz:=g1.size;have HO:Hid ((w1.alloc (.cells #[.string ⟨x.toArray⟩,.int .i64 0] 127)).ownsRow B0 127 2 (.slice A0 xs.length c0) xs.length ds):=YV ((HO0.out.kept g1 (by cases hq:(Value.slice A0 xs.length c0).ownBlock with | none=>exact .inl rfl | some q=>exact .inr fun e=>by injection e with e;have:=(HV.out q hq).1;omega)).alloc _);have HNW:Hid (∀ j u,[Value.string ⟨x.toArray⟩,.int .i64 0][j]? = some u→(w1.alloc (.cells #[.string ⟨x.toArray⟩,.int .i64 0] 127)).cell? ((⟨w1.heap.size,0,none⟩:Addr).add j)=some u):=YV (fun j u hu=>by rw[jm,Nat.zero_add,(Row.made _ _ _).cell j,← hu];simp);have hz5:B0≤(w1.alloc (.cells #[.string ⟨x.toArray⟩,.int .i64 0] 127)).heap.size:=(by simp;omega);have HG1:=YV g1;have HS1:=YV g2;have HX1:=YV g3;clear g1 g2 g3 HN)|(at_builtin;refine wpList_append_own_at _ rfl (.tmp 10) (.tmp 16) 75 rfl B0 127 i0 _ 2 24 Tryz.underlying75 hi0 hz0 hz1 hz2 rfl (by omega) _ xs.length ds rfl HO.out ⟨w1.heap.size,0,none⟩ 1 1 [.string ⟨x.toArray⟩,.int .i64 0] rfl rfl HNW.out (zN.one (w:=w1) (S:=fun _=>True) (x:=⟨x,0⟩) rfl) (by unfold maxLen;omega) (by omega) hz5 ?_;intro v' w4 ho' hgr' _ hat;have HO4:=YV ho';have HG4:=YV hgr';have HAT:=YV hat;clear ho' hgr' hat))
 obtain⟨F,hF⟩:∃ F,vF (σ.bind fun _ L=>jw xs.length L) xs.length F [x] R1.unit:=by
  have h0:=HX1.out
  rw[HR1.out] at h0 ⊢
  exact vF.first hn h0
 obtain⟨RN,hRN⟩:∃ RN,RN=σ.bind fun _ L=>jw xs.length L:=⟨_,rfl⟩
 rw[← hRN] at hF
 have HRN:=YV hRN
 have HF:=YV hF
 have hva:v'.ownBlock=(Value.slice A0 xs.length c0).ownBlock∨v'.ownBlock=some (w1.alloc (.cells #[.string ⟨x.toArray⟩,.int .i64 0] 127)).heap.size:=HAT.out
 have hg4:w1.grownBy w4 (Value.slice A0 xs.length c0).ownBlock:=zM HG4.out
 have HOV:Hid (jQ B0 (xs++[x].map fun t=>(⟨t,0⟩:Vr)) v' w4):=YV (yl zN (HCG.out.move zN (w':=w1) (S':=fun _=>False) fun _ h=>h.elim) rfl HO4.out)
 have HS4:Hid (Rs g c ts w4 b o R1.unit):=YV (HS1.out.grown hg4 (fun q hq=>by have:=(HV.out q hq).1;omega))
 have HK4:Hid (Kp B0 b w w4):=YV ((Kp.of HG1.out hBw).trans (Kp.own hg4 (by have:=HG1.out.size;omega) (fun q hq=>(HV.out q hq).1)))
 have HZ4:Hid (B0≤w4.heap.size):=YV (by have:=HG1.out.size;have:=hg4.size;omega)
 clear hF hRN hva hg4 HAT HG4 HO4 HO HNW hz5 HX1 HR1
 go_loopg [1] F (fun g' v wr=>∃ (ns:List T) (σ':Pr Unit),vF RN xs.length g' ns σ'∧jQ B0 (xs++ns.map fun t=>(⟨t,0⟩:Vr)) v wr∧Rs g c ts wr b o σ'∧Kp B0 b w wr∧B0≤wr.heap.size)
 case atStart=>exact⟨[x],R1.unit,HF.out,HOV.out,HS4.out,HK4.out,HZ4.out⟩
 case round=>
  obtain⟨ns,σ',hnm,hov,hst,hkp,hbr⟩:=hrel
  obtain⟨A4,c4,rfl,_⟩:=zw hov
  obtain⟨acc,hacc⟩:∃ acc,acc=xs++ns.map fun t=>(⟨t,0⟩:Vr):=⟨_,rfl⟩
  have hln:acc.length=xs.length+ns.length:=by rw[hacc];simp
  have hlb:acc.length≤1001:=by have:=hnm.few;omega
  have HSN:Hid (∀ x:T,xs++(ns++[x]).map (fun t=>(⟨t,0⟩:Vr))=acc++[⟨x,0⟩]):=YV fun x=>by rw[hacc];simp
  rw[← hacc] at hov ⊢
  have HACC:=YV hacc
  have HLN:=YV hln
  have HKP:=YV hkp
  have HST:=YV hst
  have HIS:=YV (rIs g c ts b o [44] σ' wr hst (by decide))
  obtain⟨ds4,ho4,hcg4⟩:=hov
  have HO5:=YV ho4
  have HCG5:=YV hcg4
  have HV5:=YV (World.ownsRow.lt ho4)
  obtain⟨bl,hbl⟩:∃ bl,bl=isS [44] σ':=⟨_,rfl⟩
  rw[← hbl] at HIS
  cases bl with
  | true=>
   cases σ' with
   | bad k a=>cases hbl
   | ok u L=>
    have hp:isP [44] L=true:=hbl.symm
    obtain⟨fl,rfl⟩:∃ fl,gk=fl+1:=⟨gk - 1,by have:=(hnm.fuel L rfl).1;omega⟩
    have hwt:=zI hst.good_ hp (by decide)
    obtain⟨i,op,k,a,hr,ha1,ha2,ha3,j,hj,hL⟩:=hst.row_
    have hj1:=hst.small hL
    subst hj
    have HRW:=YV hr
    have HL:=YV hL
    have HWT:=YV hwt.1
    have HA:=YV (And.intro ha1 (And.intro ha2 ha3))
    have HNX:Hid (∀ x,_→vF RN xs.length fl (ns++[x]) (zh (xs.length+ns.length) L.tail).unit):=YV fun x hx=>hnm.next hp hx
    have HNM:Hid (∀ w1,Rs g c ts w1 b o (.ok () L.tail)→_):=YV fun w1 h1=>u7 g c ts b o acc.length (.ok () L.tail) w1 h1 (by omega)
    clear hnm hst hkp ho4 hcg4 hr hL hwt ha1 ha2 ha3 hbl hp hacc hln
    go_upto_region 5 with (go_at_call 44;refine HIS.out.mono ?_;rintro e w5 ⟨rfl,hb⟩;have HB:=YV hb;have hr1:=HRW.out.below hb HRW.out.lt;have HR1:=YV hr1;have c1:=hr1.cell 1;have f1:=hr1.free 1;simp[zg] at c1;clear hb hr1 HIS)
    have HG5:Hid (wr.grownBy (w5.setCell ⟨b,1,none⟩ (.int .i64 ((j:Int)+1))) (some b)):=YV (za (zb HB.out b) (zf (zd w5 b) 1 _))
    have HS5:Hid (Rs g c ts (w5.setCell ⟨b,1,none⟩ (.int .i64 ((j:Int)+1))) b o (.ok () L.tail)):=YV (HST.out.pass HL.out HWT.out HA.out.2.2 HA.out.1 HA.out.2.1 HG5.out (by simpa [zg] using HR1.out.set 1 (.int .i64 ((j:Int)+1))))
    clear c1 f1 HR1 HB
    generalize w5.setCell ⟨b,1,none⟩ (.int .i64 ((j:Int)+1))=v5 at HG5 HS5 ⊢
    go_wp2_with (first|(go_at_call 84;refine(HNM.out _ HS5.out).mono ?_;rintro e w6 ⟨x,v,rfl,hv,g1,g2,g3⟩;obtain rfl:v=.string ⟨x.toArray⟩:=hv;have hg6:=za HG5.out g1;have hgz:=hg6.size;have HO6:Hid ((w6.alloc (.cells #[.string ⟨x.toArray⟩,.int .i64 0] 127)).ownsRow B0 127 2 (.slice A4 acc.length c4) acc.length ds4):=YV ((HO5.out.kept hg6 (by cases hq:(Value.slice A4 acc.length c4).ownBlock with | none=>exact .inl rfl | some q=>exact .inr fun e=>by injection e with e;have:=(HV5.out q hq).1;omega)).alloc _);have HNW:Hid (∀ j u,[Value.string ⟨x.toArray⟩,.int .i64 0][j]? = some u→(w6.alloc (.cells #[.string ⟨x.toArray⟩,.int .i64 0] 127)).cell? ((⟨w6.heap.size,0,none⟩:Addr).add j)=some u):=YV (fun j u hu=>by rw[jm,Nat.zero_add,(Row.made _ _ _).cell j,← hu];simp);have hz6:B0≤(w6.alloc (.cells #[.string ⟨x.toArray⟩,.int .i64 0] 127)).heap.size:=(by simp;omega);have HG6:=YV hg6;have HS6:=YV g2;have HX6:=YV g3;clear g1 g2 g3 hg6 HNM)|(at_builtin;refine wpList_append_own_at _ rfl (.tmp 28) (.tmp 34) 75 rfl B0 127 i0 _ 2 24 Tryz.underlying75 hi0 hz0 hz1 hz2 rfl (by omega) _ acc.length ds4 rfl HO6.out ⟨w6.heap.size,0,none⟩ 1 1 [.string ⟨x.toArray⟩,.int .i64 0] rfl rfl HNW.out (zN.one (w:=w6) (S:=fun _=>True) (x:=⟨x,0⟩) rfl) (by unfold maxLen;omega) (by omega) hz6 ?_;intro v7 w7 ho7 hgr7 _ hat7;have HO7:=YV ho7;have HG7:=YV hgr7;clear ho7 hgr7 hat7))
    go_roundg fl
    case rel=>
     have hg7:w6.grownBy w7 (Value.slice A4 acc.length c4).ownBlock:=zM HG7.out
     have hz7:=HG6.out.size
     refine⟨ns++[x],_,HNX.out x (by rw[← HLN.out];exact HX6.out),?_,by rw[← HLN.out];exact HS6.out.grown hg7 (fun q hq=>by have:=(HV5.out q hq).1;omega),HKP.out.trans ((Kp.of HG6.out hbr).trans (Kp.own hg7 (by omega) (fun q hq=>(HV5.out q hq).1))),by have:=hg7.size;omega⟩
     rw[HSN.out x]
     exact yl zN (HCG5.out.move zN (w':=w6) (S':=fun _=>False) fun _ h=>h.elim) rfl HO7.out
    case measure=>omega
  | false=>
   obtain⟨hu,hval⟩:=hnm.done hbl.symm
   obtain⟨M,hM⟩:∃ M:Pr Unit,M=σ'.bind fun _ L=>ze [58] L:=⟨_,rfl⟩
   have HMU:Hid (∀ w1,Rs g c ts w1 b o σ'→Calls Tryz.prog 83 #[.pointer (some ⟨b,0,none⟩),.string ⟨#[58]⟩] w1 (RRes g c ts b o w1 NoV M)):=YV fun w1 h1=>by rw[hM];exact jJ g c ts b o [58] σ' w1 h1 (by decide)
   have HEQ:Hid ((σ.bind fun _ L=>zq xs.length L)=(TyR M).bind fun t L=>.ok (asT ns t) L):=YV (by
    have hval':∀ y L,(σ.bind fun _ L=>jw xs.length L)=.ok y L→ns=y:=by rw[← HRN.out];exact hval
    rw[Yo hval',← HRN.out,hu,← hM])
   have HIB:Hid (∀ w1,Rs g c ts w1 b o M→_):=YV fun w1 h1=>rIs g c ts b o vM M w1 h1 (by decide)
   have HII:Hid (∀ w1,Rs g c ts w1 b o M→_):=YV fun w1 h1=>rIs g c ts b o wInt M w1 h1 (by decide)
   obtain⟨bb,hbb⟩:∃ bb,bb=isS vM M:=⟨_,rfl⟩
   rw[← hbb] at HIB
   have HBB:=YV hbb
   have HLE:=YV hlb
   have HBR:=YV hbr
   clear hnm hst hkp ho4 hcg4 hbl hacc hln hu hval hM hbb
   go_upto_if 39 with (first|(go_at_call 44;refine HIS.out.mono ?_;rintro e w5 ⟨rfl,hb⟩;have HG5:Hid (wr.grownBy w5 (some b)):=YV (zb hb b);have HS5:=YV (HST.out.later hb);clear hb HIS)|(go_at_call 83;refine(HMU.out _ HS5.out).mono ?_;rintro e w6 ⟨_,v,rfl,hv,g1,g2,_⟩;obtain rfl:v=.tuple #[]:=hv;have HG6:=YV (za HG5.out g1);have HS6:Hid (Rs g c ts w6 b o M):=YV (by rw[Pr.unit_id] at g2;exact g2);clear g1 g2 HMU)|(go_at_call 44;refine(HIB.out _ HS6.out).mono ?_;rintro e w7 ⟨rfl,hb⟩;have HG7:=YV (za HG6.out (zb hb b));have HS7:=YV (HS6.out.later hb);clear hb HIB))
   go_cut [6] from 39 (fun v w8=>∃ (ty:Int) (M2:Pr Unit),v=.int .i64 ty∧wr.grownBy w8 (some b)∧Rs g c ts w8 b o M2∧jN M2=(TyR M).unit∧(∀ y L,TyR M=.ok y L→ty=y)∧∀ L,M2=.ok () L→WFt L.tail)
   case first=>
    cases bb with
    | true=>
     obtain⟨L,hM1,hp,hT⟩:=JH HBB.out.symm
     clear HII
     go_wp2_with fail
     go_meet
     case rel=>exact⟨1,M,rfl,HG7.out,HS7.out,by rw[hT,hM1];rfl,(fun y L' e=>by rw[hT] at e;injection e),qK (s:=vM) HS7.out.good_ (by decide) (fun L' e=>by rw[hM1] at e;injection e with _ e;rw[← e];exact hp)⟩
    | false=>
     obtain⟨bi,hbi⟩:∃ bi,bi=isS wInt M:=⟨_,rfl⟩
     rw[← hbi] at HII
     have HBI:=YV hbi
     clear hbi
     cases bi with
     | true=>
      obtain⟨L,hM1,hp,hT⟩:=ZE HBI.out.symm
      go_wp2_with (go_at_call 44;refine(HII.out _ HS7.out).mono ?_;rintro e w8 ⟨rfl,hb⟩;have HG8:=YV (za HG7.out (zb hb b));have HS8:=YV (HS7.out.later hb);clear hb HII)
      go_meet
      case rel=>exact⟨0,M,rfl,HG8.out,HS8.out,by rw[hT,hM1];rfl,(fun y L' e=>by rw[hT] at e;injection e),qK (s:=wInt) HS8.out.good_ (by decide) (fun L' e=>by rw[hM1] at e;injection e with _ e;rw[← e];exact hp)⟩
     | false=>
      obtain⟨k2,p2,hF2,hT⟩:=JG HBB.out.symm HBI.out.symm
      have HFA:Hid (∀ w1,Rs g c ts w1 b o M→Calls Tryz.prog 45 #[.pointer (some ⟨b,0,none⟩),.int .i64 2] w1 (RRes g c ts b o w1 NoV (.bad k2 p2:Pr Unit))):=YV fun w1 h1=>by rw[← hF2];exact u9 g c ts b o 2 M w1 h1 (by decide)
      clear hF2
      go_wp2_with (first|(go_at_call 44;refine(HII.out _ HS7.out).mono ?_;rintro e w8 ⟨rfl,hb⟩;have HG8:=YV (za HG7.out (zb hb b));have HS8:=YV (HS7.out.later hb);clear hb HII)|(go_at_call 45;refine(HFA.out _ HS8.out).mono ?_;rintro e w9 ⟨_,v,rfl,hv,g1,g2,_⟩;obtain rfl:v=.tuple #[]:=hv;have HG9:=YV (za HG8.out g1);have HS9:=YV g2;clear g1 g2 HFA))
      go_meet
      case rel=>exact⟨0,_,rfl,HG9.out,HS9.out,by rw[hT];rfl,(fun y L' e=>by rw[hT] at e;cases e),fun L' e=>by cases e⟩
   case rest=>
    obtain⟨ty,M2,rfl,hg8,hs8,hpm,hty,hpw⟩:=hcut
    obtain⟨i8,op8,k8,a8,hr8,ha8⟩:=hs8.row_
    have HR8:=YV hr8
    have HA8:=YV ha8
    have HG8:=YV hg8
    have HS8:=YV hs8
    have HPM:=YV hpm
    have HTY:=YV hty
    have HPW:=YV hpw
    have c1:=hr8.cell 1
    have f1:=hr8.free 1
    simp[zg] at c1
    clear hr8 ha8 hg8 hs8 hpm hty hpw
    go_upto_region 13 with fail
    have hgs:wc.grownBy (wc.setCell ⟨b,1,none⟩ (.int .i64 (wrap64 (i8+1)))) (some b):=zf (zd wc b) 1 _
    have HS9:Hid (Rs g c ts (wc.setCell ⟨b,1,none⟩ (.int .i64 (wrap64 (i8+1)))) b o (TyR M).unit):=YV (by rw[← HPM.out];exact HS8.out.inc HR8.out HA8.out HPW.out)
    have HG9:=YV (za HG8.out hgs)
    clear hgs c1 f1 HR8 HA8
    generalize wc.setCell ⟨b,1,none⟩ (.int .i64 (wrap64 (i8+1)))=v9 at HS9 HG9 ⊢
    have HOV9:Hid (jQ B0 acc (.slice A4 acc.length c4) v9):=YV (zY zN ⟨ds4,HO5.out,HCG5.out⟩ HG9.out (fun q hq=>by injection hq with hq;omega))
    have HL0:Hid (acc=xs++(asT (ns.take 0) ty++asT (ns.drop 0) 0)):=YV (by rw[HACC.out];simp[asT])
    have HK9:Hid (Kp B0 b w v9):=YV (HKP.out.trans (Kp.of HG9.out hbr))
    have HB9:Hid (B0≤v9.heap.size):=YV (by have:=HG9.out.size;omega)
    go_wp2_with fail
    go_loopg [7] ns.length (fun g' kk wr=>∃ i:Nat,i+g'=ns.length∧kk=.int .i64 ((xs.length:Int)+(i:Int))∧jQ B0 (xs++(asT (ns.take i) ty++asT (ns.drop i) 0)) (.slice A4 acc.length c4) wr∧Rs g c ts wr b o (TyR M).unit∧Kp B0 b w wr∧B0≤wr.heap.size)
    case atStart=>exact⟨0,by omega,by go_num,by rw[← HL0.out];exact HOV9.out,HS9.out,HK9.out,HB9.out⟩
    case round=>
     obtain⟨i,hi,rfl,hov,hst,hkp2,hbr2⟩:=hrel
     have HLA:=HLN.out
     by_cases hlt:i<ns.length
     ·obtain⟨x,hx⟩:∃ x,ns[i]? = some x:=⟨_,List.getElem?_eq_getElem hlt⟩
      obtain⟨e1,e2⟩:=YL hx xs ty
      have hal:(xs++(asT (ns.take i) ty++asT (ns.drop i) 0)).length=acc.length:=by rw[HLA];simp[asT];omega
      obtain⟨ys,hys⟩:∃ ys,ys=xs++(asT (ns.take i) ty++asT (ns.drop i) 0):=⟨_,rfl⟩
      rw[← hys] at hov e1 e2 hal
      have hA:∃ gg,A4=some ⟨gg,0,none⟩:=by
       obtain⟨ds,ho,hcg⟩:=hov
       rw[← hal] at ho
       obtain⟨gg,_,he,_⟩:=ho.form (by omega)
       injection he with he
       exact⟨gg,he⟩
      obtain⟨gg,rfl⟩:=hA
      rw[← hal] at hov
      obtain⟨ov2,og2⟩:=jQ.set hov e2 ty
      rw[e1,hal] at ov2
      have f0:wr.frozen? ⟨gg,(xs.length+i) * 2+1,none⟩=false:=by obtain⟨ds,ho,hcg⟩:=hov;exact ho.frozenAt _
      have c0':∃ u,wr.cell? ⟨gg,(xs.length+i) * 2+1,none⟩=some u:=by
       obtain⟨ds,ho,hcg⟩:=hov
       rw[ho.cellAt _ (by omega)]
       exact⟨_,List.getElem?_eq_getElem (by have:=ho.1;omega)⟩
      obtain⟨u0,c0'⟩:=c0'
      have fl0:gg<wr.heap.size:=(jv hov gg rfl).2
      have HOV2:=YV ov2
      have HOG2:=YV og2
      have HOVB:=YV hov
      have HST:=YV hst
      have HKP2:=YV hkp2
      have hlt1:(xs.length:Int)+(i:Int)<(acc.length:Int):=by omega
      have hlt0:(0:Int)≤(xs.length:Int)+(i:Int):=by omega
      clear hst hkp2 hov ov2 og2 e1 e2 hx hys hal HLA
      go_wp2_with fail
      go_roundg (ns.length - (i+1))
      case rel=>
       have hB3:=(jv HOVB.out gg rfl).1
       refine⟨i+1,by omega,by go_num,HOV2.out,HST.out.grown HOG2.out (fun q hq=>by injection hq with hq;omega),HKP2.out.trans (Kp.own HOG2.out hbr2 (fun q hq=>by injection hq with hq;omega)),by have:=HOG2.out.size;omega⟩
      case measure=>omega
     ·obtain rfl:i=ns.length:=by omega
      rw[List.take_length,List.drop_length] at hov
      have HOV:=YV hov
      have HST:=YV hst
      have HKP2:=YV hkp2
      have hle:¬ ((xs.length:Int)+(ns.length:Int))<(acc.length:Int):=by omega
      clear hst hkp2 hov HLA
      go_wp2_with fail
      go_ret
      refine⟨asT ns ty,_,rfl,by simpa [asT] using HOV.out,HKP2.out,by rw[HEQ.out,Pr.unit_map];exact HST.out,by rw[HEQ.out];exact Pr.val_map HTY.out (asT ns)⟩
end Go.Proofs.YtdabndiaflagpaaGreatDoor
namespace Go.Proofs.YtdabndiaflagpaaGreatDoor
open Go.RowKit
theorem qf (g c:Nat) (ts:List Tk) (b o:Nat) (σ:Pr Unit) (w:World) (h:Rs g c ts w b o σ) :
  Calls Tryz.prog 85 #[.pointer (some ⟨b,0,none⟩)] w (RRes g c ts b o w (fun vs v w'=>jQ w.heap.size vs v w') (σ.bind fun _ L=>jF L)):=by
 have hlt:=h.lt
 have HG:Hid (Calls Tryz.prog 86 #[.pointer (some ⟨b,0,none⟩),.slice none 0 0] w (JB g c ts b o w.heap.size w (fun vs v w'=>jQ w.heap.size ([]++vs) v w') (σ.bind fun _ L=>zq 0 L))):=YV (xg g c ts b o w.heap.size [] _ σ w h hlt (Nat.le_refl _) (OwnG.nil _ _ _ _ _ _) (by simp))
 obtain⟨RG,hRG⟩:∃ RG,RG=σ.bind fun _ L=>zq 0 L:=⟨_,rfl⟩
 obtain⟨R,hR⟩:∃ R,R=σ.bind fun _ L=>jF L:=⟨_,rfl⟩
 have HF:Hid (∀ vs,(∀ y L,RG=.ok y L→vs=y)→∃ f,VsAt R f vs RG.unit):=YV fun vs hv=>by rw[hR,hRG];exact VsAt.first (by rw[← hRG];exact hv)
 rw[← hRG] at HG
 rw[← hR]
 obtain⟨B0,hB0⟩:∃ B0,B0=w.heap.size:=⟨_,rfl⟩
 rw[← hB0] at HG hlt ⊢
 have HB0:=YV hB0
 clear h hRG hR hB0
 go_enter Tryz.func85,Tryz.ntmps85
 go_upto_region 2 with (go_at_call 86;refine HG.out.mono ?_;rintro e w1 ⟨vs,v,rfl,hv,g1,g2,g3⟩;have HK1:=YV g1;have HS1:=YV g2;have HV1:=YV hv;have HX1:=YV g3;clear hv g1 g2 g3 HG)
 obtain⟨F,hF⟩:=HF.out vs HX1.out
 have HF1:=YV hF
 clear hF
 go_loopg [3] F (fun g' v wr=>∃ (acc:List Vr) (σ':Pr Unit),VsAt R g' acc σ'∧jQ B0 acc v wr∧Rs g c ts wr b o σ'∧Kp B0 b w wr∧B0≤wr.heap.size)
 case atStart=>exact⟨vs,RG.unit,HF1.out,by simpa using HV1.out,HS1.out,HK1.out,by have:=HK1.out.size;have:=HB0.out;omega⟩
 case round=>
  obtain⟨acc,σ',hvs,hov,hst,hkp,hbr⟩:=hrel
  obtain⟨A4,c4,rfl,_⟩:=zw hov
  have HIS:=YV (rIs g c ts b o [59] σ' wr hst (by decide))
  have HKP:=YV hkp
  have HST:=YV hst
  have HOV:=YV hov
  have HVS:=YV hvs
  obtain⟨bl,hbl⟩:∃ bl,bl=isS [59] σ':=⟨_,rfl⟩
  rw[← hbl] at HIS
  cases bl with
  | true=>
   cases σ' with
   | bad k a=>cases hbl
   | ok u L=>
    have hp:isP [59] L=true:=hbl.symm
    obtain⟨fl,rfl⟩:∃ fl,gk=fl+1:=⟨gk - 1,by have:=hvs.1.fuel L rfl;omega⟩
    have hwt:=zI hst.good_ hp (by decide)
    obtain⟨i,op,k,a,hr,ha⟩:=hst.row_
    have HRW:=YV hr
    have HA:=YV ha
    have HWT:Hid (∀ L',(.ok () L:Pr Unit)=.ok () L'→WFt L'.tail):=YV fun L' e=>by injection e with _ e;rw[← e];exact hwt.1
    have HNX:Hid (∀ x,_→VsAt R fl (acc++x) (zq acc.length L.tail).unit):=YV fun x hx=>hvs.next hst.good_ hp hx
    have HNM:Hid (∀ w1,B0≤w1.heap.size→Rs g c ts w1 b o (.ok () L.tail)→jQ B0 acc (.slice A4 acc.length c4) w1→_):=YV fun w1 hb1 h1 h2=>xg g c ts b o B0 acc _ (.ok () L.tail) w1 h1 (by have:=HB0.out;omega) hb1 h2 (hvs.2 L rfl)
    clear hvs hst hkp hov hr ha hwt hbl hp
    go_upto_region 4 with (go_at_call 44;refine HIS.out.mono ?_;rintro e w5 ⟨rfl,hb⟩;have HG5:Hid (wr.grownBy w5 (some b)):=YV (zb hb b);have HS5:=YV (HST.out.later hb);have hr1:=HRW.out.below hb HRW.out.lt;have HR1:=YV hr1;have c1:=hr1.cell 1;have f1:=hr1.free 1;simp[zg] at c1;clear hb hr1 HIS)
    have HG6:Hid (wr.grownBy (w5.setCell ⟨b,1,none⟩ (.int .i64 (wrap64 (i+1)))) (some b)):=YV (za HG5.out (zf (zd w5 b) 1 _))
    have HS6:Hid (Rs g c ts (w5.setCell ⟨b,1,none⟩ (.int .i64 (wrap64 (i+1)))) b o (.ok () L.tail)):=YV (HS5.out.inc HR1.out HA.out HWT.out)
    clear c1 f1 HR1 HS5 HG5
    generalize w5.setCell ⟨b,1,none⟩ (.int .i64 (wrap64 (i+1)))=v5 at HG6 HS6 ⊢
    have HO6:Hid (jQ B0 acc (.slice A4 acc.length c4) v5):=YV (zY zN HOV.out HG6.out (fun q hq=>by injection hq with hq;omega))
    go_wp2_with (go_at_call 86;refine(HNM.out _ (by have:=HG6.out.size;omega) HS6.out HO6.out).mono ?_;rintro e w6 ⟨vs,v,rfl,hv,g1,g2,g3⟩;have HK7:=YV g1;have HS7:=YV g2;have HV7:=YV hv;have HX7:=YV g3;clear hv g1 g2 g3 HNM)
    go_roundg fl
    case rel=>
     have h6:=HG6.out.size
     exact⟨acc++vs,_,HNX.out vs HX7.out,HV7.out,HS7.out,HKP.out.trans ((Kp.of HG6.out hbr).trans HK7.out),by have:=HK7.out.size;omega⟩
    case measure=>omega
  | false=>
   obtain⟨hu,hval⟩:=hvs.done hbl.symm
   have HU:=YV hu
   have HVAL:=YV hval
   clear hvs hst hkp hov hbl hu hval
   go_wp2_with (go_at_call 44;refine HIS.out.mono ?_;rintro e w5 ⟨rfl,hb⟩;have HB5:=YV hb;clear hb HIS)
   go_ret
   refine⟨acc,_,rfl,zY zN HOV.out (zb HB5.out b) (fun q hq=>by injection hq with hq;omega),?_,by rw[HU.out];exact HST.out.later HB5.out,HVAL.out⟩
   have hkk:=HKP.out.trans (Kp.of (zb HB5.out b) hbr)
   rw[HB0.out] at hkk
   exact hkk.only
end Go.Proofs.YtdabndiaflagpaaGreatDoor
