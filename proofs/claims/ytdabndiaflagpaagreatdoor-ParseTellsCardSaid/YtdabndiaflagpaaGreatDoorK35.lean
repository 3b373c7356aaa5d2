/- Parts: PsZ2. -/
import Derived.Test.YtdabndiaflagpaaGreatDoorK34
import Derived.Test.YtdabndiaflagpaaGreatDoorK33
set_option maxRecDepth 100000
set_option maxHeartbeats 4000000
namespace Go.Proofs.YtdabndiaflagpaaGreatDoor
open Go.RowKit
theorem qm {lo lo':Nat} {w:World} {vs:List Vr} {A:Option Addr} {c:Nat} (h:jQ lo vs (.slice A vs.length c) w) (hl:lo'≤lo):VS w (Bt lo' w.heap.size) A vs:=by
 have hlt:=jv h
 obtain⟨A2,c2,hv,hr⟩:=OwnG.form zN h (S':=Bt lo' w.heap.size) (fun q hq=>hq.elim) (fun q cs hq _=>by have:=hlt q hq;exact⟨by omega,this.2⟩)
 injection hv with h1 _ _
 subst h1
 exact ZJ hr
def z5n:Array Value:=#[.string ⟨#[]⟩,.slice none 0 0,.slice none 0 0,.slice none 0 0,.slice none 0 0]
theorem vp:(Tryz.prog.info? 78).map (·.size)=some 5:=by kernel_rfl
structure NAt (g c:Nat) (ts:List Tk) (b:Nat) (v0:World) (p q:Nat) (σ:Pr Unit) (nm:T) (ins:List Vr) (A1:Option Addr) (c1:Nat) (outs:List Vr) (A2:Option Addr) (c2:Nat) (locals:List Vr) (A3:Option Addr) (c3:Nat) (w:World):Prop where
 ra:RA g c ts b v0 0 σ w
 box:Row w p 78 #[.string ⟨nm.toArray⟩,.slice A1 ins.length c1,.slice A2 outs.length c2,.slice A3 locals.length c3,.slice none 0 0]
 res:Row w q 78 z5n
 vi:VS w (Bt (p+1) w.heap.size) A1 ins
 vo:VS w (Bt (p+1) w.heap.size) A2 outs
 vl:VS w (Bt (p+1) w.heap.size) A3 locals
section
variable {g c:Nat} {ts:List Tk} {b:Nat} {v0:World} {p q:Nat} {σ σ':Pr Unit} {nm:T} {ins:List Vr} {A1:Option Addr} {c1:Nat} {outs:List Vr} {A2:Option Addr} {c2:Nat} {locals:List Vr} {A3:Option Addr} {c3:Nat} {w w':World}
theorem NAt.grow (h:NAt g c ts b v0 p q σ nm ins A1 c1 outs A2 c2 locals A3 c3 w) (hs:Rs g c ts w' b 0 σ') (gr:w.grownBy w' (some b)) (hbq:b≠q) (hbp:b<p):NAt g c ts b v0 p q σ' nm ins A1 c1 outs A2 c2 locals A3 c3 w':=
 ⟨h.ra.step hs gr,h.box.grown gr (fun e=>by injection e with e;omega),h.res.grown gr (fun e=>by injection e with e;omega),h.vi.move (Bt.step gr (fun k e=>by injection e with e;omega)),h.vo.move (Bt.step gr (fun k e=>by injection e with e;omega)),h.vl.move (Bt.step gr (fun k e=>by injection e with e;omega))⟩
theorem NAt.put1 (h:NAt g c ts b v0 p q σ nm [] none 0 [] none 0 [] none 0 w) (hv:VS w (Bt (p+1) w.heap.size) A1 ins) (hqp:q<p) (hbp:b<p) (hvp:v0.heap.size≤p) (hbv:b<v0.heap.size):NAt g c ts b v0 p q σ nm ins A1 c1 [] none 0 [] none 0 (w.setCell ⟨p,1,none⟩ (.slice A1 ins.length c1)):=by
 have hgs:w.grownBy (w.setCell ⟨p,1,none⟩ (.slice A1 ins.length c1)) (some p):=zf (zd w p) 1 _
 have hm:=Bt.step (lo:=p+1) hgs (fun k e=>by injection e with e;omega)
 exact⟨h.ra.far hgs (fun k e=>by injection e with e;omega) hbv,by simpa using h.box.set 1 (.slice A1 ins.length c1),h.res.grown hgs (fun e=>by injection e with e;omega),hv.move hm,h.vo.move hm,h.vl.move hm⟩
theorem NAt.put2 (h:NAt g c ts b v0 p q σ nm ins A1 c1 [] none 0 [] none 0 w) (hv:VS w (Bt (p+1) w.heap.size) A2 outs) (hqp:q<p) (hbp:b<p) (hvp:v0.heap.size≤p) (hbv:b<v0.heap.size):NAt g c ts b v0 p q σ nm ins A1 c1 outs A2 c2 [] none 0 (w.setCell ⟨p,2,none⟩ (.slice A2 outs.length c2)):=by
 have hgs:w.grownBy (w.setCell ⟨p,2,none⟩ (.slice A2 outs.length c2)) (some p):=zf (zd w p) 2 _
 have hm:=Bt.step (lo:=p+1) hgs (fun k e=>by injection e with e;omega)
 exact⟨h.ra.far hgs (fun k e=>by injection e with e;omega) hbv,by simpa using h.box.set 2 (.slice A2 outs.length c2),h.res.grown hgs (fun e=>by injection e with e;omega),h.vi.move hm,hv.move hm,h.vl.move hm⟩
end
structure NLt (g c:Nat) (ts:List Tk) (b:Nat) (v0:World) (p q B3:Nat) (σ:Pr Unit) (nm:T) (ins:List Vr) (A1:Option Addr) (c1:Nat) (outs:List Vr) (A2:Option Addr) (c2:Nat) (locals:List Vr) (A3:Option Addr) (c3:Nat) (w:World):Prop where
 ra:RA g c ts b v0 0 σ w
 box:Row w p 78 #[.string ⟨nm.toArray⟩,.slice A1 ins.length c1,.slice A2 outs.length c2,.slice A3 locals.length c3,.slice none 0 0]
 res:Row w q 78 z5n
 vi:VS w (Bt (p+1) B3) A1 ins
 vo:VS w (Bt (p+1) B3) A2 outs
 own:jQ B3 locals (.slice A3 locals.length c3) w
 hB:B3≤w.heap.size
theorem Yk {B0 b:Nat} {v0 w w':World} (h:v0.grownBy w (some b)) (k:Kp B0 b w w') (hB:v0.heap.size≤B0):v0.grownBy w' (some b):=
 ⟨k.os.trans h.os,k.tape.trans h.tape,k.output.trans h.output,Nat.le_trans h.size k.size,fun q hq hne=>(k.block q (by omega) (fun e=>hne (by rw[e]))).trans (h.block q hq hne)⟩
section
variable {g c:Nat} {ts:List Tk} {b:Nat} {v0:World} {p q B3:Nat} {σ σ':Pr Unit} {nm:T} {ins:List Vr} {A1:Option Addr} {c1:Nat} {outs:List Vr} {A2:Option Addr} {c2:Nat} {locals l':List Vr} {A3 A':Option Addr} {c3 c':Nat} {w w':World}
theorem NLt.grow (h:NLt g c ts b v0 p q B3 σ nm ins A1 c1 outs A2 c2 locals A3 c3 w) (hs:Rs g c ts w' b 0 σ') (gr:w.grownBy w' (some b)) (hbq:b≠q) (hbp:b<p) (hpB:p<B3):NLt g c ts b v0 p q B3 σ' nm ins A1 c1 outs A2 c2 locals A3 c3 w':=by
 have hm:∀ m,Bt (p+1) B3 m→Bt (p+1) B3 m∧w'.heap[m]? = w.heap[m]?:=fun m hm=>⟨hm,gr.block m (by have:=hm.2;have:=h.hB;omega) (fun e=>by injection e with e;have:=hm.1;omega)⟩
 exact⟨h.ra.step hs gr,h.box.grown gr (fun e=>by injection e with e;omega),h.res.grown gr (fun e=>by injection e with e;omega),h.vi.move hm,h.vo.move hm,zY zN h.own gr (fun k e=>by injection e with e;omega),Nat.le_trans h.hB gr.size⟩
theorem NLt.put (h:NLt g c ts b v0 p q B3 σ nm ins A1 c1 outs A2 c2 locals A3 c3 w) (hs:Rs g c ts w' b 0 σ') (k:Kp B3 b w w') (ho:jQ B3 l' (.slice A' l'.length c') w') (hbp:b<p) (hpB:p<B3) (hqp:q<p) (hbq:b≠q) (hvp:v0.heap.size≤p) (hbv:b<v0.heap.size) :
  NLt g c ts b v0 p q B3 σ' nm ins A1 c1 outs A2 c2 l' A' c' (w'.setCell ⟨p,3,none⟩ (.slice A' l'.length c'))∧Row w' p 78 #[.string ⟨nm.toArray⟩,.slice A1 ins.length c1,.slice A2 outs.length c2,.slice A3 locals.length c3,.slice none 0 0]:=by
 have hbx:Row w' p 78 #[.string ⟨nm.toArray⟩,.slice A1 ins.length c1,.slice A2 outs.length c2,.slice A3 locals.length c3,.slice none 0 0]:=(k.block p hpB (by omega)).trans h.box
 have hgs:w'.grownBy (w'.setCell ⟨p,3,none⟩ (.slice A' l'.length c')) (some p):=zf (zd w' p) 3 _
 have hm:∀ m,Bt (p+1) B3 m→Bt (p+1) B3 m∧(w'.setCell ⟨p,3,none⟩ (.slice A' l'.length c')).heap[m]? = w.heap[m]?:=fun m hm=>⟨hm,(hgs.block m (by have:=hm.2;have:=h.hB;have:=k.size;omega) (fun e=>by injection e with e;have:=hm.1;omega)).trans (k.block m hm.2 (by have:=hm.1;omega))⟩
 refine⟨⟨⟨hs.grown hgs (fun k e=>by injection e with e;omega),jb (Yk h.ra.2 k (by omega)) hgs (fun k e=>by injection e with e;omega)⟩,by simpa using hbx.set 3 (.slice A' l'.length c'),Row.grown ((k.block q (by omega) (by omega)).trans h.res) hgs (fun e=>by injection e with e;omega),h.vi.move hm,h.vo.move hm,zY zN ho hgs (fun k e=>by injection e with e;omega),by have:=h.hB;have:=k.size;simpa using by omega⟩,hbx⟩
theorem NLt.out (h:NLt g c ts b v0 p q B3 σ nm ins A1 c1 outs A2 c2 locals A3 c3 w) (hpB:p<B3):NAt g c ts b v0 p q σ nm ins A1 c1 outs A2 c2 locals A3 c3 w:=
 ⟨h.ra,h.box,h.res,h.vi.move fun m hm=>⟨⟨hm.1,by have:=hm.2;have:=h.hB;omega⟩,rfl⟩,h.vo.move fun m hm=>⟨⟨hm.1,by have:=hm.2;have:=h.hB;omega⟩,rfl⟩,qm h.own (by omega)⟩
theorem NAt.toL (h:NAt g c ts b v0 p q σ nm ins A1 c1 outs A2 c2 [] none 0 w):NLt g c ts b v0 p q w.heap.size σ nm ins A1 c1 outs A2 c2 [] none 0 w:=
 ⟨h.ra,h.box,h.res,h.vi,h.vo,OwnG.nil _ _ _ _ _ _,Nat.le_refl _⟩
end
theorem Z4 (L:List Tk):nmP L=zh 0 L:=by
 unfold nmP zh
 by_cases h1:hdK L=1
 ·rw[if_pos h1,if_pos h1,if_neg (by omega)]
 ·rw[if_neg h1,if_neg h1]
theorem node0 {σ:Pr Unit} {nm:T} (hn:∀ y L,((σ.bind fun _ L=>ze j8 L).bind fun _ L=>zh 0 L)=.ok y L→nm=y) :
  (σ.bind fun _ L=>jO L)=(((σ.bind fun _ L=>ze j8 L).bind fun _ L=>zh 0 L).unit.bind fun _ L=>ze [40] L).bind fun _ L=>n0 nm L:=by
 rw[Pr.bind_assoc (_:Pr Unit) _ (fun _ L=>n0 nm L),Pr.unit_bind hn (fun nm L=>(ze [40] L).bind fun _ L=>n0 nm L),Pr.bind_assoc,Pr.bind_assoc]
 cases σ with
 | bad k a=>rfl
 | ok u L=>
  show jO L=_
  rw[x9]
  simp only[Z4]
  rfl
theorem kI {s2:Pr Unit} {nm:T} (h:isS [41] s2=true):(s2.bind fun _ L=>n0 nm L)=s2.bind fun _ L=>n1 nm [] L:=by
 cases s2 with
 | bad k a=>rfl
 | ok u L=>
  have h:isP [41] L=true:=h
  show n0 nm L=n1 nm [] L
  rw[n0,insP,if_pos h];rfl
theorem kH {s2:Pr Unit} {nm:T} {vs:List Vr} (h:isS [41] s2=false) (hv:∀ y L,(s2.bind fun _ L=>jF L)=.ok y L→vs=y):(s2.bind fun _ L=>n0 nm L)=(s2.bind fun _ L=>jF L).unit.bind fun _ L=>n1 nm vs L:=by
 rw[Pr.unit_bind hv (fun vs L=>n1 nm vs L),Pr.bind_assoc]
 cases s2 with
 | bad k a=>rfl
 | ok u L=>
  have h:isP [41] L=false:=h
  show n0 nm L=(jF L).bind fun vs L=>n1 nm vs L
  rw[n0,insP,if_neg (by rw[h];decide)]
theorem node2 {s:Pr Unit} {nm:T} {ins vs:List Vr} (hv:∀ y L,((((s.bind fun _ L=>ze [41] L).bind fun _ L=>ze vd L).bind fun _ L=>ze [40] L).bind fun _ L=>jF L)=.ok y L→vs=y) :
  (s.bind fun _ L=>n1 nm ins L)=((((((s.bind fun _ L=>ze [41] L).bind fun _ L=>ze vd L).bind fun _ L=>ze [40] L).bind fun _ L=>jF L).unit.bind fun _ L=>ze [41] L).bind fun _ L=>ze [59] L).bind fun _ L=>n2 nm ins vs L:=by
 rw[Pr.bind_assoc (_:Pr Unit) _ (fun _ L=>n2 nm ins vs L),Pr.bind_assoc (_:Pr Unit) _ (fun _ L=>(ze [59] L).bind fun _ L=>n2 nm ins vs L),Pr.unit_bind hv (fun vs L=>(ze [41] L).bind fun _ L=>(ze [59] L).bind fun _ L=>n2 nm ins vs L)]
 cases s with
 | bad k a=>rfl
 | ok u L=>
  show n1 nm ins L=((((ze [41] L).bind fun _ L=>ze vd L).bind fun _ L=>ze [40] L).bind fun _ L=>jF L).bind fun vs L=>(ze [41] L).bind fun _ L=>(ze [59] L).bind fun _ L=>n2 nm ins vs L
  unfold n1
  simp only[jd,Pr.bind_assoc]
  rfl
structure LcAt (R:Pr Nd) (nm:T) (ins outs:List Vr) (f:Nat) (acc:List Vr) (σ:Pr Unit):Prop where
 eq:R=σ.bind fun _ L=>(zS f acc L).bind fun vs L=>n3 nm ins outs vs L
 fuel:∀ L,σ=.ok () L→L.length<f∧acc.length≤1000
theorem LcAt.first {R:Pr Nd} {nm:T} {ins outs vs:List Vr} {L:List Tk} (h:R=n2 nm ins outs L) (hw:WFt L) (hi:isP wVar L=true) (hv:∀ y L',zq 0 L.tail=.ok y L'→vs=y) :
  ∃ f,LcAt R nm ins outs f vs ((zq 0 L.tail).unit.bind fun _ L=>ze [59] L):=by
 have e:R=(zq 0 L.tail).bind fun vs L=>(ze [59] L).bind fun _ L=>(zS (L.length+1) vs L).bind fun vs L=>n3 nm ins outs vs L:=by
  rw[h,n2,varP,if_pos hi]
  unfold vv
  simp only[Pr.bind_assoc]
 rw[Pr.seq hv,← Pr.bind_assoc] at e
 cases hs:((zq 0 L.tail).unit.bind fun _ L=>ze [59] L) with
 | bad k a=>rw[hs] at e;exact⟨0,by rw[e];rfl,fun L e=>by cases e⟩
 | ok u M=>
  rw[hs] at e
  refine⟨M.length+1,by rw[e];rfl,fun K ek=>?_⟩
  injection ek with _ ek
  subst ek
  refine⟨Nat.lt_succ_self _,?_⟩
  cases hg:zq 0 L.tail with
  | bad k a=>rw[hg] at hs;cases hs
  | ok y K=>
   obtain rfl:=hv y K hg
   have:=vO hg
   omega
theorem LcAt.next {R:Pr Nd} {nm:T} {ins outs acc vs:List Vr} {f:Nat} {L:List Tk} (h:LcAt R nm ins outs (f+1) acc (.ok () L)) (hw:WFt L) (hk:hdK L=1) (hv:∀ y L',zq acc.length L=.ok y L'→vs=y) :
  LcAt R nm ins outs f (acc++vs) ((zq acc.length L).unit.bind fun _ L=>ze [59] L):=by
 have hf:=h.fuel L rfl
 have e:R=(zq acc.length L).bind fun vs L=>(ze [59] L).bind fun _ L=>(zS f (acc++vs) L).bind fun vs L=>n3 nm ins outs vs L:=by
  rw[h.eq]
  show (zS (f+1) acc L).bind _=_
  rw[zS,if_pos hk]
  simp only[Pr.bind_assoc]
 rw[Pr.seq hv,← Pr.bind_assoc] at e
 refine⟨e,fun M em=>?_⟩
 cases hg:zq acc.length L with
 | bad k a=>rw[hg] at em;cases em
 | ok y K=>
  rw[hg] at em
  obtain rfl:=hv y K hg
  have h1:=vO hg
  have h2:=jo acc.length hw vs K hg
  have em:ze [59] K=.ok () M:=em
  have h3:=zu h2.1 (by decide) () M em
  exact⟨by have:=h2.2;have:=h3.2;omega,by simpa using h1⟩
theorem LcAt.done {R:Pr Nd} {nm:T} {ins outs acc:List Vr} {f:Nat} {σ:Pr Unit} (h:LcAt R nm ins outs f acc σ) (hk:nowK σ≠1):R=σ.bind fun _ L=>n3 nm ins outs acc L:=by
 rw[h.eq]
 cases σ with
 | bad k a=>rfl
 | ok u L=>
  have hk:hdK L≠1:=hk
  have hf:=(h.fuel L rfl).1
  obtain⟨f,rfl⟩:∃ f',f=f'+1:=⟨f - 1,by omega⟩
  show (zS (f+1) acc L).bind _=n3 nm ins outs acc L
  rw[zS,if_neg hk];rfl
theorem kG {s:Pr Unit} {nm:T} {ins outs:List Vr} (h:isS wVar s=false):(s.bind fun _ L=>n2 nm ins outs L)=s.bind fun _ L=>n3 nm ins outs [] L:=by
 cases s with
 | bad k a=>rfl
 | ok u L=>
  have h:isP wVar L=false:=h
  show n2 nm ins outs L=n3 nm ins outs [] L
  rw[n2,varP,if_neg (by rw[h];decide)];rfl
def eqS (n:Nat) (L:List Tk):Pr Unit:=if 1000≤n∧(hdK L=1∨isP [40] L=true) then zC 4 L else .ok () L
structure EsAt (R:Pr Nd) (nm:T) (ins outs locals:List Vr) (f:Nat) (acc:List Q) (σ:Pr Unit):Prop where
 eq:R=σ.bind fun _ L=>(eqsF f acc L).bind fun eqs L=>n4 nm ins outs locals eqs L
 fuel:∀ L,σ=.ok () L→L.length<f∧acc.length≤1000
 few:acc.length≤1001
theorem EsAt.first {R:Pr Nd} {nm:T} {ins outs locals:List Vr} {s:Pr Unit} (h:R=s.bind fun _ L=>n3 nm ins outs locals L):∃ f,EsAt R nm ins outs locals f [] (s.bind fun _ L=>ze wLet L):=by
 have e:R=(s.bind fun _ L=>ze wLet L).bind fun _ L=>(eqsF (L.length+1) [] L).bind fun eqs L=>n4 nm ins outs locals eqs L:=by rw[h,Pr.bind_assoc];rfl
 cases hs:(s.bind fun _ L=>ze wLet L) with
 | bad k a=>rw[hs] at e;exact⟨0,by rw[e];rfl,(fun L e=>by cases e),by simp⟩
 | ok u M=>
  rw[hs] at e
  exact⟨M.length+1,by rw[e];rfl,(fun K ek=>by injection ek with _ ek;subst ek;exact⟨Nat.lt_succ_self _,by simp⟩),by simp⟩
theorem Yw {L:List Tk} (h:¬ (hdK L=1∨isP [40] L=true)):eqnP L=zC 2 L:=by
 unfold eqnP jA
 rw[if_neg (fun e=>h (.inr e))]
 unfold nmP
 rw[if_neg (fun e=>h (.inl e))];rfl
theorem EsAt.next {R:Pr Nd} {nm:T} {ins outs locals:List Vr} {f:Nat} {acc:List Q} {L:List Tk} {x:Q} (h:EsAt R nm ins outs locals (f+1) acc (.ok () L)) (hw:WFt L) (ht:isP wTel L=false) (hx:∀ y L',((eqS acc.length L).bind fun _ L=>eqnP L)=.ok y L'→x=y) :
  EsAt R nm ins outs locals f (acc++[x]) ((eqS acc.length L).bind fun _ L=>eqnP L).unit:=by
 obtain⟨hf,ha⟩:=h.fuel L rfl
 have e0:R=(eqsF (f+1) acc L).bind fun eqs L=>n4 nm ins outs locals eqs L:=h.eq
 by_cases hc:hdK L=1∨isP [40] L=true
 ·have e:R=((eqS acc.length L).bind fun _ L=>eqnP L).bind fun q L=>(eqsF f (acc++[q]) L).bind fun eqs L=>n4 nm ins outs locals eqs L:=by
   rw[e0,eqsF,if_pos hc]
   unfold eqS
   by_cases hl:1000≤acc.length
   ·rw[if_pos hl,if_pos ⟨hl,hc⟩];rfl
   ·rw[if_neg hl,if_neg (fun h=>hl h.1),Pr.bind_assoc];rfl
  refine⟨by rw[e];exact Pr.seq hx fun q L=>(eqsF f (acc++[q]) L).bind fun eqs L=>n4 nm ins outs locals eqs L,fun M em=>?_,by simp;omega⟩
  unfold eqS at em
  by_cases hl:1000≤acc.length
  ·rw[if_pos ⟨hl,hc⟩] at em;cases em
  ·rw[if_neg (fun h=>hl h.1)] at em
   have em:(eqnP L).unit=.ok () M:=em
   cases hr:eqnP L with
   | bad k a=>rw[hr] at em;cases em
   | ok y K=>
    rw[hr] at em
    obtain rfl:K=M:=by injection em
    have:=(yf hw y K hr).2
    exact⟨by omega,by simp;omega⟩
 ·have e1:((eqS acc.length L).bind fun _ L=>eqnP L)=zC 2 L:=by
   unfold eqS
   rw[if_neg (fun h=>hc h.2)]
   exact Yw hc
  rw[e1]
  refine⟨?_,(fun M em=>by cases em),by simp;omega⟩
  rw[e0,eqsF,if_neg hc]
  show (ze wTel L).bind _=_
  unfold ze
  rw[if_neg (by rw[ht];decide)];rfl
theorem EsAt.done {R:Pr Nd} {nm:T} {ins outs locals:List Vr} {f:Nat} {acc:List Q} {σ:Pr Unit} (h:EsAt R nm ins outs locals f acc σ) (hGd:jR σ) (ht:∀ L,σ=.ok () L→isP wTel L=true):R.unit=(σ.bind fun _ L=>ze wTel L)∧∀ v L,R=.ok v L→(⟨nm,ins,outs,locals,acc⟩:Nd)=v:=by
 cases σ with
 | bad k a=>rw[h.eq];exact⟨rfl,fun v L e=>by cases e⟩
 | ok u L=>
  have ht:=ht L rfl
  have hf:=(h.fuel L rfl).1
  obtain⟨f,rfl⟩:∃ f',f=f'+1:=⟨f - 1,by omega⟩
  have hd:hdT L=wTel:=of_decide_eq_true ht
  have e:R=n4 nm ins outs locals acc L:=by
   rw[h.eq]
   show (eqsF (f+1) acc L).bind _=_
   rw[eqsF,if_neg ?_]
   ·rfl
   ·have hw:¬ hdK L=1:=fun h1=>by
     have hwf:WFt L:=hGd
     obtain⟨t,r,rfl,gt,_⟩:=hwf.pass (.inr (by rw[h1];decide))
     have hn:=gt.name_ h1
     have e:t.text=wTel:=hd
     rw[e] at hn
     exact absurd hn (by rw[(uw wTel (by decide)).2.1];decide)
    rintro(hk | hk)
    ·exact hw hk
    ·unfold isP at hk;rw[hd] at hk;exact absurd hk (by decide)
  rw[e]
  show (n4 nm ins outs locals acc L).unit=ze wTel L∧_
  unfold n4
  exact⟨by cases ze wTel L <;> rfl,fun v K e=>by cases hm:ze wTel L with
   | bad k a=>rw[hm] at e;cases e
   | ok u M=>rw[hm] at e;injection e⟩
end Go.Proofs.YtdabndiaflagpaaGreatDoor
