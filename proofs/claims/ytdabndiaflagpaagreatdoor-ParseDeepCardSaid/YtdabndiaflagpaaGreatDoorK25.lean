/- Parts: PsX8, PsX9, PsY0, PsXH, PsY1, PsY2, PsYR. -/
import Derived.Test.YtdabndiaflagpaaGreatDoorK24
import Derived.Test.YtdabndiaflagpaaGreatDoorK12
import Derived.Test.YtdabndiaflagpaaGreatDoorK15
set_option maxRecDepth 100000
set_option maxHeartbeats 4000000
namespace Go.Proofs.YtdabndiaflagpaaGreatDoor
open Go.RowKit
theorem rOp (g c:Nat) (ts:List Tk) (b o n:Nat) (σ:Pr Unit) (w:World) (h:Rs g c ts w b o σ) :
  Calls Tryz.prog 167 #[.pointer (some ⟨b,0,none⟩),.int .i64 (n:Int)] w fun e w'=>e=.returned (.int .i64 (vC (n:Int) σ vc 0))∧Below w.heap.size w w':=by
 obtain⟨R,hR⟩:∃ R,R=vC (n:Int) σ vc 0:=⟨_,rfl⟩
 rw[← hR]
 have HR:=YV hR
 obtain⟨N,hN⟩:∃ N:Int,N=(n:Int):=⟨_,rfl⟩
 rw[← hN] at HR ⊢
 have HI:Hid (∀ (x:T) w1,keyB x=true→Below w.heap.size w w1→_):=YV fun (x:T) w1 hx hb=>rIs g c ts b o x σ w1 (h.later hb) hx
 obtain⟨wm,hwm⟩:∃ wm,wm=w.alloc (.cells opA 9):=⟨_,rfl⟩
 obtain⟨tb,htb⟩:∃ tb,tb=w.heap.size:=⟨_,rfl⟩
 have HT:Hid (Calls Tryz.prog 187 #[] w fun e w'=>e=.returned (.slice (some ⟨tb,0,none⟩) 16 16)∧w'=wm):=YV (by rw[hwm,htb];exact rTexts w)
 have HB0:Hid (Below w.heap.size w wm):=YV (by rw[hwm];exact(Below.refl _ _).alloc (Nat.le_refl _) _)
 have HR0:Hid (Row wm tb 9 opA):=YV (by rw[hwm,htb];exact Row.made _ _ _)
 clear h hR hN hwm htb
 go_enter Tryz.func167,Tryz.ntmps167
 go_upto_region 3 with (go_at_call 187;refine HT.out.mono ?_;rintro e w1 ⟨rfl,rfl⟩;clear HT)
 go_loopg [6] 16 (fun g' kk wr=>∃ i:Nat,i+g'=16∧kk=.int .i64 (i:Int)∧R=vC N σ (vc.drop i) i∧Below w.heap.size w wr∧Row wr tb 9 opA)
 case atStart=>exact⟨0,rfl,rfl,HR.out,HB0.out,HR0.out⟩
 case round=>
  obtain⟨i,hi,rfl,hf,hb,hrow⟩:=hrel
  have HB:=YV hb
  have HROW:=YV hrow
  by_cases h16:i<16
  ·obtain⟨p,hp⟩:∃ p,vc[i]? = some p:=⟨_,List.getElem?_eq_getElem (by simpa [vc] using h16)⟩
   have HDR:Hid (vc.drop i=p::vc.drop (i+1)):=YV (by
    have hl:i<vc.length:=(List.getElem?_eq_some_iff.1 hp).1
    rw[List.drop_eq_getElem_cons hl];congr 1;rw[List.getElem?_eq_getElem hl] at hp;injection hp)
   have HL:=YV (ZO i wr p hp)
   have ho:=opA_at hp
   have HKEY:=YV (ZK p (List.mem_of_getElem? hp))
   obtain⟨lv,x⟩:=p
   simp only at ho
   have HXI:Hid (∀ w1,Below w.heap.size w w1→_):=YV fun w1 hb=>HI.out x w1 HKEY.out hb
   have HCELL:Hid (∀ w1,Below wr.heap.size wr w1→w1.cell? ⟨tb,i,none⟩=some (.string ⟨x.toArray⟩)):=YV fun w1 hb=>by rw[(HROW.out.below hb HROW.out.lt).cell i,ho]
   by_cases hlv:lv=N
   ·subst hlv
    obtain⟨bl,hbl⟩:∃ bl,bl=isS x σ:=⟨_,rfl⟩
    rw[← hbl] at HXI
    have HF:Hid (R=if bl=true then (i:Int) else vC lv σ (vc.drop (i+1)) (i+1)):=YV (by rw[hf,HDR.out,vC,hbl];simp)
    clear hf hb hrow hp ho hbl HI HDR
    cases bl with
    | true=>
     go_wp2_with (first|(go_at_call 188;refine HL.out.mono ?_;rintro e w1 ⟨rfl,hb⟩;have HB1:=YV (HB.out.trans (hb.mono HB.out.size));have c0:=HCELL.out w1 hb;clear hb HL)|(go_at_call 44;refine(HXI.out _ HB1.out).mono ?_;rintro e w2 ⟨rfl,hb⟩;have HB2:=YV (HB1.out.trans (hb.mono HB1.out.size));clear hb HXI))
     go_ret
     exact⟨by rw[HF.out];rfl,HB2.out⟩
    | false=>
     go_wp2_with (first|(go_at_call 188;refine HL.out.mono ?_;rintro e w1 ⟨rfl,hb⟩;have HB1:=YV (HB.out.trans (hb.mono HB.out.size));have HRW:=YV (HROW.out.below hb HROW.out.lt);have c0:=HCELL.out w1 hb;clear hb HL)|(go_at_call 44;refine(HXI.out _ HB1.out).mono ?_;rintro e w2 ⟨rfl,hb⟩;have HB2:=YV (HB1.out.trans (hb.mono HB1.out.size));have HRW2:=YV (HRW.out.below hb HRW.out.lt);clear hb HXI))
     go_roundg (16 - (i+1))
     case rel=>exact⟨i+1,by omega,by go_num,by rw[HF.out];rfl,HB2.out,HRW2.out⟩
     case measure=>omega
   ·have HF:Hid (R=vC N σ (vc.drop (i+1)) (i+1)):=YV (by rw[hf,HDR.out,vC,if_neg (fun e=>hlv e.1)])
    clear hf hb hrow hp ho HI HDR HXI HCELL
    go_wp2_with (go_at_call 188;refine HL.out.mono ?_;rintro e w1 ⟨rfl,hb⟩;have HB1:=YV (HB.out.trans (hb.mono HB.out.size));have HRW:=YV (HROW.out.below hb HROW.out.lt);clear hb HL)
    go_roundg (16 - (i+1))
    case rel=>exact⟨i+1,by omega,by go_num,HF.out,HB1.out,HRW.out⟩
    case measure=>omega
  ·obtain rfl:i=16:=by omega
   have HF:Hid (R = -1):=YV (by rw[hf];rfl)
   clear hf hb hrow HI
   go_wp2_with fail
   go_ret
   exact⟨by rw[HF.out];rfl,HB.out⟩
end Go.Proofs.YtdabndiaflagpaaGreatDoor
namespace Go.Proofs.YtdabndiaflagpaaGreatDoor
open Go.RowKit
theorem Pr.unit_bind {α β:Type} {r:Pr α} {x:α} (h:∀ y L,r=.ok y L→x=y) (Q:α→List Tk→Pr β):(r.unit.bind fun _ L=>Q x L)=r.bind Q:=by
 cases r with
 | ok y L=>rw[h y L rfl];rfl
 | bad c a=>rfl
theorem Pr.bind_assoc {α β γ:Type} (r:Pr α) (f:α→List Tk→Pr β) (g:β→List Tk→Pr γ):(r.bind f).bind g=r.bind fun x L=>(f x L).bind g:=by cases r <;> rfl
theorem CG.setV {w w':World} {S:Nat→Prop}:∀ {xs:List Vr} {cs:List Value} {i:Nat} {x:Vr} (ty:Int),CG RV w S xs cs→xs[i]? = some x→CG RV w' S (xs.set i ⟨x.name,ty⟩) (cs.set (i * 2+1) (.int .i64 ty))
 | [],_,i,x,ty,_,hi=>by simp at hi
 | y::ys,cs,i,x,ty,h,hi=>by
  obtain⟨c,rest,rfl,hk,hr⟩:=h
  have hk:c=_:=hk
  cases i with
  | zero=>
   simp at hi
   subst hi
   refine⟨[.string ⟨y.name.toArray⟩,.int .i64 ty],rest,by rw[hk];rfl,rfl,?_⟩
   exact cg_bare hr
  | succ i=>
   simp at hi
   refine⟨c,rest.set (i * 2+1) (.int .i64 ty),?_,hk,CG.setV ty hr hi⟩
   rw[show (i+1) * 2+1=c.length+(i * 2+1) by rw[hk];simp;omega,List.set_append_right _ _ (by omega)]
   simp
 where
 cg_bare {w w':World} {S:Nat→Prop}:∀ {xs:List Vr} {cs:List Value},CG RV w S xs cs→CG RV w' S xs cs
  | [],_,h=>h
  | _::_,_,h=>by obtain⟨c,rest,e,hk,hr⟩:=h;exact⟨c,rest,e,hk,cg_bare hr⟩
def jQ (B:Nat) (xs:List Vr) (v:Value) (w:World):Prop:=OwnG RV 127 2 w B (fun _=>False) v xs
theorem jQ.set {B g c i:Nat} {xs:List Vr} {w:World} {x:Vr} (h:jQ B xs (.slice (some ⟨g,0,none⟩) xs.length c) w) (hi:xs[i]? = some x) (ty:Int) :
  jQ B (xs.set i ⟨x.name,ty⟩) (.slice (some ⟨g,0,none⟩) xs.length c) (w.setCell ⟨g,i * 2+1,none⟩ (.int .i64 ty))∧w.grownBy (w.setCell ⟨g,i * 2+1,none⟩ (.int .i64 ty)) (some g):=by
 obtain⟨cs,ho,hx⟩:=h
 obtain⟨h1,h2⟩:=ho.stored (i * 2+1) (.int .i64 ty)
 exact⟨⟨_,by rw[List.length_set];exact h1,hx.setV ty hi⟩,h2⟩
theorem xN:(Tryz.prog.info? 127).map (fun i=>(i.zero,i.size,i.bytes))=some (some (.agg #[.string ⟨#[]⟩,.int .i64 0]),2,24):=by kernel_rfl
structure vF (R:Pr (List T)) (n f:Nat) (ns:List T) (σ:Pr Unit):Prop where
 eq:R=σ.bind fun _ L=>zW f n ns L
 fuel:∀ L,σ=.ok () L→L.length<f∧n+ns.length≤1000
 few:n+ns.length≤1001
theorem vF.first {n:Nat} {σ:Pr Unit} {x:T} (hn:n≤1000) (hx:∀ y L,(σ.bind fun _ L=>zh n L)=.ok y L→x=y) :
  ∃ f,vF (σ.bind fun _ L=>(zh n L).bind fun t L'=>zW (L'.length+1) n [t] L') n f [x] (σ.bind fun _ L=>zh n L).unit:=by
 cases σ with
 | bad c a=>exact⟨0,rfl,(fun L e=>by cases e),by simp;omega⟩
 | ok u L=>
  show ∃ f,vF ((zh n L).bind fun t L'=>zW (L'.length+1) n [t] L') n f [x] (zh n L).unit
  rcases (zh n L).cases with ⟨y,L1,hE⟩ | ⟨c,a,hE⟩
  ·obtain rfl:=hx y L1 (by show zh n L=_;exact hE)
   rw[hE]
   refine⟨L1.length+1,rfl,fun L' e=>?_,by simp;omega⟩
   obtain rfl:L1=L':=by injection e
   refine⟨Nat.lt_succ_self _,?_⟩
   unfold zh at hE
   split at hE
   ·split at hE
    ·cases hE
    ·simp;omega
   ·cases hE
  ·rw[hE]
   exact⟨0,rfl,(fun L e=>by cases e),by simp;omega⟩
theorem vF.next {R:Pr (List T)} {n f:Nat} {ns:List T} {L:List Tk} {x:T} (h:vF R n (f+1) ns (.ok () L)) (hp:isP [44] L=true) (hx:∀ y L',zh (n+ns.length) L.tail=.ok y L'→x=y):vF R n f (ns++[x]) (zh (n+ns.length) L.tail).unit:=by
 obtain⟨h1,h2⟩:=h.fuel L rfl
 have hne:L≠[]:=by rintro rfl;simp[isP,hdT] at hp
 have hl:L.tail.length<L.length:=by cases L with
  | nil=>exact absurd rfl hne
  | cons t r=>simp
 refine⟨?_,fun L' e=>?_,by simp;omega⟩
 ·rw[Pr.unit_bind hx (fun t L=>zW f n (ns++[t]) L),h.eq]
  show zW (f+1) n ns L=_
  rw[zW,if_pos hp]
 ·rcases (zh (n+ns.length) L.tail).cases with ⟨y,L1,hE⟩ | ⟨c,a,hE⟩
  ·rw[hE] at e
   obtain rfl:L1=L':=by injection e
   unfold zh at hE
   split at hE
   ·split at hE
    ·cases hE
    ·injection hE with _ hE
     rw[← hE,List.length_tail]
     simp;omega
   ·cases hE
  ·rw[hE] at e;cases e
theorem vF.done {R:Pr (List T)} {n f:Nat} {ns:List T} {σ:Pr Unit} (h:vF R n f ns σ) (hp:isS [44] σ=false):R.unit=σ∧∀ y L,R=.ok y L→ns=y:=by
 cases σ with
 | bad c a=>rw[h.eq];exact⟨rfl,fun y L e=>by cases e⟩
 | ok u L=>
  have hp:isP [44] L=false:=hp
  obtain⟨h1,_⟩:=h.fuel L rfl
  obtain⟨f,rfl⟩:∃ f',f=f'+1:=⟨f - 1,by omega⟩
  have e:R=.ok ns L:=by
   rw[h.eq]
   show zW (f+1) n ns L=_
   rw[zW,if_neg (by rw[hp];decide)]
  rw[e]
  exact⟨rfl,fun y L e=>by injection e⟩
end Go.Proofs.YtdabndiaflagpaaGreatDoor
namespace Go.Proofs.YtdabndiaflagpaaGreatDoor
open Go.RowKit
theorem Pr.seq {α β:Type} {r:Pr α} {x:α} (h:∀ y L,r=.ok y L→x=y) (Q:α→List Tk→Pr β):r.bind Q=r.unit.bind fun _ L=>Q x L:=(Pr.unit_bind h Q).symm
theorem Pr.unit_id (r:Pr Unit):r.unit=r:=by cases r <;> rfl
theorem Pr.unit_map {α β:Type} (r:Pr α) (f:α→β):(r.bind fun x L=>.ok (f x) L).unit=r.unit:=by cases r <;> rfl
theorem Pr.val_map {α β:Type} {r:Pr α} {x:α} (h:∀ y L,r=.ok y L→x=y) (f:α→β):∀ y L,(r.bind fun x L=>.ok (f x) L)=.ok y L→f x=y:=by
 intro y L e
 cases r with
 | ok z M=>injection e with e _;rw[← e,h z M rfl]
 | bad c a=>cases e
structure LpAt {β:Type} (R:Pr β) (F:Nat→β→List Tk→Pr β) (f:Nat) (acc:β) (σ:Pr Unit):Prop where
 eq:R=σ.bind fun _ L=>F f acc L
 fuel:∀ L,σ=.ok () L→L.length<f
theorem LpAt.first {α β:Type} {r:Pr α} {F:Nat→β→List Tk→Pr β} {g:α→β} {x:α} (hx:∀ y L,r=.ok y L→x=y):∃ f,LpAt (r.bind fun y L=>F (L.length+1) (g y) L) F f (g x) r.unit:=by
 cases r with
 | bad c a=>exact⟨0,rfl,fun L e=>by cases e⟩
 | ok y L=>
  obtain rfl:=hx y L rfl
  exact⟨L.length+1,rfl,fun L' e=>by
                       obtain rfl:L=L':=by injection e
                       exact Nat.lt_succ_self _⟩
theorem LpAt.next {α β:Type} {R:Pr β} {F:Nat→β→List Tk→Pr β} {f:Nat} {acc:β} {L:List Tk} {r:Pr α} {g:α→β} {x:α} (h:LpAt R F (f+1) acc (.ok () L)) (hs:F (f+1) acc L=r.bind fun y L'=>F f (g y) L') (hx:∀ y L',r=.ok y L'→x=y) (hl:∀ y L',r=.ok y L'→L'.length<L.length):LpAt R F f (g x) r.unit:=by
 have h1:=h.fuel L rfl
 refine⟨?_,fun L' e=>?_⟩
 ·rw[h.eq]
  show F (f+1) acc L=_
  rw[hs]
  exact Pr.seq hx fun y L=>F f (g y) L
 ·cases r with
  | bad c a=>cases e
  | ok y M=>
   obtain rfl:M=L':=by injection e
   have:=hl y M rfl
   omega
theorem LpAt.done {β:Type} {R:Pr β} {F:Nat→β→List Tk→Pr β} {f:Nat} {acc:β} {σ:Pr Unit} (h:LpAt R F f acc σ) (hs:∀ f' L,σ=.ok () L→F (f'+1) acc L=.ok acc L):R.unit=σ∧∀ y L,R=.ok y L→acc=y:=by
 cases σ with
 | bad c a=>rw[h.eq];exact⟨rfl,fun y L e=>by cases e⟩
 | ok u L=>
  have h1:=h.fuel L rfl
  obtain⟨f,rfl⟩:∃ f',f=f'+1:=⟨f - 1,by omega⟩
  have e:R=.ok acc L:=by
   rw[h.eq]
   show F (f+1) acc L=_
   exact hs f L rfl
  rw[e]
  exact⟨rfl,fun y L e=>by injection e⟩
theorem uX {n:Nat} {L L':List Tk} {x:T} (h:zh n L=.ok x L'):n<1000:=by
 unfold zh at h
 split at h
 ·split at h
  ·cases h
  ·omega
 ·cases h
theorem uU (n:Nat):∀ (f:Nat) (acc ts:List T) (L L':List Tk),n+acc.length≤1000→zW f n acc L=.ok ts L'→n+ts.length≤1000
 | 0,acc,ts,L,L',_,h=>by unfold zW at h;cases h
 | f+1,acc,ts,L,L',hn,h=>by
  unfold zW at h
  split at h
  ·obtain⟨x,L1,h1,h2⟩:=zk h
   exact uU n f _ ts L1 L' (by have:=uX h1;simp;omega) h2
  ·injection h with h _;rw[← h];exact hn
theorem vO {n:Nat} {L L':List Tk} {vs:List Vr} (h:zq n L=.ok vs L'):n+vs.length≤1000:=by
 obtain⟨ts,L1,h1,h2⟩:=zk h
 obtain⟨x,L2,h3,h4⟩:=zk h1
 have:=uU n _ _ _ _ _ (by have:=uX h3;simp;omega) h4
 obtain⟨_,L3,_,h5⟩:=zk h2
 obtain⟨ty,L4,_,h6⟩:=zk h5
 injection h6 with h6 _
 rw[← h6,List.length_map];exact this
def TyR (M:Pr Unit):Pr Int:=M.bind fun _ L=>jV L
def asT (ns:List T) (t:Int):List Vr:=ns.map fun x=>⟨x,t⟩
theorem Yo {n:Nat} {σ:Pr Unit} {ns:List T} (h:∀ y L,(σ.bind fun _ L=>jw n L)=.ok y L→ns=y) :
  (σ.bind fun _ L=>zq n L)=(TyR ((σ.bind fun _ L=>jw n L).unit.bind fun _ L=>ze [58] L)).bind fun t L=>.ok (asT ns t) L:=by
 unfold TyR
 rw[Pr.bind_assoc,Pr.bind_assoc,Pr.unit_bind h (fun ns L=>(ze [58] L).bind fun _ L=>(jV L).bind fun t L=>.ok (asT ns t) L),Pr.bind_assoc]
 rfl
theorem JH {M:Pr Unit} (h:isS vM M=true):∃ L,M=.ok () L∧isP vM L=true∧TyR M=.ok 1 L.tail:=by
 cases M with
 | bad c a=>cases h
 | ok u L=>
  have h:isP vM L=true:=h
  have hn:isP wInt L=false:=by
   have e:hdT L=vM:=of_decide_eq_true h
   unfold isP;rw[e];decide
  refine⟨L,rfl,h,?_⟩
  show jV L=_
  unfold jV ze
  rw[if_neg (by rw[hn];decide),if_pos h]
  rfl
theorem ZE {M:Pr Unit} (h:isS wInt M=true):∃ L,M=.ok () L∧isP wInt L=true∧TyR M=.ok 0 L.tail:=by
 cases M with
 | bad c a=>cases h
 | ok u L=>
  have h:isP wInt L=true:=h
  refine⟨L,rfl,h,?_⟩
  show jV L=_
  unfold jV
  rw[if_pos h]
theorem JG {M:Pr Unit} (hb:isS vM M=false) (hi:isS wInt M=false):∃ k p,(M.bind fun _ L=>(zC 2 L:Pr Unit))=.bad k p∧TyR M=.bad k p:=by
 cases M with
 | bad c a=>exact⟨c,a,rfl,rfl⟩
 | ok u L=>
  have hb:isP vM L=false:=hb
  have hi:isP wInt L=false:=hi
  refine⟨2,hdF L,rfl,?_⟩
  show jV L=_
  unfold jV ze
  rw[if_neg (by rw[hi];decide),if_neg (by rw[hb];decide)]
  rfl
def VsAt (R:Pr (List Vr)) (f:Nat) (acc:List Vr) (σ:Pr Unit):Prop:=LpAt R jL f acc σ∧∀ L,σ=.ok () L→acc.length≤1000
theorem VsAt.first {σ:Pr Unit} {vs:List Vr} (h:∀ y L,(σ.bind fun _ L=>zq 0 L)=.ok y L→vs=y):∃ f,VsAt (σ.bind fun _ L=>jF L) f vs (σ.bind fun _ L=>zq 0 L).unit:=by
 obtain⟨f,hf⟩:=LpAt.first (F:=jL) (g:=id) h
 refine⟨f,?_,fun L e=>?_⟩
 ·have:(σ.bind fun _ L=>jF L)=(σ.bind fun _ L=>zq 0 L).bind fun y L=>jL (L.length+1) (id y) L:=by rw[Pr.bind_assoc];rfl
  rw[this];exact hf
 ·cases hg:(σ.bind fun _ L=>zq 0 L) with
  | bad c a=>rw[hg] at e;cases e
  | ok y M=>
   rw[hg] at h
   obtain rfl:=h y M rfl
   obtain⟨_,L1,_,h2⟩:=zk hg
   have:=vO h2
   omega
theorem VsAt.next {R:Pr (List Vr)} {f:Nat} {acc vs:List Vr} {L:List Tk} (h:VsAt R (f+1) acc (.ok () L)) (hw:WFt L) (hp:isP [59] L=true) (hx:∀ y L',zq acc.length L.tail=.ok y L'→vs=y):VsAt R f (acc++vs) (zq acc.length L.tail).unit:=by
 have ht:=zI hw hp (by decide)
 refine⟨h.1.next (g:=fun vs=>acc++vs) ?_ hx fun y L' e=>?_,fun L' e=>?_⟩
 ·show jL (f+1) acc L=_
  rw[jL,if_pos hp]
 ·have:=(jo acc.length ht.1 y L' e).2
  omega
 ·cases hg:zq acc.length L.tail with
  | bad c a=>rw[hg] at e;cases e
  | ok y M=>
   obtain rfl:=hx y M hg
   have:=vO hg
   simpa using this
theorem VsAt.done {R:Pr (List Vr)} {f:Nat} {acc:List Vr} {σ:Pr Unit} (h:VsAt R f acc σ) (hp:isS [59] σ=false):R.unit=σ∧∀ y L,R=.ok y L→acc=y:=
 h.1.done fun f' L e=>by
  subst e
  have hp:isP [59] L=false:=hp
  rw[jL,if_neg (by rw[hp];decide)]
end Go.Proofs.YtdabndiaflagpaaGreatDoor
namespace Go.Proofs.YtdabndiaflagpaaGreatDoor
open Go.RowKit
def jN (σ:Pr Unit):Pr Unit:=σ.bind fun _ L=>.ok () L.tail
theorem Rs.inc {g c:Nat} {ts:List Tk} {w:World} {b o:Nat} {σ:Pr Unit} {i op k a:Int} (h:Rs g c ts w b o σ) (hr:Row w b 111 (zg g c ts.length i op k a)) (ha:RsAt ts o σ i op k a) (hp:∀ L,σ=.ok () L→WFt L.tail) :
  Rs g c ts (w.setCell ⟨b,1,none⟩ (.int .i64 (wrap64 (i+1)))) b o (jN σ):=by
 cases σ with
 | bad k' p=>exact h.bump hr ha _
 | ok u L=>
  obtain⟨hk,haa,hop,j,hj,hL⟩:=ha
  have hj1:=h.small hL
  subst hj
  have hw:wrap64 ((j:Int)+1)=((j+1:Nat):Int):=by simp[wrap64];omega
  rw[hw]
  exact h.pass hL (hp L rfl) hop hk haa (zf (zd w b) 1 _) (by simpa [zg] using hr.set 1 (.int .i64 ((j+1:Nat):Int)))
theorem qK {σ:Pr Unit} {s:T} (hg:jR σ) (hs:s≠[]) (hi:∀ L,σ=.ok () L→isP s L=true):∀ L,σ=.ok () L→WFt L.tail:=by
 intro L e
 subst e
 exact(zI hg (hi L rfl) hs).1
end Go.Proofs.YtdabndiaflagpaaGreatDoor
namespace Go.Proofs.YtdabndiaflagpaaGreatDoor
open Go.RowKit
structure BoxR (b lo:Nat) (x:X) (A:Option Addr) (c p:Nat) (wi:World):Prop where
 row:Row wi p 52 (x5 x A c)
 ks:KS wi (Sb lo (some p) wi) A x.ks
 le:lo≤p
 hb:b<lo
section
variable {b lo p:Nat} {x z:X} {A A':Option Addr} {c c':Nat} {wi wj:World}
theorem BoxR.grow (h:BoxR b lo x A c p wi) (g2:wi.grownBy wj (some b)):BoxR b lo x A c p wj:=
 ⟨h.row.grown g2 (fun e=>by injection e with e;have:=h.le;have:=h.hb;omega),h.ks.move fun q hq=>⟨⟨hq.1,Nat.lt_of_lt_of_le hq.2.1 g2.size,hq.2.2⟩,g2.block q hq.2.1 (fun e=>by injection e with e;have:=hq.1;have:=h.hb;omega)⟩,h.le,h.hb⟩
theorem BoxR.below (h:BoxR b lo x A c p wi) (g1:Below wi.heap.size wi wj):BoxR b lo x A c p wj:=h.grow (zb g1 b)
theorem BoxR.alloc (h:BoxR b lo x A c p wi) (ob:Obj):BoxR b lo x A c p (wi.alloc ob):=h.below ((Below.refl _ _).alloc (Nat.le_refl _) _)
theorem BoxR.made (hb:b<lo) (hl:lo≤wi.heap.size) (g:wi.grownBy wj (some b)) (hk:KS wj (Bt wi.heap.size wj.heap.size) A x.ks) :
  BoxR b lo x A c wj.heap.size (wj.alloc (.cells (x5 x A c) 52)):=
 ⟨Row.made _ _ _,hk.move fun q hq=>⟨⟨by have:=hq.1;omega,by have:=hq.2;simp;omega,fun e=>by injection e with e;have:=hq.2;omega⟩,Below.heap_alloc _ _ _ hq.2⟩,by have:=g.size;omega,hb⟩
theorem BoxR.cells (h:BoxR b lo x A c p wi):wi.cell? ⟨p,0,none⟩=some (.int .i64 x.k)∧wi.cell? ⟨p,1,none⟩=some (.int .i64 x.o)∧wi.cell? ⟨p,2,none⟩=some (.int .i64 x.n)∧wi.cell? ⟨p,3,none⟩=some (.string ⟨x.s.toArray⟩)∧
  wi.cell? ⟨p,4,none⟩=some (.slice A x.ks.length c)∧p<wi.heap.size:=by
 have:=h.row.cell
 exact⟨this 0,this 1,this 2,this 3,this 4,h.row.lt⟩
theorem BoxR.up (h:BoxR b lo x A c p wi):KS wi (Bt lo wi.heap.size) A x.ks:=h.ks.move fun _ hq=>⟨⟨hq.1,hq.2.1⟩,rfl⟩
theorem BoxR.turn (h:BoxR b lo x A c p wi) (hk:KS wi (Sb lo (some p) wi) A' z.ks):BoxR b lo z A' c' p (wi.setRow p (x5 z A' c')):=
 ⟨h.row.setRow _,hk.move fun q hq=>⟨⟨hq.1,by simpa using hq.2.1,hq.2.2⟩,setRow_other wi p q _ (fun e=>hq.2.2 (by rw[e]))⟩,h.le,h.hb⟩
end
theorem xq {w:World} {S:Nat→Prop} (ks:List X) (cs:Array Value) (hS:∀ q,S q→q<w.heap.size)
  (h:∀ (i:Nat) x,ks[i]? = some x→∃ A c,(∀ j u,(x5 x A c)[j]? = some u→cs[i * 5+j]? = some u)∧KS w S A x.ks) :
  KS (w.alloc (.cells cs 52)) (fun q=>S q∨q=w.heap.size) (some ⟨w.heap.size,0,none⟩) ks:=by
 refine .inr ⟨w.heap.size,0,rfl,ECs.of_kids fun i x hi=>?_⟩
 obtain⟨A,c,hc,hk⟩:=h i x hi
 have hm:KS (w.alloc (.cells cs 52)) (fun q=>S q∨q=w.heap.size) A x.ks:=hk.move fun q hq=>⟨.inl hq,Below.heap_alloc _ _ _ (hS q hq)⟩
 have hr:=Row.made w 52 cs
 have cell:∀ j u,(x5 x A c)[j]? = some u→(w.alloc (.cells cs 52)).cell? ⟨w.heap.size,0+i * 5+j,none⟩=some u:=fun j u hu=>by
  rw[Nat.zero_add,hr.cell];exact hc j u hu
 exact EC.mk' (A:=A) (c:=c) (.inr rfl) (cell 0 _ rfl) (cell 1 _ rfl) (cell 2 _ rfl) (cell 3 _ rfl) (cell 4 _ rfl) hm
def r2 (x:X) (A:Option Addr) (c:Nat) (y:X) (A':Option Addr) (c':Nat):Array Value:=
 #[.int .i64 x.k,.int .i64 x.o,.int .i64 x.n,.string ⟨x.s.toArray⟩,.slice A x.ks.length c,.int .i64 y.k,.int .i64 y.o,.int .i64 y.n,.string ⟨y.s.toArray⟩,.slice A' y.ks.length c']
def r3 (x:X) (A:Option Addr) (c:Nat) (y:X) (A':Option Addr) (c':Nat) (z:X) (A'':Option Addr) (c'':Nat):Array Value:=
 #[.int .i64 x.k,.int .i64 x.o,.int .i64 x.n,.string ⟨x.s.toArray⟩,.slice A x.ks.length c,.int .i64 y.k,.int .i64 y.o,.int .i64 y.n,.string ⟨y.s.toArray⟩,.slice A' y.ks.length c',.int .i64 z.k,.int .i64 z.o,.int .i64 z.n,.string ⟨z.s.toArray⟩,.slice A'' z.ks.length c'']
theorem five {x:X} {A:Option Addr} {c:Nat} {j:Nat} {u:Value} (h:(x5 x A c)[j]? = some u):j=0∨j=1∨j=2∨j=3∨j=4:=by
 have:j<5:=by
  rcases Nat.lt_or_ge j 5 with h' | h'
  ·exact h'
  ·rw[Array.getElem?_eq_none (by exact h')] at h;cases h
 omega
theorem kQ {w:World} {S:Nat→Prop} {x:X} {A:Option Addr} {c:Nat} (hS:∀ q,S q→q<w.heap.size) (hx:KS w S A x.ks) :
  KS (w.alloc (.cells (x5 x A c) 52)) (fun q=>S q∨q=w.heap.size) (some ⟨w.heap.size,0,none⟩) [x]:=
 xq _ _ hS fun i v hi=>by
  match i,hi with
  | 0,hi=>
   obtain rfl:x=v:=by simpa using hi
   exact⟨A,c,fun j u hu=>by rw[Nat.zero_mul,Nat.zero_add];exact hu,hx⟩
theorem Yi {w:World} {S:Nat→Prop} {x y:X} {A A':Option Addr} {c c':Nat} (hS:∀ q,S q→q<w.heap.size) (hx:KS w S A x.ks) (hy:KS w S A' y.ks) :
  KS (w.alloc (.cells (r2 x A c y A' c') 52)) (fun q=>S q∨q=w.heap.size) (some ⟨w.heap.size,0,none⟩) [x,y]:=
 xq _ _ hS fun i v hi=>by
  match i,hi with
  | 0,hi=>
   obtain rfl:x=v:=by simpa using hi
   exact⟨A,c,fun j u hu=>by rcases five hu with rfl | rfl | rfl | rfl | rfl <;> exact hu,hx⟩
  | 1,hi=>
   obtain rfl:y=v:=by simpa using hi
   exact⟨A',c',fun j u hu=>by rcases five hu with rfl | rfl | rfl | rfl | rfl <;> exact hu,hy⟩
theorem Yj {w:World} {S:Nat→Prop} {x y z:X} {A A' A'':Option Addr} {c c' c'':Nat} (hS:∀ q,S q→q<w.heap.size) (hx:KS w S A x.ks) (hy:KS w S A' y.ks) (hz:KS w S A'' z.ks) :
  KS (w.alloc (.cells (r3 x A c y A' c' z A'' c'') 52)) (fun q=>S q∨q=w.heap.size) (some ⟨w.heap.size,0,none⟩) [x,y,z]:=
 xq _ _ hS fun i v hi=>by
  match i,hi with
  | 0,hi=>
   obtain rfl:x=v:=by simpa using hi
   exact⟨A,c,fun j u hu=>by rcases five hu with rfl | rfl | rfl | rfl | rfl <;> exact hu,hx⟩
  | 1,hi=>
   obtain rfl:y=v:=by simpa using hi
   exact⟨A',c',fun j u hu=>by rcases five hu with rfl | rfl | rfl | rfl | rfl <;> exact hu,hy⟩
  | 2,hi=>
   obtain rfl:z=v:=by simpa using hi
   exact⟨A'',c'',fun j u hu=>by rcases five hu with rfl | rfl | rfl | rfl | rfl <;> exact hu,hz⟩
theorem vX {g c:Nat} {ts:List Tk} {b o q:Nat} {w wx wk:World} {r:Pr X} {x:X} {A:Option Addr} {cx:Nat} {old:Array Value} (hq:q=w.heap.size) (hbq:b<q) (hV:Below w.heap.size w wx) (hG:wx.grownBy wk (some b)) (hrow:Row wk q 52 old) (hk:KS wk (Bt (q+1) wk.heap.size) A x.ks) (hs:Rs g c ts wk b o r.unit) (hval:∀ y L,r=.ok y L→x=y) :
  Row (wk.setRow q (x5 x A cx)) q 52 (x5 x A cx)∧RRes g c ts b o w (XV w.heap.size) r (.returned (.agg (x5 x A cx))) (wk.setRow q (x5 x A cx)):=by
 have hw:=hV.size
 have hz:=hG.size
 have hqk:=hrow.lt
 refine⟨hrow.setRow _,x,_,rfl,⟨A,cx,rfl,hk.move fun m hm=>⟨⟨by have:=hm.1;omega,by have:=hm.2;simpa using this⟩,(zj hrow).block m hm.2 (fun e=>by injection e with e;have:=hm.1;omega)⟩⟩,?_,hs.grown (zj hrow) (fun k e=>by injection e with e;omega),hval⟩
 exact jb (za (zb hV b) hG) (zj hrow) (fun k e=>by injection e with e;omega)
def LeS (n:Nat) (σ:Pr Unit):Prop:=∀ L,σ=.ok () L→L.length≤n
theorem LeS.bind {α:Type} {n:Nat} {σ:Pr Unit} {f:List Tk→Pr α} (h:LeS n σ) (hg:jR σ) (hf:∀ L,WFt L→She L (f L)):LeS n (σ.bind fun _ L=>f L).unit:=by
 intro L e
 cases σ with
 | bad c a=>cases e
 | ok u M=>
  have h1:=h M rfl
  have e:(f M).unit=.ok () L:=e
  cases hr:f M with
  | bad c a=>rw[hr] at e;cases e
  | ok y K=>
   rw[hr] at e
   obtain rfl:K=L:=by injection e
   have:=(hf M hg y K hr).2
   omega
theorem LeS.must {n:Nat} {σ:Pr Unit} {s:T} (h:LeS n σ) (hg:jR σ) (hs:s≠[]):LeS n (σ.bind fun _ L=>ze s L):=by
 have:=h.bind hg fun L hL=>(zu hL hs).she
 rwa [Pr.unit_id] at this
theorem ue {o:Nat} {σ:Pr Unit} {L:List Tk} (h:jP o σ=.ok () L):o<400∧σ=.ok () L:=by
 cases σ with
 | bad c a=>cases h
 | ok u M=>
  have h:(if 400≤o then (zC 5 M:Pr Unit) else .ok () M)=.ok () L:=h
  split at h
  ·cases h
  ·injection h with _ h;exact⟨by omega,by rw[h]⟩
theorem xo {o:Nat} (h:o<400):more o=o+1:=by unfold more;rw[if_pos h]
theorem uF {α:Type} {o:Nat} {L:List Tk} (G:Nat→List Tk→Pr α):ji o L (G (o+1))=(jN (jP o (.ok () L))).bind fun _ L=>G (more o) L:=by
 show _=(Pr.bind (if 400≤o then (zC 5 L:Pr Unit) else .ok () L) fun _ L=>.ok () L.tail).bind fun _ L=>G (more o) L
 unfold ji
 by_cases h:400≤o
 ·rw[if_pos h,if_pos h];rfl
 ·rw[if_neg h,if_neg h,xo (by omega)];rfl
theorem J9 {α:Type} {o:Nat} {L:List Tk} {s:T} (hs:isP s L=true) (G:Nat→List Tk→Pr α):ji o L (G (o+1))=((jP o (.ok () L)).bind fun _ L=>ze s L).bind fun _ L=>G (more o) L:=by
 show _=(Pr.bind (if 400≤o then (zC 5 L:Pr Unit) else .ok () L) fun _ L=>ze s L).bind fun _ L=>G (more o) L
 unfold ji
 by_cases h:400≤o
 ·rw[if_pos h,if_pos h];rfl
 ·rw[if_neg h,if_neg h,xo (by omega)]
  show _=(ze s L).bind _
  unfold ze
  rw[if_pos hs];rfl
theorem Rs.dec {g c:Nat} {ts:List Tk} {w:World} {b o:Nat} {σ:Pr Unit} {i op k a:Int} (h:Rs g c ts w b (more o) σ) (hr:Row w b 111 (zg g c ts.length i op k a)) (ha:RsAt ts (more o) σ i op k a) (ho:o≤400) (hp:∀ L,σ=.ok () L→o<400) :
  Rs g c ts (w.setCell ⟨b,2,none⟩ (.int .i64 (wrap64 (op - 1)))) b o σ:=by
 cases σ with
 | bad k' p=>exact(h.bump2 hr ha _).gone ho
 | ok u L=>
  have h4:=hp L rfl
  obtain⟨hk,haa,hop,j,hj,hL⟩:=ha
  rw[xo h4] at hop
  have hw:wrap64 (op - 1)=(o:Int):=by rw[hop];simp[wrap64];omega
  rw[hw]
  exact h.turn (i:=i) (op:=(o:Int)) (k:=k) (a:=a) (zf (zd w b) 2 _) (by simpa [zg] using hr.set 2 (.int .i64 (o:Int))) ⟨hk,haa,rfl,j,hj,hL⟩ h.good_ ho
theorem LeS.pass {n:Nat} {L:List Tk} {o:Nat} (hl:L.tail.length≤n):LeS n (jN (jP o (.ok () L))):=by
 intro M e
 cases he:jP o (.ok () L) with
 | bad c a=>rw[he] at e;cases e
 | ok u K=>
  rw[he] at e
  obtain⟨_,h2⟩:=ue he
  obtain rfl:L=K:=by injection h2
  obtain rfl:L.tail=M:=by injection e
  exact hl
end Go.Proofs.YtdabndiaflagpaaGreatDoor
namespace Go.Proofs.YtdabndiaflagpaaGreatDoor
open Go.RowKit
structure RE (g c:Nat) (ts:List Tk) (b f:Nat):Prop where
 expr:∀ (o:Nat) (L:List Tk) (w:World),16 * L.length+14≤f→Rs g c ts w b o (.ok () L)→Calls Tryz.prog 116 #[.pointer (some ⟨b,0,none⟩)] w (RRes g c ts b o w (XV w.heap.size) (zn f L o))
 level:∀ (o n:Nat) (L:List Tk) (w:World),16 * L.length+13≤f+n→n≤7→Rs g c ts w b o (.ok () L)→Calls Tryz.prog 144 #[.pointer (some ⟨b,0,none⟩),.int .i64 (n:Int)] w (RRes g c ts b o w (XV w.heap.size) (zL f n L o))
 pre:∀ (o:Nat) (L:List Tk) (w:World),16 * L.length+5≤f→Rs g c ts w b o (.ok () L)→Calls Tryz.prog 166 #[.pointer (some ⟨b,0,none⟩)] w (RRes g c ts b o w (XV w.heap.size) (zF f L o))
 atom:∀ (o:Nat) (L:List Tk) (w:World),16 * L.length+4≤f→Rs g c ts w b o (.ok () L)→Calls Tryz.prog 186 #[.pointer (some ⟨b,0,none⟩)] w (RRes g c ts b o w (XV w.heap.size) (jW f L o))
theorem yP {g c:Nat} {ts:List Tk} {b o:Nat} {w w':World} {e:Ending} {k:Int} {p:Nat} (h:Rs g c ts w b o (.bad k p)) (hh:e=.returned yQ∧Below w.heap.size w w'):RRes g c ts b o w (XV w.heap.size) (.bad k p:Pr X) e w':=
 ⟨.mk 0 0 0 [] [],_,hh.1,XV.zero _ _,zb hh.2 b,h.later hh.2,fun y L e=>by cases e⟩
theorem xw {g c:Nat} {ts:List Tk} {b f o:Nat} {σ:Pr Unit} {w:World} (ih:RE g c ts b f) (hf:∀ L,σ=.ok () L→16 * L.length+14≤f) (h:Rs g c ts w b o σ) :
  Calls Tryz.prog 116 #[.pointer (some ⟨b,0,none⟩)] w (RRes g c ts b o w (XV w.heap.size) (σ.bind fun _ L=>zn f L o)):=by
 cases σ with
 | ok u L=>exact ih.expr o L w (hf L rfl) h
 | bad k p=>exact(xQ g c ts b o k p w h).mono fun e w' hh=>yP h hh
theorem Ye {g c:Nat} {ts:List Tk} {b f o n:Nat} {σ:Pr Unit} {w:World} (ih:RE g c ts b f) (hf:∀ L,σ=.ok () L→16 * L.length+13≤f+n) (hn:n≤7) (h:Rs g c ts w b o σ) :
  Calls Tryz.prog 144 #[.pointer (some ⟨b,0,none⟩),.int .i64 (n:Int)] w (RRes g c ts b o w (XV w.heap.size) (σ.bind fun _ L=>zL f n L o)):=by
 cases σ with
 | ok u L=>exact ih.level o n L w (hf L rfl) hn h
 | bad k p=>exact(qH g c ts b o k p n w h).mono fun e w' hh=>yP h hh
theorem J1 {g c:Nat} {ts:List Tk} {b f o:Nat} {σ:Pr Unit} {w:World} (ih:RE g c ts b f) (hf:∀ L,σ=.ok () L→16 * L.length+5≤f) (h:Rs g c ts w b o σ) :
  Calls Tryz.prog 166 #[.pointer (some ⟨b,0,none⟩)] w (RRes g c ts b o w (XV w.heap.size) (σ.bind fun _ L=>zF f L o)):=by
 cases σ with
 | ok u L=>exact ih.pre o L w (hf L rfl) h
 | bad k p=>exact kD g c ts b o k p w h
theorem Zp {f o:Nat} {L:List Tk} {x y:X} (hi:isP wIf L=true) {ra rb rc:Pr X} (hra:ra=((jP o (.ok () L)).bind fun _ L=>ze wIf L).bind fun _ L=>zn f L (more o))
  (hrb:rb=(ra.unit.bind fun _ L=>ze uo L).bind fun _ L=>zn f L (more o)) (hrc:rc=(rb.unit.bind fun _ L=>ze vL L).bind fun _ L=>zn f L (more o))
  (ha:∀ v L,ra=.ok v L→x=v) (hb:∀ v L,rb=.ok v L→y=v):ja (f+1) L o=rc.bind fun z L=>.ok (.mk 5 0 0 [] [x,y,z]) L:=by
 rw[ja]
 rw[J9 (o:=o) hi (fun o L=>(zn f L o).bind fun a L=>(ze uo L).bind fun _ L=>(zn f L o).bind fun b L=>(ze vL L).bind fun _ L=>(zn f L o).bind fun c L=>Pr.ok (X.mk 5 0 0 [] [a,b,c]) L)]
 have e1:(((jP o (.ok () L)).bind fun _ L=>ze wIf L).bind fun _ L=>(zn f L (more o)).bind fun a L=>(ze uo L).bind fun _ L=>(zn f L (more o)).bind fun b L=>(ze vL L).bind fun _ L=>(zn f L (more o)).bind fun c L=>.ok (X.mk 5 0 0 [] [a,b,c]) L)
   = ra.bind fun a L=>(ze uo L).bind fun _ L=>(zn f L (more o)).bind fun b L=>(ze vL L).bind fun _ L=>(zn f L (more o)).bind fun c L=>.ok (X.mk 5 0 0 [] [a,b,c]) L:=by rw[hra];exact(Pr.bind_assoc _ _ _).symm
 rw[e1,Pr.seq ha]
 have e2:(ra.unit.bind fun _ L=>(ze uo L).bind fun _ L=>(zn f L (more o)).bind fun b L=>(ze vL L).bind fun _ L=>(zn f L (more o)).bind fun c L=>.ok (X.mk 5 0 0 [] [x,b,c]) L)
   = rb.bind fun b L=>(ze vL L).bind fun _ L=>(zn f L (more o)).bind fun c L=>.ok (X.mk 5 0 0 [] [x,b,c]) L:=by rw[hrb,Pr.bind_assoc,Pr.bind_assoc]
 rw[e2,Pr.seq hb,hrc,Pr.bind_assoc,Pr.bind_assoc]
theorem rExpr (g c:Nat) (ts:List Tk) (b f o:Nat) (L:List Tk) (w:World) (ih:∀ f',f'≤f→RE g c ts b f') (hf:16 * L.length+14≤f+1) (h:Rs g c ts w b o (.ok () L)) :
  Calls Tryz.prog 116 #[.pointer (some ⟨b,0,none⟩)] w (RRes g c ts b o w (XV w.heap.size) (zn (f+1) L o)):=by
 obtain⟨R,hR⟩:∃ R,R=zn (f+1) L o:=⟨_,rfl⟩
 rw[← hR]
 rw[zn] at hR
 have hlt:=h.lt
 have ho4:=h.open_
 have HIF:Hid (∀ w1,Rs g c ts w1 b o (.ok () L)→_):=YV fun w1 h1=>rIs g c ts b o wIf (.ok () L) w1 h1 (by decide)
 obtain⟨v0,hv0⟩:∃ v,v=w.alloc (.cells #[.int .i64 0,.int .i64 0,.int .i64 0,.string ⟨#[]⟩,.slice none 0 0] 52):=⟨_,rfl⟩
 have hv:Below w.heap.size w v0:=by rw[hv0];exact(Below.refl _ _).alloc (Nat.le_refl _) _
 have HV:=YV hv
 have hz0:v0.heap.size=w.heap.size+1:=by rw[hv0];simp
 have HZ0:=YV hz0
 have HR:Hid (Row v0 w.heap.size 52 z5):=YV (by rw[hv0];exact Row.made _ _ _)
 have HS0:Hid (Rs g c ts v0 b o (.ok () L)):=YV (h.later hv)
 obtain⟨q,hq⟩:∃ q,q=w.heap.size:=⟨_,rfl⟩
 have HQ:=YV hq
 rw[← hq] at HR hz0 hlt
 have hqb:q≠b:=by omega
 have hqv:q<v0.heap.size:=by omega
 have hbv:b<v0.heap.size:=by omega
 by_cases hi:isP wIf L=true
 ·rw[if_pos hi] at hR
  have hw:WFt L:=h.good_
  have ht:=zI hw hi (by decide)
  obtain⟨f,rfl⟩:∃ f',f=f'+1:=⟨f - 1,by omega⟩
  have HIH:=YV (ih f (by omega))
  have HIS:Hid (∀ w1,Rs g c ts w1 b o (.ok () L)→Calls Tryz.prog 44 #[.pointer (some ⟨b,0,none⟩),.string ⟨#[105,102]⟩] w1 fun e w'=>e=.returned (.bool true)∧Below w1.heap.size w1 w'):=YV fun w1 h1=>(HIF.out w1 h1).mono fun e w' hh=>⟨by rw[hh.1];show Ending.returned (.bool (isP wIf L))=_;rw[hi],hh.2⟩
  have HEN:Hid (∀ w1,Rs g c ts w1 b o (.ok () L)→_):=YV fun w1 h1=>qg g c ts b o (.ok () L) w1 h1
  obtain⟨o1,ho1⟩:∃ o1,o1=more o:=⟨_,rfl⟩
  obtain⟨σ1,hσ1⟩:∃ σ1,σ1=jP o (.ok () L):=⟨_,rfl⟩
  rw[← ho1,← hσ1] at HEN
  obtain⟨σ2,hσ2⟩:∃ σ2:Pr Unit,σ2=σ1.bind fun _ L=>ze wIf L:=⟨_,rfl⟩
  obtain⟨ra,hra⟩:∃ ra,ra=σ2.bind fun _ L=>zn f L o1:=⟨_,rfl⟩
  obtain⟨σ3,hσ3⟩:∃ σ3:Pr Unit,σ3=ra.unit.bind fun _ L=>ze uo L:=⟨_,rfl⟩
  obtain⟨rb,hrb⟩:∃ rb,rb=σ3.bind fun _ L=>zn f L o1:=⟨_,rfl⟩
  obtain⟨σ4,hσ4⟩:∃ σ4:Pr Unit,σ4=rb.unit.bind fun _ L=>ze vL L:=⟨_,rfl⟩
  obtain⟨rc,hrc⟩:∃ rc,rc=σ4.bind fun _ L=>zn f L o1:=⟨_,rfl⟩
  have HM2:Hid (∀ w1,Rs g c ts w1 b o1 σ1→Calls Tryz.prog 83 #[.pointer (some ⟨b,0,none⟩),.string ⟨#[105,102]⟩] w1 (RRes g c ts b o1 w1 NoV σ2)):=YV fun w1 h1=>by rw[hσ2];exact jJ g c ts b o1 wIf σ1 w1 h1 (by decide)
  have HM3:Hid (∀ w1,Rs g c ts w1 b o1 ra.unit→Calls Tryz.prog 83 #[.pointer (some ⟨b,0,none⟩),.string ⟨#[116,104,101,110]⟩] w1 (RRes g c ts b o1 w1 NoV σ3)):=YV fun w1 h1=>by rw[hσ3];exact jJ g c ts b o1 uo ra.unit w1 h1 (by decide)
  have HM4:Hid (∀ w1,Rs g c ts w1 b o1 rb.unit→Calls Tryz.prog 83 #[.pointer (some ⟨b,0,none⟩),.string ⟨#[101,108,115,101]⟩] w1 (RRes g c ts b o1 w1 NoV σ4)):=YV fun w1 h1=>by rw[hσ4];exact jJ g c ts b o1 vL rb.unit w1 h1 (by decide)
  have l2:LeS L.tail.length σ2:=by
   intro M e
   rw[hσ2,hσ1] at e
   cases he:jP o (.ok () L) with
   | bad c a=>rw[he] at e;cases e
   | ok u K=>
    rw[he] at e
    obtain⟨_,h2⟩:=ue he
    obtain rfl:L=K:=by injection h2
    have e:ze wIf L=.ok () M:=e
    unfold ze at e
    rw[if_pos hi] at e
    obtain rfl:L.tail=M:=by injection e
    exact Nat.le_refl _
  have HFU:Hid (∀ σ,LeS L.tail.length σ→∀ M,σ=.ok () M→16 * M.length+14≤f):=YV fun σ hl M e=>by have:=hl M e;have:=ht.2;omega
  have HX:Hid (∀ σ w1,LeS L.tail.length σ→Rs g c ts w1 b o1 σ→_):=YV fun σ w1 hl h1=>xw HIH.out (HFU.out σ hl) h1
  have HL2:=YV l2
  have HLA:Hid (jR σ2→LeS L.tail.length ra.unit):=YV fun hg=>by rw[hra];exact l2.bind hg fun M hM=>((jD f).expr M o1 hM).she
  have HL3:Hid (jR σ2→jR ra.unit→LeS L.tail.length σ3):=YV fun hg hg2=>by rw[hσ3];exact(HLA.out hg).must hg2 (by decide)
  have HLB:Hid (jR σ2→jR ra.unit→jR σ3→LeS L.tail.length rb.unit):=YV fun hg hg2 hg3=>by rw[hrb];exact(HL3.out hg hg2).bind hg3 fun M hM=>((jD f).expr M o1 hM).she
  have HL4:Hid (jR σ2→jR ra.unit→jR σ3→jR rb.unit→LeS L.tail.length σ4):=YV fun hg hg2 hg3 hg4=>by rw[hσ4];exact(HLB.out hg hg2 hg3).must hg4 (by decide)
  have HEQ:Hid (∀ x y,(∀ v L,ra=.ok v L→x=v)→(∀ v L,rb=.ok v L→y=v)→R=rc.bind fun z L=>.ok (.mk 5 0 0 [] [x,y,z]) L):=YV fun x y hx hy=>by
   rw[hR]
   exact Zp hi (by rw[hra,hσ2,hσ1,ho1]) (by rw[hrb,hσ3,ho1]) (by rw[hrc,hσ4,ho1]) hx hy
  have HDE:Hid (∀ M,rc.unit=.ok () M→o<400):=YV fun M e=>by
   by_cases h4:400≤o
   ·have e1:σ1=.bad 5 (hdF L):=by rw[hσ1];show (if 400≤o then (zC 5 L:Pr Unit) else .ok () L)=_;rw[if_pos h4];rfl
    rw[hrc,hσ4,hrb,hσ3,hra,hσ2,e1] at e
    cases e
   ·omega
  have HXA:Hid (∀ w1,Rs g c ts w1 b o1 σ2→Calls Tryz.prog 116 #[.pointer (some ⟨b,0,none⟩)] w1 (RRes g c ts b o1 w1 (XV w1.heap.size) ra)):=YV fun w1 h1=>by rw[hra];exact HX.out σ2 w1 HL2.out h1
  have HXB:Hid (∀ w1,jR σ2→jR ra.unit→Rs g c ts w1 b o1 σ3→Calls Tryz.prog 116 #[.pointer (some ⟨b,0,none⟩)] w1 (RRes g c ts b o1 w1 (XV w1.heap.size) rb)):=YV fun w1 hg hg2 h1=>by rw[hrb];exact HX.out σ3 w1 (HL3.out hg hg2) h1
  have HXC:Hid (∀ w1,jR σ2→jR ra.unit→jR σ3→jR rb.unit→Rs g c ts w1 b o1 σ4→Calls Tryz.prog 116 #[.pointer (some ⟨b,0,none⟩)] w1 (RRes g c ts b o1 w1 (XV w1.heap.size) rc)):=YV fun w1 hg hg2 hg3 hg4 h1=>by rw[hrc];exact HX.out σ4 w1 (HL4.out hg hg2 hg3 hg4) h1
  clear hR hf h hv hw ht hσ1 hσ2 hσ3 hσ4 hra hrb hrc l2 ih hz0 HIF
  have HO1:=YV ho1
  clear ho1
  go_enter Tryz.func116,Tryz.ntmps116
  go_upto_region 1 with fail
  rw[← hv0,← hq]
  clear hv0 hq
  go_upto_region 6 with (first|(go_at_call 44;refine(HIS.out _ HS0.out).mono ?_;rintro e w1 ⟨rfl,hb⟩;have HS1:=YV (HS0.out.later hb);have HG1:Hid (v0.grownBy w1 (some b)):=YV (zb hb b);clear hb HIS)|(go_at_call 145;refine(HEN.out _ HS1.out).mono ?_;rintro e w2 ⟨rfl,g1,g2⟩;have HS2:=YV g2;have HG2:=YV (za HG1.out g1);clear g1 g2 HEN)|(go_at_call 83;refine(HM2.out _ HS2.out).mono ?_;rintro e w3 ⟨_,v,rfl,hv,g1,g2,_⟩;obtain rfl:v=.tuple #[]:=hv;have HS3:Hid (Rs g c ts w3 b o1 σ2):=YV (by rw[Pr.unit_id] at g2;exact g2);have HG3:=YV (za HG2.out g1);clear g1 g2 HM2)|(go_at_call 116;refine(HXA.out _ HS3.out).mono ?_;rintro e w4 ⟨x,v,rfl,⟨Ax,cx,rfl,hk⟩,g1,g2,g3⟩;have HS4:Hid (Rs g c ts (w4.alloc (.cells #[.int .i64 x.k,.int .i64 x.o,.int .i64 x.n,.string ⟨x.s.toArray⟩,.slice Ax x.ks.length cx] 52)) b o1 ra.unit):=YV (g2.later ((Below.refl _ _).alloc (Nat.le_refl _) _));have HG4:Hid (v0.grownBy (w4.alloc (.cells #[.int .i64 x.k,.int .i64 x.o,.int .i64 x.n,.string ⟨x.s.toArray⟩,.slice Ax x.ks.length cx] 52)) (some b)):=YV (zi (za HG3.out g1) _);have HBX4:Hid (BoxR b v0.heap.size x Ax cx w4.heap.size (w4.alloc (.cells #[.int .i64 x.k,.int .i64 x.o,.int .i64 x.n,.string ⟨x.s.toArray⟩,.slice Ax x.ks.length cx] 52))):=YV (BoxR.made hbv HG3.out.size g1 hk);have HVX:=YV g3;clear g1 g2 g3 hk HXA))
  generalize w4.alloc (.cells #[.int .i64 x.k,.int .i64 x.o,.int .i64 x.n,.string ⟨x.s.toArray⟩,.slice Ax x.ks.length cx] 52)=v4 at HS4 HG4 HBX4 ⊢
  obtain⟨p4,hp4⟩:∃ p,p=w4.heap.size:=⟨_,rfl⟩
  rw[← hp4] at HBX4 ⊢
  clear hp4
  go_upto_region 8 with (first|(go_at_call 83;refine(HM3.out _ HS4.out).mono ?_;rintro e w5 ⟨_,v,rfl,hv,g1,g2,_⟩;obtain rfl:v=.tuple #[]:=hv;have HS5:Hid (Rs g c ts w5 b o1 σ3):=YV (by rw[Pr.unit_id] at g2;exact g2);have HG5:=YV (za HG4.out g1);have HBX5:=YV (HBX4.out.grow g1);clear g1 g2 HM3)|(go_at_call 116;refine(HXB.out _ HS3.out.good_ HS4.out.good_ HS5.out).mono ?_;rintro e w6 ⟨y,v,rfl,⟨Ay,cy,rfl,hk⟩,g1,g2,g3⟩;have HS6:Hid (Rs g c ts (w6.alloc (.cells #[.int .i64 y.k,.int .i64 y.o,.int .i64 y.n,.string ⟨y.s.toArray⟩,.slice Ay y.ks.length cy] 52)) b o1 rb.unit):=YV (g2.later ((Below.refl _ _).alloc (Nat.le_refl _) _));have HG6:Hid (v0.grownBy (w6.alloc (.cells #[.int .i64 y.k,.int .i64 y.o,.int .i64 y.n,.string ⟨y.s.toArray⟩,.slice Ay y.ks.length cy] 52)) (some b)):=YV (zi (za HG5.out g1) _);have HBX6:=YV ((HBX5.out.grow g1).alloc (.cells #[.int .i64 y.k,.int .i64 y.o,.int .i64 y.n,.string ⟨y.s.toArray⟩,.slice Ay y.ks.length cy] 52));have HBY6:Hid (BoxR b v0.heap.size y Ay cy w6.heap.size (w6.alloc (.cells #[.int .i64 y.k,.int .i64 y.o,.int .i64 y.n,.string ⟨y.s.toArray⟩,.slice Ay y.ks.length cy] 52))):=YV (BoxR.made hbv HG5.out.size g1 hk);have HVY:=YV g3;clear g1 g2 g3 hk HXB))
  generalize w6.alloc (.cells #[.int .i64 y.k,.int .i64 y.o,.int .i64 y.n,.string ⟨y.s.toArray⟩,.slice Ay y.ks.length cy] 52)=v6 at HS6 HG6 HBX6 HBY6 ⊢
  obtain⟨p6,hp6⟩:∃ p,p=w6.heap.size:=⟨_,rfl⟩
  rw[← hp6] at HBY6 ⊢
  clear hp6
  go_upto_region 10 with (first|(go_at_call 83;refine(HM4.out _ HS6.out).mono ?_;rintro e w7 ⟨_,v,rfl,hv,g1,g2,_⟩;obtain rfl:v=.tuple #[]:=hv;have HS7:Hid (Rs g c ts w7 b o1 σ4):=YV (by rw[Pr.unit_id] at g2;exact g2);have HG7:=YV (za HG6.out g1);have HBX7:=YV (HBX6.out.grow g1);have HBY7:=YV (HBY6.out.grow g1);clear g1 g2 HM4)|(go_at_call 116;refine(HXC.out _ HS3.out.good_ HS4.out.good_ HS5.out.good_ HS6.out.good_ HS7.out).mono ?_;rintro e w8 ⟨z,v,rfl,⟨Az,cz,rfl,hk⟩,g1,g2,g3⟩;have HS8:Hid (Rs g c ts (w8.alloc (.cells #[.int .i64 z.k,.int .i64 z.o,.int .i64 z.n,.string ⟨z.s.toArray⟩,.slice Az z.ks.length cz] 52)) b o1 rc.unit):=YV (g2.later ((Below.refl _ _).alloc (Nat.le_refl _) _));have HG8:Hid (v0.grownBy (w8.alloc (.cells #[.int .i64 z.k,.int .i64 z.o,.int .i64 z.n,.string ⟨z.s.toArray⟩,.slice Az z.ks.length cz] 52)) (some b)):=YV (zi (za HG7.out g1) _);have HBX8:=YV ((HBX7.out.grow g1).alloc (.cells #[.int .i64 z.k,.int .i64 z.o,.int .i64 z.n,.string ⟨z.s.toArray⟩,.slice Az z.ks.length cz] 52));have HBY8:=YV ((HBY7.out.grow g1).alloc (.cells #[.int .i64 z.k,.int .i64 z.o,.int .i64 z.n,.string ⟨z.s.toArray⟩,.slice Az z.ks.length cz] 52));have HBZ8:Hid (BoxR b v0.heap.size z Az cz w8.heap.size (w8.alloc (.cells #[.int .i64 z.k,.int .i64 z.o,.int .i64 z.n,.string ⟨z.s.toArray⟩,.slice Az z.ks.length cz] 52))):=YV (BoxR.made hbv HG7.out.size g1 hk);have HVZ:=YV g3;clear g1 g2 g3 hk HXC))
  generalize w8.alloc (.cells #[.int .i64 z.k,.int .i64 z.o,.int .i64 z.n,.string ⟨z.s.toArray⟩,.slice Az z.ks.length cz] 52)=v8 at HS8 HG8 HBX8 HBY8 HBZ8 ⊢
  obtain⟨p8,hp8⟩:∃ p,p=w8.heap.size:=⟨_,rfl⟩
  rw[← hp8] at HBZ8 ⊢
  clear hp8
  have HRR:=YV (HEQ.out x y HVX.out HVY.out)
  clear HEQ
  obtain⟨i5,op5,k5,a5,hr5,ha5⟩:=HS8.out.row_
  have HRW5:=YV hr5
  have HA5:=YV ha5
  have c25:=hr5.cell 2
  have f25:=hr5.free 2
  simp[zg] at c25
  clear hr5 ha5
  go_upto_region 11 with fail
  have HS9:Hid (Rs g c ts (v8.setCell ⟨b,2,none⟩ (.int .i64 (wrap64 (op5 - 1)))) b o rc.unit):=YV (by
   have h5:=HS8.out
   have ha:=HA5.out
   rw[HO1.out] at h5 ha
   exact h5.dec HRW5.out ha ho4 HDE.out)
  have hgs:v8.grownBy (v8.setCell ⟨b,2,none⟩ (.int .i64 (wrap64 (op5 - 1)))) (some b):=zf (zd v8 b) 2 _
  have HG9:=YV (za HG8.out hgs)
  have HBX9:=YV (HBX8.out.grow hgs)
  have HBY9:=YV (HBY8.out.grow hgs)
  have HBZ9:=YV (HBZ8.out.grow hgs)
  clear hgs c25 f25 HRW5 HA5
  generalize v8.setCell ⟨b,2,none⟩ (.int .i64 (wrap64 (op5 - 1)))=v9 at HS9 HG9 HBX9 HBY9 HBZ9 ⊢
  obtain⟨x0,x1,x2,x3,x4,x5'⟩:=HBX9.out.cells
  obtain⟨y0,y1,y2,y3,y4,y5⟩:=HBY9.out.cells
  obtain⟨z0,z1,z2,z3,z4,z5'⟩:=HBZ9.out.cells
  have hrw:=HR.out.grown HG9.out (fun e=>by injection e with e;omega)
  have HROW:=hrw.alloc (.cells (r3 x Ax cx y Ay cy z Az cz) 52)
  unfold r3 at HROW
  go_wp2_with (refine wpList_store_row (o:=⟨none,Op.store _ _ _,_,_,_,_⟩) rfl _ _ _ rfl q (x5 (.mk 5 0 0 [] [x,y,z]) (some ⟨v9.heap.size,0,none⟩) 3) rfl rfl _ _ HROW zo rfl (jf _ _ _) ?_)
  have hks:=Yj (c:=cx) (c':=cy) (c'':=cz) (fun m hm=>hm.2) HBX9.out.up HBY9.out.up HBZ9.out.up
  have hrl:=hrw.lt
  obtain⟨t1,t2⟩:=vX (cx:=3) (r:=R) (x:=.mk 5 0 0 [] [x,y,z]) HQ.out (by omega) HV.out (zi HG9.out (.cells (r3 x Ax cx y Ay cy z Az cz) 52)) HROW (hks.move fun m hm=>⟨by
   rcases hm with hm | hm
   ·exact⟨by have:=hm.1;have:=HZ0.out;have:=HQ.out;omega,by have:=hm.2;simp;omega⟩
   ·exact⟨by omega,by rw[hm];simp⟩,rfl⟩) (by rw[HRR.out,Pr.unit_map rc fun z=>X.mk 5 0 0 [] [x,y,z]];exact HS9.out.later ((Below.refl _ _).alloc (Nat.le_refl _) _)) (by rw[HRR.out];exact Pr.val_map HVZ.out fun z=>X.mk 5 0 0 [] [x,y,z])
  exact bodyPost_ret (results_cell_row rfl _ _ q _ _ _ _ rfl t1 Tryz.underlying52 rfl zo) rfl t2
 ·have hi':isP wIf L=false:=by simpa using hi
  rw[if_neg hi] at hR
  have HIS:Hid (∀ w1,Rs g c ts w1 b o (.ok () L)→Calls Tryz.prog 44 #[.pointer (some ⟨b,0,none⟩),.string ⟨#[105,102]⟩] w1 fun e w'=>e=.returned (.bool false)∧Below w1.heap.size w1 w'):=YV fun w1 h1=>(HIF.out w1 h1).mono fun e w' hh=>⟨by rw[hh.1];show Ending.returned (.bool (isP wIf L))=_;rw[hi'],hh.2⟩
  have HLV:Hid (∀ w1,Rs g c ts w1 b o (.ok () L)→Calls Tryz.prog 144 #[.pointer (some ⟨b,0,none⟩),.int .i64 0] w1 (RRes g c ts b o w1 (XV w1.heap.size) R)):=YV fun w1 h1=>by rw[hR];exact(ih f (Nat.le_refl _)).level o 0 L w1 (by omega) (by omega) h1
  clear hR hf h hv ih hz0 HIF hi hi'
  go_enter Tryz.func116,Tryz.ntmps116
  go_upto_region 1 with fail
  rw[← hv0,← hq]
  clear hv0 hq
  go_wp2_with (first|(go_at_call 44;refine(HIS.out _ HS0.out).mono ?_;rintro e w1 ⟨rfl,hb⟩;have HS1:=YV (HS0.out.later hb);have HR1:=YV (HR.out.below hb HR.out.lt);have HG1:Hid (v0.grownBy w1 (some b)):=YV (zb hb b);clear hb HIS)|(go_at_call 144;refine(HLV.out _ HS1.out).mono ?_;rintro e w2 ⟨x,v,rfl,⟨A,c',rfl,hk⟩,g1,g2,g3⟩;have HX:=YV hk;have hgz:=HG1.out.size;have HG2:=YV (za HG1.out g1);have HS2:=YV g2;have HVX:=YV g3;have HROW:=HR1.out.grown g1 (fun e=>by injection e with e;omega);clear g1 g2 g3 hk HLV)|(refine wpList_store_row (o:=⟨none,Op.store _ _ _,_,_,_,_⟩) rfl _ _ _ rfl q (x5 x A c') rfl rfl _ _ HROW zo rfl (jf x A c') ?_))
  obtain⟨t1,t2⟩:=vX (cx:=c') HQ.out (by omega) HV.out HG2.out HROW (HX.out.move fun m hm=>⟨⟨by have:=hm.1;have:=HZ0.out;have:=HQ.out;omega,hm.2⟩,rfl⟩) HS2.out HVX.out
  exact bodyPost_ret (results_cell_row rfl _ _ q _ _ _ _ rfl t1 Tryz.underlying52 rfl zo) rfl t2
end Go.Proofs.YtdabndiaflagpaaGreatDoor
namespace Go.Proofs.YtdabndiaflagpaaGreatDoor
open Go.RowKit
def OwnW {α:Type} (R:Of α) (e:TypeId) (k B2:Nat) (xs:List α) (v:Value) (w:World):Prop:=OwnG R e k w B2 (Sb B2 v.ownBlock w) v xs
section
variable {α:Type} {R:Of α} {e:TypeId} {k B2:Nat} {xs acc:List α} {y:α} {v v':Value} {w w':World} {r:Option Nat}
theorem OwnW.keep (hl:jB R k) (h:OwnW R e k B2 xs v w) (g:w.grownBy w' r) (hr:∀ q,r=some q→q<B2):OwnW R e k B2 xs v w':=by
 obtain⟨cs,ho,hx⟩:=h
 have hlt:=World.ownsRow.lt ho
 refine⟨cs,ho.kept g ?_,hx.move hl fun q hq=>zE g (fun k hk=>.inl (hr k hk)) q hq⟩
 cases hv:v.ownBlock with
 | none=>exact .inl rfl
 | some q=>exact .inr fun e=>by have h1:=(hlt q hv).1;have:=hr q e.symm;omega
theorem OwnW.snoc (hl:jB R k) {cs c:List Value} (hx:CG R w (Sb B2 v.ownBlock w) acc cs) (ho':w'.ownsRow B2 e k v' (acc.length+1) (cs++c))
  (hgr:w.grownBy w' v.ownBlock) (hat:v'.ownBlock=v.ownBlock∨v'.ownBlock=some w.heap.size) (hk:R w (Sb B2 v.ownBlock w) y c):OwnW R e k B2 (acc++[y]) v' w':=by
 have e1:(acc++[y])[acc.length]? = some y:=by simp
 have e2:(acc++[y]).take acc.length=acc:=by simp
 have e3:(acc++[y]).take (acc.length+1)=acc++[y]:=List.take_of_length_le (by simp)
 have:=OwnG.step (R:=R) (e:=e) (xs:=acc++[y]) (j:=acc.length) (c:=c) hl e1 (by rw[e2];exact hx) (by rw[e2];exact ho') hgr hat hk
 rw[e3] at this
 exact this
theorem OwnW.nil:OwnW R e k B2 [] (.slice none 0 0) w:=OwnG.nil _ _ _ _ _ _
theorem OwnW.lt (h:OwnW R e k B2 xs v w):∀ q,v.ownBlock=some q→B2≤q∧q<w.heap.size:=OwnG.lt h
theorem OwnW.slice (h:OwnW R e k B2 xs v w):∃ A c,v=.slice A xs.length c∧xs.length≤c:=zw h
end
def RA (g c:Nat) (ts:List Tk) (b:Nat) (v0:World) (o:Nat) (σ:Pr Unit) (w:World):Prop:=Rs g c ts w b o σ∧v0.grownBy w (some b)
section
variable {g c:Nat} {ts:List Tk} {b o:Nat} {v0 w w':World} {σ:Pr Unit} {r:Option Nat}
theorem RA.later (h:RA g c ts b v0 o σ w) (hb:Below w.heap.size w w'):RA g c ts b v0 o σ w':=⟨h.1.later hb,za h.2 (zb hb b)⟩
theorem RA.far (h:RA g c ts b v0 o σ w) (hs:w.grownBy w' r) (hr:∀ q,r=some q→v0.heap.size≤q) (hb:b<v0.heap.size):RA g c ts b v0 o σ w':=
 ⟨h.1.grown hs (fun q hq=>by have:=hr q hq;omega),jb h.2 hs (fun q hq=>hr q hq)⟩
theorem RA.step {o':Nat} {σ':Pr Unit} (h:RA g c ts b v0 o σ w) (h':Rs g c ts w' b o' σ') (hg:w.grownBy w' (some b)):RA g c ts b v0 o' σ' w':=⟨h',za h.2 hg⟩
end
def jr {α:Type} (g c:Nat) (ts:List Tk) (b o p B2:Nat) (σ:Pr Unit) (v0 w1:World) (tb:TypeId) (cells:Array Value) (R:Of α) (e:TypeId) (k:Nat) (acc:List α) (v:Value):List Tame.Ghost:=
 [⟨RA g c ts b v0 o σ,[5,7]⟩,⟨fun w=>Row w p tb cells,[3,5]⟩,⟨fun w=>OwnW R e k B2 acc v w,[3,7]⟩,⟨fun w=>Kp2 B2 b p w1 w,[3,5,7]⟩]
theorem jk {α:Type} {g c:Nat} {ts:List Tk} {b o p B2:Nat} {σ:Pr Unit} {v0 w1 w3:World} {tb:TypeId} {cells:Array Value} {R:Of α} {e:TypeId} {k:Nat} {acc:List α} {v:Value} (hl:jB R k)
  (ha:RA g c ts b v0 o σ w3) (hb:Row w3 p tb cells) (hq:OwnW R e k B2 acc v w3) (hkp:Kp2 B2 b p w1 w3) (hbv:b<v0.heap.size) (hvp:v0.heap.size≤p) (hpB:p<B2) (hB:B2≤w1.heap.size) :
  ∀ (i:Nat) (gh:Tame.Ghost),(jr g c ts b o p B2 σ v0 w1 tb cells R e k acc v)[i]? = some gh→gh.g w3.drew∧(∀ w w',Tame.Later w w'→gh.g w→gh.g w')∧
   ∀ j,[3,5,7].contains j=true→gh.keeps.contains j=true→∀ w w',ME b p v j w w'→gh.g w→gh.g w':=by
 have hv:=hq.lt
 intro i gh hi
 rcases i with _ | _ | _ | _ | i
 ·obtain rfl:(⟨RA g c ts b v0 o σ,[5,7]⟩:Tame.Ghost)=gh:=by simpa [jr] using hi
  refine⟨ha.later ((Below.refl _ _).drew),fun a c hl h=>h.later hl,fun j _ hj a c hs h=>?_⟩
  rcases jX hj with rfl | rfl
  ·exact h.far hs (fun q hq=>by have:=(hv q hq).1;omega) hbv
  ·exact h.far hs (fun q hq=>by injection hq with hq;omega) hbv
 ·obtain rfl:(⟨fun w=>Row w p tb cells,[3,5]⟩:Tame.Ghost)=gh:=by simpa [jr] using hi
  refine⟨Row.drew hb,fun a c hl h=>Row.below h hl (Row.lt h),fun j _ hj a c hs h=>?_⟩
  rcases jX hj with rfl | rfl
  ·exact Row.grown h hs (fun e=>by injection e with e;omega)
  ·exact Row.grown h hs (fun e=>by have:=(hv p e.symm).1;omega)
 ·obtain rfl:(⟨fun w=>OwnW R e k B2 acc v w,[3,7]⟩:Tame.Ghost)=gh:=by simpa [jr] using hi
  refine⟨hq.keep hl (zc ((Below.refl _ _).drew) none) (fun q e=>by cases e),fun a c hb h=>h.keep hl (zc hb none) (fun q e=>by cases e),fun j _ hj a c hs h=>?_⟩
  rcases jX hj with rfl | rfl
  ·exact h.keep hl hs (fun q e=>by injection e with e;omega)
  ·exact h.keep hl hs (fun q e=>by injection e with e;omega)
 ·obtain rfl:(⟨fun w=>Kp2 B2 b p w1 w,[3,5,7]⟩:Tame.Ghost)=gh:=by simpa [jr] using hi
  refine⟨hkp.step (zc ((Below.refl _ _).drew) none) hB (fun q e=>by cases e),fun a c hl h=>h.step (zc hl none) hB (fun q e=>by cases e),fun j _ hj a c hs h=>?_⟩
  rcases vw hj with rfl | rfl | rfl
  ·exact h.step hs hB (fun q e=>by injection e with e;exact .inl e.symm)
  ·exact h.step hs hB (fun q e=>.inr (.inr (hv q e).1))
  ·exact h.step hs hB (fun q e=>by injection e with e;exact .inr (.inl e.symm))
 ·simp[jr] at hi
structure vU {α:Type} (B2:Nat) (own:Option Nat) (V:α→Value→World→Prop):Prop where
 stay:∀ {y u w w'} {r:Option Nat},V y u w→w.grownBy w' r→(∀ q,r=some q→q<B2∨r=own)→V y u w'
def AftC {α:Type} (g c:Nat) (ts:List Tk) (b:Nat) (v0:World) (o:Nat) (σ:Pr Unit) (V:α→Value→World→Prop) (hy:α→Prop) (u:Value) (w:World):Prop:=RA g c ts b v0 o σ w∧∃ y,hy y∧V y u w
def AftR {α:Type} (V:α→Value→World→Prop) (hy:α→Prop) (u:Value) (w:World):Prop:=∃ y,hy y∧V y u w
def AftS {α:Type} (R:Of α) (e:TypeId) (k B2:Nat) (acc:List α) (hy:α→Prop) (u:Value) (w:World):Prop:=∃ y,hy y∧OwnW R e k B2 (acc++[y]) u w
section
variable {α:Type} {g c:Nat} {ts:List Tk} {b o p B2:Nat} {v0:World} {σ:Pr Unit} {V:α→Value→World→Prop} {hy:α→Prop} {R:Of α} {e:TypeId} {k:Nat} {acc:List α} {v u:Value} {w w':World} {i:Nat}
theorem AftC.later (hst:vU B2 v.ownBlock V) (h:AftC g c ts b v0 o σ V hy u w) (hl:Tame.Later w w'):AftC g c ts b v0 o σ V hy u w':=by
 obtain⟨h1,y,h2,h3⟩:=h
 exact⟨h1.later hl,y,h2,hst.stay h3 (zc hl none) (fun q e=>by cases e)⟩
theorem AftC.turn (hst:vU B2 v.ownBlock V) (hj:[5,7].contains i=true) (hs:ME b p v i w w') (h:AftC g c ts b v0 o σ V hy u w) (hv:∀ q,v.ownBlock=some q→B2≤q) (hbv:b<v0.heap.size) (hvp:v0.heap.size≤p) (hpB:p<B2):AftC g c ts b v0 o σ V hy u w':=by
 obtain⟨h1,y,h2,h3⟩:=h
 rcases jX hj with rfl | rfl
 ·exact⟨h1.far hs (fun q hq=>by have:=hv q hq;omega) hbv,y,h2,hst.stay h3 hs (fun q _=>.inr rfl)⟩
 ·exact⟨h1.far hs (fun q hq=>by injection hq with hq;omega) hbv,y,h2,hst.stay h3 hs (fun q hq=>by injection hq with hq;exact .inl (by omega))⟩
theorem AftR.later (hst:vU B2 v.ownBlock V) (h:AftR V hy u w) (hl:Tame.Later w w'):AftR V hy u w':=by
 obtain⟨y,h2,h3⟩:=h
 exact⟨y,h2,hst.stay h3 (zc hl none) (fun q e=>by cases e)⟩
theorem AftR.turn (hst:vU B2 v.ownBlock V) (hj:[3,5,7].contains i=true) (hs:ME b p v i w w') (h:AftR V hy u w) (hbp:b<p) (hpB:p<B2):AftR V hy u w':=by
 obtain⟨y,h2,h3⟩:=h
 rcases vw hj with rfl | rfl | rfl
 ·exact⟨y,h2,hst.stay h3 hs (fun q hq=>by injection hq with hq;exact .inl (by omega))⟩
 ·exact⟨y,h2,hst.stay h3 hs (fun q _=>.inr rfl)⟩
 ·exact⟨y,h2,hst.stay h3 hs (fun q hq=>by injection hq with hq;exact .inl (by omega))⟩
theorem AftS.later (hl:jB R k) (h:AftS R e k B2 acc hy u w) (hb:Tame.Later w w'):AftS R e k B2 acc hy u w':=by
 obtain⟨y,h2,h3⟩:=h
 exact⟨y,h2,h3.keep hl (zc hb none) (fun q e=>by cases e)⟩
theorem AftS.other (hl:jB R k) (h:AftS R e k B2 acc hy u w) (hs:w.grownBy w' (some p)) (hpB:p<B2):AftS R e k B2 acc hy u w':=by
 obtain⟨y,h2,h3⟩:=h
 exact⟨y,h2,h3.keep hl hs (fun q e=>by injection e with e;omega)⟩
theorem AftS.slice (h:AftS R e k B2 acc hy u w):∃ A c,u=.slice A (acc.length+1) c:=by
 obtain⟨y,_,h3⟩:=h
 obtain⟨A,c,h4,_⟩:=h3.slice
 exact⟨A,c,by rw[h4];simp⟩
end
def RX:Of X:=fun w S x cs=>∃ A c,cs=[.int .i64 x.k,.int .i64 x.o,.int .i64 x.n,.string ⟨x.s.toArray⟩,.slice A x.ks.length c]∧KS w S A x.ks
theorem zX:jB RX 5:=⟨fun ⟨A,c,h,hk⟩ hm=>⟨A,c,h,hk.move hm⟩,fun ⟨A,c,h,_⟩=>by rw[h];rfl,fun ⟨A,c,h,_⟩ u hu=>by
 rw[h] at hu
 simp only[List.mem_cons,List.not_mem_nil,or_false] at hu
 rcases hu with rfl | rfl | rfl | rfl | rfl <;> rfl⟩
theorem xd:(Tryz.prog.info? 52).map (fun i=>(i.zero,i.size,i.bytes))=some (some (.agg #[.int .i64 0,.int .i64 0,.int .i64 0,.string ⟨#[]⟩,.slice none 0 0]),5,64):=by kernel_rfl
def VX (B2:Nat) (own:Option Nat) (y:X) (u:Value) (w:World):Prop:=∃ A c,u=.agg #[.int .i64 y.k,.int .i64 y.o,.int .i64 y.n,.string ⟨y.s.toArray⟩,.slice A y.ks.length c]∧KS w (Sb B2 own w) A y.ks
def WX (B2:Nat) (own:Option Nat) (y:X) (u:Value) (w:World):Prop:=∃ q A c,u=.slice (some ⟨q,0,none⟩) 1 1∧Row w q 52 (x5 y A c)∧KS w (Sb B2 own w) A y.ks∧B2≤q∧some q≠own
theorem ua {B2:Nat} {own:Option Nat}:vU B2 own (VX B2 own):=⟨fun ⟨A,c,h1,h2⟩ g hr=>⟨A,c,h1,h2.move fun q hq=>zE g hr q hq⟩⟩
theorem vZ {B2:Nat} {own:Option Nat}:vU B2 own (WX B2 own):=⟨fun ⟨q,A,c,h1,h0,h2,h3,h4⟩ g hr=>⟨q,A,c,h1,h0.grown g (fun e=>(hr q e.symm).elim (fun h=>by omega) (fun h=>h4 (e.trans h))),h2.move fun q hq=>zE g hr q hq,h3,h4⟩⟩
theorem qZ {B2:Nat} {own:Option Nat} {y:X} {w:World} {A:Option Addr} {c:Nat} (h:KS w (Sb B2 own w) A y.ks) (hB:B2≤w.heap.size) (ho:some w.heap.size≠own) :
  WX B2 own y (.slice (some ⟨w.heap.size,0,none⟩) 1 1) (w.alloc (.cells (x5 y A c) 52)):=
 ⟨w.heap.size,A,c,rfl,Row.made _ _ _,h.move fun q hq=>zE (zi (World.grownBy.refl w none) _) (fun q e=>by cases e) q hq,hB,ho⟩
theorem OwnW.ks {B2:Nat} {xs:List X} {v:Value} {w:World} (h:OwnW RX 52 5 B2 xs v w) {lo:Nat} (hl:lo≤B2):∃ A c,v=.slice A xs.length c∧KS w (Bt lo w.heap.size) A xs:=by
 have hlt:=h.lt
 obtain⟨A,c,hv,hr⟩:=OwnG.form zX h (S':=Bt lo w.heap.size) (fun q hq=>⟨by have:=hq.1;omega,hq.2.1⟩) (fun q cs hq _=>by have:=hlt q hq;exact⟨by omega,this.2⟩)
 refine⟨A,c,hv,?_⟩
 rcases hr with rfl | ⟨b,off,rfl,hr⟩
 ·exact .inl rfl
 ·refine .inr ⟨b,off,rfl,ECs.of_kids fun i x hi=>?_⟩
  obtain⟨hb,cs,⟨A',c',rfl,hk⟩,hc⟩:=hr i x hi
  exact EC.mk' (A:=A') (c:=c') hb (hc 0 _ rfl) (hc 1 _ rfl) (hc 2 _ rfl) (hc 3 _ rfl) (hc 4 _ rfl) hk
end Go.Proofs.YtdabndiaflagpaaGreatDoor
