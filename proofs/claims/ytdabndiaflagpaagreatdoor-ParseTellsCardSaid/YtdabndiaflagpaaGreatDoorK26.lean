/- Parts: PsZ6, PtA, PtB, PsF. -/
import Derived.Test.YtdabndiaflagpaaGreatDoorK08
import Derived.Test.YtdabndiaflagpaaGreatDoorK09
import Derived.Test.YtdabndiaflagpaaGreatDoorK25
import Derived.Test.YtdabndiaflagpaaGreatDoorK15
import Derived.Test.YtdabndiaflagpaaGreatDoorK01
set_option maxRecDepth 100000
set_option maxHeartbeats 4000000
namespace Go.Proofs.YtdabndiaflagpaaGreatDoor
open Go.RowKit
def GT (t:T):Prop:=zB t=true∧t.length≤1000000
def GV (v:Vr):Prop:=varB v=true∧okV v
def GQ (q:Q):Prop:=eqB q=true∧okQ q
def GN (n:Nd):Prop:=vh n=true∧okN n
theorem yC {n:Nat} {L L':List Tk} {x:T} (hw:WFt L) (h:zh n L=.ok x L'):GT x∧WFt L'∧L'.length<L.length:=by
 have hs:=uK n hw x L' h
 unfold zh at h
 split at h
 ·rename_i hk
  split at h
  ·cases h
  ·injection h with h1 h2
   rw[← h1]
   exact⟨yI hw hk,hs.1,hs.2⟩
 ·cases h
theorem yz (n:Nat):∀ (f:Nat) (acc ts:List T) (L L':List Tk),WFt L→(∀ t∈acc,GT t)→1≤acc.length→zW f n acc L=.ok ts L'→(∀ t∈ts,GT t)∧1≤ts.length
 | 0,acc,ts,L,L',_,_,_,h=>by unfold zW at h;cases h
 | f+1,acc,ts,L,L',hw,ha,hl,h=>by
  unfold zW at h
  split at h
  ·rename_i hp
   obtain⟨x,L1,h1,h2⟩:=zk h
   obtain⟨g1,g2,_⟩:=yC (zI hw hp (by decide)).1 h1
   exact yz n f _ ts L1 L' g2 (fun t ht=>by
    rcases List.mem_append.1 ht with ht | ht
    ·exact ha t ht
    ·rw[List.mem_singleton.1 ht];exact g1) (by simp) h2
  ·injection h with h _;rw[← h];exact⟨ha,hl⟩
theorem yy {n:Nat} {L L':List Tk} {ts:List T} (hw:WFt L) (h:jw n L=.ok ts L'):(∀ t∈ts,GT t)∧1≤ts.length∧n+ts.length≤1000:=by
 obtain⟨x,L1,h1,h2⟩:=zk h
 obtain⟨g1,g2,_⟩:=yC hw h1
 obtain⟨k1,k2⟩:=yz n _ [x] ts L1 L' g2 (fun t ht=>by rw[List.mem_singleton.1 ht];exact g1) (by simp) h2
 exact⟨k1,k2,uU n _ _ _ _ _ (by have:=uX h1;simp;omega) h2⟩
theorem JI {L L':List Tk} {ty:Int} (h:jV L=.ok ty L'):ty=0∨ty=1:=by
 unfold jV at h
 split at h
 ·injection h with h _;exact .inl h.symm
 ·obtain⟨_,L1,_,h2⟩:=zk h
  injection h2 with h2 _;exact .inr h2.symm
theorem vS {n:Nat} {L L':List Tk} {vs:List Vr} (hw:WFt L) (h:zq n L=.ok vs L'):(∀ v∈vs,GV v)∧1≤vs.length∧n+vs.length≤1000:=by
 have hf:=vO h
 obtain⟨ts,L1,h1,h2⟩:=zk h
 obtain⟨g1,g2,_⟩:=yy hw h1
 obtain⟨_,L2,_,h3⟩:=zk h2
 obtain⟨ty,L3,h4,h5⟩:=zk h3
 injection h5 with h5 _
 subst h5
 refine⟨fun v hv=>?_,by simpa using g2,hf⟩
 obtain⟨t,ht,rfl⟩:=List.mem_map.1 hv
 obtain⟨k1,k2⟩:=g1 t ht
 have hty:typB ty=true:=by rcases JI h4 with rfl | rfl <;> decide
 exact⟨by show (zB t && typB ty)=true;rw[k1,hty];rfl,by show t.length≤_;omega⟩
theorem yJ {α:Type} {P:α→Prop} {xs ys:List α} (h:∀ v∈xs,P v) (k:∀ v∈ys,P v):∀ v∈xs++ys,P v:=fun v hv=>(List.mem_append.1 hv).elim (h v) (k v)
theorem yV:∀ (f:Nat) (acc vs:List Vr) (L L':List Tk),WFt L→(∀ v∈acc,GV v)→1≤acc.length→acc.length≤1000→jL f acc L=.ok vs L'→(∀ v∈vs,GV v)∧1≤vs.length∧vs.length≤1000
 | 0,acc,vs,L,L',_,_,_,_,h=>by unfold jL at h;cases h
 | f+1,acc,vs,L,L',hw,ha,hl,hm,h=>by
  unfold jL at h
  split at h
  ·rename_i hp
   have ht:=(zI hw hp (by decide)).1
   obtain⟨x,L1,h1,h2⟩:=zk h
   obtain⟨g1,g2,g3⟩:=vS ht h1
   exact yV f _ vs L1 L' (jo _ ht _ _ h1).1 (yJ ha g1) (by simp;omega) (by simp;omega) h2
  ·injection h with h _;rw[← h];exact⟨ha,hl,hm⟩
theorem yU {L L':List Tk} {vs:List Vr} (hw:WFt L) (h:jF L=.ok vs L'):(∀ v∈vs,GV v)∧1≤vs.length∧vs.length≤1000:=by
 obtain⟨x,L1,h1,h2⟩:=zk h
 obtain⟨g1,g2,g3⟩:=vS hw h1
 exact yV _ x vs L1 L' (jo _ hw _ _ h1).1 g1 g2 (by omega) h2
theorem ye:∀ (f:Nat) (acc vs:List Vr) (L L':List Tk),WFt L→(∀ v∈acc,GV v)→acc.length≤1000→zS f acc L=.ok vs L'→(∀ v∈vs,GV v)∧vs.length≤1000
 | 0,acc,vs,L,L',_,_,_,h=>by unfold zS at h;cases h
 | f+1,acc,vs,L,L',hw,ha,hm,h=>by
  unfold zS at h
  split at h
  ·obtain⟨x,L1,h1,h2⟩:=zk h
   obtain⟨g1,g2,g3⟩:=vS hw h1
   have w1:=(jo _ hw _ _ h1).1
   obtain⟨_,L2,h3,h4⟩:=zk h2
   exact ye f _ vs L2 L' (zu w1 (by decide) _ _ h3).1 (yJ ha g1) (by simp;omega) h4
  ·injection h with h _;rw[← h];exact⟨ha,hm⟩
theorem JC {L L':List Tk} {vs:List Vr} (hw:WFt L) (h:varP L=.ok vs L'):(∀ v∈vs,GV v)∧vs.length≤1000:=by
 unfold varP at h
 split at h
 ·rename_i hp
  have ht:=(zI hw hp (by decide)).1
  obtain⟨x,L1,h1,h2⟩:=zk h
  obtain⟨g1,g2,g3⟩:=vS ht h1
  have w1:=(jo _ ht _ _ h1).1
  obtain⟨_,L2,h3,h4⟩:=zk h2
  exact ye _ x vs L2 L' (zu w1 (by decide) _ _ h3).1 g1 (by omega) h4
 ·injection h with h _;rw[← h];exact⟨(fun v hv=>by cases hv),by simp⟩
theorem kP {L L':List Tk} {ts:List T} (hw:WFt L) (h:jA L=.ok ts L'):(∀ t∈ts,GT t)∧1≤ts.length∧ts.length≤1000:=by
 unfold jA at h
 split at h
 ·rename_i hp
  obtain⟨x,L1,h1,h2⟩:=zk h
  obtain⟨g1,g2,g3⟩:=yy (zI hw hp (by decide)).1 h1
  obtain⟨_,L2,_,h4⟩:=zk h2
  injection h4 with h4 _
  subst h4
  exact⟨g1,g2,by omega⟩
 ·obtain⟨x,L1,h1,h2⟩:=zk h
  injection h2 with h2 _
  subst h2
  unfold nmP at h1
  split at h1
  ·rename_i hk
   injection h1 with h1 _
   subst h1
   exact⟨fun t ht=>by rw[List.mem_singleton.1 ht];exact yI hw hk,by simp,by simp⟩
  ·cases h1
theorem xB {α:Type} {f:α→Bool} {l:List α} (h:∀ x∈l,f x=true):l.all f=true:=List.all_eq_true.2 h
theorem Zm {L L':List Tk} {q:Q} (hw:WFt L) (hl:L.length≤1000001) (h:eqnP L=.ok q L'):GQ q:=by
 obtain⟨ts,L1,h1,h2⟩:=zk h
 obtain⟨g1,g2,g3⟩:=kP hw h1
 have w1:=qq hw _ _ h1
 obtain⟨_,L2,h3,h4⟩:=zk h2
 have w2:=zu w1.1 (by decide) _ _ h3
 obtain⟨x,L3,h5,h6⟩:=zk h4
 obtain⟨o1,o2⟩:=(Yt _).expr _ _ w2.1 _ _ h5
 have hs:=(sizes _).expr _ _ w2.1 _ _ h5
 split at h6
 ·cases h6
 ·rename_i hd
  obtain⟨_,L4,_,h7⟩:=zk h6
  injection h7 with h7 _
  subst h7
  have hz:x.size≤1000001:=by have:=w1.2;have:=w2.2;omega
  refine⟨?_,⟨⟨by show ts.length≤_;omega,fun t ht=>by have:=(g1 t ht).2;omega⟩,o2,by show x.size≤_;omega⟩⟩
  have e1:vk ts=true:=by
   unfold vk fewB
   rw[xB fun t ht=>(g1 t ht).1]
   simpa using g3
  have e2:vq x=true:=by
   unfold vq inB
   rw[o1]
   simp
   have:=x.depth_le
   omega
  show (ur ts.length && vk ts && vq x)=true
  rw[e1,e2]
  unfold ur
  simp
  omega
theorem qU:∀ (f:Nat) (acc qs:List Q) (L L':List Tk),WFt L→L.length≤1000001→(∀ v∈acc,GQ v)→acc.length≤1000→eqsF f acc L=.ok qs L'→(∀ v∈qs,GQ v)∧qs.length≤1000
 | 0,acc,qs,L,L',_,_,_,_,h=>by unfold eqsF at h;cases h
 | f+1,acc,qs,L,L',hw,hl,ha,hm,h=>by
  unfold eqsF at h
  split at h
  ·split at h
   ·cases h
   ·obtain⟨x,L1,h1,h2⟩:=zk h
    have w1:=yf hw _ _ h1
    have g1:=Zm hw hl h1
    exact qU f _ qs L1 L' w1.1 (by have:=w1.2;omega) (yJ ha fun v hv=>by rw[List.mem_singleton.1 hv];exact g1) (by simp;omega) h2
  ·injection h with h _;rw[← h];exact⟨ha,hm⟩
theorem yW {vs:List Vr} (h:∀ v∈vs,GV v) (hl:vs.length≤1000):jH vs=true∧okVs vs:=by
 refine⟨?_,by omega,fun v hv=>(h v hv).2⟩
 unfold jH fewB
 rw[xB fun v hv=>(h v hv).1]
 simpa using hl
theorem kF {L L':List Tk} {n:Nd} (hw:WFt L) (hl:L.length≤1000001) (h:jO L=.ok n L'):GN n:=by
 obtain⟨_,L1,h1,h⟩:=zk h
 have w1:=zu hw (by decide) _ _ h1
 obtain⟨nm,L2,h2,h⟩:=zk h
 have w2:=kJ w1.1 _ _ h2
 obtain⟨_,L3,h3,h⟩:=zk h
 have w3:=zu w2.1 (by decide) _ _ h3
 obtain⟨ins,L4,h4,h⟩:=zk h
 have w4:=Jt w3.1 _ _ h4
 obtain⟨_,L5,h5,h⟩:=zk h
 have w5:=uH _ _ w4.1 (by decide) _ _ h5
 obtain⟨outs,L6,h6,h⟩:=zk h
 have w6:=yT w5.1 _ _ h6
 obtain⟨_,L7,h7,h⟩:=zk h
 have w7:=uH _ _ w6.1 (by decide) _ _ h7
 obtain⟨locals,L8,h8,h⟩:=zk h
 have w8:=Jh w7.1 _ _ h8
 obtain⟨_,L9,h9,h⟩:=zk h
 have w9:=zu w8.1 (by decide) _ _ h9
 obtain⟨eqs,L10,h10,h⟩:=zk h
 obtain⟨_,L11,h11,h⟩:=zk h
 injection h with h _
 subst h
 have gn:GT nm:=by
  unfold nmP at h2
  split at h2
  ·rename_i hk
   injection h2 with h2 _
   rw[← h2];exact yI w1.1 hk
  ·cases h2
 have gi:(∀ v∈ins,GV v)∧ins.length≤1000:=by
  unfold insP at h4
  split at h4
  ·injection h4 with h4 _;rw[← h4];exact⟨(fun v hv=>by cases hv),by simp⟩
  ·have:=yU w3.1 h4;exact⟨this.1,this.2.2⟩
 have go:=yU w5.1 h6
 have gl:=JC w7.1 h8
 have ge:=qU _ _ _ _ _ w9.1 (by have:=w1.2;have:=w2.2;have:=w3.2;have:=w4.2;have:=w5.2;have:=w6.2;have:=w7.2;have:=w8.2;have:=w9.2;omega) (fun v hv=>by cases hv) (by simp) h10
 obtain⟨i1,i2⟩:=yW gi.1 gi.2
 obtain⟨o1,o2⟩:=yW go.1 go.2.2
 obtain⟨l1,l2⟩:=yW gl.1 gl.2
 have e1:eqsB eqs=true:=by
  unfold eqsB fewB
  rw[xB fun v hv=>(ge.1 v hv).1]
  simpa using ge.2
 refine⟨?_,by show nm.length≤_;have:=gn.2;omega,i2,o2,l2,by have:=ge.2;show eqs.length≤_;omega,fun v hv=>(ge.1 v hv).2⟩
 show (zB nm && jH ins && ur outs.length && jH outs && jH locals && eqsB eqs)=true
 rw[gn.1,i1,o1,l1,e1]
 unfold ur
 simp
 omega
theorem qh:∀ (f:Nat) (acc ns:List Nd) (L L':List Tk),WFt L→L.length≤1000001→(∀ v∈acc,GN v)→acc.length≤1000→jx f acc L=.ok ns L'→(∀ v∈ns,GN v)∧ns.length≤1000
 | 0,acc,ns,L,L',_,_,_,_,h=>by unfold jx at h;cases h
 | f+1,acc,ns,L,L',hw,hl,ha,hm,h=>by
  unfold jx at h
  split at h
  ·split at h
   ·cases h
   ·obtain⟨x,L1,h1,h2⟩:=zk h
    have w1:=qn hw _ _ h1
    have g1:=kF hw hl h1
    exact qh f _ ns L1 L' w1.1 (by have:=w1.2;omega) (yJ ha fun v hv=>by rw[List.mem_singleton.1 hv];exact g1) (by simp;omega) h2
  ·split at h
   ·injection h with h _;rw[← h];exact⟨ha,hm⟩
   ·cases h
theorem xR {ts:List Tk} {ns:List Nd} {L:List Tk} (hw:WFt ts) (hl:ts.length≤1000001) (h:jx (ts.length+1) [] ts=.ok ns L):vD ns=true∧okNs ns∧ns.length≤1000:=by
 obtain⟨h1,h2⟩:=qh _ [] ns ts L hw hl (fun v hv=>by cases hv) (by simp) h
 refine⟨?_,⟨by omega,fun v hv=>(h1 v hv).2⟩,h2⟩
 unfold vD fewB
 rw[xB fun v hv=>(h1 v hv).1]
 simpa using h2
theorem vG {α:Type} {f:α→α→Bool} (hf:∀ x,f x x=true) (l:List α):sm f l l=true:=y7 rfl fun i x y hx hy=>by
 rw[hx] at hy
 injection hy with hy
 rw[hy];exact hf y
theorem kA (n:Nd):ub n n=true:=by
 unfold ub y9
 rw[vG (fun x=>by unfold j9;simp),vG (fun x=>by unfold j9;simp),vG (fun x=>by unfold j9;simp),vG (fun q=>by unfold qa;rw[vG (fun t=>by unfold y9;simp),X.same_refl];rfl)]
 simp
theorem qF (l:List Nd):sm ub l l=true:=vG kA l
end Go.Proofs.YtdabndiaflagpaaGreatDoor
namespace Go.Proofs.YtdabndiaflagpaaGreatDoor
open Go.RowKit
def tA:T:=[110,111,100,101,32,102,40,97,58,32,105,110,116,41,32,114,101,116,117,114,110,115,32,40,98,58,32,105,110,116,41,59,32,108,101,116,32,98,32,61,32,97,32,45,62,32,112,114,101,32,97,32,43,32,49,59,32,116,101,108]
def tB:T:=[110,111,100,101,32,102,40,41,32,114,101,116,117,114,110,115,32,40,98,58,32,98,111,111,108,41,59,32,108,101,116,32,98,32,61,32,49,32,61,32,50,32,61,32,51,59,32,116,101,108]
def tsA:List Tk:=(lexA tA 0 []).1
def tsB:List Tk:=(lexA tB 0 []).1
def xA:X:=.mk 4 0 0 [] [.mk 2 0 0 [97] [],.mk 4 11 0 [] [.mk 3 2 0 [] [.mk 2 0 0 [97] []],.mk 0 0 1 [] []]]
def nsA:List Nd:=[⟨[102],[⟨[97],0⟩],[⟨[98],0⟩],[],[⟨[[98]],xA⟩]⟩]
def restA:List Tk:=match jx (tsA.length+1) [] tsA with | .ok _ L=>L | .bad _ _=>[]
theorem lexA_A:lexA tA 0 []=(tsA,0,0):=by kernel_rfl
theorem lexA_B:lexA tB 0 []=(tsB,0,0):=by kernel_rfl
theorem prog_A:jx (tsA.length+1) [] tsA=.ok nsA restA:=by kernel_rfl
theorem prog_B:jx (tsB.length+1) [] tsB=.bad 2 42:=by kernel_rfl
theorem place_B:plAt tB 42=(1,43):=by kernel_rfl
end Go.Proofs.YtdabndiaflagpaaGreatDoor
namespace Go.Proofs.YtdabndiaflagpaaGreatDoor
open Go.RowKit
theorem qx (w:World) (he:je w) (hpe:zv w.heap.size w):Calls Tryz.prog 8 #[] w fun e w'=>e=.returned (.bool true)∧Below w.heap.size w w':=by
 have HC1:Hid (Calls Tryz.prog 15 #[.string ⟨(tA).toArray⟩] w fun e w'=>∃ A c,e=.returned (vQ (.slice A 1 c) 0 0 0)∧Below w.heap.size w w'∧NS w' (Bt w.heap.size w'.heap.size) A nsA):=YV (xU lexA_A prog_A w (by decide) he hpe)
 have HC2:Hid (∀ w2,Below w.heap.size w w2→Calls Tryz.prog 15 #[.string ⟨(tB).toArray⟩] w2 fun e w'=>e=.returned (vQ (.slice none 0 0) 1 43 2)∧Below w2.heap.size w2 w'):=YV fun w2 hb=>by
  have h:=qL lexA_B prog_B w2 (by decide) (he.later hb) (hpe.rise hb hb.size)
  rw[place_B] at h
  exact h
 unfold tA at HC1
 unfold tB at HC2
 simp only[vQ] at HC1 HC2
 clear he hpe
 go_enter Tryz.func8,Tryz.ntmps8
 go_upto_region 2 with (go_at_call 15;refine HC1.out.mono ?_;rintro e w1 ⟨A,c,rfl,hb,hn⟩;have HN:=YV hn;have HB:=YV hb;clear hn hb HC1)
 obtain⟨wa,hwa⟩:∃ v,v=(w1.alloc (.cells #[.slice A 1 c] 36)).alloc (.cells #[.int .i64 0,.int .i64 0] 58):=⟨_,rfl⟩
 rw[← hwa]
 have HX1:Hid (Below w1.heap.size w1 wa):=YV (by rw[hwa];exact((Below.refl _ _).alloc (Nat.le_refl _) _).alloc (by simp) _)
 have HB1:Hid (Below w.heap.size w wa):=YV (HB.out.trans (HX1.out.mono HB.out.size))
 have HP1:Hid (Row wa w1.heap.size 36 #[.slice A 1 c]):=YV (by rw[hwa];exact(Row.made _ _ _).alloc _)
 clear hwa
 go_upto_region 3 with (go_at_call 15;refine(HC2.out _ HB1.out).mono ?_;rintro e w2 ⟨rfl,hb2⟩;have HB2:=YV hb2;clear hb2 HC2)
 obtain⟨wb,hwb⟩:∃ v,v=(w2.alloc (.cells #[.slice none 0 0] 36)).alloc (.cells #[.int .i64 1,.int .i64 43] 58):=⟨_,rfl⟩
 rw[← hwb]
 have HX2:Hid (Below w2.heap.size w2 wb):=YV (by rw[hwb];exact((Below.refl _ _).alloc (Nat.le_refl _) _).alloc (by simp) _)
 have HX3:Hid (Below wa.heap.size wa wb):=YV (HB2.out.trans (HX2.out.mono HB2.out.size))
 have HB3:Hid (Below w.heap.size w wb):=YV (HB1.out.trans (HX3.out.mono HB1.out.size))
 have HP3:Hid (Row wb w1.heap.size 36 #[.slice A 1 c]):=YV (HP1.out.below HX3.out HP1.out.lt)
 have HQ3:Hid (Row wb (w2.heap.size+1) 58 #[.int .i64 1,.int .i64 43]):=YV (by
  have:=Row.made (w2.alloc (.cells #[.slice none 0 0] 36)) 58 #[.int .i64 1,.int .i64 43]
  rw[World.size_alloc] at this
  rw[hwb];exact this)
 clear hwb
 obtain⟨b1,off1,A1,c1,A2,c2,A3,c3,A4,c4,hA,n0,n1,n2,n3,n4,_,_,_,hq,hb1⟩:=NS.at' HN.out (fun b hb=>hb.2) (HX1.out.trans (HX3.out.mono HX1.out.size)) (i:=0) rfl
 obtain⟨b2,off2,B1,d1,B2,d2,hA4,q0,q1,q2,q3,q4,q5,_,hk,hb2⟩:=QS.at' hq (fun b hb=>Nat.lt_of_lt_of_le hb.2 (HX1.out.trans (HX3.out.mono HX1.out.size)).size) (Below.refl _ _) (i:=0) rfl
 obtain⟨b3,off3,C1,e1,hB2,k0,k1,k2,k3,k4,_,hb3⟩:=KS.kid_at hk (fun b hb=>Nat.lt_of_lt_of_le hb.2 (HX1.out.trans (HX3.out.mono HX1.out.size)).size) (Below.refl _ _) (i:=1) rfl
 subst hA hA4 hB2
 have p0:=HP3.out.cell 0
 simp at p0
 simp only[Nat.zero_mul,Nat.add_zero] at n4 q0 q1 q2 q3 q4 q5
 have q1':wb.cell? ⟨b2,off2+1,none⟩=some (.int .i64 4):=q1
 have q2':wb.cell? ⟨b2,off2+2,none⟩=some (.int .i64 0):=q2
 have q3':wb.cell? ⟨b2,off2+3,none⟩=some (.int .i64 0):=q3
 have q4':wb.cell? ⟨b2,off2+4,none⟩=some (.string ⟨#[]⟩):=q4
 have q5':wb.cell? ⟨b2,off2+5,none⟩=some (.slice (some ⟨b3,off3,none⟩) 2 d2):=q5
 have k1':wb.cell? ⟨b3,off3+5+1,none⟩=some (.int .i64 11):=k1
 have hb3':b3<wb.heap.size:=World.block_lt_of_cell? wb _ k1'
 have n4':wb.cell? ⟨b1,off1+4,none⟩=some (.slice (some ⟨b2,off2,none⟩) 1 c4):=n4
 clear n0 n1 n2 n3 n4 q0 q1 q2 q3 q4 q5 k0 k1 k2 k3 k4 hq hk hb1 hb2 hb3
 go_upto_region 6 with fail
 obtain⟨wc,hwc⟩:∃ v,v=wb.alloc (.cells #[.int .i64 4,.int .i64 0,.int .i64 0,.string ⟨#[]⟩,.slice (some ⟨b3,off3,none⟩) 2 d2] 46):=⟨_,rfl⟩
 rw[← hwc]
 have hx:Below wb.heap.size wb wc:=by rw[hwc];exact(Below.refl _ _).alloc (Nat.le_refl _) _
 have HB5:Hid (Below w.heap.size w wc):=YV (HB3.out.trans (hx.mono HB3.out.size))
 have hr:Row wc wb.heap.size 46 #[.int .i64 4,.int .i64 0,.int .i64 0,.string ⟨#[]⟩,.slice (some ⟨b3,off3,none⟩) 2 d2]:=by rw[hwc];exact Row.made _ _ _
 have k1':wc.cell? ⟨b3,off3+5+1,none⟩=some (.int .i64 11):=(hx.cell (p:=⟨b3,_,none⟩) hb3').trans k1'
 have hq:=HQ3.out.below hx HQ3.out.lt
 have x0:=hr.cell 0
 have x1:=hr.cell 1
 have x4:=hr.cell 4
 have y0:=hq.cell 0
 have y1:=hq.cell 1
 simp at x0 x1 x4 y0 y1
 clear hr hq hx hwc q1' q2' q3' q4' q5' n4'
 go_wp2_with fail
 go_ret
 exact⟨rfl,HB5.out⟩
end Go.Proofs.YtdabndiaflagpaaGreatDoor
namespace Go.Proofs.YtdabndiaflagpaaGreatDoor
open Go.RowKit
def Fr (N:Nat) (L:List Tk):Prop:=∀ t∈L,t.from_≤N
theorem Fr.tail {N:Nat} {L:List Tk} (h:Fr N L):Fr N L.tail:=fun t ht=>h t (List.mem_of_mem_tail ht)
theorem Fr.hd {N:Nat} {L:List Tk} (h:Fr N L):hdF L≤N:=by
 cases L with
 | nil=>exact Nat.zero_le _
 | cons t r=>exact h t (List.mem_cons_self ..)
def Bd {α:Type} (N:Nat) (r:Pr α):Prop:=(∀ c a,r=.bad c a→c≠0∧a≤N)∧∀ x L,r=.ok x L→Fr N L
section
variable {α β:Type} {N:Nat}
theorem Bd.ok {x:α} {L:List Tk} (h:Fr N L):Bd N (.ok x L):=⟨fun c a h=>(by cases h),fun y L' e=>by injection e with _ e;rw[← e];exact h⟩
theorem Bd.bad {c:Int} {a:Nat} (h:c≠0) (ha:a≤N):Bd N (.bad c a:Pr α):=⟨fun c' a' e=>by injection e with e e';rw[← e,← e'];exact⟨h,ha⟩,fun _ _ e=>by cases e⟩
theorem Bd.bind {r:Pr α} {f:α→List Tk→Pr β} (h:Bd N r) (hf:∀ x L,Fr N L→Bd N (f x L)):Bd N (r.bind f):=by
 cases r with
 | ok x L=>exact hf x L (h.2 x L rfl)
 | bad c a=>exact Bd.bad (h.1 c a rfl).1 (h.1 c a rfl).2
theorem Bd.fail {c:Int} {L:List Tk} (h:c≠0) (hL:Fr N L):Bd N (zC c L:Pr α):=Bd.bad h hL.hd
theorem Bd.must {s:T} {L:List Tk} (hL:Fr N L):Bd N (ze s L):=by
 unfold ze
 split
 ·exact Bd.ok hL.tail
 ·exact Bd.fail (by decide) hL
theorem Bd.opens {o:Nat} {L:List Tk} {f:List Tk→Pr α} (hL:Fr N L) (hf:∀ L,Fr N L→Bd N (f L)):Bd N (ji o L f):=by
 unfold ji
 split
 ·exact Bd.fail (by decide) hL
 ·exact hf _ hL.tail
end
structure Bds (N f:Nat):Prop where
 expr:∀ L o,Fr N L→Bd N (zn f L o)
 choice:∀ L o,Fr N L→Bd N (ja f L o)
 level:∀ n L o,Fr N L→Bd N (zL f n L o)
 rest:∀ n x L o,Fr N L→Bd N (jz f n x L o)
 second:∀ n L o,Fr N L→Bd N (z8 f n L o)
 pre:∀ L o,Fr N L→Bd N (zF f L o)
 atom:∀ L o,Fr N L→Bd N (jW f L o)
 operands:∀ L o,Fr N L→Bd N (zy f L o)
 more:∀ acc L o,Fr N L→Bd N (zU f acc L o)
 bracket:∀ L o,Fr N L→Bd N (zD f L o)
theorem bds_all (N f:Nat):Bds N f:=by
 induction f with
 | zero=>refine⟨?_,?_,?_,?_,?_,?_,?_,?_,?_,?_⟩ <;> intros <;> (first | unfold zn | unfold ja | unfold zL | unfold jz | unfold z8 | unfold zF | unfold jW | unfold zy | unfold zU | unfold zD) <;> (refine Bd.bad ?_ (Nat.zero_le _);decide)
 | succ f ih=>
  refine⟨?_,?_,?_,?_,?_,?_,?_,?_,?_,?_⟩ <;> intros <;> (first | unfold zn | unfold ja | unfold zL | unfold jz | unfold z8 | unfold zF | unfold jW | unfold zy | unfold zU | unfold zD) <;> repeat' (first | assumption | exact Fr.tail (by assumption) | refine Bd.ok ?_|(refine Bd.bad ?_ (Nat.zero_le _);decide)|(refine Bd.bad ?_ (Fr.hd (by assumption));decide)|(refine Bd.fail ?_ ?_;decide) | refine Bd.must ?_ | refine ih.expr _ _ ?_ | refine ih.choice _ _ ?_ | refine ih.level _ _ _ ?_ | refine ih.rest _ _ _ _ ?_ | refine ih.second _ _ _ ?_ | refine ih.pre _ _ ?_ | refine ih.atom _ _ ?_ | refine ih.operands _ _ ?_ | refine ih.more _ _ _ ?_ | refine ih.bracket _ _ ?_ | refine Bd.bind ?_ fun _ _ _=>?_ | refine Bd.opens ?_ fun _ _=>?_ | split)
section
variable {N:Nat}
theorem bd_nm {L:List Tk} (hL:Fr N L):Bd N (nmP L):=by
 unfold nmP
 repeat' (first | assumption | exact Fr.tail (by assumption) | refine Bd.ok ?_|(refine Bd.bad ?_ (Nat.zero_le _);decide)|(refine Bd.bad ?_ (Fr.hd (by assumption));decide)|(refine Bd.fail ?_ ?_;decide) | refine Bd.must ?_ | refine Bd.bind ?_ fun _ _ _=>?_ | split)
theorem kr (n:Nat) {L:List Tk} (hL:Fr N L):Bd N (zh n L):=by
 unfold zh
 repeat' (first | assumption | exact Fr.tail (by assumption) | refine Bd.ok ?_|(refine Bd.bad ?_ (Nat.zero_le _);decide)|(refine Bd.bad ?_ (Fr.hd (by assumption));decide)|(refine Bd.fail ?_ ?_;decide) | refine Bd.must ?_ | refine Bd.bind ?_ fun _ _ _=>?_ | split)
theorem Zv:∀ (f:Nat) (n:Nat) (acc:List T) (L:List Tk),Fr N L→Bd N (zW f n acc L):=by
 intro f
 induction f with
 | zero=>intros;refine Bd.bad ?_ (Nat.zero_le _);decide
 | succ f ih=>
  intros
  unfold zW
  repeat' (first | assumption | exact Fr.tail (by assumption) | refine Bd.ok ?_|(refine Bd.bad ?_ (Nat.zero_le _);decide)|(refine Bd.bad ?_ (Fr.hd (by assumption));decide)|(refine Bd.fail ?_ ?_;decide) | refine Bd.must ?_ | refine kr _ ?_ | refine ih _ _ _ ?_ | refine Bd.bind ?_ fun _ _ _=>?_ | split)
theorem kq (n:Nat) {L:List Tk} (hL:Fr N L):Bd N (jw n L):=by
 unfold jw
 repeat' (first | assumption | exact Fr.tail (by assumption) | refine Bd.ok ?_|(refine Bd.bad ?_ (Nat.zero_le _);decide)|(refine Bd.bad ?_ (Fr.hd (by assumption));decide)|(refine Bd.fail ?_ ?_;decide) | refine Bd.must ?_ | refine kr _ ?_ | refine Zv _ _ _ _ ?_ | refine Bd.bind ?_ fun _ _ _=>?_ | split)
theorem bd_type {L:List Tk} (hL:Fr N L):Bd N (jV L):=by
 unfold jV
 repeat' (first | assumption | exact Fr.tail (by assumption) | refine Bd.ok ?_|(refine Bd.bad ?_ (Nat.zero_le _);decide)|(refine Bd.bad ?_ (Fr.hd (by assumption));decide)|(refine Bd.fail ?_ ?_;decide) | refine Bd.must ?_ | refine Bd.bind ?_ fun _ _ _=>?_ | split)
theorem yh (n:Nat) {L:List Tk} (hL:Fr N L):Bd N (zq n L):=by
 unfold zq
 repeat' (first | assumption | exact Fr.tail (by assumption) | refine Bd.ok ?_|(refine Bd.bad ?_ (Nat.zero_le _);decide)|(refine Bd.bad ?_ (Fr.hd (by assumption));decide)|(refine Bd.fail ?_ ?_;decide) | refine Bd.must ?_ | refine kq _ ?_ | refine bd_type ?_ | refine Bd.bind ?_ fun _ _ _=>?_ | split)
theorem YH:∀ (f:Nat) (acc:List Vr) (L:List Tk),Fr N L→Bd N (jL f acc L):=by
 intro f
 induction f with
 | zero=>intros;refine Bd.bad ?_ (Nat.zero_le _);decide
 | succ f ih=>
  intros
  unfold jL
  repeat' (first | assumption | exact Fr.tail (by assumption) | refine Bd.ok ?_|(refine Bd.bad ?_ (Nat.zero_le _);decide)|(refine Bd.bad ?_ (Fr.hd (by assumption));decide)|(refine Bd.fail ?_ ?_;decide) | refine Bd.must ?_ | refine yh _ ?_ | refine ih _ _ ?_ | refine Bd.bind ?_ fun _ _ _=>?_ | split)
theorem JA {L:List Tk} (hL:Fr N L):Bd N (jF L):=by
 unfold jF
 repeat' (first | assumption | exact Fr.tail (by assumption) | refine Bd.ok ?_|(refine Bd.bad ?_ (Nat.zero_le _);decide)|(refine Bd.bad ?_ (Fr.hd (by assumption));decide)|(refine Bd.fail ?_ ?_;decide) | refine Bd.must ?_ | refine yh _ ?_ | refine YH _ _ _ ?_ | refine Bd.bind ?_ fun _ _ _=>?_ | split)
theorem Jc:∀ (f:Nat) (acc:List Vr) (L:List Tk),Fr N L→Bd N (zS f acc L):=by
 intro f
 induction f with
 | zero=>intros;refine Bd.bad ?_ (Nat.zero_le _);decide
 | succ f ih=>
  intros
  unfold zS
  repeat' (first | assumption | exact Fr.tail (by assumption) | refine Bd.ok ?_|(refine Bd.bad ?_ (Nat.zero_le _);decide)|(refine Bd.bad ?_ (Fr.hd (by assumption));decide)|(refine Bd.fail ?_ ?_;decide) | refine Bd.must ?_ | refine yh _ ?_ | refine ih _ _ ?_ | refine Bd.bind ?_ fun _ _ _=>?_ | split)
theorem Zw {L:List Tk} (hL:Fr N L):Bd N (vv L):=by
 unfold vv
 repeat' (first | assumption | exact Fr.tail (by assumption) | refine Bd.ok ?_|(refine Bd.bad ?_ (Nat.zero_le _);decide)|(refine Bd.bad ?_ (Fr.hd (by assumption));decide)|(refine Bd.fail ?_ ?_;decide) | refine Bd.must ?_ | refine yh _ ?_ | refine Jc _ _ _ ?_ | refine Bd.bind ?_ fun _ _ _=>?_ | split)
theorem bd_left {L:List Tk} (hL:Fr N L):Bd N (jA L):=by
 unfold jA
 repeat' (first | assumption | exact Fr.tail (by assumption) | refine Bd.ok ?_|(refine Bd.bad ?_ (Nat.zero_le _);decide)|(refine Bd.bad ?_ (Fr.hd (by assumption));decide)|(refine Bd.fail ?_ ?_;decide) | refine Bd.must ?_ | refine kq _ ?_ | refine bd_nm ?_ | refine Bd.bind ?_ fun _ _ _=>?_ | split)
theorem bd_eqn {L:List Tk} (hL:Fr N L):Bd N (eqnP L):=by
 unfold eqnP
 repeat' (first | assumption | exact Fr.tail (by assumption) | refine Bd.ok ?_|(refine Bd.bad ?_ (Nat.zero_le _);decide)|(refine Bd.bad ?_ (Fr.hd (by assumption));decide)|(refine Bd.fail ?_ ?_;decide) | refine Bd.must ?_ | refine bd_left ?_ | refine(bds_all N _).expr _ _ ?_ | refine Bd.bind ?_ fun _ _ _=>?_ | split)
theorem bd_eqsF:∀ (f:Nat) (acc:List Q) (L:List Tk),Fr N L→Bd N (eqsF f acc L):=by
 intro f
 induction f with
 | zero=>intros;refine Bd.bad ?_ (Nat.zero_le _);decide
 | succ f ih=>
  intros
  unfold eqsF
  repeat' (first | assumption | exact Fr.tail (by assumption) | refine Bd.ok ?_|(refine Bd.bad ?_ (Nat.zero_le _);decide)|(refine Bd.bad ?_ (Fr.hd (by assumption));decide)|(refine Bd.fail ?_ ?_;decide) | refine Bd.must ?_ | refine bd_eqn ?_ | refine ih _ _ ?_ | refine Bd.bind ?_ fun _ _ _=>?_ | split)
theorem bd_ins {L:List Tk} (hL:Fr N L):Bd N (insP L):=by
 unfold insP
 repeat' (first | assumption | exact Fr.tail (by assumption) | refine Bd.ok ?_|(refine Bd.bad ?_ (Nat.zero_le _);decide)|(refine Bd.bad ?_ (Fr.hd (by assumption));decide)|(refine Bd.fail ?_ ?_;decide) | refine Bd.must ?_ | refine JA ?_ | refine Bd.bind ?_ fun _ _ _=>?_ | split)
theorem bd_var {L:List Tk} (hL:Fr N L):Bd N (varP L):=by
 unfold varP
 repeat' (first | assumption | exact Fr.tail (by assumption) | refine Bd.ok ?_|(refine Bd.bad ?_ (Nat.zero_le _);decide)|(refine Bd.bad ?_ (Fr.hd (by assumption));decide)|(refine Bd.fail ?_ ?_;decide) | refine Bd.must ?_ | refine Zw ?_ | refine Bd.bind ?_ fun _ _ _=>?_ | split)
theorem YJ:∀ (ss:List T) (L:List Tk),Fr N L→Bd N (jd ss L):=by
 intro ss
 induction ss with
 | nil=>intro L h;exact Bd.ok h
 | cons s ss ih=>intro L h;exact Bd.bind (Bd.must h) fun _ _ h=>ih _ h
theorem bd_node {L:List Tk} (hL:Fr N L):Bd N (jO L):=by
 unfold jO
 repeat' (first | assumption | exact Fr.tail (by assumption) | refine Bd.ok ?_|(refine Bd.bad ?_ (Nat.zero_le _);decide)|(refine Bd.bad ?_ (Fr.hd (by assumption));decide)|(refine Bd.fail ?_ ?_;decide) | refine Bd.must ?_ | refine bd_nm ?_ | refine bd_ins ?_ | refine YJ _ _ ?_ | refine JA ?_ | refine bd_var ?_ | refine bd_eqsF _ _ _ ?_ | refine Bd.bind ?_ fun _ _ _=>?_ | split)
theorem YI:∀ (f:Nat) (acc:List Nd) (L:List Tk),Fr N L→Bd N (jx f acc L):=by
 intro f
 induction f with
 | zero=>intros;refine Bd.bad ?_ (Nat.zero_le _);decide
 | succ f ih=>
  intros
  unfold jx
  repeat' (first | assumption | exact Fr.tail (by assumption) | refine Bd.ok ?_|(refine Bd.bad ?_ (Nat.zero_le _);decide)|(refine Bd.bad ?_ (Fr.hd (by assumption));decide)|(refine Bd.fail ?_ ?_;decide) | refine Bd.must ?_ | refine bd_node ?_ | refine ih _ _ ?_ | refine Bd.bind ?_ fun _ _ _=>?_ | split)
theorem JY {f:Nat} {acc:List Nd} {L:List Tk} {c:Int} {a:Nat} (hL:Fr N L) (h:jx f acc L=.bad c a):c≠0∧a≤N:=(YI f acc L hL).1 c a h
end
end Go.Proofs.YtdabndiaflagpaaGreatDoor
