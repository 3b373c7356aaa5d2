/- Parts: Expr, Shape, Right, Vars, AllVT, Eqn. -/
import Derived.Test.YtdabndiaflagpaaGreatDoorK04
import Derived.Test.YtdabndiaflagpaaGreatDoorK05
import Derived.Test.YtdabndiaflagpaaGreatDoorK00
import Derived.Test.YtdabndiaflagpaaGreatDoorK02
set_option maxRecDepth 100000
set_option maxHeartbeats 4000000
namespace Go.Proofs.YtdabndiaflagpaaGreatDoor
open Go.RowKit Go.Shelf
attribute [local go_sem] Oper.semAt_some
theorem uv {B:Nat} {W W':World} (h:Below W.heap.size W W'):KeepsFrom B W W':=KeepsFrom.of_grownBy (zc h none) (fun j e=>by cases e)
theorem yH {β:Type} {B g:Nat} {t:TypeId} {cs:Array Value}:OwnFrom B (fun (_:β) W=>Row W g t cs):=fun _ W W' row hs hg hr=>by
 refine hs.grown hg (fun e=>?_)
 obtain⟨_,o,ho,hc⟩:=hr g e.symm
 unfold Row at hs
 rw[hs] at ho
 injection ho with ho
 subst ho
 simp[Obj.isCells] at hc
noncomputable def vq (x:X):Bool:=inB x.depth 200 && x.shape
theorem X.all_stop {xs ys:List X} (h:ys <+: xs) {y:X} (hy:y∈ys) (hf:fitB y=false):xs.all fitB=false:=by
 obtain⟨r,rfl⟩:=h
 rw[List.all_append,Bool.and_eq_false_iff]
 left
 rw[List.all_eq_false]
 exact⟨y,hy,by simp[hf]⟩
theorem Yv (b:Nat) (x:X) (A:Option Addr) (c:Nat) (w:World) (S:Nat→Prop) (hw:WM w b) (ht:zR w) (hok:x.ok) (hsz:x.size≤1099511627775) (hk:KS w S A x.ks) (hS:∀ b,S b→b<w.heap.size) :
  Calls Tryz.prog 69 #[.map (some b),ev x A c] w fun e w'=>e=.returned (.bool (vq x))∧Below w.heap.size w w':=by
 have hIn:∀ w2,Below w.heap.size w w2→Calls Tryz.prog 107 #[.agg #[.int .i64 x.k,.int .i64 x.o,.int .i64 x.n,.string ⟨x.s.toArray⟩,.slice A x.ks.length c],.int .i64 200] w2 fun e w'=>e=.returned (.bool (inB x.depth 200))∧Below w2.heap.size w2 w':=fun w2 hb2=>
  kv 200 200 x A c w2 S rfl (by omega) (Nat.le_trans (X.sizes_length x.ks) (by cases x;simp only[X.size,X.ks] at hsz ⊢;omega)) (fun y hy=>by
   obtain⟨i,hi⟩:=List.mem_iff_getElem?.1 hy
   have:=X.sizes_at hi
   cases x
   simp only[X.size,X.ks] at hsz this
   omega) (hk.later hS hb2) (fun b h=>Nat.lt_of_lt_of_le (hS b h) hb2.size)
 have HQ0:Hid (Row (((w.alloc (.cells #[.map (some b)] 123)).alloc (.cells #[.int .i64 x.k,.int .i64 x.o,.int .i64 x.n,.string ⟨x.s.toArray⟩,.slice A x.ks.length c] 46)).alloc (.cells #[.bool false] 4)) w.heap.size 123 #[.map (some b)]):=YV (((Row.made w 123 _).alloc _).alloc _)
 have HQ1:Hid (Row (((w.alloc (.cells #[.map (some b)] 123)).alloc (.cells #[.int .i64 x.k,.int .i64 x.o,.int .i64 x.n,.string ⟨x.s.toArray⟩,.slice A x.ks.length c] 46)).alloc (.cells #[.bool false] 4)) (w.heap.size+1) 46 #[.int .i64 x.k,.int .i64 x.o,.int .i64 x.n,.string ⟨x.s.toArray⟩,.slice A x.ks.length c]):=by have:=Row.made (w.alloc (.cells #[.map (some b)] 123)) 46 #[.int .i64 x.k,.int .i64 x.o,.int .i64 x.n,.string ⟨x.s.toArray⟩,.slice A x.ks.length c];rw[World.size_alloc] at this;exact YV (this.alloc _)
 have HQ2:Hid (Row (((w.alloc (.cells #[.map (some b)] 123)).alloc (.cells #[.int .i64 x.k,.int .i64 x.o,.int .i64 x.n,.string ⟨x.s.toArray⟩,.slice A x.ks.length c] 46)).alloc (.cells #[.bool false] 4)) (w.heap.size+2) 4 #[.bool false]):=by have:=Row.made ((w.alloc (.cells #[.map (some b)] 123)).alloc (.cells #[.int .i64 x.k,.int .i64 x.o,.int .i64 x.n,.string ⟨x.s.toArray⟩,.slice A x.ks.length c] 46)) 4 #[.bool false];rw[World.size_alloc,World.size_alloc] at this;exact YV this
 have HQB:Hid (Below w.heap.size w (((w.alloc (.cells #[.map (some b)] 123)).alloc (.cells #[.int .i64 x.k,.int .i64 x.o,.int .i64 x.n,.string ⟨x.s.toArray⟩,.slice A x.ks.length c] 46)).alloc (.cells #[.bool false] 4))):=YV ((((Below.refl _ _).alloc (Nat.le_refl _) _).alloc (by simp) _).alloc (by simp;omega) _)
 have HQS:Hid ((((w.alloc (.cells #[.map (some b)] 123)).alloc (.cells #[.int .i64 x.k,.int .i64 x.o,.int .i64 x.n,.string ⟨x.s.toArray⟩,.slice A x.ks.length c] 46)).alloc (.cells #[.bool false] 4)).heap.size=w.heap.size+3):=YV (by simp)
 simp only[ev]
 by_cases hd:inB x.depth 200=true
 ·have HR:Hid (vq x=x.shape):=YV (by simp[vq,hd])
  rw[hd] at hIn
  have HIN:=YV hIn
  have HK:=YV hk
  have HWM:=YV hw
  have HT:=YV ht
  clear hIn hd hw ht
  refine(callsIn_wide (n:=5)).1 ?_
  refine callsIn_of_wp_marks Tryz.func69 rfl trivial ?_ rfl
  simp only[Tryz.ntmps69,List.size_toArray,List.length_cons,List.length_nil,Nat.reduceAdd,Nat.reduceSub,Array.replicate_succ,Array.replicate_zero,List.push_toArray,List.append_toArray,List.nil_append,List.cons_append]
  gi_wp2_with (first
   |(refine⟨trivial,?_⟩;gi_at_call 107;refine(callsIn_wide.2 (HIN.out _ ((((Below.refl _ _).alloc (Nat.le_refl _) _).alloc (by simp) _).alloc (by simp;omega) _))).mono ?_;rintro e w1 ⟨rfl,hb1⟩;have HB1:=YV hb1;have r0:=HQ0.out.below hb1 HQ0.out.lt;have r1:=HQ1.out.below hb1 HQ1.out.lt;have r2:=HQ2.out.below hb1 HQ2.out.lt;have a0:=r0.cell 0;have c0:=r1.cell 0;have c1:=r1.cell 1;have c2:=r1.cell 2;have c3:=r1.cell 3;have c4:=r1.cell 4;have z0:=r2.cell 0;have z1:=r2.free 0;simp at a0 c0 c1 c2 c3 c4 z0;have H0:=YV r0;have H2:=YV r2;clear hb1 r0 r1 r2)
   |(refine⟨trivial,?_⟩;gi_at_call 108;refine(callsIn_wide.2 (YQ x A c _)).mono ?_;rintro e w2 ⟨rfl,rfl⟩))
  have hb1:Below w.heap.size w w1:=HQB.out.trans (HB1.out.mono (by have:=HQS.out;omega))
  have hz1:w.heap.size+3≤w1.heap.size:=by have:=HB1.out.size;rw[HQS.out] at this;exact this
  have hb3:Below w.heap.size w ((w1).alloc (.cells #[.int .i64 x.k,.int .i64 x.o,.int .i64 x.n,.string ⟨x.s.toArray⟩,.slice A x.ks.length c] 46)):=hb1.alloc (by omega) _
  have hz3:((w1).alloc (.cells #[.int .i64 x.k,.int .i64 x.o,.int .i64 x.n,.string ⟨x.s.toArray⟩,.slice A x.ks.length c] 46)).heap.size=w1.heap.size+1:=by simp
  have hr0:Row ((w1).alloc (.cells #[.int .i64 x.k,.int .i64 x.o,.int .i64 x.n,.string ⟨x.s.toArray⟩,.slice A x.ks.length c] 46)) w.heap.size 123 #[.map (some b)]:=H0.out.alloc _
  have hr2:Row ((w1).alloc (.cells #[.int .i64 x.k,.int .i64 x.o,.int .i64 x.n,.string ⟨x.s.toArray⟩,.slice A x.ks.length c] 46)) (w.heap.size+2) 4 #[.bool false]:=H2.out.alloc _
  have hp3:Row ((w1).alloc (.cells #[.int .i64 x.k,.int .i64 x.o,.int .i64 x.n,.string ⟨x.s.toArray⟩,.slice A x.ks.length c] 46)) w1.heap.size 46 #[.int .i64 x.k,.int .i64 x.o,.int .i64 x.n,.string ⟨x.s.toArray⟩,.slice A x.ks.length c]:=Row.made _ _ _
  clear a0 c0 c1 c2 c3 c4 z0 z1
  generalize (w1).alloc (.cells #[.int .i64 x.k,.int .i64 x.o,.int .i64 x.n,.string ⟨x.s.toArray⟩,.slice A x.ks.length c] 46)=W3 at hb3 hz3 hr0 hr2 hp3 ⊢
  refine wpIn_rangeFunc_ownH rfl (by omega) (gf:=136) (lb:=#[.pointer (some ⟨w1.heap.size,0,none⟩)]) rfl trivial (enters_of Tryz.func136 (by kernel_rfl) rfl)
   (kw w S (fun _=>False) w.heap.size 4 (fun b hb=>⟨hS b hb,fun h=>h⟩) (fun b hb=>hb.elim) ⟨A,c,x,HK.out,hok,hsz⟩ w1.heap.size W3 hsz (fun b hb=>hb3.block b (hS b hb)) (by omega) (fun b hb=>by have:=hS b hb;omega) hp3)
   (fun h k=>h.trans k) (kp_b (by omega)) (Below.refl _ _) (fun _=>rfl)
   (fun pre W=>((Row W w.heap.size 123 #[.map (some b)]∧Row W (w.heap.size+2) 4 #[.bool false])∧(∀ i∈pre,fitB i.x=true))∧Below w.heap.size w W)
   (fun j pre W=>(Row W (w.heap.size+2) 4 #[.bool false]∧(j=.ret∧∃ i∈pre,fitB i.x=false))∧Below w.heap.size w W)
   (OwnFrom.and (OwnFrom.and (OwnFrom.and yH yH) (fun _ _ _ _ hs _ _=>hs)) (ownFrom_below (Nat.le_refl _) (by omega)))
   (fun _=>OwnFrom.and (OwnFrom.and yH (fun _ _ _ _ hs _ _=>hs)) (ownFrom_below (Nat.le_refl _) (by omega)))
   ⟨⟨⟨hr0,hr2⟩,fun i hi=>by cases hi⟩,hb3⟩
   (fun i a' W=>∃ Bx,Row W Bx 46 #[.int .i64 i.x.k,.int .i64 i.x.o,.int .i64 i.x.n,.string ⟨i.x.s.toArray⟩,.slice i.A i.x.ks.length i.c]∧a'={ tmps:=#[.map (some b),.agg #[.int .i64 x.k,.int .i64 x.o,.int .i64 x.n,.string ⟨x.s.toArray⟩,.slice A x.ks.length c],.pointer (some ⟨w.heap.size,0,none⟩),.pointer (some ⟨w.heap.size+1,0,none⟩),.pointer (some ⟨w.heap.size+1+1,0,none⟩),.pointer (some ⟨Bx,0,none⟩),.agg #[.int .i64 x.k,.int .i64 x.o,.int .i64 x.n,.string ⟨x.s.toArray⟩,.slice A x.ks.length c],.bool true,.bool false,.agg #[.int .i64 x.k,.int .i64 x.o,.int .i64 x.n,.string ⟨x.s.toArray⟩,.slice A x.ks.length c],.func (.func 136) #[] #[.pointer (some ⟨w1.heap.size,0,none⟩)],Item.v i,undef,undef,undef,undef],defers:=[] })
   (fun i a' _ X Y row hs hg hr=>by obtain⟨Bx,h1,h2⟩:=hs;exact⟨Bx,yH (B:=W3.heap.size) () X Y row h1 hg hr,h2⟩)
   ?assign ?body ?done ?stop
  case assign=>
   rintro l pre i W K ⟨⟨⟨q0,q2⟩,hall⟩,hB⟩ hK
   simp only[Item.v,ev]
   gi_wp2
   exact hK _ _ (uv ((Below.refl _ _).alloc (Nat.le_refl _) _)) (KpW.of_later ((Below.refl _ _).alloc (Nat.le_refl _) _) hB.size) ⟨⟨⟨q0.alloc _,q2.alloc _⟩,hall⟩,hB.alloc hB.size _⟩ ⟨W.heap.size,Row.made _ _ _,rfl⟩
  case body=>
   rintro l pre i a' W hl ⟨r,hr⟩ ⟨⟨⟨q0,q2⟩,hall⟩,hB⟩ ⟨Bx,bX,rfl⟩ hlen
   have hC:Calls Tryz.prog 109 #[.map (some b),.agg #[.int .i64 i.x.k,.int .i64 i.x.o,.int .i64 i.x.n,.string ⟨i.x.s.toArray⟩,.slice i.A i.x.ks.length i.c]] W fun e w'=>e=.returned (.bool (fitB i.x))∧Below W.heap.size W w':=
    Ys b i.x i.A i.c W (WMk.later HWM.out hB) (HT.out.later hB) (X.ok_n i.ok) (X.ok_s i.ok) (X.ks_le (Nat.le_trans i.small (by omega)))
   have a0:=q0.cell 0
   have c0:=bX.cell 0
   have c1:=bX.cell 1
   have c2:=bX.cell 2
   have c3:=bX.cell 3
   have c4:=bX.cell 4
   simp at a0 c0 c1 c2 c3 c4
   have HA:=YV hall
   have HBB:=YV hB
   have Q0:=YV q0
   have Q2:=YV q2
   simp only[Item.v,ev]
   clear q0 q2 hall hB bX hlen hr hl
   by_cases he:fitB i.x=true
   ·rw[he] at hC
    have HC:=YV hC
    have HE:=YV he
    clear hC he
    gi_wp2_with (refine⟨trivial,?_⟩;gi_at_call 109;refine(CallsIn.inRound l (callsIn_wide.2 HC.out)).mono ?_;rintro e w2 ⟨rfl,hb2⟩;have HB2:=YV hb2;clear hb2)
    refine⟨uv HB2.out,KpW.of_later HB2.out HBB.out.size,⟨⟨Q0.out.below HB2.out Q0.out.lt,Q2.out.below HB2.out Q2.out.lt⟩,fun q hq=>?_⟩,HBB.out.trans (HB2.out.mono HBB.out.size)⟩
    rcases List.mem_append.1 hq with hq | hq
    ·exact HA.out q hq
    ·simp at hq;rw[hq];exact HE.out
   ·have he':fitB i.x=false:=by simpa using he
    rw[he'] at hC
    have HC:=YV hC
    have HE:=YV he'
    clear hC he he'
    gi_wp2_with (refine⟨trivial,?_⟩;gi_at_call 109;refine(CallsIn.inRound l (callsIn_wide.2 HC.out)).mono ?_;rintro e w2 ⟨rfl,hb2⟩;have HB2:=YV hb2;have q3:=Q2.out.below hb2 Q2.out.lt;have Q3:=YV q3;have z0:=q3.cell 0;have z1:=q3.free 0;simp at z0;clear hb2 q3)
    refine⟨(uv HB2.out).trans ((KeepsOthers.setCell _ _ _).from _),⟨?_,rfl,i,by simp,HE.out⟩,(HBB.out.trans (HB2.out.mono HBB.out.size)).setCell (p:=⟨w.heap.size+2,0,none⟩) (Nat.le_add_right _ _) _⟩
    have:=Q3.out.set 0 (.bool false)
    simpa using this
  case done=>
   rintro D ys W hD hys ⟨⟨⟨q0,q2⟩,hall⟩,hB⟩ hK
   have hR2:vq x=true:=by
    rw[HR.out,X.shape_walk,List.all_eq_true]
    intro y hy
    have:y∈ys.map (·.x):=by rw[hys];exact hy
    obtain⟨i,hi,rfl⟩:=List.mem_map.1 this
    exact hall i hi
   have z0:=q2.cell 0
   have z1:=q2.free 0
   simp at z0
   have HR2:=YV hR2
   have HBB:=YV hB
   have HD:=YV hD
   have Q2:=YV q2
   have HKD:=YV hK
   clear hR2 hB hD hall hys q0 q2 hK
   gi_wp2
   have hk2:=(KeepsOthers.setCell W ⟨w.heap.size+2,0,none⟩ (.bool true)).same D _ HKD.out rfl
   have zz:(W.setCell ⟨w.heap.size+2,0,none⟩ (.bool true)).cell? ⟨w.heap.size+2,0,none⟩=some (.bool true):=World.cell?_setCell_same' _ _ _ (by rw[z0];rfl)
   have zz2:=cell_kept zz (grownBy_putObj' _ D (.deferred none)) (fun r e=>by cases e;exact⟨_,hk2,rfl⟩)
   refine⟨by simp,.inl ⟨_,_,rfl,run_takeDeferred hk2,?_⟩⟩
   refine⟨.bool true,by simp[results,Tryz.results69,go_sem];rw[zz2],by rw[HR2.out],?_⟩
   exact(HBB.out.setCell (p:=⟨w.heap.size+2,0,none⟩) (Nat.le_add_right _ _) _).trans (belowK_b (w:=w) (Nat.le_refl _) _ D _ _ (by have:=HD.out;have:=HBB.out.size;omega) hk2 rfl rfl)
  case stop=>
   rintro D j pre W hD hsp ⟨⟨q2,rfl,i,hi,hf⟩,hB⟩ hK
   have hR2:vq x=false:=by
    rw[HR.out,X.shape_walk]
    exact X.all_stop hsp (List.mem_map_of_mem hi) hf
   have z0:=q2.cell 0
   simp at z0
   have HR2:=YV hR2
   have HBB:=YV hB
   have HD:=YV hD
   have HKD:=YV hK
   clear hR2 hB hD hsp q2 hK hi hf
   gi_wp2
   have zz2:=cell_kept z0 (grownBy_putObj' _ D (.deferred none)) (fun r e=>by cases e;exact⟨_,HKD.out,rfl⟩)
   refine⟨by simp,.inl ⟨_,_,rfl,run_takeDeferred HKD.out,?_⟩⟩
   refine⟨.bool false,by simp[results,Tryz.results69,go_sem];rw[zz2],by rw[HR2.out],?_⟩
   exact HBB.out.trans (belowK_b (w:=w) (Nat.le_refl _) _ D _ _ (by have:=HD.out;have:=HBB.out.size;omega) HKD.out rfl rfl)
 ·have hd':inB x.depth 200=false:=by simpa using hd
  have HR:Hid (vq x=false):=YV (by simp[vq,hd'])
  rw[hd'] at hIn
  have HIN:=YV hIn
  clear hIn hd hd' hw ht hk
  refine(callsIn_wide (n:=5)).1 ?_
  refine callsIn_of_wp_marks Tryz.func69 rfl trivial ?_ rfl
  simp only[Tryz.ntmps69,List.size_toArray,List.length_cons,List.length_nil,Nat.reduceAdd,Nat.reduceSub,Array.replicate_succ,Array.replicate_zero,List.push_toArray,List.append_toArray,List.nil_append,List.cons_append]
  gi_wp2_with (refine⟨trivial,?_⟩;gi_at_call 107;refine(callsIn_wide.2 (HIN.out _ ((((Below.refl _ _).alloc (Nat.le_refl _) _).alloc (by simp) _).alloc (by simp;omega) _))).mono ?_;rintro e w1 ⟨rfl,hb1⟩;have HB1:=YV hb1;have r0:=HQ0.out.below hb1 HQ0.out.lt;have r1:=HQ1.out.below hb1 HQ1.out.lt;have r2:=HQ2.out.below hb1 HQ2.out.lt;have a0:=r0.cell 0;have c0:=r1.cell 0;have c1:=r1.cell 1;have c2:=r1.cell 2;have c3:=r1.cell 3;have c4:=r1.cell 4;have z0:=r2.cell 0;have z1:=r2.free 0;simp at a0 c0 c1 c2 c3 c4 z0;have H0:=YV r0;have H2:=YV r2;clear hb1 r0 r1 r2)
  have zz:(w1.setCell ⟨w.heap.size+2,0,none⟩ (.bool false)).cell? ⟨w.heap.size+2,0,none⟩=some (.bool false):=World.cell?_setCell_same' _ _ _ (by rw[z0];rfl)
  refine⟨.bool false,by simp[results,Tryz.results69,go_sem];rw[zz],by rw[HR.out],?_⟩
  exact(HQB.out.trans (HB1.out.mono (by have:=HQS.out;omega))).setCell (p:=⟨w.heap.size+2,0,none⟩) (Nat.le_add_right _ _) _
end Go.Proofs.YtdabndiaflagpaaGreatDoor
namespace Go.Proofs.YtdabndiaflagpaaGreatDoor
open Go.RowKit
end Go.Proofs.YtdabndiaflagpaaGreatDoor
namespace Go.Proofs.YtdabndiaflagpaaGreatDoor
open Go.RowKit
attribute [local go_sem] Tame.Op Tame.upon
theorem zm {B:Nat} {W w2:World} (hL:Tame.Later W.drew w2) (h:B≤W.heap.size):Below B W w2:=((Below.refl B W).drew).trans (Below.mono hL h)
def WMV (v:Value) (w:World):Prop:=∃ b,v=.map (some b)∧WM w b
theorem WMV.later {v:Value} {w w':World} (h:WMV v w) (hl:Tame.Later w w'):WMV v w':=by
 obtain⟨b,hv,hm⟩:=h
 exact⟨b,hv,WMk.later hm hl⟩
end Go.Proofs.YtdabndiaflagpaaGreatDoor
namespace Go.Proofs.YtdabndiaflagpaaGreatDoor
open Go.RowKit
theorem q8 (b:Nat) (v:Vr) (w:World) (hv:okV v) (hw:WM w b):Calls Tryz.prog 90 #[.map (some b),.agg #[.string ⟨v.name.toArray⟩,.int .i64 v.type]] w fun e w'=>e=.returned (.bool (varB v))∧Below w.heap.size w w':=by
 have HR:Hid (Row (w.alloc (.cells #[.string ⟨v.name.toArray⟩,.int .i64 v.type] 128)) w.heap.size 128 #[.string ⟨v.name.toArray⟩,.int .i64 v.type]):=Row.made _ _ _
 have HA:Hid (Below w.heap.size w (w.alloc (.cells #[.string ⟨v.name.toArray⟩,.int .i64 v.type] 128))):=(Below.refl _ _).alloc (Nat.le_refl _) _
 have HC:Hid (Calls Tryz.prog 88 #[.map (some b),.string ⟨v.name.toArray⟩] (w.alloc (.cells #[.string ⟨v.name.toArray⟩,.int .i64 v.type] 128)) fun e w'=>e=.returned (.bool (zB v.name))∧Below (w.alloc (.cells #[.string ⟨v.name.toArray⟩,.int .i64 v.type] 128)).heap.size (w.alloc (.cells #[.string ⟨v.name.toArray⟩,.int .i64 v.type] 128)) w'):=vY b v.name _ hv (hw.later HA.out)
 clear hw
 by_cases hn:zB v.name=true
 ·by_cases h0:0≤v.type
  ·by_cases h1:v.type≤1
   ·have HO:Hid (varB v=true):=YV (by simp[varB,hn,typB,h0,h1])
    rw[hn] at HC
    clear hn
    go_enter Tryz.func90,Tryz.ntmps90
    go_wp2_with (go_at_call 88;refine HC.out.mono ?_;rintro e w1 ⟨rfl,hb1⟩;have HB1:=YV hb1;have c1:=(HR.out.below hb1 (by simp)).cell 1;simp at c1;clear hb1)
    go_ret
    exact⟨jq (by first | exact HO.out.symm|(rw[HO.out];simp;omega)),HA.out.trans (HB1.out.mono HA.out.size)⟩
   ·have HO:Hid (varB v=false):=YV (by simp[varB,hn,typB,h1])
    rw[hn] at HC
    clear hn
    go_enter Tryz.func90,Tryz.ntmps90
    go_wp2_with (go_at_call 88;refine HC.out.mono ?_;rintro e w1 ⟨rfl,hb1⟩;have HB1:=YV hb1;have c1:=(HR.out.below hb1 (by simp)).cell 1;simp at c1;clear hb1)
    go_ret
    exact⟨jq (by first | exact HO.out.symm|(rw[HO.out];simp;omega)),HA.out.trans (HB1.out.mono HA.out.size)⟩
  ·have HO:Hid (varB v=false):=YV (by simp[varB,hn,typB,h0])
   rw[hn] at HC
   clear hn
   go_enter Tryz.func90,Tryz.ntmps90
   go_wp2_with (go_at_call 88;refine HC.out.mono ?_;rintro e w1 ⟨rfl,hb1⟩;have HB1:=YV hb1;have c1:=(HR.out.below hb1 (by simp)).cell 1;simp at c1;clear hb1)
   go_ret
   exact⟨jq (by first | exact HO.out.symm|(rw[HO.out];simp;omega)),HA.out.trans (HB1.out.mono HA.out.size)⟩
 ·have hn':zB v.name=false:=by simpa using hn
  have HO:Hid (varB v=false):=YV (by simp[varB,hn'])
  rw[hn'] at HC
  clear hn hn'
  go_enter Tryz.func90,Tryz.ntmps90
  go_wp2_with (go_at_call 88;refine HC.out.mono ?_;rintro e w1 ⟨rfl,hb1⟩;have HB1:=YV hb1;have c1:=(HR.out.below hb1 (by simp)).cell 1;simp at c1;clear hb1)
  go_ret
  exact⟨jq (by first | exact HO.out.symm|(rw[HO.out];simp;omega)),HA.out.trans (HB1.out.mono HA.out.size)⟩
end Go.Proofs.YtdabndiaflagpaaGreatDoor
namespace Go.Proofs.YtdabndiaflagpaaGreatDoor
open Go.RowKit
theorem qz (bm:Nat) (l:List Vr) (A:Option Addr) (c:Nat) (w:World) (S:Nat→Prop) (hl:okVs l) (hm:WM w bm) (hA:VS w S A l) (hS:∀ b,S b→b<w.heap.size) :
  Calls Tryz.prog 89 #[.slice A l.length c,.func (.func 90) #[.map (some bm)] #[]] w fun e w'=>e=.returned (.bool (jH l))∧Below w.heap.size w w':=by
 have hlen:=hl.1
 have HL:=YV hl
 have HA:=YV hA
 have HM:=YV hm
 clear hl hA hm
 by_cases h1000:l.length≤1000
 ·go_enter Tryz.func89,Tryz.ntmps89
  go_wp2_with fail
  go_loopw [4,12] (fun r i wr=>r=.bool false∧∃ j:Nat,j≤l.length∧i=.int .i64 j∧(∀ (q:Nat) x,q<j→l[q]? = some x→varB x=true)∧Below w.heap.size w wr) (fun _ i _=>l.length - (intOf i).toNat)
  case atStart=>exact⟨rfl,0,by omega,rfl,fun q x h=>by omega,Below.refl _ _⟩
  case round=>
   obtain⟨rfl,j,hj,rfl,hs,hbw⟩:=hrel
   have HSM:=YV hs
   have HBW:=YV hbw
   have hws:=hbw.size
   clear hs
   by_cases hlt:j<l.length
   ·obtain⟨x,hx⟩:∃ x,l[j]? = some x:=⟨_,List.getElem?_eq_getElem hlt⟩
    obtain⟨b,off,rfl,d0,d1,hbl⟩:=HA.out.at' hS hbw hx
    have HX:=YV hx
    have HC:Hid (∀ w2,Below wr.heap.size wr w2→Calls Tryz.prog 90 #[.map (some bm),.agg #[.string ⟨x.name.toArray⟩,.int .i64 x.type]] w2 fun e w'=>e=.returned (.bool (varB x))∧Below w2.heap.size w2 w'):=fun w2 hb2=>by
     have hm:=HM.out
     exact q8 bm x w2 (HL.out.2 x (j7 hx)) ((hm.later hbw).later hb2)
    clear hx hbw
    by_cases hn:varB x=true
    ·have HV:=YV hn
     rw[hn] at HC
     clear hn
     go_wp2_with (go_at_call 90;refine(HC.out _ ((Below.refl _ _).alloc (Nat.le_refl _) _)).mono ?_;rintro e w1 ⟨rfl,hb1⟩;have HB1:=YV hb1;clear hb1)
     go_roundw
     case rel=>exact⟨rfl,j+1,by omega,by go_num,fun q u hq hu=>by
      by_cases e:q=j
      ·subst e;rw[HX.out] at hu;injection hu with hu;rw[← hu];exact HV.out
      ·exact HSM.out q u (by omega) hu,HBW.out.trans (((Below.refl _ _).alloc hws _).trans (HB1.out.mono (by simp;omega)))⟩
     case measure=>simp[intOf];omega
    ·have hn':varB x=false:=by simpa using hn
     have HV:Hid (jH l=false):=YV (by rw[jH,all_stop HX.out hn',Bool.false_and])
     rw[hn'] at HC
     clear hn hn'
     go_wp2_with (go_at_call 90;refine(HC.out _ ((Below.refl _ _).alloc (Nat.le_refl _) _)).mono ?_;rintro e w1 ⟨rfl,hb1⟩;have HB1:=YV hb1;clear hb1)
     go_ret
     exact⟨jq HV.out.symm,HBW.out.trans (((Below.refl _ _).alloc hws _).trans (HB1.out.mono (by simp;omega)))⟩
   ·have HE:Hid (jH l=true):=YV (by
     rw[jH,yO fun q x hx=>HSM.out q x (by
      rcases Nat.lt_or_ge q l.length with h' | h'
      ·omega
      ·rw[List.getElem?_eq_none h'] at hx;cases hx) hx]
     simp[fewB,h1000])
    clear hbw
    go_wp2_with fail
    go_ret
    exact⟨jq HE.out.symm,HBW.out⟩
 ·have HE:Hid (jH l=false):=YV (by rw[jH];simp[fewB];intro _;omega)
  go_enter Tryz.func89,Tryz.ntmps89
  go_wp2_with fail
  go_ret
  exact⟨jq HE.out.symm,Below.refl _ _⟩
theorem YM (bm:Nat) (l:List T) (A:Option Addr) (c:Nat) (w:World) (S:Nat→Prop) (hl:okTs l) (hm:WM w bm) (hA:TS w S A l) (hS:∀ b,S b→b<w.heap.size) :
  Calls Tryz.prog 119 #[.slice A l.length c,.func (.func 88) #[.map (some bm)] #[]] w fun e w'=>e=.returned (.bool (vk l))∧Below w.heap.size w w':=by
 have hlen:=hl.1
 have HL:=YV hl
 have HA:=YV hA
 have HM:=YV hm
 clear hl hA hm
 by_cases h1000:l.length≤1000
 ·go_enter Tryz.func119,Tryz.ntmps119
  go_wp2_with fail
  go_loopw [4,12] (fun r i wr=>r=.bool false∧∃ j:Nat,j≤l.length∧i=.int .i64 j∧(∀ (q:Nat) x,q<j→l[q]? = some x→zB x=true)∧Below w.heap.size w wr) (fun _ i _=>l.length - (intOf i).toNat)
  case atStart=>exact⟨rfl,0,by omega,rfl,fun q x h=>by omega,Below.refl _ _⟩
  case round=>
   obtain⟨rfl,j,hj,rfl,hs,hbw⟩:=hrel
   have HSM:=YV hs
   have HBW:=YV hbw
   have hws:=hbw.size
   clear hs
   by_cases hlt:j<l.length
   ·obtain⟨x,hx⟩:∃ x,l[j]? = some x:=⟨_,List.getElem?_eq_getElem hlt⟩
    obtain⟨b,off,rfl,d0,hbl⟩:=HA.out.at' hS hbw hx
    have HX:=YV hx
    have HC:Hid (∀ w2,Below wr.heap.size wr w2→Calls Tryz.prog 88 #[.map (some bm),.string ⟨x.toArray⟩] w2 fun e w'=>e=.returned (.bool (zB x))∧Below w2.heap.size w2 w'):=fun w2 hb2=>by
     have hm:=HM.out
     exact vY bm x w2 (HL.out.2 x (j7 hx)) ((hm.later hbw).later hb2)
    clear hx hbw
    by_cases hn:zB x=true
    ·have HV:=YV hn
     rw[hn] at HC
     clear hn
     go_wp2_with (go_at_call 88;refine(HC.out _ (Below.refl _ _)).mono ?_;rintro e w1 ⟨rfl,hb1⟩;have HB1:=YV hb1;clear hb1)
     go_roundw
     case rel=>exact⟨rfl,j+1,by omega,by go_num,fun q u hq hu=>by
      by_cases e:q=j
      ·subst e;rw[HX.out] at hu;injection hu with hu;rw[← hu];exact HV.out
      ·exact HSM.out q u (by omega) hu,HBW.out.trans (HB1.out.mono hws)⟩
     case measure=>simp[intOf];omega
    ·have hn':zB x=false:=by simpa using hn
     have HV:Hid (vk l=false):=YV (by rw[vk,all_stop HX.out hn',Bool.false_and])
     rw[hn'] at HC
     clear hn hn'
     go_wp2_with (go_at_call 88;refine(HC.out _ (Below.refl _ _)).mono ?_;rintro e w1 ⟨rfl,hb1⟩;have HB1:=YV hb1;clear hb1)
     go_ret
     exact⟨jq HV.out.symm,HBW.out.trans (HB1.out.mono hws)⟩
   ·have HE:Hid (vk l=true):=YV (by
     rw[vk,yO fun q x hx=>HSM.out q x (by
      rcases Nat.lt_or_ge q l.length with h' | h'
      ·omega
      ·rw[List.getElem?_eq_none h'] at hx;cases hx) hx]
     simp[fewB,h1000])
    clear hbw
    go_wp2_with fail
    go_ret
    exact⟨jq HE.out.symm,HBW.out⟩
 ·have HE:Hid (vk l=false):=YV (by rw[vk];simp[fewB];intro _;omega)
  go_enter Tryz.func119,Tryz.ntmps119
  go_wp2_with fail
  go_ret
  exact⟨jq HE.out.symm,Below.refl _ _⟩
end Go.Proofs.YtdabndiaflagpaaGreatDoor
namespace Go.Proofs.YtdabndiaflagpaaGreatDoor
open Go.RowKit
noncomputable def eqB (q:Q):Bool:=ur q.lhs.length && vk q.lhs && vq q.rhs
noncomputable def eqsB (l:List Q):Bool:=l.all eqB && fewB l.length
theorem xx (b:Nat) (q:Q) (A1 A2:Option Addr) (c1 c2:Nat) (w:World) (S:Nat→Prop) (hq:okQ q) (hw:WM w b) (ht:zR w) (h1:TS w S A1 q.lhs) (h2:KS w S A2 q.rhs.ks) (hS:∀ b,S b→b<w.heap.size) :
  Calls Tryz.prog 92 #[.map (some b),.agg #[.slice A1 q.lhs.length c1,.int .i64 q.rhs.k,.int .i64 q.rhs.o,.int .i64 q.rhs.n,.string ⟨q.rhs.s.toArray⟩,.slice A2 q.rhs.ks.length c2]] w fun e w'=>e=.returned (.bool (eqB q))∧Below w.heap.size w w':=by
 have HR:Hid (Row (w.alloc (.cells #[.slice A1 q.lhs.length c1,.int .i64 q.rhs.k,.int .i64 q.rhs.o,.int .i64 q.rhs.n,.string ⟨q.rhs.s.toArray⟩,.slice A2 q.rhs.ks.length c2] 48)) w.heap.size 48 #[.slice A1 q.lhs.length c1,.int .i64 q.rhs.k,.int .i64 q.rhs.o,.int .i64 q.rhs.n,.string ⟨q.rhs.s.toArray⟩,.slice A2 q.rhs.ks.length c2]):=Row.made _ _ _
 have HA:Hid (Below w.heap.size w (w.alloc (.cells #[.slice A1 q.lhs.length c1,.int .i64 q.rhs.k,.int .i64 q.rhs.o,.int .i64 q.rhs.n,.string ⟨q.rhs.s.toArray⟩,.slice A2 q.rhs.ks.length c2] 48))):=(Below.refl _ _).alloc (Nat.le_refl _) _
 have hlen:=hq.1.1
 have HC1:Hid (Calls Tryz.prog 119 #[.slice A1 q.lhs.length c1,.func (.func 88) #[.map (some b)] #[]] (w.alloc (.cells #[.slice A1 q.lhs.length c1,.int .i64 q.rhs.k,.int .i64 q.rhs.o,.int .i64 q.rhs.n,.string ⟨q.rhs.s.toArray⟩,.slice A2 q.rhs.ks.length c2] 48)) fun e w'=>e=.returned (.bool (vk q.lhs))∧Below (w.alloc (.cells #[.slice A1 q.lhs.length c1,.int .i64 q.rhs.k,.int .i64 q.rhs.o,.int .i64 q.rhs.n,.string ⟨q.rhs.s.toArray⟩,.slice A2 q.rhs.ks.length c2] 48)).heap.size (w.alloc (.cells #[.slice A1 q.lhs.length c1,.int .i64 q.rhs.k,.int .i64 q.rhs.o,.int .i64 q.rhs.n,.string ⟨q.rhs.s.toArray⟩,.slice A2 q.rhs.ks.length c2] 48)) w'):=YM b q.lhs A1 c1 _ S hq.1 (hw.later HA.out) (h1.move (stay hS HA.out)) (jI hS HA.out)
 have HC2:Hid (∀ w2,Below w.heap.size w w2→Calls Tryz.prog 69 #[.map (some b),.agg #[.int .i64 q.rhs.k,.int .i64 q.rhs.o,.int .i64 q.rhs.n,.string ⟨q.rhs.s.toArray⟩,.slice A2 q.rhs.ks.length c2]] w2 fun e w'=>e=.returned (.bool (vq q.rhs))∧Below w2.heap.size w2 w'):=fun w2 hb2=>Yv b q.rhs A2 c2 w2 S (hw.later hb2) (ht.later hb2) hq.2.1 hq.2.2 (h2.later hS hb2) (jI hS hb2)
 clear hw ht h1 h2 hq
 by_cases hs:0<q.lhs.length
 ·have hsi:(q.lhs.length:Int) > 0:=by omega
  by_cases hn:vk q.lhs=true
  ·have HO:Hid (eqB q=vq q.rhs):=YV (by simp[eqB,hn,ur,hs])
   rw[hn] at HC1
   clear hn hs
   go_enter Tryz.func92,Tryz.ntmps92
   go_wp2_with (first|(go_at_call 119;refine HC1.out.mono ?_;rintro e w1 ⟨rfl,hb1⟩;have HB1:=YV hb1;have HD:=YV (HA.out.trans (hb1.mono HA.out.size));have HR1:=(HR.out.below hb1 (by simp)).cell;have e1:=HR1 1;have e2:=HR1 2;have e3:=HR1 3;have e4:=HR1 4;have e5:=HR1 5;simp at e1 e2 e3 e4 e5;clear hb1 HR1)|(go_at_call 69;refine(HC2.out _ HD.out).mono ?_;rintro e w2 ⟨rfl,hb2⟩;have HB2:=YV hb2;clear hb2))
   go_ret
   exact⟨jq HO.out.symm,HD.out.trans (HB2.out.mono HD.out.size)⟩
  ·have hn':vk q.lhs=false:=by simpa using hn
   have HO:Hid (eqB q=false):=YV (by simp[eqB,hn'])
   rw[hn'] at HC1
   clear hn hn' hs
   go_enter Tryz.func92,Tryz.ntmps92
   go_wp2_with (first|(go_at_call 119;refine HC1.out.mono ?_;rintro e w1 ⟨rfl,hb1⟩;have HB1:=YV hb1;have HD:=YV (HA.out.trans (hb1.mono HA.out.size));have HR1:=(HR.out.below hb1 (by simp)).cell;have e1:=HR1 1;have e2:=HR1 2;have e3:=HR1 3;have e4:=HR1 4;have e5:=HR1 5;simp at e1 e2 e3 e4 e5;clear hb1 HR1)|(go_at_call 69;refine(HC2.out _ HD.out).mono ?_;rintro e w2 ⟨rfl,hb2⟩;have HB2:=YV hb2;clear hb2))
   go_ret
   exact⟨jq HO.out.symm,HD.out⟩
 ·have hsi:¬ (q.lhs.length:Int) > 0:=by omega
  have HO:Hid (eqB q=false):=YV (by simp[eqB,ur];omega)
  clear hs
  go_enter Tryz.func92,Tryz.ntmps92
  go_wp2_with fail
  go_ret
  exact⟨jq HO.out.symm,HA.out⟩
theorem YN (bm:Nat) (l:List Q) (A:Option Addr) (c:Nat) (w:World) (S:Nat→Prop) (hl:okQs l) (hm:WM w bm) (htb:zR w) (hA:QS w S A l) (hS:∀ b,S b→b<w.heap.size) :
  Calls Tryz.prog 91 #[.slice A l.length c,.func (.func 92) #[.map (some bm)] #[]] w fun e w'=>e=.returned (.bool (eqsB l))∧Below w.heap.size w w':=by
 have hlen:=hl.1
 have HL:=YV hl
 have HA:=YV hA
 have HM:=YV hm
 have HTB:=YV htb
 clear htb
 clear hl hA hm
 by_cases h1000:l.length≤1000
 ·go_enter Tryz.func91,Tryz.ntmps91
  go_wp2_with fail
  go_loopw [4,12] (fun r i wr=>r=.bool false∧∃ j:Nat,j≤l.length∧i=.int .i64 j∧(∀ (q:Nat) x,q<j→l[q]? = some x→eqB x=true)∧Below w.heap.size w wr) (fun _ i _=>l.length - (intOf i).toNat)
  case atStart=>exact⟨rfl,0,by omega,rfl,fun q x h=>by omega,Below.refl _ _⟩
  case round=>
   obtain⟨rfl,j,hj,rfl,hs,hbw⟩:=hrel
   have HSM:=YV hs
   have HBW:=YV hbw
   have hws:=hbw.size
   clear hs
   by_cases hlt:j<l.length
   ·obtain⟨x,hx⟩:∃ x,l[j]? = some x:=⟨_,List.getElem?_eq_getElem hlt⟩
    obtain⟨b,off,A1,c1,A2,c2,rfl,d0,d1,d2,d3,d4,d5,ht1,hk2,hbl⟩:=HA.out.at' hS hbw hx
    have HX:=YV hx
    have HC:Hid (∀ w2,Below wr.heap.size wr w2→Calls Tryz.prog 92 #[.map (some bm),.agg #[.slice A1 x.lhs.length c1,.int .i64 x.rhs.k,.int .i64 x.rhs.o,.int .i64 x.rhs.n,.string ⟨x.rhs.s.toArray⟩,.slice A2 x.rhs.ks.length c2]] w2 fun e w'=>e=.returned (.bool (eqB x))∧Below w2.heap.size w2 w'):=fun w2 hb2=>by
     have hm:=HM.out
     exact xx bm x A1 A2 c1 c2 w2 S (HL.out.2 x (j7 hx)) ((hm.later hbw).later hb2) ((HTB.out.later hbw).later hb2) (ht1.move (stay (fun q hq=>Nat.lt_of_lt_of_le (hS q hq) hws) hb2)) (hk2.later (fun q hq=>Nat.lt_of_lt_of_le (hS q hq) hws) hb2) (fun q hq=>Nat.lt_of_lt_of_le (hS q hq) (Nat.le_trans hws hb2.size))
    clear hx hbw ht1 hk2
    by_cases hn:eqB x=true
    ·have HV:=YV hn
     rw[hn] at HC
     clear hn
     go_wp2_with (go_at_call 92;refine(HC.out _ ((Below.refl _ _).alloc (Nat.le_refl _) _)).mono ?_;rintro e w1 ⟨rfl,hb1⟩;have HB1:=YV hb1;clear hb1)
     go_roundw
     case rel=>exact⟨rfl,j+1,by omega,by go_num,fun q u hq hu=>by
      by_cases e:q=j
      ·subst e;rw[HX.out] at hu;injection hu with hu;rw[← hu];exact HV.out
      ·exact HSM.out q u (by omega) hu,HBW.out.trans (((Below.refl _ _).alloc hws _).trans (HB1.out.mono (by simp;omega)))⟩
     case measure=>simp[intOf];omega
    ·have hn':eqB x=false:=by simpa using hn
     have HV:Hid (eqsB l=false):=YV (by rw[eqsB,all_stop HX.out hn',Bool.false_and])
     rw[hn'] at HC
     clear hn hn'
     go_wp2_with (go_at_call 92;refine(HC.out _ ((Below.refl _ _).alloc (Nat.le_refl _) _)).mono ?_;rintro e w1 ⟨rfl,hb1⟩;have HB1:=YV hb1;clear hb1)
     go_ret
     exact⟨jq HV.out.symm,HBW.out.trans (((Below.refl _ _).alloc hws _).trans (HB1.out.mono (by simp;omega)))⟩
   ·have HE:Hid (eqsB l=true):=YV (by
     rw[eqsB,yO fun q x hx=>HSM.out q x (by
      rcases Nat.lt_or_ge q l.length with h' | h'
      ·omega
      ·rw[List.getElem?_eq_none h'] at hx;cases hx) hx]
     simp[fewB,h1000])
    clear hbw
    go_wp2_with fail
    go_ret
    exact⟨jq HE.out.symm,HBW.out⟩
 ·have HE:Hid (eqsB l=false):=YV (by rw[eqsB];simp[fewB];intro _;omega)
  go_enter Tryz.func91,Tryz.ntmps91
  go_wp2_with fail
  go_ret
  exact⟨jq HE.out.symm,Below.refl _ _⟩
end Go.Proofs.YtdabndiaflagpaaGreatDoor
