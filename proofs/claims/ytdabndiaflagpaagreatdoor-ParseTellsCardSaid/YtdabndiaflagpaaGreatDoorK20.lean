/- Parts: LxL, LxR1, LxR2, LxR3, LxR4, LxR5, LxBk. -/
import Derived.Test.YtdabndiaflagpaaGreatDoorK19
import Derived.Test.YtdabndiaflagpaaGreatDoorK07
import Derived.WalkMore
import Derived.Deep.LoopGhost
import Derived.Test.YtdabndiaflagpaaGreatDoorK18
import Derived.Test.YtdabndiaflagpaaGreatDoorK01
set_option maxRecDepth 100000
set_option maxHeartbeats 4000000
namespace Go.Proofs.YtdabndiaflagpaaGreatDoor
open Go.RowKit
attribute [local go_sem] Tame.Op Tame.upon
theorem uc (w:World) (P:Nat) (u v:Value):w.grownBy ((w.setCell ⟨P,0,none⟩ u).setCell ⟨P,1,none⟩ v) (some P):=zf (zf (zd w P) 0 u) 1 v
theorem kz {p B j:Nat} {r:Option Nat} {w w':World} (hp:p<B) (h:w.grownBy w' (if j=10 then r else some p)) (b:Nat) (hb:Sb B r w b):Sb B r w' b∧w'.heap[b]? = w.heap[b]?:=
 ⟨⟨hb.1,Nat.lt_of_lt_of_le hb.2.1 h.size,hb.2.2⟩,h.block b hb.2.1 (by
  split
  ·exact hb.2.2
  ·intro e;injection e with e;have:=hb.1;omega)⟩
def LexPost (s:T) (w0:World) (e:Ending) (w':World):Prop:=
 (∃ (ts:List Tk) (V:Value) (B:Nat),lexA s 0 []=(ts,0,0)∧e=.returned (.tuple #[V,.agg #[.int .i64 0,.int .i64 0],.int .i64 0])∧w0.heap.size≤B∧OwnG (RTk s) 141 5 w' B (Sb B V.ownBlock w') V ts∧Below w0.heap.size w0 w')∨
 (∃ (a:Nat) (code:Int),lexA s 0 []=([],a,code)∧(code=2∨code=4)∧e=.returned (.tuple #[.slice none 0 0,.agg #[.int .i64 (plAt s a).1,.int .i64 (plAt s a).2],.int .i64 code])∧Below w0.heap.size w0 w')
def uj (s:T) (w:World) (P B b:Nat) (p:Int×Int) (mb:Nat) (tv:Value) (acc:List Tk):List Tame.Ghost:=
 [⟨Two w P tv.ownBlock,[10,13]⟩,⟨fun w2=>TxR w2 b [] p tv (.map (some mb)),[10,13]⟩,⟨AppT s B acc tv,[13]⟩,⟨fun w2=>Row w2 P 58 #[.int .i64 0,.int .i64 0],[10]⟩]
theorem kU {s:T} {w:World} {P B b:Nat} {p:Int×Int} {mb:Nat} {tv:Value} {acc:List Tk} (h1:TxR w b [] p tv (.map (some mb))) (hbB:b<B) (hPb:P<b) (h2:AppT s B acc tv w) (h3:Row w P 58 #[.int .i64 0,.int .i64 0]) :
  ∀ (i:Nat) (g:Tame.Ghost),(uj s w P B b p mb tv acc)[i]? = some g→g.g w.drew∧(∀ w w',Tame.Later w w'→g.g w→g.g w')∧
   ∀ j,[10,13].contains j=true→g.keeps.contains j=true→∀ w w',w.grownBy w' (if j=10 then tv.ownBlock else some P)→g.g w→g.g w':=by
 intro i g hi
 rcases i with _ | _ | _ | _ | i
 ·obtain rfl:(⟨Two w P tv.ownBlock,[10,13]⟩:Tame.Ghost)=g:=by simpa [uj] using hi
  refine⟨(Two.refl _ _ _).later ((Below.refl _ _).drew),fun a c hl h=>h.later hl,fun j _ _ a c hs h=>h.turn hs ?_⟩
  split
  ·exact .inl rfl
  ·exact .inr rfl
 ·obtain rfl:(⟨fun w2=>TxR w2 b [] p tv (.map (some mb)),[10,13]⟩:Tame.Ghost)=g:=by simpa [uj] using hi
  refine⟨Row.drew h1,fun a c hl h=>Row.below h hl (Row.lt h),fun j _ hj a c hs h=>?_⟩
  refine Row.grown h hs ?_
  split
  ·intro e;have:=(OwnG.lt h2 b e.symm).1;omega
  ·intro e;injection e with e;omega
 ·obtain rfl:(⟨AppT s B acc tv,[13]⟩:Tame.Ghost)=g:=by simpa [uj] using hi
  refine⟨OwnG.later (jy s) h2 ((Below.refl _ _).drew),fun a c hl h=>OwnG.later (jy s) h hl,fun j _ hj a c hs h=>?_⟩
  have:=zZ hj
  subst this
  exact OwnG.far (jy s) (p:=P) h (by omega) hs
 ·obtain rfl:(⟨fun w2=>Row w2 P 58 #[.int .i64 0,.int .i64 0],[10]⟩:Tame.Ghost)=g:=by simpa [uj] using hi
  refine⟨Row.drew h3,fun a c hl h=>Row.below h hl (Row.lt h),fun j _ hj a c hs h=>?_⟩
  have:=zZ hj
  subst this
  exact Row.grown h hs (by simp only[if_true];intro e;have:=(OwnG.lt h2 P e.symm).1;omega)
 ·simp[uj] at hi
theorem Js (s:T) (w:World) (hs:s.length≤1000000) (he:je w):Calls Tryz.prog 31 #[.string ⟨s.toArray⟩] w (LexPost s w):=by
 obtain⟨i0,hi0,hz0,hz1,hz2⟩:=info_parts xJ
 obtain⟨w0,hw0⟩:∃ w0,w0=w.alloc (.cells #[.int .i64 0,.int .i64 0] 58):=⟨_,rfl⟩
 obtain⟨P,hP⟩:∃ P,P=w.heap.size:=⟨_,rfl⟩
 have hz:w0.heap.size=P+1:=by rw[hw0,hP];simp
 have hbz:Below w.heap.size w w0:=by rw[hw0];exact(Below.refl _ _).alloc (Nat.le_refl _) _
 have HP:Hid (P=w.heap.size):=YV hP
 have HBZ:=YV hbz
 have HRP:Hid (Row w0 P 58 #[.int .i64 0,.int .i64 0]):=YV (by rw[hw0,hP];exact Row.made _ _ _)
 have HE0:Hid (je w0):=YV (he.later hbz)
 obtain⟨b,hb⟩:∃ b,b=w0.heap.size+1:=⟨_,rfl⟩
 obtain⟨mb,hmb⟩:∃ mb,mb=w0.heap.size:=⟨_,rfl⟩
 have HBG:Hid (Calls Tryz.prog 59 #[.string ⟨s.toArray⟩] w0 fun e w'=>e=.returned (.pointer (some ⟨b,0,none⟩))∧YU s w0 w' b mb):=YV (by rw[hb,hmb];exact Zu s w0 hs HE0.out)
 have hPb:P<mb:=by omega
 have hmbb:mb<b:=by omega
 have hmz:w0.heap.size=mb:=by omega
 clear he hbz hb hmb hz
 go_enter Tryz.func31,Tryz.ntmps31
 go_wp2_with fail
 rw[← hw0,← hP]
 clear hw0 hP
 go_wp2_with (go_at_call 59;refine HBG.out.mono ?_;rintro e w1 ⟨rfl,hf⟩;have HF:=YV hf;clear hf HBG)
 have hall:=all_any s w0 w1 b mb HF.out
 by_cases hq:(lexA s 0 []).2.2=0
 ·have HAL:Hid (Calls Tryz.prog 60 #[.pointer (some ⟨b,0,none⟩)] w1 fun e w2=>e=.returned (.int .i64 0)∧∃ (acc:List Tk) (a:Nat) (tv:Value) (mc:Nat) (W1:World) (B:Nat),lexA s 0 []=(acc++[⟨0,[],0,a⟩],0,0)∧LxAt s w0 W1 B w2 b mb mc tv [] a acc):=YV (hall.mono fun e w2 hh=>by
   rcases hh with ⟨acc,a,tv,mc,W1,B,hR,rfl,ha⟩ | ⟨a,code,tv,mc,l,acc,W1,B,hR,hcode,rfl,ha⟩
   ·exact⟨rfl,acc,a,tv,mc,W1,B,hR,ha⟩
   ·rw[hR] at hq;simp only at hq;omega)
  clear hall hq
  go_wp2_with (go_at_call 60;refine HAL.out.mono ?_;rintro e w2 ⟨rfl,acc,a,tv,mc,W1,B,hR,ha⟩;have HA:=YV ha;have HR:=YV hR;clear ha hR HAL)
  obtain⟨t,ht⟩:∃ t:Tk,t=⟨0,[],0,a⟩:=⟨_,rfl⟩
  have h:=HA.out
  have hpb:=uS s a h.short_
  obtain⟨z1,hz1e⟩:∃ z,z=(plAt s a).1:=⟨_,rfl⟩
  obtain⟨z2,hz2e⟩:∃ z,z=(plAt s a).2:=⟨_,rfl⟩
  obtain⟨cs,hcs⟩:∃ cs:Array Value,#[.int .i64 0,.string ⟨#[]⟩,.int .i64 0,.int .i64 z1,.int .i64 z2]=cs:=⟨_,rfl⟩
  have HCS:Hid (#[.int .i64 0,.string ⟨#[]⟩,.int .i64 0,.int .i64 z1,.int .i64 z2]=cs):=hcs
  have HCT:Hid (cs=(tkC s t).toArray):=YV (by rw[← hcs,ht];simp[tkC,hz1e,hz2e])
  have HPE:Hid (plAt s a=(z1,z2)):=YV (by rw[hz1e,hz2e])
  have HROW:Hid (TxR w2 b [] (z1,z2) tv (.map (some mb))):=by have:=h.row_;rw[HPE.out] at this;exact this
  have HOWN:Hid (AppT s B acc tv w2):=h.own_
  have HV:Hid (∀ q,tv.ownBlock=some q→B≤q∧q<w2.heap.size):=OwnG.lt h.own_
  have hbw:b<w2.heap.size:=Row.lt h.row_
  have hbB:=h.base_
  have hBw:=h.room_
  have hfew:acc.length≤1000000:=by have:=h.few_;have:=h.le_;have:=h.short_;omega
  have HR3:Hid (Row w2 P 58 #[.int .i64 0,.int .i64 0]):=YV (Row.below HRP.out h.below_ (by omega))
  have HT:=YV ht
  clear hcs h ht hz1e hz2e hpb
  refine Tame.wp_region_tamg (L:=Tame.Later) (M:=fun j a c=>a.grownBy c (if j=10 then tv.ownBlock else some P)) (gs:=uj s w2 P B b (z1,z2) mb tv acc) [10,13] (by kernel_rfl) (by kernel_rfl) Tame.Later.refl (fun _ w=>World.grownBy.refl w _) (kU HROW.out hbB (by omega) HOWN.out HR3.out) ?_
  repeat
   ((first
    |(refine Tame.walk3_known (o:=⟨some 21,_,_,_,_,_⟩) (by kernel_rfl) (fun _=>rfl) ?_;apply Exists.intro;refine⟨fun vals w3 hG hd=>?_,?_⟩;(focus(have hr1:=(hG 1 _ rfl (by kernel_rfl):TxR w3 b [] (z1,z2) tv (.map (some mb)));have hv:=(show Row w3 b 139 _ from hr1).cell 3;clear hG hd hr1;simp at hv;go_simp;exact Tame.Is.mk (Tame.Later.refl _))))
    |(refine Tame.walk3_known (o:=⟨some 25,_,_,_,_,_⟩) (by kernel_rfl) (fun _=>rfl) ?_;apply Exists.intro;refine⟨fun vals w3 hG hd=>?_,?_⟩;(focus(have hr1:=(hG 1 _ rfl (by kernel_rfl):TxR w3 b [] (z1,z2) tv (.map (some mb)));have hv:=(show Row w3 b 139 _ from hr1).cell 1;have hv2:=(show Row w3 b 139 _ from hr1).cell 2;clear hG hd hr1;simp at hv hv2;go_simp;exact Tame.Is.mk (Tame.Later.refl _))))
    |(refine Tame.walk3_some (o:=⟨some 27,_,_,_,_,_⟩) (uA B tv cs) (none) ([10,13]) (by kernel_rfl) (fun _=>rfl) (by kernel_rfl) (fun u a c hl h=>uA.move h (zV hl)) (fun i _ _ u a c hs h=>uA.move h (kz (by omega) hs)) (fun vals w3 hG hd=>?_) ?_;(focus(have hg3:=(hG 0 _ rfl (by kernel_rfl):Two w2 P tv.ownBlock w3);have hzr:=hg3.size;clear hG hd hg3;go_simp;exact Tame.Has.mk ((Below.refl _ _).alloc (Nat.le_refl _) _) ⟨w3.heap.size,rfl,HCS.out▸Row.made _ _ _,by omega,by simp,fun e=>by have:=HV.out _ e.symm;omega⟩)))
    |(refine Tame.walk3_write (o:=⟨some 28,_,_,_,_,_⟩) (AppT s B (acc++[t])) (none) ([13]) (fun _=>rfl) (by kernel_rfl) (by kernel_rfl) (fun u a c hl h=>OwnG.later (jy s) h hl) (fun i _ hj u a c hs h=>OwnG.far (jy s) (p:=P) h (by omega) (by have:=zZ hj;subst this;exact hs)) (fun vals w3 hG hd=>?_) ?_;(focus(have hg3:=(hG 0 _ rfl (by kernel_rfl):Two w2 P tv.ownBlock w3);have hzr:=hg3.size;have h1:=(hd 9 _ rfl (by kernel_rfl) rfl:uA B tv cs (vals 9) w3);have h2:=(hG 2 _ rfl (by kernel_rfl):AppT s B acc tv w3);clear hG hd hg3;obtain⟨g1,hv1,hr1,hs1⟩:=h1;obtain⟨ds,ho,hx⟩:=h2;exact zK (.tmp 21) (.tmp 27) _ rfl B 141 i0 _ 5 48 Tryz.underlying90 hi0 hz0 hz1 hz2 rfl (by omega) (by omega) tv _ ds rfl ho g1 1 141 (tkC s t) hv1 rfl (by rw[HCT.out] at hr1;exact hr1) ((jy s).one (w:=w3) (S:=fun _=>True) rfl) (by omega) (by omega) (fun v' w' ho' hgr hat=>⟨hgr,xZ ho' hx hgr hat⟩))))
    |(refine Tame.walk3_some (o:=⟨some 2,_,_,_,_,_⟩) (AppT s B (acc++[t])) (none) ([13]) (by kernel_rfl) (fun _=>rfl) (by kernel_rfl) (fun u a c hl h=>OwnG.later (jy s) h hl) (fun i _ hj u a c hs h=>OwnG.far (jy s) (p:=P) h (by omega) (by have:=zZ hj;subst this;exact hs)) (fun vals w3 hG hd=>?_) ?_;(focus(have h1:=(hd 10 _ rfl (by kernel_rfl) rfl:AppT s B (acc++[t]) (vals 10) w3);have H1:=YV h1;clear hG hd h1;go_simp;exact Tame.Has.mk (Tame.Later.refl _) H1.out)))
    |(refine Tame.walk3_lays (o:=⟨none,Op.store _ _ _,_,_,_,_⟩) (fun _ w=>Row w P 58 #[.int .i64 0,.int .i64 0]) none ([10]) ([]) (fun _=>rfl) (by kernel_rfl) (by kernel_rfl) (by kernel_rfl) (fun vals vals' w hh h=>h) (fun vals w w' hl h=>Row.below h hl (Row.lt h)) (fun j hj hk vals w w' hm h=>by have:=zZ hk;subst this;exact Row.grown h hm (by simp only[if_true];intro e;have:=(HV.out P e.symm).1;omega)) (fun vals w3 hG hd=>?_) ?_;(focus(have hr1:=(hG 3 _ rfl (by kernel_rfl):Row w3 P 58 #[.int .i64 0,.int .i64 0]);clear hG hd;have q0:=hr1.cell 0;have q1:=hr1.cell 1;have p0:=hr1.free 0;have p1:=hr1.free 1;simp at q0 q1;have HR1:=YV hr1;clear hr1;go_simp;exact⟨uc w3 P _ _,by have:=(HR1.out.set 0 (.int .i64 0)).set 1 (.int .i64 0);simpa using this⟩)))
    |(refine Tame.walk3_known (by kernel_rfl) (fun _=>rfl) ?_;apply Exists.intro;refine⟨fun vals w3 hG hd=>?_,?_⟩;(focus(go_simp;first | exact Tame.Is.mk (Tame.Later.refl _)|(rw[if_neg];(focus exact Tame.Is.mk (Tame.Later.refl _));omega)))))
    simp only[Act.put,List.setIfInBounds_toArray,List.set_cons_zero,List.set_cons_succ,List.nil_append,List.cons_append,List.length_cons,List.length_nil,Nat.zero_add,Nat.reduceAdd])
  refine Tame.walk3_end fun vals w3 hG hts=>?_
  have f0:Two w2 P tv.ownBlock w3:=hG 0 _ rfl (by kernel_rfl)
  have f1:AppT s B (acc++[t]) (vals 12) w3:=hts 12 _ rfl rfl
  have f2:Row w3 P 58 #[.int .i64 0,.int .i64 0]:=hts 13 _ rfl rfl
  obtain⟨V,hV⟩:∃ V,V=vals 12:=⟨_,rfl⟩
  rw[← hV] at f1
  have HF0:=YV f0
  have HF1:=YV f1
  have q0:=f2.cell 0
  have q1:=f2.cell 1
  simp at q0 q1
  clear f0 f1 f2 hts hG
  go_wp2_with fail
  (try simp only[Exit.inBlock,Exit.then])
  refine bodyPost_ret (by simp[results,Tryz.results31,go_sem,q0,q1];rfl) rfl ?_
  refine .inl ⟨acc++[t],V,B,?_,?_,?_,HF1.out,?_⟩
  ·rw[HR.out,HT.out]
  ·rw[hV]
  ·have:=HP.out;omega
  ·have h:=HA.out
   have:=HP.out
   have hwz:w.heap.size≤w0.heap.size:=by omega
   exact⟨HF0.out.os.trans (h.below_.os.trans HBZ.out.os),HF0.out.tape.trans (h.below_.tape.trans HBZ.out.tape),HF0.out.output.trans (h.below_.output.trans HBZ.out.output),Nat.le_trans hwz (Nat.le_trans h.below_.size HF0.out.size),fun q hq=>(HF0.out.block q (by omega) (by omega) (fun e=>by have:=HV.out q e.symm;omega)).trans ((h.below_.block q (by omega)).trans (HBZ.out.block q hq))⟩
 ·have HAL:Hid (Calls Tryz.prog 60 #[.pointer (some ⟨b,0,none⟩)] w1 fun e w2=>∃ (a:Nat) (code:Int) (tv:Value) (mc:Nat) (l:T) (acc:List Tk) (W1:World) (B:Nat),e=.returned (.int .i64 code)∧lexA s 0 []=([],a,code)∧(code=2∨code=4)∧LxAt s w0 W1 B w2 b mb mc tv l a acc):=YV (hall.mono fun e w2 hh=>by
   rcases hh with ⟨acc,a,tv,mc,W1,B,hR,rfl,ha⟩ | ⟨a,code,tv,mc,l,acc,W1,B,hR,hcode,rfl,ha⟩
   ·rw[hR] at hq;exact absurd rfl hq
   ·exact⟨a,code,tv,mc,l,acc,W1,B,rfl,hR,hcode,ha⟩)
  clear hall hq
  go_wp2_with (go_at_call 60;refine HAL.out.mono ?_;rintro e w2 ⟨a,code,tv,mc,l,acc,W1,B,rfl,hR,hcode,ha⟩;have HA:=YV ha;have HR:=YV hR;have HCD:=YV hcode;have hc0:¬ code=0:=(by omega);clear ha hR HAL hcode)
  have h:=HA.out
  have hr1:=(show Row w2 b 139 _ from h.row_)
  have c1:=hr1.cell 1
  have c2:=hr1.cell 2
  have hr3:Row w2 P 58 #[.int .i64 0,.int .i64 0]:=Row.below HRP.out h.below_ (by omega)
  have q0:=hr3.cell 0
  have q1:=hr3.cell 1
  have p0:=hr3.free 0
  have p1:=hr3.free 1
  simp at c1 c2 q0 q1
  have hbz:b<w2.heap.size:=Row.lt hr1
  clear h hr1 hr3
  go_region
  all_goals go_wp2_with fail
  all_goals (try simp only[Exit.inBlock,Exit.then])
  have hr3:Row w2 P 58 #[.int .i64 0,.int .i64 0]:=Row.below HRP.out HA.out.below_ (by omega)
  have hr4:=(hr3.set 0 (.int .i64 (plAt s a).1)).set 1 (.int .i64 (plAt s a).2)
  have g4:=uc w2 P (.int .i64 (plAt s a).1) (.int .i64 (plAt s a).2)
  have hr5:=Row.drew hr4
  have y0:=hr5.cell 0
  have y1:=hr5.cell 1
  simp at y0 y1
  refine bodyPost_ret (by simp[results,Tryz.results31,go_sem,y0,y1];rfl) rfl ?_
  refine .inr ⟨a,code,HR.out,HCD.out,rfl,?_⟩
  have h:=HA.out
  have:=HP.out
  have hwz:w.heap.size≤w0.heap.size:=by omega
  have hb2:Below w.heap.size w w2:=⟨h.below_.os.trans HBZ.out.os,h.below_.tape.trans HBZ.out.tape,h.below_.output.trans HBZ.out.output,Nat.le_trans hwz h.below_.size,fun q hq=>(h.below_.block q (by omega)).trans (HBZ.out.block q hq)⟩
  exact(hb2.grown g4 hb2.size (fun k e=>by injection e with e;omega)).drew
end Go.Proofs.YtdabndiaflagpaaGreatDoor
namespace Go.Proofs.YtdabndiaflagpaaGreatDoor
open Go.RowKit
theorem ext_len (l p:T):(l.take p.length=p)↔p.isPrefixOf l=true:=by
 rw[List.isPrefixOf_iff_prefix,List.prefix_iff_eq_take]
 exact⟨fun h=>h.symm,fun h=>h.symm⟩
theorem xa (s:T) (i n:Nat):(⟨s.toArray⟩:ByteArray).extract i (i+n)=⟨((s.drop i).take n).toArray⟩:=by
 apply ByteArray.ext
 simp[ByteArray.data_extract,List.take_drop]
theorem run_mid (s:T) (i n:Nat) (j:Int) (hj:j=((i+n:Nat):Int)) (h:i+n≤s.length) (w:World):(Instr.slice 9 (.string ⟨s.toArray⟩) (some (.int .i64 (i:Int))) (some (.int .i64 j)) none).run Tryz.prog w=.ok (.string ⟨((s.drop i).take n).toArray⟩) w:=by
 subst hj
 rw[run_slice_string _ _ _ _ _ _ _ Tryz.underlying9 (by omega) (by omega) (by show _≤((s.toArray.size:Nat):Int);simp;omega),Int.toNat_natCast,Int.toNat_natCast,xa]
theorem ul (s p:T) (i:Nat) (w:World) (hs:s.length≤1000000) (hp:p.length≤1000) (hi:i≤s.length) :
  Calls Tryz.prog 81 #[.string ⟨s.toArray⟩,.int .i64 (i:Int),.string ⟨p.toArray⟩] w fun e w'=>e=.returned (.bool (p.isPrefixOf (s.drop i)))∧w=w':=by
 by_cases h:i+p.length≤s.length
 ·have h1:(p.length:Int)≤(s.length:Int) - (i:Int):=by omega
  have hr:=run_mid s i p.length ((i:Int)+(p.length:Int)) (by omega) h
  have HX:Hid (((s.drop i).take p.length == p)=p.isPrefixOf (s.drop i)):=YV (by rw[Bool.eq_iff_iff,beq_iff_eq];exact ext_len _ _)
  go_enter Tryz.func81,Tryz.ntmps81
  go_wp2_with fail
  go_ret
  exact⟨zp HX.out,rfl⟩
 ·have h1:(s.length:Int) - (i:Int)<(p.length:Int):=by omega
  have HP:Hid (p.isPrefixOf (s.drop i)=false):=YV ((Bool.not_eq_true _).mp fun hh=>by have:=jM hh;rw[List.length_drop] at this;omega)
  clear h
  go_enter Tryz.func81,Tryz.ntmps81
  go_wp2_with fail
  go_ret
  exact⟨zp HP.out.symm,rfl⟩
end Go.Proofs.YtdabndiaflagpaaGreatDoor
namespace Go.Proofs.YtdabndiaflagpaaGreatDoor
open Go.RowKit
theorem J2 (s:T) (a:Nat) (w:World) (hs:s.length≤1000000) (ha:a≤s.length) :
  Calls Tryz.prog 23 #[.string ⟨s.toArray⟩,.int .i64 (a:Int)] w fun e w'=>e=.returned (.tuple #[.int .i64 (plAt s a).1,.int .i64 (plAt s a).2])∧w=w':=by
 go_enter Tryz.func23,Tryz.ntmps23
 go_wp2_with fail
 go_loopg [6,7,8] a (fun g l c k wr=>∃ i:Nat,i+g=a∧k=.int .i64 (i:Int)∧l=.int .i64 (plAt s i).1∧c=.int .i64 (plAt s i).2∧w=wr)
 case atStart=>exact⟨0,by omega,rfl,rfl,rfl,rfl⟩
 case round=>
  obtain⟨i,hi,rfl,rfl,rfl,rfl⟩:=hrel
  have hpb:=yk (s.take i) (1,1) (by decide) (by decide)
  have hti:(s.take i).length≤1000000:=by rw[List.length_take];omega
  obtain⟨z1,hz1⟩:∃ z,z=(plAt s i).1:=⟨_,rfl⟩
  obtain⟨z2,hz2⟩:∃ z,z=(plAt s i).2:=⟨_,rfl⟩
  have hb1:1≤z1∧z1≤2000000∧1≤z2∧z2≤2000000:=by rw[hz1,hz2];unfold plAt;simp only at hpb;omega
  obtain⟨hb1,hb2,hb3,hb4⟩:=hb1
  have HZ1:=YV hz1
  have HZ2:=YV hz2
  rw[← hz1,← hz2]
  clear hpb hti hz1 hz2
  by_cases hlt:i<a
  ·have hlt2:i<s.length:=by omega
   obtain⟨c,h',hc,hcc⟩:=jt hlt2
   have HS:Hid (plAt s (i+1)=if c=10 then (z1+1,1) else (z1,z2+1)):=YV (by unfold plAt;rw[yj hc,xS,HZ1.out,HZ2.out];rfl)
   clear hc
   by_cases h10:c=10
   ·subst h10
    have HS2:Hid (plAt s (i+1)=(z1+1,1)):=YV (by rw[HS.out,if_pos rfl])
    go_wp2_with fail
    go_roundg (a - (i+1))
    case rel=>exact⟨i+1,by omega,by go_num,by rw[HS2.out],by rw[HS2.out],rfl⟩
    case measure=>omega
   ·have HS2:Hid (plAt s (i+1)=(z1,z2+1)):=YV (by rw[HS.out,if_neg h10])
    have hn:¬ ((c.toNat:Int)=10):=fun e=>h10 (by apply UInt8.toNat_inj.1;exact Int.ofNat.inj e)
    go_wp2_with fail
    go_roundg (a - (i+1))
    case rel=>exact⟨i+1,by omega,by go_num,by rw[HS2.out],by rw[HS2.out],rfl⟩
    case measure=>omega
  ·obtain rfl:i=a:=by omega
   go_wp2_with fail
   go_ret2
   exact⟨by rw[HZ1.out,HZ2.out];rfl,rfl⟩
end Go.Proofs.YtdabndiaflagpaaGreatDoor
namespace Go.Proofs.YtdabndiaflagpaaGreatDoor
open Go.RowKit
theorem ZG {p:UInt8→Bool} {l:T}:∀ {j:Nat},j<(l.takeWhile p).length→∃ d,l[j]? = some d∧p d=true:=by
 induction l with
 | nil=>intro j h;simp at h
 | cons c r ih=>
  intro j h
  by_cases hc:p c=true
  ·rw[List.takeWhile_cons,if_pos hc,List.length_cons] at h
   cases j with
   | zero=>exact⟨c,rfl,hc⟩
   | succ j=>
    obtain⟨d,h1,h2⟩:=ih (j:=j) (by omega)
    exact⟨d,by simpa using h1,h2⟩
  ·rw[List.takeWhile_cons,if_neg hc] at h
   simp at h
theorem kx {p:UInt8→Bool} {l:T} {d:UInt8} (h:l[(l.takeWhile p).length]? = some d):p d=false:=by
 induction l with
 | nil=>simp at h
 | cons c r ih=>
  by_cases hc:p c=true
  ·rw[List.takeWhile_cons,if_pos hc,List.length_cons,List.getElem?_cons_succ] at h
   exact ih h
  ·rw[List.takeWhile_cons,if_neg hc] at h
   simp at h
   rw[← h]
   exact(Bool.not_eq_true _).mp hc
theorem qV {s:T} {p:Nat} {c:UInt8} (h:s[p]? = some c):s.drop p=c::s.drop (p+1):=by
 obtain⟨h1,h2⟩:=List.getElem?_eq_some_iff.1 h
 rw[List.drop_eq_getElem_cons h1,h2]
theorem Zr (c:UInt8):blk c=true→(c.toNat:Int)=32∨(c.toNat:Int)=9∨(c.toNat:Int)=13∨(c.toNat:Int)=10:=by
 intro h
 unfold blk at h
 simp only[Bool.or_eq_true,beq_iff_eq] at h
 rcases h with ((rfl | rfl) | rfl) | rfl
 ·exact .inl rfl
 ·exact .inr (.inl rfl)
 ·exact .inr (.inr (.inl rfl))
 ·exact .inr (.inr (.inr rfl))
theorem not_blk {c:UInt8} (h:blk c=false):¬ (c.toNat:Int)=32∧¬ (c.toNat:Int)=9∧¬ (c.toNat:Int)=13∧¬ (c.toNat:Int)=10:=by
 have key:∀ n:Nat,n<256→(c.toNat:Int)=(n:Int)→c=UInt8.ofNat n:=fun n hn e=>by
  apply UInt8.toNat_inj.1
  rw[UInt8.toNat_ofNat']
  omega
 refine⟨fun e=>?_,fun e=>?_,fun e=>?_,fun e=>?_⟩
 ·have:=key 32 (by omega) e;subst this;revert h;decide
 ·have:=key 9 (by omega) e;subst this;revert h;decide
 ·have:=key 13 (by omega) e;subst this;revert h;decide
 ·have:=key 10 (by omega) e;subst this;revert h;decide
theorem JN {c:UInt8} {r:T} (hb:blk c=false) (h1:[45,45].isPrefixOf (c::r)=true):zx (c::r)=.skip ((c::r).takeWhile nnl).length:=by
 unfold zx
 simp only[hb,h1]
 rfl
theorem JM {c:UInt8} {r:T} (hb:blk c=false) (h1:[45,45].isPrefixOf (c::r)=false) (h2:[40,42].isPrefixOf (c::r)=true):zx (c::r)=(match jl ((c::r).drop 2) with | none=>.bad 2 | some n=>.skip (n+4)):=by
 unfold zx
 simp only[hb,h1,h2]
 rfl
theorem kZ {s:T} {q:Nat} (hq:q<s.length) (h:[42,41].isPrefixOf (s.drop q)=false):jl (s.drop q)=(jl (s.drop (q+1))).map (· + 1):=by
 have e:=qV (List.getElem?_eq_getElem hq)
 rw[e] at h ⊢
 conv=>lhs;unfold jl
 rw[h]
 rfl
theorem k7 {l:T} (h:[42,41].isPrefixOf l=true):jl l=some 0:=by
 cases l with
 | nil=>simp at h
 | cons c r=>unfold jl;rw[if_pos h]
def YR (s:T) (a:Nat) (w:World) (e:Ending) (w':World):Prop:=w=w'∧∃ p:Nat,a≤p∧p≤s.length∧
 ((e=.returned (.tuple #[.int .i64 (p:Int),.int .i64 (-1)])∧(∀ acc,lexA (s.drop a) a acc=lexA (s.drop p) p acc)∧(∀ c r,s.drop p=c::r→uz c r))∨
  (e=.returned (.tuple #[.int .i64 (p:Int),.int .i64 (p:Int)])∧∀ acc,lexA (s.drop a) a acc=([],p,2)))
theorem ZI (s:T) (a:Nat) (w:World) (hs:s.length≤1000000) (ha:a≤s.length) :
  Calls Tryz.prog 76 #[.string ⟨s.toArray⟩,.int .i64 (a:Int)] w (YR s a w):=by
 go_enter Tryz.func76,Tryz.ntmps76
 go_wp2_with fail
 go_loopg [1,6] (s.length - a) (fun g k q wr=>∃ p:Nat,p+g=s.length∧a≤p∧k=.int .i64 (p:Int)∧(∀ acc,lexA (s.drop a) a acc=lexA (s.drop p) p acc)∧w=wr)
 case atStart=>exact⟨a,by omega,by omega,rfl,fun _=>rfl,rfl⟩
 case round=>
  obtain⟨p,hp,hap,rfl,hq,rfl⟩:=hrel
  have HQ:=YV hq
  clear hq
  by_cases hlt:p<s.length
  ·obtain⟨c,h',hc,hcc⟩:=jt hlt
   have HD:Hid (s.drop p=c::s.drop (p+1)):=YV (qV hc)
   clear hc
   by_cases hb:blk c=true
   ·have HN:Hid (∀ acc,lexA (s.drop a) a acc=lexA (s.drop (p+1)) (p+1) acc):=YV fun acc=>by rw[HQ.out acc,HD.out,kO hb]
    obtain h1 | h1 | h1 | h1:=Zr c hb
    all_goals
     clear hb
     go_wp2_with fail
     go_roundg (s.length - (p+1))
     case rel=>exact⟨p+1,by omega,by omega,by go_num,HN.out,rfl⟩
     case measure=>omega
   ·have hb':blk c=false:=(Bool.not_eq_true _).mp hb
    obtain⟨n1,n2,n3,n4⟩:((c.toNat:Int) == 32)=false∧((c.toNat:Int) == 9)=false∧((c.toNat:Int) == 13)=false∧((c.toNat:Int) == 10)=false:=by
     have h:=not_blk hb'
     simp only[beq_eq_false_iff_ne,ne_eq]
     exact h
    have c1:=ul s [45,45] p w hs (by decide) (by omega)
    have c2:=ul s [40,42] p w hs (by decide) (by omega)
    by_cases h1:[45,45].isPrefixOf (s.drop p)=true
    ·rw[h1] at c1
     have HC1:=YV c1
     obtain⟨n,hn⟩:∃ n,n=((s.drop p).takeWhile nnl).length:=⟨_,rfl⟩
     have HST:Hid (zx (s.drop p)=.skip n):=YV (by rw[hn];rw[HD.out] at h1 ⊢;exact JN hb' h1)
     have HAT:Hid (∀ j,j<n→∃ d,s[p+j]? = some d∧nnl d=true):=YV fun j hj=>by
      obtain⟨d,h1,h2⟩:=ZG (l:=s.drop p) (by rw[hn] at hj;exact hj)
      exact⟨d,by rw[List.getElem?_drop] at h1;exact h1,h2⟩
     have HEN:Hid (∀ d,s[p+n]? = some d→nnl d=false):=YV fun d hd=>kx (l:=s.drop p) (d:=d) (by rw[← hn,List.getElem?_drop];exact hd)
     have hnl:p+n≤s.length:=by have:=zA (p:=nnl) (s.drop p);rw[← hn,List.length_drop] at this;omega
     have hnp:0<n:=(jU HST.out).1
     have HN:Hid (∀ acc,lexA (s.drop a) a acc=lexA (s.drop (p+n)) (p+n) acc):=YV fun acc=>by rw[HQ.out acc,ud HST.out,List.drop_drop]
     clear hb hb' c1 c2 h1 hn
     go_wp2_with (go_at_call 81;refine HC1.out.mono ?_;rintro e w1 ⟨rfl,rfl⟩)
     clear hcc h' n1 n2 n3 n4 HD
     go_loopg [1] n (fun g k wr=>∃ j:Nat,j+g=n∧k=.int .i64 ((p+j:Nat):Int)∧w=wr)
     case atStart=>exact⟨0,by omega,by simp,rfl⟩
     case round=>
      obtain⟨j,hj,rfl,rfl⟩:=hrel
      by_cases hjn:j<n
      ·obtain⟨d,hd,hd2⟩:=HAT.out j hjn
       have hlt3:p+j<s.length:=by omega
       obtain⟨d',h',hc,hcc⟩:=jt hlt3
       rw[hd] at hc
       injection hc with hc
       subst hc
       have hn11:¬ (d.toNat:Int)=10:=fun e=>by
        have:d=10:=by apply UInt8.toNat_inj.1;exact Int.ofNat.inj e
        subst this;revert hd2;decide
       have hn10:((d.toNat:Int) != 10)=true:=by simp only[bne_iff_ne,ne_eq];exact hn11
       clear hn11
       clear hd hd2
       go_wp2_with fail
       go_roundg (n - (j+1))
       case rel=>exact⟨j+1,by omega,by go_num,rfl⟩
       case measure=>omega
      ·obtain rfl:j=n:=by omega
       by_cases hlt3:p+j<s.length
       ·obtain⟨d,h',hc,hcc⟩:=jt hlt3
        have hd2:=HEN.out d hc
        have hn10:(d.toNat:Int)=10:=by
         unfold nnl at hd2
         simp at hd2
         rw[hd2];rfl
        clear hd2 hc
        go_wp2_with fail
        go_roundg (s.length - (p+j))
        case rel=>exact⟨p+j,by omega,by omega,rfl,HN.out,rfl⟩
        case measure=>omega
       ·go_wp2_with fail
        go_roundg (s.length - (p+j))
        case rel=>exact⟨p+j,by omega,by omega,rfl,HN.out,rfl⟩
        case measure=>omega
    ·have h1':[45,45].isPrefixOf (s.drop p)=false:=(Bool.not_eq_true _).mp h1
     rw[h1'] at c1
     by_cases h2:[40,42].isPrefixOf (s.drop p)=true
     ·rw[h2] at c2
      have HC1:=YV c1
      have HC2:=YV c2
      have HST:Hid (zx (s.drop p)=(match jl (s.drop (p+2)) with | none=>.bad 2 | some n=>.skip (n+4))):=YV (by
       have e:(s.drop p).drop 2=s.drop (p+2):=List.drop_drop
       rw[← e]
       rw[HD.out] at h1' h2 ⊢;exact JM hb' h1' h2)
      have hp2:p+2≤s.length:=by have:=jM h2;rw[List.length_drop] at this;simp only[List.length_cons,List.length_nil] at this;omega
      have HBE:Hid (∀ q,q≤s.length→Calls Tryz.prog 81 #[.string ⟨s.toArray⟩,.int .i64 (q:Int),.string ⟨#[42,41]⟩] w fun e w'=>e=.returned (.bool ([42,41].isPrefixOf (s.drop q)))∧w=w'):=YV fun q hq=>ul s [42,41] q w hs (by decide) hq
      clear hb hb' c1 c2 h1 h1' h2
      go_wp2_with (go_at_call 81;refine HC1.out.mono ?_;rintro e w1 ⟨rfl,rfl⟩;clear HC1)
      go_wp2_with (go_at_call 81;refine HC2.out.mono ?_;rintro e w1 ⟨rfl,rfl⟩;clear HC2)
      clear hcc h' n1 n2 n3 n4 HD
      go_loopg [6] (s.length - (p+2)) (fun g k wr=>∃ j:Nat,j+g=s.length - (p+2)∧k=.int .i64 ((p+2+j:Nat):Int)∧jl (s.drop (p+2))=(jl (s.drop (p+2+j))).map (· + j)∧w=wr)
      case atStart=>exact⟨0,by omega,by go_num,by simp,rfl⟩
      case round=>
       obtain⟨j,hj,rfl,he,rfl⟩:=hrel
       have HE:=YV he
       clear he
       by_cases hlt3:p+2+j<s.length
       ·have hcall:=HBE.out (p+2+j) (by omega)
        by_cases h3:[42,41].isPrefixOf (s.drop (p+2+j))=true
        ·rw[h3] at hcall
         have HK:=YV hcall
         have HEO:Hid (jl (s.drop (p+2))=some j):=YV (by rw[HE.out,k7 h3];simp)
         have HST2:Hid (zx (s.drop p)=.skip (j+4)):=YV (by rw[HST.out,HEO.out])
         have hle:p+(j+4)≤s.length:=by have:=(jU HST2.out).2;rw[List.length_drop] at this;omega
         have HN:Hid (∀ acc,lexA (s.drop a) a acc=lexA (s.drop (p+(j+4))) (p+(j+4)) acc):=YV fun acc=>by rw[HQ.out acc,ud HST2.out,List.drop_drop]
         clear hcall h3
         go_wp2_with (go_at_call 81;refine HK.out.mono ?_;rintro e w1 ⟨rfl,rfl⟩)
         go_roundg (s.length - (p+(j+4)))
         case rel=>exact⟨p+(j+4),by omega,by omega,by go_num,HN.out,rfl⟩
         case measure=>omega
        ·have h3':[42,41].isPrefixOf (s.drop (p+2+j))=false:=(Bool.not_eq_true _).mp h3
         rw[h3'] at hcall
         have HK:=YV hcall
         have HE2:Hid (jl (s.drop (p+2))=(jl (s.drop (p+2+(j+1)))).map (· + (j+1))):=YV (by
          rw[HE.out,kZ hlt3 h3']
          show _=(jl (s.drop (p+2+j+1))).map _
          cases jl (s.drop (p+2+j+1)) with
          | none=>rfl
          | some m=>simp;omega)
         clear hcall h3 h3'
         go_wp2_with (go_at_call 81;refine HK.out.mono ?_;rintro e w1 ⟨rfl,rfl⟩)
         go_roundg (s.length - (p+2) - (j+1))
         case rel=>exact⟨j+1,by omega,by go_num,HE2.out,rfl⟩
         case measure=>omega
       ·have HEO:Hid (jl (s.drop (p+2))=none):=YV (by rw[HE.out,List.drop_eq_nil_of_le (by omega)];rfl)
        have HST2:Hid (zx (s.drop p)=.bad 2):=YV (by rw[HST.out,HEO.out])
        have HN:Hid (∀ acc,lexA (s.drop a) a acc=([],p,2)):=YV fun acc=>by rw[HQ.out acc,vm HST2.out]
        go_wp2_with fail
        go_ret2
        exact⟨rfl,p,by omega,by omega,.inr ⟨rfl,HN.out⟩⟩
     ·have h2':[40,42].isPrefixOf (s.drop p)=false:=(Bool.not_eq_true _).mp h2
      rw[h2'] at c2
      have HC1:=YV c1
      have HC2:=YV c2
      have HNB:Hid (∀ c r,s.drop p=c::r→uz c r):=YV fun c1 r1 e=>by
       rw[e] at h1' h2'
       rw[HD.out] at e
       injection e with e1 e2
       exact⟨e1▸hb',h1',h2'⟩
      clear hb hb' c1 c2 h1 h1' h2 h2'
      go_wp2_with (go_at_call 81;refine HC1.out.mono ?_;rintro e w1 ⟨rfl,rfl⟩;clear HC1)
      go_wp2_with (go_at_call 81;refine HC2.out.mono ?_;rintro e w1 ⟨rfl,rfl⟩;clear HC2)
      go_ret2
      exact⟨rfl,p,by omega,by omega,.inl ⟨rfl,HQ.out,HNB.out⟩⟩
  ·have hpe:p=s.length:=by omega
   go_wp2_with fail
   go_ret2
   exact⟨rfl,p,by omega,by omega,.inl ⟨rfl,HQ.out,fun c r e=>by rw[List.drop_eq_nil_of_le (by omega)] at e;cases e⟩⟩
end Go.Proofs.YtdabndiaflagpaaGreatDoor
namespace Go.Proofs.YtdabndiaflagpaaGreatDoor
open Go.RowKit
def jY:List T:=[[40],[41],[44],[59],[58],[61],[60,62],[60],[60,61],[62],[62,61],[61,62],[45,62],[43],[45],[42]]
def qc:List Value:=jY.map fun l=>Value.string ⟨l.toArray⟩
theorem JR (w:World):Calls Tryz.prog 80 #[] w fun e w'=>e=.returned (.slice (some ⟨w.heap.size,0,none⟩) 16 16)∧Row w' w.heap.size 9 qc.toArray∧Below w.heap.size w w':=by
 go_enter Tryz.func80,Tryz.ntmps80
 go_wp2_with fail
 go_ret
 exact⟨rfl,Row.made _ _ _,(Below.refl _ _).alloc (Nat.le_refl _) _⟩
def jZ (l:T) (m:Nat) (s:T):Nat:=if s.isPrefixOf l=true∧m<s.length then s.length else m
def best (l:T) (i:Nat):Nat:=(jY.take i).foldl (jZ l) 0
theorem Zt {l:T} {i:Nat} {s:T} (h:jY[i]? = some s):best l (i+1)=jZ l (best l i) s:=by
 unfold best
 rw[List.take_add_one,h,List.foldl_append]
 rfl
theorem kn (l:T):best l 16=((zJ.find? (fun s=>s.isPrefixOf l)).map List.length).getD 0:=by
 have e:best l 16=jY.foldl (jZ l) 0:=rfl
 rw[e]
 clear e
 cases l with
 | nil=>decide
 | cons c r=>
  have key:∀ c:UInt8,c∈([40,41,44,59,58,61,60,62,45,43,42]:T)∨(∀ x∈([40,41,44,59,58,61,60,62,45,43,42]:T),(x == c)=false):=fun c=>by
   by_cases h:c∈([40,41,44,59,58,61,60,62,45,43,42]:T)
   ·exact .inl h
   ·exact .inr fun x hx=>by
     simp only[beq_eq_false_iff_ne,ne_eq]
     intro e;subst e;exact h hx
  cases r with
  | nil=>
   rcases key c with hc | hc
   ·have kk:∀ c∈([40,41,44,59,58,61,60,62,45,43,42]:T),jY.foldl (jZ [c]) 0=((zJ.find? (fun s=>s.isPrefixOf [c])).map List.length).getD 0:=by decide +kernel
    exact kk c hc
   ·have g:∀ x,x∈([40,41,44,59,58,61,60,62,45,43,42]:T)→(x == c)=false:=hc
    have g1:=g 40 (by decide)
    have g2:=g 41 (by decide)
    have g3:=g 44 (by decide)
    have g4:=g 59 (by decide)
    have g5:=g 58 (by decide)
    have g6:=g 61 (by decide)
    have g7:=g 60 (by decide)
    have g8:=g 62 (by decide)
    have g9:=g 45 (by decide)
    have g10:=g 43 (by decide)
    have g11:=g 42 (by decide)
    simp[jY,zJ,jZ,List.isPrefixOf,g1,g2,g3,g4,g5,g6,g7,g8,g9,g10,g11]
  | cons d r=>
   have red:∀ s∈jY++zJ,s.isPrefixOf (c::d::r)=s.isPrefixOf [c,d]:=by
    intro s hs
    have hlen:∀ s∈jY++zJ,s.length=1∨s.length=2:=by decide
    match s,hlen s hs with
    | [a],_=>simp[List.isPrefixOf]
    | [a,b],_=>simp[List.isPrefixOf]
    | [],h=>simp at h
    | _::_::_::_,h=>simp at h
   have f1:jY.foldl (jZ (c::d::r)) 0=jY.foldl (jZ [c,d]) 0:=by
    have:∀ (L:List T) (m:Nat),(∀ s∈L,s.isPrefixOf (c::d::r)=s.isPrefixOf [c,d])→L.foldl (jZ (c::d::r)) m=L.foldl (jZ [c,d]) m:=by
     intro L
     induction L with
     | nil=>intro m _;rfl
     | cons x L ih=>
      intro m h
      simp only[List.foldl_cons]
      rw[show jZ (c::d::r) m x=jZ [c,d] m x by unfold jZ;rw[h x (List.mem_cons_self ..)]]
      exact ih _ fun s hs=>h s (List.mem_cons_of_mem _ hs)
    exact this _ _ fun s hs=>red s (List.mem_append_left _ hs)
   have f2:zJ.find? (fun s=>s.isPrefixOf (c::d::r))=zJ.find? (fun s=>s.isPrefixOf [c,d]):=by
    have:∀ (L:List T),(∀ s∈L,s.isPrefixOf (c::d::r)=s.isPrefixOf [c,d])→L.find? (fun s=>s.isPrefixOf (c::d::r))=L.find? (fun s=>s.isPrefixOf [c,d]):=by
     intro L
     induction L with
     | nil=>intro _;rfl
     | cons x L ih=>
      intro h
      rw[List.find?_cons,List.find?_cons,h x (List.mem_cons_self ..),ih fun s hs=>h s (List.mem_cons_of_mem _ hs)]
    exact this _ fun s hs=>red s (List.mem_append_right _ hs)
   rw[f1,f2]
   clear f1 f2 red
   rcases key c with hc | hc
   ·rcases key d with hd | hd
    ·have kk:∀ c∈([40,41,44,59,58,61,60,62,45,43,42]:T),∀ d∈([40,41,44,59,58,61,60,62,45,43,42]:T),jY.foldl (jZ [c,d]) 0=((zJ.find? (fun s=>s.isPrefixOf [c,d])).map List.length).getD 0:=by decide +kernel
     exact kk c hc d hd
    ·have g:∀ x,x∈([40,41,44,59,58,61,60,62,45,43,42]:T)→(x == d)=false:=hd
     have g1:=g 62 (by decide)
     have g2:=g 61 (by decide)
     simp only[List.mem_cons,List.not_mem_nil,or_false] at hc
     rcases hc with rfl | rfl | rfl | rfl | rfl | rfl | rfl | rfl | rfl | rfl | rfl <;>
      simp[jY,zJ,jZ,List.isPrefixOf,g1,g2]
   ·have g:∀ x,x∈([40,41,44,59,58,61,60,62,45,43,42]:T)→(x == c)=false:=hc
    have g1:=g 40 (by decide)
    have g2:=g 41 (by decide)
    have g3:=g 44 (by decide)
    have g4:=g 59 (by decide)
    have g5:=g 58 (by decide)
    have g6:=g 61 (by decide)
    have g7:=g 60 (by decide)
    have g8:=g 62 (by decide)
    have g9:=g 45 (by decide)
    have g10:=g 43 (by decide)
    have g11:=g 42 (by decide)
    simp[jY,zJ,jZ,List.isPrefixOf,g1,g2,g3,g4,g5,g6,g7,g8,g9,g10,g11]
end Go.Proofs.YtdabndiaflagpaaGreatDoor
namespace Go.Proofs.YtdabndiaflagpaaGreatDoor
open Go.RowKit
theorem JS:(Tryz.prog.info? 113).map (fun i=>(i.zero,i.size,i.bytes))=some (some (.agg #[.int .i64 0,.string ⟨#[]⟩,.int .i64 0,.int .i64 0]),4,40):=by kernel_rfl
def rtC (t:Tk):List Value:=[.int .i64 t.kind,.string ⟨t.text.toArray⟩,.int .i64 t.n,.int .i64 (t.from_:Int)]
def RRk:Of Tk:=fun _ _ t cs=>cs=rtC t
theorem yp:jB RRk 4:=⟨fun h _=>h,fun h=>by rw[show _=_ from h];rfl,fun h u hu=>by
 rw[show _=_ from h] at hu
 simp only[rtC,List.mem_cons,List.not_mem_nil,or_false] at hu
 rcases hu with rfl | rfl | rfl | rfl <;> rfl⟩
structure RxAt (s:T) (W0 w:World) (tv:Value) (a:Nat) (acc:List Tk):Prop where
 own_:OwnG RRk 113 4 w W0.heap.size (Sb W0.heap.size tv.ownBlock w) tv acc
 below_:Below W0.heap.size W0 w
 few_:acc.length≤a
 le_:a≤s.length
theorem JQ (s:T) (a:Nat) (w:World) (hs:s.length≤1000000) (ha:a≤s.length) :
  Calls Tryz.prog 76 #[.string ⟨s.toArray⟩,.int .i64 (a:Int)] w fun e w'=>w=w'∧∃ (p:Nat) (q:Int),e=.returned (.tuple #[.int .i64 (p:Int),.int .i64 q])∧a≤p∧p≤s.length∧
   ((q = -1∧(∀ acc,lexA (s.drop a) a acc=lexA (s.drop p) p acc)∧(∀ c r,s.drop p=c::r→uz c r))∨(q=(p:Int)∧∀ acc,lexA (s.drop a) a acc=([],p,2))):=
 (ZI s a w hs ha).mono fun e w' h=>by
  obtain⟨hw,p,h1,h2,h3 | h3⟩:=h
  ·exact⟨hw,p,-1,h3.1,h1,h2,.inl ⟨rfl,h3.2.1,h3.2.2⟩⟩
  ·exact⟨hw,p,(p:Int),h3.1,h1,h2,.inr ⟨rfl,h3.2⟩⟩
theorem yu (l m:T):∀ acc,valS acc (l++m)=valS (valS acc l) m:=by
 induction l with
 | nil=>intro acc;rfl
 | cons c r ih=>intro acc;exact ih _
theorem valS_le (l:T):∀ acc,acc≤valS acc l:=by
 induction l with
 | nil=>intro acc;exact Nat.le_refl _
 | cons c r ih=>intro acc;exact Nat.le_trans (by omega) (ih (10 * acc+(c.toNat - 48)))
theorem JE (l:T) (c:UInt8) (acc:Nat):valS acc (l++[c])=10 * valS acc l+(c.toNat - 48):=by rw[yu];rfl
theorem JD {l:T} {j:Nat} {c:UInt8} (h:l[j]? = some c):valS 0 (l.take (j+1))=10 * valS 0 (l.take j)+(c.toNat - 48):=by rw[yj h,JE]
theorem JF (l:T) (j:Nat):valS 0 (l.take j)≤valS 0 l:=by
 conv=>rhs;rw[← List.take_append_drop j l,yu]
 exact valS_le _ _
theorem x8 (n d:Int) (M:Int) (_:M=9223372036854775807) (_:0≤n) (_:0≤d) (_:d≤9):(M - d) / 10<n↔M<10 * n+d:=by omega
theorem run_cut (s:T) (p n:Nat) {f:UInt8→Bool} (h:n=((s.drop p).takeWhile f).length):(s.drop p).take n=(s.drop p).takeWhile f:=by
 rw[h]
 exact(zT (p:=f) (s.drop p)).symm
theorem best_le (l:T):∀ i,best l i≤l.length:=by
 intro i
 unfold best
 have:∀ (L:List T) (m:Nat),m≤l.length→L.foldl (jZ l) m≤l.length:=by
  intro L
  induction L with
  | nil=>intro m h;exact h
  | cons x L ih=>
   intro m h
   refine ih _ ?_
   unfold jZ
   split
   ·rename_i hx;exact jM hx.1
   ·exact h
 exact this _ 0 (Nat.zero_le _)
theorem qv {c:UInt8} {r:T} (hb:uz c r) (hl:ltr c=false) (hd:dgt c=false) (h:0<best (c::r) 16):zx (c::r)=.tok 4 (best (c::r) 16) 0:=by
 rw[uC hb hl hd,kn] at *
 cases hf:zJ.find? (fun s=>s.isPrefixOf (c::r)) with
 | none=>rw[hf] at h;simp at h
 | some x=>rfl
theorem qw {c:UInt8} {r:T} (hb:uz c r) (hl:ltr c=false) (hd:dgt c=false) (h:best (c::r) 16=0):zx (c::r)=.bad 2:=by
 rw[kn] at h
 rw[uC hb hl hd]
 cases hf:zJ.find? (fun s=>s.isPrefixOf (c::r)) with
 | none=>rfl
 | some x=>
  rw[hf] at h
  have:=uD x (List.mem_of_find?_eq_some hf)
  simp only[Option.map_some,Option.getD_some] at h
  omega
end Go.Proofs.YtdabndiaflagpaaGreatDoor
namespace Go.Proofs.YtdabndiaflagpaaGreatDoor
open Go.RowKit
end Go.Proofs.YtdabndiaflagpaaGreatDoor
