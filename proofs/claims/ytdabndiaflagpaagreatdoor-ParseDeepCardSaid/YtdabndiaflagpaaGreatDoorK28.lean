/- Parts: To, Law5. -/
import Derived.Deep.CutRange
import Derived.Test.YtdabndiaflagpaaGreatDoorK03
import Derived.Test.YtdabndiaflagpaaGreatDoorK27
import Derived.Test.YtdabndiaflagpaaGreatDoorK09
import Derived.Test.YtdabndiaflagpaaGreatDoorK20
import Derived.Test.YtdabndiaflagpaaGreatDoorK26
import Derived.Test.YtdabndiaflagpaaGreatDoorK37
set_option maxRecDepth 100000
set_option maxHeartbeats 4000000
namespace Go.Proofs.YtdabndiaflagpaaGreatDoor
open Go.RowKit
attribute [local go_sem] Tame.Op Tame.upon
def PX (l:List Nd) (v:Value) (w:World):Prop:=∃ A c,v=.agg #[.slice A l.length c]∧NS w (Old w) A l
theorem NS.old {l:List Nd} {A:Option Addr} {w w':World} (h:NS w (Old w) A l) (hb:Below w.heap.size w w'):NS w' (Old w') A l:=h.move fun b hb'=>⟨Nat.lt_of_lt_of_le hb' hb.size,hb.block b hb'⟩
theorem PX.later {l:List Nd} {v:Value} {w w':World} (h:PX l v w) (hl:Tame.Later w w'):PX l v w':=by
 obtain⟨A,c,hv,hk⟩:=h
 exact⟨A,c,hv,hk.old hl⟩
def triV (V:Value) (x y z:Int):Value:=.tuple #[.agg #[V],.agg #[.int .i64 x,.int .i64 y],.int .i64 z]
def xD (s:T) (l:List Nd) (z1 z2 k:Int) (w:World):Prop:=Calls Tryz.prog 15 #[.string ⟨s.toArray⟩] w fun e w'=>∃ A c,e=.returned (triV (.slice A l.length c) z1 z2 k)∧NS w' (Old w') A l∧Below w.heap.size w w'
def qB (s:T) (l:List Nd) (a:Nat) (k:Int) (w:World):Prop:=Calls Tryz.prog 22 #[.string ⟨s.toArray⟩] w fun e w'=>∃ A c,e=.returned (.tuple #[.agg #[.slice A l.length c],.int .i64 (a:Int),.int .i64 k])∧NS w' (Old w') A l∧Below w.heap.size w w'
theorem xH (s:T) (a:Nat) (k:Int) (w:World) (hk:k≠0) (ha:a≤s.length) (hs:s.length≤1000000) (hc:xD s [] (plAt s a).1 (plAt s a).2 k w) (hr:∀ w2,qB s [] a k w2) :
  Calls Tryz.prog 7 #[.string ⟨s.toArray⟩] w fun e w'=>e=.returned (.bool true)∧Below w.heap.size w w':=by
 have HPL:Hid (∀ w2,Calls Tryz.prog 23 #[.string ⟨s.toArray⟩,.int .i64 (a:Int)] w2 fun e w'=>e=.returned (.tuple #[.int .i64 (plAt s a).1,.int .i64 (plAt s a).2])∧w2=w'):=fun w2=>J2 s a w2 hs ha
 obtain⟨z1,hz1⟩:∃ z,z=(plAt s a).1:=⟨_,rfl⟩
 obtain⟨z2,hz2⟩:∃ z,z=(plAt s a).2:=⟨_,rfl⟩
 obtain⟨az,haz⟩:∃ z,z=(a:Int):=⟨_,rfl⟩
 unfold xD at hc
 unfold qB at hr
 rw[← hz1,← hz2] at HPL hc
 rw[← haz] at HPL hr
 have hl:okNs ([]:List Nd):=⟨by simp,fun v hv=>by cases hv⟩
 have hll:([]:List Nd).length≤1000:=by simp
 have hk1:¬ k=0:=hk
 clear hz1 hz2 haz ha hk
 obtain⟨n,hnl⟩:∃ n:Nat,n=([]:List Nd).length:=⟨_,rfl⟩
 rw[← hnl] at hc
 simp only[← hnl] at hr
 have HNL:=YV hnl
 clear hnl
 have HC:=YV hc
 have HR:=YV hr
 have HL:=YV hl
 clear hc hr hl
 go_enter Tryz.func7,Tryz.ntmps7
 go_upto_region 2 with (go_at_call 15;refine HC.out.mono ?_;rintro e w1 ⟨A,c,rfl,hn,hb⟩;simp only[triV];have HN:=YV hn;have HB:=YV hb;clear hn hb HC)
 obtain⟨wa,hwa⟩:∃ v,v=(w1.alloc (.cells #[.slice A n c] 36)).alloc (.cells #[.int .i64 z1,.int .i64 z2] 58):=⟨_,rfl⟩
 rw[← hwa]
 have HX1:Hid (Below w1.heap.size w1 wa):=YV (by rw[hwa];exact((Below.refl _ _).alloc (Nat.le_refl _) _).alloc (by simp) _)
 have HB1:Hid (Below w.heap.size w wa):=YV (HB.out.trans (HX1.out.mono HB.out.size))
 have HP1:Hid (Row wa w1.heap.size 36 #[.slice A n c]):=YV (by rw[hwa];exact(Row.made _ _ _).alloc _)
 have HQ1:Hid (Row wa (w1.heap.size+1) 58 #[.int .i64 z1,.int .i64 z2]):=YV (by
  have:=Row.made (w1.alloc (.cells #[.slice A n c] 36)) 58 #[.int .i64 z1,.int .i64 z2]
  rw[World.size_alloc] at this
  rw[hwa];exact this)
 have HN1:Hid (NS wa (Old wa) A ([]:List Nd)):=YV (HN.out.old HX1.out)
 clear hwa
 obtain⟨p1,hp1⟩:∃ p,p=w1.heap.size:=⟨_,rfl⟩
 rw[← hp1] at HP1 HQ1 ⊢
 clear hp1
 go_upto_region 4 with (go_at_call 22;refine(HR.out _).mono ?_;rintro e w2 ⟨A2,c2,rfl,hn2,hb2⟩;have HN2:=YV hn2;have HB2:=YV hb2;clear hn2 hb2 HR)
 obtain⟨wb,hwb⟩:∃ v,v=(w2.alloc (.cells #[.slice A2 n c2] 31)).alloc (.cells #[.int .i64 0,.int .i64 0] 58):=⟨_,rfl⟩
 rw[← hwb]
 have HX2:Hid (Below w2.heap.size w2 wb):=YV (by rw[hwb];exact((Below.refl _ _).alloc (Nat.le_refl _) _).alloc (by simp) _)
 have HX3:Hid (Below wa.heap.size wa wb):=YV (HB2.out.trans (HX2.out.mono HB2.out.size))
 have HB3:Hid (Below w.heap.size w wb):=YV (HB1.out.trans (HX3.out.mono HB1.out.size))
 have HP3:Hid (Row wb p1 36 #[.slice A n c]):=YV (HP1.out.below HX3.out HP1.out.lt)
 have HQ3:Hid (Row wb (p1+1) 58 #[.int .i64 z1,.int .i64 z2]):=YV (HQ1.out.below HX3.out HQ1.out.lt)
 have HR3:Hid (Row wb w2.heap.size 31 #[.slice A2 n c2]):=YV (by rw[hwb];exact(Row.made _ _ _).alloc _)
 have HS3:Hid (Row wb (w2.heap.size+1) 58 #[.int .i64 0,.int .i64 0]):=YV (by
  have:=Row.made (w2.alloc (.cells #[.slice A2 n c2] 31)) 58 #[.int .i64 0,.int .i64 0]
  rw[World.size_alloc] at this
  rw[hwb];exact this)
 have HN3:Hid (NS wb (Old wb) A ([]:List Nd)):=YV (HN1.out.old HX3.out)
 have HN4:Hid (NS wb (Old wb) A2 ([]:List Nd)):=YV (HN2.out.old HX2.out)
 have hlt:p1+1<w2.heap.size:=Nat.lt_of_lt_of_le HQ1.out.lt HB2.out.size
 have hww:w.heap.size≤w2.heap.size:=Nat.le_trans HB1.out.size HB2.out.size
 clear hwb
 obtain⟨p2,hp2⟩:∃ p,p=w2.heap.size:=⟨_,rfl⟩
 rw[← hp2] at HR3 HS3 hlt hww ⊢
 have HLT:=YV hlt
 have HWW:=YV hww
 clear hp2 hlt hww
 have y2:=HS3.out.cell 0
 have y3:=HS3.out.cell 1
 have f2:=HS3.out.free 0
 have f3:=HS3.out.free 1
 simp at y2 y3
 go_upto_region 6 with (go_at_call 23;refine(HPL.out _).mono ?_;rintro e w9 ⟨rfl,rfl⟩)
 obtain⟨w4,hw4⟩:∃ v,v=(wb.setCell ⟨p2+1,0,none⟩ (.int .i64 z1)).setCell ⟨p2+1,1,none⟩ (.int .i64 z2):=⟨_,rfl⟩
 rw[← hw4]
 have hlt:=HLT.out
 have HB4:Hid (Below w.heap.size w w4):=YV (by rw[hw4];exact(HB3.out.setCell (p:=⟨p2+1,0,none⟩) (Nat.le_succ_of_le HWW.out) _).setCell (p:=⟨p2+1,1,none⟩) (Nat.le_succ_of_le HWW.out) _)
 have HP4:Hid (Row w4 p1 36 #[.slice A n c]):=YV (by rw[hw4];exact(HP3.out.far (p:=⟨p2+1,0,none⟩) (by show p1≠p2+1;omega) _).far (p:=⟨p2+1,1,none⟩) (by show p1≠p2+1;omega) _)
 have HQ4:Hid (Row w4 (p1+1) 58 #[.int .i64 z1,.int .i64 z2]):=YV (by rw[hw4];exact(HQ3.out.far (p:=⟨p2+1,0,none⟩) (by show p1+1≠p2+1;omega) _).far (p:=⟨p2+1,1,none⟩) (by show p1+1≠p2+1;omega) _)
 have HR4:Hid (Row w4 p2 31 #[.slice A2 n c2]):=YV (by rw[hw4];exact(HR3.out.far (p:=⟨p2+1,0,none⟩) (by show p2≠p2+1;omega) _).far (p:=⟨p2+1,1,none⟩) (by show p2≠p2+1;omega) _)
 have HS4:Hid (Row w4 (p2+1) 58 #[.int .i64 z1,.int .i64 z2]):=YV (by rw[hw4];have:=(HS3.out.set 0 (.int .i64 z1)).set 1 (.int .i64 z2);simpa using this)
 have hk1:NS w4 (Old w4) A ([]:List Nd):=.inl rfl
 have hk2:NS w4 (Old w4) A2 ([]:List Nd):=.inl rfl
 clear hw4 y2 y3 f2 f3 hlt
 have hlo:=HL.out
 have C1:Hid (∀ w5,Below w4.heap.size w4 w5→Calls Tryz.prog 25 #[.agg #[.slice A n c]] w5 fun q w'=>∃ A3 c3,q=.returned (.agg #[.slice A3 ([]:List Nd).length c3])∧NS w' (Old w') A3 ([]:List Nd)∧Below w5.heap.size w5 w'):=fun w5 h=>by
  rw[HNL.out]
  refine(bk.ownProg_any ([]:List Nd) A c w5 (Old w5) hlo (by omega) (hk1.old h) (fun _ h=>h)).mono ?_
  rintro q w' ⟨A3,c3,rfl,hk3,hb3⟩
  exact⟨A3,c3,rfl,hk3.move fun b hb=>⟨by rcases hb with hb | hb;exact Nat.lt_of_lt_of_le hb hb3.size;exact hb.2,rfl⟩,hb3⟩
 have C2:Hid (∀ w5 A3 c3,Below w4.heap.size w4 w5→NS w5 (Old w5) A3 ([]:List Nd)→Calls Tryz.prog 24 #[.agg #[.slice A3 ([]:List Nd).length c3],.agg #[.slice A2 n c2]] w5 fun q w'=>q=.returned (.bool true)∧Below w5.heap.size w5 w'):=fun w5 A3 c3 h hk3=>by
  rw[HNL.out]
  have:=qd ([]:List Nd) ([]:List Nd) A3 A2 c3 c2 w5 (Old w5) rfl hlo hlo hk3 (hk2.old h) (fun _ h=>h)
  rw[qF] at this
  exact this
 clear hlo hk1 hk2
 refine Tame.wp_region_tame (by kernel_rfl) (by kernel_rfl) Tame.Later.refl Tame.Later.trans ?_
 repeat
  ((first
   |(refine Tame.walk_off (fun _=>rfl) ?_)
   |(refine Tame.walk_known (o:=⟨some 37,_,_,_,_,_⟩) (fun _=>rfl) ?_;apply Exists.intro;refine⟨fun vals w5 hL hd=>?_,?_⟩;(focus(have b:=zm (B:=w4.heap.size) hL (Nat.le_refl _);have r:=HQ4.out.below b HQ4.out.lt;have u0:=r.cell 0;have u1:=r.cell 1;clear hd hL b r;simp at u0 u1;go_simp;exact Tame.Is.mk (Tame.Later.refl _))))
   |(refine Tame.walk_known (o:=⟨some 38,_,_,_,_,_⟩) (fun _=>rfl) ?_;apply Exists.intro;refine⟨fun vals w5 hL hd=>?_,?_⟩;(focus(have b:=zm (B:=w4.heap.size) hL (Nat.le_refl _);have r:=HS4.out.below b HS4.out.lt;have u0:=r.cell 0;have u1:=r.cell 1;clear hd hL b r;simp at u0 u1;go_simp;exact Tame.Is.mk (Tame.Later.refl _))))
   |(refine Tame.walk_known (o:=⟨some 42,_,_,_,_,_⟩) (fun _=>rfl) ?_;apply Exists.intro;refine⟨fun vals w5 hL hd=>?_,?_⟩;(focus(have b:=zm (B:=w4.heap.size) hL (Nat.le_refl _);have r:=HP4.out.below b HP4.out.lt;have u0:=r.cell 0;clear hd hL b r;simp at u0;go_simp;exact Tame.Is.mk (Tame.Later.refl _))))
   |(refine Tame.walk_known (o:=⟨some 44,_,_,_,_,_⟩) (fun _=>rfl) ?_;apply Exists.intro;refine⟨fun vals w5 hL hd=>?_,?_⟩;(focus(have b:=zm (B:=w4.heap.size) hL (Nat.le_refl _);have r:=HR4.out.below b HR4.out.lt;have u0:=r.cell 0;clear hd hL b r;simp at u0;go_simp;exact Tame.Is.mk (Tame.Later.refl _))))
   |(refine Tame.walk_known (o:=⟨some 51,_,_,_,_,_⟩) (fun _=>rfl) ?_;apply Exists.intro;refine⟨fun vals w5 hL hd=>?_,?_⟩;(focus(have b:=zm (B:=w4.heap.size) hL (Nat.le_refl _);have r:=HP4.out.below b HP4.out.lt;have u0:=r.cell 0;clear hd hL b r;simp at u0;go_simp;exact Tame.Is.mk (Tame.Later.refl _))))
   |(refine Tame.walk_some (o:=⟨some 43,_,_,_,_,_⟩) (PX ([]:List Nd)) (fun _=>rfl) (fun v w w' hl h=>h.later hl) (fun vals w5 hL hd=>?_) ?_;(focus(have b:=zm (B:=w4.heap.size) hL (Nat.le_refl _);have HC:=YV (C1.out _ b);clear hd hL b;go_simp;refine HC.out.mono ?_;rintro q w' ⟨A3,c3,rfl,hk3,hb3⟩;exact⟨_,rfl,hb3,A3,c3,rfl,hk3⟩)))
   |(refine Tame.walk_known (o:=⟨some 45,_,_,_,_,_⟩) (fun _=>rfl) ?_;apply Exists.intro;refine⟨fun vals w5 hL hd=>?_,?_⟩;(focus(have b:=zm (B:=w4.heap.size) hL (Nat.le_refl _);have hv:PX ([]:List Nd) (vals 10) w5:=hd ⟨10,.data⟩ (by simp) rfl _ rfl;clear hd hL;obtain⟨A3,c3,hv,hk3⟩:=hv;have HC:=YV (C2.out _ A3 c3 b hk3);clear b hk3;go_simp;exact Tame.known HC.out)))
   |(refine Tame.walk_known (fun _=>rfl) ?_;apply Exists.intro;refine⟨fun vals w5 hL hd=>?_,?_⟩;(focus(go_simp;exact Tame.Is.mk (Tame.Later.refl _)))))
   simp only[Act.put,List.setIfInBounds_toArray,List.set_cons_zero,List.set_cons_succ,List.nil_append,List.cons_append,List.length_cons,List.length_nil,Nat.zero_add,Nat.reduceAdd])
 refine Tame.walk_end fun vals w5 hL _=>?_
 have HB5:Hid (Below w4.heap.size w4 w5):=zm hL (Nat.le_refl _)
 clear hL
 go_wp2_with fail
 go_ret
 exact⟨rfl,HB4.out.trans (HB5.out.mono HB4.out.size)⟩
theorem told_ok (s:T) (l:List Nd) (w:World) (hl:okNs l) (hr1:vD l=true) (hll:l.length≤1000) (ht:zR w) (hc:xD s l 0 0 0 w) (hr:∀ w2,qB s l 0 0 w2) :
  Calls Tryz.prog 7 #[.string ⟨s.toArray⟩] w fun e w'=>e=.returned (.bool true)∧Below w.heap.size w w':=by
 unfold xD at hc
 unfold qB at hr
 obtain⟨n,hnl⟩:∃ n:Nat,n=l.length:=⟨_,rfl⟩
 rw[← hnl] at hc
 simp only[← hnl] at hr
 have HNL:=YV hnl
 clear hnl
 have HC:=YV hc
 have HR:=YV hr
 have HL:=YV hl
 clear hc hr hl
 have HT:=YV ht
 have HR1:=YV hr1
 clear ht hr1
 go_enter Tryz.func7,Tryz.ntmps7
 go_upto_region 2 with (go_at_call 15;refine HC.out.mono ?_;rintro e w1 ⟨A,c,rfl,hn,hb⟩;simp only[triV];have HN:=YV hn;have HB:=YV hb;clear hn hb HC)
 obtain⟨wa,hwa⟩:∃ v,v=(w1.alloc (.cells #[.slice A n c] 36)).alloc (.cells #[.int .i64 0,.int .i64 0] 58):=⟨_,rfl⟩
 rw[← hwa]
 have HX1:Hid (Below w1.heap.size w1 wa):=YV (by rw[hwa];exact((Below.refl _ _).alloc (Nat.le_refl _) _).alloc (by simp) _)
 have HB1:Hid (Below w.heap.size w wa):=YV (HB.out.trans (HX1.out.mono HB.out.size))
 have HP1:Hid (Row wa w1.heap.size 36 #[.slice A n c]):=YV (by rw[hwa];exact(Row.made _ _ _).alloc _)
 have HQ1:Hid (Row wa (w1.heap.size+1) 58 #[.int .i64 0,.int .i64 0]):=YV (by
  have:=Row.made (w1.alloc (.cells #[.slice A n c] 36)) 58 #[.int .i64 0,.int .i64 0]
  rw[World.size_alloc] at this
  rw[hwa];exact this)
 have HN1:Hid (NS wa (Old wa) A l):=YV (HN.out.old HX1.out)
 clear hwa
 obtain⟨p1,hp1⟩:∃ p,p=w1.heap.size:=⟨_,rfl⟩
 rw[← hp1] at HP1 HQ1 ⊢
 clear hp1
 go_upto_region 4 with (go_at_call 22;refine(HR.out _).mono ?_;rintro e w2 ⟨A2,c2,rfl,hn2,hb2⟩;have HN2:=YV hn2;have HB2:=YV hb2;clear hn2 hb2 HR)
 obtain⟨wb,hwb⟩:∃ v,v=(w2.alloc (.cells #[.slice A2 n c2] 31)).alloc (.cells #[.int .i64 0,.int .i64 0] 58):=⟨_,rfl⟩
 rw[← hwb]
 have HX2:Hid (Below w2.heap.size w2 wb):=YV (by rw[hwb];exact((Below.refl _ _).alloc (Nat.le_refl _) _).alloc (by simp) _)
 have HX3:Hid (Below wa.heap.size wa wb):=YV (HB2.out.trans (HX2.out.mono HB2.out.size))
 have HB3:Hid (Below w.heap.size w wb):=YV (HB1.out.trans (HX3.out.mono HB1.out.size))
 have HP3:Hid (Row wb p1 36 #[.slice A n c]):=YV (HP1.out.below HX3.out HP1.out.lt)
 have HQ3:Hid (Row wb (p1+1) 58 #[.int .i64 0,.int .i64 0]):=YV (HQ1.out.below HX3.out HQ1.out.lt)
 have HR3:Hid (Row wb w2.heap.size 31 #[.slice A2 n c2]):=YV (by rw[hwb];exact(Row.made _ _ _).alloc _)
 have HS3:Hid (Row wb (w2.heap.size+1) 58 #[.int .i64 0,.int .i64 0]):=YV (by
  have:=Row.made (w2.alloc (.cells #[.slice A2 n c2] 31)) 58 #[.int .i64 0,.int .i64 0]
  rw[World.size_alloc] at this
  rw[hwb];exact this)
 have HN3:Hid (NS wb (Old wb) A l):=YV (HN1.out.old HX3.out)
 have HN4:Hid (NS wb (Old wb) A2 l):=YV (HN2.out.old HX2.out)
 have hlt:p1+1<w2.heap.size:=Nat.lt_of_lt_of_le HQ1.out.lt HB2.out.size
 have hww:w.heap.size≤w2.heap.size:=Nat.le_trans HB1.out.size HB2.out.size
 clear hwb
 obtain⟨p2,hp2⟩:∃ p,p=w2.heap.size:=⟨_,rfl⟩
 rw[← hp2] at HR3 HS3 hlt hww ⊢
 have HLT:=YV hlt
 have HWW:=YV hww
 clear hp2 hlt hww
 go_upto_region 6 with fail
 obtain⟨w4,hw4⟩:∃ v,v=wb:=⟨_,rfl⟩
 rw[← hw4] at HB3 HP3 HQ3 HR3 HS3 HN3 HN4 ⊢
 have HB4:=HB3
 have HP4:=HP3
 have HQ4:=HQ3
 have HR4:=HR3
 have HS4:=HS3
 have hk1:=HN3.out
 have hk2:=HN4.out
 have HT4:Hid (zR w4):=YV (HT.out.later HB4.out)
 clear hw4
 have hlo:=HL.out
 have C1:Hid (∀ w5,Below w4.heap.size w4 w5→Calls Tryz.prog 25 #[.agg #[.slice A n c]] w5 fun q w'=>∃ A3 c3,q=.returned (.agg #[.slice A3 l.length c3])∧NS w' (Old w') A3 l∧Below w5.heap.size w5 w'):=fun w5 h=>by
  rw[HNL.out]
  refine(bk.ownProg_any l A c w5 (Old w5) hlo (by omega) (hk1.old h) (fun _ h=>h)).mono ?_
  rintro q w' ⟨A3,c3,rfl,hk3,hb3⟩
  exact⟨A3,c3,rfl,hk3.move fun b hb=>⟨by rcases hb with hb | hb;exact Nat.lt_of_lt_of_le hb hb3.size;exact hb.2,rfl⟩,hb3⟩
 have C2:Hid (∀ w5 A3 c3,Below w4.heap.size w4 w5→NS w5 (Old w5) A3 l→Calls Tryz.prog 24 #[.agg #[.slice A3 l.length c3],.agg #[.slice A2 n c2]] w5 fun q w'=>q=.returned (.bool true)∧Below w5.heap.size w5 w'):=fun w5 A3 c3 h hk3=>by
  rw[HNL.out]
  have:=qd l l A3 A2 c3 c2 w5 (Old w5) rfl hlo hlo hk3 (hk2.old h) (fun _ h=>h)
  rw[qF] at this
  exact this
 have C3:Hid (∀ w5,Below w4.heap.size w4 w5→Calls Tryz.prog 26 #[.agg #[.slice A n c]] w5 fun q w'=>q=.returned (.bool true)∧Below w5.heap.size w5 w'):=fun w5 h=>by
  rw[HNL.out]
  have:=Je l A c w5 (Old w5) hlo (HT4.out.later h) (hk1.old h) (fun _ h=>h)
  rw[HR1.out] at this
  exact this
 clear hlo hk1 hk2
 refine Tame.wp_region_tame (by kernel_rfl) (by kernel_rfl) Tame.Later.refl Tame.Later.trans ?_
 repeat
  ((first
   |(refine Tame.walk_off (fun _=>rfl) ?_)
   |(refine Tame.walk_known (o:=⟨some 37,_,_,_,_,_⟩) (fun _=>rfl) ?_;apply Exists.intro;refine⟨fun vals w5 hL hd=>?_,?_⟩;(focus(have b:=zm (B:=w4.heap.size) hL (Nat.le_refl _);have r:=HQ4.out.below b HQ4.out.lt;have u0:=r.cell 0;have u1:=r.cell 1;clear hd hL b r;simp at u0 u1;go_simp;exact Tame.Is.mk (Tame.Later.refl _))))
   |(refine Tame.walk_known (o:=⟨some 38,_,_,_,_,_⟩) (fun _=>rfl) ?_;apply Exists.intro;refine⟨fun vals w5 hL hd=>?_,?_⟩;(focus(have b:=zm (B:=w4.heap.size) hL (Nat.le_refl _);have r:=HS4.out.below b HS4.out.lt;have u0:=r.cell 0;have u1:=r.cell 1;clear hd hL b r;simp at u0 u1;go_simp;exact Tame.Is.mk (Tame.Later.refl _))))
   |(refine Tame.walk_known (o:=⟨some 42,_,_,_,_,_⟩) (fun _=>rfl) ?_;apply Exists.intro;refine⟨fun vals w5 hL hd=>?_,?_⟩;(focus(have b:=zm (B:=w4.heap.size) hL (Nat.le_refl _);have r:=HP4.out.below b HP4.out.lt;have u0:=r.cell 0;clear hd hL b r;simp at u0;go_simp;exact Tame.Is.mk (Tame.Later.refl _))))
   |(refine Tame.walk_known (o:=⟨some 44,_,_,_,_,_⟩) (fun _=>rfl) ?_;apply Exists.intro;refine⟨fun vals w5 hL hd=>?_,?_⟩;(focus(have b:=zm (B:=w4.heap.size) hL (Nat.le_refl _);have r:=HR4.out.below b HR4.out.lt;have u0:=r.cell 0;clear hd hL b r;simp at u0;go_simp;exact Tame.Is.mk (Tame.Later.refl _))))
   |(refine Tame.walk_known (o:=⟨some 51,_,_,_,_,_⟩) (fun _=>rfl) ?_;apply Exists.intro;refine⟨fun vals w5 hL hd=>?_,?_⟩;(focus(have b:=zm (B:=w4.heap.size) hL (Nat.le_refl _);have r:=HP4.out.below b HP4.out.lt;have u0:=r.cell 0;clear hd hL b r;simp at u0;go_simp;exact Tame.Is.mk (Tame.Later.refl _))))
   |(refine Tame.walk_some (o:=⟨some 43,_,_,_,_,_⟩) (PX l) (fun _=>rfl) (fun v w w' hl h=>h.later hl) (fun vals w5 hL hd=>?_) ?_;(focus(have b:=zm (B:=w4.heap.size) hL (Nat.le_refl _);have HC:=YV (C1.out _ b);clear hd hL b;go_simp;refine HC.out.mono ?_;rintro q w' ⟨A3,c3,rfl,hk3,hb3⟩;exact⟨_,rfl,hb3,A3,c3,rfl,hk3⟩)))
   |(refine Tame.walk_known (o:=⟨some 45,_,_,_,_,_⟩) (fun _=>rfl) ?_;apply Exists.intro;refine⟨fun vals w5 hL hd=>?_,?_⟩;(focus(have b:=zm (B:=w4.heap.size) hL (Nat.le_refl _);have hv:PX l (vals 10) w5:=hd ⟨10,.data⟩ (by simp) rfl _ rfl;clear hd hL;obtain⟨A3,c3,hv,hk3⟩:=hv;have HC:=YV (C2.out _ A3 c3 b hk3);clear b hk3;go_simp;exact Tame.known HC.out)))
   |(refine Tame.walk_known (o:=⟨some 52,_,_,_,_,_⟩) (fun _=>rfl) ?_;apply Exists.intro;refine⟨fun vals w5 hL hd=>?_,?_⟩;(focus(have b:=zm (B:=w4.heap.size) hL (Nat.le_refl _);have HC:=YV (C3.out _ b);clear hd hL b;go_simp;exact Tame.known HC.out)))
   |(refine Tame.walk_known (fun _=>rfl) ?_;apply Exists.intro;refine⟨fun vals w5 hL hd=>?_,?_⟩;(focus(go_simp;exact Tame.Is.mk (Tame.Later.refl _)))))
   simp only[Act.put,List.setIfInBounds_toArray,List.set_cons_zero,List.set_cons_succ,List.nil_append,List.cons_append,List.length_cons,List.length_nil,Nat.zero_add,Nat.reduceAdd])
 refine Tame.walk_end fun vals w5 hL _=>?_
 have HB5:Hid (Below w4.heap.size w4 w5):=zm hL (Nat.le_refl _)
 clear hL
 go_wp2_with fail
 go_ret
 exact⟨rfl,HB4.out.trans (HB5.out.mono HB4.out.size)⟩
end Go.Proofs.YtdabndiaflagpaaGreatDoor
namespace Go.Proofs.YtdabndiaflagpaaGreatDoor
open Go.RowKit
theorem xI (s:T) (w:World) (hs:s.length≤999999) (he:je w) (hpe:zv w.heap.size w) (ht:zR w) :
  Calls Tryz.prog 7 #[.string ⟨s.toArray⟩] w fun e w'=>e=.returned (.bool true)∧Below w.heap.size w w':=by
 have hr:∀ w2,Calls Tryz.prog 22 #[.string ⟨s.toArray⟩] w2 (qX s w2):=fun w2=>xe s w2 hs
 have href:∀ (l:List Nd) (a:Nat) (k:Int),j6 s=(l,a,k)→∀ w2,qB s l a k w2:=fun l a k hps w2=>(hr w2).mono fun e w' h=>by
  unfold qX at h
  rw[hps] at h
  obtain⟨A,c,he,hn,hb⟩:=h
  exact⟨A,c,he,hn.move fun b hb=>⟨hb.2,rfl⟩,hb⟩
 rcases qp s with ⟨ts,h⟩ | ⟨a,code,h,hc⟩
 ·have hend:=yo h
  have hw:=yK h (by omega)
  have hps:j6 s=outP (jx (ts.length+1) [] ts):=by unfold j6;rw[h];rfl
  cases hp:jx (ts.length+1) [] ts with
  | ok ns L=>
   obtain⟨h1,h2,h3⟩:=xR hw.1 (by omega) hp
   rw[hp] at hps
   exact told_ok s ns w h2 h1 h3 ht ((xU h hp w hs he hpe).mono fun e w' ⟨A,c,he,hb,hn⟩=>⟨A,c,he,hn.move fun b hb=>⟨hb.2,rfl⟩,hb⟩) (href ns 0 0 hps)
  | bad k a=>
   obtain⟨hk,ha⟩:=JY (N:=s.length) hend.2 hp
   rw[hp] at hps
   exact xH s a k w hk ha (by omega) ((qL h hp w hs he hpe).mono fun e w' ⟨he,hb⟩=>⟨none,0,he,.inl rfl,hb⟩) (href [] a k hps)
 ·have hps:j6 s=([],a,code):=by unfold j6;rw[h];show (if code=0 then _ else _)=_;rw[if_neg hc]
  exact xH s a code w hc (kc hc h) (by omega) ((ZT hc h w (by omega) he).mono fun e w' ⟨he,hb⟩=>⟨none,0,he,.inl rfl,hb⟩) (href [] a code hps)
theorem qj (s:T) (w:World) (he:je w) (hpe:zv w.heap.size w) (ht:zR w) :
  Calls Tryz.prog 3 #[.string ⟨s.toArray⟩] w fun e w'=>e=.returned (.bool true)∧Below w.heap.size w w':=by
 by_cases h2000:(2000:Int)<(s.length:Int)
 ·clear he hpe ht
  go_enter Tryz.func3,Tryz.ntmps3
  go_wp2_with fail
  go_ret
  exact⟨rfl,Below.refl _ _⟩
 ·have HT:=YV (xI s w (by omega) he hpe ht)
  have HA:Hid (∀ w2,Below w.heap.size w w2→Calls Tryz.prog 8 #[] w2 fun e w'=>e=.returned (.bool true)∧Below w2.heap.size w2 w'):=YV fun w2 hb=>qx w2 (he.later hb) (hpe.rise hb hb.size)
  clear he hpe ht
  go_enter Tryz.func3,Tryz.ntmps3
  go_wp2_with (first
   |(go_at_call 7;refine HT.out.mono ?_;rintro e w1 ⟨rfl,hb1⟩;have HB1:=YV hb1;clear hb1 HT)
   |(go_at_call 8;refine(HA.out _ HB1.out).mono ?_;rintro e w2 ⟨rfl,hb2⟩;have HB2:=YV (HB1.out.trans (hb2.mono HB1.out.size));clear hb2 HA))
  go_ret
  exact⟨rfl,HB2.out⟩
end Go.Proofs.YtdabndiaflagpaaGreatDoor
