/- Parts: PsY5. -/
import Derived.Test.YtdabndiaflagpaaGreatDoorK25
set_option maxRecDepth 100000
set_option maxHeartbeats 4000000
namespace Go.Proofs.YtdabndiaflagpaaGreatDoor
open Go.RowKit
theorem ZQ (g c:Nat) (ts:List Tk) (b f o:Nat) (L:List Tk) (w:World) (h:Rs g c ts w b o (.ok () L)) (hK3:hdK L=3) (R:Pr X) (hR:R=.ok (.mk 0 0 (hdN L) [] []) L.tail) :
  Calls Tryz.prog 186 #[.pointer (some ⟨b,0,none⟩)] w (RRes g c ts b o w (XV w.heap.size) R):=by
 have hlt:=h.lt
 have ho4:=h.open_
 have hwf:WFt L:=h.good_
 have HN0:Hid (∀ w1,Rs g c ts w1 b o (.ok () L)→Calls Tryz.prog 43 #[.pointer (some ⟨b,0,none⟩)] w1 fun e w'=>e=.returned (.agg #[.int .i64 (hdK L),.string ⟨(hdT L).toArray⟩,.int .i64 (hdN L),.int .i64 (hdF L:Int)])∧Below w1.heap.size w1 w'):=YV fun w1 h1=>rNow g c ts b o (.ok () L) w1 h1
 obtain⟨F0,hF0⟩:∃ F0:Int,F0=(hdF L:Int):=⟨_,rfl⟩
 obtain⟨N,hN⟩:∃ N,N=hdN L:=⟨_,rfl⟩
 obtain⟨K,hK⟩:∃ K,K=hdK L:=⟨_,rfl⟩
 obtain⟨Y,hY⟩:∃ Y:ByteArray,Y=⟨(hdT L).toArray⟩:=⟨_,rfl⟩
 rw[← hF0,← hN,← hK,← hY] at HN0
 obtain⟨v0,hv0⟩:∃ v,v=w.alloc (.cells #[.int .i64 0,.int .i64 0,.int .i64 0,.string ⟨#[]⟩,.slice none 0 0] 52):=⟨_,rfl⟩
 have hv:Below w.heap.size w v0:=by rw[hv0];exact(Below.refl _ _).alloc (Nat.le_refl _) _
 have HV:=YV hv
 have hz0:v0.heap.size=w.heap.size+1:=by rw[hv0];simp
 have HZ0:=YV hz0
 have HR:Hid (Row v0 w.heap.size 52 z5):=YV (by rw[hv0];exact Row.made _ _ _)
 have HS0:Hid (Rs g c ts v0 b o (.ok () L)):=YV (h.later hv)
 obtain⟨q,hq⟩:∃ q,q=w.heap.size:=⟨_,rfl⟩
 have HQ:=YV hq
 rw[← hq] at HR hz0 hlt
 have hqb:q≠b:=by omega
 have hqv:q<v0.heap.size:=by omega
 have hbv:b<v0.heap.size:=by omega
 have HFIN:Hid (∀ (wk:World) (x:X) (A:Option Addr) (cx:Nat) (old:Array Value),v0.grownBy wk (some b)→Row wk q 52 old→KS wk (Bt (q+1) wk.heap.size) A x.ks→Rs g c ts wk b o R.unit→(∀ y L,R=.ok y L→x=y)→_):=YV fun wk x A cx old h1 h2 h3 h4 h5=>vX (cx:=cx) hq (by omega) hv h1 h2 h3 h4 h5
 have HWT:Hid (∀ M,(.ok () L:Pr Unit)=.ok () M→WFt M.tail):=YV fun M e=>by injection e with _ e;rw[← e];exact(j4 hwf hK3 (by decide)).1
 obtain rfl:K=3:=hK.trans hK3
 have HRR:Hid (R=.ok (.mk 0 0 N [] []) L.tail):=YV (by rw[hR,hN])
 clear hR hK hK3 hwf hN hY hF0
 clear h hv hz0
 go_enter Tryz.func186,Tryz.ntmps186
 go_upto_region 1 with fail
 rw[← hv0,← hq]
 clear hv0 hq
 go_upto_region 2 with (go_at_call 43;refine(HN0.out _ HS0.out).mono ?_;rintro e w1 ⟨rfl,hb⟩;have HS1:Hid (Rs g c ts (w1.alloc (.cells #[.int .i64 3,.string Y,.int .i64 N,.int .i64 F0] 113)) b o (.ok () L)):=YV ((HS0.out.later hb).later ((Below.refl _ _).alloc (Nat.le_refl _) _));have HG1:Hid (v0.grownBy (w1.alloc (.cells #[.int .i64 3,.string Y,.int .i64 N,.int .i64 F0] 113)) (some b)):=YV (zi (zb hb b) _);have HT1:Hid (Bx b v0 w1.heap.size 113 #[.int .i64 3,.string Y,.int .i64 N,.int .i64 F0] (w1.alloc (.cells #[.int .i64 3,.string Y,.int .i64 N,.int .i64 F0] 113))):=YV ⟨Row.made _ _ _,hb.size,hbv⟩;clear hb HN0)
 generalize w1.alloc (.cells #[.int .i64 3,.string Y,.int .i64 N,.int .i64 F0] 113)=v1 at HS1 HG1 HT1 ⊢
 obtain⟨m,hm⟩:∃ m,m=w1.heap.size:=⟨_,rfl⟩
 rw[← hm] at HT1 ⊢
 clear hm HS0
 have d0:=HT1.out.row.cell 0
 have d1:=HT1.out.row.cell 1
 have d2:=HT1.out.row.cell 2
 have dz:=HT1.out.row.lt
 simp at d0 d1 d2
 obtain⟨i1,op1,k1,a1,hr1,ha1⟩:=HS1.out.row_
 have HRW1:=YV hr1
 have HA1:=YV ha1
 have c1:=hr1.cell 1
 have f1:=hr1.free 1
 simp[zg] at c1
 clear hr1 ha1
 go_upto_region 4 with fail
 have HS2:Hid (Rs g c ts (v1.setCell ⟨b,1,none⟩ (.int .i64 (wrap64 (i1+1)))) b o (.ok () L.tail)):=YV (HS1.out.inc HRW1.out HA1.out HWT.out)
 have hgs:v1.grownBy (v1.setCell ⟨b,1,none⟩ (.int .i64 (wrap64 (i1+1)))) (some b):=zf (zd v1 b) 1 _
 have HG2:=YV (za HG1.out hgs)
 have HT2:=YV (HT1.out.grow hgs)
 clear hgs c1 f1 HRW1 HA1
 generalize v1.setCell ⟨b,1,none⟩ (.int .i64 (wrap64 (i1+1)))=v2 at HS2 HG2 HT2 ⊢
 clear d0 d1 d2 dz HT1
 have d2:=HT2.out.row.cell 2
 have dz:=HT2.out.row.lt
 simp at d2
 have HROW:=HR.out.grown HG2.out (fun e=>by injection e with e;omega)
 go_wp2_with (refine wpList_store_row (o:=⟨none,Op.store _ _ _,_,_,_,_⟩) rfl _ _ _ rfl q (x5 (.mk 0 0 N [] []) none 0) rfl rfl _ _ HROW zo rfl (jf _ _ _) ?_)
 obtain⟨t1,t2⟩:=HFIN.out _ (.mk 0 0 N [] []) none 0 _ HG2.out HROW (.inl rfl) (by rw[HRR.out];exact HS2.out) (fun y L' e=>by rw[HRR.out] at e;injection e)
 exact bodyPost_ret (results_cell_row rfl _ _ q _ _ _ _ rfl t1 Tryz.underlying52 rfl zo) rfl t2
theorem JV (g c:Nat) (ts:List Tk) (b f o:Nat) (L:List Tk) (w:World) (h:Rs g c ts w b o (.ok () L)) (hW:isP jK L=true) (hne:hdK L≠3) (R:Pr X) (hR:R=.ok (.mk 1 0 1 [] []) L.tail) :
  Calls Tryz.prog 186 #[.pointer (some ⟨b,0,none⟩)] w (RRes g c ts b o w (XV w.heap.size) R):=by
 have hlt:=h.lt
 have ho4:=h.open_
 have hwf:WFt L:=h.good_
 have HN0:Hid (∀ w1,Rs g c ts w1 b o (.ok () L)→Calls Tryz.prog 43 #[.pointer (some ⟨b,0,none⟩)] w1 fun e w'=>e=.returned (.agg #[.int .i64 (hdK L),.string ⟨(hdT L).toArray⟩,.int .i64 (hdN L),.int .i64 (hdF L:Int)])∧Below w1.heap.size w1 w'):=YV fun w1 h1=>rNow g c ts b o (.ok () L) w1 h1
 obtain⟨F0,hF0⟩:∃ F0:Int,F0=(hdF L:Int):=⟨_,rfl⟩
 obtain⟨N,hN⟩:∃ N,N=hdN L:=⟨_,rfl⟩
 obtain⟨K,hK⟩:∃ K,K=hdK L:=⟨_,rfl⟩
 obtain⟨Y,hY⟩:∃ Y:ByteArray,Y=⟨(hdT L).toArray⟩:=⟨_,rfl⟩
 rw[← hF0,← hN,← hK,← hY] at HN0
 obtain⟨v0,hv0⟩:∃ v,v=w.alloc (.cells #[.int .i64 0,.int .i64 0,.int .i64 0,.string ⟨#[]⟩,.slice none 0 0] 52):=⟨_,rfl⟩
 have hv:Below w.heap.size w v0:=by rw[hv0];exact(Below.refl _ _).alloc (Nat.le_refl _) _
 have HV:=YV hv
 have hz0:v0.heap.size=w.heap.size+1:=by rw[hv0];simp
 have HZ0:=YV hz0
 have HR:Hid (Row v0 w.heap.size 52 z5):=YV (by rw[hv0];exact Row.made _ _ _)
 have HS0:Hid (Rs g c ts v0 b o (.ok () L)):=YV (h.later hv)
 obtain⟨q,hq⟩:∃ q,q=w.heap.size:=⟨_,rfl⟩
 have HQ:=YV hq
 rw[← hq] at HR hz0 hlt
 have hqb:q≠b:=by omega
 have hqv:q<v0.heap.size:=by omega
 have hbv:b<v0.heap.size:=by omega
 have HFIN:Hid (∀ (wk:World) (x:X) (A:Option Addr) (cx:Nat) (old:Array Value),v0.grownBy wk (some b)→Row wk q 52 old→KS wk (Bt (q+1) wk.heap.size) A x.ks→Rs g c ts wk b o R.unit→(∀ y L,R=.ok y L→x=y)→_):=YV fun wk x A cx old h1 h2 h3 h4 h5=>vX (cx:=cx) hq (by omega) hv h1 h2 h3 h4 h5
 have H1:Hid (∀ w1,Rs g c ts w1 b o (.ok () L)→Calls Tryz.prog 44 #[.pointer (some ⟨b,0,none⟩),.string ⟨#[116,114,117,101]⟩] w1 fun e w'=>e=.returned (.bool true)∧Below w1.heap.size w1 w'):=YV fun w1 h1=>(rIs g c ts b o jK (.ok () L) w1 h1 (by decide)).mono fun e w' hh=>⟨by rw[hh.1];show Ending.returned (.bool (isP jK _))=_;rw[hW],hh.2⟩
 have HWT:Hid (∀ M,(.ok () L:Pr Unit)=.ok () M→WFt M.tail):=YV fun M e=>by injection e with _ e;rw[← e];exact(zI hwf hW (by decide)).1
 have hyw:hdT L=jK:=of_decide_eq_true hW
 obtain rfl:Y=⟨#[116,114,117,101]⟩:=by rw[hY,hyw]
 have hK3:¬ K=3:=by rw[hK];exact hne
 have HRR:=YV hR
 clear hR hK hwf hN hY hF0 hW hyw hne
 clear h hv hz0
 go_enter Tryz.func186,Tryz.ntmps186
 go_upto_region 1 with fail
 rw[← hv0,← hq]
 clear hv0 hq
 go_upto_region 2 with (go_at_call 43;refine(HN0.out _ HS0.out).mono ?_;rintro e w1 ⟨rfl,hb⟩;have HS1:Hid (Rs g c ts (w1.alloc (.cells #[.int .i64 K,.string ⟨#[116,114,117,101]⟩,.int .i64 N,.int .i64 F0] 113)) b o (.ok () L)):=YV ((HS0.out.later hb).later ((Below.refl _ _).alloc (Nat.le_refl _) _));have HG1:Hid (v0.grownBy (w1.alloc (.cells #[.int .i64 K,.string ⟨#[116,114,117,101]⟩,.int .i64 N,.int .i64 F0] 113)) (some b)):=YV (zi (zb hb b) _);have HT1:Hid (Bx b v0 w1.heap.size 113 #[.int .i64 K,.string ⟨#[116,114,117,101]⟩,.int .i64 N,.int .i64 F0] (w1.alloc (.cells #[.int .i64 K,.string ⟨#[116,114,117,101]⟩,.int .i64 N,.int .i64 F0] 113))):=YV ⟨Row.made _ _ _,hb.size,hbv⟩;clear hb HN0)
 generalize w1.alloc (.cells #[.int .i64 K,.string ⟨#[116,114,117,101]⟩,.int .i64 N,.int .i64 F0] 113)=v1 at HS1 HG1 HT1 ⊢
 obtain⟨m,hm⟩:∃ m,m=w1.heap.size:=⟨_,rfl⟩
 rw[← hm] at HT1 ⊢
 clear hm HS0
 have d0:=HT1.out.row.cell 0
 have d1:=HT1.out.row.cell 1
 have d2:=HT1.out.row.cell 2
 have dz:=HT1.out.row.lt
 simp at d0 d1 d2
 go_upto_region 6 with (go_at_call 44;refine(H1.out _ HS1.out).mono ?_;rintro e w2 ⟨rfl,hb⟩;have HS2:=YV (HS1.out.later hb);have HG2:=YV (za HG1.out (zb hb b));have HT2:=YV (HT1.out.below hb);clear hb H1)
 clear d0 d1 d2 dz
 obtain⟨i2,op2,k2,a2,hr2,ha2⟩:=HS2.out.row_
 have HRW2:=YV hr2
 have HA2:=YV ha2
 have c1:=hr2.cell 1
 have f1:=hr2.free 1
 simp[zg] at c1
 clear hr2 ha2
 go_upto_region 7 with fail
 have HS4:Hid (Rs g c ts (w2.setCell ⟨b,1,none⟩ (.int .i64 (wrap64 (i2+1)))) b o (.ok () L.tail)):=YV (HS2.out.inc HRW2.out HA2.out HWT.out)
 have hgs:w2.grownBy (w2.setCell ⟨b,1,none⟩ (.int .i64 (wrap64 (i2+1)))) (some b):=zf (zd w2 b) 1 _
 have HG4:=YV (za HG2.out hgs)
 have HT4:=YV (HT2.out.grow hgs)
 clear hgs c1 f1 HRW2 HA2
 generalize w2.setCell ⟨b,1,none⟩ (.int .i64 (wrap64 (i2+1)))=v4 at HS4 HG4 HT4 ⊢
 go_upto_region 8 with fail
 have HG5:=YV (zi HG4.out (.cells #[.int .i64 1,.int .i64 0,.int .i64 0,.string ⟨#[]⟩,.slice none 0 0] 52))
 have HS5:=YV (HS4.out.later ((Below.refl _ _).alloc (Nat.le_refl _) (.cells #[.int .i64 1,.int .i64 0,.int .i64 0,.string ⟨#[]⟩,.slice none 0 0] 52)))
 have HT5:=YV (HT4.out.below ((Below.refl _ _).alloc (Nat.le_refl _) (.cells #[.int .i64 1,.int .i64 0,.int .i64 0,.string ⟨#[]⟩,.slice none 0 0] 52)))
 have HE5:Hid (Bx b v0 v4.heap.size 52 #[.int .i64 1,.int .i64 0,.int .i64 0,.string ⟨#[]⟩,.slice none 0 0] (v4.alloc (.cells #[.int .i64 1,.int .i64 0,.int .i64 0,.string ⟨#[]⟩,.slice none 0 0] 52))):=YV ⟨Row.made _ _ _,HG4.out.size,hbv⟩
 generalize v4.alloc (.cells #[.int .i64 1,.int .i64 0,.int .i64 0,.string ⟨#[]⟩,.slice none 0 0] 52)=v5 at HG5 HS5 HT5 HE5 ⊢
 obtain⟨m5,hm5⟩:∃ m,m=v4.heap.size:=⟨_,rfl⟩
 rw[← hm5] at HE5 ⊢
 clear hm5
 have d1:=HT5.out.row.cell 1
 have dz:=HT5.out.row.lt
 simp at d1
 have e2:=HE5.out.row.cell 2
 have g2:=HE5.out.row.free 2
 have ez:=HE5.out.row.lt
 simp at e2
 go_upto_region 10 with fail
 have hgs:v5.grownBy (v5.setCell ⟨m5,2,none⟩ (.int .i64 1)) (some m5):=zf (zd v5 m5) 2 _
 have hm5:=HE5.out.lo
 have HG6:Hid (v0.grownBy (v5.setCell ⟨m5,2,none⟩ (.int .i64 1)) (some b)):=YV (jb HG5.out hgs (fun k e=>by injection e with e;omega))
 have HS6:=YV (HS5.out.grown hgs (fun k e=>by injection e with e;omega))
 have hE6:=HE5.out.row.set 2 (.int .i64 1)
 simp at hE6
 clear hgs d1 dz e2 g2 ez
 generalize v5.setCell ⟨m5,2,none⟩ (.int .i64 1)=v6 at HG6 HS6 hE6 ⊢
 have e0:=hE6.cell 0
 have e1:=hE6.cell 1
 have e2:=hE6.cell 2
 have e3:=hE6.cell 3
 have e4:=hE6.cell 4
 have ez:=hE6.lt
 simp at e0 e1 e2 e3 e4
 have HROW:=HR.out.grown HG6.out (fun e=>by injection e with e;omega)
 clear hE6
 go_wp2_with (refine wpList_store_row (o:=⟨none,Op.store _ _ _,_,_,_,_⟩) rfl _ _ _ rfl q (x5 (.mk 1 0 1 [] []) none 0) rfl rfl _ _ HROW zo rfl (jf _ _ _) ?_)
 obtain⟨t1,t2⟩:=HFIN.out _ (.mk 1 0 1 [] []) none 0 _ HG6.out HROW (.inl rfl) (by rw[HRR.out];exact HS6.out) (fun y L' e=>by rw[HRR.out] at e;injection e)
 exact bodyPost_ret (results_cell_row rfl _ _ q _ _ _ _ rfl t1 Tryz.underlying52 rfl zo) rfl t2
theorem kE (g c:Nat) (ts:List Tk) (b f o:Nat) (L:List Tk) (w:World) (h:Rs g c ts w b o (.ok () L)) (hW:isP ju L=true) (hne:hdK L≠3) (R:Pr X) (hR:R=.ok (.mk 1 0 0 [] []) L.tail) :
  Calls Tryz.prog 186 #[.pointer (some ⟨b,0,none⟩)] w (RRes g c ts b o w (XV w.heap.size) R):=by
 have hlt:=h.lt
 have ho4:=h.open_
 have hwf:WFt L:=h.good_
 have HN0:Hid (∀ w1,Rs g c ts w1 b o (.ok () L)→Calls Tryz.prog 43 #[.pointer (some ⟨b,0,none⟩)] w1 fun e w'=>e=.returned (.agg #[.int .i64 (hdK L),.string ⟨(hdT L).toArray⟩,.int .i64 (hdN L),.int .i64 (hdF L:Int)])∧Below w1.heap.size w1 w'):=YV fun w1 h1=>rNow g c ts b o (.ok () L) w1 h1
 obtain⟨F0,hF0⟩:∃ F0:Int,F0=(hdF L:Int):=⟨_,rfl⟩
 obtain⟨N,hN⟩:∃ N,N=hdN L:=⟨_,rfl⟩
 obtain⟨K,hK⟩:∃ K,K=hdK L:=⟨_,rfl⟩
 obtain⟨Y,hY⟩:∃ Y:ByteArray,Y=⟨(hdT L).toArray⟩:=⟨_,rfl⟩
 rw[← hF0,← hN,← hK,← hY] at HN0
 obtain⟨v0,hv0⟩:∃ v,v=w.alloc (.cells #[.int .i64 0,.int .i64 0,.int .i64 0,.string ⟨#[]⟩,.slice none 0 0] 52):=⟨_,rfl⟩
 have hv:Below w.heap.size w v0:=by rw[hv0];exact(Below.refl _ _).alloc (Nat.le_refl _) _
 have HV:=YV hv
 have hz0:v0.heap.size=w.heap.size+1:=by rw[hv0];simp
 have HZ0:=YV hz0
 have HR:Hid (Row v0 w.heap.size 52 z5):=YV (by rw[hv0];exact Row.made _ _ _)
 have HS0:Hid (Rs g c ts v0 b o (.ok () L)):=YV (h.later hv)
 obtain⟨q,hq⟩:∃ q,q=w.heap.size:=⟨_,rfl⟩
 have HQ:=YV hq
 rw[← hq] at HR hz0 hlt
 have hqb:q≠b:=by omega
 have hqv:q<v0.heap.size:=by omega
 have hbv:b<v0.heap.size:=by omega
 have HFIN:Hid (∀ (wk:World) (x:X) (A:Option Addr) (cx:Nat) (old:Array Value),v0.grownBy wk (some b)→Row wk q 52 old→KS wk (Bt (q+1) wk.heap.size) A x.ks→Rs g c ts wk b o R.unit→(∀ y L,R=.ok y L→x=y)→_):=YV fun wk x A cx old h1 h2 h3 h4 h5=>vX (cx:=cx) hq (by omega) hv h1 h2 h3 h4 h5
 have hWT:isP jK L=false:=by
                    have e:hdT L=ju:=of_decide_eq_true hW
                    unfold isP;rw[e];decide
 have H1:Hid (∀ w1,Rs g c ts w1 b o (.ok () L)→Calls Tryz.prog 44 #[.pointer (some ⟨b,0,none⟩),.string ⟨#[116,114,117,101]⟩] w1 fun e w'=>e=.returned (.bool false)∧Below w1.heap.size w1 w'):=YV fun w1 h1=>(rIs g c ts b o jK (.ok () L) w1 h1 (by decide)).mono fun e w' hh=>⟨by rw[hh.1];show Ending.returned (.bool (isP jK _))=_;rw[hWT],hh.2⟩
 have H2:Hid (∀ w1,Rs g c ts w1 b o (.ok () L)→Calls Tryz.prog 44 #[.pointer (some ⟨b,0,none⟩),.string ⟨#[102,97,108,115,101]⟩] w1 fun e w'=>e=.returned (.bool true)∧Below w1.heap.size w1 w'):=YV fun w1 h1=>(rIs g c ts b o ju (.ok () L) w1 h1 (by decide)).mono fun e w' hh=>⟨by rw[hh.1];show Ending.returned (.bool (isP ju _))=_;rw[hW],hh.2⟩
 have HWT:Hid (∀ M,(.ok () L:Pr Unit)=.ok () M→WFt M.tail):=YV fun M e=>by injection e with _ e;rw[← e];exact(zI hwf hW (by decide)).1
 have hyw:hdT L=ju:=of_decide_eq_true hW
 obtain rfl:Y=⟨#[102,97,108,115,101]⟩:=by rw[hY,hyw]
 have hK3:¬ K=3:=by rw[hK];exact hne
 have HRR:=YV hR
 clear hR hK hwf hN hY hF0 hW hyw hne hWT
 clear h hv hz0
 go_enter Tryz.func186,Tryz.ntmps186
 go_upto_region 1 with fail
 rw[← hv0,← hq]
 clear hv0 hq
 go_upto_region 2 with (go_at_call 43;refine(HN0.out _ HS0.out).mono ?_;rintro e w1 ⟨rfl,hb⟩;have HS1:Hid (Rs g c ts (w1.alloc (.cells #[.int .i64 K,.string ⟨#[102,97,108,115,101]⟩,.int .i64 N,.int .i64 F0] 113)) b o (.ok () L)):=YV ((HS0.out.later hb).later ((Below.refl _ _).alloc (Nat.le_refl _) _));have HG1:Hid (v0.grownBy (w1.alloc (.cells #[.int .i64 K,.string ⟨#[102,97,108,115,101]⟩,.int .i64 N,.int .i64 F0] 113)) (some b)):=YV (zi (zb hb b) _);have HT1:Hid (Bx b v0 w1.heap.size 113 #[.int .i64 K,.string ⟨#[102,97,108,115,101]⟩,.int .i64 N,.int .i64 F0] (w1.alloc (.cells #[.int .i64 K,.string ⟨#[102,97,108,115,101]⟩,.int .i64 N,.int .i64 F0] 113))):=YV ⟨Row.made _ _ _,hb.size,hbv⟩;clear hb HN0)
 generalize w1.alloc (.cells #[.int .i64 K,.string ⟨#[102,97,108,115,101]⟩,.int .i64 N,.int .i64 F0] 113)=v1 at HS1 HG1 HT1 ⊢
 obtain⟨m,hm⟩:∃ m,m=w1.heap.size:=⟨_,rfl⟩
 rw[← hm] at HT1 ⊢
 clear hm HS0
 have d0:=HT1.out.row.cell 0
 have d1:=HT1.out.row.cell 1
 have d2:=HT1.out.row.cell 2
 have dz:=HT1.out.row.lt
 simp at d0 d1 d2
 go_upto_region 6 with (first|(go_at_call 44;refine(H1.out _ HS1.out).mono ?_;rintro e w2 ⟨rfl,hb⟩;have HS2:=YV (HS1.out.later hb);have HG2:=YV (za HG1.out (zb hb b));have HT2:=YV (HT1.out.below hb);clear hb H1)|(go_at_call 44;refine(H2.out _ HS2.out).mono ?_;rintro e w3 ⟨rfl,hb⟩;have HS3:=YV (HS2.out.later hb);have HG3:=YV (za HG2.out (zb hb b));have HT3:=YV (HT2.out.below hb);clear hb H2))
 clear d0 d1 d2 dz
 obtain⟨i3,op3,k3,a3,hr3,ha3⟩:=HS3.out.row_
 have HRW3:=YV hr3
 have HA3:=YV ha3
 have c1:=hr3.cell 1
 have f1:=hr3.free 1
 simp[zg] at c1
 clear hr3 ha3
 go_upto_region 7 with fail
 have HS4:Hid (Rs g c ts (w3.setCell ⟨b,1,none⟩ (.int .i64 (wrap64 (i3+1)))) b o (.ok () L.tail)):=YV (HS3.out.inc HRW3.out HA3.out HWT.out)
 have hgs:w3.grownBy (w3.setCell ⟨b,1,none⟩ (.int .i64 (wrap64 (i3+1)))) (some b):=zf (zd w3 b) 1 _
 have HG4:=YV (za HG3.out hgs)
 have HT4:=YV (HT3.out.grow hgs)
 clear hgs c1 f1 HRW3 HA3
 generalize w3.setCell ⟨b,1,none⟩ (.int .i64 (wrap64 (i3+1)))=v4 at HS4 HG4 HT4 ⊢
 go_upto_region 8 with fail
 have HG5:=YV (zi HG4.out (.cells #[.int .i64 1,.int .i64 0,.int .i64 0,.string ⟨#[]⟩,.slice none 0 0] 52))
 have HS5:=YV (HS4.out.later ((Below.refl _ _).alloc (Nat.le_refl _) (.cells #[.int .i64 1,.int .i64 0,.int .i64 0,.string ⟨#[]⟩,.slice none 0 0] 52)))
 have HT5:=YV (HT4.out.below ((Below.refl _ _).alloc (Nat.le_refl _) (.cells #[.int .i64 1,.int .i64 0,.int .i64 0,.string ⟨#[]⟩,.slice none 0 0] 52)))
 have HE5:Hid (Bx b v0 v4.heap.size 52 #[.int .i64 1,.int .i64 0,.int .i64 0,.string ⟨#[]⟩,.slice none 0 0] (v4.alloc (.cells #[.int .i64 1,.int .i64 0,.int .i64 0,.string ⟨#[]⟩,.slice none 0 0] 52))):=YV ⟨Row.made _ _ _,HG4.out.size,hbv⟩
 generalize v4.alloc (.cells #[.int .i64 1,.int .i64 0,.int .i64 0,.string ⟨#[]⟩,.slice none 0 0] 52)=v5 at HG5 HS5 HT5 HE5 ⊢
 obtain⟨m5,hm5⟩:∃ m,m=v4.heap.size:=⟨_,rfl⟩
 rw[← hm5] at HE5 ⊢
 clear hm5
 have d1:=HT5.out.row.cell 1
 have dz:=HT5.out.row.lt
 simp at d1
 go_upto_region 10 with fail
 have HG6:=HG5
 have HS6:=HS5
 have hE6:=HE5.out.row
 have hm5:=HE5.out.lo
 have e0:=hE6.cell 0
 have e1:=hE6.cell 1
 have e2:=hE6.cell 2
 have e3:=hE6.cell 3
 have e4:=hE6.cell 4
 have ez:=hE6.lt
 simp at e0 e1 e2 e3 e4
 have HROW:=HR.out.grown HG6.out (fun e=>by injection e with e;omega)
 clear hE6
 go_wp2_with (refine wpList_store_row (o:=⟨none,Op.store _ _ _,_,_,_,_⟩) rfl _ _ _ rfl q (x5 (.mk 1 0 0 [] []) none 0) rfl rfl _ _ HROW zo rfl (jf _ _ _) ?_)
 obtain⟨t1,t2⟩:=HFIN.out _ (.mk 1 0 0 [] []) none 0 _ HG6.out HROW (.inl rfl) (by rw[HRR.out];exact HS6.out) (fun y L' e=>by rw[HRR.out] at e;injection e)
 exact bodyPost_ret (results_cell_row rfl _ _ q _ _ _ _ rfl t1 Tryz.underlying52 rfl zo) rfl t2
theorem Jb {f o:Nat} {L:List Tk} {x:X} {ry:Pr X} (hry:ry=(jN (jP o (.ok () L))).bind fun _ L=>zn f L (more o)) (hi:isP [40] L=true) (hx:∀ v L,ry=.ok v L→x=v) :
  (zD (f+1) L o).unit=(ry.unit.bind fun _ L=>ze [41] L)∧∀ v L',zD (f+1) L o=.ok v L'→x=v:=by
 have e:zD (f+1) L o=ry.bind fun x L=>(ze [41] L).bind fun _ L=>.ok x L:=by
  rw[zD,if_pos hi,uF (fun o L=>(zn f L o).bind fun x L=>(ze [41] L).bind fun _ L=>.ok x L),hry,Pr.bind_assoc]
 rw[e,Pr.seq hx]
 cases ry with
 | bad c a=>exact⟨rfl,fun v L' e=>by cases e⟩
 | ok z M=>
  show (Pr.unit ((ze [41] M).bind fun _ L=>.ok x L))=ze [41] M∧∀ v L',((ze [41] M).bind fun _ L=>.ok x L)=.ok v L'→x=v
  cases ze [41] M with
  | bad c a=>exact⟨rfl,fun v L' e=>by cases e⟩
  | ok u K=>exact⟨rfl,fun v L' e=>by injection e⟩
theorem xh (g c:Nat) (ts:List Tk) (b f o:Nat) (L:List Tk) (w:World) (h:Rs g c ts w b o (.ok () L)) (hW:isP [40] L=true) (hne:hdK L≠3) (R:Pr X) (hR:R=zD (f+1) L o) (ih:RE g c ts b f) (hf:16 * L.length+3≤f+1) :
  Calls Tryz.prog 186 #[.pointer (some ⟨b,0,none⟩)] w (RRes g c ts b o w (XV w.heap.size) R):=by
 have hlt:=h.lt
 have ho4:=h.open_
 have hwf:WFt L:=h.good_
 have HN0:Hid (∀ w1,Rs g c ts w1 b o (.ok () L)→Calls Tryz.prog 43 #[.pointer (some ⟨b,0,none⟩)] w1 fun e w'=>e=.returned (.agg #[.int .i64 (hdK L),.string ⟨(hdT L).toArray⟩,.int .i64 (hdN L),.int .i64 (hdF L:Int)])∧Below w1.heap.size w1 w'):=YV fun w1 h1=>rNow g c ts b o (.ok () L) w1 h1
 obtain⟨F0,hF0⟩:∃ F0:Int,F0=(hdF L:Int):=⟨_,rfl⟩
 obtain⟨N,hN⟩:∃ N,N=hdN L:=⟨_,rfl⟩
 obtain⟨K,hK⟩:∃ K,K=hdK L:=⟨_,rfl⟩
 obtain⟨Y,hY⟩:∃ Y:ByteArray,Y=⟨(hdT L).toArray⟩:=⟨_,rfl⟩
 rw[← hF0,← hN,← hK,← hY] at HN0
 obtain⟨v0,hv0⟩:∃ v,v=w.alloc (.cells #[.int .i64 0,.int .i64 0,.int .i64 0,.string ⟨#[]⟩,.slice none 0 0] 52):=⟨_,rfl⟩
 have hv:Below w.heap.size w v0:=by rw[hv0];exact(Below.refl _ _).alloc (Nat.le_refl _) _
 have HV:=YV hv
 have hz0:v0.heap.size=w.heap.size+1:=by rw[hv0];simp
 have HZ0:=YV hz0
 have HR:Hid (Row v0 w.heap.size 52 z5):=YV (by rw[hv0];exact Row.made _ _ _)
 have HS0:Hid (Rs g c ts v0 b o (.ok () L)):=YV (h.later hv)
 obtain⟨q,hq⟩:∃ q,q=w.heap.size:=⟨_,rfl⟩
 have HQ:=YV hq
 rw[← hq] at HR hz0 hlt
 have hqb:q≠b:=by omega
 have hqv:q<v0.heap.size:=by omega
 have hbv:b<v0.heap.size:=by omega
 have HFIN:Hid (∀ (wk:World) (x:X) (A:Option Addr) (cx:Nat) (old:Array Value),v0.grownBy wk (some b)→Row wk q 52 old→KS wk (Bt (q+1) wk.heap.size) A x.ks→Rs g c ts wk b o R.unit→(∀ y L,R=.ok y L→x=y)→_):=YV fun wk x A cx old h1 h2 h3 h4 h5=>vX (cx:=cx) hq (by omega) hv h1 h2 h3 h4 h5
 have hyw:hdT L=[40]:=of_decide_eq_true hW
 have hWT:isP jK L=false:=by unfold isP;rw[hyw];decide
 have hWF:isP ju L=false:=by unfold isP;rw[hyw];decide
 have H1:Hid (∀ w1,Rs g c ts w1 b o (.ok () L)→Calls Tryz.prog 44 #[.pointer (some ⟨b,0,none⟩),.string ⟨#[116,114,117,101]⟩] w1 fun e w'=>e=.returned (.bool false)∧Below w1.heap.size w1 w'):=YV fun w1 h1=>(rIs g c ts b o jK (.ok () L) w1 h1 (by decide)).mono fun e w' hh=>⟨by rw[hh.1];show Ending.returned (.bool (isP jK _))=_;rw[hWT],hh.2⟩
 have H2:Hid (∀ w1,Rs g c ts w1 b o (.ok () L)→Calls Tryz.prog 44 #[.pointer (some ⟨b,0,none⟩),.string ⟨#[102,97,108,115,101]⟩] w1 fun e w'=>e=.returned (.bool false)∧Below w1.heap.size w1 w'):=YV fun w1 h1=>(rIs g c ts b o ju (.ok () L) w1 h1 (by decide)).mono fun e w' hh=>⟨by rw[hh.1];show Ending.returned (.bool (isP ju _))=_;rw[hWF],hh.2⟩
 have H3:Hid (∀ w1,Rs g c ts w1 b o (.ok () L)→Calls Tryz.prog 44 #[.pointer (some ⟨b,0,none⟩),.string ⟨#[40]⟩] w1 fun e w'=>e=.returned (.bool true)∧Below w1.heap.size w1 w'):=YV fun w1 h1=>(rIs g c ts b o [40] (.ok () L) w1 h1 (by decide)).mono fun e w' hh=>⟨by rw[hh.1];show Ending.returned (.bool (isP [40] _))=_;rw[hW],hh.2⟩
 have hK3:¬ K=3:=by rw[hK];exact hne
 have ht:=zI hwf hW (by decide)
 have HEN:Hid (∀ w1,Rs g c ts w1 b o (.ok () L)→_):=YV fun w1 h1=>qg g c ts b o (.ok () L) w1 h1
 obtain⟨σ1,hσ1⟩:∃ σ1,σ1=jP o (.ok () L):=⟨_,rfl⟩
 obtain⟨ry,hry⟩:∃ ry,ry=(jN σ1).bind fun _ L=>zn f L (more o):=⟨_,rfl⟩
 have HRR:Hid (∀ x,(∀ v L,ry=.ok v L→x=v)→R.unit=(ry.unit.bind fun _ L=>ze [41] L)∧∀ v L',R=.ok v L'→x=v):=YV fun x hx=>by rw[hR];exact Jb (by rw[hry,hσ1]) hW hx
 have HXP:Hid (∀ w1,Rs g c ts w1 b (more o) (jN σ1)→Calls Tryz.prog 116 #[.pointer (some ⟨b,0,none⟩)] w1 (RRes g c ts b (more o) w1 (XV w1.heap.size) ry)):=YV fun w1 h1=>by
  rw[hry]
  refine xw ih (fun M e=>?_) h1
  have:LeS L.tail.length (jN σ1):=by rw[hσ1];exact LeS.pass (Nat.le_refl _)
  have:=this M e
  have:=ht.2
  omega
 have HBAD:Hid (400≤o→σ1=.bad 5 (hdF L)∧R=.bad 5 (hdF L)):=YV fun h4=>by
  have e1:σ1=.bad 5 (hdF L):=by rw[hσ1];show (if 400≤o then (zC 5 L:Pr Unit) else .ok () L)=_;rw[if_pos h4];rfl
  exact⟨e1,by rw[hR,zD,if_pos hW];unfold ji;rw[if_pos h4];rfl⟩
 have HOK:Hid (o<400→σ1=.ok () L):=YV fun h4=>by
  rw[hσ1];show (if 400≤o then (zC 5 L:Pr Unit) else .ok () L)=_;rw[if_neg (by omega)]
 have HW:Hid (∀ M,σ1=.ok () M→WFt M.tail):=YV fun M e=>by
  rw[hσ1] at e
  obtain⟨_,h2⟩:=ue e
  injection h2 with _ h2
  rw[← h2];exact ht.1
 have HMU:Hid (∀ w1,Rs g c ts w1 b (more o) ry.unit→Calls Tryz.prog 83 #[.pointer (some ⟨b,0,none⟩),.string ⟨#[41]⟩] w1 (RRes g c ts b (more o) w1 NoV (ry.unit.bind fun _ L=>ze [41] L))):=YV fun w1 h1=>jJ g c ts b (more o) [41] ry.unit w1 h1 (by decide)
 obtain⟨σ3,hσ3⟩:∃ σ3:Pr Unit,σ3=ry.unit.bind fun _ L=>ze [41] L:=⟨_,rfl⟩
 have HDE:Hid (∀ M,σ3=.ok () M→o<400):=YV fun M e=>by
  by_cases h4:400≤o
  ·rw[hσ3,hry,(HBAD.out h4).1] at e;cases e
  ·omega
 rw[← hσ3] at HMU HRR
 obtain⟨o1,ho1⟩:∃ o1,o1=more o:=⟨_,rfl⟩
 have HO1:=YV ho1
 rw[← ho1] at HXP HMU HEN
 rw[← hσ1] at HEN
 clear hR hK hwf hN hY hF0 hW hyw hne hWT hWF ht hσ1 hry hσ3 ho1 ih hf
 clear h hv hz0
 go_enter Tryz.func186,Tryz.ntmps186
 go_upto_region 1 with fail
 rw[← hv0,← hq]
 clear hv0 hq
 go_upto_region 2 with (go_at_call 43;refine(HN0.out _ HS0.out).mono ?_;rintro e w1 ⟨rfl,hb⟩;have HS1:Hid (Rs g c ts (w1.alloc (.cells #[.int .i64 K,.string Y,.int .i64 N,.int .i64 F0] 113)) b o (.ok () L)):=YV ((HS0.out.later hb).later ((Below.refl _ _).alloc (Nat.le_refl _) _));have HG1:Hid (v0.grownBy (w1.alloc (.cells #[.int .i64 K,.string Y,.int .i64 N,.int .i64 F0] 113)) (some b)):=YV (zi (zb hb b) _);have HT1:Hid (Bx b v0 w1.heap.size 113 #[.int .i64 K,.string Y,.int .i64 N,.int .i64 F0] (w1.alloc (.cells #[.int .i64 K,.string Y,.int .i64 N,.int .i64 F0] 113))):=YV ⟨Row.made _ _ _,hb.size,hbv⟩;clear hb HN0)
 generalize w1.alloc (.cells #[.int .i64 K,.string Y,.int .i64 N,.int .i64 F0] 113)=v1 at HS1 HG1 HT1 ⊢
 obtain⟨m,hm⟩:∃ m,m=w1.heap.size:=⟨_,rfl⟩
 rw[← hm] at HT1 ⊢
 clear hm HS0
 have d0:=HT1.out.row.cell 0
 have d1:=HT1.out.row.cell 1
 have d2:=HT1.out.row.cell 2
 have dz:=HT1.out.row.lt
 simp at d0 d1 d2
 go_upto_region 13 with (first|(go_at_call 44;refine(H1.out _ HS1.out).mono ?_;rintro e w2 ⟨rfl,hb⟩;have HS2:=YV (HS1.out.later hb);have HG2:=YV (za HG1.out (zb hb b));have HT2:=YV (HT1.out.below hb);clear hb H1)|(go_at_call 44;refine(H2.out _ HS2.out).mono ?_;rintro e w3 ⟨rfl,hb⟩;have HS3:=YV (HS2.out.later hb);have HG3:=YV (za HG2.out (zb hb b));have HT3:=YV (HT2.out.below hb);clear hb H2)|(go_at_call 44;refine(H3.out _ HS3.out).mono ?_;rintro e w4 ⟨rfl,hb⟩;have HS4:=YV (HS3.out.later hb);have HG4:=YV (za HG3.out (zb hb b));have HT4:=YV (HT3.out.below hb);clear hb H3)|(go_at_call 145;refine(HEN.out _ HS4.out).mono ?_;rintro e w5 ⟨rfl,g1,g2⟩;have HS5:=YV g2;have HG5:=YV (za HG4.out g1);clear g1 g2 HEN))
 clear d0 d1 d2 dz
 obtain⟨i5,op5,k5,a5,hr5,ha5⟩:=HS5.out.row_
 have HRW5:=YV hr5
 have HA5:=YV ha5
 have c1:=hr5.cell 1
 have f1:=hr5.free 1
 simp[zg] at c1
 clear hr5 ha5
 go_upto_region 14 with fail
 have HS6:Hid (Rs g c ts (w5.setCell ⟨b,1,none⟩ (.int .i64 (wrap64 (i5+1)))) b o1 (jN σ1)):=YV (HS5.out.inc HRW5.out HA5.out HW.out)
 have hgs:w5.grownBy (w5.setCell ⟨b,1,none⟩ (.int .i64 (wrap64 (i5+1)))) (some b):=zf (zd w5 b) 1 _
 have HG6:=YV (za HG5.out hgs)
 clear hgs c1 f1 HRW5 HA5
 generalize w5.setCell ⟨b,1,none⟩ (.int .i64 (wrap64 (i5+1)))=v6 at HS6 HG6 ⊢
 by_cases h4:400≤o
 ·obtain⟨e1,e2⟩:=HBAD.out h4
  have HRB:=YV e2
  have hs4:=HS6.out
  rw[e1] at hs4
  have HS7:Hid (Rs g c ts v6 b o (.bad 5 (hdF L))):=YV (Rs.gone hs4 ho4)
  obtain⟨i4,op4,k4,a4,hr4,ha4⟩:=hs4.row_
  obtain⟨rfl,rfl⟩:=ha4
  have c34:=hr4.cell 3
  simp[zg] at c34
  have HROW:=HR.out.grown HG6.out (fun e=>by injection e with e;omega)
  clear hr4 hs4 e1 e2 HXP
  go_wp2_with (refine wpList_store_row (o:=⟨none,Op.store _ _ _,_,_,_,_⟩) rfl _ _ _ rfl q (x5 (.mk 0 0 0 [] []) none 0) rfl rfl _ _ HROW zo rfl (jf _ _ _) ?_)
  obtain⟨t1,t2⟩:=HFIN.out _ (.mk 0 0 0 [] []) none 0 _ HG6.out HROW (.inl rfl) (by rw[HRB.out];exact HS7.out) (fun y L' e=>by rw[HRB.out] at e;cases e)
  exact bodyPost_ret (results_cell_row rfl _ _ q _ _ _ _ rfl t1 Tryz.underlying52 rfl zo) rfl t2
 ·have e1:=HOK.out (by omega)
  have hs4:=HS6.out
  rw[e1] at hs4
  obtain⟨i4,op4,k4,a4,hr4,ha4⟩:=hs4.row_
  obtain⟨rfl,rfl,_⟩:=ha4
  have c34:=hr4.cell 3
  simp[zg] at c34
  clear hr4 hs4 e1
  go_upto_region 17 with (go_at_call 116;refine(HXP.out _ HS6.out).mono ?_;rintro e w7 ⟨x,v,rfl,⟨Ax,cx,rfl,hk⟩,g1,g2,g3⟩;have HS7:Hid (Rs g c ts (w7.alloc (.cells #[.int .i64 x.k,.int .i64 x.o,.int .i64 x.n,.string ⟨x.s.toArray⟩,.slice Ax x.ks.length cx] 52)) b o1 ry.unit):=YV (g2.later ((Below.refl _ _).alloc (Nat.le_refl _) _));have HG7:Hid (v0.grownBy (w7.alloc (.cells #[.int .i64 x.k,.int .i64 x.o,.int .i64 x.n,.string ⟨x.s.toArray⟩,.slice Ax x.ks.length cx] 52)) (some b)):=YV (zi (za HG6.out g1) _);have HBX7:Hid (BoxR b v0.heap.size x Ax cx w7.heap.size (w7.alloc (.cells #[.int .i64 x.k,.int .i64 x.o,.int .i64 x.n,.string ⟨x.s.toArray⟩,.slice Ax x.ks.length cx] 52))):=YV (BoxR.made hbv HG6.out.size g1 hk);have HVX:=YV (HRR.out x g3);clear g1 g2 g3 hk HXP)
  generalize w7.alloc (.cells #[.int .i64 x.k,.int .i64 x.o,.int .i64 x.n,.string ⟨x.s.toArray⟩,.slice Ax x.ks.length cx] 52)=v7 at HS7 HG7 HBX7 ⊢
  obtain⟨px,hpx⟩:∃ p,p=w7.heap.size:=⟨_,rfl⟩
  rw[← hpx] at HBX7 ⊢
  clear hpx c34
  go_upto_region 18 with (go_at_call 83;refine(HMU.out _ HS7.out).mono ?_;rintro e w8 ⟨_,v,rfl,hv,g1,g2,_⟩;obtain rfl:v=.tuple #[]:=hv;have HS8:Hid (Rs g c ts w8 b o1 σ3):=YV (by rw[Pr.unit_id] at g2;exact g2);have HG8:=YV (za HG7.out g1);have HBX8:=YV (HBX7.out.grow g1);clear g1 g2 HMU)
  obtain⟨i8,op8,k8,a8,hr8,ha8⟩:=HS8.out.row_
  have HRW8:=YV hr8
  have HA8:=YV ha8
  have c1:=hr8.cell 2
  have f1:=hr8.free 2
  simp[zg] at c1
  clear hr8 ha8
  go_upto_region 19 with fail
  have HS9:Hid (Rs g c ts (w8.setCell ⟨b,2,none⟩ (.int .i64 (wrap64 (op8 - 1)))) b o σ3):=YV (by
   have h5:=HS8.out
   have ha:=HA8.out
   rw[HO1.out] at h5 ha
   exact h5.dec HRW8.out ha ho4 HDE.out)
  have hgs:w8.grownBy (w8.setCell ⟨b,2,none⟩ (.int .i64 (wrap64 (op8 - 1)))) (some b):=zf (zd w8 b) 2 _
  have HG9:=YV (za HG8.out hgs)
  have HBX9:=YV (HBX8.out.grow hgs)
  clear hgs c1 f1 HRW8 HA8
  generalize w8.setCell ⟨b,2,none⟩ (.int .i64 (wrap64 (op8 - 1)))=v9 at HS9 HG9 HBX9 ⊢
  obtain⟨x0,x1,x2,x3,x4,x5'⟩:=HBX9.out.cells
  have HROW:=HR.out.grown HG9.out (fun e=>by injection e with e;omega)
  go_wp2_with (refine wpList_store_row (o:=⟨none,Op.store _ _ _,_,_,_,_⟩) rfl _ _ _ rfl q (x5 (x) Ax cx) rfl rfl _ _ HROW zo rfl (jf _ _ _) ?_)
  obtain⟨t1,t2⟩:=HFIN.out _ x Ax cx _ HG9.out HROW (HBX9.out.up.move fun m hm=>⟨⟨by have:=hm.1;have:=HZ0.out;have:=HQ.out;omega,hm.2⟩,rfl⟩) (by rw[HVX.out.1];exact HS9.out) HVX.out.2
  exact bodyPost_ret (results_cell_row rfl _ _ q _ _ _ _ rfl t1 Tryz.underlying52 rfl zo) rfl t2
theorem qI (g c:Nat) (ts:List Tk) (b f o:Nat) (L:List Tk) (w:World) (h:Rs g c ts w b o (.ok () L)) (hW1:isP jK L=false) (hW2:isP ju L=false) (hW3:isP [40] L=false) (hne:hdK L≠3) (hc:hdK L=1→isP [40] L.tail=false) (R:Pr X) (hR:R=if hdK L=1 then .ok (.mk 2 0 0 (hdT L) []) L.tail else zC 2 L) :
  Calls Tryz.prog 186 #[.pointer (some ⟨b,0,none⟩)] w (RRes g c ts b o w (XV w.heap.size) R):=by
 have hlt:=h.lt
 have ho4:=h.open_
 have hwf:WFt L:=h.good_
 have HN0:Hid (∀ w1,Rs g c ts w1 b o (.ok () L)→Calls Tryz.prog 43 #[.pointer (some ⟨b,0,none⟩)] w1 fun e w'=>e=.returned (.agg #[.int .i64 (hdK L),.string ⟨(hdT L).toArray⟩,.int .i64 (hdN L),.int .i64 (hdF L:Int)])∧Below w1.heap.size w1 w'):=YV fun w1 h1=>rNow g c ts b o (.ok () L) w1 h1
 obtain⟨F0,hF0⟩:∃ F0:Int,F0=(hdF L:Int):=⟨_,rfl⟩
 obtain⟨N,hN⟩:∃ N,N=hdN L:=⟨_,rfl⟩
 obtain⟨K,hK⟩:∃ K,K=hdK L:=⟨_,rfl⟩
 obtain⟨Y,hY⟩:∃ Y:ByteArray,Y=⟨(hdT L).toArray⟩:=⟨_,rfl⟩
 rw[← hF0,← hN,← hK,← hY] at HN0
 obtain⟨v0,hv0⟩:∃ v,v=w.alloc (.cells #[.int .i64 0,.int .i64 0,.int .i64 0,.string ⟨#[]⟩,.slice none 0 0] 52):=⟨_,rfl⟩
 have hv:Below w.heap.size w v0:=by rw[hv0];exact(Below.refl _ _).alloc (Nat.le_refl _) _
 have HV:=YV hv
 have hz0:v0.heap.size=w.heap.size+1:=by rw[hv0];simp
 have HZ0:=YV hz0
 have HR:Hid (Row v0 w.heap.size 52 z5):=YV (by rw[hv0];exact Row.made _ _ _)
 have HS0:Hid (Rs g c ts v0 b o (.ok () L)):=YV (h.later hv)
 obtain⟨q,hq⟩:∃ q,q=w.heap.size:=⟨_,rfl⟩
 have HQ:=YV hq
 rw[← hq] at HR hz0 hlt
 have hqb:q≠b:=by omega
 have hqv:q<v0.heap.size:=by omega
 have hbv:b<v0.heap.size:=by omega
 have HFIN:Hid (∀ (wk:World) (x:X) (A:Option Addr) (cx:Nat) (old:Array Value),v0.grownBy wk (some b)→Row wk q 52 old→KS wk (Bt (q+1) wk.heap.size) A x.ks→Rs g c ts wk b o R.unit→(∀ y L,R=.ok y L→x=y)→_):=YV fun wk x A cx old h1 h2 h3 h4 h5=>vX (cx:=cx) hq (by omega) hv h1 h2 h3 h4 h5
 have H1:Hid (∀ w1,Rs g c ts w1 b o (.ok () L)→Calls Tryz.prog 44 #[.pointer (some ⟨b,0,none⟩),.string ⟨#[116,114,117,101]⟩] w1 fun e w'=>e=.returned (.bool false)∧Below w1.heap.size w1 w'):=YV fun w1 h1=>(rIs g c ts b o jK (.ok () L) w1 h1 (by decide)).mono fun e w' hh=>⟨by rw[hh.1];show Ending.returned (.bool (isP jK _))=_;rw[hW1],hh.2⟩
 have H2:Hid (∀ w1,Rs g c ts w1 b o (.ok () L)→Calls Tryz.prog 44 #[.pointer (some ⟨b,0,none⟩),.string ⟨#[102,97,108,115,101]⟩] w1 fun e w'=>e=.returned (.bool false)∧Below w1.heap.size w1 w'):=YV fun w1 h1=>(rIs g c ts b o ju (.ok () L) w1 h1 (by decide)).mono fun e w' hh=>⟨by rw[hh.1];show Ending.returned (.bool (isP ju _))=_;rw[hW2],hh.2⟩
 have H3:Hid (∀ w1,Rs g c ts w1 b o (.ok () L)→Calls Tryz.prog 44 #[.pointer (some ⟨b,0,none⟩),.string ⟨#[40]⟩] w1 fun e w'=>e=.returned (.bool false)∧Below w1.heap.size w1 w'):=YV fun w1 h1=>(rIs g c ts b o [40] (.ok () L) w1 h1 (by decide)).mono fun e w' hh=>⟨by rw[hh.1];show Ending.returned (.bool (isP [40] _))=_;rw[hW3],hh.2⟩
 have hK3:¬ K=3:=by rw[hK];exact hne
 obtain⟨rn,hrn⟩:∃ rn,rn=zh 0 L:=⟨_,rfl⟩
 have HNA:Hid (∀ w1,Rs g c ts w1 b o (.ok () L)→Calls Tryz.prog 84 #[.pointer (some ⟨b,0,none⟩),.int .i64 0] w1 (RRes g c ts b o w1 (fun (x:T) v _=>v=.string ⟨x.toArray⟩) rn)):=YV fun w1 h1=>by rw[hrn];exact u7 g c ts b o 0 (.ok () L) w1 h1 (by omega)
 have HRN:Hid (isS [40] rn.unit=false∧R.unit=rn.unit∧∀ x:T,(∀ y L,rn=.ok y L→x=y)→∀ v L',R=.ok v L'→X.mk 2 0 0 x []=v):=YV (by
  rw[hrn]
  by_cases h1:hdK L=1
  ·have e:zh 0 L=.ok (hdT L) L.tail:=by unfold zh;rw[if_pos h1,if_neg (by omega)]
   rw[e,hR,if_pos h1]
   exact⟨hc h1,rfl,fun x hx v L' e=>by rw[hx _ _ rfl];injection e⟩
  ·have e:zh 0 L=zC 2 L:=by unfold zh;rw[if_neg h1]
   rw[e,hR,if_neg h1]
   exact⟨rfl,rfl,fun x hx v L' e=>by cases e⟩)
 have H4:Hid (∀ w1,Rs g c ts w1 b o rn.unit→Calls Tryz.prog 44 #[.pointer (some ⟨b,0,none⟩),.string ⟨#[40]⟩] w1 fun e w'=>e=.returned (.bool false)∧Below w1.heap.size w1 w'):=YV fun w1 h1=>(rIs g c ts b o [40] rn.unit w1 h1 (by decide)).mono fun e w' hh=>⟨by rw[hh.1,HRN.out.1],hh.2⟩
 clear hR hK hwf hN hY hF0 hW1 hW2 hW3 hne hc hrn
 clear h hv hz0
 go_enter Tryz.func186,Tryz.ntmps186
 go_upto_region 1 with fail
 rw[← hv0,← hq]
 clear hv0 hq
 go_upto_region 2 with (go_at_call 43;refine(HN0.out _ HS0.out).mono ?_;rintro e w1 ⟨rfl,hb⟩;have HS1:Hid (Rs g c ts (w1.alloc (.cells #[.int .i64 K,.string Y,.int .i64 N,.int .i64 F0] 113)) b o (.ok () L)):=YV ((HS0.out.later hb).later ((Below.refl _ _).alloc (Nat.le_refl _) _));have HG1:Hid (v0.grownBy (w1.alloc (.cells #[.int .i64 K,.string Y,.int .i64 N,.int .i64 F0] 113)) (some b)):=YV (zi (zb hb b) _);have HT1:Hid (Bx b v0 w1.heap.size 113 #[.int .i64 K,.string Y,.int .i64 N,.int .i64 F0] (w1.alloc (.cells #[.int .i64 K,.string Y,.int .i64 N,.int .i64 F0] 113))):=YV ⟨Row.made _ _ _,hb.size,hbv⟩;clear hb HN0)
 generalize w1.alloc (.cells #[.int .i64 K,.string Y,.int .i64 N,.int .i64 F0] 113)=v1 at HS1 HG1 HT1 ⊢
 obtain⟨m,hm⟩:∃ m,m=w1.heap.size:=⟨_,rfl⟩
 rw[← hm] at HT1 ⊢
 clear hm HS0
 have d0:=HT1.out.row.cell 0
 have d1:=HT1.out.row.cell 1
 have d2:=HT1.out.row.cell 2
 have dz:=HT1.out.row.lt
 simp at d0 d1 d2
 go_upto_region 21 with (first|(go_at_call 44;refine(H1.out _ HS1.out).mono ?_;rintro e w2 ⟨rfl,hb⟩;have HS2:=YV (HS1.out.later hb);have HG2:=YV (za HG1.out (zb hb b));have HT2:=YV (HT1.out.below hb);clear hb H1)|(go_at_call 44;refine(H2.out _ HS2.out).mono ?_;rintro e w3 ⟨rfl,hb⟩;have HS3:=YV (HS2.out.later hb);have HG3:=YV (za HG2.out (zb hb b));have HT3:=YV (HT2.out.below hb);clear hb H2)|(go_at_call 44;refine(H3.out _ HS3.out).mono ?_;rintro e w4 ⟨rfl,hb⟩;have HS4:=YV (HS3.out.later hb);have HG4:=YV (za HG3.out (zb hb b));have HT4:=YV (HT3.out.below hb);clear hb H3)|(go_at_call 84;refine(HNA.out _ HS4.out).mono ?_;rintro e w5 ⟨x,v,rfl,hv,g1,g2,g3⟩;obtain rfl:v=.string ⟨x.toArray⟩:=hv;have HS5:Hid (Rs g c ts (w5.alloc (.cells (s5 x) 52)) b o rn.unit):=YV (g2.later ((Below.refl _ _).alloc (Nat.le_refl _) _));have HG5:Hid (v0.grownBy (w5.alloc (.cells (s5 x) 52)) (some b)):=YV (zi (za HG4.out g1) _);have HE5:Hid (Bx b v0 w5.heap.size 52 (s5 x) (w5.alloc (.cells (s5 x) 52))):=YV ⟨Row.made _ _ _,by have:=HG4.out.size;have:=g1.size;omega,hbv⟩;have HX3:=YV (HRN.out.2.2 x g3);clear g1 g2 g3 HNA))
 clear d0 d1 d2 dz
 unfold s5 at HE5 HS5 HG5
 generalize w5.alloc (.cells #[.int .i64 2,.int .i64 0,.int .i64 0,.string ⟨x.toArray⟩,.slice none 0 0] 52)=v5 at HS5 HG5 HE5 ⊢
 obtain⟨m5,hm5⟩:∃ m,m=w5.heap.size:=⟨_,rfl⟩
 rw[← hm5] at HE5 ⊢
 clear hm5
 go_wp2_with (first|(go_at_call 44;refine(H4.out _ HS5.out).mono ?_;rintro e w8 ⟨rfl,hb⟩;have HS8:=YV (HS5.out.later hb);have HG8:=YV (za HG5.out (zb hb b));have hex:=(HE5.out.below hb).row;have HROW:=HR.out.grown HG8.out (fun e=>by injection e with e;omega);have c0:=hex.cell 0;have c1:=hex.cell 1;have c2:=hex.cell 2;have c3:=hex.cell 3;have c4:=hex.cell 4;have lx:=hex.lt;simp at c0 c1 c2 c3 c4;clear hex;clear hb H4)|(refine wpList_store_row (o:=⟨none,Op.store _ _ _,_,_,_,_⟩) rfl _ _ _ rfl q (x5 (.mk 2 0 0 x []) none 0) rfl rfl _ _ HROW zo rfl (jf _ _ _) ?_))
 obtain⟨t1,t2⟩:=HFIN.out _ (.mk 2 0 0 x []) none 0 _ HG8.out HROW (.inl rfl) (by rw[HRN.out.2.1];exact HS8.out) HX3.out
 exact bodyPost_ret (results_cell_row rfl _ _ q _ _ _ _ rfl t1 Tryz.underlying52 rfl zo) rfl t2
end Go.Proofs.YtdabndiaflagpaaGreatDoor
