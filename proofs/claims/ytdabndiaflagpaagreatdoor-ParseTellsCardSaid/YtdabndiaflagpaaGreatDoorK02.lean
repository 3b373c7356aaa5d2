/- Parts: BkV, Bk0, SameB, Shelf, Great. -/
import Derived.Test.YtdabndiaflagpaaGreatDoorK01
import Derived.Test.YtdabndiaflagpaaGreatDoorK00
import Derived.Shelf.Strings.Builder1
import Derived.Shelf.Strings.Builder2
import Derived.Shelf.Strings.OnBuilder
import Derived.Shelf.Small.Wraps
import Derived.Shelf.Strconv.Itoa0
import Derived.Shelf.Strconv.Itoa1
import Derived.Shelf.LaysM
import Derived.Shelf.Strconv.Itoa2
import Derived.Shelf.Strconv.Itoa3
import Derived.Shelf.Strconv.Itoa4
import Derived.Shelf.Strconv.ParseIntEmpty
import Derived.Shelf.Strconv.Clone
import Derived.Shelf.Strconv.SyntaxError
import Derived.Shelf.LaysC
import Derived.Shelf.Strconv.ToError
import Derived.Shelf.Strconv.Lower
import Derived.Shelf.Strconv.ParseUint10
import Derived.Shelf.Strconv.ParseUint10Empty
import Derived.Shelf.Strconv.ParseUint10Any
import Derived.Shelf.Strconv.ParseInt10
import Derived.Shelf.Strconv.RangeError
import Derived.Shelf.Strconv.ToErrorRange
import Derived.Shelf.Strconv.ParseUintEmpty
import Derived.Shelf.Strconv.ParseUint10b64
import Derived.Shelf.Strconv.ParseUint10b32
import Derived.Shelf.Strconv.ParseUint10b16
import Derived.Shelf.Strconv.ParseUint10b8
import Derived.Shelf.Strconv.ParseUint10At
import Derived.Shelf.Strconv.ParseInt10At64
import Derived.Shelf.Strconv.ParseInt10At32
import Derived.Shelf.Strconv.ParseInt10At16
import Derived.Shelf.Strconv.ParseInt10At8
import Derived.Shelf.Strconv.ParseInt10All
import Derived.Shelf.Strconv.ParseIntPublic10
import Derived.Shelf.Strconv.ErrVarParseInt
import Derived.Shelf.Strings.Search1
import Derived.Shelf.Strings.Search2
import Derived.Shelf.Strings.Cut
import Derived.Shelf.Strings.Shaped
import Derived.Shelf.Strings.Prefix
import Derived.Test.YtdabndiaflagpaaGreatDoorProg
set_option maxRecDepth 100000
set_option maxHeartbeats 4000000
namespace Go.Proofs.YtdabndiaflagpaaGreatDoor.bk
open Go.RowKit Go.Proofs.YtdabndiaflagpaaGreatDoor
attribute [local go_sem] Tame.Op Tame.upon
theorem OwnG.bare {w:World} {B:Nat} {S:Nat→Prop} {v:Value} {xs:List Vr} (h:OwnG RV 127 2 w B S v xs):OwnG RV 127 2 w B (fun _=>False) v xs:=by
 obtain⟨cs,ho,hx⟩:=h
 refine⟨cs,ho,?_⟩
 clear ho
 induction xs generalizing cs with
 | nil=>exact hx
 | cons x xs ih=>
  obtain⟨c,rest,hc,hk,hr⟩:=hx
  exact⟨c,rest,hc,hk,ih rest hr⟩
theorem yX:(Tryz.prog.info? 127).map (fun i=>(i.zero,i.size,i.bytes))=some (some (.agg #[.string ⟨#[]⟩,.int .i64 0]),2,24):=by kernel_rfl
def VarsMade (w:World) (l:List Vr) (e:Ending) (w':World):Prop:=∃ A c,e=.returned (.slice A l.length c)∧VS w' (Sty 127 w.heap.size w') A l∧Below w.heap.size w w'
def NewV (v:Value) (y:Vr) (u:Value) (w:World):Prop:=∃ g,u=.slice (some ⟨g,0,none⟩) 1 1∧Row w g 127 #[.string ⟨y.name.toArray⟩,.int .i64 y.type]∧some g≠v.ownBlock
theorem NewV.later {v u:Value} {y:Vr} {w w':World} (h:NewV v y u w) (hl:Tame.Later w w'):NewV v y u w':=by
 obtain⟨g,hv,hr,h2⟩:=h
 exact⟨g,hv,hr.below hl hr.lt,h2⟩
theorem NewV.turn {v u:Value} {y:Vr} {w w':World} (h:NewV v y u w) (hs:w.grownBy w' v.ownBlock):NewV v y u w':=by
 obtain⟨g,hv,hr,h2⟩:=h
 exact⟨g,hv,hr.grown hs h2,h2⟩
def AppV (B:Nat) (xs:List Vr) (u:Value) (w:World):Prop:=OwnG RV 127 2 w B (Sb B u.ownBlock w) u xs
def ghostsV (H:Nat) (wr:World) (v:Value) (xs:List Vr):List Tame.Ghost:=[⟨Below H wr,[13]⟩,⟨fun w=>OwnG RV 127 2 w H (Sb H v.ownBlock w) v xs,[]⟩]
theorem ghostsV_ok {H:Nat} {wr:World} {v:Value} {xs:List Vr} (hH:H≤wr.heap.size) (h2:OwnG RV 127 2 wr H (Sb H v.ownBlock wr) v xs) :
  ∀ (i:Nat) (g:Tame.Ghost),(ghostsV H wr v xs)[i]? = some g→g.g wr.drew∧(∀ w w',Tame.Later w w'→g.g w→g.g w')∧
   ∀ j,[13].contains j=true→g.keeps.contains j=true→∀ w w',w.grownBy w' v.ownBlock→g.g w→g.g w':=by
 intro i g hi
 rcases i with _ | _ | i
 ·obtain rfl:(⟨Below H wr,[13]⟩:Tame.Ghost)=g:=by simpa [ghostsV] using hi
  exact⟨(Below.refl _ _).drew,fun a b hl h=>h.trans (Below.mono hl (by have:=h.size;omega)),fun j _ _ a b hs h=>h.grown hs (by have:=h.size;omega) (fun q hq=>(h2.lt q hq).1)⟩
 ·obtain rfl:(⟨fun w=>OwnG RV 127 2 w H (Sb H v.ownBlock w) v xs,[]⟩:Tame.Ghost)=g:=by simpa [ghostsV] using hi
  exact⟨h2.later zN ((Below.refl _ _).drew),fun a b hl h=>h.later zN hl,fun j _ hj=>by cases hj⟩
 ·simp[ghostsV] at hi
theorem ownVars_any (l:List Vr) (A:Option Addr) (c:Nat) (w:World) (S:Nat→Prop) (hlen:l.length≤1099511627776) (hA:VS w S A l) (hS:∀ b,S b→b<w.heap.size) :
  Calls Tryz.prog 49 #[.slice A l.length c] w (VarsMade w l):=by
 obtain⟨i0,hi0,hz0,hz1,hz2⟩:=info_parts yX
 have HA:=YV hA
 clear hA
 go_enter Tryz.func49,Tryz.ntmps49
 go_wp2_with fail
 go_loopw [3,4] (fun v i wr=>∃ j:Nat,j≤l.length∧i=.int .i64 j∧OwnG RV 127 2 wr w.heap.size (Sb w.heap.size v.ownBlock wr) v (l.take j)∧Below w.heap.size w wr) (fun _ i _=>l.length - (intOf i).toNat)
 case atStart=>exact⟨0,by omega,rfl,OwnG.nil _ _ _ _ _ _,Below.refl _ _⟩
 case round=>
  obtain⟨j,hj,rfl,ho,hbw⟩:=hrel
  obtain⟨v,rfl⟩:∃ v,v=u3:=⟨u3,rfl⟩
  by_cases hlt:j<l.length
  ·obtain⟨y,hy⟩:∃ y,l[j]? = some y:=⟨_,List.getElem?_eq_getElem hlt⟩
   obtain⟨b,off,rfl,d0,d1,hbl⟩:=HA.out.at' hS hbw hy
   have hws:=hbw.size
   have HO:=YV ho
   have HBW:=YV hbw
   have HY:=YV hy
   have D0:=YV d0
   have D1:=YV d1
   have HV:Hid (∀ q,v.ownBlock=some q→w.heap.size≤q∧q<wr.heap.size):=ho.lt
   clear ho hbw hy d0 d1
   go_wp2_with fail
   refine Tame.wp_region_tamg (L:=Tame.Later) (M:=fun _ a b=>a.grownBy b v.ownBlock) (gs:=ghostsV w.heap.size wr v (l.take j)) [13] (by kernel_rfl) (by kernel_rfl) Tame.Later.refl (fun _ w=>World.grownBy.refl w _) (ghostsV_ok hws HO.out) ?_
   repeat
    ((first
     |(refine Tame.walk3_known (o:=⟨some 16,_,_,_,_,_⟩) (by kernel_rfl) (fun _=>rfl) ?_;apply Exists.intro;refine⟨fun vals w2 hG hd=>?_,?_⟩;(focus(have hb2:=(hG 0 _ rfl (by kernel_rfl):Below w.heap.size wr w2);have f0:=(hb2.cell (p:=⟨b,off+j * 2,none⟩) hbl).trans D0.out;clear hG hd hb2;go_simp;exact Tame.Is.mk (Tame.Later.refl _))))
     |(refine Tame.walk3_known (o:=⟨some 21,_,_,_,_,_⟩) (by kernel_rfl) (fun _=>rfl) ?_;apply Exists.intro;refine⟨fun vals w2 hG hd=>?_,?_⟩;(focus(have hb2:=(hG 0 _ rfl (by kernel_rfl):Below w.heap.size wr w2);have f0:=(hb2.cell (p:=⟨b,off+j * 2+1,none⟩) hbl).trans D1.out;clear hG hd hb2;go_simp;exact Tame.Is.mk (Tame.Later.refl _))))
     |(refine Tame.walk3_some (o:=⟨some 23,_,_,_,_,_⟩) (NewV v y) (none) ([13]) (by kernel_rfl) (fun _=>rfl) (by kernel_rfl) (fun u a c hl h=>h.later hl) (fun i _ _ u a c hs h=>h.turn hs) (fun vals w2 hG hd=>?_) ?_;(focus(have hb2:=(hG 0 _ rfl (by kernel_rfl):Below w.heap.size wr w2);have hzz:=hb2.size;clear hG hd hb2;go_simp;exact Tame.Has.mk ((Below.refl _ _).alloc (Nat.le_refl _) _) ⟨w2.heap.size,rfl,Row.made _ _ _,fun e=>by have:=HV.out _ e.symm;omega⟩)))
     |(refine Tame.walk3_write (o:=⟨some 24,_,_,_,_,_⟩) (AppV w.heap.size (l.take (j+1))) (none) ([]) (fun _=>rfl) (by kernel_rfl) (by kernel_rfl) (fun u a c hl h=>OwnG.later zN h hl) (fun i _ hj=>by cases hj) (fun vals w2 hG hd=>?_) ?_;(focus(have hb2:=(hG 0 _ rfl (by kernel_rfl):Below w.heap.size wr w2);have hzz:=hb2.size;have h1:=(hd 12 _ rfl (by kernel_rfl) rfl:NewV v y (vals 12) w2);have h2:=(hG 1 _ rfl (by kernel_rfl):OwnG RV 127 2 w2 w.heap.size (Sb w.heap.size v.ownBlock w2) v (l.take j));clear hG hd hb2;obtain⟨g1,hv1,hr1,hg1⟩:=h1;obtain⟨cs,ho,hx⟩:=h2;exact zK (.tmp 11) (.tmp 23) _ rfl w.heap.size 127 i0 _ 2 24 Tryz.underlying75 hi0 hz0 hz1 hz2 rfl (by omega) (by omega) v _ cs rfl ho g1 1 127 [.string ⟨y.name.toArray⟩,.int .i64 y.type] hv1 rfl hr1 (zN.one (w:=w2) (S:=fun _=>True) rfl) (by simp;omega) (by omega) (fun v' w' ho' hgr hat=>⟨hgr,OwnG.step zN HY.out hx ho' hgr hat rfl⟩))))
     |(refine Tame.walk3_some (o:=⟨some 3,_,_,_,_,_⟩) (AppV w.heap.size (l.take (j+1))) (none) ([]) (by kernel_rfl) (fun _=>rfl) (by kernel_rfl) (fun u a c hl h=>OwnG.later zN h hl) (fun i _ hj=>by cases hj) (fun vals w2 hG hd=>?_) ?_;(focus(have h1:=(hd 13 _ rfl (by kernel_rfl) rfl:AppV w.heap.size (l.take (j+1)) (vals 13) w2);have H1:=YV h1;clear hG hd h1;go_simp;exact Tame.Has.mk (Tame.Later.refl _) H1.out)))
     |(refine Tame.walk3_known (by kernel_rfl) (fun _=>rfl) ?_;apply Exists.intro;refine⟨fun vals w2 hG hd=>?_,?_⟩;(focus(go_simp;first | exact Tame.Is.mk (Tame.Later.refl _)|(rw[if_neg];(focus exact Tame.Is.mk (Tame.Later.refl _));omega)))))
     simp only[Act.put,List.setIfInBounds_toArray,List.set_cons_zero,List.set_cons_succ,List.nil_append,List.cons_append,List.length_cons,List.length_nil,Nat.zero_add,Nat.reduceAdd])
   refine Tame.walk3_end fun vals w2 hG hts=>?_
   have f0:Below w.heap.size wr w2:=hG 0 _ rfl (by kernel_rfl)
   have f1:AppV w.heap.size (l.take (j+1)) (vals 14) w2:=hts 14 _ rfl rfl
   have F0:=YV f0
   have F1:=YV f1
   clear f0 f1 hts hG
   go_wp2_with fail
   go_roundw
   case rel=>exact⟨j+1,by omega,by go_num,F1.out,HBW.out.trans F0.out⟩
   case measure=>simp[intOf];omega
  ·obtain rfl:j=l.length:=by omega
   rw[List.take_length] at ho
   obtain⟨A2,c2,rfl,hr⟩:=(show OwnG RV 127 2 wr w.heap.size (fun _=>False) v l from (OwnG.bare ho)).form zN (S':=Sty 127 w.heap.size wr) (fun b hb=>hb.elim) (fun q cs hq hr=>⟨(ho.lt q hq).1,(ho.lt q hq).2,cs,hr⟩)
   have HR:=YV (ZJ hr)
   have HBW:=YV hbw
   clear ho hr hbw
   go_wp2_with fail
   go_ret
   exact⟨A2,c2,rfl,HR.out,HBW.out⟩
end Go.Proofs.YtdabndiaflagpaaGreatDoor.bk
namespace Go.Proofs.YtdabndiaflagpaaGreatDoor.bk
open Go.RowKit Go.Proofs.YtdabndiaflagpaaGreatDoor
attribute [local go_sem] Tame.Op Tame.upon
def RQ0 (w0:World) (S0:Nat→Prop):Of Q:=fun w S q cs=>∃ A c A2 c2,cs=.slice A q.lhs.length c::c5 q.rhs A2 c2∧TS w0 S0 A q.lhs∧KS w S A2 q.rhs.ks∧q.lhs.length≤c
theorem lastsQ0 (w0:World) (S0:Nat→Prop):jB (RQ0 w0 S0) 6:=⟨fun ⟨A,c,A2,c2,h,h1,h2,h3⟩ hm=>⟨A,c,A2,c2,h,h1,h2.move hm,h3⟩,fun ⟨A,c,A2,c2,h,_⟩=>by rw[h];rfl,fun ⟨A,c,A2,c2,h,_⟩ u hu=>by
 rw[h] at hu
 rcases List.mem_cons.1 hu with rfl | hu
 ·rfl
 ·exact xy _ _ _ u hu⟩
def QC0 (w0:World) (S0:Nat→Prop) (w:World) (S:Nat→Prop) (q:Q) (b off:Nat):Prop:=S b∧(∃ A c,w.cell? ⟨b,off,none⟩=some (.slice A q.lhs.length c)∧TS w0 S0 A q.lhs∧q.lhs.length≤c)∧EC w S q.rhs b (off+1)
def QS0 (w0:World) (S0:Nat→Prop) (w:World) (S:Nat→Prop):Option Addr→List Q→Prop:=Rw (QC0 w0 S0 w S) 6
theorem QS0.move {w0 w w':World} {S0 S S':Nat→Prop} {A:Option Addr} {l:List Q} (h:QS0 w0 S0 w S A l) (hm:∀ b,S b→S' b∧w'.heap[b]? = w.heap[b]?):QS0 w0 S0 w' S' A l:=
 Rw.imp h fun q b off ⟨hb,⟨A,c,hc,ht,hl⟩,he⟩=>⟨(hm b hb).1,⟨A,c,(World.cell?_of_block (hm b hb).2).trans hc,ht,hl⟩,EC.move hm _ _ _ he⟩
theorem rq_qs0 {w0 w:World} {S0 S:Nat→Prop} {A:Option Addr} {xs:List Q} (h:Rw (fun x b off=>S b∧∃ cs,RQ0 w0 S0 w S x cs∧∀ (j:Nat) u,cs[j]? = some u→w.cell? ⟨b,off+j,none⟩=some u) 6 A xs):QS0 w0 S0 w S A xs:=
 Rw.imp h fun x b off ⟨hb,cs,⟨A1,c1,A2,c2,hcs,h1,h2,h3⟩,hc⟩=>by
  subst hcs
  exact⟨hb,⟨A1,c1,hc 0 _ rfl,h1,h3⟩,EC.mk' (A:=A2) (c:=c2) hb (hc 1 _ rfl) (hc 2 _ rfl) (hc 3 _ rfl) (hc 4 _ rfl) (hc 5 _ rfl) h2⟩
def RN0 (w0:World) (S0:Nat→Prop):Of Nd:=fun w S n cs=>∃ A1 c1 A2 c2 A3 c3 A4 c4,cs=[.string ⟨n.name.toArray⟩,.slice A1 n.ins.length c1,.slice A2 n.outs.length c2,.slice A3 n.locals.length c3,.slice A4 n.eqs.length c4]∧VS w S A1 n.ins∧VS w S A2 n.outs∧VS w S A3 n.locals∧QS0 w0 S0 w S A4 n.eqs
theorem lastsN0 (w0:World) (S0:Nat→Prop):jB (RN0 w0 S0) 5:=⟨fun ⟨A1,c1,A2,c2,A3,c3,A4,c4,h,h1,h2,h3,h4⟩ hm=>⟨A1,c1,A2,c2,A3,c3,A4,c4,h,h1.move hm,h2.move hm,h3.move hm,h4.move hm⟩,fun ⟨A1,c1,A2,c2,A3,c3,A4,c4,h,_⟩=>by rw[h];rfl,fun ⟨A1,c1,A2,c2,A3,c3,A4,c4,h,_⟩ u hu=>by
 rw[h] at hu
 simp only[List.mem_cons,List.not_mem_nil,or_false] at hu
 rcases hu with rfl | rfl | rfl | rfl | rfl <;> rfl⟩
theorem ym:(Tryz.prog.info? 78).map (fun i=>(i.zero,i.size,i.bytes))=some (some (.agg #[.string ⟨#[]⟩,.slice none 0 0,.slice none 0 0,.slice none 0 0,.slice none 0 0]),5,112):=by kernel_rfl
theorem qu:(Tryz.prog.info? 80).map (fun i=>(i.zero,i.size,i.bytes))=some (some (.agg #[.slice none 0 0,.int .i64 0,.int .i64 0,.int .i64 0,.string ⟨#[]⟩,.slice none 0 0]),6,88):=by kernel_rfl
def Turn6 (B:Nat) (w w':World):Prop:=Below B w w'∧∀ q e cs,Row w q e cs→e≠78→w'.heap[q]? = w.heap[q]?
theorem Turn6.refl (B:Nat) (w:World):Turn6 B w w:=⟨Below.refl _ _,fun _ _ _ _ _=>rfl⟩
theorem Turn6.set {B:Nat} {a w:World} (h:Turn6 B a w) {g:Nat} {cs:Array Value} (hg:B≤g) (hr:Row a g 78 cs) (i:Nat) (u:Value):Turn6 B a (w.setCell ⟨g,i,none⟩ u):=
 ⟨h.1.setCell (p:=⟨g,i,none⟩) hg u,fun q e cs' hq he=>(Below.heap_setCell _ _ _ _ (fun e'=>he (by
  have e':q=g:=e'
  subst e'
  exact(hq.same hr).2))).trans (h.2 q e cs' hq he)⟩
theorem Sty.turn6 {B:Nat} {w w':World} (hs:Turn6 B w w') {b:Nat} (h:Sty 127 B w b):Sty 127 B w' b∧w'.heap[b]? = w.heap[b]?:=by
 obtain⟨h1,h2,cs,hr⟩:=h
 have e:=hs.2 b _ cs hr (by decide)
 exact⟨⟨h1,Nat.lt_of_lt_of_le h2 hs.1.size,cs,e.trans hr⟩,e⟩
def VarW (B:Nat) (l:List Vr) (u:Value) (w:World):Prop:=∃ A c,u=.slice A l.length c∧VS w (Sty 127 B w) A l
theorem VarW.later {B:Nat} {l:List Vr} {u:Value} {w w':World} (h:VarW B l u w) (hl:Tame.Later w w'):VarW B l u w':=by
 obtain⟨A,c,hv,hk⟩:=h
 exact⟨A,c,hv,hk.move fun b hb=>hb.later hl⟩
theorem VarW.turn {B:Nat} {l:List Vr} {u:Value} {w w':World} (h:VarW B l u w) (hs:Turn6 B w w'):VarW B l u w':=by
 obtain⟨A,c,hv,hk⟩:=h
 exact⟨A,c,hv,hk.move fun b hb=>Sty.turn6 hs hb⟩
def Three (B:Nat) (n:Nd) (A1 A2 A3:Option Addr) (w:World):Prop:=VS w (Sty 127 B w) A1 n.ins∧VS w (Sty 127 B w) A2 n.outs∧VS w (Sty 127 B w) A3 n.locals
theorem Three.later {B:Nat} {n:Nd} {A1 A2 A3:Option Addr} {w w':World} (h:Three B n A1 A2 A3 w) (hl:Tame.Later w w'):Three B n A1 A2 A3 w':=⟨h.1.move fun _ hb=>hb.later hl,h.2.1.move fun _ hb=>hb.later hl,h.2.2.move fun _ hb=>hb.later hl⟩
theorem Three.turn {B:Nat} {n:Nd} {A1 A2 A3:Option Addr} {w w':World} (h:Three B n A1 A2 A3 w) (hs:Turn6 B w w'):Three B n A1 A2 A3 w':=⟨h.1.move fun _ hb=>Sty.turn6 hs hb,h.2.1.move fun _ hb=>Sty.turn6 hs hb,h.2.2.move fun _ hb=>Sty.turn6 hs hb⟩
def BldN (B:Nat) (n:Nd) (u:Value) (w:World):Prop:=∃ A1 c1 A2 c2 A3 c3,u=.agg #[.string ⟨n.name.toArray⟩,.slice A1 n.ins.length c1,.slice A2 n.outs.length c2,.slice A3 n.locals.length c3,.slice none 0 0]∧Three B n A1 A2 A3 w
theorem BldN.later {B:Nat} {n:Nd} {u:Value} {w w':World} (h:BldN B n u w) (hl:Tame.Later w w'):BldN B n u w':=by
 obtain⟨A1,c1,A2,c2,A3,c3,hv,hk⟩:=h
 exact⟨A1,c1,A2,c2,A3,c3,hv,hk.later hl⟩
theorem BldN.turn {B:Nat} {n:Nd} {u:Value} {w w':World} (h:BldN B n u w) (hs:Turn6 B w w'):BldN B n u w':=by
 obtain⟨A1,c1,A2,c2,A3,c3,hv,hk⟩:=h
 exact⟨A1,c1,A2,c2,A3,c3,hv,hk.turn hs⟩
def AllN (B:Nat) (u:Value) (w:World):Prop:=∃ g,u=.pointer (some ⟨g,0,none⟩)∧Row w g 78 #[.string ⟨#[]⟩,.slice none 0 0,.slice none 0 0,.slice none 0 0,.slice none 0 0]∧B≤g
theorem AllN.later {B:Nat} {u:Value} {w w':World} (h:AllN B u w) (hl:Tame.Later w w'):AllN B u w':=by
 obtain⟨g,hv,hr,hb⟩:=h
 exact⟨g,hv,hr.below hl hr.lt,hb⟩
def LaidN (B:Nat) (n:Nd) (vals:Nat→Value) (w:World):Prop:=∃ g A1 c1 A2 c2 A3 c3,vals 12=.pointer (some ⟨g,0,none⟩)∧B≤g∧Row w g 78 #[.string ⟨n.name.toArray⟩,.slice A1 n.ins.length c1,.slice A2 n.outs.length c2,.slice A3 n.locals.length c3,.slice none 0 0]∧Three B n A1 A2 A3 w
theorem LaidN.later {B:Nat} {n:Nd} {vals:Nat→Value} {w w':World} (h:LaidN B n vals w) (hl:Tame.Later w w'):LaidN B n vals w':=by
 obtain⟨g,A1,c1,A2,c2,A3,c3,hv,hb,hr,hk⟩:=h
 exact⟨g,A1,c1,A2,c2,A3,c3,hv,hb,hr.below hl hr.lt,hk.later hl⟩
theorem LaidN.same {B:Nat} {n:Nd} {vals vals':Nat→Value} {w:World} (h:LaidN B n vals w) (e:vals 12=vals' 12):LaidN B n vals' w:=by unfold LaidN;rw[← e];exact h
def ghosts6 (B:Nat) (wa:World):List Tame.Ghost:=[⟨Below B wa,[13]⟩]
theorem ghosts6_ok {B:Nat} {wa:World} (hB:B≤wa.heap.size):∀ (i:Nat) (g:Tame.Ghost),(ghosts6 B wa)[i]? = some g→g.g wa.drew∧(∀ w w',Tame.Later w w'→g.g w→g.g w')∧
   ∀ j,[13].contains j=true→g.keeps.contains j=true→∀ w w',Turn6 B w w'→g.g w→g.g w':=by
 intro i g hi
 rcases i with _ | i
 ·obtain rfl:(⟨Below B wa,[13]⟩:Tame.Ghost)=g:=by simpa [ghosts6] using hi
  exact⟨(Below.refl _ _).drew,fun a b hl h=>h.trans (Below.mono hl (by have:=h.size;omega)),fun j _ _ a b hs h=>h.trans hs.1⟩
 ·simp[ghosts6] at hi
def Turn2 (p:Nat) (r:Option Nat) (j:Nat) (w w':World):Prop:=w.grownBy w' (if j=17 then r else some p)
theorem Turn2.refl (p:Nat) (r:Option Nat) (j:Nat) (w:World):Turn2 p r j w w:=World.grownBy.refl w _
theorem Turn2.store {p:Nat} {r:Option Nat} {w:World} {u:Value}:Turn2 p r 19 w (w.setCell ⟨p,4,none⟩ u):=zf (zd w p) 4 u
theorem Turn2.keep {p B j:Nat} {r:Option Nat} {w w':World} (h:Turn2 p r j w w') (hp:p<B) (b:Nat) (hb:Sb B r w b):Sb B r w' b∧w'.heap[b]? = w.heap[b]?:=
 ⟨⟨hb.1,Nat.lt_of_lt_of_le hb.2.1 h.size,hb.2.2⟩,h.block b hb.2.1 (by
  split
  ·exact hb.2.2
  ·intro e;injection e with e;have:=hb.1;omega)⟩
structure Firm (B:Nat) (r:Option Nat) (T:Value→World→Prop):Prop where
 move:∀ {w w':World} {u:Value},T u w→(∀ b,Sb B r w b→Sb B r w' b∧w'.heap[b]? = w.heap[b]?)→T u w'
theorem Firm.later {B:Nat} {r:Option Nat} {T:Value→World→Prop} (hf:Firm B r T) {u:Value} {w w':World} (h:T u w) (hl:Tame.Later w w'):T u w':=hf.move h fun b hb=>zV hl b hb
theorem Firm.turn {B p j:Nat} {r:Option Nat} {T:Value→World→Prop} (hf:Firm B r T) (hp:p<B) {u:Value} {w w':World} (h:T u w) (hs:Turn2 p r j w w'):T u w':=hf.move h fun b hb=>hs.keep hp b hb
theorem firmOwn (B:Nat) (v:Value) (y:X):Firm B v.ownBlock (OwnVal B v y):=⟨fun ⟨A,c,hv,hk⟩ hm=>⟨A,c,hv,hk.move hm⟩⟩
def EqV (w0:World) (S0:Nat→Prop) (B:Nat) (v:Value) (q:Q) (u:Value) (w:World):Prop:=∃ A c A2 c2,u=.agg #[.slice A q.lhs.length c,.int .i64 q.rhs.k,.int .i64 q.rhs.o,.int .i64 q.rhs.n,.string ⟨q.rhs.s.toArray⟩,.slice A2 q.rhs.ks.length c2]∧TS w0 S0 A q.lhs∧KS w (Sb B v.ownBlock w) A2 q.rhs.ks∧q.lhs.length≤c
theorem firmEq (w0:World) (S0:Nat→Prop) (B:Nat) (v:Value) (q:Q):Firm B v.ownBlock (EqV w0 S0 B v q):=⟨fun ⟨A,c,A2,c2,hv,hk,hk2,hc⟩ hm=>⟨A,c,A2,c2,hv,hk,hk2.move hm,hc⟩⟩
def NewQ (w0:World) (S0:Nat→Prop) (B:Nat) (v:Value) (q:Q) (u:Value) (w:World):Prop:=∃ g A c A2 c2,u=.slice (some ⟨g,0,none⟩) 1 1∧Row w g 80 #[.slice A q.lhs.length c,.int .i64 q.rhs.k,.int .i64 q.rhs.o,.int .i64 q.rhs.n,.string ⟨q.rhs.s.toArray⟩,.slice A2 q.rhs.ks.length c2]∧TS w0 S0 A q.lhs∧KS w (Sb B v.ownBlock w) A2 q.rhs.ks∧Sb B v.ownBlock w g∧q.lhs.length≤c
theorem firmNewQ (w0:World) (S0:Nat→Prop) (B:Nat) (v:Value) (q:Q):Firm B v.ownBlock (NewQ w0 S0 B v q):=⟨fun ⟨g,A,c,A2,c2,hv,hr,hk,hk2,hs,hc⟩ hm=>⟨g,A,c,A2,c2,hv,(hm g hs).2.trans hr,hk,hk2.move hm,(hm g hs).1,hc⟩⟩
def AppQ (w0:World) (S0:Nat→Prop) (B:Nat) (xs:List Q) (u:Value) (w:World):Prop:=OwnG (RQ0 w0 S0) 80 6 w B (Sb B u.ownBlock w) u xs
theorem AppQ.form {w0:World} {S0:Nat→Prop} {B:Nat} {xs:List Q} {u:Value} {w:World} (h:AppQ w0 S0 B xs u w):∃ A c,u=.slice A xs.length c:=by
 obtain⟨A,c,hv,_⟩:=OwnG.form (lastsQ0 w0 S0) h (S':=fun _=>True) (fun _ _=>trivial) (fun _ _ _ _=>trivial)
 exact⟨A,c,hv⟩
def HeldN (p:Nat) (s:T) (u1 u2 u3 v:Value) (w:World):Prop:=Row w p 78 #[.string ⟨s.toArray⟩,u1,u2,u3,v]
def LaidQ (p:Nat) (s:T) (u1 u2 u3:Value) (vals:Nat→Value) (w:World):Prop:=HeldN p s u1 u2 u3 (vals 17) w
theorem LaidQ.same {p:Nat} {s:T} {u1 u2 u3:Value} {vals vals':Nat→Value} {w:World} (h:LaidQ p s u1 u2 u3 vals w) (e:vals 17=vals' 17):LaidQ p s u1 u2 u3 vals' w:=by unfold LaidQ;rw[← e];exact h
theorem LaidQ.mk {p:Nat} {s:T} {u1 u2 u3 u:Value} {vals:Nat→Value} {w:World} (e:vals 17=u) (h:HeldN p s u1 u2 u3 u w):LaidQ p s u1 u2 u3 vals w:=by unfold LaidQ;rw[e];exact h
def ghosts10 (w0:World) (S0:Nat→Prop) (B p:Nat) (wl wr:World) (s:T) (u1 u2 u3 v:Value) (xs:List Q):List Tame.Ghost:=
 [⟨fun w=>wl.grownBy w (some p)∧wr.heap.size≤w.heap.size,[17,19]⟩,⟨HeldN p s u1 u2 u3 v,[17]⟩,⟨AppQ w0 S0 B xs v,[]⟩]
theorem grown_later {wl w w':World} {r:Option Nat} (h:wl.grownBy w r) (hl:Tame.Later w w'):wl.grownBy w' r:=h.trans ⟨Below.os hl,Below.tape hl,Below.output hl,Below.size hl,fun i hi _=>Below.block hl i hi⟩
theorem ghosts10_ok {w0:World} {S0:Nat→Prop} {B p:Nat} {wl wr:World} {s:T} {u1 u2 u3 v:Value} {xs:List Q} (hp:p<B) (hB:B=wl.heap.size) (h0:wl.grownBy wr (some p)) (h1:HeldN p s u1 u2 u3 v wr) (h2:AppQ w0 S0 B xs v wr) :
  ∀ (i:Nat) (g:Tame.Ghost),(ghosts10 w0 S0 B p wl wr s u1 u2 u3 v xs)[i]? = some g→g.g wr.drew∧(∀ w w',Tame.Later w w'→g.g w→g.g w')∧
   ∀ j,[17,19].contains j=true→g.keeps.contains j=true→∀ w w',Turn2 p v.ownBlock j w w'→g.g w→g.g w':=by
 intro i g hi
 rcases i with _ | _ | _ | i
 ·obtain rfl:(⟨fun w=>wl.grownBy w (some p)∧wr.heap.size≤w.heap.size,[17,19]⟩:Tame.Ghost)=g:=by simpa [ghosts10] using hi
  refine⟨⟨grown_later h0 ((Below.refl _ _).drew),Nat.le_refl _⟩,fun a b hl h=>⟨grown_later h.1 hl,Nat.le_trans h.2 (Below.size hl)⟩,fun j _ _ a b hs h=>⟨⟨hs.os.trans h.1.os,hs.tape.trans h.1.tape,hs.output.trans h.1.output,Nat.le_trans h.1.size hs.size,fun k hk hne=>(hs.block k (Nat.lt_of_lt_of_le hk h.1.size) ?_).trans (h.1.block k hk hne)⟩,Nat.le_trans h.2 hs.size⟩⟩
  split
  ·intro e
   have:=(h2.lt k e.symm).1
   omega
  ·exact hne
 ·obtain rfl:(⟨HeldN p s u1 u2 u3 v,[17]⟩:Tame.Ghost)=g:=by simpa [ghosts10] using hi
  refine⟨Row.drew h1,fun a b hl h=>Row.below h hl (Row.lt h),fun j _ hj a b hs h=>?_⟩
  obtain rfl:=zZ hj
  exact Row.grown h hs (by simp only[if_true];intro e;have:=(h2.lt p e.symm).1;omega)
 ·obtain rfl:(⟨AppQ w0 S0 B xs v,[]⟩:Tame.Ghost)=g:=by simpa [ghosts10] using hi
  exact⟨OwnG.later (lastsQ0 w0 S0) h2 ((Below.refl _ _).drew),fun a b hl h=>OwnG.later (lastsQ0 w0 S0) h hl,fun j _ hj=>by cases hj⟩
 ·simp[ghosts10] at hi
def ProgMade (w:World) (S0:Nat→Prop) (l:List Nd) (e:Ending) (w':World):Prop:=∃ A c,e=.returned (.agg #[.slice A l.length c])∧NS w' (fun b=>S0 b∨(w.heap.size≤b∧b<w'.heap.size)) A l∧Below w.heap.size w w'
def AppN (w0:World) (S0:Nat→Prop) (B:Nat) (xs:List Nd) (u:Value) (w:World):Prop:=OwnG (RN0 w0 S0) 78 5 w B (Sb B u.ownBlock w) u xs
theorem TS.late {w0 w:World} {S0 S:Nat→Prop} {A:Option Addr} {l:List T} (h:TS w0 S0 A l) (hS:∀ b,S0 b→S b∧w.heap[b]? = w0.heap[b]?):TS w S A l:=Go.Proofs.YtdabndiaflagpaaGreatDoor.TS.move h hS
theorem QS0.late {w0 w:World} {S0 S S':Nat→Prop} {A:Option Addr} {l:List Q} (h:QS0 w0 S0 w S A l) (hS:∀ b,S0 b→S' b∧w.heap[b]? = w0.heap[b]?) (hS':∀ b,S b→S' b):QS w S' A l:=
 Rw.imp h fun q b off ⟨hb,⟨A,c,hc,ht,hl⟩,he⟩=>⟨hS' b hb,⟨A,c,hc,TS.late ht hS,hl⟩,EC.move (fun b hb=>⟨hS' b hb,rfl⟩) _ _ _ he⟩
theorem rn_ns0 {w0 w:World} {S0 S S':Nat→Prop} {A:Option Addr} {xs:List Nd} (hS:∀ b,S0 b→S' b∧w.heap[b]? = w0.heap[b]?) (hS':∀ b,S b→S' b) (h:Rw (fun x b off=>S b∧∃ cs,RN0 w0 S0 w S x cs∧∀ (j:Nat) u,cs[j]? = some u→w.cell? ⟨b,off+j,none⟩=some u) 5 A xs):NS w S' A xs:=
 ZM (Rw.imp h fun x b off ⟨hb,cs,⟨A1,c1,A2,c2,A3,c3,A4,c4,hcs,h1,h2,h3,h4⟩,hc⟩=>⟨hS' b hb,cs,⟨A1,c1,A2,c2,A3,c3,A4,c4,hcs,h1.move fun b hb=>⟨hS' b hb,rfl⟩,h2.move fun b hb=>⟨hS' b hb,rfl⟩,h3.move fun b hb=>⟨hS' b hb,rfl⟩,QS0.late h4 hS hS'⟩,hc⟩)
end Go.Proofs.YtdabndiaflagpaaGreatDoor.bk
namespace Go.Proofs.YtdabndiaflagpaaGreatDoor
open Go.RowKit
theorem ret_b {a b:Bool} (h:a=b):Ending.returned (.bool a)=Ending.returned (.bool b):=by rw[h]
end Go.Proofs.YtdabndiaflagpaaGreatDoor
namespace Go.Proofs
open Go.Shelf
open Go.RowKit in
open Go.RowKit in
open Go.RowKit in
open Go.RowKit in
open Go.RowKit in
open Go.RowKit in
open Go.RowKit in
open Go.RowKit in
open Go.RowKit in
open Go.Lib in
open Go.Lib in
open Go.Lib in
open Go.Lib in
open Go.RowKit Go.Sort Go.Lib in
open Go.RowKit Go.Sort Go.Lib in
open Go.RowKit Go.Sort Go.Lib in
open Go.RowKit Go.Sort Go.Lib in
open Go.RowKit Go.Sort Go.Lib in
open Go.RowKit Go.Sort Go.Lib in
open Go.RowKit Go.Sort Go.Lib in
open Go.RowKit Go.Sort Go.Lib in
open Go.RowKit Go.Sort Go.Lib in
open Go.RowKit in
def Tryz.laysM316_ren:Go.Shelf.Ren:=⟨fun | 316=>170 | n=>n,fun | 9=>9 | 3=>3 | 4=>4 | 37=>32 | 0=>0 | 127=>133 | 5=>5 | n=>n,fun | n=>n⟩
theorem Tryz.laysM316:Go.Proofs.LaysM.n316 Tryz.prog Tryz.laysM316_ren:={
 mixed:=by kernel_rfl
 f316:=Tryz.func170.trans (congrArg some (by kernel_rfl))
 t0:=Tryz.underlying0
 a0:=Tryz.isAgg0
 z0:=Tryz.sizeOf0
 v0:=Tryz.zeroValue0
 t3:=Tryz.underlying3
 a3:=Tryz.isAgg3
 z3:=Tryz.sizeOf3
 v3:=Tryz.zeroValue3
 t4:=Tryz.underlying4
 a4:=Tryz.isAgg4
 z4:=Tryz.sizeOf4
 v4:=Tryz.zeroValue4
 t9:=Tryz.underlying9
 a9:=Tryz.isAgg9
 z9:=Tryz.sizeOf9
 v9:=Tryz.zeroValue9
 t37:=Tryz.underlying32
 a37:=Tryz.isAgg32
 z37:=Tryz.sizeOf32
 v37:=Tryz.zeroValue32
 t127:=Tryz.underlying133
 a127:=Tryz.isAgg133
 z127:=Tryz.sizeOf133
 v127:=Tryz.zeroValue133
 t5:=Tryz.underlying5
 a5:=Tryz.isAgg5
 z5:=Tryz.sizeOf5
 v5:=Tryz.zeroValue5
 i0:=by kernel_rfl
 i3:=by kernel_rfl
 i4:=by kernel_rfl
 i5:=by kernel_rfl
 i9:=by kernel_rfl
 i37:=by kernel_rfl
 i127:=by kernel_rfl }
open Go.RowKit in
theorem Tryz.stringslite_Clone (s:ByteArray) (w:World) (hlim:s.size≤281474976710656) :
  Calls Tryz.prog 170 #[.string s] w fun e w'=>e=.returned (.string s)∧Below w.heap.size w w':=Any.stringslite_Clone Tryz.laysM316 s w hlim
open Go.RowKit in
open Go.RowKit in
open Go.RowKit in
open Go.RowKit in
open Go.RowKit in
open Go.RowKit in
open Go.RowKit in
open Go.RowKit in
open Go.RowKit in
open Go.RowKit in
open Go.RowKit in
open Go.RowKit in
open Go.RowKit in
open Go.RowKit in
open Go.RowKit in
open Go.RowKit in
open Go.RowKit in
open Go.RowKit in
open Go.RowKit in
open Go.RowKit in
open Go.RowKit in
open Go.RowKit in
open Go.RowKit in
open Go.RowKit in
open Go.RowKit in
open Go.RowKit in
open Go.RowKit in
open Go.RowKit in
def Tryz.laysC174_ren:Go.Shelf.Ren:=⟨fun | 174=>130 | 247=>154 | 245=>155 | 287=>171 | 279=>172 | 280=>173 | 281=>174 | 282=>175 | 321=>190 | 322=>191 | 316=>170 | 171=>193 | 205=>192 | 243=>197 | 246=>110 | 283=>139 | 284=>140 | 285=>141 | 286=>142 | 129=>162 | 317=>161 | 318=>163 | 319=>164 | 320=>165 | 337=>183 | 338=>184 | n=>n,fun | 9=>9 | 3=>3 | 2=>2 | 75=>165 | 85=>192 | 4=>4 | 167=>229 | 5=>5 | 53=>206 | 175=>230 | 46=>224 | 168=>232 | 37=>32 | 0=>0 | 210=>244 | 21=>21 | 127=>133 | 145=>255 | 143=>253 | 171=>205 | 173=>209 | 212=>221 | 51=>222 | 20=>20 | 213=>223 | 232=>250 | 233=>251 | 80=>89 | n=>n,fun | 15=>8 | 16=>9 | 17=>5 | 18=>11 | 19=>12 | n=>n⟩
theorem Tryz.laysC174:Go.Proofs.LaysC.n174 Tryz.prog Tryz.laysC174_ren:={
 mixed:=by kernel_rfl
 f129:=Tryz.func162.trans (congrArg some (by kernel_rfl))
 f171:=Tryz.func193.trans (congrArg some (by kernel_rfl))
 f174:=Tryz.func130.trans (congrArg some (by kernel_rfl))
 f205:=Tryz.func192.trans (congrArg some (by kernel_rfl))
 f243:=Tryz.func197.trans (congrArg some (by kernel_rfl))
 f245:=Tryz.func155.trans (congrArg some (by kernel_rfl))
 f246:=Tryz.func110.trans (congrArg some (by kernel_rfl))
 f247:=Tryz.func154.trans (congrArg some (by kernel_rfl))
 f279:=Tryz.func172.trans (congrArg some (by kernel_rfl))
 f280:=Tryz.func173.trans (congrArg some (by kernel_rfl))
 f281:=Tryz.func174.trans (congrArg some (by kernel_rfl))
 f282:=Tryz.func175.trans (congrArg some (by kernel_rfl))
 f283:=Tryz.func139.trans (congrArg some (by kernel_rfl))
 f284:=Tryz.func140.trans (congrArg some (by kernel_rfl))
 f285:=Tryz.func141.trans (congrArg some (by kernel_rfl))
 f286:=Tryz.func142.trans (congrArg some (by kernel_rfl))
 f287:=Tryz.func171.trans (congrArg some (by kernel_rfl))
 f316:=Tryz.func170.trans (congrArg some (by kernel_rfl))
 f317:=Tryz.func161.trans (congrArg some (by kernel_rfl))
 f318:=Tryz.func163.trans (congrArg some (by kernel_rfl))
 f319:=Tryz.func164.trans (congrArg some (by kernel_rfl))
 f320:=Tryz.func165.trans (congrArg some (by kernel_rfl))
 f321:=Tryz.func190.trans (congrArg some (by kernel_rfl))
 f322:=Tryz.func191.trans (congrArg some (by kernel_rfl))
 f337:=Tryz.func183.trans (congrArg some (by kernel_rfl))
 f338:=Tryz.func184.trans (congrArg some (by kernel_rfl))
 t0:=Tryz.underlying0
 a0:=Tryz.isAgg0
 z0:=Tryz.sizeOf0
 v0:=Tryz.zeroValue0
 t2:=Tryz.underlying2
 a2:=Tryz.isAgg2
 z2:=Tryz.sizeOf2
 v2:=Tryz.zeroValue2
 t3:=Tryz.underlying3
 a3:=Tryz.isAgg3
 z3:=Tryz.sizeOf3
 v3:=Tryz.zeroValue3
 t4:=Tryz.underlying4
 a4:=Tryz.isAgg4
 z4:=Tryz.sizeOf4
 v4:=Tryz.zeroValue4
 t5:=Tryz.underlying5
 a5:=Tryz.isAgg5
 z5:=Tryz.sizeOf5
 v5:=Tryz.zeroValue5
 t9:=Tryz.underlying9
 a9:=Tryz.isAgg9
 z9:=Tryz.sizeOf9
 v9:=Tryz.zeroValue9
 t20:=Tryz.underlying20
 a20:=Tryz.isAgg20
 z20:=Tryz.sizeOf20
 v20:=Tryz.zeroValue20
 t21:=Tryz.underlying21
 a21:=Tryz.isAgg21
 z21:=Tryz.sizeOf21
 v21:=Tryz.zeroValue21
 t37:=Tryz.underlying32
 a37:=Tryz.isAgg32
 z37:=Tryz.sizeOf32
 v37:=Tryz.zeroValue32
 t46:=Tryz.underlying224
 a46:=Tryz.isAgg224
 z46:=Tryz.sizeOf224
 v46:=Tryz.zeroValue224
 t51:=Tryz.underlying222
 a51:=Tryz.isAgg222
 z51:=Tryz.sizeOf222
 v51:=Tryz.zeroValue222
 t53:=Tryz.underlying206
 a53:=Tryz.isAgg206
 z53:=Tryz.sizeOf206
 v53:=Tryz.zeroValue206
 t75:=Tryz.underlying165
 a75:=Tryz.isAgg165
 z75:=Tryz.sizeOf165
 v75:=Tryz.zeroValue165
 t85:=Tryz.underlying192
 a85:=Tryz.isAgg192
 z85:=Tryz.sizeOf192
 v85:=Tryz.zeroValue192
 t127:=Tryz.underlying133
 a127:=Tryz.isAgg133
 z127:=Tryz.sizeOf133
 v127:=Tryz.zeroValue133
 t143:=Tryz.underlying253
 a143:=Tryz.isAgg253
 z143:=Tryz.sizeOf253
 v143:=Tryz.zeroValue253
 t145:=Tryz.underlying255
 a145:=Tryz.isAgg255
 z145:=Tryz.sizeOf255
 v145:=Tryz.zeroValue255
 t167:=Tryz.underlying229
 a167:=Tryz.isAgg229
 z167:=Tryz.sizeOf229
 v167:=Tryz.zeroValue229
 t168:=Tryz.underlying232
 a168:=Tryz.isAgg232
 z168:=Tryz.sizeOf232
 v168:=Tryz.zeroValue232
 t171:=Tryz.underlying205
 a171:=Tryz.isAgg205
 z171:=Tryz.sizeOf205
 v171:=Tryz.zeroValue205
 t173:=Tryz.underlying209
 a173:=Tryz.isAgg209
 z173:=Tryz.sizeOf209
 v173:=Tryz.zeroValue209
 t175:=Tryz.underlying230
 a175:=Tryz.isAgg230
 z175:=Tryz.sizeOf230
 v175:=Tryz.zeroValue230
 t210:=Tryz.underlying244
 a210:=Tryz.isAgg244
 z210:=Tryz.sizeOf244
 v210:=Tryz.zeroValue244
 t212:=Tryz.underlying221
 a212:=Tryz.isAgg221
 z212:=Tryz.sizeOf221
 v212:=Tryz.zeroValue221
 t213:=Tryz.underlying223
 a213:=Tryz.isAgg223
 z213:=Tryz.sizeOf223
 t232:=Tryz.underlying250
 a232:=Tryz.isAgg250
 z232:=Tryz.sizeOf250
 v232:=Tryz.zeroValue250
 t233:=Tryz.underlying251
 a233:=Tryz.isAgg251
 z233:=Tryz.sizeOf251
 v233:=Tryz.zeroValue251
 g15:=by kernel_rfl
 g16:=by kernel_rfl
 g17:=by kernel_rfl
 g18:=by kernel_rfl
 g19:=by kernel_rfl
 t80:=Tryz.underlying89
 a80:=Tryz.isAgg89
 z80:=Tryz.sizeOf89
 v80:=Tryz.zeroValue89
 i0:=by kernel_rfl
 i2:=by kernel_rfl
 i3:=by kernel_rfl
 i4:=by kernel_rfl
 i5:=by kernel_rfl
 i9:=by kernel_rfl
 i20:=by kernel_rfl
 i21:=by kernel_rfl
 i37:=by kernel_rfl
 i46:=by kernel_rfl
 i51:=by kernel_rfl
 i53:=by kernel_rfl
 i75:=by kernel_rfl
 i80:=by kernel_rfl
 i85:=by kernel_rfl
 i127:=by kernel_rfl
 i143:=by kernel_rfl
 i145:=by kernel_rfl
 i167:=by kernel_rfl
 i168:=by kernel_rfl
 i171:=by kernel_rfl
 i173:=by kernel_rfl
 i175:=by kernel_rfl
 i210:=by kernel_rfl
 i212:=by kernel_rfl
 i232:=by kernel_rfl
 i233:=by kernel_rfl
 m15:=by kernel_rfl
 m16:=by kernel_rfl
 m17:=by kernel_rfl
 m18:=by kernel_rfl
 m19:=by kernel_rfl
 c0:=by kernel_rfl
 c2:=by kernel_rfl
 c3:=by kernel_rfl
 c4:=by kernel_rfl
 c5:=by kernel_rfl
 c9:=by kernel_rfl
 c20:=by kernel_rfl
 c21:=by kernel_rfl
 c37:=by kernel_rfl
 c46:=by kernel_rfl
 c51:=by kernel_rfl
 c53:=by kernel_rfl
 c75:=by kernel_rfl
 c80:=by kernel_rfl
 c85:=by kernel_rfl
 c127:=by kernel_rfl
 c143:=by kernel_rfl
 c145:=by kernel_rfl
 c167:=by kernel_rfl
 c168:=by kernel_rfl
 c171:=by kernel_rfl
 c173:=by kernel_rfl
 c175:=by kernel_rfl
 c210:=by kernel_rfl
 c212:=by kernel_rfl
 c213:=by kernel_rfl
 c232:=by kernel_rfl
 c233:=by kernel_rfl }
open Go.RowKit in
open Go.RowKit in
open Go.RowKit in
open Go.RowKit in
theorem Tryz.strconv_ParseInt_10_at64_ok (s:ByteArray) (hmax:s.size≤9223372036854775806) (v:Int) (h:Lib.parseIntB 64 s.data.toList=.ok v) (w:World) :
  Calls Tryz.prog 130 #[.string s,.int .i64 10,.int .i64 64] w fun e w'=>e=.returned (.tuple #[.int .i64 v,.nilIface])∧(w'=w∨∃ t,w'=Lib.bytesWorld w 5 t):=Any.strconv_ParseInt_10_at64_ok Tryz.laysC174 s hmax v h w
open Go.RowKit in
open Go.RowKit in
theorem Tryz.strconv_ParseInt_10_at64_range (s:ByteArray) (hlim:s.size≤281474976710656) (h:Lib.parseIntB 64 s.data.toList=.range) (ev:Value) (w:World) (hv:w.cell? ⟨9,0,none⟩=some ev) (hev:ev=.nilIface∨∃ te pe,ev=.iface te pe) :
  Calls Tryz.prog 130 #[.string s,.int .i64 10,.int .i64 64] w fun e w'=>∃ N,e=.returned (.tuple #[.int .i64 (Lib.intSat 64 s.data.toList),.iface 232 (.pointer (some ⟨N,0,none⟩))])∧w.heap.size≤N∧w'.heap[N]? = some (.cells #[.string ⟨#[80,97,114,115,101,73,110,116]⟩,.string s,ev] 244 (0,0))∧Below w.heap.size w w':=Any.strconv_ParseInt_10_at64_range Tryz.laysC174 s hlim h ev w hv hev
open Go.RowKit in
open Go.RowKit in
open Go.RowKit in
open Go.RowKit in
open Go.RowKit in
open Go.RowKit in
open Go.RowKit in
open Go.RowKit in
open Go.RowKit in
open Go.RowKit in
open Go.RowKit in
open Go.RowKit in
open Go.RowKit in
open Go.RowKit in
open Go.RowKit in
open Go.RowKit in
open Go.RowKit in
open Go.RowKit in
open Go.RowKit in
open Go.RowKit Go.Lib in
open Go.RowKit Go.Lib in
open Go.RowKit Go.Lib in
open Go.RowKit Go.Lib in
open Go.RowKit Go.Lib in
open Go.RowKit Go.Lib in
open Go.RowKit Go.Lib in
def Tryz.lays145_ren:Go.Shelf.Ren:=⟨fun | 145=>169 | 220=>189 | 219=>196 | 217=>200 | 225=>201 | 224=>202 | 267=>203 | 266=>205 | 314=>206 | n=>n,fun | 9=>9 | 4=>4 | 59=>227 | 3=>3 | 5=>5 | 46=>224 | 146=>258 | 51=>222 | n=>n,fun | 1=>7 | n=>n⟩
theorem Tryz.lays145:Go.Proofs.Lays.n145 Tryz.prog Tryz.lays145_ren:={
 mixed:=by kernel_rfl
 f145:=Tryz.func169.trans (congrArg some (by kernel_rfl))
 f217:=Tryz.func200.trans (congrArg some (by kernel_rfl))
 f219:=Tryz.func196.trans (congrArg some (by kernel_rfl))
 f220:=Tryz.func189.trans (congrArg some (by kernel_rfl))
 f224:=Tryz.func202.trans (congrArg some (by kernel_rfl))
 f225:=Tryz.func201.trans (congrArg some (by kernel_rfl))
 f266:=Tryz.func205.trans (congrArg some (by kernel_rfl))
 f267:=Tryz.func203.trans (congrArg some (by kernel_rfl))
 f314:=Tryz.func206.trans (congrArg some (by kernel_rfl))
 t3:=Tryz.underlying3
 a3:=Tryz.isAgg3
 z3:=Tryz.sizeOf3
 v3:=Tryz.zeroValue3
 t4:=Tryz.underlying4
 a4:=Tryz.isAgg4
 z4:=Tryz.sizeOf4
 v4:=Tryz.zeroValue4
 t5:=Tryz.underlying5
 a5:=Tryz.isAgg5
 z5:=Tryz.sizeOf5
 v5:=Tryz.zeroValue5
 t9:=Tryz.underlying9
 a9:=Tryz.isAgg9
 z9:=Tryz.sizeOf9
 v9:=Tryz.zeroValue9
 t46:=Tryz.underlying224
 a46:=Tryz.isAgg224
 z46:=Tryz.sizeOf224
 v46:=Tryz.zeroValue224
 t51:=Tryz.underlying222
 a51:=Tryz.isAgg222
 z51:=Tryz.sizeOf222
 v51:=Tryz.zeroValue222
 t59:=Tryz.underlying227
 a59:=Tryz.isAgg227
 z59:=Tryz.sizeOf227
 v59:=Tryz.zeroValue227
 t146:=Tryz.underlying258
 a146:=Tryz.isAgg258
 z146:=Tryz.sizeOf258
 v146:=Tryz.zeroValue258
 g1:=by kernel_rfl }
open Go.RowKit Go.Lib in
theorem Tryz.strings_Cut (s sep:ByteArray) (m:Int) (w:World) (hs:s.size<4294967281) (hm:w.cell? ⟨7,0,none⟩=some (.int .i64 m)) :
  Calls Tryz.prog 169 #[.string s,.string sep] w fun e w'=>e=.returned (.tuple #[.string ⟨(Lib.cut s.data.toList sep.data.toList).1.toArray⟩,.string ⟨(Lib.cut s.data.toList sep.data.toList).2.1.toArray⟩,.bool (Lib.cut s.data.toList sep.data.toList).2.2])∧∃ n,w'=w.drewN n:=Any.strings_Cut Tryz.lays145 s sep m w hs hm
open Go.RowKit Go.Lib in
open Go.RowKit Go.Lib in
open Go.RowKit Go.Lib in
open Go.RowKit Go.Lib in
def Tryz.lays99_ren:Go.Shelf.Ren:=⟨fun | 99=>131 | 206=>156 | n=>n,fun | 9=>9 | 4=>4 | 3=>3 | n=>n,fun | n=>n⟩
theorem Tryz.lays99:Go.Proofs.Lays.n99 Tryz.prog Tryz.lays99_ren:={
 mixed:=by kernel_rfl
 f99:=Tryz.func131.trans (congrArg some (by kernel_rfl))
 f206:=Tryz.func156.trans (congrArg some (by kernel_rfl))
 t3:=Tryz.underlying3
 a3:=Tryz.isAgg3
 z3:=Tryz.sizeOf3
 v3:=Tryz.zeroValue3
 t4:=Tryz.underlying4
 a4:=Tryz.isAgg4
 z4:=Tryz.sizeOf4
 v4:=Tryz.zeroValue4
 t9:=Tryz.underlying9
 a9:=Tryz.isAgg9
 z9:=Tryz.sizeOf9
 v9:=Tryz.zeroValue9 }
open Go.RowKit Go.Lib in
theorem Tryz.strings_HasPrefix (s p:ByteArray) (w:World) :
  Calls Tryz.prog 131 #[.string s,.string p] w fun e w'=>e=.returned (.bool (Lib.hasPrefix s.data.toList p.data.toList))∧w'=w:=Any.strings_HasPrefix Tryz.lays99 s p w
end Go.Proofs
namespace Go.Proofs.YtdabndiaflagpaaGreatDoor
open Go.RowKit
theorem qW (s:T) (w:World) (hl:s.length≤1099511627776):Calls Tryz.prog 152 #[.string ⟨s.toArray⟩] w fun e w'=>e=.returned (.bool (jp s))∧Below w.heap.size w w':=by
 go_enter Tryz.func152,Tryz.ntmps152
 go_wp2_with (first
  |(go_at_call 52;refine(um w).mono ?_;rintro e w1 ⟨b,rfl,hm,hlt,hb⟩;have HM:Hid (WMk w1 b j5.reverse):=hm;have HB:=YV hb;clear hm hb)
  |(with_reducible refine yR (o:=⟨some 5,_,_,_,_,_⟩) rfl _ _ rfl b _ rfl HM.out s rfl (by unfold maxLen;omega) ?_))
 go_ret
 exact⟨jq rfl,HB.out⟩
end Go.Proofs.YtdabndiaflagpaaGreatDoor
