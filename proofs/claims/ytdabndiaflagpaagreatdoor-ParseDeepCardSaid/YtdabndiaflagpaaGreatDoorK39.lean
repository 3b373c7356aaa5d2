/- Parts: ReadX, ReadP, Deep, ReadD. -/
import Derived.Test.YtdabndiaflagpaaGreatDoorRows
import Derived.ProofKit
import Derived.OpenShut
import Derived.Deep.Slices
import Derived.Deep.Fields
import Derived.Test.YtdabndiaflagpaaGreatDoorK00
import Derived.Test.YtdabndiaflagpaaGreatDoorK01
import Derived.Deep.CutRange
import Derived.Test.YtdabndiaflagpaaGreatDoorK26
import Derived.Test.YtdabndiaflagpaaGreatDoorK28
set_option maxRecDepth 100000
set_option maxHeartbeats 4000000
namespace Go.Proofs.YtdabndiaflagpaaGreatDoor
open Go.RowKit Go.ChangeShapes Go.WideShapes Go.Deep
section
variable {H:Type} {enc:TypeId×Value→H} {P:Program} {w:World} {base:Nat} {sp:Nat→Bool} {held:Bool}
theorem JL {t:TypeId} {fs:Array Field} {fuel:Nat} {cs:List Value} {x:DataW H×List MemPlace} (hs:P.underlying t=some (.struct fs)) (hone:oneCellFields P fs=true) (hC:P.cellsOf t=fs.size) (h:DataW.trod enc P w base sp held fuel t cs=some x) :
  cs.length=fs.size∧∃ (ys:List (DataW H×List MemPlace)) (m:Nat),x.1=.agg (ys.map (·.1))∧ys.length=fs.size∧∀ (j:Nat) (f:Field),fs[j]? = some f→∃ v y,cs[j]? = some v∧ys[j]? = some y∧DataW.trod enc P w base sp held m f.type [v]=some y:=by
 obtain⟨ys,m,_,hx,hl,hyl,hf⟩:=DataW.trod_struct hs h
 rw[hC] at hl
 refine⟨hl,ys,m,by rw[hx],hyl,fun j f hj=>?_⟩
 have hjl:j<fs.size:=(Array.getElem?_eq_some_iff.1 hj).1
 obtain⟨ho,hc⟩:=hone_of hone j f hj
 have h1:=hf j f hj
 rw[ho,hc,List.drop_eq_getElem_cons (by omega:j<cs.length),List.take_succ_cons,List.take_zero,List.getElem?_eq_getElem (by omega:j<ys.length)] at h1
 exact⟨_,_,List.getElem?_eq_getElem (by omega),List.getElem?_eq_getElem (by omega),h1⟩
end
theorem YB {H:Type} (d:DataW H):1≤Rows.uptoBulk d:=by
 cases d with
 | lit l=>cases l <;> simp[Rows.uptoBulk]
 | nil=>simp[Rows.uptoBulk]
 | ptr d=>simp[Rows.uptoBulk]
 | slice elems spare=>simp[Rows.uptoBulk]
 | agg parts=>simp[Rows.uptoBulk]
 | iface t d=>simp[Rows.uptoBulk]
 | map entries=>simp[Rows.uptoBulk]
 | held h=>simp[Rows.uptoBulk]
theorem YC {H:Type} {d:DataW H} {l:List (DataW H)} (h:d∈l):Rows.uptoBulk d≤Rows.uptoBulkAll l:=by
 induction l with
 | nil=>cases h
 | cons x r ih=>
  simp only[Rows.uptoBulkAll]
  rcases List.mem_cons.1 h with rfl | e
  ·omega
  ·have:=ih e;omega
theorem list_of {α:Type} (n:Nat) {p:Nat→α→Prop} (h:∀ i,i<n→∃ a,p i a):∃ l:List α,l.length=n∧∀ (i:Nat) a,l[i]? = some a→p i a:=by
 induction n with
 | zero=>exact⟨[],rfl,fun i a h=>by simp at h⟩
 | succ n ih=>
  obtain⟨l,hl,hp⟩:=ih fun i hi=>h i (by omega)
  obtain⟨a,ha⟩:=h n (by omega)
  refine⟨l++[a],by simp[hl],fun i b hb=>?_⟩
  rw[List.getElem?_append] at hb
  split at hb
  ·exact hp i b hb
  ·have:i - l.length=0:=by
    rcases Nat.eq_zero_or_pos (i - l.length) with h' | h'
    ·exact h'
    ·rw[List.getElem?_eq_none (by simp;omega)] at hb;cases hb
   rw[this] at hb
   simp at hb
   subst hb
   rw[show i=n by omega]
   exact ha
end Go.Proofs.YtdabndiaflagpaaGreatDoor
namespace Go.Proofs.YtdabndiaflagpaaGreatDoor
open Go.RowKit Go.ChangeShapes Go.WideShapes Go.Deep
theorem YD {H:Type} (l:List (DataW H)):l.length≤Rows.uptoBulkAll l:=by
 induction l with
 | nil=>simp[Rows.uptoBulkAll]
 | cons x r ih=>have:=YB x;simp only[Rows.uptoBulkAll,List.length_cons];omega
theorem kB {H:Type} {enc:TypeId×Value→H} {W:World} {sp:Nat→Bool} {held:Bool} {α:Type} {Pr:List Value→α→Prop} (N:Nat) {t te:TypeId} {k fuel:Nat} {v:Value} {y:DataW H×List MemPlace}
  (hu:Tryz.prog.underlying t=some (.slice te)) (hk:Tryz.prog.cellsOf te=k) (hk0:0<k) (h:DataW.trod enc Tryz.prog W 0 sp held fuel t [v]=some y) (hN:Rows.uptoBulk y.1≤N)
  (one:∀ (d:DataW H) fuel cs p,Rows.uptoBulk d≤N→DataW.trod enc Tryz.prog W 0 sp held fuel te cs=some (d,p)→∃ x,Pr cs x) :
  ∃ A c xs,v=.slice A xs.length c∧(xs.length≤N∧xs.length≤c)∧(∀ x∈xs,∃ cs,Pr cs x)∧Rw (fun x b off=>Old W b∧∃ cs,Pr cs x∧∀ (j:Nat) u,cs[j]? = some u→W.cell? ⟨b,off+j,none⟩=some u) k A xs:=by
 rcases open_slice hu h with ⟨hc,_⟩ | ⟨a,len,cap,mm,q,D,Pl,hc,_,hle,hcm,hmm,hx,hi⟩
 ·injection hc with hc
  exact⟨none,0,[],hc,⟨Nat.zero_le _,Nat.zero_le _⟩,fun x hx=>by simp at hx,.inl rfl⟩
 ·injection hc with hc
  subst hc
  rw[hx] at hN
  simp only[Rows.uptoBulk] at hN
  have hmem:∀ i,i<len→Rows.uptoBulk (D i)≤Rows.uptoBulkAll ((List.range len).map D):=fun i hi=>YC (List.mem_map.2 ⟨i,List.mem_range.2 hi,rfl⟩)
  have hmle:len≤mm:=by rw[hmm];split <;> omega
  rw[hk] at hi
  obtain⟨xs,hxl,hxs⟩:=list_of len (p:=fun i x=>∃ cs',W.cells? 0 (a.add (i * k)) k=some cs'∧Pr cs' x) (fun i hil=>by
   obtain⟨cs',hc,ht⟩:=hi i (by omega)
   obtain⟨x,hx⟩:=one (D i) q cs' (Pl i) (by have:=hmem i hil;omega) ht
   exact⟨x,cs',hc,hx⟩)
  subst hxl
  have hlen:=YD ((List.range xs.length).map D)
  rw[List.length_map,List.length_range] at hlen
  refine⟨some a,cap,xs,rfl,⟨by omega,hle⟩,fun x hx=>?_,?_⟩
  ·obtain⟨i,hi⟩:=List.getElem?_of_mem hx
   obtain⟨cs,_,hp⟩:=hxs i x hi
   exact⟨cs,hp⟩
  ·rcases Nat.eq_zero_or_pos xs.length with h0 | h0
   ·exact .inl (List.eq_nil_of_length_eq_zero h0)
   ·have cell:∀ (i:Nat) x,xs[i]? = some x→∃ cs,Pr cs x∧cs.length=k∧∀ (j:Nat) u,cs[j]? = some u→W.cell? ((a.add (i * k)).add j)=some u:=fun i x hx=>by
     obtain⟨cs',hc,hp⟩:=hxs i x hx
     obtain⟨_,hl,hat⟩:=World.cells?_some hc
     exact⟨cs',hp,hl,fun j u hu=>by
      have hj:j<k:=by
       rcases Nat.lt_or_ge j k with h' | h'
       ·exact h'
       ·rw[List.getElem?_eq_none (by omega)] at hu;cases hu
      rw[hat j hj,hu]⟩
    obtain⟨b,off,spot⟩:=a
    have hspot:spot=none:=by
     obtain⟨cs,_,hl,hc⟩:=cell 0 _ (List.getElem?_eq_getElem h0)
     have:=World.cell?_spot (hc 0 _ (List.getElem?_eq_getElem (by omega)))
     simpa [Addr.add] using this
    subst hspot
    refine .inr ⟨b,off,rfl,fun i x hx=>?_⟩
    obtain⟨cs,hp,hl,hc⟩:=cell i x hx
    have at_:∀ (j:Nat) u,cs[j]? = some u→W.cell? ⟨b,off+i * k+j,none⟩=some u:=fun j u hu=>by have:=hc j u hu;rw[jm,jm] at this;exact this
    exact⟨World.block_lt_of_cell? W _ (at_ 0 _ (List.getElem?_eq_getElem (by omega))),cs,hp,at_⟩
section
variable {H:Type} {enc:TypeId×Value→H} {W:World} {sp:Nat→Bool} {held:Bool}
end
end Go.Proofs.YtdabndiaflagpaaGreatDoor
namespace Go.Proofs.YtdabndiaflagpaaGreatDoor
open Go.RowKit
theorem ZH (a b:T):(⟨a.toArray⟩:ByteArray)++⟨b.toArray⟩=⟨(a++b).toArray⟩:=by
 apply ByteArray.ext
 simp
def qY (w:World) (B:Nat) (p:T×Int) (b off:Nat):Prop:=b<B∧w.cell? ⟨b,off,none⟩=some (.string ⟨p.1.toArray⟩)∧w.cell? ⟨b,off+1,none⟩=some (.int .u16 p.2)
theorem qY.later {w w':World} {p:T×Int} {b off:Nat} (h:qY w w.heap.size p b off) (hb:Below w.heap.size w w'):qY w' w.heap.size p b off:=
 ⟨h.1,(hb.cell (p:=⟨b,_,none⟩) h.1).trans h.2.1,(hb.cell (p:=⟨b,_,none⟩) h.1).trans h.2.2⟩
theorem Yx (ps:List (T×Int)) (A:Option Addr) (c:Nat) (w:World) (hA:Rw (qY w w.heap.size) 2 A ps) (hp:∀ p∈ps,0≤p.2∧p.2≤65535)
  (HT:Hid (∀ (s:T) w2,Below w.heap.size w w2→s.length≤12000→Calls Tryz.prog 7 #[.string ⟨s.toArray⟩] w2 fun e w'=>e=.returned (.bool true)∧Below w2.heap.size w2 w'))
  (HW:Hid (∀ w2,Below w.heap.size w w2→Calls Tryz.prog 8 #[] w2 fun e w'=>e=.returned (.bool true)∧Below w2.heap.size w2 w')) :
  Calls Tryz.prog 4 #[.slice A ps.length c] w fun e w'=>e=.returned (.bool true)∧Below w.heap.size w w':=by
 have HA:=YV hA
 have HP:=YV hp
 clear hA hp
 by_cases h10:(10:Int)<(ps.length:Int)
 ·go_enter Tryz.func4,Tryz.ntmps4
  go_wp2_with fail
  go_ret
  exact⟨rfl,Below.refl _ _⟩
 ·go_enter Tryz.func4,Tryz.ntmps4
  go_wp2_with fail
  go_loopg [3,4] ps.length (fun g s k wr=>∃ (i:Nat) (t:T),i+g=ps.length∧k=.int .i64 (i:Int)∧s=.string ⟨t.toArray⟩∧t.length≤12000∧Below w.heap.size w wr)
  case atStart=>exact⟨0,[],by omega,rfl,rfl,by simp,Below.refl _ _⟩
  case round=>
   obtain⟨i,t,hi,rfl,rfl,htl,hbel⟩:=hrel
   have HBL:=YV hbel
   clear hbel
   by_cases hit:i<ps.length
   ·obtain⟨⟨x,m⟩,hx⟩:∃ p,ps[i]? = some p:=⟨_,List.getElem?_eq_getElem hit⟩
    obtain⟨b,off,hA,hc⟩:=HA.out.at hx
    obtain⟨hb,c0,c1⟩:=hc.later HBL.out
    have hm:=HP.out _ (List.mem_of_getElem? hx)
    simp only at c0 c1 hm
    subst hA
    have HC:=YV hc
    have HX:=YV hx
    clear hx hc
    by_cases h1:(60:Int)<(x.length:Int)
    ·go_upto_region 7 with fail
     go_region
     all_goals go_wp2_with fail
     all_goals go_ret
     all_goals exact⟨rfl,HBL.out.drew⟩
    ·by_cases h2:(1100:Int)<m
     ·go_upto_region 7 with fail
      go_region
      all_goals go_wp2_with fail
      all_goals go_ret
      all_goals exact⟨rfl,HBL.out.drew⟩
     ·obtain⟨n,hn⟩:∃ n:Nat,m=(n:Int):=⟨m.toNat,by omega⟩
      subst hn
      obtain⟨q,hq⟩:∃ q:Nat,q=n * x.length:=⟨_,rfl⟩
      have hqi:(x.length:Int) * (n:Int)=(q:Int):=by rw[hq,Int.natCast_mul,Int.mul_comm]
      have hq2:q≤66000:=by
       rw[hq]
       exact Nat.le_trans (Nat.mul_le_mul (show n≤1100 by omega) (show x.length≤60 by omega)) (by decide)
      have HQ:=YV hq
      clear hq
      by_cases h3:(12000:Int)<(t.length:Int)+(q:Int)
      ·go_upto_region 7 with fail
       go_region
       all_goals go_wp2_with fail
       all_goals go_ret
       all_goals exact⟨rfl,HBL.out.drew⟩
      ·go_upto_region 7 with fail
       go_region
       all_goals go_wp2_with fail
       go_loopg [3,5] n (fun g s k wr2=>∃ (j y:Nat) (u:T),y=g∧j+y=n∧k=.int .i64 (j:Int)∧s=.string ⟨u.toArray⟩∧u.length+y * x.length=t.length+q∧Below w.heap.size w wr2)
       case atStart=>exact⟨0,n,t,rfl,by omega,rfl,rfl,by rw[HQ.out],HBL.out.drew⟩
       case round=>
        obtain⟨j,y,u,hyg,hj,rfl,rfl,hul,hbel⟩:=hrel
        have HBJ:=YV hbel
        clear hbel
        obtain⟨_,d0,d1⟩:=HC.out.later HBJ.out
        simp only at d0 d1
        clear c0 c1
        by_cases hjn:j<n
        ·obtain⟨g2,hg2⟩:∃ g2,g2+1+j=n:=⟨n - (j+1),by omega⟩
         go_wp2_with fail
         rw[ZH]
         go_roundg g2
         case rel=>
          refine⟨j+1,g2,u++x,rfl,by omega,by go_num,rfl,?_,HBJ.out⟩
          have h3:u.length+(g2+1) * x.length=t.length+q:=by
           have:y=g2+1:=by omega
           rw[← this];exact hul
          rw[List.length_append]
          have h4:(g2+1) * x.length=g2 * x.length+x.length:=Nat.succ_mul _ _
          omega
         case measure=>omega
        ·go_wp2_with fail
         go_roundg (ps.length - (i+1))
         case rel=>
          refine⟨i+1,u,by omega,by go_num,rfl,?_,HBJ.out⟩
          have:=Nat.le_add_right u.length (y * x.length)
          omega
         case measure=>omega
   ·go_wp2_with (first
     |(go_at_call 7;refine(HT.out t _ HBL.out htl).mono ?_;rintro e w1 ⟨rfl,hb1⟩;have HB1:=YV (HBL.out.trans (hb1.mono HBL.out.size));clear hb1)
     |(go_at_call 8;refine(HW.out _ HB1.out).mono ?_;rintro e w2 ⟨rfl,hb2⟩;have HB2:=YV (HB1.out.trans (hb2.mono HB1.out.size));clear hb2))
    go_ret
    exact⟨rfl,HB2.out⟩
end Go.Proofs.YtdabndiaflagpaaGreatDoor
namespace Go.Proofs.YtdabndiaflagpaaGreatDoor
open Go.RowKit Go.ChangeShapes Go.WideShapes Go.Deep
section
variable {H:Type} {enc:TypeId×Value→H} {W:World} {sp:Nat→Bool} {held:Bool}
def PP (cs:List Value) (p:T×Int):Prop:=cs=[.string ⟨p.1.toArray⟩,.int .u16 p.2]∧0≤p.2∧p.2≤65535
theorem Z0 (d:DataW H) (fuel:Nat) (cs:List Value) (p:List MemPlace) (h:DataW.trod enc Tryz.prog W 0 sp held fuel 27 cs=some (d,p)):∃ v,PP cs v:=by
 obtain⟨hl,ys,m,hd,hyl,hf⟩:=JL Tryz.underlying27 (by kernel_rfl) (by kernel_rfl) h
 obtain⟨v0,y0,a0,b0,t0⟩:=hf 0 _ rfl
 obtain⟨v1,y1,a1,b1,t1⟩:=hf 1 _ rfl
 obtain⟨s,hv0,hy0,_⟩:=DataW.trod_string Tryz.underlying9 t0
 obtain⟨k,hv1,hy1,hk⟩:=DataW.trod_int Tryz.underlying25 t1
 injection hv0 with hv0
 injection hv1 with hv1
 subst hv0 hv1
 have hcs:cs=[.string s,.int .u16 k]:=by
  match cs,hl with
  | [c0,c1],_=>
   simp at a0 a1
   rw[a0,a1]
 have:=Go.bounds_u16 hk
 exact⟨(s.data.toList,k),by rw[hcs],by simpa using this⟩
theorem kC {fuel:Nat} {v:Value} {y:DataW H×List MemPlace} (h:DataW.trod enc Tryz.prog W 0 sp held fuel 24 [v]=some y) :
  ∃ A c ps,v=.slice A ps.length c∧Rw (qY W W.heap.size) 2 A ps∧∀ p∈ps,0≤p.2∧p.2≤65535:=by
 obtain⟨A,c,ps,hv,_,hp,hr⟩:=kB (Pr:=PP) (Rows.uptoBulk y.1) Tryz.underlying24 (k:=2) (by kernel_rfl) (by decide) h (Nat.le_refl _) fun d fuel cs p _ h=>Z0 d fuel cs p h
 refine⟨A,c,ps,hv,hr.imp fun p b off ⟨hb,cs,hpp,hc⟩=>?_,fun p hp'=>?_⟩
 ·obtain⟨rfl,_⟩:=hpp
  exact⟨hb,by simpa using hc 0 _ rfl,hc 1 _ rfl⟩
 ·obtain⟨cs,hpp⟩:=hp p hp'
  exact hpp.2
end
end Go.Proofs.YtdabndiaflagpaaGreatDoor
