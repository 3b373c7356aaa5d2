/- Parts: LxR6. -/
import Derived.Deep.CutRange
import Derived.Test.YtdabndiaflagpaaGreatDoorK20
set_option maxRecDepth 100000
set_option maxHeartbeats 4000000
namespace Go.Proofs.YtdabndiaflagpaaGreatDoor
open Go.RowKit
def RefPost (s:T) (w0:World) (e:Ending) (w':World):Prop:=
 (∃ (ts:List Tk) (V:Value),lexA s 0 []=(ts,0,0)∧e=.returned (.tuple #[V,.int .i64 0,.int .i64 0])∧OwnG RRk 113 4 w' w0.heap.size (Sb w0.heap.size V.ownBlock w') V ts∧Below w0.heap.size w0 w')∨
 (∃ (a:Nat) (code:Int),lexA s 0 []=([],a,code)∧(code=2∨code=4)∧e=.returned (.tuple #[.slice none 0 0,.int .i64 (a:Int),.int .i64 code])∧Below w0.heap.size w0 w')
theorem qN {W0 w w':World} {tv v':Value} {acc:List Tk} {t:Tk} {ds:List Value} (hx:CG RRk w (Sb W0.heap.size tv.ownBlock w) acc ds) (ho':w'.ownsRow W0.heap.size 113 4 v' (acc.length+1) (ds++rtC t))
  (hgr:w.grownBy w' tv.ownBlock) (hat:v'.ownBlock=tv.ownBlock∨v'.ownBlock=some w.heap.size):OwnG RRk 113 4 w' W0.heap.size (Sb W0.heap.size v'.ownBlock w') v' (acc++[t]):=by
 have hm:∀ q,Sb W0.heap.size tv.ownBlock w q→Sb W0.heap.size v'.ownBlock w' q∧w'.heap[q]? = w.heap[q]?:=fun q hq=>⟨⟨hq.1,Nat.lt_of_lt_of_le hq.2.1 hgr.size,by
  rcases hat with h | h
  ·rw[h];exact hq.2.2
  ·rw[h];intro e;injection e with e;have:=hq.2.1;omega⟩,hgr.block q hq.2.1 hq.2.2⟩
 refine⟨ds++rtC t,?_,CG.snoc rfl (hx.move yp hm)⟩
 rw[List.length_append]
 exact ho'
structure Went (c:UInt8) (r:T) (p b:Nat) (W w:World) (k v:Int) (n:Nat):Prop where
 step_:zx (c::r)=.tok k n v
 row_:Row w b 113 #[.int .i64 k,.string ⟨#[]⟩,.int .i64 v,.int .i64 (p:Int)]
 below_:Below W.heap.size W w
 pos_:0<n
theorem qe (s:T) (w:World) (hs:s.length≤1000000):Calls Tryz.prog 42 #[.string ⟨s.toArray⟩] w (RefPost s w):=by
 obtain⟨i0,hi0,hz0,hz1,hz2⟩:=info_parts JS
 obtain⟨R,hR⟩:∃ R,R=lexA s 0 []:=⟨_,rfl⟩
 have HR0:=YV hR.symm
 clear hR
 go_enter Tryz.func42,Tryz.ntmps42
 go_wp2_with fail
 go_loopg [5,6] s.length (fun g V k wr=>∃ (a:Nat) (acc:List Tk),a+g=s.length∧k=.int .i64 (a:Int)∧RxAt s w wr V a acc∧lexA (s.drop a) a acc=R)
 case atStart=>exact⟨0,[],by omega,rfl,⟨OwnG.nil _ _ _ _ _ _,Below.refl _ _,Nat.le_refl _,Nat.zero_le _⟩,HR0.out⟩
 case round=>
  obtain⟨a,acc,hga,rfl,ha,hr⟩:=hrel
  have HA:=YV ha
  have HR:=YV hr
  have HSK:=YV (JQ s a wr hs ha.le_)
  have hwz:w.heap.size≤wr.heap.size:=ha.below_.size
  clear ha hr
  go_upto_if 21 with (go_at_call 76;refine HSK.out.mono ?_;rintro e w1 ⟨rfl,p,q,rfl,h1,h2,h3⟩;have H3:=YV h3;clear h3 HSK)
  rcases H3.out with ⟨rfl,hl,hnb⟩ | ⟨rfl,hl⟩
  ·have HL:=YV hl
   have HNB:=YV hnb
   clear hl hnb H3
   cases hd:s.drop p with
   | nil=>
    -- the end
    have hpe:p=s.length:=by have:=congrArg List.length hd;rw[List.length_drop] at this;simp only[List.length_nil] at this;omega
    obtain⟨t,ht⟩:∃ t:Tk,t=⟨0,[],0,s.length⟩:=⟨_,rfl⟩
    have hown:=OwnG.later yp HA.out.own_ ((Below.refl wr.heap.size wr).alloc (Nat.le_refl _) (.cells (rtC t).toArray 113))
    have hcs:(rtC t).toArray=#[.int .i64 0,.string ⟨#[]⟩,.int .i64 0,.int .i64 (s.length:Int)]:=by rw[ht];rfl
    rw[hcs] at hown
    obtain⟨ds,ho,hx⟩:=hown
    have HO:=YV ho
    have HX:=YV hx
    have HT:=YV ht
    have hnew:∀ (j:Nat) u,(rtC t)[j]? = some u→(wr.alloc (.cells (rtC t).toArray 113)).cell? (Addr.add ⟨wr.heap.size,0,none⟩ j)=some u:=fun j u hu=>by
     rw[jm,Nat.zero_add,(Row.made wr 113 (rtC t).toArray).cell j,← hu];simp
    rw[hcs] at hnew
    have HNW:=YV hnew
    have hfew:acc.length≤1000000:=by have:=HA.out.few_;have:=HA.out.le_;omega
    have hsz2:w.heap.size≤(wr.alloc (.cells #[.int .i64 0,.string ⟨#[]⟩,.int .i64 0,.int .i64 (s.length:Int)] 113)).heap.size:=by simp;omega
    have HZ2:=YV hsz2
    clear hsz2 hcs
    subst hpe
    clear ht ho hx hnew hd
    go_wp2_with (at_builtin;go_must (refine wpList_append_own_at _ rfl (.tmp 28) (.tmp 32) 106 rfl w.heap.size 113 i0 _ 4 40 Tryz.underlying106 hi0 hz0 hz1 hz2 rfl (by omega) _ acc.length ds rfl HO.out ⟨wr.heap.size,0,none⟩ 1 1 (rtC t) rfl rfl HNW.out (yp.one (w:=wr) (S:=fun _=>True) rfl) (by unfold maxLen;omega) (by omega) HZ2.out ?_);intro v' v3w ho' hgr _ hat;have HO2:=YV ho';have HG2:=YV hgr;have HAT2:=YV hat;clear ho' hgr hat)
    go_ret3
    have hb3:Below w.heap.size w v3w:=((HA.out.below_).alloc HA.out.below_.size _).grown HG2.out (by have:=HZ2.out;exact this) (fun k e=>(OwnG.lt HA.out.own_ k e).1)
    have hra:=(qN (W0:=w) (t:=t) (ds:=ds) (acc:=acc) HX.out HO2.out HG2.out HAT2.out)
    refine .inl ⟨acc++[t],v',?_,rfl,hra,hb3⟩
    rw[HT.out]
    exact HR0.out.trans (HR.out.symm.trans ((HL.out acc).trans (by rw[List.drop_eq_nil_of_le (Nat.le_refl _)];exact qR _ _)))
   | cons c r=>
    have hpl:p<s.length:=by have:=congrArg List.length hd;rw[List.length_drop] at this;simp only[List.length_cons] at this;omega
    have HD:=YV hd
    clear hd
    have hc0:s[p]? = some c:=by
     have:=congrArg (fun l:T=>l[0]?) HD.out
     simpa using this
    obtain⟨c',hc1,hc2,hc3⟩:=jt hpl
    rw[hc0] at hc2
    injection hc2 with hc2
    subst hc2
    have HNB2:Hid (uz c r):=YV (HNB.out c r HD.out)
    have HLR:Hid (lexA (c::r) p acc=R):=YV (by rw[← HD.out];exact((HL.out acc).symm.trans HR.out))
    clear HL HNB HR hc0
    go_upto_if 40 with (go_at_call 77;refine(z7 _ _).mono ?_;rintro e w1 ⟨rfl,rfl⟩)
    obtain⟨w2,hw2⟩:∃ w2,w2=wr.alloc (.cells #[.int .i64 0,.string ⟨#[]⟩,.int .i64 0,.int .i64 (p:Int)] 113):=⟨_,rfl⟩
    obtain⟨b,hb⟩:∃ b,b=wr.heap.size:=⟨_,rfl⟩
    rw[← hw2,← hb]
    have HRW:Hid (Row w2 b 113 #[.int .i64 0,.string ⟨#[]⟩,.int .i64 0,.int .i64 (p:Int)]):=YV (by rw[hw2,hb];exact Row.made _ _ _)
    have HBW:Hid (Below wr.heap.size wr w2):=YV (by rw[hw2];exact(Below.refl _ _).alloc (Nat.le_refl _) _)
    have HB:=YV hb
    have hbw:b<w2.heap.size:=Row.lt HRW.out
    clear hw2 hb
    have c0:=HRW.out.cell 0
    have f0:=HRW.out.free 0
    simp at c0
    go_cut [10,11,12,13] from 14 to 152 (fun tz _ _ _ w4=>∃ (k v:Int) (n:Nat),tz=.int .i64 ((p+n:Nat):Int)∧Went c r p b wr w4 k v n)
    case first=>
     by_cases hl:ltr c=true
     ·have hll:isL (c.toNat:Int)=true:=hl
      obtain⟨n,hn⟩:∃ n,n=((s.drop p).takeWhile ltd).length:=⟨_,rfl⟩
      have HAT:Hid (∀ j,j<n→∃ d,s[p+j]? = some d∧ltd d=true):=YV fun j hj=>by
       obtain⟨d,h1,h2⟩:=ZG (l:=s.drop p) (by rw[hn] at hj;exact hj)
       exact⟨d,by rw[List.getElem?_drop] at h1;exact h1,h2⟩
      have HEN:Hid (∀ d,s[p+n]? = some d→ltd d=false):=YV fun d hd=>kx (l:=s.drop p) (d:=d) (by rw[← hn,List.getElem?_drop];exact hd)
      have hnl:p+n≤s.length:=by have:=zA (p:=ltd) (s.drop p);rw[← hn,List.length_drop] at this;omega
      have HRN:=YV hn
      have HNP:Hid (0<n):=YV (by rw[hn,HD.out];exact zr (by simp[ltd,hl]))
      clear hn
      rw[hll]
      go_wp2_with fail
      clear hll hc1 hc3
      go_loopg [10] n (fun g k w3=>∃ j:Nat,j+g=n∧k=.int .i64 ((p+j:Nat):Int)∧w2=w3)
      case atStart=>exact⟨0,by omega,by simp,rfl⟩
      case round=>
       obtain⟨j,hj,rfl,rfl⟩:=hrel
       by_cases hjn:j<n
       ·obtain⟨d,hd,hd2⟩:=HAT.out j hjn
        have hlt3:p+j<s.length:=by omega
        obtain⟨d',h',hc,hcc⟩:=jt hlt3
        rw[hd] at hc
        injection hc with hc
        subst hc
        clear hd
        by_cases hL:isL (d.toNat:Int)=true
        ·go_wp2_with (first|(go_at_call 77;refine(z7 _ _).mono ?_;rintro e w1 ⟨rfl,rfl⟩)|(go_at_call 78;refine(zP _ _).mono ?_;rintro e w1 ⟨rfl,rfl⟩))
         go_roundg (n - (j+1))
         case rel=>exact⟨j+1,by omega,by go_num,rfl⟩
         case measure=>omega
        ·have hL':isL (d.toNat:Int)=false:=(Bool.not_eq_true _).mp hL
         have hD:isD (d.toNat:Int)=true:=by
          have hd3:(isL (d.toNat:Int) || isD (d.toNat:Int))=true:=hd2
          rw[hL'] at hd3
          simpa using hd3
         clear hL
         go_wp2_with (first|(go_at_call 77;refine(z7 _ _).mono ?_;rintro e w1 ⟨rfl,rfl⟩)|(go_at_call 78;refine(zP _ _).mono ?_;rintro e w1 ⟨rfl,rfl⟩))
         go_roundg (n - (j+1))
         case rel=>exact⟨j+1,by omega,by go_num,rfl⟩
         case measure=>omega
       ·obtain rfl:j=n:=by omega
        have hnp:0<j:=HNP.out
        obtain⟨x,hx⟩:∃ x,x=(s.drop p).take j:=⟨_,rfl⟩
        have hmid:=xa s p j
        rw[← hx] at hmid
        have HRX:Hid (x=(c::r).takeWhile ltd):=YV (by rw[hx,run_cut s p j HRN.out,HD.out])
        have HXL:Hid (x.length=j):=YV (by rw[hx,List.length_take,List.length_drop];omega)
        clear hx
        by_cases hstop:∃ d,s[p+j]? = some d
        ·obtain⟨d,hd⟩:=hstop
         have hd2:=HEN.out d hd
         have hd3:(isL (d.toNat:Int) || isD (d.toNat:Int))=false:=hd2
         have hL:isL (d.toNat:Int)=false:=by simp only[Bool.or_eq_false_iff] at hd3;exact hd3.1
         have hD:isD (d.toNat:Int)=false:=by simp only[Bool.or_eq_false_iff] at hd3;exact hd3.2
         have hlt3:p+j<s.length:=(List.getElem?_eq_some_iff.1 hd).1
         obtain⟨d',h',hc,hcc⟩:=jt hlt3
         rw[hd] at hc
         injection hc with hc
         subst hc
         clear hd hd2 hd3
         by_cases hw:jp x=true
         ·have HWD:Hid (∀ wz,Calls Tryz.prog 79 #[.string ⟨x.toArray⟩] wz fun e w'=>e=.returned (.bool true)∧Below wz.heap.size wz w'):=YV fun wz=>by have:=uf x wz;rw[hw] at this;exact this
          have HST:Hid (zx (c::r)=.tok 2 j 0):=YV (by rw[jT HNB2.out hl,← HRX.out,if_pos hw,HXL.out])
          go_wp2_with (first|(go_at_call 77;refine(z7 _ _).mono ?_;rintro e w1 ⟨rfl,rfl⟩)|(go_at_call 78;refine(zP _ _).mono ?_;rintro e w1 ⟨rfl,rfl⟩)|(go_at_call 79;refine(HWD.out _).mono ?_;rintro e w5 ⟨rfl,hb5⟩;have HB5:=YV hb5;have hr5:Row w5 b 113 #[.int .i64 1,.string ⟨#[]⟩,.int .i64 0,.int .i64 (p:Int)]:=(by have h6:=Row.below (HRW.out.set 0 (.int .i64 1)) hb5 (by simpa using hbw);simpa using h6);have HR5:=YV hr5;have y0:=hr5.cell 0;have z0:=hr5.free 0;simp at y0;clear hr5 HWD hb5))
          go_meet
          case rel=>exact⟨2,0,j,by go_num,HST.out,by have:=HR5.out.set 0 (.int .i64 2);simpa using this,((HBW.out.setCell (p:=⟨b,0,none⟩) (by have:=HB.out;show _≤b;omega) (.int .i64 1)).trans ((HB5.out).mono (by have:=HBW.out.size;simp;omega))).setCell (p:=⟨b,0,none⟩) (by have:=HB.out;show _≤b;omega) _,by omega⟩
         ·have hw':jp x=false:=(Bool.not_eq_true _).mp hw
          have HWD:Hid (∀ wz,Calls Tryz.prog 79 #[.string ⟨x.toArray⟩] wz fun e w'=>e=.returned (.bool false)∧Below wz.heap.size wz w'):=YV fun wz=>by have:=uf x wz;rw[hw'] at this;exact this
          clear hw'
          by_cases h60:j≤60
          ·have HST:Hid (zx (c::r)=.tok 1 j 0):=YV (by rw[jT HNB2.out hl,← HRX.out,if_neg hw,HXL.out,if_pos h60])
           clear hw
           go_wp2_with (first|(go_at_call 77;refine(z7 _ _).mono ?_;rintro e w1 ⟨rfl,rfl⟩)|(go_at_call 78;refine(zP _ _).mono ?_;rintro e w1 ⟨rfl,rfl⟩)|(go_at_call 79;refine(HWD.out _).mono ?_;rintro e w5 ⟨rfl,hb5⟩;have HB5:=YV hb5;have hr5:Row w5 b 113 #[.int .i64 1,.string ⟨#[]⟩,.int .i64 0,.int .i64 (p:Int)]:=(by have h6:=Row.below (HRW.out.set 0 (.int .i64 1)) hb5 (by simpa using hbw);simpa using h6);have HR5:=YV hr5;have y0:=hr5.cell 0;have z0:=hr5.free 0;simp at y0;clear hr5 HWD hb5))
           go_meet
           case rel=>exact⟨1,0,j,by go_num,HST.out,HR5.out,((HBW.out.setCell (p:=⟨b,0,none⟩) (by have:=HB.out;show _≤b;omega) (.int .i64 1)).trans ((HB5.out).mono (by have:=HBW.out.size;simp;omega))),by omega⟩
          ·have HST:Hid (zx (c::r)=.bad 4):=YV (by rw[jT HNB2.out hl,← HRX.out,if_neg hw,HXL.out,if_neg h60])
           clear hw
           go_wp2_with (first|(go_at_call 77;refine(z7 _ _).mono ?_;rintro e w1 ⟨rfl,rfl⟩)|(go_at_call 78;refine(zP _ _).mono ?_;rintro e w1 ⟨rfl,rfl⟩)|(go_at_call 79;refine(HWD.out _).mono ?_;rintro e w5 ⟨rfl,hb5⟩;have HB5:=YV hb5;have hr5:Row w5 b 113 #[.int .i64 1,.string ⟨#[]⟩,.int .i64 0,.int .i64 (p:Int)]:=(by have h6:=Row.below (HRW.out.set 0 (.int .i64 1)) hb5 (by simpa using hbw);simpa using h6);have HR5:=YV hr5;have y0:=hr5.cell 0;have z0:=hr5.free 0;simp at y0;clear hr5 HWD hb5))
           go_ret3
           exact .inr ⟨p,4,HR0.out.trans (HLR.out.symm.trans (vm HST.out p acc)),.inr rfl,rfl,HA.out.below_.trans (((HBW.out.setCell (p:=⟨b,0,none⟩) (by have:=HB.out;show _≤b;omega) (.int .i64 1)).trans ((HB5.out).mono (by have:=HBW.out.size;simp;omega))).mono hwz)⟩
        ·have hend:(s.length:Int)≤(p:Int)+(j:Int):=by
          rcases Nat.lt_or_ge (p+j) s.length with h | h
          ·exact absurd ⟨_,List.getElem?_eq_getElem h⟩ hstop
          ·omega
         clear hstop
         by_cases hw:jp x=true
         ·have HWD:Hid (∀ wz,Calls Tryz.prog 79 #[.string ⟨x.toArray⟩] wz fun e w'=>e=.returned (.bool true)∧Below wz.heap.size wz w'):=YV fun wz=>by have:=uf x wz;rw[hw] at this;exact this
          have HST:Hid (zx (c::r)=.tok 2 j 0):=YV (by rw[jT HNB2.out hl,← HRX.out,if_pos hw,HXL.out])
          go_wp2_with (first|(go_at_call 77;refine(z7 _ _).mono ?_;rintro e w1 ⟨rfl,rfl⟩)|(go_at_call 78;refine(zP _ _).mono ?_;rintro e w1 ⟨rfl,rfl⟩)|(go_at_call 79;refine(HWD.out _).mono ?_;rintro e w5 ⟨rfl,hb5⟩;have HB5:=YV hb5;have hr5:Row w5 b 113 #[.int .i64 1,.string ⟨#[]⟩,.int .i64 0,.int .i64 (p:Int)]:=(by have h6:=Row.below (HRW.out.set 0 (.int .i64 1)) hb5 (by simpa using hbw);simpa using h6);have HR5:=YV hr5;have y0:=hr5.cell 0;have z0:=hr5.free 0;simp at y0;clear hr5 HWD hb5))
          go_meet
          case rel=>exact⟨2,0,j,by go_num,HST.out,by have:=HR5.out.set 0 (.int .i64 2);simpa using this,((HBW.out.setCell (p:=⟨b,0,none⟩) (by have:=HB.out;show _≤b;omega) (.int .i64 1)).trans ((HB5.out).mono (by have:=HBW.out.size;simp;omega))).setCell (p:=⟨b,0,none⟩) (by have:=HB.out;show _≤b;omega) _,by omega⟩
         ·have hw':jp x=false:=(Bool.not_eq_true _).mp hw
          have HWD:Hid (∀ wz,Calls Tryz.prog 79 #[.string ⟨x.toArray⟩] wz fun e w'=>e=.returned (.bool false)∧Below wz.heap.size wz w'):=YV fun wz=>by have:=uf x wz;rw[hw'] at this;exact this
          clear hw'
          by_cases h60:j≤60
          ·have HST:Hid (zx (c::r)=.tok 1 j 0):=YV (by rw[jT HNB2.out hl,← HRX.out,if_neg hw,HXL.out,if_pos h60])
           clear hw
           go_wp2_with (first|(go_at_call 77;refine(z7 _ _).mono ?_;rintro e w1 ⟨rfl,rfl⟩)|(go_at_call 78;refine(zP _ _).mono ?_;rintro e w1 ⟨rfl,rfl⟩)|(go_at_call 79;refine(HWD.out _).mono ?_;rintro e w5 ⟨rfl,hb5⟩;have HB5:=YV hb5;have hr5:Row w5 b 113 #[.int .i64 1,.string ⟨#[]⟩,.int .i64 0,.int .i64 (p:Int)]:=(by have h6:=Row.below (HRW.out.set 0 (.int .i64 1)) hb5 (by simpa using hbw);simpa using h6);have HR5:=YV hr5;have y0:=hr5.cell 0;have z0:=hr5.free 0;simp at y0;clear hr5 HWD hb5))
           go_meet
           case rel=>exact⟨1,0,j,by go_num,HST.out,HR5.out,((HBW.out.setCell (p:=⟨b,0,none⟩) (by have:=HB.out;show _≤b;omega) (.int .i64 1)).trans ((HB5.out).mono (by have:=HBW.out.size;simp;omega))),by omega⟩
          ·have HST:Hid (zx (c::r)=.bad 4):=YV (by rw[jT HNB2.out hl,← HRX.out,if_neg hw,HXL.out,if_neg h60])
           clear hw
           go_wp2_with (first|(go_at_call 77;refine(z7 _ _).mono ?_;rintro e w1 ⟨rfl,rfl⟩)|(go_at_call 78;refine(zP _ _).mono ?_;rintro e w1 ⟨rfl,rfl⟩)|(go_at_call 79;refine(HWD.out _).mono ?_;rintro e w5 ⟨rfl,hb5⟩;have HB5:=YV hb5;have hr5:Row w5 b 113 #[.int .i64 1,.string ⟨#[]⟩,.int .i64 0,.int .i64 (p:Int)]:=(by have h6:=Row.below (HRW.out.set 0 (.int .i64 1)) hb5 (by simpa using hbw);simpa using h6);have HR5:=YV hr5;have y0:=hr5.cell 0;have z0:=hr5.free 0;simp at y0;clear hr5 HWD hb5))
           go_ret3
           exact .inr ⟨p,4,HR0.out.trans (HLR.out.symm.trans (vm HST.out p acc)),.inr rfl,rfl,HA.out.below_.trans (((HBW.out.setCell (p:=⟨b,0,none⟩) (by have:=HB.out;show _≤b;omega) (.int .i64 1)).trans ((HB5.out).mono (by have:=HBW.out.size;simp;omega))).mono hwz)⟩
     ·have hl':ltr c=false:=(Bool.not_eq_true _).mp hl
      have hll:isL (c.toNat:Int)=false:=hl'
      have HLF:=YV hl'
      clear hl hl'
      by_cases hdg:dgt c=true
      ·have hdd:isD (c.toNat:Int)=true:=hdg
       have HDT:=YV hdg
       clear hdg
       obtain⟨n,hn⟩:∃ n,n=((s.drop p).takeWhile dgt).length:=⟨_,rfl⟩
       have HAT:Hid (∀ j,j<n→∃ d,s[p+j]? = some d∧dgt d=true):=YV fun j hj=>by
        obtain⟨d,h1,h2⟩:=ZG (l:=s.drop p) (by rw[hn] at hj;exact hj)
        exact⟨d,by rw[List.getElem?_drop] at h1;exact h1,h2⟩
       have HEN:Hid (∀ d,s[p+n]? = some d→dgt d=false):=YV fun d hd=>kx (l:=s.drop p) (d:=d) (by rw[← hn,List.getElem?_drop];exact hd)
       have hnl:p+n≤s.length:=by have:=zA (p:=dgt) (s.drop p);rw[← hn,List.length_drop] at this;omega
       have HRN:Hid (s.drop p=c::r):=HD
       have HTK:Hid ((c::r).takeWhile dgt=(c::r).take n):=YV (by rw[hn,← HD.out];exact zT _)
       have HTL:Hid (((c::r).takeWhile dgt).length=n):=YV (by rw[hn,← HD.out])
       have HVS:Hid (∀ j d,s[p+j]? = some d→valS 0 ((c::r).take (j+1))=10 * valS 0 ((c::r).take j)+(d.toNat - 48)):=YV fun j d hd=>JD (by rw[← HD.out,List.getElem?_drop];exact hd)
       have HVP:Hid (∀ j,j≤n→valS 0 ((c::r).take j)≤valS 0 ((c::r).take n)):=YV fun j hj=>by
        have:=JF ((c::r).take n) j
        rw[List.take_take,Nat.min_eq_left hj] at this
        exact this
       have HNP:Hid (0<n):=YV (by rw[← HTL.out];exact zr HDT.out)
       have hstop:∀ d,s[p+n]? = some d→isD (d.toNat:Int)=false:=HEN.out
       have HSTOP:=YV hstop
       clear hstop
       rw[hll]
       go_wp2_with (go_at_call 78;refine(zP _ _).mono ?_;rintro e w1 ⟨rfl,rfl⟩)
       obtain⟨w3,hw3⟩:∃ w3,w3=w2.setCell ⟨b,0,none⟩ (.int .i64 3):=⟨_,rfl⟩
       rw[← hw3]
       have e0:((valS 0 ((c::r).take 0):Nat):Int)=0:=rfl
       have h6:=HRW.out.set 0 (.int .i64 3)
       rw[← hw3] at h6
       have HR3:Hid (Row w3 b 113 #[.int .i64 3,.string ⟨#[]⟩,.int .i64 ((valS 0 ((c::r).take 0):Nat):Int),.int .i64 (p:Int)]):=YV (by rw[e0];simpa using h6)
       clear e0 h6
       have HB3:Hid (Below wr.heap.size wr w3):=YV (by rw[hw3];exact HBW.out.setCell (p:=⟨b,0,none⟩) (by have:=HB.out;show _≤b;omega) _)
       clear hw3 c0 f0 hc1 hc3 hll hdd hn
       obtain⟨wo,rfl⟩:∃ wo,wo=wr:=⟨wr,rfl⟩
       go_loopg [10] n (fun g' tz w6=>∃ j:Nat,j+g'=n∧tz=.int .i64 ((p+j:Nat):Int)∧valS 0 ((c::r).take j)≤9223372036854775807∧Row w6 b 113 #[.int .i64 3,.string ⟨#[]⟩,.int .i64 ((valS 0 ((c::r).take j):Nat):Int),.int .i64 (p:Int)]∧Below wo.heap.size wo w6)
       case atStart=>exact⟨0,by omega,by simp,by show 0≤_;omega,HR3.out,HB3.out⟩
       case round=>
        obtain⟨j,hj,rfl,hval,hrow,hbel⟩:=hrel
        have HVV:=YV hval
        have HRJ:=YV hrow
        have HBJ:=YV hbel
        clear hval hrow hbel
        have hbwr:b<wr.heap.size:=Row.lt HRJ.out
        by_cases hjn:j<n
        ·obtain⟨d,hd,hd2⟩:=HAT.out j hjn
         have hlt3:p+j<s.length:=by omega
         obtain⟨d',h',hc,hcc⟩:=jt hlt3
         rw[hd] at hc
         injection hc with hc
         subst hc
         have hbd:48≤d.toNat∧d.toNat≤57:=by unfold dgt isD at hd2;simp at hd2;omega
         have HSV:=YV (HVS.out j d hd)
         obtain⟨dn,hdn⟩:∃ dn:Nat,d.toNat=dn+48:=⟨d.toNat - 48,by omega⟩
         have hdn9:dn≤9:=by omega
         have hD:isD ((dn:Int)+48)=true:=decide_eq_true (by omega)
         obtain⟨V,hV⟩:∃ V,V=valS 0 ((c::r).take j):=⟨_,rfl⟩
         have HV:=YV hV
         have HRV:Hid (Row wr b 113 #[.int .i64 3,.string ⟨#[]⟩,.int .i64 (V:Int),.int .i64 (p:Int)]):=YV (by rw[hV];exact HRJ.out)
         have c2:=HRV.out.cell 2
         have f2:=HRV.out.free 2
         simp at c2
         clear hd hd2 hV
         have hsv:valS 0 ((c::r).take (j+1))=10 * V+dn:=by rw[HSV.out,HV.out];omega
         have HSV2:=YV hsv
         clear hsv HSV
         by_cases hbig:(9223372036854775807 - (dn:Int)) / 10<(V:Int)
         ·have HST:Hid (zx (c::r)=.bad 4):=YV (by
           have h7:=(x8 (V:Int) (dn:Int) _ rfl (by omega) (by omega) (by omega)).1 hbig
           have h8:=HVP.out (j+1) hjn
           rw[HSV2.out] at h8
           rw[uZ HNB2.out HLF.out HDT.out,HTK.out,if_neg (by omega)])
          go_wp2_with (go_at_call 78;refine(zP _ _).mono ?_;rintro e w1 ⟨rfl,rfl⟩)
          go_ret3
          exact .inr ⟨p,4,HR0.out.trans (HLR.out.symm.trans (vm HST.out p acc)),.inr rfl,rfl,HA.out.below_.trans (HBJ.out.mono hwz)⟩
         ·have h10:10 * (V:Int)+(dn:Int)≤9223372036854775807:=by
           have h7:=(x8 (V:Int) (dn:Int) _ rfl (by omega) (by omega) (by omega)).2
           exact Int.not_lt.1 fun h=>hbig (h7 h)
          have HLE:Hid (valS 0 ((c::r).take (j+1))≤9223372036854775807):=YV (by rw[HSV2.out];omega)
          go_wp2_with (go_at_call 78;refine(zP _ _).mono ?_;rintro e w1 ⟨rfl,rfl⟩)
          go_roundg (n - (j+1))
          case rel=>
           refine⟨j+1,by omega,by go_num,HLE.out,?_,HBJ.out.setCell (p:=⟨b,2,none⟩) (by have:=HB.out;show _≤b;omega) _⟩
           rw[HSV2.out]
           have h6:=HRV.out.set 2 (.int .i64 ((10 * V+dn:Nat):Int))
           simpa using h6
          case measure=>omega
        ·obtain rfl:j=n:=by omega
         have HST:Hid (zx (c::r)=.tok 3 j (valS 0 ((c::r).take j):Nat)):=YV (by rw[uZ HNB2.out HLF.out HDT.out,HTK.out,if_pos HVV.out,← HTK.out,HTL.out])
         have hjp:0<j:=HNP.out
         by_cases hstop:∃ d,s[p+j]? = some d
         ·obtain⟨d,hd⟩:=hstop
          have hD:=HSTOP.out d hd
          have hlt3:p+j<s.length:=(List.getElem?_eq_some_iff.1 hd).1
          obtain⟨d',h',hc,hcc⟩:=jt hlt3
          rw[hd] at hc
          injection hc with hc
          subst hc
          clear hd
          go_wp2_with (go_at_call 78;refine(zP _ _).mono ?_;rintro e w1 ⟨rfl,rfl⟩)
          go_meet
          case rel=>exact⟨3,_,j,by go_num,HST.out,HRJ.out,HBJ.out,hjp⟩
         ·have hend:(s.length:Int)≤(p:Int)+(j:Int):=by
           rcases Nat.lt_or_ge (p+j) s.length with h | h
           ·exact absurd ⟨_,List.getElem?_eq_getElem h⟩ hstop
           ·omega
          clear hstop
          go_wp2_with (go_at_call 78;refine(zP _ _).mono ?_;rintro e w1 ⟨rfl,rfl⟩)
          go_meet
          case rel=>exact⟨3,_,j,by go_num,HST.out,HRJ.out,HBJ.out,hjp⟩
      ·have hdg':dgt c=false:=(Bool.not_eq_true _).mp hdg
       have hdd:isD (c.toNat:Int)=false:=hdg'
       have HDF:=YV hdg'
       clear hdg hdg'
       have HSG:Hid (∀ wz,Calls Tryz.prog 80 #[] wz fun e w'=>∃ g,e=.returned (.slice (some ⟨g,0,none⟩) 16 16)∧Row w' g 9 qc.toArray∧Below wz.heap.size wz w'):=YV fun wz=>(JR wz).mono fun e w' ⟨h1,h2,h3⟩=>⟨_,h1,h2,h3⟩
       rw[hll]
       go_wp2_with (first|(go_at_call 78;refine(zP _ _).mono ?_;rintro e w1 ⟨rfl,rfl⟩)|(go_at_call 80;refine(HSG.out _).mono ?_;rintro e w5 ⟨g,rfl,hg,hb5⟩;have HG5:=YV hg;have HB5:=YV hb5;clear hg hb5 HSG))
       have HR5:Hid (Row w5 b 113 #[.int .i64 4,.string ⟨#[]⟩,.int .i64 0,.int .i64 (p:Int)]):=YV (by have h6:=Row.below (HRW.out.set 0 (.int .i64 4)) HB5.out (by simpa using hbw);simpa using h6)
       have HBL5:Hid (Below wr.heap.size wr w5):=YV ((HBW.out.setCell (p:=⟨b,0,none⟩) (by have:=HB.out;show _≤b;omega) (.int .i64 4)).trans ((HB5.out).mono (by have:=HBW.out.size;simp;omega)))
       clear c0 f0 hll hdd hc1 hc3 HB5
       go_loopg [10,13] 16 (fun g' tz i w6=>∃ m:Nat,m+g'=16∧i=.int .i64 (m:Int)∧tz=.int .i64 ((p+best (c::r) m:Nat):Int)∧w5=w6)
       case atStart=>exact⟨0,by omega,rfl,rfl,rfl⟩
       case round=>
        obtain⟨m,hm,rfl,rfl,rfl⟩:=hrel
        obtain⟨q,hq⟩:∃ q,q=best (c::r) m:=⟨_,rfl⟩
        have hql:q≤s.length:=by have:=best_le (c::r) m;have h3:=congrArg List.length HD.out;rw[List.length_drop] at h3;omega
        have HQ:=YV hq
        rw[← hq]
        clear hq
        by_cases hm16:m<16
        ·obtain⟨sg,hsg⟩:∃ sg,jY[m]? = some sg:=⟨_,List.getElem?_eq_getElem (show m<jY.length from hm16)⟩
         have hs2:sg.length≤2:=by
          have:∀ x∈jY,x.length≤2:=by decide
          exact this sg (List.mem_of_getElem? hsg)
         have k0:w5.cell? ⟨g,m,none⟩=some (.string ⟨sg.toArray⟩):=by
          rw[HG5.out.cell,← Array.getElem?_toList]
          simp[qc,hsg]
         have HBS:Hid (best (c::r) (m+1)=jZ (c::r) q sg):=YV (by rw[Zt hsg,HQ.out])
         have hbg:=ul s sg p w5 hs (by omega) (by omega)
         rw[HD.out] at hbg
         clear hsg
         by_cases hpf:sg.isPrefixOf (c::r)=true
         ·rw[hpf] at hbg
          have HBG:=YV hbg
          clear hbg
          by_cases hlong:q<sg.length
          ·have HN:Hid (best (c::r) (m+1)=sg.length):=YV (by rw[HBS.out,jZ,if_pos ⟨hpf,hlong⟩])
           have hlg:(p:Int)+(q:Int)<(p:Int)+(sg.length:Int):=by omega
           clear hpf
           go_wp2_with (go_at_call 81;refine HBG.out.mono ?_;rintro e w1 ⟨rfl,rfl⟩)
           go_roundg (16 - (m+1))
           case rel=>exact⟨m+1,by omega,by go_num,by rw[HN.out];go_num,rfl⟩
           case measure=>omega
          ·have HN:Hid (best (c::r) (m+1)=q):=YV (by rw[HBS.out,jZ,if_neg fun h=>hlong h.2])
           have hlg:¬ (p:Int)+(q:Int)<(p:Int)+(sg.length:Int):=by omega
           clear hpf
           go_wp2_with (go_at_call 81;refine HBG.out.mono ?_;rintro e w1 ⟨rfl,rfl⟩)
           go_roundg (16 - (m+1))
           case rel=>exact⟨m+1,by omega,by go_num,by rw[HN.out];go_num,rfl⟩
           case measure=>omega
         ·have HN:Hid (best (c::r) (m+1)=q):=YV (by rw[HBS.out,jZ,if_neg fun h=>hpf h.1])
          rw[(Bool.not_eq_true _).mp hpf] at hbg
          have HBG:=YV hbg
          clear hbg hpf
          go_wp2_with (go_at_call 81;refine HBG.out.mono ?_;rintro e w1 ⟨rfl,rfl⟩)
          go_roundg (16 - (m+1))
          case rel=>exact⟨m+1,by omega,by go_num,by rw[HN.out];go_num,rfl⟩
          case measure=>omega
        ·obtain rfl:m=16:=by omega
         by_cases hq0:q=0
         ·have HST:Hid (zx (c::r)=.bad 2):=YV (qw HNB2.out HLF.out HDF.out (HQ.out.symm.trans hq0))
          subst hq0
          go_wp2_with fail
          go_ret3
          exact .inr ⟨p,2,HR0.out.trans (HLR.out.symm.trans (vm HST.out p acc)),.inl rfl,rfl,HA.out.below_.trans (HBL5.out.mono hwz)⟩
         ·have HST:Hid (zx (c::r)=.tok 4 q 0):=YV (by rw[HQ.out];exact qv HNB2.out HLF.out HDF.out (by rw[← HQ.out];omega))
          have hne:¬ (p:Int)+(q:Int)=(p:Int):=by omega
          go_wp2_with fail
          go_meet
          case rel=>exact⟨4,0,q,by go_num,HST.out,HR5.out,HBL5.out,by omega⟩
    case rest=>
     obtain⟨k,v,n,rfl,h⟩:=hcut
     have hn:=vN h.step_
     have hn1:0<n:=hn.1
     have hnl:p+n≤s.length:=by have:=congrArg List.length HD.out;rw[List.length_drop] at this;omega
     have HW:=YV h
     obtain⟨x,hx⟩:∃ x,x=(s.drop p).take n:=⟨_,rfl⟩
     have hmid:=xa s p n
     rw[← hx] at hmid
     have HRX:Hid (x=(c::r).take n):=YV (by rw[hx,HD.out])
     clear hx h hn c0 f0 hc1 hc3
     have c1:=HW.out.row_.cell 1
     have f1:=HW.out.row_.free 1
     simp at c1
     go_upto_region 37 with fail
     obtain⟨w5,hw5⟩:∃ w5,w5=wc.setCell ⟨b,1,none⟩ (.string ⟨x.toArray⟩):=⟨_,rfl⟩
     rw[← hw5]
     have HR5:Hid (Row w5 b 113 #[.int .i64 k,.string ⟨x.toArray⟩,.int .i64 v,.int .i64 (p:Int)]):=YV (by have:=HW.out.row_.set 1 (.string ⟨x.toArray⟩);rw[hw5];simpa using this)
     have HB5:Hid (Below wr.heap.size wr w5):=YV (by rw[hw5];exact HW.out.below_.setCell (p:=⟨b,1,none⟩) (by have:=HB.out;show _≤b;omega) _)
     have hw5z:w.heap.size≤w5.heap.size:=Nat.le_trans hwz HB5.out.size
     clear hw5 c1 f1
     have y0:=HR5.out.cell 0
     have y1:=HR5.out.cell 1
     have y2:=HR5.out.cell 2
     have y3:=HR5.out.cell 3
     simp at y0 y1 y2 y3
     obtain⟨t,ht⟩:∃ t:Tk,t=⟨k,x,v,p⟩:=⟨_,rfl⟩
     have hown:=OwnG.later yp HA.out.own_ ((HB5.out).alloc HB5.out.size (.cells (rtC t).toArray 113))
     have hcs:(rtC t).toArray=#[.int .i64 k,.string ⟨x.toArray⟩,.int .i64 v,.int .i64 (p:Int)]:=by rw[ht];rfl
     rw[hcs] at hown
     obtain⟨ds,ho,hx⟩:=hown
     have HO:=YV ho
     have HX:=YV hx
     have HT:=YV ht
     have hnew:∀ (j:Nat) u,(rtC t)[j]? = some u→(w5.alloc (.cells (rtC t).toArray 113)).cell? (Addr.add ⟨w5.heap.size,0,none⟩ j)=some u:=fun j u hu=>by
      rw[jm,Nat.zero_add,(Row.made w5 113 (rtC t).toArray).cell j,← hu];simp
     rw[hcs] at hnew
     have HNW:=YV hnew
     have hfew:acc.length≤1000000:=by have:=HA.out.few_;have:=HA.out.le_;omega
     have hsz2:w.heap.size≤(w5.alloc (.cells #[.int .i64 k,.string ⟨x.toArray⟩,.int .i64 v,.int .i64 (p:Int)] 113)).heap.size:=by simp;omega
     have HZ2:=YV hsz2
     clear hsz2 hcs ht ho hx hnew
     go_wp2_with (at_builtin;go_must (refine wpList_append_own_at _ rfl (.tmp 148) (.tmp 150) 106 rfl w.heap.size 113 i0 _ 4 40 Tryz.underlying106 hi0 hz0 hz1 hz2 rfl (by omega) _ acc.length ds rfl HO.out ⟨w5.heap.size,0,none⟩ 1 1 (rtC t) rfl rfl HNW.out (yp.one (w:=wr) (S:=fun _=>True) rfl) (by unfold maxLen;omega) (by omega) HZ2.out ?_);intro v' v3w ho' hgr _ hat;have HO2:=YV ho';have HG2:=YV hgr;have HAT2:=YV hat;clear ho' hgr hat)
     have hb3:Below w.heap.size w v3w:=((HA.out.below_.trans (HB5.out.mono hwz)).alloc hw5z _).grown HG2.out (by have:=HZ2.out;exact this) (fun k e=>(OwnG.lt HA.out.own_ k e).1)
     have hra:=(qN (W0:=w) (t:=t) (ds:=ds) (acc:=acc) HX.out HO2.out HG2.out HAT2.out)
     go_roundg (s.length - (p+n))
     case rel=>
      refine⟨p+n,acc++[t],by omega,by go_num,⟨hra,hb3,by have:=HA.out.few_;rw[List.length_append];simp only[List.length_cons,List.length_nil];omega,hnl⟩,?_⟩
      rw[← List.drop_drop,HD.out,HT.out,HRX.out,← uu HW.out.step_ p acc]
      exact HLR.out
     case measure=>omega
  ·have HL:=YV hl
   clear hl H3
   have hq0:(0:Int)≤(p:Int):=by omega
   go_wp2_with fail
   go_ret3
   refine .inr ⟨p,2,HR0.out.trans (HR.out.symm.trans (HL.out acc)),.inl rfl,rfl,HA.out.below_⟩
end Go.Proofs.YtdabndiaflagpaaGreatDoor
