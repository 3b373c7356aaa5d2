/- Parts: LxA0. -/
import Derived.Test.YtdabndiaflagpaaGreatDoorK16
import Derived.Test.YtdabndiaflagpaaGreatDoorK17
set_option maxRecDepth 100000
set_option maxHeartbeats 4000000
namespace Go.Proofs.YtdabndiaflagpaaGreatDoor
open Go.RowKit
structure YU (s:T) (W0 w:World) (b mb:Nat):Prop where
 row_:TxR w b s (1,1) (.slice none 0 0) (.map (some mb))
 map_:KM w mb 0
 env_:je W0
 mb_:mb<b
 old_:W0.heap.size≤mb
 below_:Below W0.heap.size W0 w
 short_:s.length≤1000000
theorem Zu (s:T) (w:World) (hs:s.length≤1000000) (he:je w):Calls Tryz.prog 59 #[.string ⟨s.toArray⟩] w fun e w'=>e=.returned (.pointer (some ⟨w.heap.size+1,0,none⟩))∧YU s w w' (w.heap.size+1) w.heap.size:=by
 have hmm:=@run_makeMap Tryz.prog
 have HE:=YV he
 clear he
 go_enter Tryz.func59,Tryz.ntmps59
 go_wp2_with fail
 go_ret
 have hm:=World.ownsMap_made (H:=Unit) w Tryz.prog 9 (plainElem Tryz.prog 3)
 refine⟨by simp,?_,⟨0,_,Nat.le_refl _,hm.alloc _,Maps.isMap_empty,fun s hs=>by cases hs⟩,HE.out,Nat.lt_succ_self _,Nat.le_refl _,((Below.refl _ _).alloc (Nat.le_refl _) _).alloc (by simp) _,hs⟩
 have:=Row.made (w.alloc (.map #[] 0)) 139 #[.string ⟨s.toArray⟩,.int .i64 1,.int .i64 1,.slice none 0 0,.map (some w.heap.size)]
 rw[World.size_alloc] at this
 exact this
theorem xr {p q c d:UInt8} {r:T}:[p,q].isPrefixOf (c::d::r)=(p == c && q == d):=by simp[List.isPrefixOf]
theorem bet_bad {c:UInt8} {r:T} (h:(betS (c::r)).2=false):zx (c::r)=.bad 2:=by
 unfold betS at h
 split at h
 ·cases h
 ·rename_i h1
  split at h
  ·rename_i h2
   unfold vR at h
   have hb:blk c=false:=by
    cases r with
    | nil=>simp[List.isPrefixOf] at h2
    | cons d r=>rw[xr] at h2;simp at h2;rw[← h2.1];decide
   cases hn:jl ((c::r).drop 2) with
   | none=>unfold zx;simp only[hb,h1,h2,hn];rfl
   | some n=>rw[hn] at h;cases h
  ·cases h
theorem YF {c:UInt8} {r:T} {n:Nat} (h:(betS (c::r)).2=true) (hn:(betS (c::r)).1.length=n) (h0:0<n):zx (c::r)=.skip n:=by
 unfold betS at h hn
 split at h
 ·rename_i h1
  rw[if_pos h1] at hn
  have hb:blk c=false:=by
   cases r with
   | nil=>simp[List.isPrefixOf] at h1
   | cons d r=>rw[xr] at h1;simp at h1;rw[← h1.1];decide
  unfold zx
  simp only[hb,h1]
  simp at hn ⊢
  exact hn
 ·rename_i h1
  rw[if_neg h1] at hn
  split at h
  ·rename_i h2
   rw[if_pos h2] at hn
   unfold vR at h hn
   have hb:blk c=false:=by
    cases r with
    | nil=>simp[List.isPrefixOf] at h2
    | cons d r=>rw[xr] at h2;simp at h2;rw[← h2.1];decide
   cases hn2:jl ((c::r).drop 2) with
   | none=>rw[hn2] at h;cases h
   | some m=>
    rw[hn2] at hn
    have:=uy _ _ hn2
    rw[List.length_drop] at this
    simp only[List.length_take] at hn
    unfold zx
    simp only[hb,h1,h2,hn2]
    simp
    omega
  ·rename_i h2
   rw[if_neg h2] at hn
   by_cases hb:blk c=true
   ·unfold zx
    simp only[hb,if_true]
    rw[List.takeWhile_cons,if_pos hb] at hn
    simp at hn
    congr 1
    omega
   ·rw[List.takeWhile_cons,if_neg hb] at hn
    simp at hn
    omega
def uz (c:UInt8) (r:T):Prop:=blk c=false∧[45,45].isPrefixOf (c::r)=false∧[40,42].isPrefixOf (c::r)=false
theorem YG {c:UInt8} {r:T} (h:(betS (c::r)).2=true) (hn:(betS (c::r)).1.length=0):uz c r:=by
 have h1:[45,45].isPrefixOf (c::r)=false:=by
  cases h1:[45,45].isPrefixOf (c::r) with
  | false=>rfl
  | true=>
   unfold betS at hn
   rw[if_pos h1] at hn
   have hc:nnl c=true:=by
    cases r with
    | nil=>simp[List.isPrefixOf] at h1
    | cons d r=>rw[xr] at h1;simp at h1;rw[← h1.1];decide
   have:=zr (p:=nnl) (c:=c) (r:=r) hc
   have hn:((c::r).takeWhile nnl).length=0:=hn
   omega
 have h2:[40,42].isPrefixOf (c::r)=false:=by
  cases h2:[40,42].isPrefixOf (c::r) with
  | false=>rfl
  | true=>
   unfold betS at hn h
   rw[if_neg (by rw[h1];decide),if_pos h2] at hn h
   unfold vR at hn h
   cases hn2:jl ((c::r).drop 2) with
   | none=>rw[hn2] at h;cases h
   | some m=>
    rw[hn2] at hn
    have:=uy _ _ hn2
    rw[List.length_drop] at this
    simp only[List.length_take] at hn
    omega
 refine⟨?_,h1,h2⟩
 unfold betS at hn
 rw[if_neg (by rw[h1];decide),if_neg (by rw[h2];decide)] at hn
 cases hb:blk c with
 | false=>rfl
 | true=>
  have:=zr (p:=blk) (c:=c) (r:=r) hb
  have hn:((c::r).takeWhile blk).length=0:=hn
  omega
theorem jT {c:UInt8} {r:T} (hb:uz c r) (hl:ltr c=true):zx (c::r)=if jp ((c::r).takeWhile ltd)=true then .tok 2 ((c::r).takeWhile ltd).length 0 else if ((c::r).takeWhile ltd).length≤60 then .tok 1 ((c::r).takeWhile ltd).length 0 else .bad 4:=by
 obtain⟨h1,h2,h3⟩:=hb
 unfold zx
 simp only[h1,h2,h3,hl]
 rfl
theorem uZ {c:UInt8} {r:T} (hb:uz c r) (hl:ltr c=false) (hd:dgt c=true):zx (c::r)=if valS 0 ((c::r).takeWhile dgt)≤9223372036854775807 then .tok 3 ((c::r).takeWhile dgt).length (valS 0 ((c::r).takeWhile dgt):Nat) else .bad 4:=by
 obtain⟨h1,h2,h3⟩:=hb
 unfold zx
 simp only[h1,h2,h3,hl,hd]
 rfl
theorem uC {c:UInt8} {r:T} (hb:uz c r) (hl:ltr c=false) (hd:dgt c=false):zx (c::r)=match zJ.find? (fun s=>s.isPrefixOf (c::r)) with | some s=>.tok 4 s.length 0 | none=>.bad 2:=by
 obtain⟨h1,h2,h3⟩:=hb
 unfold zx
 simp only[h1,h2,h3,hl,hd]
 rfl
theorem Zk {x:T} (h:zB x=true):vB x=.tuple #[.int .i64 1,.bool true]:=by unfold vB;rw[if_pos h]
theorem Zi {x:T} (h:zB x=false) (h2:jp x=true):vB x=.tuple #[.int .i64 2,.bool true]:=by unfold vB;rw[if_neg (by rw[h];decide),if_pos h2]
theorem Zj {x:T} (h:zB x=false) (h2:jp x=false):vB x=.tuple #[.int .i64 0,.bool false]:=by unfold vB;rw[if_neg (by rw[h];decide),if_neg (by rw[h2];decide)]
end Go.Proofs.YtdabndiaflagpaaGreatDoor
