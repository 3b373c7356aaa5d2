/- Parts: PsX7. -/
import Derived.Deep.LoopGhost
import Derived.Test.YtdabndiaflagpaaGreatDoorK23
set_option maxRecDepth 100000
set_option maxHeartbeats 4000000
namespace Go.Proofs.YtdabndiaflagpaaGreatDoor
open Go.RowKit
def vc:List (Int×T):=[(0,[45,62]),(1,[61,62]),(2,[111,114]),(2,[120,111,114]),(3,[97,110,100]),(4,[61]),(4,[60,62]),(4,[60]),(4,[60,61]),(4,[62]),(4,[62,61]),(5,[43]),(5,[45]),(6,[42]),(6,[100,105,118]),(6,[109,111,100])]
def vC (n:Int) (σ:Pr Unit):List (Int×T)→Nat→Int
 | [],_=>-1
 | p::r,i=>if p.1=n∧isS p.2 σ=true then (i:Int) else vC n σ r (i+1)
def opA:Array Value:=#[.string ⟨#[45,62]⟩,.string ⟨#[61,62]⟩,.string ⟨#[111,114]⟩,.string ⟨#[120,111,114]⟩,.string ⟨#[97,110,100]⟩,.string ⟨#[61]⟩,.string ⟨#[60,62]⟩,.string ⟨#[60]⟩,.string ⟨#[60,61]⟩,.string ⟨#[62]⟩,.string ⟨#[62,61]⟩,.string ⟨#[43]⟩,.string ⟨#[45]⟩,.string ⟨#[42]⟩,.string ⟨#[100,105,118]⟩,.string ⟨#[109,111,100]⟩]
theorem qT (n:Int) (c:Int) (a:Nat):∀ (l:List (Int×T)) (i:Nat),vC n (.bad c a) l i = -1
 | [],_=>rfl
 | p::r,i=>by unfold vC;rw[if_neg (by simp[isS])];exact qT n c a r (i+1)
theorem Yu (L:List Tk):∀ n:Nat,n<7→vC (n:Int) (.ok () L) vc 0=(opP n L).getD (-1):=by
 intro n hn
 have:n=0∨n=1∨n=2∨n=3∨n=4∨n=5∨n=6:=by omega
 rcases this with rfl | rfl | rfl | rfl | rfl | rfl | rfl <;> simp[vC,vc,isS,opP,opsP,List.find?] <;> (repeat' split) <;> simp_all
theorem rTexts (w:World):Calls Tryz.prog 187 #[] w fun e w'=>e=.returned (.slice (some ⟨w.heap.size,0,none⟩) 16 16)∧w'=w.alloc (.cells opA 9):=by
 unfold opA
 go_enter Tryz.func187,Tryz.ntmps187
 go_wp2_with fail
 go_ret
 exact⟨rfl,rfl⟩
theorem ZO (i:Nat) (w:World) (p:Int×T) (hp:vc[i]? = some p):Calls Tryz.prog 188 #[.int .i64 (i:Int)] w fun e w'=>e=.returned (.int .i64 p.1)∧Below w.heap.size w w':=by
 have hi:i<16:=(List.getElem?_eq_some_iff.1 hp).1
 have:i=0∨i=1∨i=2∨i=3∨i=4∨i=5∨i=6∨i=7∨i=8∨i=9∨i=10∨i=11∨i=12∨i=13∨i=14∨i=15:=by omega
 rcases this with rfl | rfl | rfl | rfl | rfl | rfl | rfl | rfl | rfl | rfl | rfl | rfl | rfl | rfl | rfl | rfl
 all_goals
  obtain rfl:=Option.some.inj hp
  clear hp hi
  go_enter Tryz.func188,Tryz.ntmps188
  go_wp2_with fail
  go_ret
  exact⟨rfl,(Below.refl _ _).alloc (Nat.le_refl _) _⟩
theorem ZK:∀ p∈vc,keyB p.2=true:=by decide
theorem opA_at {i:Nat} {p:Int×T} (h:vc[i]? = some p):opA[i]? = some (.string ⟨p.2.toArray⟩):=by
 have hi:i<16:=(List.getElem?_eq_some_iff.1 h).1
 have:i=0∨i=1∨i=2∨i=3∨i=4∨i=5∨i=6∨i=7∨i=8∨i=9∨i=10∨i=11∨i=12∨i=13∨i=14∨i=15:=by omega
 rcases this with rfl | rfl | rfl | rfl | rfl | rfl | rfl | rfl | rfl | rfl | rfl | rfl | rfl | rfl | rfl | rfl <;> (obtain rfl:=Option.some.inj h;rfl)
end Go.Proofs.YtdabndiaflagpaaGreatDoor
