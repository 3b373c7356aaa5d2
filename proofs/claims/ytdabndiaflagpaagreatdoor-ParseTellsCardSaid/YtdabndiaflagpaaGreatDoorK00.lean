/- Parts: Mem, App, Tree, Nm, Nm2, Ex1, Pgm, Tame, Tamw, Tamg, Row5. -/
import Derived.Lib.Hide
import Derived.WalkKit
import Derived.Below
import Derived.Laws.OwnMore
import Derived.Deep.Draws
import Derived.Deep.AppendLies
import Derived.Laws.Rows
import Derived.Maps.AppendAt
import Derived.Lib.AppendStr
import Derived.Lib.ConvBytes
import Derived.Laws.BytesArg
import Derived.OwnWalk
import Derived.Test.YtdabndiaflagpaaGreatDoorProg
import Derived.Maps.OwnSet
import Derived.Orders
import Derived.Calls
set_option maxRecDepth 100000
set_option maxHeartbeats 4000000
namespace Go.Proofs.YtdabndiaflagpaaGreatDoor
open Go.RowKit
theorem YV {p:Prop} (h:p):Hid p:=h
def Row (w:World) (g:Nat) (t:TypeId) (cs:Array Value):Prop:=w.heap[g]? = some (.cells cs t (0,0))
section
variable {w w':World} {g:Nat} {t:TypeId} {cs:Array Value}
theorem Row.lt (h:Row w g t cs):g<w.heap.size:=(Array.getElem?_eq_some_iff.1 h).1
theorem Row.cell (h:Row w g t cs) (i:Nat):w.cell? ⟨g,i,none⟩=cs[i]?:=cell_of_row w g i cs t (0,0) h
theorem Row.free (h:Row w g t cs) (i:Nat):w.frozen? ⟨g,i,none⟩=false:=frozen_of_row w g i cs t h
theorem Row.made (w:World) (t:TypeId) (cs:Array Value):Row (w.alloc (.cells cs t)) w.heap.size t cs:=heap_alloc_new w _
theorem Row.alloc (h:Row w g t cs) (o:Obj):Row (w.alloc o) g t cs:=(Below.heap_alloc w o g h.lt).trans h
theorem Row.drew (h:Row w g t cs):Row w.drew g t cs:=h
theorem Row.set (h:Row w g t cs) (i:Nat) (u:Value):Row (w.setCell ⟨g,i,none⟩ u) g t (cs.setIfInBounds i u):=heap_setCell_same w g i cs t u h
theorem Row.far (h:Row w g t cs) {p:Addr} (hp:g≠p.block) (u:Value):Row (w.setCell p u) g t cs:=(heap_setCell_other w p g u hp).trans h
theorem Row.below {B:Nat} (h:Row w g t cs) (hb:Below B w w') (hg:g<B):Row w' g t cs:=(hb.block g hg).trans h
theorem Row.grown {row:Option Nat} (h:Row w g t cs) (hb:w.grownBy w' row) (hg:some g≠row):Row w' g t cs:=(hb.block g h.lt hg).trans h
theorem Row.same (h:Row w g t cs) {cs':Array Value} {t':TypeId} (h':Row w g t' cs'):cs=cs'∧t=t':=by
 unfold Row at h h'
 rw[h] at h'
 injection h' with h'
 injection h' with h1 h2
 exact⟨h1,h2⟩
theorem Row.setRow (h:Row w g t cs) (cs':Array Value):Row (w.setRow g cs') g t cs':=setRow_heap w g cs _ t _ h
theorem xz {B:Nat} {a:World} (h:Below B a w) {k:Nat} (hk:B≤k) (cs':Array Value):Below B a (w.setRow k cs'):=
 h.trans ⟨rfl,rfl,rfl,by simp,fun i hi=>setRow_other w k i cs' (by omega)⟩
end
section
variable {w w':World} {B B':Nat} {A:Option Addr} {xs:List Value}
end
theorem zd (w:World) (p:Nat):w.grownBy w (some p):=World.grownBy.refl w _
theorem zf {a w:World} {p:Nat} (h:a.grownBy w (some p)) (i:Nat) (u:Value):a.grownBy (w.setCell ⟨p,i,none⟩ u) (some p):=
 ⟨h.os,h.tape,h.output,by simpa [World.setCell] using h.size,fun k hk hne=>(Below.heap_setCell w ⟨p,i,none⟩ u k (fun e=>hne (by rw[e]))).trans (h.block k hk hne)⟩
theorem za {a b c:World} {p:Nat} (h:a.grownBy b (some p)) (k:b.grownBy c (some p)):a.grownBy c (some p):=
 ⟨k.os.trans h.os,k.tape.trans h.tape,k.output.trans h.output,Nat.le_trans h.size k.size,fun i hi hne=>(k.block i (Nat.lt_of_lt_of_le hi h.size) hne).trans (h.block i hi hne)⟩
theorem zc {a b:World} (h:Below a.heap.size a b) (row:Option Nat):a.grownBy b row:=⟨h.os,h.tape,h.output,h.size,fun i hi _=>h.block i hi⟩
theorem zi {a w:World} {row:Option Nat} (h:a.grownBy w row) (o:Obj):a.grownBy (w.alloc o) row:=
 ⟨h.os,h.tape,h.output,Nat.le_trans h.size (by simp),fun i hi hne=>(Below.heap_alloc w o i (Nat.lt_of_lt_of_le hi h.size)).trans (h.block i hi hne)⟩
end Go.Proofs.YtdabndiaflagpaaGreatDoor
namespace Go.Proofs.YtdabndiaflagpaaGreatDoor
open Go.RowKit
section
variable {w w':World} {B:Nat} {e:TypeId} {v:Value} {xs:List Value}
end
theorem jm (b off j:Nat):(⟨b,off,none⟩:Addr).add j=⟨b,off+j,none⟩:=by
 unfold Addr.add;split <;> simp_all
section
variable {P:Program} (w:World)
end
theorem vt (w:World) (e:TypeId) (s:ByteArray):Below w.heap.size w (Lib.bytesWorld w e s):=
 ⟨rfl,rfl,rfl,by rw[Lib.bytesWorld_size];omega,fun k hk=>Lib.bytesWorld_at_old w e s k hk⟩
end Go.Proofs.YtdabndiaflagpaaGreatDoor
namespace Go.Proofs.YtdabndiaflagpaaGreatDoor
open Go.RowKit
abbrev T:=List UInt8
inductive X where
 | mk (k o n:Int) (s:T) (ks:List X)
def X.k:X→Int | .mk k _ _ _ _=>k
def X.o:X→Int | .mk _ o _ _ _=>o
def X.n:X→Int | .mk _ _ n _ _=>n
def X.s:X→T | .mk _ _ _ s _=>s
def X.ks:X→List X | .mk _ _ _ _ ks=>ks
mutual
def X.size:X→Nat
 | .mk _ _ _ _ ks=>1+X.sizes ks
def X.sizes:List X→Nat
 | []=>0
 | x::xs=>x.size+X.sizes xs
end
mutual
def X.depth:X→Nat
 | .mk _ _ _ _ ks=>1+X.depths ks
def X.depths:List X→Nat
 | []=>0
 | x::xs=>max x.depth (X.depths xs)
end
mutual
def X.same:X→X→Bool
 | .mk k o n s ks,.mk k' o' n' s' ks'=>decide (k=k') && decide (o=o') && decide (n=n') && decide (s=s') && X.sames ks ks'
def X.sames:List X→List X→Bool
 | [],[]=>true
 | x::xs,y::ys=>x.same y && X.sames xs ys
 | _,_=>false
end
mutual
def X.walk:X→List X
 | .mk k o n s ks=>.mk k o n s ks::X.walks ks
def X.walks:List X→List X
 | []=>[]
 | x::xs=>x.walk++X.walks xs
end
theorem X.size_pos (x:X):1≤x.size:=by cases x;simp[X.size]
theorem X.sizes_length (xs:List X):xs.length≤X.sizes xs:=by
 induction xs with
 | nil=>simp[X.sizes]
 | cons x xs ih=>have:=x.size_pos;simp only[X.sizes,List.length_cons];omega
theorem X.sizes_at {xs:List X} {i:Nat} {x:X} (h:xs[i]? = some x):x.size≤X.sizes xs:=by
 induction xs generalizing i with
 | nil=>simp at h
 | cons y ys ih=>
  cases i with
  | zero=>simp at h;subst h;simp only[X.sizes];omega
  | succ i=>simp at h;have:=ih h;simp only[X.sizes];omega
theorem X.sizes_append (xs ys:List X):X.sizes (xs++ys)=X.sizes xs+X.sizes ys:=by
 induction xs with
 | nil=>simp[X.sizes]
 | cons x xs ih=>simp only[List.cons_append,X.sizes,ih];omega
theorem jG {α:Type} {xs:List α} {i:Nat} {x:α} (h:xs[i]? = some x):xs.take (i+1)=xs.take i++[x]:=by
 rw[List.take_add_one,h];rfl
theorem X.sizes_take {xs:List X} {i:Nat} {x:X} (h:xs[i]? = some x):X.sizes (xs.take (i+1))=X.sizes (xs.take i)+x.size:=by
 rw[jG h,X.sizes_append];simp[X.sizes]
theorem X.sizes_take_le (xs:List X) (i:Nat):X.sizes (xs.take i)≤X.sizes xs:=by
 have:=X.sizes_append (xs.take i) (xs.drop i)
 rw[List.take_append_drop] at this;omega
theorem X.depths_append (xs ys:List X):X.depths (xs++ys)=max (X.depths xs) (X.depths ys):=by
 induction xs with
 | nil=>simp[X.depths]
 | cons x xs ih=>simp only[List.cons_append,X.depths,ih];omega
theorem X.depths_take {xs:List X} {i:Nat} {x:X} (h:xs[i]? = some x):X.depths (xs.take (i+1))=max (X.depths (xs.take i)) x.depth:=by
 rw[jG h,X.depths_append];simp[X.depths]
mutual
theorem X.depth_le (x:X):x.depth≤x.size:=by
 cases x with
 | mk k o n s ks=>have:=X.depths_le ks;simp only[X.depth,X.size];omega
theorem X.depths_le (xs:List X):X.depths xs≤X.sizes xs:=by
 cases xs with
 | nil=>simp[X.depths]
 | cons x xs=>have:=X.depth_le x;have:=X.depths_le xs;simp only[X.depths,X.sizes];omega
end
theorem X.depths_take_le (xs:List X) (i:Nat):X.depths (xs.take i)≤X.depths xs:=by
 have:=X.depths_append (xs.take i) (xs.drop i)
 rw[List.take_append_drop] at this;omega
theorem X.depths_at {xs:List X} {i:Nat} {x:X} (h:xs[i]? = some x):x.depth≤X.depths xs:=by
 induction xs generalizing i with
 | nil=>simp at h
 | cons y ys ih=>
  cases i with
  | zero=>simp at h;subst h;simp only[X.depths];omega
  | succ i=>simp at h;have:=ih h;simp only[X.depths];omega
mutual
theorem X.same_refl (x:X):x.same x=true:=by
 cases x with
 | mk k o n s ks=>simp[X.same,X.sames_refl ks]
theorem X.sames_refl (xs:List X):X.sames xs xs=true:=by
 cases xs with
 | nil=>rfl
 | cons x xs=>simp[X.sames,X.same_refl x,X.sames_refl xs]
end
theorem X.sames_length {xs ys:List X} (h:xs.length≠ys.length):X.sames xs ys=false:=by
 induction xs generalizing ys with
 | nil=>cases ys with
  | nil=>simp at h
  | cons y ys=>rfl
 | cons x xs ih=>cases ys with
  | nil=>rfl
  | cons y ys=>simp only[X.sames,Bool.and_eq_false_iff];exact .inr (ih (by simpa using h))
theorem X.sames_stop {xs ys:List X} {i:Nat} {x y:X} (hx:xs[i]? = some x) (hy:ys[i]? = some y) (h:x.same y=false):X.sames xs ys=false:=by
 induction xs generalizing ys i with
 | nil=>simp at hx
 | cons a xs ih=>cases ys with
  | nil=>rfl
  | cons b ys=>
   simp only[X.sames,Bool.and_eq_false_iff]
   cases i with
   | zero=>simp at hx hy;subst hx hy;exact .inl h
   | succ i=>simp at hx hy;exact .inr (ih hx hy)
theorem X.sames_all {xs ys:List X} (hl:xs.length=ys.length) (h:∀ (i:Nat) x y,xs[i]? = some x→ys[i]? = some y→x.same y=true):X.sames xs ys=true:=by
 induction xs generalizing ys with
 | nil=>cases ys with
  | nil=>rfl
  | cons y ys=>simp at hl
 | cons a xs ih=>cases ys with
  | nil=>simp at hl
  | cons b ys=>
   simp only[X.sames,Bool.and_eq_true]
   exact⟨h 0 a b rfl rfl,ih (by simpa using hl) fun i x y hx hy=>h (i+1) x y (by simpa using hx) (by simpa using hy)⟩
mutual
theorem X.walk_length (x:X):x.walk.length=x.size:=by
 cases x with
 | mk k o n s ks=>simp[X.walk,X.size,X.walks_length ks];omega
theorem X.walks_length (xs:List X):(X.walks xs).length=X.sizes xs:=by
 cases xs with
 | nil=>rfl
 | cons x xs=>simp[X.walks,X.sizes,X.walk_length x,X.walks_length xs]
end
theorem X.walks_append (xs ys:List X):X.walks (xs++ys)=X.walks xs++X.walks ys:=by
 induction xs with
 | nil=>simp[X.walks]
 | cons x xs ih=>simp[X.walks,ih,List.append_assoc]
theorem X.walks_take {xs:List X} {i:Nat} {x:X} (h:xs[i]? = some x):X.walks (xs.take (i+1))=X.walks (xs.take i)++x.walk:=by
 rw[jG h,X.walks_append];simp[X.walks]
mutual
def X.ok:X→Prop
 | .mk _ _ n s ks=>n≤9223372036854775807∧s.length≤1099511627776∧X.oks ks
def X.oks:List X→Prop
 | []=>True
 | x::xs=>x.ok∧X.oks xs
end
theorem X.oks_at {xs:List X} {i:Nat} {x:X} (h:xs[i]? = some x) (ho:X.oks xs):x.ok:=by
 induction xs generalizing i with
 | nil=>simp at h
 | cons y ys ih=>
  unfold X.oks at ho
  cases i with
  | zero=>simp at h;subst h;exact ho.1
  | succ i=>simp at h;exact ih h ho.2
theorem X.ok_n {x:X} (h:x.ok):x.n≤9223372036854775807:=by cases x;unfold X.ok at h;exact h.1
theorem X.ok_s {x:X} (h:x.ok):x.s.length≤1099511627776:=by cases x;unfold X.ok at h;exact h.2.1
theorem X.ks_le {x:X} {M:Nat} (h:x.size≤M):x.ks.length≤M:=by
 cases x with
 | mk k o n s ks=>have:=X.sizes_length ks;simp only[X.size,X.ks] at h ⊢;omega
mutual
def EC (w:World) (S:Nat→Prop):X→Nat→Nat→Prop
 | .mk k o n s ks=>fun b off=>S b∧w.cell? ⟨b,off,none⟩=some (.int .i64 k)∧w.cell? ⟨b,off+1,none⟩=some (.int .i64 o)∧w.cell? ⟨b,off+2,none⟩=some (.int .i64 n)∧w.cell? ⟨b,off+3,none⟩=some (.string ⟨s.toArray⟩)∧
   ∃ A c,w.cell? ⟨b,off+4,none⟩=some (.slice A ks.length c)∧(ks=[]∨∃ b' off',A=some ⟨b',off',none⟩∧ECs w S ks b' off')
def ECs (w:World) (S:Nat→Prop):List X→Nat→Nat→Prop
 | []=>fun _ _=>True
 | x::xs=>fun b off=>EC w S x b off∧ECs w S xs b (off+5)
end
def KS (w:World) (S:Nat→Prop) (A:Option Addr) (ks:List X):Prop:=ks=[]∨∃ b off,A=some ⟨b,off,none⟩∧ECs w S ks b off
def ev (x:X) (A:Option Addr) (c:Nat):Value:=.agg #[.int .i64 x.k,.int .i64 x.o,.int .i64 x.n,.string ⟨x.s.toArray⟩,.slice A x.ks.length c]
def Old (w:World):Nat→Prop:=fun b=>b<w.heap.size
section
variable {w w':World} {S S':Nat→Prop}
mutual
theorem EC.move (h:∀ b,S b→S' b∧w'.heap[b]? = w.heap[b]?) (x:X) (b off:Nat) (he:EC w S x b off):EC w' S' x b off:=by
 cases x with
 | mk k o n s ks=>
  unfold EC at he ⊢
  obtain⟨hb,c0,c1,c2,c3,A,c,c4,hk⟩:=he
  have hc:∀ i,w'.cell? ⟨b,i,none⟩=w.cell? ⟨b,i,none⟩:=fun i=>World.cell?_of_block (h b hb).2
  refine⟨(h b hb).1,(hc _).trans c0,(hc _).trans c1,(hc _).trans c2,(hc _).trans c3,A,c,(hc _).trans c4,?_⟩
  rcases hk with hk | ⟨b',off',hA,hs⟩
  ·exact .inl hk
  ·exact .inr ⟨b',off',hA,ECs.move h ks b' off' hs⟩
theorem ECs.move (h:∀ b,S b→S' b∧w'.heap[b]? = w.heap[b]?) (xs:List X) (b off:Nat) (he:ECs w S xs b off):ECs w' S' xs b off:=by
 cases xs with
 | nil=>unfold ECs;trivial
 | cons x xs=>
  unfold ECs at he ⊢
  exact⟨EC.move h x b off he.1,ECs.move h xs b (off+5) he.2⟩
end
theorem KS.move {A:Option Addr} {ks:List X} (he:KS w S A ks) (h:∀ b,S b→S' b∧w'.heap[b]? = w.heap[b]?):KS w' S' A ks:=by
 rcases he with hk | ⟨b',off',hA,hs⟩
 ·exact .inl hk
 ·exact .inr ⟨b',off',hA,ECs.move h ks b' off' hs⟩
theorem KS.later {A:Option Addr} {ks:List X} (he:KS w S A ks) (hS:∀ b,S b→b<w.heap.size) (hb:Below w.heap.size w w'):KS w' S A ks:=he.move fun b h=>⟨h,hb.block b (hS b h)⟩
theorem EC.block {x:X} {b off:Nat} (h:EC w S x b off):S b:=by
 cases x with
 | mk k o n s ks=>unfold EC at h;exact h.1
theorem EC.open {x:X} {b off:Nat} (h:EC w S x b off):w.cell? ⟨b,off,none⟩=some (.int .i64 x.k)∧w.cell? ⟨b,off+1,none⟩=some (.int .i64 x.o)∧w.cell? ⟨b,off+2,none⟩=some (.int .i64 x.n)∧w.cell? ⟨b,off+3,none⟩=some (.string ⟨x.s.toArray⟩)∧
  ∃ A c,w.cell? ⟨b,off+4,none⟩=some (.slice A x.ks.length c)∧KS w S A x.ks:=by
 cases x with
 | mk k o n s ks=>unfold EC at h;exact h.2
theorem EC.mk' {x:X} {b off:Nat} {A:Option Addr} {c:Nat} (hb:S b) (c0:w.cell? ⟨b,off,none⟩=some (.int .i64 x.k)) (c1:w.cell? ⟨b,off+1,none⟩=some (.int .i64 x.o)) (c2:w.cell? ⟨b,off+2,none⟩=some (.int .i64 x.n)) (c3:w.cell? ⟨b,off+3,none⟩=some (.string ⟨x.s.toArray⟩))
  (c4:w.cell? ⟨b,off+4,none⟩=some (.slice A x.ks.length c)) (hk:KS w S A x.ks):EC w S x b off:=by
 cases x with
 | mk k o n s ks=>unfold EC;exact⟨hb,c0,c1,c2,c3,A,c,c4,hk⟩
theorem ECs.kid {xs:List X} {i:Nat} {x:X}:∀ {b off:Nat},ECs w S xs b off→xs[i]? = some x→EC w S x b (off+i * 5):=by
 induction xs generalizing i with
 | nil=>intro b off _ hi;simp at hi
 | cons y ys ih=>
  intro b off h hi
  unfold ECs at h
  cases i with
  | zero=>simp at hi;subst hi;exact h.1
  | succ i=>
   simp at hi
   have:=ih h.2 hi
   rw[show off+(i+1) * 5=off+5+i * 5 by omega]
   exact this
theorem ECs.of_kids {xs:List X}:∀ {b off:Nat},(∀ (i:Nat) x,xs[i]? = some x→EC w S x b (off+i * 5))→ECs w S xs b off:=by
 induction xs with
 | nil=>intro b off _;unfold ECs;trivial
 | cons y ys ih=>
  intro b off h
  unfold ECs
  refine⟨by simpa using h 0 y rfl,ih fun i x hi=>?_⟩
  have:=h (i+1) x (by simpa using hi)
  rw[show off+(i+1) * 5=off+5+i * 5 by omega] at this
  exact this
theorem KS.kid {A:Option Addr} {xs:List X} {i:Nat} {x:X} (h:KS w S A xs) (hi:xs[i]? = some x):∃ b off,A=some ⟨b,off,none⟩∧EC w S x b (off+i * 5):=by
 rcases h with rfl | ⟨b,off,hA,hs⟩
 ·simp at hi
 ·exact⟨b,off,hA,hs.kid hi⟩
theorem EC.ev {x:X} {b off:Nat} (h:EC w S x b off):∃ A c,w.cell? ⟨b,off,none⟩=some (.int .i64 x.k)∧w.cell? ⟨b,off+1,none⟩=some (.int .i64 x.o)∧w.cell? ⟨b,off+2,none⟩=some (.int .i64 x.n)∧w.cell? ⟨b,off+3,none⟩=some (.string ⟨x.s.toArray⟩)∧
  w.cell? ⟨b,off+4,none⟩=some (.slice A x.ks.length c)∧KS w S A x.ks:=by
 obtain⟨c0,c1,c2,c3,A,c,c4,hk⟩:=h.open
 exact⟨A,c,c0,c1,c2,c3,c4,hk⟩
end
end Go.Proofs.YtdabndiaflagpaaGreatDoor
namespace Go.Proofs.YtdabndiaflagpaaGreatDoor
open Go.RowKit
def isL (z:Int):Bool:=decide ((97≤z∧z≤122)∨(65≤z∧z≤90)∨z=95)
def isD (z:Int):Bool:=decide (48≤z∧z≤57)
def j5:List T:=[[97,110,100],[98,111,111,108],[99,111,110,115,116],[100,105,118],[101,108,115,101],[102,97,108,115,101],[105,102],[105,110,116],[108,101,116],[109,111,100],[110,111,100,101],[110,111,116],[111,114],[112,114,101],[114,101,116,117,114,110,115],[116,101,108],[116,104,101,110],[116,114,117,101],[118,97,114],[120,111,114]]
def jp (s:T):Bool:=decide (s∈j5)
def ZB:Array Value:=(j5.map fun l=>Value.string ⟨l.toArray⟩).toArray
theorem zp {a b:Bool} (h:a=b):Ending.returned (.bool a)=Ending.returned (.bool b):=by rw[h]
theorem vr (z:Int) (w:World):Calls Tryz.prog 118 #[.int .u8 z] w fun e w'=>e=.returned (.bool (isL z))∧w=w':=by
 by_cases h1:97≤z <;> by_cases h2:z≤122 <;> by_cases h3:65≤z <;> by_cases h4:z≤90 <;> by_cases h5:z=95
 all_goals first|(exfalso;omega) | skip
 all_goals
  first
   |(have h7:z=95:=h5
     clear h1 h2 h3 h4 h5
     subst h7
     have HL:Hid (isL 95=true):=YV (by decide)
     go_enter Tryz.func118,Tryz.ntmps118
     go_wp2_with fail
     go_ret
     exact⟨zp HL.out.symm,rfl⟩)
   |(have HL:Hid (isL z=true):=decide_eq_true (by omega)
     have h6:(z == 95)=false:=by simpa using h5
     go_enter Tryz.func118,Tryz.ntmps118
     go_wp2_with fail
     go_ret
     exact⟨zp HL.out.symm,rfl⟩)
   |(have HL:Hid (isL z=false):=decide_eq_false (by omega)
     have h6:(z == 95)=false:=by simpa using h5
     go_enter Tryz.func118,Tryz.ntmps118
     go_wp2_with fail
     go_ret
     exact⟨zp HL.out.symm,rfl⟩)
theorem z7 (z:Int) (w:World):Calls Tryz.prog 77 #[.int .u8 z] w fun e w'=>e=.returned (.bool (isL z))∧w=w':=by
 by_cases h1:97≤z <;> by_cases h2:z≤122 <;> by_cases h3:65≤z <;> by_cases h4:z≤90 <;> by_cases h5:z=95
 all_goals first|(exfalso;omega) | skip
 all_goals
  first
   |(have h7:z=95:=h5
     clear h1 h2 h3 h4 h5
     subst h7
     have HL:Hid (isL 95=true):=YV (by decide)
     go_enter Tryz.func77,Tryz.ntmps77
     go_wp2_with fail
     go_ret
     exact⟨zp HL.out.symm,rfl⟩)
   |(have HL:Hid (isL z=true):=decide_eq_true (by omega)
     have h6:(z == 95)=false:=by simpa using h5
     go_enter Tryz.func77,Tryz.ntmps77
     go_wp2_with fail
     go_ret
     exact⟨zp HL.out.symm,rfl⟩)
   |(have HL:Hid (isL z=false):=decide_eq_false (by omega)
     have h6:(z == 95)=false:=by simpa using h5
     go_enter Tryz.func77,Tryz.ntmps77
     go_wp2_with fail
     go_ret
     exact⟨zp HL.out.symm,rfl⟩)
theorem vK (z:Int) (w:World):Calls Tryz.prog 117 #[.int .u8 z] w fun e w'=>e=.returned (.bool (isD z))∧w=w':=by
 by_cases h1:48≤z <;> by_cases h2:z≤57
 all_goals
  first
   |(have HL:Hid (isD z=true):=decide_eq_true (by omega)
     go_enter Tryz.func117,Tryz.ntmps117
     go_wp2_with fail
     go_ret
     exact⟨zp HL.out.symm,rfl⟩)
   |(have HL:Hid (isD z=false):=decide_eq_false (by omega)
     go_enter Tryz.func117,Tryz.ntmps117
     go_wp2_with fail
     go_ret
     exact⟨zp HL.out.symm,rfl⟩)
theorem zP (z:Int) (w:World):Calls Tryz.prog 78 #[.int .u8 z] w fun e w'=>e=.returned (.bool (isD z))∧w=w':=by
 by_cases h1:48≤z <;> by_cases h2:z≤57
 all_goals
  first
   |(have HL:Hid (isD z=true):=decide_eq_true (by omega)
     go_enter Tryz.func78,Tryz.ntmps78
     go_wp2_with fail
     go_ret
     exact⟨zp HL.out.symm,rfl⟩)
   |(have HL:Hid (isD z=false):=decide_eq_false (by omega)
     go_enter Tryz.func78,Tryz.ntmps78
     go_wp2_with fail
     go_ret
     exact⟨zp HL.out.symm,rfl⟩)
def Zz (w:World) (e:Ending) (w':World):Prop:=∃ g,e=.returned (.slice (some ⟨g,0,none⟩) 20 20)∧Row w' g 9 ZB∧Below w.heap.size w w'
theorem Zy (w:World):Calls Tryz.prog 115 #[] w (Zz w):=by
 go_enter Tryz.func115,Tryz.ntmps115
 go_wp2_with fail
 go_ret
 exact⟨w.heap.size,rfl,Row.made _ _ _,(Below.refl _ _).alloc (Nat.le_refl _) _⟩
theorem uf (s:T) (w:World):Calls Tryz.prog 79 #[.string ⟨s.toArray⟩] w fun e w'=>e=.returned (.bool (jp s))∧Below w.heap.size w w':=by
 go_enter Tryz.func79,Tryz.ntmps79
 go_wp2_with (go_at_call 115;refine(Zy w).mono ?_;rintro e w1 ⟨g,rfl,hr,hb⟩;have HR:=YV hr;have HB:=YV hb;clear hr hb)
 go_loop [4] (fun k=>∃ i:Nat,i≤20∧k=.int .i64 i∧∀ (j:Nat) l,j<i→j5[j]? = some l→l≠s) (fun k=>20 - (intOf k).toNat)
 case atStart=>exact⟨0,by omega,rfl,fun j l h=>by omega⟩
 case round=>
  obtain⟨i,hi,rfl,hb⟩:=hrel
  have HN:=YV hb
  clear hb
  by_cases hlt:i<20
  ·obtain⟨l,hl⟩:∃ l,j5[i]? = some l:=⟨_,List.getElem?_eq_getElem (by simpa [j5] using hlt)⟩
   have hcell:w1.cell? ⟨g,i,none⟩=some (.string ⟨l.toArray⟩):=by
    rw[HR.out.cell i];simp[ZB,hl]
   have HL:=YV hl
   clear hl
   by_cases he:l=s
   ·have HW:Hid (jp s=true):=decide_eq_true (by rw[← he];exact List.mem_of_getElem? HL.out)
    rw[he] at hcell
    clear he
    go_wp2_with fail
    go_ret
    exact⟨zp HW.out.symm,HB.out⟩
   ·have hne:(l == s)=false:=by simpa using he
    have HE:=YV he
    clear he
    go_wp2_with fail
    refine⟨⟨i+1,by omega,by go_num,fun j m h hm=>?_⟩,by simp[intOf];omega⟩
    by_cases hji:j=i
    ·subst hji;rw[HL.out] at hm;injection hm with hm;rw[← hm];exact HE.out
    ·exact HN.out j m (by omega) hm
  ·have HW:Hid (jp s=false):=decide_eq_false (fun hm=>by
    obtain⟨j,hj⟩:=List.mem_iff_getElem?.1 hm
    have:j<20:=by
     rcases Nat.lt_or_ge j 20 with h' | h'
     ·exact h'
     ·rw[List.getElem?_eq_none (by simpa [j5] using h')] at hj;cases hj
    exact HN.out j s (by omega) hj rfl)
   go_wp2_with fail
   go_ret
   exact⟨zp HW.out.symm,HB.out⟩
def key (l:T):Lit:=.string l
theorem key_ne {l m:T} (h:l≠m):key l≠key m:=fun e=>h (by unfold key at e;injection e)
theorem key_lit (l:T):WideAt.IsKeyLit (key l):=trivial
theorem vy:Maps.Keyed Tryz.prog 9:=Maps.string_keyed Tryz.underlying9
theorem ZA (w:World):(zeroValue 4).run Tryz.prog w=.ok (.bool false) w:=by kernel_rfl
theorem kR (l:T) (h:l.length≤maxLen):keyOf Tryz.prog 9 (.string ⟨l.toArray⟩)=some (key l):=WideMaps.keyOf_string_mk Tryz.underlying9 (s:=⟨l.toArray⟩) h
def WMk (w:World) (b:Nat) (ks:List T):Prop:=
 ∃ D:DataW Unit,w.ownsMap Tryz.prog 9 (plainElem Tryz.prog 4) b ks.length D∧Maps.IsMap D∧∀ s,D.atKey (key s) (.lit (.bool false))=.lit (.bool (decide (s∈ks)))
theorem WMk.made (w:World):WMk (w.alloc (.map #[] 0)) w.heap.size []:=
 ⟨.map [],World.ownsMap_made (H:=Unit) w Tryz.prog 9 (plainElem Tryz.prog 4),Maps.isMap_empty,fun _=>rfl⟩
theorem WMk.later {w w':World} {b:Nat} {ks:List T} (h:WMk w b ks) (hb:Below w.heap.size w w'):WMk w' b ks:=by
 obtain⟨D,hm,r⟩:=h
 exact⟨D,hm.kept (zc hb (row:=none)) (by simp),r⟩
theorem xE {w:World} {ops:Array Oper} {rest:List Oper} {o:Oper} {a:Act} {Q:Exit→Act→World→Prop} (hg:o.guard=none) (m x v:Operand) (hop:o.op=Op.insert 123 m x v)
  (b:Nat) (ks:List T) (hm:a.eval m=.map (some b)) (h:WMk w b ks) (hks:ks.length≤100) (l:T) (hx:a.eval x=.string ⟨l.toArray⟩) (hv:a.eval v=.bool true) (hl:l.length≤100)
  (hK:∀ w',WMk w' b (l::ks)→w.grownBy w' (some b)→wpList Tryz.prog ops Q rest (a.put o.dst undef) w'):wpList Tryz.prog ops Q (o::rest) a w:=by
 obtain⟨D,hown,hmap,hat⟩:=h
 refine wpList_plain hg fun K' hK'=>?_
 obtain⟨w',hrun,r1,r2⟩:=hown.update vy Tryz.underlying123 (by unfold maxLen;omega) (kR l (by unfold maxLen;omega)) (plainElem_bool Tryz.underlying4 true)
 unfold Oper.wp
 simp[execOp,hop,hm,hx,hv,hrun,Result.andThen]
 refine hK' _ _ (hK w' ⟨_,r1,hmap.put _ _,fun s=>?_⟩ r2)
 by_cases e:s=l
 ·subst e
  rw[Maps.atKey_put_same hmap (key_lit s)]
  simp
 ·rw[Maps.atKey_put_other (key_ne e),hat s]
  simp[e]
theorem yR {w:World} {ops:Array Oper} {rest:List Oper} {o:Oper} {a:Act} {Q:Exit→Act→World→Prop} (hg:o.guard=none) (m x:Operand) (hop:o.op=Op.lookup 123 m x false)
  (b:Nat) (ks:List T) (hm:a.eval m=.map (some b)) (h:WMk w b ks) (l:T) (hx:a.eval x=.string ⟨l.toArray⟩) (hl:l.length≤maxLen)
  (hK:wpList Tryz.prog ops Q rest (a.put o.dst (.bool (decide (l∈ks)))) w):wpList Tryz.prog ops Q (o::rest) a w:=by
 obtain⟨D,⟨es,clock,hb,F,hs,rfl⟩,hmap,hat⟩:=h
 refine wpList_plain hg fun K' hK'=>?_
 have key':∃ c,(Instr.lookup 123 (.map (some b)) (.string ⟨l.toArray⟩) false).run Tryz.prog w=.ok (.bool c) w∧c=decide (l∈ks):=by
  have h0:=hat l
  rcases Maps.fit_look false vy Tryz.underlying123 (ZA w) hb F (kR l hl) with ⟨hrun,_,hz⟩ | ⟨e0,y,_,_,hrun,hRv,hz,_⟩
  ·refine⟨false,hrun,?_⟩
   rw[hz] at h0
   injection h0 with h0
   injection h0
  ·rw[hz] at h0
   have hp:∃ c,e0.val=.bool c∧y.1=.lit (.bool c):=by
    unfold plainElem at hRv
    rw[Tryz.underlying4] at hRv
    cases hv:e0.val <;> rw[hv] at hRv <;> simp at hRv
    exact⟨_,rfl,by rw[← hRv]⟩
   obtain⟨c,hc,hy⟩:=hp
   refine⟨c,?_,?_⟩
   ·rw[hc] at hrun;exact hrun
   ·rw[hy] at h0
    injection h0 with h0
    injection h0
 obtain⟨c,hrun,hc⟩:=key'
 subst hc
 unfold Oper.wp
 simp[execOp,hop,hm,hx,hrun,Result.andThen]
 exact hK' _ _ (by simpa using hK)
def WM (w:World) (b:Nat):Prop:=WMk w b j5.reverse
def YP (w:World) (e:Ending) (w':World):Prop:=∃ b,e=.returned (.map (some b))∧WM w' b∧w.heap.size≤b∧Below w.heap.size w w'
theorem um (w:World):Calls Tryz.prog 52 #[] w (YP w):=by
 have hmm:=@run_makeMap Tryz.prog
 have HM:=YV (WMk.made w)
 have HB:Hid (Below w.heap.size w (w.alloc (.map #[] 0))):=YV ((Below.refl _ _).alloc (Nat.le_refl _) _)
 go_enter Tryz.func52,Tryz.ntmps52
 go_wp2_with (((refine xE (o:=⟨none,Op.insert _ _ _ _,_,_,_,_⟩) rfl _ _ _ rfl _ _ rfl HM.out (by simp) _ rfl rfl (by simp) ?_);intro w1 h1 g1;replace HM:=YV h1;replace HB:=YV (HB.out.trans ((Below.refl _ _).grown g1 HB.out.size (fun k hk=>by cases hk;exact Nat.le_refl _)));clear h1 g1))
 go_ret
 exact⟨w.heap.size,rfl,HM.out,Nat.le_refl _,HB.out⟩
end Go.Proofs.YtdabndiaflagpaaGreatDoor
namespace Go.Proofs.YtdabndiaflagpaaGreatDoor
open Go.RowKit
def okAt (i:Nat) (z:Int):Prop:=isL z=true∨(0<i∧isD z=true)
def Z9 (s:T):Prop:=(∀ (i:Nat) (c:UInt8),s[i]? = some c→okAt i (c.toNat:Int))∧1≤s.length∧s.length≤60∧s∉j5
noncomputable def zB (s:T):Bool:=@decide (Z9 s) (Classical.propDecidable _)
theorem uh {s:T} (h:Z9 s):zB s=true:=@decide_eq_true _ (Classical.propDecidable _) h
theorem jc {s:T} (h:¬ Z9 s):zB s=false:=@decide_eq_false _ (Classical.propDecidable _) h
theorem ug {s:T} {i:Nat} {c:UInt8} (hc:s[i]? = some c) (h:¬ okAt i (c.toNat:Int)):zB s=false:=jc fun hp=>h (hp.1 i c hc)
theorem jt {s:T} {i:Nat} (h:i<s.length):∃ (c:UInt8) (h':i<(⟨s.toArray⟩:ByteArray).size),s[i]? = some c∧(⟨s.toArray⟩:ByteArray)[i]=c:=
 ⟨s[i],by simpa [ByteArray.size] using h,List.getElem?_eq_getElem h,rfl⟩
theorem refName_any (s:T) (w:World) (hl:s.length≤1099511627776):Calls Tryz.prog 54 #[.string ⟨s.toArray⟩] w fun e w'=>e=.returned (.bool (zB s))∧Below w.heap.size w w':=by
 go_enter Tryz.func54,Tryz.ntmps54
 go_wp2_with fail
 go_loopw [3] (fun k wr=>∃ i:Nat,i≤s.length∧k=.int .i64 i∧(∀ (j:Nat) (c:UInt8),j<i→s[j]? = some c→okAt j (c.toNat:Int))∧w=wr) (fun k _=>s.length - (intOf k).toNat)
 case atStart=>exact⟨0,by omega,rfl,fun j c h=>by omega,rfl⟩
 case round=>
  obtain⟨i,hi,rfl,hb,rfl⟩:=hrel
  have HN:=YV hb
  clear hb
  have step:∀ (c0:UInt8),s[i]? = some c0→okAt i (c0.toNat:Int)→∀ (j:Nat) (c:UInt8),j<i+1→s[j]? = some c→okAt j (c.toNat:Int):=fun c0 h0 ho j c hj hc=>by
   by_cases e:j=i
   ·subst e;rw[h0] at hc;injection hc with hc;rw[← hc];exact ho
   ·exact HN.out j c (by omega) hc
  have HS:=YV step
  clear step
  by_cases hlt:i<s.length
  ·obtain⟨c,hlt',hc0,hc⟩:=jt hlt
   have HC0:=YV hc0
   clear hc0
   by_cases hL:isL (c.toNat:Int)=true
   ·have HO:Hid (okAt i (c.toNat:Int)):=.inl hL
    go_wp2_with (first|(go_at_call 77;refine(z7 _ _).mono ?_;rintro e w1 ⟨rfl,rfl⟩)|(go_at_call 78;refine(zP _ _).mono ?_;rintro e w1 ⟨rfl,rfl⟩))
    refine⟨⟨i+1,by omega,by go_num,HS.out c HC0.out HO.out,trivial⟩,by simp[intOf];omega⟩
   ·have hL':isL (c.toNat:Int)=false:=by simpa using hL
    by_cases hp:0<i
    ·have hp':(0:Int)<(i:Int):=by omega
     by_cases hD:isD (c.toNat:Int)=true
     ·have HO:Hid (okAt i (c.toNat:Int)):=.inr ⟨hp,hD⟩
      clear hL
      go_wp2_with (first|(go_at_call 77;refine(z7 _ _).mono ?_;rintro e w1 ⟨rfl,rfl⟩)|(go_at_call 78;refine(zP _ _).mono ?_;rintro e w1 ⟨rfl,rfl⟩))
      refine⟨⟨i+1,by omega,by go_num,HS.out c HC0.out HO.out,trivial⟩,by simp[intOf];omega⟩
     ·have HO:Hid (zB s=false):=ug HC0.out (fun ho=>ho.elim hL (fun h=>hD h.2))
      have hD':isD (c.toNat:Int)=false:=by simpa using hD
      clear hL hD
      go_wp2_with (first|(go_at_call 77;refine(z7 _ _).mono ?_;rintro e w1 ⟨rfl,rfl⟩)|(go_at_call 78;refine(zP _ _).mono ?_;rintro e w1 ⟨rfl,rfl⟩))
      go_ret
      exact⟨zp HO.out.symm,Below.refl _ _⟩
    ·have HO:Hid (zB s=false):=ug HC0.out (fun ho=>ho.elim hL (fun h=>hp h.1))
     obtain rfl:i=0:=by omega
     clear hL hp
     go_wp2_with (first|(go_at_call 77;refine(z7 _ _).mono ?_;rintro e w1 ⟨rfl,rfl⟩)|(go_at_call 78;refine(zP _ _).mono ?_;rintro e w1 ⟨rfl,rfl⟩))
     go_ret
     exact⟨zp HO.out.symm,Below.refl _ _⟩
  ·have hall:∀ (j:Nat) (c:UInt8),s[j]? = some c→okAt j (c.toNat:Int):=fun j c hc=>HN.out j c (by
    rcases Nat.lt_or_ge j s.length with h' | h'
    ·omega
    ·rw[List.getElem?_eq_none h'] at hc;cases hc) hc
   have HA:=YV hall
   clear hall
   by_cases h1:1≤s.length
   ·by_cases h2:s.length≤60
    ·by_cases h3:jp s=true
     ·have HO:Hid (zB s=false):=jc fun hp=>hp.2.2.2 (of_decide_eq_true h3)
      have h1':(1:Int)≤(s.length:Int):=by omega
      have h2':(s.length:Int)≤60:=by omega
      go_wp2_with (go_at_call 79;refine(uf s _).mono ?_;rintro e w1 ⟨rfl,hb1⟩;have HB1:=YV hb1;clear hb1)
      go_ret
      exact⟨zp HO.out.symm,HB1.out⟩
     ·have HO:Hid (zB s=true):=uh ⟨HA.out,h1,h2,fun hm=>h3 (decide_eq_true hm)⟩
      have h3':jp s=false:=by simpa using h3
      have h1':(1:Int)≤(s.length:Int):=by omega
      have h2':(s.length:Int)≤60:=by omega
      clear h3
      go_wp2_with (go_at_call 79;refine(uf s _).mono ?_;rintro e w1 ⟨rfl,hb1⟩;have HB1:=YV hb1;clear hb1)
      go_ret
      exact⟨zp HO.out.symm,HB1.out⟩
    ·have HO:Hid (zB s=false):=jc fun hp=>h2 hp.2.2.1
     go_wp2_with fail
     go_ret
     exact⟨zp HO.out.symm,Below.refl _ _⟩
   ·have HO:Hid (zB s=false):=jc fun hp=>h1 hp.2.1
    obtain rfl:s=[]:=List.eq_nil_of_length_eq_zero (by omega)
    go_wp2_with fail
    go_ret
    exact⟨zp HO.out.symm,Below.refl _ _⟩
theorem vY (b:Nat) (s:T) (w:World) (hl:s.length≤1099511627776) (hw:WM w b):Calls Tryz.prog 88 #[.map (some b),.string ⟨s.toArray⟩] w fun e w'=>e=.returned (.bool (zB s))∧Below w.heap.size w w':=by
 have HW:=YV hw
 clear hw
 by_cases h1:1≤s.length
 ·obtain⟨c0,h0',hc0,hcc⟩:=jt (i:=0) (s:=s) (by omega)
  have HC0:=YV hc0
  clear hc0
  have hne:(s == [])=false:=by cases s with | nil=>simp at h1 | cons a l=>rfl
  have hne2:¬ s=[]:=by rintro rfl;simp at h1
  have HNE:=YV hne2
  clear hne2
  by_cases h2:s.length≤60
  ·have h2':(s.length:Int)≤60:=by omega
   by_cases hD:isD (c0.toNat:Int)=true
   ·have HO:Hid (zB s=false):=ug HC0.out (fun ho=>ho.elim (fun h=>by unfold isL at h;unfold isD at hD;simp at h hD;omega) (fun h=>absurd h.1 (by omega)))
    go_enter Tryz.func88,Tryz.ntmps88
    go_wp2_with (first|(go_at_call 117;refine(vK _ _).mono ?_;rintro e w1 ⟨rfl,rfl⟩)|(go_at_call 118;refine(vr _ _).mono ?_;rintro e w1 ⟨rfl,rfl⟩))
    go_ret
    exact⟨zp HO.out.symm,Below.refl _ _⟩
   ·have hD':isD (c0.toNat:Int)=false:=by simpa using hD
    clear hD
    have hcb:=Lib.run_convert_string_bytes (P:=Tryz.prog) w 9 32 5 ⟨s.toArray⟩ Tryz.underlying9 Tryz.underlying32 Tryz.underlying5
    have HB:Hid (Below w.heap.size w (Lib.bytesWorld w 5 ⟨s.toArray⟩)):=YV (vt _ _ _)
    have HC:Hid (∀ (j:Nat) (c:UInt8),s[j]? = some c→(Lib.bytesWorld w 5 ⟨s.toArray⟩).cell? ⟨w.heap.size,j,none⟩=some (.int .u8 (c.toNat:Int))):=fun j c hj=>by
     have hlt:j<s.length:=by
      rcases Nat.lt_or_ge j s.length with h' | h'
      ·exact h'
      ·rw[List.getElem?_eq_none h'] at hj;cases hj
     rw[Lib.bytesWorld_cell w _ _ j (by simpa [ByteArray.size] using hlt)]
     simp[List.getD,hj]
    generalize Lib.bytesWorld w 5 ⟨s.toArray⟩=wb at hcb HB HC
    generalize grownCap w (⟨s.toArray⟩:ByteArray).size 0 5=cp at hcb
    go_enter Tryz.func88,Tryz.ntmps88
    go_wp2_with (first|(go_at_call 117;refine(vK _ _).mono ?_;rintro e w1 ⟨rfl,rfl⟩)|(go_at_call 118;refine(vr _ _).mono ?_;rintro e w1 ⟨rfl,rfl⟩))
    go_loop [4,22] (fun r k=>r=.bool false∧∃ i:Nat,i≤s.length∧k=.int .i64 i∧(∀ (j:Nat) (c:UInt8),j<i→s[j]? = some c→okAt j (c.toNat:Int))) (fun _ k=>s.length - (intOf k).toNat)
    case atStart=>exact⟨rfl,0,by omega,rfl,fun j c h=>by omega⟩
    case round=>
     obtain⟨rfl,i,hi,rfl,hb⟩:=hrel
     have HN:=YV hb
     clear hb
     by_cases hlt:i<s.length
     ·obtain⟨c,hlt',hc1,_⟩:=jt hlt
      have hcell:=HC.out i c hc1
      have HC1:=YV hc1
      clear hc1
      have step:okAt i (c.toNat:Int)→∀ (j:Nat) (d:UInt8),j<i+1→s[j]? = some d→okAt j (d.toNat:Int):=fun ho j d hj hd=>by
       by_cases e:j=i
       ·subst e;rw[HC1.out] at hd;injection hd with hd;rw[← hd];exact ho
       ·exact HN.out j d (by omega) hd
      have HS:=YV step
      clear step
      by_cases hL:isL (c.toNat:Int)=true
      ·have HO:Hid (okAt i (c.toNat:Int)):=.inl hL
       go_wp2_with (first|(go_at_call 117;refine(vK _ _).mono ?_;rintro e w1 ⟨rfl,rfl⟩)|(go_at_call 118;refine(vr _ _).mono ?_;rintro e w1 ⟨rfl,rfl⟩))
       go_round
       case rel=>exact⟨rfl,i+1,by omega,by go_num,HS.out HO.out⟩
       case measure=>simp[intOf];omega
      ·have hL':isL (c.toNat:Int)=false:=by simpa using hL
       by_cases hE:isD (c.toNat:Int)=true
       ·have hp:0<i:=by
         rcases Nat.eq_zero_or_pos i with h | h
         ·subst h;have e1:=HC0.out;rw[HC1.out] at e1;injection e1 with e1;rw[e1,hD'] at hE;cases hE
         ·exact h
        have HO:Hid (okAt i (c.toNat:Int)):=.inr ⟨hp,hE⟩
        clear hL hp
        go_wp2_with (first|(go_at_call 117;refine(vK _ _).mono ?_;rintro e w1 ⟨rfl,rfl⟩)|(go_at_call 118;refine(vr _ _).mono ?_;rintro e w1 ⟨rfl,rfl⟩))
        go_round
        case rel=>exact⟨rfl,i+1,by omega,by go_num,HS.out HO.out⟩
        case measure=>simp[intOf];omega
       ·have HO:Hid (zB s=false):=ug HC1.out (fun ho=>ho.elim hL (fun h=>hE h.2))
        have hE':isD (c.toNat:Int)=false:=by simpa using hE
        clear hL hE
        go_wp2_with (first|(go_at_call 117;refine(vK _ _).mono ?_;rintro e w1 ⟨rfl,rfl⟩)|(go_at_call 118;refine(vr _ _).mono ?_;rintro e w1 ⟨rfl,rfl⟩))
        go_ret
        exact⟨zp HO.out.symm,HB.out⟩
     ·have hall:∀ (j:Nat) (c:UInt8),s[j]? = some c→okAt j (c.toNat:Int):=fun j c hc=>HN.out j c (by
       rcases Nat.lt_or_ge j s.length with h' | h'
       ·omega
       ·rw[List.getElem?_eq_none h'] at hc;cases hc) hc
      have HO:Hid (zB s = !decide (s∈j5)):=by
       by_cases h3:s∈j5
       ·rw[jc (fun hp=>hp.2.2.2 h3)]
        simp[h3,Hid]
       ·rw[uh ⟨hall,h1,h2,h3⟩]
        simp[h3,Hid]
      have HW1:=YV (WMk.later HW.out HB.out)
      clear hall
      go_wp2_with (with_reducible refine yR (o:=⟨some 37,_,_,_,_,_⟩) rfl _ _ rfl b _ rfl HW1.out s rfl (by unfold maxLen;omega) ?_)
      go_ret
      exact⟨zp HO.out.symm,HB.out⟩
  ·have HO:Hid (zB s=false):=jc fun hp=>h2 hp.2.2.1
   go_enter Tryz.func88,Tryz.ntmps88
   go_wp2_with (first|(go_at_call 117;refine(vK _ _).mono ?_;rintro e w1 ⟨rfl,rfl⟩)|(go_at_call 118;refine(vr _ _).mono ?_;rintro e w1 ⟨rfl,rfl⟩))
   go_ret
   exact⟨zp HO.out.symm,Below.refl _ _⟩
 ·have HO:Hid (zB s=false):=jc fun hp=>h1 hp.2.1
  obtain rfl:s=[]:=List.eq_nil_of_length_eq_zero (by omega)
  go_enter Tryz.func88,Tryz.ntmps88
  go_wp2_with fail
  go_ret
  exact⟨zp HO.out.symm,Below.refl _ _⟩
theorem YS (s:T) (w:World) (hl:s.length≤1099511627776):Calls Tryz.prog 151 #[.string ⟨s.toArray⟩] w fun e w'=>e=.returned (.bool (zB s))∧Below w.heap.size w w':=by
 go_enter Tryz.func151,Tryz.ntmps151
 go_wp2_with (first
  |(go_at_call 52;refine(um w).mono ?_;rintro e w1 ⟨b,rfl,hm,hlt,hb⟩;have HM:=YV hm;have HB:=YV hb;clear hm hb)
  |(go_at_call 88;refine(vY b s _ hl HM.out).mono ?_;rintro e w2 ⟨rfl,hb2⟩;have HB2:=YV hb2;clear hb2))
 go_ret
 exact⟨rfl,HB.out.trans (HB2.out.mono HB.out.size)⟩
end Go.Proofs.YtdabndiaflagpaaGreatDoor
namespace Go.Proofs.YtdabndiaflagpaaGreatDoor
open Go.RowKit
theorem KS.kid_at {w w':World} {S:Nat→Prop} {A:Option Addr} {xs:List X} {i:Nat} {x:X} (h:KS w S A xs) (hS:∀ b,S b→b<w.heap.size) (hb:Below w.heap.size w w') (hi:xs[i]? = some x) :
  ∃ b off A' c,A=some ⟨b,off,none⟩∧w'.cell? ⟨b,off+i * 5,none⟩=some (.int .i64 x.k)∧w'.cell? ⟨b,off+i * 5+1,none⟩=some (.int .i64 x.o)∧w'.cell? ⟨b,off+i * 5+2,none⟩=some (.int .i64 x.n)∧w'.cell? ⟨b,off+i * 5+3,none⟩=some (.string ⟨x.s.toArray⟩)∧
   w'.cell? ⟨b,off+i * 5+4,none⟩=some (.slice A' x.ks.length c)∧KS w' S A' x.ks∧b<w.heap.size:=by
 obtain⟨b,off,hA,he⟩:=h.kid hi
 obtain⟨A',c,c0,c1,c2,c3,c4,hk⟩:=(EC.move (S':=S) (fun b h=>⟨h,hb.block b (hS b h)⟩) x b _ he).ev
 exact⟨b,off,A',c,hA,c0,c1,c2,c3,c4,hk,hS b he.block⟩
end Go.Proofs.YtdabndiaflagpaaGreatDoor
namespace Go.Proofs.YtdabndiaflagpaaGreatDoor
open Go.RowKit
structure Vr where
 name:T
 type:Int
deriving DecidableEq
structure Q where
 lhs:List T
 rhs:X
structure Nd where
 name:T
 ins:List Vr
 outs:List Vr
 locals:List Vr
 eqs:List Q
def sm {α:Type} (f:α→α→Bool):List α→List α→Bool
 | [],[]=>true
 | x::xs,y::ys=>f x y && sm f xs ys
 | _,_=>false
section
variable {α:Type} {f:α→α→Bool}
theorem sm_length {xs ys:List α} (h:xs.length≠ys.length):sm f xs ys=false:=by
 induction xs generalizing ys with
 | nil=>cases ys with
  | nil=>simp at h
  | cons y ys=>rfl
 | cons x xs ih=>cases ys with
  | nil=>rfl
  | cons y ys=>simp only[sm,ih (ys:=ys) (by simpa using h),Bool.and_false]
theorem Jk {xs ys:List α} {i:Nat} {x y:α} (hx:xs[i]? = some x) (hy:ys[i]? = some y) (h:f x y=false):sm f xs ys=false:=by
 induction xs generalizing ys i with
 | nil=>simp at hx
 | cons u us ih=>cases ys with
  | nil=>simp at hy
  | cons v vs=>
   cases i with
   | zero=>simp at hx hy;subst hx hy;simp[sm,h]
   | succ i=>simp at hx hy;simp[sm,ih hx hy]
theorem y7 {xs ys:List α} (hl:xs.length=ys.length) (h:∀ (i:Nat) x y,xs[i]? = some x→ys[i]? = some y→f x y=true):sm f xs ys=true:=by
 induction xs generalizing ys with
 | nil=>cases ys with
  | nil=>rfl
  | cons y ys=>simp at hl
 | cons u us ih=>cases ys with
  | nil=>simp at hl
  | cons v vs=>simp only[sm,h 0 u v rfl rfl,Bool.true_and];exact ih (by simpa using hl) fun i x y hx hy=>h (i+1) x y (by simpa using hx) (by simpa using hy)
theorem all_stop {α:Type} {f:α→Bool} {xs:List α} {i:Nat} {x:α} (hx:xs[i]? = some x) (h:f x=false):xs.all f=false:=by
 rw[List.all_eq_false]
 exact⟨x,List.mem_of_getElem? hx,by simp[h]⟩
theorem yO {α:Type} {f:α→Bool} {xs:List α} (h:∀ (i:Nat) x,xs[i]? = some x→f x=true):xs.all f=true:=by
 rw[List.all_eq_true]
 intro x hx
 obtain⟨i,hi⟩:=List.getElem?_of_mem hx
 exact h i x hi
end
def typB (z:Int):Bool:=decide (0≤z∧z≤1)
noncomputable def varB (v:Vr):Bool:=zB v.name && typB v.type
def fewB (n:Nat):Bool:=decide (n≤1000)
noncomputable def jH (l:List Vr):Bool:=l.all varB && fewB l.length
noncomputable def vk (l:List T):Bool:=l.all zB && fewB l.length
def ur (n:Nat):Bool:=decide (0<n)
def y9 (a b:T):Bool:=decide (a=b)
def j9 (a b:Vr):Bool:=decide (a=b)
def qa (a b:Q):Bool:=sm y9 a.lhs b.lhs && a.rhs.same b.rhs
def ub (a b:Nd):Bool:=y9 a.name b.name && sm j9 a.ins b.ins && sm j9 a.outs b.outs && sm j9 a.locals b.locals && sm qa a.eqs b.eqs
def okV (v:Vr):Prop:=v.name.length≤1099511627776
def okVs (l:List Vr):Prop:=l.length≤1099511627776∧∀ v∈l,okV v
def okTs (l:List T):Prop:=l.length≤1099511627776∧∀ t∈l,t.length≤1099511627776
def okQ (q:Q):Prop:=okTs q.lhs∧q.rhs.ok∧q.rhs.size≤1099511627775
def okQs (l:List Q):Prop:=l.length≤1099511627776∧∀ q∈l,okQ q
def okN (n:Nd):Prop:=n.name.length≤1099511627776∧okVs n.ins∧okVs n.outs∧okVs n.locals∧okQs n.eqs
def okNs (l:List Nd):Prop:=l.length≤1099511627776∧∀ n∈l,okN n
theorem j7 {α:Type} {l:List α} {i:Nat} {x:α} (h:l[i]? = some x):x∈l:=List.mem_of_getElem? h
def Rw {α:Type} (C:α→Nat→Nat→Prop) (k:Nat) (A:Option Addr) (xs:List α):Prop:=xs=[]∨∃ b off,A=some ⟨b,off,none⟩∧∀ (i:Nat) x,xs[i]? = some x→C x b (off+i * k)
theorem Rw.at {α:Type} {C:α→Nat→Nat→Prop} {k:Nat} {A:Option Addr} {xs:List α} (h:Rw C k A xs) {i:Nat} {x:α} (hi:xs[i]? = some x):∃ b off,A=some ⟨b,off,none⟩∧C x b (off+i * k):=by
 rcases h with rfl | ⟨b,off,hA,hc⟩
 ·simp at hi
 ·exact⟨b,off,hA,hc i x hi⟩
theorem Rw.imp {α:Type} {C C':α→Nat→Nat→Prop} {k:Nat} {A:Option Addr} {xs:List α} (h:Rw C k A xs) (hc:∀ x b off,C x b off→C' x b off):Rw C' k A xs:=by
 rcases h with h | ⟨b,off,hA,h⟩
 ·exact .inl h
 ·exact .inr ⟨b,off,hA,fun i x hi=>hc x b _ (h i x hi)⟩
def TC (w:World) (S:Nat→Prop) (t:T) (b off:Nat):Prop:=S b∧w.cell? ⟨b,off,none⟩=some (.string ⟨t.toArray⟩)
def VC (w:World) (S:Nat→Prop) (v:Vr) (b off:Nat):Prop:=S b∧w.cell? ⟨b,off,none⟩=some (.string ⟨v.name.toArray⟩)∧w.cell? ⟨b,off+1,none⟩=some (.int .i64 v.type)
def TS (w:World) (S:Nat→Prop):Option Addr→List T→Prop:=Rw (TC w S) 1
def VS (w:World) (S:Nat→Prop):Option Addr→List Vr→Prop:=Rw (VC w S) 2
def QC (w:World) (S:Nat→Prop) (q:Q) (b off:Nat):Prop:=S b∧(∃ A c,w.cell? ⟨b,off,none⟩=some (.slice A q.lhs.length c)∧TS w S A q.lhs∧q.lhs.length≤c)∧EC w S q.rhs b (off+1)
def QS (w:World) (S:Nat→Prop):Option Addr→List Q→Prop:=Rw (QC w S) 6
def NC (w:World) (S:Nat→Prop) (n:Nd) (b off:Nat):Prop:=S b∧w.cell? ⟨b,off,none⟩=some (.string ⟨n.name.toArray⟩)∧(∃ A c,w.cell? ⟨b,off+1,none⟩=some (.slice A n.ins.length c)∧VS w S A n.ins)∧
 (∃ A c,w.cell? ⟨b,off+2,none⟩=some (.slice A n.outs.length c)∧VS w S A n.outs)∧(∃ A c,w.cell? ⟨b,off+3,none⟩=some (.slice A n.locals.length c)∧VS w S A n.locals)∧(∃ A c,w.cell? ⟨b,off+4,none⟩=some (.slice A n.eqs.length c)∧QS w S A n.eqs)
def NS (w:World) (S:Nat→Prop):Option Addr→List Nd→Prop:=Rw (NC w S) 5
section
variable {w w':World} {S S':Nat→Prop}
theorem TS.move {A:Option Addr} {l:List T} (h:TS w S A l) (hm:∀ b,S b→S' b∧w'.heap[b]? = w.heap[b]?):TS w' S' A l:=Rw.imp h fun _ b _ ⟨hb,c0⟩=>⟨(hm b hb).1,(World.cell?_of_block (hm b hb).2).trans c0⟩
theorem VS.move {A:Option Addr} {l:List Vr} (h:VS w S A l) (hm:∀ b,S b→S' b∧w'.heap[b]? = w.heap[b]?):VS w' S' A l:=Rw.imp h fun _ b _ ⟨hb,c0,c1⟩=>⟨(hm b hb).1,(World.cell?_of_block (hm b hb).2).trans c0,(World.cell?_of_block (hm b hb).2).trans c1⟩
theorem QC.move {q:Q} {b off:Nat} (h:QC w S q b off) (hm:∀ b,S b→S' b∧w'.heap[b]? = w.heap[b]?):QC w' S' q b off:=by
 obtain⟨hb,⟨A,c,c0,hl,hc⟩,he⟩:=h
 exact⟨(hm b hb).1,⟨A,c,(World.cell?_of_block (hm b hb).2).trans c0,hl.move hm,hc⟩,EC.move hm _ _ _ he⟩
theorem QS.move {A:Option Addr} {l:List Q} (h:QS w S A l) (hm:∀ b,S b→S' b∧w'.heap[b]? = w.heap[b]?):QS w' S' A l:=Rw.imp h fun _ _ _ hq=>hq.move hm
theorem NC.move {n:Nd} {b off:Nat} (h:NC w S n b off) (hm:∀ b,S b→S' b∧w'.heap[b]? = w.heap[b]?):NC w' S' n b off:=by
 obtain⟨hb,c0,⟨A1,d1,c1,h1⟩,⟨A2,d2,c2,h2⟩,⟨A3,d3,c3,h3⟩,A4,d4,c4,h4⟩:=h
 have hc:∀ i,w'.cell? ⟨b,i,none⟩=w.cell? ⟨b,i,none⟩:=fun i=>World.cell?_of_block (hm b hb).2
 exact⟨(hm b hb).1,(hc _).trans c0,⟨A1,d1,(hc _).trans c1,h1.move hm⟩,⟨A2,d2,(hc _).trans c2,h2.move hm⟩,⟨A3,d3,(hc _).trans c3,h3.move hm⟩,A4,d4,(hc _).trans c4,h4.move hm⟩
theorem NS.move {A:Option Addr} {l:List Nd} (h:NS w S A l) (hm:∀ b,S b→S' b∧w'.heap[b]? = w.heap[b]?):NS w' S' A l:=Rw.imp h fun _ _ _ hq=>hq.move hm
theorem stay (hS:∀ b,S b→b<w.heap.size) (hb:Below w.heap.size w w'):∀ b,S b→S b∧w'.heap[b]? = w.heap[b]?:=fun b h=>⟨h,hb.block b (hS b h)⟩
theorem jI (hS:∀ b,S b→b<w.heap.size) (hb:Below w.heap.size w w'):∀ b,S b→b<w'.heap.size:=fun b h=>Nat.lt_of_lt_of_le (hS b h) hb.size
theorem TS.at' {A:Option Addr} {l:List T} (h:TS w S A l) (hS:∀ b,S b→b<w.heap.size) (hb:Below w.heap.size w w') {i:Nat} {x:T} (hi:l[i]? = some x) :
  ∃ b off,A=some ⟨b,off,none⟩∧w'.cell? ⟨b,off+i,none⟩=some (.string ⟨x.toArray⟩)∧b<w.heap.size:=by
 obtain⟨b,off,hA,hq,c0⟩:=Rw.at (h.move (stay hS hb)) hi
 rw[Nat.mul_one] at c0
 exact⟨b,off,hA,c0,hS b hq⟩
theorem VS.at' {A:Option Addr} {l:List Vr} (h:VS w S A l) (hS:∀ b,S b→b<w.heap.size) (hb:Below w.heap.size w w') {i:Nat} {x:Vr} (hi:l[i]? = some x) :
  ∃ b off,A=some ⟨b,off,none⟩∧w'.cell? ⟨b,off+i * 2,none⟩=some (.string ⟨x.name.toArray⟩)∧w'.cell? ⟨b,off+i * 2+1,none⟩=some (.int .i64 x.type)∧b<w.heap.size:=by
 obtain⟨b,off,hA,hq,c0,c1⟩:=Rw.at (h.move (stay hS hb)) hi
 exact⟨b,off,hA,c0,c1,hS b hq⟩
theorem QS.at' {A:Option Addr} {l:List Q} (h:QS w S A l) (hS:∀ b,S b→b<w.heap.size) (hb:Below w.heap.size w w') {i:Nat} {x:Q} (hi:l[i]? = some x) :
  ∃ b off A1 c1 A2 c2,A=some ⟨b,off,none⟩∧w'.cell? ⟨b,off+i * 6,none⟩=some (.slice A1 x.lhs.length c1)∧w'.cell? ⟨b,off+i * 6+1,none⟩=some (.int .i64 x.rhs.k)∧w'.cell? ⟨b,off+i * 6+2,none⟩=some (.int .i64 x.rhs.o)∧
   w'.cell? ⟨b,off+i * 6+3,none⟩=some (.int .i64 x.rhs.n)∧w'.cell? ⟨b,off+i * 6+4,none⟩=some (.string ⟨x.rhs.s.toArray⟩)∧w'.cell? ⟨b,off+i * 6+5,none⟩=some (.slice A2 x.rhs.ks.length c2)∧TS w' S A1 x.lhs∧KS w' S A2 x.rhs.ks∧b<w.heap.size:=by
 obtain⟨b,off,hA,hq,⟨A1,c1,c0,h1,_⟩,he⟩:=Rw.at (h.move (stay hS hb)) hi
 obtain⟨A2,c2,e0,e1,e2,e3,e4,hk⟩:=he.ev
 exact⟨b,off,A1,c1,A2,c2,hA,c0,e0,e1,e2,e3,e4,h1,hk,hS b hq⟩
theorem NS.at' {A:Option Addr} {l:List Nd} (h:NS w S A l) (hS:∀ b,S b→b<w.heap.size) (hb:Below w.heap.size w w') {i:Nat} {x:Nd} (hi:l[i]? = some x) :
  ∃ b off A1 c1 A2 c2 A3 c3 A4 c4,A=some ⟨b,off,none⟩∧w'.cell? ⟨b,off+i * 5,none⟩=some (.string ⟨x.name.toArray⟩)∧w'.cell? ⟨b,off+i * 5+1,none⟩=some (.slice A1 x.ins.length c1)∧w'.cell? ⟨b,off+i * 5+2,none⟩=some (.slice A2 x.outs.length c2)∧
   w'.cell? ⟨b,off+i * 5+3,none⟩=some (.slice A3 x.locals.length c3)∧w'.cell? ⟨b,off+i * 5+4,none⟩=some (.slice A4 x.eqs.length c4)∧VS w' S A1 x.ins∧VS w' S A2 x.outs∧VS w' S A3 x.locals∧QS w' S A4 x.eqs∧b<w.heap.size:=by
 obtain⟨b,off,hA,hq,c0,⟨A1,d1,c1,h1⟩,⟨A2,d2,c2,h2⟩,⟨A3,d3,c3,h3⟩,A4,d4,c4,h4⟩:=Rw.at (h.move (stay hS hb)) hi
 exact⟨b,off,A1,d1,A2,d2,A3,d3,A4,d4,hA,c0,c1,c2,c3,c4,h1,h2,h3,h4,hS b hq⟩
end
theorem jq {a b:Bool} (h:a=b):Ending.returned (.bool a)=Ending.returned (.bool b):=by rw[h]
end Go.Proofs.YtdabndiaflagpaaGreatDoor
namespace Go.Proofs.YtdabndiaflagpaaGreatDoor.Tame
open Go
def upon (P:Program) (R:Value→World→Prop):Result Next→Prop
 | .ok (.value v) w'=>R v w'
 | .ok .skip w'=>R undef w'
 | .ok (.enter f args) w'=>Calls P f args w' (fun e w''=>∃ v,e=.returned v∧R v w'')
 | _=>False
def Op (P:Program) (o:Oper) (a:Act) (w:World) (R:Value→World→Prop):Prop:=upon P R ((execOp a.eval o).run P w)
theorem Op.wp {P:Program} {o:Oper} {a:Act} {w:World} {R:Value→World→Prop} {K:Act→World→Prop} {Q:Exit→Act→World→Prop}
  (h:Op P o a w R) (hK:∀ v w',R v w'→K (a.put o.dst v) w'):o.wp P a w K Q:=by
 unfold Op at h
 unfold Oper.wp
 generalize (execOp a.eval o).run P w=r at *
 cases r with
 | ok n w'=>
  cases n <;> simp only[upon] at h <;> simp only[Oper.upon]
  case value u=>exact hK _ _ h
  case skip=>exact hK _ _ h
  case enter f args=>exact h.mono fun e w'' ⟨v,he,hr⟩=>by subst he;exact hK _ _ hr
 | halt x w'=>simp only[upon] at h
def dstOf (ops:Array Oper) (k:Nat):Option Tmp:=(ops[k]?).bind (·.dst)
def stF (ops:Array Oper) (a0:Act) (ls:Nat→Bool) (vals:Nat→Value):Nat→Act
 | 0=>a0
 | n+1=>if ls n then (stF ops a0 ls vals n).put (dstOf ops n) (vals n) else stF ops a0 ls vals n
section
variable {P:Program} {ops:Array Oper} {a0:Act}
theorem put_size (a:Act) (d:Option Tmp) (v:Value):(a.put d v).tmps.size=a.tmps.size:=by
 cases d <;> simp[Act.put]
theorem put_slot (a:Act) (d:Tmp) (v:Value):(a.put (some d) v).tmps[d]? = if d<a.tmps.size then some v else none:=by
 simp[Act.put,Array.getElem?_setIfInBounds]
theorem put_other (a:Act) (d:Option Tmp) (v:Value) (e:Tmp) (h:d≠some e):(a.put d v).tmps[e]? = a.tmps[e]?:=by
 cases d with
 | none=>rfl
 | some d=>
  have:d≠e:=fun x=>h (by rw[x])
  simp[Act.put,Array.getElem?_setIfInBounds_ne this]
theorem stF_size (ls:Nat→Bool) (vals:Nat→Value) (n:Nat):(stF ops a0 ls vals n).tmps.size=a0.tmps.size:=by
 induction n with
 | zero=>rfl
 | succ n ih=>unfold stF;split;rw[put_size,ih];exact ih
theorem stF_slot (ls ls':Nat→Bool) (vals vals':Nat→Value) (d:Tmp) (n:Nat) (h:∀ k,k<n→dstOf ops k=some d→ls k=ls' k∧(ls k=true→vals k=vals' k)) :
  (stF ops a0 ls vals n).tmps[d]? = (stF ops a0 ls' vals' n).tmps[d]?:=by
 induction n with
 | zero=>rfl
 | succ n ih=>
  have ih':=ih fun k hk=>h k (by omega)
  unfold stF
  by_cases hd:dstOf ops n=some d
  ·obtain⟨h1,h2⟩:=h n (by omega) hd
   rw[← h1,hd]
   cases hl:ls n with
   | true=>
    rw[h2 hl]
    simp only[if_true]
    rw[put_slot,put_slot,stF_size,stF_size]
   | false=>simpa using ih'
  ·have e1:(if ls n=true then (stF ops a0 ls vals n).put (dstOf ops n) (vals n) else stF ops a0 ls vals n).tmps[d]? = (stF ops a0 ls vals n).tmps[d]?:=by
    split
    ·exact put_other _ _ _ _ hd
    ·rfl
   have e2:(if ls' n=true then (stF ops a0 ls' vals' n).put (dstOf ops n) (vals' n) else stF ops a0 ls' vals' n).tmps[d]? = (stF ops a0 ls' vals' n).tmps[d]?:=by
    split
    ·exact put_other _ _ _ _ hd
    ·rfl
   rw[e1,e2]
   exact ih'
theorem stF_congr (ls ls':Nat→Bool) (vals vals':Nat→Value) (n:Nat) (h:∀ k,k<n→ls k=ls' k∧(ls k=true→vals k=vals' k)) :
  stF ops a0 ls vals n=stF ops a0 ls' vals' n:=by
 induction n with
 | zero=>rfl
 | succ n ih=>
  have ih':=ih fun k hk=>h k (by omega)
  obtain⟨h1,h2⟩:=h n (by omega)
  unfold stF
  rw[← h1]
  cases hl:ls n with
  | true=>rw[h2 hl,ih']
  | false=>simpa using ih'
theorem stF_trunc (vals:Nat→Value) (i n:Nat) (h:i≤n):stF ops a0 (fun k=>decide (k<i)) vals n=stF ops a0 (fun _=>true) vals i:=by
 induction n with
 | zero=>
      have:i=0:=by omega
      subst this;rfl
 | succ n ih=>
  by_cases hi:i≤n
  ·unfold stF
   have:¬ n<i:=by omega
   simp only[this,decide_false,Bool.false_eq_true,if_false]
   rw[ih hi]
   cases i <;> rfl
  ·have:i=n+1:=by omega
   subst this
   exact stF_congr _ _ _ _ _ fun k hk=>⟨by simp[hk],fun _=>rfl⟩
def upd {α:Type} (f:Nat→α) (i:Nat) (x:α):Nat→α:=fun k=>if k=i then x else f k
theorem upd_same {α:Type} (f:Nat→α) (i:Nat) (x:α):upd f i x i=x:=by simp[upd]
theorem upd_other {α:Type} (f:Nat→α) (i:Nat) (x:α) (k:Nat) (h:k≠i):upd f i x k=f k:=by simp[upd,h]
theorem stF_upd (ls:Nat→Bool) (vals:Nat→Value) (i:Nat) (v:Value) (hi:ls i=false) (hd:∀ k,k≠i→∀ d,dstOf ops i=some d→dstOf ops k≠some d) (n:Nat) (hn:i<n) :
  stF ops a0 (upd ls i true) (upd vals i v) n=(stF ops a0 ls vals n).put (dstOf ops i) v:=by
 induction n with
 | zero=>omega
 | succ n ih=>
  by_cases hin:i=n
  ·subst hin
   have e:stF ops a0 (upd ls i true) (upd vals i v) i=stF ops a0 ls vals i:=
    stF_congr _ _ _ _ _ fun k hk=>⟨upd_other _ _ _ _ (by omega),fun _=>upd_other _ _ _ _ (by omega)⟩
   unfold stF
   rw[upd_same,upd_same,e,hi]
   simp
  ·have ih':=ih (by omega)
   unfold stF
   rw[upd_other _ _ _ _ (by omega),upd_other _ _ _ _ (by omega),ih']
   cases ls n with
   | false=>simp
   | true=>
    simp only[if_true]
    exact Act.put_comm _ _ _ fun d hx=>hd n (by omega) d hx
def waits (o:Oper) (k:Nat):Bool:=o.after.any fun e=>Region.binds .any e && e.on == k
def tidy (ops:Array Oper):Bool:=
 (List.range ops.size).all fun i=>match ops[i]? with
  | none=>true
  | some o=>
   (o.after.all fun e=>!Region.binds .any e || decide (e.on<i)) &&
   ((o.looksAt ops).all fun d=>(List.range ops.size).all fun k=>
    dstOf ops k != some d || k == i ||(waits o k) ||(decide (i<k) && ((ops[k]?).map fun o'=>waits o' i).getD false)) &&
   ((List.range ops.size).all fun k=>k == i ||(dstOf ops i).isNone || dstOf ops k != dstOf ops i) &&
   (match o.op with | .select ..=>false | _=>true)
structure Tidy (ops:Array Oper):Prop where
 back:∀ i o,ops[i]? = some o→∀ e∈o.after,Region.binds .any e=true→e.on<i
 looks:∀ i o,ops[i]? = some o→∀ d∈o.looksAt ops,∀ k,dstOf ops k=some d→k=i∨(∃ e∈o.after,Region.binds .any e=true∧e.on=k)∨(i<k∧∃ o',ops[k]? = some o'∧∃ e∈o'.after,Region.binds .any e=true∧e.on=i)
 once:∀ i k d,k≠i→dstOf ops i=some d→dstOf ops k≠some d
 noSel:∀ (i:Nat) (o:Oper) cs b,ops[i]? = some o→o.op≠.select cs b
theorem dst_lt {k:Nat} {d:Tmp} (h:dstOf ops k=some d):k<ops.size:=by
 unfold dstOf at h
 cases ho:ops[k]? with
 | none=>simp[ho] at h
 | some o=>exact(Array.getElem?_eq_some_iff.1 ho).1
theorem waits_iff {o:Oper} {k:Nat}:waits o k=true↔∃ e∈o.after,Region.binds .any e=true∧e.on=k:=by
 unfold waits
 rw[Array.any_eq_true']
 constructor
 ·rintro⟨e,he,h⟩
  simp only[Bool.and_eq_true,beq_iff_eq] at h
  exact⟨e,he,h.1,h.2⟩
 ·rintro⟨e,he,h1,h2⟩
  exact⟨e,he,by simp[h1,h2]⟩
theorem tidy_spec (h:tidy ops=true):Tidy ops:=by
 have key:∀ i o,ops[i]? = some o→_:=fun i o ho=>by
  have hi:i<ops.size:=(Array.getElem?_eq_some_iff.1 ho).1
  have:=List.all_eq_true.1 h i (List.mem_range.2 hi)
  simp only[ho,Bool.and_eq_true] at this
  exact this
 refine⟨fun i o ho e he hb=>?_,fun i o ho d hd k hk=>?_,fun i k d hne hi hk=>?_,fun i o cs b ho hop=>?_⟩
 ·have h1:=(key i o ho).1.1.1
  rw[Array.all_eq_true_iff_forall_mem] at h1
  have:=h1 e he
  simpa [hb] using this
 ·have h2:=(key i o ho).1.1.2
  have h3:=List.all_eq_true.1 (List.all_eq_true.1 h2 d hd) k (List.mem_range.2 (dst_lt hk))
  simp only[hk,bne_self_eq_false,Bool.false_or,Bool.or_eq_true,beq_iff_eq,Bool.and_eq_true,decide_eq_true_eq] at h3
  rcases h3 with (h3 | h3) | h3
  ·exact .inl h3
  ·exact .inr (.inl (waits_iff.1 h3))
  ·refine .inr (.inr ⟨h3.1,?_⟩)
   cases ho':ops[k]? with
   | none=>simp[ho'] at h3
   | some o'=>
    simp only[ho',Option.map_some,Option.getD_some] at h3
    exact⟨o',rfl,waits_iff.1 h3.2⟩
 ·cases ho:ops[i]? with
  | none=>simp[dstOf,ho] at hi
  | some o=>
   have h2:=(key i o ho).1.2
   have h3:=List.all_eq_true.1 h2 k (List.mem_range.2 (dst_lt hk))
   simp[hne,hi,hk] at h3
 ·have h2:=(key i o ho).2
  simp[hop] at h2
def unl (l:Array Bool):Nat→Nat
 | 0=>0
 | n+1=>unl l n+(if l.getD n false then 0 else 1)
theorem unl_zero (l:Array Bool) (n:Nat) (h:unl l n=0):∀ k,k<n→l.getD k false=true:=by
 induction n with
 | zero=>intro k hk;omega
 | succ n ih=>
  intro k hk
  unfold unl at h
  by_cases hkn:k=n
  ·subst hkn
   cases hl:l.getD k false with
   | true=>rfl
   | false=>rw[hl] at h;simp at h
  ·exact ih (by omega) k (by omega)
theorem unl_set (l:Array Bool) (i n:Nat) (hi:i<n) (hs:i<l.size) (h:l.getD i false=false):unl (l.setIfInBounds i true) n+1=unl l n:=by
 have same:∀ m,m≤i→unl (l.setIfInBounds i true) m=unl l m:=by
  intro m
  induction m with
  | zero=>intro _;rfl
  | succ m ih=>
   intro hm
   unfold unl
   rw[ih (by omega),getD_set_ne false (by omega)]
 induction n with
 | zero=>omega
 | succ n ih=>
  unfold unl
  by_cases hin:i=n
  ·subst hin
   rw[same i (Nat.le_refl _),h]
   have:(l.setIfInBounds i true).getD i false=true:=by simp[hs]
   rw[this]
   simp
  ·rw[getD_set_ne false hin]
   have:=ih (by omega)
   omega
theorem unl_all (n:Nat):∀ m,m≤n→unl (Array.replicate n false) m=m:=by
 intro m
 induction m with
 | zero=>intro _;rfl
 | succ m ih=>
  intro hm
  unfold unl
  rw[ih (by omega)]
  have:(Array.replicate n false).getD m false=false:=by simp[Array.getD]
  rw[this]
  simp
theorem exec_agree {o:Oper} {a b:Act} (hs:∀ cs b,o.op≠.select cs b) (h:∀ d∈o.looksAt ops,a.tmps[d]? = b.tmps[d]?):execOp a.eval o=execOp b.eval o:=
 execOp_congr o hs fun x hx=>by
  cases x with
  | tmp d=>
   have hd:d∈o.looksAt ops:=List.mem_append_left _ (List.mem_filterMap.2 ⟨.tmp d,by simpa using hx,rfl⟩)
   show a.tmps.getD d undef=b.tmps.getD d undef
   rw[Array.getD_eq_getD_getElem?,Array.getD_eq_getD_getElem?,h d hd]
  | _=>rfl
theorem wanted_agree {o:Oper} {a b:Act} (h:∀ d∈o.looksAt ops,a.tmps[d]? = b.tmps[d]?):Region.wanted o (yielded ops a.tmps)=Region.wanted o (yielded ops b.tmps):=by
 unfold Region.wanted
 cases hg:o.guard with
 | none=>rfl
 | some gw=>
  obtain⟨g,want⟩:=gw
  have hy:yielded ops a.tmps g=yielded ops b.tmps g:=by
   unfold yielded
   cases ht:(ops[g]?).bind (·.dst) with
   | none=>rfl
   | some t=>
    have:=h t (by simp[Oper.looksAt,hg,ht])
    simp[this]
  simp only[hy]
theorem all_of_ready {listed:Array Bool} (ht:Tidy ops) (h:Region.ready .any ops listed=[]) (hsz:listed.size=ops.size):∀ k,k<ops.size→listed.getD k false=true:=by
 intro k
 induction k using Nat.strongRecOn with
 | _ k ih=>
  intro hk
  cases hl:listed.getD k false with
  | true=>rfl
  | false=>
   exfalso
   have hmem:k∈Region.ready .any ops listed:=by
    rw[mem_ready]
    have ho:ops[k]? = some ops[k]:=Array.getElem?_eq_getElem hk
    refine⟨?_,ops[k],ho,fun e he hb=>?_⟩
    ·have hk':k<listed.size:=by omega
     simpa [Array.getD,hk'] using hl
    ·have hlt:=ht.back k _ ho e he hb
     exact ih e.on hlt (by omega)
   rw[h] at hmem
   cases hmem
section
variable {L:World→World→Prop} {ts:Nat→Value→World→Prop} {W:World} {Q:Exit→Act→World→Prop}
theorem run (ht:Tidy ops) (hLr:∀ w,L w w) (hLt:∀ a b c,L a b→L b c→L a c) (hst:∀ i v w w',L w w'→ts i v w→ts i v w')
  (hob:∀ i o,ops[i]? = some o→∀ (vals:Nat→Value) w,L W w→(∀ e∈o.after,Region.binds .any e=true→ts e.on (vals e.on) w)→
   if Region.wanted o (yielded ops (stF ops a0 (fun _=>true) vals i).tmps)=true then Op P o (stF ops a0 (fun _=>true) vals i) w (fun v w'=>L w w'∧ts i v w') else ts i undef w)
  (hfin:∀ (vals:Nat→Value) w,L W w→(∀ i,i<ops.size→ts i (vals i) w)→Q .normal (stF ops a0 (fun _=>true) vals ops.size) w) :
  ∀ (fuel:Nat) (listed:Array Bool) (vals:Nat→Value) (w:World),listed.size=ops.size→unl listed ops.size≤fuel→
   (∀ k o e,listed.getD k false=true→ops[k]? = some o→e∈o.after→Region.binds .any e=true→listed.getD e.on false=true)→
   L W w→(∀ k,k<ops.size→listed.getD k false=true→ts k (vals k) w)→
   wpAny P .any ops Q fuel listed (stF ops a0 (fun k=>listed.getD k false) vals ops.size) w:=by
 have fin:∀ (listed:Array Bool) (vals:Nat→Value) (w:World),(∀ k,k<ops.size→listed.getD k false=true)→L W w→(∀ k,k<ops.size→listed.getD k false=true→ts k (vals k) w)→
   Q .normal (stF ops a0 (fun k=>listed.getD k false) vals ops.size) w:=by
  intro listed vals w hall hL hts
  rw[stF_congr (fun k=>listed.getD k false) (fun _=>true) vals vals ops.size fun k hk=>⟨hall k hk,fun _=>rfl⟩]
  exact hfin vals w hL fun i hi=>hts i hi (hall i hi)
 intro fuel
 induction fuel with
 | zero=>
  intro listed vals w hsz hun _ hL hts
  have hall:=unl_zero listed ops.size (by omega)
  refine⟨?_,fin listed vals w hall hL hts⟩
  cases hr:Region.ready .any ops listed with
  | nil=>rfl
  | cons j js=>
   exfalso
   have hj:j∈Region.ready .any ops listed:=by rw[hr];exact List.mem_cons_self
   rw[mem_ready] at hj
   obtain⟨h0,o,ho,_⟩:=hj
   have hlt:j<ops.size:=(Array.getElem?_eq_some_iff.1 ho).1
   have h1:=hall j hlt
   have hj':j<listed.size:=by omega
   simp[Array.getD,hj'] at h0 h1
   rw[h0] at h1
   cases h1
 | succ fuel ih=>
  intro listed vals w hsz hun hcl hL hts
  refine⟨fun hr=>fin listed vals w (all_of_ready ht hr hsz) hL hts,fun i hi=>?_⟩
  rw[mem_ready] at hi
  obtain⟨h0,o,ho,haf⟩:=hi
  have hlt:i<ops.size:=(Array.getElem?_eq_some_iff.1 ho).1
  have hil:i<listed.size:=by omega
  have hif:listed.getD i false=false:=by simpa [Array.getD,hil] using h0
  have hagree:∀ d∈o.looksAt ops,(stF ops a0 (fun k=>listed.getD k false) vals ops.size).tmps[d]? = (stF ops a0 (fun _=>true) vals i).tmps[d]?:=by
   intro d hd
   rw[← stF_trunc vals i ops.size (by omega)]
   refine stF_slot _ _ _ _ d _ fun k _ hk=>⟨?_,fun _=>rfl⟩
   rcases ht.looks i o ho d hd k hk with rfl | ⟨e,he,hb,rfl⟩ | ⟨hik,o',ho',e,he,hb,rfl⟩
   ·simpa using hif
   ·have:=ht.back i o ho e he hb
    rw[haf e he hb]
    simp[this]
   ·cases hlk:listed.getD k false with
    | false=>
     have:¬ k<e.on:=by omega
     simp[this]
    | true=>
     have:=hcl k o' e hlk ho' he hb
     rw[hif] at this
     cases this
  have hstep:=hob i o ho vals w hL fun e he hb=>hts e.on (by have:=ht.back i o ho e he hb;omega) (haf e he hb)
  have next:∀ v w',L w w'→ts i v w'→wpAny P .any ops Q fuel (listed.setIfInBounds i true) ((stF ops a0 (fun k=>listed.getD k false) vals ops.size).put o.dst v) w':=by
   intro v w' hLw htv
   have hd:dstOf ops i=o.dst:=by simp[dstOf,ho]
   have e1:(stF ops a0 (fun k=>listed.getD k false) vals ops.size).put o.dst v=stF ops a0 (fun k=>(listed.setIfInBounds i true).getD k false) (upd vals i v) ops.size:=by
    rw[← hd,← stF_upd (fun k=>listed.getD k false) vals i v hif (fun k hk d h1=>ht.once i k d hk h1) ops.size hlt]
    refine stF_congr _ _ _ _ _ fun k _=>⟨?_,fun _=>rfl⟩
    by_cases hki:k=i
    ·subst hki;rw[upd_same];simp[hil]
    ·rw[upd_other _ _ _ _ hki,getD_set_ne false (Ne.symm hki)]
   rw[e1]
   refine ih _ _ _ (by simpa using hsz) (by have:=unl_set listed i ops.size hlt hil hif;omega) (fun k o' e hk ho' he hb=>?_) (hLt _ _ _ hL hLw) (fun k hk hlk=>?_)
   ·by_cases hki:k=i
    ·subst hki
     rw[ho] at ho'
     injection ho' with ho'
     subst ho'
     exact getD_set_true (haf e he hb)
    ·rw[getD_set_ne false (Ne.symm hki)] at hk
     exact getD_set_true (hcl k o' e hk ho' he hb)
   ·by_cases hki:k=i
    ·subst hki;rw[upd_same];exact htv
    ·rw[upd_other _ _ _ _ hki]
     rw[getD_set_ne false (Ne.symm hki)] at hlk
     exact hst _ _ _ _ hLw (hts k hk hlk)
  have hsel:∀ cs b,o.op≠.select cs b:=fun cs b=>ht.noSel i o cs b ho
  have hwe:=wanted_agree (ops:=ops) hagree
  unfold wpOp
  rw[ho]
  show if Region.wanted o (yielded ops (stF ops a0 (fun k=>listed.getD k false) vals ops.size).tmps)=true then _ else _
  by_cases hw:Region.wanted o (yielded ops (stF ops a0 (fun _=>true) vals i).tmps)=true
  ·rw[if_pos hw] at hstep
   rw[if_pos (hwe.trans hw)]
   refine .inl (Op.wp (R:=fun v w'=>L w w'∧ts i v w') ?_ fun v w' ⟨h1,h2⟩=>next v w' h1 h2)
   unfold Op at hstep ⊢
   rw[exec_agree hsel hagree]
   exact hstep
  ·rw[if_neg hw] at hstep
   rw[if_neg (fun h=>hw (hwe.symm.trans h))]
   exact next undef w (hLr w) hstep
theorem region {id:Nat} {w0:World} (hm:P.follows .mixedOrders=true) (htd:tidy ops=true) (hLr:∀ w,L w w) (hLt:∀ a b c,L a b→L b c→L a c) (hst:∀ i v w w',L w w'→ts i v w→ts i v w')
  (hob:∀ i o,ops[i]? = some o→∀ (vals:Nat→Value) w,L w0.drew w→(∀ e∈o.after,Region.binds .any e=true→ts e.on (vals e.on) w)→
   if Region.wanted o (yielded ops (stF ops a0 (fun _=>true) vals i).tmps)=true then Op P o (stF ops a0 (fun _=>true) vals i) w (fun v w'=>L w w'∧ts i v w') else ts i undef w)
  (hfin:∀ (vals:Nat→Value) w,L w0.drew w→(∀ i,i<ops.size→ts i (vals i) w)→Q .normal (stF ops a0 (fun _=>true) vals ops.size) w) :
  (Code.region id ops true).wp P Q a0 w0:=by
 refine wp_region_any hm ?_
 have h0:∀ k,(Array.replicate ops.size false).getD k false=false:=by
  intro k
  simp[Array.getD]
 have h:=run (tidy_spec htd) hLr hLt hst hob hfin ops.size (Array.replicate ops.size false) (fun _=>undef) w0.drew (by simp) (by rw[unl_all ops.size ops.size (Nat.le_refl _)];exact Nat.le_refl _)
  (fun k o e hk=>by rw[h0 k] at hk;cases hk) (hLr _) (fun k _ hk=>by rw[h0 k] at hk;cases hk)
 have e:stF ops a0 (fun k=>(Array.replicate ops.size false).getD k false) (fun _=>undef) ops.size=a0:=by
  rw[stF_congr _ (fun k=>decide (k<0)) _ (fun _=>undef) ops.size fun k _=>⟨by rw[h0 k];simp,fun _=>rfl⟩,stF_trunc _ 0 ops.size (by omega)]
  rfl
 rw[e] at h
 exact h
end
end
abbrev TP:=Value→World→Prop
structure Said where
 t:TP
 u:(Nat→Value)→Value
section
variable {P:Program} {L:World→World→Prop} {W:World} {Q:Exit→Act→World→Prop}
def depF (o:Oper) (ts:List Said) (vals:Nat→Value) (w:World):Prop:=
 ∀ e∈o.after,Region.binds .any e=true→∀ s:Said,ts[e.on]? = some s→s.t (vals e.on) w
def Good (L:World→World→Prop) (i:Nat) (s:Said):Prop:=(∀ v w w',L w w'→s.t v w→s.t v w')∧∀ (vals:Nat→Value) w,s.t (vals i) w→s.u vals=vals i
def walk (P:Program) (ops:Array Oper) (L:World→World→Prop) (W:World) (Q:Exit→Act→World→Prop):List Oper→List Said→((Nat→Value)→Act)→Prop
 | [],ts,fr=>∀ (vals:Nat→Value) w,L W w→(∀ (i:Nat) (s:Said),ts[i]? = some s→s.t (vals i) w)→Q .normal (fr vals) w
 | o::rest,ts,fr=>∃ s,Good L ts.length s∧
   (∀ (vals:Nat→Value) w,L W w→depF o ts vals w→if Region.wanted o (yielded ops (fr vals).tmps)=true then Op P o (fr vals) w (fun v w'=>L w w'∧s.t v w') else s.t undef w)∧
   walk P ops L W Q rest (ts++[s]) (fun vals=>(fr vals).put o.dst (s.u vals))
def frU (ops:Array Oper) (a0:Act) (ts:List Said) (vals:Nat→Value):Nat→Act
 | 0=>a0
 | n+1=>(frU ops a0 ts vals n).put (dstOf ops n) (match ts[n]? with | some s=>s.u vals | none=>vals n)
theorem frU_size (ops:Array Oper) (a0:Act) (ts:List Said) (vals:Nat→Value) (n:Nat):(frU ops a0 ts vals n).tmps.size=a0.tmps.size:=by
 induction n with
 | zero=>rfl
 | succ n ih=>unfold frU;rw[put_size,ih]
theorem frU_more {ops:Array Oper} {a0:Act} {ts ts':List Said} {vals:Nat→Value} (n:Nat) (h:∀ k,k<n→ts[k]? = ts'[k]?):frU ops a0 ts vals n=frU ops a0 ts' vals n:=by
 induction n with
 | zero=>rfl
 | succ n ih=>unfold frU;rw[ih fun k hk=>h k (by omega),h n (by omega)]
theorem frU_slot {ops:Array Oper} {a0:Act} {ts:List Said} {vals:Nat→Value} (d:Tmp) (n:Nat)
  (h:∀ k,k<n→dstOf ops k=some d→∀ s,ts[k]? = some s→s.u vals=vals k):(frU ops a0 ts vals n).tmps[d]? = (stF ops a0 (fun _=>true) vals n).tmps[d]?:=by
 induction n with
 | zero=>rfl
 | succ n ih=>
  have ih':=ih fun k hk=>h k (by omega)
  unfold frU stF
  simp only[if_true]
  by_cases hd:dstOf ops n=some d
  ·rw[hd,put_slot,put_slot,frU_size,stF_size]
   have:=h n (by omega) hd
   cases hs:ts[n]? with
   | none=>rfl
   | some s=>simp only[this s hs]
  ·rw[put_other _ _ _ _ hd,put_other _ _ _ _ hd,ih']
theorem walk_all {ops:Array Oper} {a0:Act}:∀ (rest:List Oper) (ts:List Said) (fr:(Nat→Value)→Act),
  (∀ vals,fr vals=frU ops a0 ts vals ts.length)→(∀ j,rest[j]? = ops[ts.length+j]?)→
  walk P ops L W Q rest ts fr→∃ all:List Said,all.length=ts.length+rest.length∧(∀ k,k<ts.length→all[k]? = ts[k]?)∧
   (∀ (i:Nat) (s:Said),ts.length≤i→all[i]? = some s→Good L i s∧∃ o,ops[i]? = some o∧
    ∀ (vals:Nat→Value) w,L W w→depF o (all.take i) vals w→if Region.wanted o (yielded ops (frU ops a0 all vals i).tmps)=true then Op P o (frU ops a0 all vals i) w (fun v w'=>L w w'∧s.t v w') else s.t undef w)∧
   (∀ (vals:Nat→Value) w,L W w→(∀ (i:Nat) (s:Said),all[i]? = some s→s.t (vals i) w)→Q .normal (frU ops a0 all vals all.length) w):=by
 intro rest
 induction rest with
 | nil=>
  intro ts fr hfr _ hw
  refine⟨ts,by simp,fun _ _=>rfl,fun i s hi hs=>?_,fun vals w hL hts=>?_⟩
  ·rw[List.getElem?_eq_none hi] at hs;cases hs
  ·rw[← hfr];exact hw vals w hL hts
 | cons o rest ih=>
  intro ts fr hfr hops hw
  obtain⟨s,hg,hob,hrest⟩:=hw
  have ho:ops[ts.length]? = some o:=by have:=hops 0;simpa using this.symm
  have hd:dstOf ops ts.length=o.dst:=by simp[dstOf,ho]
  obtain⟨all,h1,h2,h3,h4⟩:=ih (ts++[s]) (fun vals=>(fr vals).put o.dst (s.u vals)) (fun vals=>by
    rw[List.length_append,List.length_singleton]
    unfold frU
    rw[hd]
    have e1:(ts++[s])[ts.length]? = some s:=by simp
    have e2:frU ops a0 (ts++[s]) vals ts.length=frU ops a0 ts vals ts.length:=frU_more _ fun k hk=>List.getElem?_append_left hk
    rw[e1,hfr vals,e2])
   (fun j=>by have:=hops (j+1);rw[List.length_append,List.length_singleton];simpa [Nat.add_assoc,Nat.add_comm 1 j] using this) hrest
  rw[List.length_append,List.length_singleton] at h1 h2 h3
  have hlen:ts.length<all.length:=by rw[h1];omega
  have hk:∀ k,k<ts.length→all[k]? = ts[k]?:=fun k hk=>by rw[h2 k (by omega)];exact List.getElem?_append_left hk
  have hs:all[ts.length]? = some s:=by rw[h2 ts.length (by omega)];simp
  refine⟨all,by rw[h1];simp;omega,hk,fun i s' hi hs'=>?_,h4⟩
  by_cases hit:i=ts.length
  ·subst hit
   rw[hs] at hs'
   injection hs' with hs'
   subst hs'
   refine⟨hg,o,ho,fun vals w hL hdep=>?_⟩
   have e:frU ops a0 all vals ts.length=fr vals:=by rw[hfr vals];exact frU_more _ hk
   rw[e]
   refine hob vals w hL fun e he hb s2 hs2=>hdep e he hb s2 ?_
   have hlt:e.on<ts.length:=by
    rcases Nat.lt_or_ge e.on ts.length with h' | h'
    ·exact h'
    ·rw[List.getElem?_eq_none h'] at hs2;cases hs2
   rw[List.getElem?_take,if_pos hlt,hk _ hlt]
   exact hs2
  ·exact h3 i s' (by omega) hs'
theorem wp_region_tame {ops:List Oper} {id:Nat} {a0:Act} {w0:World} (hm:P.follows .mixedOrders=true) (htd:tidy ops.toArray=true) (hLr:∀ w,L w w) (hLt:∀ a b c,L a b→L b c→L a c)
  (h:walk P ops.toArray L w0.drew Q ops [] (fun _=>a0)):(Code.region id ops.toArray true).wp P Q a0 w0:=by
 obtain⟨all,h1,_,h3,h4⟩:=walk_all (a0:=a0) ops [] (fun _=>a0) (fun _=>rfl) (fun j=>by simp) h
 have htid:=tidy_spec htd
 have hsz:all.length=ops.toArray.size:=by simpa using h1
 have sd:∀ i,i<ops.toArray.size→∃ s,all[i]? = some s:=fun i hi=>⟨all[i]'(by omega),List.getElem?_eq_getElem (by omega)⟩
 refine region (ts:=fun i v w=>∀ s,all[i]? = some s→s.t v w) hm htd hLr hLt (fun i v w w' hl ht s hs=>(h3 i s (by simp) hs).1.1 v w w' hl (ht s hs)) ?_ ?_
 ·intro i o ho vals w hL hdep
  have hi:i<ops.toArray.size:=(Array.getElem?_eq_some_iff.1 ho).1
  obtain⟨s,hs⟩:=sd i hi
  obtain⟨hg,o',ho',hob⟩:=h3 i s (by simp) hs
  rw[ho] at ho'
  injection ho' with ho'
  subst ho'
  have hob:=hob vals w hL fun e he hb s2 hs2=>hdep e he hb s2 (by
   rw[List.getElem?_take] at hs2
   split at hs2
   ·exact hs2
   ·cases hs2)
  have hagree:∀ d∈o.looksAt ops.toArray,(stF ops.toArray a0 (fun _=>true) vals i).tmps[d]? = (frU ops.toArray a0 all vals i).tmps[d]?:=by
   intro d hd
   refine(frU_slot d i fun k hk hdk s2 hs2=>?_).symm
   rcases htid.looks i o ho d hd k hdk with rfl | ⟨e,he,hb,rfl⟩ | ⟨hik,_⟩
   ·omega
   ·exact(h3 e.on s2 (by simp) hs2).1.2 vals w (hdep e he hb s2 hs2)
   ·omega
  have hsel:∀ cs b,o.op≠.select cs b:=fun cs b=>htid.noSel i o cs b ho
  have hwe:=wanted_agree (ops:=ops.toArray) hagree
  by_cases hw:Region.wanted o (yielded ops.toArray (frU ops.toArray a0 all vals i).tmps)=true
  ·rw[if_pos hw] at hob
   rw[if_pos (hwe.trans hw)]
   unfold Op at hob ⊢
   rw[exec_agree hsel hagree]
   have key:∀ r:Result Next,upon P (fun v w'=>L w w'∧s.t v w') r→upon P (fun v w'=>L w w'∧∀ s',all[i]? = some s'→s'.t v w') r:=by
    intro r hr
    have conv:∀ v w',L w w'∧s.t v w'→L w w'∧∀ s',all[i]? = some s'→s'.t v w':=fun v w' hh=>⟨hh.1,fun s' hs'=>by rw[hs] at hs';injection hs' with hs';subst hs';exact hh.2⟩
    cases r with
    | ok n w'=>
     cases n <;> simp only[upon] at hr ⊢
     case value u=>exact conv _ _ hr
     case skip=>exact conv _ _ hr
     case enter f args=>exact hr.mono fun e w'' ⟨v,he,hh⟩=>⟨v,he,conv _ _ hh⟩
    | halt x w'=>simp only[upon] at hr
   exact key _ hob
  ·rw[if_neg hw] at hob
   rw[if_neg (fun h=>hw (hwe.symm.trans h))]
   intro s' hs'
   rw[hs] at hs'
   injection hs' with hs'
   subst hs'
   exact hob
 ·intro vals w hL hts
  have e:stF ops.toArray a0 (fun _=>true) vals ops.toArray.size=frU ops.toArray a0 all vals all.length:=by
   rw[hsz]
   have hu:∀ n,n≤ops.toArray.size→stF ops.toArray a0 (fun _=>true) vals n=frU ops.toArray a0 all vals n:=by
    intro n
    induction n with
    | zero=>intro _;rfl
    | succ n ih=>
     intro hn
     unfold stF frU
     obtain⟨s,hs⟩:=sd n (by omega)
     rw[ih (by omega),hs]
     simp only[if_true]
     rw[(h3 n s (by simp) hs).1.2 vals w (hts n (by omega) s hs)]
   exact hu _ (Nat.le_refl _)
  rw[e]
  exact h4 vals w hL fun i s hs=>hts i (by
   rcases Nat.lt_or_ge i all.length with h' | h'
   ·omega
   ·rw[List.getElem?_eq_none h'] at hs;cases hs) s hs
def Is (L:World→World→Prop) (w:World) (c v:Value) (w':World):Prop:=L w w'∧v=c
theorem Is.mk {w w':World} {c:Value} (h:L w w'):Is L w c c w':=⟨h,rfl⟩
def Has (L:World→World→Prop) (w:World) (t:TP) (v:Value) (w':World):Prop:=L w w'∧t v w'
theorem Has.mk {w w':World} {t:TP} {v:Value} (h:L w w') (k:t v w'):Has L w t v w':=⟨h,k⟩
theorem walk_known {ops:Array Oper} {o:Oper} {rest:List Oper} {ts:List Said} {fr:(Nat→Value)→Act}
  (hw:∀ vals:Nat→Value,Region.wanted o (yielded ops (fr vals).tmps)=true)
  (h:∃ c:Value,(∀ (vals:Nat→Value) w,L W w→depF o ts vals w→Op P o (fr vals) w (Is L w c))∧
   walk P ops L W Q rest (ts++[⟨fun v _=>v=c,fun _=>c⟩]) (fun vals=>(fr vals).put o.dst c)):walk P ops L W Q (o::rest) ts fr:=
 let ⟨c,h,hr⟩:=h
 ⟨⟨fun v _=>v=c,fun _=>c⟩,⟨fun _ _ _ _ hh=>hh,fun _ _ hh=>hh.symm⟩,fun vals w hL hd=>by rw[if_pos (hw vals)];exact h vals w hL hd,hr⟩
theorem walk_off {ops:Array Oper} {o:Oper} {rest:List Oper} {ts:List Said} {fr:(Nat→Value)→Act}
  (hw:∀ vals:Nat→Value,Region.wanted o (yielded ops (fr vals).tmps)=false)
  (hr:walk P ops L W Q rest (ts++[⟨fun v _=>v=undef,fun _=>undef⟩]) (fun vals=>(fr vals).put o.dst undef)):walk P ops L W Q (o::rest) ts fr:=
 ⟨⟨fun v _=>v=undef,fun _=>undef⟩,⟨fun _ _ _ _ hh=>hh,fun _ _ hh=>hh.symm⟩,fun vals w _ _=>by rw[if_neg (by rw[hw vals];decide)],hr⟩
theorem walk_some {ops:Array Oper} {o:Oper} {rest:List Oper} {ts:List Said} {fr:(Nat→Value)→Act} (t:TP)
  (hw:∀ vals:Nat→Value,Region.wanted o (yielded ops (fr vals).tmps)=true)
  (hst:∀ v w w',L w w'→t v w→t v w')
  (h:∀ (vals:Nat→Value) w,L W w→depF o ts vals w→Op P o (fr vals) w (Has L w t))
  (hr:walk P ops L W Q rest (ts++[⟨t,fun vals=>vals ts.length⟩]) (fun vals=>(fr vals).put o.dst (vals ts.length))):walk P ops L W Q (o::rest) ts fr:=
 ⟨⟨t,fun vals=>vals ts.length⟩,⟨hst,fun _ _ _=>rfl⟩,fun vals w hL hd=>by rw[if_pos (hw vals)];exact h vals w hL hd,hr⟩
theorem walk_end {ops:Array Oper} {ts:List Said} {fr:(Nat→Value)→Act} (h:∀ (vals:Nat→Value) w,L W w→(∀ (i:Nat) (s:Said),ts[i]? = some s→s.t (vals i) w)→Q .normal (fr vals) w):walk P ops L W Q [] ts fr:=h
end
def Later (w w':World):Prop:=Go.RowKit.Below w.heap.size w w'
theorem Later.refl (w:World):Later w w:=Go.RowKit.Below.refl _ _
theorem Later.trans (a b c:World) (h:Later a b) (k:Later b c):Later a c:=Go.RowKit.Below.trans h (Go.RowKit.Below.mono k (Go.RowKit.Below.size h))
theorem known {P:Program} {f:FuncId} {args:Array Value} {w:World} {c:Value} (h:Calls P f args w fun e w'=>e=.returned c∧Go.RowKit.Below w.heap.size w w') :
  Calls P f args w fun e w''=>∃ v,e=.returned v∧Is Later w c v w'':=h.mono fun _ _ ⟨he,hb⟩=>⟨_,he,hb,rfl⟩
theorem has {P:Program} {f:FuncId} {args:Array Value} {w:World} {t:TP} (h:Calls P f args w fun e w'=>∃ v,e=.returned v∧t v w'∧Go.RowKit.Below w.heap.size w w') :
  Calls P f args w fun e w''=>∃ v,e=.returned v∧Has Later w t v w'':=h.mono fun _ _ ⟨v,he,ht,hb⟩=>⟨v,he,hb,ht⟩
end Go.Proofs.YtdabndiaflagpaaGreatDoor.Tame
namespace Go.Proofs.YtdabndiaflagpaaGreatDoor.Tame
open Go
section
variable {P:Program} {ops:Array Oper} {a0:Act} {L M:World→World→Prop} {ts:Nat→Value→World→Prop} {W:World} {Q:Exit→Act→World→Prop}
 {pure_ wr:Nat→Bool} {ex:Nat→Option Nat} {bef:Nat→Nat→Prop}
def Down (ops:Array Oper) (ls:Nat→Bool):Prop:=∀ k o e,ls k=true→ops[k]? = some o→e∈o.after→Region.binds .any e=true→ls e.on=true
end
def mask (acc:List Nat) (o:Oper):Nat:=o.after.toList.foldl (fun m e=>if Region.binds .any e then m ||| 2 ^ e.on ||| acc.getD e.on 0 else m) 0
def ancs:List Oper→List Nat→List Nat
 | [],acc=>acc
 | o::rest,acc=>ancs rest (acc++[mask acc o])
theorem mask_bit (acc:List Nat) (l:List Edge) (j:Nat):∀ m:Nat,(l.foldl (fun m e=>if Region.binds .any e then m ||| 2 ^ e.on ||| acc.getD e.on 0 else m) m).testBit j=true→
  m.testBit j=true∨∃ e∈l,Region.binds .any e=true∧(j=e.on∨(acc.getD e.on 0).testBit j=true):=by
 induction l with
 | nil=>intro m h;exact .inl h
 | cons e l ih=>
  intro m h
  rw[List.foldl_cons] at h
  rcases ih _ h with h1 | ⟨e',he',h2⟩
  ·by_cases hb:Region.binds .any e=true
   ·rw[if_pos hb,Nat.testBit_or,Nat.testBit_or,Bool.or_eq_true,Bool.or_eq_true,Nat.testBit_two_pow,decide_eq_true_eq] at h1
    rcases h1 with (h1 | h1) | h1
    ·exact .inl h1
    ·exact .inr ⟨e,List.mem_cons_self,hb,.inl h1.symm⟩
    ·exact .inr ⟨e,List.mem_cons_self,hb,.inr h1⟩
   ·rw[if_neg hb] at h1
    exact .inl h1
  ·exact .inr ⟨e',List.mem_cons_of_mem _ he',h2⟩
structure Masks (ops:Array Oper) (acc:List Nat):Prop where
 down:∀ ls,Down ops ls→∀ i j,(acc.getD i 0).testBit j=true→ls i=true→ls j=true
 less:∀ i j,(acc.getD i 0).testBit j=true→j<i
theorem masks_all {ops:Array Oper} (ht:Tidy ops):∀ (rest:List Oper) (acc:List Nat),(∀ j,rest[j]? = ops[acc.length+j]?)→Masks ops acc→Masks ops (ancs rest acc):=by
 intro rest
 induction rest with
 | nil=>intro acc _ h;exact h
 | cons o rest ih=>
  intro acc hops h
  have ho:ops[acc.length]? = some o:=by have:=hops 0;simpa using this.symm
  refine ih _ (fun j=>by have:=hops (j+1);rw[List.length_append,List.length_singleton];simpa [Nat.add_assoc,Nat.add_comm 1 j] using this) ?_
  have get:∀ i,(acc++[mask acc o]).getD i 0=if i<acc.length then acc.getD i 0 else if i=acc.length then mask acc o else 0:=by
   intro i
   by_cases h1:i<acc.length
   ·rw[if_pos h1];simp[List.getD,List.getElem?_append_left h1]
   ·rw[if_neg h1]
    by_cases h2:i=acc.length
    ·subst h2;simp[List.getD]
    ·rw[if_neg h2]
     have:(acc++[mask acc o])[i]? = none:=List.getElem?_eq_none (by simp;omega)
     simp[List.getD,this]
  refine⟨fun ls hd i j hb hi=>?_,fun i j hb=>?_⟩
  ·rw[get] at hb
   split at hb
   ·exact h.down ls hd i j hb hi
   ·split at hb
    ·rename_i _ h2
     subst h2
     rcases mask_bit acc _ j 0 hb with h0 | ⟨e,he,hbe,h3⟩
     ·simp at h0
     ·have:=hd acc.length o e hi ho (by simpa using he) hbe
      rcases h3 with rfl | h3
      ·exact this
      ·exact h.down ls hd e.on j h3 this
    ·simp at hb
  ·rw[get] at hb
   split at hb
   ·exact h.less i j hb
   ·split at hb
    ·rename_i _ h2
     subst h2
     rcases mask_bit acc _ j 0 hb with h0 | ⟨e,he,hbe,h3⟩
     ·simp at h0
     ·have hlt:=ht.back acc.length o ho e (by simpa using he) hbe
      rcases h3 with rfl | h3
      ·exact hlt
      ·have:=h.less e.on j h3;omega
    ·simp at hb
theorem mask_mono (acc:List Nat) (l:List Edge) (j:Nat):∀ m:Nat,m.testBit j=true→(l.foldl (fun m e=>if Region.binds .any e then m ||| 2 ^ e.on ||| acc.getD e.on 0 else m) m).testBit j=true:=by
 induction l with
 | nil=>intro m h;exact h
 | cons e l ih=>
  intro m h
  rw[List.foldl_cons]
  refine ih _ ?_
  split
  ·rw[Nat.testBit_or,Nat.testBit_or,h];rfl
  ·exact h
theorem mask_has (acc:List Nat) (l:List Edge):∀ (m:Nat) (e:Edge),e∈l→Region.binds .any e=true→(l.foldl (fun m e=>if Region.binds .any e then m ||| 2 ^ e.on ||| acc.getD e.on 0 else m) m).testBit e.on=true:=by
 induction l with
 | nil=>intro m e h;cases h
 | cons x l ih=>
  intro m e he hb
  rw[List.foldl_cons]
  rcases List.mem_cons.1 he with rfl | he
  ·refine mask_mono acc l e.on _ ?_
   rw[if_pos hb,Nat.testBit_or,Nat.testBit_or,Nat.testBit_two_pow]
   simp
  ·exact ih _ e he hb
theorem ancs_keep (rest:List Oper):∀ (acc:List Nat) (i:Nat),i<acc.length→(ancs rest acc).getD i 0=acc.getD i 0:=by
 induction rest with
 | nil=>intro acc i _;rfl
 | cons o rest ih=>
  intro acc i hi
  show (ancs rest (acc++[mask acc o])).getD i 0=_
  rw[ih _ i (by simp;omega)]
  simp[List.getD,List.getElem?_append_left hi]
theorem direct {ops:Array Oper}:∀ (rest:List Oper) (acc:List Nat),(∀ j,rest[j]? = ops[acc.length+j]?)→∀ i o,ops[i]? = some o→∀ e∈o.after,Region.binds .any e=true→acc.length≤i→((ancs rest acc).getD i 0).testBit e.on=true:=by
 intro rest
 induction rest with
 | nil=>
  intro acc hops i o ho e _ _ hi
  have:=hops (i - acc.length)
  rw[show acc.length+(i - acc.length)=i by omega,ho] at this
  cases this
 | cons o1 rest ih=>
  intro acc hops i o ho e he hb hi
  by_cases hia:i=acc.length
  ·subst hia
   have h1:=hops 0
   rw[Nat.add_zero,ho] at h1
   injection h1 with h1
   subst h1
   show ((ancs rest (acc++[mask acc o1])).getD acc.length 0).testBit e.on=true
   rw[ancs_keep rest _ _ (by simp)]
   have:(acc++[mask acc o1]).getD acc.length 0=mask acc o1:=by simp[List.getD]
   rw[this]
   exact mask_has acc _ 0 e (by simpa using he) hb
  ·exact ih (acc++[mask acc o1]) (fun j=>by have:=hops (j+1);rw[List.length_append,List.length_singleton];simpa [Nat.add_assoc,Nat.add_comm 1 j] using this) i o ho e he hb (by simp;omega)
section
variable {P:Program} {L M:World→World→Prop} {W:World} {Q:Exit→Act→World→Prop}
def lasts (A:List Nat) (wr:List Nat) (i:Nat) (ends:Option Nat):Bool:=
 wr.all fun j=>j == i ||(A.getD i 0).testBit j ||(match ends with | none=>false | some x=>x == j ||(A.getD j 0).testBit x)
def still (A:List Nat) (i:Nat) (ends:Option Nat):Bool:=match ends with | none=>true | some x=>x == i ||(A.getD x 0).testBit i
def Leaves (M:World→World→Prop) (w:World) (t:TP) (v:Value) (w':World):Prop:=M w w'∧t v w'
theorem Leaves.mk {M:World→World→Prop} {w w':World} {t:TP} {v:Value} (h:M w w') (k:t v w'):Leaves M w t v w':=⟨h,k⟩
end
end Go.Proofs.YtdabndiaflagpaaGreatDoor.Tame
namespace Go.Proofs.YtdabndiaflagpaaGreatDoor.Tame
open Go
section
variable {P:Program} {ops:Array Oper} {a0:Act} {L:World→World→Prop} {M:Nat→World→World→Prop} {G:Nat→World→Prop} {gk kp:Nat→Nat→Bool} {ts:Nat→(Nat→Value)→World→Prop} {Q:Exit→Act→World→Prop}
 {pure_ wr:Nat→Bool} {ex:Nat→Option Nat} {bef:Nat→Nat→Prop}
theorem run3 (ht:Tidy ops) (hLr:∀ w,L w w) (hMr:∀ i w,M i w w)
  (hsk:∀ i j,pure_ i=false→wr j=true→kp i j=true→∀ vals w w',M j w w'→ts i vals w→ts i vals w')
  (hcg:∀ k (vals vals':Nat→Value) w,(∀ j,j=k∨bef j k→vals j=vals' j)→ts k vals w→ts k vals' w)
  (hgl:∀ g w w',L w w'→G g w→G g w') (hgk:∀ g j,wr j=true→gk g j=true→∀ w w',M j w w'→G g w→G g w')
  (hst:∀ i,pure_ i=false→∀ vals w w',L w w'→ts i vals w→ts i vals w') (hpu:∀ i,pure_ i=true→∀ vals w w',ts i vals w→ts i vals w')
  (hbd:∀ ls,Down ops ls→∀ i j,bef j i→ls i=true→ls j=true) (hbl:∀ i j,bef j i→j<i)
  (hC:∀ k,k<ops.size→pure_ k=false→∀ j,wr j=true→j≠k→kp k j=true∨bef j k∨∃ x,ex k=some x∧(x=j∨bef x j))
  (hob:∀ i o,ops[i]? = some o→∀ (vals:Nat→Value) w,(∀ g,(∀ j,wr j=true→gk g j=true∨j=i∨bef i j)→G g w)→(∀ k,bef k i→(∀ x,ex k=some x→x=i∨bef i x)→ts k vals w)→
   if Region.wanted o (yielded ops (stF ops a0 (fun _=>true) vals i).tmps)=true then Op P o (stF ops a0 (fun _=>true) vals i) w (fun v w'=>(wr i=false→L w w')∧(wr i=true→M i w w')∧ts i (upd vals i v) w') else ts i (upd vals i undef) w)
  (hfin:∀ (vals:Nat→Value) w,(∀ g,(∀ j,j<ops.size→wr j=true→gk g j=true)→G g w)→(∀ i,i<ops.size→ex i=none→ts i vals w)→Q .normal (stF ops a0 (fun _=>true) vals ops.size) w) :
  ∀ (fuel:Nat) (listed:Array Bool) (vals:Nat→Value) (w:World),listed.size=ops.size→unl listed ops.size≤fuel→Down ops (fun k=>listed.getD k false)→
   (∀ g,(∀ j,wr j=true→listed.getD j false=true→gk g j=true)→G g w)→(∀ k,k<ops.size→listed.getD k false=true→(∀ x,ex k=some x→listed.getD x false=false)→ts k vals w)→
   wpAny P .any ops Q fuel listed (stF ops a0 (fun k=>listed.getD k false) vals ops.size) w:=by
 have fin:∀ (listed:Array Bool) (vals:Nat→Value) (w:World),listed.size=ops.size→(∀ k,k<ops.size→listed.getD k false=true)→(∀ g,(∀ j,wr j=true→listed.getD j false=true→gk g j=true)→G g w)→
   (∀ k,k<ops.size→listed.getD k false=true→(∀ x,ex k=some x→listed.getD x false=false)→ts k vals w)→
   Q .normal (stF ops a0 (fun k=>listed.getD k false) vals ops.size) w:=by
  intro listed vals w hsz hall hG hts
  rw[stF_congr (fun k=>listed.getD k false) (fun _=>true) vals vals ops.size fun k hk=>⟨hall k hk,fun _=>rfl⟩]
  refine hfin vals w (fun g h=>hG g fun j hj hl=>?_) fun i hi hx=>hts i hi (hall i hi) fun x h=>by rw[hx] at h;cases h
  rcases Nat.lt_or_ge j ops.size with h' | h'
  ·exact h j h' hj
  ·have:¬ j<listed.size:=by omega
   simp[Array.getD,this] at hl
 intro fuel
 induction fuel with
 | zero=>
  intro listed vals w hsz hun _ hG hts
  have hall:=unl_zero listed ops.size (by omega)
  refine⟨?_,fin listed vals w hsz hall hG hts⟩
  cases hr:Region.ready .any ops listed with
  | nil=>rfl
  | cons j js=>
   exfalso
   have hj:j∈Region.ready .any ops listed:=by rw[hr];exact List.mem_cons_self
   rw[mem_ready] at hj
   obtain⟨h0,o,ho,_⟩:=hj
   have hlt:j<ops.size:=(Array.getElem?_eq_some_iff.1 ho).1
   have h1:=hall j hlt
   have hj':j<listed.size:=by omega
   simp[Array.getD,hj'] at h0 h1
   rw[h0] at h1
   cases h1
 | succ fuel ih=>
  intro listed vals w hsz hun hcl hG hts
  refine⟨fun hr=>fin listed vals w hsz (all_of_ready ht hr hsz) hG hts,fun i hi=>?_⟩
  rw[mem_ready] at hi
  obtain⟨h0,o,ho,haf⟩:=hi
  have hlt:i<ops.size:=(Array.getElem?_eq_some_iff.1 ho).1
  have hil:i<listed.size:=by omega
  have hif:listed.getD i false=false:=by simpa [Array.getD,hil] using h0
  have hset:∀ k,(listed.setIfInBounds i true).getD k false=if k=i then true else listed.getD k false:=by
   intro k
   by_cases hki:k=i
   ·subst hki;simp[hil]
   ·rw[if_neg hki,getD_set_ne false (Ne.symm hki)]
  have hcl':Down ops (fun k=>(listed.setIfInBounds i true).getD k false):=by
   intro k o' e hk ho' he hb
   by_cases hki:k=i
   ·subst hki
    rw[ho] at ho'
    injection ho' with ho'
    subst ho'
    exact getD_set_true (haf e he hb)
   ·have hk':listed.getD k false=true:=by
     have:=hset k
     rw[if_neg hki] at this
     rw[← this];exact hk
    exact getD_set_true (hcl k o' e hk' ho' he hb)
  have hagree:∀ d∈o.looksAt ops,(stF ops a0 (fun k=>listed.getD k false) vals ops.size).tmps[d]? = (stF ops a0 (fun _=>true) vals i).tmps[d]?:=by
   intro d hd
   rw[← stF_trunc vals i ops.size (by omega)]
   refine stF_slot _ _ _ _ d _ fun k _ hk=>⟨?_,fun _=>rfl⟩
   rcases ht.looks i o ho d hd k hk with rfl | ⟨e,he,hb,rfl⟩ | ⟨hik,o',ho',e,he,hb,rfl⟩
   ·simpa using hif
   ·have:=ht.back i o ho e he hb
    rw[haf e he hb]
    simp[this]
   ·cases hlk:listed.getD k false with
    | false=>
     have:¬ k<e.on:=by omega
     simp[this]
    | true=>
     have:=hcl k o' e hlk ho' he hb
     simp only[hif] at this
     cases this
  have hstep:=hob i o ho vals w
   (fun g hw=>hG g fun j hj hlj=>by
    rcases hw j hj with hk | rfl | hb
    ·exact hk
    ·rw[hif] at hlj;cases hlj
    ·have:=hbd _ hcl j i hb hlj;simp only[hif] at this;cases this)
   (fun k hk hx=>by
    have hki:=hbl i k hk
    have h1:(listed.setIfInBounds i true).getD k false=true:=hbd _ hcl' i k hk (by rw[hset];simp)
    rw[hset,if_neg (by omega)] at h1
    refine hts k (by omega) h1 fun x hxe=>?_
    rcases hx x hxe with rfl | hb
    ·exact hif
    ·cases hlj:listed.getD x false with
     | false=>rfl
     | true=>have:=hbd _ hcl x i hb hlj;simp only[hif] at this;cases this)
  have next:∀ v w',(wr i=false→L w w')→(wr i=true→M i w w')→ts i (upd vals i v) w'→wpAny P .any ops Q fuel (listed.setIfInBounds i true) ((stF ops a0 (fun k=>listed.getD k false) vals ops.size).put o.dst v) w':=by
   intro v w' hLw hMw htv
   have hd:dstOf ops i=o.dst:=by simp[dstOf,ho]
   have e1:(stF ops a0 (fun k=>listed.getD k false) vals ops.size).put o.dst v=stF ops a0 (fun k=>(listed.setIfInBounds i true).getD k false) (upd vals i v) ops.size:=by
    rw[← hd,← stF_upd (fun k=>listed.getD k false) vals i v hif (fun k hk d h1=>ht.once i k d hk h1) ops.size hlt]
    refine stF_congr _ _ _ _ _ fun k _=>⟨?_,fun _=>rfl⟩
    by_cases hki:k=i
    ·subst hki;rw[upd_same,hset,if_pos rfl]
    ·rw[upd_other _ _ _ _ hki,hset,if_neg hki]
   rw[e1]
   refine ih _ _ _ (by simpa using hsz) (by have:=unl_set listed i ops.size hlt hil hif;omega) hcl' (fun g hw=>?_) (fun k hk hlk hal=>?_)
   ·have hold:G g w:=hG g fun j hj hlj=>hw j hj (getD_set_true hlj)
    cases hwi:wr i with
    | true=>exact hgk g i hwi (hw i hwi (by rw[hset,if_pos rfl])) _ _ (hMw hwi) hold
    | false=>exact hgl g _ _ (hLw hwi) hold
   ·by_cases hki:k=i
    ·subst hki;exact htv
    ·rw[hset,if_neg hki] at hlk
     have hal0:∀ x,ex k=some x→listed.getD x false=false:=by
      intro x hx
      have:=hal x hx
      rw[hset] at this
      split at this
      ·cases this
      ·exact this
     have hold:ts k (upd vals i v) w:=hcg k vals _ w (fun j hj=>by
      have hji:j≠i:=by
       rintro rfl
       rcases hj with hj | hj
       ·exact hki hj.symm
       ·have:=hbd _ hcl k j hj hlk;simp only[hif] at this;cases this
      exact(upd_other _ _ _ _ hji).symm) (hts k hk hlk hal0)
     cases hp:pure_ k with
     | true=>exact hpu k hp _ _ _ hold
     | false=>
      cases hwi:wr i with
      | false=>exact hst k hp _ _ _ (hLw hwi) hold
      | true=>
       rcases hC k hk hp i hwi (Ne.symm hki) with hkp | hb | ⟨x,hx,hxi | hb⟩
       ·exact hsk k i hp hwi hkp _ _ _ (hMw hwi) hold
       ·exfalso
        have:=hbd _ hcl k i hb hlk
        simp only[hif] at this
        cases this
       ·exfalso
        subst hxi
        have:=hal x hx
        rw[hset,if_pos rfl] at this
        cases this
       ·exfalso
        have h1:(listed.setIfInBounds i true).getD x false=true:=hbd _ hcl' i x hb (by rw[hset];simp)
        rw[hal x hx] at h1
        cases h1
  have hsel:∀ cs b,o.op≠.select cs b:=fun cs b=>ht.noSel i o cs b ho
  have hwe:=wanted_agree (ops:=ops) hagree
  unfold wpOp
  rw[ho]
  show if Region.wanted o (yielded ops (stF ops a0 (fun k=>listed.getD k false) vals ops.size).tmps)=true then _ else _
  by_cases hw:Region.wanted o (yielded ops (stF ops a0 (fun _=>true) vals i).tmps)=true
  ·rw[if_pos hw] at hstep
   rw[if_pos (hwe.trans hw)]
   refine .inl (Op.wp (R:=fun v w'=>(wr i=false→L w w')∧(wr i=true→M i w w')∧ts i (upd vals i v) w') ?_ fun v w' ⟨h1,h2,h3⟩=>next v w' h1 h2 h3)
   unfold Op at hstep ⊢
   rw[exec_agree hsel hagree]
   exact hstep
  ·rw[if_neg hw] at hstep
   rw[if_neg (fun h=>hw (hwe.symm.trans h))]
   exact next undef w (fun _=>hLr w) (fun _=>hMr i w) hstep
end
structure Said3 where
 t:(Nat→Value)→World→Prop
 u:(Nat→Value)→Value
 known:Bool
 ends:Option Nat
 keeps:List Nat
structure Ghost where
 g:World→Prop
 keeps:List Nat
section
variable {P:Program} {L:World→World→Prop} {M:Nat→World→World→Prop} {gs:List Ghost} {Q:Exit→Act→World→Prop}
def Good3 (A:List Nat) (L:World→World→Prop) (M:Nat→World→World→Prop) (wr:List Nat) (i:Nat) (s:Said3):Prop:=
 (s.known=false→∀ vals w w',L w w'→s.t vals w→s.t vals w')∧(s.known=true→∀ vals w w',s.t vals w→s.t vals w')∧
 (∀ (vals:Nat→Value) w,s.t vals w→s.u vals=vals i)∧(s.ends=none∨∀ vals:Nat→Value,s.u vals=vals i)∧
 (s.known=false→∀ j,wr.contains j=true→s.keeps.contains j=true→∀ vals w w',M j w w'→s.t vals w→s.t vals w')∧
 (∀ (vals vals':Nat→Value) w,(∀ j,j=i∨(A.getD i 0).testBit j=true→vals j=vals' j)→s.t vals w→s.t vals' w)
def lasts3 (A:List Nat) (wr:List Nat) (i:Nat) (ends:Option Nat) (keeps:List Nat):Bool:=
 wr.all fun j=>keeps.contains j || j == i ||(A.getD i 0).testBit j ||(match ends with | none=>false | some x=>x == j ||(A.getD j 0).testBit x)
def spared (A:List Nat) (wr:List Nat) (i:Nat) (keeps:List Nat):Bool:=wr.all fun j=>keeps.contains j || j == i ||(A.getD j 0).testBit i
def ghosts (A wr:List Nat) (gs:List Ghost) (i:Nat) (w:World):Prop:=∀ (k:Nat) (g:Ghost),gs[k]? = some g→spared A wr i g.keeps=true→g.g w
def ghostsEnd (wr:List Nat) (gs:List Ghost) (w:World):Prop:=∀ (k:Nat) (g:Ghost),gs[k]? = some g→(wr.all fun j=>g.keeps.contains j)=true→g.g w
def dep3 (A:List Nat) (i:Nat) (ts:List Said3) (vals:Nat→Value) (w:World):Prop:=
 ∀ k s,ts[k]? = some s→(A.getD i 0).testBit k=true→still A i s.ends=true→s.t vals w
def walk3 (P:Program) (ops:Array Oper) (A wr:List Nat) (L:World→World→Prop) (M:Nat→World→World→Prop) (gs:List Ghost) (Q:Exit→Act→World→Prop):List Oper→List Said3→((Nat→Value)→Act)→Prop
 | [],ts,fr=>∀ (vals:Nat→Value) w,ghostsEnd wr gs w→(∀ (i:Nat) (s:Said3),ts[i]? = some s→s.ends=none→s.t vals w)→Q .normal (fr vals) w
 | o::rest,ts,fr=>∃ s,Good3 A L M wr ts.length s∧(s.known=false→lasts3 A wr ts.length s.ends s.keeps=true)∧
   (∀ (vals:Nat→Value) w,ghosts A wr gs ts.length w→dep3 A ts.length ts vals w→
    if Region.wanted o (yielded ops (fr vals).tmps)=true then Op P o (fr vals) w (fun v w'=>(wr.contains ts.length=false→L w w')∧(wr.contains ts.length=true→M ts.length w w')∧s.t (upd vals ts.length v) w') else s.t (upd vals ts.length undef) w)∧
   walk3 P ops A wr L M gs Q rest (ts++[s]) (fun vals=>(fr vals).put o.dst (s.u vals))
def frU3 (ops:Array Oper) (a0:Act) (ts:List Said3) (vals:Nat→Value):Nat→Act
 | 0=>a0
 | n+1=>(frU3 ops a0 ts vals n).put (dstOf ops n) (match ts[n]? with | some s=>s.u vals | none=>vals n)
theorem frU3_size (ops:Array Oper) (a0:Act) (ts:List Said3) (vals:Nat→Value) (n:Nat):(frU3 ops a0 ts vals n).tmps.size=a0.tmps.size:=by
 induction n with
 | zero=>rfl
 | succ n ih=>unfold frU3;rw[put_size,ih]
theorem frU3_more {ops:Array Oper} {a0:Act} {ts ts':List Said3} {vals:Nat→Value} (n:Nat) (h:∀ k,k<n→ts[k]? = ts'[k]?):frU3 ops a0 ts vals n=frU3 ops a0 ts' vals n:=by
 induction n with
 | zero=>rfl
 | succ n ih=>unfold frU3;rw[ih fun k hk=>h k (by omega),h n (by omega)]
theorem frU3_slot {ops:Array Oper} {a0:Act} {ts:List Said3} {vals:Nat→Value} (d:Tmp) (n:Nat)
  (h:∀ k,k<n→dstOf ops k=some d→∀ s,ts[k]? = some s→s.u vals=vals k):(frU3 ops a0 ts vals n).tmps[d]? = (stF ops a0 (fun _=>true) vals n).tmps[d]?:=by
 induction n with
 | zero=>rfl
 | succ n ih=>
  have ih':=ih fun k hk=>h k (by omega)
  unfold frU3 stF
  simp only[if_true]
  by_cases hd:dstOf ops n=some d
  ·rw[hd,put_slot,put_slot,frU3_size,stF_size]
   have:=h n (by omega) hd
   cases hs:ts[n]? with
   | none=>rfl
   | some s=>simp only[this s hs]
  ·rw[put_other _ _ _ _ hd,put_other _ _ _ _ hd,ih']
theorem walk3_all {ops:Array Oper} {A wr:List Nat} {a0:Act}:∀ (rest:List Oper) (ts:List Said3) (fr:(Nat→Value)→Act),
  (∀ vals,fr vals=frU3 ops a0 ts vals ts.length)→(∀ j,rest[j]? = ops[ts.length+j]?)→
  walk3 P ops A wr L M gs Q rest ts fr→∃ all:List Said3,all.length=ts.length+rest.length∧(∀ k,k<ts.length→all[k]? = ts[k]?)∧
   (∀ (i:Nat) (s:Said3),ts.length≤i→all[i]? = some s→Good3 A L M wr i s∧(s.known=false→lasts3 A wr i s.ends s.keeps=true)∧∃ o,ops[i]? = some o∧
    ∀ (vals:Nat→Value) w,ghosts A wr gs i w→dep3 A i (all.take i) vals w→
     if Region.wanted o (yielded ops (frU3 ops a0 all vals i).tmps)=true then Op P o (frU3 ops a0 all vals i) w (fun v w'=>(wr.contains i=false→L w w')∧(wr.contains i=true→M i w w')∧s.t (upd vals i v) w') else s.t (upd vals i undef) w)∧
   (∀ (vals:Nat→Value) w,ghostsEnd wr gs w→(∀ (i:Nat) (s:Said3),all[i]? = some s→s.ends=none→s.t vals w)→Q .normal (frU3 ops a0 all vals all.length) w):=by
 intro rest
 induction rest with
 | nil=>
  intro ts fr hfr _ hw
  refine⟨ts,by simp,fun _ _=>rfl,fun i s hi hs=>?_,fun vals w hG hts=>?_⟩
  ·rw[List.getElem?_eq_none hi] at hs;cases hs
  ·rw[← hfr];exact hw vals w hG hts
 | cons o rest ih=>
  intro ts fr hfr hops hw
  obtain⟨s,hg,hla,hob,hrest⟩:=hw
  have ho:ops[ts.length]? = some o:=by have:=hops 0;simpa using this.symm
  have hd:dstOf ops ts.length=o.dst:=by simp[dstOf,ho]
  obtain⟨all,h1,h2,h3,h4⟩:=ih (ts++[s]) (fun vals=>(fr vals).put o.dst (s.u vals)) (fun vals=>by
    rw[List.length_append,List.length_singleton]
    unfold frU3
    rw[hd]
    have e1:(ts++[s])[ts.length]? = some s:=by simp
    have e2:frU3 ops a0 (ts++[s]) vals ts.length=frU3 ops a0 ts vals ts.length:=frU3_more _ fun k hk=>List.getElem?_append_left hk
    rw[e1,hfr vals,e2])
   (fun j=>by have:=hops (j+1);rw[List.length_append,List.length_singleton];simpa [Nat.add_assoc,Nat.add_comm 1 j] using this) hrest
  rw[List.length_append,List.length_singleton] at h1 h2 h3
  have hlen:ts.length<all.length:=by rw[h1];omega
  have hk:∀ k,k<ts.length→all[k]? = ts[k]?:=fun k hk=>by rw[h2 k (by omega)];exact List.getElem?_append_left hk
  have hs:all[ts.length]? = some s:=by rw[h2 ts.length (by omega)];simp
  refine⟨all,by rw[h1];simp;omega,hk,fun i s' hi hs'=>?_,h4⟩
  by_cases hit:i=ts.length
  ·subst hit
   rw[hs] at hs'
   injection hs' with hs'
   subst hs'
   refine⟨hg,hla,o,ho,fun vals w hG hdep=>?_⟩
   have e:frU3 ops a0 all vals ts.length=fr vals:=by rw[hfr vals];exact frU3_more _ hk
   rw[e]
   refine hob vals w hG fun k s2 hs2 hb hst=>hdep k s2 ?_ hb hst
   have hlt:k<ts.length:=by
    rcases Nat.lt_or_ge k ts.length with h' | h'
    ·exact h'
    ·rw[List.getElem?_eq_none h'] at hs2;cases hs2
   rw[List.getElem?_take,if_pos hlt,hk _ hlt]
   exact hs2
  ·exact h3 i s' (by omega) hs'
theorem wp_region_tamg {ops:List Oper} (wr:List Nat) {id:Nat} {a0:Act} {w0:World} (hm:P.follows .mixedOrders=true) (htd:tidy ops.toArray=true) (hLr:∀ w,L w w) (hMr:∀ i w,M i w w)
  (hgs:∀ (k:Nat) (g:Ghost),gs[k]? = some g→g.g w0.drew∧(∀ w w',L w w'→g.g w→g.g w')∧∀ j,wr.contains j=true→g.keeps.contains j=true→∀ w w',M j w w'→g.g w→g.g w')
  (h:walk3 P ops.toArray (ancs ops []) wr L M gs Q ops [] (fun _=>a0)):(Code.region id ops.toArray true).wp P Q a0 w0:=by
 obtain⟨all,h1,_,h3,h4⟩:=walk3_all (a0:=a0) ops [] (fun _=>a0) (fun _=>rfl) (fun j=>by simp) h
 have htid:=tidy_spec htd
 have hmask:Masks ops.toArray (ancs ops []):=masks_all htid ops [] (fun j=>by simp) ⟨fun ls _ i j hb=>by simp[List.getD] at hb,fun i j hb=>by simp[List.getD] at hb⟩
 have hsz:all.length=ops.toArray.size:=by simpa using h1
 have sd:∀ i,i<ops.toArray.size→∃ s,all[i]? = some s:=fun i hi=>⟨all[i]'(by omega),List.getElem?_eq_getElem (by omega)⟩
 let ts:Nat→(Nat→Value)→World→Prop:=fun i vals w=>∀ s,all[i]? = some s→s.t vals w
 let pu:Nat→Bool:=fun i=>match all[i]? with | some s=>s.known | none=>true
 let ex:Nat→Option Nat:=fun i=>match all[i]? with | some s=>s.ends | none=>none
 let bef:Nat→Nat→Prop:=fun j i=>((ancs ops []).getD i 0).testBit j=true
 let G:Nat→World→Prop:=fun k w=>∀ g,gs[k]? = some g→g.g w
 let gk:Nat→Nat→Bool:=fun k j=>match gs[k]? with | some g=>g.keeps.contains j | none=>true
 let kp:Nat→Nat→Bool:=fun i j=>match all[i]? with | some s=>s.keeps.contains j | none=>true
 have hh0:∀ k,(Array.replicate ops.toArray.size false).getD k false=false:=by
  intro k
  simp[Array.getD]
 refine wp_region_any hm ?_
 have hrun:=run3 (P:=P) (ops:=ops.toArray) (a0:=a0) (L:=L) (M:=M) (G:=G) (gk:=gk) (kp:=kp) (ts:=ts) (Q:=Q) (pure_:=pu) (wr:=fun j=>wr.contains j) (ex:=ex) (bef:=bef) htid hLr hMr
  (fun i j hp hj hk v w w' hm ht s hs=>(h3 i s (by simp) hs).1.2.2.2.2.1 (by simp only[pu,hs] at hp;exact hp) j hj (by simp only[kp,hs] at hk;exact hk) v w w' hm (ht s hs))
  (fun k vals vals' w hj ht s hs=>(h3 k s (by simp) hs).1.2.2.2.2.2 vals vals' w hj (ht s hs))
  (fun k w w' hl hg g hgk=>(hgs k g hgk).2.1 w w' hl (hg g hgk))
  (fun k j hj hk w w' hm hg g hgk=>(hgs k g hgk).2.2 j hj (by simp only[gk,hgk] at hk;exact hk) w w' hm (hg g hgk))
  (fun i hp v w w' hl ht s hs=>(h3 i s (by simp) hs).1.1 (by
                                 have:pu i=s.known:=by simp only[pu,hs]
                                 rw[← this];exact hp) v w w' hl (ht s hs))
  (fun i hp v w w' ht s hs=>((h3 i s (by simp) hs).1.2.1 (by
                                 have:pu i=s.known:=by simp only[pu,hs]
                                 rw[← this];exact hp)) v w w' (ht s hs))
  (fun ls hd i j hb hi=>hmask.down ls hd i j hb hi) (fun i j hb=>hmask.less i j hb)
  (fun k hk hp j hj hjk=>by
   obtain⟨s,hs⟩:=sd k hk
   have e1:pu k=s.known:=by simp only[pu,hs]
   have e2:ex k=s.ends:=by simp only[ex,hs]
   have hla:=(h3 k s (by simp) hs).2.1 (by rw[← e1];exact hp)
   have e3:kp k j=s.keeps.contains j:=by simp only[kp,hs]
   have:=List.all_eq_true.1 hla j (by simpa using hj)
   simp only[Bool.or_eq_true,beq_iff_eq] at this
   rcases this with ((h' | h') | h') | h'
   ·exact .inl (e3.trans h')
   ·exact absurd h' hjk
   ·exact .inr (.inl h')
   ·rw[e2]
    cases hx:s.ends with
    | none=>rw[hx] at h';cases h'
    | some x=>
     rw[hx] at h'
     simp only[Bool.or_eq_true,beq_iff_eq] at h'
     exact .inr (.inr ⟨x,rfl,h'⟩))
  (by
   intro i o ho vals w hG hdep
   have hi:i<ops.toArray.size:=(Array.getElem?_eq_some_iff.1 ho).1
   obtain⟨s,hs⟩:=sd i hi
   obtain⟨hg,_,o',ho',hob⟩:=h3 i s (by simp) hs
   rw[ho] at ho'
   injection ho' with ho'
   subst ho'
   have hdep':∀ k s2,all[k]? = some s2→bef k i→still (ancs ops []) i s2.ends=true→s2.t vals w:=by
    intro k s2 hs2 hb hst
    refine hdep k hb (fun x hx=>?_) s2 hs2
    have e2:ex k=s2.ends:=by simp only[ex,hs2]
    rw[e2] at hx
    unfold still at hst
    rw[hx] at hst
    simpa only[Bool.or_eq_true,beq_iff_eq] using hst
   have hob:=hob vals w (fun k g hgk hsp=>hG k (fun j hj=>by
    have e:gk k j=g.keeps.contains j:=by simp only[gk,hgk]
    have:=List.all_eq_true.1 hsp j (by simpa using hj)
    simp only[Bool.or_eq_true,beq_iff_eq] at this
    rcases this with (h' | h') | h'
    ·exact .inl (e.trans h')
    ·exact .inr (.inl h')
    ·exact .inr (.inr h')) g hgk) fun k s2 hs2 hb hst=>hdep' k s2 (by
    rw[List.getElem?_take] at hs2
    split at hs2
    ·exact hs2
    ·cases hs2) hb hst
   have hagree:∀ d∈o.looksAt ops.toArray,(stF ops.toArray a0 (fun _=>true) vals i).tmps[d]? = (frU3 ops.toArray a0 all vals i).tmps[d]?:=by
    intro d hd
    refine(frU3_slot d i fun k hk hdk s2 hs2=>?_).symm
    have hg2:=(h3 k s2 (by simp) hs2).1
    rcases hg2.2.2.2 with hend | hu
    ·rcases htid.looks i o ho d hd k hdk with rfl | ⟨e,he,hb,rfl⟩ | ⟨hik,_⟩
     ·omega
     ·refine hg2.2.2.1 vals w (hdep' e.on s2 hs2 ?_ (by rw[hend];rfl))
      -- a direct edge is in the mask
      exact direct ops [] (fun j=>by simp) i o ho e he hb (by simp)
     ·omega
    ·exact hu vals
   have hsel:∀ cs b,o.op≠.select cs b:=fun cs b=>htid.noSel i o cs b ho
   have hwe:=wanted_agree (ops:=ops.toArray) hagree
   by_cases hw:Region.wanted o (yielded ops.toArray (frU3 ops.toArray a0 all vals i).tmps)=true
   ·rw[if_pos hw] at hob
    rw[if_pos (hwe.trans hw)]
    unfold Op at hob ⊢
    rw[exec_agree hsel hagree]
    have key:∀ r:Result Next,upon P (fun v w'=>(wr.contains i=false→L w w')∧(wr.contains i=true→M i w w')∧s.t (upd vals i v) w') r→upon P (fun v w'=>(wr.contains i=false→L w w')∧(wr.contains i=true→M i w w')∧ts i (upd vals i v) w') r:=by
     intro r hr
     have conv:∀ v w',((wr.contains i=false→L w w')∧(wr.contains i=true→M i w w')∧s.t (upd vals i v) w')→((wr.contains i=false→L w w')∧(wr.contains i=true→M i w w')∧ts i (upd vals i v) w'):=fun v w' hh=>⟨hh.1,hh.2.1,fun s' hs'=>by rw[hs] at hs';injection hs' with hs';subst hs';exact hh.2.2⟩
     cases r with
     | ok n w'=>
      cases n <;> simp only[upon] at hr ⊢
      case value u=>exact conv _ _ hr
      case skip=>exact conv _ _ hr
      case enter f args=>exact hr.mono fun e w'' ⟨v,he,hh⟩=>⟨v,he,conv _ _ hh⟩
     | halt x w'=>simp only[upon] at hr
    exact key _ hob
   ·rw[if_neg hw] at hob
    rw[if_neg (fun h=>hw (hwe.symm.trans h))]
    intro s' hs'
    rw[hs] at hs'
    injection hs' with hs'
    subst hs'
    exact hob)
  (by
   intro vals w hG hts
   have e:stF ops.toArray a0 (fun _=>true) vals ops.toArray.size=frU3 ops.toArray a0 all vals all.length:=by
    rw[hsz]
    have hu:∀ n,n≤ops.toArray.size→stF ops.toArray a0 (fun _=>true) vals n=frU3 ops.toArray a0 all vals n:=by
     intro n
     induction n with
     | zero=>intro _;rfl
     | succ n ih=>
      intro hn
      unfold stF frU3
      obtain⟨s,hs⟩:=sd n (by omega)
      rw[ih (by omega),hs]
      simp only[if_true]
      have hg2:=(h3 n s (by simp) hs).1
      rcases hg2.2.2.2 with hend | hu
      ·rw[hg2.2.2.1 vals w (hts n (by omega) (by simp only[ex,hs];exact hend) s hs)]
      ·rw[hu vals]
    exact hu _ (Nat.le_refl _)
   rw[e]
   refine h4 vals w (fun k g hgk hsp=>hG k (fun j _ hj=>by
    have e:gk k j=g.keeps.contains j:=by simp only[gk,hgk]
    exact e.trans (List.all_eq_true.1 hsp j (by simpa using hj))) g hgk) fun i s hs hend=>?_
   have hi:i<ops.toArray.size:=by
    rcases Nat.lt_or_ge i all.length with h' | h'
    ·omega
    ·rw[List.getElem?_eq_none h'] at hs;cases hs
   exact hts i hi (by simp only[ex,hs];exact hend) s hs)
  ops.toArray.size (Array.replicate ops.toArray.size false) (fun _=>undef) w0.drew (by simp) (by rw[unl_all ops.toArray.size ops.toArray.size (Nat.le_refl _)];exact Nat.le_refl _)
  (fun k o e hk=>by
            have hk':(Array.replicate ops.toArray.size false).getD k false=true:=hk
            rw[hh0 k] at hk';cases hk') (fun k _ g hgk=>(hgs k g hgk).1) (fun k _ hk=>by rw[hh0 k] at hk;cases hk)
 have e:stF ops.toArray a0 (fun k=>(Array.replicate ops.toArray.size false).getD k false) (fun _=>undef) ops.toArray.size=a0:=by
  rw[stF_congr _ (fun k=>decide (k<0)) _ (fun _=>undef) ops.toArray.size fun k _=>⟨by rw[hh0 k];simp,fun _=>rfl⟩,stF_trunc _ 0 ops.toArray.size (by omega)]
  rfl
 rw[e] at hrun
 exact hrun
theorem walk3_known {ops:Array Oper} {A wr:List Nat} {o:Oper} {rest:List Oper} {ts:List Said3} {fr:(Nat→Value)→Act} (hn:wr.contains ts.length=false)
  (hw:∀ vals:Nat→Value,Region.wanted o (yielded ops (fr vals).tmps)=true)
  (h:∃ c:Value,(∀ (vals:Nat→Value) w,ghosts A wr gs ts.length w→dep3 A ts.length ts vals w→Op P o (fr vals) w (Is L w c))∧
   walk3 P ops A wr L M gs Q rest (ts++[⟨fun vals _=>vals ts.length=c,fun _=>c,true,none,[]⟩]) (fun vals=>(fr vals).put o.dst c)):walk3 P ops A wr L M gs Q (o::rest) ts fr:=
 let ⟨c,h,hr⟩:=h
 ⟨⟨fun vals _=>vals ts.length=c,fun _=>c,true,none,[]⟩,⟨(fun h=>by cases h),fun _ _ _ _ hh=>hh,fun _ _ hh=>hh.symm,.inl rfl,(fun h=>by cases h),fun _ _ _ hc hh=>(hc _ (.inl rfl)).symm.trans hh⟩,(fun h=>by cases h),
  (fun vals w hG hd=>by
   rw[if_pos (hw vals)]
   have:=h vals w hG hd
   have hm:∀ w w',wr.contains ts.length=true→M ts.length w w':=fun w w' hf=>(by rw[hn] at hf;cases hf)
   unfold Op at this ⊢
   generalize (execOp (fr vals).eval o).run P w=r at this
   cases r with
   | ok n w'=>
    cases n <;> simp only[upon] at this ⊢
    case value u=>exact⟨fun _=>this.1,hm _ _,(upd_same _ _ _).trans this.2⟩
    case skip=>exact⟨fun _=>this.1,hm _ _,(upd_same _ _ _).trans this.2⟩
    case enter f args=>exact this.mono fun e w'' ⟨v,he,hh⟩=>⟨v,he,fun _=>hh.1,hm _ _,(upd_same _ _ _).trans hh.2⟩
   | halt x w'=>simp only[upon] at this),hr⟩
theorem walk3_some {ops:Array Oper} {A wr:List Nat} {o:Oper} {rest:List Oper} {ts:List Said3} {fr:(Nat→Value)→Act} (t:TP) (ends:Option Nat) (keeps:List Nat) (hn:wr.contains ts.length=false)
  (hw:∀ vals:Nat→Value,Region.wanted o (yielded ops (fr vals).tmps)=true) (hla:lasts3 A wr ts.length ends keeps=true)
  (hst:∀ v w w',L w w'→t v w→t v w') (hsk:∀ j,wr.contains j=true→keeps.contains j=true→∀ v w w',M j w w'→t v w→t v w')
  (h:∀ (vals:Nat→Value) w,ghosts A wr gs ts.length w→dep3 A ts.length ts vals w→Op P o (fr vals) w (Has L w t))
  (hr:walk3 P ops A wr L M gs Q rest (ts++[⟨fun vals=>t (vals ts.length),fun vals=>vals ts.length,false,ends,keeps⟩]) (fun vals=>(fr vals).put o.dst (vals ts.length))):walk3 P ops A wr L M gs Q (o::rest) ts fr:=
 ⟨⟨fun vals=>t (vals ts.length),fun vals=>vals ts.length,false,ends,keeps⟩,⟨fun _ vals=>hst _,(fun h=>by cases h),fun _ _ _=>rfl,.inr fun _=>rfl,fun _ j h1 h2 vals=>hsk j h1 h2 _,fun vals vals' w hc hh=>by
   have e:=hc ts.length (.inl rfl)
   show t (vals' ts.length) w
   rw[← e];exact hh⟩,fun _=>hla,
  (fun vals w hG hd=>by
   rw[if_pos (hw vals)]
   have:=h vals w hG hd
   have hm:∀ w w',wr.contains ts.length=true→M ts.length w w':=fun w w' hf=>(by rw[hn] at hf;cases hf)
   have hu:∀ v w,t v w→t (upd vals ts.length v ts.length) w:=fun v w ht=>by rw[upd_same];exact ht
   unfold Op at this ⊢
   generalize (execOp (fr vals).eval o).run P w=r at this
   cases r with
   | ok n w'=>
    cases n <;> simp only[upon] at this ⊢
    case value u=>exact⟨fun _=>this.1,hm _ _,hu _ _ this.2⟩
    case skip=>exact⟨fun _=>this.1,hm _ _,hu _ _ this.2⟩
    case enter f args=>exact this.mono fun e w'' ⟨v,he,hh⟩=>⟨v,he,fun _=>hh.1,hm _ _,hu _ _ hh.2⟩
   | halt x w'=>simp only[upon] at this),hr⟩
theorem walk3_write {ops:Array Oper} {A wr:List Nat} {o:Oper} {rest:List Oper} {ts:List Said3} {fr:(Nat→Value)→Act} (t:TP) (ends:Option Nat) (keeps:List Nat)
  (hw:∀ vals:Nat→Value,Region.wanted o (yielded ops (fr vals).tmps)=true) (hla:lasts3 A wr ts.length ends keeps=true) (hin:wr.contains ts.length=true)
  (hst:∀ v w w',L w w'→t v w→t v w') (hsk:∀ j,wr.contains j=true→keeps.contains j=true→∀ v w w',M j w w'→t v w→t v w')
  (h:∀ (vals:Nat→Value) w,ghosts A wr gs ts.length w→dep3 A ts.length ts vals w→Op P o (fr vals) w (Leaves (M ts.length) w t))
  (hr:walk3 P ops A wr L M gs Q rest (ts++[⟨fun vals=>t (vals ts.length),fun vals=>vals ts.length,false,ends,keeps⟩]) (fun vals=>(fr vals).put o.dst (vals ts.length))):walk3 P ops A wr L M gs Q (o::rest) ts fr:=
 ⟨⟨fun vals=>t (vals ts.length),fun vals=>vals ts.length,false,ends,keeps⟩,⟨fun _ vals=>hst _,(fun h=>by cases h),fun _ _ _=>rfl,.inr fun _=>rfl,fun _ j h1 h2 vals=>hsk j h1 h2 _,fun vals vals' w hc hh=>by
   have e:=hc ts.length (.inl rfl)
   show t (vals' ts.length) w
   rw[← e];exact hh⟩,fun _=>hla,
  (fun vals w hG hd=>by
   rw[if_pos (hw vals)]
   have:=h vals w hG hd
   have hn:∀ w w',wr.contains ts.length=false→L w w':=fun w w' hf=>(by rw[hin] at hf;cases hf)
   have hu:∀ v w,t v w→t (upd vals ts.length v ts.length) w:=fun v w ht=>by rw[upd_same];exact ht
   unfold Op at this ⊢
   generalize (execOp (fr vals).eval o).run P w=r at this
   cases r with
   | ok n w'=>
    cases n <;> simp only[upon] at this ⊢
    case value u=>exact⟨hn _ _,fun _=>this.1,hu _ _ this.2⟩
    case skip=>exact⟨hn _ _,fun _=>this.1,hu _ _ this.2⟩
    case enter f args=>exact this.mono fun e w'' ⟨v,he,hh⟩=>⟨v,he,hn _ _,fun _=>hh.1,hu _ _ hh.2⟩
   | halt x w'=>simp only[upon] at this),hr⟩
theorem walk3_lays {ops:Array Oper} {A wr:List Nat} {o:Oper} {rest:List Oper} {ts:List Said3} {fr:(Nat→Value)→Act} (t:(Nat→Value)→World→Prop) (ends:Option Nat) (keeps looks:List Nat)
  (hw:∀ vals:Nat→Value,Region.wanted o (yielded ops (fr vals).tmps)=true) (hla:lasts3 A wr ts.length ends keeps=true) (hin:wr.contains ts.length=true)
  (hlk:(looks.all fun j=>(A.getD ts.length 0).testBit j && j != ts.length)=true) (hcg:∀ (vals vals':Nat→Value) w,(∀ j,looks.contains j=true→vals j=vals' j)→t vals w→t vals' w)
  (hst:∀ vals w w',L w w'→t vals w→t vals w') (hsk:∀ j,wr.contains j=true→keeps.contains j=true→∀ vals w w',M j w w'→t vals w→t vals w')
  (h:∀ (vals:Nat→Value) w,ghosts A wr gs ts.length w→dep3 A ts.length ts vals w→Op P o (fr vals) w (Leaves (M ts.length) w fun _=>t vals))
  (hr:walk3 P ops A wr L M gs Q rest (ts++[⟨t,fun vals=>vals ts.length,false,ends,keeps⟩]) (fun vals=>(fr vals).put o.dst (vals ts.length))):walk3 P ops A wr L M gs Q (o::rest) ts fr:=
 have hl:∀ j,looks.contains j=true→(A.getD ts.length 0).testBit j=true∧j≠ts.length:=fun j hj=>by
  have:=List.all_eq_true.1 hlk j (by simpa using hj)
  simpa using this
 ⟨⟨t,fun vals=>vals ts.length,false,ends,keeps⟩,⟨fun _=>hst,(fun h=>by cases h),fun _ _ _=>rfl,.inr fun _=>rfl,fun _=>hsk,fun vals vals' w hc hh=>hcg vals vals' w (fun j hj=>hc j (.inr (hl j hj).1)) hh⟩,fun _=>hla,
  (fun vals w hG hd=>by
   rw[if_pos (hw vals)]
   have:=h vals w hG hd
   have hn:∀ w w',wr.contains ts.length=false→L w w':=fun w w' hf=>(by rw[hin] at hf;cases hf)
   have hu:∀ v w,t vals w→t (upd vals ts.length v) w:=fun v w ht=>hcg vals _ w (fun j hj=>(upd_other _ _ _ _ (hl j hj).2).symm) ht
   unfold Op at this ⊢
   generalize (execOp (fr vals).eval o).run P w=r at this
   cases r with
   | ok n w'=>
    cases n <;> simp only[upon] at this ⊢
    case value u=>exact⟨hn _ _,fun _=>this.1,hu _ _ this.2⟩
    case skip=>exact⟨hn _ _,fun _=>this.1,hu _ _ this.2⟩
    case enter f args=>exact this.mono fun e w'' ⟨v,he,hh⟩=>⟨v,he,hn _ _,fun _=>hh.1,hu _ _ hh.2⟩
   | halt x w'=>simp only[upon] at this),hr⟩
theorem walk3_end {ops:Array Oper} {A wr:List Nat} {ts:List Said3} {fr:(Nat→Value)→Act} (h:∀ (vals:Nat→Value) w,ghostsEnd wr gs w→(∀ (i:Nat) (s:Said3),ts[i]? = some s→s.ends=none→s.t vals w)→Q .normal (fr vals) w) :
  walk3 P ops A wr L M gs Q [] ts fr:=h
end
end Go.Proofs.YtdabndiaflagpaaGreatDoor.Tame
namespace Go.Proofs.YtdabndiaflagpaaGreatDoor
open Go.RowKit
theorem zK {P:Program} {o:Oper} {a:Act} {w:World} {R:Value→World→Prop} (s x:Operand) (t:TypeId)
  (ho:o.op=.call { callee:=.builtin .append,args:=#[s,x],argTypes:=#[t,t] })
  (B:Nat) (e:TypeId) (i:TypeInfo) (z:Value) (size bytes:Nat) (ht:P.underlying t=some (.slice e)) (hi:P.info? e=some i) (hz:i.zero=some z)
  (hsize:i.size=size) (hby:i.bytes=bytes) (hzs:z.cells.size=size) (hsz:0<size) (h64:bytes≤128)
  (v:Value) (n:Nat) (xs:List Value) (hs:a.eval s=v) (hown:w.ownsRow B e size v n xs) (g c:Nat) (e':TypeId) (news:List Value) (hx:a.eval x=.slice (some ⟨g,0,none⟩) 1 c) (hl:news.length=size) (hr:Row w g e' news.toArray)
  (h1:∀ u∈news,u.oneCell'=true) (hn:n≤1099511627775) (hB:B≤w.heap.size)
  (h:∀ v' w',w'.ownsRow B e size v' (n+1) (xs++news)→w.grownBy w' v.ownBlock→(v'.ownBlock=v.ownBlock∨v'.ownBlock=some w.heap.size)→R v' w'):Tame.Op P o a w R:=by
 have hb2:(n+1) * bytes≤1099511627776 * 128:=Nat.mul_le_mul (by omega) h64
 obtain⟨v',w',hrun,h2,h3,_,h5⟩:=run_append_own_at (P:=P) w B t o.type e i z size bytes ht hi hz hsize hby hzs hsz v n xs hown ⟨g,0,none⟩ 1 c news (by omega) (fun j u hu=>by
   rw[jm,Nat.zero_add,hr.cell j,← hu];simp) h1 (by unfold maxLen;omega) (by omega) hB
 unfold Tame.Op execOp
 simp only[ho,resolve,invoke,builtin,Sem.run_bind,Sem.run_pure,Result.andThen_ok,List.map_toArray,List.map_cons,List.map_nil,hs,hx,hrun]
 exact h v' w' h2 h3 h5
def c5 (x:X) (A:Option Addr) (c:Nat):List Value:=[.int .i64 x.k,.int .i64 x.o,.int .i64 x.n,.string ⟨x.s.toArray⟩,.slice A x.ks.length c]
theorem xy (x:X) (A:Option Addr) (c:Nat):∀ u∈c5 x A c,u.oneCell'=true:=by
 intro u hu
 simp only[c5,List.mem_cons,List.not_mem_nil,or_false] at hu
 rcases hu with rfl | rfl | rfl | rfl | rfl <;> rfl
def CX (w:World) (S:Nat→Prop):List X→List Value→Prop
 | [],cs=>cs=[]
 | x::xs,cs=>∃ A c rest,cs=c5 x A c++rest∧KS w S A x.ks∧CX w S xs rest
section
variable {w w':World} {S S':Nat→Prop}
theorem CX.move {xs:List X}:∀ {cs:List Value},CX w S xs cs→(∀ b,S b→S' b∧w'.heap[b]? = w.heap[b]?)→CX w' S' xs cs:=by
 induction xs with
 | nil=>intro cs h _;exact h
 | cons x xs ih=>
  intro cs h hm
  obtain⟨A,c,rest,hc,hk,hr⟩:=h
  exact⟨A,c,rest,hc,hk.move hm,ih hr hm⟩
theorem CX.snoc {xs:List X} {x:X} {A:Option Addr} {c:Nat} (hk:KS w S A x.ks):∀ {cs:List Value},CX w S xs cs→CX w S (xs++[x]) (cs++c5 x A c):=by
 induction xs with
 | nil=>intro cs h;subst h;exact⟨A,c,[],by simp,hk,rfl⟩
 | cons y ys ih=>
  intro cs h
  obtain⟨A',c',rest,hc,hk',hr⟩:=h
  exact⟨A',c',rest++c5 x A c,by rw[hc,List.append_assoc],hk',ih hr⟩
theorem CX.ecs {g:Nat} (hg:S' g) (hS:∀ b,S b→S' b) {xs:List X}:∀ {cs:List Value} {off:Nat},CX w S xs cs→(∀ (j:Nat) u,cs[j]? = some u→w.cell? ⟨g,off+j,none⟩=some u)→ECs w S' xs g off:=by
 induction xs with
 | nil=>intro cs off _ _;unfold ECs;trivial
 | cons x xs ih=>
  intro cs off h hc
  obtain⟨A,c,rest,rfl,hk,hr⟩:=h
  unfold ECs
  refine⟨EC.mk' (c:=c) hg ?_ ?_ ?_ ?_ ?_ (hk.move fun b hb=>⟨hS b hb,rfl⟩),ih hr fun j u hu=>?_⟩
  ·simpa using hc 0 _ rfl
  ·exact hc 1 _ rfl
  ·exact hc 2 _ rfl
  ·exact hc 3 _ rfl
  ·exact hc 4 _ rfl
  ·rw[show off+5+j=off+(5+j) by omega]
   refine hc (5+j) u ?_
   rw[List.getElem?_append_right (by simp[c5])]
   simpa [c5] using hu
end
def OwnX (w:World) (B:Nat) (S:Nat→Prop) (v:Value) (xs:List X):Prop:=∃ cs,w.ownsRow B 46 5 v xs.length cs∧CX w S xs cs
theorem OwnX.nil (w:World) (B:Nat) (S:Nat→Prop):OwnX w B S (.slice none 0 0) []:=⟨[],World.ownsRow_nil w B 46 5,rfl⟩
theorem OwnX.form {w:World} {B:Nat} {S S':Nat→Prop} {v:Value} {xs:List X} (h:OwnX w B S v xs) (hS:∀ b,S b→S' b) (hg:∀ k,v.ownBlock=some k→S' k):∃ A c,v=.slice A xs.length c∧KS w S' A xs:=by
 obtain⟨cs,ho,hx⟩:=h
 rcases ho.2 with ⟨rfl,hz⟩ | ⟨g,cap,cur,rfl,hb,hgg,hnc,hcm,hcs,htake⟩
 ·exact⟨none,0,by rw[hz],.inl (List.eq_nil_of_length_eq_zero hz)⟩
 ·refine⟨_,_,rfl,.inr ⟨g,0,rfl,CX.ecs (hg g rfl) hS hx fun j u hu=>?_⟩⟩
  have hj:j<xs.length * 5:=by
   have:=ho.1
   rcases Nat.lt_or_ge j cs.length with h' | h'
   ·omega
   ·rw[List.getElem?_eq_none h'] at hu;cases hu
  rw[Nat.zero_add,World.ownsRow.cellAt ho j hj,hu]
end Go.Proofs.YtdabndiaflagpaaGreatDoor
