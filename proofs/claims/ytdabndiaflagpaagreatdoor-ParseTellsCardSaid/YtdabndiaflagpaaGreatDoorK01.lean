/- Parts: Own, OwnG, Bk. -/
import Derived.Test.YtdabndiaflagpaaGreatDoorK00
set_option maxRecDepth 100000
set_option maxHeartbeats 4000000
namespace Go.Proofs.YtdabndiaflagpaaGreatDoor
open Go.RowKit
attribute [local go_sem] Tame.Op Tame.upon
theorem uJ:(Tryz.prog.info? 46).map (fun i=>(i.zero,i.size,i.bytes))=some (some (.agg #[.int .i64 0,.int .i64 0,.int .i64 0,.string ⟨#[]⟩,.slice none 0 0]),5,64):=by kernel_rfl
theorem zZ {a j:Nat} (h:[a].contains j=true):j=a:=by simpa using h
def Sb (B:Nat) (r:Option Nat) (w:World):Nat→Prop:=fun b=>B≤b∧b<w.heap.size∧some b≠r
theorem zV {B:Nat} {r:Option Nat} {w w':World} (h:Tame.Later w w') (b:Nat) (hb:Sb B r w b):Sb B r w' b∧w'.heap[b]? = w.heap[b]?:=
 ⟨⟨hb.1,Nat.lt_of_lt_of_le hb.2.1 (Below.size h),hb.2.2⟩,Below.block h b hb.2.1⟩
end Go.Proofs.YtdabndiaflagpaaGreatDoor
namespace Go.Proofs.YtdabndiaflagpaaGreatDoor
open Go.RowKit
abbrev Of (α:Type):=World→(Nat→Prop)→α→List Value→Prop
structure jB {α:Type} (R:Of α) (k:Nat):Prop where
 move:∀ {w w':World} {S S':Nat→Prop} {x:α} {cs:List Value},R w S x cs→(∀ b,S b→S' b∧w'.heap[b]? = w.heap[b]?)→R w' S' x cs
 len:∀ {w:World} {S:Nat→Prop} {x:α} {cs:List Value},R w S x cs→cs.length=k
 one:∀ {w:World} {S:Nat→Prop} {x:α} {cs:List Value},R w S x cs→∀ u∈cs,u.oneCell'=true
def CG {α:Type} (R:Of α) (w:World) (S:Nat→Prop):List α→List Value→Prop
 | [],cs=>cs=[]
 | x::xs,cs=>∃ c rest,cs=c++rest∧R w S x c∧CG R w S xs rest
section
variable {α:Type} {R:Of α} {k:Nat} {w w':World} {S S':Nat→Prop}
theorem CG.move (hl:jB R k) {xs:List α}:∀ {cs:List Value},CG R w S xs cs→(∀ b,S b→S' b∧w'.heap[b]? = w.heap[b]?)→CG R w' S' xs cs:=by
 induction xs with
 | nil=>intro cs h _;exact h
 | cons x xs ih=>
  intro cs h hm
  obtain⟨c,rest,hc,hk,hr⟩:=h
  exact⟨c,rest,hc,hl.move hk hm,ih hr hm⟩
theorem CG.snoc {xs:List α} {x:α} {c:List Value} (hk:R w S x c):∀ {cs:List Value},CG R w S xs cs→CG R w S (xs++[x]) (cs++c):=by
 induction xs with
 | nil=>intro cs h;subst h;exact⟨c,[],by simp,hk,rfl⟩
 | cons y ys ih=>
  intro cs h
  obtain⟨c',rest,hc,hk',hr⟩:=h
  exact⟨c',rest++c,by rw[hc,List.append_assoc],hk',ih hr⟩
theorem CG.at (hl:jB R k) {xs:List α} {i:Nat} {x:α}:∀ {cs:List Value},CG R w S xs cs→xs[i]? = some x→∃ c,R w S x c∧∀ (j:Nat) u,c[j]? = some u→cs[i * k+j]? = some u:=by
 induction xs generalizing i with
 | nil=>intro cs _ hi;simp at hi
 | cons y ys ih=>
  intro cs h hi
  obtain⟨c',rest,rfl,hk',hr⟩:=h
  have hlen:=hl.len hk'
  cases i with
  | zero=>
   simp at hi;subst hi
   exact⟨c',hk',fun j u hu=>by
    have hj:j<c'.length:=by
     rcases Nat.lt_or_ge j c'.length with h' | h'
     ·exact h'
     ·rw[List.getElem?_eq_none h'] at hu;cases hu
    rw[Nat.zero_mul,Nat.zero_add,List.getElem?_append_left hj];exact hu⟩
  | succ i=>
   simp at hi
   obtain⟨c,hc,hat⟩:=ih hr hi
   exact⟨c,hc,fun j u hu=>by
    rw[show (i+1) * k+j=c'.length+(i * k+j) by rw[hlen,Nat.add_mul];omega,List.getElem?_append_right (by omega),Nat.add_sub_cancel_left]
    exact hat j u hu⟩
end
def OwnG {α:Type} (R:Of α) (e:TypeId) (k:Nat) (w:World) (B:Nat) (S:Nat→Prop) (v:Value) (xs:List α):Prop:=∃ cs,w.ownsRow B e k v xs.length cs∧CG R w S xs cs
section
variable {α:Type} {R:Of α} {e:TypeId} {k:Nat} {w w':World} {B:Nat} {v:Value} {xs:List α}
theorem OwnG.nil (R:Of α) (e:TypeId) (k:Nat) (w:World) (B:Nat) (S:Nat→Prop):OwnG R e k w B S (.slice none 0 0) []:=⟨[],World.ownsRow_nil w B e k,rfl⟩
theorem OwnG.lt {S:Nat→Prop} (h:OwnG R e k w B S v xs):∀ q,v.ownBlock=some q→B≤q∧q<w.heap.size:=by obtain⟨cs,ho,_⟩:=h;exact World.ownsRow.lt ho
theorem OwnG.form (hl:jB R k) {S S':Nat→Prop} (h:OwnG R e k w B S v xs) (hS:∀ b,S b→S' b) (hg:∀ q cs,v.ownBlock=some q→Row w q e cs→S' q) :
  ∃ A c,v=.slice A xs.length c∧Rw (fun x b off=>S' b∧∃ cs,R w S' x cs∧∀ (j:Nat) u,cs[j]? = some u→w.cell? ⟨b,off+j,none⟩=some u) k A xs:=by
 obtain⟨cs,ho,hx⟩:=h
 rcases ho.2 with ⟨rfl,hz⟩ | ⟨g,cap,cur,rfl,hb,hgg,hnc,hcm,hcs,htake⟩
 ·exact⟨none,0,by rw[hz],.inl (List.eq_nil_of_length_eq_zero hz)⟩
 ·refine⟨_,_,rfl,.inr ⟨g,0,rfl,fun i x hi=>⟨hg g cur rfl hgg,?_⟩⟩⟩
  obtain⟨c,hc,hat⟩:=hx.at hl hi
  refine⟨c,hl.move hc fun b hb=>⟨hS b hb,rfl⟩,fun j u hu=>?_⟩
  have h1:=hat j u hu
  have hlt:i * k+j<cs.length:=by
   rcases Nat.lt_or_ge (i * k+j) cs.length with h' | h'
   ·exact h'
   ·rw[List.getElem?_eq_none h'] at h1;cases h1
  rw[Nat.zero_add,World.ownsRow.cellAt ho (i * k+j) (by have:=ho.1;omega),h1]
theorem OwnG.later (hl:jB R k) (h:OwnG R e k w B (Sb B v.ownBlock w) v xs) (hb:Tame.Later w w'):OwnG R e k w' B (Sb B v.ownBlock w') v xs:=by
 obtain⟨cs,ho,hx⟩:=h
 refine⟨cs,⟨ho.1,?_⟩,hx.move hl fun b hb'=>zV hb b hb'⟩
 rcases ho.2 with hn | ⟨g,cap,cur,rfl,hbg,hg,rest⟩
 ·exact .inl hn
 ·exact .inr ⟨g,cap,cur,rfl,hbg,(Below.block hb g (Array.getElem?_eq_some_iff.1 hg).1).trans hg,rest⟩
theorem OwnG.far (hl:jB R k) {p:Nat} (h:OwnG R e k w B (Sb B v.ownBlock w) v xs) (hp:p<B) (hs:w.grownBy w' (some p)):OwnG R e k w' B (Sb B v.ownBlock w') v xs:=by
 obtain⟨cs,ho,hx⟩:=h
 have hlt:=World.ownsRow.lt ho
 refine⟨cs,ho.kept hs ?_,hx.move hl fun b hb=>⟨⟨hb.1,Nat.lt_of_lt_of_le hb.2.1 hs.size,hb.2.2⟩,hs.block b hb.2.1 (by intro e;injection e with e;have:=hb.1;omega)⟩⟩
 cases hv:v.ownBlock with
 | none=>exact .inl rfl
 | some q=>exact .inr (by intro e;injection e with e;have:=(hlt q hv).1;omega)
theorem OwnG.step (hl:jB R k) {v':Value} {j:Nat} {y:α} {cs c:List Value} (hy:xs[j]? = some y) (hx:CG R w (Sb B v.ownBlock w) (xs.take j) cs)
  (ho':w'.ownsRow B e k v' ((xs.take j).length+1) (cs++c)) (hgr:w.grownBy w' v.ownBlock) (hat:v'.ownBlock=v.ownBlock∨v'.ownBlock=some w.heap.size) (hk:R w (Sb B v.ownBlock w) y c) :
  OwnG R e k w' B (Sb B v'.ownBlock w') v' (xs.take (j+1)):=by
 have hm:∀ b,Sb B v.ownBlock w b→Sb B v'.ownBlock w' b∧w'.heap[b]? = w.heap[b]?:=fun b hb=>⟨⟨hb.1,Nat.lt_of_lt_of_le hb.2.1 hgr.size,by
  rcases hat with h | h
  ·rw[h];exact hb.2.2
  ·rw[h];intro e;injection e with e;have:=hb.2.1;omega⟩,hgr.block b hb.2.1 hb.2.2⟩
 refine⟨cs++c,?_,?_⟩
 ·rw[jG hy,List.length_append];exact ho'
 ·rw[jG hy];exact CG.snoc (hl.move hk hm) (hx.move hl hm)
end
def RV:Of Vr:=fun _ _ v cs=>cs=[.string ⟨v.name.toArray⟩,.int .i64 v.type]
def RQ:Of Q:=fun w S q cs=>∃ A c A2 c2,cs=.slice A q.lhs.length c::c5 q.rhs A2 c2∧TS w S A q.lhs∧KS w S A2 q.rhs.ks∧q.lhs.length≤c
def RN:Of Nd:=fun w S n cs=>∃ A1 c1 A2 c2 A3 c3 A4 c4,cs=[.string ⟨n.name.toArray⟩,.slice A1 n.ins.length c1,.slice A2 n.outs.length c2,.slice A3 n.locals.length c3,.slice A4 n.eqs.length c4]∧VS w S A1 n.ins∧VS w S A2 n.outs∧VS w S A3 n.locals∧QS w S A4 n.eqs
theorem zN:jB RV 2:=⟨fun h _=>h,fun h=>by rw[show _=_ from h];rfl,fun h u hu=>by
 rw[show _=_ from h] at hu
 simp only[List.mem_cons,List.not_mem_nil,or_false] at hu
 rcases hu with rfl | rfl <;> rfl⟩
theorem zH:jB RQ 6:=⟨fun ⟨A,c,A2,c2,h,h1,h2,h3⟩ hm=>⟨A,c,A2,c2,h,h1.move hm,h2.move hm,h3⟩,fun ⟨A,c,A2,c2,h,_⟩=>by rw[h];rfl,fun ⟨A,c,A2,c2,h,_⟩ u hu=>by
 rw[h] at hu
 rcases List.mem_cons.1 hu with rfl | hu
 ·rfl
 ·exact xy _ _ _ u hu⟩
theorem jg:jB RN 5:=⟨fun ⟨A1,c1,A2,c2,A3,c3,A4,c4,h,h1,h2,h3,h4⟩ hm=>⟨A1,c1,A2,c2,A3,c3,A4,c4,h,h1.move hm,h2.move hm,h3.move hm,h4.move hm⟩,fun ⟨A1,c1,A2,c2,A3,c3,A4,c4,h,_⟩=>by rw[h];rfl,fun ⟨A1,c1,A2,c2,A3,c3,A4,c4,h,_⟩ u hu=>by
 rw[h] at hu
 simp only[List.mem_cons,List.not_mem_nil,or_false] at hu
 rcases hu with rfl | rfl | rfl | rfl | rfl <;> rfl⟩
theorem ZJ {w:World} {S:Nat→Prop} {A:Option Addr} {xs:List Vr} (h:Rw (fun x b off=>S b∧∃ cs,RV w S x cs∧∀ (j:Nat) u,cs[j]? = some u→w.cell? ⟨b,off+j,none⟩=some u) 2 A xs):VS w S A xs:=
 Rw.imp h fun x b off ⟨hb,cs,hc,hat⟩=>by
  have hc:cs=_:=hc
  subst hc
  exact⟨hb,hat 0 _ rfl,hat 1 _ rfl⟩
theorem rq_qs {w:World} {S:Nat→Prop} {A:Option Addr} {xs:List Q} (h:Rw (fun x b off=>S b∧∃ cs,RQ w S x cs∧∀ (j:Nat) u,cs[j]? = some u→w.cell? ⟨b,off+j,none⟩=some u) 6 A xs):QS w S A xs:=
 Rw.imp h fun x b off ⟨hb,cs,⟨A1,c1,A2,c2,hc,h1,h2,h3⟩,hat⟩=>by
  subst hc
  exact⟨hb,⟨A1,c1,hat 0 _ rfl,h1,h3⟩,EC.mk' hb (hat 1 _ rfl) (hat 2 _ rfl) (hat 3 _ rfl) (hat 4 _ rfl) (hat 5 _ rfl) h2⟩
theorem ZM {w:World} {S:Nat→Prop} {A:Option Addr} {xs:List Nd} (h:Rw (fun x b off=>S b∧∃ cs,RN w S x cs∧∀ (j:Nat) u,cs[j]? = some u→w.cell? ⟨b,off+j,none⟩=some u) 5 A xs):NS w S A xs:=
 Rw.imp h fun x b off ⟨hb,cs,⟨A1,c1,A2,c2,A3,c3,A4,c4,hc,h1,h2,h3,h4⟩,hat⟩=>by
  subst hc
  exact⟨hb,hat 0 _ rfl,⟨A1,c1,hat 1 _ rfl,h1⟩,⟨A2,c2,hat 2 _ rfl,h2⟩,⟨A3,c3,hat 3 _ rfl,h3⟩,A4,c4,hat 4 _ rfl,h4⟩
def Sty (e:TypeId) (B:Nat) (w:World):Nat→Prop:=fun b=>B≤b∧b<w.heap.size∧∃ cs,Row w b e cs
theorem Sty.later {e:TypeId} {B:Nat} {w w':World} (hb:Tame.Later w w') {b:Nat} (h:Sty e B w b):Sty e B w' b∧w'.heap[b]? = w.heap[b]?:=
 ⟨⟨h.1,Nat.lt_of_lt_of_le h.2.1 (Below.size hb),by obtain⟨cs,hr⟩:=h.2.2;exact⟨cs,Row.below hr hb h.2.1⟩⟩,Below.block hb b h.2.1⟩
end Go.Proofs.YtdabndiaflagpaaGreatDoor
namespace Go.Proofs.YtdabndiaflagpaaGreatDoor.bk
open Go.RowKit Go.Proofs.YtdabndiaflagpaaGreatDoor
attribute [local go_sem] Tame.Op Tame.upon
def OwnX (w:World) (B:Nat) (S:Nat→Prop) (v:Value) (xs:List X):Prop:=∃ cs,w.ownsRow B 52 5 v xs.length cs∧CX w S xs cs
theorem OwnX.nil (w:World) (B:Nat) (S:Nat→Prop):OwnX w B S (.slice none 0 0) []:=⟨[],World.ownsRow_nil w B 52 5,rfl⟩
theorem OwnX.form {w:World} {B:Nat} {S S':Nat→Prop} {v:Value} {xs:List X} (h:OwnX w B S v xs) (hS:∀ b,S b→S' b) (hg:∀ k,v.ownBlock=some k→S' k):∃ A c,v=.slice A xs.length c∧KS w S' A xs:=by
 obtain⟨cs,ho,hx⟩:=h
 rcases ho.2 with ⟨rfl,hz⟩ | ⟨g,cap,cur,rfl,hb,hgg,hnc,hcm,hcs,htake⟩
 ·exact⟨none,0,by rw[hz],.inl (List.eq_nil_of_length_eq_zero hz)⟩
 ·refine⟨_,_,rfl,.inr ⟨g,0,rfl,CX.ecs (hg g rfl) hS hx fun j u hu=>?_⟩⟩
  have hj:j<xs.length * 5:=by
   have:=ho.1
   rcases Nat.lt_or_ge j cs.length with h' | h'
   ·omega
   ·rw[List.getElem?_eq_none h'] at hu;cases hu
  rw[Nat.zero_add,World.ownsRow.cellAt ho j hj,hu]
theorem uJ:(Tryz.prog.info? 52).map (fun i=>(i.zero,i.size,i.bytes))=some (some (.agg #[.int .i64 0,.int .i64 0,.int .i64 0,.string ⟨#[]⟩,.slice none 0 0]),5,64):=by kernel_rfl
theorem zZ {a j:Nat} (h:[a].contains j=true):j=a:=by simpa using h
def OwnMade (w:World) (x:X) (e:Ending) (w':World):Prop:=∃ A c,e=.returned (ev x A c)∧KS w' (fun b=>w.heap.size≤b∧b<w'.heap.size) A x.ks∧Below w.heap.size w w'
def Sb (B:Nat) (r:Option Nat) (w:World):Nat→Prop:=fun b=>B≤b∧b<w.heap.size∧some b≠r
def Turn (p:Nat) (r:Option Nat) (j:Nat) (w w':World):Prop:=w.grownBy w' (if j=9 then r else some p)
theorem Turn.refl (p:Nat) (r:Option Nat) (j:Nat) (w:World):Turn p r j w w:=World.grownBy.refl w _
theorem Turn.store {p:Nat} {r:Option Nat} {w:World} {u:Value}:Turn p r 11 w (w.setCell ⟨p,4,none⟩ u):=zf (zd w p) 4 u
theorem Turn.keep {p B j:Nat} {r:Option Nat} {w w':World} (h:Turn p r j w w') (hp:p<B) (b:Nat) (hb:Sb B r w b):Sb B r w' b∧w'.heap[b]? = w.heap[b]?:=
 ⟨⟨hb.1,Nat.lt_of_lt_of_le hb.2.1 h.size,hb.2.2⟩,h.block b hb.2.1 (by
  split
  ·exact hb.2.2
  ·intro e;injection e with e;have:=hb.1;omega)⟩
theorem zV {B:Nat} {r:Option Nat} {w w':World} (h:Tame.Later w w') (b:Nat) (hb:Sb B r w b):Sb B r w' b∧w'.heap[b]? = w.heap[b]?:=
 ⟨⟨hb.1,Nat.lt_of_lt_of_le hb.2.1 (Below.size h),hb.2.2⟩,Below.block h b hb.2.1⟩
def OwnVal (B:Nat) (v:Value) (y:X) (u:Value) (w:World):Prop:=∃ A c,u=ev y A c∧KS w (Sb B v.ownBlock w) A y.ks
theorem OwnVal.later {B:Nat} {v u:Value} {y:X} {w w':World} (h:OwnVal B v y u w) (hl:Tame.Later w w'):OwnVal B v y u w':=by
 obtain⟨A,c,hv,hk⟩:=h
 exact⟨A,c,hv,hk.move fun b hb=>zV hl b hb⟩
theorem OwnVal.turn {p B j:Nat} {v u:Value} {y:X} {w w':World} (hp:p<B) (h:OwnVal B v y u w) (hs:Turn p v.ownBlock j w w'):OwnVal B v y u w':=by
 obtain⟨A,c,hv,hk⟩:=h
 exact⟨A,c,hv,hk.move fun b hb=>hs.keep hp b hb⟩
def NewVal (B:Nat) (v:Value) (y:X) (u:Value) (w:World):Prop:=
 ∃ g A c,u=.slice (some ⟨g,0,none⟩) 1 1∧Row w g 52 (c5 y A c).toArray∧KS w (Sb B v.ownBlock w) A y.ks∧B≤g∧some g≠v.ownBlock
theorem NewVal.later {B:Nat} {v u:Value} {y:X} {w w':World} (h:NewVal B v y u w) (hl:Tame.Later w w'):NewVal B v y u w':=by
 obtain⟨g,A,c,hv,hr,hk,h1,h2⟩:=h
 exact⟨g,A,c,hv,hr.below hl hr.lt,hk.move fun b hb=>zV hl b hb,h1,h2⟩
theorem NewVal.turn {p B j:Nat} {v u:Value} {y:X} {w w':World} (hp:p<B) (h:NewVal B v y u w) (hs:Turn p v.ownBlock j w w'):NewVal B v y u w':=by
 obtain⟨g,A,c,hv,hr,hk,h1,h2⟩:=h
 exact⟨g,A,c,hv,(hs.keep hp g ⟨h1,hr.lt,h2⟩).2.trans hr,hk.move fun b hb=>hs.keep hp b hb,h1,h2⟩
def Appended (B:Nat) (xs:List X) (u:Value) (w:World):Prop:=OwnX w B (Sb B u.ownBlock w) u xs
theorem OwnX.later {w w':World} {B:Nat} {v:Value} {xs:List X} (h:OwnX w B (Sb B v.ownBlock w) v xs) (hl:Tame.Later w w'):OwnX w' B (Sb B v.ownBlock w') v xs:=by
 obtain⟨cs,ho,hx⟩:=h
 refine⟨cs,⟨ho.1,?_⟩,hx.move fun b hb=>zV hl b hb⟩
 rcases ho.2 with hn | ⟨g,cap,cur,rfl,hbg,hg,rest⟩
 ·exact .inl hn
 ·exact .inr ⟨g,cap,cur,rfl,hbg,(Below.block hl g (Array.getElem?_eq_some_iff.1 hg).1).trans hg,rest⟩
theorem Appended.later {B:Nat} {xs:List X} {u:Value} {w w':World} (h:Appended B xs u w) (hl:Tame.Later w w'):Appended B xs u w':=OwnX.later h hl
theorem OwnX.far {w w':World} {p B:Nat} {v:Value} {xs:List X} (h:OwnX w B (Sb B v.ownBlock w) v xs) (hp:p<B) (hs:w.grownBy w' (some p)):OwnX w' B (Sb B v.ownBlock w') v xs:=by
 obtain⟨cs,ho,hx⟩:=h
 have hl:=World.ownsRow.lt ho
 refine⟨cs,ho.kept hs ?_,hx.move fun b hb=>⟨⟨hb.1,Nat.lt_of_lt_of_le hb.2.1 hs.size,hb.2.2⟩,hs.block b hb.2.1 (by intro e;injection e with e;have:=hb.1;omega)⟩⟩
 cases hv:v.ownBlock with
 | none=>exact .inl rfl
 | some q=>exact .inr (by intro e;injection e with e;have:=(hl q hv).1;omega)
theorem Appended.other {B p:Nat} {r:Option Nat} {xs:List X} {u:Value} {w w':World} (hp:p<B) (h:Appended B xs u w) (hs:Turn p r 11 w w'):Appended B xs u w':=OwnX.far h hp hs
theorem Appended.form {B:Nat} {xs:List X} {u:Value} {w:World} (h:Appended B xs u w):∃ A c,u=.slice A xs.length c∧KS w (fun _=>True) A xs:=OwnX.form h (fun _ _=>trivial) (fun _ _=>trivial)
theorem Appended.step {w w':World} {p B j:Nat} {v v':Value} {ks:List X} {y:X} {cs:List Value} {A:Option Addr} {c:Nat} (hy:ks[j]? = some y) (_:w.ownsRow B 52 5 v (ks.take j).length cs) (hx:CX w (Sb B v.ownBlock w) (ks.take j) cs)
  (ho':w'.ownsRow B 52 5 v' ((ks.take j).length+1) (cs++c5 y A c)) (hgr:w.grownBy w' v.ownBlock) (hat:v'.ownBlock=v.ownBlock∨v'.ownBlock=some w.heap.size) (hk:KS w (Sb B v.ownBlock w) A y.ks) :
  Tame.Leaves (Turn p v.ownBlock 9) w (Appended B (ks.take (j+1))) v' w':=by
 have hm:∀ b,Sb B v.ownBlock w b→Sb B v'.ownBlock w' b∧w'.heap[b]? = w.heap[b]?:=fun b hb=>⟨⟨hb.1,Nat.lt_of_lt_of_le hb.2.1 hgr.size,by
  rcases hat with h | h
  ·rw[h];exact hb.2.2
  ·rw[h];intro e;injection e with e;have:=hb.2.1;omega⟩,hgr.block b hb.2.1 hb.2.2⟩
 refine⟨hgr,cs++c5 y A c,?_,?_⟩
 ·rw[jG hy,List.length_append];exact ho'
 ·rw[jG hy];exact CX.snoc (hk.move hm) (hx.move hm)
def Laid (p:Nat) (k o n:Int) (s:T) (q:Nat) (vals:Nat→Value) (w:World):Prop:=Row w p 52 #[.int .i64 k,.int .i64 o,.int .i64 n,.string ⟨s.toArray⟩,vals q]
theorem Laid.later {p q:Nat} {k o n:Int} {s:T} {vals:Nat→Value} {w w':World} (h:Laid p k o n s q vals w) (hl:Tame.Later w w'):Laid p k o n s q vals w':=Row.below h hl (Row.lt h)
theorem Laid.same {p q:Nat} {k o n:Int} {s:T} {vals vals':Nat→Value} {w:World} (h:Laid p k o n s q vals w) (e:vals q=vals' q):Laid p k o n s q vals' w:=by unfold Laid;rw[← e];exact h
theorem Laid.mk {p q:Nat} {k o n:Int} {s:T} {vals:Nat→Value} {w:World} {u:Value} (e:vals q=u) (h:Row w p 52 #[.int .i64 k,.int .i64 o,.int .i64 n,.string ⟨s.toArray⟩,u]):Laid p k o n s q vals w:=by unfold Laid;rw[e];exact h
def Held (p:Nat) (k o n:Int) (s:T) (v:Value) (w:World):Prop:=Row w p 52 #[.int .i64 k,.int .i64 o,.int .i64 n,.string ⟨s.toArray⟩,v]
def ghostsOwn (H:Nat) (wr:World) (p:Nat) (k o n:Int) (s:T) (v:Value) (xs:List X):List Tame.Ghost:=
 [⟨Below (H+2) wr,[9,11]⟩,⟨Held p k o n s v,[9]⟩,⟨fun w=>OwnX w (H+3) (Sb (H+3) v.ownBlock w) v xs,[]⟩]
theorem ghostsOwn_ok {H:Nat} {wr:World} {p:Nat} {k o n:Int} {s:T} {v:Value} {xs:List X} (hp:p=H+2) (hsz:H+3≤wr.heap.size) (hv:∀ q,v.ownBlock=some q→H+3≤q)
  (h1:Held p k o n s v wr) (h2:OwnX wr (H+3) (Sb (H+3) v.ownBlock wr) v xs) :
  ∀ (i:Nat) (g:Tame.Ghost),(ghostsOwn H wr p k o n s v xs)[i]? = some g→g.g wr.drew∧(∀ w w',Tame.Later w w'→g.g w→g.g w')∧
   ∀ j,[9,11].contains j=true→g.keeps.contains j=true→∀ w w',Turn p v.ownBlock j w w'→g.g w→g.g w':=by
 intro i g hi
 rcases i with _ | _ | _ | i
 ·obtain rfl:(⟨Below (H+2) wr,[9,11]⟩:Tame.Ghost)=g:=by simpa [ghostsOwn] using hi
  refine⟨(Below.refl _ _).drew,fun a b hl h=>h.trans (Below.mono hl (by have:=h.size;omega)),fun j _ _ a b hs h=>h.grown hs (by have:=h.size;omega) (fun q hq=>?_)⟩
  split at hq
  ·have:=hv q hq;omega
  ·injection hq with hq;omega
 ·obtain rfl:(⟨Held p k o n s v,[9]⟩:Tame.Ghost)=g:=by simpa [ghostsOwn] using hi
  refine⟨Row.drew h1,fun a b hl h=>Row.below h hl (Row.lt h),fun j _ hj a b hs h=>?_⟩
  obtain rfl:=zZ hj
  exact Row.grown h hs (by simp only[if_true];intro e;have:=hv p e.symm;omega)
 ·obtain rfl:(⟨fun w=>OwnX w (H+3) (Sb (H+3) v.ownBlock w) v xs,[]⟩:Tame.Ghost)=g:=by simpa [ghostsOwn] using hi
  exact⟨h2.later ((Below.refl _ _).drew),fun a b hl h=>h.later hl,fun j _ hj=>by cases hj⟩
 ·simp[ghostsOwn] at hi
theorem Own_any (N:Nat):∀ (x:X) (A:Option Addr) (c:Nat) (w:World) (S:Nat→Prop),x.size≤N→N≤1099511627775→KS w S A x.ks→(∀ b,S b→b<w.heap.size)→
  Calls Tryz.prog 50 #[ev x A c] w (OwnMade w x):=by
 obtain⟨i0,hi0,hz0,hz1,hz2⟩:=info_parts uJ
 induction N with
 | zero=>intro x A c w S h;have:=x.size_pos;omega
 | succ N ih=>
  intro x A c w S hN hM hk hS
  obtain⟨k,o,n,s,ks⟩:=x
  simp only[X.size,X.ks,ev,X.k,X.o,X.n,X.s] at hN hk ⊢
  have hlen:=X.sizes_length ks
  have HK:=YV hk
  clear hk
  go_enter Tryz.func50,Tryz.ntmps50
  go_wp2_with fail
  go_loopw [4] (fun i wr=>∃ (j:Nat) (v:Value),j≤ks.length∧i=.int .i64 j∧Row wr w.heap.size 46 #[.int .i64 k,.int .i64 o,.int .i64 n,.string ⟨s.toArray⟩,.slice A ks.length c]∧Row wr (w.heap.size+1) 52 #[.int .i64 0,.int .i64 0,.int .i64 0,.string ⟨#[]⟩,.slice none 0 0]∧
    Held (w.heap.size+2) k o n s v wr∧OwnX wr (w.heap.size+3) (Sb (w.heap.size+3) v.ownBlock wr) v (ks.take j)∧Below w.heap.size w wr∧w.heap.size+3≤wr.heap.size)
   (fun i _=>ks.length - (intOf i).toNat)
  case atStart=>
   refine⟨0,.slice none 0 0,by omega,rfl,?_,?_,?_,OwnX.nil _ _ _,?_,by simp⟩
   ·exact((Row.made w 46 _).alloc _).alloc _
   ·have:=(Row.made (w.alloc (.cells #[.int .i64 k,.int .i64 o,.int .i64 n,.string ⟨s.toArray⟩,.slice A ks.length c] 46)) 52 #[.int .i64 0,.int .i64 0,.int .i64 0,.string ⟨#[]⟩,.slice none 0 0])
    rw[World.size_alloc] at this
    exact this.alloc _
   ·have:=(Row.made ((w.alloc (.cells #[.int .i64 k,.int .i64 o,.int .i64 n,.string ⟨s.toArray⟩,.slice A ks.length c] 46)).alloc (.cells #[.int .i64 0,.int .i64 0,.int .i64 0,.string ⟨#[]⟩,.slice none 0 0] 52)) 52 #[.int .i64 k,.int .i64 o,.int .i64 n,.string ⟨s.toArray⟩,.slice none 0 0])
    rw[World.size_alloc,World.size_alloc] at this
    exact this
   ·exact(((Below.refl _ _).alloc (Nat.le_refl _) _).alloc (by simp) _).alloc (by simp;omega) _
  case round=>
   obtain⟨j,v,hj,rfl,hr,hr1,hh,ho,hbw,hsz⟩:=hrel
   by_cases hlt:j<ks.length
   ·obtain⟨y,hy⟩:∃ y,ks[j]? = some y:=⟨_,List.getElem?_eq_getElem hlt⟩
    obtain⟨b,off,A',c',rfl,d0,d1,d2,d3,d4,hk',hbl⟩:=HK.out.kid_at hS hbw hy
    have c4:=hr.cell 4
    simp at c4
    have HR:=YV hr
    have HR1:=YV hr1
    have HH:=YV hh
    have HO:=YV ho
    have HBW:=YV hbw
    have HY:=YV hy
    have D0:=YV d0
    have D1:=YV d1
    have D2:=YV d2
    have D3:=YV d3
    have D4:=YV d4
    have HV:Hid (∀ q,v.ownBlock=some q→w.heap.size+3≤q∧q<wr.heap.size):=by obtain⟨cs,h1,_⟩:=ho;exact fun q hq=>World.ownsRow.lt h1 q hq
    have hws:=hbw.size
    have HC0:Hid (∀ w2,Below (w.heap.size+2) wr w2→Calls Tryz.prog 50 #[.agg #[.int .i64 y.k,.int .i64 y.o,.int .i64 y.n,.string ⟨y.s.toArray⟩,.slice A' y.ks.length c']] w2 (OwnMade w2 y)):=
     fun w2 hb2=>ih y A' c' w2 S (by have:=X.sizes_at hy;omega) (by omega) (hk'.move fun q hq=>⟨hq,hb2.block q (by have:=hS q hq;omega)⟩) (fun q hq=>by have:=hS q hq;have:=hb2.size;omega)
    clear hr hr1 hh ho hbw hy d0 d1 d2 d3 d4 hk'
    go_wp2_with fail
    refine Tame.wp_region_tamg (L:=Tame.Later) (M:=Turn (w.heap.size+2) v.ownBlock) (gs:=ghostsOwn w.heap.size wr (w.heap.size+2) k o n s v (ks.take j)) [9,11] (by kernel_rfl) (by kernel_rfl) Tame.Later.refl (Turn.refl _ _) (ghostsOwn_ok rfl hsz (fun q hq=>(HV.out q hq).1) HH.out HO.out) ?_
    repeat
     ((first
      |(refine Tame.walk3_known (o:=⟨some 22,_,_,_,_,_⟩) (by kernel_rfl) (fun _=>rfl) ?_;apply Exists.intro;refine⟨fun vals w2 hG hd=>?_,?_⟩;(focus(have hv:=(hG 1 _ rfl (by kernel_rfl):Row w2 (w.heap.size+2) 52 #[.int .i64 k,.int .i64 o,.int .i64 n,.string ⟨s.toArray⟩,v]).cell 4;clear hG hd;simp at hv;go_simp;exact Tame.Is.mk (Tame.Later.refl _))))
      |(refine Tame.walk3_known (o:=⟨some 24,_,_,_,_,_⟩) (by kernel_rfl) (fun _=>rfl) ?_;apply Exists.intro;refine⟨fun vals w2 hG hd=>?_,?_⟩;(focus(have hv:=(HR.out.below (hG 0 _ rfl (by kernel_rfl):Below (w.heap.size+2) wr w2) (by omega)).cell 4;clear hG hd;simp at hv;go_simp;exact Tame.Is.mk (Tame.Later.refl _))))
      |(refine Tame.walk3_known (o:=⟨some 27,_,_,_,_,_⟩) (by kernel_rfl) (fun _=>rfl) ?_;apply Exists.intro;refine⟨fun vals w2 hG hd=>?_,?_⟩;(focus(have hb2:=(hG 0 _ rfl (by kernel_rfl):Below (w.heap.size+2) wr w2);have f0:=(hb2.cell (p:=⟨b,off+j * 5,none⟩) (Nat.lt_of_lt_of_le hbl (Nat.le_add_right _ _))).trans D0.out;have f1:=(hb2.cell (p:=⟨b,off+j * 5+1,none⟩) (Nat.lt_of_lt_of_le hbl (Nat.le_add_right _ _))).trans D1.out;have f2:=(hb2.cell (p:=⟨b,off+j * 5+2,none⟩) (Nat.lt_of_lt_of_le hbl (Nat.le_add_right _ _))).trans D2.out;have f3:=(hb2.cell (p:=⟨b,off+j * 5+3,none⟩) (Nat.lt_of_lt_of_le hbl (Nat.le_add_right _ _))).trans D3.out;have f4:=(hb2.cell (p:=⟨b,off+j * 5+4,none⟩) (Nat.lt_of_lt_of_le hbl (Nat.le_add_right _ _))).trans D4.out;clear hG hd hb2;go_simp;exact Tame.Is.mk (Tame.Later.refl _))))
      |(refine Tame.walk3_some (o:=⟨some 28,_,_,_,_,_⟩) (OwnVal (w.heap.size+3) v y) (none) ([9,11]) (by kernel_rfl) (fun _=>rfl) (by kernel_rfl) (fun u a c hl h=>h.later hl) (fun i _ _ u a c hs h=>h.turn (p:=w.heap.size+2) (by omega) hs) (fun vals w2 hG hd=>?_) ?_;(focus(have hb2:=(hG 0 _ rfl (by kernel_rfl):Below (w.heap.size+2) wr w2);have hzz:=hb2.size;have HC:=YV (HC0.out w2 hb2);clear hG hd;go_simp;refine HC.out.mono ?_;rintro e w' ⟨A1,c1,rfl,hk1,hb1⟩;exact⟨_,rfl,hb1,A1,c1,rfl,hk1.move fun q hq=>⟨⟨by omega,hq.2,fun e=>by have:=HV.out q e.symm;omega⟩,rfl⟩⟩)))
      |(refine Tame.walk3_some (o:=⟨some 29,_,_,_,_,_⟩) (NewVal (w.heap.size+3) v y) (none) ([9,11]) (by kernel_rfl) (fun _=>rfl) (by kernel_rfl) (fun u a c hl h=>h.later hl) (fun i _ _ u a c hs h=>h.turn (p:=w.heap.size+2) (by omega) hs) (fun vals w2 hG hd=>?_) ?_;(focus(have hb2:=(hG 0 _ rfl (by kernel_rfl):Below (w.heap.size+2) wr w2);have hzz:=hb2.size;have h1:=(hd 7 _ rfl (by kernel_rfl) rfl:OwnVal (w.heap.size+3) v y (vals 7) w2);clear hG hd;obtain⟨A1,c1,hv1,hk1⟩:=h1;unfold ev at hv1;have HK1:=YV hk1;clear hk1;go_simp;exact Tame.Has.mk ((Below.refl _ _).alloc (Nat.le_refl _) _) ⟨w2.heap.size,A1,c1,rfl,Row.made _ _ _,(HK1.out.move fun q hq=>⟨⟨hq.1,by have:=hq.2.1;simp;omega,hq.2.2⟩,Below.heap_alloc _ _ _ hq.2.1⟩),by omega,fun e=>by have:=HV.out _ e.symm;omega⟩)))
      |(refine Tame.walk3_write (o:=⟨some 30,_,_,_,_,_⟩) (Appended (w.heap.size+3) (ks.take (j+1))) (none) ([11]) (fun _=>rfl) (by kernel_rfl) (by kernel_rfl) (fun u a c hl h=>h.later hl) (fun i _ hj u a c hs h=>h.other (p:=w.heap.size+2) (r:=v.ownBlock) (by omega) (by have:=zZ hj;subst this;exact hs)) (fun vals w2 hG hd=>?_) ?_;(focus(have hb2:=(hG 0 _ rfl (by kernel_rfl):Below (w.heap.size+2) wr w2);have hzz:=hb2.size;have h1:=(hd 8 _ rfl (by kernel_rfl) rfl:NewVal (w.heap.size+3) v y (vals 8) w2);have h2:=(hG 2 _ rfl (by kernel_rfl):OwnX w2 (w.heap.size+3) (Sb (w.heap.size+3) v.ownBlock w2) v (ks.take j));clear hG hd;obtain⟨g1,A1,c1,hv1,hr1,hk1,hg1,hg2⟩:=h1;obtain⟨cs,ho,hx⟩:=h2;exact zK (.tmp 22) (.tmp 29) _ rfl (w.heap.size+3) 52 i0 _ 5 64 Tryz.underlying50 hi0 hz0 hz1 hz2 rfl (by omega) (by omega) v _ cs rfl ho g1 1 52 (c5 y A1 c1) hv1 rfl hr1 (xy _ _ _) (by simp;omega) (by omega) (fun v' w' ho' hgr hat=>Appended.step HY.out ho hx ho' hgr hat hk1))))
      |(refine Tame.walk3_lays (o:=⟨none,Op.store _ _ _,_,_,_,_⟩) (Laid (w.heap.size+2) k o n s 9) none ([]) ([9]) (fun _=>rfl) (by kernel_rfl) (by kernel_rfl) (by kernel_rfl) (fun vals vals' w hh h=>h.same (hh 9 (by decide))) (fun vals w w' hl h=>h.later hl) (fun j hj hk=>by cases hk) (fun vals w2 hG hd=>?_) ?_;(focus(have h1:=(hd 9 _ rfl (by kernel_rfl) (by kernel_rfl):Appended (w.heap.size+3) (ks.take (j+1)) (vals 9) w2);have hr:=(hG 1 _ rfl (by kernel_rfl):Row w2 (w.heap.size+2) 52 #[.int .i64 k,.int .i64 o,.int .i64 n,.string ⟨s.toArray⟩,v]);clear hG hd;obtain⟨A1,c1,hv1,_⟩:=h1.form;rw[show (ks.take (j+1)).length=j+1 by simp;omega] at hv1;have HR1:=YV hr;have c4:=hr.cell 4;have f4:=hr.free 4;simp at c4;clear hr h1;go_simp;exact⟨Turn.store,Laid.mk hv1 (HR1.out.set 4 (.slice A1 (j+1) c1))⟩)))
      |(refine Tame.walk3_known (by kernel_rfl) (fun _=>rfl) ?_;apply Exists.intro;refine⟨fun vals w2 hG hd=>?_,?_⟩;(focus(go_simp;first | exact Tame.Is.mk (Tame.Later.refl _)|(rw[if_neg];(focus exact Tame.Is.mk (Tame.Later.refl _));omega)))))
      simp only[Act.put,List.setIfInBounds_toArray,List.set_cons_zero,List.set_cons_succ,List.nil_append,List.cons_append,List.length_cons,List.length_nil,Nat.zero_add,Nat.reduceAdd])
    refine Tame.walk3_end fun vals w2 hG hts=>?_
    have f0:Below (w.heap.size+2) wr w2:=hG 0 _ rfl (by kernel_rfl)
    have f1:Appended (w.heap.size+3) (ks.take (j+1)) (vals 9) w2:=hts 9 _ rfl rfl
    have f2:Laid (w.heap.size+2) k o n s 9 vals w2:=hts 11 _ rfl rfl
    have F0:=YV f0
    have F1:=YV f1
    have F2:=YV f2
    clear f0 f1 f2 hts hG
    go_wp2_with fail
    go_roundw
    case rel=>exact⟨j+1,vals 9,by omega,by go_num,HR.out.below F0.out (by omega),HR1.out.below F0.out (by omega),F2.out,F1.out,HBW.out.trans (F0.out.mono (by omega)),Nat.le_trans hsz F0.out.size⟩
    case measure=>simp[intOf];omega
   ·obtain rfl:j=ks.length:=by omega
    have c4:=hr.cell 4
    have F2:=YV hh
    have g0:=(show Row wr (w.heap.size+2) 52 _ from hh).cell
    have q0:=hr1.free
    have HBW:=YV hbw
    have HR1:=YV hr1
    obtain⟨A2,c2,rfl,hk2⟩:=ho.form (S':=fun b=>w.heap.size+3≤b∧b<wr.heap.size) (fun b hb=>⟨hb.1,hb.2.1⟩) (fun q hq=>by obtain⟨cs,h1,_⟩:=ho;have:=World.ownsRow.lt h1 q hq;omega)
    rw[List.take_length] at hk2 F2 g0
    have e0:=g0 0
    have e1:=g0 1
    have e2:=g0 2
    have e3:=g0 3
    have e4:=g0 4
    have r0:=hr1.cell 0
    have r1:=hr1.cell 1
    have r2:=hr1.cell 2
    have r3:=hr1.cell 3
    have r4:=hr1.cell 4
    simp at c4 e0 e1 e2 e3 e4 r0 r1 r2 r3 r4
    have HK2:=YV hk2
    clear hr hr1 hh ho hbw g0 hk2
    go_wp2_with fail
    have z:=((((HR1.out.set 0 (.int .i64 k)).set 1 (.int .i64 o)).set 2 (.int .i64 n)).set 3 (.string ⟨s.toArray⟩)).set 4 (.slice A2 ks.length c2)
    have hB5:Below w.heap.size w (((((wr.setCell ⟨w.heap.size+1,0,none⟩ (.int .i64 k)).setCell ⟨w.heap.size+1,1,none⟩ (.int .i64 o)).setCell ⟨w.heap.size+1,2,none⟩ (.int .i64 n)).setCell ⟨w.heap.size+1,3,none⟩ (.string ⟨s.toArray⟩)).setCell ⟨w.heap.size+1,4,none⟩ (.slice A2 ks.length c2)):=
     ((((HBW.out.setCell (p:=⟨w.heap.size+1,0,none⟩) (Nat.le_add_right _ _) _).setCell (p:=⟨w.heap.size+1,1,none⟩) (Nat.le_add_right _ _) _).setCell (p:=⟨w.heap.size+1,2,none⟩) (Nat.le_add_right _ _) _).setCell (p:=⟨w.heap.size+1,3,none⟩) (Nat.le_add_right _ _) _).setCell (p:=⟨w.heap.size+1,4,none⟩) (Nat.le_add_right _ _) _
    have hK5:KS (((((wr.setCell ⟨w.heap.size+1,0,none⟩ (.int .i64 k)).setCell ⟨w.heap.size+1,1,none⟩ (.int .i64 o)).setCell ⟨w.heap.size+1,2,none⟩ (.int .i64 n)).setCell ⟨w.heap.size+1,3,none⟩ (.string ⟨s.toArray⟩)).setCell ⟨w.heap.size+1,4,none⟩ (.slice A2 ks.length c2)) (fun b=>w.heap.size≤b∧b<wr.heap.size) A2 ks:=
     HK2.out.move fun b hb=>⟨⟨by have:=hb.1;omega,hb.2⟩,by
      have hne:b≠w.heap.size+1:=by have:=hb.1;omega
      rw[Below.heap_setCell _ _ _ _ hne,Below.heap_setCell _ _ _ _ hne,Below.heap_setCell _ _ _ _ hne,Below.heap_setCell _ _ _ _ hne,Below.heap_setCell _ _ _ _ hne]⟩
    have hs5:wr.heap.size≤(((((wr.setCell ⟨w.heap.size+1,0,none⟩ (.int .i64 k)).setCell ⟨w.heap.size+1,1,none⟩ (.int .i64 o)).setCell ⟨w.heap.size+1,2,none⟩ (.int .i64 n)).setCell ⟨w.heap.size+1,3,none⟩ (.string ⟨s.toArray⟩)).setCell ⟨w.heap.size+1,4,none⟩ (.slice A2 ks.length c2)).heap.size:=by simp
    generalize ((((wr.setCell ⟨w.heap.size+1,0,none⟩ (.int .i64 k)).setCell ⟨w.heap.size+1,1,none⟩ (.int .i64 o)).setCell ⟨w.heap.size+1,2,none⟩ (.int .i64 n)).setCell ⟨w.heap.size+1,3,none⟩ (.string ⟨s.toArray⟩)).setCell ⟨w.heap.size+1,4,none⟩ (.slice A2 ks.length c2)=w5 at z hB5 hK5 hs5 ⊢
    have z0:=z.cell 0
    have z1:=z.cell 1
    have z2:=z.cell 2
    have z3:=z.cell 3
    have z4:=z.cell 4
    simp at z0 z1 z2 z3 z4
    exact bodyPost_ret (v:=ev (.mk k o n s ks) A2 c2) (by simp[results,Tryz.results50,go_sem,z0,z1,z2,z3,z4,ev,X.k,X.o,X.n,X.s,X.ks]) rfl ⟨A2,c2,rfl,hK5.move fun b hb=>⟨⟨hb.1,by have:=hb.2;omega⟩,rfl⟩,hB5⟩
end Go.Proofs.YtdabndiaflagpaaGreatDoor.bk
