import PyProof.Rows.All
import Wide.All
import OpenK.AllK
import Wide.FinOn
import Lean
import PyProof.EqAt
import PyProof.EqKinds
import PyProof.TupleCall
import PyProof.NeData
import PyProof.WalkInts
import PyProof.ListRange
import KE.KIntText
import PyProof.DictWalks
import PyProof.DictItems
import KE.KDictList
import PyProof.Rows.SortKeyStr
import PyProof.NeKinds
import PySem.Challenge.RW_heedwise_k70_hands_heeded
theorem wB {p : Prop} (h : p := by first | exact Or.inl rfl | exact Or.inr (Or.inl rfl) | exact Or.inr (Or.inr rfl) | assumption) : p := h
theorem wC {p : Prop} (h : p := by first | decide | omega) : p := h
theorem wD {p : Prop} (h : p := by decide +kernel) : p := h
theorem wE {p : Prop} (h : p := by decide) : p := h
theorem wF {p : Prop} (h : p := by omega) : p := h
set_option Elab.async false
set_option linter.all false
set_option maxRecDepth 100000
namespace L2
open PySem PySem.Spec PyProof.Rows
abbrev AV := Sum Int Str
def OB : AV -> Value -> Bool
 | .inl k,v => Value.isInt k v
 | .inr x,v => Value.isStrOf x v
def VU (w : World) : AV -> Int
 | .inl k => hashInt k
 | .inr x => hashStr w x
theorem Ei : ∀ {k : AV} {v : Value},OB k v = true -> (∃ i t,k = Sum.inl i /\ v = Value.int i t) \/ (∃ x t,k = Sum.inr x /\ v = Value.str x t)
 | .inl i,v,h => by
  obtain ⟨t,e⟩ := Value.isInt_shape (k := i) (v := v) h
  exact .inl ⟨i,t,rfl,e⟩
 | .inr x,v,h => by
  obtain ⟨t,e⟩ := Value.isStrOf_shape (x := x) (v := v) h
  exact .inr ⟨x,t,rfl,e⟩
theorem VT (a b : Int) : decide ((Sum.inl a : AV) = Sum.inl b) = (a == b) := by
 by_cases e : a = b
 ·subst e; simp
 ·have h : ¬ (Sum.inl a : AV) = Sum.inl b := λ q => e (Sum.inl.inj q)
  rw [decide_eq_false h]
  exact (beq_eq_false_iff_ne.mpr e).symm
theorem VQ (a b : Str) : decide ((Sum.inr a : AV) = Sum.inr b) = decide (a = b) := by
 by_cases e : a = b
 ·subst e; simp
 ·have h : ¬ (Sum.inr a : AV) = Sum.inr b := λ q => e (Sum.inr.inj q)
  rw [decide_eq_false h,decide_eq_false e]
theorem VS (a : Int) (b : Str) : decide ((Sum.inl a : AV) = Sum.inr b) = false := decide_eq_false (λ q => nomatch q)
theorem VR (a : Str) (b : Int) : decide ((Sum.inr a : AV) = Sum.inl b) = false := decide_eq_false (λ q => nomatch q)
def KW (prog : Program) (w : World) : PySem.KeyKind prog w AV where
 is := OB
 hash := VU w
 inj := λ v a b ha hb => by
  rcases Ei ha with ⟨i,t,rfl,rfl⟩ | ⟨x,t,rfl,rfl⟩
  ·rcases Ei hb with ⟨j,u,rfl,e⟩ | ⟨y,u,rfl,e⟩
   ·injection e with e1 _; rw [e1]
   ·exact nomatch e
  ·rcases Ei hb with ⟨j,u,rfl,e⟩ | ⟨y,u,rfl,e⟩
   ·exact nomatch e
   ·injection e with e1 _; rw [e1]
 byValue := λ k v h => by
  rcases Ei h with ⟨i,t,rfl,rfl⟩ | ⟨x,t,rfl,rfl⟩ <;> rfl
 pyHash := λ hv h => by
  rcases Ei hv with ⟨i,t,rfl,rfl⟩ | ⟨x,t,rfl,rfl⟩
  ·exact wpAny_pyHash_int h
  ·exact wpAny_pyHash_str h
 eqBool := λ hu hv h => by
  rcases Ei hu with ⟨i,t,rfl,rfl⟩ | ⟨x,t,rfl,rfl⟩
  ·rcases Ei hv with ⟨j,u,rfl,rfl⟩ | ⟨y,u,rfl,rfl⟩
   ·rw [VT] at h; exact wpAny_eqBool_int h
   ·rw [VS] at h; exact SeqAt.EqAt.int_str i t y u _ _ _ _ h
  ·rcases Ei hv with ⟨j,u,rfl,rfl⟩ | ⟨y,u,rfl,rfl⟩
   ·rw [VR] at h; exact SeqAt.EqAt.str_int x t j u _ _ _ _ h
   ·rw [VQ] at h; exact wpAny_eqBool_str h
 «strs» := λ k x t v h => by
  rcases Ei h with ⟨i,u,rfl,e⟩ | ⟨y,u,rfl,e⟩
  ·exact nomatch e
  ·injection e with e1 _
   subst e1
   cases v <;> rfl
end L2
namespace L2
open PySem PySem.Spec PyProof.Rows
inductive V where
 | non | bl (b : Bool) | int (i : Int) | str (x : Str) | byt (b : Array UInt8) | flt (b : UInt64) | ref (a : Addr) | ty (n : String)
 deriving DecidableEq
def AX : V -> Value -> Prop
 | .non,u => u = Value.none
 | .bl b,u => u = Value.bool b
 | .int i,u => ∃ t,u = Value.int i t
 | .str x,u => ∃ t,u = Value.str x t
 | .byt b,u => ∃ t,u = Value.bytes b t
 | .flt b,u => ∃ t,u = Value.float b t
 | .ref a,u => u = Value.ref a
 | .ty n,u => u = Value.type n
abbrev Az : List V -> List Value -> Prop := Paired AX
theorem Az.length {xs : List V} {us : List Value} (r : Az xs us) : xs.length = us.length := Paired.length r
theorem Az.get : ∀ {xs : List V} {us : List Value} {i : Nat} {x : V},Az xs us -> xs[i]? = some x -> ∃ u,us[i]? = some u /\ AX x u
 | _,_,_,_,.nil,e => by simp at e
 | _,_,0,_,.cons r _,e => by simp at e; subst e; exact ⟨_,rfl,r⟩
 | _,_,i + 1,x,.cons _ t,e => by
  obtain ⟨u,h1,h2⟩ := Az.get (i := i) (x := x) t (by simpa using e)
  exact ⟨u,by simpa using h1,h2⟩
theorem Az.append : ∀ {xs ys : List V} {us ws : List Value},Az xs us -> Az ys ws -> Az (xs ++ ys) (us ++ ws)
 | _,_,_,_,.nil,s => s
 | _,_,_,_,.cons r t,s => .cons r (Az.append t s)
theorem Az.take : ∀ {xs : List V} {us : List Value} (n : Nat),Az xs us -> Az (xs.take n) (us.take n)
 | _,_,0,_ => .nil
 | _,_,_ + 1,.nil => .nil
 | _,_,n + 1,.cons r t => .cons r (Az.take n t)
theorem Az.drop : ∀ {xs : List V} {us : List Value} (n : Nat),Az xs us -> Az (xs.drop n) (us.drop n)
 | _,_,0,r => r
 | _,_,_ + 1,.nil => .nil
 | _,_,n + 1,.cons _ t => Az.drop n t
def D4 : Option V -> Option Value -> Prop
 | some v,some u => AX v u
 | none,none => True
 | _,_ => False
def KV {κ : Type} : List (κ × V) -> List (κ × Value) -> Prop := Paired λ (p : κ × V) (q : κ × Value) => p.1 = q.1 /\ AX p.2 q.2
def kV : AV -> V
 | .inl i => .int i
 | .inr x => .str x
inductive HO where
 | lst (xs : List V)
 | tup (xs : List V)
 | dK (kvs : List (AV × V)) | dT (kvs : List (List AV × V))
 | set (S : Int -> Bool) (n : Nat)
 | ins (C dx : Addr) (fs : List (Str × V))
 | own (x : Addr)
 | xd (fs : List (Str × V))
 | met (f x : Addr)
 | rng (lo hi : Int)
 | frz (o : Obj) (u : HO)
 | tbl (ps : Array Value)
 | ext (φ : Heap -> Prop)
abbrev Hp := Addr -> Option HO
def AL (H : Hp) (a : Addr) (o : HO) : Hp := λ b => if b = a then some o else H b
theorem Bs {H : Hp} {a : Addr} {o : HO} : AL H a o a = some o := by unfold AL; rw [if_pos rfl]
theorem A4 {H : Hp} {a b : Addr} {o : HO} (h : b ≠ a) : AL H a o b = H b := by unfold AL; rw [if_neg h]
theorem DU {H : Hp} {a b : Addr} {o : HO} (h : H a = some o) (h' : H b = none) : a ≠ b := by
 intro e; subst e; rw [h] at h'; cases h'
def DM (h : Heap) (a : Addr) (items : Array Value) : Prop := ∃ o,h.get? a = some o /\ o.dict = none /\ o.cls = .type "tuple" /\ ∃ n,o.data = .seq items n
theorem DM.t {h : Heap} {a : Addr} {items : Array Value} (x : DM h a items) : IsTup h a items := let ⟨o,e,_,r⟩ := x; ⟨o,e,r⟩
theorem DM.new (h : Heap) (items : Array Value) : DM (h.push { cls := .type "tuple",data := .seq items }) h.objs.size items := ⟨_,Heap.get?_push_size _ rfl,rfl,rfl,_,rfl⟩
section
variable (P : Program) (w : World)
def B8 (H : Hp) (h : Heap) (a : Addr) : HO -> Prop
 | .lst xs => xs.length <= sizeLine /\ ∃ (its : List Value) (n : Nat),Az xs its /\ h.get? a = some { cls := .type "list",data := .seq its.toArray n }
 | .tup xs => xs.length <= sizeLine /\ ∃ its : List Value,Az xs its /\ DM h a its.toArray
 | .dK kvs => kvs.length <= sizeLine /\ (a == sysModules) = false /\ ∃ vs,KV kvs vs /\ h.DictOf (KW P w) a vs
 | .dT kvs => kvs.length <= sizeLine /\ (a == sysModules) = false /\ ∃ xs : List (List AV × Addr × Value),
   Paired (λ (p : List AV × V) (q : List AV × Addr × Value) => p.1 = q.1 /\ H q.2.1 = some (.tup (p.1.map kV)) /\ AX p.2 q.2.2) kvs xs /\
   ∃ o es ep,h.get? a = some o /\ o.ExactDict /\ o.data = .dict es ep /\ es.toList = xs.map (entryOfKey (tupleKind (KW P w))) /\ (xs.map (·.1)).Nodup
 | .set S n => h.SetOf (intKind P w) a S n
 | .ins C dx fs => H dx = some (.own a) /\ fs.length <= 1000 /\ dx ≠ a /\ h.get? a = some (PySem.W.instObj C dx) /\
   ∃ mA,h.Ns1 dx mA /\ (∀ f,D4 (fs.lookup f) (mA f)) /\ PySem.Within mA (fs.map (·.1))
 | .own _ => ∃ o,h.get? a = some o
 | .xd fs => ∃ mA,h.Ns1 a mA /\ ∀ f,D4 (fs.lookup f) (mA f)
 | .rng lo hi => ∃ t u v,h.get? a = some { cls := .type "range",data := .fields #[.int lo t,.int hi u,.int 1 v] }
 | .frz o u => h.get? a = some o /\ B8 H h a u
 | .tbl ps => h.get? a = some { cls := .none,data := .fields ps }
 | .met f x => h.get? a = some (PySem.W.methodObj (.ref f) (.ref x))
 | .ext φ => φ h /\ (∃ o,h.get? a = some o) /\ ∀ h1 h2 : Heap,φ h1 -> (∀ o,h1.get? a = some o -> h2.get? a = some o) -> φ h2
def BE (H : Hp) (h : Heap) : Prop := ∀ a o,H a = some o -> B8 P w H h a o
end
section
variable {P : Program} {w : World} {H H' : Hp} {h h' : Heap} {a : Addr} {o : HO}
theorem B8.lt (x : B8 P w H h a o) : a < h.objs.size := by
 cases o with
 | lst xs => obtain ⟨_,_,_,_,e⟩ := x; exact Heap.lt_size e
 | tup xs => obtain ⟨_,_,_,p⟩ := x; exact p.t.lt
 | dK kvs => obtain ⟨_,_,_,_,o,_,_,e,_⟩ := x; exact Heap.lt_size e
 | dT kvs => obtain ⟨_,_,_,_,o,_,_,e,_⟩ := x; exact Heap.lt_size e
 | set S n => obtain ⟨o,_,_,_,e,_⟩ := x; exact Heap.lt_size e
 | ins C dx fs => obtain ⟨_,_,_,e,_⟩ := x; exact Heap.lt_size e
 | own y => obtain ⟨_,e⟩ := x; exact Heap.lt_size e
 | xd fs => obtain ⟨_,⟨_,_,_,e,_⟩,_⟩ := x; exact Heap.lt_size e
 | rng lo hi => obtain ⟨_,_,_,e⟩ := x; exact Heap.lt_size e
 | frz ob u => obtain ⟨e,_⟩ := x; exact Heap.lt_size e
 | tbl ps => exact Heap.lt_size (show h.get? a = some _ from x)
 | met f y => exact Heap.lt_size (show h.get? a = some _ from x)
 | ext φ => obtain ⟨_,⟨_,e⟩,_⟩ := x; exact Heap.lt_size e
theorem Paired.mapP {α β : Type} {F G : α -> β -> Prop} : ∀ {l₁ : List α} {l₂ : List β},Paired F l₁ l₂ -> (∀ a b,F a b -> G a b) -> Paired G l₁ l₂
 | _,_,.nil,_ => .nil
 | _,_,.cons r t,f => .cons (f _ _ r) (Paired.mapP t f)
theorem B8.stay (x : B8 P w H h a o) (k : ∀ b u,(b = a \/ H b = some (.own a)) -> h.get? b = some u -> h'.get? b = some u)
  (ho : ∀ b,H b = some (.own a) -> H' b = some (.own a)) (ht : ∀ b xs,H b = some (.tup xs) -> H' b = some (.tup xs)) : B8 P w H' h' a o := by
 induction o with
 | lst xs => obtain ⟨z,its,n,r,e⟩ := x; exact ⟨z,its,n,r,k _ _ (.inl rfl) e⟩
 | tup xs => obtain ⟨z,its,r,ob,e,c⟩ := x; exact ⟨z,its,r,ob,k _ _ (.inl rfl) e,c⟩
 | dK kvs => obtain ⟨z,y,vs,r,ob,es,ep,e,c⟩ := x; exact ⟨z,y,vs,r,ob,es,ep,k _ _ (.inl rfl) e,c⟩
 | dT kvs =>
  obtain ⟨z,y,xs,r,ob,es,ep,e,c⟩ := x
  exact ⟨z,y,xs,Paired.mapP r λ p q z => ⟨z.1,ht _ _ z.2.1,z.2.2⟩,ob,es,ep,k _ _ (.inl rfl) e,c⟩
 | set S n => obtain ⟨ob,es,ep,t,e,c⟩ := x; exact ⟨ob,es,ep,t,k _ _ (.inl rfl) e,c⟩
 | ins C dx fs =>
  obtain ⟨d,z,ne,e,mA,⟨od,es,ep,e2,c⟩,r⟩ := x
  exact ⟨ho _ d,z,ne,k _ _ (.inl rfl) e,mA,⟨od,es,ep,k _ _ (.inr d) e2,c⟩,r⟩
 | own y => obtain ⟨ob,e⟩ := x; exact ⟨ob,k _ _ (.inl rfl) e⟩
 | xd fs => obtain ⟨mA,⟨od,es,ep,e,c⟩,r⟩ := x; exact ⟨mA,⟨od,es,ep,k _ _ (.inl rfl) e,c⟩,r⟩
 | rng lo hi => obtain ⟨t,u,v,e⟩ := x; exact ⟨t,u,v,k _ _ (.inl rfl) e⟩
 | frz ob u ih => obtain ⟨e,q⟩ := x; exact ⟨k _ _ (.inl rfl) e,ih q⟩
 | tbl ps =>
  have e : h.get? a = some { cls := .none,data := .fields ps } := x
  show h'.get? a = some { cls := .none,data := .fields ps }
  exact k a _ (.inl rfl) e
 | met f y =>
  have e : h.get? a = some (PySem.W.methodObj (.ref f) (.ref y)) := x
  show h'.get? a = some (PySem.W.methodObj (.ref f) (.ref y))
  exact k a _ (.inl rfl) e
 | ext φ => obtain ⟨p,⟨o,e⟩,st⟩ := x; exact ⟨st _ _ p λ o q => k _ _ (.inl rfl) q,⟨o,k _ _ (.inl rfl) e⟩,st⟩
theorem BE.lt (x : BE P w H h) (e : H a = some o) : a < h.objs.size := (x a o e).lt
theorem BE.fresh (x : BE P w H h) (e : h.objs.size <= a) : H a = none := by
 cases q : H a with
 | none => rfl
 | some u => exact absurd (Nat.lt_of_lt_of_le (x.lt q) e) (Nat.lt_irrefl _)
theorem BE.kept (x : BE P w H h) (k : ∀ b u,h.get? b = some u -> h'.get? b = some u) : BE P w H h' := λ a o e =>
 (x a o e).stay (λ b u _ q => k b u q) (λ _ q => q) λ _ _ q => q
theorem BE.laid (x : BE P w H h) (k : ∀ b u,h.get? b = some u -> h'.get? b = some u) (hp : h.objs.size <= a) (new : B8 P w (AL H a o) h' a o) : BE P w (AL H a o) h' := λ b u e => by
 have hn := x.fresh hp
 by_cases hb : b = a
 ·subst hb; rw [Bs] at e; cases e; exact new
 ·rw [A4 hb] at e
  exact (x b u e).stay (λ c v _ q => k c v q) (λ c q => by rw [A4 (DU q hn)]; exact q) λ c xs q => by rw [A4 (DU q hn)]; exact q
end
def Rd (H : Hp) (a : Addr) (u : HO) : Prop := H a = some u \/ ∃ o,H a = some (.frz o u)
theorem Rd.ok {P : Program} {w : World} {H : Hp} {h : Heap} {a : Addr} {u : HO} (r : Rd H a u) (x : BE P w H h) : B8 P w H h a u := by
 rcases r with r | ⟨o,r⟩
 ·exact x a u r
 ·obtain ⟨_,q⟩ := x a _ r
  exact q
def IN : Option HO -> Prop
 | some (.lst _) => True
 | some (.dK _) => True
 | some (.dT _) => True
 | some (.set _ _) => True
 | some (.ins _ _ _) => True
 | some (.ext _) => True
 | _ => False
section
variable {P : Program} {w : World} {H : Hp} {h h' : Heap} {x e : Addr} {o' : HO}
theorem BE.write (ok : BE P w H h) (mu : IN (H x)) (he : e = x \/ H e = some (.own x)) (k : ∀ b u,b ≠ e -> h.get? b = some u -> h'.get? b = some u) (heo : ∃ u,h'.get? e = some u)
  (new : B8 P w (AL H x o') h' x o') : BE P w (AL H x o') h' := λ b u q => by
 have nown : ∀ c y,H c = some (.own y) -> c ≠ x := λ c y r z => by subst z; rw [r] at mu; exact mu
 have ntup : ∀ c xs,H c = some (.tup xs) -> c ≠ x := λ c xs r z => by subst z; rw [r] at mu; exact mu
 by_cases hb : b = x
 ·subst hb; rw [Bs] at q; cases q; exact new
 ·rw [A4 hb] at q
  by_cases hbe : b = e
  ·have q' : H b = some (.own x) := by
    rcases he with z | z
    ·exact absurd (hbe.trans z) hb
    ·rw [hbe]; exact z
   rw [q] at q'; cases q'
   obtain ⟨v,hv⟩ := heo
   exact ⟨v,by rw [hbe]; exact hv⟩
  ·refine (ok b u q).stay (λ c v hc r => k c v ?_ r) (λ c r => by rw [A4 (nown c b r)]; exact r) λ c xs r => by rw [A4 (ntup c xs r)]; exact r
   rcases hc with rfl | hc
   ·exact hbe
   ·rintro rfl
    rcases he with z | z
    ·exact nown c b hc z
    ·rw [hc] at z; cases z; exact hb rfl
end
structure Un (fs ex : List Addr) (H H' : Hp) (h h' : Heap) : Prop where
 keep : ∀ b o,h.get? b = some o -> H b = none -> b ∉ fs -> b ∉ ex -> h'.get? b = some o
 slot : ∀ b o,h.get? b = some o -> H b = none -> b ∈ fs -> b ∉ ex -> ∃ sl,h'.get? b = some { o with slots := sl }
 free : ∀ b o,h.get? b = some o -> H b = none -> b ∉ ex -> H' b = none
 there : ∀ b o,h.get? b = some o -> b ∉ ex -> ∃ o',h'.get? b = some o'
 tups : ∀ b xs,H b = some (.tup xs) -> H' b = some (.tup xs)
 frzs : ∀ b o u,H b = some (.frz o u) -> H' b = some (.frz o u)
 tbls : ∀ b ps,H b = some (.tbl ps) -> ∃ more,H' b = some (.tbl (ps ++ more))
section
variable {fs fs' ex ex' : List Addr} {H H1 H2 : Hp} {h h1 h2 h' : Heap} {a x e : Addr} {o : HO}
theorem Un.any (u : Un fs ex H H1 h h1) {b : Addr} {ob : Obj} (q : h.get? b = some ob) (n : H b = none) (hx : b ∉ ex) : ∃ sl,h1.get? b = some { ob with slots := sl } := by
 by_cases hb : b ∈ fs
 ·exact u.slot b ob q n hb hx
 ·exact ⟨ob.slots,u.keep b ob q n hb hx⟩
theorem Un.kept (k : ∀ b u,h.get? b = some u -> h'.get? b = some u) : Un fs ex H H h h' :=
 ⟨λ b ob q _ _ _ => k b ob q,λ b ob q _ _ _ => ⟨ob.slots,k b ob q⟩,λ _ _ _ n _ => n,λ b ob q _ => ⟨ob,k b ob q⟩,λ _ _ q => q,λ _ _ _ q => q,λ _ ps q => ⟨#[],by rw [q]; simp⟩⟩
theorem Un.refl : Un fs ex H H h h := Un.kept λ _ _ q => q
theorem Un.laid (k : ∀ b u,h.get? b = some u -> h'.get? b = some u) (hp : h.objs.size <= a) (hn : H a = none) : Un fs ex H (AL H a o) h h' where
 keep := λ b u q _ _ _ => k b u q
 slot := λ b u q _ _ _ => ⟨u.slots,k b u q⟩
 free := λ b u q n _ => by rw [A4 (Nat.ne_of_lt (Nat.lt_of_lt_of_le (Heap.lt_size q) hp))]; exact n
 there := λ b u q _ => ⟨u,k b u q⟩
 tups := λ b xs q => by rw [A4 (DU q hn)]; exact q
 frzs := λ b u xs q => by rw [A4 (DU q hn)]; exact q
 tbls := λ b ps q => ⟨#[],by rw [A4 (DU q hn),q]; simp⟩
theorem Un.write (mu : IN (H x)) (he : e = x \/ H e = some (.own x)) (k : ∀ b u,b ≠ e -> h.get? b = some u -> h'.get? b = some u) (heo : ∃ u,h'.get? e = some u) : Un fs ex H (AL H x o) h h' := by
 have hx : ∀ b,H b = none -> b ≠ x := λ b n z => by subst z; rw [n] at mu; exact mu
 have hb : ∀ b,H b = none -> b ≠ e := λ b n z => by
  subst z
  rcases he with r | r
  ·exact hx b n r
  ·rw [n] at r; cases r
 have hm : ∀ b u,H b = some u -> ¬ IN (some u) -> b ≠ x := λ b u q nm z => by subst z; rw [q] at mu; exact nm mu
 refine ⟨λ b u q n _ _ => k b u (hb b n) q,λ b u q n _ _ => ⟨u.slots,k b u (hb b n) q⟩,λ b u q n _ => by rw [A4 (hx b n)]; exact n,λ b u q _ => ?_,
  λ b xs q => by rw [A4 (hm b _ q λ z => z)]; exact q,λ b u xs q => by rw [A4 (hm b _ q λ z => z)]; exact q,λ b ps q => ⟨#[],by rw [A4 (hm b _ q λ z => z),q]; simp⟩⟩
 by_cases hbe : b = e
 ·subst hbe; exact heo
 ·exact ⟨u,k b u hbe q⟩
end
def He (h : Heap) (H : Hp) : List Addr := (List.range h.objs.size).filter λ a => (H a).isSome
def Ej (h : Heap) (H : Hp) : Heap := PySem.W.hideAll h (He h H)
theorem Wi (h : Heap) (H : Hp) : (Ej h H).objs.size = h.objs.size := PySem.W.hideAll_size _ _
theorem Wj {h : Heap} {H : Hp} {b : Addr} {o : Obj} (e : h.get? b = some o) (n : H b = none) : (Ej h H).get? b = some o :=
 PySem.W.hideAll_get _ e λ hm => by
  have q : (H b).isSome = true := (List.mem_filter.mp hm).2
  rw [n] at q; simp at q
theorem Vm {h : Heap} {H : Hp} {b : Addr} {o : Obj} (e : (Ej h H).get? b = some o) : h.get? b = some o /\ H b = none := by
 have e' : h.get? b = some o := PySem.W.of_hideAll (He h H) e
 refine ⟨e',?_⟩
 cases q : H b with
 | none => rfl
 | some x =>
  have hm : b ∈ He h H := List.mem_filter.mpr ⟨List.mem_range.mpr (Heap.lt_size e'),by simp [q]⟩
  have z : (Ej h H).get? b = none := PySem.W.hideAll_none (He h H) hm
  rw [z] at e; cases e
def Ye (g h : Heap) (L : Addr) : List (Addr × Obj) := (List.range h.objs.size).filterMap λ a => if a = L \/ (g.get? a).isSome = true then none else (h.get? a).map λ o => (a,o)
def rest (g h : Heap) (L d : Addr) : List (Addr × Obj) := (Ye g h L).filter λ p => decide (p.1 ≠ d)
end L2
namespace L2
open PySem PySem.Spec PyProof.Rows
structure Mod (K : PySem.W.Frag) (mg : Str -> Option Value) (base : Heap) : Prop where
 kin : K.In base
 glob : base.Ns mainGlobals mg
 blt : ∃ mb,base.Ns builtinsNs mb /\ ∀ x : Str,x ≠ "__name__" -> mb x = bootBuiltins x
 nolimit : base.NoLimit
structure Cx where
 prog : Program
 w : World
 K : PySem.W.Frag
 mg : Str -> Option Value
 base : Heap
 A : Around
 N : List Str
 s₀ : Shared
 H₀ : Hp
 env : Env
 outer : List Env
 stack : List Env
 ex : List Addr
 fn : Str -> Bool
 calm : Bool
 pn : List (Addr × Obj)
 xe : Value -> Shared -> Prop
def CG (l : List Env) : List Addr := l.filterMap (·.frame)
abbrev Cx.fs (X : Cx) : List Addr := CG X.outer
def Es (sc : Scope) (x : Str) : Prop := sc.names.lookup x = some .local \/ sc.names.lookup x = some .cell \/ sc.names.lookup x = some .free
def Et (sc : Scope) (x : Str) : Prop := sc.names.lookup x = some .local \/ sc.names.lookup x = some .cell
def Zw (env : Env) (h : Heap) (m : Str -> Option Value) (x : Str) (u : Value) : Prop :=
 (env.kindOf x = some .local /\ m x = some u) \/ ((env.kindOf x = some .cell \/ env.kindOf x = some .free) /\ ∃ c,env.cells.lookup x = some c /\ h.IsCell c (some u))
structure Cx.Ok (X : Cx) : Prop where
 mod : Mod X.K X.mg X.base
 kind : X.env.scope.kind = .function
 glob : X.env.globals = mainGlobals
 blt : X.env.builtins = builtinsNs
 above : X.s₀.heap.objs.size <= X.env.locals
 inj : ∀ x y c,X.env.cells.lookup x = some c -> X.env.cells.lookup y = some c -> x = y
 has : ∀ x,(X.env.kindOf x = some .cell \/ X.env.kindOf x = some .free) -> ∃ c,X.env.cells.lookup x = some c
 cab : ∀ x c,X.fn x = true -> X.env.cells.lookup x = some c -> X.s₀.heap.objs.size <= c
 hd : X.calm = true -> X.A.handled = none
 frames : X.A.frames = some X.stack
 stk : X.stack = X.outer \/ (X.stack = X.env :: X.outer /\ X.env.frame = some X.env.locals)
 exf : ∀ b ∈ X.ex,b ≠ X.env.locals /\ ∀ x c,X.env.cells.lookup x = some c -> c ≠ b
 bs : ∀ b o,X.base.get? b = some o -> X.s₀.heap.get? b = some o /\ X.H₀ b = none
 bsz : X.base.objs.size <= X.s₀.heap.objs.size
 noex : ∀ b o,X.base.get? b = some o -> b ∉ X.ex
 exfs : ∀ b ∈ X.ex,b ∉ X.fs
 funs : X.s₀.heap.FunFrames X.base X.outer
 frf : ∀ b ∈ X.fs,X.H₀ b = none
structure Inv (X : Cx) (pins : List (Addr × Obj)) (σ : List (Option V)) (H : Hp) (s : Shared) : Prop where
 ok : X.Ok
 os : s.os = X.s₀.os
 bare : AllBare s.gens
 base : Un X.fs X.ex X.H₀ H X.s₀.heap s.heap
 loc : ∃ m,s.heap.Ns X.env.locals m /\ ∀ (i : Nat) (x : Str) (v : V),X.N[i]? = some x -> σ[i]? = some (some v) -> Es X.env.scope x -> ∃ u,AX v u /\ Zw X.env s.heap m x u
 cell : ∀ x c,X.env.cells.lookup x = some c -> ∃ v,s.heap.IsCell c v
 free : H X.env.locals = none
 freeC : ∀ x c,X.env.cells.lookup x = some c -> H c = none
 pin : ∀ p ∈ X.pn ++ pins,s.heap.get? p.1 = some p.2 /\ H p.1 = none /\ p.1 ≠ X.env.locals /\ p.1 ∉ X.fs /\ ∀ v,p.2.data ≠ .cell v
 hok : BE X.prog X.w H s.heap
 len : σ.length = X.N.length
section
variable {X : Cx} {pins : List (Addr × Obj)} {σ : List (Option V)} {H H' : Hp} {s : Shared} {h' : Heap}
theorem Cx.Ok.nofr (ok : X.Ok) {b : Addr} {o : Obj} (e : X.base.get? b = some o) : b ∉ X.fs := λ hb => by
 have := (ok.funs.mem hb).1
 rw [e] at this; cases this
theorem Inv.bs (I : Inv X pins σ H s) : ∀ b o,X.base.get? b = some o -> s.heap.get? b = some o /\ H b = none := λ b o e =>
 ⟨I.base.keep b o (I.ok.bs b o e).1 (I.ok.bs b o e).2 (I.ok.nofr e) (I.ok.noex b o e),I.base.free b o (I.ok.bs b o e).1 (I.ok.bs b o e).2 (I.ok.noex b o e)⟩
theorem Inv.bk (I : Inv X pins σ H s) : ∀ b o,X.base.get? b = some o -> s.heap.get? b = some o := λ b o e => (I.bs b o e).1
theorem Inv.mod (I : Inv X pins σ H s) : Mod X.K X.mg X.base := I.ok.mod
theorem Inv.kIn (I : Inv X pins σ H s) : X.K.In s.heap := I.ok.mod.kin.keeps I.bk
theorem Inv.lt (I : Inv X pins σ H s) : X.env.locals < s.heap.objs.size := let ⟨_,hn,_⟩ := I.loc; hn.lt
theorem Inv.sz (I : Inv X pins σ H s) : X.s₀.heap.objs.size <= s.heap.objs.size := Nat.le_trans I.ok.above (Nat.le_of_lt I.lt)
theorem Inv.nofs (I : Inv X pins σ H s) {a : Addr} (h : s.heap.objs.size <= a) : a ∉ X.fs := λ hb => by
 obtain ⟨_,o,ho,_⟩ := I.ok.funs.mem hb
 exact absurd (Nat.lt_of_lt_of_le (Heap.lt_size ho) (Nat.le_trans I.sz h)) (Nat.lt_irrefl _)
theorem Inv.cne (I : Inv X pins σ H s) : ∀ x c,X.env.cells.lookup x = some c -> c ≠ X.env.locals := λ x c e z => by
 obtain ⟨v,o,ho,hd⟩ := I.cell x c e
 obtain ⟨m,⟨o',es,ep,ho',hd',_⟩,_⟩ := I.loc
 rw [z,ho'] at ho; cases ho; rw [hd'] at hd; cases hd
theorem Inv.funs (I : Inv X pins σ H s) : s.heap.FunFrames X.base X.outer := by
 have all : ∀ (l : List Env),(∀ b ∈ CG l,b ∈ X.fs) -> X.s₀.heap.FunFrames X.base l -> s.heap.FunFrames X.base l := by
  intro l
  induction l with
  | nil => intro _ _; trivial
  | cons env r ih =>
   intro hs hl
   obtain ⟨hk,⟨L,o,hf,hn,ho,hd⟩,hr⟩ := hl
   have hL : L ∈ X.fs := hs L (by unfold CG; rw [List.filterMap_cons,hf]; exact List.mem_cons_self)
   obtain ⟨sl,e⟩ := I.base.slot L o ho (I.ok.frf L hL) hL λ z => I.ok.exfs L z hL
   exact ⟨hk,⟨L,_,hf,hn,e,hd⟩,ih (λ b hb => hs b (by unfold CG; rw [List.filterMap_cons,hf]; exact List.mem_cons_of_mem _ hb)) hr⟩
 exact all X.outer (λ _ hb => hb) I.ok.funs
theorem Inv.stack (I : Inv X pins σ H s) : s.heap.FunFrames X.base X.stack := by
 rcases I.ok.stk with e | ⟨e,hf⟩
 ·rw [e]; exact I.funs
 ·rw [e]
  obtain ⟨m,hn,_⟩ := I.loc
  refine .cons (by rw [I.ok.kind]; decide) hf hn ?_ I.funs
  exact Heap.get?_none_of_le (Nat.le_trans I.ok.bsz I.ok.above)
theorem Inv.stkSub (I : Inv X pins σ H s) : ∀ b ∈ CG X.stack,b ∈ X.env.locals :: X.fs := λ b hb => by
 rcases I.ok.stk with e | ⟨e,hf⟩
 ·rw [e] at hb; exact List.mem_cons_of_mem _ hb
 ·rw [e] at hb
  unfold CG at hb
  rw [List.filterMap_cons,hf] at hb
  exact hb
theorem Inv.stkFree (I : Inv X pins σ H s) : ∀ b ∈ CG X.stack,H b = none := λ b hb => by
 rcases List.mem_cons.mp (I.stkSub b hb) with e | hb
 ·rw [e]; exact I.free
 ·obtain ⟨_,o,ho,_⟩ := I.ok.funs.mem hb
  exact I.base.free b o ho (I.ok.frf b hb) λ z => I.ok.exfs b z hb
theorem Inv.step {g' : Array GenState} {t' : Nat} {d' : Drawn} {ch : List Addr} (I : Inv X pins σ H s)
  (hch : ∀ b ∈ ch,(b ∈ X.ex \/ X.s₀.heap.objs.size <= b) /\ b ≠ X.env.locals /\ (∀ x c,X.env.cells.lookup x = some c -> c ≠ b) /\ ∀ p ∈ X.pn ++ pins,p.1 ≠ b)
  (keep : ∀ b o,b ≠ X.env.locals -> b ∉ X.fs -> b ∉ ch -> s.heap.get? b = some o -> H b = none -> h'.get? b = some o)
  (slot : ∀ b o,b ≠ X.env.locals -> b ∈ X.fs -> b ∉ ch -> s.heap.get? b = some o -> H b = none -> ∃ sl,h'.get? b = some { o with slots := sl }) (free : ∀ b o,b ∉ ch -> s.heap.get? b = some o -> H b = none -> H' b = none)
  (there : ∀ b o,b ∉ ch -> s.heap.get? b = some o -> ∃ o',h'.get? b = some o')
  (tups : ∀ b xs,H b = some (.tup xs) -> H' b = some (.tup xs)) (frzs : ∀ b o u,H b = some (.frz o u) -> H' b = some (.frz o u)) (tbls : ∀ b ps,H b = some (.tbl ps) -> ∃ more,H' b = some (.tbl (ps ++ more)))
  (ns : ∀ m,s.heap.Ns X.env.locals m -> h'.Ns X.env.locals m) (hok : BE X.prog X.w H' h') (hg : AllBare g') :
  Inv X pins σ H' { s with heap := h',gens := g',drawn := d',toks := t' } := by
 have neL : ∀ b o,X.s₀.heap.get? b = some o -> b ≠ X.env.locals := λ b o e => Nat.ne_of_lt (Nat.lt_of_lt_of_le (Heap.lt_size e) I.ok.above)
 have neC : ∀ b o,X.s₀.heap.get? b = some o -> b ∉ X.ex -> b ∉ ch := λ b o e hx hb => by
  rcases (hch b hb).1 with z | z
  ·exact hx z
  ·exact absurd (Nat.lt_of_lt_of_le (Heap.lt_size e) z) (Nat.lt_irrefl _)
 have cellK : ∀ x c,X.env.cells.lookup x = some c -> ∀ v,s.heap.IsCell c v -> h'.IsCell c v := λ x c e v ⟨o,ho,hd⟩ => by
  have nch : c ∉ ch := λ z => (hch c z).2.2.1 x c e rfl
  by_cases hc : c ∈ X.fs
  ·obtain ⟨sl,q⟩ := slot c o (I.cne x c e) hc nch ho (I.freeC x c e)
   exact ⟨_,q,hd⟩
  ·exact ⟨o,keep c o (I.cne x c e) hc nch ho (I.freeC x c e),hd⟩
 refine ⟨I.ok,I.os,hg,⟨λ b o e n hb hx => ?_,λ b o e n hb hx => ?_,λ b o e n hx => ?_,λ b o e hx => ?_,λ b xs e => tups b xs (I.base.tups b xs e),λ b o xs e => frzs b o xs (I.base.frzs b o xs e),λ b ps e => ?_⟩,?_,λ x c e => ?_,?_,λ x c e => ?_,λ p hp => ?_,hok,I.len⟩
 ·exact keep b o (neL b o e) hb (neC b o e hx) (I.base.keep b o e n hb hx) (I.base.free b o e n hx)
 ·obtain ⟨sl,e1⟩ := I.base.slot b o e n hb hx
  obtain ⟨sl',e2⟩ := slot b _ (neL b o e) hb (neC b o e hx) e1 (I.base.free b o e n hx)
  exact ⟨sl',e2⟩
 ·obtain ⟨o',e1⟩ := I.base.there b o e hx
  exact free b o' (neC b o e hx) e1 (I.base.free b o e n hx)
 ·obtain ⟨o',e1⟩ := I.base.there b o e hx
  exact there b o' (neC b o e hx) e1
 ·obtain ⟨m1,e1⟩ := I.base.tbls b ps e
  obtain ⟨m2,e2⟩ := tbls b _ e1
  exact ⟨m1 ++ m2,by rw [e2,Array.append_assoc]⟩
 ·obtain ⟨m,hn,hl⟩ := I.loc
  refine ⟨m,ns m hn,λ i x v e1 e2 e3 => ?_⟩
  obtain ⟨u,r,l⟩ := hl i x v e1 e2 e3
  refine ⟨u,r,?_⟩
  rcases l with l | ⟨k,c,e,z⟩
  ·exact .inl l
  ·exact .inr ⟨k,c,e,cellK x c e _ z⟩
 ·obtain ⟨v,z⟩ := I.cell x c e
  exact ⟨v,cellK x c e v z⟩
 ·obtain ⟨m,⟨o,_,_,ho,_⟩,_⟩ := I.loc
  exact free _ o (λ z => (hch _ z).2.1 rfl) ho I.free
 ·obtain ⟨v,o,ho,hd⟩ := I.cell x c e
  exact free c o (λ z => (hch c z).2.2.1 x c e rfl) ho (I.freeC x c e)
 ·obtain ⟨e,n,ne,nf,d⟩ := I.pin p hp
  have nch : p.1 ∉ ch := λ z => (hch p.1 z).2.2.2 p hp rfl
  exact ⟨keep p.1 p.2 ne nf nch e n,free p.1 p.2 nch e n,ne,nf,d⟩
theorem Inv.un {t' : Nat} (I : Inv X pins σ H s) (u : Un X.fs [] H H' s.heap h') (hok : BE X.prog X.w H' h') : Inv X pins σ H' { s with heap := h',toks := t' } := by
 obtain ⟨m,⟨o,es,ep,ho,r⟩,_⟩ := id I.loc
 obtain ⟨sl,hL⟩ := u.any ho I.free (by simp)
 exact I.step (g' := s.gens) (d' := s.drawn) (ch := []) (λ _ z => nomatch z) (λ b o _ hb _ e n => u.keep b o e n hb (by simp)) (λ b o _ hb _ e n => u.slot b o e n hb (by simp)) (λ b o _ e n => u.free b o e n (by simp)) (λ b o _ e => u.there b o e (by simp)) u.tups u.frzs u.tbls (λ m' hm => by
  obtain ⟨o',es',ep',ho',r'⟩ := hm
  rw [ho] at ho'; cases ho'
  exact ⟨_,es',ep',hL,r'⟩) hok I.bare
theorem Inv.call {g' : Array GenState} {t' : Nat} {d' : Drawn} {ch : List Addr} (I : Inv X pins σ H s) (u : Un (CG X.stack) ch H H' s.heap h') (hok : BE X.prog X.w H' h') (hg : AllBare g')
  (hch : ∀ b ∈ ch,(b ∈ X.ex \/ X.s₀.heap.objs.size <= b) /\ b ≠ X.env.locals /\ (∀ x c,X.env.cells.lookup x = some c -> c ≠ b) /\ ∀ p ∈ X.pn ++ pins,p.1 ≠ b) :
  Inv X pins σ H' { s with heap := h',gens := g',drawn := d',toks := t' } := by
 obtain ⟨m,⟨o,es,ep,ho,r⟩,_⟩ := id I.loc
 obtain ⟨sl,hL⟩ := u.any ho I.free λ z => (hch _ z).2.1 rfl
 exact I.step (ch := ch) hch (λ b o hL hb hc e n => u.keep b o e n (λ z => (List.mem_cons.mp (I.stkSub b z)).elim hL hb) hc) (λ b o _ _ hc e n => u.any e n hc) (λ b o hc e n => u.free b o e n hc) (λ b o hc e => u.there b o e hc) u.tups u.frzs u.tbls (λ m' hm => by
  obtain ⟨o',es',ep',ho',r'⟩ := hm
  rw [ho] at ho'; cases ho'
  exact ⟨_,es',ep',hL,r'⟩) hok hg
theorem Inv.turned {t' : Nat} {it : Addr} (I : Inv X pins σ H s) (k : ∀ b o,b ≠ it -> s.heap.get? b = some o -> h'.get? b = some o) (hn : H it = none) (hL : it ≠ X.env.locals)
  (h1 : it ∈ X.ex \/ X.s₀.heap.objs.size <= it) (h2 : ∀ x c,X.env.cells.lookup x = some c -> c ≠ it) (h3 : ∀ p ∈ X.pn ++ pins,p.1 ≠ it) : Inv X pins σ H { s with heap := h',toks := t' } := by
 have nit : ∀ b u,H b = some u -> b ≠ it := λ b u e z => by rw [z,hn] at e; cases e
 refine I.step (g' := s.gens) (d' := s.drawn) (ch := [it]) (λ b hb => ?_) (λ b o _ _ hc e _ => k b o (λ z => hc (by simp [z])) e) (λ b o _ _ hc e _ => ⟨o.slots,k b o (λ z => hc (by simp [z])) e⟩) (λ _ _ _ _ n => n)
  (λ b o hc e => ⟨o,k b o (λ z => hc (by simp [z])) e⟩) (λ _ _ e => e) (λ _ _ _ e => e) (λ b ps e => ⟨#[],by rw [e]; simp⟩) (λ m hm => ?_) (λ b u e => ?_) I.bare
 ·have e : b = it := by simpa using hb
  subst e
  exact ⟨h1,hL,h2,h3⟩
 ·obtain ⟨o,es,ep,ho,r⟩ := hm
  exact ⟨o,es,ep,k _ o (Ne.symm hL) ho,r⟩
 ·refine (I.hok b u e).stay (λ c v hc q => k c v ?_ q) (λ _ q => q) λ _ _ q => q
  rcases hc with z | z
  ·rw [z]; exact nit b u e
  ·exact nit c _ z
theorem Inv.tok (I : Inv X pins σ H s) (t : Nat) : Inv X pins σ H { s with toks := t } := I.un (h' := s.heap) (t' := t) Un.refl I.hok
theorem Inv.kept {t' : Nat} (I : Inv X pins σ H s) (k : ∀ b u,s.heap.get? b = some u -> h'.get? b = some u) : Inv X pins σ H { s with heap := h',toks := t' } := I.un (Un.kept k) (I.hok.kept k)
theorem Inv.laid {a : Addr} {o : HO} {t' : Nat} (I : Inv X pins σ H s) (k : ∀ b u,s.heap.get? b = some u -> h'.get? b = some u) (hp : s.heap.objs.size <= a) (new : B8 X.prog X.w (AL H a o) h' a o) :
  Inv X pins σ (AL H a o) { s with heap := h',toks := t' } := I.un (Un.laid k hp (I.hok.fresh hp)) (I.hok.laid k hp new)
theorem Inv.write {x e : Addr} {o : HO} {t' : Nat} (I : Inv X pins σ H s) (mu : IN (H x)) (he : e = x \/ H e = some (.own x)) (k : ∀ b u,b ≠ e -> s.heap.get? b = some u -> h'.get? b = some u) (heo : ∃ u,h'.get? e = some u)
  (new : B8 X.prog X.w (AL H x o) h' x o) : Inv X pins σ (AL H x o) { s with heap := h',toks := t' } := I.un (Un.write mu he k heo) (I.hok.write mu he k heo new)
theorem Inv.pins_of {pins' : List (Addr × Obj)} (I : Inv X pins σ H s) (h : ∀ p ∈ pins',s.heap.get? p.1 = some p.2 /\ H p.1 = none /\ p.1 ≠ X.env.locals /\ p.1 ∉ X.fs /\ ∀ v,p.2.data ≠ .cell v) : Inv X pins' σ H s :=
 ⟨I.ok,I.os,I.bare,I.base,I.loc,I.cell,I.free,I.freeC,λ p hp => (List.mem_append.mp hp).elim (λ z => I.pin p (List.mem_append_left _ z)) (h p),I.hok,I.len⟩
theorem Oj {N : List Str} (hN : N.Nodup) {i j : Nat} {x : Str} (a : N[i]? = some x) (b : N[j]? = some x) : i = j := by
 obtain ⟨h1,e1⟩ := List.getElem?_eq_some_iff.mp a
 obtain ⟨h2,e2⟩ := List.getElem?_eq_some_iff.mp b
 exact (List.getElem_inj hN).mp (e1.trans e2.symm)
theorem Ms {M : Model} {A : Around} {E : Value -> Shared -> Prop} {i : Nat} {x : Str} {v : V} {u : Value} {Q : Unit -> Shared -> Prop} (I : Inv X pins σ H s) (hN : X.N.Nodup) (hi : X.N[i]? = some x) (hx : Et X.env.scope x) (r : AX v u)
  (h : ∀ s',Inv X pins (σ.set i (some v)) H s' -> (∃ a,Heap.SameBut a s.heap s'.heap /\ (a = X.env.locals \/ X.env.cells.lookup x = some a)) -> Q () s') (hf : X.fn x = true \/ X.env.scope.names.lookup x = some .local := by first | exact .inl rfl | exact .inr rfl | assumption) : wpAny M A (storeName X.env x u) Q E s := by
 obtain ⟨m,hn,hl⟩ := id I.loc
 have hcls : (X.env.scope.kind == .class || (X.env.scope.kind == .module && X.env.locals != X.env.globals)) = false := by rw [I.ok.kind]; rfl
 have hiσ : i < σ.length := by rw [I.len]; exact (List.getElem?_eq_some_iff.mp hi).1
 have cne := I.cne
 have tracked : ∀ {a : Addr} {h' : Heap},(∃ o,s.heap.get? a = some o /\ H a = none) -> Heap.SameBut a s.heap h' -> BE X.prog X.w H h' := λ {a h'} ha hs b ob e => by
  obtain ⟨_,_,hfree⟩ := ha
  refine (I.hok b ob e).stay (λ c w' hc q => (hs.2 c ?_).trans q) (λ _ q => q) λ _ _ q => q
  rintro rfl
  rcases hc with rfl | hc
  ·rw [hfree] at e; cases e
  ·rw [hfree] at hc; cases hc
 rcases hx with hk | hk
 ·refine wpAny_storeName_local hk hn (λ h' hn' hs => ?_) hcls
  obtain ⟨oL,_,_,hoL,_⟩ := id hn
  refine h _ ⟨I.ok,I.os,I.bare,⟨λ b o e n hb hx => ?_,λ b o e n hb hx => ?_,I.base.free,λ b o e hx => ?_,I.base.tups,I.base.frzs,I.base.tbls⟩,⟨_,hn',λ j y v' e1 e2 e3 => ?_⟩,λ y c e => ?_,I.free,I.freeC,λ p hp => ?_,tracked ⟨oL,hoL,I.free⟩ hs,by simpa using I.len⟩ ⟨_,hs,.inl rfl⟩
  ·exact (hs.2 b (Nat.ne_of_lt (Nat.lt_of_lt_of_le (Heap.lt_size e) I.ok.above))).trans (I.base.keep b o e n hb hx)
  ·obtain ⟨sl,e1⟩ := I.base.slot b o e n hb hx
   exact ⟨sl,(hs.2 b (Nat.ne_of_lt (Nat.lt_of_lt_of_le (Heap.lt_size e) I.ok.above))).trans e1⟩
  ·obtain ⟨o',e1⟩ := I.base.there b o e hx
   exact ⟨o',(hs.2 b (Nat.ne_of_lt (Nat.lt_of_lt_of_le (Heap.lt_size e) I.ok.above))).trans e1⟩
  ·by_cases hj : j = i
   ·subst hj
    rw [hi] at e1; cases e1
    rw [List.getElem?_set_self hiσ] at e2
    cases e2
    exact ⟨u,r,.inl ⟨hk,by simp⟩⟩
   ·rw [List.getElem?_set_ne (Ne.symm hj)] at e2
    obtain ⟨u',r',q⟩ := hl j y v' e1 e2 e3
    refine ⟨u',r',?_⟩
    rcases q with ⟨k,e⟩ | ⟨k,c,e,z⟩
    ·refine .inl ⟨k,?_⟩
     have : y ≠ x := λ e => hj (Oj hN e1 (e ▸ hi))
     simp [this,e]
    ·exact .inr ⟨k,c,e,z.sameBut hs (cne y c e)⟩
  ·obtain ⟨w',z⟩ := I.cell y c e
   exact ⟨w',z.sameBut hs (cne y c e)⟩
  ·obtain ⟨e,n,ne,nf,d⟩ := I.pin p hp
   exact ⟨(hs.2 p.1 ne).trans e,n,ne,nf,d⟩
 ·have hfn : X.fn x = true := by
   rcases hf with z | z
   ·exact z
   ·rw [z] at hk; cases hk
  obtain ⟨c,hc⟩ := I.ok.has x (.inl hk)
  obtain ⟨w',z⟩ := I.cell x c hc
  refine wpAny_storeName_cell I.ok.kind hk hc z (λ h' hc' hs => ?_)
  obtain ⟨oc,hoc,hocd⟩ := id z
  refine h { s with heap := h' } ⟨I.ok,I.os,I.bare,⟨λ b o e n hb hx => ?_,λ b o e n hb hx => ?_,I.base.free,λ b o e hx => ?_,I.base.tups,I.base.frzs,I.base.tbls⟩,⟨m,hn.sameBut hs (Ne.symm (cne x c hc)),λ j y v' e1 e2 e3 => ?_⟩,λ y c' e => ?_,I.free,I.freeC,λ p hp => ?_,tracked ⟨oc,hoc,I.freeC x c hc⟩ hs,by simpa using I.len⟩ ⟨c,hs,.inr hc⟩
  ·exact (hs.2 b (Nat.ne_of_lt (Nat.lt_of_lt_of_le (Heap.lt_size e) (I.ok.cab x c hfn hc)))).trans (I.base.keep b o e n hb hx)
  ·obtain ⟨sl,e1⟩ := I.base.slot b o e n hb hx
   exact ⟨sl,(hs.2 b (Nat.ne_of_lt (Nat.lt_of_lt_of_le (Heap.lt_size e) (I.ok.cab x c hfn hc)))).trans e1⟩
  ·obtain ⟨o',e1⟩ := I.base.there b o e hx
   exact ⟨o',(hs.2 b (Nat.ne_of_lt (Nat.lt_of_lt_of_le (Heap.lt_size e) (I.ok.cab x c hfn hc)))).trans e1⟩
  ·by_cases hj : j = i
   ·subst hj
    rw [hi] at e1; cases e1
    rw [List.getElem?_set_self hiσ] at e2
    cases e2
    exact ⟨u,r,.inr ⟨.inl hk,c,hc,hc'⟩⟩
   ·rw [List.getElem?_set_ne (Ne.symm hj)] at e2
    obtain ⟨u',r',q⟩ := hl j y v' e1 e2 e3
    refine ⟨u',r',?_⟩
    rcases q with q | ⟨k,c',e,z'⟩
    ·exact .inl q
    ·refine .inr ⟨k,c',e,z'.sameBut hs ?_⟩
     rintro rfl
     exact hj (Oj hN e1 (I.ok.inj _ _ _ e hc ▸ hi))
  ·by_cases hcc : c' = c
   ·subst hcc; exact ⟨_,hc'⟩
   ·obtain ⟨w2,z2⟩ := I.cell y c' e
    exact ⟨w2,z2.sameBut hs hcc⟩
  ·obtain ⟨e,n,ne,nf,d⟩ := I.pin p hp
   refine ⟨(hs.2 p.1 ?_).trans e,n,ne,nf,d⟩
   intro q
   rw [q,hoc] at e
   have q' : oc = p.2 := Option.some.inj e
   exact d w' (by rw [<- q']; exact hocd)
theorem Mt {M : Model} {A : Around} {E : Value -> Shared -> Prop} {i : Nat} {x : Str} {v : V} {u : Value} {Q : Unit -> Shared -> Prop} (I : Inv X pins σ H s) (hN : X.N.Nodup) (hi : X.N[i]? = some x) (hx : Et X.env.scope x) (r : AX v u)
  (h : ∀ s',Inv X pins (σ.set i (some v)) H s' -> Q () s') (hf : X.fn x = true \/ X.env.scope.names.lookup x = some .local := by first | exact .inl rfl | exact .inr rfl | assumption) : wpAny M A (storeName X.env x u) Q E s :=
 Ms I hN hi hx r (λ s' I' _ => h s' I') hf
theorem Inv.call' {s' : Shared} {ch : List Addr} (I : Inv X pins σ H s) (ho : s'.os = s.os) (u : Un (CG X.stack) ch H H' s.heap s'.heap) (hok : BE X.prog X.w H' s'.heap) (hg : AllBare s'.gens)
  (hch : ∀ b ∈ ch,(b ∈ X.ex \/ X.s₀.heap.objs.size <= b) /\ b ≠ X.env.locals /\ (∀ x c,X.env.cells.lookup x = some c -> c ≠ b) /\ ∀ p ∈ X.pn ++ pins,p.1 ≠ b) : Inv X pins σ H' s' := by
 obtain ⟨h',g',d',t',o'⟩ := s'
 have e : o' = s.os := ho
 subst e
 exact I.call (g' := g') (t' := t') (d' := d') u hok hg hch
end
abbrev XK := Value -> Option Addr -> Hp -> Prop
abbrev St := List (Option V)
abbrev VK := V -> Hp -> Prop
abbrev TE := St -> Hp -> VK -> Prop
abbrev TT := St -> Hp -> (Bool -> Hp -> Prop) -> Prop
abbrev TA := St -> Hp -> (List V -> Hp -> Prop) -> Prop
structure FI where
 nx : St -> Hp -> Prop
 rt : VK
 bk : St -> Hp -> Prop := λ _ _ => False
 ct : St -> Hp -> Prop := λ _ _ => False
abbrev TS := FI -> St -> Hp -> Prop
def EP (X : Cx) (pins : List (Addr × Obj)) (σ : St) (Q : VK) (u : Value) (s' : Shared) : Prop := ∃ v H',Inv X pins σ H' s' /\ AX v u /\ Q v H'
def TP (X : Cx) (pins : List (Addr × Obj)) (σ : St) (Q : Bool -> Hp -> Prop) (b : Bool) (s' : Shared) : Prop := ∃ H',Inv X pins σ H' s' /\ Q b H'
def AP (X : Cx) (pins : List (Addr × Obj)) (σ : St) (Q : List V -> Hp -> Prop) (us : List Value) (s' : Shared) : Prop := ∃ vs H',Inv X pins σ H' s' /\ Az vs us /\ Q vs H'
def SP (X : Cx) (pins : List (Addr × Obj)) (D : FI) (f : Flow) (s' : Shared) : Prop :=
 match f with
 | .next => ∃ σ' H',Inv X pins σ' H' s' /\ D.nx σ' H'
 | .brk => ∃ σ' H',Inv X pins σ' H' s' /\ D.bk σ' H'
 | .cont => ∃ σ' H',Inv X pins σ' H' s' /\ D.ct σ' H'
 | .ret u => ∃ v σ' H',Inv X pins σ' H' s' /\ AX v u /\ D.rt v H'
def PE (X : Cx) (e : Expr) (t : TE) : Prop :=
 ∀ (pins : List (Addr × Obj)) (s : Shared) (σ : St) (H : Hp) (Q : VK),Inv X pins σ H s -> t σ H Q -> wpAny (model X.prog X.w) X.A (eval e X.env) (EP X pins σ Q) X.xe s
def PT (X : Cx) (e : Expr) (t : TT) : Prop :=
 ∀ (pins : List (Addr × Obj)) (s : Shared) (σ : St) (H : Hp) (Q : Bool -> Hp -> Prop),Inv X pins σ H s -> t σ H Q -> wpAny (model X.prog X.w) X.A (isTrue e X.env (eval e X.env)) (TP X pins σ Q) X.xe s
def PW (X : Cx) (e : Expr) (t : TT) : Prop :=
 ∀ (whole : Sem Value) (pins : List (Addr × Obj)) (s : Shared) (σ : St) (H : Hp) (Q : Bool -> Hp -> Prop),Inv X pins σ H s -> t σ H Q -> wpAny (model X.prog X.w) X.A (isTrue e X.env whole) (TP X pins σ Q) X.xe s
theorem PW.pt {X : Cx} {e : Expr} {t : TT} (h : PW X e t) : PT X e t := h _
def PA (X : Cx) (es : List Expr) (t : TA) : Prop :=
 ∀ (pos : Pos) (pins : List (Addr × Obj)) (s : Shared) (σ : St) (H : Hp) (Q : List V -> Hp -> Prop),Inv X pins σ H s -> t σ H Q -> wpAny (model X.prog X.w) X.A (spliced (backTo pos (starEach es X.env))) (AP X pins σ Q) X.xe s
def PS (X : Cx) (st : Stmt) (t : TS) : Prop :=
 ∀ (pins : List (Addr × Obj)) (s : Shared) (σ : St) (H : Hp) (D : FI),Inv X pins σ H s -> t D σ H -> wpAny (model X.prog X.w) X.A (exec st X.env) (SP X pins D) X.xe s
def PSs (X : Cx) (st : List Stmt) (t : TS) : Prop :=
 ∀ (pins : List (Addr × Obj)) (s : Shared) (σ : St) (H : Hp) (D : FI),Inv X pins σ H s -> t D σ H -> wpAny (model X.prog X.w) X.A (execs st X.env) (SP X pins D) X.xe s
theorem Aq {α : Type} {t : Sem α} {Q Q' : α -> Shared -> Prop} {M : Model} {A : Around} {E : Value -> Shared -> Prop} {s : Shared} (h : wpAny M A t Q E s) (hQ : ∀ a s,Q a s -> Q' a s) : wpAny M A t Q' E s := wpAny_mono h hQ λ _ _ x => x
end L2
namespace L2
open PySem PySem.Spec PyProof.Rows
section
variable {X : Cx}
def QQ (i : Nat) : TE := λ σ H Q => ∃ v,σ[i]? = some (some v) /\ Q v H
def tC (v : V) : TE := λ _ H Q => Q v H
theorem TC {i : Nat} {x : Str} {pos : Pos} (hN : X.N[i]? = some x) (hv : Es X.env.scope x) (hd : (x == ("__debug__" : Str)) = false := by decide) (hcd : (x == ("__classdict__" : Str)) = false := by decide) : PE X (.Name x pos) (QQ i) := by
 intro pins s σ H Q I h
 obtain ⟨v,e,h⟩ := h
 obtain ⟨m,hn,hl⟩ := I.loc
 obtain ⟨u,r,l⟩ := hl i x v hN e hv
 have fin : EP X pins σ Q u s := ⟨v,H,I,r,h⟩
 rcases l with ⟨hk,hm⟩ | ⟨hk,c,hc,hcell⟩
 ·exact wpAny_Name (wpAny_loadName_local I.ok.kind hk hn hm fin) hd
 ·rcases hk with hk | hk
  ·exact wpAny_Name (wpAny_loadName_cell I.ok.kind hk hc hcell fin) hd
  ·exact wpAny_Name (wpAny_loadName_free I.ok.kind hk hc hcell fin hcd) hd
theorem TN {i j pos} : PE X (.Constant (.int i) j pos) (tC (.int i)) := λ _ _ _ H _ I h => wpAny_Constant_int ⟨.int i,H,I.tok _,⟨_,rfl⟩,h⟩
theorem TV {b j pos} : PE X (.Constant (.bool b) j pos) (tC (.bl b)) := λ _ _ _ H _ I h => Constant_bool ⟨.bl b,H,I,rfl,h⟩
theorem TK {j pos} : PE X (.Constant .none j pos) (tC .non) := λ _ _ _ H _ I h => Constant_none ⟨.non,H,I,rfl,h⟩
theorem TD {x j pos} : PE X (.Constant (.str x) j pos) (tC (.str x)) := λ _ _ _ H _ I h => Calls.Constant_str ⟨.str x,H,I.tok _,⟨_,rfl⟩,h⟩
def Gl (X : Cx) (x : Str) : Prop := X.env.kindOf x = some .globalImplicit
theorem HX {E : Value -> Shared -> Prop} {pins : List (Addr × Obj)} {s : Shared} {σ : St} {H : Hp} {x : Str} {u : Value} {pos : Pos} {Q : Value -> Shared -> Prop} (I : Inv X pins σ H s) (hg : Gl X x) (hm : X.mg x = some u) (h : Q u s)
  (hd : (x == ("__debug__" : Str)) = false := by decide) : wpAny (model X.prog X.w) X.A (eval (.Name x pos) X.env) Q E s :=
 Calls.Name_function_global I.ok.kind hg (Calls.loadGlobal_global (by rw [I.ok.glob]; exact I.mod.glob.keeps I.bk) hm h) hd
theorem EI {E : Value -> Shared -> Prop} {pins : List (Addr × Obj)} {s : Shared} {σ : St} {H : Hp} {x : Str} {u : Value} {pos : Pos} {Q : Value -> Shared -> Prop} (I : Inv X pins σ H s) (hg : Gl X x) (hm : X.mg x = none) (hv : bootBuiltins x = some u) (h : Q u s)
  (hn : x ≠ "__name__" := by decide) (hd : (x == ("__debug__" : Str)) = false := by decide) : wpAny (model X.prog X.w) X.A (eval (.Name x pos) X.env) Q E s := by
 obtain ⟨mb,h1,h2⟩ := I.mod.blt
 exact Calls.Name_function_global I.ok.kind hg (Calls.loadGlobal_builtin (by rw [I.ok.glob]; exact I.mod.glob.keeps I.bk) hm (by rw [I.ok.blt]; exact h1.keeps I.bk) ((h2 x hn).trans hv) h) hd
theorem NW {x : Str} {v : V} {u : Value} {pos : Pos} (hg : Gl X x) (hm : X.mg x = some u) (r : AX v u) (hd : (x == ("__debug__" : Str)) = false := by decide) : PE X (.Name x pos) (tC v) :=
 λ _ _ _ H _ I h => HX I hg hm ⟨v,H,I,r,h⟩ hd
theorem TU {x : Str} {v : V} {u : Value} {pos : Pos} (hg : Gl X x) (hm : X.mg x = none) (hv : bootBuiltins x = some u) (r : AX v u) (hn : x ≠ "__name__" := by decide) (hd : (x == ("__debug__" : Str)) = false := by decide) : PE X (.Name x pos) (tC v) :=
 λ _ _ _ H _ I h => EI I hg hm hv ⟨v,H,I,r,h⟩ hn hd
variable {a b : Expr} {ta tb : TE} {pos : Pos}
variable {tA tB' : TT} {rest : List Expr}
def QY (t : TT) : TT := λ σ H Q => t σ H λ c H1 => Q (!c) H1
theorem SR (ha : PT X a tA) : PW X (.BoolOp .And [a] pos) tA := by
 intro wh pins s σ H Q I h
 refine isTrue_and (Aq (ha pins s σ H Q I h) λ c s1 e => ?_)
 cases c with
 | true => exact isTrue_and_nil e
 | false => exact e
theorem SQ (ha : PT X a tA) : PW X (.BoolOp .Or [a] pos) tA := by
 intro wh pins s σ H Q I h
 refine isTrue_or (Aq (ha pins s σ H Q I h) λ c s1 e => ?_)
 cases c with
 | false => exact isTrue_or_nil e
 | true => exact e
theorem NM (ha : PT X a tA) : PT X (.UnaryOp .Not a pos) (QY tA) := by
 intro pins s σ H Q I h
 exact isTrue_not (ha pins s σ H (λ c H1 => Q (!c) H1) I h)
def QX (ta : TE) : TE := λ σ H Q => ta σ H λ x H1 => ∃ c,x = .bl c /\ Q (.bl (!c)) H1
theorem TH {op} {t : TE} (h : PE X a t) : PE X (.BoolOp op [a] pos) t := λ pins s σ H Q I hw => BoolOp_one (h pins s σ H Q I hw)
theorem TJ (ha : PE X a ta) : PE X (.UnaryOp .Not a pos) (QX ta) := by
 intro pins s σ H Q I h
 refine UnaryOp_ (Aq (ha pins s σ H _ I h) λ v s1 ⟨x,H1,I1,r1,q1⟩ => ?_)
 obtain ⟨c,rfl,q1⟩ := q1
 cases r1
 exact not_of (wpAny_truthy_bool ⟨.bl (!c),H1,I1,rfl,q1⟩)
def tIf (t : TT) (ta tb : TE) : TE := λ σ H Q => t σ H λ c H1 => if c = true then ta σ H1 Q else tb σ H1 Q
theorem NV {c : Expr} (hc : PT X c tA) (ha : PE X a ta) (hb : PE X b tb) : PE X (.IfExp c a b pos) (tIf tA ta tb) := by
 intro pins s σ H Q I h
 refine wpAny_IfExp (Aq (hc pins s σ H _ I h) λ d s1 ⟨H1,I1,q1⟩ => ?_)
 cases d with
 | true => exact ha pins s1 σ H1 Q I1 q1
 | false => exact hb pins s1 σ H1 Q I1 q1
end
end L2
namespace L2
open PySem PySem.Spec PyProof.Rows
def Be (K : PySem.W.Frag) (H : Hp) (a : Addr) (xs : List V) : Prop :=
 Rd H a (.lst xs) \/
  ∃ (o : Obj) (its : Array Value) (n : Nat),K.lookup a = some o /\ o.cls = .type "list" /\ o.dict = none /\ o.data = .seq its n /\ its.size <= sizeLine /\ Az xs its.toList
def Bc (K : PySem.W.Frag) (H : Hp) (a : Addr) (xs : List V) : Prop :=
 Rd H a (.tup xs) \/
  ∃ (o : Obj) (its : Array Value) (n : Nat),K.lookup a = some o /\ o.cls = .type "tuple" /\ o.dict = none /\ o.data = .seq its n /\ its.size <= sizeLine /\ Az xs its.toList
def Yh : Value -> Option V
 | .none => some .non
 | .bool b => some (.bl b)
 | .int i _ => some (.int i)
 | .str x _ => some (.str x)
 | .bytes b _ => some (.byt b)
 | .float b _ => some (.flt b)
 | .ref a => some (.ref a)
 | .type n => some (.ty n)
 | _ => none
theorem AX.abs {x : V} {u : Value} (r : AX x u) : Yh u = some x := by
 cases x with
 | non => cases r; rfl
 | bl _ => cases r; rfl
 | int _ => obtain ⟨t,rfl⟩ := r; rfl
 | str _ => obtain ⟨t,rfl⟩ := r; rfl
 | byt _ => obtain ⟨t,rfl⟩ := r; rfl
 | flt _ => obtain ⟨t,rfl⟩ := r; rfl
 | ref _ => cases r; rfl
 | ty _ => cases r; rfl
theorem AX.inj {x y : V} {u : Value} (r : AX x u) (q : AX y u) : x = y := Option.some.inj (r.abs.symm.trans q.abs)
theorem Az.inj : ∀ {xs ys : List V} {us : List Value},Az xs us -> Az ys us -> xs = ys
 | _,_,_,.nil,.nil => rfl
 | _,_,_,.cons r t,.cons r' t' => by rw [r.inj r',Az.inj t t']
section
variable {X : Cx} {pins : List (Addr × Obj)} {σ : St} {H : Hp} {s : Shared} {a : Addr} {xs ys : List V}
theorem Be.of {K : PySem.W.Frag} (h : H a = some (.lst xs)) : Be K H a xs := .inl (.inl h)
theorem Bc.of {K : PySem.W.Frag} (h : H a = some (.tup xs)) : Bc K H a xs := .inl (.inl h)
theorem Inv.list (I : Inv X pins σ H s) (h : Be X.K H a xs) : ∃ its : List Value,Az xs its /\ PlainL s.heap a its.toArray /\ xs.length <= sizeLine := by
 rcases h with h | ⟨o,its,n,hk,hc,hd,hs,hz,r⟩
 ·obtain ⟨z,its,n,r,e⟩ := h.ok I.hok
  exact ⟨its,r,⟨_,n,e,rfl,rfl,rfl⟩,z⟩
 ·refine ⟨its.toList,r,⟨o,n,I.kIn a o hk,hc,hd,by simpa using hs⟩,?_⟩
  have e := r.length
  simp only [Array.length_toList] at e
  omega
theorem Inv.tuple (I : Inv X pins σ H s) (h : Bc X.K H a xs) : ∃ its : List Value,Az xs its /\ IsTup s.heap a its.toArray /\ xs.length <= sizeLine := by
 rcases h with h | ⟨o,its,n,hk,hc,_,hs,hz,r⟩
 ·obtain ⟨z,its,r,p⟩ := h.ok I.hok
  exact ⟨its,r,p.t,z⟩
 ·refine ⟨its.toList,r,⟨o,I.kIn a o hk,hc,n,by simpa using hs⟩,?_⟩
  have e := r.length
  simp only [Array.length_toList] at e
  omega
theorem Inv.tupN (I : Inv X pins σ H s) (h : Bc X.K H a xs) : ∃ its : List Value,Az xs its /\ DM s.heap a its.toArray /\ xs.length <= sizeLine := by
 rcases h with h | ⟨o,its,n,hk,hc,hd,hs,hz,r⟩
 ·obtain ⟨z,its,r,p⟩ := h.ok I.hok
  exact ⟨its,r,p,z⟩
 ·refine ⟨its.toList,r,⟨o,I.kIn a o hk,hd,hc,n,by simpa using hs⟩,?_⟩
  have e := r.length
  simp only [Array.length_toList] at e
  omega
theorem Inv.list_inj (I : Inv X pins σ H s) (h : Be X.K H a xs) (h' : Be X.K H a ys) : xs = ys := by
 obtain ⟨its,r,⟨o,n,e,_,_,d⟩,_⟩ := I.list h
 obtain ⟨its',r',⟨o',n',e',_,_,d'⟩,_⟩ := I.list h'
 rw [e] at e'; cases e'
 rw [d] at d'
 injection d' with d1 _
 have : its = its' := by simpa using congrArg Array.toList d1
 subst this
 exact r.inj r'
theorem Inv.tuple_inj (I : Inv X pins σ H s) (h : Bc X.K H a xs) (h' : Bc X.K H a ys) : xs = ys := by
 obtain ⟨its,r,⟨o,e,_,n,d⟩,_⟩ := I.tuple h
 obtain ⟨its',r',⟨o',e',_,n',d'⟩,_⟩ := I.tuple h'
 rw [e] at e'; cases e'
 rw [d] at d'
 injection d' with d1 _
 have : its = its' := by simpa using congrArg Array.toList d1
 subst this
 exact r.inj r'
end
abbrev Cx.wish (X : Cx) (E : Value -> Shared -> Prop) : Cx := { X with xe := E }
abbrev Cx.nox (X : Cx) : Cx := X.wish λ _ _ => False
theorem Cx.Ok.wish {X : Cx} (ok : X.Ok) (E : Value -> Shared -> Prop) : (X.wish E).Ok :=
 ⟨ok.mod,ok.kind,ok.glob,ok.blt,ok.above,ok.inj,ok.has,ok.cab,ok.hd,ok.frames,ok.stk,ok.exf,ok.bs,ok.bsz,ok.noex,ok.exfs,ok.funs,ok.frf⟩
theorem Cx.Ok.unwish {X : Cx} {E : Value -> Shared -> Prop} (ok : (X.wish E).Ok) : X.Ok :=
 ⟨ok.mod,ok.kind,ok.glob,ok.blt,ok.above,ok.inj,ok.has,ok.cab,ok.hd,ok.frames,ok.stk,ok.exf,ok.bs,ok.bsz,ok.noex,ok.exfs,ok.funs,ok.frf⟩
section
variable {X : Cx} {pins : List (Addr × Obj)} {σ : St} {H : Hp} {s : Shared} {E : Value -> Shared -> Prop}
theorem Inv.wish (I : Inv X pins σ H s) (E : Value -> Shared -> Prop) : Inv (X.wish E) pins σ H s := ⟨I.ok.wish E,I.os,I.bare,I.base,I.loc,I.cell,I.free,I.freeC,I.pin,I.hok,I.len⟩
theorem Inv.unwish (I : Inv (X.wish E) pins σ H s) : Inv X pins σ H s := ⟨I.ok.unwish,I.os,I.bare,I.base,I.loc,I.cell,I.free,I.freeC,I.pin,I.hok,I.len⟩
theorem SP.unwish {D : FI} {f : Flow} {s' : Shared} (h : SP (X.wish E) pins D f s') : SP X pins D f s' := by
 cases f with
 | next => obtain ⟨σ',H',I,q⟩ := h; exact ⟨σ',H',I.unwish,q⟩
 | brk => obtain ⟨σ',H',I,q⟩ := h; exact ⟨σ',H',I.unwish,q⟩
 | cont => obtain ⟨σ',H',I,q⟩ := h; exact ⟨σ',H',I.unwish,q⟩
 | ret u => obtain ⟨v,σ',H',I,r,q⟩ := h; exact ⟨v,σ',H',I.unwish,r,q⟩
theorem PSs.nox {st : List Stmt} {t : TS} (h : PSs X.nox st t) : PSs X st t := λ pins s σ H D I hw =>
 wpAny_mono (h pins s σ H D (I.wish _) hw) (λ _ _ q => q.unwish) λ _ _ z => False.elim z
end
section
variable {X : Cx} {st : Stmt} {rest : List Stmt} {t u : TS} {e : Expr} {te : TE} {pos : Pos}
def Q0 : TS := λ D σ H => D.nx σ H
def QT (t u : TS) : TS := λ D σ H => t { D with nx := u D } σ H
theorem S8 : PSs X [] Q0 := λ _ _ σ H _ I h => wpAny_execs_nil ⟨σ,H,I,h⟩
theorem S9 (h1 : PS X st t) (h2 : PSs X rest u) : PSs X (st :: rest) (QT t u) := by
 intro pins s σ H D I h
 refine wpAny_execs_cons (Aq (h1 pins s σ H { D with nx := u D } I h) λ f s1 q => ?_)
 cases f with
 | next =>
  obtain ⟨σ',H',I',q⟩ := q
  exact h2 pins s1 σ' H' D I' q
 | ret v => exact q
 | brk => exact q
 | cont => exact q
theorem Inv.quiet {pins : List (Addr × Obj)} {σ : St} {H : Hp} {s : Shared} (I : Inv X pins σ H s) : interactive X.env = false := by simp [interactive,I.ok.kind]
def Q7 (te : TE) : TS := λ D σ H => te σ H λ _ H1 => D.nx σ H1
theorem KK (he : PE X e te) (hs : swapsWith e none pos.line X.env = pure false := by rfl) : PS X (.Expr e pos) (Q7 te) := by
 intro pins s σ H D I h
 exact wpAny_Expr_any (Aq (he pins s σ H _ I h) λ v s1 ⟨x,H1,I1,r1,q1⟩ => ⟨σ,H1,I1,q1⟩) I.quiet hs
def QU (te : TE) : TS := λ D σ H => te σ H D.rt
theorem Td (he : PE X e te) : PS X (.Return (some e) pos) (QU te) := by
 intro pins s σ H D I h
 exact wpAny_Return_some (Aq (he pins s σ H _ I h) λ v s1 ⟨x,H1,I1,r1,q1⟩ => ⟨x,σ,H1,I1,r1,q1⟩)
def Q3 (c : TT) (t u : TS) : TS := λ D σ H => c σ H λ b H1 => if b = true then t D σ H1 else u D σ H1
theorem NN {c : Expr} {a b : List Stmt} {tc : TT} (hc : PT X c tc) (ha : PSs X a t) (hb : PSs X b u) : PS X (.If c a b pos) (Q3 tc t u) := by
 intro pins s σ H D I h
 refine wpAny_If (Aq (hc pins s σ H _ I h) λ d s1 ⟨H1,I1,q1⟩ => ?_)
 cases d with
 | true => exact ha pins s1 σ H1 D I1 q1
 | false => exact hb pins s1 σ H1 D I1 q1
end
abbrev TG := V -> St -> Hp -> (St -> Hp -> Prop) -> Prop
abbrev FA := List V -> St -> Hp -> (St -> Hp -> Prop) -> Prop
def PG (X : Cx) (target : Expr) (t : TG) : Prop :=
 ∀ (pins : List (Addr × Obj)) (s : Shared) (σ : St) (H : Hp) (v : V) (u : Value) (Q : St -> Hp -> Prop),Inv X pins σ H s -> AX v u -> t v σ H Q ->
  wpAny (model X.prog X.w) X.A (assign target X.env u) (λ _ s' => ∃ σ' H',Inv X pins σ' H' s' /\ Q σ' H') X.xe s
def GX (X : Cx) (ts : List Expr) (t : FA) : Prop :=
 ∀ (pins : List (Addr × Obj)) (s : Shared) (σ : St) (H : Hp) (vs : List V) (us : List Value) (Q : St -> Hp -> Prop),Inv X pins σ H s -> Az vs us -> t vs σ H Q ->
  wpAny (model X.prog X.w) X.A (assignInOrder ((assignEach ts X.env).map (·.2)) us) (λ _ s' => ∃ σ' H',Inv X pins σ' H' s' /\ Q σ' H') X.xe s
section
variable {X : Cx} {pos : Pos}
def OP (i : Nat) : TG := λ v σ H Q => Q (σ.set i (some v)) H
theorem TB {i : Nat} {x : Str} (hN : X.N.Nodup) (hi : X.N[i]? = some x) (hx : Et X.env.scope x) (hf : X.fn x = true \/ X.env.scope.names.lookup x = some .local := by first | exact .inl rfl | exact .inr rfl | assumption) : PG X (.Name x pos) (OP i) := by
 intro pins s σ H v u Q I r h
 exact wpAny_assign_Name (Mt I hN hi hx r (λ s' I' => ⟨_,H,I',h⟩) hf)
def Wt : FA := λ vs σ H Q => vs = [] /\ Q σ H
def Wu (t : TG) (u : FA) : FA := λ vs σ H Q => ∃ v r,vs = v :: r /\ t v σ H λ σ' H' => u r σ' H' Q
theorem Tw : GX X [] Wt := by
 intro pins s σ H vs us Q I r h
 obtain ⟨e,h⟩ := h
 subst e
 cases r
 exact assignInOrder_nil ⟨σ,H,I,h⟩
theorem Tx {e : Expr} {es : List Expr} {t : TG} {u : FA} (h1 : PG X e t) (h2 : GX X es u)
  (hs : (assignEach (e :: es) X.env).map (·.2) = assign e X.env :: (assignEach es X.env).map (·.2) := by rfl) : GX X (e :: es) (Wu t u) := by
 intro pins s σ H vs us Q I r h
 obtain ⟨v,vr,e1,h⟩ := h
 subst e1
 cases r with
 | cons r rr =>
  rw [hs]
  refine assignInOrder_cons (Aq (h1 pins s σ H _ _ _ I r h) λ _ s1 ⟨σ1,H1,I1,q1⟩ => ?_)
  exact h2 pins s1 σ1 H1 _ _ Q I1 rr q1
def Ws (K : PySem.W.Frag) (n : Nat) (t : FA) : TG := λ v σ H Q => ∃ a xs,v = .ref a /\ Bc K H a xs /\ xs.length = n /\ t xs σ H Q
theorem Tz {es : List Expr} {k : Nat} {t : FA} {n : Nat} (hc : X.calm = true) (h : GX X es t)
  (hn : (assignEach es X.env).length = n := by rfl) (hst : (assignEach es X.env).findIdx? (·.1) = none := by rfl) : PG X (.Tuple es k pos) (Ws X.K n t) := by
 intro pins s σ H v u Q I r hw
 obtain ⟨a,xs,e1,hq,hl,hw⟩ := hw
 subst e1
 cases r
 obtain ⟨its,rv,ht,hz⟩ := I.tuple hq
 refine assign_Tuple_tuple (I.ok.hd hc) ht (by simp [hn,<- hl,rv.length]) hst λ h' hx => ?_
 have I1 : Inv X pins σ H { s with heap := h' } := I.kept (t' := s.toks) λ b o e => hx b o (Nat.ne_of_lt (Heap.lt_size e)) e
 exact h pins _ σ H xs _ Q I1 (by simpa using rv) hw
def Mq (te : TE) (g : TG) : TS := λ D σ H => te σ H λ x H1 => g x σ H1 D.nx
theorem NO {tg e : Expr} {te : TE} {g : TG} (he : PE X e te) (hg : PG X tg g) (hs : swapsWithSole [tg] e pos.line X.env = pure false := by rfl) (hw : swappedStores [tg] e X.env = pure none := by rfl)
  (h1 : (assignEach [tg] X.env).map (·.2) = [assign tg X.env] := by rfl) : PS X (.Assign [tg] e pos) (Mq te g) := by
 intro pins s σ H D I h
 refine wpAny_Assign_stores (Aq (he pins s σ H _ I h) λ v s1 ⟨x,H1,I1,r1,q1⟩ => ?_) hs hw
 rw [h1]
 exact Aq (hg pins s1 σ H1 x v _ I1 r1 q1) λ _ s2 q => q
theorem Tc {i : Nat} {x : Str} {e : Expr} {te : TE} {pos' : Pos} (hN : X.N.Nodup) (hi : X.N[i]? = some x) (hx : Et X.env.scope x) (he : PE X e te) (hs : swapsWith e (some (.Name x pos')) pos.line X.env = pure false := by rfl) (hf : X.fn x = true \/ X.env.scope.names.lookup x = some .local := by first | exact .inl rfl | exact .inr rfl | assumption) :
  PS X (.Assign [.Name x pos'] e pos) (Mq te (OP i)) := by
 intro pins s σ H D I h
 refine wpAny_Assign_Name (Aq (he pins s σ H _ I h) λ v s1 ⟨y,H1,I1,r1,q1⟩ => ?_) hs
 exact Mt I1 hN hi hx r1 (λ s2 I2 => ⟨_,H1,I2,q1⟩) hf
end
section
variable {X : Cx} {pos : Pos}
end
structure It where
 go : Nat -> Hp -> Prop
 yld : Nat -> Hp -> V -> Hp -> Prop
 stop : Nat -> Hp -> Prop
def Cg (X : Cx) (pins : List (Addr × Obj)) (H : Hp) (b : Addr) : Prop :=
 H b = none /\ b ≠ X.env.locals /\ b ∉ X.fs /\ (b ∈ X.ex \/ X.s₀.heap.objs.size <= b) /\ (∀ x c,X.env.cells.lookup x = some c -> c ≠ b) /\ ∀ p ∈ X.pn ++ pins,p.1 ≠ b
theorem Inv.fpOk {X : Cx} {pins : List (Addr × Obj)} {σ : St} {H H' : Hp} {s : Shared} {b : Addr} (I : Inv X pins σ H s) (hb : s.heap.objs.size <= b) (hn : H' b = none) : Cg X pins H' b := by
 refine ⟨hn,Nat.ne_of_gt (Nat.lt_of_lt_of_le I.lt hb),I.nofs hb,.inr (Nat.le_trans I.sz hb),λ x c e z => ?_,λ p hp z => ?_⟩
 ·obtain ⟨v,q⟩ := I.cell x c e
  exact absurd (Nat.lt_of_lt_of_le q.lt (by rw [z]; exact hb)) (Nat.lt_irrefl _)
 ·exact absurd (Nat.lt_of_lt_of_le (Heap.lt_size (I.pin p hp).1) (by rw [z]; exact hb)) (Nat.lt_irrefl _)
structure EO (P : Program) (w : World) (K : PySem.W.Frag) (tg : Expr) (J : It) (fp : List Addr) (it : Addr) (tn : Nat -> Heap -> Prop) : Prop where
 mem : it ∈ fp
 obj : ∀ i h,tn i h -> ∀ b ∈ fp,∃ o,h.get? b = some o /\ ∀ v,o.data ≠ .cell v
 keep : ∀ i h h',tn i h -> (∀ b ∈ fp,∀ o,h.get? b = some o -> h'.get? b = some o) -> tn i h'
 item : ∀ (X : Cx),X.prog = P -> X.w = w -> X.K = K -> X.calm = true -> ∀ (i : Nat) (pins : List (Addr × Obj)) (s : Shared) (σ : St) (H : Hp) (E : Value -> Shared -> Prop),Inv X pins σ H s -> (∀ b ∈ fp,Cg X pins H b) -> tn i s.heap -> J.go i H ->
  wpAny (model P w) X.A (pyNext (.ref it)) (λ r s1 => ∃ u,r = some u /\
   wpAny (model P w) X.A (letOwnedTupleGo tg (.ref it) u) (λ _ s2 => ∃ x H',Inv X pins σ H' s2 /\ AX x u /\ J.yld i H x H' /\ tn (i + 1) s2.heap /\ ∀ b ∈ fp,H' b = none) E s1) E s
 done : ∀ (X : Cx),X.prog = P -> X.w = w -> X.K = K -> X.calm = true -> ∀ (i : Nat) (pins : List (Addr × Obj)) (s : Shared) (σ : St) (H : Hp) (E : Value -> Shared -> Prop),Inv X pins σ H s -> (∀ b ∈ fp,Cg X pins H b) -> tn i s.heap -> J.stop i H ->
  wpAny (model P w) X.A (pyNext (.ref it)) (λ r s1 => r = none /\ Inv X pins σ H s1) E s
 self : ∀ (A : Around) (i : Nat) (s : Shared) (Q : Value -> Shared -> Prop) (E : Value -> Shared -> Prop),tn i s.heap -> Q (.ref it) s -> wpAny (model P w) A (pyIter (.ref it)) Q E s
abbrev TI := St -> Hp -> (It -> Hp -> Prop) -> Prop
def LE (X : Cx) (pins : List (Addr × Obj)) (σ : St) (tg : Expr) (R : It -> Hp -> Prop) (itv : Value) (s2 : Shared) : Prop :=
 ∃ (it : Addr) (fp : List Addr) (tn : Nat -> Heap -> Prop) (J : It) (H' : Hp),itv = .ref it /\ Inv X pins σ H' s2 /\ EO X.prog X.w X.K tg J fp it tn /\ tn 0 s2.heap /\ (∀ b ∈ fp,Cg X pins H' b) /\ R J H'
def PI (X : Cx) (tg iter : Expr) (wi : TI) : Prop :=
 ∀ (pins : List (Addr × Obj)) (s : Shared) (σ : St) (H : Hp) (R : It -> Hp -> Prop),Inv X pins σ H s -> wi σ H R ->
  wpAny (model X.prog X.w) X.A (eval iter X.env) (λ v s1 => wpAny (model X.prog X.w) X.A (pyIter v) (LE X pins σ tg R) X.xe s1) X.xe s
theorem K7 {M : Model} {A : Around} {E : Value -> Shared -> Prop} {s : Shared} {tg : Expr} {it : Addr} {u : Value} {o : Obj} {n : String} {vs : Array Value} {Q : Unit -> Shared -> Prop} (ho : s.heap.get? it = some o) (hc : o.cls = .type n) (hd : o.data = .fields vs)
    (hn : ["enumerate","zip","dict_itemiterator","dict_reverseitemiterator","odict_iterator","itertools.zip_longest","itertools.pairwise"].contains n = false) (hQ : Q () s) : wpAny M A (letOwnedTupleGo tg (.ref it) u) Q E s := by
  unfold letOwnedTupleGo
  cases tg <;> first
    | exact wpAny_pure hQ
    | (cases u <;> first
        | exact wpAny_pure hQ
        | (refine wpAny_bind (wpAny_load ho ?_)
           rw [hc,hd]
           show wpAny M A (if (["enumerate","zip","dict_itemiterator","dict_reverseitemiterator","odict_iterator","itertools.zip_longest","itertools.pairwise"].contains n && vs[0]? == some (rawInt _)) = true then _ else _) Q E s
           rw [if_neg (by intro h; rw [hn,Bool.false_and] at h; cases h)]
           exact wpAny_pure hQ))
def LM (K : PySem.W.Frag) (a : Addr) : It :=
 ⟨λ i H => ∃ xs x,Be K H a xs /\ xs[i]? = some x,λ i H x H' => H' = H /\ ∀ xs,Be K H a xs -> xs[i]? = some x,λ i H => ∃ xs,Be K H a xs /\ xs.length <= i⟩
def LL (K : PySem.W.Frag) (a : Addr) : It :=
 ⟨λ i H => ∃ xs x,Bc K H a xs /\ xs[i]? = some x,λ i H x H' => H' = H /\ ∀ xs,Bc K H a xs -> xs[i]? = some x,λ i H => ∃ xs,Bc K H a xs /\ xs.length <= i⟩
def GY (lo : Int) (n : Nat) : It := ⟨λ i _ => i < n,λ i H x H' => H' = H /\ x = .int (lo + i),λ i _ => n <= i⟩
theorem QG {P : Program} {w : World} {K : PySem.W.Frag} {tg : Expr} (a it : Addr) : EO P w K tg (LM K a) [it] it (λ i h => h.IsListIter it a i) where
 mem := by simp
 obj := λ i h st b hb => by
  have e : b = it := by simpa using hb
  subst e
  obtain ⟨o,e,c,d⟩ := st
  exact ⟨o,e,λ v z => by rw [d] at z; cases z⟩
 keep := λ i h h' st k => st.at λ o e => k it (by simp) o e
 item := by
  intro X hP hw hK hc i pins s σ H E I hf st hg
  subst hP hw hK
  obtain ⟨xs,x,hq,hx⟩ := hg
  obtain ⟨its,rv,p,hz⟩ := I.list hq
  obtain ⟨u,hu,ru⟩ := rv.get hx
  obtain ⟨f0,f1,f2,f3,f4,f5⟩ := hf it (by simp)
  refine wpAny_pyNext_list_item st p.isList (x := u) (by simpa using hu) λ h' st' sb => ?_
  have I1 : Inv X pins σ H { s with heap := h' } := I.turned (t' := s.toks) (λ b o hb e => (sb.2 b hb).trans e) f0 f1 f3 f4 f5
  obtain ⟨o,e,c,d⟩ := id st'
  exact ⟨u,rfl,K7 (s := { s with heap := h' }) e c d wE ⟨x,H,I1,ru,⟨rfl,λ ys hy => by rw [I.list_inj hy hq]; exact hx⟩,st',λ b hb => (hf b hb).1⟩⟩
 done := by
  intro X hP hw hK hc i pins s σ H E I hf st hg
  subst hP hw hK
  obtain ⟨xs,hq,hx⟩ := hg
  obtain ⟨its,rv,p,hz⟩ := I.list hq
  obtain ⟨f0,f1,f2,f3,f4,f5⟩ := hf it (by simp)
  have hl := rv.length
  exact wpAny_pyNext_list_end (I.ok.hd hc) st p.isList (by simp; omega) λ h' eb => ⟨rfl,I.turned (t' := s.toks) (λ b o hb e => eb b o hb e) f0 f1 f3 f4 f5⟩
 self := λ _ _ _ _ _ st h => wpAny_pyIter_listiter st h
theorem QE {P : Program} {w : World} {K : PySem.W.Frag} {tg : Expr} (a it : Addr) : EO P w K tg (LL K a) [it] it (λ i h => h.IsTupleIter it a i) where
 mem := by simp
 obj := λ i h st b hb => by
  have e : b = it := by simpa using hb
  subst e
  obtain ⟨o,e,c,d⟩ := st
  exact ⟨o,e,λ v z => by rw [d] at z; cases z⟩
 keep := λ i h h' st k => st.at λ o e => k it (by simp) o e
 item := by
  intro X hP hw hK hc i pins s σ H E I hf st hg
  subst hP hw hK
  obtain ⟨xs,x,hq,hx⟩ := hg
  obtain ⟨its,rv,p,hz⟩ := I.tuple hq
  obtain ⟨u,hu,ru⟩ := rv.get hx
  obtain ⟨f0,f1,f2,f3,f4,f5⟩ := hf it (by simp)
  refine wpAny_pyNext_tuple_item st (show s.heap.IsTuple a its.toArray from p) (x := u) (by simpa using hu) λ h' st' sb => ?_
  have I1 : Inv X pins σ H { s with heap := h' } := I.turned (t' := s.toks) (λ b o hb e => (sb.2 b hb).trans e) f0 f1 f3 f4 f5
  obtain ⟨o,e,c,d⟩ := id st'
  exact ⟨u,rfl,K7 (s := { s with heap := h' }) e c d wE ⟨x,H,I1,ru,⟨rfl,λ ys hy => by rw [I.tuple_inj hy hq]; exact hx⟩,st',λ b hb => (hf b hb).1⟩⟩
 done := by
  intro X hP hw hK hc i pins s σ H E I hf st hg
  subst hP hw hK
  obtain ⟨xs,hq,hx⟩ := hg
  obtain ⟨its,rv,p,hz⟩ := I.tuple hq
  obtain ⟨f0,f1,f2,f3,f4,f5⟩ := hf it (by simp)
  have hl := rv.length
  exact wpAny_pyNext_tuple_end (I.ok.hd hc) st (show s.heap.IsTuple a its.toArray from p) (by simp; omega) λ h' eb => ⟨rfl,I.turned (t' := s.toks) (λ b o hb e => eb b o hb e) f0 f1 f3 f4 f5⟩
 self := λ _ _ _ _ _ st h => wpAny_pyIter_tupleiter st h
theorem QF {P : Program} {w : World} {K : PySem.W.Frag} {tg : Expr} (it : Addr) (lo : Int) (n : Nat) : EO P w K tg (GY lo n) [it] it (λ i h => IsRangeIter h it (lo + (i : Nat) * 1) ((n : Int) - (i : Nat)) 1) where
 mem := by simp
 obj := λ i h st b hb => by
  have e : b = it := by simpa using hb
  subst e
  exact ⟨_,st,λ v z => by
   have z' : Data.fields _ = Data.cell v := z
   cases z'⟩
 keep := λ i h h' st k => k it (by simp) _ st
 item := by
  intro X hP hw hK hc i pins s σ H E I hf st hg
  subst hP hw hK
  obtain ⟨f0,f1,f2,f3,f4,f5⟩ := hf it (by simp)
  have W := Walks.range (prog := X.prog) (w := X.w) (I.ok.hd hc) it lo 1 n
  refine W.item i s _ _ hg st λ v h' tk hv st' kk => ?_
  obtain ⟨t,rfl⟩ := hv
  have I1 : Inv X pins σ H { s with heap := h',toks := tk } := I.turned (λ b o hb e => kk b o (by simpa using hb) e) f0 f1 f3 f4 f5
  refine ⟨_,rfl,K7 (s := { s with heap := h',toks := tk }) (n := "range_iterator") st' rfl rfl wE ⟨.int (lo + i),H,I1,⟨t,?_⟩,⟨rfl,rfl⟩,st',λ b hb => (hf b hb).1⟩⟩
  rw [Int.mul_one]
 done := by
  intro X hP hw hK hc i pins s σ H E I hf st hg
  subst hP hw hK
  obtain ⟨f0,f1,f2,f3,f4,f5⟩ := hf it (by simp)
  exact wpAny_pyNext_range_end (I.ok.hd hc) st (by have : n <= i := hg; omega) λ h' eb => ⟨rfl,I.turned (t' := s.toks) (λ b o hb e => eb b o hb e) f0 f1 f3 f4 f5⟩
 self := λ _ _ _ _ _ st h => wpAny_pyIter_rangeiter st h
end L2
namespace L2
open PySem PySem.Spec PyProof.Rows
section
variable {X : Cx} {tg : Expr}
def Wc (K : PySem.W.Frag) (tl : TE) : TI := λ σ H R => tl σ H λ x H1 => ∃ a,x = .ref a /\ (∃ xs,Be K H1 a xs) /\ R (LM K a) H1
def V9 (K : PySem.W.Frag) (tl : TE) : TI := λ σ H R => tl σ H λ x H1 => ∃ a,x = .ref a /\ (∃ xs,Bc K H1 a xs) /\ R (LL K a) H1
theorem NR {l : Expr} {tl : TE} (hl : PE X l tl) : PI X tg l (Wc X.K tl) := by
 intro pins s σ H R I h
 refine Aq (hl pins s σ H _ I h) λ v s1 ⟨x,H1,I1,r1,q1⟩ => ?_
 obtain ⟨a,e,⟨xs,hq⟩,q⟩ := q1
 subst e
 cases r1
 obtain ⟨its,rv,p,hz⟩ := I1.list hq
 refine wpAny_pyIter_list p.isList ?_
 refine ⟨s1.heap.objs.size,[s1.heap.objs.size],_,_,H1,rfl,I1.kept (t' := s1.toks) λ b o e => Heap.get?_push_of_some _ e,QG a _,⟨_,Heap.get?_push_size _ rfl,rfl,rfl⟩,λ b hb => ?_,q⟩
 have e : b = s1.heap.objs.size := by simpa using hb
 subst e
 exact I1.fpOk (Nat.le_refl _) (I1.hok.fresh (Nat.le_refl _))
theorem Tt {l : Expr} {tl : TE} (hl : PE X l tl) : PI X tg l (V9 X.K tl) := by
 intro pins s σ H R I h
 refine Aq (hl pins s σ H _ I h) λ v s1 ⟨x,H1,I1,r1,q1⟩ => ?_
 obtain ⟨a,e,⟨xs,hq⟩,q⟩ := q1
 subst e
 cases r1
 obtain ⟨its,rv,p,hz⟩ := I1.tuple hq
 refine wpAny_pyIter_tuple (show s1.heap.IsTuple a its.toArray from p) ?_
 refine ⟨s1.heap.objs.size,[s1.heap.objs.size],_,_,H1,rfl,I1.kept (t' := s1.toks) λ b o e => Heap.get?_push_of_some _ e,QE a _,⟨_,Heap.get?_push_size _ rfl,rfl,rfl⟩,λ b hb => ?_,q⟩
 have e : b = s1.heap.objs.size := by simpa using hb
 subst e
 exact I1.fpOk (Nat.le_refl _) (I1.hok.fresh (Nat.le_refl _))
theorem NI {pins : List (Addr × Obj)} {σ : St} {H : Hp} {s : Shared} {R : It -> Hp -> Prop} {E : Value -> Shared -> Prop} {lo hi : Int} {t u v : Tok} {tk : Nat} (I : Inv X pins σ H s) (h1 : -(2 ^ 62) <= lo) (h2 : lo < 2 ^ 62) (h3 : -(2 ^ 62) <= hi) (h4 : hi < 2 ^ 62)
  (q : R (GY lo (hi - lo).toNat) H) : wpAny (model X.prog X.w) X.A (pyIter (.ref s.heap.objs.size)) (LE X pins σ tg R) E { s with heap := s.heap.push { cls := .type "range",data := .fields #[.int lo t,.int hi u,.int 1 v] },toks := tk } := by
 refine wpAny_pyIter_range (IsRange.new ..) (small_one h1 h2 h3 h4) ?_
 have I1 : Inv X pins σ H { s with heap := s.heap.push { cls := .type "range",data := .fields #[.int lo t,.int hi u,.int 1 v] },toks := tk } := I.kept λ b o e => Heap.get?_push_of_some _ e
 refine ⟨(s.heap.push { cls := .type "range",data := .fields #[.int lo t,.int hi u,.int 1 v] }).objs.size,[(s.heap.push { cls := .type "range",data := .fields #[.int lo t,.int hi u,.int 1 v] }).objs.size],_,_,H,rfl,
  I1.kept (t' := tk) λ b o e => Heap.get?_push_of_some _ e,QF _ lo (hi - lo).toNat,?_,λ b hb => ?_,q⟩
 ·have e1 : lo + ((0 : Nat) : Int) * 1 = lo := by simp
  have e2 : (((hi - lo).toNat : Nat) : Int) - ((0 : Nat) : Int) = Builtin.Range.rangeSize lo hi 1 := by rw [rangeSize_one]; split <;> omega
  show IsRangeIter _ _ (lo + ((0 : Nat) : Int) * 1) ((((hi - lo).toNat : Nat) : Int) - ((0 : Nat) : Int)) 1
  rw [e1,e2]
  exact Heap.get?_push_size _ rfl
 ·have e : b = (s.heap.push { cls := .type "range",data := .fields #[.int lo t,.int hi u,.int 1 v] }).objs.size := by simpa using hb
  subst e
  exact I1.fpOk (Nat.le_refl _) (I1.hok.fresh (Nat.le_refl _))
def Wb (ta : TA) : TI := λ σ H R => ta σ H λ vs H1 => ∃ j : Int,vs = [.int j] /\ -(2 ^ 62) <= j /\ j < 2 ^ 62 /\ R (GY 0 j.toNat) H1
def Wa (ta : TA) : TI := λ σ H R => ta σ H λ vs H1 => ∃ i j : Int,vs = [.int i,.int j] /\ (-(2 ^ 62) <= i /\ i < 2 ^ 62 /\ -(2 ^ 62) <= j /\ j < 2 ^ 62) /\ R (GY i (j - i).toNat) H1
theorem Tv {a : Expr} {ta : TA} {p pos : Pos} (hg : Gl X "range") (hm : X.mg "range" = none) (ha : PA X [a] ta) (hs : starEach [a] X.env = [(false,eval a X.env)] := by rfl) : PI X tg (.Call (.Name "range" p) [a] [] pos) (Wb ta) := by
 intro pins s σ H R I h
 refine Call_ (EI I hg hm boot_range (PyProof.Rows.callWith_type1 (Aq (ha pos pins s σ H _ I h) λ us s1 ⟨vs,H1,I1,r1,q1⟩ => ?_) hs rfl))
 obtain ⟨j,e,q1,q2,q⟩ := q1
 subst e
 cases r1 with
 | cons r rr =>
  cases rr
  obtain ⟨t,rfl⟩ := r
  exact call_range_1 (NI I1 wF wF q1 q2 (by simpa using q))
theorem Tu {a b : Expr} {ta : TA} {p pos : Pos} (hg : Gl X "range") (hm : X.mg "range" = none) (ha : PA X [a,b] ta) (hs : starEach [a,b] X.env = [(false,eval a X.env),(false,eval b X.env)] := by rfl) (hs2 : starEach [b] X.env = [(false,eval b X.env)] := by rfl) :
  PI X tg (.Call (.Name "range" p) [a,b] [] pos) (Wa ta) := by
 intro pins s σ H R I h
 refine Call_ (EI I hg hm boot_range (PyProof.Rows.callWith_type1 (Aq (ha pos pins s σ H _ I h) λ us s1 ⟨vs,H1,I1,r1,q1⟩ => ?_) (by rw [hs,hs2]) (by rw [hs2]; rfl)))
 obtain ⟨i,j,e,⟨q1,q2,q3,q4⟩,q⟩ := q1
 subst e
 cases r1 with
 | cons r rr =>
  cases rr with
  | cons r' rr =>
   cases rr
   obtain ⟨t,rfl⟩ := r
   obtain ⟨t',rfl⟩ := r'
   exact call_range_2 (NI I1 q1 q2 q3 q4 q)
def Q5 (wi : TI) (g : TG) (tb : TS) : TS := λ D σ H => wi σ H λ J H1 => ∃ W : Nat -> Nat -> St -> Hp -> Prop,(∃ m,W 0 m σ H1) /\ ∀ i m σ H,W i m σ H ->
 (J.stop i H /\ D.nx σ H) \/ (J.go i H /\ ∃ N : St -> Hp -> Prop,(∀ σ' H',N σ' H' -> ∃ m',m' < m /\ W (i + 1) m' σ' H') /\ ∀ x H',J.yld i H x H' -> g x σ H' λ σ2 H2 => tb { D with nx := N,ct := N,bk := D.nx } σ2 H2)
def C3 (fp : List Addr) (h : Heap) : List (Addr × Obj) := fp.filterMap λ b => (h.get? b).map λ o => (b,o)
theorem F3 {fp : List Addr} {h : Heap} {b : Addr} {o : Obj} (hb : b ∈ fp) (e : h.get? b = some o) : (b,o) ∈ C3 fp h := List.mem_filterMap.mpr ⟨b,hb,by rw [e]; rfl⟩
theorem KR {fp : List Addr} {h : Heap} {p : Addr × Obj} (hp : p ∈ C3 fp h) : p.1 ∈ fp /\ h.get? p.1 = some p.2 := by
 obtain ⟨b,hb,e⟩ := List.mem_filterMap.mp hp
 cases q : h.get? b with
 | none => rw [q] at e; cases e
 | some o =>
  rw [q] at e
  have e' : (b,o) = p := Option.some.inj e
  subst e'
  exact ⟨hb,q⟩
theorem Inv.pinned {pins : List (Addr × Obj)} {σ : St} {H : Hp} {s : Shared} {fp : List Addr} (I : Inv X pins σ H s) (hf : ∀ b ∈ fp,Cg X pins H b) (ho : ∀ b ∈ fp,∃ o,s.heap.get? b = some o /\ ∀ v,o.data ≠ .cell v) : Inv X (pins ++ C3 fp s.heap) σ H s :=
 I.pins_of λ p hp => (List.mem_append.mp hp).elim (λ z => I.pin p (List.mem_append_right _ z)) λ z => by
  obtain ⟨hb,e⟩ := KR z
  obtain ⟨f0,f1,f2,_⟩ := hf p.1 hb
  obtain ⟨o,e',d⟩ := ho p.1 hb
  rw [e] at e'; cases e'
  exact ⟨e,f0,f1,f2,d⟩
theorem Inv.unpinned {pins pl : List (Addr × Obj)} {σ : St} {H : Hp} {s : Shared} (I : Inv X (pins ++ pl) σ H s) : Inv X pins σ H s := I.pins_of λ p hp => I.pin p (List.mem_append_right _ (List.mem_append_left _ hp))
theorem Te {iter : Expr} {body : List Stmt} {wi : TI} {g : TG} {tb : TS} {pos : Pos} (hp : PassesOwn (model X.prog X.w) X.A X.env X.xe) (hc : X.calm = true) (hi : PI X tg iter wi) (hg : PG X tg g) (hb : PSs X body tb)
  (hs : ∀ x,foldedSetIterable iter X.env x = pure x := by intro _; rfl) : PS X (.For tg iter body [] pos) (Q5 wi g tb) := by
 intro pins s σ H D I h
 refine wpAny_For (Aq (hi pins s σ H _ I h) λ v s1 h1 => Aq h1 λ itv s2 h2 => ?_) hs
 obtain ⟨it,fp,tn,J,H2,e,I2,T,st2,f2,W,⟨m0,w0⟩,turn⟩ := h2
 subst e
 -- what stays true of the iterator's objects through the loop
 have stat : ∀ {H' : Hp},(∀ b ∈ fp,H' b = none) -> ∀ b ∈ fp,Cg X pins H' b := λ hn b hb => ⟨hn b hb,(f2 b hb).2⟩
 refine codeAny_forLoop_any (λ n s' => ∃ i σ' H',Inv X pins σ' H' s' /\ tn i s'.heap /\ (∀ b ∈ fp,H' b = none) /\ W i n σ' H') ?_ m0 ⟨0,σ,H2,I2,st2,λ b hb => (f2 b hb).1,w0⟩
 rintro n s3 ⟨i,σ3,H3,I3,st3,fr3,w3⟩
 rcases turn i n σ3 H3 w3 with ⟨stop,qn⟩ | ⟨go,N,hN,step⟩
 ·refine wpAny_passesOwn hp (Aq (T.done X rfl rfl rfl hc i pins s3 σ3 H3 X.xe I3 (stat fr3) st3 stop) λ r s4 ⟨hr,I4⟩ => ?_)
  subst hr
  exact wpAny_execs_nil ⟨σ3,H3,I4,qn⟩
 ·refine wpAny_passesOwn hp (Aq (T.item X rfl rfl rfl hc i pins s3 σ3 H3 X.xe I3 (stat fr3) st3 go) λ r s4 ⟨u,hr,h4⟩ => ?_)
  subst hr
  refine wpAny_passesOwn hp (Aq h4 λ _ s5 ⟨x,H5,I5,r5,y5,st5,fr5⟩ => ?_)
  have I5' := I5.pinned (stat fr5) (T.obj _ _ st5)
  refine wpAny_passesOwn hp (Aq (hg _ s5 σ3 H5 x u _ I5' r5 (step x H5 y5)) λ _ s6 ⟨σ6,H6,I6,q6⟩ => ?_)
  refine wpAny_passesOwn hp (Aq (hb _ s6 σ6 H6 _ I6 q6) λ f s7 q7 => ?_)
  have again : ∀ {σ7 : St} {H7 : Hp},Inv X (pins ++ C3 fp s5.heap) σ7 H7 s7 -> N σ7 H7 -> ∃ m,m < n /\ ∃ i σ' H',Inv X pins σ' H' s7 /\ tn i s7.heap /\ (∀ b ∈ fp,H' b = none) /\ W i m σ' H' := λ {σ7 H7} I7 n7 => by
   obtain ⟨m',hm,w7⟩ := hN σ7 H7 n7
   refine ⟨m',hm,i + 1,σ7,H7,I7.unpinned,T.keep _ _ _ st5 λ b hb o e => (I7.pin (b,o) (List.mem_append_right _ (List.mem_append_right _ (F3 hb e)))).1,λ b hb => ?_,w7⟩
   obtain ⟨o,e,d⟩ := T.obj _ _ st5 b hb
   exact (I7.pin (b,o) (List.mem_append_right _ (List.mem_append_right _ (F3 hb e)))).2.1
  cases f with
  | next => obtain ⟨σ7,H7,I7,n7⟩ := q7; exact again I7 n7
  | cont => obtain ⟨σ7,H7,I7,n7⟩ := q7; exact again I7 n7
  | brk => obtain ⟨σ7,H7,I7,q7⟩ := q7; exact ⟨σ7,H7,I7.unpinned,q7⟩
  | ret v => obtain ⟨x7,σ7,H7,I7,r7,q7⟩ := q7; exact ⟨x7,σ7,H7,I7.unpinned,r7,q7⟩
end
end L2
namespace L2
open PySem PySem.Spec PyProof.Rows
abbrev R2 := V -> V -> Hp -> VK -> Prop
def BT (X : Cx) (f : Value -> Value -> Sem Value) (r : R2) : Prop :=
 ∀ (pins : List (Addr × Obj)) (s : Shared) (σ : St) (H : Hp) (x y : V) (v u : Value) (Q : VK),Inv X pins σ H s -> AX x v -> AX y u -> r x y H Q ->
  wpAny (model X.prog X.w) X.A (f v u) (EP X pins σ Q) X.xe s
def DP (X : Cx) (f : Value) (r : List V -> Hp -> VK -> Prop) : Prop :=
 ∀ (pins : List (Addr × Obj)) (s : Shared) (σ : St) (H : Hp) (xs : List V) (us : List Value) (Q : VK),Inv X pins σ H s -> Az xs us -> r xs H Q ->
  wpAny (model X.prog X.w) X.A (call f us) (EP X pins σ Q) X.xe s
def Yj (X : Cx) (r : V -> Hp -> (Bool -> Hp -> Prop) -> Prop) : Prop :=
 ∀ (pins : List (Addr × Obj)) (s : Shared) (σ : St) (H : Hp) (x : V) (v : Value) (Q : Bool -> Hp -> Prop),Inv X pins σ H s -> AX x v -> r x H Q ->
  wpAny (model X.prog X.w) X.A (truthy v) (TP X pins σ Q) X.xe s
def rI (C : Int -> Int -> Prop) (g : Int -> Int -> V) : R2 := λ x y H Q => ∃ i j,x = .int i /\ y = .int j /\ C i j /\ Q (g i j) H
def DT (g : Int -> Int -> V) : R2 := λ x y H Q => ∃ i j,x = .int i /\ y = .int j /\ Q (g i j) H
section
variable {X : Cx} {a b c : Expr} {ta tb tc : TE} {pos : Pos}
theorem GV (ha : PE X a ta) (hb : PE X b tb) {pins : List (Addr × Obj)} {s : Shared} {σ : St} {H : Hp} {R : V -> V -> Hp -> Prop} (I : Inv X pins σ H s)
  (h : ta σ H λ x H1 => tb σ H1 λ y H2 => R x y H2) {Q : Value -> Shared -> Prop} {f : Value -> Value -> Sem Value}
  (hf : ∀ v u s2 x y H2,Inv X pins σ H2 s2 -> AX x v -> AX y u -> R x y H2 -> wpAny (model X.prog X.w) X.A (f v u) Q X.xe s2) :
  wpAny (model X.prog X.w) X.A (eval a X.env) (λ v s₁ => wpAny (model X.prog X.w) X.A (eval b X.env) (λ u s₂ => wpAny (model X.prog X.w) X.A (f v u) Q X.xe s₂) X.xe s₁) X.xe s := by
 refine Aq (ha pins s σ H _ I h) λ v s1 ⟨x,H1,I1,r1,q1⟩ => ?_
 refine Aq (hb pins s1 σ H1 _ I1 q1) λ u s2 ⟨y,H2,I2,r2,q2⟩ => ?_
 exact hf v u s2 x y H2 I2 r1 r2 q2
theorem KP {f : Value -> Value -> Sem Value} {C : Int -> Int -> Prop} {g : Int -> Int -> Int}
  (rule : ∀ (i j : Int) (t u : Tok) (s : Shared) (Q : Value -> Shared -> Prop) (E : Value -> Shared -> Prop),C i j -> Q (.int (g i j) s.toks) { s with toks := s.toks + 1 } -> wpAny (model X.prog X.w) X.A (f (.int i t) (.int j u)) Q E s) :
  BT X f (rI C λ i j => .int (g i j)) := by
 intro pins s σ H x y v u Q I rx ry h
 obtain ⟨i,j,rfl,rfl,hc,q⟩ := h
 obtain ⟨t,rfl⟩ := rx
 obtain ⟨t',rfl⟩ := ry
 exact rule i j t t' s _ _ hc ⟨.int (g i j),H,I.tok _,⟨_,rfl⟩,q⟩
theorem N2 {f : Value -> Value -> Sem Value} {g : Int -> Int -> Int}
  (rule : ∀ (i j : Int) (t u : Tok) (s : Shared) (Q : Value -> Shared -> Prop) (E : Value -> Shared -> Prop),Q (.int (g i j) s.toks) { s with toks := s.toks + 1 } -> wpAny (model X.prog X.w) X.A (f (.int i t) (.int j u)) Q E s) :
  BT X f (DT λ i j => .int (g i j)) := by
 intro pins s σ H x y v u Q I rx ry h
 obtain ⟨i,j,rfl,rfl,q⟩ := h
 obtain ⟨t,rfl⟩ := rx
 obtain ⟨t',rfl⟩ := ry
 exact rule i j t t' s _ _ ⟨.int (g i j),H,I.tok _,⟨_,rfl⟩,q⟩
theorem HM {f : Value -> Value -> Sem Value} {g : Int -> Int -> Bool}
  (rule : ∀ (i j : Int) (t u : Tok) (s : Shared) (Q : Value -> Shared -> Prop) (E : Value -> Shared -> Prop),Q (.bool (g i j)) s -> wpAny (model X.prog X.w) X.A (f (.int i t) (.int j u)) Q E s) :
  BT X f (DT λ i j => .bl (g i j)) := by
 intro pins s σ H x y v u Q I rx ry h
 obtain ⟨i,j,rfl,rfl,q⟩ := h
 obtain ⟨t,rfl⟩ := rx
 obtain ⟨t',rfl⟩ := ry
 exact rule i j t t' s _ _ ⟨.bl (g i j),H,I,rfl,q⟩
def Qb (i j : Int) : Prop := 0 < j /\ j < 1073741824
def Dx (i j : Int) : Prop := (-(2 ^ 64) < i /\ i < 2 ^ 64) \/ (-(2 ^ 64) < j /\ j < 2 ^ 64)
theorem Dx.ok {i j : Int} (h : Dx i j) : IntMulOk i j := by
 rcases h with ⟨h1,h2⟩ | ⟨h1,h2⟩
 ·exact .of_left (intBits_le_64 h1 h2)
 ·exact .of_right (intBits_le_64 h1 h2)
theorem Uc : BT X (binaryOp .Add) (DT λ i j => .int (i + j)) := N2 λ _ _ _ _ _ _ _ q => add_int q
theorem TX : BT X (binaryOp .Sub) (DT λ i j => .int (i - j)) := N2 λ _ _ _ _ _ _ _ q => sub_int q
theorem T7 : BT X (binaryOp .FloorDiv) (rI Qb λ i j => .int (i / j)) := KP λ i j _ _ _ _ _ hc q => by
 have h1 : (0 : Int) < j := hc.1
 have h2 : j < 1073741824 := hc.2
 exact floordiv_int wF (by rw [Int.fdiv_eq_ediv_of_nonneg i wF]; exact q) (.inl (PyProof.noPylong_small wF))
theorem T1 : BT X (binaryOp .Mod) (rI (λ _ j => 0 < j) λ i j => .int (i % j)) := KP λ i j _ _ _ _ _ hc q => by
 have h1 : (0 : Int) < j := hc
 exact mod_int' wF (by rw [Int.fmod_eq_emod_of_nonneg i wF]; exact q)
end
def Nj : V -> V -> Bool
 | .non,.non => true | .non,.int _ => true | .int _,.non => true | .non,.bl _ => true | .bl _,.non => true | .non,.str _ => true | .str _,.non => true
 | .int _,.int _ => true | .bl _,.bl _ => true | .str _,.str _ => true | .byt _,.byt _ => true
 | .int _,.str _ => true | .str _,.int _ => true | .bl _,.str _ => true | .str _,.bl _ => true
 | _,_ => false
def rEq : R2 := λ x y H Q => Nj x y = true /\ Q (.bl (decide (x = y))) H
def rNe : R2 := λ x y H Q => Nj x y = true /\ Q (.bl (!decide (x = y))) H
theorem Pl {i j : Int} : decide (V.int i = V.int j) = (i == j) := by
 rw [Bool.eq_iff_iff]
 simp
theorem Pn {i j : Bool} : decide (V.bl i = V.bl j) = (i == j) := by
 rw [Bool.eq_iff_iff]
 simp
theorem Pk {i j : Str} : decide (V.str i = V.str j) = (i == j) := by
 rw [Bool.eq_iff_iff]
 simp
theorem Pm {i j : Array UInt8} : decide (V.byt i = V.byt j) = (i.toList == j.toList) := by
 rw [Bool.eq_iff_iff]
 cases i
 cases j
 simp
section
variable {X : Cx} {a b c : Expr} {ta tb tc : TE} {pos : Pos}
theorem Bm {pins : List (Addr × Obj)} {σ : St} {H : Hp} {s : Shared} {Q : VK} {k k' : Bool} (I : Inv X pins σ H s) (q : Q (.bl k) H) (e : k = k') : EP X pins σ Q (.bool k') s := by
 subst e
 exact ⟨.bl k,H,I,rfl,q⟩
theorem T8 : BT X (compareOp .Eq) rEq := by
 intro pins s σ H x y v u Q I rx ry h
 obtain ⟨hs,q⟩ := h
 cases x with
 | non =>
  cases rx
  cases y with
  | non => cases ry; exact PySem.EqNone.eq_none_none (Bm I q (by simp))
  | bl j => cases ry; exact PySem.EqNone.eq_none_bool (Bm I q (by simp))
  | int j => obtain ⟨t',rfl⟩ := ry; exact PySem.EqNone.eq_none_int (Bm I q (by simp))
  | str j => obtain ⟨t',rfl⟩ := ry; exact PySem.EqNone.eq_none_str (Bm I q (by simp))
  | _ => exact absurd (show false = true from hs) Bool.false_ne_true
 | bl i =>
  cases rx
  cases y with
  | non => cases ry; exact PySem.EqNone.eq_bool_none (Bm I q (by simp))
  | bl j => cases ry; exact eq_bool (Bm I q Pn)
  | str j => obtain ⟨t',rfl⟩ := ry; exact PySem.EqMixed.eq_bool_str (Bm I q (by simp))
  | _ => exact absurd (show false = true from hs) Bool.false_ne_true
 | int i =>
  obtain ⟨t,rfl⟩ := rx
  cases y with
  | non => cases ry; exact PySem.EqNone.eq_int_none (Bm I q (by simp))
  | int j => obtain ⟨t',rfl⟩ := ry; exact eq_int (Bm I q Pl)
  | str j => obtain ⟨t',rfl⟩ := ry; exact PySem.EqMixed.eq_int_str (Bm I q (by simp))
  | _ => exact absurd (show false = true from hs) Bool.false_ne_true
 | str i =>
  obtain ⟨t,rfl⟩ := rx
  cases y with
  | non => cases ry; exact PySem.EqNone.eq_str_none (Bm I q (by simp))
  | bl j => cases ry; exact PySem.EqMixed.eq_str_bool (Bm I q (by simp))
  | int j => obtain ⟨t',rfl⟩ := ry; exact PySem.EqMixed.eq_str_int (Bm I q (by simp))
  | str j => obtain ⟨t',rfl⟩ := ry; exact eq_str (Bm I q Pk)
  | _ => exact absurd (show false = true from hs) Bool.false_ne_true
 | byt i =>
  obtain ⟨t,rfl⟩ := rx
  cases y with
  | byt j => obtain ⟨t',rfl⟩ := ry; exact PySem.W.eq_bytes (Bm I q Pm)
  | _ => exact absurd (show false = true from hs) Bool.false_ne_true
 | _ => cases y <;> exact absurd (show false = true from hs) Bool.false_ne_true
theorem TZ : BT X (compareOp .NotEq) rNe := by
 intro pins s σ H x y v u Q I rx ry h
 obtain ⟨hs,q⟩ := h
 cases x with
 | non =>
  cases rx
  cases y with
  | non => cases ry; exact PySem.EqNone.ne_none_none (Bm I q (by simp))
  | bl j => cases ry; exact PySem.EqNone.ne_none_bool (Bm I q (by simp))
  | int j => obtain ⟨t',rfl⟩ := ry; exact PySem.EqNone.ne_none_int (Bm I q (by simp))
  | str j => obtain ⟨t',rfl⟩ := ry; exact PySem.EqNone.ne_none_str (Bm I q (by simp))
  | _ => exact absurd (show false = true from hs) Bool.false_ne_true
 | bl i =>
  cases rx
  cases y with
  | non => cases ry; exact PySem.EqNone.ne_bool_none (Bm I q (by simp))
  | bl j => cases ry; exact ne_bool (Bm I q (congrArg not Pn))
  | str j => obtain ⟨t',rfl⟩ := ry; exact PySem.EqMixed.ne_bool_str (Bm I q (by simp))
  | _ => exact absurd (show false = true from hs) Bool.false_ne_true
 | int i =>
  obtain ⟨t,rfl⟩ := rx
  cases y with
  | non => cases ry; exact PySem.EqNone.ne_int_none (Bm I q (by simp))
  | int j => obtain ⟨t',rfl⟩ := ry; exact ne_int (Bm I q (congrArg not Pl))
  | str j => obtain ⟨t',rfl⟩ := ry; exact PySem.EqMixed.ne_int_str (Bm I q (by simp))
  | _ => exact absurd (show false = true from hs) Bool.false_ne_true
 | str i =>
  obtain ⟨t,rfl⟩ := rx
  cases y with
  | non => cases ry; exact PySem.EqNone.ne_str_none (Bm I q (by simp))
  | bl j => cases ry; exact PySem.EqMixed.ne_str_bool (Bm I q (by simp))
  | int j => obtain ⟨t',rfl⟩ := ry; exact PySem.EqMixed.ne_str_int (Bm I q (by simp))
  | str j => obtain ⟨t',rfl⟩ := ry; exact ne_str (Bm I q (congrArg not Pk))
  | _ => exact absurd (show false = true from hs) Bool.false_ne_true
 | byt i =>
  obtain ⟨t,rfl⟩ := rx
  cases y with
  | byt j => obtain ⟨t',rfl⟩ := ry; exact PySem.W.ne_bytes (Bm I q (congrArg not Pm))
  | _ => exact absurd (show false = true from hs) Bool.false_ne_true
 | _ => cases y <;> exact absurd (show false = true from hs) Bool.false_ne_true
theorem T2 : BT X (compareOp .Lt) (DT λ i j => .bl (decide (i < j))) := HM λ _ _ _ _ _ _ _ q => lt_int q
theorem T3 : BT X (compareOp .LtE) (DT λ i j => .bl (decide (i <= j))) := HM λ _ _ _ _ _ _ _ q => le_int q
theorem T5 : BT X (compareOp .Gt) (DT λ i j => .bl (decide (j < i))) := HM λ _ _ _ _ _ _ _ q => gt_int q
theorem T6 : BT X (compareOp .GtE) (DT λ i j => .bl (decide (j <= i))) := HM λ _ _ _ _ _ _ _ q => ge_int q
theorem T4 : BT X (compareOp .Is) (λ x y H Q => y = .non /\ Q (.bl (decide (x = .non))) H) := by
 intro pins s σ H x y v u Q I rx ry h
 obtain ⟨rfl,q⟩ := h
 cases ry
 refine is_none_gen (Bm I q ?_)
 cases x <;> first
  | (cases rx; rfl)
  | (obtain ⟨t,rfl⟩ := rx; rfl)
theorem TY : BT X (compareOp .IsNot) (λ x y H Q => y = .non /\ Q (.bl (!decide (x = .non))) H) := by
 intro pins s σ H x y v u Q I rx ry h
 obtain ⟨rfl,q⟩ := h
 cases ry
 refine isnot_none_gen (Bm I q ?_)
 cases x <;> first
  | (cases rx; rfl)
  | (obtain ⟨t,rfl⟩ := rx; rfl)
theorem Oi (b : Expr) {op : CmpOp} (h : op ≠ .In := by decide) (h2 : op ≠ .NotIn := by decide) : behindInMarks op b = false := by
 have e1 : (op == CmpOp.In) = false := by cases op <;> first | rfl | exact absurd rfl h
 have e2 : (op == CmpOp.NotIn) = false := by cases op <;> first | rfl | exact absurd rfl h2
 cases b <;> simp [behindInMarks,e1,e2]
def P3 (K : PySem.W.Frag) (x : V) (H : Hp) (k : Bool) : Prop :=
 match x with
 | .non => k = false
 | .bl b => k = b
 | .int i => k = (i != 0)
 | .str y => y.length <= sizeLine /\ k = ((y.length : Int) != 0)
 | .byt y => y.size <= sizeLine /\ k = ((y.size : Int) != 0)
 | .ref p => (∃ xs,Be K H p xs /\ k = !xs.isEmpty) \/ (∃ xs,Bc K H p xs /\ k = !xs.isEmpty) \/ ∃ kvs,H p = some (.dK kvs) /\ k = !kvs.isEmpty
 | _ => False
theorem V3 {κ : Type} {kvs : List (κ × V)} {vs : List (κ × Value)} (r : KV kvs vs) : (!vs.isEmpty) = !kvs.isEmpty := by
 cases r <;> rfl
theorem OI {xs : List V} {its : List Value} (r : Az xs its) : (!its.toArray.isEmpty) = !xs.isEmpty := by
 cases r <;> simp
theorem HV : (sizeLine : Nat) < 2 ^ 63 := by rw [sizeLine_eq]; decide
theorem QM : Yj X (λ x H Q => ∃ k,P3 X.K x H k /\ Q k H) := by
 intro pins s σ H x v Q I rx h
 obtain ⟨k,e,q⟩ := h
 have hl := HV
 have hs : sizeLine = 16777216 := sizeLine_eq
 cases x with
 | non =>
  cases rx
  have e' : k = false := e
  subst e'
  exact truthy_none ⟨H,I,q⟩
 | bl b =>
  cases rx
  have e' : k = b := e
  subst e'
  exact wpAny_truthy_bool ⟨H,I,q⟩
 | int i =>
  obtain ⟨t,rfl⟩ := rx
  have e' : k = (i != 0) := e
  subst e'
  exact PySem.P.truthy_int ⟨H,I,q⟩
 | str y =>
  obtain ⟨t,rfl⟩ := rx
  obtain ⟨hy,e'⟩ : y.length <= sizeLine /\ k = ((y.length : Int) != 0) := e
  subst e'
  exact PySem.P.truthy_str wF ⟨H,I.tok _,q⟩
 | byt y =>
  obtain ⟨t,rfl⟩ := rx
  obtain ⟨hy,e'⟩ : y.size <= sizeLine /\ k = ((y.size : Int) != 0) := e
  subst e'
  exact PySem.W.truthy_bytes wF ⟨H,I.tok _,q⟩
 | ref p =>
  cases rx
  have e' : (∃ xs,Be X.K H p xs /\ k = !xs.isEmpty) \/ (∃ xs,Bc X.K H p xs /\ k = !xs.isEmpty) \/ ∃ kvs,H p = some (.dK kvs) /\ k = !kvs.isEmpty := e
  rcases e' with ⟨xs,hx,e'⟩ | ⟨xs,hx,e'⟩ | ⟨kvs,hx,e'⟩
  ·subst e'
   obtain ⟨its,r,pl,hz⟩ := I.list hx
   have hlen := r.length
   exact wpAny_truthy_list pl.isList (by simp only [List.size_toArray]; omega) ⟨H,I.tok _,by rw [OI r]; exact q⟩
  ·subst e'
   obtain ⟨its,r,pl,hz⟩ := I.tuple hx
   have hlen := r.length
   exact truthy_tuple pl (by simp only [List.size_toArray]; omega) ⟨H,I.tok _,by rw [OI r]; exact q⟩
  ·subst e'
   obtain ⟨hz,hS,vs,r,m⟩ : kvs.length <= sizeLine /\ (p == sysModules) = false /\ ∃ vs,KV kvs vs /\ s.heap.DictOf (KW X.prog X.w) p vs := I.hok p _ hx
   have hlen : kvs.length = vs.length := Paired.length r
   exact wpAny_truthy_dict hS m wF ⟨H,I.tok _,by rw [V3 r]; exact q⟩
 | _ => exact (show False from e).elim
theorem NL (ha : PE X a ta) (he : ∀ whole,isTrue a X.env whole = (do let v <- whole; standAt a.pos; holding [v] (truthy v))) :
  PT X a (λ σ H Q => ta σ H λ x H' => ∃ k,P3 X.K x H' k /\ Q k H') := by
 intro pins s σ H Q I h
 exact isTrue_plain (Aq (ha pins s σ H _ I h) λ v s1 ⟨x,H1,I1,r1,q1⟩ => QM pins s1 σ H1 x v Q I1 r1 q1) (he _)
theorem DQ {x : V} {us : List Value} (r : Az [x] us) : ∃ u,us = [u] /\ AX x u := by
 cases r with
 | cons r1 r2 => cases r2; exact ⟨_,rfl,r1⟩
theorem Fd {x y : V} {us : List Value} (r : Az [x,y] us) : ∃ u w',us = [u,w'] /\ AX x u /\ AX y w' := by
 cases r with
 | cons r1 r2 =>
  cases r2 with
  | cons r3 r4 => cases r4; exact ⟨_,_,rfl,r1,r3⟩
theorem XW : DP X (.builtin "abs") (λ xs H Q => ∃ i,xs = [.int i] /\ Q (.int (if i < 0 then -i else i)) H) := by
 intro pins s σ H xs us Q I r h
 obtain ⟨i,rfl,q⟩ := h
 obtain ⟨u,rfl,t,rfl⟩ := DQ r
 exact call_abs_int λ u tk => ⟨.int (if i < 0 then -i else i),H,I.tok _,⟨_,rfl⟩,q⟩
theorem XO (hc : X.calm = true) : DP X (.builtin "max") (λ xs H Q => ∃ i j,xs = [.int i,.int j] /\ Q (.int (if j > i then j else i)) H) := by
 intro pins s σ H xs us Q I r h
 obtain ⟨i,j,rfl,q⟩ := h
 obtain ⟨u,w',rfl,⟨t,rfl⟩,⟨t',rfl⟩⟩ := Fd r
 refine max_two_ints (I.ok.hd hc) λ h' tk k => ⟨_,H,I.kept k,?_,q⟩
 by_cases hj : j > i
 ·rw [if_pos hj,if_pos hj]; exact ⟨_,rfl⟩
 ·rw [if_neg hj,if_neg hj]; exact ⟨_,rfl⟩
theorem XM (hc : X.calm = true) : DP X (.builtin "min") (λ xs H Q => ∃ i j,xs = [.int i,.int j] /\ Q (.int (if j < i then j else i)) H) := by
 intro pins s σ H xs us Q I r h
 obtain ⟨i,j,rfl,q⟩ := h
 obtain ⟨u,w',rfl,⟨t,rfl⟩,⟨t',rfl⟩⟩ := Fd r
 refine min_two_ints (I.ok.hd hc) λ h' tk k => ⟨_,H,I.kept k,?_,q⟩
 by_cases hj : j < i
 ·rw [if_pos hj,if_pos hj]; exact ⟨_,rfl⟩
 ·rw [if_neg hj,if_neg hj]; exact ⟨_,rfl⟩
theorem XT : DP X (.type "int") (λ xs H Q => (∃ i,xs = [.int i] /\ Q (.int i) H) \/ ∃ k,xs = [.bl k] /\ Q (.int (if k then 1 else 0)) H) := by
 intro pins s σ H xs us Q I r h
 rcases h with ⟨i,rfl,q⟩ | ⟨k,rfl,q⟩
 ·obtain ⟨u,rfl,t,rfl⟩ := DQ r
  exact call_int_int ⟨.int i,H,I,⟨_,rfl⟩,q⟩
 ·obtain ⟨u,rfl,r1⟩ := DQ r
  cases r1
  exact call_int_bool ⟨.int (if k then 1 else 0),H,I.tok _,⟨_,rfl⟩,q⟩
end
end L2
namespace L2
open PySem PySem.Spec PyProof.Rows
structure FF (h : Heap) (x dx C : Addr) (mA : Str -> Option Value) : Prop where
 obj : h.get? x = some (PySem.W.instObj C dx)
 ns : h.Ns1 dx mA
 ne : dx ≠ x
theorem VG {h : Heap} {dx : Addr} {mA : Str -> Option Value} (n : h.Ns1 dx mA) : ∃ od,h.get? dx = some od /\ ∀ name,PySem.W.lookIn name od = some (mA name) := by
 obtain ⟨o,es,ep,ho,hd,hk,_,hm⟩ := n
 refine ⟨o,ho,λ name => ?_⟩
 have e := hm name
 unfold nsFind findBy at e
 rw [<- Array.find?_toList] at e
 unfold PySem.W.lookIn
 rw [hd]
 dsimp only
 split
 ·rename_i y q
  rw [q] at e
  exact congrArg some e
 ·rename_i q
  rw [q] at e
  have a : es.toList.any (·.refKey) = false := by
   rw [List.any_eq_false]
   intro y hy
   obtain ⟨z,t,hkey⟩ := hk y (Array.mem_toList_iff.mp hy)
   simp [DictEntry.refKey,hkey]
  have a' : ¬ es.toList.any (·.refKey) = true := by rw [a]; exact Bool.false_ne_true
  rw [if_neg a']
  exact congrArg some e
theorem FF.look {h : Heap} {x dx C : Addr} {mA : Str -> Option Value} (I : FF h x dx C mA) : ∃ od,PySem.W.InstAt h x (PySem.W.instObj C dx) C (some od) /\ ∀ name,PySem.W.lookIn name od = some (mA name) :=
 let ⟨od,ho,hl⟩ := VG I.ns
 ⟨od,⟨I.obj,rfl,rfl,ho⟩,hl⟩
section
variable {prog : Program} {w : World} {A : Around} {E : Value -> Shared -> Prop} {s : Shared} {K : PySem.W.Frag} {x dx C f : Addr} {mA : Str -> Option Value} {name : Str} {v : Value}
theorem Wr {expr : Bool} {Q : Value -> Shared -> Prop} (X : K.In s.heap) (I : FF s.heap x dx C mA) (hg : PySem.W.plainGet K C name = true) (hh : PySem.W.hasDictIn K C = true)
  (ha : PySem.W.findIn K (.ref C) name = some none) (hv : mA name = some v) (hv' : PySem.W.handedIn v = true) (h : Q v { s with toks := s.toks + 1 }) :
  wpAny (model prog w) A (getAttr (.ref x) name expr) Q E s := by
 obtain ⟨od,J,hl⟩ := I.look
 exact PySem.W.get_value X J (PySem.W.plainGet_of hg).1 (PySem.W.findObj_own hh ha rfl (by rw [hl,hv])) hv' h
theorem Wq {pl : Sem Bool} {Q : Value × List Value -> Shared -> Prop} (X : K.In s.heap) (I : FF s.heap x dx C mA) (hg : PySem.W.plainGet K C name = true)
  (hf : PySem.W.findIn K (.ref C) name = some (some (.ref f))) (ht : PySem.W.isFn K (.ref f) = true) (hv : mA name = none) (h : Q (.ref f,[.ref x]) s) :
  wpAny (model prog w) A (getMethod (.ref x) name pl) Q E s := by
 obtain ⟨od,J,hl⟩ := I.look
 exact PySem.W.method_fn X J (PySem.W.plainGet_of hg).1 (PySem.W.plainGet_of hg).2 hf (beq_iff_eq.mp ht) (by show (PySem.W.lookIn name od).map (·.isSome) = some false; rw [hl,hv]; rfl) h
theorem Ry {ns : List Str} {Q : Unit -> Shared -> Prop} (X : K.In s.heap) (I : FF s.heap x dx C mA)
  (hs : PySem.W.findIn K (.ref C) "__setattr__" = some (some (.builtin "object.__setattr__"))) (hp : PySem.W.plainOver K C = true) (ht : PySem.W.takerIn K C name = some none) (hh : PySem.W.hasDictIn K C = true)
  (hw : PySem.Within mA ns) (hsz : ns.length <= sizeLine)
  (h : ∀ h',FF h' x dx C (λ y => if y = name then some v else mA y) -> Heap.SameBut dx s.heap h' -> Q () { s with heap := h',toks := s.toks + 2 }) :
  wpAny (model prog w) A (setAttr (.ref x) name v) Q E s := by
 obtain ⟨od,J,hl⟩ := I.look
 refine PySem.W.set_plain X J hs (PySem.W.osa_open (s := { s with toks := s.toks + 1 }) (r := none) X J hp ht λ b => ?_)
 obtain ⟨cd,hc,hd'⟩ := PySem.W.any_some hh
 have hx : s.heap.get? x = some ⟨.ref C,some dx,.plain,#[]⟩ := I.obj
 refine wpAny_bind (wpAny_pure (wpAny_bind (wpAny_bind (wpAny_loadPart hx (wpAny_bind (PySem.W.Looks.here (s := { s with toks := s.toks + 1 }) (PySem.W.looks_clsIn X hc) ?_))))))
 rw [hd']
 refine wpAny_pure (a := some dx) (wpAny_bind (wpAny_pure (wpAny_bind ?_)))
 refine wpAny_nsSet1 (s := { s with toks := s.toks + 1 }) I.ns λ h' hn2 hs2 => ?_
 obtain ⟨oD,esD,epD,hoD,hdD,hcD⟩ := hn2.count (PySem.Within.cons name v hw)
 refine wpAny_bind (wpAny_lookBehind hoD (by rw [hdD]; exact pastItsLine_dict (Nat.le_trans hcD (by rw [List.length_cons]; omega))) ?_)
 exact wpAny_pure (h _ ⟨(hs2.2 _ (Ne.symm I.ne)).trans I.obj,hn2,I.ne⟩ hs2)
theorem VD {R : Result -> Shared -> Prop} {vs : List Value} {kw : List (Str × Value)} (X : K.In s.heap) (hm : PySem.W.makesIn K C = true)
  (hi : PySem.W.findIn K (.ref C) "__init__" = some (some (.ref f))) (hf : PySem.W.typeIn K (.ref f) = some (.type "function"))
  (h : codeAny (model prog w) (A.under (.builtin "type.__call__" ⟨.ref C :: vs,kw⟩)) (.call (.ref f) ⟨.ref (s.heap.objs.size + 1) :: vs,kw⟩) (PySem.W.InitBack (s.heap.objs.size + 1) R)
   { s with heap := (s.heap.push PySem.W.emptyDict).push (PySem.W.instObj C s.heap.objs.size) }) :
  codeAny (model prog w) A (.call (.ref C) ⟨vs,kw⟩) R s := by
 obtain ⟨hh,g,d,t,os⟩ := s
 exact PySem.W.make_core (PySem.W.makes_of X hm) (PySem.W.looks_findIn X hi) (λ self => PySem.W.bind_fn X self hf) (.inl rfl) h
end
def Cz (f : Str) (v : V) : List (Str × V) -> List (Str × V)
 | [] => [(f,v)]
 | (g,x) :: r => if g = f then (g,v) :: r else (g,x) :: Cz f v r
theorem Ot (f g : Str) (v : V) : ∀ fs : List (Str × V),(Cz f v fs).lookup g = if g = f then some v else fs.lookup g
 | [] => by
  show List.lookup g [(f,v)] = _
  by_cases h : g = f
  ·have hb : (g == f) = true := beq_iff_eq.mpr h
   simp only [List.lookup,hb,if_pos h]
  ·have hb : (g == f) = false := beq_eq_false_iff_ne.mpr h
   simp only [List.lookup,hb,if_neg h]
 | (k,x) :: r => by
  have ih := Ot f g v r
  rw [show Cz f v ((k,x) :: r) = (if k = f then (k,v) :: r else (k,x) :: Cz f v r) from rfl]
  by_cases hk : k = f
  ·rw [if_pos hk]
   by_cases h : g = k
   ·have hb : (g == k) = true := beq_iff_eq.mpr h
    simp only [List.lookup,hb,if_pos (h.trans hk)]
   ·have hb : (g == k) = false := beq_eq_false_iff_ne.mpr h
    simp only [List.lookup,hb,if_neg (λ e : g = f => h (e.trans hk.symm))]
  ·rw [if_neg hk]
   by_cases h : g = k
   ·have hb : (g == k) = true := beq_iff_eq.mpr h
    simp only [List.lookup,hb,if_neg (λ e : g = f => hk (h.symm.trans e))]
   ·have hb : (g == k) = false := beq_eq_false_iff_ne.mpr h
    simp only [List.lookup,hb]
    exact ih
theorem K1 (f : Str) (v : V) : ∀ fs : List (Str × V),f ∈ (Cz f v fs).map (·.1) /\ ∀ g,g ∈ fs.map (·.1) -> g ∈ (Cz f v fs).map (·.1)
 | [] => ⟨by simp [Cz],λ g h => by simp at h⟩
 | (k,x) :: r => by
  obtain ⟨i1,i2⟩ := K1 f v r
  rw [show Cz f v ((k,x) :: r) = (if k = f then (k,v) :: r else (k,x) :: Cz f v r) from rfl]
  by_cases hk : k = f
  ·rw [if_pos hk]
   subst hk
   exact ⟨by simp,λ g h => by simpa using h⟩
  ·rw [if_neg hk]
   refine ⟨?_,λ g h => ?_⟩
   ·rw [List.map_cons]
    exact List.mem_cons_of_mem _ i1
   ·rw [List.map_cons] at h ⊢
    rcases List.mem_cons.mp h with e | e
    ·exact List.mem_cons.mpr (.inl e)
    ·exact List.mem_cons_of_mem _ (i2 g e)
theorem Ou (f : Str) (v : V) : ∀ fs : List (Str × V),(Cz f v fs).length <= fs.length + 1
 | [] => by simp [Cz]
 | (k,x) :: r => by
  have ih := Ou f v r
  rw [show Cz f v ((k,x) :: r) = (if k = f then (k,v) :: r else (k,x) :: Cz f v r) from rfl]
  by_cases hk : k = f
  ·rw [if_pos hk,List.length_cons,List.length_cons]; omega
  ·rw [if_neg hk,List.length_cons,List.length_cons]; omega
theorem D4.some_of {v : V} {o : Option Value} (r : D4 (some v) o) : ∃ u,o = some u /\ AX v u := by
 cases o with
 | none => exact (show False from r).elim
 | some u => exact ⟨u,rfl,r⟩
theorem D4.none_of {o : Option Value} (r : D4 none o) : o = none := by
 cases o with
 | none => rfl
 | some u => exact (show False from r).elim
theorem Wl {v : V} {u : Value} (r : AX v u) : PySem.W.handedIn u = true := by
 cases v with
 | non => cases (show u = Value.none from r); rfl
 | bl b => cases (show u = Value.bool b from r); rfl
 | int i => obtain ⟨t,e⟩ := (show ∃ t,u = Value.int i t from r); cases e; rfl
 | str x => obtain ⟨t,e⟩ := (show ∃ t,u = Value.str x t from r); cases e; rfl
 | byt b => obtain ⟨t,e⟩ := (show ∃ t,u = Value.bytes b t from r); cases e; rfl
 | flt b => obtain ⟨t,e⟩ := (show ∃ t,u = Value.float b t from r); cases e; rfl
 | ref a => cases (show u = Value.ref a from r); rfl
 | ty n => cases (show u = Value.type n from r); rfl
section
variable {P : Program} {w : World} {H H' : Hp} {h h' : Heap} {a C dx : Addr} {fs fs' : List (Str × V)}
theorem H0 (hok : BE P w H h) (e : H a = some (.ins C dx fs)) : ∃ mA,FF h a dx C mA /\ (∀ f,D4 (fs.lookup f) (mA f)) /\ PySem.Within mA (fs.map (·.1)) /\ fs.length <= 1000 /\ H dx = some (.own a) := by
 obtain ⟨d,z,ne,ob,mA,n,r,q⟩ := (show B8 P w H h a (.ins C dx fs) from hok a _ e)
 exact ⟨mA,⟨ob,n,ne⟩,r,q,z,d⟩
end
structure A6 (K : PySem.W.Frag) (C : Addr) : Prop where
 pg : PySem.W.plainGet K C Str.empty = true
 hd : PySem.W.hasDictIn K C = true
 po : PySem.W.plainOver K C = true
 sa : PySem.W.findIn K (.ref C) "__setattr__" = some (some (.builtin "object.__setattr__"))
theorem A6.get {K : PySem.W.Frag} {C : Addr} (c : A6 K C) (f : Str) : PySem.W.plainGet K C f = true := c.pg
def As (K : PySem.W.Frag) (C : Addr) (f : Str) : Prop := PySem.W.findIn K (.ref C) f = some none
theorem As.taker {K : PySem.W.Frag} {C : Addr} {f : Str} (n : As K C f) : PySem.W.takerIn K C f = some none := by
 unfold PySem.W.takerIn
 rw [show PySem.W.findIn K (.ref C) f = some none from n]
 rfl
structure IP (K : PySem.W.Frag) (C : Addr) (m : Str) (f : Addr) : Prop where
 at_ : PySem.W.findIn K (.ref C) m = some (some (.ref f))
 fn : PySem.W.isFn K (.ref f) = true
 kp : PySem.W.keepIn K (.ref f) = true
section
variable {X : Cx} {pins : List (Addr × Obj)} {σ : St} {H : Hp} {s : Shared} {a C dx : Addr} {fs : List (Str × V)} {f : Str} {v : V} {A : Around} {E : Value -> Shared -> Prop}
theorem Wp {b : Bool} {Q : Value -> Shared -> Prop} (I : Inv X pins σ H s) (e : H a = some (.ins C dx fs)) (c : A6 X.K C) (n : As X.K C f) (l : fs.lookup f = some v)
  (h : ∀ u s',Inv X pins σ H s' -> AX v u -> Q u s') : wpAny (model X.prog X.w) A (getAttr (.ref a) f b) Q E s := by
 obtain ⟨mA,O,r,_,_,_⟩ := H0 I.hok e
 obtain ⟨u,hu,ru⟩ := D4.some_of (v := v) (o := mA f) (by rw [<- l]; exact r f)
 exact Wr I.kIn O (c.get f) c.hd n hu (Wl ru) (h u _ (I.tok _) ru)
theorem ON {m : Str} {g : Addr} {pl : Sem Bool} {Q : Value × List Value -> Shared -> Prop} (I : Inv X pins σ H s) (e : H a = some (.ins C dx fs)) (c : A6 X.K C) (k : IP X.K C m g) (l : fs.lookup m = none)
  (h : Q (.ref g,[.ref a]) s) : wpAny (model X.prog X.w) A (getMethod (.ref a) m pl) Q E s := by
 obtain ⟨mA,O,r,_,_,_⟩ := H0 I.hok e
 have hn : mA m = none := D4.none_of (by rw [<- l]; exact r m)
 exact Wq I.kIn O (c.get m) k.at_ k.fn hn h
theorem Ni {y : V} {u : Value} {Q : Unit -> Shared -> Prop} (I : Inv X pins σ H s) (e : H a = some (.ins C dx fs)) (c : A6 X.K C) (n : As X.K C f) (hl : fs.length < 1000) (ry : AX y u)
  (h : ∀ s',Inv X pins σ (AL H a (.ins C dx (Cz f y fs))) s' -> Q () s') : wpAny (model X.prog X.w) A (setAttr (.ref a) f u) Q E s := by
 obtain ⟨mA,O,r,wi,_,ho⟩ := H0 I.hok e
 have hz : (fs.map (·.1)).length <= sizeLine := by rw [List.length_map,sizeLine_eq]; omega
 refine Ry I.kIn O c.sa c.po n.taker c.hd wi hz λ h' O' sb => h _ ?_
 have hd : ∃ o,h'.get? dx = some o := let ⟨o,_,_,e',_⟩ := O'.ns; ⟨o,e'⟩
 refine I.write (x := a) (e := dx) (by rw [e]; exact True.intro) (.inr ho) (λ b q hb z => (sb.2 b hb).trans z) hd ?_
 refine ⟨by rw [A4 O.ne]; exact ho,?_,O.ne,O'.obj,_,O'.ns,λ g => ?_,λ g hg => ?_⟩
 ·have := Ou f y fs; omega
 ·show D4 ((Cz f y fs).lookup g) (if g = f then some u else mA g)
  rw [Ot]
  by_cases q : g = f
  ·rw [if_pos q,if_pos q]; exact ry
  ·rw [if_neg q,if_neg q]; exact r g
 ·by_cases q : g = f
  ·rw [q]; exact (K1 f y fs).1
  ·refine (K1 f y fs).2 g (wi g λ z => hg ?_)
   show (if g = f then some u else mA g) = none
   rw [if_neg q]; exact z
theorem Inv.made (I : Inv X pins σ H s) : Inv X pins σ (AL (AL H s.heap.objs.size (.own (s.heap.objs.size + 1))) (s.heap.objs.size + 1) (.ins C s.heap.objs.size []))
  { s with heap := (s.heap.push PySem.W.emptyDict).push (PySem.W.instObj C s.heap.objs.size) } := by
 have e1 : (s.heap.push PySem.W.emptyDict).get? s.heap.objs.size = some PySem.W.emptyDict := Heap.get?_push_size s.heap rfl
 have e2 : ((s.heap.push PySem.W.emptyDict).push (PySem.W.instObj C s.heap.objs.size)).get? (s.heap.objs.size + 1) = some (PySem.W.instObj C s.heap.objs.size) := by
  have := Heap.get?_push_size (s.heap.push PySem.W.emptyDict) (o := PySem.W.instObj C s.heap.objs.size) rfl
  rwa [Heap.size_push] at this
 have e3 : (s.heap.push PySem.W.emptyDict).Ns s.heap.objs.size (λ _ => none) := ⟨PySem.W.emptyDict,#[],_,e1,rfl,(λ e he => absurd he (by simp)),λ _ => rfl⟩
 have I1 := I.laid (a := s.heap.objs.size) (o := .own (s.heap.objs.size + 1)) (h' := s.heap.push PySem.W.emptyDict) (t' := s.toks) (λ b u q => Heap.get?_push_of_some _ q) (Nat.le_refl _) ⟨_,e1⟩
 refine I1.laid (a := s.heap.objs.size + 1) (o := .ins C s.heap.objs.size []) (t' := s.toks) (λ b u q => Heap.get?_push_of_some _ q) (Nat.le_of_eq (Heap.size_push _ _)) ?_
 have ne : s.heap.objs.size ≠ s.heap.objs.size + 1 := Nat.ne_of_lt (Nat.lt_succ_self _)
 refine ⟨by rw [A4 ne,Bs],Nat.zero_le _,ne,e2,λ _ => none,(Heap.Ns1.of_empty e3).at λ o q => Heap.get?_push_of_some _ q,λ _ => True.intro,λ y hy => absurd rfl hy⟩
theorem X8 {prog : Program} {w : World} {env : Env} {e : Expr} {f : Str} {pos : Pos} {s : Shared} {Q : Value -> Shared -> Prop} (hb : attributeBase e f env (eval e env) = eval e env)
  (h : wpAny (model prog w) A (eval e env) (λ o s₁ => wpAny (model prog w) A (getAttr o f true) Q E s₁) E s) : wpAny (model prog w) A (eval (.Attribute e f pos) env) Q E s :=
 Attribute_any_ h (by rw [arm_eval_Attribute,hb])
end
def Q6 (K : PySem.W.Frag) (ta : TE) (f : Str) : TE := λ σ H Q => ta σ H λ x H1 => ∃ a C dx fs v,x = .ref a /\ H1 a = some (.ins C dx fs) /\ A6 K C /\ As K C f /\ fs.lookup f = some v /\ Q v H1
section
variable {X : Cx} {o e value : Expr} {f : Str} {pos pos' tpos : Pos} {ta tv : TE}
theorem TQ (he : PE X e ta) (hb : attributeBase e f X.env (eval e X.env) = eval e X.env) : PE X (.Attribute e f pos) (Q6 X.K ta f) := by
 intro pins s σ H Q I h
 refine X8 hb (Aq (he pins s σ H _ I h) λ u s1 ⟨x,H1,I1,rx,a,C,dx,fs,v,ex,ea,c,n,l,q⟩ => ?_)
 subst ex
 obtain rfl : u = Value.ref a := rx
 exact Wp I1 ea c n l λ u' s2 I2 ru => ⟨v,H1,I2,ru,q⟩
end
section
variable {X : Cx} {pins : List (Addr × Obj)} {σ : St} {H : Hp} {s : Shared} {A : Around} {E : Value -> Shared -> Prop} {Q : Value -> Shared -> Prop} {c : Value} {b : Bool}
inductive Dv (K : PySem.W.Frag) (H : Hp) : V -> Value -> Prop where
 | non : Dv K H .non (.type "NoneType")
 | bl (x : Bool) : Dv K H (.bl x) (.type "bool")
 | int (i : Int) : Dv K H (.int i) (.type "int")
 | str (x : Str) : Dv K H (.str x) (.type "str")
 | flt (x : UInt64) : Dv K H (.flt x) (.type "float")
 | lst {a : Addr} {xs : List V} (e : H a = some (.lst xs)) : Dv K H (.ref a) (.type "list")
 | frz {a : Addr} {o : Obj} {xs : List V} (e : H a = some (.frz o (.lst xs))) : Dv K H (.ref a) (.type "list")
 | tup {a : Addr} {xs : List V} (e : H a = some (.tup xs)) : Dv K H (.ref a) (.type "tuple")
 | dK {a : Addr} {kvs : List (AV × V)} (e : H a = some (.dK kvs)) : Dv K H (.ref a) (.type "dict")
 | dT {a : Addr} {kvs : List (List AV × V)} (e : H a = some (.dT kvs)) : Dv K H (.ref a) (.type "dict")
 | ins {a C dx : Addr} {fs : List (Str × V)} (e : H a = some (.ins C dx fs)) (cl : A6 K C) (ha : PySem.W.findIn K (.ref C) "__class__" = some (some (.builtin "object.__class__")))
   (hn : PySem.W.specialIn K (.builtin "object.__class__") "__get__" = some (some (.builtin "getset_descriptor.__get__"))) (htk : PySem.W.takesIn K (.builtin "object.__class__") = some true)
   (hm : PySem.W.mroIn K C (.type "object") = some true) : Dv K H (.ref a) (.ref C)
theorem V1 {x : V} {u t : Value} (I : Inv X pins σ H s) (rx : AX x u) (ty : Dv X.K H x t) (e : PySem.W.kitOne X.K t c = some b) (h : ∀ tk,Q (.bool b) { s with toks := tk }) :
  wpAny (model X.prog X.w) A (call (.builtin "isinstance") [u,c]) Q E s := by
 cases ty with
 | non => cases (show u = Value.none from rx); exact PySem.W.kia_one PySem.W.kitx_none I.kIn True.intro e (λ z => nomatch z) h
 | bl y => cases (show u = Value.bool y from rx); exact PySem.W.kia_one PySem.W.kitx_bool I.kIn True.intro e (λ z => nomatch z) h
 | int i => obtain ⟨t,q⟩ := (show ∃ t,u = Value.int i t from rx); cases q; exact PySem.W.kia_one PySem.W.kitx_int I.kIn True.intro e (λ z => nomatch z) h
 | str y => obtain ⟨t,q⟩ := (show ∃ t,u = Value.str y t from rx); cases q; exact PySem.W.kia_one PySem.W.kitx_str I.kIn True.intro e (λ z => nomatch z) h
 | flt y => obtain ⟨t,q⟩ := (show ∃ t,u = Value.float y t from rx); cases q; exact PySem.W.kia_one PySem.W.kitx_float I.kIn True.intro e (λ z => nomatch z) h
 | @lst a xs ea =>
  cases (show u = Value.ref a from rx)
  obtain ⟨_,_,n,_,h1⟩ := (show B8 X.prog X.w H s.heap a (.lst xs) from I.hok a _ ea)
  exact PySem.W.kia_one PySem.W.kitx_list I.kIn ⟨_,h1,rfl⟩ e (λ z => nomatch z) h
 | @frz a ob xs ea =>
  cases (show u = Value.ref a from rx)
  obtain ⟨_,_,_,n,_,h1⟩ := (show B8 X.prog X.w H s.heap a (.frz ob (.lst xs)) from I.hok a _ ea)
  exact PySem.W.kia_one PySem.W.kitx_list I.kIn ⟨_,h1,rfl⟩ e (λ z => nomatch z) h
 | @tup a xs ea =>
  cases (show u = Value.ref a from rx)
  obtain ⟨_,_,_,p⟩ := (show B8 X.prog X.w H s.heap a (.tup xs) from I.hok a _ ea)
  obtain ⟨o,h1,h2,_⟩ := p.t
  exact PySem.W.kia_one PySem.W.kitx_tuple I.kIn ⟨o,h1,h2⟩ e (λ z => nomatch z) h
 | @dK a kvs ea =>
  cases (show u = Value.ref a from rx)
  obtain ⟨_,_,vs,_,p⟩ := (show B8 X.prog X.w H s.heap a (.dK kvs) from I.hok a _ ea)
  obtain ⟨o,es,ep,h1,h2,_⟩ := p
  exact PySem.W.kia_one PySem.W.kitx_dict I.kIn ⟨o,h1,h2.1⟩ e (λ z => nomatch z) h
 | @dT a kvs ea =>
  cases (show u = Value.ref a from rx)
  obtain ⟨_,_,xs,_,o,es,ep,h1,h2,_⟩ := (show B8 X.prog X.w H s.heap a (.dT kvs) from I.hok a _ ea)
  exact PySem.W.kia_one PySem.W.kitx_dict I.kIn ⟨o,h1,h2.1⟩ e (λ z => nomatch z) h
 | @ins a C dx fs ea cl ha hn htk hm =>
  cases (show u = Value.ref a from rx)
  obtain ⟨mA,O,_⟩ := H0 I.hok ea
  obtain ⟨od,J,_⟩ := O.look
  exact PySem.W.kia_one (PySem.W.kitx_own (cl.get _) cl.hd ha hn htk hm) I.kIn J e (λ z => nomatch z) h
end
end L2
namespace L2
open PySem PySem.Spec PyProof.Rows
structure AN (k : Nat) (A : Around) : Prop where
 hd : A.handled = none
 dp : A.depth + 3 * k + 5 < recursionLimit
 un : A.units + 16 * k + 200 < cLine
theorem AN.mono {j k : Nat} {A : Around} (r : AN k A) (h : j <= k) : AN j A := ⟨r.hd,by have := r.dp; omega,by have := r.un; omega⟩
theorem AN.deeper {k : Nat} {A : Around} (r : AN (k + 1) A) (env : Env) : AN k (A.deeper env) :=
 ⟨r.hd,by have := r.dp; show A.depth + 1 + 3 * k + 5 < _; omega,by have := r.un; show A.units + 3 + 16 * k + 200 < _; omega⟩
theorem VE {A : Around} {C : Addr} {us : List Value} {kw : List (Str × Value)} : (A.under (.builtin "type.__call__" ⟨.ref C :: us,kw⟩)).depth = A.depth + 1 := by
 first | rfl | simp [Around.under,Code.weight,Code.isCreation,Code.isGuard,Code.isCaller,Code.frames,Code.isFrame,guardIds]
theorem VC {A : Around} {C : Addr} {us : List Value} {kw : List (Str × Value)} : (A.under (.builtin "type.__call__" ⟨.ref C :: us,kw⟩)).units = A.units + 1 := by
 first | rfl | simp [Around.under,Code.cUnits,Code.frames,Code.isFrame]
theorem AN.make {k : Nat} {A : Around} (r : AN (k + 1) A) (C : Addr) (us : List Value) (kw : List (Str × Value)) : AN k (A.under (.builtin "type.__call__" ⟨.ref C :: us,kw⟩)) :=
 ⟨r.hd,by have := r.dp; rw [VE]; omega,by have := r.un; rw [VC]; omega⟩
theorem AN.depth {k : Nat} {A : Around} (r : AN k A) : A.depth < recursionLimit := by have := r.dp; omega
theorem AN.units {k : Nat} {A : Around} (r : AN k A) : A.units + 64 < cLine := by have := r.un; omega
def Mm : TA := λ _ H Q => Q [] H
def Q8 (ta : TE) (tr : TA) : TA := λ σ H Q => ta σ H λ x H1 => tr σ H1 λ xs H2 => Q (x :: xs) H2
section
variable {X : Cx} {e : Expr} {es : List Expr} {te : TE} {t : TA} {pos : Pos}
theorem HL : PA X [] Mm := λ _ _ _ _ H Q I h => Calls.spliced_nil ⟨[],H,I,.nil,h⟩
theorem FY (ha : PE X e te) (hr : PA X es t) (hs : starEach (e :: es) X.env = (false,eval e X.env) :: starEach es X.env := by rfl) : PA X (e :: es) (Q8 te t) := by
 intro pos pins s σ H Q I h
 rw [hs]
 show wpAny _ _ (spliced ((false,eval e X.env) :: backTo pos (starEach es X.env))) _ _ s
 refine Calls.spliced_cons (Aq (ha pins s σ H _ I h) λ u s1 ⟨x,H1,I1,r1,q1⟩ => ?_)
 exact Aq (hr pos pins s1 σ H1 _ I1 q1) λ us s2 ⟨xs,H2,I2,r2,q2⟩ => ⟨x :: xs,H2,I2,.cons r1 r2,q2⟩
def QR (t : TA) : TE := λ σ H Q => t σ H λ xs H1 => xs.length <= sizeLine /\ ∀ p,H1 p = none -> Q (.ref p) (AL H1 p (.tup xs))
def Q2 (t : TA) : TE := λ σ H Q => t σ H λ xs H1 => xs.length <= sizeLine /\ ∀ p,H1 p = none -> Q (.ref p) (AL H1 p (.lst xs))
theorem NS {x1} (h : PA X es t) : PE X (.Tuple es x1 pos) (QR t) := by
 intro pins s σ H Q I hq
 refine wpAny_Tuple_spliced (Aq (h pos pins s σ H _ I hq) λ us s1 ⟨xs,H1,I1,r,z,q⟩ => ⟨by rw [<- r.length]; exact z,?_⟩)
 have hf : H1 s1.heap.objs.size = none := I1.hok.fresh (Nat.le_refl _)
 refine ⟨.ref s1.heap.objs.size,AL H1 s1.heap.objs.size (.tup xs),I1.laid (t' := s1.toks) (λ b u e => Heap.get?_push_of_some _ e) (Nat.le_refl _) ?_,rfl,q _ hf⟩
 exact ⟨z,us,r,DM.new _ _⟩
theorem NU (h : PA X es t) : PE X (.List es pos) (Q2 t) := by
 intro pins s σ H Q I hq
 refine wpAny_List_spliced (Aq (h pos pins s σ H _ I hq) λ us s1 ⟨xs,H1,I1,r,z,q⟩ => ⟨by rw [<- r.length]; exact z,?_⟩)
 have hf : H1 s1.heap.objs.size = none := I1.hok.fresh (Nat.le_refl _)
 refine ⟨.ref s1.heap.objs.size,AL H1 s1.heap.objs.size (.lst xs),I1.laid (t' := s1.toks) (λ b u e => Heap.get?_push_of_some _ e) (Nat.le_refl _) ?_,rfl,q _ hf⟩
 exact ⟨z,us,0,r,Heap.get?_push_size _ rfl⟩
end
abbrev Sp := List V -> Hp -> VK -> XK -> Prop
abbrev C7 := List Env -> Hp -> Shared -> XK -> Value -> Shared -> Prop
structure FH (P : Program) (w : World) (K : PySem.W.Frag) (mg : Str -> Option Value) (base : Heap) (A : Around) (outer : List Env) (s : Shared) (H : Hp) : Prop where
 frames : A.frames = some outer
 mod : Mod K mg base
 bs : ∀ b o,base.get? b = some o -> s.heap.get? b = some o /\ H b = none
 bsz : base.objs.size <= s.heap.objs.size
 funs : s.heap.FunFrames base outer
 frf : ∀ b ∈ CG outer,H b = none
 hok : BE P w H s.heap
 bare : AllBare s.gens
def CE (outer : List Env) (P : Program) (w : World) (H : Hp) (s : Shared) (Q : VK) (u : Value) (s' : Shared) : Prop :=
 ∃ v H',s'.os = s.os /\ AllBare s'.gens /\ Un (CG outer) [] H H' s.heap s'.heap /\ BE P w H' s'.heap /\ AX v u /\ Q v H'
def CR (CX : C7) (outer : List Env) (P : Program) (w : World) (H : Hp) (s : Shared) (Q : VK) (E : XK) (r : Result) (s' : Shared) : Prop :=
 match r with
 | .ok (.ret u) => CE outer P w H s Q u s'
 | .ok _ => False
 | .error e => CX outer H s E e s'
structure AF (P : Program) (w : World) (K : PySem.W.Frag) (mg : Str -> Option Value) (base : Heap) (CX : C7) (k : Nat) (f : Addr) (fd : FuncData) (ps : List Str) (sp : Sp) : Prop where
 len : ∀ vs H Q E,sp vs H Q E -> vs.length = ps.length
 run : ∀ (A : Around) (outer : List Env) (s : Shared) (H : Hp) (args : Args) (us : List Value) (vs : List V) (Q : VK) (E : XK),AN k A -> FH P w K mg base A outer s H -> BindsTo s fd args (ps.zip us) -> Az vs us -> sp vs H Q E ->
  codeAny (model P w) A (.call (.ref f) args) (CR CX outer P w H s Q E) s
theorem AF.mono {P : Program} {w : World} {K : PySem.W.Frag} {mg : Str -> Option Value} {base : Heap} {CX : C7} {j k : Nat} {f : Addr} {fd : FuncData} {ps : List Str} {sp : Sp} (F : AF P w K mg base CX j f fd ps sp) (h : j <= k) :
  AF P w K mg base CX k f fd ps sp := ⟨F.len,λ A outer s H args us vs Q E hr => F.run A outer s H args us vs Q E (hr.mono h)⟩
theorem FH.make {P : Program} {w : World} {K : PySem.W.Frag} {mg : Str -> Option Value} {base : Heap} {A : Around} {outer : List Env} {s : Shared} {H : Hp} (e : FH P w K mg base A outer s H) (C : Addr) (us : List Value) (kw : List (Str × Value)) :
  FH P w K mg base (A.under (.builtin "type.__call__" ⟨.ref C :: us,kw⟩)) outer s H := ⟨by first | exact e.frames | (simpa [Around.under,Code.envs,Code.isFrame,pushEnvs] using e.frames),e.mod,e.bs,e.bsz,e.funs,e.frf,e.hok,e.bare⟩
section
variable {X : Cx} {pins : List (Addr × Obj)} {σ : St} {H : Hp} {s s' : Shared}
theorem Inv.env0 (I : Inv X pins σ H s) : FH X.prog X.w X.K X.mg X.base X.A X.stack s H :=
 ⟨I.ok.frames,I.ok.mod,I.bs,Nat.le_trans I.ok.bsz I.sz,I.stack,I.stkFree,I.hok,I.bare⟩
theorem Inv.after {Q : VK} {u : Value} (I : Inv X pins σ H s) (h : CE X.stack X.prog X.w H s Q u s') : EP X pins σ Q u s' := by
 obtain ⟨v,H',os,bare,un,hok,r,q⟩ := h
 obtain ⟨hh,g,d,t,os'⟩ := s'
 obtain rfl : os' = s.os := os
 exact ⟨v,H',I.call (h' := hh) (g' := g) (d' := d) (t' := t) (ch := []) un hok bare (λ b z => absurd z (by simp)),r,q⟩
end
def Q9 (sp : Sp) (dvs : List V) (E : XK) (t : TA) : TE := λ σ H Q => t σ H λ vs H1 => sp (vs ++ dvs) H1 Q E
def Mn (C : Addr) (m : Str) (sp : Sp) (dvs : List V) (E : XK) (ta : TE) (t : TA) : TE := λ σ H Q => ta σ H λ x H1 => ∃ a dx fs,x = .ref a /\ H1 a = some (.ins C dx fs) /\ fs.lookup m = none /\
 t σ H1 λ vs H2 => sp (x :: (vs ++ dvs)) H2 Q E
def Q1 (C : Addr) (sp : Sp) (dvs : List V) (E : XK) (t : TA) : TE := λ σ H Q => t σ H λ vs H1 => ∀ x dx,H1 x = none -> H1 dx = none -> dx ≠ x ->
 sp (.ref x :: (vs ++ dvs)) (AL (AL H1 dx (.own x)) x (.ins C dx [])) (λ v H2 => v = .non /\ Q (.ref x) H2) E
def Binds (K : PySem.W.Frag) (fd : FuncData) (ps : List Str) (ds : List Value) : Prop :=
 ∀ (s : Shared) (us : List Value),K.In s.heap -> (us ++ ds).length = ps.length -> BindsTo s fd ⟨us,[]⟩ (ps.zip (us ++ ds))
theorem Binds.all {K : PySem.W.Frag} {fd : FuncData} {ps : List Str} (h : ∀ us : List Value,us.length = ps.length -> bindArgs fd ⟨us,[]⟩ = pure (ps.zip us)) : Binds K fd ps [] := λ s us _ hl => by
 rw [List.append_nil] at hl ⊢
 exact .of_eq (h us hl)
def FE (CX : C7) (X : Cx) (E : XK) : Prop := ∀ (pins : List (Addr × Obj)) (σ : St) (H : Hp) (s : Shared) (e : Value) (s' : Shared),Inv X pins σ H s -> CX X.stack H s E e s' -> X.xe e s'
section
variable {X : Cx} {CX : C7} {k : Nat} {f C : Addr} {fd : FuncData} {ps : List Str} {sp : Sp} {dvs : List V} {ds : List Value} {E : XK} {x m : Str} {p pos apos : Pos} {e o : Expr} {es : List Expr} {ta : TE} {t : TA}
theorem HD {pins : List (Addr × Obj)} {σ : St} {H : Hp} {s : Shared} {Q : VK} {us : List Value} {vs : List V} (F : AF X.prog X.w X.K X.mg X.base CX k f fd ps sp) (hr : AN k X.A) (hb : Binds X.K fd ps ds) (hd : Az dvs ds) (hx : FE CX X E)
  (I : Inv X pins σ H s) (r : Az vs us) (h : sp (vs ++ dvs) H Q E) : wpAny (model X.prog X.w) X.A (call (.ref f) us) (EP X pins σ Q) X.xe s := by
 have r2 : Az (vs ++ dvs) (us ++ ds) := r.append hd
 have hl : (us ++ ds).length = ps.length := by rw [<- r2.length]; exact F.len _ _ _ _ h
 refine wpAny_call (codeAny_mono (F.run X.A X.stack s H ⟨us,[]⟩ (us ++ ds) (vs ++ dvs) Q E hr I.env0 (hb s us I.kIn hl) r2 h) λ r s' hq => ?_)
 cases r with
 | error e => exact hx pins σ H s e s' I hq
 | ok fl =>
  cases fl with
  | ret u => exact I.after hq
  | next => exact False.elim hq
  | brk => exact False.elim hq
  | cont => exact False.elim hq
theorem TR (F : AF X.prog X.w X.K X.mg X.base CX k f fd ps sp) (hr : AN k X.A) (hg : Gl X x) (hm : X.mg x = some (.ref f)) (hk : PySem.W.keepIn X.K (.ref f) = true) (hb : Binds X.K fd ps ds) (hd : Az dvs ds) (hx : FE CX X E)
  (ha : PA X (e :: es) t) (hdb : (x == ("__debug__" : Str)) = false := by decide) (he : starEach (e :: es) X.env = (false,eval e X.env) :: starEach es X.env := by rfl) (hpl : (backTo pos (starEach es X.env)).any (·.1) = false := by rfl) :
  PE X (.Call (.Name x p) (e :: es) [] pos) (Q9 sp dvs E t) := by
 intro pins s σ H Q I h
 refine wpAny_Call_Name_kw (HX I hg hm ?_ hdb)
 refine PySem.W.callWith_K (h₀ := X.base) I.ok.mod.kin hk (Aq (ha pos pins s σ H _ I h) λ us s1 ⟨vs,H1,I1,r,q⟩ => ⟨I1.kIn,?_⟩) he hpl
 exact HD F hr hb hd hx I1 r q
theorem TM {pl : Sem Bool} (he : PE X o ta) (c : A6 X.K C) (hm : IP X.K C m f) (F : AF X.prog X.w X.K X.mg X.base CX k f fd ps sp) (hr : AN k X.A) (hb : Binds X.K fd ps ds) (hd : Az dvs ds) (hx : FE CX X E) (ha : PA X (e :: es) t)
  (hst : starEach (e :: es) X.env = (false,eval e X.env) :: starEach es X.env := by rfl) (hpl : (backTo pos (starEach es X.env)).any (·.1) = false := by rfl)
  (ht : eval (.Call (.Attribute o m apos) (e :: es) [] pos) X.env = (do
   let ov <- eval o X.env
   standAt apos.atName
   let (f,first) <- holding [ov] (getMethod ov m pl)
   callWith pos f first (backTo pos (starEach (e :: es) X.env)) (backToKw pos (keywordEach [] X.env))) := by rfl) :
  PE X (.Call (.Attribute o m apos) (e :: es) [] pos) (Mn C m sp dvs E ta t) := by
 intro pins s σ H Q I h
 refine PySem.W.methodCall_KW (pl := pl) (Aq (he pins s σ H _ I h) λ u s1 ⟨x,H1,I1,rx,a,dx,fs,ex,ea,l,q⟩ => ?_) ht
 subst ex
 obtain rfl : u = Value.ref a := rx
 refine ON I1 ea c hm l ?_
 refine PySem.W.callWith_K (first := [.ref a]) (h₀ := X.base) I.ok.mod.kin hm.kp (Aq (ha pos pins s1 σ H1 _ I1 q) λ us s2 ⟨vs,H2,I2,r,q2⟩ => ⟨I2.kIn,?_⟩) hst hpl
 exact HD (us := .ref a :: us) (vs := .ref a :: vs) F hr hb hd hx I2 (.cons rfl r) q2
theorem TL {pl : Sem Bool} (he : PE X o ta) (c : A6 X.K C) (hm : IP X.K C m f) (F : AF X.prog X.w X.K X.mg X.base CX k f fd ps sp) (hr : AN k X.A) (hb : Binds X.K fd ps ds) (hd : Az dvs ds) (hx : FE CX X E)
  (ht : eval (.Call (.Attribute o m apos) [] [] pos) X.env = (do
   let ov <- eval o X.env
   standAt apos.atName
   let (f,first) <- holding [ov] (getMethod ov m pl)
   callWith pos f first (backTo pos (starEach [] X.env)) (backToKw pos (keywordEach [] X.env))) := by rfl) :
  PE X (.Call (.Attribute o m apos) [] [] pos) (Mn C m sp dvs E ta Mm) := by
 intro pins s σ H Q I h
 refine PySem.W.methodCall_KW (pl := pl) (Aq (he pins s σ H _ I h) λ u s1 ⟨x,H1,I1,rx,a,dx,fs,ex,ea,l,q⟩ => ?_) ht
 subst ex
 obtain rfl : u = Value.ref a := rx
 refine ON I1 ea c hm l ?_
 exact PySem.W.callWith_K0 (first := [.ref a]) I1.kIn hm.kp (HD (us := [.ref a]) (vs := [.ref a]) F hr hb hd hx I1 (.cons rfl .nil) q)
structure Mk (K : PySem.W.Frag) (C f : Addr) : Prop where
 makes : PySem.W.makesIn K C = true
 init : PySem.W.findIn K (.ref C) "__init__" = some (some (.ref f))
 fn : PySem.W.isFn K (.ref f) = true
 kp : PySem.W.keepIn K (.ref C) = true
theorem Sy {pins : List (Addr × Obj)} {σ : St} {H : Hp} {s : Shared} {Q : VK} {us : List Value} {vs : List V} (M : Mk X.K C f) (F : AF X.prog X.w X.K X.mg X.base CX k f fd ps sp) (hr : AN (k + 1) X.A) (hb : Binds X.K fd ps ds) (hd : Az dvs ds)
  (hx : FE CX X E) (I : Inv X pins σ H s) (r : Az vs us)
  (h : ∀ x dx,H x = none -> H dx = none -> dx ≠ x -> sp (.ref x :: (vs ++ dvs)) (AL (AL H dx (.own x)) x (.ins C dx [])) (λ v H2 => v = .non /\ Q (.ref x) H2) E) :
  wpAny (model X.prog X.w) X.A (call (.ref C) us) (EP X pins σ Q) X.xe s := by
 have hq := h (s.heap.objs.size + 1) s.heap.objs.size (I.hok.fresh (Nat.le_succ _)) (I.hok.fresh (Nat.le_refl _)) (Nat.ne_of_lt (Nat.lt_succ_self _))
 have I2 := Inv.made (C := C) I
 have r2 : Az (V.ref (s.heap.objs.size + 1) :: (vs ++ dvs)) (Value.ref (s.heap.objs.size + 1) :: (us ++ ds)) := .cons rfl (r.append hd)
 have hl : (Value.ref (s.heap.objs.size + 1) :: us ++ ds).length = ps.length := by
  have e := r2.length
  rw [F.len _ _ _ _ hq] at e
  exact e.symm
 refine wpAny_call (VD (f := f) I.kIn M.makes M.init (beq_iff_eq.mp M.fn) (codeAny_mono (F.run _ X.stack _ _ ⟨Value.ref (s.heap.objs.size + 1) :: us,[]⟩ (Value.ref (s.heap.objs.size + 1) :: (us ++ ds)) _ _ E (hr.make C us [])
  (I2.env0.make C us []) (hb _ (Value.ref (s.heap.objs.size + 1) :: us) I2.kIn hl) r2 hq) λ r s' hq' => ?_))
 cases r with
 | error e => exact hx pins σ _ _ e s' I2 hq'
 | ok fl =>
  cases fl with
  | ret u =>
   obtain ⟨v,H',I3,rv,ev,q3⟩ := I2.after hq'
   subst ev
   exact ⟨rv,⟨V.ref (s.heap.objs.size + 1),H',I3,rfl,q3⟩⟩
  | next => exact False.elim hq'
  | brk => exact False.elim hq'
  | cont => exact False.elim hq'
theorem NT (M : Mk X.K C f) (F : AF X.prog X.w X.K X.mg X.base CX k f fd ps sp) (hr : AN (k + 1) X.A) (hg : Gl X x) (hm : X.mg x = some (.ref C)) (hb : Binds X.K fd ps ds) (hd : Az dvs ds) (hx : FE CX X E)
  (ha : PA X (e :: es) t) (hdb : (x == ("__debug__" : Str)) = false := by decide) (he : starEach (e :: es) X.env = (false,eval e X.env) :: starEach es X.env := by rfl) (hpl : (backTo pos (starEach es X.env)).any (·.1) = false := by rfl) :
  PE X (.Call (.Name x p) (e :: es) [] pos) (Q1 C sp dvs E t) := by
 intro pins s σ H Q I h
 refine wpAny_Call_Name_kw (HX I hg hm ?_ hdb)
 refine PySem.W.callWith_K (h₀ := X.base) I.ok.mod.kin M.kp (Aq (ha pos pins s σ H _ I h) λ us s1 ⟨vs,H1,I1,r,q⟩ => ⟨I1.kIn,?_⟩) he hpl
 exact Sy M F hr hb hd hx I1 r q
end
section
variable {X : Cx} {CX : C7} {k : Nat} {f C : Addr} {fd : FuncData} {ps ks : List Str} {sp : Sp} {E : XK} {x m : Str} {p pos apos kpos : Pos} {e o : Expr} {es : List Expr} {kws : List Keyword} {te ta : TE} {t tk : TA} {nm : Option Str}
variable {g : List Value -> List Value -> List Value} {gV : List V -> List V -> List V}
end
structure AD (N P : List Str) (sc : Scope) : Prop where
 kind : sc.kind = .function
 co : sc.isCoroutine = false
 gen : sc.isGenerator = false
 nd : N.Nodup
 pre : N.take P.length = P
 par : ∀ x ∈ P,sc.names.lookup x = some .local \/ sc.names.lookup x = some .cell
 nofree : ∀ y ∈ sc.names,y.2 ≠ .free
theorem PH {kindOf : Str -> Option NameKind} {x : Str} : ∀ {binds : List (Str × Value)} {m : Str -> Option Value},(∀ v,(x,v) ∉ binds) -> bindL kindOf binds m x = m x
 | [],_,_ => rfl
 | (n,v) :: r,m,h => by
  unfold bindL
  rw [PH λ w hw => h w (List.mem_cons_of_mem _ hw)]
  split
  ·have : x ≠ n := by rintro rfl; exact h v List.mem_cons_self
   simp [this]
  ·rfl
theorem PK {kindOf : Str -> Option NameKind} {x : Str} : ∀ {binds : List (Str × Value)} {m : Str -> Option Value},(∀ v,(x,v) ∉ binds) -> bindC kindOf binds m x = m x
 | [],_,_ => rfl
 | (n,v) :: r,m,h => by
  unfold bindC
  rw [PK λ w hw => h w (List.mem_cons_of_mem _ hw)]
  split
  ·rfl
  ·have : x ≠ n := by rintro rfl; exact h v List.mem_cons_self
   simp [this]
theorem PJ {kindOf : Str -> Option NameKind} {x : Str} {v : Value} : ∀ {P : List Str} {vs : List Value} {i : Nat} {m : Str -> Option Value},P.Nodup -> P[i]? = some x -> vs[i]? = some v -> kindOf x = some .local ->
  bindL kindOf (P.zip vs) m x = some v
 | [],_,_,_,_,h,_,_ => by simp at h
 | _ :: _,[],_,_,_,_,h,_ => by simp at h
 | p :: P,w :: vs,0,m,nd,h1,h2,hk => by
  simp at h1 h2; subst h1; subst h2
  show bindL kindOf ((p,w) :: P.zip vs) m p = _
  unfold bindL
  rw [PH λ v hv => (List.nodup_cons.mp nd).1 (List.of_mem_zip hv).1,if_pos hk]
  simp
 | p :: P,w :: vs,i + 1,m,nd,h1,h2,hk => by
  show bindL kindOf ((p,w) :: P.zip vs) m x = _
  unfold bindL
  exact PJ (i := i) (List.nodup_cons.mp nd).2 (by simpa using h1) (by simpa using h2) hk
theorem PL {kindOf : Str -> Option NameKind} {x : Str} {v : Value} : ∀ {P : List Str} {vs : List Value} {i : Nat} {m : Str -> Option Value},P.Nodup -> P[i]? = some x -> vs[i]? = some v -> kindOf x ≠ some .local ->
  bindC kindOf (P.zip vs) m x = some v
 | [],_,_,_,_,h,_,_ => by simp at h
 | _ :: _,[],_,_,_,_,h,_ => by simp at h
 | p :: P,w :: vs,0,m,nd,h1,h2,hk => by
  simp at h1 h2; subst h1; subst h2
  show bindC kindOf ((p,w) :: P.zip vs) m p = _
  unfold bindC
  rw [PK λ v hv => (List.nodup_cons.mp nd).1 (List.of_mem_zip hv).1,if_neg hk]
  simp
 | p :: P,w :: vs,i + 1,m,nd,h1,h2,hk => by
  show bindC kindOf ((p,w) :: P.zip vs) m x = _
  unfold bindC
  exact PL (i := i) (List.nodup_cons.mp nd).2 (by simpa using h1) (by simpa using h2) hk
def start (N : List Str) (vs : List V) : St := vs.map some ++ List.replicate (N.length - vs.length) none
def Ep (CX : C7) (P : Program) (w : World) (K : PySem.W.Frag) (mg : Str -> Option Value) (base : Heap) (N : List Str) (qual : Str) (scope : Scope) (f : Addr) (cd : Value) (A : Around) (outer : List Env) (s : Shared) (H : Hp) (E : XK) : Cx where
 prog := P
 w := w
 K := K
 mg := mg
 base := base
 A := A.deeper (envOfC qual scope s.heap.objs.size f cd)
 N := N
 s₀ := s
 H₀ := H
 env := envOfC qual scope s.heap.objs.size f cd
 outer := outer
 stack := envOfC qual scope s.heap.objs.size f cd :: outer
 ex := []
 calm := true
 fn := λ _ => true
 pn := []
 xe := λ e s' => wpAny (model P w) (A.deeper (envOfC qual scope s.heap.objs.size f cd)) (leaving (envOfC qual scope s.heap.objs.size f cd) e) (λ _ s'' => CX outer H s E e s'') (λ e' s'' => CX outer H s E e' s'') s'
theorem Pw {sc : Scope} {n : Nat} {x : Str} (h : sc.names.lookup x = some .cell) : ∃ c,(cellsFrom n sc.names []).lookup x = some c := by
 have q := PySem.W.cellsFrom_some sc.names n [] (.inl h)
 exact Option.isSome_iff_exists.mp q
theorem V4 {CX : C7} {P : Program} {w : World} {K : PySem.W.Frag} {mg : Str -> Option Value} {base : Heap} {N ps : List Str} {qual : Str} {scope : Scope} {f : Addr} {cd : Value} {A : Around} {outer : List Env} {s s1 : Shared} {H : Hp} {E : XK} {us : List Value} {vs : List V}
  (S : AD N ps scope) (hd : A.handled = none) (e0 : FH P w K mg base A outer s H) (hl : vs.length = ps.length) (r : Az vs us)
  (x : InCallC s s.heap.objs.size (bindL (envOfC qual scope s.heap.objs.size f cd).kindOf (ps.zip us) λ _ => none) (cellsFrom (s.heap.objs.size + 1) scope.names []) (bindC (envOfC qual scope s.heap.objs.size f cd).kindOf (ps.zip us) λ _ => none) s1) :
  Inv (Ep CX P w K mg base N qual scope f cd A outer s H E) [] (start N vs) H s1 := by
 have hpl : ps.length <= N.length := by have := congrArg List.length S.pre; rw [List.length_take] at this; omega
 obtain ⟨h1,tk,rfl,hk⟩ := x.done
 have noA : ∀ b : Addr,b ∉ (Ep CX P w K mg base N qual scope f cd A outer s H E).ex := λ b z => absurd (show b ∈ ([] : List Addr) from z) (by simp)
 refine ⟨⟨e0.mod,S.kind,rfl,rfl,Nat.le_refl _,λ y z c h1 h2 => ?_,λ y hy => ?_,λ y c _ h => ?_,λ _ => hd,Around.frames_deeper e0.frames,.inr ⟨rfl,rfl⟩,λ b z => absurd z (noA b),e0.bs,e0.bsz,λ b _ _ => noA b,λ b z => absurd z (noA b),e0.funs,e0.frf⟩,
  rfl,e0.bare,Un.kept hk,⟨_,x.toInCall.ns,λ i y v h1 h2 h3 => ?_⟩,λ y c h => ⟨_,x.cell y c h⟩,e0.hok.fresh (Nat.le_refl _),λ y c h => ?_,λ p hp => absurd (show p ∈ ([] : List (Addr × Obj)) from hp) (by simp),e0.hok.kept hk,?_⟩
 ·exact name_of_addr x.apart (PySem.mem_of_lookup h1) (PySem.mem_of_lookup h2)
 ·have hy : scope.names.lookup y = some .cell \/ scope.names.lookup y = some .free := hy
  rcases hy with hy | hy
  ·exact Pw hy
  ·exact absurd rfl (S.nofree _ (PySem.mem_of_lookup hy))
 ·exact Nat.le_of_lt (x.above y c (PySem.mem_of_lookup h))
 ·have hi : i < vs.length := by
   unfold start at h2
   by_cases hi : i < vs.length
   ·exact hi
   ·rw [List.getElem?_append_right (by simpa using hi)] at h2
    rw [List.getElem?_replicate] at h2
    split at h2 <;> cases h2
  have ha : vs[i]? = some v := by
   unfold start at h2
   rw [List.getElem?_append_left (by simpa using hi),List.getElem?_map] at h2
   cases e : vs[i]? with
   | none => rw [e] at h2; cases h2
   | some a => rw [e] at h2; cases h2; rfl
  obtain ⟨u,hu,rv⟩ := r.get ha
  have hp : ps[i]? = some y := by
   rw [<- S.pre,List.getElem?_take_of_lt wF]; exact h1
  have ndP : ps.Nodup := by rw [<- S.pre]; exact S.nd.sublist (List.take_sublist _ _)
  refine ⟨u,rv,?_⟩
  rcases S.par y (List.mem_of_getElem? hp) with k | k
  ·exact .inl ⟨k,PJ ndP hp hu k⟩
  ·obtain ⟨c,e⟩ := Pw (n := s.heap.objs.size + 1) k
   refine .inr ⟨.inl k,c,e,?_⟩
   have q := x.cell y c e
   rw [PL ndP hp hu (by show scope.names.lookup y ≠ _; rw [k]; decide)] at q
   exact q
 ·exact e0.hok.fresh (Nat.le_of_lt (x.above y c (PySem.mem_of_lookup h)))
 ·unfold start
  show _ = N.length
  rw [List.length_append,List.length_map,List.length_replicate]
  omega
theorem OT {CX : C7} {P : Program} {w : World} {K : PySem.W.Frag} {mg : Str -> Option Value} {base : Heap} {k : Nat} {f : Addr} {name qual : Str} {params : Arguments} {body : List Stmt} {scope : Scope} {dV kV doc pm cdv ct oc : Value} {an od : Option Addr}
  {osl : Array (Option Value)} {N ps : List Str} {sp : Sp} (lk : K.lookup f = some ⟨oc,od,.func (PySem.W.fnOf name qual params body scope dV kV doc pm an cdv ct),osl⟩) (hcd : PySem.W.codeIn K cdv qual = true) (S : AD N ps scope)
  (len : ∀ vs H Q E,sp vs H Q E -> vs.length = ps.length)
  (hbody : ∀ (A : Around) (outer : List Env) (s : Shared) (H : Hp) (vs : List V) (Q : VK) (E : XK),AN k (A.deeper (envOfC qual scope s.heap.objs.size f cdv)) -> sp vs H Q E ->
   ∃ t,PSs (Ep CX P w K mg base N qual scope f cdv A outer s H E) body t /\ t { nx := λ _ H' => Q .non H',rt := Q } (start N vs) H) :
  AF P w K mg base CX (k + 1) f (PySem.W.fnOf name qual params body scope dV kV doc pm an cdv ct) ps sp := by
 refine ⟨len,λ A outer s H args us vs Q E hr e0 hb r hsp => ?_⟩
 have hl := len _ _ _ _ hsp
 have KX : K.In s.heap := e0.mod.kin.keeps λ b o e => (e0.bs b o e).1
 have lim : s.heap.NoLimit := e0.mod.nolimit.keeps λ b o e => (e0.bs b o e).1
 have hkind : ∀ y ∈ ps.zip us,scope.names.lookup y.1 = some .local \/ (scope.names.lookup y.1 = some .cell /\ ((cellsFrom (s.heap.objs.size + 1) scope.names []).lookup y.1).isSome = true) := λ ⟨n,v⟩ hy => by
  rcases S.par n (List.of_mem_zip hy).1 with q | q
  ·exact .inl q
  ·exact .inr ⟨q,PySem.W.cellsFrom_some _ _ _ (.inl q)⟩
 refine codeAny_call_function hr.depth (KX _ _ lk) rfl S.co S.gen rfl (PySem.W.codeRec_of KX hcd) (hb _ _ _ _ ?_)
 refine wpAny_newFunctionEnv_cells S.kind hkind λ env he s1 x => ?_
 subst he
 refine ⟨lim.keeps x.toInCall.keep,codeAny_func ?_⟩
 obtain ⟨t,ht,hq⟩ := hbody A outer s H vs Q E (hr.deeper _) hsp
 have I : Inv (Ep CX P w K mg base N qual scope f cdv A outer s H E) [] (start N vs) H s1 := V4 S hr.hd e0 hl r x
 refine wpAny_mono (ht [] s1 (start N vs) H _ I hq) (λ fl s' hs => ?_) λ e s' hs => hs
 have fin : ∀ {σ' : St} {H' : Hp} {v : V} {u : Value},Inv (Ep CX P w K mg base N qual scope f cdv A outer s H E) [] σ' H' s' -> AX v u -> Q v H' -> CE outer P w H s Q u s' :=
  λ {σ' H' v u} J rv q => ⟨v,H',J.os,J.bare,J.base,J.hok,rv,q⟩
 cases fl with
 | ret u =>
  obtain ⟨v,σ',H',J,rv,q⟩ := hs
  exact fin J rv q
 | next =>
  obtain ⟨σ',H',J,q⟩ := hs
  exact fin (v := V.non) (u := Value.none) J rfl q
 | brk =>
  obtain ⟨_,_,_,q⟩ := hs
  exact False.elim q
 | cont =>
  obtain ⟨_,_,_,q⟩ := hs
  exact False.elim q
end L2
namespace L2
open PySem PySem.Spec PyProof.Rows
section
variable {X : Cx} {x : Str} {p pos : Pos} {e : Expr} {es : List Expr} {t : TA} {id T : String} {r : List V -> Hp -> VK -> Prop}
def tCB (r : List V -> Hp -> VK -> Prop) (t : TA) : TE := λ σ H Q => t σ H λ vs H1 => r vs H1 Q
theorem NY (hc : DP X (.builtin id) r) (hg : Gl X x) (hm : X.mg x = none) (hv : bootBuiltins x = some (.builtin id)) (ha : PA X (e :: es) t) (hn : x ≠ "__name__" := by decide) (hdb : (x == ("__debug__" : Str)) = false := by decide)
  (he : starEach (e :: es) X.env = (false,eval e X.env) :: starEach es X.env := by rfl) (hpl : (backTo pos (starEach es X.env)).any (·.1) = false := by rfl) : PE X (.Call (.Name x p) (e :: es) [] pos) (tCB r t) := by
 intro pins s σ H Q I h
 refine wpAny_Call_Name_kw (EI I hg hm hv ?_ hn hdb)
 exact PyProof.Rows.callWith_builtin1 (Aq (ha pos pins s σ H _ I h) λ us s1 ⟨vs,H1,I1,r1,q1⟩ => hc pins s1 σ H1 vs us Q I1 r1 q1) he hpl
theorem NX (hc : DP X (.type T) r) (hg : Gl X x) (hm : X.mg x = none) (hv : bootBuiltins x = some (.type T)) (ha : PA X (e :: es) t) (hn : x ≠ "__name__" := by decide) (hdb : (x == ("__debug__" : Str)) = false := by decide)
  (he : starEach (e :: es) X.env = (false,eval e X.env) :: starEach es X.env := by rfl) (hpl : (backTo pos (starEach es X.env)).any (·.1) = false := by rfl) : PE X (.Call (.Name x p) (e :: es) [] pos) (tCB r t) := by
 intro pins s σ H Q I h
 refine wpAny_Call_Name_kw (EI I hg hm hv ?_ hn hdb)
 exact PyProof.Rows.callWith_type1 (Aq (ha pos pins s σ H _ I h) λ us s1 ⟨vs,H1,I1,r1,q1⟩ => hc pins s1 σ H1 vs us Q I1 r1 q1) he hpl
end
end L2
namespace HT
open PySem PyProof.Rows
def VH : List Int -> List Int -> Bool
 | [],[] => false
 | [],_ :: _ => true
 | _ :: _,[] => false
 | x :: xs,y :: ys => if x = y then VH xs ys else decide (x < y)
section
open PySem.SeqAt
open PySem.AutoSeq1 (wpAny_loadPart')
open PySem.MeetsSeq PySem.MeetsSeq2 PySem.MeetsSeq3
end
section
variable {prog : Program} {w : World} {A : Around} {E : Value -> Shared -> Prop} {s : Shared}
theorem cat_tup {t b : Addr} {vs ws : List Value} {Q : Value -> Shared -> Prop} (ht : IsTup s.heap t vs.toArray) (hb : IsTup s.heap b ws.toArray) (hv : vs ≠ [])
  (h1 : ws = [] -> Q (.ref t) s) (h2 : ws ≠ [] -> Q (.ref s.heap.objs.size) { s with heap := s.heap.push { cls := .type "tuple",data := .seq (vs ++ ws).toArray } })
  (hsz : vs.length + ws.length <= sizeLine) : wpAny (model prog w) A (binaryOp .Add (.ref t) (.ref b)) Q E s := by
 obtain ⟨⟨cls,dd,data,sl⟩,ho,hc,n,hd⟩ := id ht
 obtain ⟨⟨cls2,dd2,data2,sl2⟩,ho2,hc2,n2,hd2⟩ := id hb
 simp only at hc hd hc2 hd2
 subst hc hd hc2 hd2
 have e : vs.toArray ++ ws.toArray = (vs ++ ws).toArray := by simp
 by_cases hw : ws = []
 ·exact concat_meets ⟨_,ho,rfl⟩ ⟨_,ho2,rfl⟩ noFill_tuple_add seq_tuple_add PySem.F.slot_tuple_add PySem.F.entry_tuple_add (PySem.F.args_tuple_add_2 _ _)
   (tuple_addW1 t b vs.toArray ws.toArray n n2 dd dd2 sl sl2 (by simpa using hv) (by simp [hw])) ⟨ho,ho2,h1 hw⟩
 ·refine concat_meets ⟨_,ho,rfl⟩ ⟨_,ho2,rfl⟩ noFill_tuple_add seq_tuple_add PySem.F.slot_tuple_add PySem.F.entry_tuple_add (PySem.F.args_tuple_add_2 _ _)
   (tuple_addW2 t b vs.toArray ws.toArray n n2 dd dd2 sl sl2 (by simpa using hv) (by simpa using hw) (by rw [List.size_toArray,List.size_toArray]; exact hsz)) ⟨ho,ho2,?_⟩
  rw [e]
  exact h2 hw
def sIx (n d : Nat) : Option Int -> Nat
 | none => d
 | some v => if v < 0 then (v + (n : Int)).toNat else min v.toNat n
theorem sIx_none (n d : Nat) : sIx n d none = d := rfl
theorem sIx_nat (n d k : Nat) : sIx n d (some (k : Int)) = min k n := by
 show (if (k : Int) < 0 then ((k : Int) + (n : Int)).toNat else min (k : Int).toNat n) = min k n
 rw [if_neg wF,Int.toNat_natCast]
theorem Sv (n d : Nat) (hd : d <= n) (o : Option Int) : sIx n d o <= n := by
 cases o with
 | none => exact hd
 | some v =>
  show (if v < 0 then (v + (n : Int)).toNat else min v.toNat n) <= n
  by_cases hv : v < 0
  ·rw [if_pos hv]; omega
  ·rw [if_neg hv]; exact Nat.min_le_right _ _
theorem Pv (v : Int) (n d : Nat) : (if v < 0 then max (v + (n : Int)) 0 else min v (n : Int)) = ((sIx n d (some v) : Nat) : Int) := by
 show (if v < 0 then max (v + (n : Int)) 0 else min v (n : Int)) = (((if v < 0 then (v + (n : Int)).toNat else min v.toNat n) : Nat) : Int)
 by_cases hv : v < 0
 ·simp only [if_pos hv]; omega
 ·simp only [if_neg hv]; omega
theorem Yg (lo hi : Option Int) (n : Nat) : Builtin.Slice.sliceAdjust lo hi 1 (n : Int) = (((sIx n 0 lo : Nat) : Int),((sIx n n hi : Nat) : Int)) := by
 have h1 : ¬ ((1 : Int) < 0) := by omega
 unfold Builtin.Slice.sliceAdjust
 simp only [h1,if_false]
 refine Prod.ext ?_ ?_
 ·cases lo with
  | none => rfl
  | some v => exact Pv v n 0
 ·cases hi with
  | none => rfl
  | some v => exact Pv v n n
theorem Tm (i j : Nat) : Builtin.Slice.slicePlaces (i : Int) (j : Int) 1 = j - i := by
 unfold Builtin.Slice.slicePlaces
 have h1 : (1 : Int) > 0 := by omega
 simp only [h1,if_true,Int.ediv_one]
 split <;> omega
theorem Nh {v : Value} {o : Option Int} {Q : Option Int -> Shared -> Prop} (p : IsPart v o) (h : Q o s) : wpAny (model prog w) A (Builtin.Slice.slicePartIndex v) Q E s := by
 cases p with
 | none => exact slicePart_none h
 | int i t => exact slicePart_int h
theorem sliceApplied_gen {sl : Addr} {vl vu : Value} {lo hi : Option Int} {n : Nat} {Q : Int × Int × Nat -> Shared -> Prop} (hs : s.heap.IsSliceOf sl vl vu .none) (pl : IsPart vl lo) (pu : IsPart vu hi)
  (h : Q (((sIx n 0 lo : Nat) : Int),1,sIx n n hi - sIx n 0 lo) s) : wpAny (model prog w) A (Builtin.Slice.sliceApplied (.ref sl) (pure (n : Int))) Q E s := by
 obtain ⟨os,hos,hcs,hds⟩ := id hs
 unfold Builtin.Slice.sliceApplied Builtin.Slice.sliceFields
 refine wpAny_bind (wpAny_bind (wpAny_field hos hds (x := vl) rfl (wpAny_bind (wpAny_field hos hds (x := vu) rfl (wpAny_bind (wpAny_field hos hds (x := .none) rfl (wpAny_pure ?_)))))))
 refine wpAny_bind (slicePart_none ?_)
 show wpAny _ _ (if ((1 : Int) == 0) = true then _ else _) _ _ s
 rw [if_neg wE]
 refine wpAny_bind (Nh pl (wpAny_bind (Nh pu (wpAny_bind (wpAny_pure ?_)))))
 show wpAny _ _ (match Builtin.Slice.sliceAdjust lo hi 1 (n : Int) with | (lo,hi) => pure (lo,(1 : Int),Builtin.Slice.slicePlaces lo hi 1)) _ _ s
 rw [Yg lo hi n]
 show wpAny _ _ (pure (((sIx n 0 lo : Nat) : Int),(1 : Int),Builtin.Slice.slicePlaces ((sIx n 0 lo : Nat) : Int) ((sIx n n hi : Nat) : Int) 1)) _ _ s
 rw [Tm]
 exact wpAny_pure h
theorem Ts (xs : Array Value) (i k : Nat) : ((List.range k).filterMap λ (m : Nat) => xs[((i : Int) + (m : Int) * 1).toNat]?).toArray = ((xs.toList.drop i).take k).toArray := by
 have e : (λ (m : Nat) => xs[((i : Int) + (m : Int) * 1).toNat]?) = λ m => xs[i + m]? := by
  funext m
  have : ((i : Int) + (m : Int) * 1).toNat = i + m := by omega
  rw [this]
 rw [e]
 have := pick_run xs i k
 rw [List.filterMap_map] at this
 have e2 : ((λ x => xs[x]?) ∘ λ x => i + x) = λ m => xs[i + m]? := rfl
 rw [e2] at this
 rw [this]
theorem getItem_tuple_cut {t sl : Addr} {items : Array Value} {vl vu : Value} {lo hi : Option Int} {Q : Value -> Shared -> Prop} (ht : IsTup s.heap t items) (hs : s.heap.IsSliceOf sl vl vu .none) (pl : IsPart vl lo) (pu : IsPart vu hi)
  (hw : ¬ (sIx items.size 0 lo = 0 /\ sIx items.size items.size hi = items.size))
  (h : Q (.ref s.heap.objs.size) { s with heap := s.heap.push { cls := .type "tuple",data := .seq ((items.toList.drop (sIx items.size 0 lo)).take (sIx items.size items.size hi - sIx items.size 0 lo)).toArray } })
  (hsz : items.size <= sizeLine) : wpAny (model prog w) A (getItem (.ref t) (.ref sl)) Q E s := by
 have htake : sizeOk (.seq ((items.toList.drop (sIx items.size 0 lo)).take (sIx items.size items.size hi - sIx items.size 0 lo)).toArray) := by
  show ((items.toList.drop (sIx items.size 0 lo)).take (sIx items.size items.size hi - sIx items.size 0 lo)).toArray.size <= sizeLine
  rw [List.size_toArray,List.length_take,List.length_drop,Array.length_toList]
  omega
 have hj : sIx items.size items.size hi <= items.size := Sv _ _ (Nat.le_refl _) hi
 obtain ⟨os,hos,hcs,hds⟩ := id hs
 have hTs : s.TypeIs (.ref sl) "slice" := ⟨os,hos,hcs⟩
 unfold getItem
 try with_reducible refine wpAny_holding ?_
 first | refine wpAny_bind (wpAny_pure ?_) | skip
 refine wpAny_bind (wpAny_sequenceKey ht.typeIs wE ?_)
 refine wpAny_bind (wpAny_callSpecial?_slot (name := Str.ofString "__getitem__") ht.typeIs PyProof.Rows.slot_tuple_getitem
  (wpAny_call_entry PyProof.Rows.slot_tuple_getitem ht.typeIs entry_tuple_getitem ?_ (args_tuple_getitem _ _)))
 show wpAny _ _ (Builtin.Tuple.tupleItemsOf (.ref t) >>= _) _ _ s
 refine wpAny_bind (tupleItemsOf_ ht ?_)
 refine wpAny_bind (wpAny_typeOf hTs ?_)
 rw [if_pos wE]
 refine wpAny_bind (sliceApplied_gen hs pl pu ?_)
 have hno : ¬ ((((sIx items.size 0 lo : Nat) : Int) == 0 && (1 : Int) == 1 && (sIx items.size items.size hi - sIx items.size 0 lo) == items.size) = true) := by
  intro q
  rw [Bool.and_eq_true,Bool.and_eq_true] at q
  have q1 : ((sIx items.size 0 lo : Nat) : Int) = 0 := eq_of_beq q.1.1
  have q2 : sIx items.size items.size hi - sIx items.size 0 lo = items.size := eq_of_beq q.2
  exact hw ⟨by omega,by omega⟩
 show wpAny _ _ (if (((sIx items.size 0 lo : Nat) : Int) == 0 && (1 : Int) == 1 && (sIx items.size items.size hi - sIx items.size 0 lo) == items.size) = true then _ else _) _ _ s
 rw [if_neg hno,Ts]
 first
  | exact wpAny_bind (m := Builtin.Tuple.tupleExact _) (wpAny_newObj_type (wpAny_pure ⟨_,rfl,wpAny_pure h⟩) htake)
  | exact wpAny_bind (m := Builtin.Tuple.tupleExact _) (wpAny_newObj_type (wpAny_bind (wpAny_pure (wpAny_pure ⟨_,rfl,wpAny_pure h⟩))) htake)
  | exact wpAny_bind (wpAny_bind (m := Builtin.Tuple.tupleExact _) (wpAny_newObj_type (wpAny_pure (wpAny_pure ⟨_,rfl,wpAny_pure h⟩)) htake))
  | exact wpAny_bind (wpAny_bind (m := Builtin.Tuple.tupleExact _) (wpAny_newObj_type (wpAny_pure ⟨_,rfl,wpAny_pure h⟩) htake))
end
end HT
namespace L2
open PySem PySem.Spec PyProof.Rows
abbrev TO := St -> Hp -> (Option Int -> Hp -> Prop) -> Prop
def PO (X : Cx) (e : Option Expr) (t : TO) : Prop :=
 ∀ (pins : List (Addr × Obj)) (s : Shared) (σ : St) (H : Hp) (Q : Option Int -> Hp -> Prop),Inv X pins σ H s -> t σ H Q ->
  wpAny (model X.prog X.w) X.A (evalPart e X.env) (λ u s' => ∃ o H',Inv X pins σ H' s' /\ IsPart u o /\ Q o H') X.xe s
def QZ : TO := λ _ H Q => Q none H
def QV (t : TE) : TO := λ σ H Q => t σ H λ x H1 => ∃ i,x = .int i /\ Q (some i) H1
section
variable {X : Cx} {e : Expr} {te : TE} {lo hi : Option Expr} {tl th : TO} {pos p2 : Pos}
theorem Tl : PO X none QZ := by
 intro pins s σ H Q I h
 rw [evalPart_none]
 exact wpAny_pure ⟨none,H,I,.none,h⟩
theorem Tk (h : PE X e te) : PO X (some e) (QV te) := by
 intro pins s σ H Q I hw
 rw [evalPart_some]
 refine Aq (h pins s σ H _ I hw) λ u s1 ⟨x,H1,I1,r1,q1⟩ => ?_
 obtain ⟨i,rfl,q⟩ := q1
 obtain ⟨t,rfl⟩ := r1
 exact ⟨some i,H1,I1,.int i t,q⟩
def FB (X : Cx) (r : V -> Option Int -> Option Int -> Hp -> VK -> Prop) : Prop :=
 ∀ (pins : List (Addr × Obj)) (s : Shared) (σ : St) (H : Hp) (x : V) (v vl vu : Value) (lo hi : Option Int) (sl : Addr) (Q : VK),Inv X pins σ H s -> AX x v -> s.heap.IsSliceOf sl vl vu .none -> IsPart vl lo -> IsPart vu hi -> r x lo hi H Q ->
  ∃ T id,typeLookup (.type T) "__getitem__" = pure (some (.builtin id)) /\ s.TypeIs v T /\ wpAny (model X.prog X.w) X.A (getItem v (.ref sl)) (EP X pins σ Q) X.xe s
theorem FB.or {r r' : V -> Option Int -> Option Int -> Hp -> VK -> Prop} (h : FB X r) (h' : FB X r') : FB X (λ x lo hi H Q => r x lo hi H Q \/ r' x lo hi H Q) := by
 intro pins s σ H x v vl vu lo hi sl Q I rx hs pl pu q
 rcases q with q | q
 ·exact h pins s σ H x v vl vu lo hi sl Q I rx hs pl pu q
 ·exact h' pins s σ H x v vl vu lo hi sl Q I rx hs pl pu q
def tSl (r : V -> Option Int -> Option Int -> Hp -> VK -> Prop) (te : TE) (tl th : TO) : TE := λ σ H Q => te σ H λ x H1 => tl σ H1 λ l H2 => th σ H2 λ u H3 => r x l u H3 Q
theorem TF {r : V -> Option Int -> Option Int -> Hp -> VK -> Prop} (hr : FB X r) (he : PE X e te) (hl : PO X lo tl) (hu : PO X hi th) : PE X (.Subscript e (.Slice lo hi none p2) pos) (tSl r te tl th) := by
 intro pins s σ H Q I h
 refine Subscript_ (Aq (he pins s σ H _ I h) λ v s1 ⟨x,H1,I1,r1,q1⟩ => ?_)
 refine wpAny_Slice (Aq (hl pins s1 σ H1 _ I1 q1) λ vl s2 ⟨l,H2,I2,pl,q2⟩ => Aq (hu pins s2 σ H2 _ I2 q2) λ vu s3 ⟨u,H3,I3,pu,q3⟩ => ?_)
 rw [evalPart_none]
 refine wpAny_pure ?_
 have I4 : Inv X pins σ H3 { s3 with heap := s3.heap.push { cls := .type "slice",data := .fields #[vl,vu,.none] } } := I3.kept (t' := s3.toks) λ b ob q => Heap.get?_push_of_some _ q
 obtain ⟨T,id,hT,ht,hg⟩ := hr pins { s3 with heap := s3.heap.push { cls := .type "slice",data := .fields #[vl,vu,.none] } } σ H3 x v vl vu l u s3.heap.objs.size Q I4 r1 (Heap.IsSliceOf.new ..) pl pu q3
 show wpAny (model X.prog X.w) X.A (subscriptTail e (.Slice lo hi none p2) v (.ref s3.heap.objs.size)) (EP X pins σ Q) X.xe { s3 with heap := s3.heap.push { cls := .type "slice",data := .fields #[vl,vu,.none] } }
 exact tail_any (ops := [.ref s3.heap.objs.size,v]) ht hT hg (by with_unfolding_all rfl)
def Fw (xs : List V) (lo hi : Option Int) : List V := (xs.drop (HT.sIx xs.length 0 lo)).take (HT.sIx xs.length xs.length hi - HT.sIx xs.length 0 lo)
theorem Xt (xs : List V) (lo hi : Option Int) : (Fw xs lo hi).length <= xs.length := by
 unfold Fw
 rw [List.length_take,List.length_drop]
 omega
def SH (K : PySem.W.Frag) : V -> Option Int -> Option Int -> Hp -> VK -> Prop := λ x lo hi H Q => ∃ a xs,x = .ref a /\ Bc K H a xs /\
 ¬ (HT.sIx xs.length 0 lo = 0 /\ HT.sIx xs.length xs.length hi = xs.length) /\ ∀ p,H p = none -> Q (.ref p) (AL H p (.tup (Fw xs lo hi)))
theorem Ru : FB X (SH X.K) := by
 intro pins s σ H x v vl vu lo hi sl Q I rx hs pl pu h
 obtain ⟨a,xs,rfl,hx,hw,q⟩ := h
 cases rx
 obtain ⟨its,r,ht,hz⟩ := I.tuple hx
 have hlen : its.toArray.size = xs.length := by rw [List.size_toArray]; exact r.length.symm
 refine ⟨"tuple",_,PyProof.Rows.slot_tuple_getitem.lookup,ht.typeIs,?_⟩
 refine HT.getItem_tuple_cut ht hs pl pu (by rw [hlen]; exact hw) ?_ (by rw [hlen]; exact hz)
 rw [hlen]
 refine ⟨.ref s.heap.objs.size,_,I.laid (t' := s.toks) (o := .tup (Fw xs lo hi)) (λ b ob q => Heap.get?_push_of_some _ q) (Nat.le_refl _) ?_,rfl,q _ (I.hok.fresh (Nat.le_refl _))⟩
 exact ⟨Nat.le_trans (Xt xs lo hi) hz,_,(r.drop (HT.sIx xs.length 0 lo)).take (HT.sIx xs.length xs.length hi - HT.sIx xs.length 0 lo),DM.new _ _⟩
def SM (K : PySem.W.Frag) : R2 := λ x y H Q => ∃ a b xs ys,x = .ref a /\ y = .ref b /\ Bc K H a xs /\ Bc K H b ys /\ xs ≠ [] /\ xs.length + ys.length <= sizeLine /\
 (ys = [] -> Q (.ref a) H) /\ (ys ≠ [] -> ∀ p,H p = none -> Q (.ref p) (AL H p (.tup (xs ++ ys))))
theorem Az.nil_iff {xs : List V} {us : List Value} (r : Az xs us) : us = [] ↔ xs = [] := by
 cases r with
 | nil => simp
 | cons _ _ => simp
theorem Ua : BT X (binaryOp .Add) (SM X.K) := by
 intro pins s σ H x y v u Q I rx ry h
 obtain ⟨a,b,xs,ys,rfl,rfl,ha,hb,hx,hz,q1,q2⟩ := h
 cases rx
 cases ry
 obtain ⟨its,r1,p1,_⟩ := I.tuple ha
 obtain ⟨its2,r2,p2,_⟩ := I.tuple hb
 refine HT.cat_tup p1 p2 (λ z => hx (r1.nil_iff.mp z)) (λ z => ⟨.ref a,H,I,rfl,q1 (r2.nil_iff.mp z)⟩) (λ z => ?_) (by rw [<- r1.length,<- r2.length]; exact hz)
 refine ⟨.ref s.heap.objs.size,_,I.laid (t' := s.toks) (o := .tup (xs ++ ys)) (λ b ob q => Heap.get?_push_of_some _ q) (Nat.le_refl _) ?_,rfl,q2 (λ w => z (r2.nil_iff.mpr w)) _ (I.hok.fresh (Nat.le_refl _))⟩
 exact ⟨by rw [List.length_append]; exact hz,_,r1.append r2,DM.new _ _⟩
end
end L2
namespace L2
open PySem PySem.Spec PyProof.Rows
def Fr (n : Nat) (i : Int) : Option Nat := if 0 <= i then (if i < n then some i.toNat else none) else if -(n : Int) <= i then some (i + n).toNat else none
def Bt {α : Type} (xs : List α) (i : Int) : Option α := (Fr xs.length i).bind λ j => xs[j]?
theorem VX {n : Nat} {i : Int} {j : Nat} (h : Fr n i = some j) : seqIndex? i n = some j /\ j < n /\ -(n : Int) <= i /\ i < n := by
 unfold Fr at h
 by_cases h0 : 0 <= i
 ·rw [if_pos h0] at h
  by_cases h1 : i < n
  ·rw [if_pos h1] at h
   have e : i.toNat = j := Option.some.inj h
   exact ⟨by rw [seqIndex_of h0 h1,e],by omega,by omega,h1⟩
  ·rw [if_neg h1] at h; cases h
 ·rw [if_neg h0] at h
  by_cases h1 : -(n : Int) <= i
  ·rw [if_pos h1] at h
   have e : (i + n).toNat = j := Option.some.inj h
   exact ⟨by rw [seqIndex_neg wF h1,e],by omega,h1,by omega⟩
  ·rw [if_neg h1] at h; cases h
theorem PX {α : Type} {xs : List α} {i : Int} {v : α} (h : Bt xs i = some v) : ∃ j,seqIndex? i xs.length = some j /\ xs[j]? = some v /\ j < xs.length /\ -(xs.length : Int) <= i /\ i < xs.length := by
 unfold Bt at h
 cases e : Fr xs.length i with
 | none => rw [e] at h; cases h
 | some j =>
  rw [e] at h
  obtain ⟨h1,h2,h3,h4⟩ := VX e
  exact ⟨j,h1,h,h2,h3,h4⟩
theorem Er {α : Type} {xs : List α} {j : Nat} {v : α} (h : xs[j]? = some v) : Bt xs (j : Int) = some v := by
 have hj : j < xs.length := (List.getElem?_eq_some_iff.mp h).1
 have e : Fr xs.length (j : Int) = some j := by
  unfold Fr
  rw [if_pos wF,if_pos wF]; simp
 unfold Bt; rw [e]; exact h
def P4 (b : Expr) : Prop := ∀ o i,subscripted b false o i = operate [o,i] (getItem o i)
def IxR (X : Cx) (r : R2) : Prop :=
 ∀ (value slice : Expr) (pins : List (Addr × Obj)) (s : Shared) (σ : St) (H : Hp) (x y : V) (v u : Value) (Q : VK),Inv X pins σ H s -> AX x v -> AX y u -> r x y H Q ->
  subscripted slice false v u = operate [v,u] (getItem v u) -> wpAny (model X.prog X.w) X.A (subscriptTail value slice v u) (EP X pins σ Q) X.xe s
def MtR (X : Cx) (id : String) (r : V -> List V -> Hp -> VK -> Prop) : Prop :=
 ∀ (pins : List (Addr × Obj)) (s : Shared) (σ : St) (H : Hp) (x : V) (xs : List V) (v : Value) (us : List Value) (Q : VK),Inv X pins σ H s -> AX x v -> Az xs us -> r x xs H Q ->
  wpAny (model X.prog X.w) X.A (call (.builtin id) (v :: us)) (EP X pins σ Q) X.xe s
section
variable {X : Cx} {a b : Expr} {ta tb : TE} {pos : Pos}
def SK (K : PySem.W.Frag) : R2 := λ x y H Q => ∃ p xs i v,x = .ref p /\ y = .int i /\ Be K H p xs /\ Bt xs i = some v /\ Q v H
def SJ (K : PySem.W.Frag) : R2 := λ x y H Q => ∃ p xs i v,x = .ref p /\ y = .int i /\ Bc K H p xs /\ Bt xs i = some v /\ Q v H
theorem VW : IxR X (SK X.K) := by
 intro value slice pins s σ H x y v u Q I rx ry h hs
 obtain ⟨p,xs,i,z,rfl,rfl,hq,he,q⟩ := h
 cases rx
 obtain ⟨t,rfl⟩ := ry
 obtain ⟨its,r,pl,hz⟩ := I.list hq
 obtain ⟨j,h1,h2,h3,h4,h5⟩ := PX he
 obtain ⟨w,ew,rw'⟩ := r.get h2
 have hl := r.length
 have hn := HV
 have fin : EP X pins σ Q w s := ⟨z,H,I,rw',q⟩
 by_cases h0 : 0 <= i
 ·have hj : i.toNat = j := by
   rw [seqIndex_of h0 h5] at h1
   exact Option.some.inj h1
  exact item_listR pl.isList h0 wF (by rw [hj]; simpa using ew) fin hs
 ·have hj : (i + (its.toArray.size : Int)).toNat = j := by
   rw [seqIndex_neg wF h4] at h1
   rw [List.size_toArray,<- hl]
   exact Option.some.inj h1
  exact subscriptTail_builtinR (x := w) pl.isList.typeIs slot_list_getitem.lookup
   (wpAny_getItem_list_neg (Q := λ r s' => r = w /\ EP X pins σ Q r s') pl.isList wF (by rw [List.size_toArray] <;> omega) wF (by rw [hj]; simpa using ew) ⟨rfl,fin⟩) hs
theorem VV : IxR X (SJ X.K) := by
 intro value slice pins s σ H x y v u Q I rx ry h hs
 obtain ⟨p,xs,i,z,rfl,rfl,hq,he,q⟩ := h
 cases rx
 obtain ⟨t,rfl⟩ := ry
 obtain ⟨its,r,pl,hz⟩ := I.tuple hq
 obtain ⟨j,h1,h2,h3,h4,h5⟩ := PX he
 obtain ⟨w,ew,rw'⟩ := r.get h2
 have hl := r.length
 have hn := HV
 have fin : EP X pins σ Q w s := ⟨z,H,I,rw',q⟩
 exact subscriptTail_builtinR (x := w) pl.typeIs slot_tuple_getitem.lookup
  (getItem_tuple (j := j) (Q := λ r s' => r = w /\ EP X pins σ Q r s') pl wF wF (by rw [List.size_toArray,<- hl]; exact h1) (by simpa using ew) ⟨rfl,fin⟩) hs
theorem XS : DP X (.builtin "len") (λ xs H Q => ∃ p ys,xs = [.ref p] /\ (Be X.K H p ys \/ Bc X.K H p ys) /\ Q (.int ys.length) H) := by
 intro pins s σ H xs us Q I r h
 obtain ⟨p,ys,rfl,hq,q⟩ := h
 obtain ⟨u,rfl,rx⟩ := DQ r
 cases rx
 have hn := HV
 rcases hq with hq | hq
 ·obtain ⟨its,r',pl,hz⟩ := I.list hq
  have hlen := r'.length
  exact Calls.call_len_list pl.isList (by simp only [List.size_toArray] <;> omega) ⟨.int ys.length,H,I.tok _,⟨s.toks + 1,by rw [List.size_toArray,hlen]⟩,q⟩
 ·obtain ⟨its,r',pl,hz⟩ := I.tuple hq
  have hlen := r'.length
  exact len_tuple pl (by simp only [List.size_toArray] <;> omega) ⟨.int ys.length,H,I.tok _,⟨s.toks + 1,by rw [List.size_toArray,hlen]⟩,q⟩
theorem XQ : DP X (.type "list") (λ xs H Q => ∃ p ys,xs = [.ref p] /\ (Be X.K H p ys \/ Bc X.K H p ys) /\ ∀ l,H l = none -> Q (.ref l) (AL H l (.lst ys))) := by
 intro pins s σ H xs us Q I r h
 obtain ⟨p,ys,rfl,hq,q⟩ := h
 obtain ⟨u,rfl,rx⟩ := DQ r
 cases rx
 have fin : ∀ (its : List Value),Az ys its -> ys.length <= sizeLine -> ∀ (h' : Heap) (c' : Nat),(∀ b o',s.heap.get? b = some o' -> h'.get? b = some o') ->
   h'.get? s.heap.objs.size = some { cls := .type "list",dict := none,data := .seq its.toArray c',slots := #[] } -> EP X pins σ Q (.ref s.heap.objs.size) { s with heap := h' } := λ its r' hz h' c' kp e =>
  ⟨.ref s.heap.objs.size,_,I.laid (t' := s.toks) kp (Nat.le_refl _) (show B8 X.prog X.w _ h' _ (.lst ys) from ⟨hz,its,c',r',e⟩),rfl,q _ (I.hok.fresh (Nat.le_refl _))⟩
 rcases hq with hq | hq
 ·obtain ⟨its,r',pl,hz⟩ := I.list hq
  have hlen := r'.length
  obtain ⟨o,ho,hc,n,hd⟩ := pl.isList
  exact call_list_seq p (.inl rfl) ho hc hd (λ h' c' kp e => fin its r' hz h' c' kp e) (by simp only [List.size_toArray] <;> omega)
 ·obtain ⟨its,r',pl,hz⟩ := I.tuple hq
  have hlen := r'.length
  obtain ⟨o,ho,hc,n,hd⟩ := pl
  exact call_list_seq p (.inr rfl) ho hc hd (λ h' c' kp e => fin its r' hz h' c' kp e) (by simp only [List.size_toArray] <;> omega)
theorem XH : DP X (.type "tuple") (λ xs H Q => ∃ p ys,xs = [.ref p] /\ ((Be X.K H p ys /\ ∀ l,H l = none -> Q (.ref l) (AL H l (.tup ys))) \/ (Bc X.K H p ys /\ Q (.ref p) H))) := by
 intro pins s σ H xs us Q I r h
 obtain ⟨p,ys,rfl,h⟩ := h
 obtain ⟨u,rfl,rx⟩ := DQ r
 cases rx
 rcases h with ⟨hq,q⟩ | ⟨hq,q⟩
 ·obtain ⟨its,r',pl,hz⟩ := I.list hq
  have hlen := r'.length
  refine call_tuple_list pl.isList (λ h' kp => ?_) (by simp only [List.size_toArray] <;> omega)
  have I1 : Inv X pins σ H { s with heap := h' } := I.kept (t' := s.toks) kp
  have I2 : Inv X pins σ (AL H h'.objs.size (.tup ys)) { s with heap := h'.push { cls := .type "tuple",data := .seq its.toArray } } :=
   I1.laid (t' := s.toks) (λ b o e => Heap.get?_push_of_some _ e) (Nat.le_refl _) (show B8 X.prog X.w _ _ _ (.tup ys) from ⟨hz,its,r',DM.new _ _⟩)
  exact ⟨.ref h'.objs.size,_,I2,rfl,q _ (I1.hok.fresh (Nat.le_refl _))⟩
 ·obtain ⟨its,r',pl,hz⟩ := I.tuple hq
  exact call_tuple_same pl ⟨.ref p,H,I,rfl,q⟩
def tyV (K : PySem.W.Frag) (T : String) (x : V) (H : Hp) : Prop := match x with
 | .str _ => T = "str"
 | .int _ => T = "int"
 | .ref p => (T = "list" /\ ∃ xs,Be K H p xs) \/ (T = "tuple" /\ ∃ xs,Bc K H p xs) \/
   (T = "dict" /\ ((∃ kvs,H p = some (.dK kvs)) \/ ∃ kvs,H p = some (.dT kvs))) \/ (T = "set" /\ ∃ S n,H p = some (.set S n))
 | _ => False
theorem Qz {pins : List (Addr × Obj)} {σ : St} {H : Hp} {s : Shared} {T : String} {x : V} {v : Value} (I : Inv X pins σ H s) (r : AX x v) (ty : tyV X.K T x H) :
  s.TypeIs v T /\ ∀ a,v = .ref a -> ∃ ob,s.heap.get? a = some ob /\ ob.dict = none := by
 cases x with
 | str z =>
  obtain ⟨t,rfl⟩ := r
  cases (show T = "str" from ty)
  exact ⟨typeIs_str s z t,λ _ e => nomatch e⟩
 | int i =>
  obtain ⟨t,rfl⟩ := r
  cases (show T = "int" from ty)
  exact ⟨typeIs_int s i t,λ _ e => nomatch e⟩
 | ref p =>
  cases r
  rcases ty with ⟨rfl,xs,hq⟩ | ⟨rfl,xs,hq⟩ | ⟨rfl,hk⟩ | ⟨rfl,S,n,hk⟩
  ·obtain ⟨its,_,pl,_⟩ := I.list hq
   refine ⟨pl.isList.typeIs,λ a e => ?_⟩
   cases e
   obtain ⟨o,n,e,c,hd,_⟩ := pl
   exact ⟨o,e,hd⟩
  ·obtain ⟨its,_,⟨o,e1,hd,hc,_⟩,_⟩ := I.tupN hq
   refine ⟨⟨o,e1,hc⟩,λ a e => ?_⟩
   cases e
   exact ⟨o,e1,hd⟩
  ·have z : ∃ o,s.heap.get? p = some o /\ o.ExactDict := by
    rcases hk with ⟨kvs,hk⟩ | ⟨kvs,hk⟩
    ·obtain ⟨_,_,_,_,o,_,_,e,ex,_⟩ := I.hok p _ hk
     exact ⟨o,e,ex⟩
    ·obtain ⟨_,_,_,_,o,_,_,e,ex,_⟩ := I.hok p _ hk
     exact ⟨o,e,ex⟩
   obtain ⟨o,e,ex⟩ := z
   refine ⟨⟨o,e,ex.1⟩,λ a e2 => ?_⟩
   cases e2
   exact ⟨o,e,ex.2.1⟩
  ·obtain ⟨o,_,_,_,e,ex,_⟩ := I.hok p _ hk
   refine ⟨⟨o,e,ex.1⟩,λ a e2 => ?_⟩
   cases e2
   exact ⟨o,e,ex.2.1⟩
 | _ => exact False.elim ty
def tBM (K : PySem.W.Frag) (T : String) (r : V -> List V -> Hp -> VK -> Prop) (to : TE) (t : TA) : TE := λ σ H Q => to σ H λ x H1 => tyV K T x H1 /\ t σ H1 λ xs H2 => r x xs H2 Q
variable {o e : Expr} {es : List Expr} {to : TE} {t : TA} {name : Str} {apos cpos : Pos} {T id : String} {r : V -> List V -> Hp -> VK -> Prop}
theorem N0 (pa : PlainAttrs T) (slot : Slot T name id) (hty : typeOf (.builtin id) = pure (.type "method_descriptor")) (hm : MtR X id r) (ho : PE X o to) (ha : PA X (e :: es) t)
  (hbase : attributeBase o name X.env (eval o X.env) = eval o X.env := by rfl)
  (hfew : ((backTo cpos (starEach (e :: es) X.env)).all (λ x => !x.1) && (backToKw cpos (keywordEach [] X.env)).all (λ x => x.1.isSome)
   && decide ((e :: es).length + ([] : List Keyword).length + (if ([] : List Keyword).isEmpty then 0 else 1) < 30)) = true := by rfl)
  (hline : (apos.endLine == cpos.line) = true := by rfl) (hs : starEach (e :: es) X.env = (false,eval e X.env) :: starEach es X.env := by rfl) (hplain : (backTo cpos (starEach es X.env)).any (·.1) = false := by rfl) :
  PE X (.Call (.Attribute o name apos) (e :: es) [] cpos) (tBM X.K T r to t) := by
 intro pins s σ H Q I h
 refine wpAny_Call_method_late hbase hfew hline rfl (Aq (ho pins s σ H _ I h) λ v s1 ⟨x,H1,I1,r1,ty,q1⟩ => ?_)
 obtain ⟨h1,h2⟩ := Qz I1 r1 ty
 refine ⟨T,id,pa,slot,hty,h1,h2,?_⟩
 have hA := ha cpos pins s1 σ H1 _ I1 q1
 rw [hs] at hA ⊢
 refine Calls.callWith_builtin (by show (false || (backTo cpos (starEach es X.env)).any (·.1)) = false; rw [hplain] <;> rfl) (Calls.evalArgs_plain ?_)
 exact Aq hA λ us s2 ⟨vs,H2,I2,r2,q2⟩ => hm pins s2 σ H2 x vs v us Q I2 r1 r2 q2
end
end L2
namespace L2
open PySem PySem.Spec PyProof.Rows
def MtM (X : Cx) (id : String) (r : V -> List V -> Hp -> VK -> Prop) : Prop :=
 ∀ (pins : List (Addr × Obj)) (s : Shared) (σ : St) (H : Hp) (x : V) (xs : List V) (v : Value) (us : List Value) (Q : VK),Inv X pins σ H s -> AX x v -> Az xs us -> r x xs H Q ->
  wpAny (model X.prog X.w) X.A (call (.builtin id) (v :: us)) (EP X pins σ Q) X.xe s
theorem Az.one : ∀ {x : V} {us : List Value},Az [x] us -> ∃ u,us = [u] /\ AX x u
 | _,_,.cons r .nil => ⟨_,rfl,r⟩
theorem Az.rep {xs : List V} {us : List Value} (h : Az xs us) : ∀ k : Nat,Az (List.replicate k xs).flatten (List.replicate k us).flatten
 | 0 => .nil
 | k + 1 => by
  rw [List.replicate_succ,List.replicate_succ,List.flatten_cons,List.flatten_cons]
  exact Az.append h (Az.rep h k)
theorem OS (its : List Value) : ∀ (k : Nat) (acc : List Value),
  List.foldl (λ x1 x2 => x1 ++ x2) acc.toArray (List.replicate k its.toArray) = (acc ++ (List.replicate k its).flatten).toArray
 | 0,acc => by simp
 | k + 1,acc => by
  have e : acc.toArray ++ its.toArray = (acc ++ its).toArray := by simp
  have e2 : (acc ++ its) ++ (List.replicate k its).flatten = acc ++ (List.replicate (k + 1) its).flatten := by
   rw [List.replicate_succ,List.flatten_cons,List.append_assoc]
  rw [<- e2,<- OS its k (acc ++ its),<- e,List.replicate_succ,List.foldl_cons]
section
variable {X : Cx} {pins : List (Addr × Obj)} {σ : St} {H : Hp} {s : Shared} {l b : Addr} {xs ys zs : List V}
theorem Inv.lset {its its' : List Value} {n : Nat} {f : Array Value -> Array Value} {t' : Nat} (I : Inv X pins σ H s) (hH : H l = some (.lst xs))
  (e : s.heap.get? l = some { cls := .type "list",data := .seq its.toArray n }) (hf : f its.toArray = its'.toArray) (hv : Az ys its') (hz : ys.length <= sizeLine) :
  Inv X pins σ (AL H l (.lst ys)) { s with heap := s.heap.update l (Obj.mapSeq f),toks := t' } := by
 have q := PySem.IsL.update e f
 rw [hf] at q
 refine I.write (x := l) (e := l) (by rw [hH]; exact trivial) (.inl rfl) (λ b' u hb hu => (Heap.get?_update_other s.heap (Obj.mapSeq f) (Ne.symm hb)).trans hu) ⟨_,q⟩ ?_
 exact ⟨hz,its',_,hv,q⟩
theorem Inv.lnew {its : List Value} {t' : Nat} (I : Inv X pins σ H s) (hv : Az ys its) (hz : ys.length <= sizeLine) :
  Inv X pins σ (AL H s.heap.objs.size (.lst ys)) { s with heap := s.heap.push { cls := .type "list",data := .seq its.toArray },toks := t' } :=
 I.laid (λ _ _ q => Heap.get?_push_of_some _ q) (Nat.le_refl _) ⟨hz,its,0,hv,Heap.get?_push_size _ rfl⟩
theorem Inv.fresh (I : Inv X pins σ H s) : H s.heap.objs.size = none := I.hok.fresh (Nat.le_refl _)
theorem Inv.lstM (I : Inv X pins σ H s) (hH : H l = some (.lst xs)) : xs.length <= sizeLine /\ ∃ (its : List Value) (n : Nat),Az xs its /\ xs.length = its.length /\ s.heap.get? l = some { cls := .type "list",data := .seq its.toArray n } := by
 obtain ⟨z,its,n,r,e⟩ := I.hok l _ hH
 exact ⟨z,its,n,r,r.length,e⟩
end
section
variable {X : Cx}
def SO : V -> List V -> Hp -> VK -> Prop := λ x vs H Q => ∃ l xs y,x = .ref l /\ vs = [y] /\ H l = some (.lst xs) /\ xs.length < sizeLine /\ Q .non (AL H l (.lst (xs ++ [y])))
theorem Op : MtM X "list.append" SO := by
 intro pins s σ H x vs v us Q I rx rv h
 obtain ⟨l,xs,y,rfl,rfl,hH,hz,q⟩ := h
 cases rx
 obtain ⟨u,rfl,ru⟩ := rv.one
 obtain ⟨z,its,n,r,hl,e⟩ := I.lstM hH
 refine call_meets F.slot_list_append ⟨_,e,rfl⟩ F.entry_list_append (F.args_list_append_2 _ _) (PySem.list_append l its.toArray n u (by rw [List.size_toArray]; omega)) ⟨e,?_⟩
 refine ⟨.non,_,I.lset (its' := its ++ [u]) hH e (by simp) (r.append (.cons ru .nil)) ?_,rfl,q⟩
 rw [List.length_append,List.length_singleton]
 omega
def SN : R2 := λ x y H Q => ∃ l b xs zs,x = .ref l /\ y = .ref b /\ H l = some (.lst xs) /\ H b = some (.lst zs) /\ xs.length + zs.length <= sizeLine /\ ∀ p,H p = none -> Q (.ref p) (AL H p (.lst (xs ++ zs)))
theorem Ub : BT X (binaryOp .Add) SN := by
 intro pins s σ H x y v u Q I rx ry h
 obtain ⟨l,b,xs,zs,rfl,rfl,hH,hB,hz,q⟩ := h
 cases rx
 cases ry
 obtain ⟨z,its,n,r,hl,e⟩ := I.lstM hH
 obtain ⟨z2,its2,n2,r2,hl2,e2⟩ := I.lstM hB
 refine PySem.P.add_list e e2 ?_ (by rw [List.size_toArray,List.size_toArray]; omega)
 have ea : its.toArray ++ its2.toArray = (its ++ its2).toArray := by simp
 rw [ea]
 exact ⟨.ref _,_,I.lnew (t' := s.toks) (r.append r2) (by rw [List.length_append]; omega),rfl,q _ I.fresh⟩
theorem Ov {α : Type} (xs : List α) (k : Nat) : (List.replicate k xs).flatten.length = k * xs.length := by
 induction k with
 | zero => simp
 | succ k ih => rw [List.replicate_succ,List.flatten_cons,List.length_append,ih,Nat.succ_mul,Nat.add_comm]
end
section
variable {prog : Program} {w : World} {A : Around} {E : Value -> Shared -> Prop} {s : Shared}
end
section
variable {X : Cx}
end
end L2
namespace Att
open PySem PySem.W PySem.Calls PyProof.Rows
theorem V5 {P : Params} {h : Heap} : ∀ (ns : List Int) (vs : List Value),WellAll P h vs (ns.map WData.int) -> IntsAre vs ns := by
 intro ns
 induction ns with
 | nil =>
  intro vs w
  rw [List.map_nil] at w
  cases w
  exact .nil
 | cons n ns ih =>
  intro vs w
  rw [List.map_cons] at w
  cases w with
  | cons a b =>
   cases a
   exact .cons _ _ (ih _ b)
theorem Rz {l : OpenLaw} {n : Nat} (hn : l.most = some n) {P : Params} {h : Heap} {args : List WData} {vals : List Value}
  (hpre : l.row.toRowW.claim.pre args = true) (hwl : WellAll P h vals args) :
  ∃ a vs ns,vals = [Value.ref a] /\ args = [WData.list (ns.map WData.int)] /\ h.get? a = some { cls := .type "list",data := .seq vs.toArray } /\ IntsAre vs ns /\ ns.length <= n := by
 have hsh : WShape.hasAll [] args [.list .int] = true := (pre_splitW hpre).1
 have hc : l.pre.holds [] { args := args } = true := (pre_splitW hpre).2
 obtain ⟨d,r,rfl,h1,h2⟩ := hasAllW_cons hsh
 obtain rfl := hasAllW_nil h2
 obtain ⟨xs,rfl,h3⟩ := hasW_list h1
 obtain ⟨ns,rfl⟩ := items_int h3
 have hlen : ns.length <= n := by
  unfold OpenLaw.pre at hc
  have h4 : (WTm.not (.lt (.lit (.int (n : Int))) (.len (.arg 0)))).holds [] { args := [.list (ns.map .int)] } = true := by
   have h4 := (holds_andW hc).1
   rw [hn] at h4
   exact h4
  have h5 := condW_of h4 (w_not (w_lt w_lit (w_len_list (w_arg rfl))))
  rw [List.length_map] at h5
  refine Nat.le_of_not_lt λ q => ?_
  have q' : (n : Int) < ((ns.length : Nat) : Int) := by omega
  first
   | (rw [decide_eq_true q'] at h5; exact absurd h5 wE)
   | (simp at h5; omega)
 cases hwl with
 | cons w1 w2 =>
  cases w2
  cases w1 with
  | list ho hall => exact ⟨_,_,ns,rfl,rfl,ho,V5 ns _ hall,hlen⟩
theorem Tj (l : OpenLaw) (args : List WData) : l.row.toRowW.claim.post args (.bool true) args = true :=
 postW_of (r := l.row.toRowW) (X := (true == true))
  (show WShape.has [] (.bool true) .bool = true by first | rfl | decide | simp [WShape.has,WShape.arms,WShape.armsAll])
  (show (WTm.eq .res (.lit (.bool true))).value [] { args := args,res := some (.bool true),after := args } = some (.bool (true == true)) from w_eq_bool (w_res rfl) w_lit) rfl
theorem attach_call {l : OpenLaw} {n : Nat} {q : Program} {loose : List Str} {XP : (Str -> Option Value) -> Heap -> Prop} {YP : World -> Heap -> Prop} {d : DefRec}
  (hn : l.most = some n) (hdf : d.params.defaults = [])
  (call : ∀ (w : World) (s₀ s₁ : Shared) (mg mb : Str -> Option Value) (fa : Addr) (o : Obj) (pm cd doc : Value) (a : Addr) (vs : List Value) (ns : List Int),
   Ground q loose [] XP w s₀ mg mb s₁.heap -> YP w s₁.heap ->
   s₁.heap.get? fa = some o -> o.data = .func (docDef d.name d.params d.body d.scope pm cd doc) -> s₁.heap.CodeRec cd d.name -> mg d.name = some (.ref fa) ->
   s₁.heap.get? a = some { cls := .type "list",data := .seq vs.toArray } -> IntsAre vs ns -> ns.length <= n -> s₁.gens = #[] ->
   codeAny (model l.prog w) callerA (.call (.ref fa) ⟨[.ref a],[]⟩) (λ r s' => r = .ok (.ret (.bool true)) /\ OldK s₁.heap s'.heap /\ s'.os = s₁.os /\ AllBare s'.gens) s₁) :
  WalkO q loose XP YP l.row.toRowW d [] (λ f vs => PySem.call f vs) := by
 intro w s₀ s₁ mg mb G Y fa o pm cd doc dV kV ho hd hcd hD hmg hg args vals as hpre hlay hrd hwl hlo
 obtain rfl : dV = .none := Dflts.none hD hdf
 obtain rfl : kV = .none := Dflts.noKw hD
 obtain ⟨a,vs,ns,rfl,rfl,hobj,hints,hlen⟩ := Rz hn hpre hwl
 refine enter_call (codeAny_mono (call w s₀ s₁ mg mb fa o pm cd doc a vs ns G Y ho (fd_plain hd) hcd hmg hobj hints hlen hg) λ r s' hq => ?_)
 obtain ⟨rfl,h2,h3,h4⟩ := hq
 exact ⟨.inl ⟨.bool true,.bool true,[],rfl,λ _ => rfl,.bool true,Tj l _,λ _ => ⟨List.Pairwise.nil,λ _ hm => (nomatch hm)⟩⟩,h2,h3,h4⟩
section
variable {prog : Program} {w : World} {A : Around} {E : Value -> Shared -> Prop} {s : Shared} {K : Frag}
end
end Att
namespace L2
open PySem PySem.Spec PyProof.Rows
theorem Mc : ∀ {vs : List Value} {ns : List Int},IntsAre vs ns -> Az (ns.map V.int) vs
 | _,_,.nil => .nil
 | _,_,.cons n t h => .cons ⟨t,rfl⟩ (Mc h)
def LG (H : Hp) : Prop := ∀ b,H b = none \/ ∃ o xs,H b = some (.frz o (.lst xs))
theorem VN {P : Program} {w : World} {K : PySem.W.Frag} {mg mb : Str -> Option Value} {CX : C7} {k : Nat} {fa a : Addr} {fd : FuncData} {x : Str} {sp : Sp} {s₁ : Shared} {vs : List Value} {ns : List Int}
  (KX : K.In s₁.heap) (hns : s₁.heap.Ns mainGlobals mg) (hb : s₁.heap.Ns builtinsNs mb) (hbb : ∀ x : Str,x ≠ "__name__" -> mb x = bootBuiltins x) (hlim : s₁.heap.NoLimit) (hg : s₁.gens = #[])
  (ha : s₁.heap.get? a = some { cls := .type "list",data := .seq vs.toArray }) (hi : IntsAre vs ns) (hl : ns.length <= sizeLine) (hr : AN k callerA)
  (F : ∀ base : Heap,K.In base -> base.Ns mainGlobals mg -> AF P w K mg base CX k fa fd [x] sp) (hbind : ∀ (s : Shared) (u : Value),BindsTo s fd ⟨[u],[]⟩ [(x,u)])
  (hsp : ∀ H : Hp,LG H -> Be K H a (ns.map V.int) -> sp [.ref a] H (λ v _ => v = .bl true) λ _ _ _ => False)
  (hCX : ∀ H e s',CX [] H s₁ (λ _ _ _ => False) e s' -> False) :
  codeAny (model P w) callerA (.call (.ref fa) ⟨[.ref a],[]⟩) (λ r s' => r = .ok (.ret (.bool true)) /\ OldK s₁.heap s'.heap /\ s'.os = s₁.os /\ AllBare s'.gens) s₁ := by
 have rv := Mc hi
 have lenV := hi.length
 -- from an abstract heap in which nothing but the script may be tracked
 have core : ∀ H : Hp,LG H -> Be K H a (ns.map V.int) -> BE P w H s₁.heap -> (∀ b,H b ≠ none -> b = a) -> (H a ≠ none -> K.lookup a = none) ->
   codeAny (model P w) callerA (.call (.ref fa) ⟨[.ref a],[]⟩) (λ r s' => r = .ok (.ret (.bool true)) /\ OldK s₁.heap s'.heap /\ s'.os = s₁.os /\ AllBare s'.gens) s₁ := by
  intro H hO hS hok hA hK
  have base_of : ∀ {b : Addr} {o : Obj},s₁.heap.get? b = some o -> H b = none -> (Ej s₁.heap H).get? b = some o := λ e n => Wj e n
  have noA : ∀ {b : Addr} {o : Obj} {es : Array DictEntry} {ep : Nat},s₁.heap.get? b = some o -> o.data = .dict es ep -> H b = none := λ {b o es ep} e d => by
   cases q : H b with
   | none => rfl
   | some u =>
    have e' : b = a := hA b (by rw [q]; simp)
    subst e'
    rw [ha] at e; cases e
    have d' : Data.seq vs.toArray _ = Data.dict es ep := d
    cases d'
  have nsK : ∀ {b : Addr} {m : Str -> Option Value},s₁.heap.Ns b m -> (Ej s₁.heap H).Ns b m := λ {b m} ⟨o,es,ep,e,d,r⟩ => ⟨o,es,ep,base_of e (noA e d),d,r⟩
  have hKb : K.In (Ej s₁.heap H) := λ b o e => base_of (KX b o e) (by
   cases q : H b with
   | none => rfl
   | some u =>
    have e' : b = a := hA b (by rw [q]; simp)
    subst e'
    rw [hK (by rw [q]; simp)] at e; cases e)
  have hM : Mod K mg (Ej s₁.heap H) := ⟨hKb,nsK hns,⟨mb,nsK hb,hbb⟩,let ⟨mc,h1,h2⟩ := hlim; ⟨mc,nsK h1,h2⟩⟩
  have e0 : FH P w K mg (Ej s₁.heap H) callerA [] s₁ H := ⟨rfl,hM,λ b o e => Vm e,Nat.le_of_eq (Wi _ _),trivial,λ b hb => absurd (show b ∈ ([] : List Addr) from hb) (by simp),hok,.of_eq hg⟩
  refine codeAny_mono ((F _ hKb (nsK hns)).run callerA [] s₁ H ⟨[.ref a],[]⟩ [.ref a] [.ref a] _ _ hr e0 (hbind s₁ (.ref a)) (.cons rfl .nil) (hsp H hO hS)) λ r s' h => ?_
  cases r with
  | error e => exact (hCX H e s' h).elim
  | ok fl =>
   cases fl with
   | next => exact False.elim h
   | brk => exact False.elim h
   | cont => exact False.elim h
   | ret u =>
    obtain ⟨v,H',os,bare,un,hok',r',q⟩ := h
    have q' : v = .bl true := q
    subst q'
    obtain rfl : u = Value.bool true := r'
    refine ⟨rfl,OldK.of_keep λ b o e => ?_,os,bare⟩
    cases q : H b with
    | none => exact un.keep b o e q (by intro z; exact absurd (show b ∈ ([] : List Addr) from z) (by simp)) (by simp)
    | some u =>
     rcases hO b with z | ⟨ob,xs,z⟩
     ·rw [q] at z; cases z
     ·have z2 := un.frzs b ob _ z
      obtain ⟨e1,_⟩ := hok b _ z
      obtain ⟨e2,_⟩ := hok' b _ z2
      rw [e] at e1; cases e1
      exact e2
 cases hk : K.lookup a with
 | some o =>
  -- the script is one of the module's own objects
  have e := KX a o hk
  rw [ha] at e
  cases e
  refine core (λ _ => none) (λ _ => .inl rfl) (.inr ⟨_,vs.toArray,_,hk,rfl,rfl,rfl,by rw [List.size_toArray,lenV]; exact hl,by simpa using rv⟩) (λ b u z => by have z' : (none : Option HO) = some u := z; cases z') (λ b z => absurd rfl z) λ z => absurd rfl z
 | none =>
  refine core (λ b => if b = a then some (.frz { cls := .type "list",data := .seq vs.toArray } (.lst (ns.map V.int))) else none) (λ b => ?_) (.inl (.inr ⟨{ cls := .type "list",data := .seq vs.toArray },if_pos rfl⟩)) (λ b u z => ?_) (λ b z => ?_) λ _ => hk
  ·by_cases hb : b = a
   ·exact .inr ⟨_,_,if_pos hb⟩
   ·exact .inl (if_neg hb)
  ·by_cases hb : b = a
   ·have z' := (if_pos hb).symm.trans z
    cases z'
    subst hb
    exact ⟨ha,by rw [List.length_map]; exact hl,vs,_,rv,ha⟩
   ·have z' := (if_neg hb).symm.trans z
    cases z'
  ·by_cases hb : b = a
   ·exact hb
   ·exact absurd (if_neg hb) z
end L2
namespace L2
open PySem PySem.Spec PyProof.Rows
theorem walk_of {l : PySem.W.OpenLaw} {n k : Nat} {q : Program} {loose : List Str} {XP : (Str -> Option Value) -> Heap -> Prop} {YP : World -> Heap -> Prop} {d : DefRec} {K : Params -> PySem.W.Frag} {CX : World -> C7} {sp : World -> Sp} {x : Str}
  (hn : l.most = some n) (hn2 : n <= sizeLine) (hdf : d.params.defaults = []) (hr : AN k callerA)
  (hY : ∀ (w : World) (h : Heap),YP w h -> (K w.params).In h)
  (F : ∀ (w : World) (mg : Str -> Option Value) (fa : Addr) (h : Heap),(K w.params).In h -> h.Ns mainGlobals mg -> mg d.name = some (.ref fa) ->
   ∃ fd : FuncData,(∀ (s : Shared) (u : Value),BindsTo s fd ⟨[u],[]⟩ [(x,u)]) /\
    ∀ base : Heap,(K w.params).In base -> base.Ns mainGlobals mg -> AF l.prog w (K w.params) mg base (CX w) k fa fd [x] (sp w))
  (hsp : ∀ (w : World) (H : Hp) (a : Addr) (ns : List Int),ns.length <= n -> LG H -> Be (K w.params) H a (ns.map V.int) -> sp w [.ref a] H (λ v _ => v = .bl true) λ _ _ _ => False)
  (hCX : ∀ (w : World) (H : Hp) (s : Shared) (e : Value) (s' : Shared),CX w [] H s (λ _ _ _ => False) e s' -> False) :
  PySem.W.WalkO q loose XP YP l.row.toRowW d [] (λ f vs => PySem.call f vs) := by
 refine Att.attach_call hn hdf λ w s₀ s₁ mg mb fa o pm cd doc a vs ns G Y ho hd hcd hmg hobj hints hlen hg => ?_
 have KX := hY w _ Y
 obtain ⟨fd,hb,hF⟩ := F w mg fa _ KX G.T.g hmg
 exact VN KX G.T.g G.T.b G.T.builtins G.T.nolimit hg hobj hints (Nat.le_trans hlen hn2) hr hF hb (λ H hO hS => hsp w H a ns hlen hO hS) λ H e s' => hCX w H s₁ e s'
end L2
namespace L2
open PySem PySem.Spec PyProof.Rows
def Bz (s : Stmt) (j : Nat) : Stmt := match s with
 | .ClassDef _ _ _ body _ _ _ _ _ _ _ => body.getD j (.Pass ⟨0,0,0,0⟩)
 | _ => .Pass ⟨0,0,0,0⟩
def Dd (s : Stmt) : Arguments := match s with
 | .FunctionDef _ a _ _ _ _ _ _ _ _ => a
 | _ => { posonlyargs := [],args := [],vararg := none,kwonlyargs := [],kw_defaults := [],kwarg := none,defaults := [] }
def CK (s : Stmt) : List Stmt := match s with
 | .FunctionDef _ _ b _ _ _ _ _ _ _ => b
 | _ => []
def Ar (s : Stmt) : Scope := match s with
 | .FunctionDef _ _ _ _ _ _ sc _ _ _ => sc
 | _ => { kind := .function,names := [],isGenerator := false,isCoroutine := false }
abbrev AK : C7 := λ _ _ _ _ _ _ => False
abbrev E0 : XK := λ _ _ _ => False
theorem FX {X : Cx} : FE AK X E0 := λ _ _ _ _ _ _ _ h => h.elim
structure Aw (K : PySem.W.Frag) (x qual : Str) (st : Stmt) (f : Addr) (fd : FuncData) : Prop where
 ex : ∃ (oc : Value) (od : Option Addr) (kV doc pm : Value) (an : Option Addr) (cdv ct : Value) (osl : Array (Option Value)),
  fd = PySem.W.fnOf x qual (Dd st) (CK st) (Ar st) .none kV doc pm an cdv ct /\ K.lookup f = some ⟨oc,od,.func fd,osl⟩ /\ PySem.W.codeIn K cdv qual = true
 kp : PySem.W.keepIn K (.ref f) = true
section
variable {P : Program} {w : World} {K : PySem.W.Frag} {mg : Str -> Option Value} {base : Heap}
theorem Aw.ok {x qual : Str} {st : Stmt} {f : Addr} {fd : FuncData} {N ps : List Str} {k : Nat} {sp : Sp} (F : Aw K x qual st f fd) (S : AD N ps (Ar st)) (len : ∀ vs H Q E,sp vs H Q E -> vs.length = ps.length)
  (hbody : ∀ (cdv : Value) (A : Around) (outer : List Env) (s : Shared) (H : Hp) (vs : List V) (Q : VK) (E : XK),AN k (A.deeper (envOfC qual (Ar st) s.heap.objs.size f cdv)) -> sp vs H Q E ->
   ∃ t,PSs (Ep AK P w K mg base N qual (Ar st) f cdv A outer s H E).nox (CK st) t /\ t { nx := λ _ H' => Q .non H',rt := Q } (start N vs) H) : AF P w K mg base AK (k + 1) f fd ps sp := by
 obtain ⟨oc,od,kV,doc,pm,an,cdv,ct,osl,rfl,lk,hcd⟩ := F.ex
 refine OT lk hcd S len λ A outer s H vs Q E hr hsp => ?_
 obtain ⟨t,h,q⟩ := hbody cdv A outer s H vs Q E hr hsp
 exact ⟨t,h.nox,q⟩
theorem Aw.binds {x qual : Str} {st : Stmt} {f : Addr} {fd : FuncData} {ps : List Str} (F : Aw K x qual st f fd)
  (h : ∀ (kV doc pm : Value) (an : Option Addr) (cdv ct : Value) (us : List Value),us.length = ps.length -> bindArgs (PySem.W.fnOf x qual (Dd st) (CK st) (Ar st) .none kV doc pm an cdv ct) ⟨us,[]⟩ = pure (ps.zip us)) : Binds K fd ps [] := by
 obtain ⟨oc,od,kV,doc,pm,an,cdv,ct,osl,rfl,lk,hcd⟩ := F.ex
 exact .all (h kV doc pm an cdv ct)
theorem OQ {x qual : Str} {st : Stmt} {f : Addr} {oc : Value} {od an : Option Addr} {osl : Array (Option Value)} {kV doc pm cdv ct : Value} (l : K.lookup f = some ⟨oc,od,.func (PySem.W.fnOf x qual (Dd st) (CK st) (Ar st) .none kV doc pm an cdv ct),osl⟩)
  (c : PySem.W.codeIn K cdv qual = true) (k : PySem.W.keepIn K (.ref f) = true) : Aw K x qual st f (PySem.W.fnOf x qual (Dd st) (CK st) (Ar st) .none kV doc pm an cdv ct) := ⟨⟨oc,od,kV,doc,pm,an,cdv,ct,osl,rfl,l,c⟩,k⟩
end
theorem Wf {A : Around} {k : Nat} (hr : AN k A) : A.units + 1 < cLine := Nat.lt_of_le_of_lt (Nat.add_le_add_left (by decide : 1 <= 64) _) hr.units
section
variable {X : Cx}
end
theorem K4 {A B : Prop} (h : B) : if false = true then A else B := by
 rw [if_neg Bool.false_ne_true]
 exact h
theorem K3 {A B : Prop} (h : A) : if true = true then A else B := by
 rw [if_pos rfl]
 exact h
def Bu (H H' : Hp) : Prop := ∀ b o,H b = some o -> H' b = some o
theorem Bu.refl (H : Hp) : Bu H H := λ _ _ h => h
theorem Bu.trans {H H1 H2 : Hp} (a : Bu H H1) (b : Bu H1 H2) : Bu H H2 := λ c o h => b c o (a c o h)
theorem Bu.free {H H' : Hp} (e : Bu H H') {l : Addr} (h : H' l = Option.none) : H l = Option.none := by
 cases q : H l with
 | none => rfl
 | some o =>
  rw [e l o q] at h
  cases h
theorem Bu.seq {K : PySem.W.Frag} {H H' : Hp} {a : Addr} {xs : List V} (e : Bu H H') (h : Be K H a xs) : Be K H' a xs := by
 rcases h with (h | ⟨o,h⟩) | h
 ·exact .inl (.inl (e _ _ h))
 ·exact .inl (.inr ⟨o,e _ _ h⟩)
 ·exact .inr h
end L2
namespace L2
open PySem PySem.Spec PyProof.Rows
section
variable {κ : Type} [DecidableEq κ]
end
section
variable {P : Program} {w : World} {H : Hp} {h : Heap} {a : Addr}
end
section
variable {X : Cx} {pins : List (Addr × Obj)} {σ : St} {H : Hp} {s : Shared} {a : Addr} {y v : V} {u r : Value} {o : Option V} {A : Around} {E : Value -> Shared -> Prop}
end
section
variable {X : Cx} {pins : List (Addr × Obj)} {σ : St} {H : Hp} {s : Shared} {a : Addr} {kvs : List (AV × V)} {k : AV} {u : Value} {A : Around} {E : Value -> Shared -> Prop}
end
section
variable {X : Cx} {o i e value : Expr} {pos pos' tpos : Pos} {td ty tv : TE}
end
section
variable {X : Cx} {pos : Pos}
end
def QW : List (TE × TE) -> St -> Hp -> (List (V × V) -> Hp -> Prop) -> Prop
 | [],_,H,Q => Q [] H
 | (tk,tv) :: r,σ,H,Q => tk σ H λ x H1 => tv σ H1 λ y H2 => QW r σ H2 λ ps H3 => Q ((x,y) :: ps) H3
structure M1 (X : Cx) (o : Expr) (m : Str) (apos : Pos) (e : Expr) (cpos : Pos) : Prop where
 base : attributeBase o m X.env (eval o X.env) = eval o X.env
 few : ((backTo cpos (starEach [e] X.env)).all (λ x => !x.1) && (backToKw cpos (keywordEach [] X.env)).all (λ x => x.1.isSome)
  && decide (([e] : List Expr).length + ([] : List Keyword).length + (if ([] : List Keyword).isEmpty then 0 else 1) < 30)) = true
 line : (apos.endLine == cpos.line) = true
 trees : backTo cpos (starEach [e] X.env) = [(false,eval e X.env)]
structure M2 (X : Cx) (o : Expr) (m : Str) (apos : Pos) (e f : Expr) (cpos : Pos) : Prop where
 base : attributeBase o m X.env (eval o X.env) = eval o X.env
 few : ((backTo cpos (starEach [e,f] X.env)).all (λ x => !x.1) && (backToKw cpos (keywordEach [] X.env)).all (λ x => x.1.isSome)
  && decide (([e,f] : List Expr).length + ([] : List Keyword).length + (if ([] : List Keyword).isEmpty then 0 else 1) < 30)) = true
 line : (apos.endLine == cpos.line) = true
 trees : backTo cpos (starEach [e,f] X.env) = [(false,eval e X.env),(false,eval f X.env)]
section
variable {X : Cx} {pins : List (Addr × Obj)} {σ : St} {H : Hp} {s : Shared} {a : Addr} {y d : V} {u r : Value} {o : Option V} {A : Around} {E : Value -> Shared -> Prop}
end
section
variable {X : Cx} {o e f : Expr} {apos cpos : Pos} {td ty tx : TE}
end
section
variable {X : Cx} {pins : List (Addr × Obj)} {σ : St} {H : Hp} {s : Shared} {a : Addr} {kvs : List (AV × V)} {A : Around} {E : Value -> Shared -> Prop}
end
section
variable {X : Cx} {pins : List (Addr × Obj)} {σ : St} {H : Hp} {s : Shared} {a : Addr} {y : V} {u : Value} {A : Around} {E : Value -> Shared -> Prop}
end
section
variable {X : Cx}
end
section
variable {κ : Type} [DecidableEq κ]
end
end L2
namespace DL
open PySem PySem.Spec PyProof.Rows L2
inductive D where
 | non | bl (b : Bool) | int (i : Int) | str (x : Str) | tup (xs : List D) | lst (xs : List D) | scr (xs : List D) | ptr (n : Nat) | ty (n : String) | fn (a : Addr) | dct (ks : List AV) (xs : List D)
structure Wd where
 g : Hp
 l : List Addr
structure Ah (G G' : Wd) : Prop where
 g : Bu G.g G'.g
 l : ∃ t,G'.l = G.l ++ t
theorem Ah.refl (G : Wd) : Ah G G := ⟨Bu.refl _,[],(List.append_nil _).symm⟩
theorem Ah.trans {G G' G'' : Wd} (a : Ah G G') (b : Ah G' G'') : Ah G G'' := ⟨a.g.trans b.g,by
 obtain ⟨t,e⟩ := a.l; obtain ⟨u,e'⟩ := b.l; exact ⟨t ++ u,by rw [e',e,List.append_assoc]⟩⟩
theorem Ah.at {G G' : Wd} {n : Nat} {a : Addr} (e : Ah G G') (h : G.l[n]? = some a) : G'.l[n]? = some a := by
 obtain ⟨t,e⟩ := e.l
 rw [e,List.getElem?_append_left (List.getElem?_eq_some_iff.mp h).1,h]
mutual
inductive Is (K : PySem.W.Frag) (G : Wd) : D -> V -> Prop
 | non : Is K G .non .non
 | bl (b : Bool) : Is K G (.bl b) (.bl b)
 | int (i : Int) : Is K G (.int i) (.int i)
 | str (x : Str) : Is K G (.str x) (.str x)
 | tup {a : Addr} {ds : List D} {vs : List V} (h : Bc K G.g a vs) (r : Al K G ds vs) : Is K G (.tup ds) (.ref a)
 | lst {a : Addr} {ds : List D} {vs : List V} (h : G.g a = some (.lst vs)) (r : Al K G ds vs) : Is K G (.lst ds) (.ref a)
 | scr {a : Addr} {ds : List D} {vs : List V} (h : Be K G.g a vs) (r : Al K G ds vs) : Is K G (.scr ds) (.ref a)
 | ptr {a : Addr} (n : Nat) (h : G.l[n]? = some a) : Is K G (.ptr n) (.ref a)
 | ty (n : String) : Is K G (.ty n) (.ty n)
 | fn (a : Addr) : Is K G (.fn a) (.ref a)
 | dct {a : Addr} {ks : List AV} {ds : List D} {vs : List V} {ob : Obj} (h : G.g a = some (.frz ob (.dK (ks.zip vs)))) (hl : ks.length = vs.length) (r : Al K G ds vs) : Is K G (.dct ks ds) (.ref a)
inductive Al (K : PySem.W.Frag) (G : Wd) : List D -> List V -> Prop
 | nil : Al K G [] []
 | cons {d : D} {v : V} {ds : List D} {vs : List V} (h : Is K G d v) (r : Al K G ds vs) : Al K G (d :: ds) (v :: vs)
end
theorem Dh {K : PySem.W.Frag} {H H' : Hp} {a : Addr} {xs : List V} (e : Bu H H') (h : Bc K H a xs) : Bc K H' a xs := by
 rcases h with (h | ⟨o,h⟩) | h
 ·exact .inl (.inl (e _ _ h))
 ·exact .inl (.inr ⟨o,e _ _ h⟩)
 ·exact .inr h
mutual
theorem Is.ext {K : PySem.W.Frag} {G G' : Wd} (e : Ah G G') : ∀ {d : D} {v : V},Is K G d v -> Is K G' d v
 | _,_,.non => .non
 | _,_,.bl b => .bl b
 | _,_,.int i => .int i
 | _,_,.str x => .str x
 | _,_,.tup h r => .tup (Dh e.g h) (Al.ext e r)
 | _,_,.lst h r => .lst (e.g _ _ h) (Al.ext e r)
 | _,_,.scr h r => .scr (e.g.seq h) (Al.ext e r)
 | _,_,.ptr n h => .ptr n (e.at h)
 | _,_,.ty n => .ty n
 | _,_,.fn n => .fn n
 | _,_,.dct h hl r => .dct (e.g _ _ h) hl (Al.ext e r)
theorem Al.ext {K : PySem.W.Frag} {G G' : Wd} (e : Ah G G') : ∀ {ds : List D} {vs : List V},Al K G ds vs -> Al K G' ds vs
 | _,_,.nil => .nil
 | _,_,.cons h r => .cons (Is.ext e h) (Al.ext e r)
end
section
variable {K : PySem.W.Frag} {G G' : Wd}
theorem Al.length : ∀ {ds : List D} {vs : List V},Al K G ds vs -> ds.length = vs.length
 | _,_,.nil => rfl
 | _,_,.cons _ r => by rw [List.length_cons,List.length_cons,r.length]
theorem Al.append : ∀ {ds es : List D} {vs us : List V},Al K G ds vs -> Al K G es us -> Al K G (ds ++ es) (vs ++ us)
 | _,_,_,_,.nil,q => q
 | _,_,_,_,.cons h r,q => .cons h (Al.append r q)
theorem Al.get : ∀ {ds : List D} {vs : List V} {i : Nat} {d : D},Al K G ds vs -> ds[i]? = some d -> ∃ v,vs[i]? = some v /\ Is K G d v
 | _,_,_,_,.nil,e => by simp at e
 | _,_,0,_,.cons h r,e => by simp at e; subst e; exact ⟨_,rfl,h⟩
 | _,_,i + 1,d,.cons h r,e => by
  obtain ⟨v,e1,h1⟩ := Al.get (i := i) (d := d) r (by simpa using e)
  exact ⟨v,by simpa using e1,h1⟩
theorem Al.getV : ∀ {ds : List D} {vs : List V} {i : Nat} {v : V},Al K G ds vs -> vs[i]? = some v -> ∃ d,ds[i]? = some d /\ Is K G d v
 | _,_,_,_,.nil,e => by simp at e
 | _,_,0,_,.cons h r,e => by simp at e; subst e; exact ⟨_,rfl,h⟩
 | _,_,i + 1,d,.cons h r,e => by
  obtain ⟨v,e1,h1⟩ := Al.getV (i := i) (v := d) r (by simpa using e)
  exact ⟨v,by simpa using e1,h1⟩
theorem Al.take : ∀ {ds : List D} {vs : List V} (n : Nat),Al K G ds vs -> Al K G (ds.take n) (vs.take n)
 | _,_,0,_ => .nil
 | _,_,_ + 1,.nil => .nil
 | _,_,n + 1,.cons h r => .cons h (Al.take n r)
theorem Al.drop : ∀ {ds : List D} {vs : List V} (n : Nat),Al K G ds vs -> Al K G (ds.drop n) (vs.drop n)
 | _,_,0,h => h
 | _,_,_ + 1,.nil => .nil
 | _,_,n + 1,.cons h r => Al.drop n r
theorem Al.ints : ∀ {ns : List Int},Al K G (ns.map D.int) (ns.map V.int)
 | [] => .nil
 | n :: ns => .cons (.int n) (Al.ints (ns := ns))
theorem Al.toInts : ∀ {ns : List Int} {vs : List V},Al K G (ns.map D.int) vs -> vs = ns.map V.int
 | [],_,.nil => rfl
 | n :: ns,_,.cons h r => by cases h; rw [Al.toInts r]; rfl
end
def _root_.L2.ctxOf (o : Obj) : Option Value := match o.data with | .fields vs => vs[2]? | _ => none
inductive MO where
 | lst (xs : List D)
 | ins (C : Addr) (fs : List (Str × D))
 | exc (C : Addr) (fs : List (Str × D)) (h : Option Addr := none)
 | dct (ks : List AV) (xs : List D)
 | pin (ob : Obj) (vs : List V) (ks : List AV) (xs : List D)
abbrev Ac := List (Option MO)
inductive Bw (K : PySem.W.Frag) (G : Wd) : List (Str × D) -> List (Str × V) -> Prop
 | nil : Bw K G [] []
 | cons {f : Str} {d : D} {v : V} {fs : List (Str × D)} {vs : List (Str × V)} (h : Is K G d v) (r : Bw K G fs vs) : Bw K G ((f,d) :: fs) ((f,v) :: vs)
theorem Bw.ext {K : PySem.W.Frag} {G G' : Wd} (e : Ah G G') : ∀ {fs : List (Str × D)} {vs : List (Str × V)},Bw K G fs vs -> Bw K G' fs vs
 | _,_,.nil => .nil
 | _,_,.cons h r => .cons (h.ext e) (Bw.ext e r)
def EU (K : PySem.W.Frag) (G : Wd) (H : Hp) (p : Addr) : MO -> Prop
 | .lst xs => ∃ vs,H p = some (.lst vs) /\ Al K G xs vs
 | .ins C fs => ∃ dx vs,H p = some (.ins C dx vs) /\ Bw K G fs vs
 | .exc C fs h => ∃ ob,H p = some (.ext λ h => h.get? p = some ob) /\ (ob.cls = .ref C /\ ∃ ws,ob.data = .fields ws) /\ (fs = [] \/ ∃ dx vs,ob.dict = some dx /\ G.g dx = some (.xd vs) /\ Bw K G fs vs) /\ ∀ a,h = some a -> p = a /\ L2.ctxOf ob = some .none
 | .dct ks xs => ∃ vs,H p = some (.dK (ks.zip vs)) /\ ks.length = vs.length /\ Al K G xs vs
 | .pin ob vs ks xs => H p = some (.frz ob (.dK (ks.zip vs))) /\ ks.length = vs.length /\ Al K G xs vs
structure SA (K : PySem.W.Frag) (G : Wd) (H : Hp) (O : Ac) : Prop where
 sub : Bu G.g H
 len : G.l.length = O.length
 nd : G.l.Nodup
 liv : ∀ a ∈ G.l,∃ o,H a = some o
 mt : ∀ (n : Nat) (m : MO),O[n]? = some (some m) -> ∃ a,G.l[n]? = some a /\ G.g a = none /\ EU K G H a m
section
variable {K : PySem.W.Frag} {G G' : Wd} {H H' : Hp} {O : Ac}
theorem EU.ext {p : Addr} {m : MO} (e : Ah G G') (q : H' p = H p) (h : EU K G H p m) : EU K G' H' p m := by
 cases m with
 | lst xs => obtain ⟨vs,h1,h2⟩ := h; exact ⟨vs,by rw [q]; exact h1,h2.ext e⟩
 | ins C fs => obtain ⟨dx,vs,h1,h2⟩ := h; exact ⟨dx,vs,by rw [q]; exact h1,h2.ext e⟩
 | exc C fs ha =>
  obtain ⟨ob,h1,h2,h3,h4⟩ := h
  refine ⟨ob,by rw [q]; exact h1,h2,h3.imp id ?_,h4⟩
  rintro ⟨dx,vs,a1,a2,a3⟩
  exact ⟨dx,vs,a1,e.g _ _ a2,a3.ext e⟩
 | dct ks xs => obtain ⟨vs,h1,hl,h2⟩ := h; exact ⟨vs,by rw [q]; exact h1,hl,h2.ext e⟩
 | pin ob vs ks xs => obtain ⟨h1,hl,h2⟩ := h; exact ⟨by rw [q]; exact h1,hl,h2.ext e⟩
theorem EU.some {p : Addr} {m : MO} (h : EU K G H p m) : ∃ o,H p = some o := by
 cases m with
 | lst xs => obtain ⟨vs,h1,h2⟩ := h; exact ⟨_,h1⟩
 | ins C fs => obtain ⟨dx,vs,h1,h2⟩ := h; exact ⟨_,h1⟩
 | exc C fs ha => obtain ⟨ob,h1,_⟩ := h; exact ⟨_,h1⟩
 | dct ks xs => obtain ⟨vs,h1,_⟩ := h; exact ⟨_,h1⟩
 | pin ob vs ks xs => exact ⟨_,h.1⟩
theorem SA.free {p : Addr} (s : SA K G H O) (h : H p = none) : G.g p = none := s.sub.free h
theorem SA.grow (s : SA K G H O) (e : Bu H H') : SA K G H' O :=
 ⟨s.sub.trans e,s.len,s.nd,λ a ha => let ⟨o,h⟩ := s.liv a ha; ⟨o,e _ _ h⟩,λ n m h => by
  obtain ⟨a,h1,h2,h3⟩ := s.mt n m h
  obtain ⟨o,h4⟩ := h3.some
  exact ⟨a,h1,h2,h3.ext (Ah.refl _) (by rw [h4,e _ _ h4])⟩⟩
theorem GB {p : Addr} {o : HO} (h : H p = none) : Bu H (AL H p o) := λ b u q => by
 rw [A4]; exact q
 rintro rfl; rw [h] at q; cases q
theorem SA.laid {p : Addr} {o : HO} (s : SA K G H O) (h : H p = none) : Ah G ⟨AL G.g p o,G.l⟩ /\ SA K ⟨AL G.g p o,G.l⟩ (AL H p o) O := by
 have e : Ah G ⟨AL G.g p o,G.l⟩ := ⟨GB (s.free h),[],(List.append_nil _).symm⟩
 refine ⟨e,⟨λ b u q => ?_,s.len,s.nd,λ a ha => let ⟨o,q⟩ := s.liv a ha; ⟨o,GB h _ _ q⟩,λ n m hq => ?_⟩⟩
 ·by_cases hb : b = p
  ·subst hb
   have q : AL G.g b o b = some u := q
   rw [Bs] at q; rw [Bs]; exact q
  ·have q : AL G.g p o b = some u := q
   rw [A4 hb] at q ⊢; exact s.sub b u q
 ·obtain ⟨a,h1,h2,h3⟩ := s.mt n m hq
  have ne : a ≠ p := by
   rintro rfl; obtain ⟨o,h4⟩ := h3.some; rw [h] at h4; cases h4
  exact ⟨a,h1,by show AL G.g p o a = none; rw [A4 ne]; exact h2,h3.ext e (A4 ne)⟩
theorem SA.new {p : Addr} {o : HO} {m : MO} (s : SA K G H O) (h : H p = none) (r : EU K ⟨G.g,G.l ++ [p]⟩ (AL H p o) p m) : Ah G ⟨G.g,G.l ++ [p]⟩ /\ SA K ⟨G.g,G.l ++ [p]⟩ (AL H p o) (O ++ [some m]) := by
 have e : Ah G ⟨G.g,G.l ++ [p]⟩ := ⟨Bu.refl _,[p],rfl⟩
 have hp : p ∉ G.l := λ z => by obtain ⟨o,q⟩ := s.liv p z; rw [h] at q; cases q
 refine ⟨e,⟨s.sub.trans (GB h),?_,?_,?_,?_⟩⟩
 ·simp [s.len]
 ·exact List.nodup_append.mpr ⟨s.nd,List.nodup_cons.mpr ⟨List.not_mem_nil,List.nodup_nil⟩,λ a ha b hb => by
   rw [List.mem_singleton] at hb; subst hb; rintro rfl; exact hp ha⟩
 ·intro a ha
  rcases List.mem_append.mp ha with ha | ha
  ·obtain ⟨u,q⟩ := s.liv a ha; exact ⟨u,GB h _ _ q⟩
  ·rw [List.mem_singleton] at ha; subst ha; exact ⟨_,Bs⟩
 ·intro n m' hq
  by_cases hn : n < O.length
  ·rw [List.getElem?_append_left hn] at hq
   obtain ⟨a,h1,h2,h3⟩ := s.mt n m' hq
   have ne : a ≠ p := by rintro rfl; exact hp (List.mem_of_getElem? h1)
   exact ⟨a,e.at h1,h2,h3.ext e (A4 ne)⟩
  ·have e1 : n = O.length := by
    have := (List.getElem?_eq_some_iff.mp hq).1
    rw [List.length_append,List.length_singleton] at this
    omega
   subst e1
   rw [List.getElem?_append_right (Nat.le_refl _),Nat.sub_self] at hq
   cases hq
   exact ⟨p,by show (G.l ++ [p])[O.length]? = _; rw [<- s.len,List.getElem?_append_right (Nat.le_refl _),Nat.sub_self]; rfl,s.free h,r⟩
theorem SA.put {n : Nat} {p : Addr} {o : HO} {m m' : MO} (s : SA K G H O) (h : O[n]? = some (some m)) (hp : G.l[n]? = some p) (r : EU K G (AL H p o) p m') : SA K G (AL H p o) (O.set n (some m')) := by
 obtain ⟨a,h1,h2,h3⟩ := s.mt n m h
 obtain rfl : p = a := Option.some.inj (hp.symm.trans h1)
 refine ⟨λ b u q => ?_,by simp [s.len],s.nd,λ b hb => ?_,λ k m2 hk => ?_⟩
 ·rw [A4]; exact s.sub b u q
  rintro rfl; rw [h2] at q; cases q
 ·by_cases hbp : b = p
  ·subst hbp; exact ⟨_,Bs⟩
  ·obtain ⟨u,q⟩ := s.liv b hb; exact ⟨u,by rw [A4 hbp]; exact q⟩
 ·by_cases hkn : n = k
  ·subst hkn
   rw [List.getElem?_set_self (List.getElem?_eq_some_iff.mp h).1] at hk
   cases hk
   exact ⟨p,hp,h2,r⟩
  ·rw [List.getElem?_set_ne hkn] at hk
   obtain ⟨b,g1,g2,g3⟩ := s.mt k m2 hk
   have ne : b ≠ p := by
    rintro rfl
    exact hkn ((List.getElem?_inj (List.getElem?_eq_some_iff.mp hp).1 s.nd).mp (hp.trans g1.symm))
   exact ⟨b,g1,g2,g3.ext (Ah.refl _) (A4 ne)⟩
end
abbrev Aj := List (Option D)
structure AB (K : PySem.W.Frag) (G : Wd) (σ : L2.St) (ρ : Aj) : Prop where
 len : σ.length = ρ.length
 get : ∀ (i : Nat) (d : D),ρ[i]? = some (some d) -> ∃ v,σ[i]? = some (some v) /\ Is K G d v
theorem AB.ext {K : PySem.W.Frag} {G G' : Wd} {σ : L2.St} {ρ : Aj} (e : Ah G G') (h : AB K G σ ρ) : AB K G' σ ρ :=
 ⟨h.len,λ i d q => let ⟨v,h1,h2⟩ := h.get i d q; ⟨v,h1,h2.ext e⟩⟩
theorem AB.set {K : PySem.W.Frag} {G : Wd} {σ : L2.St} {ρ : Aj} {d : D} {v : V} (i : Nat) (h : AB K G σ ρ) (q : Is K G d v) : AB K G (σ.set i (some v)) (ρ.set i (some d)) := by
 refine ⟨by simp [h.len],λ j e hj => ?_⟩
 by_cases hij : i = j
 ·subst hij
  by_cases hl : i < ρ.length
  ·rw [List.getElem?_set_self hl] at hj
   cases hj
   exact ⟨v,List.getElem?_set_self (by rw [h.len]; exact hl),q⟩
  ·rw [List.getElem?_eq_none (by simp; omega)] at hj; cases hj
 ·rw [List.getElem?_set_ne hij] at hj ⊢
  exact h.get j e hj
def Ev (X : Cx) (ρ : Aj) (O : Ac) (e : Expr) (R : D -> Ac -> Prop) : Prop :=
 ∀ G,PE X e (λ σ H Q => SA X.K G H O /\ AB X.K G σ ρ /\ ∀ v d O' G' H',Ah G G' -> SA X.K G' H' O' -> Is X.K G' d v -> R d O' -> Q v H')
def Ad (X : Cx) (ρ : Aj) (O : Ac) (e : Expr) (d : D) : Prop :=
 ∀ G,PE X e (λ σ H Q => SA X.K G H O /\ AB X.K G σ ρ /\ ∀ v G' H',Ah G G' -> SA X.K G' H' O -> Is X.K G' d v -> Q v H')
def AY (X : Cx) (ρ : Aj) (O : Ac) (e : Expr) (b : Bool) : Prop :=
 ∀ G,PT X e (λ σ H Q => SA X.K G H O /\ AB X.K G σ ρ /\ ∀ G' H',Ah G G' -> SA X.K G' H' O -> Q b H')
def BN (X : Cx) (ρ : Aj) (O : Ac) (e : Expr) (b : Bool) : Prop :=
 ∀ G,PW X e (λ σ H Q => SA X.K G H O /\ AB X.K G σ ρ /\ ∀ G' H',Ah G G' -> SA X.K G' H' O -> Q b H')
def EY (X : Cx) (ρ : Aj) (O : Ac) (es : List Expr) (R : List D -> Ac -> Prop) : Prop :=
 ∀ G,PA X es (λ σ H Q => SA X.K G H O /\ AB X.K G σ ρ /\ ∀ vs ds O' G' H',Ah G G' -> SA X.K G' H' O' -> Al X.K G' ds vs -> R ds O' -> Q vs H')
theorem _root_.L2.PE.imp {X : Cx} {e : Expr} {t u : TE} (h : PE X e t) (k : ∀ σ H Q,u σ H Q -> t σ H Q) : PE X e u := λ pins s σ H Q I q => h pins s σ H Q I (k _ _ _ q)
theorem _root_.L2.PT.imp {X : Cx} {e : Expr} {t u : TT} (h : PT X e t) (k : ∀ σ H Q,u σ H Q -> t σ H Q) : PT X e u := λ pins s σ H Q I q => h pins s σ H Q I (k _ _ _ q)
theorem _root_.L2.PA.imp {X : Cx} {es : List Expr} {t u : TA} (h : PA X es t) (k : ∀ σ H Q,u σ H Q -> t σ H Q) : PA X es u := λ pos pins s σ H Q I q => h pos pins s σ H Q I (k _ _ _ q)
theorem _root_.L2.PS.imp {X : Cx} {e : Stmt} {t u : TS} (h : PS X e t) (k : ∀ D σ H,u D σ H -> t D σ H) : PS X e u := λ pins s σ H D I q => h pins s σ H D I (k _ _ _ q)
theorem _root_.L2.PSs.imp {X : Cx} {e : List Stmt} {t u : TS} (h : PSs X e t) (k : ∀ D σ H,u D σ H -> t D σ H) : PSs X e u := λ pins s σ H D I q => h pins s σ H D I (k _ _ _ q)
section
variable {X : Cx} {ρ : Aj} {O : Ac} {e a b c : Expr} {d da db : D} {R : D -> Ac -> Prop} {pos : Pos}
theorem Ad.ev (h : Ad X ρ O e d) (r : R d O) : Ev X ρ O e R := λ G => (h G).imp λ σ H Q ⟨s,n,k⟩ => ⟨s,n,λ v G' H' e1 s' i => k v d O G' H' e1 s' i r⟩
theorem Ev.evp (h : Ev X ρ O e λ d' O' => d' = d /\ O' = O) : Ad X ρ O e d := λ G => (h G).imp λ σ H Q ⟨s,n,k⟩ => ⟨s,n,λ v d' O' G' H' e1 s' i r => by obtain ⟨rfl,rfl⟩ := r; exact k v G' H' e1 s' i⟩
theorem Ad.cast {d' : D} (h : Ad X ρ O e d) (q : d = d') : Ad X ρ O e d' := q ▸ h
theorem BN.t (h : BN X ρ O e b') : AY X ρ O e b' := λ G => (h G).pt
theorem AY.cast {k k' : Bool} (h : AY X ρ O e k) (q : k = k') : AY X ρ O e k' := q ▸ h
theorem Aa (i : Nat) {x : Str} {p : Pos} (hr : ρ[i]? = some (some d) := by rfl) (hN : X.N[i]? = some x := by rfl) (hv : Es X.env.scope x := by first | exact Or.inl rfl | exact Or.inr (Or.inl rfl) | exact Or.inr (Or.inr rfl))
  (hd : (x == ("__debug__" : Str)) = false := by decide) (hcd : (x == ("__classdict__" : Str)) = false := by decide) : Ad X ρ O (.Name x p) d := λ G =>
 PE.imp (TC hN hv hd hcd) λ σ H Q ⟨s,n,k⟩ => by
  obtain ⟨v,e1,i1⟩ := n.get i d hr
  exact ⟨v,e1,k v G H (Ah.refl _) s i1⟩
theorem Ag {i : Int} {j : Nat} : Ad X ρ O (.Constant (.int i) j pos) (.int i) := λ G => PE.imp TN λ σ H Q ⟨s,n,k⟩ => k _ G H (Ah.refl _) s (.int i)
theorem Lh {i : Bool} {j : Nat} : Ad X ρ O (.Constant (.bool i) j pos) (.bl i) := λ G => PE.imp TV λ σ H Q ⟨s,n,k⟩ => k _ G H (Ah.refl _) s (.bl i)
theorem D0 {j : Nat} : Ad X ρ O (.Constant .none j pos) .non := λ G => PE.imp TK λ σ H Q ⟨s,n,k⟩ => k _ G H (Ah.refl _) s .non
theorem Ft {x : Str} {j : Nat} : Ad X ρ O (.Constant (.str x) j pos) (.str x) := λ G => PE.imp TD λ σ H Q ⟨s,n,k⟩ => k _ G H (Ah.refl _) s (.str x)
def Bl (X : Cx) (O : Ac) (f : Value -> Value -> Sem Value) (da db d : D) : Prop :=
 ∀ G,BT X f (λ v u H Q => SA X.K G H O /\ Is X.K G da v /\ Is X.K G db u /\ ∀ w G' H',Ah G G' -> SA X.K G' H' O -> Is X.K G' d w -> Q w H')
theorem Bl.of {f : Value -> Value -> Sem Value} {r : R2} (ho : BT X f r)
  (k : ∀ G v u H Q,SA X.K G H O -> Is X.K G da v -> Is X.K G db u -> (∀ w G' H',Ah G G' -> SA X.K G' H' O -> Is X.K G' d w -> Q w H') -> r v u H Q) : Bl X O f da db d :=
 λ G pins s σ H x y v u Q I rx ry ⟨h1,h2,h3,h4⟩ => ho pins s σ H x y v u Q I rx ry (k G _ _ _ _ h1 h2 h3 h4)
theorem Ak {op : Operator} (ha : Ad X ρ O a da) (hb : Ad X ρ O b db) (ho : Bl X O (binaryOp op) da db d) : Ad X ρ O (.BinOp a op b pos) d := λ G pins s σ H Q I ⟨h1,h2,h3⟩ =>
 wpAny_BinOp (GV (ta := λ σ H Q => SA X.K G H O /\ AB X.K G σ ρ /\ ∀ v G' H',Ah G G' -> SA X.K G' H' O -> Is X.K G' da v -> Q v H') (ha G)
  (tb := λ σ H Q => ∃ G1 v0,SA X.K G1 H O /\ AB X.K G1 σ ρ /\ ∀ v G' H',Ah G1 G' -> SA X.K G' H' O -> Is X.K G' db v -> Q v H') (λ pins s σ H Q I ⟨G1,_,q⟩ => hb G1 pins s σ H Q I q) I
  (R := λ x y H2 => ∃ G2,Ah G G2 /\ SA X.K G2 H2 O /\ Is X.K G2 da x /\ Is X.K G2 db y)
  ⟨h1,h2,λ v G1 H1 e1 s1 i1 => ⟨G1,(0 : Nat),s1,h2.ext e1,λ u G2 H2 e2 s2 i2 => ⟨G2,e1.trans e2,s2,i1.ext e2,i2⟩⟩⟩
  λ v u s2 x y H2 I2 rx ry ⟨G2,e2,s2',i1,i2⟩ => ho G2 pins s2 σ H2 x y v u Q I2 rx ry ⟨s2',i1,i2,λ w G3 H3 e3 s3 i3 => h3 w G3 H3 (e2.trans e3) s3 i3⟩)
theorem Of {f : Value -> Value -> Sem Value} {g : Int -> Int -> Int} {i j : Int} (ho : BT X f (DT λ i j => .int (g i j))) : Bl X O f (.int i) (.int j) (.int (g i j)) :=
 .of ho λ G v u H Q s h1 h2 k => by cases h1; cases h2; exact ⟨i,j,rfl,rfl,k _ G H (Ah.refl _) s (.int _)⟩
theorem KS {f : Value -> Value -> Sem Value} {C : Int -> Int -> Prop} {g : Int -> Int -> Int} {i j : Int} (ho : BT X f (rI C λ i j => .int (g i j))) (hc : C i j) : Bl X O f (.int i) (.int j) (.int (g i j)) :=
 .of ho λ G v u H Q s h1 h2 k => by cases h1; cases h2; exact ⟨i,j,rfl,rfl,hc,k _ G H (Ah.refl _) s (.int _)⟩
theorem HP {f : Value -> Value -> Sem Value} {g : Int -> Int -> Bool} {i j : Int} (ho : BT X f (DT λ i j => .bl (g i j))) : Bl X O f (.int i) (.int j) (.bl (g i j)) :=
 .of ho λ G v u H Q s h1 h2 k => by cases h1; cases h2; exact ⟨i,j,rfl,rfl,k _ G H (Ah.refl _) s (.bl _)⟩
theorem BR {i j : Int} : Bl X O (binaryOp .Add) (.int i) (.int j) (.int (i + j)) := Of Uc
theorem Ed {i j : Int} : Bl X O (binaryOp .Sub) (.int i) (.int j) (.int (i - j)) := Of TX
theorem T0 : BT X (binaryOp .Mult) (rI IntMulOk λ i j => .int (i * j)) := KP λ _ _ _ _ _ _ _ hc q => mul_int q hc
theorem CC {i j : Int} (h : IntMulOk i j) : Bl X O (binaryOp .Mult) (.int i) (.int j) (.int (i * j)) := KS T0 h
theorem Cj {i j : Int} (h : Qb i j) : Bl X O (binaryOp .FloorDiv) (.int i) (.int j) (.int (i / j)) := KS T7 h
theorem Bh {i j : Int} (h : 0 < j) : Bl X O (binaryOp .Mod) (.int i) (.int j) (.int (i % j)) := KS (C := λ _ j => 0 < j) T1 h
theorem Lj {i j : Int} : Bl X O (compareOp .Lt) (.int i) (.int j) (.bl (decide (i < j))) := HP T2
theorem IA {i j : Int} : Bl X O (compareOp .LtE) (.int i) (.int j) (.bl (decide (i <= j))) := HP T3
theorem Fz {i j : Int} : Bl X O (compareOp .Gt) (.int i) (.int j) (.bl (decide (j < i))) := HP T5
theorem XE {i j : Int} : Bl X O (compareOp .GtE) (.int i) (.int j) (.bl (decide (j <= i))) := HP T6
theorem Po {i j : Int} : decide (V.int i = V.int j) = decide (i = j) := by
 by_cases h : i = j
 ·subst h; rw [decide_eq_true rfl,decide_eq_true rfl]
 ·rw [decide_eq_false h,decide_eq_false]; intro z; injection z with z; exact h z
theorem Bq {i j : Int} : Bl X O (compareOp .Eq) (.int i) (.int j) (.bl (decide (i = j))) :=
 .of T8 λ G v u H Q s h1 h2 k => by cases h1; cases h2; exact ⟨rfl,by rw [Po]; exact k _ G H (Ah.refl _) s (.bl _)⟩
theorem GR {i j : Int} : Bl X O (compareOp .NotEq) (.int i) (.int j) (.bl (!decide (i = j))) :=
 .of TZ λ G v u H Q s h1 h2 k => by cases h1; cases h2; exact ⟨rfl,by rw [Po]; exact k _ G H (Ah.refl _) s (.bl _)⟩
def Dn : D -> Bool
 | .non => true
 | _ => false
theorem OH {K : PySem.W.Frag} {G : Wd} {v : V} (h : Is K G d v) : decide (v = V.non) = Dn d := by
 cases h <;> first | rfl | exact decide_eq_false (λ z => by cases z)
theorem Fy : Bl X O (compareOp .Is) da .non (.bl (Dn da)) :=
 .of T4 λ G v u H Q s h1 h2 k => by cases h2; exact ⟨rfl,by rw [OH h1]; exact k _ G H (Ah.refl _) s (.bl _)⟩
theorem Pt : Bl X O (compareOp .IsNot) da .non (.bl (!Dn da)) :=
 .of TY λ G v u H Q s h1 h2 k => by cases h2; exact ⟨rfl,by rw [OH h1]; exact k _ G H (Ah.refl _) s (.bl _)⟩
theorem Em {op : CmpOp} (ha : Ad X ρ O a da) (hb : Ad X ρ O b db) (ho : Bl X O (compareOp op) da db d) (hm : behindInMarks op b = false := by first | exact Oi _ | (with_unfolding_all rfl)) : Ad X ρ O (.Compare a [op] [b] pos) d := λ G pins s σ H Q I ⟨h1,h2,h3⟩ =>
 wpAny_Compare1 (GV (ta := λ σ H Q => SA X.K G H O /\ AB X.K G σ ρ /\ ∀ v G' H',Ah G G' -> SA X.K G' H' O -> Is X.K G' da v -> Q v H') (ha G)
  (tb := λ σ H Q => ∃ G1 v0,SA X.K G1 H O /\ AB X.K G1 σ ρ /\ ∀ v G' H',Ah G1 G' -> SA X.K G' H' O -> Is X.K G' db v -> Q v H') (λ pins s σ H Q I ⟨G1,_,q⟩ => hb G1 pins s σ H Q I q) I
  (R := λ x y H2 => ∃ G2,Ah G G2 /\ SA X.K G2 H2 O /\ Is X.K G2 da x /\ Is X.K G2 db y)
  ⟨h1,h2,λ v G1 H1 e1 s1 i1 => ⟨G1,(0 : Nat),s1,h2.ext e1,λ u G2 H2 e2 s2 i2 => ⟨G2,e1.trans e2,s2,i1.ext e2,i2⟩⟩⟩
  λ v u s2 x y H2 I2 rx ry ⟨G2,e2,s2',i1,i2⟩ => ho G2 pins s2 σ H2 x y v u Q I2 rx ry ⟨s2',i1,i2,λ w G3 H3 e3 s3 i3 => h3 w G3 H3 (e2.trans e3) s3 i3⟩) hm
theorem AU {op : CmpOp} {k : Bool} (ha : Ad X ρ O a da) (hb : Ad X ρ O b db) (ho : Bl X O (compareOp op) da db (.bl k)) (hm : behindInMarks op b = false := by first | exact Oi _ | (with_unfolding_all rfl)) : AY X ρ O (.Compare a [op] [b] pos) k := λ G pins s σ H Q I ⟨h1,h2,h3⟩ => by
 refine wpAny_isTrue_Compare1 (Aq (ha G pins s σ H _ I ⟨h1,h2,λ v G1 H1 e1 s1 i1 => (⟨G1,e1,s1,i1⟩ : ∃ G1,Ah G G1 /\ SA X.K G1 H1 O /\ Is X.K G1 da v)⟩) λ v s1 ⟨x,H1,I1,r1,G1,e1,sa1,i1⟩ =>
  Aq (hb G1 pins s1 σ H1 _ I1 ⟨sa1,h2.ext e1,λ u G2 H2 e2 s2 i2 => (⟨G2,e2,s2,i2⟩ : ∃ G2,Ah G1 G2 /\ SA X.K G2 H2 O /\ Is X.K G2 db u)⟩) λ u s2 ⟨y,H2,I2,r2,G2,e2,sa2,i2⟩ =>
  Aq (ho G2 pins s2 σ H2 x y v u _ I2 r1 r2 ⟨sa2,i1.ext e2,i2,λ w G3 H3 e3 s3 i3 => (⟨G3,e3,s3,i3⟩ : ∃ G3,Ah G2 G3 /\ SA X.K G3 H3 O /\ Is X.K G3 (.bl k) w)⟩) λ c s3 ⟨z,H3,I3,r3,G3,e3,sa3,i3⟩ => ?_) hm
 cases i3
 cases r3
 exact wpAny_truthy_bool ⟨H3,I3,h3 G3 H3 ((e1.trans e2).trans e3) sa3⟩
theorem B7 {k : Bool} (ha : Ad X ρ O a (.bl k)) (he : ∀ whole,isTrue a X.env whole = (do let v <- whole; standAt a.pos; holding [v] (truthy v)) := by intro _; rfl) : AY X ρ O a k := λ G =>
 (NL (ha G) he).imp λ σ H Q ⟨h1,h2,h3⟩ => ⟨h1,h2,λ v G' H' e1 s1 i1 => by cases i1; exact ⟨k,rfl,h3 G' H' e1 s1⟩⟩
theorem Ck {k : Bool} (ha : AY X ρ O a k) : AY X ρ O (.UnaryOp .Not a pos) (!k) := λ G =>
 (NM (ha G)).imp λ σ H Q ⟨h1,h2,h3⟩ => ⟨h1,h2,λ G' H' e1 s1 => h3 G' H' e1 s1⟩
theorem F8 {k : Bool} (ha : AY X ρ O a k) : BN X ρ O (.BoolOp .And [a] pos) k := λ G => SR (ha G)
theorem DE {k : Bool} (ha : AY X ρ O a k) : BN X ρ O (.BoolOp .Or [a] pos) k := λ G => SQ (ha G)
theorem F9 {k l : Bool} {rest : List Expr} (ha : AY X ρ O a k) (hb : k = true -> BN X ρ O (.BoolOp .And (b :: rest) pos) l) : BN X ρ O (.BoolOp .And (a :: b :: rest) pos) (k && l) := λ G wh pins s σ H Q I ⟨h1,h2,h3⟩ => by
 refine isTrue_and (Aq (ha G pins s σ H (λ c H1 => c = k /\ ∃ G1,Ah G G1 /\ SA X.K G1 H1 O) I ⟨h1,h2,λ G1 H1 e1 s1 => ⟨rfl,G1,e1,s1⟩⟩) ?_)
 rintro c s1 ⟨H1,I1,rfl,G1,e1,sa1⟩
 cases c with
 | false => exact ⟨H1,I1,h3 G1 H1 e1 sa1⟩
 | true => exact hb rfl G1 wh pins s1 σ H1 Q I1 ⟨sa1,h2.ext e1,λ G2 H2 e2 s2 => h3 G2 H2 (e1.trans e2) s2⟩
theorem Dp {k l : Bool} {rest : List Expr} (ha : AY X ρ O a k) (hb : k = false -> BN X ρ O (.BoolOp .Or (b :: rest) pos) l) : BN X ρ O (.BoolOp .Or (a :: b :: rest) pos) (k || l) := λ G wh pins s σ H Q I ⟨h1,h2,h3⟩ => by
 refine isTrue_or (Aq (ha G pins s σ H (λ c H1 => c = k /\ ∃ G1,Ah G G1 /\ SA X.K G1 H1 O) I ⟨h1,h2,λ G1 H1 e1 s1 => ⟨rfl,G1,e1,s1⟩⟩) ?_)
 rintro c s1 ⟨H1,I1,rfl,G1,e1,sa1⟩
 cases c with
 | true => exact ⟨H1,I1,h3 G1 H1 e1 sa1⟩
 | false => exact hb rfl G1 wh pins s1 σ H1 Q I1 ⟨sa1,h2.ext e1,λ G2 H2 e2 s2 => h3 G2 H2 (e1.trans e2) s2⟩
theorem DZ {op : BoolOp} (ha : Ad X ρ O a d) : Ad X ρ O (.BoolOp op [a] pos) d := λ G => TH (ha G)
theorem Eo {k l : Bool} {rest : List Expr} (ha : Ad X ρ O a (.bl k)) (hb : k = true -> Ad X ρ O (.BoolOp .And (b :: rest) pos) (.bl l)) : Ad X ρ O (.BoolOp .And (a :: b :: rest) pos) (.bl (k && l)) := λ G pins s σ H Q I ⟨h1,h2,h3⟩ => by
 refine BoolOp_and (Aq (ha G pins s σ H (λ v H1 => ∃ G1,Ah G G1 /\ SA X.K G1 H1 O /\ Is X.K G1 (.bl k) v) I ⟨h1,h2,λ v G1 H1 e1 s1 i1 => ⟨G1,e1,s1,i1⟩⟩) ?_)
 rintro v s1 ⟨x,H1,I1,r1,G1,e1,sa1,i1⟩
 cases i1
 cases r1
 refine wpAny_truthy_bool ?_
 cases k with
 | false => exact ⟨.bl false,H1,I1,rfl,h3 _ G1 H1 e1 sa1 (.bl _)⟩
 | true => exact hb rfl G1 pins s1 σ H1 Q I1 ⟨sa1,h2.ext e1,λ w G2 H2 e2 s2 i2 => h3 w G2 H2 (e1.trans e2) s2 i2⟩
theorem WN {k l : Bool} {rest : List Expr} (ha : Ad X ρ O a (.bl k)) (hb : k = false -> Ad X ρ O (.BoolOp .Or (b :: rest) pos) (.bl l)) : Ad X ρ O (.BoolOp .Or (a :: b :: rest) pos) (.bl (k || l)) := λ G pins s σ H Q I ⟨h1,h2,h3⟩ => by
 refine BoolOp_or (Aq (ha G pins s σ H (λ v H1 => ∃ G1,Ah G G1 /\ SA X.K G1 H1 O /\ Is X.K G1 (.bl k) v) I ⟨h1,h2,λ v G1 H1 e1 s1 i1 => ⟨G1,e1,s1,i1⟩⟩) ?_)
 rintro v s1 ⟨x,H1,I1,r1,G1,e1,sa1,i1⟩
 cases i1
 cases r1
 refine wpAny_truthy_bool ?_
 cases k with
 | true => exact ⟨.bl true,H1,I1,rfl,h3 _ G1 H1 e1 sa1 (.bl _)⟩
 | false => exact hb rfl G1 pins s1 σ H1 Q I1 ⟨sa1,h2.ext e1,λ w G2 H2 e2 s2 i2 => h3 w G2 H2 (e1.trans e2) s2 i2⟩
theorem OX {k : Bool} (ha : Ad X ρ O a (.bl k)) : Ad X ρ O (.UnaryOp .Not a pos) (.bl (!k)) := λ G => (TJ (ha G)).imp λ σ H Q ⟨h1,h2,h3⟩ => ⟨h1,h2,λ v G1 H1 e1 s1 i1 => by
 cases i1
 exact ⟨k,rfl,h3 _ G1 H1 e1 s1 (.bl _)⟩⟩
theorem WQ {k : Bool} (hc : AY X ρ O c k) (ha : k = true -> Ad X ρ O a da) (hb : k = false -> Ad X ρ O b db) : Ad X ρ O (.IfExp c a b pos) (if k = true then da else db) := λ G pins s σ H Q I ⟨h1,h2,h3⟩ => by
 cases k with
 | true =>
  exact (NV (tA := λ σ H Q => SA X.K G H O /\ AB X.K G σ ρ /\ ∀ G' H',Ah G G' -> SA X.K G' H' O -> Q true H') (hc G) (λ pins s σ H Q I (q : ∃ G1,SA X.K G1 H O /\ AB X.K G1 σ ρ /\ ∀ v G' H',Ah G1 G' -> SA X.K G' H' O -> Is X.K G' da v -> Q v H') => let ⟨G1,q⟩ := q; ha rfl G1 pins s σ H Q I q)
   (λ pins s σ H Q I (q : False) => q.elim)) pins s σ H Q I ⟨h1,h2,λ G1 H1 e1 s1 => K3 ⟨G1,s1,h2.ext e1,λ v G2 H2 e2 s2 i2 => h3 v G2 H2 (e1.trans e2) s2 i2⟩⟩
 | false =>
  exact (NV (tA := λ σ H Q => SA X.K G H O /\ AB X.K G σ ρ /\ ∀ G' H',Ah G G' -> SA X.K G' H' O -> Q false H') (hc G) (λ pins s σ H Q I (q : False) => q.elim)
   (λ pins s σ H Q I (q : ∃ G1,SA X.K G1 H O /\ AB X.K G1 σ ρ /\ ∀ v G' H',Ah G1 G' -> SA X.K G' H' O -> Is X.K G' db v -> Q v H') => let ⟨G1,q⟩ := q; hb rfl G1 pins s σ H Q I q)) pins s σ H Q I ⟨h1,h2,λ G1 H1 e1 s1 => K4 ⟨G1,s1,h2.ext e1,λ v G2 H2 e2 s2 i2 => h3 v G2 H2 (e1.trans e2) s2 i2⟩⟩
theorem WU {op op' : CmpOp} {k l : Bool} {dc : D} (ha : Ad X ρ O a da) (hb : Ad X ρ O b db) (hc : Ad X ρ O c dc) (ho : Bl X O (compareOp op) da db (.bl k)) (ho' : k = true -> Bl X O (compareOp op') db dc (.bl l))
  (hm : lastMarks [op,op'] [b,c] = false := by with_unfolding_all rfl) : Ad X ρ O (.Compare a [op,op'] [b,c] pos) (.bl (k && l)) := λ G pins s σ H Q I ⟨h1,h2,h3⟩ => by
 refine Compare_chain (Aq (ha G pins s σ H (λ v H1 => ∃ G1,Ah G G1 /\ SA X.K G1 H1 O /\ Is X.K G1 da v) I ⟨h1,h2,λ v G1 H1 e1 s1 i1 => ⟨G1,e1,s1,i1⟩⟩) ?_) hm
 rintro v s1 ⟨x,H1,I1,r1,G1,e1,sa1,i1⟩
 refine chain_link (Aq (hb G1 pins s1 σ H1 (λ v H2 => ∃ G2,Ah G1 G2 /\ SA X.K G2 H2 O /\ Is X.K G2 db v) I1 ⟨sa1,h2.ext e1,λ v G2 H2 e2 s2 i2 => ⟨G2,e2,s2,i2⟩⟩) ?_)
 rintro u s2 ⟨y,H2,I2,r2,G2,e2,sa2,i2⟩
 refine Aq (ho G2 pins s2 σ H2 x y v u (λ w H3 => ∃ G3,Ah G2 G3 /\ SA X.K G3 H3 O /\ Is X.K G3 (.bl k) w) I2 r1 r2 ⟨sa2,i1.ext e2,i2,λ w G3 H3 e3 s3 i3 => ⟨G3,e3,s3,i3⟩⟩) ?_
 rintro w s3 ⟨z,H3,I3,r3,G3,e3,sa3,i3⟩
 cases i3
 cases r3
 refine wpAny_truthy_bool ?_
 cases k with
 | false => exact ite_ff ⟨.bl false,H3,I3,rfl,h3 _ G3 H3 ((e1.trans e2).trans e3) sa3 (.bl _)⟩
 | true =>
  refine ite_tt (chain_last (Aq (hc G3 pins s3 σ H3 (λ v H4 => ∃ G4,Ah G3 G4 /\ SA X.K G4 H4 O /\ Is X.K G4 dc v) I3 ⟨sa3,h2.ext ((e1.trans e2).trans e3),λ v G4 H4 e4 s4 i4 => ⟨G4,e4,s4,i4⟩⟩) ?_))
  rintro q s4 ⟨z',H4,I4,r4,G4,e4,sa4,i4⟩
  exact ho' rfl G4 pins s4 σ H4 y z' u q Q I4 r2 r4 ⟨sa4,i2.ext (e3.trans e4),i4,λ w G5 H5 e5 s5 i5 => h3 w G5 H5 ((((e1.trans e2).trans e3).trans e4).trans e5) s5 i5⟩
theorem WZ {op op' : CmpOp} {k l : Bool} {dc : D} (ha : Ad X ρ O a da) (hb : Ad X ρ O b db) (hc : Ad X ρ O c dc) (ho : Bl X O (compareOp op) da db (.bl k)) (ho' : k = true -> Bl X O (compareOp op') db dc (.bl l))
  (hm : lastMarks [op,op'] [b,c] = false := by with_unfolding_all rfl) : AY X ρ O (.Compare a [op,op'] [b,c] pos) (k && l) := λ G pins s σ H Q I ⟨h1,h2,h3⟩ => by
 refine isTrue_chain (Aq (ha G pins s σ H (λ v H1 => ∃ G1,Ah G G1 /\ SA X.K G1 H1 O /\ Is X.K G1 da v) I ⟨h1,h2,λ v G1 H1 e1 s1 i1 => ⟨G1,e1,s1,i1⟩⟩) ?_) hm
 rintro v s1 ⟨x,H1,I1,r1,G1,e1,sa1,i1⟩
 refine test_link (Aq (hb G1 pins s1 σ H1 (λ v H2 => ∃ G2,Ah G1 G2 /\ SA X.K G2 H2 O /\ Is X.K G2 db v) I1 ⟨sa1,h2.ext e1,λ v G2 H2 e2 s2 i2 => ⟨G2,e2,s2,i2⟩⟩) ?_)
 rintro u s2 ⟨y,H2,I2,r2,G2,e2,sa2,i2⟩
 refine Aq (ho G2 pins s2 σ H2 x y v u (λ w H3 => ∃ G3,Ah G2 G3 /\ SA X.K G3 H3 O /\ Is X.K G3 (.bl k) w) I2 r1 r2 ⟨sa2,i1.ext e2,i2,λ w G3 H3 e3 s3 i3 => ⟨G3,e3,s3,i3⟩⟩) ?_
 rintro w s3 ⟨z,H3,I3,r3,G3,e3,sa3,i3⟩
 cases i3
 cases r3
 refine wpAny_truthy_bool ?_
 cases k with
 | false => exact ite_ff ⟨H3,I3,h3 G3 H3 ((e1.trans e2).trans e3) sa3⟩
 | true =>
  refine ite_tt (test_last (Aq (hc G3 pins s3 σ H3 (λ v H4 => ∃ G4,Ah G3 G4 /\ SA X.K G4 H4 O /\ Is X.K G4 dc v) I3 ⟨sa3,h2.ext ((e1.trans e2).trans e3),λ v G4 H4 e4 s4 i4 => ⟨G4,e4,s4,i4⟩⟩) ?_))
  rintro q s4 ⟨z',H4,I4,r4,G4,e4,sa4,i4⟩
  refine Aq (ho' rfl G4 pins s4 σ H4 y z' u q (λ w H5 => ∃ G5,Ah G4 G5 /\ SA X.K G5 H5 O /\ Is X.K G5 (.bl l) w) I4 r2 r4 ⟨sa4,i2.ext (e3.trans e4),i4,λ w G5 H5 e5 s5 i5 => ⟨G5,e5,s5,i5⟩⟩) ?_
  rintro q' s5 ⟨z2,H5,I5,r5,G5,e5,sa5,i5⟩
  cases i5
  cases r5
  exact wpAny_truthy_bool ⟨H5,I5,h3 G5 H5 ((((e1.trans e2).trans e3).trans e4).trans e5) sa5⟩
end
def LV (O : Ac) (d : D) (xs : List D) : Prop := d = .lst xs \/ d = .scr xs \/ ∃ n,d = .ptr n /\ O[n]? = some (some (.lst xs))
def LT (O : Ac) (d : D) (xs : List D) : Prop := LV O d xs \/ d = .tup xs
theorem LV.sq {K : PySem.W.Frag} {G : Wd} {H : Hp} {O : Ac} {d : D} {xs : List D} {v : V} (h : LV O d xs) (s : SA K G H O) (i : Is K G d v) : ∃ a vs,v = .ref a /\ Be K H a vs /\ Al K G xs vs := by
 rcases h with rfl | rfl | ⟨p,rfl,h⟩
 ·cases i with | lst h r => exact ⟨_,_,rfl,Be.of (s.sub _ _ h),r⟩
 ·cases i with | scr h r => exact ⟨_,_,rfl,s.sub.seq h,r⟩
 ·cases i with
  | ptr _ q =>
   obtain ⟨a,e,_,vs,h1,h2⟩ := s.mt p _ h
   obtain rfl := Option.some.inj (q.symm.trans e)
   exact ⟨_,vs,rfl,Be.of h1,h2⟩
theorem Dy {K : PySem.W.Frag} {G : Wd} {H : Hp} {O : Ac} {xs : List D} {v : V} (s : SA K G H O) (i : Is K G (.tup xs) v) : ∃ a vs,v = .ref a /\ Bc K H a vs /\ Al K G xs vs := by
 cases i with | tup h r => exact ⟨_,_,rfl,Dh s.sub h,r⟩
def Bx (X : Cx) (ρ : Aj) (O : Ac) (es : List Expr) (ds : List D) : Prop :=
 ∀ G,PA X es (λ σ H Q => SA X.K G H O /\ AB X.K G σ ρ /\ ∀ vs G' H',Ah G G' -> SA X.K G' H' O -> Al X.K G' ds vs -> Q vs H')
section
variable {X : Cx} {ρ : Aj} {O : Ac} {e a b c : Expr} {es : List Expr} {d da db : D} {ds : List D} {R : D -> Ac -> Prop} {pos p : Pos} {x : Str}
theorem Ae : Bx X ρ O [] [] := λ G => PA.imp HL λ σ H Q ⟨h1,h2,h3⟩ => h3 _ G H (Ah.refl _) h1 .nil
theorem Ab (he : Ad X ρ O e d) (hs : Bx X ρ O es ds) (hst : starEach (e :: es) X.env = (false,eval e X.env) :: starEach es X.env := by rfl) : Bx X ρ O (e :: es) (d :: ds) := λ G =>
 PA.imp (FY (he G) (t := λ σ H Q => ∃ G1,SA X.K G1 H O /\ AB X.K G1 σ ρ /\ ∀ vs G' H',Ah G1 G' -> SA X.K G' H' O -> Al X.K G' ds vs -> Q vs H') (λ pos pins s σ H Q I ⟨G1,q⟩ => hs G1 pos pins s σ H Q I q) hst)
  λ σ H Q ⟨h1,h2,h3⟩ => ⟨h1,h2,λ v G1 H1 e1 s1 i1 => ⟨G1,s1,h2.ext e1,λ vs G2 H2 e2 s2 i2 => h3 _ G2 H2 (e1.trans e2) s2 (.cons (i1.ext e2) i2)⟩⟩
theorem CJ {R : List D -> Ac -> Prop} (he : Ev X ρ O e λ d O1 => EY X ρ O1 es λ ds O2 => R (d :: ds) O2) (hst : starEach (e :: es) X.env = (false,eval e X.env) :: starEach es X.env := by rfl) : EY X ρ O (e :: es) R := λ G =>
 PA.imp (FY (he G) (t := λ σ H Q => ∃ G1 d O1,SA X.K G1 H O1 /\ AB X.K G1 σ ρ /\ (EY X ρ O1 es λ ds O2 => R (d :: ds) O2) /\ ∀ vs ds O2 G' H',Ah G1 G' -> SA X.K G' H' O2 -> Al X.K G' ds vs -> R (d :: ds) O2 -> Q vs H') (λ pos pins s σ H Q I ⟨G1,d,O1,q1,q2,q3,q4⟩ => q3 G1 pos pins s σ H Q I ⟨q1,q2,q4⟩) hst)
  λ σ H Q ⟨h1,h2,h3⟩ => ⟨h1,h2,λ v d O1 G1 H1 e1 s1 i1 r1 => ⟨G1,d,O1,s1,h2.ext e1,r1,λ vs ds O2 G2 H2 e2 s2 i2 r2 => h3 _ (d :: ds) O2 G2 H2 (e1.trans e2) s2 (.cons (i1.ext e2) i2) r2⟩⟩
theorem Bx.as {R : List D -> Ac -> Prop} (h : Bx X ρ O es ds) (r : R ds O) : EY X ρ O es R := λ G => PA.imp (h G) λ σ H Q ⟨h1,h2,h3⟩ => ⟨h1,h2,λ vs G' H' e1 s1 i1 => h3 vs ds O G' H' e1 s1 i1 r⟩
theorem CV {x1 : Nat} (h : Bx X ρ O es ds) (hz : ds.length <= sizeLine := by exact Nat.le_of_ble_eq_true rfl) : Ad X ρ O (.Tuple es x1 pos) (.tup ds) := λ G =>
 PE.imp (NS (h G)) λ σ H Q ⟨h1,h2,h3⟩ => ⟨h1,h2,λ vs G1 H1 e1 s1 i1 => ⟨by rw [<- i1.length]; exact hz,λ p hp => by
  obtain ⟨e2,s2⟩ := s1.laid (o := .tup vs) hp
  exact h3 _ _ _ (e1.trans e2) s2 (.tup (Bc.of Bs) (i1.ext e2))⟩⟩
theorem D1 (h : Bx X ρ O es ds) (hz : ds.length <= sizeLine := by exact Nat.le_of_ble_eq_true rfl) : Ad X ρ O (.List es pos) (.lst ds) := λ G =>
 PE.imp (NU (h G)) λ σ H Q ⟨h1,h2,h3⟩ => ⟨h1,h2,λ vs G1 H1 e1 s1 i1 => ⟨by rw [<- i1.length]; exact hz,λ p hp => by
  obtain ⟨e2,s2⟩ := s1.laid (o := .lst vs) hp
  exact h3 _ _ _ (e1.trans e2) s2 (.lst Bs (i1.ext e2))⟩⟩
theorem Lf (h : Bx X ρ O es ds) (k : R (.ptr O.length) (O ++ [some (.lst ds)])) (hz : ds.length <= sizeLine := by exact Nat.le_of_ble_eq_true rfl) : Ev X ρ O (.List es pos) R := λ G =>
 PE.imp (NU (h G)) λ σ H Q ⟨h1,h2,h3⟩ => ⟨h1,h2,λ vs G1 H1 e1 s1 i1 => ⟨by rw [<- i1.length]; exact hz,λ p hp => by
  have e : Ah G1 ⟨G1.g,G1.l ++ [p]⟩ := ⟨Bu.refl _,[p],rfl⟩
  obtain ⟨e2,s2⟩ := s1.new (m := .lst ds) hp ⟨vs,Bs,i1.ext e⟩
  refine h3 _ _ _ _ _ (e1.trans e2) s2 (.ptr _ ?_) k
  rw [<- s1.len,List.getElem?_append_right (Nat.le_refl _),Nat.sub_self]; rfl⟩⟩
theorem OE {xs : List D} {vs : List V} {K : PySem.W.Frag} {G : Wd} {i : Int} (r : Al K G xs vs) (h : Bt xs i = some d) : ∃ v,Bt vs i = some v /\ Is K G d v := by
 unfold Bt at h ⊢
 rw [<- r.length]
 cases q : Fr xs.length i with
 | none => rw [q] at h; cases h
 | some j =>
  rw [q] at h
  exact r.get h
theorem EJ {xs : List D} {i : Int} (ha : Ad X ρ O a da) (hl : LV O da xs) (hb : Ad X ρ O b (.int i)) (hi : Bt xs i = some d) (hs : P4 b := by intro _ _; rfl) : Ad X ρ O (.Subscript a b pos) d := λ G pins s σ H Q I ⟨h1,h2,h3⟩ =>
 Subscript_ (GV (ta := λ σ H Q => SA X.K G H O /\ AB X.K G σ ρ /\ ∀ v G' H',Ah G G' -> SA X.K G' H' O -> Is X.K G' da v -> Q v H') (ha G)
  (tb := λ σ H Q => ∃ G1,SA X.K G1 H O /\ AB X.K G1 σ ρ /\ ∀ v G' H',Ah G1 G' -> SA X.K G' H' O -> Is X.K G' (.int i) v -> Q v H') (λ pins s σ H Q I ⟨G1,q⟩ => hb G1 pins s σ H Q I q) I
  (R := λ x y H2 => ∃ G2,Ah G G2 /\ SA X.K G2 H2 O /\ Is X.K G2 da x /\ Is X.K G2 (.int i) y)
  ⟨h1,h2,λ v G1 H1 e1 s1 i1 => ⟨G1,s1,h2.ext e1,λ u G2 H2 e2 s2 i2 => ⟨G2,e1.trans e2,s2,i1.ext e2,i2⟩⟩⟩
  λ v u s2 x y H2 I2 rx ry ⟨G2,e2,s2',i1,i2⟩ => by
   obtain ⟨p,vs,rfl,q,r⟩ := hl.sq s2' i1
   cases i2
   obtain ⟨w,hw,iw⟩ := OE r hi
   exact VW a b pins s2 σ H2 _ _ v u Q I2 rx ry ⟨p,vs,i,w,rfl,rfl,q,hw,h3 w G2 H2 e2 s2' iw⟩ (hs _ _))
theorem CZ {xs : List D} {i : Int} (ha : Ad X ρ O a (.tup xs)) (hb : Ad X ρ O b (.int i)) (hi : Bt xs i = some d) (hs : P4 b := by intro _ _; rfl) : Ad X ρ O (.Subscript a b pos) d := λ G pins s σ H Q I ⟨h1,h2,h3⟩ =>
 Subscript_ (GV (ta := λ σ H Q => SA X.K G H O /\ AB X.K G σ ρ /\ ∀ v G' H',Ah G G' -> SA X.K G' H' O -> Is X.K G' (.tup xs) v -> Q v H') (ha G)
  (tb := λ σ H Q => ∃ G1,SA X.K G1 H O /\ AB X.K G1 σ ρ /\ ∀ v G' H',Ah G1 G' -> SA X.K G' H' O -> Is X.K G' (.int i) v -> Q v H') (λ pins s σ H Q I ⟨G1,q⟩ => hb G1 pins s σ H Q I q) I
  (R := λ x y H2 => ∃ G2,Ah G G2 /\ SA X.K G2 H2 O /\ Is X.K G2 (.tup xs) x /\ Is X.K G2 (.int i) y)
  ⟨h1,h2,λ v G1 H1 e1 s1 i1 => ⟨G1,s1,h2.ext e1,λ u G2 H2 e2 s2 i2 => ⟨G2,e1.trans e2,s2,i1.ext e2,i2⟩⟩⟩
  λ v u s2 x y H2 I2 rx ry ⟨G2,e2,s2',i1,i2⟩ => by
   obtain ⟨p,vs,rfl,q,r⟩ := Dy s2' i1
   cases i2
   obtain ⟨w,hw,iw⟩ := OE r hi
   exact VV a b pins s2 σ H2 _ _ v u Q I2 rx ry ⟨p,vs,i,w,rfl,rfl,q,hw,h3 w G2 H2 e2 s2' iw⟩ (hs _ _))
def Fi (xs : List D) (lo hi : Option Int) : List D := (xs.drop (HT.sIx xs.length 0 lo)).take (HT.sIx xs.length xs.length hi - HT.sIx xs.length 0 lo)
theorem Xs {xs : List D} {vs : List V} {K : PySem.W.Frag} {G : Wd} {lo hi : Option Int} (r : Al K G xs vs) : Al K G (Fi xs lo hi) (Fw vs lo hi) := by
 unfold Fi Fw
 rw [<- r.length]
 exact (r.drop _).take _
def Go (X : Cx) (ρ : Aj) (O : Ac) (e : Option Expr) (i : Option Int) : Prop :=
 ∀ G,PO X e (λ σ H Q => SA X.K G H O /\ AB X.K G σ ρ /\ ∀ G' H',Ah G G' -> SA X.K G' H' O -> Q i H')
theorem _root_.L2.PO.imp {X : Cx} {e : Option Expr} {t u : TO} (h : PO X e t) (k : ∀ σ H Q,u σ H Q -> t σ H Q) : PO X e u := λ pins s σ H Q I q => h pins s σ H Q I (k _ _ _ q)
theorem Gd : Go X ρ O none none := λ G => PO.imp Tl λ σ H Q ⟨h1,h2,h3⟩ => h3 G H (Ah.refl _) h1
theorem Gc {i : Int} (h : Ad X ρ O e (.int i)) : Go X ρ O (some e) (some i) := λ G => PO.imp (Tk (h G)) λ σ H Q ⟨h1,h2,h3⟩ => ⟨h1,h2,λ v G1 H1 e1 s1 i1 => by cases i1; exact ⟨i,rfl,h3 G1 H1 e1 s1⟩⟩
theorem KT {xs ys : List D} (hz : xs.length + ys.length <= sizeLine) : Bl X O (binaryOp .Add) (.lst xs) (.lst ys) (.lst (xs ++ ys)) :=
 .of Ub λ G v u H Q s h1 h2 k => by
  cases h1 with
  | lst g1 r1 =>
   cases h2 with
   | lst g2 r2 =>
    refine ⟨_,_,_,_,rfl,rfl,s.sub _ _ g1,s.sub _ _ g2,by rw [<- r1.length,<- r2.length]; exact hz,λ p hp => ?_⟩
    obtain ⟨e4,s4⟩ := s.laid (o := .lst _) hp
    exact k _ _ _ e4 s4 (.lst Bs ((r1.append r2).ext e4))
def B4 (X : Cx) (O : Ac) (f : Value) (ds : List D) (d : D) : Prop :=
 ∀ G,DP X f (λ vs H Q => SA X.K G H O /\ Al X.K G ds vs /\ ∀ w G' H',Ah G G' -> SA X.K G' H' O -> Is X.K G' d w -> Q w H')
theorem B4.of {f : Value} {r : List V -> Hp -> VK -> Prop} (ho : DP X f r)
  (k : ∀ G vs H Q,SA X.K G H O -> Al X.K G ds vs -> (∀ w G' H',Ah G G' -> SA X.K G' H' O -> Is X.K G' d w -> Q w H') -> r vs H Q) : B4 X O f ds d :=
 λ G pins s σ H xs us Q I r ⟨h1,h2,h3⟩ => ho pins s σ H xs us Q I r (k G _ _ _ h1 h2 h3)
theorem AW {id : String} (hm : X.mg x = none) (ha : Bx X ρ O (e :: es) ds) (hc : B4 X O (.builtin id) ds d) (hg : Gl X x := by rfl) (hv : bootBuiltins x = some (.builtin id) := by first | rfl | decide +kernel) (hn : x ≠ "__name__" := by decide) (hdb : (x == ("__debug__" : Str)) = false := by decide)
  (he : starEach (e :: es) X.env = (false,eval e X.env) :: starEach es X.env := by rfl) (hpl : (backTo pos (starEach es X.env)).any (·.1) = false := by rfl) : Ad X ρ O (.Call (.Name x p) (e :: es) [] pos) d := λ G =>
 PE.imp (NY (r := λ vs H Q => ∃ G1,SA X.K G1 H O /\ Al X.K G1 ds vs /\ ∀ w G' H',Ah G1 G' -> SA X.K G' H' O -> Is X.K G' d w -> Q w H') (λ pins s σ H xs us Q I r ⟨G1,q⟩ => hc G1 pins s σ H xs us Q I r q) hg hm hv (ha G) hn hdb he hpl)
  λ σ H Q ⟨h1,h2,h3⟩ => ⟨h1,h2,λ vs G1 H1 e1 s1 i1 => ⟨G1,s1,i1,λ w G2 H2 e2 s2 i2 => h3 w G2 H2 (e1.trans e2) s2 i2⟩⟩
theorem BW {T : String} (hm : X.mg x = none) (ha : Bx X ρ O (e :: es) ds) (hc : B4 X O (.type T) ds d) (hg : Gl X x := by rfl) (hv : bootBuiltins x = some (.type T) := by first | rfl | decide +kernel) (hn : x ≠ "__name__" := by decide) (hdb : (x == ("__debug__" : Str)) = false := by decide)
  (he : starEach (e :: es) X.env = (false,eval e X.env) :: starEach es X.env := by rfl) (hpl : (backTo pos (starEach es X.env)).any (·.1) = false := by rfl) : Ad X ρ O (.Call (.Name x p) (e :: es) [] pos) d := λ G =>
 PE.imp (NX (r := λ vs H Q => ∃ G1,SA X.K G1 H O /\ Al X.K G1 ds vs /\ ∀ w G' H',Ah G1 G' -> SA X.K G' H' O -> Is X.K G' d w -> Q w H') (λ pins s σ H xs us Q I r ⟨G1,q⟩ => hc G1 pins s σ H xs us Q I r q) hg hm hv (ha G) hn hdb he hpl)
  λ σ H Q ⟨h1,h2,h3⟩ => ⟨h1,h2,λ vs G1 H1 e1 s1 i1 => ⟨G1,s1,i1,λ w G2 H2 e2 s2 i2 => h3 w G2 H2 (e1.trans e2) s2 i2⟩⟩
theorem BY {xs : List D} (h : LT O d xs) : B4 X O (.builtin "len") [d] (.int xs.length) := .of XS λ G vs H Q s i k => by
 cases i with
 | cons i r =>
  cases r
  rcases h with h | rfl
  ·obtain ⟨p,vs,rfl,q,r⟩ := h.sq s i
   exact ⟨p,vs,rfl,.inl q,by rw [<- r.length]; exact k _ G H (Ah.refl _) s (.int _)⟩
  ·obtain ⟨p,vs,rfl,q,r⟩ := Dy s i
   exact ⟨p,vs,rfl,.inr q,by rw [<- r.length]; exact k _ G H (Ah.refl _) s (.int _)⟩
theorem BS {xs : List D} (h : LT O d xs) : B4 X O (.type "tuple") [d] (.tup xs) := .of XH λ G vs H Q s i k => by
 cases i with
 | cons i r =>
  cases r
  rcases h with h | rfl
  ·obtain ⟨p,vs,rfl,q,r⟩ := h.sq s i
   refine ⟨p,vs,rfl,.inl ⟨q,λ l hl => ?_⟩⟩
   obtain ⟨e4,s4⟩ := s.laid (o := .tup vs) hl
   exact k _ _ _ e4 s4 (.tup (Bc.of Bs) (r.ext e4))
  ·obtain ⟨p,vs,rfl,q,r⟩ := Dy s i
   exact ⟨p,vs,rfl,.inr ⟨q,k _ G H (Ah.refl _) s i⟩⟩
theorem X0 {xs : List D} (h : LT O d xs) : B4 X O (.type "list") [d] (.lst xs) := .of XQ λ G vs H Q s i k => by
 cases i with
 | cons i r =>
  cases r
  rcases h with h | rfl
  ·obtain ⟨p,vs,rfl,q,r⟩ := h.sq s i
   refine ⟨p,vs,rfl,.inl q,λ l hl => ?_⟩
   obtain ⟨e4,s4⟩ := s.laid (o := .lst vs) hl
   exact k _ _ _ e4 s4 (.lst Bs (r.ext e4))
  ·obtain ⟨p,vs,rfl,q,r⟩ := Dy s i
   refine ⟨p,vs,rfl,.inr q,λ l hl => ?_⟩
   obtain ⟨e4,s4⟩ := s.laid (o := .lst vs) hl
   exact k _ _ _ e4 s4 (.lst Bs (r.ext e4))
theorem Pz {i : Int} : B4 X O (.builtin "abs") [.int i] (.int (if i < 0 then -i else i)) := .of XW λ G vs H Q s h k => by
 cases h with | cons h r => cases r; cases h; exact ⟨i,rfl,k _ G H (Ah.refl _) s (.int _)⟩
theorem XZ {i j : Int} (hc : X.calm = true := by rfl) : B4 X O (.builtin "max") [.int i,.int j] (.int (if j > i then j else i)) := .of (XO hc) λ G vs H Q s h k => by
 cases h with | cons h r => cases r with | cons h' r => cases r; cases h; cases h'; exact ⟨i,j,rfl,k _ G H (Ah.refl _) s (.int _)⟩
theorem XY {i j : Int} (hc : X.calm = true := by rfl) : B4 X O (.builtin "min") [.int i,.int j] (.int (if j < i then j else i)) := .of (XM hc) λ G vs H Q s h k => by
 cases h with | cons h r => cases r with | cons h' r => cases r; cases h; cases h'; exact ⟨i,j,rfl,k _ G H (Ah.refl _) s (.int _)⟩
theorem Px {b : Bool} : B4 X O (.type "int") [.bl b] (.int (if b then 1 else 0)) := .of XT λ G vs H Q s h k => by
 cases h with | cons h r => cases r; cases h; exact .inr ⟨b,rfl,k _ G H (Ah.refl _) s (.int _)⟩
abbrev AQ := List D -> Ac -> (D -> Ac -> Prop) -> Prop
def AG (K : PySem.W.Frag) (sp : AQ) : Sp := λ vs H Q _ => ∃ G O ds R,SA K G H O /\ Al K G ds vs /\ sp ds O R /\ ∀ v d O' G' H',Ah G G' -> SA K G' H' O' -> Is K G' d v -> R d O' -> Q v H'
structure Am (P : Program) (w : World) (K : PySem.W.Frag) (mg : Str -> Option Value) (base : Heap) (k : Nat) (x : Str) (sp : AQ) : Prop where
 ex : ∃ f fd ps,AF P w K mg base AK k f fd ps (AG K sp) /\ mg x = some (.ref f) /\ PySem.W.keepIn K (.ref f) = true /\ Binds K fd ps []
theorem Lg {k : Nat} {sp : AQ} (F : Am X.prog X.w X.K X.mg X.base k x sp) (hr : AN k X.A) (ha : EY X ρ O (e :: es) λ ds O1 => sp ds O1 R) (hg : Gl X x := by rfl) (hdb : (x == ("__debug__" : Str)) = false := by decide)
  (he : starEach (e :: es) X.env = (false,eval e X.env) :: starEach es X.env := by rfl) (hpl : (backTo pos (starEach es X.env)).any (·.1) = false := by rfl) : Ev X ρ O (.Call (.Name x p) (e :: es) [] pos) R := λ G => by
 obtain ⟨f,fd,ps,h1,h2,h3,h4⟩ := F.ex
 refine PE.imp (TR h1 hr hg h2 h3 h4 .nil FX (ha G) hdb he hpl) λ σ H Q ⟨q1,q2,q3⟩ => ⟨q1,q2,λ vs ds O1 G1 H1 e1 s1 i1 r1 => ?_⟩
 show AG X.K sp (vs ++ []) H1 Q E0
 rw [List.append_nil]
 exact ⟨G1,O1,ds,R,s1,i1,r1,λ v d O' G' H' e2 s2 i2 r2 => q3 v d O' G' H' (e1.trans e2) s2 i2 r2⟩
theorem Ce {k : Nat} {sp : AQ} (F : Am X.prog X.w X.K X.mg X.base k x sp) (hr : AN k X.A) (ha : Bx X ρ O (e :: es) ds) (hs : sp ds O R) (hg : Gl X x := by rfl) (hdb : (x == ("__debug__" : Str)) = false := by decide)
  (he : starEach (e :: es) X.env = (false,eval e X.env) :: starEach es X.env := by rfl) (hpl : (backTo pos (starEach es X.env)).any (·.1) = false := by rfl) : Ev X ρ O (.Call (.Name x p) (e :: es) [] pos) R :=
 Lg F hr (ha.as hs) hg hdb he hpl
def Ax (f : List D -> D -> Prop) : AQ := λ ds O R => ∃ d,f ds d /\ R d O
theorem AC {k : Nat} {f : List D -> D -> Prop} (F : Am X.prog X.w X.K X.mg X.base k x (Ax f)) (hr : AN k X.A) (ha : Bx X ρ O (e :: es) ds) (hs : f ds d) (hg : Gl X x := by rfl) (hdb : (x == ("__debug__" : Str)) = false := by decide)
  (he : starEach (e :: es) X.env = (false,eval e X.env) :: starEach es X.env := by rfl) (hpl : (backTo pos (starEach es X.env)).any (·.1) = false := by rfl) : Ad X ρ O (.Call (.Name x p) (e :: es) [] pos) d :=
 (Ce F hr ha ⟨d,hs,rfl,rfl⟩ hg hdb he hpl).evp
end
structure Bf where
 nx : Aj -> Ac -> Prop
 rt : D -> Ac -> Prop
 bk : Aj -> Ac -> Prop := λ _ _ => False
 ct : Aj -> Ac -> Prop := λ _ _ => False
def Gm (K : PySem.W.Frag) (G : Wd) (N : Aj -> Ac -> Prop) (n : L2.St -> Hp -> Prop) : Prop := ∀ σ ρ O G' H,Ah G G' -> SA K G' H O -> AB K G' σ ρ -> N ρ O -> n σ H
structure DO (K : PySem.W.Frag) (G : Wd) (P : Bf) (E : FI) : Prop where
 nx : Gm K G P.nx E.nx
 rt : ∀ v d O G' H,Ah G G' -> SA K G' H O -> Is K G' d v -> P.rt d O -> E.rt v H
 bk : Gm K G P.bk E.bk
 ct : Gm K G P.ct E.ct
theorem Gm.ext {K : PySem.W.Frag} {G G' : Wd} {N : Aj -> Ac -> Prop} {n : L2.St -> Hp -> Prop} (h : Gm K G N n) (e : Ah G G') : Gm K G' N n := λ σ ρ O G2 H e2 => h σ ρ O G2 H (e.trans e2)
theorem DO.ext {K : PySem.W.Frag} {G G' : Wd} {P : Bf} {E : FI} (h : DO K G P E) (e : Ah G G') : DO K G' P E := ⟨h.nx.ext e,λ v d O G2 H e2 => h.rt v d O G2 H (e.trans e2),h.bk.ext e,h.ct.ext e⟩
def Ex (X : Cx) (ρ : Aj) (O : Ac) (st : Stmt) (P : Bf) : Prop := ∀ G,PS X st (λ E σ H => SA X.K G H O /\ AB X.K G σ ρ /\ DO X.K G P E)
def Cw (X : Cx) (ρ : Aj) (O : Ac) (st : List Stmt) (P : Bf) : Prop := ∀ G,PSs X st (λ E σ H => SA X.K G H O /\ AB X.K G σ ρ /\ DO X.K G P E)
section
variable {X : Cx} {ρ : Aj} {O : Ac} {e a b c : Expr} {es : List Expr} {d da db : D} {ds : List D} {R : D -> Ac -> Prop} {pos p : Pos} {x : Str} {st : Stmt} {rest body orelse : List Stmt} {P : Bf}
theorem Au (h : P.nx ρ O) : Cw X ρ O [] P := λ G => PSs.imp S8 λ E σ H ⟨h1,h2,h3⟩ => h3.nx σ ρ O G H (Ah.refl _) h1 h2 h
theorem Af (h : Ex X ρ O st { P with nx := λ ρ' O' => Cw X ρ' O' rest P }) : Cw X ρ O (st :: rest) P := λ G =>
 PSs.imp (S9 (h G) (u := λ E σ H => ∃ G1 ρ1 O1,SA X.K G1 H O1 /\ AB X.K G1 σ ρ1 /\ Cw X ρ1 O1 rest P /\ DO X.K G1 P E) (λ pins s σ H E I ⟨G1,ρ1,O1,q1,q2,q3,q4⟩ => q3 G1 pins s σ H E I ⟨q1,q2,q4⟩)) λ E σ H ⟨h1,h2,h3⟩ =>
  ⟨h1,h2,⟨λ σ1 ρ1 O1 G1 H1 e1 s1 n1 q1 => ⟨G1,ρ1,O1,s1,n1,q1,h3.ext e1⟩,h3.rt,h3.bk,h3.ct⟩⟩
theorem Fb (M : Aj -> Ac -> Prop) (h : Ex X ρ O st { P with nx := M }) (k : ∀ ρ' O',M ρ' O' -> Cw X ρ' O' rest P) : Cw X ρ O (st :: rest) P := Af λ G =>
 PS.imp (h G) λ E σ H ⟨h1,h2,h3⟩ => ⟨h1,h2,⟨λ σ1 ρ1 O1 G1 H1 e1 s1 n1 q1 => h3.nx σ1 ρ1 O1 G1 H1 e1 s1 n1 (k _ _ q1),h3.rt,h3.bk,h3.ct⟩⟩
theorem AM (h : Ev X ρ O e P.rt) : Ex X ρ O (.Return (some e) pos) P := λ G => PS.imp (Td (h G)) λ E σ H ⟨h1,h2,h3⟩ => ⟨h1,h2,λ v d O' G' H' e1 s1 i1 r1 => h3.rt v d O' G' H' e1 s1 i1 r1⟩
theorem A3 (h : Ev X ρ O e λ _ O' => P.nx ρ O') (hs : swapsWith e none pos.line X.env = pure false := by rfl) : Ex X ρ O (.Expr e pos) P := λ G => PS.imp (KK (h G) hs) λ E σ H ⟨h1,h2,h3⟩ =>
 ⟨h1,h2,λ v d O' G' H' e1 s1 i1 r1 => h3.nx σ ρ O' G' H' e1 s1 (h2.ext e1) r1⟩
theorem AR {k : Bool} (hc : AY X ρ O c k) (h1 : k = true -> Cw X ρ O body P) (h2 : k = false -> Cw X ρ O orelse P) : Ex X ρ O (.If c body orelse pos) P := λ G =>
 PS.imp (NN (hc G) (t := λ E σ H => ∃ G1,k = true /\ SA X.K G1 H O /\ AB X.K G1 σ ρ /\ DO X.K G1 P E) (λ pins s σ H E I ⟨G1,z,q⟩ => h1 z G1 pins s σ H E I q)
  (u := λ E σ H => ∃ G1,k = false /\ SA X.K G1 H O /\ AB X.K G1 σ ρ /\ DO X.K G1 P E) (λ pins s σ H E I ⟨G1,z,q⟩ => h2 z G1 pins s σ H E I q)) λ E σ H ⟨q1,q2,q3⟩ =>
  ⟨q1,q2,λ G' H' e1 s1 => by
   cases k with
   | true => exact K3 ⟨G',rfl,s1,q2.ext e1,q3.ext e1⟩
   | false => exact K4 ⟨G',rfl,s1,q2.ext e1,q3.ext e1⟩⟩
def Tg (X : Cx) (tg : Expr) (d : D) (ρ ρ' : Aj) : Prop := ∀ G,PG X tg (λ v σ H Q => Is X.K G d v /\ Bu G.g H /\ AB X.K G σ ρ /\ ∀ σ',AB X.K G σ' ρ' -> Q σ' H)
def II (X : Cx) (tg : List Expr) (ds : List D) (ρ ρ' : Aj) : Prop := ∀ G,GX X tg (λ vs σ H Q => Al X.K G ds vs /\ Bu G.g H /\ AB X.K G σ ρ /\ ∀ σ',AB X.K G σ' ρ' -> Q σ' H)
theorem AE (i : Nat) (hN : X.N.Nodup) (hi : X.N[i]? = some x := by rfl) (hx : Et X.env.scope x := by first | exact Or.inl rfl | exact Or.inr rfl) (hf : X.fn x = true \/ X.env.scope.names.lookup x = some .local := by first | exact .inl rfl | exact .inr rfl | assumption) : Tg X (.Name x pos) d ρ (ρ.set i (some d)) := λ G pins s σ H v u Q I r ⟨h1,h2,h3,h4⟩ =>
 TB hN hi hx hf pins s σ H v u Q I r (h4 _ (h3.set i h1))
theorem Df : II X [] [] ρ ρ := λ G pins s σ H vs us Q I r ⟨h1,h2,h3,h4⟩ => Tw pins s σ H vs us Q I r ⟨by cases h1; rfl,h4 _ h3⟩
theorem BP {ρ1 ρ2 : Aj} (h : Tg X e d ρ ρ1) (k : II X es ds ρ1 ρ2) (hs : (assignEach (e :: es) X.env).map (·.2) = assign e X.env :: (assignEach es X.env).map (·.2) := by rfl) : II X (e :: es) (d :: ds) ρ ρ2 := λ G pins s σ H vs us Q I r ⟨h1,h2,h3,h4⟩ => by
 cases h1 with
 | cons i1 i2 =>
  exact Tx (h G) (k G) hs pins s σ H _ us Q I r ⟨_,_,rfl,i1,h2,h3,λ σ' n' => ⟨i2,h2,n',h4⟩⟩
theorem Dg {ρ1 : Aj} {k : Nat} (h : II X es ds ρ ρ1) (hc : X.calm = true := by rfl) (hn : (assignEach es X.env).length = ds.length := by rfl) (hst : (assignEach es X.env).findIdx? (·.1) = none := by rfl) : Tg X (.Tuple es k pos) (.tup ds) ρ ρ1 := λ G pins s σ H v u Q I r ⟨h1,h2,h3,h4⟩ => by
 cases h1 with
 | tup q1 q2 =>
  exact Tz hc (h G) hn hst pins s σ H _ u Q I r ⟨_,_,rfl,Dh h2 q1,by rw [<- q2.length],q2,h2,h3,h4⟩
theorem A5 (i : Nat) (he : Ev X ρ O e λ d O' => P.nx (ρ.set i (some d)) O') (hN : X.N.Nodup) (hi : X.N[i]? = some x := by rfl) (hx : Et X.env.scope x := by first | exact Or.inl rfl | exact Or.inr rfl) {p : Pos}
  (hs : swapsWith e (some (.Name x p)) pos.line X.env = pure false := by rfl) (hf : X.fn x = true \/ X.env.scope.names.lookup x = some .local := by first | exact .inl rfl | exact .inr rfl | assumption) : Ex X ρ O (.Assign [.Name x p] e pos) P := λ G =>
 PS.imp (Tc hN hi hx (he G) hs hf) λ E σ H ⟨h1,h2,h3⟩ => ⟨h1,h2,λ v d O' G' H' e1 s1 i1 r1 => h3.nx _ _ O' G' H' e1 s1 ((h2.ext e1).set i i1) r1⟩
theorem Qn {tg : Expr} {ρ1 : Aj} (he : Ad X ρ O e d) (ht : Tg X tg d ρ ρ1) (h : P.nx ρ1 O) (hs : swapsWithSole [tg] e pos.line X.env = pure false := by rfl) (hw : swappedStores [tg] e X.env = pure none := by rfl)
  (h1 : (assignEach [tg] X.env).map (·.2) = [assign tg X.env] := by rfl) : Ex X ρ O (.Assign [tg] e pos) P := λ G =>
 PS.imp (NO (he G) (g := λ v σ H Q => ∃ G1,Is X.K G1 d v /\ Bu G1.g H /\ AB X.K G1 σ ρ /\ ∀ σ',AB X.K G1 σ' ρ1 -> Q σ' H) (λ pins s σ H v u Q I r ⟨G1,q⟩ => ht G1 pins s σ H v u Q I r q) hs hw h1) λ E σ H ⟨q1,q2,q3⟩ =>
  ⟨q1,q2,λ v G' H' e1 s1 i1 => ⟨G',i1,s1.sub,q2.ext e1,λ σ' n' => q3.nx _ _ O G' H' e1 s1 n' h⟩⟩
theorem L3 {q : Nat} {xs : List D} {apos cpos : Pos} (ho : Ad X ρ O a (.ptr q)) (hq : O[q]? = some (some (.lst xs))) (he : Ad X ρ O e d) (hz : xs.length < sizeLine) (h : P.nx ρ (O.set q (some (.lst (xs ++ [d])))))
  (hbase : attributeBase a ("append" : Str) X.env (eval a X.env) = eval a X.env := by rfl) (hline : (apos.endLine == cpos.line) = true := by rfl) (hst : starEach [e] X.env = [(false,eval e X.env)] := by rfl)
  (hsw : swapsWith (.Call (.Attribute a ("append" : Str) apos) [e] [] cpos) none pos.line X.env = pure false := by rfl) : Ex X ρ O (.Expr (.Call (.Attribute a ("append" : Str) apos) [e] [] cpos) pos) P := λ G =>
 PS.imp (KK (N0 PySem.F.plainAttrs_list PySem.F.slot_list_append PySem.F.type_list_append Op (ho G)
  (FY (te := λ σ H Q => ∃ G1,SA X.K G1 H O /\ AB X.K G1 σ ρ /\ ∀ v G' H',Ah G1 G' -> SA X.K G' H' O -> Is X.K G' d v -> Q v H') (λ pins s σ H Q I ⟨G1,q⟩ => he G1 pins s σ H Q I q) HL hst) hbase
  (by rw [hst]; rfl) hline hst (by rfl)) hsw) λ E σ H ⟨q1,q2,q3⟩ => ⟨q1,q2,λ v G1 H1 e1 s1 i1 => by
   cases i1 with
   | ptr _ ha =>
   obtain ⟨a1,g0,g1,vs,g2,g3⟩ := s1.mt q _ hq
   obtain rfl := Option.some.inj (ha.symm.trans g0)
   refine ⟨.inl ⟨rfl,vs,Be.of g2⟩,G1,s1,q2.ext e1,λ w G2 H2 e2 s2 i2 => ?_⟩
   obtain ⟨a2,g7,g4,us,g5,g6⟩ := s2.mt q _ hq
   obtain rfl := Option.some.inj ((e2.at g0).symm.trans g7)
   refine ⟨_,us,w,rfl,rfl,g5,by rw [<- g6.length]; exact hz,?_⟩
   exact q3.nx σ ρ _ G2 _ (e1.trans e2) (s2.put (m' := .lst (xs ++ [d])) hq g7 ⟨_,Bs,g6.append (.cons i2 .nil)⟩) (q2.ext (e1.trans e2)) h⟩
structure Dt (K : PySem.W.Frag) (G : Wd) (J : It) (xs : List D) : Prop where
 go : ∀ i H,Bu G.g H -> i < xs.length -> J.go i H
 stop : ∀ i H,Bu G.g H -> xs.length <= i -> J.stop i H
 yld : ∀ i v H H' G2 O2,Ah G G2 -> SA K G2 H O2 -> J.yld i H v H' -> i < xs.length -> ∃ x G3,xs[i]? = some x /\ Ah G2 G3 /\ SA K G3 H' O2 /\ Is K G3 x v
def Cn (X : Cx) (ρ : Aj) (O : Ac) (tg iter : Expr) (xs : List D) : Prop :=
 ∀ G,PI X tg iter (λ σ H R => SA X.K G H O /\ AB X.K G σ ρ /\ ∀ J G' H',Ah G G' -> SA X.K G' H' O -> Dt X.K G' J xs -> R J H')
theorem _root_.L2.PI.imp {X : Cx} {tg iter : Expr} {t u : TI} (h : PI X tg iter t) (k : ∀ σ H R,u σ H R -> t σ H R) : PI X tg iter u := λ pins s σ H R I q => h pins s σ H R I (k _ _ _ q)
theorem OG {K : PySem.W.Frag} {G : Wd} {q : Addr} {vs : List V} {xs : List D} (h1 : Be K G.g q vs) (r : Al K G xs vs) : Dt K G (LM K q) xs where
 go := λ i H e hi => by
  obtain ⟨v,hv,_⟩ := r.get (i := i) (d := xs[i]) (by simp [hi])
  exact ⟨vs,v,e.seq h1,hv⟩
 stop := λ i H e hi => ⟨vs,e.seq h1,by rw [<- r.length]; exact hi⟩
 yld := λ i v H H' G2 O2 e s y hi => by
  obtain ⟨rfl,y⟩ := y
  obtain ⟨x,hx,ix⟩ := r.getV (y vs ((e.g.trans s.sub).seq h1))
  exact ⟨x,G2,hx,Ah.refl _,s,ix.ext e⟩
theorem VZ {K : PySem.W.Frag} {G : Wd} {q : Addr} {vs : List V} {xs : List D} (h1 : Bc K G.g q vs) (r : Al K G xs vs) : Dt K G (LL K q) xs where
 go := λ i H e hi => by
  obtain ⟨v,hv,_⟩ := r.get (i := i) (d := xs[i]) (by simp [hi])
  exact ⟨vs,v,Dh e h1,hv⟩
 stop := λ i H e hi => ⟨vs,Dh e h1,by rw [<- r.length]; exact hi⟩
 yld := λ i v H H' G2 O2 e s y hi => by
  obtain ⟨rfl,y⟩ := y
  obtain ⟨x,hx,ix⟩ := r.getV (y vs (Dh (e.g.trans s.sub) h1))
  exact ⟨x,G2,hx,Ah.refl _,s,ix.ext e⟩
theorem Xk {tg : Expr} {xs : List D} (h : Ad X ρ O e (.lst xs)) : Cn X ρ O tg e xs := λ G => PI.imp (NR (h G)) λ σ H R ⟨h1,h2,h3⟩ => ⟨h1,h2,λ v G1 H1 e1 s1 i1 => by
 cases i1 with
 | lst q r => exact ⟨_,rfl,⟨_,Be.of (s1.sub _ _ q)⟩,h3 _ G1 H1 e1 s1 (OG (Be.of q) r)⟩⟩
theorem Xi {tg : Expr} {xs : List D} (h : Ad X ρ O e (.scr xs)) : Cn X ρ O tg e xs := λ G => PI.imp (NR (h G)) λ σ H R ⟨h1,h2,h3⟩ => ⟨h1,h2,λ v G1 H1 e1 s1 i1 => by
 cases i1 with
 | scr q r => exact ⟨_,rfl,⟨_,s1.sub.seq q⟩,h3 _ G1 H1 e1 s1 (OG q r)⟩⟩
theorem Xh {tg : Expr} {xs : List D} (h : Ad X ρ O e (.tup xs)) : Cn X ρ O tg e xs := λ G => PI.imp (Tt (h G)) λ σ H R ⟨h1,h2,h3⟩ => ⟨h1,h2,λ v G1 H1 e1 s1 i1 => by
 cases i1 with
 | tup q r => exact ⟨_,rfl,⟨_,Dh s1.sub q⟩,h3 _ G1 H1 e1 s1 (VZ q r)⟩⟩
def Eb (lo : Int) (n : Nat) : List D := (List.range n).map λ i => .int (lo + (i : Nat))
theorem EF {lo : Int} {n : Nat} : (Eb lo n).length = n := by simp [Eb]
theorem NJ {lo : Int} {n i : Nat} (h : i < n) : (Eb lo n)[i]? = some (.int (lo + (i : Nat))) := by simp [Eb,h]
theorem HI {lo : Int} {n i : Nat} {x : D} (h : (Eb lo n)[i]? = some x) : i < n /\ x = .int (lo + (i : Nat)) := by
 have hi : i < n := by
  have := (List.getElem?_eq_some_iff.mp h).1
  rw [EF] at this
  exact this
 rw [NJ hi] at h
 exact ⟨hi,(Option.some.inj h).symm⟩
theorem OF {K : PySem.W.Frag} {G : Wd} {lo : Int} {n : Nat} : Dt K G (GY lo n) (Eb lo n) where
 go := λ i H _ hi => by rw [EF] at hi; exact hi
 stop := λ i H _ hi => by rw [EF] at hi; exact hi
 yld := λ i v H H' G2 O2 e s y hi => by
  obtain ⟨rfl,rfl⟩ := y
  rw [EF] at hi
  exact ⟨_,G2,NJ hi,Ah.refl _,s,.int _⟩
theorem Ge {tg : Expr} {n : Int} (h : Ad X ρ O e (.int n)) (hm : X.mg "range" = none) (h1 : -(2 ^ 62) <= n) (h2 : n < 2 ^ 62) (hg : Gl X "range" := by rfl) (hs : starEach [e] X.env = [(false,eval e X.env)] := by rfl) : Cn X ρ O tg (.Call (.Name "range" p) [e] [] pos) (Eb 0 n.toNat) := λ G =>
 PI.imp (Tv hg hm (Ab h Ae hs G) hs) λ σ H R ⟨q1,q2,q3⟩ => ⟨q1,q2,λ vs G1 H1 e1 s1 i1 => by
  cases i1 with | cons i r => cases r; cases i; exact ⟨n,rfl,h1,h2,q3 _ G1 H1 e1 s1 OF⟩⟩
theorem Xj {tg : Expr} {m n : Int} (ha : Ad X ρ O a (.int m)) (hb : Ad X ρ O b (.int n)) (hm : X.mg "range" = none) (h1 : -(2 ^ 62) <= m) (h2 : m < 2 ^ 62) (h3 : -(2 ^ 62) <= n) (h4 : n < 2 ^ 62) (hg : Gl X "range" := by rfl)
  (hs : starEach [a,b] X.env = [(false,eval a X.env),(false,eval b X.env)] := by rfl) (hs2 : starEach [b] X.env = [(false,eval b X.env)] := by rfl) : Cn X ρ O tg (.Call (.Name "range" p) [a,b] [] pos) (Eb m (n - m).toNat) := λ G =>
 PI.imp (Tu hg hm (Ab ha (Ab hb Ae hs2) (by rw [hs,hs2]) G) hs hs2) λ σ H R ⟨q1,q2,q3⟩ => ⟨q1,q2,λ vs G1 H1 e1 s1 i1 => by
  cases i1 with | cons i r => cases r with | cons i' r => cases r; cases i; cases i'; exact ⟨m,n,rfl,⟨h1,h2,h3,h4⟩,q3 _ G1 H1 e1 s1 OF⟩⟩
theorem C8 {tg iter : Expr} {body : List Stmt} {xs : List D} (hi : Cn X ρ O tg iter xs) (inv : Nat -> Aj -> Ac -> Prop) (h0 : inv 0 ρ O)
  (hs : ∀ i x ρ' O',xs[i]? = some x -> inv i ρ' O' -> ∃ ρ1,Tg X tg x ρ' ρ1 /\ Cw X ρ1 O' body { P with nx := inv (i + 1),ct := inv (i + 1),bk := P.nx }) (hd : ∀ ρ' O',inv xs.length ρ' O' -> P.nx ρ' O')
  (hp : PassesOwn (model X.prog X.w) X.A X.env X.xe := by exact PassesOwn.never) (hc : X.calm = true := by rfl) (hf : ∀ x,foldedSetIterable iter X.env x = pure x := by intro _; rfl) : Ex X ρ O (.For tg iter body [] pos) P := λ G =>
 PS.imp (Te hp hc (hi G) (g := λ v σ H Q => ∃ G1 ρ1 ρ2 x,Tg X tg x ρ1 ρ2 /\ Is X.K G1 x v /\ Bu G1.g H /\ AB X.K G1 σ ρ1 /\ ∀ σ',AB X.K G1 σ' ρ2 -> Q σ' H) (λ pins s σ H v u Q I r ⟨G1,ρ1,ρ2,x,q,q'⟩ => q G1 pins s σ H v u Q I r q')
  (tb := λ E σ H => ∃ G1 ρ1 O1 P1,SA X.K G1 H O1 /\ AB X.K G1 σ ρ1 /\ Cw X ρ1 O1 body P1 /\ DO X.K G1 P1 E) (λ pins s σ H E I ⟨G1,ρ1,O1,P1,q1,q2,q3,q4⟩ => q3 G1 pins s σ H E I ⟨q1,q2,q4⟩) hf) λ E σ H ⟨q1,q2,q3⟩ => by
  refine ⟨q1,q2,λ J G1 H1 e1 s1 Y => ?_⟩
  refine ⟨λ i m σ H => ∃ G2 ρ2 O2,Ah G1 G2 /\ SA X.K G2 H O2 /\ AB X.K G2 σ ρ2 /\ inv i ρ2 O2 /\ i <= xs.length /\ m = xs.length - i,⟨_,G1,ρ,O,Ah.refl _,s1,q2.ext e1,h0,Nat.zero_le _,rfl⟩,?_⟩
  rintro i m σ2 H2 ⟨G2,ρ2,O2,e2,s2,n2,v2,l2,rfl⟩
  by_cases hlt : i < xs.length
  ·refine .inr ⟨Y.go i H2 (e2.g.trans s2.sub) hlt,λ σ' H' => ∃ G3 ρ3 O3,Ah G1 G3 /\ SA X.K G3 H' O3 /\ AB X.K G3 σ' ρ3 /\ inv (i + 1) ρ3 O3,λ σ' H' ⟨G3,ρ3,O3,e3,s3,n3,v3⟩ => ⟨xs.length - (i + 1),by omega,G3,ρ3,O3,e3,s3,n3,v3,hlt,rfl⟩,λ v H3 y => ?_⟩
   obtain ⟨x,G3,hx,e3,s3,i3⟩ := Y.yld i v H2 H3 G2 O2 e2 s2 y hlt
   obtain ⟨ρ3,t3,b3⟩ := hs i x ρ2 O2 hx v2
   have e13 : Ah G1 G3 := e2.trans e3
   refine ⟨G3,ρ2,ρ3,x,t3,i3,s3.sub,n2.ext e3,λ σ' n' => ⟨G3,ρ3,O2,_,s3,n',b3,⟨λ σ4 ρ4 O4 G4 H4 e4 s4 n4 q => ⟨G4,ρ4,O4,e13.trans e4,s4,n4,q⟩,λ v d O4 G4 H4 e4 s4 i4 r => q3.rt v d O4 G4 H4 (e1.trans (e13.trans e4)) s4 i4 r,
    λ σ4 ρ4 O4 G4 H4 e4 s4 n4 q => q3.nx σ4 ρ4 O4 G4 H4 (e1.trans (e13.trans e4)) s4 n4 q,λ σ4 ρ4 O4 G4 H4 e4 s4 n4 q => ⟨G4,ρ4,O4,e13.trans e4,s4,n4,q⟩⟩⟩⟩
  ·have ei : i = xs.length := by omega
   subst ei
   exact .inl ⟨Y.stop _ H2 (e2.g.trans s2.sub) (Nat.le_refl _),q3.nx σ2 ρ2 O2 G2 H2 (e1.trans e2) s2 n2 (hd _ _ v2)⟩
end
def FL (N : List Str) (ds : List D) : Aj := ds.map some ++ List.replicate (N.length - ds.length) none
section
variable {P : Program} {w : World} {K : PySem.W.Frag} {mg : Str -> Option Value} {base : Heap}
theorem Mu {G : Wd} {N : List Str} {ds : List D} {vs : List V} (r : Al K G ds vs) : AB K G (L2.start N vs) (FL N ds) := by
 refine ⟨by unfold L2.start FL; simp [r.length],λ i d h => ?_⟩
 unfold FL at h
 by_cases hi : i < ds.length
 ·rw [List.getElem?_append_left (by simpa using hi),List.getElem?_map] at h
  cases q : ds[i]? with
  | none => rw [q] at h; cases h
  | some d' =>
   rw [q] at h; cases h
   obtain ⟨v,hv,iv⟩ := r.get q
   refine ⟨v,?_,iv⟩
   unfold L2.start
   rw [List.getElem?_append_left (by rw [List.length_map,<- r.length]; exact hi),List.getElem?_map,hv]
   rfl
 ·rw [List.getElem?_append_right (by simpa using hi),List.getElem?_replicate] at h
  split at h <;> cases h
theorem Bg {x qual : Str} {st : Stmt} {f : Addr} {fd : FuncData} {N ps : List Str} {k : Nat} {sp : AQ} (F : Aw K x qual st f fd) (S : AD N ps (Ar st))
  (len : ∀ ds O R,sp ds O R -> ds.length = ps.length)
  (hbody : ∀ (cdv : Value) (A : Around) (outer : List Env) (s : Shared) (H : Hp) (E : XK) (ds : List D) (O : Ac) (R : D -> Ac -> Prop),AN k (A.deeper (envOfC qual (Ar st) s.heap.objs.size f cdv)) -> sp ds O R ->
   Cw (Ep AK P w K mg base N qual (Ar st) f cdv A outer s H E).nox (FL N ds) O (CK st) { nx := λ _ O' => R .non O',rt := R }) : AF P w K mg base AK (k + 1) f fd ps (AG K sp) := by
 refine F.ok S (λ vs H Q E h => ?_) (λ cdv A outer s H vs Q E hr h => ?_)
 ·obtain ⟨G,O,ds,R,h1,h2,h3,h4⟩ := h
  rw [<- h2.length]
  exact len _ _ _ h3
 ·obtain ⟨G,O,ds,R,h1,h2,h3,h4⟩ := h
  refine ⟨_,hbody cdv A outer s H E ds O R hr h3 G,h1,Mu h2,⟨λ σ ρ O' G' H' e1 s1 n1 q => h4 _ _ O' G' H' e1 s1 .non q,λ v d O' G' H' e1 s1 i1 q => h4 v d O' G' H' e1 s1 i1 q,λ σ ρ O' G' H' e1 s1 n1 q => q.elim,λ σ ρ O' G' H' e1 s1 n1 q => q.elim⟩⟩
theorem A7 {x qual : Str} {st : Stmt} {f : Addr} {fd : FuncData} {N ps : List Str} {k : Nat} {sp : AQ} (F : Aw K x qual st f fd) (S : AD N ps (Ar st)) (hm : mg x = some (.ref f)) (hb : Binds K fd ps [])
  (len : ∀ ds O R,sp ds O R -> ds.length = ps.length)
  (hbody : ∀ (cdv : Value) (A : Around) (outer : List Env) (s : Shared) (H : Hp) (E : XK) (ds : List D) (O : Ac) (R : D -> Ac -> Prop),AN k (A.deeper (envOfC qual (Ar st) s.heap.objs.size f cdv)) -> sp ds O R ->
   Cw (Ep AK P w K mg base N qual (Ar st) f cdv A outer s H E).nox (FL N ds) O (CK st) { nx := λ _ O' => R .non O',rt := R }) : Am P w K mg base (k + 1) x sp :=
 ⟨f,fd,ps,Bg F S len hbody,hm,F.kp,hb⟩
end
def Gw : AQ := λ ds O R => ∃ ns : List Int,ds = [.scr (ns.map D.int)] /\ ns.length <= 63 /\ R (.bl true) O
theorem VM {K : PySem.W.Frag} {H : Hp} {a : Addr} {ns : List Int} (hl : ns.length <= 63) (hS : Be K H a (ns.map V.int)) : AG K Gw [.ref a] H (λ v _ => v = .bl true) λ _ _ _ => False :=
 ⟨⟨H,[]⟩,[],[.scr (ns.map D.int)],λ d _ => d = .bl true,⟨Bu.refl _,rfl,List.nodup_nil,λ a h => absurd h List.not_mem_nil,λ n m h => by cases h⟩,.cons (.scr hS Al.ints) .nil,⟨ns,rfl,hl,rfl⟩,λ v d O' G' H' _ _ i r => by subst r; cases i; rfl⟩
section
variable {X : Cx} {ρ : Aj} {O : Ac} {e a b c : Expr} {es : List Expr} {d da db : D} {ds : List D} {R : D -> Ac -> Prop} {pos p : Pos} {x : Str}
theorem DF {U : String} (hm : X.mg x = none) (hg : Gl X x := by rfl) (hv : bootBuiltins x = some (.type U) := by first | rfl | decide +kernel) (hn : x ≠ "__name__" := by decide) (hd : (x == ("__debug__" : Str)) = false := by decide) : Ad X ρ O (.Name x p) (.ty U) := λ G =>
 PE.imp (TU (v := .ty U) hg hm hv rfl hn hd) λ σ H Q ⟨h1,h2,h3⟩ => h3 _ G H (Ah.refl _) h1 (.ty U)
def tyD : D -> Option String
 | .non => some "NoneType" | .bl _ => some "bool" | .int _ => some "int" | .str _ => some "str" | .tup _ => some "tuple" | .lst _ => some "list" | .scr _ => some "list" | .ptr _ => none | .ty _ => none | .fn _ => none | .dct _ _ => some "dict"
theorem X1 {T U : String} {k : Bool} (ht : tyD d = some T) (hk : ∀ K,PySem.W.kitOne K (.type T) (.type U) = some k) : B4 X O (.builtin "isinstance") [d,.ty U] (.bl k) := λ G pins s σ H xs us Q I r ⟨h1,h2,h3⟩ => by
 cases h2 with
 | cons i r2 =>
  cases r2 with
  | cons i' r3 =>
   cases r3
   cases i'
   obtain ⟨u,u',rfl,r1,r2⟩ := Fd r
   cases r2
   have fin : ∀ tk,EP X pins σ Q (.bool k) { s with toks := tk } := λ tk => ⟨.bl k,H,I.tok tk,rfl,h3 _ G H (Ah.refl _) h1 (.bl k)⟩
   cases i with
   | non => cases ht; cases r1; exact PySem.W.kia_one PySem.W.kitx_none I.kIn True.intro (hk _) (λ z => nomatch z) fin
   | bl y => cases ht; cases r1; exact PySem.W.kia_one PySem.W.kitx_bool I.kIn True.intro (hk _) (λ z => nomatch z) fin
   | int i => cases ht; obtain ⟨t,rfl⟩ := r1; exact PySem.W.kia_one PySem.W.kitx_int I.kIn True.intro (hk _) (λ z => nomatch z) fin
   | str y => cases ht; obtain ⟨t,rfl⟩ := r1; exact PySem.W.kia_one PySem.W.kitx_str I.kIn True.intro (hk _) (λ z => nomatch z) fin
   | tup q1 q2 =>
    cases ht; cases r1
    obtain ⟨its,_,⟨o,g1,g2,_⟩,_⟩ := I.tuple (Dh h1.sub q1)
    exact PySem.W.kia_one PySem.W.kitx_tuple I.kIn ⟨o,g1,g2⟩ (hk _) (λ z => nomatch z) fin
   | lst q1 q2 =>
    cases ht; cases r1
    obtain ⟨its,_,⟨o,n,g1,g2,_⟩,_⟩ := I.list (Be.of (h1.sub _ _ q1))
    exact PySem.W.kia_one PySem.W.kitx_list I.kIn ⟨o,g1,g2⟩ (hk _) (λ z => nomatch z) fin
   | scr q1 q2 =>
    cases ht; cases r1
    obtain ⟨its,_,⟨o,n,g1,g2,_⟩,_⟩ := I.list (h1.sub.seq q1)
    exact PySem.W.kia_one PySem.W.kitx_list I.kIn ⟨o,g1,g2⟩ (hk _) (λ z => nomatch z) fin
   | ptr _ _ => cases ht
   | ty _ => cases ht
   | fn _ => cases ht
   | dct q1 _ q2 =>
    cases ht; cases r1
    obtain ⟨_,_,_,_,o,_,_,g1,g2,_⟩ := Rd.ok (.inr ⟨_,h1.sub _ _ q1⟩) I.hok
    exact PySem.W.kia_one PySem.W.kitx_dict I.kIn ⟨o,g1,g2.1⟩ (hk _) (λ z => nomatch z) fin
def Mr (T U : String) : Bool := T == U || (T == "bool" && U == "int")
theorem VP : ∀ T ∈ ["NoneType","bool","int","str","tuple","list","dict"],∀ U ∈ ["int","bool","tuple","str","dict","list"],∀ K,PySem.W.kitOne K (.type T) (.type U) = some (Mr T U) := by
 intro T hT U hU K
 simp only [List.mem_cons,List.not_mem_nil,or_false] at hT hU
 rcases hT with rfl | rfl | rfl | rfl | rfl | rfl | rfl <;> rcases hU with rfl | rfl | rfl | rfl | rfl | rfl <;> kernel_rfl
def HN : D -> Bool
 | .ptr _ => false | .ty _ => false | .fn _ => false | _ => true
def HZ (d : D) (U : String) : Bool := match tyD d with
 | some T => Mr T U
 | none => false
theorem Lu {U : String} (h : HN d = true) (hU : U ∈ ["int","bool","tuple","str","dict","list"]) : B4 X O (.builtin "isinstance") [d,.ty U] (.bl (HZ d U)) := by
 cases d with
 | ptr _ => cases h
 | ty _ => cases h
 | fn _ => cases h
 | _ => exact X1 (T := _) rfl (VP _ wE U hU)
theorem Lr (h : HN d = true) : B4 X O (.builtin "isinstance") [d,.ty "int"] (.bl (HZ d "int")) := Lu h wE
theorem Ls (h : HN d = true) : B4 X O (.builtin "isinstance") [d,.ty "bool"] (.bl (HZ d "bool")) := Lu h wE
theorem GT (h : HN d = true) : B4 X O (.builtin "isinstance") [d,.ty "tuple"] (.bl (HZ d "tuple")) := Lu h wE
end
def CP (env : Env) : List (Str × NameKind) -> List (Str × Addr) -> List (Str × Addr)
 | [],cs => cs
 | (n,k) :: r,cs => if k == .free then CP env r ((n,(env.cells.lookup n).getD 0) :: cs) else CP env r cs
theorem Lk {env : Env} (f : Str × NameKind -> List (Str × Addr) -> Sem (ForInStep (List (Str × Addr))))
  (hf : ∀ n k cs,f (n,k) cs = if (k == NameKind.free) = true then (do let a <- cellOf env n; pure (.yield ((n,a) :: cs))) else pure (.yield cs)) :
  ∀ (names : List (Str × NameKind)) (cs : List (Str × Addr)),(∀ y ∈ names,y.2 = .free -> ∃ a,env.cells.lookup y.1 = some a) -> forIn names cs f = pure (CP env names cs)
 | [],cs,_ => by rw [List.forIn_nil]; rfl
 | (n,k) :: r,cs,h => by
  rw [List.forIn_cons,hf]
  have hr : ∀ y ∈ r,y.2 = .free -> ∃ a,env.cells.lookup y.1 = some a := λ y hy => h y (List.mem_cons_of_mem _ hy)
  unfold CP
  by_cases hk : (k == NameKind.free) = true
  ·rw [if_pos hk,if_pos hk]
   obtain ⟨a,e⟩ := h (n,k) List.mem_cons_self (by simpa using hk)
   have e' : cellOf env n = pure a := by unfold cellOf; rw [e]
   rw [e',e]
   simp only [pure_bind,Option.getD_some]
   exact Lk f hf r _ hr
  ·rw [if_neg hk,if_neg hk]
   simp only [pure_bind]
   exact Lk f hf r _ hr
theorem Pu {env : Env} {scope : Scope} (h : ∀ y ∈ scope.names,y.2 = .free -> ∃ a,env.cells.lookup y.1 = some a) : closureFor scope env = pure (CP env scope.names []) := by
 have e := Lk (env := env) (λ (x : Str × NameKind) (cs : List (Str × Addr)) => if (x.2 == NameKind.free) = true then (do let a <- cellOf env x.1; pure (.yield ((x.1,a) :: cs))) else pure (.yield cs)) (λ n k cs => rfl) scope.names [] h
 unfold closureFor
 exact (congrArg (λ z => z >>= λ q => pure q) e).trans (by simp)
theorem Ll {env : Env} {x : Str} {c : Addr} : ∀ (names : List (Str × NameKind)) (cs : List (Str × Addr)),(∀ y ∈ names,y.2 = .free -> ∃ a,env.cells.lookup y.1 = some a) ->
  (CP env names cs).lookup x = some c -> cs.lookup x = some c \/ env.cells.lookup x = some c
 | [],cs,_,h => .inl h
 | (n,k) :: r,cs,hh,h => by
  have hr : ∀ y ∈ r,y.2 = .free -> ∃ a,env.cells.lookup y.1 = some a := λ y hy => hh y (List.mem_cons_of_mem _ hy)
  unfold CP at h
  by_cases hk : (k == NameKind.free) = true
  ·rw [if_pos hk] at h
   obtain ⟨a,e⟩ := hh (n,k) List.mem_cons_self (by simpa using hk)
   rcases Ll r _ hr h with q | q
   ·rw [e,Option.getD_some,List.lookup_cons] at q
    cases hx : x == n with
    | true =>
     rw [hx] at q
     have : x = n := by simpa using hx
     subst this
     exact .inr (by cases q; exact e)
    | false => rw [hx] at q; exact .inl q
   ·exact .inr q
  ·rw [if_neg hk] at h
   exact Ll r cs hr h
theorem GS {env : Env} {x : Str} : ∀ (names : List (Str × NameKind)) (cs : List (Str × Addr)),names.lookup x = some .free \/ (cs.lookup x).isSome = true -> ((CP env names cs).lookup x).isSome = true
 | [],cs,h => h.elim (λ e => by cases e) id
 | (n,k) :: r,cs,h => by
  unfold CP
  by_cases hk : (k == NameKind.free) = true
  ·rw [if_pos hk]
   refine GS r _ ?_
   cases hx : x == n with
   | true => right; rw [List.lookup_cons,hx]; rfl
   | false =>
    rw [List.lookup_cons,hx] at h
    rw [List.lookup_cons,hx]
    exact h
  ·rw [if_neg hk]
   refine GS r _ ?_
   cases hx : x == n with
   | true =>
    rw [List.lookup_cons,hx] at h
    rcases h with h | h
    ·cases h; exact absurd rfl hk
    ·exact .inr h
   | false => rw [List.lookup_cons,hx] at h; exact h
theorem Lm {x : Str} : ∀ (names : List (Str × NameKind)) (n : Nat) (acc : List (Str × Addr)),(∀ y ∈ names,y.1 = x -> y.2 ≠ .cell) -> (cellsFrom n names acc).lookup x = acc.lookup x
 | [],_,_,_ => rfl
 | (y,k) :: r,n,acc,h => by
  have hr : ∀ z ∈ r,z.1 = x -> z.2 ≠ .cell := λ z hz => h z (List.mem_cons_of_mem _ hz)
  unfold cellsFrom
  by_cases hk : (k == NameKind.cell) = true
  ·rw [if_pos hk,Lm r _ _ hr,List.lookup_cons]
   have : y ≠ x := λ e => h (y,k) List.mem_cons_self e (by simpa using hk)
   rw [show (x == y) = false from by simpa using Ne.symm this]
  ·rw [if_neg hk]
   exact Lm r _ _ hr
theorem Lp {x : Str} {c : Addr} : ∀ (names : List (Str × NameKind)) (h : Heap) (acc : List (Str × Addr)),(∀ y b,acc.lookup y = some b -> ∃ v,h.IsCell b v) -> (cellsFrom h.objs.size names acc).lookup x = some c ->
  (∃ v,(pushCells h names).IsCell c v) /\ (acc.lookup x = some c \/ h.objs.size <= c)
 | [],h,acc,hc,e => ⟨hc _ _ e,.inl e⟩
 | (y,k) :: r,h,acc,hc,e => by
  unfold cellsFrom at e
  unfold pushCells
  by_cases hk : (k == NameKind.cell) = true
  ·rw [if_pos hk] at e ⊢
   have hz : (h.push { cls := .type "cell",data := .cell none }).objs.size = h.objs.size + 1 := Heap.size_push ..
   rw [<- hz] at e
   obtain ⟨q1,q2⟩ := Lp r (h.push { cls := .type "cell",data := .cell none }) ((y,h.objs.size) :: acc) (λ z b q => by
    rw [List.lookup_cons] at q
    cases hx : z == y with
    | true => rw [hx] at q; cases q; exact ⟨none,_,Heap.get?_push_size _ rfl,rfl⟩
    | false =>
     rw [hx] at q
     obtain ⟨v,o,q1,q2⟩ := hc z b q
     exact ⟨v,o,Heap.get?_push_of_some _ q1,q2⟩) e
   refine ⟨q1,?_⟩
   rcases q2 with q2 | q2
   ·rw [List.lookup_cons] at q2
    cases hx : x == y with
    | true => rw [hx] at q2; cases q2; exact .inr (Nat.le_refl _)
    | false => rw [hx] at q2; exact .inl q2
   ·exact .inr (by rw [hz] at q2; omega)
  ·rw [if_neg hk] at e ⊢
   exact Lp r h acc hc e
theorem Ln : ∀ (names : List (Str × NameKind)) (n : Nat) (acc : List (Str × Addr)),(∀ x y c,acc.lookup x = some c -> acc.lookup y = some c -> x = y) -> (∀ x c,acc.lookup x = some c -> c < n) ->
  ∀ x y c,(cellsFrom n names acc).lookup x = some c -> (cellsFrom n names acc).lookup y = some c -> x = y
 | [],_,_,hi,_ => hi
 | (z,k) :: r,n,acc,hi,hl => by
  unfold cellsFrom
  by_cases hk : (k == NameKind.cell) = true
  ·rw [if_pos hk]
   refine Ln r (n + 1) ((z,n) :: acc) (λ x y c e1 e2 => ?_) (λ x c e => ?_)
   ·rw [List.lookup_cons] at e1 e2
    cases hx : x == z <;> cases hy : y == z <;> rw [hx] at e1 <;> rw [hy] at e2
    ·exact hi x y c e1 e2
    ·cases e2; exact absurd (hl _ _ e1) (Nat.lt_irrefl _)
    ·cases e1; exact absurd (hl _ _ e2) (Nat.lt_irrefl _)
    ·rw [show x = z by simpa using hx,show y = z by simpa using hy]
   ·rw [List.lookup_cons] at e
    cases hx : x == z <;> rw [hx] at e
    ·exact Nat.lt_succ_of_lt (hl _ _ e)
    ·cases e; exact Nat.lt_succ_self _
  ·rw [if_neg hk]
   exact Ln r n acc hi hl
theorem HG {env : Env} {x : Str} {k : NameKind} : ∀ (names : List (Str × NameKind)),(names.map λ (n,k) => if (k == NameKind.free && env.scope.kind == .function && env.kindOf n == some .cell) then (n,NameKind.cell) else (n,k)).lookup x = some k ->
  names.lookup x = some k \/ (k = .cell /\ names.lookup x = some .free)
 | [],h => by cases h
 | (n,k') :: r,h => by
  rw [List.map_cons] at h
  by_cases hc : (k' == NameKind.free && env.scope.kind == .function && env.kindOf n == some .cell) = true
  ·simp only [hc,if_true] at h
   rw [List.lookup_cons] at h ⊢
   cases hx : x == n with
   | true =>
    rw [hx] at h; cases h
    have : k' = .free := by
     simp only [Bool.and_eq_true,beq_iff_eq] at hc
     exact hc.1.1
    subst this
    exact .inr ⟨rfl,rfl⟩
   | false => rw [hx] at h; exact HG r h
  ·simp only [hc,Bool.false_eq_true,if_false] at h
   rw [List.lookup_cons] at h ⊢
   cases hx : x == n with
   | true => rw [hx] at h; exact .inl h
   | false => rw [hx] at h; exact HG r h
theorem KI {env : Env} {x : Str} : ∀ (names : List (Str × NameKind)),names.lookup x = some .free ->
  (names.map λ (n,k) => if (k == NameKind.free && env.scope.kind == .function && env.kindOf n == some .cell) then (n,NameKind.cell) else (n,k)).lookup x = some .cell \/
  (names.map λ (n,k) => if (k == NameKind.free && env.scope.kind == .function && env.kindOf n == some .cell) then (n,NameKind.cell) else (n,k)).lookup x = some .free
 | [],h => by cases h
 | (n,k') :: r,h => by
  rw [List.map_cons]
  rw [List.lookup_cons] at h
  by_cases hc : (k' == NameKind.free && env.scope.kind == .function && env.kindOf n == some .cell) = true
  ·simp only [hc,if_true]
   rw [List.lookup_cons]
   cases hx : x == n with
   | true => left; rfl
   | false => rw [hx] at h; exact KI r h
  ·simp only [hc]
   cases hx : x == n with
   | true => rw [hx] at h; right; exact (by simp [List.lookup_cons,hx]; exact Option.some.inj h)
   | false =>
    rw [hx] at h
    simpa [List.lookup_cons,hx] using KI r h
def Dr (X : Cx) (N : List Str) (scope : Scope) (s : Shared) (H : Hp) (fp : List Addr) : Cx :=
 { X with
  N := N
  s₀ := s
  H₀ := H
  env := compEnvC scope (cellsFrom (s.heap.objs.size + 2) scope.names (CP X.env scope.names [])) (s.heap.objs.size + 1) X.env
  outer := X.stack
  ex := fp
  fn := λ x => scope.names.lookup x == some .cell
  pn := []
  xe := λ _ _ => False }
section
variable {X : Cx} {pins : List (Addr × Obj)} {σ : L2.St} {H : Hp} {s : Shared}
def IR (X : Cx) (scope : Scope) : Prop := ∀ y ∈ scope.names,y.2 = .free -> X.env.kindOf y.1 = some .cell \/ X.env.kindOf y.1 = some .free
theorem OJ {N : List Str} {scope : Scope} {fp : List Addr} {σ0 : L2.St} (I : L2.Inv X pins σ H s) (hf : ∀ b ∈ fp,Cg X pins H b) (ho : ∀ b ∈ fp,∃ o,s.heap.get? b = some o) (hk : scope.kind = .function) (hfr : IR X scope)
  (hl : σ0.length = N.length) (hσ : ∀ (i : Nat) (v : V),σ0[i]? = some (some v) -> ∃ (x : Str) (j : Nat),N[i]? = some x /\ scope.names.lookup x = some .free /\ (∀ y ∈ scope.names,y.1 = x -> y.2 ≠ .cell) /\ X.N[j]? = some x /\ σ[j]? = some (some v) /\ Es X.env.scope x) (t : Nat) (oD : Obj) :
  L2.Inv (Dr X N scope s H fp) [] σ0 H { s with heap := pushCells ((s.heap.push oD).push { cls := .type "dict",data := .dict #[] }) scope.names,toks := t } := by
 have hz1 : (s.heap.push oD).objs.size = s.heap.objs.size + 1 := Heap.size_push ..
 have hz : ((s.heap.push oD).push { cls := .type "dict",data := .dict #[] }).objs.size = s.heap.objs.size + 2 := by rw [Heap.size_push,hz1]
 have up : ∀ b o,s.heap.get? b = some o -> (pushCells ((s.heap.push oD).push { cls := .type "dict",data := .dict #[] }) scope.names).get? b = some o := λ b o e => pushCells_keeps _ _ b o (Heap.get?_push_of_some _ (Heap.get?_push_of_some _ e))
 have hcl : ∀ y ∈ scope.names,y.2 = .free -> ∃ a,X.env.cells.lookup y.1 = some a := λ y hy e => I.ok.has _ (hfr y hy e)
 have cl1 : ∀ y b,(CP X.env scope.names []).lookup y = some b -> X.env.cells.lookup y = some b := λ y b e => by
  rcases Ll _ _ hcl e with q | q
  ·cases q
  ·exact q
 have cl2 : ∀ y b,(CP X.env scope.names []).lookup y = some b -> b < s.heap.objs.size := λ y b e => by
  obtain ⟨v,q⟩ := I.cell y b (cl1 y b e); exact q.lt
 have cc : ∀ y b,(cellsFrom (s.heap.objs.size + 2) scope.names (CP X.env scope.names [])).lookup y = some b ->
   (∃ v,(pushCells ((s.heap.push oD).push { cls := .type "dict",data := .dict #[] }) scope.names).IsCell b v) /\ (X.env.cells.lookup y = some b /\ b < s.heap.objs.size \/ s.heap.objs.size + 2 <= b) := λ y b e => by
  rw [<- hz] at e
  obtain ⟨q1,q2⟩ := Lp scope.names ((s.heap.push oD).push { cls := .type "dict",data := .dict #[] }) _ (λ z c q => by
   obtain ⟨v,o,q1,q2⟩ := I.cell z c (cl1 z c q)
   exact ⟨v,o,Heap.get?_push_of_some _ (Heap.get?_push_of_some _ q1),q2⟩) e
  refine ⟨q1,?_⟩
  rcases q2 with q2 | q2
  ·exact .inl ⟨cl1 _ _ q2,cl2 _ _ q2⟩
  ·rw [hz] at q2; exact .inr q2
 have hlt := I.lt
 refine ⟨⟨I.ok.mod,hk,I.ok.glob,I.ok.blt,Nat.le_succ _,?_,?_,?_,I.ok.hd,I.ok.frames,.inl rfl,?_,I.bs,Nat.le_trans I.ok.bsz I.sz,?_,?_,I.stack,I.stkFree⟩,rfl,I.bare,Un.kept up,?_,?_,?_,?_,?_,I.hok.kept up,hl⟩
 ·exact Ln _ _ _ (λ x y c e1 e2 => I.ok.inj x y c (cl1 _ _ e1) (cl1 _ _ e2)) (λ x c e => Nat.lt_of_lt_of_le (cl2 x c e) (Nat.le_add_right _ 2))
 ·intro x hx
  have hx : (relabel scope X.env).names.lookup x = some .cell \/ (relabel scope X.env).names.lookup x = some .free := hx
  have : ((cellsFrom (s.heap.objs.size + 2) scope.names (CP X.env scope.names [])).lookup x).isSome = true := by
   refine PySem.W.cellsFrom_some _ _ _ ?_
   rcases hx with hx | hx
   ·rcases HG _ hx with q | ⟨_,q⟩
    ·exact .inl q
    ·exact .inr (GS _ _ (.inl q))
   ·rcases HG _ hx with q | ⟨q,_⟩
    ·exact .inr (GS _ _ (.inl q))
    ·cases q
  exact Option.isSome_iff_exists.mp this
 ·intro x c hfn e
  rcases (cc x c e).2 with ⟨q,q'⟩ | q
  ·exfalso
   have hfn : scope.names.lookup x = some .cell := by simpa [Dr] using hfn
   -- own names' cells are new
   have : ∀ (names : List (Str × NameKind)) (n : Nat) (acc : List (Str × Addr)),names.lookup x = some .cell \/ (∃ b,acc.lookup x = some b /\ s.heap.objs.size <= b) -> s.heap.objs.size <= n -> ∀ b,(cellsFrom n names acc).lookup x = some b -> s.heap.objs.size <= b := by
    intro names
    induction names with
    | nil =>
     intro n acc h hn b eb
     rcases h with h | ⟨b',h,hb⟩
     ·cases h
     ·have eb : acc.lookup x = some b := eb
      rw [h] at eb; cases eb; exact hb
    | cons p r ih =>
     obtain ⟨y,k⟩ := p
     intro n acc h hn b eb
     unfold cellsFrom at eb
     by_cases hkc : (k == NameKind.cell) = true
     ·rw [if_pos hkc] at eb
      refine ih (n + 1) _ ?_ (Nat.le_succ_of_le hn) b eb
      cases hxy : x == y with
      | true => right; exact ⟨n,by rw [List.lookup_cons,hxy],hn⟩
      | false =>
       rw [List.lookup_cons,hxy] at h
       rw [List.lookup_cons,hxy]
       exact h
     ·rw [if_neg hkc] at eb
      refine ih n _ ?_ hn b eb
      cases hxy : x == y with
      | true =>
       rw [List.lookup_cons,hxy] at h
       rcases h with h | h
       ·cases h; exact absurd rfl hkc
       ·exact .inr h
      | false => rw [List.lookup_cons,hxy] at h; exact h
   exact absurd q' (Nat.not_lt.mpr (this scope.names _ _ (.inl hfn) (Nat.le_add_right _ 2) c e))
  ·exact Nat.le_trans (Nat.le_add_right _ 2) q
 ·intro b hb
  have hbl : b < s.heap.objs.size := let ⟨o,e⟩ := ho b hb; Heap.lt_size e
  refine ⟨Nat.ne_of_lt (Nat.lt_succ_of_lt hbl),λ x c e => ?_⟩
  obtain ⟨f0,f1,f2,f3,f4,f5⟩ := hf b hb
  rcases (cc x c e).2 with ⟨q,_⟩ | q
  ·exact f4 x c q
  ·exact Nat.ne_of_gt (Nat.lt_of_lt_of_le (Nat.lt_of_lt_of_le hbl (Nat.le_add_right _ 2)) q)
 ·intro b o e hb
  obtain ⟨f0,f1,f2,f3,f4,f5⟩ := hf b hb
  rcases f3 with q | q
  ·exact I.ok.noex b o e q
  ·exact absurd (Nat.lt_of_lt_of_le (Heap.lt_size e) (Nat.le_trans I.ok.bsz q)) (Nat.lt_irrefl _)
 ·intro b hb z
  obtain ⟨f0,f1,f2,f3,f4,f5⟩ := hf b hb
  rcases List.mem_cons.mp (I.stkSub b z) with q | q
  ·exact f1 q
  ·exact f2 q
 ·refine ⟨λ _ => none,?_,λ i x v e1 e2 e3 => ?_⟩
  ·show Heap.Ns _ (s.heap.objs.size + 1) _
   rw [<- hz1]
   exact (Heap.Ns.new (s.heap.push oD) (.type "dict")).keeps (pushCells_keeps _ _)
  ·obtain ⟨x',j,q1,q2,q3,q4,q5,q6⟩ := hσ i v e2
   have : x' = x := Option.some.inj (q1.symm.trans e1)
   subst this
   obtain ⟨m,hn,hlk⟩ := I.loc
   obtain ⟨u,ru,lk⟩ := hlk j x' v q4 q5 q6
   refine ⟨u,ru,.inr ⟨?_,?_⟩⟩
   ·exact KI _ q2
   ·have hks := hfr (x',.free) (PySem.mem_of_lookup q2) rfl
    rcases lk with ⟨k,_⟩ | ⟨k,c,e,z⟩
    ·rcases hks with z | z
     ·rw [k] at z; cases z
     ·rw [k] at z; cases z
    ·refine ⟨c,?_,z.keeps up⟩
     show (cellsFrom _ _ _).lookup x' = some c
     rw [Lm _ _ _ q3]
     obtain ⟨b,eb⟩ := Option.isSome_iff_exists.mp (GS (env := X.env) scope.names [] (.inl q2))
     rw [eb,<- cl1 _ _ eb,e]
 ·exact λ x c e => (cc x c e).1
 ·exact I.hok.fresh (Nat.le_succ _)
 ·intro x c e
  rcases (cc x c e).2 with ⟨q,_⟩ | q
  ·exact I.freeC x c q
  ·exact I.hok.fresh (Nat.le_trans (Nat.le_add_right _ 2) q)
 ·intro p hp
  exact absurd (show p ∈ ([] : List (Addr × Obj)) from hp) (by simp)
end
theorem Om {M : Model} {A : Around} {E : Value -> Shared -> Prop} {s : Shared} {scope : Scope} {g : Addr} {cl : List (Str × Addr)} {q : Str} {env : Env} {Q : Env -> Shared -> Prop}
  (h : ∀ b,b = env.builtins -> Q { scope := scope,locals := s.heap.objs.size,globals := g,cells := cellsFrom (s.heap.objs.size + 1) scope.names cl,qual := q,func := none,code := env.code,frame := env.frame,builtins := b }
   { s with heap := pushCells (s.heap.push { cls := .type "dict",data := .dict #[] }) scope.names }) : wpAny M A (newFunctionEnv scope g cl [] q none .none (some env)) Q E s := by
 simp only [newFunctionEnv,Option.isSome_some,if_true]
 refine wpAny_bind (wpAny_alloc ?_)
 refine wpAny_bind (wpAny_layCells _ (λ n k cells => by cases hkc : k == NameKind.cell <;> simp [hkc]) _ _ _ _ ?_)
 rw [show ({ s with heap := s.heap.push { cls := .type "dict",data := .dict #[] } } : Shared).heap.objs.size = s.heap.objs.size + 1 from Heap.size_push ..]
 rw [List.forIn_nil]
 exact wpAny_bind (wpAny_pure (wpAny_pure (h _ rfl)))
theorem P0 {fs ex : List Addr} {H H' : Hp} {h h' : Heap} {D : Addr} {o : HO} (u : Un fs ex H H' h h') (hn : H D = none) (hh : h.get? D = none) : Un fs ex H (AL H' D o) h h' where
 keep := u.keep
 slot := u.slot
 free := λ b ob q n hx => by
  rw [A4 (λ z => by rw [z,hh] at q; cases q)]; exact u.free b ob q n hx
 there := u.there
 tups := λ b xs q => by rw [A4 (DU q hn)]; exact u.tups b xs q
 frzs := λ b ob xs q => by rw [A4 (DU q hn)]; exact u.frzs b ob xs q
 tbls := λ b ps q => by rw [A4 (DU q hn)]; exact u.tbls b ps q
theorem LP {P : Program} {w : World} {H : Hp} {h : Heap} {D : Addr} {o : HO} (x : BE P w H h) (hn : H D = none) (new : B8 P w (AL H D o) h D o) : BE P w (AL H D o) h := λ b u e => by
 by_cases hb : b = D
 ·subst hb
  rw [Bs] at e
  cases e
  exact new
 ·rw [A4 hb] at e
  refine (x b u e).stay (λ c v _ q => q) (λ c q => ?_) λ c xs q => ?_
  ·rw [A4 (DU q hn)]; exact q
  ·rw [A4 (DU q hn)]; exact q
theorem Pq {prog : Program} {w : World} {A : Around} {R : Result -> Shared -> Prop} {elt tg iter : Expr} {ifs : List Expr} {scope : Scope} {pos : Pos} {it acc : Value} {env : Env} (V : Nat -> Shared -> Prop)
  (turn : ∀ (n : Nat) (s : Shared) (F : Value -> Shared -> Prop),V n s -> wpAny (model prog w) A (pyNext it) (λ r s1 => match r with
   | none => R (.ok .next) s1
   | some v => wpAny (model prog w) A (letOwnedTupleGo tg it v) (λ _ s2 => wpAny (model prog w) A (assign tg env v) (λ _ s3 =>
     wpAny (model prog w) A (compTests ifs env) (λ ok s4 => if ok = true then wpAny (model prog w) A (eval elt env) (λ x s5 => wpAny (model prog w) A (call (.builtin "list.append") [acc,x]) (λ _ s6 => ∃ m,m < n /\ V m s6) F s5) F s4
      else ∃ m,m < n /\ V m s4) F s3) F s2) F s1) F s) :
  ∀ (n : Nat) (s : Shared),V n s -> codeAny (model prog w) A (.compLoop (.ListComp elt [⟨tg,iter,ifs,0⟩] scope pos) 0 it acc env) R s := λ n s h => by
 refine codeAny_loop rfl V (λ n s hV => ?_) n h
 refine wpAny_noted ?_
 rw [compTurn_list]
 refine wpAny_bind (wpAny_standAt (wpAny_bind (Aq (turn n s _ hV) λ r s1 h1 => ?_)))
 cases r with
 | none => exact wpAny_pure h1
 | some v =>
  refine wpAny_bind (Aq h1 λ _ s2 h2 => wpAny_bind (Aq h2 λ _ s3 h3 => ?_))
  have h3 : wpAny (model prog w) A (compTests ifs env) _ _ s3 := h3
  unfold compTests at h3
  rw [show ∀ x : Sem Bool,(x >>= λ q => pure q) = x from λ x => bind_pure x] at h3
  refine wpAny_bind (Aq h3 λ ok s4 h4 => ?_)
  cases ok with
  | false => exact wpAny_pure ⟨rfl,h4⟩
  | true => exact wpAny_bind (wpAny_bind (Aq h4 λ x s5 h5 => wpAny_bind (Aq h5 λ _ s6 h6 => wpAny_pure (wpAny_pure ⟨rfl,h6⟩))))
abbrev BF (ys : List Value) : Obj := { cls := .type "list",data := .seq ys.toArray ys.length }
def P5 (X : Cx) (ρ : Aj) (O : Ac) (elt : Expr) : List Expr -> Option D -> Prop
 | [],z => ∃ y,z = some y /\ Ad X ρ O elt y
 | [c],z => ∃ k,AY X ρ O c k /\ (k = true -> ∃ y,z = some y /\ Ad X ρ O elt y) /\ (k = false -> z = none)
 | _,_ => False
theorem AB.weak {K : PySem.W.Frag} {G : Wd} {σ : L2.St} {ρ ρ' : Aj} (h : AB K G σ ρ) (hl : ρ'.length = ρ.length) (hs : ∀ (i : Nat) (d : D),ρ'[i]? = some (some d) -> ρ[i]? = some (some d)) : AB K G σ ρ' :=
 ⟨h.len.trans hl.symm,λ i d e => h.get i d (hs i d e)⟩
theorem Le {α : Type} (P : Nat -> α -> Prop) : ∀ n : Nat,(∀ i,i < n -> ∃ a,P i a) -> ∃ l : List α,l.length = n /\ ∀ i a,l[i]? = some a -> P i a
 | 0,_ => ⟨[],rfl,λ i a h => by simp at h⟩
 | n + 1,h => by
  obtain ⟨l,h1,h2⟩ := Le P n λ i hi => h i (Nat.lt_succ_of_lt hi)
  obtain ⟨a,ha⟩ := h n (Nat.lt_succ_self _)
  refine ⟨l ++ [a],by simp [h1],λ i b hb => ?_⟩
  by_cases hi : i < n
  ·rw [List.getElem?_append_left wF] at hb; exact h2 i b hb
  ·have hin : i = n := by
    have := (List.getElem?_eq_some_iff.mp hb).1
    simp [h1] at this; omega
   subst hin
   rw [List.getElem?_append_right wF,h1,Nat.sub_self] at hb
   cases hb; exact ha
section
variable {X : Cx} {ρ : Aj} {O : Ac} {elt tg iter : Expr} {ifs : List Expr} {scope : Scope} {pos : Pos} {xs : List D} {zs : List (Option D)}
theorem OU {α : Type} : ∀ (zs : List (Option α)) (i : Nat) (z : Option α),zs[i]? = some z -> (zs.take (i + 1)).filterMap id = (zs.take i).filterMap id ++ z.toList := by
 intro zs i z h
 rw [List.take_add_one,h,List.filterMap_append]
 cases z <;> rfl
theorem Pp (N : List Str) (js : List Nat) (ρ0 : Aj) (hi : Cn X ρ O tg iter xs) (hc : X.calm = true) (hk : scope.kind = .function) (hfr : IR X scope) (hnm : ∀ x ∈ scope.names,x.2 = .local -> scope.names.lookup x.1 = some .local)
    (hl0 : ρ0.length = N.length)
    (h0 : ∀ (i : Nat) (d : D),ρ0[i]? = some (some d) -> ∃ (x : Str) (j : Nat),N[i]? = some x /\ scope.names.lookup x = some .free /\ (∀ y ∈ scope.names,y.1 = x -> y.2 ≠ .cell) /\ X.N[j]? = some x /\ ρ[j]? = some (some d) /\ Es X.env.scope x)
    (hzl : zs.length = xs.length) (hsz : xs.length <= sizeLine)
    (turn : ∀ (s : Shared) (H : Hp) (fp : List Addr) (i : Nat) (x : D) (z : Option D),xs[i]? = some x -> zs[i]? = some z -> ∃ ρ1,Tg (Dr X N scope s H fp) tg x ρ0 ρ1 /\ ρ1.length = ρ0.length /\ (∀ (j : Nat) (d : D),ρ0[j]? = some (some d) -> ρ1[j]? = some (some d)) /\ P5 (Dr X N scope s H fp) ρ1 O elt ifs z)
    {use : Option (Value -> Sem Unit)} {pins : List (Addr × Obj)} {s : Shared} {σ : L2.St} {H : Hp} {G : Wd} {Q : Value -> Shared -> Prop} (I : L2.Inv X pins σ H s) (sa : SA X.K G H O) (en : AB X.K G σ ρ)
    (fin : ∀ (D C : Addr) (s' : Shared) (H' : Hp) (G' : Wd),L2.Inv X pins σ H' s' -> Ah G G' -> SA X.K G' H' O -> Is X.K G' (.lst (zs.filterMap id)) (.ref D) -> Cg X pins H' C -> (∃ m,s'.heap.Ns C m) -> compPost (model X.prog X.w) X.A X.xe use Q (.ref D) C (.ok .next) s')
    (hs : ∀ x,foldedSetIterable iter X.env x = pure x := by intro _; rfl) :
    wpAny (model X.prog X.w) X.A (comprehension (.ListComp elt [⟨tg,iter,ifs,0⟩] scope pos) scope X.env (firstIterPos [⟨tg,iter,ifs,0⟩] pos) (newList []) false (eval iter X.env) use) Q X.xe s := by
  refine wpAny_comprehension_free rfl hs (Pu λ y hy e => I.ok.has _ (hfr y hy e)) hk hnm (Aq (hi G pins s σ H (λ J H1 => ∃ G1,Ah G G1 /\ SA X.K G1 H1 O /\ Dt X.K G1 J xs) I ⟨sa,en,λ J G1 H1 e1 s1 y1 => ⟨G1,e1,s1,y1⟩⟩) λ v s1 h1 => Aq h1 λ itv s2 h2 => ?_)
  obtain ⟨it,fp,tn,J,H2,e,I2,T,st2,f2,G2,e2,sa2,Yi⟩ := h2
  subst e
  have ho2 : ∀ b ∈ fp,∃ o,s2.heap.get? b = some o := λ b hb => let ⟨o,q,_⟩ := T.obj 0 _ st2 b hb; ⟨o,q⟩
  have hlt : ∀ b ∈ fp,b < s2.heap.objs.size := λ b hb => let ⟨o,q⟩ := ho2 b hb; Heap.lt_size q
  unfold newList
  refine wpAny_newObj_type (Om λ bb hbb => ?_)
  have hbb' : bb = X.env.builtins := hbb
  subst hbb'
  have hz1 : (s2.heap.push { cls := .type "list",dict := none,data := .seq ([] : List Value).toArray }).objs.size = s2.heap.objs.size + 1 := Heap.size_push ..
  dsimp only
  rw [hz1]
  generalize hD : s2.heap.objs.size = dd at hz1 ⊢
  -- the block's own context
  have en2 : AB X.K G2 σ ρ := en.ext e2
  obtain ⟨σ0,hσl,hσ0⟩ := Le (λ i (o : Option V) => (∀ d,ρ0[i]? = some (some d) -> ∃ v,o = some v /\ Is X.K G2 d v) /\ ∀ v,o = some v -> ∃ (x : Str) (j : Nat),N[i]? = some x /\ scope.names.lookup x = some .free /\ (∀ y ∈ scope.names,y.1 = x -> y.2 ≠ .cell) /\ X.N[j]? = some x /\ σ[j]? = some (some v) /\ Es X.env.scope x) N.length (λ i hi => by
    cases q : ρ0[i]? with
    | none => exact ⟨none,And.intro (λ d z => nomatch z) (λ v z => nomatch z)⟩
    | some o =>
      cases o with
      | none => exact ⟨none,And.intro (λ d z => nomatch z) (λ v z => nomatch z)⟩
      | some d =>
        obtain ⟨x,j,q1,q2,q3,q4,q5,q6⟩ := h0 i d q
        obtain ⟨v,q7,q8⟩ := en2.get j d q5
        exact ⟨some v,And.intro (λ d' z => by cases z; exact ⟨v,rfl,q8⟩) (λ v' z => by cases z; exact ⟨x,j,q1,q2,q3,q4,q7,q6⟩)⟩)
  have en0 : AB X.K G2 σ0 ρ0 := ⟨hσl.trans hl0.symm,λ i d e => by
    have hi : i < σ0.length := by rw [hσl,<- hl0]; exact (List.getElem?_eq_some_iff.mp e).1
    obtain ⟨v,e1,e2⟩ := (hσ0 i σ0[i] (List.getElem?_eq_getElem hi)).1 d e
    exact ⟨v,by rw [List.getElem?_eq_getElem hi,e1],e2⟩⟩
  have I3 := OJ (N := N) (scope := scope) (fp := fp) (σ0 := σ0) I2 f2 ho2 hk hfr hσl (λ i v e => (hσ0 i _ e).2 v rfl) s2.toks { cls := .type "list",dict := none,data := .seq ([] : List Value).toArray }
  generalize hY : Dr X N scope s2 H2 fp = Y at I3
  have hD1 : (pushCells ((s2.heap.push { cls := .type "list",dict := none,data := .seq ([] : List Value).toArray }).push { cls := .type "dict",data := .dict #[] }) scope.names).get? dd = some (BF []) := by
    refine pushCells_keeps _ _ _ _ (Heap.get?_push_of_some _ ?_)
    rw [<- hD]
    exact Heap.get?_push_size _ rfl
  have hHD : H2 dd = none := I2.hok.fresh (by rw [hD]; exact Nat.le_refl _)
  have hsD : s2.heap.get? dd = none := Heap.get?_none_of_le (by rw [hD]; exact Nat.le_refl _)
  have hDC : dd ≠ Y.env.locals := by
    rw [<- hY]; show dd ≠ s2.heap.objs.size + 1; rw [hD]; exact Nat.ne_of_lt (Nat.lt_succ_self _)
  have hfs : ∀ b ∈ CG X.stack,b < s2.heap.objs.size := λ b hb => by
    rcases List.mem_cons.mp (I2.stkSub b hb) with q | q
    · rw [q]; exact I2.lt
    · exact Nat.lt_of_not_le λ z => I2.nofs z q
  have hYfs : Y.fs = CG X.stack := by rw [<- hY]; rfl
  have hDfs : dd ∉ Y.fs := λ z => by rw [hYfs] at z; have := hfs dd z; rw [hD] at this; exact Nat.lt_irrefl _ this
  have hYex : Y.ex = fp := by rw [<- hY]; rfl
  have hYpn : Y.pn = [] := by rw [<- hY]; rfl
  have hYxe : Y.xe = λ _ _ => False := by rw [<- hY]; rfl
  have hYs : Y.s₀.heap.objs.size = dd := by rw [<- hY]; exact hD
  have hYc : ∀ x c,Y.env.cells.lookup x = some c -> c ≠ dd /\ ∀ b ∈ fp,c ≠ b := λ x c e => by
    refine ⟨?_,λ b hb => ?_⟩
    · intro z
      subst z
      obtain ⟨v,o,q1,q2⟩ := I3.cell x c e
      rw [hD1] at q1; cases q1; cases q2
    · have := I3.ok.exf b (by rw [hYex]; exact hb)
      exact this.2 x c e
  have fpY : ∀ {H' : Hp} {pl : List (Addr × Obj)},(∀ b ∈ fp,H' b = none) -> (∀ p ∈ pl,p.1 = dd) -> ∀ b ∈ fp,Cg Y pl H' b := λ hn hp b hb => ⟨hn b hb,(I3.ok.exf b (by rw [hYex]; exact hb)).1,I3.ok.exfs b (by rw [hYex]; exact hb),.inl (by rw [hYex]; exact hb),λ x c e => (hYc x c e).2 b hb,λ p hq => by
    rw [hYpn,List.nil_append] at hq
    rw [hp p hq]
    exact Nat.ne_of_gt (by rw [<- hD]; exact hlt b hb)⟩
  have I4 : L2.Inv Y [(dd,BF [])] σ0 H2 { s2 with heap := pushCells ((s2.heap.push { cls := .type "list",dict := none,data := .seq ([] : List Value).toArray }).push { cls := .type "dict",data := .dict #[] }) scope.names,toks := s2.toks } := I3.pins_of λ p hp => by
    rw [List.mem_singleton.mp hp]
    exact ⟨hD1,hHD,hDC,hDfs,λ v z => by cases z⟩
  have st4 : tn 0 (pushCells ((s2.heap.push { cls := .type "list",dict := none,data := .seq ([] : List Value).toArray }).push { cls := .type "dict",data := .dict #[] }) scope.names) := T.keep 0 _ _ st2 λ b hb o e => pushCells_keeps _ _ b o (Heap.get?_push_of_some _ (Heap.get?_push_of_some _ e))
  have hYp : Y.prog = X.prog := by rw [<- hY]; rfl
  have hYw : Y.w = X.w := by rw [<- hY]; rfl
  have hYK : Y.K = X.K := by rw [<- hY]; rfl
  have hYA : Y.A = X.A := by rw [<- hY]; rfl
  have hYcm : Y.calm = true := by rw [<- hY]; exact hc
  have loop : ∀ s3 : Shared,s3 = { s2 with heap := pushCells ((s2.heap.push { cls := .type "list",dict := none,data := .seq ([] : List Value).toArray }).push { cls := .type "dict",data := .dict #[] }) scope.names } ->
      codeAny (model X.prog X.w) X.A (.compLoop (.ListComp elt [⟨tg,iter,ifs,0⟩] scope pos) 0 (.ref it) (.ref dd) Y.env) (compPost (model X.prog X.w) X.A X.xe use Q (.ref dd) (dd + 1)) s3 := by
    rintro s3 rfl
    refine Pq (λ n s' => ∃ (i : Nat) (G' : Wd) (σ' : L2.St) (H' : Hp) (vs : List V) (its : List Value),n = xs.length - i /\ i <= xs.length /\ L2.Inv Y [(dd,BF its)] σ' H' s' /\ tn i s'.heap /\ (∀ b ∈ fp,H' b = none) /\ Ah G2 G' /\ SA X.K G' H' O /\ AB X.K G' σ' ρ0 /\
      Al X.K G' ((zs.take i).filterMap id) vs /\ Az vs its /\ its.length <= i) ?_ xs.length _ ⟨0,G2,σ0,H2,[],[],rfl,Nat.zero_le _,I4,st4,λ b hb => (f2 b hb).1,Ah.refl _,sa2,en0,.nil,.nil,Nat.le_refl _⟩
    rintro n s5 F ⟨i,G5,σ5,H5,vs,its,rfl,hil,I5,st5,fr5,e5,sa5,en5,is5,va5,hl5⟩
    by_cases hlt5 : i < xs.length
    · have hx : xs[i]? = some xs[i] := List.getElem?_eq_getElem hlt5
      have hzi : i < zs.length := by omega
      have hz : zs[i]? = some zs[i] := List.getElem?_eq_getElem hzi
      generalize xs[i] = x at hx
      generalize zs[i] = z at hz
      have it5 := T.item Y hYp hYw hYK hYcm i [(dd,BF its)] s5 σ5 H5 F I5 (fpY fr5 (λ p hp => by rw [List.mem_singleton.mp hp])) st5 (Yi.go i H5 (e5.g.trans sa5.sub) hlt5)
      rw [hYA] at it5
      refine Aq it5 λ r s6 ⟨u,hr,h6⟩ => ?_
      subst hr
      refine Aq h6 λ _ s7 ⟨xv,H7,I7,r7,y7,st7,fr7⟩ => ?_
      obtain ⟨x',G7,hx',e7,sa7,ix⟩ := Yi.yld i xv H5 H7 G5 O e5 sa5 y7 hlt5
      have : x' = x := Option.some.inj (hx'.symm.trans hx)
      subst this
      have I7' := I7.pinned (fpY fr7 (λ p hp => by rw [List.mem_singleton.mp hp])) (T.obj _ _ st7)
      obtain ⟨ρ1,tg1,hl1,hs1,kp1⟩ := turn s2 H2 fp i x' z hx hz
      rw [hY] at tg1 kp1
      have xeF : ∀ {α : Type} {t : Sem α} {P : α -> Shared -> Prop} {q : Shared},wpAny (model Y.prog Y.w) Y.A t P Y.xe q -> wpAny (model X.prog X.w) X.A t P F q := λ h => by
        rw [hYp,hYw,hYA,hYxe] at h
        exact wpAny_mono h (λ _ _ q => q) λ _ _ q => q.elim
      refine Aq (xeF (tg1 G7 _ s7 σ5 H7 xv u (λ σ' H' => AB X.K G7 σ' ρ1 /\ H' = H7) I7' r7 (by
        rw [hYK]
        exact ⟨ix,sa7.sub,en5.ext e7,λ σ' q => ⟨q,rfl⟩⟩))) λ _ s8 ⟨σ8,H8,I8,en8,hH8⟩ => ?_
      subst hH8
      -- back to the invariant,with or without one more
      have again : ∀ {s9 : Shared} {H9 : Hp} {G9 : Wd} {its' : List Value} {vs' : List V},L2.Inv Y ((dd,BF its') :: C3 fp s7.heap) σ8 H9 s9 -> Ah G7 G9 -> SA X.K G9 H9 O -> Al X.K G9 ((zs.take (i + 1)).filterMap id) vs' -> Az vs' its' -> its'.length <= i + 1 ->
          ∃ m,m < xs.length - i /\ ∃ (i : Nat) (G' : Wd) (σ' : L2.St) (H' : Hp) (vs : List V) (its : List Value),m = xs.length - i /\ i <= xs.length /\ L2.Inv Y [(dd,BF its)] σ' H' s9 /\ tn i s9.heap /\ (∀ b ∈ fp,H' b = none) /\ Ah G2 G' /\ SA X.K G' H' O /\ AB X.K G' σ' ρ0 /\
            Al X.K G' ((zs.take i).filterMap id) vs /\ Az vs its /\ its.length <= i := λ {s9 H9 G9 its' vs'} I9 e9 sa9 is9 va9 hl9 => by
        refine ⟨xs.length - (i + 1),by omega,i + 1,G9,σ8,H9,vs',its',rfl,hlt5,I9.pins_of (λ p hp => I9.pin p (by rw [hYpn,List.nil_append]; rw [List.mem_singleton.mp hp]; exact List.mem_cons_self)),T.keep _ _ _ st7 λ b hb o e => (I9.pin (b,o) (by rw [hYpn,List.nil_append]; exact List.mem_cons_of_mem _ (F3 hb e))).1,λ b hb => ?_,(e5.trans e7).trans e9,sa9,(en8.weak hl1.symm hs1).ext e9,is9,va9,hl9⟩
        obtain ⟨o,e,_⟩ := T.obj _ _ st7 b hb
        exact (I9.pin (b,o) (by rw [hYpn,List.nil_append]; exact List.mem_cons_of_mem _ (F3 hb e))).2.1
      have more : ∀ {y : D} {s9 : Shared} {G9 : Wd} {H9 : Hp},z = some y -> L2.Inv Y ([(dd,BF its)] ++ C3 fp s7.heap) σ8 H9 s9 -> Ah G7 G9 -> SA X.K G9 H9 O -> Ad Y ρ1 O elt y -> wpAny (model X.prog X.w) X.A (eval elt Y.env) (λ x s5 => wpAny (model X.prog X.w) X.A (call (.builtin "list.append") [.ref dd,x]) (λ _ s6 => ∃ m,m < xs.length - i /\ ∃ (i : Nat) (G' : Wd) (σ' : L2.St) (H' : Hp) (vs : List V) (its : List Value),m = xs.length - i /\ i <= xs.length /\ L2.Inv Y [(dd,BF its)] σ' H' s6 /\ tn i s6.heap /\ (∀ b ∈ fp,H' b = none) /\ Ah G2 G' /\ SA X.K G' H' O /\ AB X.K G' σ' ρ0 /\
            Al X.K G' ((zs.take i).filterMap id) vs /\ Az vs its /\ its.length <= i) F s5) F s9 := λ {y s9 G9 H9} hzy I9 e9 sa9 ev => by
        refine Aq (xeF (ev G9 _ s9 σ8 H9 (λ v H' => ∃ G',Ah G9 G' /\ SA X.K G' H' O /\ Is X.K G' y v) I9 (by
          rw [hYK]
          exact ⟨sa9,en8.ext e9,λ v G' H' q1 q2 q3 => ⟨G',q1,q2,q3⟩⟩))) λ uy s10 ⟨vy,H10,I10,r10,G10,e10,sa10,iy⟩ => ?_
        have p10 := I10.pin (dd,BF its) (by rw [hYpn,List.nil_append]; exact List.mem_append_left _ List.mem_cons_self)
        refine append_at (hsz := by show its.toArray.size <= sizeLine; rw [List.size_toArray]; omega) p10.1 λ h' hs' hD' => ?_
        have Ia : L2.Inv Y (C3 fp s7.heap) σ8 H10 s10 := I10.pins_of λ p hp => I10.pin p (by rw [hYpn,List.nil_append]; exact List.mem_append_right _ hp)
        have Ib : L2.Inv Y (C3 fp s7.heap) σ8 H10 { s10 with heap := h' } := Ia.turned (t' := s10.toks) (λ b o hb e => (hs'.2 b hb).trans e) p10.2.1 hDC (.inr (by rw [hYs]; exact Nat.le_refl _)) (λ x c e => (hYc x c e).1) (λ p hp => by
          rw [hYpn,List.nil_append] at hp
          obtain ⟨hb,_⟩ := KR hp
          exact Nat.ne_of_lt (by rw [<- hD]; exact hlt p.1 hb))
        have Ic : L2.Inv Y ((dd,BF (its ++ [uy])) :: C3 fp s7.heap) σ8 H10 { s10 with heap := h' } := Ib.pins_of λ p hp => by
          rcases List.mem_cons.mp hp with q | q
          · rw [q]
            refine ⟨hD'.trans ?_,p10.2.1,hDC,hDfs,λ v z => by cases z⟩
            congr 1
            simp [BF]
          · exact Ib.pin p (by rw [hYpn,List.nil_append]; exact q)
        refine again Ic (e9.trans e10) sa10 (vs' := vs ++ [vy]) ?_ (va5.append (.cons r10 .nil)) (by rw [List.length_append,List.length_singleton]; omega)
        rw [OU zs i z hz,hzy]
        exact (is5.ext ((e7.trans e9).trans e10)).append (.cons iy .nil)
      match ifs,kp1 with
      | [],kp1 =>
        obtain ⟨y,hzy,ev⟩ := kp1
        unfold compTests
        refine wpAny_bind (wpAny_tests_nil (wpAny_pure ?_))
        simp only [if_true]
        exact more hzy I8 (Ah.refl _) sa7 ev
      | [c],kp1 =>
        obtain ⟨k,tc,ht,hff⟩ := kp1
        unfold compTests
        refine wpAny_bind (wpAny_tests_one (Aq (xeF (tc G7 _ s8 σ8 H8 (λ b H' => b = k /\ ∃ G',Ah G7 G' /\ SA X.K G' H' O) I8 (by
          rw [hYK]
          exact ⟨sa7,en8,λ G' H' q1 q2 => ⟨rfl,G',q1,q2⟩⟩))) λ b s9 ⟨H9,I9,hb,G9,e9,sa9⟩ => wpAny_pure ?_))
        subst hb
        cases b with
        | true =>
          obtain ⟨y,hzy,ev⟩ := ht rfl
          simp only [if_true]
          exact more hzy I9 e9 sa9 ev
        | false =>
          simp only [Bool.false_eq_true,if_false]
          refine again I9 e9 sa9 (vs' := vs) ?_ va5 (Nat.le_succ_of_le hl5)
          rw [OU zs i z hz,hff rfl]
          simpa using is5.ext (e7.trans e9)
      | _ :: _ :: _,kp1 => exact kp1.elim
    · have hie : i = xs.length := by omega
      subst hie
      have dn := T.done Y hYp hYw hYK hYcm xs.length [(dd,BF its)] s5 σ5 H5 F I5 (fpY fr5 (λ p hp => by rw [List.mem_singleton.mp hp])) st5 (Yi.stop _ H5 (e5.g.trans sa5.sub) (Nat.le_refl _))
      rw [hYA] at dn
      refine Aq dn λ r s6 ⟨hr,I6⟩ => ?_
      subst hr
      have p6 := I6.pin (dd,BF its) (by rw [hYpn,List.nil_append]; exact List.mem_cons_self)
      rw [<- hzl,List.take_length] at is5
      have vl : vs.length <= sizeLine := by rw [va5.length]; omega
      have Ix : L2.Inv X pins σ (AL H5 dd (.lst vs)) s6 := by
        have un := I6.base
        rw [hYfs,hYex,<- hY] at un
        have un : Un (CG X.stack) fp H2 H5 s2.heap s6.heap := un
        refine I2.call' (ch := fp) (I6.os.trans (by rw [<- hY]; rfl)) (P0 un hHD hsD) ?_ I6.bare λ b hb => ?_
        · have hk6 := I6.hok
          rw [hYp,hYw] at hk6
          exact LP hk6 p6.2.1 ⟨vl,its,its.length,va5,p6.1⟩
        · obtain ⟨_,f1,_,f3,f4,f5⟩ := f2 b hb
          exact ⟨f3,f1,f4,f5⟩
      obtain ⟨ed,sd⟩ := sa5.laid (p := dd) (o := .lst vs) p6.2.1
      refine fin dd (dd + 1) s6 _ _ Ix ((e2.trans e5).trans ed) sd (.lst Bs (is5.ext ed)) ?_ ?_
      · have hC : dd + 1 = Y.env.locals := by rw [<- hY]; show dd + 1 = s2.heap.objs.size + 1; rw [hD]
        have ge : s2.heap.objs.size <= dd + 1 := by rw [hD]; exact Nat.le_succ _
        have := I2.fpOk (H' := AL H5 dd (.lst vs)) ge (by
          have q := I6.free
          rw [<- hC] at q
          rw [A4 (show dd + 1 ≠ dd from Nat.succ_ne_self _)]
          exact q)
        exact this
      · obtain ⟨m,hn,_⟩ := I6.loc
        rw [<- hY] at hn
        have hn : s6.heap.Ns (s2.heap.objs.size + 1) m := hn
        rw [hD] at hn
        exact ⟨m,hn⟩
  have eY : Y.env = { scope := relabel scope X.env,locals := dd + 1,globals := X.env.globals,cells := cellsFrom (dd + 1 + 1) scope.names (CP X.env scope.names []),qual := X.env.qual,func := none,code := X.env.code,frame := X.env.frame,builtins := X.env.builtins } := by
    rw [<- hY]
    show compEnvC _ _ _ _ = _
    rw [hD]
    rfl
  rw [<- eY]
  exact codeAny_compStart_list (loop _ rfl) (T.self X.A 0 _ _ _ st4 (loop _ rfl))
def C4 (XN : List Str) (xs cs : List (Str × NameKind)) (F : List Str) (js : List Nat) : Bool :=
 (js.map λ j => XN[j]?) == F.map some && (F.all λ x => cs.lookup x == some .free && (cs.all λ y => y.1 != x || y.2 != .cell) && (xs.lookup x == some .cell || xs.lookup x == some .free)) &&
 (cs.all λ y => (y.2 != .free || xs.lookup y.1 == some .cell || xs.lookup y.1 == some .free) && (y.2 != .local || cs.lookup y.1 == some .local))
def CI (ρ : Aj) (js : List Nat) : Aj := js.map λ j => (ρ[j]?).getD none
theorem K9 {F : List Str} {js : List Nat} (h : C4 X.N X.env.scope.names scope.names F js = true) : IR X scope := λ y hy e => by
 unfold C4 at h
 simp only [Bool.and_eq_true,List.all_eq_true] at h
 have q := (h.2 y hy).1
 rw [e] at q
 have q : (X.env.scope.names.lookup y.1 == some .cell || X.env.scope.names.lookup y.1 == some .free) = true := by simpa using q
 rcases (Bool.or_eq_true _ _).mp q with q | q
 ·exact .inl (show X.env.scope.names.lookup y.1 = _ by simpa using q)
 ·exact .inr (show X.env.scope.names.lookup y.1 = _ by simpa using q)
theorem K8 {F : List Str} {js : List Nat} (h : C4 X.N X.env.scope.names scope.names F js = true) : ∀ x ∈ scope.names,x.2 = .local -> scope.names.lookup x.1 = some .local := λ y hy e => by
 unfold C4 at h
 simp only [Bool.and_eq_true,List.all_eq_true] at h
 have q := (h.2 y hy).2
 rw [e] at q
 simpa using q
theorem La {T F : List Str} {js : List Nat} (h : C4 X.N X.env.scope.names scope.names F js = true) (i : Nat) (d : D) (e : (T.map (λ _ => (none : Option D)) ++ CI ρ js)[i]? = some (some d)) :
  ∃ (x : Str) (j : Nat),(T ++ F)[i]? = some x /\ scope.names.lookup x = some .free /\ (∀ y ∈ scope.names,y.1 = x -> y.2 ≠ .cell) /\ X.N[j]? = some x /\ ρ[j]? = some (some d) /\ Es X.env.scope x := by
 unfold C4 at h
 simp only [Bool.and_eq_true,List.all_eq_true,beq_iff_eq] at h
 obtain ⟨⟨h1,h2⟩,h3⟩ := h
 by_cases hi : i < T.length
 ·rw [List.getElem?_append_left (by simpa using hi),List.getElem?_map] at e
  cases q : T[i]? with
  | none => rw [q] at e; cases e
  | some _ => rw [q] at e; cases e
 ·rw [List.getElem?_append_right (by simpa using hi),List.length_map] at e
  unfold CI at e
  rw [List.getElem?_map] at e
  cases q : js[i - T.length]? with
  | none => rw [q] at e; cases e
  | some j =>
   rw [q] at e
   have e : (ρ[j]?).getD none = some d := Option.some.inj e
   have hρ : ρ[j]? = some (some d) := by
    cases q2 : ρ[j]? with
    | none => rw [q2] at e; cases e
    | some o => rw [q2] at e; rw [show o = some d from e]
   have hF := congrArg (λ l => l[i - T.length]?) h1
   simp only [List.getElem?_map,q,Option.map_some] at hF
   cases qF : F[i - T.length]? with
   | none => rw [qF] at hF; cases hF
   | some x =>
    rw [qF] at hF
    have hF : X.N[j]? = some x := Option.some.inj hF
    obtain ⟨⟨g1,g2⟩,g3⟩ := h2 x (List.mem_of_getElem? qF)
    refine ⟨x,j,by rw [List.getElem?_append_right wF]; exact qF,g1,λ y hy ey => ?_,hF,hρ,?_⟩
    ·have := g2 y hy
     rw [ey] at this
     simpa using this
    ·rcases (Bool.or_eq_true _ _).mp g3 with g | g
     ·exact .inr (.inl (by simpa using g))
     ·exact .inr (.inr (by simpa using g))
theorem Jf {ts fr : Aj} {T : List Str} (h : ts.length = T.length) : (ts ++ fr).length = (T.map (λ _ => (none : Option D)) ++ fr).length /\ ∀ (j : Nat) (d : D),(T.map (λ _ => (none : Option D)) ++ fr)[j]? = some (some d) -> (ts ++ fr)[j]? = some (some d) := by
 refine ⟨by simp [h],λ j d e => ?_⟩
 by_cases hj : j < T.length
 ·rw [List.getElem?_append_left (by simpa using hj),List.getElem?_map] at e
  cases q : T[j]? with
  | none => rw [q] at e; cases e
  | some _ => rw [q] at e; cases e
 ·rw [List.getElem?_append_right (by simpa using hj),List.length_map] at e
  rw [List.getElem?_append_right wF,h]
  exact e
def Gp (X : Cx) (T F : List Str) (js : List Nat) (ρ : Aj) (O : Ac) (scope : Scope) (tg elt : Expr) (ifs : List Expr) (x : D) (z : Option D) : Prop :=
 ∀ (s : Shared) (H : Hp) (fp : List Addr),∃ ts : Aj,ts.length = T.length /\ Tg (Dr X (T ++ F) scope s H fp) tg x (T.map (λ _ => (none : Option D)) ++ CI ρ js) (ts ++ CI ρ js) /\ P5 (Dr X (T ++ F) scope s H fp) (ts ++ CI ρ js) O elt ifs z
theorem WS (T F : List Str) (js : List Nat) (hi : Cn X ρ O tg iter xs) (hzl : zs.length = xs.length) (hsz : xs.length <= sizeLine) (turn : ∀ (i : Nat) (x : D) (z : Option D),xs[i]? = some x -> zs[i]? = some z -> Gp X T F js ρ O scope tg elt ifs x z)
  (hfl : F.length = js.length) (hB : C4 X.N X.env.scope.names scope.names F js = true) (hc : X.calm = true) (hk : scope.kind = .function) (hs : ∀ x,foldedSetIterable iter X.env x = pure x) :
  Ad X ρ O (.ListComp elt [⟨tg,iter,ifs,0⟩] scope pos) (.lst (zs.filterMap id)) := λ G pins s σ H Q I ⟨h1,h2,h3⟩ => by
 rw [eval_ListComp]
 refine Pp (T ++ F) js (T.map (λ _ => (none : Option D)) ++ CI ρ js) hi hc hk (K9 hB) (K8 hB) (by simp [CI,hfl]) (La hB) hzl hsz (λ s H fp i x z q1 q2 => ?_) I h1 h2 (λ dd C s' H' G' I' e' sa' is' fo ns => ?_) hs
 ·obtain ⟨ts,t1,t2,t3⟩ := turn i x z q1 q2 s H fp
  obtain ⟨u1,u2⟩ := Jf (fr := CI ρ js) t1
  exact ⟨_,t2,u1,u2,t3⟩
 ·obtain ⟨m,hn⟩ := ns
  refine ⟨m,hn,λ h' hs' => ?_⟩
  obtain ⟨f0,f1,f2,f3,f4,f5⟩ := fo
  exact ⟨.ref dd,H',I'.turned (t' := s'.toks) (λ b o hb e => (hs'.2 b hb).trans e) f0 f1 f3 f4 f5,rfl,h3 _ G' H' e' sa' is'⟩
theorem Ql {x : Str} {p spos : Pos} {P : Bf} (k : Nat) (T F : List Str) (js : List Nat) (hi : Cn X ρ O tg iter xs) (hzl : zs.length = xs.length) (hsz : xs.length <= sizeLine) (turn : ∀ (i : Nat) (x : D) (z : Option D),xs[i]? = some x -> zs[i]? = some z -> Gp X T F js ρ O scope tg elt ifs x z)
  (h : P.nx (ρ.set k (some (.lst (zs.filterMap id)))) O) (hN : X.N.Nodup) (hx : X.N[k]? = some x) (hlc : Et X.env.scope x) (hf : X.fn x = true \/ X.env.scope.names.lookup x = some .local)
  (hfl : F.length = js.length) (hB : C4 X.N X.env.scope.names scope.names F js = true) (hc : X.calm = true) (hk : scope.kind = .function) (hs : ∀ x,foldedSetIterable iter X.env x = pure x)
  (hsw : swapsWith (.ListComp elt [⟨tg,iter,ifs,0⟩] scope pos) (some (.Name x p)) spos.line X.env = pure true) : Ex X ρ O (.Assign [.Name x p] (.ListComp elt [⟨tg,iter,ifs,0⟩] scope pos) spos) P := λ G pins s σ H E I ⟨h1,h2,h3⟩ => by
 rw [PySem.exec_Assign_Name_used _ _ _ _ hsw]
 refine wpAny_bind (wpAny_standAt (wpAny_bind ?_))
 show wpAny _ _ (do let _ <- comprehension (.ListComp elt [⟨tg,iter,ifs,0⟩] scope pos) scope X.env _ (newList []) false (eval iter X.env) (some (assign (.Name x p) X.env))) _ _ s
 refine wpAny_bind (Aq (Pp (use := some (assign (.Name x p) X.env)) (Q := λ _ s' => SP X pins E .next s') (T ++ F) js (T.map (λ _ => (none : Option D)) ++ CI ρ js) hi hc hk (K9 hB) (K8 hB) (by simp [CI,hfl]) (La hB) hzl hsz (λ s H fp i x z q1 q2 => ?_) I h1 h2 (λ dd C s' H' G' I' e' sa' is' fo ns => ?_) hs) λ _ s' hq => wpAny_pure (wpAny_pure hq))
 ·obtain ⟨ts,t1,t2,t3⟩ := turn i x z q1 q2 s H fp
  obtain ⟨u1,u2⟩ := Jf (fr := CI ρ js) t1
  exact ⟨_,t2,u1,u2,t3⟩
 ·obtain ⟨m,hn⟩ := ns
  obtain ⟨f0,f1,f2,f3,f4,f5⟩ := fo
  refine wpAny_assign_Name (Ms I' hN hx hlc (v := .ref dd) rfl (λ s2 I2 ⟨a,sb,ha⟩ => ?_) hf)
  have hCa : C ≠ a := by
   rcases ha with q | q
   ·rw [q]; exact f1
   ·exact Ne.symm (f4 _ _ q)
  refine ⟨m,hn.sameBut sb hCa,λ h' hs' => ?_⟩
  exact ⟨_,H',I2.turned (t' := s2.toks) (λ b o hb e => (hs'.2 b hb).trans e) f0 f1 f3 f4 f5,h3.nx _ _ O G' H' e' sa' ((h2.ext e').set k is') h⟩
end
end DL
namespace DL
open PySem PySem.Spec PyProof.Rows L2 PySem.W
def Bj {α : Type} (lt : Nat -> Nat -> Bool) : KasT α -> α
 | .ret a => a
 | .ask i j k => Bj lt (k (lt i j))
theorem Fq {α β : Type} (lt : Nat -> Nat -> Bool) (f : α -> KasT β) : ∀ t : KasT α,Bj lt (t.bind f) = Bj lt (f (Bj lt t))
 | .ret _ => rfl
 | .ask i j k => Fq lt f (k (lt i j))
section
variable (key : Nat -> Int)
abbrev BC (i j : Nat) : Bool := decide (key i < key j)
def KQ (p : Array Nat) (i : Nat) : Int := key (p.getD i 0)
theorem Ly (p : Array Nat) : ∀ (f n : Nat),∃ m,Bj (BC key) (kas_asc p f n) = m /\ n <= m /\ m <= n + f /\ (∀ k,n <= k -> k < m -> KQ key p (k - 1) <= KQ key p k) /\ (m = n + f \/ KQ key p m < KQ key p (m - 1))
 | 0,n => ⟨n,rfl,Nat.le_refl _,Nat.le_refl _,λ k h1 h2 => by omega,.inl rfl⟩
 | f + 1,n => by
  by_cases h : KQ key p n < KQ key p (n - 1)
  ·refine ⟨n,?_,Nat.le_refl _,by omega,λ k h1 h2 => by omega,.inr h⟩
   show Bj _ (if BC key _ _ = true then _ else _) = _
   rw [if_pos (decide_eq_true (show key (p.getD n 0) < key (p.getD (n - 1) 0) from h))]
   rfl
  ·obtain ⟨m,e,h1,h2,h3,h4⟩ := Ly p f (n + 1)
   refine ⟨m,?_,by omega,by omega,λ k g1 g2 => ?_,by rcases h4 with h4 | h4; exact .inl wF; exact .inr h4⟩
   ·show Bj _ (if BC key _ _ = true then _ else _) = _
    rw [if_neg (by simpa [BC] using (show ¬ key (p.getD n 0) < key (p.getD (n - 1) 0) from h))]
    exact e
   ·by_cases hk : k = n
    ·subst hk; exact Int.not_lt.mp h
    ·exact h3 k wF g2
theorem Ek {p : Array Nat} {i : Nat} : p.getD i 0 = (p[i]?).getD 0 := by
 by_cases h : i < p.size
 ·simp [Array.getD,h]
 ·simp [Array.getD,h]
theorem LJ {p : Array Nat} {i j : Nat} (hj : j <= p.size) (k : Nat) : KQ key (kas_rev p i j) k = if i <= k /\ k < j then KQ key p (i + j - 1 - k) else KQ key p k := by
 unfold KQ kas_rev
 rw [Ek,getElem?_mirror_all hj k]
 split
 ·rw [Ek]
 ·rw [Ek]
theorem LI {p : Array Nat} {i j : Nat} (hj : j <= p.size) (h : ∀ k,i <= k -> k < j -> KQ key p k = KQ key p (j - 1)) (k : Nat) : KQ key (kas_rev p i j) k = KQ key p k := by
 rw [LJ key hj k]
 split
 ·next hk => rw [h k hk.1 hk.2,h _ wF wF]
 ·rfl
theorem Iv : ∀ (f : Nat) (p : Array Nat) (n q : Nat),q + 1 <= n -> n + f <= p.size -> (∀ i j,i <= j -> j < n -> KQ key p j <= KQ key p i) -> (∀ k,n - (q + 1) <= k -> k < n -> KQ key p k = KQ key p (n - 1)) ->
  ∃ p' n' q',Bj (BC key) (kas_desc f p n q) = (p',n',q') /\ n <= n' /\ n' <= n + f /\ q' + 1 <= n' /\ p'.Perm p /\ p'.size = p.size /\ (∀ i j,i <= j -> j < n' -> KQ key p' j <= KQ key p' i) /\ (∀ k,n' - (q' + 1) <= k -> k < n' -> KQ key p' k = KQ key p' (n' - 1))
 | 0,p,n,q,h1,h2,h3,h4 => ⟨p,n,q,rfl,Nat.le_refl _,Nat.le_refl _,h1,Array.Perm.refl _,rfl,h3,h4⟩
 | f + 1,p,n,q,h1,h2,h3,h4 => by
  by_cases h : KQ key p n < KQ key p (n - 1)
  ·have step : ∀ p2 : Array Nat,p2.Perm p -> p2.size = p.size -> (∀ k,KQ key p2 k = KQ key p k) -> (∀ i j,i <= j -> j < n + 1 -> KQ key p2 j <= KQ key p2 i) := λ p2 _ _ e i j hij hj => by
    rw [e,e]
    by_cases hjn : j = n
    ·subst hjn
     by_cases hin : i = j
     ·subst hin; exact Int.le_refl _
     ·have := h3 i (j - 1) wF wF; omega
    ·exact h3 i j hij wF
   by_cases hq : q > 0
   ·have hE : ∀ k,KQ key (kas_rev p (n - (q + 1)) n) k = KQ key p k := LI key wF h4
    obtain ⟨p',n',q',e,g⟩ := Iv f (kas_rev p (n - (q + 1)) n) (n + 1) 0 wF (by rw [kas_rev_size]; omega) (step _ (mirror_perm _ _ _ _) (kas_rev_size _ _) hE) (λ k k1 k2 => by rw [show k = n + 1 - 1 by omega])
    refine ⟨p',n',q',?_,by omega,by omega,g.2.2.1,g.2.2.2.1.trans (mirror_perm _ _ _ _),g.2.2.2.2.1.trans (kas_rev_size _ _),g.2.2.2.2.2⟩
    show Bj _ (if BC key _ _ = true then _ else _) = _
    rw [if_pos (decide_eq_true (show key (p.getD n 0) < key (p.getD (n - 1) 0) from h)),if_pos hq]
    exact e
   ·obtain ⟨p',n',q',e,g⟩ := Iv f p (n + 1) 0 wF wF (step _ (Array.Perm.refl _) rfl λ _ => rfl) (λ k k1 k2 => by rw [show k = n + 1 - 1 by omega])
    refine ⟨p',n',q',?_,by omega,by omega,g.2.2⟩
    show Bj _ (if BC key _ _ = true then _ else _) = _
    rw [if_pos (decide_eq_true (show key (p.getD n 0) < key (p.getD (n - 1) 0) from h)),if_neg hq]
    exact e
  ·by_cases h' : KQ key p (n - 1) < KQ key p n
   ·refine ⟨p,n,q,?_,Nat.le_refl _,by omega,h1,Array.Perm.refl _,rfl,h3,h4⟩
    show Bj _ (if BC key _ _ = true then _ else _) = _
    rw [if_neg (by simpa [BC] using (show ¬ key (p.getD n 0) < key (p.getD (n - 1) 0) from h))]
    show Bj _ (if BC key _ _ = true then _ else _) = _
    rw [if_pos (decide_eq_true (show key (p.getD (n - 1) 0) < key (p.getD n 0) from h'))]
    rfl
   ·have he : KQ key p n = KQ key p (n - 1) := by omega
    obtain ⟨p',n',q',e,g⟩ := Iv f p (n + 1) (q + 1) wF wF (λ i j hij hj => by
     by_cases hjn : j = n
     ·subst hjn
      by_cases hin : i = j
      ·subst hin; exact Int.le_refl _
      ·have := h3 i (j - 1) wF wF; omega
     ·exact h3 i j hij wF) (λ k k1 k2 => by
     show _ = KQ key p n
     by_cases hkn : k = n
     ·subst hkn; rfl
     ·rw [h4 k wF wF,he])
    refine ⟨p',n',q',?_,by omega,by omega,g.2.2⟩
    show Bj _ (if BC key _ _ = true then _ else _) = _
    rw [if_neg (by simpa [BC] using (show ¬ key (p.getD n 0) < key (p.getD (n - 1) 0) from h))]
    show Bj _ (if BC key _ _ = true then _ else _) = _
    rw [if_neg (by simpa [BC] using (show ¬ key (p.getD (n - 1) 0) < key (p.getD n 0) from h'))]
    exact e
def C6 (p : Array Nat) (m : Nat) : Prop := ∀ i j,i <= j -> j < m -> KQ key p i <= KQ key p j
theorem Mx {p : Array Nat} {m : Nat} (h : ∀ k,1 <= k -> k < m -> KQ key p (k - 1) <= KQ key p k) : C6 key p m := by
  intro i j hij hj
  induction j with
  | zero => have : i = 0 := by omega
            subst this; exact Int.le_refl _
  | succ j ih =>
    by_cases e : i = j + 1
    · subst e; exact Int.le_refl _
    · exact Int.le_trans (ih wF wF) (h (j + 1) wF hj)
theorem Mj {n nrem : Nat} {p : Array Nat} (h1 : 1 <= n) (hn : n <= nrem) (hz : nrem <= p.size) (h3 : ∀ i j,i <= j -> j < n -> KQ key p j <= KQ key p i) : ∃ m p',Bj (BC key) (kas_tail3 n nrem p) = (m,p') /\ 1 <= m /\ m <= nrem /\ p'.Perm p /\ p'.size = p.size /\ C6 key p' m := by
 obtain ⟨m,e,g1,g2,g3,g4⟩ := Ly key (kas_rev p 0 n) (nrem - n) n
 refine ⟨m,kas_rev p 0 n,?_,by omega,by omega,mirror_perm _ _ _ _,kas_rev_size _ _,Mx key λ k k1 k2 => ?_⟩
 ·unfold kas_tail3
  rw [Fq,e]
  rfl
 ·by_cases hk : n <= k
  ·exact g3 k hk k2
  ·rw [LJ key wF,LJ key wF,if_pos wF,if_pos wF]
   exact h3 _ _ wF wF
theorem Pe {n nrem : Nat} {p : Array Nat} (h1 : 1 <= n) (hn : n + 1 <= nrem) (hz : nrem <= p.size) (h3 : ∀ i j,i <= j -> j < n + 1 -> KQ key p j <= KQ key p i) : ∃ m p',Bj (BC key) (kas_descPart n nrem p) = (m,p') /\ 1 <= m /\ m <= nrem /\ p'.Perm p /\ p'.size = p.size /\ C6 key p' m := by
 obtain ⟨p1,n1,q1,e,g1,g2,g3,g4,g5,g6,g7⟩ := Iv key (nrem - (n + 1)) p (n + 1) 0 wF wF h3 (λ k k1 k2 => by rw [show k = n + 1 - 1 by omega])
 unfold kas_descPart
 rw [Fq,e]
 by_cases hq : q1 > 0
 ·have hE : ∀ k,KQ key (kas_rev p1 (n1 - (q1 + 1)) n1) k = KQ key p1 k := LI key wF g7
  obtain ⟨m,p',e',k1,k2,k3,k4,k5⟩ := Mj key (n := n1) (nrem := nrem) (p := kas_rev p1 (n1 - (q1 + 1)) n1) wF wF (by rw [kas_rev_size]; omega) (λ i j hij hj => by rw [hE,hE]; exact g6 i j hij hj)
  refine ⟨m,p',?_,k1,k2,k3.trans ((mirror_perm _ _ _ _).trans g4),k4.trans ((kas_rev_size _ _).trans g5),k5⟩
  show Bj _ (if q1 > 0 then _ else _) = _
  rw [if_pos hq]
  exact e'
 ·obtain ⟨m,p',e',k1,k2,k3,k4,k5⟩ := Mj key (n := n1) (nrem := nrem) (p := p1) wF wF wF g6
  refine ⟨m,p',?_,k1,k2,k3.trans g4,k4.trans g5,k5⟩
  show Bj _ (if q1 > 0 then _ else _) = _
  rw [if_neg hq]
  exact e'
theorem Xw {nrem : Nat} {p : Array Nat} (h1 : 1 <= nrem) (hz : nrem <= p.size) : ∃ m p',Bj (BC key) (kas_count nrem p) = (m,p') /\ 1 <= m /\ m <= nrem /\ p'.Perm p /\ p'.size = p.size /\ C6 key p' m := by
 obtain ⟨n,e,g1,g2,g3,g4⟩ := Ly key p (nrem - 1) 1
 have hs : C6 key p n := Mx key λ k k1 k2 => g3 k k1 k2
 unfold kas_count
 rw [Fq,e]
 by_cases hn : n = nrem
 ·refine ⟨n,p,?_,g1,by omega,Array.Perm.refl _,rfl,hs⟩
  rw [if_pos (by simpa using hn)]
  rfl
 ·rw [if_neg (by simpa using hn)]
  have hlt : KQ key p n < KQ key p (n - 1) := by
   rcases g4 with g4 | g4
   ·omega
   ·exact g4
  by_cases hn1 : n > 1
  ·rw [if_pos hn1]
   by_cases hr : KQ key p 0 < KQ key p (n - 1)
   ·refine ⟨n,p,?_,g1,by omega,Array.Perm.refl _,rfl,hs⟩
    show Bj _ (if BC key _ _ = true then _ else _) = _
    rw [if_pos (decide_eq_true (show key (p.getD 0 0) < key (p.getD (n - 1) 0) from hr))]
    rfl
   ·have heq : ∀ k,0 <= k -> k < n -> KQ key p k = KQ key p (n - 1) := λ k _ hk => by
     have a := hs 0 k wF hk
     have b := hs k (n - 1) wF wF
     omega
    have hE := LI key (p := p) (i := 0) (j := n) wF heq
    obtain ⟨m,p',e',k1,k2,k3,k4,k5⟩ := Pe key (n := n) (nrem := nrem) (p := kas_rev p 0 n) wF wF (by rw [kas_rev_size]; exact hz) (λ i j hij hj => by
     rw [hE,hE]
     by_cases hjn : j = n
     ·subst hjn
      by_cases hin : i = j
      ·subst hin; exact Int.le_refl _
      ·rw [heq i wF wF]; omega
     ·rw [heq i wF wF,heq j wF wF]
      exact Int.le_refl _)
    refine ⟨m,p',?_,k1,k2,k3.trans (mirror_perm _ _ _ _),k4.trans (kas_rev_size _ _),k5⟩
    show Bj _ (if BC key _ _ = true then _ else _) = _
    rw [if_neg (by simpa [BC] using (show ¬ key (p.getD 0 0) < key (p.getD (n - 1) 0) from hr))]
    exact e'
  ·rw [if_neg hn1]
   obtain rfl : n = 1 := by omega
   exact Pe key wF wF hz (λ i j hij hj => by
    by_cases hj1 : j = 1
    ·subst hj1
     by_cases hi1 : i = 1
     ·subst hi1; exact Int.le_refl _
     ·obtain rfl : i = 0 := by omega
      exact Int.le_of_lt hlt
    ·obtain rfl : j = 0 := by omega
     obtain rfl : i = 0 := by omega
     exact Int.le_refl _)
theorem KM (p : Array Nat) (k : Nat) (hs : C6 key p k) : ∀ (f l r : Nat),l <= r -> r <= k -> r - l <= f -> (∀ i,i < l -> KQ key p i <= KQ key p k) -> (∀ i,r <= i -> i < k -> KQ key p k < KQ key p i) ->
  ∃ m,Bj (BC key) (kas_place p k f l r) = m /\ m <= k /\ (∀ i,i < m -> KQ key p i <= KQ key p k) /\ (∀ i,m <= i -> i < k -> KQ key p k < KQ key p i)
 | 0,l,r,h1,h2,h3,h4,h5 => ⟨l,rfl,by omega,h4,λ i g1 g2 => h5 i wF g2⟩
 | f + 1,l,r,h1,h2,h3,h4,h5 => by
  by_cases hlr : l >= r
  ·refine ⟨l,?_,by omega,h4,λ i g1 g2 => h5 i wF g2⟩
   show Bj _ (if l >= r then _ else _) = _
   rw [if_pos hlr]; rfl
  ·by_cases hc : KQ key p k < KQ key p ((l + r) / 2)
   ·obtain ⟨m,e,g1,g2,g3⟩ := KM p k hs f l ((l + r) / 2) wF wF wF h4 (λ i i1 i2 => by
     have := hs ((l + r) / 2) i i1 i2; omega)
    refine ⟨m,?_,g1,g2,g3⟩
    show Bj _ (if l >= r then _ else _) = _
    rw [if_neg hlr]
    show Bj _ (if BC key _ _ = true then _ else _) = _
    rw [if_pos (decide_eq_true (show key (p.getD k 0) < key (p.getD ((l + r) / 2) 0) from hc))]
    exact e
   ·obtain ⟨m,e,g1,g2,g3⟩ := KM p k hs f ((l + r) / 2 + 1) r wF h2 wF (λ i i1 => by
     have := hs i ((l + r) / 2) wF wF; omega) h5
    refine ⟨m,?_,g1,g2,g3⟩
    show Bj _ (if l >= r then _ else _) = _
    rw [if_neg hlr]
    show Bj _ (if BC key _ _ = true then _ else _) = _
    rw [if_neg (by simpa [BC] using (show ¬ key (p.getD k 0) < key (p.getD ((l + r) / 2) 0) from hc))]
    exact e
end
end DL
set_option maxHeartbeats 2000000
namespace DL
open PySem PySem.Spec PyProof.Rows L2 PySem.W
def CM (k : Bool) (h : Heap) (it l : Addr) (i : Nat) : Prop := if k then h.IsListIter it l i else h.IsTupleIter it l i
def BJ (k : Bool) (h : Heap) (l : Addr) (xs : Array Value) : Prop := if k then h.IsList l xs else h.IsTuple l xs
section
variable {k : Bool} {h h' : Heap} {it l b : Addr} {i : Nat} {xs : Array Value}
theorem CM.at (q : CM k h it l i) (e : ∀ o,h.get? it = some o -> h'.get? it = some o) : CM k h' it l i := by
 cases k with
 | true => obtain ⟨o,g,r⟩ := (q : h.IsListIter it l i); exact ⟨o,e o g,r⟩
 | false => obtain ⟨o,g,r⟩ := (q : h.IsTupleIter it l i); exact ⟨o,e o g,r⟩
theorem BJ.at (q : BJ k h l xs) (e : ∀ o,h.get? l = some o -> h'.get? l = some o) : BJ k h' l xs := by
 cases k with
 | true => obtain ⟨o,g,r⟩ := (q : h.IsList l xs); exact ⟨o,e o g,r⟩
 | false => obtain ⟨o,g,r⟩ := (q : h.IsTuple l xs); exact ⟨o,e o g,r⟩
theorem CM.obj (q : CM k h it l i) : ∃ o,h.get? it = some o /\ ∀ v,o.data ≠ .cell v := by
 cases k with
 | true => obtain ⟨o,g,c,d⟩ := (q : h.IsListIter it l i); exact ⟨o,g,λ v z => by rw [d] at z; cases z⟩
 | false => obtain ⟨o,g,c,d⟩ := (q : h.IsTupleIter it l i); exact ⟨o,g,λ v z => by rw [d] at z; cases z⟩
end
theorem Pd {prog : Program} {w : World} {A : Around} {E : Value -> Shared -> Prop} {s : Shared} {T id : String} {b : Builtin} {v : Value} {Q : Value -> Shared -> Prop} (hT : s.TypeIs v T) (sl : Slot T (Str.ofString "__next__") id) (en : entryFor table id = some b) (ok : argsOk id ⟨[v],[]⟩)
  (h : wpAny (model prog w) A.in1 (b ⟨[v],[]⟩) (λ fin s' => ∃ x,fin = .done (.ret x) /\ Q x s') E s) : wpAny (model prog w) A (Builtin.SmallTypes.nextOf v) Q E s :=
 wpAny_bind (wpAny_callSpecial?_slot hT sl (wpAny_call_entry sl hT en (wpAny_mono h (λ fin s' ⟨x,e,q⟩ => ⟨x,e,wpAny_pure q⟩) λ _ _ e => e) ok))
section
variable {prog : Program} {w : World} {A : Around} {E : Value -> Shared -> Prop} {s : Shared} {it l : Addr} {i : Nat} {xs : Array Value} {Q : Value -> Shared -> Prop}
theorem QK {x : Value} (q : s.heap.IsTupleIter it l i) (t : s.heap.IsTuple l xs) (hx : xs[i]? = some x) (hQ : ∀ h',h'.IsTupleIter it l (i + 1) -> Heap.SameBut it s.heap h' -> Q x { s with heap := h' }) : wpAny (model prog w) A (Builtin.SmallTypes.nextOf (.ref it)) Q E s := by
 refine Pd q.typeIs F.slot_tuple_iterator_next F.entry_tuple_iterator_next (F.args_tuple_iterator_next_1 _) ?_
 obtain ⟨h,g,d,tk,os⟩ := s
 obtain ⟨⟨c,dc,da,sl⟩,gi,rfl,rfl⟩ := q
 obtain ⟨⟨c,dc,da,sl⟩,gt,rfl,n,rfl⟩ := t
 dsimp only at gi gt hQ
 wp_walk
 rw [Int.toNat_natCast,hx]
 wp_walk
 exact ⟨x,rfl,hQ _ ⟨_,Heap.get?_update_self _ gi rfl,rfl,by simp [Obj.mapFields,rawInt]⟩ (Heap.SameBut.update ..)⟩
theorem QL (hh : A.handled = none) (q : s.heap.IsTupleIter it l i) (t : s.heap.IsTuple l xs) (hx : xs[i]? = none) (hE : ∀ h' e,Heap.ExtBut it s.heap h' -> (∃ o,h'.get? e = some o /\ o.cls = .type "StopIteration") -> E (.ref e) { s with heap := h' }) : wpAny (model prog w) A (Builtin.SmallTypes.nextOf (.ref it)) Q E s := by
 refine Pd q.typeIs F.slot_tuple_iterator_next F.entry_tuple_iterator_next (F.args_tuple_iterator_next_1 _) ?_
 obtain ⟨h,g,d,tk,os⟩ := s
 obtain ⟨⟨c,dc,da,sl⟩,gi,rfl,rfl⟩ := q
 obtain ⟨⟨c,dc,da,sl⟩,gt,rfl,n,rfl⟩ := t
 dsimp only at gi gt hE
 have hh1 : A.in1.handled = none := hh
 wp_walk
 rw [Int.toNat_natCast,hx]
 wp_walk
 unfold raiseNew
 wp_walk
 exact hE _ _ (λ b u hb e => Heap.get?_push_of_some _ (Heap.get?_push_of_some _ ((Heap.get?_update_ne _ _ _ _ hb).trans e))) ⟨_,Heap.get?_push_size _ rfl,rfl⟩
theorem Jg {k : Bool} {x : Value} (q : CM k s.heap it l i) (t : BJ k s.heap l xs) (hx : xs[i]? = some x) (hQ : ∀ h',CM k h' it l (i + 1) -> Heap.SameBut it s.heap h' -> Q x { s with heap := h' }) : wpAny (model prog w) A (Builtin.SmallTypes.nextOf (.ref it)) Q E s :=
 match k with
 | true => wpAny_nextOf_list_item q t hx hQ
 | false => QK q t hx hQ
theorem Jh {k : Bool} (hh : A.handled = none) (q : CM k s.heap it l i) (t : BJ k s.heap l xs) (hx : xs[i]? = none) (hE : ∀ h' e,Heap.ExtBut it s.heap h' -> (∃ o,h'.get? e = some o /\ o.cls = .type "StopIteration") -> E (.ref e) { s with heap := h' }) : wpAny (model prog w) A (Builtin.SmallTypes.nextOf (.ref it)) Q E s :=
 match k with
 | true => wpAny_nextOf_list_end hh q t hx hE
 | false => QL hh q t hx hE
end
def Hb (n : Nat) (f0 f1 : Value) : Obj := { cls := .type "zip",dict := none,data := .fields #[f0,f1,.bool false,.ref (n + 2),.ref (n + 3)],slots := #[] }
structure ZW (n : Nat) (k1 k2 : Bool) (l1 l2 i1 i2 : Nat) (xs ys : Array Value) (f0 f1 a b : Value) (h : Heap) : Prop where
 z : h.get? (n + 4) = some { cls := .type "zip",dict := none,data := .fields #[f0,f1,.bool false,.ref (n + 2),.ref (n + 3)],slots := #[] }
 ti : h.get? (n + 2) = some { cls := .type "tuple",data := .seq #[.ref n,.ref (n + 1)] }
 to : h.get? (n + 3) = some { cls := .type "tuple",data := .seq #[a,b] }
 w1 : CM k1 h n l1 i1
 w2 : CM k2 h (n + 1) l2 i2
 s1 : BJ k1 h l1 xs
 s2 : BJ k2 h l2 ys
 b1 : l1 < n
 b2 : l2 < n
theorem ap {x y : Nat} (h : x ≠ y) : @Ne Addr x y := h
def Bv (n : Nat) (h h' : Heap) : Prop := ∀ c o,c ≠ n + 4 -> c ≠ n + 3 -> c ≠ n -> c ≠ n + 1 -> h.get? c = some o -> h'.get? c = some o
theorem Bv.refl (n : Nat) (h : Heap) : Bv n h h := λ _ _ _ _ _ _ e => e
theorem Bv.on {n : Nat} {h h1 h2 : Heap} (p : Bv n h h1) (q : Bv n h1 h2) : Bv n h h2 := λ c o c1 c2 c3 c4 e => q c o c1 c2 c3 c4 (p c o c1 c2 c3 c4 e)
theorem Bv.of {n c : Nat} {h h' : Heap} (e : Heap.SameBut c h h') (m : c = n + 4 \/ c = n + 3 \/ c = n \/ c = n + 1) : Bv n h h' :=
 λ d o d1 d2 d3 d4 q => e.extBut _ _ (by rcases m with rfl | rfl | rfl | rfl <;> assumption) q
section
variable {prog : Program} {w : World} {A : Around} {E : Value -> Shared -> Prop} {s : Shared} {n l1 l2 i1 i2 : Nat} {k1 k2 : Bool} {xs ys : Array Value} {f0 f1 a b v : Value}
theorem ZW.mark0 {Q : Unit -> Shared -> Prop} (W : ZW n k1 k2 l1 l2 i1 i2 xs ys f0 f1 a b s.heap) (hQ : ∀ h',ZW n k1 k2 l1 l2 i1 i2 xs ys v f1 a b h' -> Bv n s.heap h' -> h'.objs.size = s.heap.objs.size -> Q () { s with heap := h' }) : wpAny (model prog w) A (setField (.ref (n + 4)) 0 v) Q E s :=
 wpAny_setField_rec W.z (by simp) λ h' g e => hQ h' ⟨g,e.extBut _ _ (ap wF) W.ti,e.extBut _ _ (ap wF) W.to,W.w1.at λ o => e.extBut _ _ (ap wF),W.w2.at λ o => e.extBut _ _ (ap wF),W.s1.at λ o => e.extBut _ _ (ap (by have := W.b1; omega)),W.s2.at λ o => e.extBut _ _ (ap (by have := W.b2; omega)),W.b1,W.b2⟩ (.of e (.inl rfl)) e.1
theorem ZW.mark1 {Q : Unit -> Shared -> Prop} (W : ZW n k1 k2 l1 l2 i1 i2 xs ys f0 f1 a b s.heap) (hQ : ∀ h',ZW n k1 k2 l1 l2 i1 i2 xs ys f0 v a b h' -> Bv n s.heap h' -> h'.objs.size = s.heap.objs.size -> Q () { s with heap := h' }) : wpAny (model prog w) A (setField (.ref (n + 4)) 1 v) Q E s :=
 wpAny_setField_rec W.z (by simp) λ h' g e => hQ h' ⟨g,e.extBut _ _ (ap wF) W.ti,e.extBut _ _ (ap wF) W.to,W.w1.at λ o => e.extBut _ _ (ap wF),W.w2.at λ o => e.extBut _ _ (ap wF),W.s1.at λ o => e.extBut _ _ (ap (by have := W.b1; omega)),W.s2.at λ o => e.extBut _ _ (ap (by have := W.b2; omega)),W.b1,W.b2⟩ (.of e (.inl rfl)) e.1
theorem ZW.put {j : Nat} {Q : Unit -> Shared -> Prop} (W : ZW n k1 k2 l1 l2 i1 i2 xs ys f0 f1 a b s.heap) (hQ : ∀ h',ZW n k1 k2 l1 l2 i1 i2 xs ys f0 f1 (if j = 0 then v else a) (if j = 1 then v else b) h' -> Bv n s.heap h' -> h'.objs.size = s.heap.objs.size -> Q () { s with heap := h' }) : wpAny (model prog w) A (updateSeq (n + 3) (·.setIfInBounds j v)) Q E s :=
 wpAny_updateSeq_pair W.to λ h' g e => hQ h' ⟨e.extBut _ _ (ap wF) W.z,e.extBut _ _ (ap wF) W.ti,by rw [g]; match j with | 0 => rfl | 1 => rfl | _ + 2 => rfl,W.w1.at λ o => e.extBut _ _ (ap wF),W.w2.at λ o => e.extBut _ _ (ap wF),W.s1.at λ o => e.extBut _ _ (ap (by have := W.b1; omega)),W.s2.at λ o => e.extBut _ _ (ap (by have := W.b2; omega)),W.b1,W.b2⟩ (.of e (.inr (.inl rfl))) e.1
theorem ZW.draw1 {x : Value} {Q : Value -> Shared -> Prop} (W : ZW n k1 k2 l1 l2 i1 i2 xs ys f0 f1 a b s.heap) (hx : xs[i1]? = some x) (hQ : ∀ h',ZW n k1 k2 l1 l2 (i1 + 1) i2 xs ys f0 f1 a b h' -> Bv n s.heap h' -> h'.objs.size = s.heap.objs.size -> Q x { s with heap := h' }) : wpAny (model prog w) A (Builtin.SmallTypes.nextOf (.ref n)) Q E s :=
 Jg W.w1 W.s1 hx λ h' g e => hQ h' ⟨e.extBut _ _ (ap wF) W.z,e.extBut _ _ (ap wF) W.ti,e.extBut _ _ (ap wF) W.to,g,W.w2.at λ o => e.extBut _ _ (ap wF),W.s1.at λ o => e.extBut _ _ (ap (by have := W.b1; omega)),W.s2.at λ o => e.extBut _ _ (ap (by have := W.b2; omega)),W.b1,W.b2⟩ (.of e (.inr (.inr (.inl rfl)))) e.1
theorem ZW.draw2 {y : Value} {Q : Value -> Shared -> Prop} (W : ZW n k1 k2 l1 l2 i1 i2 xs ys f0 f1 a b s.heap) (hy : ys[i2]? = some y) (hQ : ∀ h',ZW n k1 k2 l1 l2 i1 (i2 + 1) xs ys f0 f1 a b h' -> Bv n s.heap h' -> h'.objs.size = s.heap.objs.size -> Q y { s with heap := h' }) : wpAny (model prog w) A (Builtin.SmallTypes.nextOf (.ref (n + 1))) Q E s :=
 Jg W.w2 W.s2 hy λ h' g e => hQ h' ⟨e.extBut _ _ (ap wF) W.z,e.extBut _ _ (ap wF) W.ti,e.extBut _ _ (ap wF) W.to,W.w1.at λ o => e.extBut _ _ (ap wF),g,W.s1.at λ o => e.extBut _ _ (ap (by have := W.b1; omega)),W.s2.at λ o => e.extBut _ _ (ap (by have := W.b2; omega)),W.b1,W.b2⟩ (.of e (.inr (.inr (.inr rfl)))) e.1
def ZF (f0 : Value) : Prop := f0 = .none \/ ∃ c : Nat,f0 = rawInt (c : Int)
theorem PZ {M : Model} {c : Addr} {Q : Option Obj -> Shared -> Prop} (h : Q (s.heap.get? c) s) : wpAny M A (loadIfAlive c) Q E s := λ _ _ _ => h
theorem ZW.free {Q : Bool -> Shared -> Prop} (W : ZW n k1 k2 l1 l2 i1 i2 xs ys f0 f1 a b s.heap) (hf : ZF f0) (y : Q true s) (z : ∀ h' f,ZW n k1 k2 l1 l2 i1 i2 xs ys f0 f a b h' -> Bv n s.heap h' -> h'.objs.size = s.heap.objs.size -> Q false { s with heap := h' }) : wpAny (model prog w) A (Builtin.SmallTypes.ownedTupleIsFree (.ref (n + 4))) Q E s := by
 obtain ⟨h,g,d,tk,os⟩ := s
 have hz := W.z
 dsimp only at hz
 rcases hf with rfl | ⟨c,rfl⟩
 ·wp_walk
  exact y
 ·wp_walk using PZ
  cases h.get? (Int.toNat (c : Int)) with
  | none => wp_walk; exact y
  | some o =>
   by_cases m : f1 = .bool true
   ·subst m
    wp_walk
    exact z _ _ W (Bv.refl _ _) rfl
   ·wp_walk using W.mark1
    exact λ h' V o1 o2 => wpAny_pure (z h' _ V o1 o2)
theorem Lb {M : Model} {β : Type} {x y : Value} {b : β} {f : Value -> β -> Sem (ForInStep β)} {Q : β -> Shared -> Prop} (h : wpAny M A (forIn [x,y] b f) Q E s) : wpAny M A (forIn #[x,y] b f) Q E s := by
 rw [<- Array.forIn_toList]; exact h
theorem ZW.more {h : Heap} {o : Obj} (W : ZW n k1 k2 l1 l2 i1 i2 xs ys f0 f1 a b h) : ZW n k1 k2 l1 l2 i1 i2 xs ys f0 f1 a b (h.push o) :=
 have e : ∀ c u,h.get? c = some u -> (h.push o).get? c = some u := λ c u q => Heap.get?_push_of_some _ q
 ⟨e _ _ W.z,e _ _ W.ti,e _ _ W.to,W.w1.at (e _),W.w2.at (e _),W.s1.at (e _),W.s2.at (e _),W.b1,W.b2⟩
theorem Bv.more {h h' : Heap} {o : Obj} (p : Bv n h h') : Bv n h (h'.push o) := p.on λ c u _ _ _ _ q => Heap.get?_push_of_some _ q
theorem Qh {i : Nat} {x y : Value} {Q : Value -> Shared -> Prop} (W : ZW n k1 k2 l1 l2 i i xs ys f0 f1 a b s.heap) (hf : ZF f0) (hx : xs[i]? = some x) (hy : ys[i]? = some y)
  (hQ : ∀ h' f0' f1' a' b',ZW n k1 k2 l1 l2 (i + 1) (i + 1) xs ys f0' f1' a' b' h' -> ZF f0' -> IsPair h' s.heap.objs.size x y -> Bv n s.heap h' -> Q (.ref s.heap.objs.size) { s with heap := h' }) :
  wpAny (model prog w) A (Builtin.«zip.__next__» ⟨[.ref (n + 4)],[]⟩) (λ fin s' => ∃ v,fin = .done (.ret v) /\ Q v s') E s := by
 obtain ⟨h,g,d,tk,os⟩ := s
 dsimp only at W hQ
 have z := W.z
 have t := W.ti
 have ok : ∀ h4 : Heap,h4.objs.size = h.objs.size -> ∀ v,(h4.push v).objs.size = h.objs.size + 1 := λ h4 e v => by rw [Heap.size_push,e]
 have lt : n + 4 < h.objs.size := Heap.lt_size z
 wp_walk using W.free hf,W.mark0
 ·-- the pair is used again
  intro h1 W1 o1 z1
  have t1 := W1.to
  wp_walk using wpAny_onRaise,W1.draw1 hx
  intro h2 W2 o2 z2
  have t2 := W2.to
  wp_walk using W2.put
  intro h3 W3 o3 z3
  wp_walk using wpAny_onRaise,W3.draw2 hy
  intro h4 W4 o4 z4
  have t4 := W4.to
  wp_walk using W4.put
  intro h5 W5 o5 z5
  have t5 := W5.to
  wp_walk using W5.more.mark0
  intro h6 W6 o6 z6
  wp_walk using W6.mark1
  intro h7 W7 o7 z7
  wp_walk
  have ol : Bv n h h5 := o1.on (o2.on (o3.on (o4.on o5)))
  have zl : h5.objs.size = h.objs.size := z5.trans (z4.trans (z3.trans (z2.trans z1)))
  have pr : IsPair (h5.push { cls := .type "tuple",data := .seq #[x,y] }) h5.objs.size x y := Heap.get?_push_size _ rfl
  have fin := hQ h7 _ _ _ _ W7 (.inr ⟨_,rfl⟩)
  rw [<- zl] at fin
  have far : ∀ j,j <= 4 -> h5.objs.size ≠ n + j := λ j hj => by omega
  exact ⟨_,rfl,fin (o7 _ _ (far 4 wE) (far 3 wE) (far 0 wE) (far 1 wE) (o6 _ _ (far 4 wE) (far 3 wE) (far 0 wE) (far 1 wE) pr)) (ol.more.on (o6.on o7))⟩
 ·intro h1 f W1 o1 z1
  wp_walk using Lb,W1.draw1 hx
  intro h2 W2 o2 z2
  wp_walk using W2.draw2 hy
  intro h3 W3 o3 z3
  wp_walk
  have zl : h3.objs.size = h.objs.size := z3.trans (z2.trans z1)
  have fin := hQ (h3.push { cls := .type "tuple",data := .seq #[x,y] }) _ _ _ _ W3.more hf
  rw [<- zl] at fin
  exact ⟨_,rfl,fin (Heap.get?_push_size _ rfl) (o1.on (o2.on o3)).more⟩
def ZE (n : Nat) (h : Heap) (f0 f1 : Value) (h' : Heap) (e : Addr) : Prop := h'.get? (n + 4) = some (Hb n f0 f1) /\ Bv n h h' /\ ∃ o,h'.get? e = some o /\ o.cls = .type "StopIteration"
theorem ZW.end1 {Q : Value -> Shared -> Prop} (hh : A.handled = none) (W : ZW n k1 k2 l1 l2 i1 i2 xs ys f0 f1 a b s.heap) (hx : xs[i1]? = none) (hE : ∀ h' e,ZE n s.heap f0 f1 h' e -> E (.ref e) { s with heap := h' }) : wpAny (model prog w) A (Builtin.SmallTypes.nextOf (.ref n)) Q E s :=
 Jh hh W.w1 W.s1 hx λ h' e x y => hE h' e ⟨x _ _ (ap wF) W.z,λ c o _ _ c3 _ q => x c o c3 q,y⟩
theorem ZW.end2 {Q : Value -> Shared -> Prop} (hh : A.handled = none) (W : ZW n k1 k2 l1 l2 i1 i2 xs ys f0 f1 a b s.heap) (hy : ys[i2]? = none) (hE : ∀ h' e,ZE n s.heap f0 f1 h' e -> E (.ref e) { s with heap := h' }) : wpAny (model prog w) A (Builtin.SmallTypes.nextOf (.ref (n + 1))) Q E s :=
 Jh hh W.w2 W.s2 hy λ h' e x y => hE h' e ⟨x _ _ (ap wF) W.z,λ c o _ _ _ c4 q => x c o c4 q,y⟩
theorem Qi {i : Nat} {Q : PySem.Fin -> Shared -> Prop} (hh : A.handled = none) (W : ZW n k1 k2 l1 l2 i i xs ys f0 f1 a b s.heap) (hf : ZF f0) (he : xs[i]? = none \/ ys[i]? = none)
  (hE : ∀ h' e,Bv n s.heap h' -> (∃ o,h'.get? e = some o /\ o.cls = .type "StopIteration") -> E (.ref e) { s with heap := h' }) :
  wpAny (model prog w) A (Builtin.«zip.__next__» ⟨[.ref (n + 4)],[]⟩) Q E s := by
 obtain ⟨h,g,d,tk,os⟩ := s
 dsimp only at W hE
 have z := W.z
 have t := W.ti
 have hb : ∀ h1 h2 e f,Bv n h h1 -> ZE n h1 f f1 h2 e -> wpAny (model prog w) A (setField (.ref (n + 4)) 0 .none) (λ _ s' => E (.ref e) s') E ⟨h2,g,d,tk,os⟩ := λ h1 h2 e f p ⟨g2,p2,o,q,c⟩ =>
  wpAny_setField_rec g2 (by simp [Hb]) λ h3 g3 e3 => hE h3 e (p.on (p2.on (.of e3 (.inl rfl)))) ⟨o,e3.extBut _ _ (λ x => by subst x; rw [g2] at q; cases q; simp [Hb] at c) q,c⟩
 wp_walk using W.free hf,W.mark0
 ·intro h1 W1 o1 z1
  have t1 := W1.to
  cases hx : xs[i]? with
  | none =>
   wp_walk using wpAny_onRaise,W1.end1 hh hx
   exact λ h2 e q => hb h1 h2 e _ o1 q
  | some x =>
   have hy : ys[i]? = none := he.resolve_left (by rw [hx]; simp)
   wp_walk using wpAny_onRaise,W1.draw1 hx
   intro h2 W2 o2 z2
   have t2 := W2.to
   wp_walk using W2.put
   intro h3 W3 o3 z3
   wp_walk using wpAny_onRaise,W3.end2 hh hy
   exact λ h4 e q => hb h3 h4 e _ (o1.on (o2.on o3)) q
 ·intro h1 f W1 o1 z1
  cases hx : xs[i]? with
  | none =>
   wp_walk using Lb,W1.end1 hh hx
   exact λ h2 e q => hE h2 e (o1.on q.2.1) q.2.2
  | some x =>
   have hy : ys[i]? = none := he.resolve_left (by rw [hx]; simp)
   wp_walk using Lb,W1.draw1 hx
   intro h2 W2 o2 z2
   wp_walk using W2.end2 hh hy
   exact λ h3 e q => hE h3 e (o1.on (o2.on q.2.1)) q.2.2
end
section
variable {prog : Program} {w : World} {A : Around} {E : Value -> Shared -> Prop} {s : Shared} {n l1 l2 i1 i2 i : Nat} {k1 k2 : Bool} {xs ys : Array Value} {f0 f1 a b v : Value}
theorem HQ {T id : String} {bi : Builtin} {Q : Option Value -> Shared -> Prop} (hT : s.TypeIs v T) (sl : Slot T (Str.ofString "__next__") id) (en : entryFor table id = some bi) (ok : argsOk id ⟨[v],[]⟩)
  (h : wpAny (model prog w) A.in1 (bi ⟨[v],[]⟩) (λ fin s' => ∃ x,fin = .done (.ret x) /\ Q (some x) s') (λ e s' => s'.TypeIs e "StopIteration" /\ Q none s') s) : wpAny (model prog w) A (pyNext v) Q E s :=
 wpAny_bind (wpAny_attempt (wpAny_callSpecial?_slot hT sl (wpAny_call_entry sl hT en (wpAny_mono h (λ fin s' ⟨x,e,q⟩ => ⟨x,e,wpAny_pure q⟩) λ e s' ⟨t,q⟩ => wpAny_bind (wpAny_isInstance (T := "StopIteration") (b := true) t isSubtype_stop (wpAny_pure q))) ok)))
def EZ (k1 k2 : Bool) (n l1 l2 i : Nat) (h : Heap) : Prop := ∃ f0 f1 a b,ZF f0 /\ h.get? (n + 4) = some (Hb n f0 f1) /\ IsPair h (n + 2) (.ref n) (.ref (n + 1)) /\ IsPair h (n + 3) a b /\ CM k1 h n l1 i /\ CM k2 h (n + 1) l2 i
theorem ZW.tn {h : Heap} (W : ZW n k1 k2 l1 l2 i i xs ys f0 f1 a b h) (hf : ZF f0) : EZ k1 k2 n l1 l2 i h := ⟨f0,f1,a,b,hf,W.z,W.ti,W.to,W.w1,W.w2⟩
theorem Vt {x y : Value} {Q : Option Value -> Shared -> Prop} (W : ZW n k1 k2 l1 l2 i i xs ys f0 f1 a b s.heap) (hf : ZF f0) (hx : xs[i]? = some x) (hy : ys[i]? = some y)
  (hQ : ∀ h' f0' f1' a' b',ZW n k1 k2 l1 l2 (i + 1) (i + 1) xs ys f0' f1' a' b' h' -> ZF f0' -> IsPair h' s.heap.objs.size x y -> Bv n s.heap h' -> Q (some (.ref s.heap.objs.size)) { s with heap := h' }) : wpAny (model prog w) A (pyNext (.ref (n + 4))) Q E s :=
 HQ ⟨_,W.z,rfl⟩ F.slot_zip_next F.entry_zip_next (F.args_zip_next_1 _) (Qh (Q := λ v s' => Q (some v) s') W hf hx hy hQ)
theorem Vs {Q : Option Value -> Shared -> Prop} (hh : A.handled = none) (W : ZW n k1 k2 l1 l2 i i xs ys f0 f1 a b s.heap) (hf : ZF f0) (he : xs[i]? = none \/ ys[i]? = none) (hQ : ∀ h',Bv n s.heap h' -> Q none { s with heap := h' }) : wpAny (model prog w) A (pyNext (.ref (n + 4))) Q E s :=
 HQ ⟨_,W.z,rfl⟩ F.slot_zip_next F.entry_zip_next (F.args_zip_next_1 _) (Qi hh W hf he λ h' e p q => ⟨q,hQ h' p⟩)
theorem Wn {tg : Expr} {u : Value} {Q : Unit -> Shared -> Prop} (W : ZW n k1 k2 l1 l2 i1 i2 xs ys f0 f1 a b s.heap) (hf : ZF f0) (hQ : ∀ h' f,ZW n k1 k2 l1 l2 i1 i2 xs ys f f1 a b h' -> ZF f -> Bv n s.heap h' -> Q () { s with heap := h' }) : wpAny (model prog w) A (letOwnedTupleGo tg (.ref (n + 4)) u) Q E s := by
 have same : Q () s := hQ s.heap _ W hf (Bv.refl _ _)
 obtain ⟨h,g,d,tk,os⟩ := s
 have z := W.z
 dsimp only at z
 unfold letOwnedTupleGo
 cases tg <;> try exact wpAny_pure same
 all_goals cases u <;> try exact wpAny_pure same
 all_goals
  wp_walk
  split
  ·exact wpAny_bind (wpAny_rule (W.mark0 (s := ⟨h,g,d,tk,os⟩) (v := .none) λ h' V o z => hQ h' _ V (.inl rfl) o))
  ·exact wpAny_pure same
theorem N1 {T id nid : String} {bi : Builtin} {Q : Value -> Shared -> Prop} (hT : s.TypeIs v T) (sl : Slot T (Str.ofString "__iter__") id) (en : entryFor table id = some bi) (ok : argsOk id ⟨[v],[]⟩) (nx : Slot T (Str.ofString "__next__") nid)
  (h : wpAny (model prog w) A.in1 (bi ⟨[v],[]⟩) (λ fin s' => fin = .done (.ret v) /\ s' = s) E s) (q : Q v s) : wpAny (model prog w) A (pyIter v) Q E s :=
 wpAny_pyIter_slot hT sl (wpAny_call_entry sl hT en (wpAny_mono h (λ fin s' ⟨e1,e2⟩ => ⟨v,e1,T,_,by rw [e2]; exact hT,nx.lookup,by rw [e2]; exact q⟩) λ _ _ e => e) ok)
theorem K2 {k : Bool} {l : Addr} {Q : Value -> Shared -> Prop} (t : BJ k s.heap l xs) (hQ : ∀ o,o.isFreed = false -> (∀ h : Heap,∀ c,h.get? c = some o -> CM k h c l 0) -> Q (.ref s.heap.objs.size) { s with heap := s.heap.push o }) : wpAny (model prog w) A (pyIter (.ref l)) Q E s :=
 match k with
 | true => wpAny_pyIter_list t (hQ _ rfl λ h c e => ⟨_,e,rfl,rfl⟩)
 | false => wpAny_pyIter_tuple t (hQ _ rfl λ h c e => ⟨_,e,rfl,rfl⟩)
end
theorem VO (h : Heap) (a b c d e : Obj) (fa : a.isFreed = false) (fb : b.isFreed = false) (fc : c.isFreed = false) (fd : d.isFreed = false) (fe : e.isFreed = false) :
  let m := ((((h.push a).push b).push c).push d).push e
  m.get? h.objs.size = some a /\ m.get? (h.objs.size + 1) = some b /\ m.get? (h.objs.size + 2) = some c /\ m.get? (h.objs.size + 3) = some d /\ m.get? (h.objs.size + 4) = some e /\ ∀ x o,h.get? x = some o -> m.get? x = some o := by
 have up : ∀ (k : Heap) (o : Obj) x u,k.get? x = some u -> (k.push o).get? x = some u := λ k o x u q => Heap.get?_push_of_some _ q
 have at_ : ∀ (k : Heap) (o : Obj) x,o.isFreed = false -> x = k.objs.size -> (k.push o).get? x = some o := λ k o x f q => by rw [q]; exact Heap.get?_push_size _ f
 exact ⟨up _ _ _ _ (up _ _ _ _ (up _ _ _ _ (up _ _ _ _ (at_ _ _ _ fa rfl)))),up _ _ _ _ (up _ _ _ _ (up _ _ _ _ (at_ _ _ _ fb (by simp [Heap.size_push])))),up _ _ _ _ (up _ _ _ _ (at_ _ _ _ fc (by simp [Heap.size_push]))),up _ _ _ _ (at_ _ _ _ fd (by simp [Heap.size_push])),at_ _ _ _ fe (by simp [Heap.size_push]),λ x o q => up _ _ _ _ (up _ _ _ _ (up _ _ _ _ (up _ _ _ _ (up _ _ _ _ q))))⟩
theorem Qg (k1 k2 : Bool) (l1 l2 : Addr) (xs ys : Array Value) :
  Meets (Builtin.«zip.__new__» ⟨[.type "zip",.ref l1,.ref l2],[]⟩) (λ _ R s => BJ k1 s.heap l1 xs /\ BJ k2 s.heap l2 ys /\
   ∀ h',ZW s.heap.objs.size k1 k2 l1 l2 0 0 xs ys .none (.bool false) .none .none h' -> (∀ c o,s.heap.get? c = some o -> h'.get? c = some o) -> R (.ok (.ret (.ref (s.heap.objs.size + 4)))) { s with heap := h' }) :=
 .of_wp λ prog w A R s q => by
  obtain ⟨h,g,d,tk,os⟩ := s
  obtain ⟨t1,t2,q⟩ := q
  have hsub := sub_zip
  have lt : ∀ {k : Bool} {l : Addr} {zs : Array Value},BJ k h l zs -> l < h.objs.size := λ {k l zs} q => by
   cases k with
   | true => obtain ⟨o,g,_⟩ := (q : h.IsList l zs); exact Heap.lt_size g
   | false => obtain ⟨o,g,_⟩ := (q : h.IsTuple l zs); exact Heap.lt_size g
  have p1 := lt t1
  have p2 := lt t2
  wp_walk using K2 t1
  intro a1 f1 i1
  wp_walk using K2 (s := ⟨h.push a1,g,d,tk,os⟩) (t2.at λ o e => Heap.get?_push_of_some _ e)
  intro a2 f2 i2
  wp_walk
  simp only [Heap.size_push,Nat.add_assoc,Nat.reduceAdd]
  obtain ⟨e0,e1,e2,e3,e4,up⟩ := VO h a1 a2 { cls := .type "tuple",data := .seq #[.ref h.objs.size,.ref (h.objs.size + 1)] } { cls := .type "tuple",data := .seq #[.none,.none] } { cls := .type "zip",data := .fields #[.none,.bool false,.bool false,.ref (h.objs.size + 2),.ref (h.objs.size + 3)] } f1 f2 rfl rfl rfl
  exact ⟨_,rfl,q _ ⟨e4,e2,e3,i1 _ _ e0,i2 _ _ e1,t1.at (up _),t2.at (up _),p1,p2⟩ up⟩
theorem XG {prog : Program} {w : World} {A : Around} {E : Value -> Shared -> Prop} {s : Shared} {k1 k2 : Bool} {l1 l2 : Addr} {xs ys : Array Value} {Q : Value -> Shared -> Prop} (t1 : BJ k1 s.heap l1 xs) (t2 : BJ k2 s.heap l2 ys)
  (hQ : ∀ h',EZ k1 k2 s.heap.objs.size l1 l2 0 h' -> (∀ c o,s.heap.get? c = some o -> h'.get? c = some o) -> Q (.ref (s.heap.objs.size + 4)) { s with heap := h' }) :
  wpAny (model prog w) A (call (.type "zip") [.ref l1,.ref l2]) Q E s :=
 callType_new F.called_zip wE (F.typeCall_zip_2 _ _) (F.newCall_zip_2 _ _) (λ obj => F.args_object_init_3 obj _ _) F.entry_zip_new (Qg k1 k2 l1 l2 xs ys) ⟨t1,t2,λ h' W up => ⟨⟨_,W.z,rfl⟩,hQ h' (W.tn (.inl rfl)) up⟩⟩
def Sq (k : Bool) (K : PySem.W.Frag) (H : Hp) (a : Addr) (xs : List V) : Prop := if k then Be K H a xs else Bc K H a xs
def LK (k1 k2 : Bool) (K : PySem.W.Frag) (l1 l2 : Addr) : It :=
  ⟨λ i H => ∃ as bs a b,Sq k1 K H l1 as /\ Sq k2 K H l2 bs /\ as[i]? = some a /\ bs[i]? = some b,
   λ i H x H' => ∃ T a b,H T = none /\ H' = AL H T (.tup [a,b]) /\ x = .ref T /\ (∀ as,Sq k1 K H l1 as -> as[i]? = some a) /\ ∀ bs,Sq k2 K H l2 bs -> bs[i]? = some b,
   λ i H => ∃ as bs,Sq k1 K H l1 as /\ Sq k2 K H l2 bs /\ (as.length <= i \/ bs.length <= i)⟩
section
variable {X : Cx} {pins : List (Addr × Obj)} {σ : L2.St} {H : Hp} {s : Shared} {k : Bool} {a : Addr} {xs ys : List V}
theorem DN (I : L2.Inv X pins σ H s) (h : Sq k X.K H a xs) : ∃ its : List Value,Az xs its /\ BJ k s.heap a its.toArray /\ xs.length <= sizeLine := by
 cases k with
 | true => obtain ⟨its,v,p,z⟩ := I.list h; exact ⟨its,v,p.isList,z⟩
 | false => obtain ⟨its,v,p,z⟩ := I.tuple h; exact ⟨its,v,(p : IsTup _ _ _),z⟩
theorem LO (I : L2.Inv X pins σ H s) (h : Sq k X.K H a xs) (h' : Sq k X.K H a ys) : xs = ys := by
 cases k with
 | true => exact I.list_inj h h'
 | false => exact I.tuple_inj h h'
end
theorem IQ {X : Cx} {pins : List (Addr × Obj)} {σ : L2.St} {H : Hp} {s : Shared} {h' : Heap} {t' : Nat} {fp : List Addr} (I : L2.Inv X pins σ H s) (hf : ∀ b ∈ fp,Cg X pins H b) (k : ∀ b o,b ∉ fp -> s.heap.get? b = some o -> h'.get? b = some o) : L2.Inv X pins σ H { s with heap := h',toks := t' } := by
 have nit : ∀ b u,H b = some u -> b ∉ fp := λ b u e z => by rw [(hf b z).1] at e; cases e
 refine I.step (g' := s.gens) (d' := s.drawn) (ch := fp) (λ b hb => ?_) (λ b o _ _ hc e _ => k b o hc e) (λ b o _ _ hc e _ => ⟨o.slots,k b o hc e⟩) (λ _ _ _ _ n => n) (λ b o hc e => ⟨o,k b o hc e⟩) (λ _ _ e => e) (λ _ _ _ e => e) (λ b ps e => ⟨#[],by rw [e]; simp⟩) (λ m hm => ?_) (λ b u e => ?_) I.bare
 ·obtain ⟨f0,f1,f2,f3,f4,f5⟩ := hf b hb
  exact ⟨f3,f1,f4,f5⟩
 ·obtain ⟨o,es,ep,ho,r⟩ := hm
  exact ⟨o,es,ep,k _ o (λ z => (hf _ z).2.1 rfl) ho,r⟩
 ·refine (I.hok b u e).stay (λ c v hc q => k c v ?_ q) (λ _ q => q) λ _ _ q => q
  rcases hc with z | z
  ·rw [z]; exact nit b u e
  ·exact nit c _ z
theorem P8 {X : Cx} {pins : List (Addr × Obj)} {σ : L2.St} {H : Hp} {s : Shared} {T : Addr} {o : HO} (I : L2.Inv X pins σ H s) (hT : Cg X pins H T) (hs : X.s₀.heap.objs.size <= T) (new : B8 X.prog X.w (AL H T o) s.heap T o) : L2.Inv X pins σ (AL H T o) s := by
 obtain ⟨f0,f1,f2,f3,f4,f5⟩ := hT
 have ne : ∀ b u,H b = some u -> b ≠ T := λ b u e z => by rw [z,f0] at e; cases e
 have sn : ∀ b o,X.s₀.heap.get? b = some o -> b ≠ T := λ b o e => Nat.ne_of_lt (Nat.lt_of_lt_of_le (Heap.lt_size e) hs)
 exact ⟨I.ok,I.os,I.bare,⟨I.base.keep,I.base.slot,λ b ob q n hx => by rw [A4 (sn b ob q)]; exact I.base.free b ob q n hx,I.base.there,λ b xs q => by have e := I.base.tups b xs q; rw [A4 (ne b _ e)]; exact e,λ b ob u q => by have e := I.base.frzs b ob u q; rw [A4 (ne b _ e)]; exact e,λ b ps q => by obtain ⟨m,e⟩ := I.base.tbls b ps q; exact ⟨m,by rw [A4 (ne b _ e)]; exact e⟩⟩,
  I.loc,I.cell,by rw [A4 (Ne.symm f1)]; exact I.free,λ x c e => by rw [A4 (f4 x c e)]; exact I.freeC x c e,λ p hp => by obtain ⟨a,b,c⟩ := I.pin p hp; exact ⟨a,by rw [A4 (f5 p hp)]; exact b,c⟩,LP I.hok f0 new,I.len⟩
def Cb (n : Nat) : List Addr := [n,n + 1,n + 2,n + 3,n + 4]
theorem Qc {k1 k2 : Bool} {n l1 l2 i : Nat} {h h' : Heap} (st : EZ k1 k2 n l1 l2 i h) (k : ∀ b ∈ Cb n,∀ o,h.get? b = some o -> h'.get? b = some o) : EZ k1 k2 n l1 l2 i h' := by
 obtain ⟨f0,f1,a,b,hf,z,ti,to,w1,w2⟩ := st
 exact ⟨f0,f1,a,b,hf,k _ (by simp [Cb]) _ z,k _ (by simp [Cb]) _ ti,k _ (by simp [Cb]) _ to,w1.at (k _ (by simp [Cb])),w2.at (k _ (by simp [Cb]))⟩
theorem LS {k1 k2 : Bool} {n l1 l2 i : Nat} {h : Heap} (st : EZ k1 k2 n l1 l2 i h) : ∀ b ∈ Cb n,∃ o,h.get? b = some o /\ ∀ v,o.data ≠ .cell v := by
 obtain ⟨f0,f1,a,b,hf,z,ti,to,w1,w2⟩ := st
 have all : ∀ P : Addr -> Prop,P n -> P (n + 1) -> P (n + 2) -> P (n + 3) -> P (n + 4) -> ∀ b ∈ Cb n,P b := λ P p0 p1 p2 p3 p4 b hb => by
  simp only [Cb,List.mem_cons,List.not_mem_nil,or_false] at hb
  rcases hb with rfl | rfl | rfl | rfl | rfl <;> assumption
 exact all _ w1.obj w2.obj ⟨_,ti,λ v e => by cases e⟩ ⟨_,to,λ v e => by cases e⟩ ⟨_,z,λ v e => by cases e⟩
theorem G8 {n : Nat} {c : Addr} (h : c ∉ Cb n) : c ≠ n + 4 /\ c ≠ n + 3 /\ c ≠ n /\ c ≠ n + 1 :=
 ⟨λ e => h (by simp [Cb,e]),λ e => h (by simp [Cb,e]),λ e => h (by simp [Cb,e]),λ e => h (by simp [Cb,e])⟩
theorem Bv.fp {n : Nat} {h h' : Heap} (p : Bv n h h') : ∀ c o,c ∉ Cb n -> h.get? c = some o -> h'.get? c = some o := λ c o hc => p c o (G8 hc).1 (G8 hc).2.1 (G8 hc).2.2.1 (G8 hc).2.2.2
theorem QD {P : Program} {w : World} {K : PySem.W.Frag} {tg : Expr} (k1 k2 : Bool) (n l1 l2 : Nat) (hl1 : l1 < n) (hl2 : l2 < n) : EO P w K tg (LK k1 k2 K l1 l2) (Cb n) (n + 4) (EZ k1 k2 n l1 l2) where
 mem := by simp [Cb]
 obj := λ i h st => LS st
 keep := λ i h h' st k => Qc st k
 item := by
  intro X hP hw hK hc i pins s σ H E I hf st hg
  subst hP hw hK
  obtain ⟨as,bs,a,b,q1,q2,ga,gb⟩ := hg
  obtain ⟨ia,va,sa,_⟩ := DN I q1
  obtain ⟨ib,vb,sb,_⟩ := DN I q2
  obtain ⟨ua,hua,rua⟩ := va.get ga
  obtain ⟨ub,hub,rub⟩ := vb.get gb
  have hTn : s.heap.objs.size ∉ Cb n := λ m => let ⟨o,e,_⟩ := LS st _ m; Nat.lt_irrefl _ (Heap.lt_size e)
  obtain ⟨f0,f1,a0,b0,zf,z,ti,to,w1,w2⟩ := st
  refine Vt (x := ua) (y := ub) ⟨z,ti,to,w1,w2,sa,sb,hl1,hl2⟩ zf (by simpa using hua) (by simpa using hub) λ h1 f0' f1' a' b' W1 zf1 pr o1 => ⟨_,rfl,Wn (s := { s with heap := h1 }) W1 zf1 λ h2 f W2 zf2 o2 => ?_⟩
  have Iz : L2.Inv X pins σ H { s with heap := h2,toks := s.toks } := IQ I hf (o1.on o2).fp
  have fr : H s.heap.objs.size = none := I.hok.fresh (Nat.le_refl _)
  refine ⟨.ref s.heap.objs.size,AL H s.heap.objs.size (.tup [a,b]),?_,rfl,⟨_,a,b,fr,rfl,rfl,λ cs q => ?_,λ cs q => ?_⟩,W2.tn zf2,λ c hb => ?_⟩
  ·refine P8 Iz (I.fpOk (Nat.le_refl _) fr) I.sz ⟨show 2 <= sizeLine by decide,[ua,ub],.cons rua (.cons rub .nil),?_⟩
   exact ⟨_,o2.fp _ _ hTn pr,rfl,rfl,_,rfl⟩
  ·rw [LO I q q1]; exact ga
  ·rw [LO I q q2]; exact gb
  ·rw [A4 (λ e => hTn (by rw [<- e]; exact hb))]; exact (hf c hb).1
 done := by
  intro X hP hw hK hc i pins s σ H E I hf st hg
  subst hP hw hK
  obtain ⟨as,bs,q1,q2,hend⟩ := hg
  obtain ⟨ia,va,sa,_⟩ := DN I q1
  obtain ⟨ib,vb,sb,_⟩ := DN I q2
  obtain ⟨f0,f1,a0,b0,zf,z,ti,to,w1,w2⟩ := st
  have e1 := va.length
  have e2 := vb.length
  exact Vs (I.ok.hd hc) ⟨z,ti,to,w1,w2,sa,sb,hl1,hl2⟩ zf (hend.imp (λ e => by simp; omega) λ e => by simp; omega) λ h' p => ⟨rfl,IQ (t' := s.toks) I hf p.fp⟩
 self := λ A i s Q E st h => by
  obtain ⟨f0,f1,a0,b0,zf,z,_⟩ := st
  exact N1 ⟨_,z,rfl⟩ F.slot_zip_iter F.entry_zip_iter (F.args_zip_iter_1 _) F.slot_zip_next (wpAny_pure ⟨rfl,rfl⟩) h
end DL
set_option maxHeartbeats 1000000
namespace DL
open PySem PySem.Spec PyProof.Rows L2 PySem.W
def LF (d : D) (xs : List D) : Prop := d = .lst xs \/ d = .scr xs \/ d = .tup xs
theorem LF.lt {O : Ac} {d : D} {xs : List D} (h : LF d xs) : LT O d xs := by
 rcases h with h | h | h
 ·exact .inl (.inl h)
 ·exact .inl (.inr (.inl h))
 ·exact .inr h
theorem Sq.same {k : Bool} {K : PySem.W.Frag} {H H' : Hp} {a : Addr} {xs : List V} (e : Bu H H') (h : Sq k K H a xs) : Sq k K H' a xs := by
 cases k with
 | true => exact e.seq h
 | false => exact Dh e h
theorem LF.sq {K : PySem.W.Frag} {G : Wd} {d : D} {xs : List D} {v : V} (h : LF d xs) (i : Is K G d v) : ∃ k a vs,v = .ref a /\ Sq k K G.g a vs /\ Al K G xs vs := by
 rcases h with rfl | rfl | rfl
 ·cases i with | lst h r => exact ⟨true,_,_,rfl,Be.of h,r⟩
 ·cases i with | scr h r => exact ⟨true,_,_,rfl,h,r⟩
 ·cases i with | tup h r => exact ⟨false,_,_,rfl,h,r⟩
def Gn (X : Cx) (ρ : Aj) (O : Ac) (e : Expr) (xs : List D) (T : String) : Prop :=
 ∀ (G : Wd) (tg : Expr) (pins : List (Addr × Obj)) (s : Shared) (σ : L2.St) (H : Hp) (R : It -> Hp -> Prop),L2.Inv X pins σ H s -> SA X.K G H O -> AB X.K G σ ρ -> (∀ J G' H',Ah G G' -> SA X.K G' H' O -> Dt X.K G' J xs -> R J H') ->
  wpAny (model X.prog X.w) X.A (eval e X.env) (λ v s1 => LE X pins σ tg R v s1 /\ s1.TypeIs v T) X.xe s
def Fa (xs ys : List D) : List D := List.zipWith (λ a b => .tup [a,b]) xs ys
theorem VY {K : PySem.W.Frag} {G : Wd} {k1 k2 : Bool} {l1 l2 : Addr} {vs us : List V} {xs ys : List D} (h1 : Sq k1 K G.g l1 vs) (h2 : Sq k2 K G.g l2 us) (r1 : Al K G xs vs) (r2 : Al K G ys us) : Dt K G (LK k1 k2 K l1 l2) (Fa xs ys) where
 go := λ i H e hi => by
  have hi : i < min xs.length ys.length := by simpa [Fa] using hi
  obtain ⟨a,ha,_⟩ := r1.get (i := i) (d := xs[i]'wF) (by simp)
  obtain ⟨b,hb,_⟩ := r2.get (i := i) (d := ys[i]'wF) (by simp)
  exact ⟨vs,us,a,b,h1.same e,h2.same e,ha,hb⟩
 stop := λ i H e hi => by
  have hi : min xs.length ys.length <= i := by simpa [Fa] using hi
  have e1 := r1.length
  have e2 := r2.length
  exact ⟨vs,us,h1.same e,h2.same e,by omega⟩
 yld := λ i v H H' G2 O2 e s y hi => by
  obtain ⟨T,a,b,hT,rfl,rfl,y1,y2⟩ := y
  obtain ⟨x,hx,ix⟩ := r1.getV (y1 vs (h1.same (e.g.trans s.sub)))
  obtain ⟨y,hy,iy⟩ := r2.getV (y2 us (h2.same (e.g.trans s.sub)))
  obtain ⟨e3,s3⟩ := s.laid (o := .tup [a,b]) hT
  refine ⟨.tup [x,y],_,?_,e3,s3,.tup (Bc.of Bs) (.cons (ix.ext (e.trans e3)) (.cons (iy.ext (e.trans e3)) .nil))⟩
  unfold Fa
  rw [List.getElem?_zipWith,hx,hy]
section
variable {X : Cx} {ρ : Aj} {O : Ac} {e a b c : Expr} {es : List Expr} {d da db : D} {ds : List D} {R : D -> Ac -> Prop} {pos p : Pos} {x : Str} {xs ys : List D}
theorem WC (ha : Ad X ρ O a da) (hb : Ad X ρ O b db) (fa : LF da xs) (fb : LF db ys) (hm : X.mg "zip" = none) (hg : Gl X "zip" := by rfl) (hs : starEach [a,b] X.env = [(false,eval a X.env),(false,eval b X.env)] := by rfl) (hs2 : starEach [b] X.env = [(false,eval b X.env)] := by rfl) :
  Gn X ρ O (.Call (.Name "zip" p) [a,b] [] pos) (Fa xs ys) "zip" := λ G tg pins s σ H R I sa en k => by
 refine Call_ (EI I hg hm boot_zip (PyProof.Rows.callWith_type1 (Aq (Ab ha (Ab hb Ae hs2) (by rw [hs,hs2]) G pos pins s σ H (λ vs H' => ∃ G',Ah G G' /\ SA X.K G' H' O /\ Al X.K G' [da,db] vs) I ⟨sa,en,λ vs G' H' e1 s1 i1 => ⟨G',e1,s1,i1⟩⟩) λ us s1 ⟨vs,H1,I1,r1,G1,e1,sa1,is1⟩ => ?_) (by rw [hs,hs2]) (by rw [hs2]; rfl)))
 cases is1 with | cons i1 is1 => cases is1 with | cons i2 is1 =>
 cases is1
 obtain ⟨k1,l1,v1,rfl,q1,j1⟩ := fa.sq i1
 obtain ⟨k2,l2,v2,rfl,q2,j2⟩ := fb.sq i2
 obtain ⟨u,u',rfl,ru,ru'⟩ := Fd r1
 cases ru
 cases ru'
 obtain ⟨t1,w1,g1,z1⟩ := DN I1 (q1.same sa1.sub)
 obtain ⟨t2,w2,g2,z2⟩ := DN I1 (q2.same sa1.sub)
 have lt : ∀ {k : Bool} {l : Addr} {ys : Array Value},BJ k s1.heap l ys -> l < s1.heap.objs.size := λ {k l ys} q => by
  cases k with
  | true => obtain ⟨o,g,_⟩ := (q : s1.heap.IsList l ys); exact Heap.lt_size g
  | false => obtain ⟨o,g,_⟩ := (q : s1.heap.IsTuple l ys); exact Heap.lt_size g
 refine XG g1 g2 λ h' Z kp => ?_
 have Ik : L2.Inv X pins σ H1 { s1 with heap := h',toks := s1.toks } := I1.kept kp
 refine ⟨⟨s1.heap.objs.size + 4,Cb s1.heap.objs.size,EZ k1 k2 s1.heap.objs.size l1 l2,LK k1 k2 X.K l1 l2,H1,rfl,Ik,QD k1 k2 _ l1 l2 (lt g1) (lt g2),Z,λ b hb => ?_,k _ G1 H1 e1 sa1 (VY q1 q2 j1 j2)⟩,?_⟩
 ·have hb' : s1.heap.objs.size <= b := by
   simp only [Cb,List.mem_cons,List.not_mem_nil,or_false] at hb
   rcases hb with rfl | rfl | rfl | rfl | rfl
   ·exact Nat.le_refl _
   ·exact Nat.le_add_right _ 1
   ·exact Nat.le_add_right _ 2
   ·exact Nat.le_add_right _ 3
   ·exact Nat.le_add_right _ 4
  exact I1.fpOk hb' (I1.hok.fresh hb')
 ·obtain ⟨f0,f1,a0,b0,_,hz,_⟩ := Z
  exact ⟨_,hz,rfl⟩
theorem Fv {tg : Expr} {T : String} (h : Gn X ρ O e xs T) : Cn X ρ O tg e xs := λ G pins s σ H R I ⟨h1,h2,h3⟩ =>
 Aq (h G tg pins s σ H R I h1 h2 h3) λ v s1 ⟨q,_⟩ => by
  obtain ⟨it,fp,tn,J,H',rfl,I',T,st,f,r⟩ := id q
  exact T.self X.A 0 s1 _ _ st q
end
def Cx.wA (X : Cx) (A : Around) : Cx := { X with A := A }
theorem Zy {X : Cx} {pins : List (Addr × Obj)} {σ : L2.St} {H : Hp} {s : Shared} {A : Around} (I : L2.Inv X pins σ H s) (h1 : A.frames = X.A.frames) (h2 : A.handled = X.A.handled) : L2.Inv (Cx.wA X A) pins σ H s :=
 ⟨⟨I.ok.mod,I.ok.kind,I.ok.glob,I.ok.blt,I.ok.above,I.ok.inj,I.ok.has,I.ok.cab,λ hc => h2.trans (I.ok.hd hc),h1.trans I.ok.frames,I.ok.stk,I.ok.exf,I.ok.bs,I.ok.bsz,I.ok.noex,I.ok.exfs,I.ok.funs,I.ok.frf⟩,I.os,I.bare,I.base,I.loc,I.cell,I.free,I.freeC,I.pin,I.hok,I.len⟩
theorem Zx {X : Cx} {pins : List (Addr × Obj)} {σ : L2.St} {H : Hp} {s : Shared} {A : Around} (I : L2.Inv (Cx.wA X A) pins σ H s) (ok : X.Ok) : L2.Inv X pins σ H s := ⟨ok,I.os,I.bare,I.base,I.loc,I.cell,I.free,I.freeC,I.pin,I.hok,I.len⟩
def Cr {α : Type} (n : Nat) (P : α -> Prop) : KasT α -> Prop
 | .ret a => P a
 | .ask i j k => i < n /\ j < n /\ ∀ b,Cr n P (k b)
theorem F6 {α β : Type} {n : Nat} {f : α -> KasT β} {P : α -> Prop} {Q : β -> Prop} (hf : ∀ a,P a -> Cr n Q (f a)) : ∀ (t : KasT α),Cr n P t -> Cr n Q (t.bind f)
 | .ret a,h => hf a h
 | .ask i j k,h => ⟨h.1,h.2.1,λ b => F6 hf (k b) (h.2.2 b)⟩
theorem OD {α : Type} {n : Nat} {P : α -> Prop} {cmp : Nat -> Nat -> (Bool -> Shared -> Prop) -> Shared -> Prop} {lt : Nat -> Nat -> Bool} {s : Shared} {Q : α -> Shared -> Prop} (hc : ∀ i j C,i < n -> j < n -> C (lt i j) s -> cmp i j C s) : ∀ (t : KasT α),Cr n P t -> (P (Bj lt t) -> Q (Bj lt t) s) -> t.kasWp cmp Q s
 | .ret a,h,q => q h
 | .ask i j k,h,q => hc i j _ h.1 h.2.1 (OD hc (k (lt i j)) (h.2.2 _) q)
def In (n : Nat) (p : Array Nat) : Prop := ∀ k,p.getD k 0 < n
theorem P9 {n : Nat} {p q : Array Nat} (h : In n p) (e : q.Perm p) (hn : 0 < n) : In n q := λ k => by
 rw [Ek]
 cases hk : q[k]? with
 | none => exact hn
 | some v =>
  have hv : v ∈ p := e.mem_iff.mp (Array.mem_of_getElem? hk)
  obtain ⟨i,hi,ei⟩ := Array.mem_iff_getElem.mp hv
  have := h i
  rw [Ek,Array.getElem?_eq_getElem hi,ei] at this
  exact this
theorem Lz {n : Nat} {p : Array Nat} (h : In n p) : ∀ (f m : Nat),Cr n (λ _ => True) (kas_asc p f m)
 | 0,m => trivial
 | f + 1,m => ⟨h _,h _,λ b => by cases b; exact Lz h f (m + 1); exact trivial⟩
theorem GD {n : Nat} {p : Array Nat} (h : In n p) (hn : 0 < n) (i j : Nat) : In n (kas_rev p i j) := P9 h (mirror_perm _ _ _ _) hn
theorem Iw {n : Nat} (hn : 0 < n) : ∀ (f : Nat) (p : Array Nat) (m q : Nat),In n p -> Cr n (λ r : Array Nat × Nat × Nat => In n r.1) (kas_desc f p m q)
 | 0,p,m,q,h => h
 | f + 1,p,m,q,h => ⟨h _,h _,λ b => by
   cases b
   ·exact ⟨h _,h _,λ c => by
     cases c
     ·exact Iw hn f p _ _ h
     ·exact h⟩
   ·show Cr n _ (if true = true then _ else _)
    rw [if_pos rfl]
    split
    ·exact Iw hn f _ _ _ (GD h hn _ _)
    ·exact Iw hn f p _ _ h⟩
theorem Ml {n : Nat} (hn : 0 < n) {p : Array Nat} (h : In n p) (m r : Nat) : Cr n (λ r : Nat × Array Nat => In n r.2) (kas_tail3 m r p) := by
 unfold kas_tail3
 refine F6 (P := λ _ => True) (λ a _ => ?_) _ (Lz (GD h hn 0 m) _ _)
 exact GD h hn 0 m
theorem Pf {n : Nat} (hn : 0 < n) {p : Array Nat} (h : In n p) (m r : Nat) : Cr n (λ r : Nat × Array Nat => In n r.2) (kas_descPart m r p) :=
 F6 (λ a ha => by
  show Cr n _ (if _ > 0 then _ else _)
  split
  ·exact Ml hn (GD ha hn _ _) _ _
  ·exact Ml hn ha _ _) _ (Iw hn _ _ _ _ h)
theorem Xx {n : Nat} (hn : 0 < n) {p : Array Nat} (h : In n p) (r : Nat) : Cr n (λ r : Nat × Array Nat => In n r.2) (kas_count r p) :=
 F6 (P := λ _ => True) (λ a _ => by
  show Cr n _ (if (_ == _) = true then _ else _)
  split
  ·exact h
  ·split
   ·exact ⟨h _,h _,λ b => by
     cases b
     ·exact Pf hn (GD h hn _ _) _ _
     ·exact h⟩
   ·exact Pf hn h _ _) _ (Lz h _ _)
theorem KN {n : Nat} {p : Array Nat} (h : In n p) (k : Nat) : ∀ (f l r : Nat),Cr n (λ _ => True) (kas_place p k f l r)
 | 0,l,r => trivial
 | f + 1,l,r => by
  show Cr n _ (if l >= r then _ else _)
  split
  ·exact trivial
  ·exact ⟨h _,h _,λ b => by cases b; exact KN h k f _ _; exact KN h k f _ _⟩
theorem PN {n : Nat} (hn : 0 < n) : ∀ (f : Nat) (p : Array Nat) (k : Nat),In n p -> Cr n (λ _ => True) (kas_bin f p k)
 | 0,p,k,h => trivial
 | f + 1,p,k,h => F6 (P := λ _ => True) (λ a _ => PN hn f _ _ (P9 h (bubble_perm _ _ _) hn)) _ (KN h k _ _ _)
theorem Rk {n : Nat} (hn : 0 < n) : Cr n (λ _ => True) (kas_sort n) :=
 F6 (λ a ha => by
  show Cr n _ (if _ < n then _ else _)
  split
  ·exact PN hn _ _ _ ha
  ·exact trivial) _ (Xx hn (λ k => by
   rw [Ek]
   by_cases hk : k < n
   ·simp [hk]
   ·simp [hk,hn]) n)
section
variable (key : Nat -> Int)
theorem PM : ∀ (f : Nat) (p : Array Nat) (k : Nat),k + f <= p.size -> C6 key p k -> ∃ p',Bj (BC key) (kas_bin f p k) = p' /\ p'.Perm p /\ p'.size = p.size /\ C6 key p' (k + f)
 | 0,p,k,h,hs => ⟨p,rfl,Array.Perm.refl _,rfl,hs⟩
 | f + 1,p,k,h,hs => by
  obtain ⟨m,e,h1,h2,h3⟩ := KM key p k hs k 0 k (Nat.zero_le _) (Nat.le_refl _) wF (λ i hi => by omega) (λ i i1 i2 => by omega)
  have hK : ∀ i,KQ key (bubble p k (k - m)) i = if i = m then KQ key p k else if m < i /\ i <= k then KQ key p (i - 1) else KQ key p i := λ i => by
   unfold KQ
   rw [Ek,getElem?_bubble wF (k - m) wF i]
   rw [show k - (k - m) = m by omega]
   repeat' split
   all_goals rw [Ek]
  obtain ⟨p',e',g1,g2,g3⟩ := PM f (bubble p k (k - m)) (k + 1) (by rw [bubble_size]; omega) (λ i j hij hj => by
   rw [hK,hK]
   by_cases im : i = m
   ·rw [if_pos im]
    by_cases jm : j = m
    ·rw [if_pos jm]; exact Int.le_refl _
    ·rw [if_neg jm,if_pos wF]
     exact Int.le_of_lt (h3 (j - 1) wF wF)
   ·rw [if_neg im]
    by_cases jm : j = m
    ·rw [if_pos jm,if_neg wF]
     exact h2 i wF
    ·rw [if_neg jm]
     by_cases hi : m < i /\ i <= k
     ·rw [if_pos hi,if_pos wF]
      exact hs _ _ wF wF
     ·rw [if_neg hi]
      by_cases hj' : m < j /\ j <= k
      ·rw [if_pos hj']
       exact hs _ _ wF wF
      ·rw [if_neg hj']
       exact hs _ _ hij wF)
  refine ⟨p',?_,g1.trans (bubble_perm _ _ _),g2.trans (bubble_size _ _ _),?_⟩
  ·show Bj _ (KasT.bind _ _) = _
   rw [Fq,e]
   exact e'
  ·rw [show k + (f + 1) = k + 1 + f by omega]; exact g3
theorem Rj {n : Nat} (hn : 0 < n) : ∃ p,Bj (BC key) (kas_sort n) = p /\ p.Perm (List.toArray (List.range n)) /\ p.size = n /\ C6 key p n := by
 obtain ⟨m,p,e,h1,h2,h3,h4,h5⟩ := Xw key (nrem := n) (p := List.toArray (List.range n)) hn (by simp)
 have hz : p.size = n := by rw [h4]; simp
 by_cases hm : m < n
 ·obtain ⟨p',e',g1,g2,g3⟩ := PM key (n - max m 1) p (max m 1) wF (by rw [show max m 1 = m by omega]; exact h5)
  refine ⟨p',?_,g1.trans h3,g2.trans hz,by rw [show max m 1 + (n - max m 1) = n by omega] at g3; exact g3⟩
  unfold kas_sort
  rw [Fq,e]
  show Bj _ (if m < n then _ else _) = _
  rw [if_pos hm]
  exact e'
 ·refine ⟨p,?_,h3,hz,by rw [show n = m by omega]; exact h5⟩
  unfold kas_sort
  rw [Fq,e]
  show Bj _ (if m < n then _ else _) = _
  rw [if_neg hm]
  rfl
end
def Ea {α : Type} (lt : α -> α -> Bool) (l : List α) (x : α) : Int := ((l.filter λ z => lt z x).length : Nat)
theorem NG {α : Type} {lt : α -> α -> Bool} {l : List α} {x y : α} (irr : ∀ a,lt a a = false) (tr : ∀ a b c,lt a b = true -> lt b c = true -> lt a c = true) (hx : x ∈ l) (h : lt x y = true) : Ea lt l x < Ea lt l y := by
 have key : ∀ l : List α,(l.filter λ z => lt z x).length <= (l.filter λ z => lt z y).length := λ l => by
  induction l with
  | nil => simp
  | cons a l ih =>
   simp only [List.filter_cons]
   by_cases ha : lt a x = true
   ·rw [if_pos ha,if_pos (tr _ _ _ ha h)]; simp; exact ih
   ·rw [if_neg ha]; split
    ·simp; omega
    ·exact ih
 have strict : ∀ l : List α,x ∈ l -> (l.filter λ z => lt z x).length < (l.filter λ z => lt z y).length := λ l => by
  induction l with
  | nil => intro h; cases h
  | cons a l ih =>
   intro hm
   have base := key l
   simp only [List.filter_cons]
   rcases List.mem_cons.mp hm with rfl | hm
   ·rw [if_neg (by rw [irr]; simp),if_pos h]; simp; omega
   ·have := ih hm
    by_cases ha : lt a x = true
    ·rw [if_pos ha,if_pos (tr _ _ _ ha h)]; simp; exact this
    ·rw [if_neg ha]; split
     ·simp; omega
     ·exact this
 unfold Ea
 have := strict l hx
 omega
theorem NH {α : Type} {lt : α -> α -> Bool} {l : List α} {x y : α} (irr : ∀ a,lt a a = false) (tr : ∀ a b c,lt a b = true -> lt b c = true -> lt a c = true) (tot : ∀ a b,lt a b = false -> lt b a = false -> a = b) (hx : x ∈ l) (hy : y ∈ l) : decide (Ea lt l x < Ea lt l y) = lt x y := by
 cases h : lt x y with
 | true => exact decide_eq_true (NG irr tr hx h)
 | false =>
  refine decide_eq_false λ z => ?_
  cases h' : lt y x with
  | true => have := NG irr tr hy h'; omega
  | false => rw [tot _ _ h h'] at z; omega
abbrev F7 (h : Heap) (a : Addr) (vs : List Value) : Heap := ((h.update a (Obj.mapSeq λ _ => (#[] : Array Value))).push (seqObj "tuple" vs.toArray 0)).push (seqObj "list" #[] 0)
theorem V7 {h : Heap} {a b : Addr} {vs : List Value} {o : Obj} (hb : b ≠ a) (e : h.get? b = some o) : (F7 h a vs).get? b = some o :=
 Heap.get?_push_of_some _ (Heap.get?_push_of_some _ ((Heap.get?_update_ne _ _ _ _ hb).trans e))
theorem V6 {h : Heap} {a : Addr} {vs : List Value} {n : Nat} (e : h.get? a = some (seqObj "list" vs.toArray n)) : ∃ m,(h.update a (Obj.mapSeq λ _ => (#[] : Array Value))).get? a = some (seqObj "list" #[] m) /\ (F7 h a vs).get? a = some (seqObj "list" #[] m) :=
 ⟨_,get?_update_seq e _,Heap.get?_push_of_some _ (Heap.get?_push_of_some _ (get?_update_seq e _))⟩
section
variable {prog : Program} {w : World} {A : Around} {E : Value -> Shared -> Prop} {s : Shared}
def DC (p : Array Nat) (vs : List Value) : List Value := p.toList.map λ i => vs.getD i Value.none
def LD (prog : Program) (w : World) (A : Around) (vs : List Value) (s : Shared) (G : SortSt -> Prop) : Prop :=
 ∀ E : Value -> Shared -> Prop,wpAny (model prog w) A (if vs.toArray.size < 2 then pure general' else keyKind' vs.toArray)
  (λ κ s1 => wpAny (model prog w) A ((if vs.toArray.size < 2 then pure () else sortRuns').run (SortSt.mk' κ (vs.toArray.zip vs.toArray) #[] 7 none)) (λ r s2 => s2 = s /\ failedOf r.2 = none /\ G r.2) E s1) E s
theorem V8 {α β : Type} {M : Model} {c : Prop} [Decidable c] {x y : Sem α} {f : α -> Sem β} {Q : β -> Shared -> Prop} (h : wpAny M A ((if c then x else y) >>= f) Q E s) : wpAny M A (if c then x >>= f else y >>= f) Q E s := by
 by_cases hc : c
 ·rw [if_pos hc] at h ⊢; exact h
 ·rw [if_neg hc] at h ⊢; exact h
theorem Ri {a : Addr} {vs : List Value} {n : Nat} {G : SortSt -> Prop} {P : PySem.Fin -> Shared -> Prop} (ho : s.heap.get? a = some (seqObj "list" vs.toArray n)) (lim : vs.length <= sizeLine) (hr : LD prog w A vs { s with heap := F7 s.heap a vs } G)
  (h : ∀ st,G st -> ((arrOf st).map (·.2)).size <= sizeLine + 1 /\ P (.done (.ret .none)) { s with heap := sortedHeap s.heap a vs ((arrOf st).map (·.2)) }) : wpAny (model prog w) A (Builtin.«list.sort» ⟨[.ref a],[]⟩) P E s := by
 obtain ⟨m,g1,g2⟩ := V6 ho
 rw [list_sort_plain]
 refine wpAny_bind (listItems_at ho rfl (wpAny_bind (listUpdate_at ho rfl ?_ (by simpa using lim) (Nat.zero_le _))))
 refine wpAny_bind (seqEpoch_at g1 rfl (wpAny_bind (wpAny_newTuple (wpAny_bind (wpAny_newList (wpAny_holding ?_) (Nat.zero_le _))) lim)))
 refine V8 (wpAny_bind (wpAny_mono (hr E) (λ κ s1 q1 => wpAny_bind (wpAny_mono q1 (λ r s2 q2 => ?_) λ _ _ e => e)) λ _ _ e => e))
 obtain ⟨⟨⟩,st⟩ := r
 obtain ⟨rfl,f0,gs⟩ := q2
 obtain ⟨z,q⟩ := h st gs
 refine wpAny_bind (seqEpoch_at g2 rfl (wpAny_bind (listUpdate_at g2 rfl ?_ (Nat.zero_le _) z)))
 dsimp only at f0
 rw [f0,bne_self_eq_false]
 exact wpAny_pure q
def G6 (prog : Program) (w : World) (A : Around) (vs : List Value) (key : Nat -> Int) (s : Shared) : Prop :=
 ∃ κ,(∀ (E : Value -> Shared -> Prop) (Q : SortKind -> Shared -> Prop),Q κ s -> wpAny (model prog w) A (keyKind' vs.toArray) Q E s) /\ ∀ i j (C : Bool -> Shared -> Prop),i < vs.length -> j < vs.length -> C (decide (key i < key j)) s -> wpAny (model prog w) A (keyLt' κ (vs.getD i Value.none) (vs.getD j Value.none)) C (λ _ _ => False) s
def IJ (vs : List Value) (key : Nat -> Int) (st : SortSt) : Prop := ∃ p : Array Nat,p.Perm (List.toArray (List.range vs.length)) /\ p.size = vs.length /\ C6 key p vs.length /\ (arrOf st).map (·.2) = List.toArray (DC p vs)
theorem Sx {vs : List Value} {key : Nat -> Int} (h : vs.length < 2) : LD prog w A vs s (IJ vs key) := λ E => by
 have c : vs.toArray.size < 2 := by simpa using h
 simp only [if_pos c]
 refine wpAny_pure (wpAny_pure ⟨rfl,rfl,List.toArray (List.range vs.length),Array.Perm.refl _,by simp,λ i j hij hj => ?_,?_⟩)
 ·rw [show i = j by omega]
  exact Int.le_refl _
 ·show (vs.toArray.zip vs.toArray).map (·.2) = _
  match vs,h with
  | [],_ => simp [DC]
  | [v],_ => simp [DC]
theorem Sw {vs : List Value} {key : Nat -> Int} (h : 2 <= vs.length) (h64 : vs.length < 64) (cm : G6 prog w A vs key s) : LD prog w A vs s (IJ vs key) := λ E => by
 have c : ¬ vs.toArray.size < 2 := by simpa using h
 simp only [if_neg c]
 obtain ⟨κ,kd,cm⟩ := cm
 obtain ⟨p,ep,g1,g2,g3⟩ := Rj key (n := vs.length) wF
 refine kd _ _ (kat_run (ks := vs) (Q := λ st s2 => s2 = s /\ failedOf st = none /\ IJ vs key st) (G := λ q s2 => s2 = s /\ q = p) rfl h h64 (λ q st s2 _ a2 a3 a4 => ⟨a4.1,a3,p,g1,g2,g3,?_⟩) (OD (n := vs.length) (lt := BC key) cm _ (Rk wF) λ _ => ⟨rfl,ep⟩))
 rw [a4.2] at a2
 exact kat_snds (ks := vs) (vs := vs) rfl a2
theorem Rl {a : Addr} {vs : List Value} {n : Nat} {key : Nat -> Int} {P : PySem.Fin -> Shared -> Prop} (ho : s.heap.get? a = some (seqObj "list" vs.toArray n)) (h64 : vs.length < 64)
  (hk : 2 <= vs.length -> G6 prog w A vs key { s with heap := F7 s.heap a vs })
  (h : ∀ p : Array Nat,p.Perm (List.toArray (List.range vs.length)) -> p.size = vs.length -> C6 key p vs.length -> P (.done (.ret .none)) { s with heap := sortedHeap s.heap a vs (List.toArray (DC p vs)) }) : wpAny (model prog w) A (Builtin.«list.sort» ⟨[.ref a],[]⟩) P E s := by
 have lim : vs.length <= sizeLine := by rw [sizeLine_eq]; omega
 refine Ri (G := IJ vs key) ho lim ?_ λ st ⟨p,p1,p2,p3,e⟩ => ?_
 ·by_cases c : vs.length < 2
  ·exact Sx c
  ·exact Sw wF h64 (hk wF)
 ·rw [e]
  exact ⟨by simp [DC]; omega,h p p1 p2 p3⟩
theorem XJ {x : Value} {Q : Value -> Shared -> Prop}
  (hc : wpAny (model prog w) A.in1 (collect x) (λ vs s1 => ∃ key,vs.length < 64 /\ (2 <= vs.length -> G6 prog w A.in1.in1 vs key { s1 with heap := F7 (s1.heap.push (seqObj "list" vs.toArray 0)) s1.heap.objs.size vs }) /\
   ∀ p : Array Nat,p.Perm (List.toArray (List.range vs.length)) -> p.size = vs.length -> C6 key p vs.length -> Q (.ref s1.heap.objs.size) { s1 with heap := sortedHeap (s1.heap.push (seqObj "list" vs.toArray 0)) s1.heap.objs.size vs (List.toArray (DC p vs)) }) E s) : wpAny (model prog w) A (call (.builtin "sorted") [x]) Q E s := by
 have body : wpAny (model prog w) A.in1 (Builtin.«sorted» ⟨[x],[]⟩) (λ fin s' => ∃ v,fin = .done (.ret v) /\ Q v s') E s := by
  refine wpAny_bind (m := checkCount "sorted" 1 1 _) (wpAny_pure (wpAny_bind (Aq hc λ vs s1 ⟨key,h64,hk,hq⟩ => wpAny_bind (wpAny_newList (wpAny_bind (wpAny_holding ?_)) (by rw [sizeLine_eq]; omega)))))
  have own : (s1.heap.push (seqObj "list" vs.toArray 0)).get? s1.heap.objs.size = some (seqObj "list" vs.toArray 0) := Heap.get?_push_size _ rfl
  exact wpAny_call_entry slot_list_sort ⟨_,own,rfl⟩ entry_list_sort (Rl (s := { s1 with heap := s1.heap.push (seqObj "list" vs.toArray 0) }) own h64 hk λ p p1 p2 p3 => ⟨_,rfl,wpAny_pure ⟨_,rfl,hq p p1 p2 p3⟩⟩) (args_list_sort _)
 exact Calls.call_function_entry kind_sorted plain_sorted entry_sorted (args_sorted1 _) body
end
theorem Fx {prog : Program} {w : World} {A : Around} {s : Shared} {id : String} {b : Builtin} {args : Args} {R : Result -> Shared -> Prop} (pl : plainId id = true) (en : entryFor table id = some b)
  (h : wpAny (model prog w) A.in1 (b args) (λ fin s' => match fin with | .done f => R (.ok f) s' | .again c => c.quiet = true /\ codeAny (model prog w) A c R s') (λ e s' => R (.error e) s') s) : codeAny (model prog w) A (.builtin id args) R s :=
 codeAny_builtin en (by rw [Around.under_plainId pl]; exact h)
abbrev Dm (its : List Value) (c : Nat) : Obj := { cls := .type "list",dict := none,data := .seq its.toArray c,slots := #[] }
theorem Yf {M : Model} {A : Around} {E : Value -> Shared -> Prop} {s : Shared} {α : Type} {t : Sem α} {Q : α -> Shared -> Prop} {F : Shared -> Prop} {u : Sem Unit} (hu : u = pure ()) (h : wpAny M A u (λ _ s2 => F s2) E s) (k : ∀ s2,F s2 -> wpAny M A t Q E s2) : wpAny M A t Q E s := by
 subst hu
 have := wpAny_bind (f := λ _ => t) (wpAny_mono h (λ _ s2 q => k s2 q) λ _ _ e => e)
 simpa using this
theorem OR {X : Cx} {pins : List (Addr × Obj)} {H : Hp} {b S : Addr} {o : Obj} (h : Cg X pins H b) (hb : S ≠ b) : Cg X ((S,o) :: pins) H b := by
 obtain ⟨f0,f1,f2,f3,f4,f5⟩ := h
 refine ⟨f0,f1,f2,f3,f4,λ p hp => ?_⟩
 simp only [List.mem_append,List.mem_cons] at hp
 rcases hp with q | rfl | q
 ·exact f5 p (List.mem_append_left _ q)
 ·exact hb
 ·exact f5 p (List.mem_append_right _ q)
theorem P7 {X : Cx} {pins : List (Addr × Obj)} {σ : L2.St} {H : Hp} {s : Shared} {q : Addr × Obj} (I : L2.Inv X (q :: pins) σ H s) : L2.Inv X pins σ H s := I.pins_of λ p hp => I.pin p (List.mem_append_right _ (List.mem_cons_of_mem _ hp))
structure GZ (X : Cx) (pins : List (Addr × Obj)) (σ : L2.St) (O : Ac) (G1 : Wd) (xs : List D) (S : Addr) (i : Nat) (s : Shared) (H : Hp) (G : Wd) (vs : List V) (its : List Value) (c : Nat) : Prop where
 inv : L2.Inv X ((S,Dm its c) :: pins) σ H s
 ext : Ah G1 G
 sa : SA X.K G H O
 iss : Al X.K G (xs.take i) vs
 vals : Az vs its
section
variable {X : Cx} {A : Around} {tg : Expr} {J : It} {fp : List Addr} {it : Addr} {tn : Nat -> Heap -> Prop} {pins : List (Addr × Obj)} {σ : L2.St} {O : Ac} {G1 : Wd} {xs : List D} {S : Addr} {res : Value} {R : Result -> Shared -> Prop}
theorem GZ.more {i : Nat} {s s2 : Shared} {H H2 : Hp} {G G2 : Wd} {vs : List V} {its : List Value} {c : Nat} {x : D} {xv : V} {u : Value} (g : GZ X pins σ O G1 xs S i s H G vs its c) (I2 : L2.Inv X ((S,Dm its c) :: pins) σ H2 s2) (hSs : X.s₀.heap.objs.size <= S) (hSC : ∀ x c,X.env.cells.lookup x = some c -> c ≠ S) (hSp : ∀ p ∈ X.pn ++ pins,p.1 ≠ S) (hx : xs[i]? = some x) (e2 : Ah G G2) (sa2 : SA X.K G2 H2 O) (ix : Is X.K G2 x xv) (r : AX xv u) :
  GZ X pins σ O G1 xs S (i + 1) { s2 with heap := s2.heap.update S (Obj.mapSeq (·.push u)) } H2 G2 (vs ++ [xv]) (its ++ [u]) (c + 1) := by
 have p := I2.pin (S,Dm its c) (List.mem_append_right _ List.mem_cons_self)
 have Iq : L2.Inv X pins σ H2 { s2 with heap := s2.heap.update S (Obj.mapSeq (·.push u)) } := (P7 I2).turned (t' := s2.toks) (λ b o hb q => (Heap.get?_update_other _ _ (Ne.symm hb)).trans q) p.2.1 p.2.2.1 (.inr hSs) hSC hSp
 refine ⟨Iq.pins_of λ q hq => ?_,g.ext.trans e2,sa2,?_,g.vals.append (.cons r .nil)⟩
 ·rcases List.mem_cons.mp hq with rfl | hq
  ·refine ⟨?_,p.2.1,p.2.2.1,p.2.2.2.1,λ v z => by cases z⟩
   rw [Heap.get?_update_self _ p.1 rfl]
   simp [Obj.mapSeq,Dm]
  ·exact Iq.pin q (List.mem_append_right _ hq)
 ·rw [List.take_add_one,hx]
  exact (g.iss.ext e2).append (.cons ix .nil)
theorem OL (hA : X.A = A.in1) (hc : X.calm = true) (T : EO X.prog X.w X.K tg J fp it tn) (hgo : ∀ v,letOwnedTupleGo tg (.ref it) v = pure ()) (Yi : Dt X.K G1 J xs) (hsz : xs.length <= sizeLine) (hSs : X.s₀.heap.objs.size <= S) (hSC : ∀ x c,X.env.cells.lookup x = some c -> c ≠ S) (hSp : ∀ p ∈ X.pn ++ pins,p.1 ≠ S)
  (fpS : ∀ (H : Hp),(∀ b ∈ fp,H b = none) -> ∀ b ∈ fp,Cg X pins H b) (hSf : S ∉ fp)
  (fin : ∀ s H G vs its c,GZ X pins σ O G1 xs S xs.length s H G vs its c -> R (.ok (.ret res)) s) :
  ∀ (k i : Nat) (s : Shared) (H : Hp) (G : Wd) (vs : List V) (its : List Value) (c : Nat),i + k = xs.length -> GZ X pins σ O G1 xs S i s H G vs its c -> tn i s.heap -> (∀ b ∈ fp,H b = none) ->
   codeAny (model X.prog X.w) A (.builtin "list.extend.loop" ⟨[.ref S,.ref it,res],[]⟩) R s
 | 0,i,s,H,G,vs,its,c,hk,g,st,fr => by
  have hi : i = xs.length := by omega
  subst hi
  have fps : ∀ b ∈ fp,Cg X ((S,Dm its c) :: pins) H b := λ b hb => OR (fpS H fr b hb) λ z => hSf (z ▸ hb)
  refine Fx F.plain_extend_loop F.entry_extend_loop (hA ▸ wpAny_bind (Aq (T.done X rfl rfl rfl hc xs.length _ s σ H _ g.inv fps st (Yi.stop _ H (g.ext.g.trans g.sa.sub) (Nat.le_refl _))) λ r s' ⟨hr,I'⟩ => ?_))
  subst hr
  exact wpAny_pure (fin s' H G vs its c ⟨I',g.ext,g.sa,g.iss,g.vals⟩)
 | k + 1,i,s,H,G,vs,its,c,hk,g,st,fr => by
  have hi : i < xs.length := by omega
  have fps : ∀ b ∈ fp,Cg X ((S,Dm its c) :: pins) H b := λ b hb => OR (fpS H fr b hb) λ z => hSf (z ▸ hb)
  have hl : its.length = i := by
   rw [<- g.vals.length,<- g.iss.length,List.length_take]; omega
  refine Fx F.plain_extend_loop F.entry_extend_loop (hA ▸ wpAny_bind (Aq (T.item X rfl rfl rfl hc i _ s σ H _ g.inv fps st (Yi.go i H (g.ext.g.trans g.sa.sub) hi)) λ r s1 ⟨u,hr,h1⟩ => ?_))
  subst hr
  refine Yf (hgo u) h1 λ s2 ⟨xv,H2,I2,r2,y2,st2,fr2⟩ => ?_
  obtain ⟨x,G2,hx,e2,sa2,ix⟩ := Yi.yld i xv H H2 G O g.ext g.sa y2 hi
  have p2 := I2.pin (S,Dm its c) (List.mem_append_right _ List.mem_cons_self)
  refine wpAny_bind (listUpdate_at p2.1 rfl (wpAny_pure ⟨plainId_quiet F.plain_extend_loop _,OL hA hc T hgo Yi hsz hSs hSC hSp fpS hSf fin k (i + 1) _ H2 G2 _ _ (c + 1) wF (g.more I2 hSs hSC hSp hx e2 sa2 ix r2) ?_ fr2⟩) (by simp; omega) (by simp; omega))
  exact T.keep _ _ _ st2 λ b hb o q => (Heap.get?_update_other _ _ (λ z => hSf (by rw [z]; exact hb))).trans q
end
theorem Qe : typeLookup (.type "zip") "__len__" = pure none := by rw [typeLookup_type,builtinLookup_eq_fast]; kernel_rfl
theorem Qf : typeLookup (.type "zip") "__length_hint__" = pure none := by rw [typeLookup_type,builtinLookup_eq_fast]; kernel_rfl
structure IM (T : String) : Prop where
 len : typeLookup (.type T) "__len__" = pure none
 hint : typeLookup (.type T) "__length_hint__" = pure none
 nl : (Value.type T == Value.type "list") = false
 nt : (Value.type T == Value.type "tuple") = false
theorem Vq : IM "zip" := ⟨Qe,Qf,by decide,by decide⟩
theorem XA {prog : Program} {w : World} {A : Around} {s : Shared} {E : Value -> Shared -> Prop} {it : Addr} {Ty : String} {Q : List Value -> Shared -> Prop} (hN : IM Ty) (hT : s.TypeIs (.ref it) Ty)
  (hi : ∀ (h : Heap) (F : Value -> Shared -> Prop) (E' : Value -> Shared -> Prop),(∀ c o,s.heap.get? c = some o -> h.get? c = some o) -> F (.ref it) { s with heap := h } -> wpAny (model prog w) A.in1 (pyIter (.ref it)) F E' { s with heap := h })
  (k : ∀ (h : Heap) (c : Nat) (R : Result -> Shared -> Prop),(∀ b o,s.heap.get? b = some o -> h.get? b = some o) -> h.get? s.heap.objs.size = some (Dm [] c) -> (∀ s' its c',s'.heap.get? s.heap.objs.size = some (Dm its c') -> Q its s' -> R (.ok (.ret (.ref s.heap.objs.size))) s') ->
   codeAny (model prog w) A (.builtin "list.extend.loop" ⟨[.ref s.heap.objs.size,.ref it,.ref s.heap.objs.size],[]⟩) R { s with heap := h }) :
  wpAny (model prog w) A (collect (.ref it)) Q E s := by
 obtain ⟨h,g,d,tk,os⟩ := s
 obtain ⟨o,ho,hc⟩ := hT
 have lt : it < h.objs.size := Heap.lt_size ho
 have ne : h.objs.size ≠ it := Nat.ne_of_gt lt
 dsimp only at hi k
 wp_walk
 refine Fx F.plain_proto_collect F.entry_proto_collect ?_
 wp_walk
 have up : ∀ b u,h.get? b = some u -> (h.push { cls := .type "list",data := .seq #[] }).get? b = some u := λ b u e => Heap.get?_push_of_some _ e
 have own : (h.push { cls := .type "list",data := .seq #[] }).get? h.objs.size = some { cls := .type "list",data := .seq #[] } := Heap.get?_push_size _ rfl
 have ty : Shared.TypeIs ⟨h.push { cls := .type "list",data := .seq #[] },g,d,tk,os⟩ (.ref it) Ty := ⟨o,up _ _ ho,hc⟩
 have len := hN.len
 have hint := hN.hint
 have nl := hN.nl
 have nt := hN.nt
 refine ⟨plainId_quiet F.plain_list_iadd _,Fx F.plain_list_iadd F.entry_list_iadd ?_⟩
 have sr : Builtin.List.listSameRef (.ref h.objs.size) (.ref it) = false := beq_eq_false_iff_ne.mpr ne
 wp_walk using hi _ _ _ up
 have g1 := Heap.get?_update_self (Obj.mapSeq λ x => x.push Value.none) own rfl
 refine ⟨plainId_quiet F.plain_extend_loop _,k _ _ _ (λ b u e => ?_) (Heap.get?_update_self (Obj.mapSeq λ x => x.pop) g1 rfl) λ s' its c' e q => wpAny_bind (wpAny_load e (wpAny_pure q))⟩
 have nb : h.objs.size ≠ b := λ z => Nat.lt_irrefl _ (z ▸ Heap.lt_size e)
 rw [Heap.get?_update_other _ _ nb,Heap.get?_update_other _ _ nb]
 exact up b u e
theorem Xz {X : Cx} {A : Around} {tg : Expr} {J : It} {fp : List Addr} {it : Addr} {tn : Nat -> Heap -> Prop} {pins : List (Addr × Obj)} {σ : L2.St} {O : Ac} {G1 : Wd} {xs : List D} {s : Shared} {H : Hp} {E : Value -> Shared -> Prop} {Ty : String} {Q : List Value -> Shared -> Prop}
  (hA : X.A = A.in1) (hc : X.calm = true) (T : EO X.prog X.w X.K tg J fp it tn) (hgo : ∀ v,letOwnedTupleGo tg (.ref it) v = pure ()) (Yi : Dt X.K G1 J xs) (hsz : xs.length <= sizeLine) (hN : IM Ty) (hT : s.TypeIs (.ref it) Ty) (I : L2.Inv X pins σ H s) (st : tn 0 s.heap) (f : ∀ b ∈ fp,Cg X pins H b) (sa : SA X.K G1 H O)
  (hQ : ∀ (s' : Shared) (H' : Hp) (G' : Wd) (vs : List V) (its : List Value),L2.Inv X pins σ H' s' -> Ah G1 G' -> SA X.K G' H' O -> Al X.K G' xs vs -> Az vs its -> Q its s') : wpAny (model X.prog X.w) A (collect (.ref it)) Q E s := by
 have out : s.heap.objs.size ∉ fp := λ m => let ⟨o,e,_⟩ := T.obj 0 _ st _ m; Nat.lt_irrefl _ (Heap.lt_size e)
 obtain ⟨g0,g1,g2,g3,g4,g5⟩ : Cg X pins H s.heap.objs.size := I.fpOk (Nat.le_refl _) (I.hok.fresh (Nat.le_refl _))
 refine XA hN hT (λ h F E' up q => T.self A.in1 0 _ _ _ (T.keep 0 _ _ st λ b _ o e => up b o e) q) λ h c R up own kr => ?_
 have I3 : L2.Inv X pins σ H { s with heap := h,toks := s.toks } := I.kept up
 refine OL hA hc T hgo Yi hsz I.sz g4 g5 (λ H' fr b hb => ⟨fr b hb,(f b hb).2⟩) out (λ s' H' G' vs its c' g => ?_) xs.length 0 _ H G1 [] [] c wF ⟨I3.pins_of λ p hp => ?_,Ah.refl _,sa,.nil,.nil⟩ (T.keep 0 _ _ st λ b _ o e => up b o e) λ b hb => (f b hb).1
 ·exact kr s' its c' (g.inv.pin (_,Dm its c') (List.mem_append_right _ List.mem_cons_self)).1 (hQ s' H' G' vs its (P7 g.inv) g.ext g.sa (by have := g.iss; rwa [List.take_length] at this) g.vals)
 ·rcases List.mem_cons.mp hp with rfl | q
  ·exact ⟨own,g0,g1,g2,λ v z => by cases z⟩
  ·exact I3.pin p (List.mem_append_right _ q)
structure D5 {α : Type} (lt : α -> α -> Bool) : Prop where
 irr : ∀ a,lt a a = false
 tr : ∀ a b c,lt a b = true -> lt b c = true -> lt a c = true
 tot : ∀ a b,lt a b = false -> lt b a = false -> a = b
def Cc {α : Type} (lt : α -> α -> Bool) (l : List α) : List α := l.mergeSort λ a b => !lt b a
theorem Hh {α : Type} (lt : α -> α -> Bool) (l : List α) : (Cc lt l).Perm l := List.mergeSort_perm _ _
theorem D5.trle {α : Type} {lt : α -> α -> Bool} (o : D5 lt) : ∀ a b c : α,(!lt b a) = true -> (!lt c b) = true -> (!lt c a) = true := λ a b c h1 h2 => by
 have h1 : lt b a = false := by simpa using h1
 have h2 : lt c b = false := by simpa using h2
 cases h : lt c a with
 | false => rfl
 | true =>
  cases h3 : lt a b with
  | true => rw [o.tr _ _ _ h h3] at h2; cases h2
  | false => rw [o.tot _ _ h3 h1] at h; rw [h] at h2; cases h2
theorem D5.totle {α : Type} {lt : α -> α -> Bool} (o : D5 lt) : ∀ a b : α,((!lt b a) || (!lt a b)) = true := λ a b => by
 cases h : lt b a with
 | false => rfl
 | true =>
  cases h2 : lt a b with
  | false => rfl
  | true => have := o.tr _ _ _ h h2; rw [o.irr] at this; cases this
theorem Mw {α : Type} {lt : α -> α -> Bool} (o : D5 lt) (l : List α) : (Cc lt l).Pairwise λ a b => (!lt b a) = true := List.pairwise_mergeSort o.trle o.totle l
theorem Rf {α : Type} {lt : α -> α -> Bool} (o : D5 lt) {l q : List α} (h1 : q.Perm l) (h2 : q.Pairwise λ a b => (!lt b a) = true) : q = Cc lt l :=
 List.Perm.eq_of_pairwise (λ a b _ _ x y => o.tot a b (by simpa using y) (by simpa using x)) h2 (Mw o l) (h1.trans (Hh lt l).symm)
theorem Th {p : Array Nat} {n : Nat} (g : p.Perm (List.toArray (List.range n))) : ∀ i ∈ p.toList,i < n := λ i hi => by
 have : i ∈ List.toArray (List.range n) := g.mem_iff.mp (Array.mem_toList_iff.mp hi)
 simpa using this
theorem Ti {α : Type} [Inhabited α] {p : Array Nat} {ps : List α} (g : p.Perm (List.toArray (List.range ps.length))) : (p.toList.map λ i => ps.getD i default).Perm ps := by
 have e : (List.range ps.length).map (λ i => ps.getD i default) = ps := by
  apply List.ext_getElem
  ·simp
  ·intro i h1 h2
   simp
   rw [List.getElem?_eq_getElem h2]
   rfl
 have q : p.toList.Perm (List.range ps.length) := by
  have := Array.perm_iff_toList_perm.mp g
  simpa using this
 have := q.map λ i => ps.getD i default
 rw [e] at this
 exact this
theorem Rh {α : Type} [Inhabited α] {lt : α -> α -> Bool} (o : D5 lt) {K : PySem.W.Frag} {G : Wd} {ps : List α} {f : α -> D} {vs : List V} {its : List Value} {key : Nat -> Int} (hkey : ∀ i,i < ps.length -> key i = Ea lt ps (ps.getD i default)) (is : Al K G (ps.map f) vs) (va : Az vs its)
  {p : Array Nat} (g1 : p.Perm (List.toArray (List.range ps.length))) (g2 : p.size = ps.length) (g3 : C6 key p ps.length) : ∃ us,Az us (DC p its) /\ Al K G ((Cc lt ps).map f) us /\ us.length = ps.length := by
 have hb := Th g1
 have e1 := is.length
 have e2 := va.length
 rw [List.length_map] at e1
 refine ⟨p.toList.map λ i => vs.getD i .non,?_,?_,by simp [g2]⟩
 ·unfold DC
  have : ∀ l : List Nat,(∀ i ∈ l,i < ps.length) -> Az (l.map λ i => vs.getD i .non) (l.map λ i => its.getD i Value.none) := λ l => by
   induction l with
   | nil => intro _; exact .nil
   | cons a l ih =>
    intro h
    have ha := h a List.mem_cons_self
    obtain ⟨u,hu,ru⟩ := va.get (i := a) (x := vs[a]'wF) (by simp)
    refine .cons ?_ (ih λ i hi => h i (List.mem_cons_of_mem _ hi))
    dsimp only
    rw [List.getD_eq_getElem?_getD,List.getD_eq_getElem?_getD,List.getElem?_eq_getElem (show a < vs.length by omega),hu]
    exact ru
  exact this _ hb
 ·rw [<- Rf o (Ti g1) ?_]
  ·have : ∀ l : List Nat,(∀ i ∈ l,i < ps.length) -> Al K G ((l.map λ i => ps.getD i default).map f) (l.map λ i => vs.getD i .non) := λ l => by
    induction l with
    | nil => intro _; exact .nil
    | cons a l ih =>
     intro h
     have ha := h a List.mem_cons_self
     obtain ⟨v,hv,iv⟩ := is.get (i := a) (d := f ps[a]) (by simp [ha])
     refine .cons ?_ (ih λ i hi => h i (List.mem_cons_of_mem _ hi))
     dsimp only
     rw [List.getD_eq_getElem?_getD,List.getD_eq_getElem?_getD,List.getElem?_eq_getElem ha,hv]
     exact iv
   exact this _ hb
  ·rw [List.pairwise_iff_getElem]
   intro i j hi hj hij
   rw [List.length_map,Array.length_toList] at hi hj
   have kq : ∀ i (h : i < p.size),KQ key p i = Ea lt ps (ps.getD p[i] default) := λ i h => by
    unfold KQ
    rw [Ek,Array.getElem?_eq_getElem h,Option.getD_some]
    exact hkey _ (hb _ (Array.mem_toList_iff.mpr (Array.getElem_mem h)))
   have k := g3 i j (Nat.le_of_lt hij) wF
   rw [kq i hi,kq j hj] at k
   rw [List.getElem_map,List.getElem_map,Array.getElem_toList,Array.getElem_toList]
   have mem : ∀ i (h : i < p.size),ps.getD p[i] default ∈ ps := λ i h => by
    have := hb _ (Array.mem_toList_iff.mpr (Array.getElem_mem h))
    rw [List.getD_eq_getElem?_getD,List.getElem?_eq_getElem this]
    exact List.getElem_mem _
   have := NH o.irr o.tr o.tot (mem j hj) (mem i hi)
   rw [<- this]
   simp only [Bool.not_eq_true',decide_eq_false_iff_not]
   omega
def AS (a b : Int × Int) : Bool := decide (a.1 < b.1 \/ (a.1 = b.1 /\ a.2 < b.2))
theorem GF : D5 AS := ⟨λ a => by simp [AS],λ a b c h1 h2 => by simp [AS] at *; omega,λ a b h1 h2 => by
 simp [AS] at *
 obtain ⟨a1,a2⟩ := a; obtain ⟨b1,b2⟩ := b
 simp at *
 omega⟩
abbrev pD (p : Int × Int) : D := .tup [.int p.1,.int p.2]
def LR {α : Type} [Inhabited α] (X : Cx) (lt : α -> α -> Bool) (f : α -> D) : Prop :=
 ∀ (A : Around) (G : Wd) (H : Hp) (pins : List (Addr × Obj)) (σ : L2.St) (s : Shared) (s' : Shared) (O : Ac) (ps : List α) (vs : List V) (its : List Value),L2.Inv X pins σ H s -> SA X.K G H O -> Al X.K G (ps.map f) vs -> Az vs its -> 2 <= ps.length -> (∀ b o,s.heap.get? b = some o -> s'.heap.get? b = some o) ->
  G6 X.prog X.w A its (λ i => Ea lt ps (ps.getD i default)) s'
theorem OO {α : Type} {l : List α} {i : Nat} (h : i < l.length) (d : α) : l.getD i d = l[i] := by rw [List.getD_eq_getElem?_getD,List.getElem?_eq_getElem h]; rfl
theorem PU {α : Type} {l : List α} {i : Nat} (h : i < l.length) (d : α) : l.getD i d ∈ l := by rw [OO h]; exact List.getElem_mem _
theorem XF {X : Cx} : LR X AS pD := λ A G H pins σ s s' O ps vs its I sa is va h2 up => by
 have e1 := is.length
 have e2 := va.length
 rw [List.length_map] at e1
 have at' : ∀ i,i < ps.length -> ∃ a t u,its.getD i Value.none = .ref a /\ ∃ o n,s'.heap.get? a = some o /\ o.cls = .type "tuple" /\ o.data = .seq #[.int (ps.getD i default).1 t,.int (ps.getD i default).2 u] n := λ i hi => by
  obtain ⟨v,hv,iv⟩ := is.get (i := i) (d := pD ps[i]) (by simp [hi])
  obtain ⟨w,hw,rw'⟩ := va.get hv
  cases iv with
  | tup h r =>
  cases r with | cons j1 r => cases r with | cons j2 r =>
  cases r
  cases j1
  cases j2
  cases rw'
  obtain ⟨its2,v2,⟨o,g1,g2,n,g3⟩,_⟩ := I.tuple (Dh sa.sub h)
  obtain ⟨u1,u2,rfl,q1,q2⟩ := Fd v2
  obtain ⟨t,rfl⟩ := q1
  obtain ⟨t',rfl⟩ := q2
  refine ⟨_,t,t',by rw [List.getD_eq_getElem?_getD,hw]; rfl,o,n,up _ _ g1,g2,?_⟩
  rw [OO hi]
  exact g3
 refine ⟨tuples' (Value.type "int" != Value.type "tuple"),λ E Q hq => ?_,λ i j C hi hj hC => ?_⟩
 ·have tp : ∀ (l : List Nat),(∀ i ∈ l,i < ps.length) -> ∃ fs,KatTups s'.heap (l.map λ i => its.getD i Value.none) fs /\ fs.length = l.length /\ ∀ f ∈ fs,∃ k t,f = Value.int k t := λ l => by
   induction l with
   | nil => intro _; exact ⟨[],.nil,rfl,λ f h => by cases h⟩
   | cons a l ih =>
    intro h
    obtain ⟨fs,f1,f2,f3⟩ := ih λ i hi => h i (List.mem_cons_of_mem _ hi)
    obtain ⟨b,t,u,e,o,n,g1,g2,g3⟩ := at' a (h a List.mem_cons_self)
    refine ⟨.int (ps.getD a default).1 t :: fs,?_,by simp [f2],λ f hf => ?_⟩
    ·show KatTups s'.heap (its.getD a Value.none :: _) _
     rw [e]
     exact .cons g1 g2 g3 rfl f1
    ·rcases List.mem_cons.mp hf with q | q
     ·exact ⟨_,_,q⟩
     ·exact f3 f q
  obtain ⟨fs,f1,f2,f3⟩ := tp (List.range ps.length) λ i hi => List.mem_range.mp hi
  have ei : ((List.range ps.length).map λ i => its.getD i Value.none) = its := by
   apply List.ext_getElem
   ·simp; omega
   ·intro i h1 h3
    simp
    rw [List.getElem?_eq_getElem h3]; rfl
  rw [ei] at f1
  refine kat_kind f1 (by rw [f2,List.length_range]; omega) (λ f hf => ?_) wE hq
  obtain ⟨k,t,rfl⟩ := f3 f hf
  exact .now
 ·obtain ⟨a,t,u,ea,oa,na,a1,a2,a3⟩ := at' i wF
  obtain ⟨b,t',u',eb,ob,nb,b1,b2,b3⟩ := at' j wF
  have hr := NH GF.irr GF.tr GF.tot (PU (show i < ps.length by omega) default) (PU (show j < ps.length by omega) default)
  rw [hr] at hC
  rw [ea,eb]
  generalize ps.getD i default = x at hC a3
  generalize ps.getD j default = y at hC b3
  refine kat_lt a1 a3 b1 b3 ?_
  show KatLex _ _ _ _ _ _ [(Value.int x.1 t,Value.int y.1 t'),(Value.int x.2 u,Value.int y.2 u')] 0 s'
  refine kat_cons (wpAny_eqBool_int ?_)
  by_cases h1 : x.1 = y.1
  ·rw [show (x.1 == y.1) = true by simpa using h1]
   refine kat_yes (kat_cons (wpAny_eqBool_int ?_))
   by_cases h2 : x.2 = y.2
   ·rw [show (x.2 == y.2) = true by simpa using h2]
    refine kat_yes (kat_nil ?_)
    have : AS x y = false := by unfold AS; exact decide_eq_false wF
    rw [this] at hC
    exact hC
   ·rw [show (x.2 == y.2) = false by simpa using h2]
    refine kat_no (kat_one _ _ (lt_int ?_))
    have : AS x y = decide (x.2 < y.2) := by unfold AS; exact decide_eq_decide.mpr wF
    rw [this] at hC
    exact hC
  ·rw [show (x.1 == y.1) = false by simpa using h1]
   refine kat_no ?_
   have e : ((Value.type "int" != Value.type "tuple") && (0 : Nat) == 0) = true := by decide
   rw [e]
   refine oneLt_int ?_
   have : AS x y = decide (x.1 < y.1) := by unfold AS; exact decide_eq_decide.mpr wF
   rw [this] at hC
   exact hC
section
variable {X : Cx} {ρ : Aj} {O : Ac} {e a b c : Expr} {es : List Expr} {d da db : D} {ds : List D} {R : D -> Ac -> Prop} {pos p : Pos} {x : Str} {xs ys : List D} {α : Type} [Inhabited α] {lt : α -> α -> Bool} {f : α -> D} {ps : List α}
theorem Rg (o : D5 lt) (cm : LR X lt f) {pins : List (Addr × Obj)} {σ : L2.St} {s1 : Shared} {H1 : Hp} {G1 : Wd} {vs : List V} {its : List Value} {Q : VK} (I : L2.Inv X pins σ H1 s1) (sa : SA X.K G1 H1 O) (is : Al X.K G1 (ps.map f) vs) (va : Az vs its) (h64 : ps.length < 64)
  (hq : ∀ v G' H',Ah G1 G' -> SA X.K G' H' O -> Is X.K G' (.lst ((Cc lt ps).map f)) v -> Q v H') :
  ∃ key,its.length < 64 /\ (2 <= its.length -> G6 X.prog X.w X.A.in1.in1 its key { s1 with heap := F7 (s1.heap.push (seqObj "list" its.toArray 0)) s1.heap.objs.size its }) /\
   ∀ p : Array Nat,p.Perm (List.toArray (List.range its.length)) -> p.size = its.length -> C6 key p its.length -> EP X pins σ Q (.ref s1.heap.objs.size) { s1 with heap := sortedHeap (s1.heap.push (seqObj "list" its.toArray 0)) s1.heap.objs.size its (List.toArray (DC p its)) } := by
 have e1 := is.length
 have e2 := va.length
 rw [List.length_map] at e1
 have el : its.length = ps.length := by omega
 refine ⟨λ i => Ea lt ps (ps.getD i default),by omega,λ h2 => ?_,λ p p1 p2 p3 => ?_⟩
 ·refine cm _ G1 H1 pins σ s1 _ O ps vs its I sa is va wF λ b ob q => ?_
  exact V7 (Nat.ne_of_lt (Heap.lt_size q)) (Heap.get?_push_of_some _ q)
 ·rw [el] at p1 p2 p3
  obtain ⟨us,u1,u2,u3⟩ := Rh o (λ i _ => rfl) is va p1 p2 p3
  obtain ⟨ec,hD⟩ := sortedHeap_at (h := s1.heap.push (seqObj "list" its.toArray 0)) (a := s1.heap.objs.size) (vs := its) (n := 0) (out := List.toArray (DC p its)) (Heap.get?_push_size _ rfl)
  have fr : H1 s1.heap.objs.size = none := I.hok.fresh (Nat.le_refl _)
  obtain ⟨e3,s3⟩ := sa.laid (o := .lst us) fr
  refine ⟨.ref s1.heap.objs.size,AL H1 s1.heap.objs.size (.lst us),?_,rfl,hq _ _ _ e3 s3 (.lst Bs (u2.ext e3))⟩
  refine I.laid (t' := s1.toks) (λ b u q => ?_) (Nat.le_refl _) ⟨by rw [u3,sizeLine_eq]; omega,DC p its,ec,u1,hD⟩
  have hb : b < s1.heap.objs.size := Heap.lt_size q
  rw [sortedHeap_old (Nat.ne_of_lt hb) (by rw [Heap.size_push]; exact Nat.lt_succ_of_lt hb)]
  exact Heap.get?_push_of_some _ q
theorem WG (o : D5 lt) (cm : ∀ Y,LR Y lt f) {Ty : String} (hN : IM Ty) (hz : Gn X ρ O e (ps.map f) Ty) (h64 : ps.length < 64) (hm : X.mg "sorted" = none) (hc : X.calm = true := by rfl) (hg : Gl X "sorted" := by rfl) (hs : starEach [e] X.env = [(false,eval e X.env)] := by rfl) :
  Ad X ρ O (.Call (.Name "sorted" p) [e] [] pos) (.lst ((Cc lt ps).map f)) := λ G pins s σ H Q I ⟨h1,h2,h3⟩ => by
 refine wpAny_Call_Name_kw (EI I hg hm boot_sorted ?_)
 refine PyProof.Rows.callWith_builtin1 ?_ (by rw [hs]; rfl) rfl
 rw [hs]
 show wpAny _ _ (spliced ((false,eval e X.env) :: backTo pos [])) _ _ s
 refine Calls.spliced_cons (Aq (hz G (.Name "" pos) pins s σ H (λ J H1 => ∃ G1,Ah G G1 /\ SA X.K G1 H1 O /\ Dt X.K G1 J (ps.map f)) I h1 h2 λ J G' H' q1 q2 q3 => ⟨G',q1,q2,q3⟩) λ v s1 ⟨⟨it,fp,tn,J,H1,hv,I1,T,st,fo,G1,e1,sa1,Yi⟩,hT⟩ => Calls.spliced_nil ?_)
 subst hv
 refine XJ (Xz (X := Cx.wA X X.A.in1.in1) (A := X.A.in1) rfl hc T (λ v => rfl) Yi (by rw [List.length_map,sizeLine_eq]; omega) hN hT (Zy I1 rfl rfl) st fo sa1 λ s' H' G' vs its I' e' sa' is' va' => ?_)
 exact Rg o (cm X) (Zx I' I.ok) sa' is' va' h64 λ v G'' H'' q1 q2 q3 => h3 v G'' H'' (e1.trans (e'.trans q1)) q2 q3
end
mutual
def De : D -> PyData
 | .non => .none | .bl b => .bool b | .int i => .int i | .str x => .str x | .tup xs => .tuple (Dz xs) | .lst xs => .list (Dz xs) | .scr xs => .list (Dz xs) | .ptr _ => .none | .ty _ => .none | .fn _ => .none | .dct _ _ => .none
def Dz : List D -> List PyData
 | [] => []
 | x :: xs => De x :: Dz xs
end
mutual
def CA : D -> Bool
 | .non => true | .bl _ => true | .int _ => true | .str x => PyData.strOk x | .tup xs => Dk xs | .lst xs => Dk xs | .scr xs => Dk xs | .ptr _ => false | .ty _ => false | .fn _ => false | .dct _ _ => false
def Dk : List D -> Bool
 | [] => true
 | x :: xs => CA x && Dk xs
end
mutual
def DI : D -> Nat
 | .tup xs => DH xs + 1 | .lst xs => DH xs + 1 | .scr xs => DH xs + 1 | .non => 0 | .bl _ => 0 | .int _ => 0 | .str _ => 0 | .ptr _ => 0 | .ty _ => 0 | .fn _ => 0 | .dct _ _ => 0
def DH : List D -> Nat
 | [] => 0
 | x :: xs => max (DI x) (DH xs)
end
def Gb (a b : D) : Bool := PyData.eqv (De a) (De b)
def Pc (a b : List D) : Bool := PyData.eqvAll (Dz a) (Dz b)
mutual
theorem Li : ∀ d : D,(De d).depth = DI d
 | .non => rfl | .bl _ => rfl | .int _ => rfl | .str _ => rfl | .ptr _ => rfl | .ty _ => rfl | .fn _ => rfl | .dct _ _ => rfl
 | .tup xs => by simp only [De,PyData.depth,DI]; rw [Iu xs]
 | .lst xs => by simp only [De,PyData.depth,DI]; rw [Iu xs]
 | .scr xs => by simp only [De,PyData.depth,DI]; rw [Iu xs]
theorem Iu : ∀ xs : List D,PyData.depthAll (Dz xs) = DH xs
 | [] => rfl
 | x :: xs => by simp only [Dz,PyData.depthAll,DH]; rw [Li x,Iu xs]
end
mutual
theorem KO : ∀ d : D,CA d = true -> (De d).canLay0 = true
 | .non,_ => rfl | .bl _,_ => rfl | .int _,_ => rfl | .str x,h => by simp only [CA] at h; simp only [De,PyData.canLay0]; exact h | .ptr _,h => nomatch h | .ty _,h => nomatch h | .fn _,h => nomatch h | .dct _ _,h => nomatch h
 | .tup xs,h => HK xs h
 | .lst xs,h => HK xs h
 | .scr xs,h => HK xs h
theorem HK : ∀ xs : List D,Dk xs = true -> PyData.canLayAll0 (Dz xs) = true
 | [],_ => rfl
 | x :: xs,h => by
  have h : (CA x && Dk xs) = true := h
  rw [Bool.and_eq_true] at h
  show (PyData.canLay0 (De x) && PyData.canLayAll0 (Dz xs)) = true
  rw [KO x h.1,HK xs h.2]; rfl
end
section
variable {X : Cx} {pins : List (Addr × Obj)} {σ : L2.St} {H : Hp} {s : Shared} {G : Wd}
mutual
theorem NF (I : L2.Inv X pins σ H s) (sub : Bu G.g H) : ∀ {d : D} {v : V} {u : Value},Is X.K G d v -> AX v u -> CA d = true -> ∃ as,Reads s.heap u (De d) as
 | _,_,_,.non,r,_ => by cases r; exact ⟨[],.none⟩
 | _,_,_,.bl b,r,_ => by cases r; exact ⟨[],.bool b⟩
 | _,_,_,.int i,r,_ => by obtain ⟨t,rfl⟩ := r; exact ⟨[],.int i t⟩
 | _,_,_,.str x,r,_ => by obtain ⟨t,rfl⟩ := r; exact ⟨[],.str x t⟩
 | _,_,_,.tup h q,r,p => by
  cases r
  obtain ⟨its,va,⟨o,g1,g2,n,g3⟩,_⟩ := I.tuple (Dh sub h)
  obtain ⟨as,ra⟩ := GE I sub q va p
  exact ⟨as,.tuple g1 g2 g3 (by simpa using ra)⟩
 | _,_,_,.lst h q,r,p => by
  cases r
  obtain ⟨its,va,pl,_⟩ := I.list (Be.of (sub _ _ h))
  obtain ⟨o,g1,g2,n,g3⟩ := pl.isList
  obtain ⟨as,ra⟩ := GE I sub q va p
  exact ⟨_,.list g1 g2 g3 (by simpa using ra)⟩
 | _,_,_,.scr h q,r,p => by
  cases r
  obtain ⟨its,va,pl,_⟩ := I.list (sub.seq h)
  obtain ⟨o,g1,g2,n,g3⟩ := pl.isList
  obtain ⟨as,ra⟩ := GE I sub q va p
  exact ⟨_,.list g1 g2 g3 (by simpa using ra)⟩
 | _,_,_,.ptr _ _,_,p => by simp [CA] at p
 | _,_,_,.ty _,_,p => by simp [CA] at p
 | _,_,_,.fn _,_,p => by simp [CA] at p
 | _,_,_,.dct _ _ _,_,p => by simp [CA] at p
theorem GE (I : L2.Inv X pins σ H s) (sub : Bu G.g H) : ∀ {ds : List D} {vs : List V} {us : List Value},Al X.K G ds vs -> Az vs us -> Dk ds = true -> ∃ as,ReadsAll s.heap us (Dz ds) as
 | _,_,_,.nil,.nil,_ => ⟨[],.nil⟩
 | d :: ds,_,_,.cons i is,.cons r rs,p => by
  have p : (CA d && Dk ds) = true := p
  rw [Bool.and_eq_true] at p
  obtain ⟨as,ra⟩ := NF I sub i r p.1
  obtain ⟨bs,rb⟩ := GE I sub is rs p.2
  exact ⟨_,.cons ra rb⟩
end
end
def RD (O : Ac) (d e : D) : Prop := e = d \/ ∃ n xs,d = .ptr n /\ O[n]? = some (some (.lst xs)) /\ e = .lst xs
theorem RD.reads {X : Cx} {pins : List (Addr × Obj)} {σ : L2.St} {H : Hp} {s : Shared} {G : Wd} {O : Ac} {d e : D} {v : V} {u : Value} (h : RD O d e) (I : L2.Inv X pins σ H s) (sa : SA X.K G H O) (i : Is X.K G d v) (r : AX v u) (p : CA e = true) : ∃ as,Reads s.heap u (De e) as := by
 rcases h with rfl | ⟨n,xs,rfl,h,rfl⟩
 ·exact NF I sa.sub i r p
 ·cases i with | ptr _ ha =>
  cases r
  obtain ⟨a,g0,_,vs,g1,g2⟩ := sa.mt n _ h
  have := Option.some.inj (ha.symm.trans g0)
  subst this
  obtain ⟨its,va,pl,_⟩ := I.list (Be.of g1)
  obtain ⟨o,q1,q2,k,q3⟩ := pl.isList
  obtain ⟨as,ra⟩ := GE I sa.sub g2 va p
  exact ⟨_,.list q1 q2 q3 (by simpa using ra)⟩
section
variable {X : Cx} {ρ : Aj} {O : Ac} {e a b c : Expr} {es : List Expr} {d da db ea eb : D} {ds xs ys : List D} {R : D -> Ac -> Prop} {pos p : Pos} {x : Str} {k : Nat}
theorem XD (hr : AN k X.A) (ha : RD O da ea) (hb : RD O db eb) (pa : CA ea = true) (pb : CA eb = true) (hd : min (DI ea) (DI eb) <= 60) : Bl X O (compareOp .NotEq) da db (.bl (!Gb ea eb)) := λ G pins s σ H x y v u Q I rx ry ⟨h1,h2,h3,h4⟩ => by
 obtain ⟨as,ra⟩ := ha.reads I h1 h2 rx pa
 obtain ⟨bs,rb⟩ := hb.reads I h1 h3 ry pb
 have hu := hr.units
 exact PySem.SeqAt.compareNe_reads ra rb (KO _ pa) (KO _ pb) (by rw [Li,Li]; omega) ⟨.bl _,H,I,rfl,h4 _ G H (Ah.refl _) h1 (.bl _)⟩
end
theorem Tq {l : List D} (h : ∀ d ∈ l,CA d = true) : Dk l = true := by
 induction l with
 | nil => rfl
 | cons x xs ih =>
  show (CA x && Dk xs) = true
  rw [h x List.mem_cons_self,ih λ d hd => h d (List.mem_cons_of_mem _ hd)]; rfl
theorem Tp {α : Type} {f : α -> D} {l : List α} (h : ∀ a ∈ l,CA (f a) = true) : Dk (l.map f) = true := Tq λ d hd => by obtain ⟨a,ha,rfl⟩ := List.mem_map.mp hd; exact h a ha
theorem Xn {l : List D} {k : Nat} (h : ∀ d ∈ l,DI d <= k) : DH l <= k := by
 induction l with
 | nil => exact Nat.zero_le _
 | cons x xs ih =>
  show max (DI x) (DH xs) <= k
  have := h x List.mem_cons_self
  have := ih λ d hd => h d (List.mem_cons_of_mem _ hd)
  omega
theorem Xm {α : Type} {f : α -> D} {l : List α} {k : Nat} (h : ∀ a ∈ l,DI (f a) <= k) : DH (l.map f) <= k := Xn λ d hd => by obtain ⟨a,ha,rfl⟩ := List.mem_map.mp hd; exact h a ha
theorem Pb {α : Type} {f : α -> D} [DecidableEq α] (h : ∀ a b,Gb (f a) (f b) = decide (a = b)) : ∀ l m : List α,Pc (l.map f) (m.map f) = decide (l = m)
 | [],[] => rfl
 | [],_ :: _ => rfl
 | _ :: _,[] => rfl
 | a :: l,b :: m => by
  show (Gb (f a) (f b) && Pc (l.map f) (m.map f)) = _
  rw [h a b,Pb h l m]
  by_cases h1 : a = b
  ·by_cases h2 : l = m
   ·simp [h1,h2]
   ·simp [h1,h2]
  ·simp [h1]
theorem Xa (a b : Int) : Gb (.int a) (.int b) = decide (a = b) := by
 show (a == b) = _
 by_cases h : a = b
 ·simp [h]
 ·simp [h]
theorem W9 (a b : List Int) : Gb (.lst (a.map D.int)) (.lst (b.map D.int)) = decide (a = b) := Pb Xa a b
theorem Tr (a : List Int) : Dk (a.map D.int) = true := Tp λ _ _ => rfl
theorem Xo (a : List Int) : DH (a.map D.int) <= 0 := Xm λ _ _ => Nat.le_refl _
theorem Ih {α : Type} {l : List α} {i : Nat} (h : i < l.length) (d : α) : l.getD i d = l[i] := by simp [h]
section
variable {X : Cx} {ρ : Aj} {O : Ac} {e a b c : Expr} {es : List Expr} {d da db ea eb : D} {ds xs ys : List D} {R : D -> Ac -> Prop} {pos p : Pos} {x : Str} {k : Nat}
theorem LT.sq {K : PySem.W.Frag} {G : Wd} {H : Hp} {O : Ac} {d : D} {xs : List D} {v : V} (h : LT O d xs) (s : SA K G H O) (i : Is K G d v) : ∃ k a vs,v = .ref a /\ Sq k K H a vs /\ Al K G xs vs := by
 rcases h with h | rfl
 ·obtain ⟨a,vs,rfl,q,r⟩ := h.sq s i; exact ⟨true,a,vs,rfl,q,r⟩
 ·obtain ⟨a,vs,rfl,q,r⟩ := Dy s i; exact ⟨false,a,vs,rfl,q,r⟩
theorem Tf (ns : List Int) : preSum (λ i => ns.getD i 0) ns.length = ns.sum := by rw [preSum_getD,List.take_length]
theorem Mv {k : Bool} {h : Heap} {l : Addr} {ys : Array Value} (q : BJ k h l ys) : l < h.objs.size := by
 cases k with
 | true => obtain ⟨o,g,_⟩ := (q : h.IsList l ys); exact Heap.lt_size g
 | false => obtain ⟨o,g,_⟩ := (q : h.IsTuple l ys); exact Heap.lt_size g
theorem XI {prog : Program} {w : World} {A : Around} {E : Value -> Shared -> Prop} {s : Shared} {k : Bool} {l : Addr} {its : List Value} {ns : List Int} {Q : Value -> Shared -> Prop} (hh : A.handled = none) (q : BJ k s.heap l its.toArray) (hv : ∀ (i : Nat) (v : Value),its[i]? = some v -> ∃ t,v = .int (ns.getD i 0) t) (hn : ns.length = its.length)
  (h : ∀ h' tk t,(∀ b o,s.heap.get? b = some o -> h'.get? b = some o) -> Q (.int ns.sum t) { s with heap := h',toks := tk }) : wpAny (model prog w) A (call (.builtin "sum") [.ref l]) Q E s := by
 have hl := Mv q
 have fin : ∀ (h2 : Heap),(∀ b o,s.heap.get? b = some o -> h2.get? b = some o) -> ∀ h' tk t',(∀ b o,b ∉ [s.heap.objs.size] -> h2.get? b = some o -> h'.get? b = some o) -> Q (.int (preSum (λ i => ns.getD i 0) its.toArray.size) t') { s with heap := h',toks := tk } := λ h2 up h' tk t' kp => by
  rw [show its.toArray.size = ns.length by simp [hn],Tf]
  exact h h' tk t' λ b o e => kp b o (by simpa using Nat.ne_of_lt (Heap.lt_size e)) (up b o e)
 cases k with
 | true =>
  refine call_sum_walkG (wpAny_pyIter_list q ⟨s.heap.objs.size,[s.heap.objs.size,l],[s.heap.objs.size],its.toArray.size,λ i v => its.toArray[i]? = some v,λ i h => h.IsListIter s.heap.objs.size l i /\ h.IsList l its.toArray,λ i => ns.getD i 0,rfl,Walks.list (A := A.in1) hh _ l (Nat.ne_of_lt hl) its.toArray,⟨⟨_,Heap.get?_push_size _ rfl,rfl,rfl⟩,Heap.IsList.push q _⟩,λ b hb => ?_,λ i v e => hv i v (by simpa using e),fin _ λ b o e => Heap.get?_push_of_some _ e⟩)
  rw [Heap.size_push]
  rcases List.mem_cons.mp hb with rfl | hb
  ·exact Nat.lt_succ_self _
  ·rw [List.mem_singleton.mp hb]; exact Nat.lt_succ_of_lt hl
 | false =>
  refine call_sum_walkG (wpAny_pyIter_tuple q ⟨s.heap.objs.size,[s.heap.objs.size,l],[s.heap.objs.size],its.toArray.size,λ i v => its.toArray[i]? = some v,λ i h => h.IsTupleIter s.heap.objs.size l i /\ h.IsTuple l its.toArray,λ i => ns.getD i 0,rfl,Walks.tuple (A := A.in1) hh _ l (Nat.ne_of_lt hl) its.toArray,⟨⟨_,Heap.get?_push_size _ rfl,rfl,rfl⟩,(BJ.at (k := false) q λ o e => Heap.get?_push_of_some _ e : BJ false _ l _)⟩,λ b hb => ?_,λ i v e => hv i v (by simpa using e),fin _ λ b o e => Heap.get?_push_of_some _ e⟩)
  rw [Heap.size_push]
  rcases List.mem_cons.mp hb with rfl | hb
  ·exact Nat.lt_succ_self _
  ·rw [List.mem_singleton.mp hb]; exact Nat.lt_succ_of_lt hl
theorem Lq {ns : List Int} (h : LT O d (ns.map D.int)) (hc : X.calm = true := by rfl) : B4 X O (.builtin "sum") [d] (.int ns.sum) := λ G pins s σ H vs us Q I r ⟨h1,h2,h3⟩ => by
 cases h2 with | cons i r2 =>
 cases r2
 obtain ⟨kk,ad,ws,rfl,q,is⟩ := h.sq h1 i
 obtain ⟨u,rfl,ru⟩ := DQ r
 cases ru
 obtain ⟨its,va,sq,_⟩ := DN I q
 have e := is.toInts
 subst e
 have el := va.length
 rw [List.length_map] at el
 refine XI (ns := ns) (I.ok.hd hc) sq (λ i v hv => ?_) el λ h' tk t kp => ⟨.int ns.sum,H,I.kept kp,⟨t,rfl⟩,h3 _ G H (Ah.refl _) h1 (.int _)⟩
 have hi : i < ns.length := by rw [el]; exact (List.getElem?_eq_some_iff.mp hv).1
 obtain ⟨w,hw,rw'⟩ := va.get (i := i) (x := .int ns[i]) (by simp [hi])
 rw [hv] at hw
 cases hw
 obtain ⟨t,e⟩ := rw'
 exact ⟨t,by rw [e,Ih hi]⟩
theorem XV {prog : Program} {w : World} {A : Around} {E : Value -> Shared -> Prop} {s : Shared} {k : Bool} {l : Addr} {its : List Value} {bs : List Bool} {Q : Value -> Shared -> Prop} (hh : A.handled = none) (q : BJ k s.heap l its.toArray) (hv : ∀ (i : Nat) (v : Value),its[i]? = some v -> v = .bool (bs.getD i true)) (hn : bs.length = its.length) (al : Bool)
  (h : ∀ h' tk,(∀ b o,s.heap.get? b = some o -> h'.get? b = some o) -> Q (.bool (if al then bs.all id else bs.any id)) { s with heap := h',toks := tk }) : wpAny (model prog w) A (call (.builtin (if al then "all" else "any")) [.ref l]) Q E s := by
 have hl := Mv q
 have ea : (List.range its.toArray.size).all (λ i => bs.getD i true) = bs.all id := by
  have : bs = (List.range bs.length).map λ i => bs.getD i true := by
   apply List.ext_getElem
   ·simp
   ·intro i h1 h2; simp; rw [List.getElem?_eq_getElem h1]; rfl
  conv => rhs; rw [this,List.all_map]
  rw [show its.toArray.size = bs.length by simp [hn]]
  rfl
 have eb : (List.range its.toArray.size).any (λ i => bs.getD i true) = bs.any id := by
  have : bs = (List.range bs.length).map λ i => bs.getD i true := by
   apply List.ext_getElem
   ·simp
   ·intro i h1 h2; simp; rw [List.getElem?_eq_getElem h1]; rfl
  conv => rhs; rw [this,List.any_map]
  rw [show its.toArray.size = bs.length by simp [hn]]
  rfl
 have kp' : ∀ (h2 : Heap),(∀ b o,s.heap.get? b = some o -> h2.get? b = some o) -> ∀ h' : Heap,(∀ b o,b ∉ [s.heap.objs.size] -> h2.get? b = some o -> h'.get? b = some o) -> ∀ b o,s.heap.get? b = some o -> h'.get? b = some o := λ h2 up h' kp b o e => kp b o (by simpa using Nat.ne_of_lt (Heap.lt_size e)) (up b o e)
 have tr : TruthOf prog w A.in1 (λ i v => its.toArray[i]? = some v) (λ i => bs.getD i true) := λ i v s Q E hP hQ => by
  rw [hv i v (by simpa using hP)]; exact wpAny_truthy_bool hQ
 cases k with
 | true =>
  have W := Walks.list (prog := prog) (w := w) (A := A.in1) hh s.heap.objs.size l (Nat.ne_of_lt hl) its.toArray
  have st : (s.heap.push { cls := .type "list_iterator",data := .fields #[.ref l,.int 0 0] }).IsListIter s.heap.objs.size l 0 /\ (s.heap.push { cls := .type "list_iterator",data := .fields #[.ref l,.int 0 0] }).IsList l its.toArray := ⟨⟨_,Heap.get?_push_size _ rfl,rfl,rfl⟩,Heap.IsList.push q _⟩
  cases al with
  | true => exact call_all_walk (wpAny_pyIter_list q ⟨_,_,_,_,_,_,_,rfl,W,st,tr,λ h' tk kp => by rw [ea]; exact h h' tk (kp' _ (λ b o e => Heap.get?_push_of_some _ e) h' kp)⟩)
  | false => exact call_any_walk (wpAny_pyIter_list q ⟨_,_,_,_,_,_,_,rfl,W,st,tr,λ h' tk kp => by rw [eb]; exact h h' tk (kp' _ (λ b o e => Heap.get?_push_of_some _ e) h' kp)⟩)
 | false =>
  have W := Walks.tuple (prog := prog) (w := w) (A := A.in1) hh s.heap.objs.size l (Nat.ne_of_lt hl) its.toArray
  have st : (s.heap.push { cls := .type "tuple_iterator",data := .fields #[.ref l,.int 0 0] }).IsTupleIter s.heap.objs.size l 0 /\ (s.heap.push { cls := .type "tuple_iterator",data := .fields #[.ref l,.int 0 0] }).IsTuple l its.toArray := ⟨⟨_,Heap.get?_push_size _ rfl,rfl,rfl⟩,(BJ.at (k := false) q λ o e => Heap.get?_push_of_some _ e : BJ false _ l _)⟩
  cases al with
  | true => exact call_all_walk (wpAny_pyIter_tuple q ⟨_,_,_,_,_,_,_,rfl,W,st,tr,λ h' tk kp => by rw [ea]; exact h h' tk (kp' _ (λ b o e => Heap.get?_push_of_some _ e) h' kp)⟩)
  | false => exact call_any_walk (wpAny_pyIter_tuple q ⟨_,_,_,_,_,_,_,rfl,W,st,tr,λ h' tk kp => by rw [eb]; exact h h' tk (kp' _ (λ b o e => Heap.get?_push_of_some _ e) h' kp)⟩)
theorem Py {bs : List Bool} (al : Bool) (h : LT O d (bs.map D.bl)) (hc : X.calm = true) : B4 X O (.builtin (if al then "all" else "any")) [d] (.bl (if al then bs.all id else bs.any id)) := λ G pins s σ H vs us Q I r ⟨h1,h2,h3⟩ => by
 cases h2 with | cons i r2 =>
 cases r2
 obtain ⟨kk,ad,ws,rfl,q,is⟩ := h.sq h1 i
 obtain ⟨u,rfl,ru⟩ := DQ r
 cases ru
 obtain ⟨its,va,sq,_⟩ := DN I q
 have e1 := is.length
 have e2 := va.length
 rw [List.length_map] at e1
 refine XV (bs := bs) (I.ok.hd hc) sq (λ i v hv => ?_) wF al λ h' tk kp => ⟨.bl _,H,I.kept kp,rfl,h3 _ G H (Ah.refl _) h1 (.bl _)⟩
 have hi : i < bs.length := by rw [e1,e2]; exact (List.getElem?_eq_some_iff.mp hv).1
 obtain ⟨w,hw,iw⟩ := is.get (i := i) (d := .bl bs[i]) (by simp [hi])
 obtain ⟨z,hz,rz⟩ := va.get hw
 rw [hv] at hz
 cases hz
 cases iw
 rw [Ih hi]
 exact rz
theorem Lv {bs : List Bool} (h : LT O d (bs.map D.bl)) (hc : X.calm = true := by rfl) : B4 X O (.builtin "all") [d] (.bl (bs.all id)) := Py true h hc
theorem X2 {bs : List Bool} (h : LT O d (bs.map D.bl)) (hc : X.calm = true := by rfl) : B4 X O (.builtin "any") [d] (.bl (bs.any id)) := Py false h hc
theorem QJ {prog : Program} {w : World} {A : Around} {E : Value -> Shared -> Prop} {s : Shared} {t sl : Addr} {its : Array Value} {vl vu : Value} {lo hi : Option Int} {Q : Value -> Shared -> Prop} (ht : IsTup s.heap t its) (hs : s.heap.IsSliceOf sl vl vu .none) (pl : IsPart vl lo) (pu : IsPart vu hi)
  (hw : HT.sIx its.size 0 lo = 0 /\ HT.sIx its.size its.size hi = its.size) (h : Q (.ref t) s) : wpAny (model prog w) A (getItem (.ref t) (.ref sl)) Q E s := by
 obtain ⟨osl,hos,hcs,hds⟩ := id hs
 have hTs : s.TypeIs (.ref sl) "slice" := ⟨osl,hos,hcs⟩
 unfold getItem
 try with_reducible refine wpAny_holding ?_
 first | refine wpAny_bind (wpAny_pure ?_) | skip
 refine wpAny_bind (wpAny_sequenceKey ht.typeIs wE (wpAny_bind (wpAny_callSpecial?_slot (name := Str.ofString "__getitem__") ht.typeIs PyProof.Rows.slot_tuple_getitem (wpAny_call_entry PyProof.Rows.slot_tuple_getitem ht.typeIs entry_tuple_getitem ?_ (args_tuple_getitem _ _)))))
 show wpAny (model prog w) _ (Builtin.Tuple.tupleItemsOf (.ref t) >>= _) _ _ s
 refine wpAny_bind (tupleItemsOf_ ht (wpAny_bind (wpAny_typeOf hTs ?_)))
 rw [if_pos wE]
 refine wpAny_bind (HT.sliceApplied_gen hs pl pu ?_)
 have hyes : ((((HT.sIx its.size 0 lo : Nat) : Int) == 0 && (1 : Int) == 1 && (HT.sIx its.size its.size hi - HT.sIx its.size 0 lo) == its.size) = true) := by
  rw [hw.1,hw.2]; simp
 show wpAny (model prog w) _ (if (((HT.sIx its.size 0 lo : Nat) : Int) == 0 && (1 : Int) == 1 && (HT.sIx its.size its.size hi - HT.sIx its.size 0 lo) == its.size) = true then _ else _) _ _ s
 rw [if_pos hyes]
 first
  | exact wpAny_pure ⟨_,rfl,wpAny_pure h⟩
  | exact wpAny_bind (wpAny_rule (wpAny_pure ⟨_,rfl,wpAny_pure h⟩))
  | (refine wpAny_bind (wpAny_typeOf ht.typeIs ?_); rw [if_pos wE]; exact wpAny_pure ⟨_,rfl,wpAny_pure h⟩)
  | (refine wpAny_bind (wpAny_bind (wpAny_typeOf ht.typeIs (wpAny_pure ?_))); rw [if_pos wE]; exact wpAny_bind (wpAny_rule (wpAny_pure ⟨_,rfl,wpAny_pure h⟩)))
def SG (K : PySem.W.Frag) : V -> Option Int -> Option Int -> Hp -> VK -> Prop := λ x lo hi H Q => ∃ a xs,x = .ref a /\ Bc K H a xs /\ (HT.sIx xs.length 0 lo = 0 /\ HT.sIx xs.length xs.length hi = xs.length) /\ Q (.ref a) H
theorem Rt : FB X (SG X.K) := λ pins s σ H x v vl vu lo hi sl Q I rx hs pl pu h => by
 obtain ⟨a,xs,rfl,hx,hw,q⟩ := h
 cases rx
 obtain ⟨its,r,ht,hz⟩ := I.tuple hx
 have hlen : its.toArray.size = xs.length := by rw [List.size_toArray]; exact r.length.symm
 exact ⟨"tuple",_,PyProof.Rows.slot_tuple_getitem.lookup,ht.typeIs,QJ ht hs pl pu (by rw [hlen]; exact hw) ⟨.ref a,H,I,rfl,q⟩⟩
theorem Rs {xs : List D} {l u : Option Int} (h : HT.sIx xs.length 0 l = 0 /\ HT.sIx xs.length xs.length u = xs.length) : Fi xs l u = xs := by
 unfold Fi
 rw [h.1,h.2]
 simp
theorem WH {xs : List D} {lo hi : Option Expr} {l u : Option Int} {p2 : Pos} (ha : Ad X ρ O a (.tup xs)) (hl : Go X ρ O lo l) (hh : Go X ρ O hi u) : Ad X ρ O (.Subscript a (.Slice lo hi none p2) pos) (.tup (Fi xs l u)) := λ G =>
 PE.imp (TF (Ru.or Rt) (ha G) (tl := λ σ H Q => ∃ G1,SA X.K G1 H O /\ AB X.K G1 σ ρ /\ ∀ G' H',Ah G1 G' -> SA X.K G' H' O -> Q l H') (λ pins s σ H Q I ⟨G1,q⟩ => hl G1 pins s σ H Q I q)
  (th := λ σ H Q => ∃ G1,SA X.K G1 H O /\ AB X.K G1 σ ρ /\ ∀ G' H',Ah G1 G' -> SA X.K G' H' O -> Q u H') (λ pins s σ H Q I ⟨G1,q⟩ => hh G1 pins s σ H Q I q)) λ σ H Q ⟨h1,h2,h3⟩ =>
  ⟨h1,h2,λ v G1 H1 e1 s1 i1 => ⟨G1,s1,h2.ext e1,λ G2 H2 e2 s2 => ⟨G2,s2,(h2.ext e1).ext e2,λ G3 H3 e3 s3 => by
   have i3 := i1.ext (e2.trans e3)
   obtain ⟨q,vs,rfl,q1,r⟩ := Dy s3 i3
   by_cases hw : HT.sIx vs.length 0 l = 0 /\ HT.sIx vs.length vs.length u = vs.length
   ·refine .inr ⟨q,vs,rfl,q1,hw,h3 _ _ _ ((e1.trans e2).trans e3) s3 ?_⟩
    rw [Rs (by rw [r.length]; exact hw)]
    exact i3
   ·refine .inl ⟨q,vs,rfl,q1,hw,λ z hz => ?_⟩
    obtain ⟨e4,s4⟩ := s3.laid (o := .tup (Fw vs l u)) hz
    exact h3 _ _ _ (((e1.trans e2).trans e3).trans e4) s4 (.tup (Bc.of Bs) ((Xs r).ext e4))⟩⟩⟩
theorem Vp {xs ys : List D} (hx : xs ≠ []) (hz : xs.length + ys.length <= sizeLine) : Bl X O (binaryOp .Add) (.tup xs) (.tup ys) (.tup (xs ++ ys)) :=
 .of Ua λ G v u H Q s h1 h2 k => by
  have j1 := h1
  obtain ⟨q1,vs,rfl,g1,r1⟩ := Dy s h1
  obtain ⟨q2,us,rfl,g2,r2⟩ := Dy s h2
  refine ⟨_,_,_,_,rfl,rfl,g1,g2,?_,by rw [<- r1.length,<- r2.length]; exact hz,λ z => ?_,λ _ p hp => ?_⟩
  ·intro z; apply hx; have := r1.length; rw [z] at this; exact List.eq_nil_of_length_eq_zero this
  ·subst z
   cases r2
   rw [List.append_nil] at k
   exact k _ G H (Ah.refl _) s j1
  ·obtain ⟨e4,s4⟩ := s.laid (o := .tup _) hp
   exact k _ _ _ e4 s4 (.tup (Bc.of Bs) ((r1.append r2).ext e4))
end
end DL
namespace DL
open PySem PySem.Spec PyProof.Rows L2
mutual
def F0 : D -> Bool
 | .ptr _ => false
 | .tup xs => Ef xs
 | .lst xs => Ef xs
 | .scr xs => Ef xs
 | .dct _ xs => Ef xs
 | _ => true
def Ef : List D -> Bool
 | [] => true
 | d :: ds => F0 d && Ef ds
end
theorem Oh {α : Type} {f : α -> D} (h : ∀ a,F0 (f a) = true) (l : List α) : Ef (l.map f) = true := by
 induction l with
 | nil => rfl
 | cons a l ih => rw [List.map_cons]; unfold Ef; rw [h,ih]; rfl
section
variable {K : PySem.W.Frag} {G G' : Wd} {t : List Addr}
mutual
theorem Is.cut : ∀ {d : D} {v : V},Is K G' d v -> F0 d = true -> ∀ l,Is K ⟨G'.g,l⟩ d v
 | _,_,.non,_,l => .non
 | _,_,.bl b,_,l => .bl b
 | _,_,.int i,_,l => .int i
 | _,_,.str x,_,l => .str x
 | _,_,.tup h r,e,l => .tup h (Al.cut r e l)
 | _,_,.lst h r,e,l => .lst h (Al.cut r e l)
 | _,_,.scr h r,e,l => .scr h (Al.cut r e l)
 | _,_,.ptr n h,e,l => by cases e
 | _,_,.ty n,_,l => .ty n
 | _,_,.fn n,_,l => .fn n
 | _,_,.dct h hl r,e,l => .dct h hl (Al.cut r e l)
theorem Al.cut : ∀ {ds : List D} {vs : List V},Al K G' ds vs -> Ef ds = true -> ∀ l,Al K ⟨G'.g,l⟩ ds vs
 | _,_,.nil,_,l => .nil
 | _,_,.cons h r,e,l => by
  have e := (Bool.and_eq_true _ _).mp e
  exact .cons (Is.cut h e.1 l) (Al.cut r e.2 l)
end
mutual
theorem Is.back (e : G'.l = G.l ++ t) : ∀ {d : D} {v v0 : V},Is K G d v0 -> Is K G' d v -> Is K ⟨G'.g,G.l⟩ d v
 | _,_,_,.non,h => by cases h; exact .non
 | _,_,_,.bl b,h => by cases h; exact .bl b
 | _,_,_,.int i,h => by cases h; exact .int i
 | _,_,_,.str x,h => by cases h; exact .str x
 | _,_,_,.tup _ r0,h => by cases h with | tup h r => exact .tup h (Al.back e r0 r)
 | _,_,_,.lst _ r0,h => by cases h with | lst h r => exact .lst h (Al.back e r0 r)
 | _,_,_,.scr _ r0,h => by cases h with | scr h r => exact .scr h (Al.back e r0 r)
 | _,_,_,.ptr n q,h => by
  cases h with
  | ptr _ h =>
   refine .ptr n ?_
   rw [e,List.getElem?_append_left (List.getElem?_eq_some_iff.mp q).1] at h
   exact h
 | _,_,_,.ty n,h => by cases h; exact .ty n
 | _,_,_,.fn n,h => by cases h; exact .fn n
 | _,_,_,.dct _ _ r0,h => by cases h with | dct h hl r => exact .dct h hl (Al.back e r0 r)
theorem Al.back (e : G'.l = G.l ++ t) : ∀ {ds : List D} {vs v0 : List V},Al K G ds v0 -> Al K G' ds vs -> Al K ⟨G'.g,G.l⟩ ds vs
 | _,_,_,.nil,h => by cases h; exact .nil
 | _,_,_,.cons q r,h => by cases h with | cons h1 h2 => exact .cons (Is.back e q h1) (Al.back e r h2)
end
theorem Bw.back (e : G'.l = G.l ++ t) : ∀ {fs : List (Str × D)} {vs v0 : List (Str × V)},Bw K G fs v0 -> Bw K G' fs vs -> Bw K ⟨G'.g,G.l⟩ fs vs
 | _,_,_,.nil,h => by cases h; exact .nil
 | _,_,_,.cons q r,h => by cases h with | cons h1 h2 => exact .cons (Is.back e q h1) (Bw.back e r h2)
theorem SA.cut {H H' : Hp} {O O2 : Ac} (s : SA K G H O) (e : Ah G G') (s' : SA K G' H' (O ++ O2)) : Ah G ⟨G'.g,G.l⟩ /\ SA K ⟨G'.g,G.l⟩ H' O := by
 obtain ⟨t,et⟩ := e.l
 refine ⟨⟨e.g,[],(List.append_nil _).symm⟩,⟨s'.sub,s.len,s.nd,λ a ha => s'.liv a (by rw [et]; exact List.mem_append_left _ ha),λ n m h => ?_⟩⟩
 have hn := (List.getElem?_eq_some_iff.mp h).1
 obtain ⟨a,q1,q2,q3⟩ := s'.mt n m (by rw [List.getElem?_append_left hn]; exact h)
 obtain ⟨a0,p1,p2,p3⟩ := s.mt n m h
 rw [et,List.getElem?_append_left (by rw [s.len]; exact hn)] at q1
 refine ⟨a,q1,q2,?_⟩
 cases m with
 | lst xs =>
  obtain ⟨vs,g1,g2⟩ := q3
  obtain ⟨v0,h1,h2⟩ := p3
  exact ⟨vs,g1,Al.back et h2 g2⟩
 | ins C fs =>
  obtain ⟨dx,vs,g1,g2⟩ := q3
  obtain ⟨dx0,v0,h1,h2⟩ := p3
  exact ⟨dx,vs,g1,Bw.back et h2 g2⟩
 | exc C fs ha =>
  obtain ⟨ob,g1,g2,g3,g4⟩ := q3
  obtain ⟨ob0,h1,h2,h3,_⟩ := p3
  refine ⟨ob,g1,g2,?_,g4⟩
  rcases h3 with h3 | ⟨dx0,v0,b1,b2,b3⟩
  ·exact .inl h3
  ·refine g3.imp id ?_
   rintro ⟨dx,vs,a1,a2,a3⟩
   exact ⟨dx,vs,a1,a2,Bw.back et b3 a3⟩
 | dct ks xs =>
  obtain ⟨vs,g1,g2,g3⟩ := q3
  obtain ⟨v0,h1,h2,h3⟩ := p3
  exact ⟨vs,g1,g2,Al.back et h3 g3⟩
 | pin ob vs ks xs => exact ⟨q3.1,q3.2.1,Al.back et p3.2.2 q3.2.2⟩
end
section
variable {X : Cx} {ρ : Aj} {O : Ac} {e a b c : Expr} {es : List Expr} {d da db : D} {ds : List D} {R : D -> Ac -> Prop} {pos p : Pos} {x : Str} {rest : List Stmt} {P : Bf}
theorem IY (h : Cw X ρ O rest { nx := λ _ _ => False,rt := λ d O' => (∃ O2,O' = O ++ O2) /\ F0 d = true /\ P.rt d O }) : Cw X ρ O rest P := λ G pins s σ H E I ⟨q1,q2,q3⟩ => by
 refine h G pins s σ H E I ⟨q1,q2,⟨λ σ' ρ' O' G3 H3 e3 s3 n3 q => q.elim,λ v d O' G3 H3 e3 s3 i3 r => ?_,λ σ' ρ' O' G3 H3 e3 s3 n3 q => q.elim,λ σ' ρ' O' G3 H3 e3 s3 n3 q => q.elim⟩⟩
 obtain ⟨⟨O2,rfl⟩,r2,r3⟩ := r
 obtain ⟨e4,s4⟩ := q1.cut e3 s3
 exact q3.rt v d O _ H3 e4 s4 (i3.cut r2 _) r3
def HH (pre : List D -> Prop) (f : List D -> D -> Prop) : AQ := λ ds O R => pre ds /\ ∀ d,f ds d -> R d O
theorem CN {tg : Expr} (he : Ev X ρ O e λ d O' => ∃ ρ1,Tg X tg d ρ ρ1 /\ P.nx ρ1 O') (hs : swapsWithSole [tg] e pos.line X.env = pure false := by rfl) (hw : swappedStores [tg] e X.env = pure none := by rfl)
  (h1 : (assignEach [tg] X.env).map (·.2) = [assign tg X.env] := by rfl) : Ex X ρ O (.Assign [tg] e pos) P := λ G =>
 PS.imp (NO (he G) (g := λ v σ H Q => ∃ G1 d ρ1,Tg X tg d ρ ρ1 /\ Is X.K G1 d v /\ Bu G1.g H /\ AB X.K G1 σ ρ /\ ∀ σ',AB X.K G1 σ' ρ1 -> Q σ' H) (λ pins s σ H v u Q I r ⟨G1,d,ρ1,ht,q⟩ => ht G1 pins s σ H v u Q I r q) hs hw h1) λ E σ H ⟨q1,q2,q3⟩ =>
  ⟨q1,q2,λ v d O' G' H' e1 s1 i1 ⟨ρ1,t1,r1⟩ => ⟨G',d,ρ1,t1,i1,s1.sub,q2.ext e1,λ σ' n' => q3.nx _ _ O' G' H' e1 s1 n' r1⟩⟩
theorem B6 {m : Option MO} {O2 : Ac} : (O ++ m :: O2)[O.length]? = some m := by
 rw [List.getElem?_append_right (Nat.le_refl _),Nat.sub_self]; rfl
theorem C1 {m z : Option MO} {O2 : Ac} : (O ++ m :: O2).set O.length z = O ++ z :: O2 := by
 rw [List.set_append_right (h := Nat.le_refl _),Nat.sub_self]; rfl
section
variable {α : Type} {ps : List α} {f g : α -> D} {h : α -> Option D} {tg iter elt : Expr} {ifs : List Expr} {scope : Scope}
theorem OV (ps : List α) (g : α -> D) : (ps.map λ q => some (g q)).filterMap id = ps.map g := by
 induction ps with
 | nil => rfl
 | cons a l ih => rw [List.map_cons,List.filterMap_cons,ih]; rfl
theorem Ii (ps : List α) (h : α -> Option D) : (ps.map h).filterMap id = ps.filterMap h := by
 rw [List.filterMap_map]; rfl
theorem O9 (h : α -> Option D) (T F : List Str) (js : List Nat) (hi : Cn X ρ O tg iter (ps.map f)) (hsz : ps.length <= sizeLine) (turn : ∀ q,q ∈ ps -> Gp X T F js ρ O scope tg elt ifs (f q) (h q))
  (hfl : F.length = js.length := by rfl) (hB : C4 X.N X.env.scope.names scope.names F js = true := by rfl) (hc : X.calm = true := by rfl) (hk : scope.kind = .function := by rfl) (hs : ∀ x,foldedSetIterable iter X.env x = pure x := by intro _; rfl) :
  Ad X ρ O (.ListComp elt [⟨tg,iter,ifs,0⟩] scope pos) (.lst (ps.filterMap h)) := by
 rw [<- Ii]
 refine WS T F js hi (by rw [List.length_map,List.length_map]) (by rw [List.length_map]; exact hsz) (λ i x z h1 h2 => ?_) hfl hB hc hk hs
 rw [List.getElem?_map] at h1 h2
 cases e : ps[i]? with
 | none => rw [e] at h1; cases h1
 | some q => rw [e] at h1 h2; cases h1; cases h2; exact turn q (List.mem_of_getElem? e)
theorem BL (g : α -> D) (T F : List Str) (js : List Nat) (hi : Cn X ρ O tg iter (ps.map f)) (hsz : ps.length <= sizeLine) (turn : ∀ q,q ∈ ps -> Gp X T F js ρ O scope tg elt ifs (f q) (some (g q)))
  (hfl : F.length = js.length := by rfl) (hB : C4 X.N X.env.scope.names scope.names F js = true := by rfl) (hc : X.calm = true := by rfl) (hk : scope.kind = .function := by rfl) (hs : ∀ x,foldedSetIterable iter X.env x = pure x := by intro _; rfl) :
  Ad X ρ O (.ListComp elt [⟨tg,iter,ifs,0⟩] scope pos) (.lst (ps.map g)) := by
 rw [<- OV,Ii]
 exact O9 (λ q => some (g q)) T F js hi hsz turn hfl hB hc hk hs
theorem Qk {x : Str} {p spos : Pos} (k : Nat) (h : α -> Option D) (T F : List Str) (js : List Nat) (hi : Cn X ρ O tg iter (ps.map f)) (hsz : ps.length <= sizeLine) (turn : ∀ q,q ∈ ps -> Gp X T F js ρ O scope tg elt ifs (f q) (h q))
  (hP : P.nx (ρ.set k (some (.lst (ps.filterMap h)))) O) (hN : X.N.Nodup) (hx : X.N[k]? = some x := by rfl) (hlc : Et X.env.scope x := by first | exact Or.inl rfl | exact Or.inr rfl) (hf : X.fn x = true \/ X.env.scope.names.lookup x = some .local := by first | exact .inl rfl | exact .inr rfl | assumption)
  (hfl : F.length = js.length := by rfl) (hB : C4 X.N X.env.scope.names scope.names F js = true := by rfl) (hc : X.calm = true := by rfl) (hk : scope.kind = .function := by rfl) (hs : ∀ x,foldedSetIterable iter X.env x = pure x := by intro _; rfl)
  (hsw : swapsWith (.ListComp elt [⟨tg,iter,ifs,0⟩] scope pos) (some (.Name x p)) spos.line X.env = pure true := by rfl) : Ex X ρ O (.Assign [.Name x p] (.ListComp elt [⟨tg,iter,ifs,0⟩] scope pos) spos) P := by
 rw [<- Ii] at hP
 refine Ql k T F js hi (by rw [List.length_map,List.length_map]) (by rw [List.length_map]; exact hsz) (λ i x z h1 h2 => ?_) hP hN hx hlc hf hfl hB hc hk hs hsw
 rw [List.getElem?_map] at h1 h2
 cases e : ps[i]? with
 | none => rw [e] at h1; cases h1
 | some q => rw [e] at h1 h2; cases h1; cases h2; exact turn q (List.mem_of_getElem? e)
theorem L0 {x : Str} {p spos : Pos} (k : Nat) (g : α -> D) (T F : List Str) (js : List Nat) (hi : Cn X ρ O tg iter (ps.map f)) (hsz : ps.length <= sizeLine) (turn : ∀ q,q ∈ ps -> Gp X T F js ρ O scope tg elt ifs (f q) (some (g q)))
  (hP : P.nx (ρ.set k (some (.lst (ps.map g)))) O) (hN : X.N.Nodup) (hx : X.N[k]? = some x := by rfl) (hlc : Et X.env.scope x := by first | exact Or.inl rfl | exact Or.inr rfl) (hf : X.fn x = true \/ X.env.scope.names.lookup x = some .local := by first | exact .inl rfl | exact .inr rfl | assumption)
  (hfl : F.length = js.length := by rfl) (hB : C4 X.N X.env.scope.names scope.names F js = true := by rfl) (hc : X.calm = true := by rfl) (hk : scope.kind = .function := by rfl) (hs : ∀ x,foldedSetIterable iter X.env x = pure x := by intro _; rfl)
  (hsw : swapsWith (.ListComp elt [⟨tg,iter,ifs,0⟩] scope pos) (some (.Name x p)) spos.line X.env = pure true := by rfl) : Ex X ρ O (.Assign [.Name x p] (.ListComp elt [⟨tg,iter,ifs,0⟩] scope pos) spos) P := by
 rw [<- OV,Ii] at hP
 exact Qk k (λ q => some (g q)) T F js hi hsz turn hP hN hx hlc hf hfl hB hc hk hs hsw
theorem Bp {xs : List D} (he : Ad X ρ O e d) (fa : LF d xs) : Cn X ρ O tg e xs := by
 rcases fa with rfl | rfl | rfl
 ·exact Xk he
 ·exact Xi he
 ·exact Xh he
end
end
def CL {α : Type} (a : List α) (lo hi : Option Int) : List α := (a.drop (HT.sIx a.length 0 lo)).take (HT.sIx a.length a.length hi - HT.sIx a.length 0 lo)
theorem Rr {α : Type} {f : α -> D} (a : List α) (lo hi : Option Int) : Fi (a.map f) lo hi = (CL a lo hi).map f := by
 unfold Fi CL
 rw [List.length_map,List.map_take,List.map_drop]
theorem Gf {α : Type} {a : List α} {lo hi : Option Int} {x : α} (h : x ∈ CL a lo hi) : x ∈ a := List.mem_of_mem_drop (List.mem_of_mem_take h)
theorem Gg {α : Type} (a : List α) (lo hi : Option Int) : (CL a lo hi).length <= a.length := by
 unfold CL
 rw [List.length_take,List.length_drop]
 omega
theorem Xu {α : Type} (a : List α) (k : Nat) : CL a none (some (k : Int)) = a.take k := by
 unfold CL
 rw [HT.sIx_none,HT.sIx_nat,List.drop_zero,Nat.sub_zero]
 rcases Nat.le_total k a.length with h | h
 ·rw [Nat.min_eq_left h]
 ·rw [Nat.min_eq_right h,List.take_of_length_le (Nat.le_refl _),List.take_of_length_le h]
theorem Xv {α : Type} (a : List α) (k : Nat) : CL a (some (k : Int)) none = a.drop k := by
 unfold CL
 rw [HT.sIx_none,HT.sIx_nat]
 rcases Nat.le_total k a.length with h | h
 ·rw [Nat.min_eq_left h,List.take_of_length_le (by rw [List.length_drop]; exact Nat.le_refl _)]
 ·rw [Nat.min_eq_right h,Nat.sub_self,List.take_zero,List.drop_of_length_le h]
theorem LY {α β : Type} {f : α -> D} {g : β -> D} : ∀ (a : List α) (b : List β),Fa (a.map f) (b.map g) = (a.zip b).map λ q => .tup [f q.1,g q.2]
 | [],_ => rfl
 | _ :: _,[] => rfl
 | x :: a,y :: b => by
  have ih := LY (f := f) (g := g) a b
  unfold Fa at ih ⊢
  rw [List.map_cons,List.map_cons,List.zipWith_cons_cons,ih]
  rfl
section
variable {X : Cx} {ρ : Aj} {O : Ac} {e a b c : Expr} {es : List Expr} {d da db : D} {ds : List D} {R : D -> Ac -> Prop} {pos p : Pos} {x : Str} {rest : List Stmt} {P : Bf}
theorem Ga {α : Type} {f : α -> D} {as : List α} {lo hi : Option Expr} {l u : Option Int} {p2 : Pos} (ha : Ad X ρ O a (.tup (as.map f))) (hl : Go X ρ O lo l) (hh : Go X ρ O hi u) : Ad X ρ O (.Subscript a (.Slice lo hi none p2) pos) (.tup ((CL as l u).map f)) := by
 rw [<- Rr]
 exact WH ha hl hh
theorem Fs {α β : Type} {f : α -> D} {g : β -> D} {as : List α} {bs : List β} (ha : Ad X ρ O a da) (hb : Ad X ρ O b db) (fa : LF da (as.map f)) (fb : LF db (bs.map g)) (hm : X.mg "zip" = none) (hg : Gl X "zip" := by rfl) (hs : starEach [a,b] X.env = [(false,eval a X.env),(false,eval b X.env)] := by rfl) (hs2 : starEach [b] X.env = [(false,eval b X.env)] := by rfl) :
  Gn X ρ O (.Call (.Name "zip" p) [a,b] [] pos) ((as.zip bs).map λ q => .tup [f q.1,g q.2]) "zip" := by
 rw [<- LY]
 exact WC ha hb fa fb hm hg hs hs2
end
theorem X9 {α : Type} {f : α -> D} {a : List α} {i : Int} {v : α} (h0 : 0 <= i) (h : a[i.toNat]? = some v) : Bt (a.map f) i = some (f v) := by
 obtain ⟨k,rfl⟩ := Int.eq_ofNat_of_zero_le h0
 rw [Int.toNat_natCast] at h
 exact Er (by rw [List.getElem?_map,h]; rfl)
def sm {α : Type} (g : α -> Int) : List α -> Int
 | [] => 0
 | a :: l => g a + sm g l
section
variable {α β : Type} {g h : α -> Int} {l m : List α}
theorem Jx : sm g (l ++ m) = sm g l + sm g m := by
 induction l with
 | nil => exact (Int.zero_add _).symm
 | cons a l ih => show g a + sm g (l ++ m) = (g a + sm g l) + sm g m; rw [ih]; omega
theorem Jw (p : l.Perm m) : sm g l = sm g m := by
 induction p with
 | nil => rfl
 | cons a _ ih => unfold sm; rw [ih]
 | swap a b l => unfold sm; unfold sm; omega
 | trans _ _ h1 h2 => rw [h1,h2]
theorem Ro {i : Nat} {a : α} (e : l[i]? = some a) : sm g (l.take (i + 1)) = sm g (l.take i) + g a := by
 rw [List.take_add_one,e,Jx]
 show _ + (g a + 0) = _
 omega
theorem Hk (g : α -> Int) (l : List α) : (l.map g).sum = sm g l := by
 induction l with
 | nil => rfl
 | cons a l ih => rw [List.map_cons,List.sum_cons,ih]; rfl
theorem Rc (l : List Int) : l.sum = sm (λ i => i) l := by rw [<- Hk,List.map_id']
theorem Nf (q : ∀ a ∈ l,g a <= h a) : sm g l <= sm h l := by
 induction l with
 | nil => exact Int.le_refl _
 | cons a l ih =>
  have h1 := q a List.mem_cons_self
  have h2 := ih λ b hb => q b (List.mem_cons_of_mem _ hb)
  unfold sm
  omega
theorem Ng (q : ∀ a ∈ l,g a = h a) : sm g l = sm h l := by
 induction l with
 | nil => rfl
 | cons a l ih =>
  have h1 := q a List.mem_cons_self
  have h2 := ih λ b hb => q b (List.mem_cons_of_mem _ hb)
  unfold sm
  omega
theorem Rq : sm (λ a => g a + h a) l = sm g l + sm h l := by
 induction l with
 | nil => rfl
 | cons a l ih => unfold sm; rw [ih]; omega
theorem Nd : sm (λ _ : α => (0 : Int)) l = 0 := by
 induction l with
 | nil => rfl
 | cons a l ih => unfold sm; rw [ih]; rfl
theorem Hl (q : ∀ a ∈ l,0 <= g a) : 0 <= sm g l := by
 have := Nf (g := λ _ => 0) (h := g) q
 rw [Nd] at this
 exact this
theorem Rp {B : Int} (q : ∀ a ∈ l,g a <= B) : sm g l <= l.length * B := by
 induction l with
 | nil => show (0 : Int) <= ((0 : Nat) : Int) * B; simp
 | cons a l ih =>
  have h1 := q a List.mem_cons_self
  have h2 := ih λ b hb => q b (List.mem_cons_of_mem _ hb)
  unfold sm
  rw [List.length_cons,Int.natCast_add,Int.add_mul]
  show _ <= _ + (1 : Int) * B
  omega
theorem sm_bd' {B : Int} {n : Nat} (hB : 0 <= B) (hn : l.length <= n) (q : ∀ a ∈ l,g a <= B) : sm g l <= n * B := by
 have h1 := Rp q
 have h2 : (l.length : Int) * B <= (n : Int) * B := Int.mul_le_mul_of_nonneg_right wF hB
 omega
theorem Rn {a : List β} {b : List Int} (e : a.length = b.length) : sm (λ q : β × Int => q.2) (a.zip b) = b.sum := by
 induction a generalizing b with
 | nil => cases b with | nil => rfl | cons _ _ => cases e
 | cons x a ih =>
  cases b with
  | nil => cases e
  | cons y b =>
   rw [List.zip_cons_cons,List.sum_cons]
   unfold sm
   rw [ih (by simpa using e)]
end
theorem PF {b : Int} {n : Nat} (h0 : 0 <= b) (h1 : b < 2 ^ n) : PySem.Builtin.Int.intBits b <= n := by
 unfold PySem.Builtin.Int.intBits
 split
 ·exact Nat.zero_le _
 ·rename_i hz
  have hn : b.natAbs < 2 ^ n := by
   have e : ((2 ^ n : Nat) : Int) = 2 ^ n := by rw [Int.natCast_pow]; rfl
   omega
  have hp : b.natAbs ≠ 0 := by
   intro z; apply hz; rw [Int.natAbs_eq_zero.mp z]; rfl
  have := (Nat.log2_lt hp).mpr hn
  omega
theorem Eg {a b : Int} {m n : Nat} (a0 : 0 <= a) (a1 : a < 2 ^ m) (b0 : 0 <= b) (b1 : b < 2 ^ n) (h : m + n <= 134217728 := by decide) : IntMulOk a b := IntMulOk.of_le (PF a0 a1) (PF b0 b1) h
section
variable {prog : Program} {w : World} {A : Around} {E : Value -> Shared -> Prop} {s : Shared}
end
section
variable {X : Cx} {ρ : Aj} {O : Ac} {e a b c st : Expr} {es : List Expr} {d da db : D} {ds xs : List D} {R : D -> Ac -> Prop} {pos p p2 : Pos} {x : Str} {rest : List Stmt} {P : Bf}
theorem SE {K : PySem.W.Frag} {G : Wd} {vs : List V} (r : Al K G xs vs) (k : Nat) : Al K G (List.replicate k xs).flatten (List.replicate k vs).flatten := by
 induction k with
 | zero => exact .nil
 | succ k ih => rw [List.replicate_succ,List.replicate_succ,List.flatten_cons,List.flatten_cons]; exact r.append ih
theorem KH {d : D} (n : Nat) : (List.replicate n [d]).flatten = List.replicate n d := by
 induction n with
 | zero => rfl
 | succ n ih => rw [List.replicate_succ,List.flatten_cons,ih]; rfl
end
theorem Wy {α : Type} (p : α -> Bool) (g : α -> D) (l : List α) : l.filterMap (λ q => if p q = true then some (g q) else none) = (l.filter p).map g := by
 induction l with
 | nil => rfl
 | cons a l ih =>
  rw [List.filterMap_cons,List.filter_cons]
  cases h : p a with
  | true => simp [ih]
  | false => simp [ih]
section
variable {prog : Program} {w : World} {A : Around} {E : Value -> Shared -> Prop} {s : Shared}
theorem Vr : fillsNumberSlot (.type "tuple") "mul" = pure false :=
 PySem.fillsNumberSlot_seq (id := "tuple.__mul__") (r := some (.builtin "tuple.__rmul__")) F.slot_tuple_mul.lookup wD F.slot_tuple_rmul.lookup wD
theorem SF : seqRepeat? (.type "tuple") = pure (some (.builtin "tuple.__mul__")) := by
 unfold seqRepeat?
 rw [PySem.seqSlot_of (T := "tuple") (name := "__mul__") F.slot_tuple_mul.lookup wD,PySem.seqSlot_of (T := "tuple") (name := "__rmul__") F.slot_tuple_rmul.lookup wD]
 rfl
theorem SB {a : Int} {t : Tok} {l : Addr} {its : List Value} {Q : Value -> Shared -> Prop} (ht : IsTup s.heap l its.toArray) (h : Q .notImplemented s) : wpAny (model prog w) A (call (.builtin "int.__rmul__") [.int a t,.ref l]) Q E s := by
 refine wpAny_call_entry F.slot_int_rmul (typeIs_int s a t) F.entry_int_rmul ?_ (F.args_int_rmul_2 _ _)
 obtain ⟨o,ho,hc,n,hd⟩ := ht
 show wpAny (model prog w) _ (asInt? (.ref l) >>= _) _ _ s
 refine wpAny_bind ?_
 unfold asInt?
 refine wpAny_bind (wpAny_load ho ?_)
 rw [hd]
 refine wpAny_pure ?_
 exact wpAny_bind (wpAny_rule (wpAny_pure ⟨_,rfl,h⟩))
theorem Vx {k : Int} {t : Tok} {l : Addr} {its : List Value} {Q : Value -> Shared -> Prop} (ht : IsTup s.heap l its.toArray) (h1 : 1 <= k) (h2 : k < 2 ^ 62) (hn : its ≠ []) (hz : its.length * k.toNat <= sizeLine)
  (hq1 : k = 1 -> Q (.ref l) s) (hq2 : k ≠ 1 -> Q (.ref s.heap.objs.size) { s with heap := s.heap.push { cls := .type "tuple",data := .seq (List.replicate k.toNat its).flatten.toArray } }) : wpAny (model prog w) A (call (.builtin "tuple.__mul__") [.ref l,.int k t]) Q E s := by
 refine wpAny_call_entry F.slot_tuple_mul ht.typeIs F.entry_tuple_mul ?_ (F.args_tuple_mul_2 _ _)
 show wpAny (model prog w) _ (asIndex (.int k t) >>= _) _ _ s
 refine wpAny_bind ?_
 show wpAny (model prog w) _ (pure k) _ _ s
 refine wpAny_pure ?_
 rw [if_neg (by rw [Bool.or_eq_true,decide_eq_true_eq,decide_eq_true_eq]; omega)]
 refine wpAny_bind (tupleItemsOf_ ht ?_)
 have he : its.toArray.isEmpty = false := by cases its with | nil => exact absurd rfl hn | cons a l => rfl
 by_cases hk : k = 1
 ·rw [if_pos (by rw [hk,Bool.or_eq_true]; exact Or.inr rfl)]
  unfold Builtin.Tuple.tupleIsExact
  refine wpAny_bind (wpAny_bind (wpAny_typeOf ht.typeIs (wpAny_pure ?_)))
  rw [if_pos wE]
  exact wpAny_bind (wpAny_rule (wpAny_pure ⟨_,rfl,hq1 hk⟩))
 ·have hk2 : (k == 1) = false := by simpa using hk
  rw [if_neg (by rw [he,hk2]; exact Bool.false_ne_true)]
  rw [if_neg (by rw [he,Bool.or_false,decide_eq_true_eq]; omega)]
  have hs : ((its.toArray.size : Nat) : Int) * k <= (sizeLine : Nat) := by
   rw [List.size_toArray]
   have e : k = ((k.toNat : Nat) : Int) := by omega
   rw [e]
   exact_mod_cast hz
  have hl := sizeLine_eq
  rw [hl] at hs
  rw [if_neg wF]
  have ht2 : Builtin.Tuple.tupleTooMany (((its.toArray.size : Nat) : Int) * k) = false := by
   unfold Builtin.Tuple.tupleTooMany
   rw [hl]
   exact decide_eq_false wF
  rw [if_neg (by rw [ht2]; exact Bool.false_ne_true)]
  have e : List.foldl (λ x1 x2 => x1 ++ x2) #[] (List.replicate k.toNat its.toArray) = (List.replicate k.toNat its).flatten.toArray := by
   have := OS its k.toNat []
   rw [List.nil_append] at this
   exact this
  rw [e]
  exact wpAny_bind (m := Builtin.Tuple.tupleExact _) (wpAny_newObj_type (wpAny_pure ⟨_,rfl,hq2 hk⟩) (by
   show (List.replicate k.toNat its).flatten.toArray.size <= sizeLine
   rw [List.size_toArray,Ov,Nat.mul_comm]
   exact hz))
end
section
variable {X : Cx} {O : Ac} {xs : List D}
theorem EH {i : Int} (h1 : 1 <= i) (h2 : i < 2 ^ 62) (hn : xs ≠ []) (hz : xs.length * i.toNat <= sizeLine) : Bl X O (binaryOp .Mult) (.tup xs) (.int i) (.tup (List.replicate i.toNat xs).flatten) := λ G pins s σ H x y v u Q I rx ry ⟨sa,j1,j2,k⟩ => by
 cases j2
 have j := j1
 obtain ⟨q,vs,rfl,g,r⟩ := Dy sa j1
 cases rx
 obtain ⟨t,rfl⟩ := ry
 obtain ⟨its,rr,ht,hzz⟩ := I.tuple g
 have hlen := rr.length
 have hn2 : its ≠ [] := by
  rintro rfl
  have := r.length
  rw [hlen] at this
  exact hn (List.eq_nil_of_length_eq_zero this)
 refine wpAny_binaryOp_repeat_ref (T := "tuple") (U := "int") wE ht.typeIs (λ s' => typeIs_int s' i t) Vr F.fills_int_mul F.slot_int_rmul SF F.slot_int_index.lookup
  (SB ht ⟨rfl,ht.typeIs,Vx ht h1 h2 hn2 (by rw [<- hlen,<- r.length]; exact hz) (λ e => ?_) (λ e => ?_)⟩)
 ·subst e
  refine ⟨.ref q,H,I,rfl,k _ G H (Ah.refl _) sa ?_⟩
  have : (List.replicate (1 : Int).toNat xs).flatten = xs := by show (xs ++ []) = xs; rw [List.append_nil]
  rw [this]
  exact j
 ·obtain ⟨e4,s4⟩ := sa.laid (o := .tup (List.replicate i.toNat vs).flatten) (p := s.heap.objs.size) (I.hok.fresh (Nat.le_refl _))
  refine ⟨.ref _,_,I.laid (t' := s.toks) (o := .tup (List.replicate i.toNat vs).flatten) (λ b ob q => Heap.get?_push_of_some _ q) (Nat.le_refl _) ?_,rfl,k _ _ _ e4 s4 (.tup (Bc.of Bs) ((SE r _).ext e4))⟩
  exact ⟨by rw [Ov,Nat.mul_comm,<- r.length]; exact hz,_,rr.rep i.toNat,DM.new _ _⟩
end
def A8 (f : Str) (d : D) : List (Str × D) -> List (Str × D)
 | [] => [(f,d)]
 | (g,x) :: r => if g = f then (g,d) :: r else (g,x) :: A8 f d r
section
variable {K : PySem.W.Frag} {G : Wd}
theorem Bw.look {f : Str} {d : D} : ∀ {fs : List (Str × D)} {vs : List (Str × V)},Bw K G fs vs -> fs.lookup f = some d -> ∃ v,vs.lookup f = some v /\ Is K G d v
 | _,_,.nil,e => by cases e
 | _,_,.cons (f := g) h r,e => by
  rw [List.lookup_cons] at e
  cases hc : f == g with
  | true =>
   rw [hc] at e
   cases e
   exact ⟨_,by rw [List.lookup_cons,hc],h⟩
  | false =>
   rw [hc] at e
   obtain ⟨v,e1,e2⟩ := Bw.look r e
   exact ⟨v,by rw [List.lookup_cons,hc]; exact e1,e2⟩
theorem Bw.none {f : Str} : ∀ {fs : List (Str × D)} {vs : List (Str × V)},Bw K G fs vs -> fs.lookup f = Option.none -> vs.lookup f = Option.none
 | _,_,.nil,e => rfl
 | _,_,.cons (f := g) h r,e => by
  rw [List.lookup_cons] at e
  cases hc : f == g with
  | true => rw [hc] at e; cases e
  | false =>
   rw [hc] at e
   rw [List.lookup_cons,hc]
   exact Bw.none r e
theorem Bw.put {f : Str} {d : D} {v : V} (i : Is K G d v) : ∀ {fs : List (Str × D)} {vs : List (Str × V)},Bw K G fs vs -> Bw K G (A8 f d fs) (Cz f v vs)
 | _,_,.nil => .cons i .nil
 | _,_,.cons (f := g) h r => by
  unfold A8 Cz
  by_cases e : g = f
  ·rw [if_pos e,if_pos e]; exact .cons i r
  ·rw [if_neg e,if_neg e]; exact .cons h (Bw.put i r)
theorem Bw.len : ∀ {fs : List (Str × D)} {vs : List (Str × V)},Bw K G fs vs -> fs.length = vs.length
 | _,_,.nil => rfl
 | _,_,.cons _ r => by rw [List.length_cons,List.length_cons,r.len]
end
theorem SA.ins {K : PySem.W.Frag} {G : Wd} {H : Hp} {O : Ac} {q : Nat} {C : Addr} {fs : List (Str × D)} {v : V} (s : SA K G H O) (i : Is K G (.ptr q) v) (h : O[q]? = some (some (.ins C fs))) : ∃ a dx vs,v = .ref a /\ G.l[q]? = some a /\ H a = some (.ins C dx vs) /\ Bw K G fs vs := by
 cases i with
 | ptr _ ha =>
  obtain ⟨a,h1,h2,dx,vs,h3,h4⟩ := s.mt q _ h
  cases Option.some.inj (ha.symm.trans h1)
  exact ⟨_,dx,vs,rfl,h1,h3,h4⟩
section
variable {X : Cx} {ρ : Aj} {O : Ac} {e a b c o value : Expr} {es : List Expr} {d da db : D} {ds : List D} {R : D -> Ac -> Prop} {pos p apos pos' : Pos} {x f m : Str} {rest : List Stmt} {P : Bf} {q : Nat} {C : Addr} {fs : List (Str × D)}
theorem Av (he : Ad X ρ O e (.ptr q)) (hq : O[q]? = some (some (.ins C fs))) (c : A6 X.K C) (n : As X.K C f) (hl : fs.lookup f = some d) (hb : attributeBase e f X.env (eval e X.env) = eval e X.env := by rfl) : Ad X ρ O (.Attribute e f pos) d := λ G =>
 PE.imp (TQ (he G) hb) λ σ H Q ⟨h1,h2,h3⟩ => ⟨h1,h2,λ v G1 H1 e1 s1 i1 => by
  obtain ⟨a,dx,vs,rfl,g1,g2,g3⟩ := s1.ins i1 hq
  obtain ⟨v,l,iv⟩ := g3.look hl
  exact ⟨a,C,dx,vs,v,rfl,g2,c,n,l,h3 v G1 H1 e1 s1 iv⟩⟩
theorem B5 (hv : Ad X ρ O value d) (ho : Ad X ρ O o (.ptr q)) (hq : O[q]? = some (some (.ins C fs))) (c : A6 X.K C) (n : As X.K C f) (hz : fs.length < 1000) (h : P.nx ρ (O.set q (some (.ins C (A8 f d fs))))) (hs : swapsWith value (some (.Attribute o f pos')) pos.line X.env = pure false := by rfl) :
  Ex X ρ O (.Assign [.Attribute o f pos'] value pos) P := λ G pins s σ H E I ⟨h1,h2,h3⟩ => by
 refine plainObj_wpAny_Assign_Attribute (Aq (hv G pins s σ H (λ v H1 => ∃ G1,Ah G G1 /\ SA X.K G1 H1 O /\ Is X.K G1 d v) I ⟨h1,h2,λ v G' H' e s i => ⟨G',e,s,i⟩⟩) λ u s1 ⟨y,H1,I1,ry,G1,e1,sa1,i1⟩ =>
  Aq (ho G1 pins s1 σ H1 (λ v H2 => ∃ G2,Ah G1 G2 /\ SA X.K G2 H2 O /\ Is X.K G2 (.ptr q) v) I1 ⟨sa1,h2.ext e1,λ v G' H' e s i => ⟨G',e,s,i⟩⟩) λ ov s2 ⟨x,H2,I2,rx,G2,e2,sa2,i2⟩ => ?_) hs
 obtain ⟨a,dx,vs,rfl,g1,g2,g3⟩ := sa2.ins i2 hq
 obtain rfl : ov = Value.ref a := rx
 refine Ni I2 g2 c n (by rw [<- g3.len]; exact hz) ry λ s3 I3 => ⟨σ,_,I3,?_⟩
 exact h3.nx σ ρ _ G2 _ (e1.trans e2) (sa2.put (m' := .ins C (A8 f d fs)) hq g1 ⟨dx,_,Bs,g3.put (i1.ext e2)⟩) (h2.ext (e1.trans e2)) h
structure Ai (P : Program) (w : World) (K : PySem.W.Frag) (mg : Str -> Option Value) (base : Heap) (C : Addr) (k : Nat) (m : Str) (sp : AQ) : Prop where
 ex : ∃ f fd ps,AF P w K mg base AK k f fd ps (AG K sp) /\ IP K C m f /\ Binds K fd ps []
 cls : A6 K C
theorem CY {k : Nat} {sp : AQ} {pl : Sem Bool} (M : Ai X.prog X.w X.K X.mg X.base C k m sp) (hr : AN k X.A) (ho : Ad X ρ O o (.ptr q)) (hq : O[q]? = some (some (.ins C fs))) (hno : fs.lookup m = none) (ha : Bx X ρ O (e :: es) ds) (hs : sp (.ptr q :: ds) O R)
  (hst : starEach (e :: es) X.env = (false,eval e X.env) :: starEach es X.env := by rfl) (hpl : (backTo pos (starEach es X.env)).any (·.1) = false := by rfl)
  (ht : eval (.Call (.Attribute o m apos) (e :: es) [] pos) X.env = (do
   let ov <- eval o X.env
   standAt apos.atName
   let (f,first) <- holding [ov] (getMethod ov m pl)
   callWith pos f first (backTo pos (starEach (e :: es) X.env)) (backToKw pos (keywordEach [] X.env))) := by rfl) : Ev X ρ O (.Call (.Attribute o m apos) (e :: es) [] pos) R := λ G pins s σ H Q I ⟨h1,h2,h3⟩ => by
 obtain ⟨f,fd,ps,g1,g2,g3⟩ := M.ex
 refine TM (t := λ σ H Q => ∃ G1,SA X.K G1 H O /\ AB X.K G1 σ ρ /\ ∀ vs G' H',Ah G1 G' -> SA X.K G' H' O -> Al X.K G' ds vs -> Q vs H') (ho G) M.cls g2 g1 hr g3 .nil FX (λ pos pins s σ H Q I ⟨G1,z⟩ => ha G1 pos pins s σ H Q I z) hst hpl ht pins s σ H Q I ⟨h1,h2,λ v G1 H1 e1 s1 i1 => ?_⟩
 obtain ⟨a,dx,vs,rfl,k1,k2,k3⟩ := s1.ins i1 hq
 refine ⟨a,dx,vs,rfl,k2,k3.none hno,G1,s1,h2.ext e1,λ us G2 H2 e2 s2 i2 => ?_⟩
 show AG X.K sp (V.ref a :: (us ++ [])) H2 Q E0
 rw [List.append_nil]
 exact ⟨G2,O,.ptr q :: ds,R,s2,.cons (i1.ext e2) i2,hs,λ v d O' G' H' e3 s3 i3 r3 => h3 v d O' G' H' ((e1.trans e2).trans e3) s3 i3 r3⟩
theorem Dq {k : Nat} {sp : AQ} {pl : Sem Bool} (M : Ai X.prog X.w X.K X.mg X.base C k m sp) (hr : AN k X.A) (ho : Ad X ρ O o (.ptr q)) (hq : O[q]? = some (some (.ins C fs))) (hno : fs.lookup m = none) (hs : sp [.ptr q] O R)
  (ht : eval (.Call (.Attribute o m apos) [] [] pos) X.env = (do
   let ov <- eval o X.env
   standAt apos.atName
   let (f,first) <- holding [ov] (getMethod ov m pl)
   callWith pos f first (backTo pos (starEach [] X.env)) (backToKw pos (keywordEach [] X.env))) := by rfl) : Ev X ρ O (.Call (.Attribute o m apos) [] [] pos) R := λ G pins s σ H Q I ⟨h1,h2,h3⟩ => by
 obtain ⟨f,fd,ps,g1,g2,g3⟩ := M.ex
 refine TL (ho G) M.cls g2 g1 hr g3 .nil FX ht pins s σ H Q I ⟨h1,h2,λ v G1 H1 e1 s1 i1 => ?_⟩
 obtain ⟨a,dx,vs,rfl,k1,k2,k3⟩ := s1.ins i1 hq
 refine ⟨a,dx,vs,rfl,k2,k3.none hno,?_⟩
 show AG X.K sp (V.ref a :: []) H1 Q E0
 exact ⟨G1,O,[.ptr q],R,s1,.cons i1 .nil,hs,λ v d O' G' H' e3 s3 i3 r3 => h3 v d O' G' H' (e1.trans e3) s3 i3 r3⟩
structure Cv (P : Program) (w : World) (K : PySem.W.Frag) (mg : Str -> Option Value) (base : Heap) (C : Addr) (k : Nat) (x : Str) (sp : AQ) : Prop where
 ex : ∃ f fd ps,AF P w K mg base AK k f fd ps (AG K sp) /\ Mk K C f /\ Binds K fd ps []
 at_ : mg x = some (.ref C)
theorem made {K : PySem.W.Frag} {G : Wd} {H : Hp} {y dx : Addr} (s : SA K G H O) (h1 : H y = none) (h2 : H dx = none) (h3 : dx ≠ y) : Ah G ⟨G.g,G.l ++ [y]⟩ /\ SA K ⟨G.g,G.l ++ [y]⟩ (AL (AL H dx (.own y)) y (.ins C dx [])) (O ++ [some (.ins C [])]) :=
 (s.grow (GB h2)).new (by rw [A4]; exact h1; exact λ e => h3 e.symm) ⟨dx,[],Bs,.nil⟩
theorem Db {k : Nat} {sp : AQ} (M : Cv X.prog X.w X.K X.mg X.base C k x sp) (hr : AN (k + 1) X.A) (ha : Bx X ρ O (e :: es) ds) (hs : sp (.ptr O.length :: ds) (O ++ [some (.ins C [])]) λ d O' => d = .non /\ R (.ptr O.length) O')
  (hg : Gl X x := by rfl) (hdb : (x == ("__debug__" : Str)) = false := by decide) (he : starEach (e :: es) X.env = (false,eval e X.env) :: starEach es X.env := by rfl) (hpl : (backTo pos (starEach es X.env)).any (·.1) = false := by rfl) :
  Ev X ρ O (.Call (.Name x p) (e :: es) [] pos) R := λ G pins s σ H Q I ⟨h1,h2,h3⟩ => by
 obtain ⟨f,fd,ps,g1,g2,g3⟩ := M.ex
 refine NT g2 g1 hr hg M.at_ g3 .nil FX (ha G) hdb he hpl pins s σ H Q I ⟨h1,h2,λ vs G1 H1 e1 s1 i1 => λ y dx k1 k2 k3 => ?_⟩
 obtain ⟨e2,s2⟩ := made (C := C) s1 k1 k2 k3
 have iy : Is X.K ⟨G1.g,G1.l ++ [y]⟩ (.ptr O.length) (.ref y) := .ptr _ (by rw [<- s1.len,List.getElem?_append_right (Nat.le_refl _),Nat.sub_self]; rfl)
 show AG X.K sp (V.ref y :: (vs ++ [])) _ _ E0
 rw [List.append_nil]
 refine ⟨_,_,.ptr O.length :: ds,_,s2,.cons iy (i1.ext e2),hs,λ v d O' G' H' e3 s3 i3 r3 => ?_⟩
 obtain ⟨rfl,r⟩ := r3
 cases i3
 exact ⟨rfl,h3 _ _ O' G' H' ((e1.trans e2).trans e3) s3 (iy.ext e3) r⟩
end
section
variable {X : Cx} {ρ : Aj} {O : Ac} {e a b c o ix value : Expr} {es : List Expr} {d da db : D} {ds xs : List D} {R : D -> Ac -> Prop} {pos p apos tpos : Pos} {x f m : Str} {rest : List Stmt} {P : Bf} {q j : Nat} {i : Int}
end
end DL
namespace DL
open PySem PySem.Spec PyProof.Rows L2 PySem.W
structure EW (n : Nat) (k : Bool) (l i : Nat) (j : Int) (xs : Array Value) (f0 f1 old : Value) (h : Heap) : Prop where
 z : h.get? (n + 1) = some { cls := .type "enumerate",dict := none,data := .fields #[f0,f1,.ref n,.int j 0,.none,old],slots := #[] }
 w : CM k h n l i
 s : BJ k h l xs
 b : l < n
def BM (n : Nat) (h h' : Heap) : Prop := ∀ c o,c ≠ n -> c ≠ n + 1 -> h.get? c = some o -> h'.get? c = some o
theorem BM.refl (n : Nat) (h : Heap) : BM n h h := λ _ _ _ _ e => e
theorem BM.on {n : Nat} {h h1 h2 : Heap} (p : BM n h h1) (q : BM n h1 h2) : BM n h h2 := λ c o c1 c2 e => q c o c1 c2 (p c o c1 c2 e)
theorem BM.more {n : Nat} {h h' : Heap} {o : Obj} (p : BM n h h') : BM n h (h'.push o) := p.on λ c u _ _ q => Heap.get?_push_of_some _ q
section
variable {prog : Program} {w : World} {A : Around} {E : Value -> Shared -> Prop} {s : Shared} {n l i : Nat} {j : Int} {k : Bool} {xs : Array Value} {f0 f1 old v : Value}
theorem EW.set {m : Nat} {vs : Array Value} {Q : Unit -> Shared -> Prop} (W : EW n k l i j xs f0 f1 old s.heap) (hm : m < 6)
  (hQ : ∀ h',h'.get? (n + 1) = some { cls := .type "enumerate",dict := none,data := .fields ((#[f0,f1,.ref n,.int j 0,.none,old] : Array Value).setIfInBounds m v),slots := #[] } -> CM k h' n l i -> BJ k h' l xs -> BM n s.heap h' -> h'.objs.size = s.heap.objs.size -> Q () { s with heap := h' }) : wpAny (model prog w) A (setField (.ref (n + 1)) m v) Q E s :=
 wpAny_setField_rec W.z hm λ h' g e => hQ h' g (W.w.at λ o => e.extBut _ _ (ap wF)) (W.s.at λ o => e.extBut _ _ (ap (by have := W.b; omega))) (λ c o _ c2 q => e.extBut _ _ c2 q) e.1
theorem EW.set0 {Q : Unit -> Shared -> Prop} (W : EW n k l i j xs f0 f1 old s.heap) (hQ : ∀ h',EW n k l i j xs v f1 old h' -> BM n s.heap h' -> h'.objs.size = s.heap.objs.size -> Q () { s with heap := h' }) : wpAny (model prog w) A (setField (.ref (n + 1)) 0 v) Q E s := W.set (vs := #[]) wE λ h' a b c d e => hQ h' ⟨a,b,c,W.b⟩ d e
theorem EW.set1 {Q : Unit -> Shared -> Prop} (W : EW n k l i j xs f0 f1 old s.heap) (hQ : ∀ h',EW n k l i j xs f0 v old h' -> BM n s.heap h' -> h'.objs.size = s.heap.objs.size -> Q () { s with heap := h' }) : wpAny (model prog w) A (setField (.ref (n + 1)) 1 v) Q E s := W.set (vs := #[]) wE λ h' a b c d e => hQ h' ⟨a,b,c,W.b⟩ d e
theorem EW.set3 {j' : Int} {Q : Unit -> Shared -> Prop} (W : EW n k l i j xs f0 f1 old s.heap) (hQ : ∀ h',EW n k l i j' xs f0 f1 old h' -> BM n s.heap h' -> h'.objs.size = s.heap.objs.size -> Q () { s with heap := h' }) : wpAny (model prog w) A (setField (.ref (n + 1)) 3 (rawInt j')) Q E s := W.set (vs := #[]) wE λ h' a b c d e => hQ h' ⟨a,b,c,W.b⟩ d e
theorem EW.set4 {Q : Unit -> Shared -> Prop} (W : EW n k l i j xs f0 f1 old s.heap) (hQ : ∀ h',EW n k l i j xs f0 f1 old h' -> BM n s.heap h' -> h'.objs.size = s.heap.objs.size -> Q () { s with heap := h' }) : wpAny (model prog w) A (setField (.ref (n + 1)) 4 .none) Q E s := W.set (vs := #[]) wE λ h' a b c d e => hQ h' ⟨a,b,c,W.b⟩ d e
theorem EW.set5 {Q : Unit -> Shared -> Prop} (W : EW n k l i j xs f0 f1 old s.heap) (hQ : ∀ h',EW n k l i j xs f0 f1 v h' -> BM n s.heap h' -> h'.objs.size = s.heap.objs.size -> Q () { s with heap := h' }) : wpAny (model prog w) A (setField (.ref (n + 1)) 5 v) Q E s := W.set (vs := #[]) wE λ h' a b c d e => hQ h' ⟨a,b,c,W.b⟩ d e
theorem EW.inner {Q : Value -> Shared -> Prop} (W : EW n k l i j xs f0 f1 old s.heap) (h : Q (.ref n) s) : wpAny (model prog w) A (field (.ref (n + 1)) 2) Q E s := wpAny_field W.z rfl (x := .ref n) rfl h
theorem EW.draw {x : Value} {Q : Value -> Shared -> Prop} (W : EW n k l i j xs f0 f1 old s.heap) (hx : xs[i]? = some x) (hQ : ∀ h',EW n k l (i + 1) j xs f0 f1 old h' -> BM n s.heap h' -> h'.objs.size = s.heap.objs.size -> Q x { s with heap := h' }) : wpAny (model prog w) A (Builtin.SmallTypes.nextOf (.ref n)) Q E s :=
 Jg W.w W.s hx λ h' g e => hQ h' ⟨e.extBut _ _ (ap wF) W.z,g,W.s.at λ o => e.extBut _ _ (ap (by have := W.b; omega)),W.b⟩ (λ c o c1 _ q => e.extBut _ _ c1 q) e.1
theorem EW.free {Q : Bool -> Shared -> Prop} (W : EW n k l i j xs f0 f1 old s.heap) (hf : ZF f0) (y : Q true s) (z : ∀ h' f,EW n k l i j xs f0 f old h' -> BM n s.heap h' -> h'.objs.size = s.heap.objs.size -> Q false { s with heap := h' }) : wpAny (model prog w) A (Builtin.SmallTypes.ownedTupleIsFree (.ref (n + 1))) Q E s := by
 obtain ⟨h,g,d,tk,os⟩ := s
 have hz := W.z
 dsimp only at hz
 rcases hf with rfl | ⟨c,rfl⟩
 ·wp_walk
  exact y
 ·wp_walk using PZ
  cases h.get? (Int.toNat (c : Int)) with
  | none => wp_walk; exact y
  | some o =>
   by_cases m : f1 = .bool true
   ·subst m
    wp_walk
    exact z _ _ W (BM.refl _ _) rfl
   ·wp_walk using W.set1
    exact λ h' V o1 o2 => wpAny_pure (z h' _ V o1 o2)
theorem EW.more {h : Heap} {o : Obj} (W : EW n k l i j xs f0 f1 old h) : EW n k l i j xs f0 f1 old (h.push o) :=
 have e : ∀ c u,h.get? c = some u -> (h.push o).get? c = some u := λ c u q => Heap.get?_push_of_some _ q
 ⟨e _ _ W.z,W.w.at (e _),W.s.at (e _),W.b⟩
theorem Xc {x : Value} {Q : Value -> Shared -> Prop} (W : EW n k l i j xs f0 f1 old s.heap) (hf : ZF f0) (hx : xs[i]? = some x)
  (hQ : ∀ h' t f0' f1' old' tk',EW n k l (i + 1) (j + 1) xs f0' f1' old' h' -> ZF f0' -> IsPair h' s.heap.objs.size (.int j t) x -> BM n s.heap h' -> Q (.ref s.heap.objs.size) { s with heap := h',toks := tk' }) :
  wpAny (model prog w) A (Builtin.«enumerate.__next__» ⟨[.ref (n + 1)],[]⟩) (λ fin s' => ∃ v,fin = .done (.ret v) /\ Q v s') E s := by
 obtain ⟨h,g,d,tk,os⟩ := s
 dsimp only at W hQ
 have z := W.z
 have lt : n + 1 < h.objs.size := Heap.lt_size z
 wp_walk using W.inner,W.draw hx
 intro h1 W1 o1 z1
 have t1 := W1.z
 wp_walk using EW.set3 (s := ⟨h1,g,d,tk + 1,os⟩) W1
 intro h2 W2 o2 z2
 wp_walk using EW.set4 (s := ⟨h2,g,d,tk + 1,os⟩) W2
 intro h3 W3 o3 z3
 have zl : h3.objs.size = h.objs.size := z3.trans (z2.trans z1)
 have ol : BM n h h3 := o1.on (o2.on o3)
 have W4 : EW n k l (i + 1) (j + 1) xs f0 f1 old (h3.push { cls := .type "tuple",data := .seq #[.int j tk,x] }) := W3.more
 have t4 := W4.z
 have pr : IsPair (h3.push { cls := .type "tuple",data := .seq #[.int j tk,x] }) h3.objs.size (.int j tk) x := Heap.get?_push_size _ rfl
 have far : ∀ m,m <= 1 -> h3.objs.size ≠ n + m := λ m hm => by omega
 have far0 : h3.objs.size ≠ n := far 0 wE
 have far1 : h3.objs.size ≠ n + 1 := far 1 wE
 rw [<- zl] at hQ
 wp_walk using EW.free (s := ⟨h3.push _,g,d,tk + 1,os⟩) W4 hf,EW.set5 (s := ⟨h3.push _,g,d,tk + 1,os⟩) W4
 ·intro h5 W5 o5 z5
  wp_walk using EW.set0 (s := ⟨h5,g,d,tk + 1,os⟩) W5
  intro h6 W6 o6 z6
  wp_walk using EW.set1 (s := ⟨h6,g,d,tk + 1,os⟩) W6
  intro h7 W7 o7 z7
  wp_walk
  exact ⟨_,rfl,hQ h7 tk _ _ _ _ W7 (.inr ⟨_,rfl⟩) (o7 _ _ far0 far1 (o6 _ _ far0 far1 (o5 _ _ far0 far1 pr))) (ol.more.on (o5.on (o6.on o7)))⟩
 ·intro h5 f W5 o5 z5
  wp_walk
  exact ⟨_,rfl,hQ h5 tk _ _ _ _ W5 hf (o5 _ _ far0 far1 pr) (ol.more.on o5)⟩
theorem Xd {Q : PySem.Fin -> Shared -> Prop} (hh : A.handled = none) (W : EW n k l i j xs f0 f1 old s.heap) (he : xs[i]? = none) (hE : ∀ h' e,BM n s.heap h' -> (∃ o,h'.get? e = some o /\ o.cls = .type "StopIteration") -> E (.ref e) { s with heap := h' }) :
  wpAny (model prog w) A (Builtin.«enumerate.__next__» ⟨[.ref (n + 1)],[]⟩) Q E s := by
 obtain ⟨h,g,d,tk,os⟩ := s
 dsimp only at W hE
 wp_walk using W.inner,Jh hh W.w W.s he
 exact λ h' e x y => hE h' e (λ c o c1 _ q => x c o c1 q) y
def Fu (k : Bool) (n l i : Nat) (h : Heap) : Prop := ∃ f0 f1 old,ZF f0 /\ h.get? (n + 1) = some { cls := .type "enumerate",dict := none,data := .fields #[f0,f1,.ref n,.int i 0,.none,old],slots := #[] } /\ CM k h n l i
theorem EW.tn {h : Heap} (W : EW n k l i i xs f0 f1 old h) (hf : ZF f0) : Fu k n l i h := ⟨f0,f1,old,hf,W.z,W.w⟩
theorem Wo {tg : Expr} {u : Value} {Q : Unit -> Shared -> Prop} (W : EW n k l i j xs f0 f1 old s.heap) (hf : ZF f0) (hQ : ∀ h' f,EW n k l i j xs f f1 old h' -> ZF f -> BM n s.heap h' -> Q () { s with heap := h' }) : wpAny (model prog w) A (letOwnedTupleGo tg (.ref (n + 1)) u) Q E s := by
 have same : Q () s := hQ s.heap _ W hf (BM.refl _ _)
 obtain ⟨h,g,d,tk,os⟩ := s
 have z := W.z
 dsimp only at z
 unfold letOwnedTupleGo
 cases tg <;> try exact wpAny_pure same
 all_goals cases u <;> try exact wpAny_pure same
 all_goals
  wp_walk
  split
  ·exact wpAny_bind (wpAny_rule (W.set0 (s := ⟨h,g,d,tk,os⟩) (v := .none) λ h' V o z => hQ h' _ V (.inl rfl) o))
  ·exact wpAny_pure same
theorem QP {M : Model} {c : Value} {Q : Bool -> Shared -> Prop} (h : ∀ b,Q b s) : wpAny M A (Builtin.SmallTypes.calledThroughType c) Q E s := wpAny_bind (wpAny_stack_any λ _ => wpAny_pure (h _))
end
theorem Xb (k : Bool) (l : Addr) (xs : Array Value) :
  Meets (Builtin.«enumerate.__new__» ⟨[.type "enumerate",.ref l],[]⟩) (λ _ R s => BJ k s.heap l xs /\
   ∀ h',EW s.heap.objs.size k l 0 0 xs .none (.bool false) .none h' -> (∀ c o,s.heap.get? c = some o -> h'.get? c = some o) -> R (.ok (.ret (.ref (s.heap.objs.size + 1)))) { s with heap := h' }) :=
 .of_wp λ prog w A R s q => by
  obtain ⟨h,g,d,tk,os⟩ := s
  obtain ⟨t,q⟩ := q
  have hsub := sub_enumerate
  have lt : l < h.objs.size := by
   cases k with
   | true => obtain ⟨o,g,_⟩ := (t : h.IsList l xs); exact Heap.lt_size g
   | false => obtain ⟨o,g,_⟩ := (t : h.IsTuple l xs); exact Heap.lt_size g
  wp_walk using QP
  intro b
  have fin : ∀ a,a.isFreed = false -> (∀ (h : Heap) c,h.get? c = some a -> CM k h c l 0) -> R (.ok (.ret (.ref (h.push a).objs.size))) ⟨(h.push a).push { cls := .type "enumerate",data := .fields #[.none,.bool false,.ref h.objs.size,.int 0 0,.none,.none] },g,d,tk,os⟩ := λ a fa ia => by
   have up : ∀ c u,h.get? c = some u -> ((h.push a).push { cls := .type "enumerate",data := .fields #[.none,.bool false,.ref h.objs.size,.int 0 0,.none,.none] }).get? c = some u := λ c u e => Heap.get?_push_of_some _ (Heap.get?_push_of_some _ e)
   rw [Heap.size_push]
   refine q _ ⟨?_,ia _ _ (Heap.get?_push_of_some _ (Heap.get?_push_size _ fa)),t.at (up _),lt⟩ up
   rw [<- Heap.size_push h a]
   exact Heap.get?_push_size _ rfl
  cases b
  all_goals
   wp_walk using K2 t
   intro a fa ia
   wp_walk
   exact ⟨_,rfl,fin a fa ia⟩
theorem XU {prog : Program} {w : World} {A : Around} {E : Value -> Shared -> Prop} {s : Shared} {k : Bool} {l : Addr} {xs : Array Value} {Q : Value -> Shared -> Prop} (t : BJ k s.heap l xs)
  (hQ : ∀ h',Fu k s.heap.objs.size l 0 h' -> (∀ c o,s.heap.get? c = some o -> h'.get? c = some o) -> Q (.ref (s.heap.objs.size + 1)) { s with heap := h' }) : wpAny (model prog w) A (call (.type "enumerate") [.ref l]) Q E s :=
 callType_new F.called_enumerate wE (F.typeCall_enumerate_1 _) (F.newCall_enumerate_1 _) (λ obj => F.args_object_init_2 obj _) F.entry_enumerate_new (Xb k l xs) ⟨t,λ h' W up => ⟨⟨_,W.z,rfl⟩,hQ h' (W.tn (.inl rfl)) up⟩⟩
def LN (k : Bool) (K : PySem.W.Frag) (l : Addr) : It :=
  ⟨λ i H => ∃ as a,Sq k K H l as /\ as[i]? = some a,
   λ i H x H' => ∃ T a,H T = none /\ H' = AL H T (.tup [.int (i : Nat),a]) /\ x = .ref T /\ ∀ as,Sq k K H l as -> as[i]? = some a,
   λ i H => ∃ as,Sq k K H l as /\ as.length <= i⟩
def DG (n : Nat) : List Addr := [n,n + 1]
theorem WX {k : Bool} {n l i : Nat} {h h' : Heap} (st : Fu k n l i h) (q : ∀ b ∈ DG n,∀ o,h.get? b = some o -> h'.get? b = some o) : Fu k n l i h' := by
 obtain ⟨f0,f1,old,hf,z,w⟩ := st
 exact ⟨f0,f1,old,hf,q _ (by simp [DG]) _ z,w.at (q _ (by simp [DG]))⟩
theorem Pa {k : Bool} {n l i : Nat} {h : Heap} (st : Fu k n l i h) : ∀ b ∈ DG n,∃ o,h.get? b = some o /\ ∀ v,o.data ≠ .cell v := by
 obtain ⟨f0,f1,old,hf,z,w⟩ := st
 intro b hb
 rcases List.mem_cons.mp hb with rfl | hb
 ·exact w.obj
 ·cases List.mem_singleton.mp hb
  exact ⟨_,z,λ v e => by cases e⟩
theorem BM.fp {n : Nat} {h h' : Heap} (p : BM n h h') : ∀ c o,c ∉ DG n -> h.get? c = some o -> h'.get? c = some o := λ c o hc => p c o (λ e => hc (by simp [DG,e])) (λ e => hc (by simp [DG,e]))
theorem QH {P : Program} {w : World} {K : PySem.W.Frag} {tg : Expr} (k : Bool) (n l : Nat) (hl : l < n) : EO P w K tg (LN k K l) (DG n) (n + 1) (Fu k n l) where
 mem := by simp [DG]
 obj := λ i h st => Pa st
 keep := λ i h h' st q => WX st q
 item := by
  intro X hP hw hK hc i pins s σ H E I hf st hg
  subst hP hw hK
  obtain ⟨as,a,q1,ga⟩ := hg
  obtain ⟨ia,va,sa,_⟩ := DN I q1
  obtain ⟨ua,hua,rua⟩ := va.get ga
  have hTn : s.heap.objs.size ∉ DG n := λ m => let ⟨o,e,_⟩ := Pa st _ m; Nat.lt_irrefl _ (Heap.lt_size e)
  obtain ⟨f0,f1,old,zf,z,w1⟩ := st
  refine HQ ⟨_,z,rfl⟩ F.slot_enumerate_next F.entry_enumerate_next (F.args_enumerate_next_1 _) (Xc (x := ua) ⟨z,w1,sa,hl⟩ zf (by simpa using hua) λ h1 t f0' f1' old' tk' W1 zf1 pr o1 => ⟨_,rfl,Wo (s := { s with heap := h1,toks := tk' }) W1 zf1 λ h2 f W2 zf2 o2 => ?_⟩)
  have Iz : L2.Inv X pins σ H { s with heap := h2,toks := tk' } := IQ I hf (o1.on o2).fp
  have fr : H s.heap.objs.size = none := I.hok.fresh (Nat.le_refl _)
  refine ⟨.ref s.heap.objs.size,AL H s.heap.objs.size (.tup [.int (i : Nat),a]),?_,rfl,⟨_,a,fr,rfl,rfl,λ cs q => ?_⟩,?_,λ c hb => ?_⟩
  ·refine P8 Iz (I.fpOk (Nat.le_refl _) fr) I.sz ⟨show 2 <= sizeLine by decide,[.int i t,ua],.cons ⟨t,rfl⟩ (.cons rua .nil),?_⟩
   exact ⟨_,o2.fp _ _ hTn pr,rfl,rfl,_,rfl⟩
  ·rw [LO I q q1]; exact ga
  ·exact EW.tn (i := i + 1) W2 zf2
  ·rw [A4 (λ e => hTn (by rw [<- e]; exact hb))]; exact (hf c hb).1
 done := by
  intro X hP hw hK hc i pins s σ H E I hf st hg
  subst hP hw hK
  obtain ⟨as,q1,hend⟩ := hg
  obtain ⟨ia,va,sa,_⟩ := DN I q1
  obtain ⟨f0,f1,old,zf,z,w1⟩ := st
  have e1 := va.length
  exact HQ ⟨_,z,rfl⟩ F.slot_enumerate_next F.entry_enumerate_next (F.args_enumerate_next_1 _) (Xd (I.ok.hd hc) ⟨z,w1,sa,hl⟩ (by simp; omega) λ h' e p q => ⟨q,rfl,IQ (t' := s.toks) I hf p.fp⟩)
 self := λ A i s Q E st h => by
  obtain ⟨f0,f1,old,zf,z,_⟩ := st
  exact N1 ⟨_,z,rfl⟩ F.slot_enumerate_iter F.entry_enumerate_iter (F.args_enumerate_iter_1 _) F.slot_enumerate_next (wpAny_pure ⟨rfl,rfl⟩) h
theorem V0 {K : PySem.W.Frag} {G : Wd} {k : Bool} {l : Addr} {vs : List V} {xs : List D} (h1 : Sq k K G.g l vs) (r1 : Al K G xs vs) : Dt K G (LN k K l) (xs.zipIdx.map λ p => .tup [.int (p.2 : Nat),p.1]) where
 go := λ i H e hi => by
  have hi : i < xs.length := by simpa using hi
  obtain ⟨a,ha,_⟩ := r1.get (i := i) (d := xs[i]) (by simp)
  exact ⟨vs,a,h1.same e,ha⟩
 stop := λ i H e hi => by
  have hi : xs.length <= i := by simpa using hi
  exact ⟨vs,h1.same e,by rw [<- r1.length]; exact hi⟩
 yld := λ i v H H' G2 O2 e s y hi => by
  obtain ⟨T,a,hT,rfl,rfl,y1⟩ := y
  obtain ⟨x,hx,ix⟩ := r1.getV (y1 vs (h1.same (e.g.trans s.sub)))
  obtain ⟨e3,s3⟩ := s.laid (o := .tup [.int (i : Nat),a]) hT
  refine ⟨.tup [.int (i : Nat),x],_,?_,e3,s3,.tup (Bc.of Bs) (.cons (.int _) (.cons (ix.ext (e.trans e3)) .nil))⟩
  rw [List.getElem?_map,List.getElem?_zipIdx,hx]
  simp
section
variable {X : Cx} {ρ : Aj} {O : Ac} {e a b c : Expr} {es : List Expr} {d da db : D} {ds : List D} {R : D -> Ac -> Prop} {pos p : Pos} {x : Str} {xs ys : List D}
theorem WE (ha : Ad X ρ O a da) (fa : LF da xs) (hm : X.mg "enumerate" = none) (hg : Gl X "enumerate" := by rfl) (hs : starEach [a] X.env = [(false,eval a X.env)] := by rfl) :
  Gn X ρ O (.Call (.Name "enumerate" p) [a] [] pos) (xs.zipIdx.map λ p => .tup [.int (p.2 : Nat),p.1]) "enumerate" := λ G tg pins s σ H R I sa en k => by
 refine Call_ (EI I hg hm boot_enumerate (PyProof.Rows.callWith_type1 (Aq (Ab ha Ae hs G pos pins s σ H (λ vs H' => ∃ G',Ah G G' /\ SA X.K G' H' O /\ Al X.K G' [da] vs) I ⟨sa,en,λ vs G' H' e1 s1 i1 => ⟨G',e1,s1,i1⟩⟩) λ us s1 ⟨vs,H1,I1,r1,G1,e1,sa1,is1⟩ => ?_) (by rw [hs]; rfl) rfl))
 cases is1 with | cons i1 is1 =>
 cases is1
 obtain ⟨k1,l1,v1,rfl,q1,j1⟩ := fa.sq i1
 obtain ⟨u,rfl,ru⟩ := DQ r1
 cases ru
 obtain ⟨t1,w1,g1,z1⟩ := DN I1 (q1.same sa1.sub)
 have lt : l1 < s1.heap.objs.size := by
  cases k1 with
  | true => obtain ⟨o,g,_⟩ := (g1 : s1.heap.IsList l1 _); exact Heap.lt_size g
  | false => obtain ⟨o,g,_⟩ := (g1 : s1.heap.IsTuple l1 _); exact Heap.lt_size g
 refine XU g1 λ h' Z kp => ?_
 have Ik : L2.Inv X pins σ H1 { s1 with heap := h',toks := s1.toks } := I1.kept kp
 refine ⟨⟨s1.heap.objs.size + 1,DG s1.heap.objs.size,Fu k1 s1.heap.objs.size l1,LN k1 X.K l1,H1,rfl,Ik,QH k1 _ l1 lt,Z,λ b hb => ?_,k _ G1 H1 e1 sa1 (V0 q1 j1)⟩,?_⟩
 ·have hb' : s1.heap.objs.size <= b := by
   rcases List.mem_cons.mp hb with rfl | hb
   ·exact Nat.le_refl _
   ·cases List.mem_singleton.mp hb; exact Nat.le_succ _
  exact I1.fpOk hb' (I1.hok.fresh hb')
 ·obtain ⟨f0,f1,old,_,hz,_⟩ := Z
  exact ⟨_,hz,rfl⟩
theorem WD {α : Type} {f : α -> D} {as : List α} (ha : Ad X ρ O a da) (fa : LF da (as.map f)) (hm : X.mg "enumerate" = none) (hg : Gl X "enumerate" := by rfl) (hs : starEach [a] X.env = [(false,eval a X.env)] := by rfl) :
  Gn X ρ O (.Call (.Name "enumerate" p) [a] [] pos) (as.zipIdx.map λ p => .tup [.int (p.2 : Nat),f p.1]) "enumerate" := by
 have e : (as.zipIdx.map λ p => D.tup [.int (p.2 : Nat),f p.1]) = ((as.map f).zipIdx.map λ p => D.tup [.int (p.2 : Nat),p.1]) := by
  rw [List.zipIdx_map,List.map_map]
  rfl
 rw [e]
 exact WE ha fa hm hg hs
end
end DL
namespace DL
open PySem PySem.Spec PyProof.Rows L2
section
variable {X : Cx} {ρ : Aj} {O : Ac} {e a b c o value : Expr} {es : List Expr} {d da db : D} {ds : List D} {R : D -> Ac -> Prop} {pos p p2 apos pos' : Pos} {x y f m : Str} {rest : List Stmt} {P : Bf} {q : Nat} {C C2 : Addr} {fs : List (Str × D)}
theorem GP {i : Int} {t : Tok} (hm : X.mg x = some (.int i t)) (hg : Gl X x := by rfl) (hd : (x == ("__debug__" : Str)) = false := by decide) : Ad X ρ O (.Name x pos) (.int i) := λ G =>
 PE.imp (NW (v := .int i) hg hm ⟨t,rfl⟩ hd) λ σ H Q ⟨h1,h2,h3⟩ => h3 _ G H (Ah.refl _) h1 (.int i)
structure Co (K : PySem.W.Frag) (C : Addr) : Prop where
 cls : A6 K C
 ha : PySem.W.findIn K (.ref C) "__class__" = some (some (.builtin "object.__class__"))
 hn : PySem.W.specialIn K (.builtin "object.__class__") "__get__" = some (some (.builtin "getset_descriptor.__get__"))
 htk : PySem.W.takesIn K (.builtin "object.__class__") = some true
 hm : PySem.W.mroIn K C (.type "object") = some true
theorem EK {k : Bool} (hm : X.mg "isinstance" = none) (he : Ad X ρ O e (.ptr q)) (hq : O[q]? = some (some (.ins C fs))) (T : Co X.K C) (hx : X.mg x = some (.ref C2)) (hk : PySem.W.kitOne X.K (.ref C) (.ref C2) = some k)
  (hg : Gl X "isinstance" := by rfl) (hgx : Gl X x := by rfl) (hdx : (x == ("__debug__" : Str)) = false := by decide) (hs : starEach [e,.Name x p2] X.env = (false,eval e X.env) :: starEach [.Name x p2] X.env := by rfl) (hpl : (backTo pos (starEach [.Name x p2] X.env)).any (·.1) = false := by rfl) :
  Ad X ρ O (.Call (.Name "isinstance" p) [e,.Name x p2] [] pos) (.bl k) := λ G => by
 refine PE.imp (NY (id := "isinstance") (r := λ vs H Q => ∃ a dx fs,vs = [.ref a,.ref C2] /\ H a = some (.ins C dx fs) /\ Q (.bl k) H) (λ pins s σ H xs us Q I r h => ?_) hg hm (by first | rfl | decide +kernel) (FY (he G) (FY (NW (v := .ref C2) hgx hx rfl hdx) HL rfl) hs) wE wE hs hpl) λ σ H Q ⟨h1,h2,h3⟩ => ?_
 ·obtain ⟨a,dx,fs,rfl,ha,hQ⟩ := h
  obtain ⟨u,u',rfl,ru,ru'⟩ := Fd r
  cases ru'
  exact V1 I ru (.ins ha T.cls T.ha T.hn T.htk T.hm) hk λ tk => ⟨.bl k,H,I.kept λ _ _ e => e,rfl,hQ⟩
 ·refine ⟨h1,h2,λ v G1 H1 e1 s1 i1 => ?_⟩
  obtain ⟨a,dx,vs,rfl,g1,g2,g3⟩ := s1.ins i1 hq
  exact ⟨a,dx,vs,rfl,g2,h3 _ G1 H1 e1 s1 (.bl k)⟩
structure ER (P : Program) (w : World) (K : PySem.W.Frag) (mg : Str -> Option Value) (base : Heap) (x : Str) (k : Nat) (m : Str) (sp : AQ) : Prop where
 ex : ∃ C mc f fd ps,mg x = some (.ref C) /\ PySem.W.specialIn K (.ref C) "__getattribute__" = some (some (.builtin "type.__getattribute__")) /\ PySem.W.readsIn K C mc = true /\ PySem.W.findCls K (.ref C) mc m = some (.val (.ref f)) /\ PySem.W.handedIn (.ref f) = true /\
  AF P w K mg base AK k f fd ps (AG K sp) /\ PySem.W.keepIn K (.ref f) = true /\ Binds K fd ps []
theorem GO {k : Nat} {sp : AQ} {pl : Sem Bool} (M : ER X.prog X.w X.K X.mg X.base x k m sp) (hr : AN k X.A) (ha : Bx X ρ O (e :: es) ds) (hs : sp ds O R) (hg : Gl X x := by rfl) (hdb : (x == ("__debug__" : Str)) = false := by decide)
  (hst : starEach (e :: es) X.env = (false,eval e X.env) :: starEach es X.env := by rfl) (hpl : (backTo pos (starEach es X.env)).any (·.1) = false := by rfl)
  (ht : eval (.Call (.Attribute (.Name x p) m apos) (e :: es) [] pos) X.env = (do
   let ov <- eval (.Name x p) X.env
   standAt apos.atName
   let (f,first) <- holding [ov] (getMethod ov m pl)
   callWith pos f first (backTo pos (starEach (e :: es) X.env)) (backToKw pos (keywordEach [] X.env))) := by rfl) : Ev X ρ O (.Call (.Attribute (.Name x p) m apos) (e :: es) [] pos) R := λ G pins s σ H Q I ⟨h1,h2,h3⟩ => by
 obtain ⟨C,mc,f,fd,ps,g1,g2,g3,g4,g5,g6,g7,g8⟩ := M.ex
 refine PySem.W.methodCall_KW (pl := pl) (HX I hg g1 (PySem.W.method_cls I.kIn g2 (PySem.W.cls_value I.kIn g3 g4 g5 ?_)) hdb) ht
 have I1 : L2.Inv X pins σ H { s with toks := s.toks + 1 } := I.kept λ _ _ e => e
 refine PySem.W.callWith_K (first := []) (h₀ := X.base) I.ok.mod.kin g7 (Aq (ha G pos pins _ σ H (λ vs H' => ∃ G',Ah G G' /\ SA X.K G' H' O /\ Al X.K G' ds vs) I1 ⟨h1,h2,λ vs G' H' e1 s1 i1 => ⟨G',e1,s1,i1⟩⟩) λ us s2 ⟨vs,H2,I2,r,G1,e1,s1,i1⟩ => ⟨I2.kIn,?_⟩) hst hpl
 refine HD (us := us) (vs := vs) (dvs := []) (E := E0) g6 hr g8 .nil FX I2 r ?_
 show AG X.K sp (vs ++ []) H2 Q E0
 rw [List.append_nil]
 exact ⟨G1,O,ds,R,s1,i1,hs,λ v d O' G' H' e2 s2 i2 r2 => h3 v d O' G' H' (e1.trans e2) s2 i2 r2⟩
end
def IS (X : Cx) (ρ : Aj) (O : Ac) (e : Expr) (R : Bool -> Ac -> Prop) : Prop :=
 ∀ G,PT X e (λ σ H Q => SA X.K G H O /\ AB X.K G σ ρ /\ ∀ k O' G' H',Ah G G' -> SA X.K G' H' O' -> R k O' -> Q k H')
section
variable {X : Cx} {ρ : Aj} {O : Ac} {e a b c : Expr} {body orelse : List Stmt} {d da db : D} {pos : Pos} {P : Bf}
theorem Qm {R : Bool -> Ac -> Prop} (hc : IS X ρ O c R) (h : ∀ k O',R k O' -> (k = true -> Cw X ρ O' body P) /\ (k = false -> Cw X ρ O' orelse P)) : Ex X ρ O (.If c body orelse pos) P := λ G =>
 PS.imp (NN (hc G) (t := λ E σ H => ∃ G1 O',R true O' /\ SA X.K G1 H O' /\ AB X.K G1 σ ρ /\ DO X.K G1 P E) (λ pins s σ H E I ⟨G1,O',z,q⟩ => (h true O' z).1 rfl G1 pins s σ H E I q)
  (u := λ E σ H => ∃ G1 O',R false O' /\ SA X.K G1 H O' /\ AB X.K G1 σ ρ /\ DO X.K G1 P E) (λ pins s σ H E I ⟨G1,O',z,q⟩ => (h false O' z).2 rfl G1 pins s σ H E I q)) λ E σ H ⟨q1,q2,q3⟩ =>
  ⟨q1,q2,λ k O' G' H' e1 s1 r1 => by
   cases k with
   | true => exact K3 ⟨G',O',r1,s1,q2.ext e1,q3.ext e1⟩
   | false => exact K4 ⟨G',O',r1,s1,q2.ext e1,q3.ext e1⟩⟩
end
section
variable {X : Cx} {ρ : Aj} {O : Ac} {a b : Expr} {pos : Pos} {R : D -> Ac -> Prop} {xs : List D}
end
end DL
namespace DL
open PySem PySem.Spec PyProof.Rows L2 PySem.W
section
variable {X : Cx} {ρ : Aj} {O : Ac} {d : D} {xs ys : List D}
theorem PP (bt : Nat -> Nat -> Bool) : ∀ k,argBest bt k <= k
 | 0 => Nat.le_refl _
 | k + 1 => by
  have := PP bt k
  unfold argBest
  split <;> omega
end
structure G0 (K : PySem.W.Frag) (x qual : Str) (st : Stmt) (f : Addr) (fd : FuncData) (dv : List Value) : Prop where
 ex : ∃ (T : Addr) (cT : Value) (dT : Option Addr) (nT : Nat) (sT : Array (Option Value)) (oc : Value) (od : Option Addr) (kV doc pm : Value) (an : Option Addr) (cdv ct : Value) (osl : Array (Option Value)),
  fd = PySem.W.fnOf x qual (Dd st) (CK st) (Ar st) (.ref T) kV doc pm an cdv ct /\ K.lookup f = some ⟨oc,od,.func fd,osl⟩ /\ PySem.W.codeIn K cdv qual = true /\ K.lookup T = some ⟨cT,dT,.seq dv.toArray nT,sT⟩
 kp : PySem.W.keepIn K (.ref f) = true
theorem Ww {K : PySem.W.Frag} {x qual : Str} {st : Stmt} {f T : Addr} {cT oc : Value} {dT od an : Option Addr} {nT : Nat} {sT osl : Array (Option Value)} {kV doc pm cdv ct : Value} {dv : List Value} (l : K.lookup f = some ⟨oc,od,.func (PySem.W.fnOf x qual (Dd st) (CK st) (Ar st) (.ref T) kV doc pm an cdv ct),osl⟩)
  (t : K.lookup T = some ⟨cT,dT,.seq dv.toArray nT,sT⟩) (c : PySem.W.codeIn K cdv qual = true) (k : PySem.W.keepIn K (.ref f) = true) : G0 K x qual st f (PySem.W.fnOf x qual (Dd st) (CK st) (Ar st) (.ref T) kV doc pm an cdv ct) dv := ⟨⟨T,cT,dT,nT,sT,oc,od,kV,doc,pm,an,cdv,ct,osl,rfl,l,c,t⟩,k⟩
theorem G0.binds {K : PySem.W.Frag} {x qual : Str} {st : Stmt} {f : Addr} {fd : FuncData} {dv rest : List Value} {ps : List Str} (F : G0 K x qual st f fd dv)
  (h : ∀ (T : Addr) (kV doc pm : Value) (an : Option Addr) (cdv ct : Value) (us : List Value),(us ++ rest).length = ps.length -> ∃ k,bindArgs (PySem.W.fnOf x qual (Dd st) (CK st) (Ar st) (.ref T) kV doc pm an cdv ct) ⟨us,[]⟩ = seqItems? (.ref T) >>= k /\ k (some dv.toArray) = pure (ps.zip (us ++ rest))) : Binds K fd ps rest := by
 obtain ⟨T,cT,dT,nT,sT,oc,od,kV,doc,pm,an,cdv,ct,osl,rfl,l,c,t⟩ := F.ex
 intro s us X hl
 obtain ⟨k,h1,h2⟩ := h T kV doc pm an cdv ct us hl
 exact PySem.W.binds_K X rfl t rfl h1 h2
section
variable {P : Program} {w : World} {K : PySem.W.Frag} {mg : Str -> Option Value} {base : Heap}
theorem Vl {x qual : Str} {st : Stmt} {f : Addr} {fd : FuncData} {N ps : List Str} {k : Nat} {sp : AQ} {dv : List Value} (F : G0 K x qual st f fd dv) (S : AD N ps (Ar st))
  (len : ∀ ds O R,sp ds O R -> ds.length = ps.length)
  (hbody : ∀ (cdv : Value) (A : Around) (outer : List Env) (s : Shared) (H : Hp) (E : XK) (ds : List D) (O : Ac) (R : D -> Ac -> Prop),AN k (A.deeper (envOfC qual (Ar st) s.heap.objs.size f cdv)) -> sp ds O R ->
   Cw (Ep AK P w K mg base N qual (Ar st) f cdv A outer s H E).nox (FL N ds) O (CK st) { nx := λ _ O' => R .non O',rt := R }) : AF P w K mg base AK (k + 1) f fd ps (AG K sp) := by
 obtain ⟨T,cT,dT,nT,sT,oc,od,kV,doc,pm,an,cdv,ct,osl,rfl,l,c,t⟩ := F.ex
 refine OT l c S (λ vs H Q E h => ?_) λ A outer s H vs Q E hr h => ?_
 ·obtain ⟨G,O,ds,R,h1,h2,h3,h4⟩ := h
  rw [<- h2.length]
  exact len _ _ _ h3
 ·obtain ⟨G,O,ds,R,h1,h2,h3,h4⟩ := h
  exact ⟨_,(hbody cdv A outer s H E ds O R hr h3 G).nox,h1,Mu h2,⟨λ σ ρ O' G' H' e1 s1 n1 q => h4 _ _ O' G' H' e1 s1 .non q,λ v d O' G' H' e1 s1 i1 q => h4 v d O' G' H' e1 s1 i1 q,λ σ ρ O' G' H' e1 s1 n1 q => q.elim,λ σ ρ O' G' H' e1 s1 n1 q => q.elim⟩⟩
end
section
variable {X : Cx} {ρ : Aj} {O : Ac} {a : Expr} {pos p : Pos} {R : D -> Ac -> Prop} {xs : List D} {d : D}
end
def Fm (ps : List (Int × Int)) : Int × Int := ps.getD (argBest (λ i j => AS (ps.getD i (0,0)) (ps.getD j (0,0))) (ps.length - 1)) (0,0)
theorem Os (g : Nat -> Int × Int) : ∀ k i,i <= k -> AS (g i) (g (argBest (λ i j => AS (g i) (g j)) k)) = false
 | 0,i,h => by
  have : i = 0 := by omega
  subst this
  show AS (g 0) (g 0) = false
  unfold AS
  exact decide_eq_false wF
 | k + 1,i,h => by
  have ih := Os g k
  unfold argBest
  by_cases hd : AS (g (k + 1)) (g (argBest (λ i j => AS (g i) (g j)) k)) = true
  ·rw [if_pos hd]
   by_cases he : i = k + 1
   ·subst he; unfold AS; exact decide_eq_false wF
   ·have := ih i wF
    generalize argBest (λ i j => AS (g i) (g j)) k = b at *
    unfold AS at *
    have h1 := of_decide_eq_true hd
    have h2 := of_decide_eq_false this
    exact decide_eq_false wF
  ·rw [if_neg hd]
   by_cases he : i = k + 1
   ·subst he; exact Bool.eq_false_iff.mpr hd
   ·exact ih i wF
theorem Vz {ps : List (Int × Int)} (h : ps ≠ []) : Fm ps ∈ ps := by
 have h0 := List.length_pos_iff.mpr h
 unfold Fm
 rw [Ih (by have := PP (λ i j => AS (ps.getD i (0,0)) (ps.getD j (0,0))) (ps.length - 1); omega)]
 exact List.getElem_mem _
theorem VA {ps : List (Int × Int)} {q : Int × Int} (h : q ∈ ps) : AS q (Fm ps) = false := by
 obtain ⟨i,hi,rfl⟩ := List.getElem_of_mem h
 have := Os (λ i => ps.getD i (0,0)) (ps.length - 1) i wF
 rw [Ih hi] at this
 exact this
def GW (h : Heap) (v : Value) (p : Int × Int) : Prop := ∃ a o n t u,v = .ref a /\ h.get? a = some o /\ o.cls = .type "tuple" /\ o.data = .seq #[.int p.1 t,.int p.2 u] n
section
variable {prog : Program} {w : World} {A : Around} {E : Value -> Shared -> Prop} {s : Shared}
theorem Oq {a b : Int} {t u : Tok} {Q : Value -> Shared -> Prop} (h : Q (.bool (decide (a < b))) s) : wpAny (model prog w) A (richCompare .Lt (.int a t) (.int b u)) Q E s :=
 CmpOf.ints_lt (P := λ i v => v = if i = 0 then .int a t else .int b u) (λ i => if i = 0 then a else b) (λ i v e => ⟨if i = 0 then t else u,by subst e; split <;> rfl⟩) 0 1 _ _ s Q E rfl rfl h
theorem VF {x y : Value} {p q : Int × Int} {Q : Value -> Shared -> Prop} (hx : GW s.heap x p) (hy : GW s.heap y q) (hu : A.units < cLine) (h : Q (.bool (AS p q)) s) : wpAny (model prog w) A (richCompare .Lt x y) Q E s := by
 obtain ⟨a,oa,na,ta,ua,rfl,a1,a2,a3⟩ := hx
 obtain ⟨b,ob,nb,tb,ub,rfl,b1,b2,b3⟩ := hy
 have Ta : s.TypeIs (.ref a) "tuple" := ⟨oa,a1,a2⟩
 have Tb : s.TypeIs (.ref b) "tuple" := ⟨ob,b1,b2⟩
 refine wpAny_richCompare_same_room (op := .Lt) Ta Tb PySem.F.slot_tuple_lt (wpAny_call_entry PySem.F.slot_tuple_lt Ta PySem.F.entry_tuple_lt ?_ (PySem.F.args_tuple_lt_2 _ _)) hu
 obtain ⟨h0,g,d,tk,os⟩ := s
 obtain ⟨ca,da,xa,sa⟩ := oa
 obtain ⟨cb,db,xb,sb⟩ := ob
 simp only at a2 a3 b2 b3
 subst a2 a3 b2 b3
 dsimp only at a1 b1
 have f2 := AutoSeq1.sub_tuple_tuple
 have hq1 : ((p.1 == q.1) = true) ↔ p.1 = q.1 := by simp
 by_cases e1 : p.1 = q.1
 ·have z1 : (p.1 == q.1) = true := by simpa using e1
  by_cases e2 : p.2 = q.2
  ·have z2 : (p.2 == q.2) = true := by simpa using e2
   have z : AS p q = false := by unfold AS; exact decide_eq_false wF
   rw [z] at h
   wp_walk using wpAny_loadPart' a1,wpAny_loadPart' b1,wpAny_eqBool_int
   exact ⟨.bool false,rfl,λ z => (by cases z),h⟩
  ·have z2 : (p.2 == q.2) = false := by simpa using e2
   have z : AS p q = decide (p.2 < q.2) := by unfold AS; exact decide_eq_decide.mpr wF
   rw [z] at h
   wp_walk using wpAny_loadPart' a1,wpAny_loadPart' b1,wpAny_eqBool_int,Oq
   exact ⟨_,rfl,λ z => (by cases z),h⟩
 ·have z1 : (p.1 == q.1) = false := by simpa using e1
  have z : AS p q = decide (p.1 < q.1) := by unfold AS; exact decide_eq_decide.mpr wF
  rw [z] at h
  wp_walk using wpAny_loadPart' a1,wpAny_loadPart' b1,wpAny_eqBool_int,Oq
  exact ⟨_,rfl,λ z => (by cases z),h⟩
theorem KY {R : Result -> Shared -> Prop} {I S : Addr} {fp wr : List Addr} {n : Nat} {P : Nat -> Value -> Prop} {St : Nat -> Heap -> Prop} {Kp : Heap -> Prop} {bt : Nat -> Nat -> Bool} (W : Walks prog w A.in1 I fp wr n P St)
  (hc : ∀ i j vi vj (s : Shared) (Q : Value -> Shared -> Prop) (E : Value -> Shared -> Prop),P i vi -> P j vj -> Kp s.heap -> Q (.bool (bt i j)) s -> wpAny (model prog w) A.in1 (richCompare .Lt vi vj) Q E s)
  (hK : ∀ h h' : Heap,Kp h -> (∀ b o,b ∉ wr -> b ≠ S -> h.get? b = some o -> h'.get? b = some o) -> Kp h') (hS : S ∉ fp) :
  ∀ (k j : Nat) (s : Shared) (vb : Value) (c : Nat),j + 1 + k = n -> St (j + 1) s.heap -> Kp s.heap -> P (argBest bt j) vb -> s.heap.get? S = some (Dm [vb,vb] c) ->
   (∀ v h' tk,P (argBest bt (n - 1)) v -> (∀ b o,b ∉ wr -> b ≠ S -> s.heap.get? b = some o -> h'.get? b = some o) -> R (.ok (.ret v)) { s with heap := h',toks := tk }) -> codeAny (model prog w) A (.builtin "min.loop" ⟨[.ref I,.none,.ref S],[]⟩) R s
 | 0,j,s,vb,c,hk,st,kp,pb,own,fin => by
  refine Fx F.plain_min_loop F.entry_min_loop ?_
  obtain ⟨h,g,d,tk,os⟩ := s
  have hn : j + 1 = n := hk
  subst hn
  have nx : ∀ (Q : Option Value -> Shared -> Prop) (E : Value -> Shared -> Prop) (f : Value -> Sem (Option Value)),(∀ h' tk',(∀ b o,b ∉ wr -> h.get? b = some o -> h'.get? b = some o) -> Q none ⟨h',g,d,tk',os⟩) -> wpAny (model prog w) A.in1 ((pyNext (.ref I)).tryCatch f) Q E ⟨h,g,d,tk,os⟩ := λ Q E f q => wpAny_tryCatch (W.done _ _ _ st q)
  wp_walk using wpAny_seqItems own rfl,nx
  intro h' tk' ke
  have own' := ke S _ (λ z => hS (W.sub _ z)) own
  wp_walk using wpAny_updateSeq own' rfl
  exact fin vb _ _ pb λ b o hb hbS e => (Heap.get?_update_other _ _ (Ne.symm hbS)).trans (ke b o hb e)
 | k + 1,j,s,vb,c,hk,st,kp,pb,own,fin => by
  refine Fx F.plain_min_loop F.entry_min_loop ?_
  obtain ⟨h,g,d,tk,os⟩ := s
  have nx : ∀ (Q : Option Value -> Shared -> Prop) (E : Value -> Shared -> Prop) (f : Value -> Sem (Option Value)),(∀ v h' tk',P (j + 1) v -> St (j + 2) h' -> (∀ b o,b ∉ wr -> h.get? b = some o -> h'.get? b = some o) -> Q (some v) ⟨h',g,d,tk',os⟩) -> wpAny (model prog w) A.in1 ((pyNext (.ref I)).tryCatch f) Q E ⟨h,g,d,tk,os⟩ := λ Q E f q => wpAny_tryCatch (W.item _ _ _ _ wF st q)
  wp_walk using wpAny_seqItems own rfl,nx
  intro v h' tk' pv st' ke
  have own' := ke S _ (λ z => hS (W.sub _ z)) own
  have kp' : Kp h' := hK h h' kp λ b o hb _ e => ke b o hb e
  have cmp : ∀ (Q : Value -> Shared -> Prop) (E : Value -> Shared -> Prop),Q (.bool (bt (j + 1) (argBest bt j))) ⟨h',g,d,tk',os⟩ -> wpAny (model prog w) A.in1 (richCompare .Lt v vb) Q E ⟨h',g,d,tk',os⟩ := λ Q E q => hc _ _ _ _ _ Q E pv pb kp' q
  wp_walk
  refine wpAny_tryCatch ?_
  have nm : (toString "min" ++ toString ".loop" : String) = "min.loop" := by decide
  rw [nm]
  have hb1 : argBest bt (j + 1) = if bt (j + 1) (argBest bt j) then j + 1 else argBest bt j := rfl
  cases hz : bt (j + 1) (argBest bt j) with
  | true =>
   rw [hz] at cmp hb1
   wp_walk using cmp,wpAny_truthy_bool,wpAny_updateSeq own' rfl
   refine ⟨plainId_quiet F.plain_min_loop _,KY W hc hK hS k (j + 1) _ v _ wF (W.frame _ _ _ st' λ b hbf o e => (Heap.get?_update_other _ _ (λ z : S = b => hS (by rw [z]; exact hbf))).trans e) (hK _ _ kp' λ b o _ hbS e => (Heap.get?_update_other _ _ (Ne.symm hbS)).trans e) (by rw [hb1]; exact pv) (Heap.get?_update_self _ own' rfl) λ v2 h2 tk2 p2 ke2 => fin v2 h2 tk2 p2 λ b o hbw hbS e => ke2 b o hbw hbS ((Heap.get?_update_other _ _ (Ne.symm hbS)).trans (ke b o hbw e))⟩
  | false =>
   rw [hz] at cmp hb1
   wp_walk using cmp,wpAny_truthy_bool
   exact ⟨plainId_quiet F.plain_min_loop _,KY W hc hK hS k (j + 1) _ vb _ wF st' kp' (by rw [hb1]; exact pb) own' λ v2 h2 tk2 p2 ke2 => fin v2 h2 tk2 p2 λ b o hbw hbS e => ke2 b o hbw hbS (ke b o hbw e)⟩
theorem Vy {R : Result -> Shared -> Prop} {I S : Addr} {fp wr : List Addr} {n : Nat} {P : Nat -> Value -> Prop} {St : Nat -> Heap -> Prop} {Kp : Heap -> Prop} {bt : Nat -> Nat -> Bool} {c : Nat} (W : Walks prog w A.in1 I fp wr n P St)
  (hc : ∀ i j vi vj (s : Shared) (Q : Value -> Shared -> Prop) (E : Value -> Shared -> Prop),P i vi -> P j vj -> Kp s.heap -> Q (.bool (bt i j)) s -> wpAny (model prog w) A.in1 (richCompare .Lt vi vj) Q E s)
  (hK : ∀ h h' : Heap,Kp h -> (∀ b o,b ∉ wr -> b ≠ S -> h.get? b = some o -> h'.get? b = some o) -> Kp h') (hS : S ∉ fp) (hn : 0 < n) (st : St 0 s.heap) (kp : Kp s.heap) (own : s.heap.get? S = some (Dm [] c))
  (fin : ∀ v h' tk,P (argBest bt (n - 1)) v -> (∀ b o,b ∉ wr -> b ≠ S -> s.heap.get? b = some o -> h'.get? b = some o) -> R (.ok (.ret v)) { s with heap := h',toks := tk }) : codeAny (model prog w) A (.builtin "min.loop" ⟨[.ref I,.none,.ref S],[]⟩) R s := by
 refine Fx F.plain_min_loop F.entry_min_loop ?_
 obtain ⟨h,g,d,tk,os⟩ := s
 have nx : ∀ (Q : Option Value -> Shared -> Prop) (E : Value -> Shared -> Prop) (f : Value -> Sem (Option Value)),(∀ v h' tk',P 0 v -> St 1 h' -> (∀ b o,b ∉ wr -> h.get? b = some o -> h'.get? b = some o) -> Q (some v) ⟨h',g,d,tk',os⟩) -> wpAny (model prog w) A.in1 ((pyNext (.ref I)).tryCatch f) Q E ⟨h,g,d,tk,os⟩ := λ Q E f q => wpAny_tryCatch (W.item _ _ _ _ hn st q)
 wp_walk using wpAny_seqItems own rfl,nx
 intro v h' tk' pv st' ke
 have own' := ke S _ (λ z => hS (W.sub _ z)) own
 wp_walk using wpAny_updateSeq own' rfl
 have nm : (toString "min" ++ toString ".loop" : String) = "min.loop" := by decide
 rw [nm]
 exact ⟨plainId_quiet F.plain_min_loop _,KY W hc hK hS (n - 1) 0 _ v _ wF (W.frame _ _ _ st' λ b hbf o e => (Heap.get?_update_other _ _ (λ z : S = b => hS (by rw [z]; exact hbf))).trans e) (hK _ _ (hK _ _ kp λ b o hb _ e => ke b o hb e) λ b o _ hbS e => (Heap.get?_update_other _ _ (Ne.symm hbS)).trans e) pv (Heap.get?_update_self _ own' rfl) λ v2 h2 tk2 p2 ke2 => fin v2 h2 tk2 p2 λ b o hbw hbS e => ke2 b o hbw hbS ((Heap.get?_update_other _ _ (Ne.symm hbS)).trans (ke b o hbw e))⟩
theorem XL {l : Addr} {its : List Value} {ps : List (Int × Int)} {Q : Value -> Shared -> Prop} (hh : A.handled = none) (hu : A.in1.units < cLine) (q : s.heap.IsList l its.toArray) (hv : ∀ (i : Nat) (v : Value),its[i]? = some v -> GW s.heap v (ps.getD i (0,0))) (hn : ps.length = its.length) (h0 : 0 < ps.length)
  (h : ∀ v h' tk,its[argBest (λ i j => AS (ps.getD i (0,0)) (ps.getD j (0,0))) (ps.length - 1)]? = some v -> (∀ b o,s.heap.get? b = some o -> h'.get? b = some o) -> Q v { s with heap := h',toks := tk }) : wpAny (model prog w) A (call (.builtin "min") [.ref l]) Q E s := by
 obtain ⟨h1,g,d,tk,os⟩ := s
 dsimp only at q hv h
 have hl : l < h1.objs.size := by obtain ⟨o,e,_⟩ := q; exact Heap.lt_size e
 refine call_function_tree F.kind_min F.plain_min F.entry_min (F.args_min1 (.ref l)) ?_
 have bp : Builtin.Builtins.bindParams "min" ["key","default"] 0 ⟨[],[]⟩ = pure [none,none] := rfl
 wp_walk using wpAny_pyIter_list q
 have nm : (toString "min" ++ toString ".loop" : String) = "min.loop" := by decide
 rw [nm]
 have W := Walks.list (prog := prog) (w := w) (A := A.in1) hh h1.objs.size l (Nat.ne_of_lt hl) its.toArray
 have ez : its.toArray.size = ps.length := by simp [hn]
 have up : ∀ b o,h1.get? b = some o -> ((h1.push { cls := .type "list_iterator",data := .fields #[.ref l,.int 0 0] }).push { cls := .type "list",data := .seq #[] }).get? b = some o := λ b o e => Heap.get?_push_of_some _ (Heap.get?_push_of_some _ e)
 have es : (h1.push { cls := .type "list_iterator",data := .fields #[.ref l,.int 0 0] }).objs.size = h1.objs.size + 1 := Heap.size_push ..
 refine ⟨plainId_quiet F.plain_min_loop _,Vy (c := 0) (Kp := λ h' => ∀ b o,h1.get? b = some o -> h'.get? b = some o) (bt := λ i j => AS (ps.getD i (0,0)) (ps.getD j (0,0))) W (λ i j vi vj s' Q' E' pi pj kp hq => ?_) (λ h2 h3 kp ke b o e => ?_) ?_ (by rw [ez]; exact h0) ⟨⟨_,Heap.get?_push_of_some _ (Heap.get?_push_size _ rfl),rfl,rfl⟩,?_⟩ up (Heap.get?_push_size _ rfl) λ v h2 tk2 pv ke => ?_⟩
 ·have far : ∀ {x : Value} {p : Int × Int},GW h1 x p -> GW s'.heap x p := λ ⟨a,o,n,t,u,e,e1,r⟩ => ⟨a,o,n,t,u,e,kp a o e1,r⟩
  exact VF (far (hv i vi (by simpa using pi))) (far (hv j vj (by simpa using pj))) hu hq
 ·have hb := Heap.lt_size e
  refine ke b o (by simpa using Nat.ne_of_lt hb) (λ z => ?_) (kp b o e)
  rw [z] at hb
  have hb : h1.objs.size + 1 < h1.objs.size := by rw [<- es]; exact hb
  omega
 ·intro z
  have z : h1.objs.size + 1 ∈ [h1.objs.size,l] := by rw [<- es]; exact z
  rcases List.mem_cons.mp z with z | z
  ·exact Nat.succ_ne_self _ z
  ·have z := List.mem_singleton.mp z
   rw [<- z] at hl
   exact Nat.lt_irrefl _ (Nat.lt_of_succ_lt hl)
 ·obtain ⟨o,e,r⟩ := q
  exact ⟨o,up _ _ e,r⟩
 ·rw [ez] at pv
  refine h v h2 tk2 (by simpa using pv) λ b o e => ke b o (by simpa using Nat.ne_of_lt (Heap.lt_size e)) (λ z => ?_) (up b o e)
  have hb := Heap.lt_size e
  rw [z] at hb
  have hb : h1.objs.size + 1 < h1.objs.size := by rw [<- es]; exact hb
  omega
end
section
variable {X : Cx} {O : Ac} {d : D} {k : Nat}
theorem XX {ps : List (Int × Int)} (hr : AN k X.A) (h : LV O d (ps.map pD)) (h0 : ps ≠ []) (hc : X.calm = true := by rfl) : B4 X O (.builtin "min") [d] (pD (Fm ps)) := λ G pins s σ H vs us Q I r ⟨h1,h2,h3⟩ => by
 cases h2 with | cons i r2 =>
 cases r2
 obtain ⟨ad,ws,rfl,q,is⟩ := h.sq h1 i
 obtain ⟨u,rfl,ru⟩ := DQ r
 cases ru
 obtain ⟨its,va,sq,_⟩ := I.list q
 have e1 := is.length
 have e2 := va.length
 rw [List.length_map] at e1
 have hp := List.length_pos_iff.mpr h0
 have at' : ∀ i (v : Value),its[i]? = some v -> ∃ x,ws[i]? = some x /\ AX x v /\ ∃ p,ps[i]? = some p /\ Is X.K G (pD p) x := λ i v hv => by
  have hi : i < ps.length := by rw [e1,e2]; exact (List.getElem?_eq_some_iff.mp hv).1
  obtain ⟨x,hx,ix⟩ := is.get (i := i) (d := pD ps[i]) (by simp [hi])
  obtain ⟨z,hz,rz⟩ := va.get hx
  rw [hv] at hz
  cases hz
  exact ⟨x,hx,rz,ps[i],List.getElem?_eq_getElem hi,ix⟩
 refine XL (ps := ps) (I.ok.hd hc) (show X.A.in1.units < cLine from ?_) sq.isList (λ i v hv => ?_) wF hp λ v h' tk hv kp => ?_
 ·exact Wf hr
 ·obtain ⟨x,hx,rx,p,hpp,ix⟩ := at' i v hv
  rw [List.getD_eq_getElem?_getD,hpp]
  cases ix with
  | tup hh rr =>
  cases rr with | cons j1 rr => cases rr with | cons j2 rr =>
  cases rr
  cases j1
  cases j2
  cases rx
  obtain ⟨its2,v2,⟨o,g1,g2,n,g3⟩,_⟩ := I.tuple (Dh h1.sub hh)
  obtain ⟨u1,u2,rfl,q1,q2⟩ := Fd v2
  obtain ⟨t,rfl⟩ := q1
  obtain ⟨t',rfl⟩ := q2
  exact ⟨_,o,n,t,t',rfl,g1,g2,g3⟩
 ·obtain ⟨x,hx,rx,p,hpp,ix⟩ := at' _ v hv
  have e : Fm ps = p := by
   unfold Fm
   rw [List.getD_eq_getElem?_getD,hpp]
   rfl
  rw [e] at h3
  exact ⟨x,H,I.kept kp,rx,h3 _ G H (Ah.refl _) h1 ix⟩
end
section
variable {X : Cx} {ρ : Aj} {O : Ac} {e : Expr} {p p2 pos pos2 : Pos}
end
section
variable {X : Cx} {ρ : Aj} {O : Ac} {e : Expr} {es : List Expr} {ds : List D} {R : D -> Ac -> Prop} {pos p : Pos} {x : Str} {C : Addr}
end
end DL
namespace DL
open PySem PySem.Spec PyProof.Rows L2
section
variable {X : Cx} {ρ : Aj} {O : Ac} {a b : Expr} {pos : Pos}
theorem W0 {R : Bool -> Ac -> Prop} (ha : Ev X ρ O a λ d O' => ∃ k,d = .bl k /\ R k O') (he : ∀ whole,isTrue a X.env whole = (do let v <- whole; standAt a.pos; holding [v] (truthy v)) := by intro _; rfl) : IS X ρ O a R := λ G =>
 (NL (ha G) he).imp λ σ H Q ⟨q1,q2,q3⟩ => ⟨q1,q2,λ v d O' G' H' e1 s1 i1 r => by
  obtain ⟨k,rfl,r⟩ := r
  cases i1
  exact ⟨k,rfl,q3 k O' G' H' e1 s1 r⟩⟩
theorem WY {R : Bool -> Ac -> Prop} (ha : IS X ρ O a λ k O' => R (!k) O') : IS X ρ O (.UnaryOp .Not a pos) R := λ G =>
 (NM (ha G)).imp λ σ H Q ⟨q1,q2,q3⟩ => ⟨q1,q2,λ k O' G' H' e1 s1 r => q3 (!k) O' G' H' e1 s1 r⟩
end
section
variable {X : Cx} {ρ : Aj} {O : Ac} {a e : Expr} {d : D}
end
section
variable {prog : Program} {w : World} {A : Around} {E : Value -> Shared -> Prop} {s : Shared}
end
section
variable {X : Cx} {O : Ac} {xs : List D}
end
section
variable {X : Cx} {ρ : Aj} {O : Ac} {a b : Expr} {d : D} {pos : Pos}
theorem WK (ha : Ad X ρ O a .non) (hb : Ad X ρ O b d) : Ad X ρ O (.BoolOp .Or [a,b] pos) d := λ G pins s σ H Q I ⟨h1,h2,h3⟩ => by
 refine BoolOp_or (Aq (ha G pins s σ H (λ v H1 => ∃ G1,Ah G G1 /\ SA X.K G1 H1 O /\ Is X.K G1 .non v) I ⟨h1,h2,λ v G1 H1 e1 s1 i1 => ⟨G1,e1,s1,i1⟩⟩) ?_)
 rintro v s1 ⟨x,H1,I1,r1,G1,e1,sa1,i1⟩
 cases i1
 cases r1
 exact truthy_none (DZ hb G1 pins s1 σ H1 Q I1 ⟨sa1,h2.ext e1,λ w G2 H2 e2 s2 i2 => h3 w G2 H2 (e1.trans e2) s2 i2⟩)
theorem WL {i : Int} (ha : Ad X ρ O a (.int i)) (hb : Ad X ρ O b d) : Ad X ρ O (.BoolOp .Or [a,b] pos) (if i = 0 then d else .int i) := λ G pins s σ H Q I ⟨h1,h2,h3⟩ => by
 refine BoolOp_or (Aq (ha G pins s σ H (λ v H1 => ∃ G1,Ah G G1 /\ SA X.K G1 H1 O /\ Is X.K G1 (.int i) v) I ⟨h1,h2,λ v G1 H1 e1 s1 i1 => ⟨G1,e1,s1,i1⟩⟩) ?_)
 rintro v s1 ⟨x,H1,I1,r1,G1,e1,sa1,i1⟩
 cases i1
 obtain ⟨t,rfl⟩ := r1
 refine PySem.P.truthy_int ?_
 by_cases hi : i = 0
 ·subst hi
  exact DZ hb G1 pins s1 σ H1 Q I1 ⟨sa1,h2.ext e1,λ w G2 H2 e2 s2 i2 => h3 w G2 H2 (e1.trans e2) s2 (by rw [if_pos rfl]; exact i2)⟩
 ·rw [if_neg hi] at h3
  have hb : (i != 0) = true := by simpa using hi
  rw [hb]
  exact ⟨.int i,H1,I1,⟨t,rfl⟩,h3 _ G1 H1 e1 sa1 (.int _)⟩
end
section
variable {X : Cx} {ρ : Aj} {O : Ac} {e a b c st : Expr} {d da db : D} {xs ys : List D} {R : D -> Ac -> Prop} {pos p p2 : Pos} {P : Bf} {q : Nat}
end
section
variable {prog : Program} {w : World} {A : Around} {E : Value -> Shared -> Prop} {s : Shared}
end
section
variable {X : Cx} {ρ : Aj} {O : Ac} {a st lo : Expr} {xs : List D} {pos p2 : Pos}
end
section
variable {X : Cx} {ρ : Aj} {O : Ac} {e : Expr} {C C2 : Addr} {x : Str} {p p2 pos : Pos} {R : D -> Ac -> Prop}
end
section
variable {X : Cx} {ρ : Aj} {O : Ac} {o ix e : Expr} {pos tpos : Pos} {P : Bf} {q : Nat}
end
end DL
namespace DL
open PySem PySem.Spec PyProof.Rows L2 PySem.W
section
variable {prog : Program} {w : World} {A : Around} {E : Value -> Shared -> Prop} {s : Shared} {n l : Nat} {j : Int} {xs : Array Value} {v : Value}
end
section
variable {X : Cx} {ρ : Aj} {O : Ac} {a : Expr} {pos p : Pos} {xs : List D}
end
section
variable {prog : Program} {w : World} {A : Around} {E : Value -> Shared -> Prop} {s : Shared} {l : Nat} {k : Int} {t : Tok} {vs : List Value} {ns : List Int}
end
section
variable {X : Cx} {ρ : Aj} {O : Ac} {a e : Expr}
end
end DL
namespace L2
open PySem PySem.Spec PyProof.Rows
def Dw {α : Type} : Sem α -> Prop
 | .pure _ => True
 | .raise _ => True
 | .unsupported _ => True
 | .finish _ => True
 | .rule _ k => Dw (k ())
 | .at _ k => Dw (k ())
 | .load _ _ k => ∀ o,Dw (k o)
 | .update _ _ f k => (∀ o : Obj,((f o).dict = o.dict /\ ctxOf (f o) = ctxOf o) /\ (o.data ≠ .freed -> (f o).data ≠ .freed)) /\ Dw (k ())
 | .alloc _ k => ∀ a,Dw (k a)
 | .loadIfAlive _ k => ∀ o,Dw (k o)
 | .point _ k => Dw (k ())
 | .fresh k => ∀ t,Dw (k t)
 | .ask k => ∀ t,Dw (k t)
 | .handled _ k => ∀ t,Dw (k t)
 | .stack k => ∀ t,Dw (k t)
 | .thread k => ∀ t,Dw (k t)
 | _ => False
section
variable {P : Program} {w : World}
end
section
variable {CX : C7} {P : Program} {w : World} {K : PySem.W.Frag} {mg : Str -> Option Value} {base : Heap} {N : List Str} {qual : Str} {scope : Scope} {f : Addr} {cd : Value} {A : Around} {outer : List Env} {s : Shared} {H : Hp} {E : XK}
end
end L2
namespace DL
open PySem PySem.Spec PyProof.Rows L2
abbrev XR := Addr -> List (Str × D) -> Ac -> Prop
abbrev SpX := List D -> Ac -> (D -> Ac -> Prop) -> XR -> Prop
abbrev XC := Addr -> List (Str × D) -> Aj -> Ac -> Prop
section
variable {X : Cx} {mk : Prop} {ρ : Aj} {O : Ac} {e a b c o : Expr} {es : List Expr} {d da db : D} {ds : List D} {R : D -> Ac -> Prop} {RX : XC} {pos p apos : Pos} {x m : Str} {st : Stmt} {rest body orelse : List Stmt} {P : Bf} {C : Addr} {q : Nat} {fs : List (Str × D)}
end
section
variable {P : Program} {w : World} {K : PySem.W.Frag} {mg : Str -> Option Value} {base : Heap}
end
end DL
namespace L2
open PySem PySem.Spec PyProof.Rows
section
variable {X : Cx} {pins : List (Addr × Obj)} {σ : St} {H : Hp} {s : Shared}
abbrev Cx.as (X : Cx) (A : Around) (calm : Bool) (pn : List (Addr × Obj)) (E : Value -> Shared -> Prop) : Cx := { X with A := A,calm := calm,pn := pn,xe := E }
end
end L2
namespace DL
open PySem PySem.Spec PyProof.Rows L2
abbrev bmV : List Value := [.type "ValueError",.type "Exception",.type "BaseException",.type "object"]
section
variable {X : Cx} {mk : Prop} {ρ : Aj} {O : Ac} {e a b c o : Expr} {es : List Expr} {d da db : D} {ds : List D} {R : D -> Ac -> Prop} {RX : XC} {pos p np cpos hpos : Pos} {x y n : Str} {st b₀ : Stmt} {rest body suite : List Stmt} {P : Bf} {C CB : Addr} {fs : List (Str × D)}
end
end DL
namespace L2
open PySem PySem.Spec PyProof.Rows Builtin.ObjectAttr Builtin.Getset_descriptor
section
variable {prog : Program} {w : World} {A : Around} {E : Value -> Shared -> Prop} {s : Shared} {K : PySem.W.Frag} {x C : Addr} {n : Str}
end
end L2
namespace DL
open PySem PySem.Spec PyProof.Rows L2
section
variable {X : Cx} {ρ : Aj} {O : Ac} {e : Expr} {es : List Expr} {p p2 pos : Pos} {x : Str} {C C2 : Addr} {q : Nat} {fs : List (Str × D)} {k : Bool} {x1 : Nat}
end
end DL
namespace L2
open PySem PySem.Spec PyProof.Rows
section
variable {X : Cx} {tg a b c : Expr} {p pos : Pos}
end
end L2
namespace DL
open PySem PySem.Spec PyProof.Rows L2
section
variable {X : Cx} {ρ : Aj} {O : Ac} {a b c : Expr} {p pos : Pos} {P : Bf} {st : Stmt} {rest : List Stmt}
end
end DL
namespace L2
open PySem PySem.Spec PyProof.Rows Builtin.ObjectAttr
open DL (bmV)
section
variable {prog : Program} {w : World} {A : Around} {s : Shared} {K : PySem.W.Frag} {C f N : Addr} {nm q : Str} {bs bm : List Value} {hdct : Bool} {sn : List Str} {sub : List Value} {ab : Bool} {col : Option Bool} {dd : Option Addr} {k0 k1 k2 k3 k5 : Option Value}
end
end L2
namespace L2
open PySem PySem.Spec PyProof.Rows Builtin.ObjectAttr DL
section
variable {X : Cx} {pins : List (Addr × Obj)} {σ : St} {H : Hp} {s : Shared} {C f a t : Addr} {name : Str}
end
end L2
namespace L2
open PySem PySem.Spec PyProof.Rows Builtin.ObjectAttr DL
section
variable {P : Program} {w : World} {K : PySem.W.Frag} {mg : Str -> Option Value} {base : Heap} {C f : Addr} {name sn nn qual : Str} {st : Stmt} {fd : FuncData} {p1 p2 p3 p4 : Pos}
end
end L2
namespace DL
open PySem PySem.Spec PyProof.Rows L2
section
variable {X : Cx} {mk : Prop} {ρ : Aj} {O : Ac} {e : Expr} {d : D} {RX : XC} {pos np cpos : Pos} {x name : Str} {P : Bf} {C : Addr} {k : Nat}
end
end DL
namespace L2
open PySem PySem.Spec PyProof.Rows Builtin.ObjectAttr
section
variable {prog : Program} {w : World} {A : Around} {E : Value -> Shared -> Prop} {s : Shared} {K : PySem.W.Frag} {x C : Addr} {n : Str} {ox od : Obj} {u : Value}
end
end L2
namespace DL
open PySem PySem.Spec PyProof.Rows L2
section
variable {X : Cx} {ρ : Aj} {O : Ac} {e : Expr} {d : D} {pos : Pos} {f : Str} {C : Addr} {q : Nat} {fs : List (Str × D)}
end
section
variable {P : Program} {w : World} {K : PySem.W.Frag} {mg : Str -> Option Value} {base : Heap} {C : Addr} {k : Nat} {x m : Str} {sp : SpX}
end
end DL
namespace L2
open PySem PySem.Spec PyProof.Rows
theorem T9 {X : Cx} : BT X (binaryOp .Add) (λ x y H Q => ∃ a b ys,x = .ref a /\ y = .ref b /\ Bc X.K H a [] /\ Bc X.K H b ys /\ Q (.ref b) H) := by
 intro pins s σ H x y v u Q I rx ry ⟨a,b,ys,ex,ey,ha,hb,q⟩
 subst ex ey
 cases rx; cases ry
 obtain ⟨i1,r1,p1,_⟩ := I.tuple ha
 obtain ⟨i2,r2,p2,_⟩ := I.tuple hb
 cases r1
 obtain ⟨⟨c1,d1,t1,l1⟩,o1,rfl,n1,rfl⟩ := id p1
 obtain ⟨⟨c2,d2,t2,l2⟩,o2,rfl,n2,rfl⟩ := id p2
 exact concat_meets ⟨_,o1,rfl⟩ ⟨_,o2,rfl⟩ noFill_tuple_add seq_tuple_add PySem.F.slot_tuple_add PySem.F.entry_tuple_add (PySem.F.args_tuple_add_2 _ _) (tuple_addW0 a b _ i2.toArray n1 n2 d1 d2 l1 l2 rfl) ⟨o1,o2,⟨.ref b,H,I,rfl,q⟩⟩
end L2
namespace DL
open PySem PySem.Spec PyProof.Rows L2
section
variable {X : Cx} {O : Ac}
theorem Vo {ys : List D} : Bl X O (binaryOp .Add) (.tup []) (.tup ys) (.tup ys) := .of T9 λ G v u H Q s h1 h2 k => by
 obtain ⟨q1,vs,rfl,g1,r1⟩ := Dy s h1
 have j2 := h2
 obtain ⟨q2,us,rfl,g2,r2⟩ := Dy s h2
 cases r1
 exact ⟨_,_,_,rfl,rfl,g1,g2,k _ G H (Ah.refl _) s j2⟩
theorem Og {xs ys : List D} (hz : xs.length + ys.length <= sizeLine) : Bl X O (binaryOp .Add) (.tup xs) (.tup ys) (.tup (xs ++ ys)) := by
 cases xs with
 | nil => exact Vo
 | cons x r => exact Vp (by simp) hz
end
section
variable {X : Cx} {mk : Prop} {ρ : Aj} {O : Ac} {P : Bf} {RX : XC} {pos : Pos}
end
section
variable {X : Cx} {O : Ac} {da db ea eb : D} {k : Nat} {v : Value}
end
section
variable {X : Cx} {ρ : Aj} {O : Ac} {value o ix : Expr} {P : Bf} {pos tpos : Pos} {q j : Nat} {i : Int} {xs : List D}
end
end DL
namespace L2
open PySem PySem.Spec PyProof.Rows
def Ha (n : Int) : Str := if n = 1 then "0" else ⟨(List.replicate n.toNat (("0" : Str).cps)).foldl (· ++ ·) #[]⟩
end L2
namespace DL
open PySem PySem.Spec PyProof.Rows L2
section
variable {X : Cx} {ρ : Aj} {O : Ac} {a e : Expr} {d : D}
end
section
variable {X : Cx} {ρ : Aj} {O : Ac} {elt tg iter : Expr} {ifs : List Expr} {scope : Scope} {pos : Pos} {xs : List D} {zs : List (Option D)}
end
section
variable {X : Cx} {ρ : Aj} {O : Ac} {P : Bf} {pos : Pos}
variable {α : Type} {ps : List α} {f g : α -> D} {h : α -> Option D} {tg iter elt : Expr} {ifs : List Expr} {scope : Scope}
end
section
variable {P : Program} {w : World} {K : PySem.W.Frag} {mg : Str -> Option Value} {base : Heap}
end
section
variable {prog : Program} {w : World} {A : Around} {E : Value -> Shared -> Prop} {s : Shared}
end
section
variable {X : Cx} {O : Ac}
end
section
variable {X : Cx} {mk : Prop} {ρ : Aj} {O : Ac} {value o : Expr} {RX : XC} {pos pos' : Pos} {f : Str} {P : Bf} {C : Addr} {q : Nat} {fs : List (Str × D)}
end
end DL
namespace DL
open PySem PySem.Spec PyProof.Rows L2 PySem.SeqAt PySem.MeetsSeq
section
variable {X : Cx} {ρ : Aj} {O : Ac} {a e : Expr} {d : D}
end
end DL
namespace DL
open PySem PySem.Spec PyProof.Rows L2 PySem.W
section
variable {prog : Program} {w : World} {A : Around} {s : Shared} {E : Value -> Shared -> Prop} {it : Addr} {Ty : String}
end
section
variable {prog : Program} {w : World} {A : Around} {s : Shared} {E : Value -> Shared -> Prop} {it l : Addr} {i : Int}
end
section
variable {X : Cx} {ρ : Aj} {O : Ac} {a : Expr} {pos p pos2 p2 : Pos} {xs : List D}
end
end DL
namespace L2
open PySem PySem.Spec PyProof.Rows
section
variable {X : Cx} {tg a b c : Expr} {p pos : Pos}
end
end L2
namespace DL
open PySem PySem.Spec PyProof.Rows L2
section
variable {X : Cx} {ρ : Aj} {O : Ac} {a b c : Expr} {p pos : Pos} {P : Bf} {st : Stmt} {rest : List Stmt}
end
section
variable {X : Cx} {ρ : Aj} {O : Ac} {a b e : Expr} {pos : Pos} {P : Bf} {d da db ea eb : D} {k : Nat} {xs : List D}
end
section
variable {X : Cx} {ρ : Aj} {O : Ac} {a b e : Expr} {pos p : Pos} {d : D} {x y : Str}
end
section
variable {X : Cx} {ρ : Aj} {O : Ac} {a b e : Expr} {pos p : Pos} {d : D} {x y sep : Str}
end
section
variable {X : Cx} {ρ : Aj} {O : Ac} {pos : Pos} {x y : Str}
end
end DL
namespace L2
open PySem PySem.Spec PyProof.Rows
section
variable {prog : Program} {w : World} {A : Around} {E : Value -> Shared -> Prop}
end
end L2
namespace DL
open PySem PySem.Spec PyProof.Rows L2
section
variable {X : Cx} {ρ ρ1 : Aj} {O : Ac} {e a b : Expr} {es : List Expr} {d da : D} {ds xs : List D} {R : D -> Ac -> Prop} {P : Bf} {pos p : Pos} {x : Str} {q : Nat} {v : Value}
end
section
variable {X : Cx} {ρ : Aj} {O : Ac} {e a b c : Expr} {d da db y : D} {ks : List AV} {xs : List D} {k : AV} {j q : Nat} {R : D -> Ac -> Prop} {P : Bf} {pos apos cpos tpos : Pos}
end
section
variable {X : Cx} {ρ : Aj} {O : Ac} {a b e : Expr} {pos p : Pos} {d : D} {ks : List AV} {xs : List D}
end
section
variable {X : Cx} {ρ : Aj} {O : Ac} {a b e : Expr} {elts : List Expr} {x1 : Nat} {pos p tp apos cpos : Pos} {d : D} {ks : List AV} {xs : List D}
end
mutual
def sbD (n : Nat) (e : D) : D -> D
 | .ptr m => if m = n then e else .ptr m
 | .tup xs => .tup (Ny n e xs)
 | .non => .non | .bl b => .bl b | .int i => .int i | .str x => .str x | .lst xs => .lst xs | .scr xs => .scr xs | .ty t => .ty t | .fn a => .fn a | .dct ks xs => .dct ks xs
def Ny (n : Nat) (e : D) : List D -> List D
 | [] => []
 | x :: xs => sbD n e x :: Ny n e xs
end
section
variable {X : Cx} {ρ : Aj} {O : Ac} {rest : List Stmt} {P : Bf} {n q : Nat} {ks : List AV} {xs : List D} {d : D} {C : Addr} {fs : List (Str × D)} {f : Str}
end
end DL
namespace DL
open PySem PySem.Spec PyProof.Rows L2 PySem.W
section
variable {prog : Program} {w : World} {A : Around} {s : Shared} {E : Value -> Shared -> Prop} {T : String} {r d : Addr} {n : Nat} {P : Nat -> Value -> Prop} {OK : Heap -> Prop}
end
section
variable {X : Cx} {ρ : Aj} {O : Ac} {a b e : Expr} {pos p apos cpos : Pos} {d da : D} {ks : List AV} {xs : List D} {R : D -> Ac -> Prop}
end
instance : Inhabited Str := ⟨⟨#[]⟩⟩
section
variable {X : Cx} {ρ : Aj} {O : Ac} {e : Expr} {pos p : Pos} {da : D} {ps : List Str} {xs : List D}
end
section
variable {X : Cx} {ρ : Aj} {O : Ac} {a e : Expr} {pos apos cpos : Pos} {q : Nat} {ps : List Str} {x : Str} {P : Bf} {ks : List AV} {xs : List D}
end
section
variable {X : Cx} {ρ : Aj} {O : Ac} {value o : Expr} {pos pos' : Pos} {q : Nat} {C : Addr} {fs : List (Str × D)} {f : Str} {P : Bf}
theorem L1 (hv : Ev X ρ O value λ d O' => Ad X ρ O' o (.ptr q) /\ O'[q]? = some (some (.ins C fs)) /\ P.nx ρ (O'.set q (some (.ins C (A8 f d fs))))) (c : A6 X.K C) (n : As X.K C f) (hz : fs.length < 1000) (hs : swapsWith value (some (.Attribute o f pos')) pos.line X.env = pure false := by rfl) :
  Ex X ρ O (.Assign [.Attribute o f pos'] value pos) P := λ G pins s σ H E I ⟨h1,h2,h3⟩ => by
 refine plainObj_wpAny_Assign_Attribute (Aq (hv G pins s σ H (λ v H1 => ∃ d O1 G1,Ah G G1 /\ SA X.K G1 H1 O1 /\ Is X.K G1 d v /\ Ad X ρ O1 o (.ptr q) /\ O1[q]? = some (some (.ins C fs)) /\ P.nx ρ (O1.set q (some (.ins C (A8 f d fs))))) I ⟨h1,h2,λ v d O' G' H' e s i r => ⟨d,O',G',e,s,i,r⟩⟩) λ u s1 ⟨y,H1,I1,ry,d,O1,G1,e1,sa1,i1,ho,hq,h⟩ =>
  Aq (ho G1 pins s1 σ H1 (λ v H2 => ∃ G2,Ah G1 G2 /\ SA X.K G2 H2 O1 /\ Is X.K G2 (.ptr q) v) I1 ⟨sa1,h2.ext e1,λ v G' H' e s i => ⟨G',e,s,i⟩⟩) λ ov s2 ⟨x,H2,I2,rx,G2,e2,sa2,i2⟩ => ?_) hs
 obtain ⟨a,dx,vs,rfl,g1,g2,g3⟩ := sa2.ins i2 hq
 obtain rfl : ov = Value.ref a := rx
 refine Ni I2 g2 c n (by rw [<- g3.len]; exact hz) ry λ s3 I3 => ⟨σ,_,I3,?_⟩
 exact h3.nx σ ρ _ G2 _ (e1.trans e2) (sa2.put (m' := .ins C (A8 f d fs)) hq g1 ⟨dx,_,Bs,g3.put (i1.ext e2)⟩) (h2.ext (e1.trans e2)) h
end
section
variable {X : Cx} {ρ : Aj} {O : Ac} {e : Expr} {qs : List Str} {xs : List D}
end
section
variable {X : Cx} {ρ : Aj} {O : Ac}
theorem WF {es : List Expr} {R : D -> Ac -> Prop} {x1 : Nat} {pos : Pos} (h : EY X ρ O es λ ds O' => ds.length <= sizeLine /\ R (.tup ds) O') : Ev X ρ O (.Tuple es x1 pos) R := λ G =>
 PE.imp (NS (h G)) λ σ H Q ⟨h1,h2,h3⟩ => ⟨h1,h2,λ vs ds O1 G1 H1 e1 s1 i1 r1 => ⟨by rw [<- i1.length]; exact r1.1,λ p hp => by
  obtain ⟨e2,s2⟩ := s1.laid (o := .tup vs) hp
  exact h3 _ _ _ _ _ (e1.trans e2) s2 (.tup (Bc.of Bs) (i1.ext e2)) r1.2⟩⟩
end
section
variable {X : Cx} {ρ : Aj} {O : Ac} {a : Expr} {pos apos cpos : Pos} {q : Nat} {ks : List AV} {xs : List D} {P : Bf}
end
end DL
namespace L2
open PySem PySem.Spec PyProof.Rows
end L2
namespace DL
open PySem PySem.Spec PyProof.Rows L2
end DL
namespace DL
open PySem PySem.Spec PyProof.Rows L2 PySem.W
section
variable {X : Cx} {O : Ac} {da db ea : D} {k : Nat} {xs : List D}
end
section
variable {X : Cx} {ρ : Aj} {O : Ac} {a e : Expr} {pos apos cpos : Pos} {q : Nat} {xs : List D} {P : Bf}
theorem Qo (ho : Ad X ρ O a (.ptr q)) (he : Ev X ρ O e λ d O' => O'[q]? = some (some (.lst xs)) /\ P.nx ρ (O'.set q (some (.lst (xs ++ [d]))))) (hq : O[q]? = some (some (.lst xs))) (hz : xs.length < sizeLine)
  (hbase : attributeBase a ("append" : Str) X.env (eval a X.env) = eval a X.env := by rfl) (hline : (apos.endLine == cpos.line) = true := by rfl) (hst : starEach [e] X.env = [(false,eval e X.env)] := by rfl)
  (hsw : swapsWith (.Call (.Attribute a ("append" : Str) apos) [e] [] cpos) none pos.line X.env = pure false := by rfl) : Ex X ρ O (.Expr (.Call (.Attribute a ("append" : Str) apos) [e] [] cpos) pos) P := λ G =>
 PS.imp (KK (N0 PySem.F.plainAttrs_list PySem.F.slot_list_append PySem.F.type_list_append Op (ho G)
  (FY (te := λ σ H Q => ∃ G1,SA X.K G1 H O /\ AB X.K G1 σ ρ /\ ∀ v d O' G' H',Ah G1 G' -> SA X.K G' H' O' -> Is X.K G' d v -> (O'[q]? = some (some (.lst xs)) /\ P.nx ρ (O'.set q (some (.lst (xs ++ [d]))))) -> Q v H') (λ pins s σ H Q I ⟨G1,q⟩ => he G1 pins s σ H Q I q) HL hst) hbase
  (by rw [hst]; rfl) hline hst (by rfl)) hsw) λ E σ H ⟨q1,q2,q3⟩ => ⟨q1,q2,λ v G1 H1 e1 s1 i1 => by
   cases i1 with
   | ptr _ ha =>
   obtain ⟨a1,g0,g1,vs,g2,g3⟩ := s1.mt q _ hq
   obtain rfl := Option.some.inj (ha.symm.trans g0)
   refine ⟨.inl ⟨rfl,vs,Be.of g2⟩,G1,s1,q2.ext e1,λ w d O' G2 H2 e2 s2 i2 ⟨hq2,h⟩ => ?_⟩
   obtain ⟨a2,g7,g4,us,g5,g6⟩ := s2.mt q _ hq2
   obtain rfl := Option.some.inj ((e2.at g0).symm.trans g7)
   refine ⟨_,us,w,rfl,rfl,g5,by rw [<- g6.length]; exact hz,?_⟩
   exact q3.nx σ ρ _ G2 _ (e1.trans e2) (s2.put (m' := .lst (xs ++ [d])) hq2 g7 ⟨_,Bs,g6.append (.cons i2 .nil)⟩) (q2.ext (e1.trans e2)) h⟩
end
section
variable {X : Cx} {ρ : Aj} {O : Ac} {e a b c : Expr} {body : List Stmt} {d da db : D} {xs : List D} {ks : List AV} {ps : List Str} {R : D -> Ac -> Prop} {P : Bf} {pos p : Pos} {j n : Nat}
end
section
variable {X : Cx} {ρ : Aj} {O : Ac} {e a b c iter tg : Expr} {st : Stmt} {body rest : List Stmt} {d da db : D} {xs : List D} {ks : List AV} {k : AV} {ob : Obj} {vs : List V} {ps : List Str} {R : D -> Ac -> Prop} {P : Bf} {pos p : Pos} {j n : Nat}
end
section
variable {X : Cx} {O : Ac} {da db : D} {ks : List AV} {ns : List Int} {j : Nat}
end
section
variable {X : Cx} {ρ : Aj} {O : Ac} {a : Expr} {da : D} {xs : List D} {ks : List AV} {pos : Pos}
end
mutual
def ndD : D -> Bool
 | .dct _ _ => false
 | .tup xs => HS xs
 | .lst xs => HS xs
 | .scr xs => HS xs
 | .non => true | .bl _ => true | .int _ => true | .str _ => true | .ptr _ => true | .ty _ => true | .fn _ => true
def HS : List D -> Bool
 | [] => true
 | x :: xs => ndD x && HS xs
end
section
variable {K : PySem.W.Frag} {G : Wd} {p : Addr} {ob : Obj} {kvs : List (AV × V)}
end
section
variable {X : Cx} {ρ : Aj} {O : Ac} {e a b : Expr} {d d0 : D} {xs : List D} {ks : List AV} {k : AV} {R : D -> Ac -> Prop} {pos : Pos} {n : Nat}
end
section
variable {X : Cx} {ρ : Aj} {O : Ac} {a b : Expr} {d da db : D} {ks : List AV} {k : AV} {ns : List Int} {R : D -> Ac -> Prop} {pos : Pos} {j : Nat}
end
section
variable {X : Cx} {ρ : Aj} {O : Ac} {e a b : Expr} {d : D} {xs : List D} {ks : List AV} {R : D -> Ac -> Prop} {RT : Bool -> Ac -> Prop} {pos : Pos} {n : Nat}
end
end DL
namespace L2
open PySem PySem.Spec PyProof.Rows
section
variable {M : Model} {A : Around} {E : Value -> Shared -> Prop} {s : Shared} {B : Heap} {l : List Env} {a : Addr} {cls a0 : Value}
end
section
variable {CX : C7} {P : Program} {w : World} {K : PySem.W.Frag} {mg : Str -> Option Value} {base : Heap} {N : List Str} {qual : Str} {scope : Scope} {f : Addr} {cd : Value} {A : Around} {outer : List Env} {s : Shared} {H : Hp} {E : XK}
end
end L2
namespace DL
open PySem PySem.Spec PyProof.Rows L2
section
variable {X : Cx} {N : List Str} {scope : Scope} {s2 s9 s10 : Shared} {H2 H9 H' : Hp} {fp : List Addr} {F : Value -> Shared -> Prop} {pins pinsY : List (Addr × Obj)} {σ σ9 : L2.St} {a C : Addr} {od : Option Addr} {B : Heap} {Q : Value -> Shared -> Prop} {acc : Value}
end
section
variable {X : Cx} {ρ : Aj} {O : Ac} {elt tg iter : Expr} {scope : Scope} {pos : Pos} {xs zs : List D} {RX : XC}
end
section
variable {X : Cx} {ρ : Aj} {O : Ac} {e c elt tg iter : Expr} {scope : Scope} {pos p : Pos} {xs : List D} {RX : XC} {st : Stmt} {rest body orelse : List Stmt} {P : Bf} {R : D -> Ac -> Prop}
end
section
variable {P : Program} {w : World} {K : PySem.W.Frag} {mg : Str -> Option Value} {base : Heap}
end
section
variable {prog : Program} {w : World} {A : Around} {E : Value -> Shared -> Prop} {s : Shared}
end
section
variable {X : Cx} {O : Ac} {d : D} {q : Nat} {C ah : Addr} {fs : List (Str × D)}
end
end DL
namespace L2
open PySem PySem.Spec PyProof.Rows
end L2
namespace DL
open PySem PySem.Spec PyProof.Rows L2
section
variable {X : Cx} {ρ : Aj} {O : Ac} {a b a2 b2 : Expr} {d d2 : D} {k k2 : AV} {R : D -> Ac -> Prop} {pos : Pos}
end
end DL
namespace DL
open PySem PySem.Spec PyProof.Rows L2 PySem.W
section
open PySem.AutoSeq1 (wpAny_loadPart')
open PySem.SeqAt PySem.MeetsSeq PySem.MeetsSeq2 PySem.MeetsSeq3 PySem.SeqRoads2
end
section
variable {X : Cx} {ρ : Aj} {O : Ac} {da db : D} {ks : List AV} {ns : List Int} {j : Nat} {ts : List D}
end
end DL
namespace DL
open PySem PySem.Spec PyProof.Rows L2
section
variable {X : Cx} {ρ : Aj} {O : Ac} {da ea : D} {xs : List D} {k : Nat} {es : List Expr} {R : D -> Ac -> Prop} {pos : Pos}
end
section
variable {P : Program} {w : World} {K : PySem.W.Frag} {mg : Str -> Option Value} {base : Heap} {C : Addr} {j k : Nat} {x m : Str} {sp sp' : AQ}
theorem Ai.mono (M : Ai P w K mg base C j m sp) (h : j <= k) : Ai P w K mg base C k m sp := let ⟨f,fd,ps,h1,h2⟩ := M.ex; ⟨⟨f,fd,ps,h1.mono h,h2⟩,M.cls⟩
end
section
variable {X : Cx} {mk : Prop} {ρ : Aj} {O : Ac} {x y : Str} {f : Addr} {p pos : Pos} {e : Expr} {es : List Expr} {ds : List D} {R : D -> Ac -> Prop} {RX : XC}
end
end DL
set_option maxHeartbeats 2000000
namespace DL
open PySem PySem.Spec PyProof.Rows L2 PySem.W
section
variable {prog : Program} {w : World} {A : Around} {E : Value -> Shared -> Prop} {s : Shared} {n l1 l2 l3 i1 i2 i3 : Nat} {k1 k2 k3 : Bool} {xs ys zs : Array Value} {f0 f1 a b c v : Value}
end
section
variable {prog : Program} {w : World} {A : Around} {E : Value -> Shared -> Prop} {s : Shared} {n l1 l2 l3 i1 i2 i3 i : Nat} {k1 k2 k3 : Bool} {xs ys zs : Array Value} {f0 f1 a b c v : Value}
end
section
variable {X : Cx} {ρ : Aj} {O : Ac} {a b c : Expr} {da db dc : D} {pos p : Pos} {xs ys zs : List D}
end
end DL
set_option maxHeartbeats 1000000
namespace DL
open PySem PySem.Spec PyProof.Rows L2
section
variable {X : Cx} {ρ : Aj} {O : Ac} {elt tg iter : Expr} {scope : Scope} {pos : Pos} {xs zs : List D}
theorem Xy (S : Nat -> Ac) (hS0 : S 0 = O) (N : List Str) (js : List Nat) (ρ0 : Aj) (hi : Cn X ρ O tg iter xs) (hc : X.calm = true) (hk : scope.kind = .function) (hfr : IR X scope) (hnm : ∀ x ∈ scope.names,x.2 = .local -> scope.names.lookup x.1 = some .local)
    (hl0 : ρ0.length = N.length)
    (h0 : ∀ (i : Nat) (d : D),ρ0[i]? = some (some d) -> ∃ (x : Str) (j : Nat),N[i]? = some x /\ scope.names.lookup x = some .free /\ (∀ y ∈ scope.names,y.1 = x -> y.2 ≠ .cell) /\ X.N[j]? = some x /\ ρ[j]? = some (some d) /\ Es X.env.scope x)
    (hzl : zs.length = xs.length) (hsz : xs.length <= sizeLine)
    (turn : ∀ (s : Shared) (H : Hp) (fp : List Addr) (i : Nat) (x : D) (z : D),xs[i]? = some x -> zs[i]? = some z -> ∃ ρ1,Tg (Dr X N scope s H fp) tg x ρ0 ρ1 /\ ρ1.length = ρ0.length /\ (∀ (j : Nat) (d : D),ρ0[j]? = some (some d) -> ρ1[j]? = some (some d)) /\ Ev (Dr X N scope s H fp) ρ1 (S i) elt λ d O' => d = z /\ O' = S (i + 1))
    {use : Option (Value -> Sem Unit)} {pins : List (Addr × Obj)} {s : Shared} {σ : L2.St} {H : Hp} {G : Wd} {Q : Value -> Shared -> Prop} (I : L2.Inv X pins σ H s) (sa : SA X.K G H O) (en : AB X.K G σ ρ)
    (fin : ∀ (D C : Addr) (s' : Shared) (H5 : Hp) (G5 : Wd) (vs : List V),L2.Inv X pins σ (AL H5 D (.lst vs)) s' -> Ah G G5 -> SA X.K G5 H5 (S xs.length) -> H5 D = none -> Al X.K G5 zs vs -> Cg X pins (AL H5 D (.lst vs)) C -> (∃ m,s'.heap.Ns C m) -> compPost (model X.prog X.w) X.A X.xe use Q (.ref D) C (.ok .next) s')
    (hs : ∀ x,foldedSetIterable iter X.env x = pure x := by intro _; rfl) :
    wpAny (model X.prog X.w) X.A (comprehension (.ListComp elt [⟨tg,iter,[],0⟩] scope pos) scope X.env (firstIterPos [⟨tg,iter,[],0⟩] pos) (newList []) false (eval iter X.env) use) Q X.xe s := by
  refine wpAny_comprehension_free rfl hs (Pu λ y hy e => I.ok.has _ (hfr y hy e)) hk hnm (Aq (hi G pins s σ H (λ J H1 => ∃ G1,Ah G G1 /\ SA X.K G1 H1 O /\ Dt X.K G1 J xs) I ⟨sa,en,λ J G1 H1 e1 s1 y1 => ⟨G1,e1,s1,y1⟩⟩) λ v s1 h1 => Aq h1 λ itv s2 h2 => ?_)
  obtain ⟨it,fp,tn,J,H2,e,I2,T,st2,f2,G2,e2,sa2,Yi⟩ := h2
  subst e
  have ho2 : ∀ b ∈ fp,∃ o,s2.heap.get? b = some o := λ b hb => let ⟨o,q,_⟩ := T.obj 0 _ st2 b hb; ⟨o,q⟩
  have hlt : ∀ b ∈ fp,b < s2.heap.objs.size := λ b hb => let ⟨o,q⟩ := ho2 b hb; Heap.lt_size q
  unfold newList
  refine wpAny_newObj_type (Om λ bb hbb => ?_)
  have hbb' : bb = X.env.builtins := hbb
  subst hbb'
  have hz1 : (s2.heap.push { cls := .type "list",dict := none,data := .seq ([] : List Value).toArray }).objs.size = s2.heap.objs.size + 1 := Heap.size_push ..
  dsimp only
  rw [hz1]
  generalize hD : s2.heap.objs.size = dd at hz1 ⊢
  -- the block's own context
  have en2 : AB X.K G2 σ ρ := en.ext e2
  obtain ⟨σ0,hσl,hσ0⟩ := Le (λ i (o : Option V) => (∀ d,ρ0[i]? = some (some d) -> ∃ v,o = some v /\ Is X.K G2 d v) /\ ∀ v,o = some v -> ∃ (x : Str) (j : Nat),N[i]? = some x /\ scope.names.lookup x = some .free /\ (∀ y ∈ scope.names,y.1 = x -> y.2 ≠ .cell) /\ X.N[j]? = some x /\ σ[j]? = some (some v) /\ Es X.env.scope x) N.length (λ i hi => by
    cases q : ρ0[i]? with
    | none => exact ⟨none,And.intro (λ d z => nomatch z) (λ v z => nomatch z)⟩
    | some o =>
      cases o with
      | none => exact ⟨none,And.intro (λ d z => nomatch z) (λ v z => nomatch z)⟩
      | some d =>
        obtain ⟨x,j,q1,q2,q3,q4,q5,q6⟩ := h0 i d q
        obtain ⟨v,q7,q8⟩ := en2.get j d q5
        exact ⟨some v,And.intro (λ d' z => by cases z; exact ⟨v,rfl,q8⟩) (λ v' z => by cases z; exact ⟨x,j,q1,q2,q3,q4,q7,q6⟩)⟩)
  have en0 : AB X.K G2 σ0 ρ0 := ⟨hσl.trans hl0.symm,λ i d e => by
    have hi : i < σ0.length := by rw [hσl,<- hl0]; exact (List.getElem?_eq_some_iff.mp e).1
    obtain ⟨v,e1,e2⟩ := (hσ0 i σ0[i] (List.getElem?_eq_getElem hi)).1 d e
    exact ⟨v,by rw [List.getElem?_eq_getElem hi,e1],e2⟩⟩
  have I3 := OJ (N := N) (scope := scope) (fp := fp) (σ0 := σ0) I2 f2 ho2 hk hfr hσl (λ i v e => (hσ0 i _ e).2 v rfl) s2.toks { cls := .type "list",dict := none,data := .seq ([] : List Value).toArray }
  generalize hY : Dr X N scope s2 H2 fp = Y at I3
  have hD1 : (pushCells ((s2.heap.push { cls := .type "list",dict := none,data := .seq ([] : List Value).toArray }).push { cls := .type "dict",data := .dict #[] }) scope.names).get? dd = some (BF []) := by
    refine pushCells_keeps _ _ _ _ (Heap.get?_push_of_some _ ?_)
    rw [<- hD]
    exact Heap.get?_push_size _ rfl
  have hHD : H2 dd = none := I2.hok.fresh (by rw [hD]; exact Nat.le_refl _)
  have hsD : s2.heap.get? dd = none := Heap.get?_none_of_le (by rw [hD]; exact Nat.le_refl _)
  have hDC : dd ≠ Y.env.locals := by
    rw [<- hY]; show dd ≠ s2.heap.objs.size + 1; rw [hD]; exact Nat.ne_of_lt (Nat.lt_succ_self _)
  have hfs : ∀ b ∈ CG X.stack,b < s2.heap.objs.size := λ b hb => by
    rcases List.mem_cons.mp (I2.stkSub b hb) with q | q
    · rw [q]; exact I2.lt
    · exact Nat.lt_of_not_le λ z => I2.nofs z q
  have hYfs : Y.fs = CG X.stack := by rw [<- hY]; rfl
  have hDfs : dd ∉ Y.fs := λ z => by rw [hYfs] at z; have := hfs dd z; rw [hD] at this; exact Nat.lt_irrefl _ this
  have hYex : Y.ex = fp := by rw [<- hY]; rfl
  have hYpn : Y.pn = [] := by rw [<- hY]; rfl
  have hYxe : Y.xe = λ _ _ => False := by rw [<- hY]; rfl
  have hYs : Y.s₀.heap.objs.size = dd := by rw [<- hY]; exact hD
  have hYc : ∀ x c,Y.env.cells.lookup x = some c -> c ≠ dd /\ ∀ b ∈ fp,c ≠ b := λ x c e => by
    refine ⟨?_,λ b hb => ?_⟩
    · intro z
      subst z
      obtain ⟨v,o,q1,q2⟩ := I3.cell x c e
      rw [hD1] at q1; cases q1; cases q2
    · have := I3.ok.exf b (by rw [hYex]; exact hb)
      exact this.2 x c e
  have fpY : ∀ {H' : Hp} {pl : List (Addr × Obj)},(∀ b ∈ fp,H' b = none) -> (∀ p ∈ pl,p.1 = dd) -> ∀ b ∈ fp,Cg Y pl H' b := λ hn hp b hb => ⟨hn b hb,(I3.ok.exf b (by rw [hYex]; exact hb)).1,I3.ok.exfs b (by rw [hYex]; exact hb),.inl (by rw [hYex]; exact hb),λ x c e => (hYc x c e).2 b hb,λ p hq => by
    rw [hYpn,List.nil_append] at hq
    rw [hp p hq]
    exact Nat.ne_of_gt (by rw [<- hD]; exact hlt b hb)⟩
  have I4 : L2.Inv Y [(dd,BF [])] σ0 H2 { s2 with heap := pushCells ((s2.heap.push { cls := .type "list",dict := none,data := .seq ([] : List Value).toArray }).push { cls := .type "dict",data := .dict #[] }) scope.names,toks := s2.toks } := I3.pins_of λ p hp => by
    rw [List.mem_singleton.mp hp]
    exact ⟨hD1,hHD,hDC,hDfs,λ v z => by cases z⟩
  have st4 : tn 0 (pushCells ((s2.heap.push { cls := .type "list",dict := none,data := .seq ([] : List Value).toArray }).push { cls := .type "dict",data := .dict #[] }) scope.names) := T.keep 0 _ _ st2 λ b hb o e => pushCells_keeps _ _ b o (Heap.get?_push_of_some _ (Heap.get?_push_of_some _ e))
  have hYp : Y.prog = X.prog := by rw [<- hY]; rfl
  have hYw : Y.w = X.w := by rw [<- hY]; rfl
  have hYK : Y.K = X.K := by rw [<- hY]; rfl
  have hYA : Y.A = X.A := by rw [<- hY]; rfl
  have hYcm : Y.calm = true := by rw [<- hY]; exact hc
  have loop : ∀ s3 : Shared,s3 = { s2 with heap := pushCells ((s2.heap.push { cls := .type "list",dict := none,data := .seq ([] : List Value).toArray }).push { cls := .type "dict",data := .dict #[] }) scope.names } ->
      codeAny (model X.prog X.w) X.A (.compLoop (.ListComp elt [⟨tg,iter,[],0⟩] scope pos) 0 (.ref it) (.ref dd) Y.env) (compPost (model X.prog X.w) X.A X.xe use Q (.ref dd) (dd + 1)) s3 := by
    rintro s3 rfl
    refine Pq (λ n s' => ∃ (i : Nat) (G' : Wd) (σ' : L2.St) (H' : Hp) (vs : List V) (its : List Value),n = xs.length - i /\ i <= xs.length /\ L2.Inv Y [(dd,BF its)] σ' H' s' /\ tn i s'.heap /\ (∀ b ∈ fp,H' b = none) /\ Ah G2 G' /\ SA X.K G' H' (S i) /\ AB X.K G' σ' ρ0 /\
      Al X.K G' (zs.take i) vs /\ Az vs its /\ its.length <= i) ?_ xs.length _ ⟨0,G2,σ0,H2,[],[],rfl,Nat.zero_le _,I4,st4,λ b hb => (f2 b hb).1,Ah.refl _,hS0 ▸ sa2,en0,.nil,.nil,Nat.le_refl _⟩
    rintro n s5 F ⟨i,G5,σ5,H5,vs,its,rfl,hil,I5,st5,fr5,e5,sa5,en5,is5,va5,hl5⟩
    by_cases hlt5 : i < xs.length
    · have hx : xs[i]? = some xs[i] := List.getElem?_eq_getElem hlt5
      have hzi : i < zs.length := by omega
      have hz : zs[i]? = some zs[i] := List.getElem?_eq_getElem hzi
      generalize xs[i] = x at hx
      generalize zs[i] = z at hz
      have it5 := T.item Y hYp hYw hYK hYcm i [(dd,BF its)] s5 σ5 H5 F I5 (fpY fr5 (λ p hp => by rw [List.mem_singleton.mp hp])) st5 (Yi.go i H5 (e5.g.trans sa5.sub) hlt5)
      rw [hYA] at it5
      refine Aq it5 λ r s6 ⟨u,hr,h6⟩ => ?_
      subst hr
      refine Aq h6 λ _ s7 ⟨xv,H7,I7,r7,y7,st7,fr7⟩ => ?_
      obtain ⟨x',G7,hx',e7,sa7,ix⟩ := Yi.yld i xv H5 H7 G5 (S i) e5 sa5 y7 hlt5
      have : x' = x := Option.some.inj (hx'.symm.trans hx)
      subst this
      have I7' := I7.pinned (fpY fr7 (λ p hp => by rw [List.mem_singleton.mp hp])) (T.obj _ _ st7)
      obtain ⟨ρ1,tg1,hl1,hs1,kp1⟩ := turn s2 H2 fp i x' z hx hz
      rw [hY] at tg1 kp1
      have xeF : ∀ {α : Type} {t : Sem α} {P : α -> Shared -> Prop} {q : Shared},wpAny (model Y.prog Y.w) Y.A t P Y.xe q -> wpAny (model X.prog X.w) X.A t P F q := λ h => by
        rw [hYp,hYw,hYA,hYxe] at h
        exact wpAny_mono h (λ _ _ q => q) λ _ _ q => q.elim
      refine Aq (xeF (tg1 G7 _ s7 σ5 H7 xv u (λ σ' H' => AB X.K G7 σ' ρ1 /\ H' = H7) I7' r7 (by
        rw [hYK]
        exact ⟨ix,sa7.sub,en5.ext e7,λ σ' q => ⟨q,rfl⟩⟩))) λ _ s8 ⟨σ8,H8,I8,en8,hH8⟩ => ?_
      subst hH8
      -- back to the invariant,with or without one more
      have again : ∀ {s9 : Shared} {H9 : Hp} {G9 : Wd} {its' : List Value} {vs' : List V},L2.Inv Y ((dd,BF its') :: C3 fp s7.heap) σ8 H9 s9 -> Ah G7 G9 -> SA X.K G9 H9 (S (i + 1)) -> Al X.K G9 (zs.take (i + 1)) vs' -> Az vs' its' -> its'.length <= i + 1 ->
          ∃ m,m < xs.length - i /\ ∃ (i : Nat) (G' : Wd) (σ' : L2.St) (H' : Hp) (vs : List V) (its : List Value),m = xs.length - i /\ i <= xs.length /\ L2.Inv Y [(dd,BF its)] σ' H' s9 /\ tn i s9.heap /\ (∀ b ∈ fp,H' b = none) /\ Ah G2 G' /\ SA X.K G' H' (S i) /\ AB X.K G' σ' ρ0 /\
            Al X.K G' (zs.take i) vs /\ Az vs its /\ its.length <= i := λ {s9 H9 G9 its' vs'} I9 e9 sa9 is9 va9 hl9 => by
        refine ⟨xs.length - (i + 1),by omega,i + 1,G9,σ8,H9,vs',its',rfl,hlt5,I9.pins_of (λ p hp => I9.pin p (by rw [hYpn,List.nil_append]; rw [List.mem_singleton.mp hp]; exact List.mem_cons_self)),T.keep _ _ _ st7 λ b hb o e => (I9.pin (b,o) (by rw [hYpn,List.nil_append]; exact List.mem_cons_of_mem _ (F3 hb e))).1,λ b hb => ?_,(e5.trans e7).trans e9,sa9,(en8.weak hl1.symm hs1).ext e9,is9,va9,hl9⟩
        obtain ⟨o,e,_⟩ := T.obj _ _ st7 b hb
        exact (I9.pin (b,o) (by rw [hYpn,List.nil_append]; exact List.mem_cons_of_mem _ (F3 hb e))).2.1
      have more : ∀ {s9 : Shared} {G9 : Wd} {H9 : Hp},L2.Inv Y ([(dd,BF its)] ++ C3 fp s7.heap) σ8 H9 s9 -> Ah G7 G9 -> SA X.K G9 H9 (S i) -> Ev Y ρ1 (S i) elt (λ d O' => d = z /\ O' = S (i + 1)) -> wpAny (model X.prog X.w) X.A (eval elt Y.env) (λ x s5 => wpAny (model X.prog X.w) X.A (call (.builtin "list.append") [.ref dd,x]) (λ _ s6 => ∃ m,m < xs.length - i /\ ∃ (i : Nat) (G' : Wd) (σ' : L2.St) (H' : Hp) (vs : List V) (its : List Value),m = xs.length - i /\ i <= xs.length /\ L2.Inv Y [(dd,BF its)] σ' H' s6 /\ tn i s6.heap /\ (∀ b ∈ fp,H' b = none) /\ Ah G2 G' /\ SA X.K G' H' (S i) /\ AB X.K G' σ' ρ0 /\
            Al X.K G' (zs.take i) vs /\ Az vs its /\ its.length <= i) F s5) F s9 := λ {s9 G9 H9} I9 e9 sa9 ev => by
        refine Aq (xeF (ev G9 _ s9 σ8 H9 (λ v H' => ∃ G',Ah G9 G' /\ SA X.K G' H' (S (i + 1)) /\ Is X.K G' z v) I9 (by
          rw [hYK]
          exact ⟨sa9,en8.ext e9,λ v d O' G' H' q1 q2 q3 q4 => by obtain ⟨rfl,rfl⟩ := q4; exact ⟨G',q1,q2,q3⟩⟩))) λ uy s10 ⟨vy,H10,I10,r10,G10,e10,sa10,iy⟩ => ?_
        have p10 := I10.pin (dd,BF its) (by rw [hYpn,List.nil_append]; exact List.mem_append_left _ List.mem_cons_self)
        refine append_at (hsz := by show its.toArray.size <= sizeLine; rw [List.size_toArray]; omega) p10.1 λ h' hs' hD' => ?_
        have Ia : L2.Inv Y (C3 fp s7.heap) σ8 H10 s10 := I10.pins_of λ p hp => I10.pin p (by rw [hYpn,List.nil_append]; exact List.mem_append_right _ hp)
        have Ib : L2.Inv Y (C3 fp s7.heap) σ8 H10 { s10 with heap := h' } := Ia.turned (t' := s10.toks) (λ b o hb e => (hs'.2 b hb).trans e) p10.2.1 hDC (.inr (by rw [hYs]; exact Nat.le_refl _)) (λ x c e => (hYc x c e).1) (λ p hp => by
          rw [hYpn,List.nil_append] at hp
          obtain ⟨hb,_⟩ := KR hp
          exact Nat.ne_of_lt (by rw [<- hD]; exact hlt p.1 hb))
        have Ic : L2.Inv Y ((dd,BF (its ++ [uy])) :: C3 fp s7.heap) σ8 H10 { s10 with heap := h' } := Ib.pins_of λ p hp => by
          rcases List.mem_cons.mp hp with q | q
          · rw [q]
            refine ⟨hD'.trans ?_,p10.2.1,hDC,hDfs,λ v z => by cases z⟩
            congr 1
            simp [BF]
          · exact Ib.pin p (by rw [hYpn,List.nil_append]; exact q)
        refine again Ic (e9.trans e10) sa10 (vs' := vs ++ [vy]) ?_ (va5.append (.cons r10 .nil)) (by rw [List.length_append,List.length_singleton]; omega)
        rw [List.take_succ,hz]
        exact (is5.ext ((e7.trans e9).trans e10)).append (.cons iy .nil)
      unfold compTests
      refine wpAny_bind (wpAny_tests_nil (wpAny_pure ?_))
      simp only [if_true]
      exact more I8 (Ah.refl _) sa7 kp1
    · have hie : i = xs.length := by omega
      subst hie
      have dn := T.done Y hYp hYw hYK hYcm xs.length [(dd,BF its)] s5 σ5 H5 F I5 (fpY fr5 (λ p hp => by rw [List.mem_singleton.mp hp])) st5 (Yi.stop _ H5 (e5.g.trans sa5.sub) (Nat.le_refl _))
      rw [hYA] at dn
      refine Aq dn λ r s6 ⟨hr,I6⟩ => ?_
      subst hr
      have p6 := I6.pin (dd,BF its) (by rw [hYpn,List.nil_append]; exact List.mem_cons_self)
      rw [<- hzl,List.take_length] at is5
      have vl : vs.length <= sizeLine := by rw [va5.length]; omega
      have Ix : L2.Inv X pins σ (AL H5 dd (.lst vs)) s6 := by
        have un := I6.base
        rw [hYfs,hYex,<- hY] at un
        have un : Un (CG X.stack) fp H2 H5 s2.heap s6.heap := un
        refine I2.call' (ch := fp) (I6.os.trans (by rw [<- hY]; rfl)) (P0 un hHD hsD) ?_ I6.bare λ b hb => ?_
        · have hk6 := I6.hok
          rw [hYp,hYw] at hk6
          exact LP hk6 p6.2.1 ⟨vl,its,its.length,va5,p6.1⟩
        · obtain ⟨_,f1,_,f3,f4,f5⟩ := f2 b hb
          exact ⟨f3,f1,f4,f5⟩
      refine fin dd (dd + 1) s6 _ _ vs Ix (e2.trans e5) sa5 p6.2.1 is5 ?_ ?_
      · have hC : dd + 1 = Y.env.locals := by rw [<- hY]; show dd + 1 = s2.heap.objs.size + 1; rw [hD]
        have ge : s2.heap.objs.size <= dd + 1 := by rw [hD]; exact Nat.le_succ _
        have := I2.fpOk (H' := AL H5 dd (.lst vs)) ge (by
          have q := I6.free
          rw [<- hC] at q
          rw [A4 (show dd + 1 ≠ dd from Nat.succ_ne_self _)]
          exact q)
        exact this
      · obtain ⟨m,hn,_⟩ := I6.loc
        rw [<- hY] at hn
        have hn : s6.heap.Ns (s2.heap.objs.size + 1) m := hn
        rw [hD] at hn
        exact ⟨m,hn⟩
  have eY : Y.env = { scope := relabel scope X.env,locals := dd + 1,globals := X.env.globals,cells := cellsFrom (dd + 1 + 1) scope.names (CP X.env scope.names []),qual := X.env.qual,func := none,code := X.env.code,frame := X.env.frame,builtins := X.env.builtins } := by
    rw [<- hY]
    show compEnvC _ _ _ _ = _
    rw [hD]
    rfl
  rw [<- eY]
  exact codeAny_compStart_list (loop _ rfl) (T.self X.A 0 _ _ _ st4 (loop _ rfl))
def Qa (X : Cx) (T F : List Str) (js : List Nat) (ρ : Aj) (Oa Ob : Ac) (scope : Scope) (tg elt : Expr) (x z : D) : Prop :=
 ∀ (s : Shared) (H : Hp) (fp : List Addr),∃ ts : Aj,ts.length = T.length /\ Tg (Dr X (T ++ F) scope s H fp) tg x (T.map (λ _ => (none : Option D)) ++ CI ρ js) (ts ++ CI ρ js) /\ Ev (Dr X (T ++ F) scope s H fp) (ts ++ CI ρ js) Oa elt λ d O' => d = z /\ O' = Ob
theorem WT {R : D -> Ac -> Prop} (S : Nat -> Ac) (hS0 : S 0 = O) (T F : List Str) (js : List Nat) (hi : Cn X ρ O tg iter xs) (hzl : zs.length = xs.length) (hsz : xs.length <= sizeLine) (turn : ∀ (i : Nat) (x z : D),xs[i]? = some x -> zs[i]? = some z -> Qa X T F js ρ (S i) (S (i + 1)) scope tg elt x z) (hR : R (.lst zs) (S xs.length))
  (hfl : F.length = js.length) (hB : C4 X.N X.env.scope.names scope.names F js = true) (hc : X.calm = true) (hk : scope.kind = .function) (hs : ∀ x,foldedSetIterable iter X.env x = pure x) :
  Ev X ρ O (.ListComp elt [⟨tg,iter,[],0⟩] scope pos) R := λ G pins s σ H Q I ⟨h1,h2,h3⟩ => by
 rw [eval_ListComp]
 refine Xy S hS0 (T ++ F) js (T.map (λ _ => (none : Option D)) ++ CI ρ js) hi hc hk (K9 hB) (K8 hB) (by simp [CI,hfl]) (La hB) hzl hsz (λ s H fp i x z q1 q2 => ?_) I h1 h2 (λ dd C s' H5 G5 vs I' e' sa5 hd5 is5 fo ns => ?_) hs
 ·obtain ⟨ts,t1,t2,t3⟩ := turn i x z q1 q2 s H fp
  obtain ⟨u1,u2⟩ := Jf (fr := CI ρ js) t1
  exact ⟨_,t2,u1,u2,t3⟩
 ·obtain ⟨m,hn⟩ := ns
  refine ⟨m,hn,λ h' hs' => ?_⟩
  obtain ⟨f0,f1,f2,f3,f4,f5⟩ := fo
  obtain ⟨e2,s2⟩ := sa5.laid (o := .lst vs) hd5
  exact ⟨.ref dd,AL H5 dd (.lst vs),I'.turned (t' := s'.toks) (λ b o hb e => (hs'.2 b hb).trans e) f0 f1 f3 f4 f5,rfl,h3 _ _ _ _ _ (e'.trans e2) s2 (.lst Bs (is5.ext e2)) hR⟩
end
section
variable {X : Cx} {ρ : Aj} {O : Ac} {e : Expr} {es : List Expr} {R : D -> Ac -> Prop} {x : Str} {p pos : Pos}
theorem Ir {T : String} (hm : X.mg x = none) (ha : EY X ρ O (e :: es) λ ds O1 => ∃ d,B4 X O1 (.type T) ds d /\ R d O1) (hg : Gl X x := by rfl) (hv : bootBuiltins x = some (.type T) := by first | rfl | decide +kernel) (hn : x ≠ "__name__" := by decide) (hdb : (x == ("__debug__" : Str)) = false := by decide)
  (he : starEach (e :: es) X.env = (false,eval e X.env) :: starEach es X.env := by rfl) (hpl : (backTo pos (starEach es X.env)).any (·.1) = false := by rfl) : Ev X ρ O (.Call (.Name x p) (e :: es) [] pos) R := λ G =>
 PE.imp (NX (r := λ vs H Q => ∃ G1 O1 ds d,SA X.K G1 H O1 /\ Al X.K G1 ds vs /\ B4 X O1 (.type T) ds d /\ ∀ w G' H',Ah G1 G' -> SA X.K G' H' O1 -> Is X.K G' d w -> Q w H') (λ pins s σ H xs us Q I r ⟨G1,O1,ds,d,q1,q2,hc,q3⟩ => hc G1 pins s σ H xs us Q I r ⟨q1,q2,q3⟩) hg hm hv (ha G) hn hdb he hpl)
  λ σ H Q ⟨h1,h2,h3⟩ => ⟨h1,h2,λ vs ds O1 G1 H1 e1 s1 i1 ⟨d,hc,hR⟩ => ⟨G1,O1,ds,d,s1,i1,hc,λ w G2 H2 e2 s2 i2 => h3 w d O1 G2 H2 (e1.trans e2) s2 i2 hR⟩⟩
end
section
variable {X : Cx} {ρ : Aj} {O : Ac} {pos : Pos} {R : D -> Ac -> Prop}
variable {α : Type} {ps : List α} {f : α -> D} {tg iter elt : Expr} {scope : Scope}
theorem Ip (g : Nat -> D) (S : Nat -> Ac) (hS0 : S 0 = O) (T F : List Str) (js : List Nat) (hi : Cn X ρ O tg iter (ps.map f)) (hsz : ps.length <= sizeLine) (turn : ∀ (i : Nat) (q : α),ps[i]? = some q -> Qa X T F js ρ (S i) (S (i + 1)) scope tg elt (f q) (g i)) (hR : R (.lst ((List.range ps.length).map g)) (S ps.length))
  (hfl : F.length = js.length := by rfl) (hB : C4 X.N X.env.scope.names scope.names F js = true := by first | rfl | decide +kernel) (hc : X.calm = true := by rfl) (hk : scope.kind = .function := by rfl) (hs : ∀ x,foldedSetIterable iter X.env x = pure x := by intro _; rfl) :
  Ev X ρ O (.ListComp elt [⟨tg,iter,[],0⟩] scope pos) R :=
 WT (zs := (List.range ps.length).map g) S hS0 T F js hi (by rw [List.length_map,List.length_range,List.length_map]) (by rw [List.length_map]; exact hsz) (λ i x z q1 q2 => by
  rw [List.getElem?_map] at q1 q2
  obtain ⟨q,hq,rfl⟩ := Option.map_eq_some_iff.mp q1
  obtain ⟨j,hj,rfl⟩ := Option.map_eq_some_iff.mp q2
  have hi := (List.getElem?_eq_some_iff.mp hq).1
  rw [List.getElem?_range hi] at hj
  cases hj
  exact turn i q hq) (by rw [List.length_map]; exact hR) hfl hB hc hk hs
end
end DL
namespace DL
open PySem PySem.Spec PyProof.Rows L2 PySem.W
section
variable {X : Cx} {ρ : Aj} {O : Ac} {e : Expr} {p p2 pos pos2 : Pos}
variable {R : D -> Ac -> Prop}
end
section
variable {X : Cx} {ρ : Aj} {O : Ac} {e a b c : Expr} {body : List Stmt} {d da db : D} {xs : List D} {ks : List AV} {ps : List Str} {R : D -> Ac -> Prop} {P : Bf} {pos p : Pos} {j n : Nat}
theorem WV {op : Operator} (ha : Ad X ρ O a da) (hb : Ev X ρ O b λ db O1 => ∃ d,Bl X O1 (binaryOp op) da db d /\ R d O1) : Ev X ρ O (.BinOp a op b pos) R := λ G pins s σ H Q I ⟨h1,h2,h3⟩ =>
 wpAny_BinOp (GV (ta := λ σ H Q => SA X.K G H O /\ AB X.K G σ ρ /\ ∀ v G' H',Ah G G' -> SA X.K G' H' O -> Is X.K G' da v -> Q v H') (ha G)
  (tb := λ σ H Q => ∃ G1,SA X.K G1 H O /\ AB X.K G1 σ ρ /\ ∀ v db O1 G' H',Ah G1 G' -> SA X.K G' H' O1 -> Is X.K G' db v -> (∃ d,Bl X O1 (binaryOp op) da db d /\ R d O1) -> Q v H') (λ pins s σ H Q I ⟨G1,q⟩ => hb G1 pins s σ H Q I q) I
  (R := λ x y H2 => ∃ G2 O1 db d,Ah G G2 /\ SA X.K G2 H2 O1 /\ Is X.K G2 da x /\ Is X.K G2 db y /\ Bl X O1 (binaryOp op) da db d /\ R d O1)
  ⟨h1,h2,λ v G1 H1 e1 s1 i1 => ⟨G1,s1,h2.ext e1,λ u db O1 G2 H2 e2 s2 i2 ⟨d,ho,hr⟩ => ⟨G2,O1,db,d,e1.trans e2,s2,i1.ext e2,i2,ho,hr⟩⟩⟩
  λ v u s2 x y H2 I2 rx ry ⟨G2,O1,db,d,e2,s2',i1,i2,ho,hr⟩ => ho G2 pins s2 σ H2 x y v u Q I2 rx ry ⟨s2',i1,i2,λ w G3 H3 e3 s3 i3 => h3 w d O1 G3 H3 (e2.trans e3) s3 i3 hr⟩)
end
end DL
namespace DL
open PySem PySem.Spec PyProof.Rows L2
section
variable {X : Cx} {ρ : Aj} {O : Ac} {e : Expr} {es : List Expr} {R : D -> Ac -> Prop} {x : Str} {C : Addr} {p pos : Pos}
theorem OY {k : Nat} {sp : AQ} (M : Cv X.prog X.w X.K X.mg X.base C k x sp) (hr : AN (k + 1) X.A) (ha : EY X ρ O (e :: es) λ ds O1 => sp (.ptr O1.length :: ds) (O1 ++ [some (.ins C [])]) λ d O' => d = .non /\ R (.ptr O1.length) O')
  (hg : Gl X x := by rfl) (hdb : (x == ("__debug__" : Str)) = false := by decide) (he : starEach (e :: es) X.env = (false,eval e X.env) :: starEach es X.env := by rfl) (hpl : (backTo pos (starEach es X.env)).any (·.1) = false := by rfl) :
  Ev X ρ O (.Call (.Name x p) (e :: es) [] pos) R := λ G pins s σ H Q I ⟨h1,h2,h3⟩ => by
 obtain ⟨f,fd,ps,g1,g2,g3⟩ := M.ex
 refine NT g2 g1 hr hg M.at_ g3 .nil FX (ha G) hdb he hpl pins s σ H Q I ⟨h1,h2,λ vs ds O1 G1 H1 e1 s1 i1 hs => λ y dx k1 k2 k3 => ?_⟩
 obtain ⟨e2,s2⟩ := made (C := C) s1 k1 k2 k3
 have iy : Is X.K ⟨G1.g,G1.l ++ [y]⟩ (.ptr O1.length) (.ref y) := .ptr _ (by rw [<- s1.len,List.getElem?_append_right (Nat.le_refl _),Nat.sub_self]; rfl)
 show AG X.K sp (V.ref y :: (vs ++ [])) _ _ E0
 rw [List.append_nil]
 refine ⟨_,_,.ptr O1.length :: ds,_,s2,.cons iy (i1.ext e2),hs,λ v d O' G' H' e3 s3 i3 r3 => ?_⟩
 obtain ⟨rfl,r⟩ := r3
 cases i3
 exact ⟨rfl,h3 _ _ O' G' H' ((e1.trans e2).trans e3) s3 (iy.ext e3) r⟩
end
end DL
set_option maxHeartbeats 4000000
namespace My
open PySem PySem.Spec PyProof.Rows L2 DL
def top (i : Nat) : Stmt := PySem.Challenge.pw_heedwise_k70_hands_heeded.main.body.getD i (.Pass ⟨0,0,0,0⟩)
abbrev JZ : Stmt := top 6
abbrev YI : List Str := ["value"]
theorem RJ : AD YI ["value"] (Ar JZ) := by constructor <;> first | rfl | decide +kernel
abbrev JI : Stmt := top 7
abbrev Yq : List Str := ["base","exponent","product","step"]
theorem Hr : AD Yq ["base","exponent"] (Ar JI) := by constructor <;> first | rfl | decide +kernel
abbrev J5 : Stmt := top 8
abbrev YO : List Str := ["weights"]
theorem RP : AD YO ["weights"] (Ar J5) := by constructor <;> first | rfl | decide +kernel
abbrev JK : Stmt := top 9
abbrev Ys : List Str := ["numbers","weights","shares","whole","reached","number","share"]
theorem Fk : AD Ys ["numbers","weights"] (Ar JK) := by constructor <;> first | rfl | decide +kernel
abbrev J6 : Stmt := top 16
abbrev YQ : List Str := ["what","value","least","most"]
theorem RQ : AD YQ ["what","value","least","most"] (Ar J6) := by constructor <;> first | rfl | decide +kernel
abbrev Ka : Stmt := top 17
abbrev YU : List Str := ["scale"]
theorem RV : AD YU ["scale"] (Ar Ka) := by constructor <;> first | rfl | decide +kernel
abbrev Kd : Stmt := top 18
abbrev YX : List Str := ["many","scale"]
theorem RY : AD YX ["many","scale"] (Ar Kd) := by constructor <;> first | rfl | decide +kernel
abbrev Ke : Stmt := top 19
abbrev YY : List Str := ["top","bottom"]
theorem RZ : AD YY ["top","bottom"] (Ar Ke) := by constructor <;> first | rfl | decide +kernel
abbrev Kc : Stmt := top 20
abbrev YW : List Str := ["many","push","one"]
theorem Np : AD YW ["many","push"] (Ar Kc) := by constructor <;> first | rfl | decide +kernel
abbrev J9 : Stmt := top 21
abbrev YT : List Str := ["share","parts"]
theorem RU : AD YT ["share","parts"] (Ar J9) := by constructor <;> first | rfl | decide +kernel
abbrev J2 : Stmt := top 23
abbrev YL : List Str := ["scale","value"]
theorem RM : AD YL ["scale","value"] (Ar J2) := by constructor <;> first | rfl | decide +kernel
abbrev J1 : Stmt := top 24
abbrev YK : List Str := ["many","scale","said"]
theorem RL : AD YK ["many","scale","said"] (Ar J1) := by constructor <;> first | rfl | decide +kernel
abbrev J0 : Stmt := top 25
abbrev YJ : List Str := ["many","scale","turn"]
theorem RK : AD YJ ["many","scale","turn"] (Ar J0) := by constructor <;> first | rfl | decide +kernel
abbrev Kb : Stmt := top 26
abbrev YV : List Str := ["many","scale","said"]
theorem RW : AD YV ["many","scale","said"] (Ar Kb) := by constructor <;> first | rfl | decide +kernel
abbrev J7 : Stmt := top 27
abbrev YR : List Str := ["many","scale","said","so"]
theorem RR : AD YR ["many","scale","said","so"] (Ar J7) := by constructor <;> first | rfl | decide +kernel
abbrev Kg : Stmt := top 28
abbrev Y0 : List Str := ["said"]
theorem R1 : AD Y0 ["said"] (Ar Kg) := by constructor <;> first | rfl | decide +kernel
abbrev Kf : Stmt := top 29
abbrev YZ : List Str := ["what","so"]
theorem R0 : AD YZ ["what","so"] (Ar Kf) := by constructor <;> first | rfl | decide +kernel
abbrev JJ : Stmt := top 31
abbrev Yr : List Str := ["said","weights","awake"]
theorem Nl : AD Yr ["said","weights"] (Ar JJ) := by constructor <;> first | rfl | decide +kernel
abbrev KB : Stmt := Bz (top 32) 0
abbrev Zp : List Str := ["self","many","scale"]
theorem Sj : AD Zp ["self","many","scale"] (Ar KB) := by constructor <;> first | rfl | decide +kernel
abbrev Ky : Stmt := Bz (top 32) 1
abbrev Zm : List Str := ["self"]
theorem Sg : AD Zm ["self"] (Ar Ky) := by constructor <;> first | rfl | decide +kernel
abbrev Kx : Stmt := Bz (top 32) 2
abbrev Zl : List Str := ["self","said"]
theorem Sf : AD Zl ["self","said"] (Ar Kx) := by constructor <;> first | rfl | decide +kernel
abbrev Kz : Stmt := Bz (top 32) 3
abbrev Zn : List Str := ["self","said","so"]
theorem Sh : AD Zn ["self","said","so"] (Ar Kz) := by constructor <;> first | rfl | decide +kernel
abbrev KA : Stmt := Bz (top 32) 4
abbrev Zo : List Str := ["self"]
theorem Si : AD Zo ["self"] (Ar KA) := by constructor <;> first | rfl | decide +kernel
abbrev Kh : Stmt := top 34
abbrev Y1 : List Str := ["hands"]
theorem R3 : AD Y1 ["hands"] (Ar Kh) := by constructor <;> first | rfl | decide +kernel
abbrev J3 : Stmt := top 35
abbrev YM : List Str := ["hands","head"]
theorem RN : AD YM ["hands","head"] (Ar J3) := by constructor <;> first | rfl | decide +kernel
abbrev J8 : Stmt := top 36
abbrev YS : List Str := ["hands","head"]
theorem RS : AD YS ["hands","head"] (Ar J8) := by constructor <;> first | rfl | decide +kernel
abbrev HC : Stmt := Bz (top 37) 0
abbrev Zc : List Str := ["self","hands","head"]
theorem Nv : AD Zc ["self","hands","head"] (Ar HC) := by constructor <;> first | rfl | decide +kernel
abbrev Kn : Stmt := Bz (top 37) 1
abbrev Y9 : List Str := ["self"]
theorem R8 : AD Y9 ["self"] (Ar Kn) := by constructor <;> first | rfl | decide +kernel
abbrev HA : Stmt := Bz (top 37) 2
abbrev Za : List Str := ["self","said"]
theorem Nt : AD Za ["self","said"] (Ar HA) := by constructor <;> first | rfl | decide +kernel
abbrev Hy : Stmt := Bz (top 37) 3
abbrev Y7 : List Str := ["self","said"]
theorem Nr : AD Y7 ["self","said"] (Ar Hy) := by constructor <;> first | rfl | decide +kernel
abbrev Hz : Stmt := Bz (top 37) 4
abbrev Y8 : List Str := ["self","said","so","sayings","hand"]
theorem Ht : AD Y8 ["self","said","so"] (Ar Hz) := by constructor <;> first | rfl | decide +kernel
abbrev HB : Stmt := Bz (top 37) 5
abbrev Zb : List Str := ["self"]
theorem Nu : AD Zb ["self"] (Ar HB) := by constructor <;> first | rfl | decide +kernel
abbrev JH : Stmt := top 39
abbrev Yp : List Str := ["many","push"]
theorem RC : AD Yp ["many","push"] (Ar JH) := by constructor <;> first | rfl | decide +kernel
abbrev J4 : Stmt := top 40
abbrev YN : List Str := ["scores","advisers"]
theorem RO : AD YN ["scores","advisers"] (Ar J4) := by constructor <;> first | rfl | decide +kernel
abbrev FU : Stmt := Bz (top 41) 0
abbrev Zt : List Str := ["self","many","scale","push"]
theorem Sm : AD Zt ["self","many","scale","push"] (Ar FU) := by constructor <;> first | rfl | decide +kernel
abbrev KC : Stmt := Bz (top 41) 3
abbrev Zq : List Str := ["self","said","awake"]
theorem Nx : AD Zq ["self","said"] (Ar KC) := by constructor <;> first | rfl | decide +kernel
abbrev KD : Stmt := Bz (top 41) 4
abbrev Zr : List Str := ["self","said","so"]
theorem Sk : AD Zr ["self","said","so"] (Ar KD) := by constructor <;> first | rfl | decide +kernel
abbrev KF : Stmt := Bz (top 41) 5
abbrev Zs : List Str := ["self"]
theorem Sl : AD Zs ["self"] (Ar KF) := by constructor <;> first | rfl | decide +kernel
abbrev Kw : Stmt := Bz (top 43) 0
abbrev Zk : List Str := ["self","many","scale"]
theorem Se : AD Zk ["self","many","scale"] (Ar Kw) := by constructor <;> first | rfl | decide +kernel
abbrev Kt : Stmt := Bz (top 43) 3
abbrev Zh : List Str := ["self"]
theorem Sc : AD Zh ["self"] (Ar Kt) := by constructor <;> first | rfl | decide +kernel
abbrev Ku : Stmt := Bz (top 43) 4
abbrev Zi : List Str := ["self","said","so","left"]
theorem Nw : AD Zi ["self","said","so"] (Ar Ku) := by constructor <;> first | rfl | decide +kernel
abbrev Kv : Stmt := Bz (top 43) 5
abbrev Zj : List Str := ["self"]
theorem Sd : AD Zj ["self"] (Ar Kv) := by constructor <;> first | rfl | decide +kernel
abbrev JE : Stmt := top 45
abbrev Ym : List Str := ["keeper","own","off","kept"]
theorem Nk : AD Ym ["keeper","own","off"] (Ar JE) := by constructor <;> first | rfl | decide +kernel
abbrev JF : Stmt := top 46
abbrev Yn : List Str := ["keeper","own"]
theorem RA : AD Yn ["keeper","own"] (Ar JF) := by constructor <;> first | rfl | decide +kernel
abbrev JG : Stmt := top 47
abbrev Yo : List Str := ["keeper","own","what","so"]
theorem RB : AD Yo ["keeper","own","what","so"] (Ar JG) := by constructor <;> first | rfl | decide +kernel
abbrev Km : Stmt := Bz (top 49) 0
abbrev Y6 : List Str := ["self","many","scale","top","bottom"]
theorem R7 : AD Y6 ["self","many","scale","top","bottom"] (Ar Km) := by constructor <;> first | rfl | decide +kernel
abbrev Kj : Stmt := Bz (top 49) 1
abbrev Y3 : List Str := ["self"]
theorem R4 : AD Y3 ["self"] (Ar Kj) := by constructor <;> first | rfl | decide +kernel
abbrev Ki : Stmt := Bz (top 49) 4
abbrev Y2 : List Str := ["self","said","so","own"]
theorem Nq : AD Y2 ["self","said","so"] (Ar Ki) := by constructor <;> first | rfl | decide +kernel
abbrev Kk : Stmt := Bz (top 49) 5
abbrev Y4 : List Str := ["self","said","so"]
theorem R5 : AD Y4 ["self","said","so"] (Ar Kk) := by constructor <;> first | rfl | decide +kernel
abbrev Kl : Stmt := Bz (top 49) 6
abbrev Y5 : List Str := ["self"]
theorem R6 : AD Y5 ["self"] (Ar Kl) := by constructor <;> first | rfl | decide +kernel
abbrev Ks : Stmt := Bz (top 51) 0
abbrev Zg : List Str := ["self","many","scale","top","bottom","share","parts"]
theorem Sb : AD Zg ["self","many","scale","top","bottom","share","parts"] (Ar Ks) := by constructor <;> first | rfl | decide +kernel
abbrev Kq : Stmt := Bz (top 51) 1
abbrev Ze : List Str := ["self","dealt","kept"]
theorem JA : AD Ze ["self"] (Ar Kq) := by constructor <;> first | rfl | decide +kernel
abbrev Ko : Stmt := Bz (top 51) 2
abbrev Zd : List Str := ["self","said","so"]
theorem R9 : AD Zd ["self","said","so"] (Ar Ko) := by constructor <;> first | rfl | decide +kernel
abbrev Kr : Stmt := Bz (top 51) 3
abbrev Zf : List Str := ["self"]
theorem Sa : AD Zf ["self"] (Ar Kr) := by constructor <;> first | rfl | decide +kernel
abbrev JX : Stmt := top 53
abbrev YG : List Str := ["_law_script","_law_k"]
theorem RH : AD YG ["_law_script","_law_k"] (Ar JX) := by constructor <;> first | rfl | decide +kernel
abbrev JR : Stmt := top 54
abbrev YA : List Str := ["_law_x"]
theorem RF : AD YA ["_law_x"] (Ar JR) := by constructor <;> first | rfl | decide +kernel
abbrev JO : Stmt := top 55
abbrev Yx : List Str := ["_law_script","_law_k","_law_x"]
theorem Nm : AD Yx ["_law_script","_law_k"] (Ar JO) := by constructor <;> first | rfl | decide +kernel
abbrev JN : Stmt := top 56
abbrev Yw : List Str := ["_law_x","_law_many_here","_law_scale_here","_law_sleeps","_law_so","_law_said","_law_k","_law_what"]
theorem EE : AD Yw ["_law_x","_law_many_here","_law_scale_here","_law_sleeps"] (Ar JN) := by constructor <;> first | rfl | decide +kernel
abbrev JM : Stmt := top 57
abbrev Yv : List Str := ["_law_script","_law_start","_law_many_here","_law_scale_here","_law_sleeps","_law_most","_law_fewest_turns","_law_found","_law_k"]
theorem Gz : AD Yv ["_law_script","_law_start","_law_many_here","_law_scale_here","_law_sleeps"] (Ar JM) := by constructor <;> first | rfl | decide +kernel
abbrev JS : Stmt := top 58
abbrev YB : List Str := ["_law_x"]
theorem RG : AD YB ["_law_x"] (Ar JS) := by constructor <;> first | rfl | decide +kernel
abbrev JP : Stmt := top 59
abbrev Yy : List Str := ["_law_x"]
theorem RE : AD Yy ["_law_x"] (Ar JP) := by constructor <;> first | rfl | decide +kernel
abbrev JV : Stmt := top 60
abbrev YE : List Str := ["_law_many_here","_law_scale_here","_law_x","_law_bottom","_law_top","_law_way"]
theorem Hs : AD YE ["_law_many_here","_law_scale_here","_law_x"] (Ar JV) := by constructor <;> first | rfl | decide +kernel
abbrev JU : Stmt := top 61
abbrev YD : List Str := ["_law_many_here","_law_scale_here","_law_x","_law_found","_law_size","_law_k"]
theorem FS : AD YD ["_law_many_here","_law_scale_here","_law_x"] (Ar JU) := by constructor <;> first | rfl | decide +kernel
abbrev JL : Stmt := top 62
abbrev Yu : List Str := ["_law_many_here","_law_scale_here","_law_x","_law_y","_law_hands_here","_law_inner","_law_head","_law_low"]
theorem D7 : AD Yu ["_law_many_here","_law_scale_here","_law_x","_law_y"] (Ar JL) := by constructor <;> first | rfl | decide +kernel
abbrev JQ : Stmt := top 63
abbrev Yz : List Str := ["_law_found","_law_due","_law_one","_law_other"]
theorem Jz : AD Yz ["_law_found","_law_due"] (Ar JQ) := by constructor <;> first | rfl | decide +kernel
abbrev JY : Stmt := top 64
abbrev YH : List Str := ["_law_said","_law_scale_here"]
theorem RI : AD YH ["_law_said","_law_scale_here"] (Ar JY) := by constructor <;> first | rfl | decide +kernel
abbrev JT : Stmt := top 65
abbrev YC : List Str := ["_law_hands_here","_law_head","_law_said","_law_so","_law_hand_here"]
theorem Nn : AD YC ["_law_hands_here","_law_head","_law_said","_law_so"] (Ar JT) := by constructor <;> first | rfl | decide +kernel
abbrev JW : Stmt := top 66
abbrev YF : List Str := ["_law_tier","_law_hands_here","_law_head","_law_turns_here","_law_paid","_law_late","_law_later","_law_last","_law_k","_law_said","_law_so","_law_sayings","_law_against_here","_law_due"]
theorem Da : AD YF ["_law_tier","_law_hands_here","_law_head","_law_turns_here"] (Ar JW) := by constructor <;> first | rfl | decide +kernel
abbrev FT : Stmt := top 67
abbrev Yt : List Str := ["_law_script","_law_x","_law_many_here","_law_scale_here","_law_turns_here","_law_hands_here","_law_head","_law_said","_law_so","_law_hand_here","_law_good","_law_kept","_law_tier","_law_beside","_law_other","_law_fresh"]
theorem Ci : AD Yt ["_law_script"] (Ar FT) := by constructor <;> first | rfl | decide +kernel
structure Txt (K : PySem.W.Frag) (mg : Str -> Option Value) (CK1 CK5 CK3 CK2 CK0 CK4 : Addr) : Prop where
 xj : mg "len" = none
 xk : mg "tuple" = none
 xl : mg "list" = none
 xm : mg "sum" = none
 xn : mg "zip" = none
 xo : mg "sorted" = none
 xp : mg "range" = none
 xq : mg "isinstance" = none
 xr : mg "int" = none
 xt : mg "bool" = none
 xu : mg "all" = none
 xw : mg "any" = none
 xx : mg "enumerate" = none
 xy : mg "abs" = none
 xz : mg "min" = none
 ba : mg "max" = none
 bc : ∃ t,mg "MOST_ADVISERS" = some (.int 24 t)
 bd : ∃ t,mg "MOST_SCALE" = some (.int 10 t)
 bf : ∃ t,mg "MOST_BOTTOM" = some (.int 100 t)
 bg : ∃ t,mg "MOST_PARTS" = some (.int 100 t)
 bh : ∃ t,mg "MOST_FIGURES" = some (.int 60 t)
 bj : Co K CK1
 bn : mg "Hand" = some (.ref CK1)
 bo : As K CK1 "many"
 bq : As K CK1 "scale"
 br : PySem.W.kitOne K (.ref CK1) (.ref CK1) = some true
 bu : PySem.W.kitOne K (.ref CK1) (.ref CK4) = some false
 bv : Co K CK5
 bw : mg "Weigher" = some (.ref CK5)
 bx : As K CK5 "many"
 bz : As K CK5 "scale"
 de : As K CK5 "top"
 df : As K CK5 "bottom"
 dg : As K CK5 "tops"
 dh : As K CK5 "under"
 di : PySem.W.kitOne K (.ref CK5) (.ref CK1) = some true
 dj : PySem.W.kitOne K (.ref CK5) (.ref CK4) = some false
 dk : Co K CK3
 dl : mg "Shifter" = some (.ref CK3)
 dm : As K CK3 "many"
 dq : As K CK3 "scale"
 dr : As K CK3 "top"
 dt : As K CK3 "bottom"
 du : As K CK3 "tops"
 dw : As K CK3 "under"
 dy : As K CK3 "share"
 dz : As K CK3 "parts"
 ee : PySem.W.kitOne K (.ref CK3) (.ref CK1) = some true
 ef : PySem.W.kitOne K (.ref CK3) (.ref CK4) = some false
 eg : Co K CK2
 eh : mg "Rounder" = some (.ref CK2)
 ej : As K CK2 "many"
 em : As K CK2 "scale"
 er : As K CK2 "inside"
 eu : As K CK2 "over"
 ff : PySem.W.kitOne K (.ref CK2) (.ref CK1) = some true
 fg : PySem.W.kitOne K (.ref CK2) (.ref CK4) = some false
 fh : Co K CK0
 fi : mg "Follower" = some (.ref CK0)
 fj : As K CK0 "many"
 fk : As K CK0 "scale"
 fm : As K CK0 "push"
 fq : As K CK0 "reached"
 ft : PySem.W.kitOne K (.ref CK0) (.ref CK1) = some true
 fu : PySem.W.kitOne K (.ref CK0) (.ref CK4) = some false
 fv : Co K CK4
 fw : mg "Tier" = some (.ref CK4)
 fx : As K CK4 "many"
 fy : As K CK4 "scale"
 fz : As K CK4 "hands"
 la : As K CK4 "head"
 lb : As K CK4 "charged"
 lc : PySem.W.kitOne K (.ref CK4) (.ref CK1) = some true
 ld : PySem.W.kitOne K (.ref CK4) (.ref CK4) = some true
def Cl (ws : List Int) : List Int := if ws.sum = 0 then ws.map (λ _ => 1) else ws
theorem Ps (ws : List Int) : (Cl ws).length = ws.length := by unfold Cl; split <;> simp
def DK (ws : List Int) : Prop := ∀ w ∈ ws,0 <= w
theorem Pr {ws : List Int} (h : DK ws) : DK (Cl ws) := by
 unfold Cl
 split
 ·intro w hw
  obtain ⟨_,_,rfl⟩ := List.mem_map.mp hw
  decide
 ·exact h
def go (W : Int) : Int -> List (Int × Int) -> Int
 | _,[] => 0
 | r,p :: l => if W <= 2 * (r + p.2) then p.1 else go W (r + p.2) l
def Fo (ns ws : List Int) : Int := go (Cl ws).sum 0 (Cc AS (ns.zip (Cl ws)))
def LC (ns ws : List Int) : Prop := ns.length = ws.length /\ ws.length <= 63 /\ DK ws
def M8 : List D -> D -> Prop := λ ds d => ∃ ws : List Int,ds = [.tup (ws.map D.int)] /\ ws.length <= 63 /\ d = .lst ((Cl ws).map D.int)
def MM : List D -> D -> Prop := λ ds d => ∃ ns ws : List Int,ds = [.tup (ns.map D.int),.tup (ws.map D.int)] /\ LC ns ws /\ d = .int (Fo ns ws)
def BX (ns : List Int) (k : Int) : Int := (ns[k.toNat]?).getD 0
def Ju : List D -> D -> Prop := λ ds d => ∃ (ns : List Int) (k : Int),ds = [.scr (ns.map D.int),.int k] /\ 0 <= k /\ d = .int (BX ns k)
def Lw (f : Int) (ns ws : List Int) : Int := sm (λ q => if q.1 < f then q.2 else 0) (ns.zip ws)
def there (f : Int) (ns ws : List Int) : Int := sm (λ q => if q.1 = f then q.2 else 0) (ns.zip ws)
def KG (f : Int) (ns ws : List Int) : Bool := if ns = [] then decide (f = 0) else (decide (f ∈ ns) && (decide (2 * Lw f ns (Cl ws) < (Cl ws).sum) && decide ((Cl ws).sum <= 2 * (Lw f ns (Cl ws) + there f ns (Cl ws)))))
theorem OM (W : Int) : ∀ (L : List (Int × Int)) (r : Int),2 * r < W -> W <= 2 * (r + sm (λ q => q.2) L) -> ∃ A p B,L = A ++ p :: B /\ 2 * (r + sm (λ q => q.2) A) < W /\ W <= 2 * (r + sm (λ q => q.2) A + p.2) /\ go W r L = p.1
 | [],r,h1,h2 => by exfalso; unfold sm at h2; omega
 | p :: L,r,h1,h2 => by
  unfold go
  by_cases h : W <= 2 * (r + p.2)
  ·rw [if_pos h]
   refine ⟨[],p,L,rfl,?_,?_,rfl⟩
   ·show 2 * (r + 0) < W; omega
   ·show W <= 2 * (r + 0 + p.2); omega
  ·rw [if_neg h]
   have h2 : W <= 2 * (r + (p.2 + sm (λ q => q.2) L)) := h2
   obtain ⟨A,q,B,e1,e2,e3,e4⟩ := OM W L (r + p.2) wF wF
   refine ⟨p :: A,q,B,by rw [e1]; rfl,?_,?_,e4⟩
   ·show 2 * (r + (p.2 + sm (λ q => q.2) A)) < W; omega
   ·show W <= 2 * (r + (p.2 + sm (λ q => q.2) A) + q.2); omega
theorem Re {ws : List Int} (h : DK ws) : 0 <= ws.sum := by
 rw [Rc]; exact Hl λ a ha => h a ha
theorem XB {ws : List Int} (h : DK ws) (hn : ws ≠ []) : 0 < (Cl ws).sum := by
 unfold Cl
 split
 ·cases ws with
  | nil => exact absurd rfl hn
  | cons a l =>
   rw [List.map_cons,List.sum_cons]
   have : 0 <= (l.map λ _ => (1 : Int)).sum := by rw [Hk]; exact Hl λ _ _ => by decide
   omega
 ·have := Re h
  omega
theorem SD {ns ws : List Int} (h : LC ns ws) : KG (Fo ns ws) ns ws = true := by
 obtain ⟨h1,h2,h3⟩ := h
 unfold KG
 by_cases hn : ns = []
 ·rw [if_pos hn]
  subst hn
  have e : Fo [] ws = 0 := by unfold Fo Cc; simp [go]
  exact decide_eq_true e
 ·rw [if_neg hn]
  have hw : ws ≠ [] := by
   intro e; apply hn
   rw [e] at h1
   exact List.eq_nil_of_length_eq_zero h1
  have hp := XB h3 hw
  have hc := Pr h3
  have hl : ns.length = (Cl ws).length := by rw [Ps]; exact h1
  unfold Fo Lw there
  generalize Cl ws = cs at hp hc hl
  have pm := Hh AS (ns.zip cs)
  have pw := Mw GF (ns.zip cs)
  have hs : sm (λ q : Int × Int => q.2) (Cc AS (ns.zip cs)) = cs.sum := by rw [Jw pm,Rn hl]
  obtain ⟨A,p,B,e1,e2,e3,e4⟩ := OM cs.sum (Cc AS (ns.zip cs)) 0 wF (by rw [hs]; omega)
  rw [e4]
  have nn : ∀ q ∈ Cc AS (ns.zip cs),0 <= q.2 := λ q hq => hc _ (List.of_mem_zip (pm.mem_iff.mp hq)).2
  rw [<- Jw (g := λ q : Int × Int => if q.1 < p.1 then q.2 else 0) pm,<- Jw (g := λ q : Int × Int => if q.1 = p.1 then q.2 else 0) pm]
  have hm : p.1 ∈ ns := (List.of_mem_zip (pm.mem_iff.mp (by rw [e1]; exact List.mem_append_right _ List.mem_cons_self) : (p.1,p.2) ∈ ns.zip cs)).1
  rw [e1] at pw nn ⊢
  have pA : ∀ q ∈ A,q.1 <= p.1 := λ q hq => by
   have := (List.pairwise_append.mp pw).2.2 q hq p List.mem_cons_self
   simp [AS] at this
   omega
  have pB : ∀ q ∈ B,p.1 <= q.1 := λ q hq => by
   have := (List.pairwise_cons.mp (List.pairwise_append.mp pw).2.1).1 q hq
   simp [AS] at this
   omega
  have b1 : sm (λ q : Int × Int => if q.1 < p.1 then q.2 else 0) (A ++ p :: B) <= sm (λ q => q.2) A := by
   rw [Jx]
   have z : sm (λ q : Int × Int => if q.1 < p.1 then q.2 else 0) (p :: B) = 0 := by
    rw [Ng (h := λ _ => 0),Nd]
    intro a ha
    rcases List.mem_cons.mp ha with rfl | ha
    ·exact if_neg wF
    ·exact if_neg (by have := pB a ha; omega)
   rw [z]
   have := Nf (l := A) (g := λ q : Int × Int => if q.1 < p.1 then q.2 else 0) (h := λ q => q.2) λ a ha => by
    have := nn a (List.mem_append_left _ ha)
    try dsimp only
    split <;> omega
   omega
  have b2 : sm (λ q => q.2) A + p.2 <= sm (λ q : Int × Int => if q.1 < p.1 then q.2 else 0) (A ++ p :: B) + sm (λ q : Int × Int => if q.1 = p.1 then q.2 else 0) (A ++ p :: B) := by
   rw [<- Rq,Jx]
   have z : p.2 <= sm (λ q : Int × Int => (if q.1 < p.1 then q.2 else 0) + (if q.1 = p.1 then q.2 else 0)) (p :: B) := by
    show p.2 <= ((if p.1 < p.1 then p.2 else 0) + (if p.1 = p.1 then p.2 else 0)) + sm _ B
    rw [if_neg wF,if_pos rfl]
    have := Hl (l := B) (g := λ q : Int × Int => (if q.1 < p.1 then q.2 else 0) + (if q.1 = p.1 then q.2 else 0)) λ a ha => by
     have := nn a (List.mem_append_right _ (List.mem_cons_of_mem _ ha))
     try dsimp only
     split <;> split <;> omega
    omega
   have := Ng (l := A) (g := λ q : Int × Int => q.2) (h := λ q => (if q.1 < p.1 then q.2 else 0) + (if q.1 = p.1 then q.2 else 0)) λ a ha => by
    have := pA a ha
    try dsimp only
    split <;> split <;> omega
   omega
  rw [decide_eq_true hm,decide_eq_true wF,decide_eq_true wF]
  rfl
def od : Option Int -> D
 | none => .non
 | some i => .int i
abbrev Tn := List (Option Int) × Int
def tD (t : Tn) : D := .tup [.tup (t.1.map od),.int t.2]
def ab (i : Int) : Int := if i < 0 then -i else i
def EL : Option Int -> Int -> Int
 | none,_ => 0
 | some w,z => ab (w - z)
theorem Vn (o : Option Int) : F0 (od o) = true := by cases o <;> rfl
theorem Mo (t : Tn) : F0 (tD t) = true := by
 show (Ef (t.1.map od) && (true && true)) = true
 rw [Oh Vn]
 rfl
def Ca (said : List (Option Int)) (k : Nat) : Option Int := (said[k]?).getD none
def ax (said : List (Option Int)) : List Nat := (List.range said.length).filter λ k => (Ca said k).isSome
def Ee (said : List (Option Int)) : List Int := (ax said).map λ k => (Ca said k).getD 0
def Fc (said : List (Option Int)) (ws : List Int) : List Int := (ax said).map λ k => ws.getD k 0
def BV (said : List (Option Int)) (ws : List Int) : Int := Fo (Ee said) (Fc said ws)
theorem Qj (said : List (Option Int)) : said.zipIdx = (List.range said.length).map λ k => (Ca said k,k) := by
 refine List.ext_getElem? λ i => ?_
 rw [List.getElem?_zipIdx,List.getElem?_map]
 by_cases h : i < said.length
 ·rw [List.getElem?_range h,List.getElem?_eq_getElem h]
  simp [Ca,h]
 ·rw [List.getElem?_eq_none wF,List.getElem?_eq_none (by simp; omega)]
  rfl
theorem V2 (w : Option Int) : (!Dn (od w)) = w.isSome := by cases w <;> rfl
theorem X7 (said : List (Option Int)) : (said.zipIdx.filterMap λ q => if (!Dn (od q.1)) = true then some (D.int (q.2 : Nat)) else none) = (ax said).map λ k => D.int (k : Nat) := by
 rw [Wy (λ q : Option Int × Nat => !Dn (od q.1)) (λ q => D.int (q.2 : Nat)),Qj,List.filter_map,List.map_map]
 unfold ax
 congr 1
 exact List.filter_congr λ k _ => V2 _
theorem at2 {said : List (Option Int)} {k : Nat} (h : k < said.length) : Bt (said.map od) (k : Int) = some (od (Ca said k)) := by
 refine Er ?_
 rw [List.getElem?_map,List.getElem?_eq_getElem h]
 simp [Ca,h]
theorem ID {said : List (Option Int)} {k : Nat} (h : k ∈ ax said) : k < said.length := List.mem_range.mp (List.mem_filter.mp h).1
theorem X6 {said : List (Option Int)} {k : Nat} (h : k ∈ ax said) : od (Ca said k) = .int ((Ca said k).getD 0) := by
 have := (List.mem_filter.mp h).2
 cases e : Ca said k with
 | none => rw [e] at this; cases this
 | some w => rfl
theorem PV {said : List (Option Int)} {k : Nat} (h : k ∈ ax said) : Bt (said.map od) (k : Int) = some (.int ((Ca said k).getD 0)) := by rw [at2 (ID h),X6 h]
theorem PR {ws : List Int} {k : Nat} (h : k < ws.length) : Bt (ws.map D.int) (k : Int) = some (.int (ws.getD k 0)) := by
 refine Er ?_
 rw [List.getElem?_map,List.getElem?_eq_getElem h]
 simp [List.getD,h]
theorem Lx (said : List (Option Int)) : (ax said).length <= said.length := by
 have := List.length_filter_le (λ k => (Ca said k).isSome) (List.range said.length)
 rw [List.length_range] at this
 exact this
theorem Mg {said : List (Option Int)} {ws : List Int} (hs : said.length <= 24) (hw : DK ws) : LC (Ee said) (Fc said ws) := by
 refine ⟨by unfold Ee Fc; rw [List.length_map,List.length_map],?_,λ w h => ?_⟩
 ·unfold Fc; rw [List.length_map]; have := Lx said; omega
 ·obtain ⟨k,_,rfl⟩ := List.mem_map.mp h
  by_cases hk : k < ws.length
  ·rw [List.getD_eq_getElem?_getD,List.getElem?_eq_getElem hk]
   exact hw _ (List.getElem_mem hk)
  ·rw [List.getD_eq_getElem?_getD,List.getElem?_eq_none wF]
   exact Int.le_refl _
def CO (s : Int) : Option Int -> Bool
 | none => false
 | some i => decide (0 <= i) && decide (i <= s)
def A9 (m s : Int) (said : List (Option Int)) : Prop := (said.length : Int) = m /\ m <= 24 /\ ∀ w ∈ said,w = none \/ CO s w = true
def Jn : List D -> D -> Prop := λ ds d => ∃ w : Option Int,ds = [od w] /\ d = .bl w.isSome
def Jl : List D -> D -> Prop := λ ds d => ∃ (s : Int) (w : Option Int),ds = [.int s,od w] /\ d = .bl (CO s w)
def Jo : List D -> D -> Prop := λ ds d => ∃ (m s : Int) (said : List (Option Int)),ds = [.int m,.int s,.tup (said.map od)] /\ A9 m s said /\ d = .bl true
def Hj : List D -> D -> Prop := λ ds d => ∃ (m s : Int) (said : List (Option Int)),ds = [.int m,.int s,.tup (said.map od)] /\ A9 m s said /\ d = .non
def FN : List D -> D -> Prop := λ ds d => ∃ (x : Str) (v l h : Int),ds = [.str x,.int v,.int l,.int h] /\ (l <= v /\ v <= h) /\ d = .non
def MN : List D -> D -> Prop := λ ds d => ∃ m s : Int,ds = [.int m,.int s] /\ (1 <= m /\ m <= 24) /\ (1 <= s /\ s <= 10) /\ d = .non
def MI : List D -> D -> Prop := λ ds d => ∃ s : Int,ds = [.int s] /\ (1 <= s /\ s <= 10) /\ d = .non
def MZ : List D -> D -> Prop := λ ds d => ∃ t b : Int,ds = [.int t,.int b] /\ (0 <= t /\ t < b /\ b <= 100) /\ d = .non
def Jv : List D -> D -> Prop := λ ds d => ∃ said : List (Option Int),ds = [.tup (said.map od)] /\ said.length <= 24 /\ d = .lst ((ax said).map λ k => D.int (k : Nat))
def MP : List D -> D -> Prop := λ ds d => ∃ (said : List (Option Int)) (ws : List Int),ds = [.tup (said.map od),.tup (ws.map D.int)] /\ said.length <= 24 /\ ws.length = said.length /\ DK ws /\ d = .int (BV said ws)
def BG (m s : Int) : List (Str × D) := [("many",.int m),("scale",.int s)]
def BB (m s t b : Int) (ws : List Int) (u : Int) : List (Str × D) := [("many",.int m),("scale",.int s),("top",.int t),("bottom",.int b),("tops",.tup (ws.map D.int)),("under",.int u)]
theorem AA {f g : Str} {d x : D} {r : List (Str × D)} (h : (g = f) -> False) : A8 f d ((g,x) :: r) = (g,x) :: A8 f d r := by
 show (if g = f then (g,d) :: r else (g,x) :: A8 f d r) = _
 rw [if_neg h]
theorem EG {f : Str} {d x : D} {r : List (Str × D)} : A8 f d ((f,x) :: r) = (f,d) :: r := by
 show (if f = f then (f,d) :: r else (f,x) :: A8 f d r) = _
 rw [if_pos rfl]
theorem S3 (m s : Int) : A8 "scale" (.int s) (A8 "many" (.int m) []) = BG m s := by
 show A8 "scale" (.int s) [("many",.int m)] = _
 rw [AA wD]
 rfl
def f3 (m s t : Int) : List (Str × D) := [("many",.int m),("scale",.int s),("top",.int t)]
def f4 (m s t b : Int) : List (Str × D) := [("many",.int m),("scale",.int s),("top",.int t),("bottom",.int b)]
def f5 (m s t b : Int) (d : D) : List (Str × D) := [("many",.int m),("scale",.int s),("top",.int t),("bottom",.int b),("tops",d)]
theorem SW (m s t : Int) : A8 "top" (.int t) (BG m s) = f3 m s t := by
 unfold BG
 rw [AA wD,AA wD]
 rfl
theorem S6 (m s t b : Int) : A8 "bottom" (.int b) (f3 m s t) = f4 m s t b := by
 unfold f3
 rw [AA wD,AA wD,AA wD]
 rfl
theorem SV (m s t b : Int) (d : D) : A8 "tops" d (f4 m s t b) = f5 m s t b d := by
 unfold f4
 rw [AA wD,AA wD,AA wD,AA wD]
 rfl
theorem SU (m s t b u : Int) (ws : List Int) : A8 "under" (.int u) (f5 m s t b (.tup (ws.map D.int))) = BB m s t b ws u := by
 unfold f5
 rw [AA wD,AA wD,AA wD,AA wD,AA wD]
 rfl
theorem Br {f : Str} {d : D} {r : List (Str × D)} : List.lookup f ((f,d) :: r) = some d := by rw [List.lookup_cons,beq_self_eq_true]
theorem Ao {f g : Str} {d : D} {r : List (Str × D)} (h : (f == g) = false) : List.lookup f ((g,d) :: r) = List.lookup f r := by rw [List.lookup_cons,h]
section
variable (m s t b u : Int) (ws : List Int)
theorem GK : (BG m s).lookup ("many" : Str) = some (.int m) := Br
theorem Ig : (BG m s).lookup ("scale" : Str) = some (.int s) := by unfold BG; rw [Ao wD,Br]
theorem Wh : (BG m s).lookup ("heeded" : Str) = none := by unfold BG; rw [Ao wD,Ao wD]; rfl
theorem I0 : (BB m s t b ws u).lookup ("many" : Str) = some (.int m) := Br
theorem IZ : (BB m s t b ws u).lookup ("scale" : Str) = some (.int s) := by unfold BB; rw [Ao wD,Br]
theorem L5 : (BB m s t b ws u).lookup ("top" : Str) = some (.int t) := by unfold BB; rw [Ao wD,Ao wD,Br]
theorem L7 : (BB m s t b ws u).lookup ("bottom" : Str) = some (.int b) := by unfold BB; rw [Ao wD,Ao wD,Ao wD,Br]
theorem Qs : (BB m s t b ws u).lookup ("tops" : Str) = some (.tup (ws.map D.int)) := by unfold BB; rw [Ao wD,Ao wD,Ao wD,Ao wD,Br]
theorem Qr : (BB m s t b ws u).lookup ("under" : Str) = some (.int u) := by unfold BB; rw [Ao wD,Ao wD,Ao wD,Ao wD,Ao wD,Br]
theorem L6 {f : Str} (h : ([("many" : Str),"scale","top","bottom","tops","under"].all λ g => !(f == g)) = true) : (BB m s t b ws u).lookup f = none := by
 simp only [List.all_cons,List.all_nil,Bool.and_true,Bool.and_eq_true,Bool.not_eq_true'] at h
 obtain ⟨h1,h2,h3,h4,h5,h6⟩ := h
 unfold BB
 rw [Ao h1,Ao h2,Ao h3,Ao h4,Ao h5,Ao h6]
 rfl
end
def MU (CK1 : Addr) : AQ := λ ds O R => ∃ (q : Nat) (m s : Int),ds = [.ptr q] /\ O[q]? = some (some (.ins CK1 (BG m s))) /\ (1 <= m /\ m <= 24) /\ R (.tup ((List.replicate m.toNat (1 : Int)).map D.int)) O
theorem Cp {O : Ac} {q : Nat} {x y : Option MO} (h : O[q]? = some x) : (O.set q y)[q]? = some y := by
 have := (List.getElem?_eq_some_iff.mp h).1
 rw [List.getElem?_set_self this]
theorem N3 (n : Nat) : (List.replicate n [D.int 1]).flatten = (List.replicate n (1 : Int)).map D.int := by rw [KH,List.map_replicate]
def Gi (m : Nat) (s : Int) (t : Tn) : Prop := t.1.length = m /\ (∀ w ∈ t.1,w = none \/ CO s w = true) /\ 0 <= t.2 /\ t.2 <= s
theorem Gi.said {m : Nat} {s : Int} {t : Tn} (h : Gi m s t) (hm : m <= 24) : A9 (m : Nat) s t.1 := ⟨by rw [h.1],by omega,h.2.1⟩
def Hi : List D -> D -> Prop := λ ds d => ∃ b n : Int,ds = [.int b,.int n] /\ (0 <= b /\ b <= 1000) /\ (0 <= n /\ n <= 60000) /\ d = .int (b ^ n.toNat)
theorem NP {a b : Int} (h0 : 0 <= a) (h : a <= b) : ∀ n : Nat,a ^ n <= b ^ n
 | 0 => by simp
 | n + 1 => by
  rw [Int.pow_succ,Int.pow_succ]
  exact Int.mul_le_mul (NP h0 h n) h h0 (Int.pow_nonneg (Int.le_trans h0 h))
theorem Rm {a : Int} (h0 : 0 <= a) (h : a < 256) (n : Nat) : 0 <= a ^ n /\ a ^ n < 2 ^ (8 * n + 1) := by
 refine ⟨Int.pow_nonneg h0,?_⟩
 have h1 : a ^ n <= 256 ^ n := NP h0 (Int.le_of_lt h) n
 have h2 : (2 : Int) ^ (8 * n + 1) = 256 ^ n * 2 := by rw [Int.pow_succ,Int.pow_mul]; rfl
 have h3 : (0 : Int) < 256 ^ n := Int.pow_pos wE
 rw [h2]
 omega
def FO : List D -> D -> Prop := λ ds d => ∃ (w : Option Int) (z : Int),ds = [od w,.int z] /\ d = .int (EL w z)
def tA (t b sc own off : Int) : Int := t ^ off.toNat * b ^ (sc - off).toNat * 2 * b ^ own.toNat
def tS (t b sc own : Int) : Int := b ^ sc.toNat * (b ^ own.toNat + t ^ own.toNat)
def tF (t b sc own so : Int) : Option Int -> Int
 | none => tS t b sc own
 | some x => tA t b sc own (ab (x - so))
def CU (t b sc d so : Int) (said : List (Option Int)) (ws : List Int) : List Int := (ws.zip said).map λ p => p.1 * tF t b sc d so p.2
structure FG (sc t b : Int) : Prop where
 s1 : 1 <= sc
 s2 : sc <= 10
 t0 : 0 <= t
 tb : t < b
 b2 : b <= 100
theorem Dl {x y : Int} {a c : Nat} (x0 : 0 <= x) (x1 : x < 2 ^ a) (y0 : 0 <= y) (y1 : y < 2 ^ c) : 0 <= x * y /\ x * y < 2 ^ (a + c) := by
 refine ⟨Int.mul_nonneg x0 y0,?_⟩
 rw [Int.pow_add]
 by_cases h : y = 0
 ·subst h
  rw [Int.mul_zero]
  exact Int.mul_pos (Int.pow_pos wE) (Int.pow_pos wE)
 ·have h1 : x * y < 2 ^ a * y := Int.mul_lt_mul_of_pos_right x1 wF
  have h2 : 2 ^ a * y <= 2 ^ a * 2 ^ c := Int.mul_le_mul_of_nonneg_left (Int.le_of_lt y1) (Int.pow_nonneg wE)
  omega
theorem Fl {x : Int} {a c : Nat} (h : x < 2 ^ a) (hc : a <= c) : x < 2 ^ c := by
 obtain ⟨d,rfl⟩ := Nat.exists_eq_add_of_le hc
 have h1 : (1 : Int) <= 2 ^ d := Int.pow_pos wE
 have h2 : (0 : Int) <= 2 ^ a := Int.pow_nonneg wE
 have := Int.mul_le_mul_of_nonneg_left h1 h2
 rw [Int.pow_add]
 omega
theorem Dj {x : Int} {e : Int} (h0 : 0 <= x) (h1 : x <= 100) (he : e <= 10) : 0 <= x ^ e.toNat /\ x ^ e.toNat < 2 ^ 81 := by
 have := Rm h0 (show x < 256 by omega) e.toNat
 exact ⟨this.1,Fl this.2 wF⟩
theorem Rb {sc t b own off : Int} (h : FG sc t b) (ho : own <= sc) (hf : 0 <= off /\ off <= sc) : 0 <= tA t b sc own off /\ tA t b sc own off < 2 ^ 250 := by
 have := h.s1; have := h.s2; have := h.t0; have := h.tb; have := h.b2
 have a1 := Dj (x := t) (e := off) h.t0 wF wF
 have a2 := Dj (x := b) (e := sc - off) wF wF wF
 have a3 := Dj (x := b) (e := own) wF wF wF
 have b1 := Dl a1.1 a1.2 a2.1 a2.2
 have b2 := Dl (c := 2) b1.1 b1.2 (show (0 : Int) <= 2 by decide) wE
 have b3 := Dl b2.1 b2.2 a3.1 a3.2
 exact ⟨b3.1,Fl b3.2 wE⟩
theorem Hg {sc t b own : Int} (h : FG sc t b) (ho : own <= sc) : 0 <= tS t b sc own /\ tS t b sc own < 2 ^ 250 := by
 have := h.s1; have := h.s2; have := h.t0; have := h.tb; have := h.b2
 have a1 := Dj (x := b) (e := sc) wF wF wF
 have a2 := Dj (x := b) (e := own) wF wF wF
 have a3 := Dj (x := t) (e := own) h.t0 wF wF
 have e : (2 : Int) ^ 82 = 2 ^ 81 + 2 ^ 81 := by decide
 have b1 := Dl (y := b ^ own.toNat + t ^ own.toNat) (c := 82) a1.1 a1.2 wF (by rw [e]; omega)
 exact ⟨b1.1,Fl b1.2 wE⟩
theorem GG {s x : Int} (h : CO s (some x) = true) : 0 <= x /\ x <= s := by
 have h : (decide (0 <= x) && decide (x <= s)) = true := h
 rw [Bool.and_eq_true] at h
 exact ⟨of_decide_eq_true h.1,of_decide_eq_true h.2⟩
theorem IH {s x so : Int} (h : 0 <= x /\ x <= s) (hs : 0 <= so /\ so <= s) : 0 <= ab (x - so) /\ ab (x - so) <= s := by
 unfold ab
 split <;> omega
theorem Je {sc t b own so : Int} {w : Option Int} (h : FG sc t b) (ho : own <= sc) (hs : 0 <= so /\ so <= sc) (hw : w = none \/ CO sc w = true) : 0 <= tF t b sc own so w /\ tF t b sc own so w < 2 ^ 250 := by
 cases w with
 | none => exact Hg h ho
 | some x =>
  rcases hw with hw | hw
  ·cases hw
  ·exact Rb h ho (IH (GG hw) hs)
theorem GH {m sc : Int} {said : List (Option Int)} {ws : List Int} (hs : A9 m sc said) (h0 : 0 <= sc) (hw : DK ws) : 0 <= BV said ws /\ BV said ws <= sc := by
 have h24 : said.length <= 24 := by have := hs.1; have := hs.2.1; omega
 have hr := SD (Mg (ws := ws) h24 hw)
 unfold BV
 unfold KG at hr
 by_cases hn : Ee said = []
 ·rw [if_pos hn] at hr
  rw [of_decide_eq_true hr]
  omega
 ·rw [if_neg hn,Bool.and_eq_true] at hr
  have hm := of_decide_eq_true hr.1
  unfold Ee at hm
  obtain ⟨k,hk,e⟩ := List.mem_map.mp hm
  have hlt := ID hk
  have hq := (List.mem_filter.mp hk).2
  unfold Ee
  rw [<- e]
  have hmem : Ca said k ∈ said := by
   unfold Ca
   rw [List.getElem?_eq_getElem hlt]
   exact List.getElem_mem hlt
  cases hx : Ca said k with
  | none => rw [hx] at hq; cases hq
  | some x =>
   rw [hx] at hmem
   rcases hs.2.2 _ hmem with h | h
   ·cases h
   ·exact GG h
def MQ : List D -> D -> Prop := λ ds d => ∃ (m s : Int) (said : List (Option Int)) (so : Int),ds = [.int m,.int s,.tup [.tup (said.map od),.int so]] /\ A9 m s said /\ (0 <= so /\ so <= s) /\ d = .bl true
def Fh : List D -> D -> Prop := λ ds d => ∃ (m s : Int) (said : List (Option Int)) (so : Int),ds = [.int m,.int s,.tup (said.map od),.int so] /\ A9 m s said /\ (0 <= so /\ so <= s) /\ d = .non
theorem Qq (m s t b u : Int) (ws vs : List Int) : A8 "tops" (.tup (vs.map D.int)) (BB m s t b ws u) = BB m s t b vs u := by
 unfold BB
 rw [AA wD,AA wD,AA wD,AA wD,EG]
theorem Qp (m s t b u v : Int) (ws : List Int) : A8 "under" (.int v) (BB m s t b ws u) = BB m s t b ws v := by
 unfold BB
 rw [AA wD,AA wD,AA wD,AA wD,AA wD,EG]
theorem plL (a : List Int) : CA (.lst (a.map D.int)) = true := Tr a
theorem Xl (a : List Int) : DI (.lst (a.map D.int)) <= 60 := by
 have := Xo a
 show DH (a.map D.int) + 1 <= 60
 omega
theorem HR {t b sc dd so : Int} {said : List (Option Int)} {ws : List Int} (h : ws.length = said.length) : (CU t b sc dd so said ws).length = ws.length := by
 unfold CU
 rw [List.length_map,List.length_zip]
 omega
def Ec (sc : Int) (said : List (Option Int)) : List (Option Int) := said.map λ w => w.map λ x => sc - x
theorem TW {m sc : Int} {said : List (Option Int)} (h : A9 m sc said) : A9 m sc (Ec sc said) := by
 refine ⟨by unfold Ec; rw [List.length_map]; exact h.1,h.2.1,λ w hw => ?_⟩
 obtain ⟨v,hv,rfl⟩ := List.mem_map.mp hw
 cases v with
 | none => exact .inl rfl
 | some x =>
  have := GG ((h.2.2 _ hv).resolve_left (λ h => by cases h))
  right
  show (decide (0 <= sc - x) && decide (sc - x <= sc)) = true
  rw [decide_eq_true wF,decide_eq_true wF]
  rfl
def CD (x : Int) : Int := (x * x + 48271 * x + 11) % 2147483647
def Lo (x : Int) : Prop := 0 <= x /\ x < 2147483647
theorem FZ (x : Int) : Lo (CD x) := by unfold Lo CD; omega
def Cd (c k : Int) : Int := CD (CD ((c % 2147483647 + 69621 * k * k + 5) % 2147483647))
theorem Jy (c k : Int) : Lo (Cd c k) := FZ _
def Gv : List D -> D -> Prop := λ ds d => ∃ x : Int,ds = [.int x] /\ (0 <= x /\ x < 3000000000) /\ d = .int (CD x)
def Jk : List D -> D -> Prop := λ ds d => ∃ (ns : List Int) (k : Int),ds = [.scr (ns.map D.int),.int k] /\ (0 <= k /\ k <= 1000) /\ d = .int (Cd (BX ns k) k)
def Eu (s : Int) (sl : Bool) (so k x : Int) : Option Int := if (sl && decide (x % 4 = 0)) = true then none else some (if 1 < x / 3 % (k % 7 + 3) then so else x / 16 % (s + 1))
def DB (s : Int) (sl : Bool) (so : Int) : Nat -> Nat -> Int -> List (Option Int)
 | 0,_,_ => []
 | n + 1,k,x => Eu s sl so (k : Int) (CD (x + (k : Int))) :: DB s sl so n (k + 1) (CD (x + (k : Int)))
theorem NA (s : Int) (sl : Bool) (so : Int) : ∀ (n k : Nat) (x : Int),(DB s sl so n k x).length = n
 | 0,_,_ => rfl
 | n + 1,k,x => by unfold DB; rw [List.length_cons,NA s sl so n]
theorem Qt {s so : Int} {sl : Bool} (hs : 1 <= s) (hso : 0 <= so /\ so <= s) (k x : Int) : Eu s sl so k x = none \/ CO s (Eu s sl so k x) = true := by
 unfold Eu
 split
 ·exact .inl rfl
 ·right
  show (decide (0 <= _) && decide (_ <= s)) = true
  rw [Bool.and_eq_true,decide_eq_true_eq,decide_eq_true_eq]
  have h1 := Int.emod_nonneg (x / 16) (show s + 1 ≠ 0 by omega)
  have h2 := Int.emod_lt_of_pos (x / 16) (show 0 < s + 1 by omega)
  split <;> omega
theorem Nz {s so : Int} {sl : Bool} (hs : 1 <= s) (hso : 0 <= so /\ so <= s) : ∀ (n k : Nat) (x : Int),∀ w ∈ DB s sl so n k x,w = none \/ CO s w = true
 | 0,_,_,w,h => by cases h
 | n + 1,k,x,w,h => by
  unfold DB at h
  rcases List.mem_cons.mp h with rfl | h
  ·exact Qt hs hso _ _
  ·exact Nz hs hso n _ _ w h
def FK (m : Nat) (s : Int) (sl : Bool) (x : Int) : Tn := (DB s sl (x / 7 % (s + 1)) m 0 x,x / 7 % (s + 1))
theorem QI {m : Nat} {s : Int} {sl : Bool} (hs : 1 <= s) (x : Int) : Gi m s (FK m s sl x) := by
 have h1 := Int.emod_nonneg (x / 7) (show s + 1 ≠ 0 by omega)
 have h2 := Int.emod_lt_of_pos (x / 7) (show 0 < s + 1 by omega)
 exact ⟨NA _ _ _ _ _ _,Nz hs ⟨h1,by omega⟩ _ _ _,h1,show x / 7 % (s + 1) <= s by omega⟩
def MD : List D -> D -> Prop := λ ds d => ∃ (x : Int) (m : Nat) (s : Int) (sl : Bool),ds = [.int x,.int (m : Nat),.int s,.bl sl] /\ Lo x /\ m <= 24 /\ 1 <= s /\ d = tD (FK m s sl x)
def Im : List Int := [3,3,3,3,3,8,3,3]
def C5 (x : Int) : Int := Im.getD (x % 8).toNat 0
theorem WB (x : Int) : Bt (Im.map D.int) (x % 8) = some (.int (C5 x)) := by
 have h : 0 <= x % 8 /\ x % 8 < 8 := by omega
 unfold C5
 generalize x % 8 = i at h
 obtain ⟨k,rfl⟩ := Int.eq_ofNat_of_zero_le h.1
 have hk : k < 8 := by omega
 have : k = 0 \/ k = 1 \/ k = 2 \/ k = 3 \/ k = 4 \/ k = 5 \/ k = 6 \/ k = 7 := by omega
 rcases this with rfl | rfl | rfl | rfl | rfl | rfl | rfl | rfl <;> rfl
theorem WA (x : Int) : 3 <= C5 x /\ C5 x <= 30 := by
 have h : (x % 8).toNat < 8 := by omega
 unfold C5
 generalize (x % 8).toNat = i at h
 have : ∀ k : Nat,k < 8 -> 3 <= Im.getD k 0 /\ Im.getD k 0 <= 30 := by decide
 exact this i h
def DV (m : Nat) : Int := if 8 < m then 8 else 24
def D2 (ns : List Int) (st : Int) (m : Nat) : Int :=
 if st + DV m < (if st + C5 (Cd (BX ns st) st) > (ns.length : Nat) then st + C5 (Cd (BX ns st) st) else (ns.length : Nat)) then st + DV m else (if st + C5 (Cd (BX ns st) st) > (ns.length : Nat) then st + C5 (Cd (BX ns st) st) else (ns.length : Nat))
def FJ (ns : List Int) (st : Int) (m : Nat) (s : Int) (sl : Bool) : List Tn := (List.range (D2 ns st m - st).toNat).map λ j : Nat => FK m s sl (Cd (BX ns (st + (j : Int))) (st + (j : Int)))
theorem Xf (ns : List Int) (st : Int) (m : Nat) : D2 ns st m <= st + 60 := by
 unfold D2 DV
 split <;> split <;> split <;> omega
theorem Xg {ns : List Int} {st : Int} {m : Nat} : st + 3 <= D2 ns st m := by
 have := WA (Cd (BX ns st) st)
 unfold D2 DV
 split <;> split <;> split <;> omega
theorem QB {ns : List Int} {st : Int} {m : Nat} {s : Int} {sl : Bool} (hs : 1 <= s) : ∀ t ∈ FJ ns st m s sl,Gi m s t := λ t ht => by
 obtain ⟨j,_,rfl⟩ := List.mem_map.mp ht
 exact QI hs _
def MC : List D -> D -> Prop := λ ds d => ∃ (ns : List Int) (st : Int) (m : Nat) (s : Int) (sl : Bool),ds = [.scr (ns.map D.int),.int st,.int (m : Nat),.int s,.bl sl] /\ ns.length <= 63 /\ (0 <= st /\ st <= 10) /\ m <= 24 /\ 1 <= s /\ d = .tup ((FJ ns st m s sl).map tD)
def HJ : List D -> Prop := λ ds => ∃ c : Int,ds = [.int c]
def NE : List D -> D -> Prop := λ _ d => ∃ m : Nat,d = .int (m : Nat) /\ 1 <= m /\ m <= 24
def ND : List D -> D -> Prop := λ _ d => ∃ s : Int,d = .int s /\ 1 <= s /\ s <= 10
theorem QA {a b i : Int} (h : i = 0 \/ i = 1) : Bt [D.int a,D.int b] i = some (.int (if i = 0 then a else b)) := by
 rcases h with rfl | rfl <;> rfl
structure SP where
 m : Int
 sc : Int
 t : Int
 b : Int
 sh : Int
 pa : Int
def f7 (m s t b : Int) (ws : List Int) (u sh : Int) : List (Str × D) := [("many",.int m),("scale",.int s),("top",.int t),("bottom",.int b),("tops",.tup (ws.map D.int)),("under",.int u),("share",.int sh)]
def Bo (p : SP) (ws : List Int) (u : Int) : List (Str × D) := [("many",.int p.m),("scale",.int p.sc),("top",.int p.t),("bottom",.int p.b),("tops",.tup (ws.map D.int)),("under",.int u),("share",.int p.sh),("parts",.int p.pa)]
theorem SX (m s t b u sh : Int) (ws : List Int) : A8 "share" (.int sh) (BB m s t b ws u) = f7 m s t b ws u sh := by
 unfold BB
 rw [AA wD,AA wD,AA wD,AA wD,AA wD,AA wD]
 rfl
theorem S0 (m s t b u sh pa : Int) (ws : List Int) : A8 "parts" (.int pa) (f7 m s t b ws u sh) = Bo ⟨m,s,t,b,sh,pa⟩ ws u := by
 unfold f7
 rw [AA wD,AA wD,AA wD,AA wD,AA wD,AA wD,AA wD]
 rfl
theorem MA (p : SP) (u : Int) (ws vs : List Int) : A8 "tops" (.tup (vs.map D.int)) (Bo p ws u) = Bo p vs u := by
 unfold Bo
 rw [AA wD,AA wD,AA wD,AA wD,EG]
theorem Mz (p : SP) (u v : Int) (ws : List Int) : A8 "under" (.int v) (Bo p ws u) = Bo p ws v := by
 unfold Bo
 rw [AA wD,AA wD,AA wD,AA wD,AA wD,EG]
section
variable (p : SP) (u : Int) (ws : List Int)
theorem Gq : (Bo p ws u).lookup ("many" : Str) = some (.int p.m) := Br
theorem IV : (Bo p ws u).lookup ("scale" : Str) = some (.int p.sc) := by unfold Bo; rw [Ao wD,Br]
theorem LW : (Bo p ws u).lookup ("top" : Str) = some (.int p.t) := by unfold Bo; rw [Ao wD,Ao wD,Br]
theorem LX : (Bo p ws u).lookup ("bottom" : Str) = some (.int p.b) := by unfold Bo; rw [Ao wD,Ao wD,Ao wD,Br]
theorem IT : (Bo p ws u).lookup ("tops" : Str) = some (.tup (ws.map D.int)) := by unfold Bo; rw [Ao wD,Ao wD,Ao wD,Ao wD,Br]
theorem LU : (Bo p ws u).lookup ("under" : Str) = some (.int u) := by unfold Bo; rw [Ao wD,Ao wD,Ao wD,Ao wD,Ao wD,Br]
theorem IU : (Bo p ws u).lookup ("share" : Str) = some (.int p.sh) := by unfold Bo; rw [Ao wD,Ao wD,Ao wD,Ao wD,Ao wD,Ao wD,Br]
theorem IW : (Bo p ws u).lookup ("parts" : Str) = some (.int p.pa) := by unfold Bo; rw [Ao wD,Ao wD,Ao wD,Ao wD,Ao wD,Ao wD,Ao wD,Br]
theorem IX {f : Str} (h : ([("many" : Str),"scale","top","bottom","tops","under","share","parts"].all λ g => !(f == g)) = true) : (Bo p ws u).lookup f = none := by
 simp only [List.all_cons,List.all_nil,Bool.and_true,Bool.and_eq_true,Bool.not_eq_true'] at h
 obtain ⟨h1,h2,h3,h4,h5,h6,h7,h8⟩ := h
 unfold Bo
 rw [Ao h1,Ao h2,Ao h3,Ao h4,Ao h5,Ao h6,Ao h7,Ao h8]
 rfl
end
structure Gj (p : SP) : Prop where
 f : FG p.sc p.t p.b
 m1 : 1 <= p.m
 m2 : p.m <= 24
 h1 : 1 <= p.sh
 h2 : p.sh < p.pa
 h3 : p.pa <= 100
def IK (C : Addr) (O : Ac) (q : Nat) (p : SP) (ws : List Int) (u : Int) : Prop := O[q]? = some (some (.ins C (Bo p ws u)))
structure D3 (n : Nat) (ws : List Int) (u : Int) : Prop where
 w : ∀ x ∈ ws,0 <= x /\ x < 2 ^ (270 * (n + 1))
 u0 : 0 <= u
 u1 : u < 2 ^ (270 * (n + 1))
theorem Ja (n : Nat) : D3 0 (List.replicate n 1) 1 := ⟨λ x hx => by rw [List.eq_of_mem_replicate hx]; exact ⟨by decide,by decide⟩,by decide,by decide⟩
def DJ (p : SP) (ws : List Int) : List Int := ws.map λ w => w * (p.m * (p.pa - p.sh)) + p.sh * ws.sum
theorem Xr (p : SP) (ws : List Int) : (DJ p ws).length = ws.length := by unfold DJ; rw [List.length_map]
theorem OC {p : SP} (h : Gj p) : 0 <= p.m * (p.pa - p.sh) /\ p.m * (p.pa - p.sh) <= 2376 := by
 have := h.m1; have := h.m2; have := h.h1; have := h.h2; have := h.h3
 have h1 : p.m * (p.pa - p.sh) <= 24 * (p.pa - p.sh) := Int.mul_le_mul_of_nonneg_right wF wF
 have h2 : 0 <= p.m * (p.pa - p.sh) := Int.mul_nonneg wF wF
 omega
theorem Xq {p : SP} {ws : List Int} {e : Nat} (h : Gj p) (hl : ws.length <= 24) (hw : ∀ x ∈ ws,0 <= x /\ x < 2 ^ e) : ∀ x ∈ DJ p ws,0 <= x /\ x < 2 ^ (e + 13) := by
 have := h.h1; have := h.h2; have := h.h3
 have hk := OC h
 have hE : (1 : Int) <= 2 ^ e := Int.pow_pos wE
 have e13 : (2 : Int) ^ (e + 13) = 2 ^ e * 8192 := by rw [Int.pow_add]; rfl
 have hs0 : 0 <= ws.sum := by
  have := Hl (g := λ x : Int => x) (l := ws) λ v hv => (hw v hv).1
  rw [<- Hk,List.map_id'] at this
  exact this
 have hs1 : ws.sum <= 24 * 2 ^ e := by
  have := sm_bd' (g := λ x : Int => x) (l := ws) (B := 2 ^ e) (n := 24) wF hl λ v hv => by have := (hw v hv).2; omega
  rw [<- Hk,List.map_id'] at this
  exact this
 rw [e13]
 generalize (2 : Int) ^ e = E at hE hs1 hw
 intro x hx
 obtain ⟨w,hw',rfl⟩ := List.mem_map.mp hx
 have h1 := hw w hw'
 generalize p.m * (p.pa - p.sh) = K at hk
 have a1 : w * K <= E * K := Int.mul_le_mul_of_nonneg_right wF hk.1
 have a2 : E * K <= E * 2376 := Int.mul_le_mul_of_nonneg_left hk.2 wF
 have a3 : p.sh * ws.sum <= 99 * ws.sum := Int.mul_le_mul_of_nonneg_right wF hs0
 have a4 : 0 <= p.sh * ws.sum := Int.mul_nonneg wF hs0
 have a5 : 0 <= w * K := Int.mul_nonneg h1.1 hk.1
 omega
theorem Qv {n : Nat} {p : SP} {dd so u : Int} {said : List (Option Int)} {ws : List Int} (h : Gj p) (hw : D3 n ws u) (hl : ws.length = said.length) (h24 : said.length <= 24) (hs : ∀ w ∈ said,w = none \/ CO p.sc w = true) (hso : 0 <= so /\ so <= p.sc) (hd : 0 <= dd /\ dd <= p.sc) : D3 (n + 1) (DJ p (CU p.t p.b p.sc dd so said ws)) (u * tS p.t p.b p.sc dd * p.m * p.pa) := by
 have := h.m1; have := h.m2; have := h.h1; have := h.h2; have := h.h3
 have h1 := Hg (own := dd) h.f hd.2
 have h2 := Dl hw.u0 hw.u1 h1.1 h1.2
 have h3 := Dl (c := 5) h2.1 h2.2 (show 0 <= p.m by omega) wF
 have h4 := Dl (c := 7) h3.1 h3.2 (show 0 <= p.pa by omega) wF
 refine ⟨λ x hx => ?_,h4.1,Fl h4.2 wF⟩
 have hb : ∀ x ∈ CU p.t p.b p.sc dd so said ws,0 <= x /\ x < 2 ^ (270 * (n + 1) + 250) := λ x hx => by
  obtain ⟨q,hq,rfl⟩ := List.mem_map.mp hx
  have g3 := hw.w _ (List.of_mem_zip hq).1
  have g4 := Je h.f hd.2 hso (hs _ (List.of_mem_zip hq).2)
  exact Dl g3.1 g3.2 g4.1 g4.2
 have := Xq h (by rw [HR hl,hl]; exact h24) hb x hx
 exact ⟨this.1,Fl this.2 wF⟩
def MH : List D -> D -> Prop := λ ds d => ∃ a b : Int,ds = [.int a,.int b] /\ (1 <= a /\ a < b /\ b <= 100) /\ d = .non
def Jp (C : Addr) : AQ := λ ds O R => ∃ (q : Nat) (p : SP),ds = [.ptr q,.int p.m,.int p.sc,.int p.t,.int p.b,.int p.sh,.int p.pa] /\ O[q]? = some (some (.ins C [])) /\ Gj p /\ R .non (O.set q (some (.ins C (Bo p (List.replicate p.m.toNat 1) 1))))
def M7 (C : Addr) : AQ := λ ds O R => ∃ (q : Nat) (p : SP) (u : Int) (ws : List Int),ds = [.ptr q] /\ IK C O q p ws u /\ Gj p /\ ws.length <= 24 /\ R .non (O.set q (some (.ins C (Bo p (DJ p ws) (u * p.m * p.pa)))))
def CQ (CW CS : Addr) : Bool -> Addr
 | false => CW
 | true => CS
def Ch (sf : Bool) (p : SP) (ws : List Int) (u : Int) : List (Str × D) := match sf with
 | false => BB p.m p.sc p.t p.b ws u
 | true => Bo p ws u
section
variable (sf : Bool) (p : SP) (u : Int) (ws : List Int)
theorem Mb : (Ch sf p ws u).lookup ("many" : Str) = some (.int p.m) := by cases sf; exact I0 ..; exact Gq ..
theorem Hc : (Ch sf p ws u).lookup ("scale" : Str) = some (.int p.sc) := by cases sf; exact IZ ..; exact IV ..
theorem Ma : (Ch sf p ws u).lookup ("top" : Str) = some (.int p.t) := by cases sf; exact L5 ..; exact LW ..
theorem Hd : (Ch sf p ws u).lookup ("bottom" : Str) = some (.int p.b) := by cases sf; exact L7 ..; exact LX ..
theorem L9 : (Ch sf p ws u).lookup ("tops" : Str) = some (.tup (ws.map D.int)) := by cases sf; exact Qs ..; exact IT ..
theorem Qy : (Ch sf p ws u).lookup ("under" : Str) = some (.int u) := by cases sf; exact Qr ..; exact LU ..
theorem Gr {f : Str} (h : ([("many" : Str),"scale","top","bottom","tops","under"].all λ g => !(f == g)) = true) (h2 : ([("many" : Str),"scale","top","bottom","tops","under","share","parts"].all λ g => !(f == g)) = true) : (Ch sf p ws u).lookup f = none := by
 cases sf
 ·exact L6 _ _ _ _ _ _ h
 ·exact IX _ _ _ h2
theorem L8 : (Ch sf p ws u).length < 1000 := by cases sf; show 6 < 1000; decide; show 8 < 1000; decide
theorem Qx (vs : List Int) : A8 "tops" (.tup (vs.map D.int)) (Ch sf p ws u) = Ch sf p vs u := by cases sf; exact Qq ..; exact MA ..
theorem Qw (v : Int) : A8 "under" (.int v) (Ch sf p ws u) = Ch sf p ws v := by cases sf; exact Qp ..; exact Mz ..
end
def EN (CW CS : Addr) (O : Ac) (q : Nat) (sf : Bool) (p : SP) (ws : List Int) (u : Int) : Prop := O[q]? = some (some (.ins (CQ CW CS sf) (Ch sf p ws u)))
structure Du (sf : Bool) (p : SP) : Prop where
 f : FG p.sc p.t p.b
 m1 : 1 <= p.m
 m2 : p.m <= 24
 s : sf = true -> 1 <= p.sh /\ p.sh < p.pa /\ p.pa <= 100
theorem Du.so {p : SP} (h : Du true p) : Gj p := ⟨h.f,h.m1,h.m2,(h.s rfl).1,(h.s rfl).2.1,(h.s rfl).2.2⟩
def Ie (sf : Bool) (p : SP) (said : List (Option Int)) (so : Int) (ws : List Int) : List Int := match sf with
 | false => CU p.t p.b p.sc (ab (BV said ws - so)) so said ws
 | true => DJ p (CU p.t p.b p.sc (ab (BV said ws - so)) so said ws)
def K5 (sf : Bool) (p : SP) (said : List (Option Int)) (so : Int) (ws : List Int) (u : Int) : Int := match sf with
 | false => u * tS p.t p.b p.sc (ab (BV said ws - so))
 | true => u * tS p.t p.b p.sc (ab (BV said ws - so)) * p.m * p.pa
section
variable {P : Program} {w : World} {K : PySem.W.Frag} {mg : Str -> Option Value} {base : Heap} {CW CS : Addr} {k1 k2 : Nat} {m : Str} {sp : AQ} {sq : Bool -> AQ}
theorem cv (h1 : A6 K CW) (h2 : A6 K CS) (sf : Bool) : A6 K (CQ CW CS sf) := by cases sf; exact h1; exact h2
theorem nv (h1 : As K CW m) (h2 : As K CS m) (sf : Bool) : As K (CQ CW CS sf) m := by cases sf; exact h1; exact h2
theorem mv (h1 : Ai P w K mg base CW k1 m sp) (h2 : Ai P w K mg base CS k1 m sp) (sf : Bool) : Ai P w K mg base (CQ CW CS sf) k1 m sp := by cases sf; exact h1; exact h2
theorem mv2 (h1 : Ai P w K mg base CW k1 m (sq false)) (h2 : Ai P w K mg base CS k2 m (sq true)) (sf : Bool) : Ai P w K mg base (CQ CW CS sf) (max k1 k2) m (sq sf) := by cases sf; exact h1.mono (Nat.le_max_left _ _); exact h2.mono (Nat.le_max_right _ _)
end
def Gx (CW CS : Addr) : AQ := λ ds O R => ∃ (q : Nat) (sf : Bool) (p : SP),ds = [.ptr q,.int p.m,.int p.sc,.int p.t,.int p.b] /\ O[q]? = some (some (.ins (CQ CW CS sf) [])) /\ Du false p /\ R .non (O.set q (some (.ins (CQ CW CS sf) (BB p.m p.sc p.t p.b (List.replicate p.m.toNat 1) 1))))
def Jr (CW CS : Addr) : AQ := λ ds O R => ∃ (q : Nat) (sf : Bool) (p : SP) (u : Int) (ws : List Int),ds = [.ptr q] /\ EN CW CS O q sf p ws u /\ R (.tup (ws.map D.int)) O
def MG (CW CS : Addr) : AQ := λ ds O R => ∃ (q : Nat) (sf : Bool) (p : SP) (u own off : Int) (ws : List Int),ds = [.ptr q,.int own,.int off] /\ EN CW CS O q sf p ws u /\ Du sf p /\ (0 <= own /\ own <= p.sc) /\ (0 <= off /\ off <= p.sc) /\ R (.int (tA p.t p.b p.sc own off)) O
def Jj (CW CS : Addr) : AQ := λ ds O R => ∃ (q : Nat) (sf : Bool) (p : SP) (u own : Int) (ws : List Int),ds = [.ptr q,.int own] /\ EN CW CS O q sf p ws u /\ Du sf p /\ (0 <= own /\ own <= p.sc) /\ R (.int (tS p.t p.b p.sc own)) O
def MF (CW CS : Addr) : AQ := λ ds O R => ∃ (q : Nat) (sf : Bool) (p : SP) (u own so : Int) (w : Option Int) (ws : List Int),ds = [.ptr q,.int own,od w,.int so] /\ EN CW CS O q sf p ws u /\ Du sf p /\ (0 <= own /\ own <= p.sc) /\ (0 <= so /\ so <= p.sc) /\ (w = none \/ CO p.sc w = true) /\ R (.int (tF p.t p.b p.sc own so w)) O
def Ji (CW CS : Addr) : AQ := λ ds O R => ∃ (q n : Nat) (sf : Bool) (p : SP) (u so : Int) (said : List (Option Int)) (ws : List Int),ds = [.ptr q,.tup (said.map od),.int so] /\ EN CW CS O q sf p ws u /\ Du sf p /\ n <= 1000 /\ D3 n ws u /\ (ws.length : Int) = p.m /\ A9 p.m p.sc said /\ (0 <= so /\ so <= p.sc) /\
 R .non (O.set q (some (.ins (CQ CW CS sf) (Ch sf p (CU p.t p.b p.sc (ab (BV said ws - so)) so said ws) (u * tS p.t p.b p.sc (ab (BV said ws - so)))))))
def CT (CW CS : Addr) (sf : Bool) : AQ := λ ds O R => ∃ (q n : Nat) (p : SP) (u so : Int) (said : List (Option Int)) (ws : List Int),ds = [.ptr q,.tup (said.map od),.int so] /\ EN CW CS O q sf p ws u /\ Du sf p /\ n <= 1000 /\ D3 n ws u /\ (ws.length : Int) = p.m /\ A9 p.m p.sc said /\ (0 <= so /\ so <= p.sc) /\
 R .non (O.set q (some (.ins (CQ CW CS sf) (Ch sf p (Ie sf p said so ws) (K5 sf p said so ws u)))))
def C9 (CW CS : Addr) (sf : Bool) : AQ := λ ds O R => ∃ (q : Nat) (p : SP) (u : Int) (ws : List Int),ds = [.ptr q] /\ EN CW CS O q sf p ws u /\ Du sf p /\ R (.ptr O.length) (O ++ [some (.ins (CQ CW CS sf) (Ch sf p (List.replicate p.m.toNat 1) 1))])
theorem Qu {n : Nat} {t b sc dd so u : Int} {said : List (Option Int)} {ws : List Int} (hf : FG sc t b) (hw : D3 n ws u) (hs : ∀ w ∈ said,w = none \/ CO sc w = true) (hso : 0 <= so /\ so <= sc) (hd : 0 <= dd /\ dd <= sc) : D3 (n + 1) (CU t b sc dd so said ws) (u * tS t b sc dd) := by
 have h1 := Hg (own := dd) hf hd.2
 have h2 := Dl hw.u0 hw.u1 h1.1 h1.2
 refine ⟨λ x hx => ?_,h2.1,Fl h2.2 wF⟩
 obtain ⟨p,hp,rfl⟩ := List.mem_map.mp hx
 have h3 := hw.w _ (List.of_mem_zip hp).1
 have h4 := Je hf hd.2 hso (hs _ (List.of_mem_zip hp).2)
 have h5 := Dl h3.1 h3.2 h4.1 h4.2
 exact ⟨h5.1,Fl h5.2 wF⟩
theorem Wg {n : Nat} {sf : Bool} {p : SP} {u so : Int} {said : List (Option Int)} {ws : List Int} (h : Du sf p) (hw : D3 n ws u) (hl : (ws.length : Int) = p.m) (hs : A9 p.m p.sc said) (hso : 0 <= so /\ so <= p.sc) : D3 (n + 1) (Ie sf p said so ws) (K5 sf p said so ws u) /\ ((Ie sf p said so ws).length : Int) = p.m := by
 have hs1 := hs.1
 have h24 := hs.2.1
 have hd := IH (GH (ws := ws) hs (by have := h.f.s1; omega) (λ w h => (hw.w w h).1)) hso
 cases sf
 ·refine ⟨Qu h.f hw hs.2.2 hso hd,?_⟩
  show ((CU _ _ _ _ _ _ _).length : Int) = _
  rw [HR wF]; exact hl
 ·refine ⟨Qv h.so hw wF wF hs.2.2 hso hd,?_⟩
  show ((DJ _ _).length : Int) = _
  rw [Xr,HR wF]; exact hl
def EV (sc : List Int) (as : List Nat) (k : Nat) : Prop := k ∈ as /\ ∀ j ∈ as,sc.getD k 0 <= sc.getD j 0 /\ (sc.getD j 0 = sc.getD k 0 -> k <= j)
theorem EV.uniq {sc : List Int} {as : List Nat} {j k : Nat} (h : EV sc as j) (g : EV sc as k) : j = k := by
 have h1 := h.2 k g.1
 have g1 := g.2 j h.1
 have e : sc.getD j 0 = sc.getD k 0 := by omega
 have := h1.2 e.symm
 have := g1.2 e
 omega
def GM (sc : List Int) : List Nat -> Option Nat
 | [] => none
 | k :: as => match GM sc as with
  | none => some k
  | some j => if sc.getD j 0 < sc.getD k 0 then some j else some k
theorem Lc (sc : List Int) : ∀ as : List Nat,as.Pairwise (· < ·) -> as ≠ [] -> ∃ k,GM sc as = some k /\ EV sc as k
 | [],_,h => absurd rfl h
 | k :: as,hp,_ => by
  obtain ⟨hk,hp⟩ := List.pairwise_cons.mp hp
  unfold GM
  by_cases h0 : as = []
  ·subst h0
   refine ⟨k,rfl,List.mem_cons_self,λ j hj => ?_⟩
   rcases List.mem_cons.mp hj with rfl | hj
   ·exact ⟨Int.le_refl _,λ _ => Nat.le_refl _⟩
   ·cases hj
  ·obtain ⟨j,e,hj⟩ := Lc sc as hp h0
   rw [e]
   by_cases hd : sc.getD j 0 < sc.getD k 0
   ·refine ⟨j,if_pos hd,List.mem_cons_of_mem _ hj.1,λ i hi => ?_⟩
    rcases List.mem_cons.mp hi with rfl | hi
    ·exact ⟨by omega,λ z => by omega⟩
    ·exact hj.2 i hi
   ·refine ⟨k,if_neg hd,List.mem_cons_self,λ i hi => ?_⟩
    rcases List.mem_cons.mp hi with rfl | hi
    ·exact ⟨Int.le_refl _,λ _ => Nat.le_refl _⟩
    ·have := hj.2 i hi
     have := hk i hi
     exact ⟨by omega,λ _ => by omega⟩
theorem PQ (said : List (Option Int)) : (ax said).Pairwise (· < ·) := List.Pairwise.filter _ List.pairwise_lt_range
def D8 (sc : List Int) (said : List (Option Int)) : Int := match GM sc (ax said) with
 | none => 0
 | some k => (Ca said k).getD 0
theorem Ss {sc : List Int} {said : List (Option Int)} (h : ax said = []) : D8 sc said = 0 := by unfold D8; rw [h]; rfl
theorem So {sc : List Int} {said : List (Option Int)} {k : Nat} (h : EV sc (ax said) k) : D8 sc said = (Ca said k).getD 0 := by
 obtain ⟨j,e,hj⟩ := Lc sc (ax said) (PQ said) (List.ne_nil_of_mem h.1)
 unfold D8
 rw [e,hj.uniq h]
def F1 (said : List (Option Int)) (so : Int) (sc : List Int) : List Int := (sc.zip said).map λ p => p.1 + EL p.2 so
theorem Vu {said : List (Option Int)} {so : Int} {sc : List Int} (h : sc.length = said.length) : (F1 said so sc).length = sc.length := by
 unfold F1
 rw [List.length_map,List.length_zip]
 omega
def Ct (m s : Int) (ps sc : List Int) : List (Str × D) := [("many",.int m),("scale",.int s),("push",.tup (ps.map D.int)),("reached",.tup (sc.map D.int))]
def g2 (m s : Int) : List (Str × D) := [("many",.int m),("scale",.int s)]
def g3 (m s : Int) (d : D) : List (Str × D) := [("many",.int m),("scale",.int s),("push",d)]
theorem S5 (m s : Int) (d : D) : A8 "push" d (g2 m s) = g3 m s d := by
 unfold g2
 rw [AA wD,AA wD]
 rfl
theorem S4 (m s : Int) (ps sc : List Int) : A8 "reached" (.tup (sc.map D.int)) (g3 m s (.tup (ps.map D.int))) = Ct m s ps sc := by
 unfold g3
 rw [AA wD,AA wD,AA wD]
 rfl
theorem Wx (m s : Int) (ps sc s2 : List Int) : A8 "reached" (.tup (s2.map D.int)) (Ct m s ps sc) = Ct m s ps s2 := by
 unfold Ct
 rw [AA wD,AA wD,AA wD,EG]
section
variable (m s : Int) (ps sc : List Int)
theorem Il : (Ct m s ps sc).lookup ("many" : Str) = some (.int m) := Br
theorem Ij : (Ct m s ps sc).lookup ("scale" : Str) = some (.int s) := by unfold Ct; rw [Ao wD,Br]
theorem Wz : (Ct m s ps sc).lookup ("push" : Str) = some (.tup (ps.map D.int)) := by unfold Ct; rw [Ao wD,Ao wD,Br]
theorem OW : (Ct m s ps sc).lookup ("reached" : Str) = some (.tup (sc.map D.int)) := by unfold Ct; rw [Ao wD,Ao wD,Ao wD,Br]
theorem Ld {f : Str} (h : ([("many" : Str),"scale","push","reached"].all λ g => !(f == g)) = true) : (Ct m s ps sc).lookup f = none := by
 simp only [List.all_cons,List.all_nil,Bool.and_true,Bool.and_eq_true,Bool.not_eq_true'] at h
 obtain ⟨h1,h2,h3,h4⟩ := h
 unfold Ct
 rw [Ao h1,Ao h2,Ao h3,Ao h4]
 rfl
end
theorem Wv (m s : Int) (d : D) : (g3 m s d).lookup ("push" : Str) = some d := by unfold g3; rw [Ao wD,Ao wD,Br]
def LQ (CK0 : Addr) (O : Ac) (q : Nat) (m s : Int) (ps sc : List Int) : Prop := O[q]? = some (some (.ins CK0 (Ct m s ps sc)))
def FC (m : Int) (ps : List Int) : Prop := (ps.length : Int) = m /\ ∀ p ∈ ps,0 <= p /\ p <= 10 ^ (60 : Int).toNat - 1
def KL : Option (List Int) -> D
 | none => .non
 | some ps => .tup (ps.map D.int)
def FW (m : Int) (po : Option (List Int)) : List Int := po.getD (List.replicate m.toNat 0)
def ML : List D -> D -> Prop := λ ds d => ∃ (m : Int) (ps : List Int),ds = [.int m,.tup (ps.map D.int)] /\ FC m ps /\ m <= 24 /\ d = .non
def MK : List D -> D -> Prop := λ ds d => ∃ (m : Int) (po : Option (List Int)),ds = [.int m,KL po] /\ (1 <= m /\ m <= 24) /\ FC m (FW m po) /\ d = .tup ((FW m po).map D.int)
def M0 : List D -> D -> Prop := λ ds d => ∃ (sc : List Int) (as : List Nat) (k : Nat),ds = [.tup (sc.map D.int),.lst (as.map λ k => D.int (k : Nat))] /\ as.length <= 24 /\ (∀ k ∈ as,k < sc.length) /\ EV sc as k /\ d = .int (k : Nat)
def Gy (CK0 : Addr) : AQ := λ ds O R => ∃ (q : Nat) (m s : Int) (po : Option (List Int)),ds = [.ptr q,.int m,.int s,KL po] /\ O[q]? = some (some (.ins CK0 [])) /\ (1 <= m /\ m <= 24) /\ (1 <= s /\ s <= 10) /\ FC m (FW m po) /\ R .non (O.set q (some (.ins CK0 (Ct m s (FW m po) (FW m po)))))
def Ey (CK0 : Addr) : AQ := λ ds O R => ∃ (q : Nat) (m s : Int) (ps sc : List Int) (said : List (Option Int)),ds = [.ptr q,.tup (said.map od)] /\ LQ CK0 O q m s ps sc /\ (1 <= m /\ m <= 24) /\ A9 m s said /\ (sc.length : Int) = m /\ R (.int (D8 sc said)) O
def Fg (CK0 : Addr) : AQ := λ ds O R => ∃ (q : Nat) (m s so : Int) (ps sc : List Int) (said : List (Option Int)),ds = [.ptr q,.tup (said.map od),.int so] /\ LQ CK0 O q m s ps sc /\ (1 <= m /\ m <= 24) /\ A9 m s said /\ (0 <= so /\ so <= s) /\ (sc.length : Int) = m /\ R .non (O.set q (some (.ins CK0 (Ct m s ps (F1 said so sc)))))
def FR (CK0 : Addr) : AQ := λ ds O R => ∃ (q : Nat) (m s : Int) (ps sc : List Int),ds = [.ptr q] /\ LQ CK0 O q m s ps sc /\ (1 <= m /\ m <= 24) /\ (1 <= s /\ s <= 10) /\ FC m ps /\ R (.ptr O.length) (O ++ [some (.ins CK0 (Ct m s ps ps))])
theorem Ha (n : Nat) : (List.replicate n [D.int 0]).flatten = (List.replicate n (0 : Int)).map D.int := by rw [KH,List.map_replicate]
theorem VB {sc : List Int} {as : List Nat} {k : Nat} (h : EV sc as k) : Fm (as.map λ k => (sc.getD k 0,((k : Nat) : Int))) = (sc.getD k 0,((k : Nat) : Int)) := by
 have hne : (as.map λ k => (sc.getD k 0,((k : Nat) : Int))) ≠ [] := λ z => by
  rw [List.map_eq_nil_iff] at z
  have := h.1
  rw [z] at this
  cases this
 obtain ⟨j,hj,e⟩ := List.mem_map.mp (Vz hne)
 have hj2 : EV sc as j := by
  refine ⟨hj,λ i hi => ?_⟩
  have := VA (List.mem_map.mpr ⟨i,hi,rfl⟩ : (sc.getD i 0,((i : Nat) : Int)) ∈ as.map λ k => (sc.getD k 0,((k : Nat) : Int)))
  rw [<- e] at this
  have := of_decide_eq_false this
  refine ⟨?_,λ z => ?_⟩ <;> simp only [] at this <;> omega
 rw [<- e,hj2.uniq h]
theorem Sr {m s : Int} {sc : List Int} {said : List (Option Int)} (hs : A9 m s said) (h0 : 0 <= s) : 0 <= D8 sc said /\ D8 sc said <= s := by
 unfold D8
 cases e : GM sc (ax said) with
 | none => exact ⟨Int.le_refl _,h0⟩
 | some k =>
  show 0 <= (Ca said k).getD 0 /\ (Ca said k).getD 0 <= s
  unfold Ca
  by_cases hk : k < said.length
  ·rw [List.getElem?_eq_getElem hk]
   show 0 <= (said[k]).getD 0 /\ (said[k]).getD 0 <= s
   have hw := hs.2.2 _ (List.getElem_mem hk)
   generalize said[k] = w at hw
   cases w with
   | none => exact ⟨Int.le_refl _,h0⟩
   | some x => exact GG (hw.resolve_left (λ z => by cases z))
  ·rw [List.getElem?_eq_none wF]
   exact ⟨Int.le_refl _,h0⟩
def BU (m s : Int) (ins : List Bool) (ov : Int) : List (Str × D) := [("many",.int m),("scale",.int s),("inside",.tup (ins.map D.bl)),("over",.int ov)]
def IC (b : Bool) : Int := if b = true then 1 else 0
def r2 (m s : Int) : List (Str × D) := [("many",.int m),("scale",.int s)]
def r3 (m s : Int) (d : D) : List (Str × D) := [("many",.int m),("scale",.int s),("inside",d)]
theorem SZ (m s : Int) (d : D) : A8 "inside" d (r2 m s) = r3 m s d := by
 unfold r2
 rw [AA wD,AA wD]
 rfl
theorem SY (m s ov : Int) (ins : List Bool) : A8 "over" (.int ov) (r3 m s (.tup (ins.map D.bl))) = BU m s ins ov := by
 unfold r3
 rw [AA wD,AA wD,AA wD]
 rfl
theorem NB (m s ov : Int) (ins js : List Bool) : A8 "inside" (.tup (js.map D.bl)) (BU m s ins ov) = BU m s js ov := by
 unfold BU
 rw [AA wD,AA wD,EG]
theorem Sz (m s ov o2 : Int) (ins : List Bool) : A8 "over" (.int o2) (BU m s ins ov) = BU m s ins o2 := by
 unfold BU
 rw [AA wD,AA wD,AA wD,EG]
section
variable (m s ov : Int) (ins : List Bool)
theorem GC : (BU m s ins ov).lookup ("many" : Str) = some (.int m) := Br
theorem HE : (BU m s ins ov).lookup ("scale" : Str) = some (.int s) := by unfold BU; rw [Ao wD,Br]
theorem NC : (BU m s ins ov).lookup ("inside" : Str) = some (.tup (ins.map D.bl)) := by unfold BU; rw [Ao wD,Ao wD,Br]
theorem SC : (BU m s ins ov).lookup ("over" : Str) = some (.int ov) := by unfold BU; rw [Ao wD,Ao wD,Ao wD,Br]
theorem HF {f : Str} (h : ([("many" : Str),"scale","inside","over"].all λ g => !(f == g)) = true) : (BU m s ins ov).lookup f = none := by
 simp only [List.all_cons,List.all_nil,Bool.and_true,Bool.and_eq_true,Bool.not_eq_true'] at h
 obtain ⟨h1,h2,h3,h4⟩ := h
 unfold BU
 rw [Ao h1,Ao h2,Ao h3,Ao h4]
 rfl
end
def IL (CK2 : Addr) (O : Ac) (q : Nat) (m s : Int) (ins : List Bool) (ov : Int) : Prop := O[q]? = some (some (.ins CK2 (BU m s ins ov)))
def Eh (said : List (Option Int)) (so : Int) (ins : List Bool) : List Bool := (ins.zip said).map λ p => p.1 && decide (EL p.2 so = 0)
def F2 (said : List (Option Int)) (so : Int) (ins : List Bool) : List Bool := if (Eh said so ins).any id = true then Eh said so ins else List.replicate ins.length true
def KU (said : List (Option Int)) (so : Int) (ins : List Bool) (ov : Int) : Int := if (Eh said so ins).any id = true then ov else ov + 1
def D6 (ins : List Bool) : List Int := ins.map IC
theorem L4 (ins : List Bool) : DK (D6 ins) := λ w h => by
 obtain ⟨b,_,rfl⟩ := List.mem_map.mp h
 unfold IC
 split <;> decide
theorem Wk (ins : List Bool) : (ins.map λ q => if q = true then D.int 1 else D.int 0) = (D6 ins).map D.int := by
 unfold D6
 rw [List.map_map]
 refine List.map_congr_left λ b _ => ?_
 show (if b = true then D.int 1 else D.int 0) = D.int (IC b)
 unfold IC
 cases b <;> rfl
theorem Oz {said : List (Option Int)} {so : Int} {ins : List Bool} (h : ins.length = said.length) : (Eh said so ins).length = ins.length := by
 unfold Eh
 rw [List.length_map,List.length_zip]
 omega
theorem Vv {said : List (Option Int)} {so : Int} {ins : List Bool} (h : ins.length = said.length) : (F2 said so ins).length = ins.length := by
 unfold F2
 split
 ·exact Oz h
 ·rw [List.length_replicate]
theorem Mh (n : Nat) : (List.replicate n [D.bl true]).flatten = (List.replicate n true).map D.bl := by rw [KH,List.map_replicate]
def Jq (CK2 : Addr) : AQ := λ ds O R => ∃ (q : Nat) (m s : Int),ds = [.ptr q,.int m,.int s] /\ O[q]? = some (some (.ins CK2 [])) /\ (1 <= m /\ m <= 24) /\ (1 <= s /\ s <= 10) /\ R .non (O.set q (some (.ins CK2 (BU m s (List.replicate m.toNat true) 0))))
def MT (CK2 : Addr) : AQ := λ ds O R => ∃ (q : Nat) (m s ov : Int) (ins : List Bool),ds = [.ptr q] /\ IL CK2 O q m s ins ov /\ ins.length <= 24 /\ R (.tup ((D6 ins).map D.int)) O
def Fe (CK2 : Addr) : AQ := λ ds O R => ∃ (q : Nat) (m s ov so : Int) (ins : List Bool) (said : List (Option Int)),ds = [.ptr q,.tup (said.map od),.int so] /\ IL CK2 O q m s ins ov /\ (1 <= m /\ m <= 24) /\ A9 m s said /\ (0 <= so /\ so <= s) /\ (ins.length : Int) = m /\ R .non (O.set q (some (.ins CK2 (BU m s (F2 said so ins) (KU said so ins ov)))))
def FP (CK2 : Addr) : AQ := λ ds O R => ∃ (q : Nat) (m s ov : Int) (ins : List Bool),ds = [.ptr q] /\ IL CK2 O q m s ins ov /\ (1 <= m /\ m <= 24) /\ (1 <= s /\ s <= 10) /\ R (.ptr O.length) (O ++ [some (.ins CK2 (BU m s (List.replicate m.toNat true) 0))])
theorem K6 {m s : Int} {f : Str} (h : ([("many" : Str),"scale"].all λ g => !(f == g)) = true) : (BG m s).lookup f = none := by
 simp only [List.all_cons,List.all_nil,Bool.and_true,Bool.and_eq_true,Bool.not_eq_true'] at h
 unfold BG
 rw [Ao h.1,Ao h.2]
 rfl
def Ff (CK1 : Addr) : AQ := λ ds O R => ∃ (q : Nat) (m sc so : Int) (said : List (Option Int)),ds = [.ptr q,.tup (said.map od),.int so] /\ O[q]? = some (some (.ins CK1 (BG m sc))) /\ A9 m sc said /\ (0 <= so /\ so <= sc) /\ R .non O
def FQ (CK1 : Addr) : AQ := λ ds O R => ∃ (q : Nat) (m sc : Int),ds = [.ptr q] /\ O[q]? = some (some (.ins CK1 (BG m sc))) /\ (1 <= m /\ m <= 24) /\ (1 <= sc /\ sc <= 10) /\ R (.ptr O.length) (O ++ [some (.ins CK1 (BG m sc))])
theorem Rx {O : Ac} {q : Nat} {x : Option MO} (h : O[q]? = some x) : O.set q x = O := by
 refine List.ext_getElem? λ i => ?_
 by_cases z : q = i
 ·subst z
  rw [Cp h]
  exact h.symm
 ·rw [List.getElem?_set_ne z]
def Ez (isC : Addr -> Prop) : AQ := λ ds O R => ∃ (q : Nat) (m s : Int) (C : Addr),ds = [.ptr q,.int m,.int s] /\ isC C /\ O[q]? = some (some (.ins C [])) /\ (1 <= m /\ m <= 24) /\ (1 <= s /\ s <= 10) /\ R .non (O.set q (some (.ins C (BG m s))))
def Bn (CH CW CS CR : Addr) : AQ := λ ds O R => ∃ (q : Nat) (m s : Int) (ws : List Int) (said : List (Option Int)),ds = [.ptr q,.tup (said.map od)] /\ ((O[q]? = some (some (.ins CH (BG m s))) /\ ws = List.replicate m.toNat 1) \/ (∃ sf p u,EN CW CS O q sf p ws u /\ p.m = m /\ p.sc = s) \/ ∃ ins ov,IL CR O q m s ins ov /\ ws = D6 ins) /\ (1 <= m /\ m <= 24) /\ A9 m s said /\ (ws.length : Int) = m /\ DK ws /\ R (.int (BV said ws)) O
inductive Hv where
 | h | v (sf : Bool) (p : SP) (ws : List Int) (u : Int) | r (ins : List Bool) (ov : Int) | f (ps sc : List Int)
def DX (CH CW CS CR CF : Addr) (m s : Int) : Hv -> MO
 | .h => .ins CH (BG m s)
 | .v sf p ws u => .ins (CQ CW CS sf) (Ch sf p ws u)
 | .r ins ov => .ins CR (BU m s ins ov)
 | .f ps sc => .ins CF (Ct m s ps sc)
def B9 (n m : Nat) (s : Int) : Hv -> Prop
 | .h => True
 | .v sf p ws u => Du sf p /\ p.m = (m : Nat) /\ p.sc = s /\ D3 n ws u /\ ws.length = m
 | .r ins _ => ins.length = m
 | .f ps sc => FC (m : Nat) ps /\ sc.length = m
def GA (m : Nat) (said : List (Option Int)) : Hv -> Int
 | .h => BV said (List.replicate m 1)
 | .v _ _ ws _ => BV said ws
 | .r ins _ => BV said (D6 ins)
 | .f _ sc => D8 sc said
def GL (said : List (Option Int)) (so : Int) : Hv -> Hv
 | .h => .h
 | .v sf p ws u => .v sf p (Ie sf p said so ws) (K5 sf p said so ws u)
 | .r ins ov => .r (F2 said so ins) (KU said so ins ov)
 | .f ps sc => .f ps (F1 said so sc)
def EM (m : Nat) : Hv -> Hv
 | .h => .h
 | .v sf p _ _ => .v sf p (List.replicate m 1) 1
 | .r _ _ => .r (List.replicate m true) 0
 | .f ps _ => .f ps ps
theorem B9.hear {n m : Nat} {s so : Int} {said : List (Option Int)} {v : Hv} (h : B9 n m s v) (hs : A9 (m : Nat) s said) (hso : 0 <= so /\ so <= s) : B9 (n + 1) m s (GL said so v) := by
 have hl := hs.1
 cases v with
 | h => exact h
 | v sf p ws u =>
  obtain ⟨h1,h2,h3,h4,h5⟩ := h
  obtain ⟨g1,g2⟩ := Wg h1 h4 (by rw [h2,h5]) (by rw [h2,h3]; exact hs) (by rw [h3]; exact hso)
  exact ⟨h1,h2,h3,g1,by have := g2.trans h2; omega⟩
 | r ins ov =>
  have h : ins.length = m := h
  show (F2 said so ins).length = m
  rw [Vv wF]; exact h
 | f ps sc => exact ⟨h.1,by rw [Vu (by have := h.2; omega)]; exact h.2⟩
theorem B9.anew {n m : Nat} {s : Int} {v : Hv} (h : B9 n m s v) : B9 0 m s (EM m v) := by
 cases v with
 | h => exact h
 | v sf p ws u => exact ⟨h.1,h.2.1,h.2.2.1,Ja m,List.length_replicate⟩
 | r ins ov => exact List.length_replicate
 | f ps sc => exact ⟨h.1,by have := h.1.1; omega⟩
theorem Su {n m : Nat} {s : Int} {said : List (Option Int)} {v : Hv} (h : B9 n m s v) (hs : A9 (m : Nat) s said) (h0 : 0 <= s) : 0 <= GA m said v /\ GA m said v <= s := by
 cases v with
 | h => exact GH hs h0 (λ w hw => by rw [List.eq_of_mem_replicate hw]; decide)
 | v sf p ws u => exact GH hs h0 (λ w hw => (h.2.2.2.1.w w hw).1)
 | r ins ov => exact GH hs h0 (L4 ins)
 | f ps sc => exact Sr hs h0
section
variable {X : Cx} {ρ : Aj} {O : Ac} {CH CW CS CR CF : Addr} {o e e2 : Expr} {q n m k1 k2 k3 k4 k6 : Nat} {s so : Int} {v : Hv} {said : List (Option Int)} {R : D -> Ac -> Prop} {pos apos : Pos}
theorem WJ {pl : Sem Bool} (M1 : Ai X.prog X.w X.K X.mg X.base CH k1 "say" (Bn CH CW CS CR)) (M2 : Ai X.prog X.w X.K X.mg X.base CW k1 "say" (Bn CH CW CS CR)) (M3 : Ai X.prog X.w X.K X.mg X.base CS k1 "say" (Bn CH CW CS CR)) (M4 : Ai X.prog X.w X.K X.mg X.base CR k1 "say" (Bn CH CW CS CR)) (r1 : AN k1 X.A) (M6 : Ai X.prog X.w X.K X.mg X.base CF k6 "say" (Ey CF)) (r6 : AN k6 X.A)
  (ho : Ad X ρ O o (.ptr q)) (hq : O[q]? = some (some (DX CH CW CS CR CF (m : Nat) s v))) (hok : B9 n m s v) (hm : 1 <= m /\ m <= 24) (hs : A9 (m : Nat) s said) (ha : Bx X ρ O [e] [.tup (said.map od)])
  (hst : starEach [e] X.env = (false,eval e X.env) :: starEach [] X.env := by rfl) (hpl : (backTo pos (starEach [] X.env)).any (·.1) = false := by rfl)
  (ht : eval (.Call (.Attribute o "say" apos) [e] [] pos) X.env = (do
   let ov <- eval o X.env
   standAt apos.atName
   let (f,first) <- holding [ov] (getMethod ov "say" pl)
   callWith pos f first (backTo pos (starEach [e] X.env)) (backToKw pos (keywordEach [] X.env))) := by rfl) : Ad X ρ O (.Call (.Attribute o "say" apos) [e] [] pos) (.int (GA m said v)) := by
 have hmI : (1 : Int) <= (m : Nat) /\ ((m : Nat) : Int) <= 24 := ⟨by omega,by omega⟩
 cases v with
 | h => exact Ev.evp (CY M1 r1 ho hq (K6 wD) ha ⟨q,(m : Nat),s,List.replicate m 1,said,rfl,.inl ⟨hq,by rw [Int.toNat_natCast]⟩,hmI,hs,by rw [List.length_replicate],(λ w hw => by rw [List.eq_of_mem_replicate hw]; decide),rfl,rfl⟩ hst hpl ht)
 | v sf p ws u => exact Ev.evp (CY (mv M2 M3 sf) r1 ho hq (Gr _ _ _ _ wD wD) ha ⟨q,(m : Nat),s,ws,said,rfl,.inr (.inl ⟨sf,p,u,hq,hok.2.1,hok.2.2.1⟩),hmI,hs,by rw [hok.2.2.2.2],(λ w hw => (hok.2.2.2.1.w w hw).1),rfl,rfl⟩ hst hpl ht)
 | r ins ov => exact Ev.evp (CY M4 r1 ho hq (HF _ _ _ _ wD) ha ⟨q,(m : Nat),s,D6 ins,said,rfl,.inr (.inr ⟨ins,ov,hq,rfl⟩),hmI,hs,by have h : ins.length = m := hok; rw [show (D6 ins).length = ins.length from List.length_map ..,h],L4 ins,rfl,rfl⟩ hst hpl ht)
 | f ps sc => exact Ev.evp (CY M6 r6 ho hq (Ld _ _ _ _ wD) ha ⟨q,(m : Nat),s,ps,sc,said,rfl,hq,hmI,hs,by rw [hok.2],rfl,rfl⟩ hst hpl ht)
theorem WR {pl : Sem Bool} (M1 : Ai X.prog X.w X.K X.mg X.base CH k1 "hear" (Ff CH)) (M2 : Ai X.prog X.w X.K X.mg X.base CW k2 "hear" (CT CW CS false)) (M3 : Ai X.prog X.w X.K X.mg X.base CS k3 "hear" (CT CW CS true)) (M4 : Ai X.prog X.w X.K X.mg X.base CR k4 "hear" (Fe CR)) (r1 : AN k1 X.A) (r2 : AN (max k2 k3) X.A) (r3 : AN k4 X.A) (M6 : Ai X.prog X.w X.K X.mg X.base CF k6 "hear" (Fg CF)) (r6 : AN k6 X.A)
  (ho : Ad X ρ O o (.ptr q)) (hq : O[q]? = some (some (DX CH CW CS CR CF (m : Nat) s v))) (hok : B9 n m s v) (hn : n <= 1000) (hm : 1 <= m /\ m <= 24) (hs : A9 (m : Nat) s said) (hso : 0 <= so /\ so <= s) (ha : Bx X ρ O [e,e2] [.tup (said.map od),.int so]) (hR : R .non (O.set q (some (DX CH CW CS CR CF (m : Nat) s (GL said so v)))))
  (hst : starEach [e,e2] X.env = (false,eval e X.env) :: starEach [e2] X.env := by rfl) (hpl : (backTo pos (starEach [e2] X.env)).any (·.1) = false := by rfl)
  (ht : eval (.Call (.Attribute o "hear" apos) [e,e2] [] pos) X.env = (do
   let ov <- eval o X.env
   standAt apos.atName
   let (f,first) <- holding [ov] (getMethod ov "hear" pl)
   callWith pos f first (backTo pos (starEach [e,e2] X.env)) (backToKw pos (keywordEach [] X.env))) := by rfl) : Ev X ρ O (.Call (.Attribute o "hear" apos) [e,e2] [] pos) R := by
 have hmI : (1 : Int) <= (m : Nat) /\ ((m : Nat) : Int) <= 24 := ⟨by omega,by omega⟩
 cases v with
 | h =>
  have hR : R .non (O.set q (some (DX CH CW CS CR CF (m : Nat) s .h))) := hR
  rw [Rx hq] at hR
  exact CY M1 r1 ho hq (K6 wD) ha ⟨q,(m : Nat),s,so,said,rfl,hq,hs,hso,hR⟩ hst hpl ht
 | v sf p ws u => exact CY (mv2 (sq := CT CW CS) M2 M3 sf) r2 ho hq (Gr _ _ _ _ wD wD) ha ⟨q,n,p,u,so,said,ws,rfl,hq,hok.1,hn,hok.2.2.2.1,by rw [hok.2.2.2.2,hok.2.1],by rw [hok.2.1,hok.2.2.1]; exact hs,by rw [hok.2.2.1]; exact hso,hR⟩ hst hpl ht
 | r ins ov => exact CY M4 r3 ho hq (HF _ _ _ _ wD) ha ⟨q,(m : Nat),s,ov,so,ins,said,rfl,hq,hmI,hs,hso,by have h : ins.length = m := hok; rw [h],hR⟩ hst hpl ht
 | f ps sc => exact CY M6 r6 ho hq (Ld _ _ _ _ wD) ha ⟨q,(m : Nat),s,so,ps,sc,said,rfl,hq,hmI,hs,hso,by rw [hok.2],hR⟩ hst hpl ht
theorem WW {pl : Sem Bool} (M1 : Ai X.prog X.w X.K X.mg X.base CH k1 "anew" (FQ CH)) (M2 : Ai X.prog X.w X.K X.mg X.base CW k2 "anew" (C9 CW CS false)) (M3 : Ai X.prog X.w X.K X.mg X.base CS k3 "anew" (C9 CW CS true)) (M4 : Ai X.prog X.w X.K X.mg X.base CR k4 "anew" (FP CR)) (r1 : AN k1 X.A) (r2 : AN (max k2 k3) X.A) (r3 : AN k4 X.A) (M6 : Ai X.prog X.w X.K X.mg X.base CF k6 "anew" (FR CF)) (r6 : AN k6 X.A)
  (ho : Ad X ρ O o (.ptr q)) (hq : O[q]? = some (some (DX CH CW CS CR CF (m : Nat) s v))) (hok : B9 n m s v) (hm : 1 <= m /\ m <= 24) (hs : 1 <= s /\ s <= 10) (hR : R (.ptr O.length) (O ++ [some (DX CH CW CS CR CF (m : Nat) s (EM m v))]))
  (ht : eval (.Call (.Attribute o "anew" apos) [] [] pos) X.env = (do
   let ov <- eval o X.env
   standAt apos.atName
   let (f,first) <- holding [ov] (getMethod ov "anew" pl)
   callWith pos f first (backTo pos (starEach [] X.env)) (backToKw pos (keywordEach [] X.env))) := by rfl) : Ev X ρ O (.Call (.Attribute o "anew" apos) [] [] pos) R := by
 have hmI : (1 : Int) <= (m : Nat) /\ ((m : Nat) : Int) <= 24 := ⟨by omega,by omega⟩
 cases v with
 | h => exact Dq M1 r1 ho hq (K6 wD) ⟨q,(m : Nat),s,rfl,hq,hmI,hs,hR⟩ ht
 | v sf p ws u => exact Dq (mv2 (sq := C9 CW CS) M2 M3 sf) r2 ho hq (Gr _ _ _ _ wD wD) ⟨q,p,u,ws,rfl,hq,hok.1,by rw [hok.2.1,Int.toNat_natCast]; exact hR⟩ ht
 | r ins ov => exact Dq M4 r3 ho hq (HF _ _ _ _ wD) ⟨q,(m : Nat),s,ov,ins,rfl,hq,hmI,hs,by rw [Int.toNat_natCast]; exact hR⟩ ht
 | f ps sc => exact Dq M6 r6 ho hq (Ld _ _ _ _ wD) ⟨q,(m : Nat),s,ps,sc,rfl,hq,hmI,hs,hok.1,hR⟩ ht
theorem WO (c1 : A6 X.K CH) (c2 : A6 X.K CW) (c3 : A6 X.K CS) (c4 : A6 X.K CR) (n1 : As X.K CH "many") (n2 : As X.K CW "many") (n3 : As X.K CS "many") (n4 : As X.K CR "many") (c6 : A6 X.K CF) (n6 : As X.K CF "many") (ho : Ad X ρ O o (.ptr q)) (hq : O[q]? = some (some (DX CH CW CS CR CF (m : Nat) s v))) (hok : B9 n m s v) (hb : attributeBase o ("many" : Str) X.env (eval o X.env) = eval o X.env := by rfl) : Ad X ρ O (.Attribute o "many" pos) (.int (m : Nat)) := by
 cases v with
 | h => exact Av ho hq c1 n1 (GK _ _) hb
 | v sf p ws u => rw [<- hok.2.1]; exact Av ho hq (cv c2 c3 sf) (nv n2 n3 sf) (Mb _ _ _ _) hb
 | r ins ov => exact Av ho hq c4 n4 (GC _ _ _ _) hb
 | f ps sc => exact Av ho hq c6 n6 (Il _ _ _ _) hb
theorem WI (c1 : A6 X.K CH) (c2 : A6 X.K CW) (c3 : A6 X.K CS) (c4 : A6 X.K CR) (n1 : As X.K CH "scale") (n2 : As X.K CW "scale") (n3 : As X.K CS "scale") (n4 : As X.K CR "scale") (c6 : A6 X.K CF) (n6 : As X.K CF "scale") (ho : Ad X ρ O o (.ptr q)) (hq : O[q]? = some (some (DX CH CW CS CR CF (m : Nat) s v))) (hok : B9 n m s v) (hb : attributeBase o ("scale" : Str) X.env (eval o X.env) = eval o X.env := by rfl) : Ad X ρ O (.Attribute o "scale" pos) (.int s) := by
 cases v with
 | h => exact Av ho hq c1 n1 (Ig _ _) hb
 | v sf p ws u => rw [<- hok.2.2.1]; exact Av ho hq (cv c2 c3 sf) (nv n2 n3 sf) (Hc _ _ _ _) hb
 | r ins ov => exact Av ho hq c4 n4 (HE _ _ _ _) hb
 | f ps sc => exact Av ho hq c6 n6 (Ij _ _ _ _) hb
theorem WP {k : Bool} {x : Str} {C2 : Addr} {p p2 : Pos} (hm : X.mg "isinstance" = none) (he : Ad X ρ O e (.ptr q)) (hq : O[q]? = some (some (DX CH CW CS CR CF (m : Nat) s v))) (t1 : Co X.K CH) (t2 : Co X.K CW) (t3 : Co X.K CS) (t4 : Co X.K CR) (hx : X.mg x = some (.ref C2)) (k1 : PySem.W.kitOne X.K (.ref CH) (.ref C2) = some k) (k2 : PySem.W.kitOne X.K (.ref CW) (.ref C2) = some k) (k3 : PySem.W.kitOne X.K (.ref CS) (.ref C2) = some k) (k4 : PySem.W.kitOne X.K (.ref CR) (.ref C2) = some k) (t6 : Co X.K CF) (k6' : PySem.W.kitOne X.K (.ref CF) (.ref C2) = some k)
  (hg : Gl X "isinstance" := by rfl) (hgx : Gl X x := by rfl) (hdx : (x == ("__debug__" : Str)) = false := by decide) (hs : starEach [e,.Name x p2] X.env = (false,eval e X.env) :: starEach [.Name x p2] X.env := by rfl) (hpl : (backTo pos (starEach [.Name x p2] X.env)).any (·.1) = false := by rfl) :
  Ad X ρ O (.Call (.Name "isinstance" p) [e,.Name x p2] [] pos) (.bl k) := by
 cases v with
 | h => exact EK hm he hq t1 hx k1 hg hgx hdx hs hpl
 | v sf p ws u =>
  cases sf
  ·exact EK hm he hq t2 hx k2 hg hgx hdx hs hpl
  ·exact EK hm he hq t3 hx k3 hg hgx hdx hs hpl
 | r ins ov => exact EK hm he hq t4 hx k4 hg hgx hdx hs hpl
 | f ps sc => exact EK hm he hq t6 hx k6' hg hgx hdx hs hpl
end
def Jd (m s : Int) (d e : D) : List (Str × D) := [("many",.int m),("scale",.int s),("hands",d),("head",e)]
def Gu (m s : Int) (d : D) : List (Str × D) := [("many",.int m),("scale",.int s),("hands",d)]
theorem S2 (m s : Int) (d : D) : A8 "hands" d (BG m s) = Gu m s d := by
 unfold BG
 rw [AA wD,AA wD]
 rfl
theorem S1 (m s : Int) (d e : D) : A8 "head" e (Gu m s d) = Jd m s d e := by
 unfold Gu
 rw [AA wD,AA wD,AA wD]
 rfl
section
variable (m s : Int) (q n : Nat) (ch : List Int)
end
theorem IE {O Y : Ac} {i : Nat} {x : Option MO} (h : O[i]? = some x) : (O ++ Y)[i]? = some x := by rw [List.getElem?_append_left (List.getElem?_eq_some_iff.mp h).1]; exact h
theorem HU {A Z : Ac} {x : Option MO} : (A ++ [x] ++ Z)[A.length]? = some x := by rw [List.append_assoc,List.getElem?_append_right (Nat.le_refl _),Nat.sub_self]; rfl
theorem KZ {A Z : Ac} {x y : Option MO} : (A ++ [x] ++ Z).set A.length y = A ++ [y] ++ Z := by rw [List.append_assoc,List.set_append_right (h := Nat.le_refl _),Nat.sub_self,List.append_assoc]; rfl
theorem KJ {α : Type} (l : List α) (d : α) : (List.range l.length).map (λ i => l.getD i d) = l := by
 refine List.ext_getElem? λ i => ?_
 rw [List.getElem?_map]
 by_cases hi : i < l.length
 ·rw [List.getElem?_range hi,List.getElem?_eq_getElem hi]
  show some (l.getD i d) = _
  rw [List.getD_eq_getElem?_getD,List.getElem?_eq_getElem hi]; rfl
 ·rw [List.getElem?_eq_none (by rw [List.length_range]; omega),List.getElem?_eq_none wF]; rfl
structure Cs where
 h : Addr
 w : Addr
 s : Addr
 r : Addr
 t : Addr
 f : Addr
def Cs.o (C : Cs) (m s : Int) (v : Hv) : MO := DX C.h C.w C.s C.r C.f m s v
structure TOk (n m : Nat) (s : Int) (hs : List Hv) (hd : Hv) (ch : List Int) : Prop where
 h : ∀ v ∈ hs,B9 n m s v
 d : B9 n hs.length s hd
 l1 : 1 <= hs.length
 l2 : hs.length <= 24
 c : ch.length = hs.length
def BH (l : List Int) : List (Option Int) := l.map some
theorem IF (l : List Int) : (BH l).map od = l.map D.int := by unfold BH; rw [List.map_map]; rfl
inductive Hx where
 | p (v : Hv) | t (hs : List Hv) (hd : Hv) (ch : List Int)
def BE (n m : Nat) (s : Int) : Hx -> Prop
 | .p v => B9 n m s v
 | .t hs hd ch => TOk n m s hs hd ch
structure Cy (q k : Nat) (O O' : Ac) : Prop where
 l : O'.length = O.length
 o : ∀ j,j < q \/ q + k <= j -> O'[j]? = O[j]?
section
variable {X : Cx} {ρ : Aj} {O : Ac} {C : Cs} {o e e2 : Expr} {q n m k1 k2 k3 k4 k5 k6 : Nat} {s so : Int} {x : Hx} {said : List (Option Int)} {R : D -> Ac -> Prop} {pos apos : Pos}
end
inductive Hn where
 | p (v : Hv) | t (hs : List Hn) (hd : Hn) (ch : List Int)
mutual
def AH : Hn -> Nat
 | .p _ => 1
 | .t hs hd _ => 1 + An hs + AH hd
def An : List Hn -> Nat
 | [] => 0
 | x :: xs => AH x + An xs
end
mutual
def AO : Hn -> Nat
 | .p _ => 0
 | .t hs hd _ => 1 + max (Cf hs) (AO hd)
def Cf : List Hn -> Nat
 | [] => 0
 | x :: xs => max (AO x) (Cf xs)
end
mutual
def Ba : Hn -> Nat -> List (Option Int) -> Int
 | .p v,m,said => GA m said v
 | .t hs hd _,m,said => Ba hd hs.length (BH (AZ hs m said))
def AZ : List Hn -> Nat -> List (Option Int) -> List Int
 | [],_,_ => []
 | x :: xs,m,said => Ba x m said :: AZ xs m said
end
mutual
def A0 : Hn -> Nat -> List (Option Int) -> Int -> Hn
 | .p v,_,said,so => .p (GL said so v)
 | .t hs hd ch,m,said,so => .t (BD hs m said so) (A0 hd hs.length (BH (AZ hs m said)) so) ((ch.zip (AZ hs m said)).map λ x => x.1 + ab (x.2 - so))
def BD : List Hn -> Nat -> List (Option Int) -> Int -> List Hn
 | [],_,_,_ => []
 | x :: xs,m,said,so => A0 x m said so :: BD xs m said so
end
mutual
def AJ : Hn -> Nat -> Hn
 | .p v,m => .p (EM m v)
 | .t hs hd _,m => .t (BI hs m) (AJ hd hs.length) (List.replicate hs.length 0)
def BI : List Hn -> Nat -> List Hn
 | [],_ => []
 | x :: xs,m => AJ x m :: BI xs m
end
def BQ : List Hn -> Nat -> List Nat
 | [],_ => []
 | x :: xs,q => q :: BQ xs (q + AH x)
def BO (m s : Int) (ps : List Nat) (h : Nat) (ch : List Int) : List (Str × D) := [("many",.int m),("scale",.int s),("hands",.tup (ps.map D.ptr)),("head",.ptr h),("charged",.tup (ch.map D.int))]
mutual
def Ap (C : Cs) (O : Ac) : Hn -> Nat -> Nat -> Int -> Prop
 | .p v,q,m,s => O[q]? = some (some (C.o (m : Nat) s v))
 | .t hs hd ch,q,m,s => O[q]? = some (some (.ins C.t (BO (m : Nat) s (BQ hs (q + 1)) (q + 1 + An hs) ch))) /\ BK C O hs (q + 1) m s /\ Ap C O hd (q + 1 + An hs) hs.length s
def BK (C : Cs) (O : Ac) : List Hn -> Nat -> Nat -> Int -> Prop
 | [],_,_,_ => True
 | x :: xs,q,m,s => Ap C O x q m s /\ BK C O xs (q + AH x) m s
end
mutual
def AI (n : Nat) : Hn -> Nat -> Int -> Prop
 | .p v,m,s => B9 n m s v
 | .t hs hd ch,m,s => B0 n hs m s /\ AI n hd hs.length s /\ (1 <= hs.length /\ hs.length <= 24) /\ ch.length = hs.length
def B0 (n : Nat) : List Hn -> Nat -> Int -> Prop
 | [],_,_ => True
 | x :: xs,m,s => AI n x m s /\ B0 n xs m s
end
mutual
theorem ED : ∀ (x : Hn) (m : Nat) (said : List (Option Int)) (so : Int),AH (A0 x m said so) = AH x
 | .p v,_,_,_ => by simp only [A0,AH]
 | .t hs hd ch,m,said,so => by simp only [A0,AH]; rw [EC hs,ED hd]
theorem EC : ∀ (xs : List Hn) (m : Nat) (said : List (Option Int)) (so : Int),An (BD xs m said so) = An xs
 | [],_,_,_ => by simp only [BD,An]
 | x :: xs,m,said,so => by simp only [BD,An]; rw [ED x,EC xs]
end
theorem GI : ∀ (xs : List Hn) (m : Nat) (said : List (Option Int)),(AZ xs m said).length = xs.length
 | [],_,_ => rfl
 | x :: xs,m,said => by simp only [AZ,List.length_cons]; rw [GI xs]
theorem F5 : ∀ (xs : List Hn) (m : Nat) (said : List (Option Int)) (so : Int),(BD xs m said so).length = xs.length
 | [],_,_,_ => rfl
 | x :: xs,m,said,so => by simp only [BD,List.length_cons]; rw [F5 xs]
theorem GJ : ∀ (xs : List Hn) (m : Nat),(BI xs m).length = xs.length
 | [],_ => rfl
 | x :: xs,m => by simp only [BI,List.length_cons]; rw [GJ xs]
theorem Oc : ∀ (xs : List Hn) (q : Nat),(BQ xs q).length = xs.length
 | [],_ => rfl
 | x :: xs,q => by simp only [BQ,List.length_cons]; rw [Oc xs]
theorem Fj (x : Hn) : 1 <= AH x := by cases x <;> simp only [AH] <;> omega
theorem Od : ∀ (xs ys : List Hn) (q : Nat),xs.map AH = ys.map AH -> BQ xs q = BQ ys q
 | [],[],_,_ => rfl
 | [],y :: ys,_,h => by cases h
 | x :: xs,[],_,h => by cases h
 | x :: xs,y :: ys,q,h => by
  injection h with h1 h2
  simp only [BQ]
  rw [h1,Od xs ys _ h2]
theorem Oe : ∀ (xs : List Hn) (q i : Nat),i < xs.length -> (BQ xs q)[i]? = some (q + An (xs.take i))
 | [],_,_,h => absurd h (Nat.not_lt_zero _)
 | x :: xs,q,0,_ => by simp [BQ,An]
 | x :: xs,q,i + 1,h => by
  simp only [BQ,List.getElem?_cons_succ,List.take_succ_cons,An]
  rw [Oe xs _ i (by simpa using h),Nat.add_assoc]
theorem ET {C : Cs} {O : Ac} {m : Nat} {s : Int} : ∀ (xs : List Hn) (q : Nat),BK C O xs q m s ↔ ∀ i x,xs[i]? = some x -> Ap C O x (q + An (xs.take i)) m s
 | [],q => by simp [BK]
 | y :: xs,q => by
  simp only [BK]
  rw [ET xs]
  constructor
  ·rintro ⟨h1,h2⟩ i x hx
   cases i with
   | zero => cases hx; simpa [An] using h1
   | succ i =>
    have := h2 i x (by simpa using hx)
    simp only [List.take_succ_cons,An]
    rw [<- Nat.add_assoc]; exact this
  ·intro h
   refine ⟨by simpa [An] using h 0 y rfl,λ i x hx => ?_⟩
   have := h (i + 1) x (by simpa using hx)
   simp only [List.take_succ_cons,An] at this
   rw [<- Nat.add_assoc] at this; exact this
theorem ES {n m : Nat} {s : Int} : ∀ (xs : List Hn),B0 n xs m s ↔ ∀ x ∈ xs,AI n x m s
 | [] => by simp [B0]
 | y :: xs => by
  simp only [B0]
  rw [ES xs]
  simp
theorem LH {C : Cs} {O O' : Ac} : ∀ (k : Nat),(∀ (x : Hn) (q m : Nat) (s : Int),AH x <= k -> (∀ j,q <= j -> j < q + AH x -> O'[j]? = O[j]?) -> Ap C O x q m s -> Ap C O' x q m s) /\ ∀ (xs : List Hn) (q m : Nat) (s : Int),An xs <= k -> (∀ j,q <= j -> j < q + An xs -> O'[j]? = O[j]?) -> BK C O xs q m s -> BK C O' xs q m s
 | 0 => by
  refine ⟨λ x q m s h => absurd h (by have := Fj x; omega),λ xs q m s h hj hN => ?_⟩
  cases xs with
  | nil => simp [BK]
  | cons x xs => simp only [An] at h; have := Fj x; omega
 | k + 1 => by
  obtain ⟨ih1,ih2⟩ := LH (C := C) (O := O) (O' := O') k
  have one : ∀ (x : Hn) (q m : Nat) (s : Int),AH x <= k + 1 -> (∀ j,q <= j -> j < q + AH x -> O'[j]? = O[j]?) -> Ap C O x q m s -> Ap C O' x q m s := λ x q m s h hj hN => by
   cases x with
   | p v =>
    simp only [Ap,AH] at *
    rw [hj q (Nat.le_refl _) wF]; exact hN
   | t hs hd ch =>
    simp only [Ap,AH] at *
    have := Fj hd
    refine ⟨by rw [hj q (Nat.le_refl _) wF]; exact hN.1,ih2 hs _ _ _ wF (λ j h1 h2 => hj j wF wF) hN.2.1,ih1 hd _ _ _ wF (λ j h1 h2 => hj j wF wF) hN.2.2⟩
  refine ⟨one,λ xs q m s h hj hN => ?_⟩
  cases xs with
  | nil => simp [BK]
  | cons x xs =>
   simp only [BK,An] at *
   have := Fj x
   exact ⟨one x _ _ _ wF (λ j h1 h2 => hj j h1 wF) hN.1,ih2 xs _ _ _ wF (λ j h1 h2 => hj j wF wF) hN.2⟩
theorem Ap.own {C : Cs} {O O' : Ac} {x : Hn} {q m : Nat} {s : Int} (h : Ap C O x q m s) (hj : ∀ j,q <= j -> j < q + AH x -> O'[j]? = O[j]?) : Ap C O' x q m s := (LH _).1 x q m s (Nat.le_refl _) hj h
theorem BK.own {C : Cs} {O O' : Ac} {xs : List Hn} {q m : Nat} {s : Int} (h : BK C O xs q m s) (hj : ∀ j,q <= j -> j < q + An xs -> O'[j]? = O[j]?) : BK C O' xs q m s := (LH _).2 xs q m s (Nat.le_refl _) hj h
mutual
def Bb (C : Cs) : Hn -> Nat -> Nat -> Int -> Ac
 | .p v,_,m,s => [some (C.o (m : Nat) s v)]
 | .t hs hd ch,q,m,s => some (.ins C.t (BO (m : Nat) s (BQ hs (q + 1)) (q + 1 + An hs) ch)) :: (AT C hs (q + 1) m s ++ Bb C hd (q + 1 + An hs) hs.length s)
def AT (C : Cs) : List Hn -> Nat -> Nat -> Int -> Ac
 | [],_,_,_ => []
 | x :: xs,q,m,s => Bb C x q m s ++ AT C xs (q + AH x) m s
end
mutual
theorem HW (C : Cs) : ∀ (x : Hn) (q m : Nat) (s : Int),(Bb C x q m s).length = AH x
 | .p v,_,_,_ => by simp only [Bb,AH,List.length_cons,List.length_nil]
 | .t hs hd ch,q,m,s => by simp only [Bb,AH,List.length_cons,List.length_append]; rw [DW C hs,HW C hd]; omega
theorem DW (C : Cs) : ∀ (xs : List Hn) (q m : Nat) (s : Int),(AT C xs q m s).length = An xs
 | [],_,_,_ => by simp only [AT,An,List.length_nil]
 | x :: xs,q,m,s => by simp only [AT,An,List.length_append]; rw [HW C x,DW C xs]
end
mutual
theorem Fp (C : Cs) : ∀ (x : Hn) (A B : Ac) (m : Nat) (s : Int),Ap C (A ++ Bb C x A.length m s ++ B) x A.length m s
 | .p v,A,B,m,s => by simp only [Bb,Ap]; exact HU
 | .t hs hd ch,A,B,m,s => by
  simp only [Bb,Ap]
  generalize hT : (some (MO.ins C.t (BO (m : Nat) s (BQ hs (A.length + 1)) (A.length + 1 + An hs) ch)) : Option MO) = T
  have e1 : A ++ (T :: (AT C hs (A.length + 1) m s ++ Bb C hd (A.length + 1 + An hs) hs.length s)) ++ B = (A ++ [T]) ++ AT C hs (A ++ [T]).length m s ++ (Bb C hd (A.length + 1 + An hs) hs.length s ++ B) := by
   rw [show (A ++ [T]).length = A.length + 1 by rw [List.length_append]; rfl]
   simp [List.append_assoc]
  have e2 : A ++ (T :: (AT C hs (A.length + 1) m s ++ Bb C hd (A.length + 1 + An hs) hs.length s)) ++ B = (A ++ [T] ++ AT C hs (A.length + 1) m s) ++ Bb C hd (A ++ [T] ++ AT C hs (A.length + 1) m s).length hs.length s ++ B := by
   rw [show (A ++ [T] ++ AT C hs (A.length + 1) m s).length = A.length + 1 + An hs by rw [List.length_append,List.length_append,DW]; rfl]
   simp [List.append_assoc]
  refine ⟨?_,?_,?_⟩
  ·rw [List.append_assoc,List.getElem?_append_right (Nat.le_refl _),Nat.sub_self]
   rfl
  ·have := K0 C hs (A ++ [T]) (Bb C hd (A.length + 1 + An hs) hs.length s ++ B) m s
   rw [<- e1,show (A ++ [T]).length = A.length + 1 by rw [List.length_append]; rfl] at this
   exact this
  ·have := Fp C hd (A ++ [T] ++ AT C hs (A.length + 1) m s) B hs.length s
   rw [<- e2,show (A ++ [T] ++ AT C hs (A.length + 1) m s).length = A.length + 1 + An hs by rw [List.length_append,List.length_append,DW]; rfl] at this
   exact this
theorem K0 (C : Cs) : ∀ (xs : List Hn) (A B : Ac) (m : Nat) (s : Int),BK C (A ++ AT C xs A.length m s ++ B) xs A.length m s
 | [],A,B,m,s => by simp only [BK]
 | x :: xs,A,B,m,s => by
  simp only [AT,BK]
  have e1 : A ++ (Bb C x A.length m s ++ AT C xs (A.length + AH x) m s) ++ B = A ++ Bb C x A.length m s ++ (AT C xs (A.length + AH x) m s ++ B) := by simp [List.append_assoc]
  have el : (A ++ Bb C x A.length m s).length = A.length + AH x := by rw [List.length_append,HW]
  refine ⟨by rw [e1]; exact Fp C x A _ m s,?_⟩
  have := K0 C xs (A ++ Bb C x A.length m s) B m s
  rw [el] at this
  rw [e1,<- List.append_assoc]
  exact this
end
mutual
theorem AI.anew {n : Nat} : ∀ (x : Hn) (m : Nat) (s : Int),AI n x m s -> AI 0 (AJ x m) m s
 | .p v,m,s,h => by simp only [AI,AJ] at *; exact B9.anew h
 | .t hs hd ch,m,s,h => by
  simp only [AI,AJ,GJ,List.length_replicate] at *
  exact ⟨B0.anew hs m s h.1,AI.anew hd _ s h.2.1,h.2.2.1,trivial⟩
theorem B0.anew {n : Nat} : ∀ (xs : List Hn) (m : Nat) (s : Int),B0 n xs m s -> B0 0 (BI xs m) m s
 | [],_,_,_ => by simp only [BI,B0]
 | x :: xs,m,s,h => by
  simp only [B0,BI] at *
  exact ⟨AI.anew x m s h.1,B0.anew xs m s h.2⟩
end
mutual
theorem JD {n : Nat} : ∀ (x : Hn) (m : Nat) (s : Int) (said : List (Option Int)),AI n x m s -> A9 (m : Nat) s said -> 0 <= s -> 0 <= Ba x m said /\ Ba x m said <= s
 | .p v,m,s,said,h,hs,h0 => by simp only [AI,Ba] at *; exact Su h hs h0
 | .t hs hd ch,m,s,said,h,hsd,h0 => by
  simp only [AI,Ba] at *
  exact JD hd _ s _ h.2.1 (D9 hs m s said h.1 hsd h0 h.2.2.1.2) h0
theorem D9 {n : Nat} : ∀ (xs : List Hn) (m : Nat) (s : Int) (said : List (Option Int)),B0 n xs m s -> A9 (m : Nat) s said -> 0 <= s -> xs.length <= 24 -> A9 ((xs.length : Nat) : Int) s (BH (AZ xs m said))
 | [],m,s,said,h,hs,h0,hl => ⟨rfl,by show (0 : Int) <= 24; decide,λ w hw => by cases hw⟩
 | x :: xs,m,s,said,h,hs,h0,hl => by
  simp only [B0] at h
  have hx := JD x m s said h.1 hs h0
  have ih := D9 xs m s said h.2 hs h0 (by rw [List.length_cons] at hl; omega)
  refine ⟨by unfold BH; rw [List.length_map,GI],by rw [List.length_cons] at *; omega,λ w hw => ?_⟩
  simp only [AZ,BH,List.map_cons] at hw
  rcases List.mem_cons.mp hw with rfl | hw
  ·right
   show (decide (0 <= _) && decide (_ <= s)) = true
   rw [decide_eq_true hx.1,decide_eq_true hx.2]; rfl
  ·exact ih.2.2 w hw
end
mutual
theorem AI.hear {n : Nat} : ∀ (x : Hn) (m : Nat) (s : Int) (said : List (Option Int)) (so : Int),AI n x m s -> A9 (m : Nat) s said -> (0 <= so /\ so <= s) -> AI (n + 1) (A0 x m said so) m s
 | .p v,m,s,said,so,h,hs,hso => by simp only [AI,A0] at *; exact B9.hear h hs hso
 | .t hs hd ch,m,s,said,so,h,hsd,hso => by
  simp only [AI,A0,F5] at *
  refine ⟨B0.hear hs m s said so h.1 hsd hso,AI.hear hd _ s _ so h.2.1 (D9 hs m s said h.1 hsd wF h.2.2.1.2) hso,h.2.2.1,?_⟩
  rw [List.length_map,List.length_zip,GI,h.2.2.2]
  omega
theorem B0.hear {n : Nat} : ∀ (xs : List Hn) (m : Nat) (s : Int) (said : List (Option Int)) (so : Int),B0 n xs m s -> A9 (m : Nat) s said -> (0 <= so /\ so <= s) -> B0 (n + 1) (BD xs m said so) m s
 | [],_,_,_,_,_,_,_ => by simp only [BD,B0]
 | x :: xs,m,s,said,so,h,hsd,hso => by
  simp only [B0,BD] at *
  exact ⟨AI.hear x m s said so h.1 hsd hso,B0.hear xs m s said so h.2 hsd hso⟩
end
mutual
theorem GQ : ∀ (x : Hn) (m : Nat),AO (AJ x m) = AO x
 | .p v,_ => by simp only [AJ,AO]
 | .t hs hd ch,m => by simp only [AJ,AO]; rw [Pj hs,GQ hd]
theorem Pj : ∀ (xs : List Hn) (m : Nat),Cf (BI xs m) = Cf xs
 | [],_ => by simp only [BI,Cf]
 | x :: xs,m => by simp only [BI,Cf]; rw [GQ x,Pj xs]
end
mutual
theorem Iy : ∀ (x : Hn) (m : Nat) (said : List (Option Int)) (so : Int),AO (A0 x m said so) = AO x
 | .p v,_,_,_ => by simp only [A0,AO]
 | .t hs hd ch,m,said,so => by simp only [A0,AO]; rw [Pi hs,Iy hd]
theorem Pi : ∀ (xs : List Hn) (m : Nat) (said : List (Option Int)) (so : Int),Cf (BD xs m said so) = Cf xs
 | [],_,_,_ => by simp only [BD,Cf]
 | x :: xs,m,said,so => by simp only [BD,Cf]; rw [Iy x,Pi xs]
end
theorem Ph : ∀ (xs : List Hn) (x : Hn),x ∈ xs -> AO x <= Cf xs
 | [],_,h => by cases h
 | y :: xs,x,h => by
  simp only [Cf]
  rcases List.mem_cons.mp h with rfl | h
  ·exact Nat.le_max_left _ _
  ·exact Nat.le_trans (Ph xs x h) (Nat.le_max_right _ _)
theorem Hw {m : Nat} {said : List (Option Int)} : ∀ (xs : List Hn),AZ xs m said = xs.map λ x => Ba x m said
 | [] => rfl
 | x :: xs => by simp only [AZ,List.map_cons]; rw [Hw xs]
theorem DY {m : Nat} {said : List (Option Int)} {so : Int} : ∀ (xs : List Hn),BD xs m said so = xs.map λ x => A0 x m said so
 | [] => rfl
 | x :: xs => by simp only [BD,List.map_cons]; rw [DY xs]
theorem Gh {m : Nat} : ∀ (xs : List Hn),BI xs m = xs.map λ x => AJ x m
 | [] => rfl
 | x :: xs => by simp only [BI,List.map_cons]; rw [Gh xs]
section
variable (m s : Int) (ps : List Nat) (h : Nat) (ch : List Int)
theorem Hf : (BO m s ps h ch).lookup ("many" : Str) = some (.int m) := Br
theorem Gs : (BO m s ps h ch).lookup ("scale" : Str) = some (.int s) := by unfold BO; rw [Ao wD,Br]
theorem QO : (BO m s ps h ch).lookup ("hands" : Str) = some (.tup (ps.map D.ptr)) := by unfold BO; rw [Ao wD,Ao wD,Br]
theorem Jb : (BO m s ps h ch).lookup ("head" : Str) = some (.ptr h) := by unfold BO; rw [Ao wD,Ao wD,Ao wD,Br]
theorem Mi : (BO m s ps h ch).lookup ("charged" : Str) = some (.tup (ch.map D.int)) := by unfold BO; rw [Ao wD,Ao wD,Ao wD,Ao wD,Br]
theorem Ew {f : Str} (hf : ([("many" : Str),"scale","hands","head","charged"].all λ g => !(f == g)) = true) : (BO m s ps h ch).lookup f = none := by
 simp only [List.all_cons,List.all_nil,Bool.and_true,Bool.and_eq_true,Bool.not_eq_true'] at hf
 obtain ⟨h1,h2,h3,h4,h5⟩ := hf
 unfold BO
 rw [Ao h1,Ao h2,Ao h3,Ao h4,Ao h5]
 rfl
end
def EA (C : Cs) (j : Nat) : AQ := λ ds O R => ∃ (q n m : Nat) (s : Int) (hs : List Hn) (hd : Hn) (ch : List Int) (said : List (Option Int)),ds = [.ptr q,.tup (said.map od)] /\ Ap C O (.t hs hd ch) q m s /\ AI n (.t hs hd ch) m s /\ AO (.t hs hd ch) <= j /\ (1 <= m /\ m <= 24) /\ 0 <= s /\ A9 (m : Nat) s said /\ R (.tup ((AZ hs m said).map D.int)) O
def Di (C : Cs) (j : Nat) : AQ := λ ds O R => ∃ (q n m : Nat) (s : Int) (hs : List Hn) (hd : Hn) (ch : List Int) (said : List (Option Int)),ds = [.ptr q,.tup (said.map od)] /\ Ap C O (.t hs hd ch) q m s /\ AI n (.t hs hd ch) m s /\ AO (.t hs hd ch) <= j /\ (1 <= m /\ m <= 24) /\ 0 <= s /\ A9 (m : Nat) s said /\ R (.int (Ba (.t hs hd ch) m said)) O
def Jt (C : Cs) : AQ := λ ds O R => ∃ (q m : Nat) (s : Int) (hs : List Hn) (hd : Hn) (ch : List Int),ds = [.ptr q] /\ Ap C O (.t hs hd ch) q m s /\ R (.tup (ch.map D.int)) O
def DA (C : Cs) (j : Nat) : AQ := λ ds O R => ∃ (q n m : Nat) (s so : Int) (hs : List Hn) (hd : Hn) (ch : List Int) (said : List (Option Int)),ds = [.ptr q,.tup (said.map od),.int so] /\ Ap C O (.t hs hd ch) q m s /\ AI n (.t hs hd ch) m s /\ AO (.t hs hd ch) <= j /\ n <= 1000 /\ (1 <= m /\ m <= 24) /\ A9 (m : Nat) s said /\ (0 <= so /\ so <= s) /\
 ∀ O',Cy q (AH (.t hs hd ch)) O O' -> Ap C O' (A0 (.t hs hd ch) m said so) q m s -> R .non O'
def Cm (C : Cs) (O : Ac) (m : Nat) (s : Int) (j : Nat) (pv : List (Nat × Hn)) : Prop := ∀ x ∈ pv,Ap C O x.2 x.1 m s /\ (∃ n,AI n x.2 m s) /\ AO x.2 < j
def ME (C : Cs) : AQ := λ ds O R => ∃ (j m : Nat) (s : Int) (pv : List (Nat × Hn)) (hp : Nat) (hd : Hn),ds = [.tup (pv.map λ x => .ptr x.1),.ptr hp] /\ Cm C O m s j pv /\ Cm C O pv.length s j [(hp,hd)] /\ (1 <= m /\ m <= 24) /\ (1 <= s /\ s <= 10) /\ (1 <= pv.length /\ pv.length <= 24) /\ R .non O
def Nb (C : Cs) : AQ := λ ds O R => ∃ (j m : Nat) (s : Int) (pv : List (Nat × Hn)),ds = [.tup (pv.map λ x => .ptr x.1)] /\ Cm C O m s j pv /\ (1 <= pv.length /\ pv.length <= 24) /\ R (.bl true) O
def MR (C : Cs) : AQ := λ ds O R => ∃ (j m : Nat) (s : Int) (pv : List (Nat × Hn)) (hp : Nat) (hd : Hn),ds = [.tup (pv.map λ x => .ptr x.1),.ptr hp] /\ Cm C O m s j pv /\ Cm C O pv.length s j [(hp,hd)] /\ (1 <= pv.length /\ pv.length <= 24) /\ R (.bl true) O
def DD (C : Cs) (hs : List Hn) (hd : Hn) (q m : Nat) (s : Int) : Ac := Bb C (AJ (.t hs hd []) m) q m s
def DR (C : Cs) (j : Nat) : AQ := λ ds O R => ∃ (q m : Nat) (s : Int) (pv : List (Nat × Hn)) (hp : Nat) (hd : Hn) (O0 : Ac),ds = [.ptr q,.tup (pv.map λ x => .ptr x.1),.ptr hp] /\ O = O0 ++ [some (.ins C.t [])] /\ q = O0.length /\ Cm C O0 m s j pv /\ Cm C O0 pv.length s j [(hp,hd)] /\ (1 <= m /\ m <= 24) /\ (1 <= s /\ s <= 10) /\ (1 <= pv.length /\ pv.length <= 24) /\ R .non (O0 ++ DD C (pv.map (·.2)) hd q m s)
def DS (C : Cs) (j : Nat) : AQ := λ ds O R => ∃ (q n m : Nat) (s : Int) (hs : List Hn) (hd : Hn) (ch : List Int),ds = [.ptr q] /\ Ap C O (.t hs hd ch) q m s /\ AI n (.t hs hd ch) m s /\ AO (.t hs hd ch) <= j /\ (1 <= m /\ m <= 24) /\ (1 <= s /\ s <= 10) /\ R (.ptr O.length) (O ++ DD C hs hd O.length m s)
theorem Ap.to {C : Cs} {O : Ac} {hs : List Hn} {hd : Hn} {ch : List Int} {q m : Nat} {s : Int} (h : Ap C O (.t hs hd ch) q m s) : O[q]? = some (some (.ins C.t (BO (m : Nat) s (BQ hs (q + 1)) (q + 1 + An hs) ch))) /\ BK C O hs (q + 1) m s /\ Ap C O hd (q + 1 + An hs) hs.length s := by simpa only [Ap] using h
theorem Ap.ti {C : Cs} {O : Ac} {hs : List Hn} {hd : Hn} {ch : List Int} {q m : Nat} {s : Int} (h : O[q]? = some (some (.ins C.t (BO (m : Nat) s (BQ hs (q + 1)) (q + 1 + An hs) ch))) /\ BK C O hs (q + 1) m s /\ Ap C O hd (q + 1 + An hs) hs.length s) : Ap C O (.t hs hd ch) q m s := by simpa only [Ap] using h
theorem Ap.pl {C : Cs} {O : Ac} {v : Hv} {q m : Nat} {s : Int} (h : Ap C O (.p v) q m s) : O[q]? = some (some (C.o (m : Nat) s v)) := by simpa only [Ap] using h
theorem Ap.pi {C : Cs} {O : Ac} {v : Hv} {q m : Nat} {s : Int} (h : O[q]? = some (some (C.o (m : Nat) s v))) : Ap C O (.p v) q m s := by simpa only [Ap] using h
theorem AI.pl {n : Nat} {v : Hv} {m : Nat} {s : Int} (h : AI n (.p v) m s) : B9 n m s v := by simpa only [AI] using h
theorem AI.to {n : Nat} {hs : List Hn} {hd : Hn} {ch : List Int} {m : Nat} {s : Int} (h : AI n (.t hs hd ch) m s) : B0 n hs m s /\ AI n hd hs.length s /\ (1 <= hs.length /\ hs.length <= 24) /\ ch.length = hs.length := by simpa only [AI] using h
theorem Ap.app {C : Cs} {O Y : Ac} {x : Hn} {q m : Nat} {s : Int} (hq : q + AH x <= O.length) (h : Ap C O x q m s) : Ap C (O ++ Y) x q m s := h.own λ j _ h2 => List.getElem?_append_left wF
section
variable {X : Cx} {ρ : Aj} {O : Ac} {C : Cs} {o e e2 : Expr} {j q n m k1 k2 k3 k4 k5 k6 : Nat} {s so : Int} {x : Hn} {said : List (Option Int)} {R : D -> Ac -> Prop} {pos apos : Pos}
theorem Cu {pl : Sem Bool} (M1 : Ai X.prog X.w X.K X.mg X.base C.h k1 "say" (Bn C.h C.w C.s C.r)) (M2 : Ai X.prog X.w X.K X.mg X.base C.w k1 "say" (Bn C.h C.w C.s C.r)) (M3 : Ai X.prog X.w X.K X.mg X.base C.s k1 "say" (Bn C.h C.w C.s C.r)) (M4 : Ai X.prog X.w X.K X.mg X.base C.r k1 "say" (Bn C.h C.w C.s C.r)) (r1 : AN k1 X.A) (M6 : Ai X.prog X.w X.K X.mg X.base C.f k6 "say" (Ey C.f)) (r6 : AN k6 X.A) (M5 : Ai X.prog X.w X.K X.mg X.base C.t k5 "say" (Di C j)) (r5 : AN k5 X.A)
  (ho : Ad X ρ O o (.ptr q)) (hq : Ap C O x q m s) (hok : AI n x m s) (hj : AO x <= j) (hm : 1 <= m /\ m <= 24) (h0 : 0 <= s) (hs : A9 (m : Nat) s said) (ha : Bx X ρ O [e] [.tup (said.map od)])
  (hst : starEach [e] X.env = (false,eval e X.env) :: starEach [] X.env := by rfl) (hpl : (backTo pos (starEach [] X.env)).any (·.1) = false := by rfl)
  (ht : eval (.Call (.Attribute o "say" apos) [e] [] pos) X.env = (do
   let ov <- eval o X.env
   standAt apos.atName
   let (f,first) <- holding [ov] (getMethod ov "say" pl)
   callWith pos f first (backTo pos (starEach [e] X.env)) (backToKw pos (keywordEach [] X.env))) := by rfl) : Ad X ρ O (.Call (.Attribute o "say" apos) [e] [] pos) (.int (Ba x m said)) := by
 cases x with
 | p v => rw [show Ba (.p v) m said = GA m said v by simp only [Ba]]; exact WJ M1 M2 M3 M4 r1 M6 r6 ho hq.pl hok.pl hm hs ha hst hpl ht
 | t ys hd ch => exact Ev.evp (CY M5 r5 ho hq.to.1 (Ew _ _ _ _ _ wD) ha ⟨q,n,m,s,ys,hd,ch,said,rfl,hq,hok,hj,hm,h0,hs,rfl,rfl⟩ hst hpl ht)
theorem El {pl : Sem Bool} (M1 : Ai X.prog X.w X.K X.mg X.base C.h k1 "hear" (Ff C.h)) (M2 : Ai X.prog X.w X.K X.mg X.base C.w k2 "hear" (CT C.w C.s false)) (M3 : Ai X.prog X.w X.K X.mg X.base C.s k3 "hear" (CT C.w C.s true)) (M4 : Ai X.prog X.w X.K X.mg X.base C.r k4 "hear" (Fe C.r)) (r1 : AN k1 X.A) (r2 : AN (max k2 k3) X.A) (r3 : AN k4 X.A) (M6 : Ai X.prog X.w X.K X.mg X.base C.f k6 "hear" (Fg C.f)) (r6 : AN k6 X.A) (M5 : Ai X.prog X.w X.K X.mg X.base C.t k5 "hear" (DA C j)) (r5 : AN k5 X.A)
  (ho : Ad X ρ O o (.ptr q)) (hq : Ap C O x q m s) (hok : AI n x m s) (hj : AO x <= j) (hn : n <= 1000) (hm : 1 <= m /\ m <= 24) (hs : A9 (m : Nat) s said) (hso : 0 <= so /\ so <= s) (ha : Bx X ρ O [e,e2] [.tup (said.map od),.int so]) (hR : ∀ O',Cy q (AH x) O O' -> Ap C O' (A0 x m said so) q m s -> R .non O')
  (hst : starEach [e,e2] X.env = (false,eval e X.env) :: starEach [e2] X.env := by rfl) (hpl : (backTo pos (starEach [e2] X.env)).any (·.1) = false := by rfl)
  (ht : eval (.Call (.Attribute o "hear" apos) [e,e2] [] pos) X.env = (do
   let ov <- eval o X.env
   standAt apos.atName
   let (f,first) <- holding [ov] (getMethod ov "hear" pl)
   callWith pos f first (backTo pos (starEach [e,e2] X.env)) (backToKw pos (keywordEach [] X.env))) := by rfl) : Ev X ρ O (.Call (.Attribute o "hear" apos) [e,e2] [] pos) R := by
 cases x with
 | p v =>
  have h1 : AH (.p v) = 1 := by simp only [AH]
  have h2 : A0 (.p v) m said so = .p (GL said so v) := by simp only [A0]
  rw [h1,h2] at hR
  exact WR M1 M2 M3 M4 r1 r2 r3 M6 r6 ho hq.pl hok.pl hn hm hs hso ha (hR _ ⟨List.length_set ..,λ j hj => List.getElem?_set_ne wF⟩ (Ap.pi (Cp hq.pl))) hst hpl ht
 | t ys hd ch => exact CY M5 r5 ho hq.to.1 (Ew _ _ _ _ _ wD) ha ⟨q,n,m,s,so,ys,hd,ch,said,rfl,hq,hok,hj,hn,hm,hs,hso,hR⟩ hst hpl ht
theorem En {pl : Sem Bool} (M1 : Ai X.prog X.w X.K X.mg X.base C.h k1 "anew" (FQ C.h)) (M2 : Ai X.prog X.w X.K X.mg X.base C.w k2 "anew" (C9 C.w C.s false)) (M3 : Ai X.prog X.w X.K X.mg X.base C.s k3 "anew" (C9 C.w C.s true)) (M4 : Ai X.prog X.w X.K X.mg X.base C.r k4 "anew" (FP C.r)) (r1 : AN k1 X.A) (r2 : AN (max k2 k3) X.A) (r3 : AN k4 X.A) (M6 : Ai X.prog X.w X.K X.mg X.base C.f k6 "anew" (FR C.f)) (r6 : AN k6 X.A) (M5 : Ai X.prog X.w X.K X.mg X.base C.t k5 "anew" (DS C j)) (r5 : AN k5 X.A)
  (ho : Ad X ρ O o (.ptr q)) (hq : Ap C O x q m s) (hok : AI n x m s) (hj : AO x <= j) (hm : 1 <= m /\ m <= 24) (hs : 1 <= s /\ s <= 10) (hR : R (.ptr O.length) (O ++ Bb C (AJ x m) O.length m s))
  (ht : eval (.Call (.Attribute o "anew" apos) [] [] pos) X.env = (do
   let ov <- eval o X.env
   standAt apos.atName
   let (f,first) <- holding [ov] (getMethod ov "anew" pl)
   callWith pos f first (backTo pos (starEach [] X.env)) (backToKw pos (keywordEach [] X.env))) := by rfl) : Ev X ρ O (.Call (.Attribute o "anew" apos) [] [] pos) R := by
 cases x with
 | p v => exact WW M1 M2 M3 M4 r1 r2 r3 M6 r6 ho hq.pl hok.pl hm hs (by simp only [AJ,Bb] at hR; exact hR) ht
 | t ys hd ch => exact Dq M5 r5 ho hq.to.1 (Ew _ _ _ _ _ wD) ⟨q,n,m,s,ys,hd,ch,rfl,hq,hok,hj,hm,hs,by simpa only [DD,AJ] using hR⟩ ht
theorem Io (c1 : A6 X.K C.h) (c2 : A6 X.K C.w) (c3 : A6 X.K C.s) (c4 : A6 X.K C.r) (n1 : As X.K C.h "many") (n2 : As X.K C.w "many") (n3 : As X.K C.s "many") (n4 : As X.K C.r "many") (c6 : A6 X.K C.f) (n6 : As X.K C.f "many") (c5 : A6 X.K C.t) (n5 : As X.K C.t "many") (ho : Ad X ρ O o (.ptr q)) (hq : Ap C O x q m s) (hok : AI n x m s) (hb : attributeBase o ("many" : Str) X.env (eval o X.env) = eval o X.env := by rfl) : Ad X ρ O (.Attribute o "many" pos) (.int (m : Nat)) := by
 cases x with
 | p v => exact WO c1 c2 c3 c4 n1 n2 n3 n4 c6 n6 ho hq.pl hok.pl hb
 | t ys hd ch => exact Av ho hq.to.1 c5 n5 (Hf _ _ _ _ _) hb
theorem GN (c1 : A6 X.K C.h) (c2 : A6 X.K C.w) (c3 : A6 X.K C.s) (c4 : A6 X.K C.r) (n1 : As X.K C.h "scale") (n2 : As X.K C.w "scale") (n3 : As X.K C.s "scale") (n4 : As X.K C.r "scale") (c6 : A6 X.K C.f) (n6 : As X.K C.f "scale") (c5 : A6 X.K C.t) (n5 : As X.K C.t "scale") (ho : Ad X ρ O o (.ptr q)) (hq : Ap C O x q m s) (hok : AI n x m s) (hb : attributeBase o ("scale" : Str) X.env (eval o X.env) = eval o X.env := by rfl) : Ad X ρ O (.Attribute o "scale" pos) (.int s) := by
 cases x with
 | p v => exact WI c1 c2 c3 c4 n1 n2 n3 n4 c6 n6 ho hq.pl hok.pl hb
 | t ys hd ch => exact Av ho hq.to.1 c5 n5 (Gs _ _ _ _ _) hb
theorem OZ {k : Bool} {y : Str} {C2 : Addr} {p p2 : Pos} (hm : X.mg "isinstance" = none) (he : Ad X ρ O e (.ptr q)) (hq : Ap C O x q m s) (t1 : Co X.K C.h) (t2 : Co X.K C.w) (t3 : Co X.K C.s) (t4 : Co X.K C.r) (hx : X.mg y = some (.ref C2)) (k1 : PySem.W.kitOne X.K (.ref C.h) (.ref C2) = some k) (k2 : PySem.W.kitOne X.K (.ref C.w) (.ref C2) = some k) (k3 : PySem.W.kitOne X.K (.ref C.s) (.ref C2) = some k) (k4 : PySem.W.kitOne X.K (.ref C.r) (.ref C2) = some k) (t6 : Co X.K C.f) (k6' : PySem.W.kitOne X.K (.ref C.f) (.ref C2) = some k) (t5 : Co X.K C.t) (k5' : PySem.W.kitOne X.K (.ref C.t) (.ref C2) = some k)
  (hg : Gl X "isinstance" := by rfl) (hgx : Gl X y := by rfl) (hdx : (y == ("__debug__" : Str)) = false := by decide) (hs : starEach [e,.Name y p2] X.env = (false,eval e X.env) :: starEach [.Name y p2] X.env := by rfl) (hpl : (backTo pos (starEach [.Name y p2] X.env)).any (·.1) = false := by rfl) :
  Ad X ρ O (.Call (.Name "isinstance" p) [e,.Name y p2] [] pos) (.bl k) := by
 cases x with
 | p v => exact WP hm he hq.pl t1 t2 t3 t4 hx k1 k2 k3 k4 t6 k6' hg hgx hdx hs hpl
 | t ys hd ch => exact EK hm he hq.to.1 t5 hx k5' hg hgx hdx hs hpl
end
theorem Ap.le {C : Cs} {O : Ac} : ∀ (x : Hn) (q m : Nat) (s : Int),Ap C O x q m s -> q + AH x <= O.length
 | .p v,q,m,s,h => by have := (List.getElem?_eq_some_iff.mp h.pl).1; simp only [AH]; omega
 | .t hs hd ch,q,m,s,h => by have := Ap.le hd _ _ _ h.to.2.2; simp only [AH]; omega
theorem Ap.ap {C : Cs} {O Y : Ac} {x : Hn} {q m : Nat} {s : Int} (h : Ap C O x q m s) : Ap C (O ++ Y) x q m s := h.app (Ap.le _ _ _ _ h)
theorem Cm.app {C : Cs} {O Y : Ac} {m j : Nat} {s : Int} {pv : List (Nat × Hn)} (h : Cm C O m s j pv) : Cm C (O ++ Y) m s j pv := λ x hx => ⟨(h x hx).1.ap,(h x hx).2⟩
theorem Ho : ∀ (xs ys : List Hn),An (xs ++ ys) = An xs + An ys
 | [],ys => by simp only [List.nil_append,An,Nat.zero_add]
 | x :: xs,ys => by simp only [List.cons_append,An]; rw [Ho xs,Nat.add_assoc]
theorem EB {xs : List Hn} {i : Nat} {x : Hn} (h : xs[i]? = some x) : An (xs.take (i + 1)) = An (xs.take i) + AH x := by
 rw [List.take_succ,h,Ho]
 simp only [Option.toList,An,Nat.add_zero]
theorem Hm (xs : List Hn) {i k : Nat} (h : i <= k) : An (xs.take i) <= An (xs.take k) := by
 have e : xs.take k = xs.take i ++ (xs.take k).drop i := by
  have := List.take_append_drop i (xs.take k)
  rw [List.take_take,Nat.min_eq_left h] at this
  exact this.symm
 rw [e,Ho]
 omega
theorem Hq (xs : List Hn) (i : Nat) : An (xs.take i) <= An xs := by
 have e := congrArg An (List.take_append_drop i xs)
 rw [Ho] at e
 omega
theorem N9 (xs : List Hn) (q : Nat) : BQ xs q = (List.range xs.length).map λ i => q + An (xs.take i) := by
 refine List.ext_getElem? λ i => ?_
 rw [List.getElem?_map]
 by_cases hi : i < xs.length
 ·rw [Oe xs q i hi,List.getElem?_range hi]; rfl
 ·rw [List.getElem?_eq_none (by rw [Oc]; omega),List.getElem?_eq_none (by rw [List.length_range]; omega)]; rfl
theorem Jc (m s : Int) (xs : List Hn) (q h : Nat) (ch : List Int) : (BO m s (BQ xs q) h ch).lookup ("hands" : Str) = some (.tup ((List.range xs.length).map λ i => .ptr (q + An (xs.take i)))) := by
 rw [QO,N9,List.map_map]; rfl
theorem OA (C : Cs) : ∀ (xs ys : List Hn) (q m : Nat) (s : Int),AT C (xs ++ ys) q m s = AT C xs q m s ++ AT C ys (q + An xs) m s
 | [],ys,q,m,s => by simp only [List.nil_append,AT,An,Nat.add_zero]
 | x :: xs,ys,q,m,s => by simp only [List.cons_append,AT,An]; rw [OA C xs,List.append_assoc,Nat.add_assoc]
theorem HY (C : Cs) {xs : List Hn} {i : Nat} {x : Hn} (h : xs[i]? = some x) (q m : Nat) (s : Int) : AT C (xs.take (i + 1)) q m s = AT C (xs.take i) q m s ++ Bb C x (q + An (xs.take i)) m s := by
 rw [List.take_succ,h,OA]
 simp only [Option.toList,AT,List.append_nil]
theorem S7 (m s : Int) (ps : List Nat) (h : Nat) (ch : List Int) : A8 "charged" (.tup (ch.map D.int)) (Jd m s (.tup (ps.map D.ptr)) (.ptr h)) = BO m s ps h ch := by
 unfold Jd
 rw [AA wD,AA wD,AA wD,AA wD]
 rfl
theorem QN (m s : Int) (ps : List Nat) (h : Nat) (ch cs : List Int) : A8 "charged" (.tup (cs.map D.int)) (BO m s ps h ch) = BO m s ps h cs := by
 unfold BO
 rw [AA wD,AA wD,AA wD,AA wD,EG]
theorem M9 {C : Cs} {ds : List D} {O : Ac} {R : D -> Ac -> Prop} (h : EA C 0 ds O R) : False := by
 obtain ⟨_,_,_,_,_,_,_,_,_,_,_,h,_⟩ := h
 simp only [AO] at h; omega
theorem MJ {C : Cs} {ds : List D} {O : Ac} {R : D -> Ac -> Prop} (h : Di C 0 ds O R) : False := by
 obtain ⟨_,_,_,_,_,_,_,_,_,_,_,h,_⟩ := h
 simp only [AO] at h; omega
theorem MW {C : Cs} {ds : List D} {O : Ac} {R : D -> Ac -> Prop} (h : DA C 0 ds O R) : False := by
 obtain ⟨_,_,_,_,_,_,_,_,_,_,_,_,h,_⟩ := h
 simp only [AO] at h; omega
theorem MS {C : Cs} {ds : List D} {O : Ac} {R : D -> Ac -> Prop} (h : DR C 0 ds O R) : False := by
 obtain ⟨_,_,_,_,_,_,_,_,_,_,_,h,_⟩ := h
 have := (h _ (List.mem_singleton.mpr rfl)).2.2
 omega
theorem Na {C : Cs} {ds : List D} {O : Ac} {R : D -> Ac -> Prop} (h : DS C 0 ds O R) : False := by
 obtain ⟨_,_,_,_,_,_,_,_,_,_,h,_⟩ := h
 simp only [AO] at h; omega
theorem Dc {hs : List Hn} {hd : Hn} {ch : List Int} {j : Nat} (h : AO (.t hs hd ch) <= j + 1) : (∀ x ∈ hs,AO x <= j) /\ AO hd <= j := by
 simp only [AO] at h
 have h1 := Nat.le_max_left (Cf hs) (AO hd)
 have h2 := Nat.le_max_right (Cf hs) (AO hd)
 exact ⟨λ x hx => by have := Ph hs x hx; omega,by omega⟩
theorem Cy.rf (q k : Nat) (O : Ac) : Cy q k O O := ⟨rfl,λ _ _ => rfl⟩
theorem Cy.in {q k q2 k2 : Nat} {O O' O2 : Ac} (h : Cy q k O O') (h2 : Cy q2 k2 O' O2) (h3 : q <= q2) (h4 : q2 + k2 <= q + k) : Cy q k O O2 := ⟨h2.l.trans h.l,λ j hj => (h2.o j wF).trans (h.o j hj)⟩
theorem Yc (m : Nat) (v : Hv) : EM m (EM m v) = EM m v := by cases v <;> rfl
theorem Yd (m : Nat) (said : List (Option Int)) (so : Int) (v : Hv) : EM m (GL said so v) = EM m v := by cases v <;> rfl
mutual
theorem LB : ∀ (x : Hn) (m : Nat),AJ (AJ x m) m = AJ x m
 | .p v,m => by simp only [AJ]; rw [Yc]
 | .t hs hd ch,m => by simp only [AJ,GJ]; rw [LA hs,LB hd]
theorem LA : ∀ (xs : List Hn) (m : Nat),BI (BI xs m) m = BI xs m
 | [],_ => by simp only [BI]
 | x :: xs,m => by simp only [BI]; rw [LB x,LA xs]
end
mutual
theorem IG : ∀ (x : Hn) (m : Nat) (said : List (Option Int)) (so : Int),AJ (A0 x m said so) m = AJ x m
 | .p v,m,said,so => by simp only [A0,AJ]; rw [Yd]
 | .t hs hd ch,m,said,so => by simp only [A0,AJ,F5]; rw [PY hs,IG hd]
theorem PY : ∀ (xs : List Hn) (m : Nat) (said : List (Option Int)) (so : Int),BI (BD xs m said so) m = BI xs m
 | [],_,_,_ => by simp only [BD]
 | x :: xs,m,said,so => by simp only [BD,BI]; rw [IG x,PY xs]
end
structure Bk where
 q : Nat
 m : Nat
 z : Nat
 w : Hn
structure BA (C : Cs) (O : Ac) (s : Int) (N j : Nat) (B : List Bk) : Prop where
 h : ∀ b ∈ B,∃ (x : Hn) (n : Nat),n <= N /\ Ap C O x b.q b.m s /\ AI n x b.m s /\ AO x <= j /\ AH x = b.z /\ AJ x b.m = b.w
 a : B.Pairwise λ a b => a.q + a.z <= b.q
theorem X5 {B : List Bk} (h : B.Pairwise λ a b => a.q + a.z <= b.q) {a b : Bk} (ha : a ∈ B) (hb : b ∈ B) : a = b \/ a.q + a.z <= b.q \/ b.q + b.z <= a.q := by
 obtain ⟨i,hi,rfl⟩ := List.mem_iff_getElem.mp ha
 obtain ⟨k,hk,rfl⟩ := List.mem_iff_getElem.mp hb
 have hp := List.pairwise_iff_getElem.mp h
 rcases Nat.lt_trichotomy i k with e | e | e
 ·exact .inr (.inl (hp i k hi hk e))
 ·subst e; exact .inl rfl
 ·exact .inr (.inr (hp k i hk hi e))
theorem BA.app {C : Cs} {O Y : Ac} {s : Int} {N j : Nat} {B : List Bk} (h : BA C O s N j B) : BA C (O ++ Y) s N j B := ⟨λ b hb => by
 obtain ⟨x,n,h1,h2,h3⟩ := h.h b hb
 exact ⟨x,n,h1,h2.ap,h3⟩,h.a⟩
theorem BA.up {C : Cs} {O : Ac} {s : Int} {N N' j j' : Nat} {B : List Bk} (h : BA C O s N j B) (hN : N <= N') (hj : j <= j') : BA C O s N' j' B := ⟨λ b hb => by
 obtain ⟨x,n,h1,h2,h3,h4,h5⟩ := h.h b hb
 exact ⟨x,n,by omega,h2,h3,by omega,h5⟩,h.a⟩
theorem BA.more {C : Cs} {O : Ac} {s : Int} {N j : Nat} {B : List Bk} {x : Hn} {n q m : Nat} (h : BA C O s N j B) (hn : n <= N) (hx : Ap C O x q m s) (hk : AI n x m s) (hj : AO x <= j) (hq : ∀ b ∈ B,b.q + b.z <= q) : BA C O s N j (B ++ [⟨q,m,AH x,AJ x m⟩]) := ⟨λ b hb => by
 rcases List.mem_append.mp hb with hb | hb
 ·exact h.h b hb
 ·rw [List.mem_singleton.mp hb]; exact ⟨x,n,hn,hx,hk,hj,rfl,rfl⟩,List.pairwise_append.mpr ⟨h.a,List.pairwise_singleton ..,λ a ha b hb => by rw [List.mem_singleton.mp hb]; exact hq a ha⟩⟩
theorem BA.le {C : Cs} {O : Ac} {s : Int} {N j : Nat} {B : List Bk} (h : BA C O s N j B) {b : Bk} (hb : b ∈ B) : b.q + b.z <= O.length := by
 obtain ⟨x,n,_,h2,_,_,h5,_⟩ := h.h b hb
 rw [<- h5]; exact Ap.le _ _ _ _ h2
theorem BA.own {C : Cs} {O O' : Ac} {s : Int} {N j : Nat} {B : List Bk} (h : BA C O s N j B) (hO : ∀ b ∈ B,∀ i,b.q <= i -> i < b.q + b.z -> O'[i]? = O[i]?) : BA C O' s N j B := ⟨λ b hb => by
 obtain ⟨x,n,h1,h2,h3,h4,h5,h6⟩ := h.h b hb
 exact ⟨x,n,h1,h2.own λ i p1 p2 => hO b hb i p1 (by rw [<- h5]; exact p2),h3,h4,h5,h6⟩,h.a⟩
theorem BA.hear {C : Cs} {O O' : Ac} {s so : Int} {N j : Nat} {B : List Bk} {b : Bk} {x : Hn} {n : Nat} {said : List (Option Int)} (h : BA C O s N j B) (hb : b ∈ B) (hn : n <= N) (hk : AI n x b.m s) (hj : AO x <= j) (hz : AH x = b.z) (hw : AJ x b.m = b.w) (hs : A9 (b.m : Nat) s said) (hso : 0 <= so /\ so <= s) (hO : Cy b.q (AH x) O O') (hx : Ap C O' (A0 x b.m said so) b.q b.m s) : BA C O' s (N + 1) j B := ⟨λ c hc => by
 rcases X5 h.a hc hb with rfl | hd
 ·exact ⟨_,n + 1,by omega,hx,AI.hear x _ s said so hk hs hso,by rw [Iy]; exact hj,by rw [ED]; exact hz,by rw [IG]; exact hw⟩
 ·obtain ⟨y,k,h1,h2,h3,h4,h5,h6⟩ := h.h c hc
  exact ⟨y,k,by omega,h2.own λ a p1 p2 => hO.o a (by rw [h5] at p2; rw [hz]; omega),h3,h4,h5,h6⟩,h.a⟩
def EX (B : List Bk) (m : Nat) (bs : List Bk) : Prop := ∀ b ∈ bs,b ∈ B /\ b.m = m
theorem EX.mono {B B' : List Bk} {m : Nat} {bs : List Bk} (h : EX B m bs) (hB : ∀ b ∈ B,b ∈ B') : EX B' m bs := λ b hb => ⟨hB b (h b hb).1,(h b hb).2⟩
def Ds (b : Bk) : D := .ptr b.q
def Cq (z : Nat × Hn) : D := .ptr z.1
theorem BA.now {C : Cs} {O : Ac} {s : Int} {N j m : Nat} {B : List Bk} (h : BA C O s N j B) : ∀ {bs : List Bk},EX B m bs -> ∃ pv : List (Nat × Hn),bs.map Ds = pv.map Cq /\ Cm C O m s (j + 1) pv /\ (∀ z ∈ pv,∃ n ≤ N,AI n z.2 m s) /\ pv.map (λ z => AJ z.2 m) = bs.map (·.w) /\ pv.length = bs.length
 | [],_ => ⟨[],rfl,λ x hx => absurd hx List.not_mem_nil,λ x hx => absurd hx List.not_mem_nil,rfl,rfl⟩
 | b :: bs,hp => by
  obtain ⟨pv,e,h1,h2,h3,h4⟩ := BA.now h (bs := bs) λ q hq => hp q (List.mem_cons_of_mem _ hq)
  obtain ⟨hb,rfl⟩ := hp b List.mem_cons_self
  obtain ⟨x,n,k1,k2,k3,k4,k5,k6⟩ := h.h b hb
  refine ⟨(b.q,x) :: pv,by rw [List.map_cons,List.map_cons,e]; rfl,λ z hz => ?_,λ z hz => ?_,by rw [List.map_cons,List.map_cons,h3,k6],by rw [List.length_cons,List.length_cons,h4]⟩
  ·rcases List.mem_cons.mp hz with rfl | hz
   ·exact ⟨k2,⟨n,k3⟩,Nat.lt_succ_of_le k4⟩
   ·exact h1 z hz
  ·rcases List.mem_cons.mp hz with rfl | hz
   ·exact ⟨n,k1,k3⟩
   ·exact h2 z hz
structure Kp (b : Nat) (O O' : Ac) : Prop where
 l : O.length <= O'.length
 o : ∀ i,i < b -> O'[i]? = O[i]?
theorem Kp.tr {l : Nat} {O O1 O2 : Ac} (h : Kp l O O1) (g : Kp l O1 O2) : Kp l O O2 := ⟨Nat.le_trans h.l g.l,λ i hi => (g.o i hi).trans (h.o i hi)⟩
theorem Kp.app {l : Nat} {O : Ac} (Y : Ac) (h : l <= O.length) : Kp l O (O ++ Y) := ⟨by rw [List.length_append]; omega,λ i hi => List.getElem?_append_left wF⟩
theorem Kp.bl {l q k : Nat} {O O' : Ac} (h : Cy q k O O') (hq : l <= q) : Kp l O O' := ⟨Nat.le_of_eq h.l.symm,λ i hi => h.o i (.inl wF)⟩
theorem Kp.dn {l l' : Nat} {O O' : Ac} (h : Kp l O O') (hl : l' <= l) : Kp l' O O' := ⟨h.l,λ i hi => h.o i wF⟩
theorem Kp.up {O O' : Ac} (h : Kp O.length O O') : ∃ Y,O' = O ++ Y := by
 refine ⟨O'.drop O.length,List.ext_getElem? λ j => ?_⟩
 have := h.l
 by_cases hj : j < O.length
 ·rw [h.o j hj,List.getElem?_append_left hj]
 ·rw [List.getElem?_append_right wF,List.getElem?_drop,show O.length + (j - O.length) = j by omega]
def Bd (zs : List Hn) (p : Nat) : List (Nat × Hn) := (List.range zs.length).map λ i => (p + An (zs.take i),zs.getD i (Hn.p .h))
theorem IB (zs : List Hn) (p : Nat) : (Bd zs p).length = zs.length := by unfold Bd; rw [List.length_map,List.length_range]
theorem GU (zs : List Hn) (p : Nat) : (Bd zs p).map (·.2) = zs := by unfold Bd; rw [List.map_map]; exact KJ zs (.p .h)
theorem PC {zs : List Hn} {p : Nat} {z : Nat × Hn} (h : z ∈ Bd zs p) : ∃ i,zs[i]? = some z.2 /\ z.1 = p + An (zs.take i) := by
 obtain ⟨i,hi,rfl⟩ := List.mem_map.mp h
 have hi := List.mem_range.mp hi
 exact ⟨i,by rw [List.getD_eq_getElem?_getD,List.getElem?_eq_getElem hi]; rfl,rfl⟩
theorem PB {zs : List Hn} {p i : Nat} {z : Nat × Hn} (h : (Bd zs p)[i]? = some z) : zs[i]? = some z.2 /\ z.1 = p + An (zs.take i) := by
 unfold Bd at h
 rw [List.getElem?_map] at h
 obtain ⟨k,hk,rfl⟩ := Option.map_eq_some_iff.mp h
 have hi := (List.getElem?_eq_some_iff.mp hk).1
 rw [List.length_range] at hi
 rw [List.getElem?_range hi] at hk
 cases hk
 exact ⟨by rw [List.getD_eq_getElem?_getD,List.getElem?_eq_getElem hi]; rfl,rfl⟩
theorem PD {C : Cs} {O : Ac} {zs : List Hn} {p m n j : Nat} {s : Int} (h : BK C O zs p m s) (hk : B0 n zs m s) (hd : ∀ x ∈ zs,AO x <= j) : ∀ z ∈ Bd zs p,Ap C O z.2 z.1 m s /\ AI n z.2 m s /\ AO z.2 <= j := λ z hz => by
 obtain ⟨i,h1,h2⟩ := PC hz
 exact ⟨by rw [h2]; exact (ET _ _).mp h i _ h1,(ES _).mp hk _ (List.mem_of_getElem? h1),hd _ (List.mem_of_getElem? h1)⟩
theorem X3 (zs : List Hn) (p m : Nat) (said : List (Option Int)) (so : Int) : (Bd (BD zs m said so) p).map Cq = (Bd zs p).map Cq := by
 unfold Bd
 rw [List.map_map,List.map_map,F5]
 refine List.map_congr_left λ i _ => ?_
 show D.ptr (p + An ((BD zs m said so).take i)) = D.ptr (p + An (zs.take i))
 rw [DY,<- List.map_take,<- DY,EC]
theorem JB (pv : List (Nat × Hn)) (m : Nat) (said : List (Option Int)) : (pv.map λ z => D.int (Ba z.2 m said)) = (AZ (pv.map (·.2)) m said).map D.int := by
 rw [Hw,List.map_map,List.map_map]; rfl
theorem Hu (pv : List (Nat × Hn)) (m : Nat) (said : List (Option Int)) : D.tup (pv.map λ z => D.int (Ba z.2 m said)) = .tup ((BH (AZ (pv.map (·.2)) m said)).map od) := by
 rw [JB,IF]
theorem JC (zs : List Hn) (hz : Hn) (ch : List Int) (m : Nat) (said : List (Option Int)) : Ba (.t zs hz ch) m said = Ba hz zs.length (BH (AZ zs m said)) := by simp only [Ba]
structure BZ (C : Cs) (O : Ac) (n q p hp m : Nat) (s : Int) (zs : List Hn) (hz : Hn) (ch : List Int) (dp : List D) : Prop where
 t : Ap C O (.t zs hz ch) q m s
 a : BK C O zs p m s
 h : Ap C O hz hp zs.length s
 ok : AI n (.t zs hz ch) m s
 d : AO (.t zs hz ch) <= 2
 ap : q + AH (.t zs hz ch) <= p /\ p + An zs <= hp
 e : dp = (Bd zs p).map Cq
theorem BZ.own {C : Cs} {O O' : Ac} {n q p hp m : Nat} {s : Int} {zs : List Hn} {hz : Hn} {ch : List Int} {dp : List D} (h : BZ C O n q p hp m s zs hz ch dp) (hO : ∀ i,q <= i -> i < hp + AH hz -> O'[i]? = O[i]?) : BZ C O' n q p hp m s zs hz ch dp :=
 ⟨h.t.own λ j h1 h2 => hO j h1 (by have := h.ap; omega),h.a.own λ j h1 h2 => hO j (by have := h.ap; omega) (by have := h.ap; omega),h.h.own λ j h1 h2 => hO j (by have := h.ap; omega) h2,h.ok,h.d,h.ap,h.e⟩
theorem BZ.le {C : Cs} {O : Ac} {n q p hp m : Nat} {s : Int} {zs : List Hn} {hz : Hn} {ch : List Int} {dp : List D} (h : BZ C O n q p hp m s zs hz ch dp) : hp + AH hz <= O.length := Ap.le _ _ _ _ h.h
theorem BZ.hs {C : Cs} {O : Ac} {n q p hp m : Nat} {s : Int} {zs : List Hn} {hz : Hn} {ch : List Int} {dp : List D} (h : BZ C O n q p hp m s zs hz ch dp) : ∀ z ∈ Bd zs p,Ap C O z.2 z.1 m s /\ AI n z.2 m s /\ AO z.2 <= 2 := PD h.a h.ok.to.1 λ x hx => Nat.le_succ_of_le ((Dc h.d).1 x hx)
theorem BZ.hear {C : Cs} {O O1 O2 : Ac} {n q p hp m : Nat} {s so : Int} {zs : List Hn} {hz : Hn} {ch : List Int} {dp : List D} {said : List (Option Int)} (h : BZ C O n q p hp m s zs hz ch dp) (hsd : A9 (m : Nat) s said) (hso : 0 <= so /\ so <= s)
  (n1 : Ap C O1 (A0 (.t zs hz ch) m said so) q m s) (c2 : Cy p (hp + AH hz - p) O1 O2) (a2 : BK C O2 (BD zs m said so) p m s) (h2 : Ap C O2 (A0 hz zs.length (BH (AZ zs m said)) so) hp zs.length s) :
  BZ C O2 (n + 1) q p hp m s (BD zs m said so) (A0 hz zs.length (BH (AZ zs m said)) so) ((ch.zip (AZ zs m said)).map λ x => x.1 + ab (x.2 - so)) dp := by
 have e : A0 (.t zs hz ch) m said so = .t (BD zs m said so) (A0 hz zs.length (BH (AZ zs m said)) so) ((ch.zip (AZ zs m said)).map λ x => x.1 + ab (x.2 - so)) := by simp only [A0]
 have hk := AI.hear _ _ _ _ _ h.ok hsd hso
 have hd := Iy (.t zs hz ch) m said so
 have hz' := ED (.t zs hz ch) m said so
 have n2 : Ap C O2 (A0 (.t zs hz ch) m said so) q m s := n1.own λ j g1 g2 => c2.o j (.inl (by rw [hz'] at g2; have := h.ap; omega))
 rw [e] at hk hd hz' n2
 refine ⟨n2,a2,by rw [F5]; exact h2,hk,by rw [hd]; exact h.d,?_,by rw [X3]; exact h.e⟩
 rw [hz',EC]; exact h.ap
theorem BZ.lay {C : Cs} {A A1 A2 : Ac} {m : Nat} {s : Int} {zs : List Hn} {hz : Hn} {ch : List Int} (e1 : A1 = A ++ Bb C (.t zs hz ch) A.length m s) (e2 : A2 = A1 ++ AT C zs A1.length m s) (hk : AI 0 (.t zs hz ch) m s) (hd : AO (.t zs hz ch) <= 2) : BZ C (A2 ++ Bb C hz A2.length zs.length s) 0 A.length A1.length A2.length m s zs hz ch ((Bd zs A1.length).map Cq) := by
 have t1 : Ap C A1 (.t zs hz ch) A.length m s := by
  have := Fp C (.t zs hz ch) A [] m s
  rw [List.append_nil,<- e1] at this; exact this
 have t2 : BK C A2 zs A1.length m s := by
  have := K0 C zs A1 [] m s
  rw [List.append_nil,<- e2] at this; exact this
 have t3 := Fp C hz A2 [] zs.length s
 rw [List.append_nil] at t3
 have l1 : A1.length = A.length + AH (.t zs hz ch) := by rw [e1,List.length_append,HW]
 have l2 : A2.length = A1.length + An zs := by rw [e2,List.length_append,DW]
 refine ⟨?_,t2.own λ j _ h2 => List.getElem?_append_left wF,t3,hk,hd,⟨by omega,by omega⟩,rfl⟩
 have : Ap C A2 (.t zs hz ch) A.length m s := by rw [e2]; exact t1.ap
 exact this.ap
def MV (C : Cs) : AQ := λ ds O R => ∃ (n p hp m : Nat) (s so : Int) (zs : List Hn) (hz : Hn) (ch : List Int) (said : List (Option Int)),ds = [.tup ((Bd zs p).map Cq),.ptr hp,.tup (said.map od),.int so] /\ BK C O zs p m s /\ Ap C O hz hp zs.length s /\ AI n (.t zs hz ch) m s /\ AO (.t zs hz ch) <= 2 /\ p + An zs <= hp /\ n <= 1000 /\ (1 <= m /\ m <= 24) /\ A9 (m : Nat) s said /\ (0 <= so /\ so <= s) /\
 ∀ O',Cy p (hp + AH hz - p) O O' -> BK C O' (BD zs m said so) p m s -> Ap C O' (A0 hz zs.length (BH (AZ zs m said)) so) hp zs.length s -> R .non O'
def MY (C : Cs) : AQ := λ ds O R => ∃ (q p hp m : Nat) (s : Int) (zs : List Hn) (hz : Hn) (ts : List Tn) (dp : List D),ds = [.ptr q,.tup dp,.ptr hp,.tup (ts.map tD)] /\ BZ C O 0 q p hp m s zs hz (List.replicate zs.length 0) dp /\ BI zs m = zs /\ AJ hz zs.length = hz /\ (1 <= m /\ m <= 24) /\ (1 <= s /\ s <= 10) /\ (∀ t ∈ ts,Gi m s t) /\ ts.length <= 24 /\
 ∀ (O' : Ac) (n : Nat) (zs' : List Hn) (hz' : Hn) (ch' : List Int),Kp q O O' -> BZ C O' n q p hp m s zs' hz' ch' dp -> AJ (.t zs' hz' ch') m = .t zs hz (List.replicate zs.length 0) -> R (.bl true) O'
def Js (C : Cs) : AQ := λ ds O R => ∃ (m : Nat) (s x : Int),ds = [.int (m : Nat),.int s,.int x] /\ (1 <= m /\ m <= 24) /\ (1 <= s /\ s <= 10) /\ ∀ v,B9 0 m s v -> R (.ptr O.length) (O ++ [some (C.o (m : Nat) s v)])
def EQ (C : Cs) (O : Ac) (m : Nat) (s : Int) (pv : List (Nat × Hv)) : Prop := ∀ x ∈ pv,O[x.1]? = some (some (C.o (m : Nat) s x.2)) /\ B9 0 m s x.2
theorem EQ.app {C : Cs} {O Y : Ac} {m : Nat} {s : Int} {pv : List (Nat × Hv)} (h : EQ C O m s pv) : EQ C (O ++ Y) m s pv := λ x hx => ⟨IE (h x hx).1,(h x hx).2⟩
theorem Md {O O' Z : Ac} (h : ∃ Y,O' = O ++ Y) : ∃ Y,O' ++ Z = O ++ Y := by
 obtain ⟨Y,rfl⟩ := h
 exact ⟨_,List.append_assoc ..⟩
theorem Rv (x : Int) : ∃ n : Nat,Bt [D.int 1,.int 2,.int 3,.int 5] (x % 4) = some (.int (n : Nat)) /\ 1 <= n /\ n <= 5 := by
 have h : x % 4 = 0 \/ x % 4 = 1 \/ x % 4 = 2 \/ x % 4 = 3 := by omega
 rcases h with h | h | h | h <;> rw [h]
 ·exact ⟨1,rfl,by decide,by decide⟩
 ·exact ⟨2,rfl,by decide,by decide⟩
 ·exact ⟨3,rfl,by decide,by decide⟩
 ·exact ⟨5,rfl,by decide,by decide⟩
theorem Xe (ns : List Int) (st : Int) (m : Nat) : D2 ns st m <= st + 24 := by
 unfold D2 DV
 split <;> split <;> split <;> omega
theorem QC (ns : List Int) (st : Int) (m : Nat) (s : Int) (sl : Bool) : (FJ ns st m s sl).length <= 24 := by
 unfold FJ
 rw [List.length_map,List.length_range]
 have := Xe ns st m
 omega
def Jm : List D -> D -> Prop := λ ds d => ∃ (xs : List Int) (dd : D),ds = [.tup (xs.map D.int),dd] /\ LF dd (xs.map D.int) /\ xs.length <= 63 /\ d = .bl true
def Nc : List D -> D -> Prop := λ ds d => ∃ (said : List (Option Int)) (sc : Int),ds = [.tup (said.map od),.int sc] /\ said.length <= 24 /\ d = .tup ((Ec sc said).map od)
theorem Qd {xs : List Int} {i : Nat} {q : Int × Int} (h : (xs.zip xs)[i]? = some q) : q.1 = q.2 := by
 obtain ⟨hi,rfl⟩ := List.getElem?_eq_some_iff.mp h
 rw [List.getElem_zip]
theorem WM {X : Cx} {ρ : Aj} {O : Ac} {a b : Expr} {pos : Pos} {w : Option Int} (ha : Ad X ρ O a (od w)) (hb : Ad X ρ O b (.int 0)) : Ad X ρ O (.BoolOp .Or [a,b] pos) (.int (w.getD 0)) := by
 cases w with
 | none => exact WK ha hb
 | some i =>
  have := WL (pos := pos) (i := i) ha hb
  have e : (if i = 0 then D.int 0 else .int i) = D.int i := by
   split
   ·rename_i h; rw [h]
   ·rfl
  rw [e] at this
  exact this
theorem Rw (x : Int) : ∃ n : Nat,Bt [D.int 12,.int 24] (x % 2) = some (.int (n : Nat)) /\ 1 <= n /\ n <= 24 := by
 have h : x % 2 = 0 \/ x % 2 = 1 := by omega
 rcases h with h | h <;> rw [h]
 ·exact ⟨12,rfl,by decide,by decide⟩
 ·exact ⟨24,rfl,by decide,by decide⟩
def Gk (l : Nat) (pv : List (Nat × Hv)) : Prop := pv.Pairwise (λ a b => a.1 < b.1) /\ ∀ z ∈ pv,l < z.1
theorem Gk.app {l k : Nat} {pv : List (Nat × Hv)} {v : Hv} (h : Gk l pv) (hk : ∀ z ∈ pv,z.1 < k) (hl : l < k) : Gk l (pv ++ [(k,v)]) :=
 ⟨List.pairwise_append.mpr ⟨h.1,List.pairwise_singleton ..,λ a ha b hb => by rw [List.mem_singleton.mp hb]; exact hk a ha⟩,λ z hz => (List.mem_append.mp hz).elim (h.2 z) λ hz => by rw [List.mem_singleton.mp hz]; exact hl⟩
def MX (C : Cs) : AQ := λ ds O R => ∃ (m : Nat) (s x : Int),ds = [.int (m : Nat),.int s,.int x] /\ Lo x /\ (1 <= m /\ m <= 24) /\ (1 <= s /\ s <= 10) /\ ∀ (O' : Ac) (pv : List (Nat × Hv)),(∃ Y,O' = O ++ Y) -> EQ C O' m s pv -> Gk O.length pv -> (1 <= pv.length /\ pv.length <= 24) -> R (.tup (pv.map λ z => .ptr z.1)) O'
def FV (m : Nat) (pv : List (Nat × Hv)) : List Bk := pv.map λ z => ⟨z.1,m,1,AJ (.p z.2) m⟩
theorem ST (m : Nat) (pv : List (Nat × Hv)) : (pv.map λ z => D.ptr z.1) = (FV m pv).map Ds := by unfold FV; rw [List.map_map]; rfl
structure C0 (C : Cs) (O0 O : Ac) (s : Int) (m : Nat) (B bs : List Bk) : Prop where
 up : ∃ Y,O = O0 ++ Y
 b : BA C O s 0 1 B
 i : EX B m bs
 l : 1 <= bs.length /\ bs.length <= 24
 f : ∀ b ∈ B,O0.length <= b.q
theorem SS {C : Cs} {O0 O : Ac} {s : Int} {m : Nat} {pv : List (Nat × Hv)} (up : ∃ Y,O = O0 ++ Y) (hP : EQ C O m s pv) (hU : Gk O0.length pv) (hl : 1 <= pv.length /\ pv.length <= 24) : C0 C O0 O s m (FV m pv) (FV m pv) := by
 refine ⟨up,⟨λ b hb => ?_,?_⟩,λ b hb => ⟨hb,?_⟩,by unfold FV; rw [List.length_map]; exact hl,λ b hb => ?_⟩
 ·obtain ⟨z,hz,rfl⟩ := List.mem_map.mp hb
  exact ⟨.p z.2,0,Nat.le_refl _,Ap.pi (hP z hz).1,by simpa only [AI] using (hP z hz).2,by simp only [AO]; omega,by simp only [AH],rfl⟩
 ·exact List.pairwise_map.mpr (hU.1.imp λ h => h)
 ·obtain ⟨z,hz,rfl⟩ := List.mem_map.mp hb; rfl
 ·obtain ⟨z,hz,rfl⟩ := List.mem_map.mp hb
  exact Nat.le_of_lt (hU.2 z hz)
theorem C0.app {C : Cs} {O0 O Y : Ac} {s : Int} {m : Nat} {B bs : List Bk} (h : C0 C O0 O s m B bs) : C0 C O0 (O ++ Y) s m B bs := ⟨Md h.up,h.b.app,h.i,h.l,h.f⟩
theorem C0.len {C : Cs} {O0 O : Ac} {s : Int} {m : Nat} {B bs : List Bk} (h : C0 C O0 O s m B bs) : O0.length <= O.length := by
 obtain ⟨Y,rfl⟩ := h.up
 rw [List.length_append]; omega
theorem C0.more {C : Cs} {O0 O : Ac} {s : Int} {m r : Nat} {B bs : List Bk} {x : Hn} (h : C0 C O0 O s m B bs) (hk : AI 0 x r s) (hd : AO x <= 1) : C0 C O0 (O ++ Bb C x O.length r s) s m (B ++ [⟨O.length,r,AH x,AJ x r⟩]) bs := by
 refine ⟨Md h.up,h.b.app.more (Nat.le_refl _) ?_ hk hd λ b hb => h.b.le hb,h.i.mono λ b hb => List.mem_append_left _ hb,h.l,λ b hb => ?_⟩
 ·have := Fp C x O [] r s
  rw [List.append_nil] at this; exact this
 ·rcases List.mem_append.mp hb with hb | hb
  ·exact h.f b hb
  ·rw [List.mem_singleton.mp hb]; exact h.len
theorem Pg : ∀ (pv : List (Nat × Hv)),Cf (pv.map λ z => Hn.p z.2) = 0
 | [] => by simp only [List.map_nil,Cf]
 | z :: pv => by simp only [List.map_cons,Cf,AO]; rw [Pg pv]; rfl
theorem Ol {C : Cs} {O : Ac} {m : Nat} {s : Int} {pv : List (Nat × Hv)} {v : Hv} (hP : EQ C O m s pv) (hl : 1 <= pv.length /\ pv.length <= 24) (hv : B9 0 pv.length s v) : AI 0 (AJ (.t (pv.map λ z => .p z.2) (.p v) []) m) m s /\ AO (AJ (.t (pv.map λ z => .p z.2) (.p v) []) m) <= 1 := by
 refine ⟨?_,?_⟩
 ·have e : AJ (.t (pv.map λ z => .p z.2) (.p v) []) m = AJ (.t (pv.map λ z => .p z.2) (.p v) (List.replicate pv.length 0)) m := by simp only [AJ]
  rw [e]
  refine AI.anew (n := 0) _ _ _ ?_
  simp only [AI]
  refine ⟨(ES _).mpr λ x hx => ?_,by rw [List.length_map]; exact hv,by rw [List.length_map]; exact hl,by rw [List.length_map,List.length_replicate]⟩
  obtain ⟨z,hz,rfl⟩ := List.mem_map.mp hx
  simpa only [AI] using (hP z hz).2
 ·rw [GQ]
  simp only [AO]
  rw [Pg]; decide
theorem NK {C : Cs} {O : Ac} {m : Nat} {s : Int} {pv : List (Nat × Hv)} (hP : EQ C O m s pv) : Cm C O m s 2 (pv.map λ z => (z.1,Hn.p z.2)) := λ x hx => by
 obtain ⟨z,hz,rfl⟩ := List.mem_map.mp hx
 exact ⟨Ap.pi (hP z hz).1,⟨0,by simpa only [AI] using (hP z hz).2⟩,by simp only [AO]; decide⟩
def MB (C : Cs) : AQ := λ ds O R => ∃ (m : Nat) (s x y : Int),ds = [.int (m : Nat),.int s,.int x,.int y] /\ Lo x /\ Lo y /\ (1 <= m /\ m <= 24) /\ (1 <= s /\ s <= 10) /\ ∀ (O' : Ac) (B bs : List Bk) (hb : Bk),C0 C O O' s m B bs -> EX B bs.length [hb] -> R (.tup [.tup (bs.map Ds),.ptr hb.q]) O'
theorem Wm (m : Nat) (s : Int) (hm : m <= 24) (hs : 1 <= s) : A9 (m : Nat) s ((List.range m).map λ k => some (((k : Nat) : Int) % (s + 1))) := by
 refine ⟨by rw [List.length_map,List.length_range],by omega,λ w hw => ?_⟩
 obtain ⟨k,_,rfl⟩ := List.mem_map.mp hw
 have h1 := Int.emod_nonneg ((k : Nat) : Int) (show s + 1 ≠ 0 by omega)
 have h2 := Int.emod_lt_of_pos ((k : Nat) : Int) (show 0 < s + 1 by omega)
 right
 show (decide (0 <= ((k : Nat) : Int) % (s + 1)) && decide (((k : Nat) : Int) % (s + 1) <= s)) = true
 rw [decide_eq_true h1,decide_eq_true wF]; rfl
theorem LZ (n : Nat) (s : Int) (hn : n <= 24) (hs : 0 <= s) : A9 (n : Nat) s (List.replicate n (some 0)) := by
 refine ⟨by rw [List.length_replicate],by omega,λ w hw => ?_⟩
 rw [(List.mem_replicate.mp hw).2]
 right
 show (decide ((0 : Int) <= 0) && decide ((0 : Int) <= s)) = true
 rw [decide_eq_true hs]; rfl
theorem Cm.ok {C : Cs} {O : Ac} {m N : Nat} {s : Int} {pv : List (Nat × Hn)} (h : Cm C O m s 2 pv) (hn : ∀ z ∈ pv,∃ n ≤ N,AI n z.2 m s) : ∀ z ∈ pv,Ap C O z.2 z.1 m s /\ (∃ n,AI n z.2 m s) /\ AO z.2 <= 2 := λ z hz => ⟨(h z hz).1,(h z hz).2.1,Nat.le_of_lt (h z hz).2.2⟩
theorem W8 (a : List Int) : Gb (.lst (a.map D.int)) (.lst (a.map D.int)) = true := by rw [W9,decide_eq_true rfl]
theorem Xp {zs : List Hn} {hz : Hn} {ch : List Int} {j : Nat} (h1 : ∀ y ∈ zs,AO y <= j) (h2 : AO hz <= j) : AO (.t zs hz ch) <= j + 1 := by
 simp only [AO]
 have : Cf zs <= j := by
  clear h2
  induction zs with
  | nil => simp only [Cf]; omega
  | cons y zs ih => simp only [Cf]; exact Nat.max_le.mpr ⟨h1 y List.mem_cons_self,ih λ z hz => h1 z (List.mem_cons_of_mem _ hz)⟩
 have := Nat.max_le.mpr ⟨this,h2⟩
 omega
theorem Yb (pv : List (Nat × Hn)) (m : Nat) : pv.map (λ z => AJ z.2 m) = BI (pv.map (·.2)) m := by rw [Gh,List.map_map]; rfl
seal Ad Ev Bx Ex Cw AY Cn
section
variable {P : Program} {w : World} {K : PySem.W.Frag} {mg : Str -> Option Value} {base : Heap} {CK1 CK5 CK3 CK2 CK0 CK4 : Addr} {f : Addr} {fd : FuncData} (T : Txt K mg CK1 CK5 CK3 CK2 CK0 CK4)
include T
theorem UA (Fn : Aw K "is_whole" "is_whole" JZ f fd) (hm : mg "is_whole" = some (.ref f)) (hb : Binds K fd ["value"] []) : Am P w K mg base 1 "is_whole" (Ax Jn) := by
 refine A7 (k := 0) Fn RJ hm hb (λ ds O R h => ?_) (λ cdv A outer s H E ds O R hr h => ?_)
 ·obtain ⟨_,⟨_,rfl,_⟩,_⟩ := h; rfl
 ·obtain ⟨d,⟨w,rfl,rfl⟩,hR⟩ := h
  cases w with
  | none =>
   refine Af (AM (Ad.ev (Eo (AW T.xq (Ab (Aa 0) (Ab (DF T.xr) Ae)) (Lr rfl)) (λ hbb => (DZ (OX (AW T.xq (Ab (Aa 0) (Ab (DF T.xt) Ae)) (Ls rfl)))))) ?_))
   exact hR
  | some i =>
   refine Af (AM (Ad.ev (Eo (AW T.xq (Ab (Aa 0) (Ab (DF T.xr) Ae)) (Lr rfl)) (λ hbb => (DZ (OX (AW T.xq (Ab (Aa 0) (Ab (DF T.xt) Ae)) (Ls rfl)))))) ?_))
   exact hR
theorem UG (Fn : Aw K "counted" "counted" J5 f fd) (hm : mg "counted" = some (.ref f)) (hb : Binds K fd ["weights"] []) : Am P w K mg base 1 "counted" (Ax M8) := by
 refine A7 (k := 0) Fn RP hm hb (λ ds O R h => ?_) (λ cdv A outer s H E ds O R hr h => ?_)
 ·obtain ⟨_,⟨_,rfl,_⟩,_⟩ := h; rfl
 ·obtain ⟨d,⟨ws,rfl,hl,rfl⟩,hR⟩ := h
  refine Af (AR (AU (AW T.xm (Ab (Aa 0) Ae) (Lq (by first | exact Or.inr rfl | exact Or.inl (Or.inl rfl) | exact Or.inl (Or.inr (Or.inl rfl)) | exact Or.inl (Or.inr (Or.inr ⟨_,rfl,by first | assumption | rfl⟩))))) Ag Bq) (λ hk => ?_) (λ hk => ?_))
  ·have hk := of_decide_eq_true hk
   refine Af (AM (Ad.ev (BL (λ _ => .int 1) ["weight"] [] [] (Bp (Aa 0) wB) (by rw [sizeLine_eq]; omega) (by exact λ q hq s H fp => ⟨[some _],rfl,(AE 0 (show List.Nodup (["weight"] : List Str) by decide +kernel)),⟨_,rfl,Ag⟩⟩)) ?_))
   unfold Cl at hR
   rw [if_pos hk,List.map_map] at hR
   exact hR
  ·have hk := of_decide_eq_false hk
   refine Au ?_
   refine Af (AM (Ad.ev (BW T.xl (Ab (Aa 0) Ae) (X0 (by first | exact Or.inr rfl | exact Or.inl (Or.inl rfl) | exact Or.inl (Or.inr (Or.inl rfl)) | exact Or.inl (Or.inr (Or.inr ⟨_,rfl,by first | assumption | rfl⟩))))) ?_))
   unfold Cl at hR
   rw [if_neg hk] at hR
   exact hR
theorem Uj (Fn : Aw K "middle" "middle" JK f fd) (hm : mg "middle" = some (.ref f)) (hb : Binds K fd ["numbers","weights"] []) (gp : Am P w K mg base 1 "counted" (Ax M8)) : Am P w K mg base 2 "middle" (Ax MM) := by
 refine A7 (k := 1) Fn Fk hm hb (λ ds O R h => ?_) (λ cdv A outer s H E ds O R hr h => ?_)
 ·obtain ⟨_,⟨_,_,rfl,_⟩,_⟩ := h; rfl
 ·obtain ⟨d,⟨ns,ws,rfl,⟨h1,h2,h3⟩,rfl⟩,hR⟩ := h
  refine Af (A5 2 (Ad.ev (AC gp (hr.mono wE) (Ab (Aa 1) Ae) ⟨_,rfl,by assumption,rfl⟩) ?_) Fk.nd)
  have hc := Pr h3
  have hcl := Ps ws
  unfold Fo at hR
  generalize Cl ws = cs at hR hc hcl
  refine Af (A5 3 (Ad.ev (AW T.xm (Ab (Aa 2) Ae) (Lq (by first | exact Or.inr rfl | exact Or.inl (Or.inl rfl) | exact Or.inl (Or.inr (Or.inl rfl)) | exact Or.inl (Or.inr (Or.inr ⟨_,rfl,by first | assumption | rfl⟩))))) ?_) Fk.nd)
  refine Af (A5 4 (Ad.ev Ag ?_) Fk.nd)
  have hz : (ns.zip cs).length < 64 := by rw [List.length_zip]; omega
  have hsl : (Cc AS (ns.zip cs)).length <= 63 := by rw [(Hh AS (ns.zip cs)).length_eq]; omega
  have hsm : ∀ p ∈ Cc AS (ns.zip cs),0 <= p.2 := λ p hp => hc _ (List.of_mem_zip ((Hh AS (ns.zip cs)).mem_iff.mp hp)).2
  refine Af (C8 (Bp (WG GF (λ Y => XF) Vq (Fs (Aa 0) (Aa 2) wB wB T.xn) wF T.xo) wB) (λ i ρ O' => ∃ (r : Int) (u v : Option D),ρ = [some (.tup (ns.map D.int)),some (.tup (ws.map D.int)),some (.lst (cs.map D.int)),some (.int cs.sum),some (.int r),u,v] /\ r = sm (λ q => q.2) ((Cc AS (ns.zip cs)).take i) /\ go cs.sum 0 (Cc AS (ns.zip cs)) = go cs.sum r ((Cc AS (ns.zip cs)).drop i) /\ O' = O) ⟨0,_,_,rfl,rfl,rfl,rfl⟩ ?_ ?_)
  ·rintro i x ρ O' hx ⟨r,u,v,rfl,hr1,hg,rfl⟩
   rw [List.getElem?_map] at hx
   cases hp : (Cc AS (ns.zip cs))[i]? with
   | none => rw [hp] at hx; cases hx
   | some p =>
    rw [hp] at hx
    cases hx
    refine ⟨_,Dg (BP (AE 5 Fk.nd) (BP (AE 6 Fk.nd) Df)),?_⟩
    refine Af (A5 4 (Ad.ev (Ak (Aa 4) (Aa 6) BR) ?_) Fk.nd)
    have h4 : r + p.2 = sm (λ q => q.2) ((Cc AS (ns.zip cs)).take (i + 1)) := by rw [Ro hp,hr1]
    have hd : (Cc AS (ns.zip cs)).drop i = p :: (Cc AS (ns.zip cs)).drop (i + 1) := by
     obtain ⟨hi,e⟩ := List.getElem?_eq_some_iff.mp hp
     rw [List.drop_eq_getElem_cons hi,e]
    rw [hd] at hg
    refine Af (AR (AU (Ak Ag (Aa 4) (CC (Dx.ok (Or.inl ⟨by decide,by decide⟩)))) (Aa 3) XE) (λ hk => ?_) (λ hk => ?_))
    ·have hk := of_decide_eq_true hk
     refine Af (AM (Ad.ev (Aa 5) ?_))
     rw [hg] at hR
     unfold go at hR
     rw [if_pos hk] at hR
     exact hR
    ·have hk := of_decide_eq_false hk
     refine Au (Au ?_)
     refine ⟨_,_,_,rfl,h4,?_,rfl⟩
     rw [hg]
     conv => lhs; unfold go
     rw [if_neg hk]
  ·rintro ρ O' ⟨r,u,v,rfl,hr1,hg,rfl⟩
   refine Af (AM (Ad.ev Ag ?_))
   rw [List.length_map,List.drop_of_length_le (Nat.le_refl _)] at hg
   rw [hg] at hR
   exact hR
theorem UH (Fn : Aw K "check_within" "check_within" J6 f fd) (hm : mg "check_within" = some (.ref f)) (hb : Binds K fd ["what","value","least","most"] []) (kj : Am P w K mg base 1 "is_whole" (Ax Jn)) : Am P w K mg base 2 "check_within" (Ax FN) := by
 refine A7 (k := 1) Fn RQ hm hb (λ ds O R h => ?_) (λ cdv A outer s H E ds O R hr h => ?_)
 ·obtain ⟨_,⟨_,_,_,_,rfl,_⟩,_⟩ := h; rfl
 ·obtain ⟨d,⟨x,v,l,u,rfl,hv,rfl⟩,hR⟩ := h
  refine Af (AR (BN.t (Dp (Ck (B7 (AC kj (hr.mono wE) (Ab (Aa 1) Ae) ⟨some v,rfl,rfl⟩))) (λ hbb => (DE (Ck (WZ (Aa 2) (Aa 1) (Aa 3) IA (λ hbb => IA))))))) (λ hk => ?_) (λ hk => Au (Au hR)))
  exfalso
  have hk : (!true || !(decide (l <= v) && decide (v <= u))) = true := hk
  rw [decide_eq_true hv.1,decide_eq_true hv.2] at hk
  cases hk
theorem UL (Fn : Aw K "check_scale" "check_scale" Ka f fd) (hm : mg "check_scale" = some (.ref f)) (hb : Binds K fd ["scale"] []) (jo : Am P w K mg base 2 "check_within" (Ax FN)) : Am P w K mg base 3 "check_scale" (Ax MI) := by
 refine A7 (k := 2) Fn RV hm hb (λ ds O R h => ?_) (λ cdv A outer s H E ds O R hr h => ?_)
 ·obtain ⟨_,⟨_,rfl,_⟩,_⟩ := h; rfl
 ·obtain ⟨d,⟨s,rfl,hs,rfl⟩,hR⟩ := h
  refine Af (A3 (Ad.ev (AC jo (hr.mono wE) (Ab Ft (Ab (Aa 0) (Ab Ag (Ab (GP T.bd.choose_spec) Ae)))) ⟨_,_,_,_,rfl,by omega,rfl⟩) ?_))
  exact Au hR
theorem UO (Fn : Aw K "check_making" "check_making" Kd f fd) (hm : mg "check_making" = some (.ref f)) (hb : Binds K fd ["many","scale"] []) (jo : Am P w K mg base 2 "check_within" (Ax FN)) (gq : Am P w K mg base 3 "check_scale" (Ax MI)) : Am P w K mg base 4 "check_making" (Ax MN) := by
 refine A7 (k := 3) Fn RY hm hb (λ ds O R h => ?_) (λ cdv A outer s H E ds O R hr h => ?_)
 ·obtain ⟨_,⟨_,_,rfl,_⟩,_⟩ := h; rfl
 ·obtain ⟨d,⟨m,s,rfl,hm,hs,rfl⟩,hR⟩ := h
  refine Af (A3 (Ad.ev (AC jo (hr.mono wE) (Ab Ft (Ab (Aa 0) (Ab Ag (Ab (GP T.bc.choose_spec) Ae)))) ⟨_,_,_,_,rfl,by omega,rfl⟩) ?_))
  refine Af (A3 (Ad.ev (AC gq (hr.mono wE) (Ab (Aa 1) Ae) ⟨_,rfl,by assumption,rfl⟩) ?_))
  exact Au hR
theorem UP (Fn : Aw K "check_fraction" "check_fraction" Ke f fd) (hm : mg "check_fraction" = some (.ref f)) (hb : Binds K fd ["top","bottom"] []) (jo : Am P w K mg base 2 "check_within" (Ax FN)) : Am P w K mg base 3 "check_fraction" (Ax MZ) := by
 refine A7 (k := 2) Fn RZ hm hb (λ ds O R h => ?_) (λ cdv A outer s H E ds O R hr h => ?_)
 ·obtain ⟨_,⟨_,_,rfl,_⟩,_⟩ := h; rfl
 ·obtain ⟨d,⟨t,b,rfl,hb,rfl⟩,hR⟩ := h
  refine Af (A3 (Ad.ev (AC jo (hr.mono wE) (Ab Ft (Ab (Aa 1) (Ab Ag (Ab (GP T.bf.choose_spec) Ae)))) ⟨_,_,_,_,rfl,by omega,rfl⟩) ?_))
  refine Af (A3 (Ad.ev (AC jo (hr.mono wE) (Ab Ft (Ab (Aa 0) (Ab Ag (Ab (Ak (Aa 1) Ag Ed) Ae)))) ⟨_,_,_,_,rfl,by omega,rfl⟩) ?_))
  exact Au hR
theorem UK (Fn : Aw K "check_share" "check_share" J9 f fd) (hm : mg "check_share" = some (.ref f)) (hb : Binds K fd ["share","parts"] []) (jo : Am P w K mg base 2 "check_within" (Ax FN)) : Am P w K mg base 3 "check_share" (Ax MH) := by
 refine A7 (k := 2) Fn RU hm hb (λ ds O R h => ?_) (λ cdv A outer s H E ds O R hr h => ?_)
 ·obtain ⟨_,⟨_,_,rfl,_⟩,_⟩ := h; rfl
 ·obtain ⟨d,⟨t,b,rfl,hb,rfl⟩,hR⟩ := h
  refine Af (A3 (Ad.ev (AC jo (hr.mono wE) (Ab Ft (Ab (Aa 1) (Ab Ag (Ab (GP T.bg.choose_spec) Ae)))) ⟨_,_,_,_,rfl,by omega,rfl⟩) ?_))
  refine Af (A3 (Ad.ev (AC jo (hr.mono wE) (Ab Ft (Ab (Aa 0) (Ab Ag (Ab (Ak (Aa 1) Ag Ed) Ae)))) ⟨_,_,_,_,rfl,by omega,rfl⟩) ?_))
  exact Au hR
theorem UD (Fn : Aw K "is_on_scale" "is_on_scale" J2 f fd) (hm : mg "is_on_scale" = some (.ref f)) (hb : Binds K fd ["scale","value"] []) (kj : Am P w K mg base 1 "is_whole" (Ax Jn)) : Am P w K mg base 2 "is_on_scale" (Ax Jl) := by
 refine A7 (k := 1) Fn RM hm hb (λ ds O R h => ?_) (λ cdv A outer s H E ds O R hr h => ?_)
 ·obtain ⟨_,⟨_,_,rfl,_⟩,_⟩ := h; rfl
 ·obtain ⟨d,⟨s,w,rfl,rfl⟩,hR⟩ := h
  cases w with
  | none =>
   refine Af (AM (Ad.ev (Eo (l := false) (AC kj (hr.mono wE) (Ab (Aa 1) Ae) ⟨none,rfl,rfl⟩) (λ hbb => absurd hbb Bool.false_ne_true)) ?_))
   exact hR
  | some i =>
   refine Af (AM (Ad.ev (Eo (AC kj (hr.mono wE) (Ab (Aa 1) Ae) ⟨some i,rfl,rfl⟩) (λ hbb => (DZ (WU Ag (Aa 1) (Aa 0) IA (λ hbb => IA))))) ?_))
   exact hR
theorem UC (Fn : Aw K "is_said" "is_said" J1 f fd) (hm : mg "is_said" = some (.ref f)) (hb : Binds K fd ["many","scale","said"] []) (km : Am P w K mg base 2 "is_on_scale" (Ax Jl)) : Am P w K mg base 3 "is_said" (Ax Jo) := by
 refine A7 (k := 2) Fn RL hm hb (λ ds O R h => ?_) (λ cdv A outer s H E ds O R hr h => ?_)
 ·obtain ⟨_,⟨_,_,_,rfl,_⟩,_⟩ := h; rfl
 ·obtain ⟨d,⟨m,s,said,rfl,⟨h1,h2,h3⟩,rfl⟩,hR⟩ := h
  refine Af (AR (BN.t (Dp (Ck (B7 (AW T.xq (Ab (Aa 2) (Ab (DF T.xk) Ae)) (GT rfl)))) (λ hbb => (DE (AU (AW T.xj (Ab (Aa 2) Ae) (BY (by first | exact Or.inr rfl | exact Or.inl (Or.inl rfl) | exact Or.inl (Or.inr (Or.inl rfl)) | exact Or.inl (Or.inr (Or.inr ⟨_,rfl,by first | assumption | rfl⟩))))) (Aa 0) GR))))) (λ hk => ?_) (λ hk => Au ?_))
  ·exfalso
   have e : (!decide ((((said.map od).length : Nat) : Int) = m)) = false := by rw [List.length_map,h1,decide_eq_true rfl]; rfl
   have hk : (!true || !decide ((((said.map od).length : Nat) : Int) = m)) = true := hk
   rw [e] at hk
   cases hk
  refine Af (AM (Ad.ev (AW T.xu (Ab (BL (λ w => .bl (Dn (od w) || CO s w)) ["what"] ["scale"] [1] (Bp (Aa 2) wB) (by rw [sizeLine_eq]; omega) (by exact λ q hq s H fp => ⟨[some _],rfl,(AE 0 (show List.Nodup (["what","scale"] : List Str) by decide +kernel)),⟨_,rfl,(WN (Em (Aa 0) D0 Fy) (λ hbb => (DZ (AC km (hr.mono wE) (Ab (Aa 1) (Ab (Aa 0) Ae)) ⟨_,q,rfl,rfl⟩))))⟩⟩)) Ae) (Lv (bs := said.map λ w => (Dn (od w) || CO s w)) (Or.inl (Or.inl (congrArg D.lst (by rw [List.map_map]; rfl)))))) ?_))
  have e : ((said.map λ w => (Dn (od w) || CO s w)).all id) = true := by
   rw [List.all_map,List.all_eq_true]
   intro w hw
   rcases h3 w hw with rfl | h
   ·rfl
   ·show (Dn (od w) || CO s w) = true
    rw [h,Bool.or_true]
  rw [e]
  exact hR
theorem UM (Fn : Aw K "check_said" "check_said" Kb f fd) (hm : mg "check_said" = some (.ref f)) (hb : Binds K fd ["many","scale","said"] []) (kn : Am P w K mg base 3 "is_said" (Ax Jo)) : Am P w K mg base 4 "check_said" (Ax Hj) := by
 refine A7 (k := 3) Fn RW hm hb (λ ds O R h => ?_) (λ cdv A outer s H E ds O R hr h => ?_)
 ·obtain ⟨_,⟨_,_,_,rfl,_⟩,_⟩ := h; rfl
 ·obtain ⟨d,⟨m,s,said,rfl,hs,rfl⟩,hR⟩ := h
  exact Af (AR (Ck (B7 (AC kn (hr.mono wE) (Ab (Aa 0) (Ab (Aa 1) (Ab (Aa 2) Ae))) ⟨_,_,_,rfl,by assumption,rfl⟩))) (λ hk => by cases hk) (λ hk => Au (Au hR)))
theorem Uh (Fn : Aw K "power" "power" JI f fd) (hm : mg "power" = some (.ref f)) (hb : Binds K fd ["base","exponent"] []) : Am P w K mg base 1 "power" (Ax Hi) := by
 refine A7 (k := 0) Fn Hr hm hb (λ ds O R h => ?_) (λ cdv A outer s H E ds O R hr h => ?_)
 ·obtain ⟨_,⟨_,_,rfl,_⟩,_⟩ := h; rfl
 ·obtain ⟨d,⟨b,n,rfl,hb,hn,rfl⟩,hR⟩ := h
  refine Af (A5 2 (Ad.ev Ag ?_) Hr.nd)
  refine Af (C8 (Ge (Aa 1) T.xp wC wC) (λ i ρ O' => ∃ u,ρ = [some (.int b),some (.int n),some (.int (b ^ i)),u] /\ O' = O) ⟨none,by rw [Int.pow_zero]; rfl,rfl⟩ ?_ ?_)
  ·rintro i x ρ O' hx ⟨u,rfl,rfl⟩
   refine ⟨_,AE 3 Hr.nd,?_⟩
   refine Af (A5 2 (Ad.ev (Ak (Aa 2) (Aa 0) (CC (by first | assumption | exact Dx.ok (Or.inl ⟨by omega,by omega⟩) | exact Dx.ok (Or.inr ⟨by omega,by omega⟩)))) ?_) Hr.nd)
   exact Au ⟨_,by rw [Int.pow_succ]; rfl,rfl⟩
  ·rintro ρ O' ⟨u,rfl,rfl⟩
   rw [EF]
   exact Af (AM (Ad.ev (Aa 2) hR))
theorem UQ (Fn : Aw K "charge" "charge" Kf f fd) (hm : mg "charge" = some (.ref f)) (hb : Binds K fd ["what","so"] []) : Am P w K mg base 1 "charge" (Ax FO) := by
 refine A7 (k := 0) Fn R0 hm hb (λ ds O R h => ?_) (λ cdv A outer s H E ds O R hr h => ?_)
 ·obtain ⟨_,⟨_,_,rfl,_⟩,_⟩ := h; rfl
 ·obtain ⟨d,⟨w,z,rfl,rfl⟩,hR⟩ := h
  cases w with
  | none =>
   refine Af (AR (AU (Aa 0) D0 Fy) (λ hk => ?_) (λ hk => ?_))
   ·exact Af (AM (Ad.ev Ag hR))
   ·cases hk
  | some w =>
   refine Af (AR (AU (Aa 0) D0 Fy) (λ hk => ?_) (λ hk => ?_))
   ·cases hk
   ·exact Au (Af (AM (Ad.ev (AW T.xy (Ab (Ak (Aa 0) (Aa 1) Ed) Ae) Pz) hR)))
theorem UB (Fn : Aw K "is_turn" "is_turn" J0 f fd) (hm : mg "is_turn" = some (.ref f)) (hb : Binds K fd ["many","scale","turn"] []) (kn : Am P w K mg base 3 "is_said" (Ax Jo)) (km : Am P w K mg base 2 "is_on_scale" (Ax Jl)) : Am P w K mg base 4 "is_turn" (Ax MQ) := by
 refine A7 (k := 3) Fn RK hm hb (λ ds O R h => ?_) (λ cdv A outer s H E ds O R hr h => ?_)
 ·obtain ⟨_,⟨_,_,_,_,rfl,_⟩,_⟩ := h; rfl
 ·obtain ⟨d,⟨m,s,said,so,rfl,hs,hso,rfl⟩,hR⟩ := h
  refine Af (AR (BN.t (Dp (Ck (B7 (AW T.xq (Ab (Aa 2) (Ab (DF T.xk) Ae)) (GT rfl)))) (λ hbb => (DE (AU (AW T.xj (Ab (Aa 2) Ae) (BY (by first | exact Or.inr rfl | exact Or.inl (Or.inl rfl) | exact Or.inl (Or.inr (Or.inl rfl)) | exact Or.inl (Or.inr (Or.inr ⟨_,rfl,by first | assumption | rfl⟩))))) Ag GR))))) (λ hk => by cases hk) (λ hk => Au ?_))
  have e : CO s (some so) = true := by
   show (decide (0 <= so) && decide (so <= s)) = true
   rw [decide_eq_true hso.1,decide_eq_true hso.2]; rfl
  refine Af (AM (Ad.ev (Eo (AC kn (hr.mono wE) (Ab (Aa 0) (Ab (Aa 1) (Ab (CZ (Aa 2) Ag rfl) Ae))) ⟨_,_,_,rfl,by assumption,rfl⟩) (λ hbb => (DZ (AC km (hr.mono wE) (Ab (Aa 1) (Ab (CZ (Aa 2) Ag rfl) Ae)) ⟨s,some so,rfl,rfl⟩)))) ?_))
  rw [e]
  exact hR
theorem UI (Fn : Aw K "check_turn" "check_turn" J7 f fd) (hm : mg "check_turn" = some (.ref f)) (hb : Binds K fd ["many","scale","said","so"] []) (gr : Am P w K mg base 4 "is_turn" (Ax MQ)) : Am P w K mg base 5 "check_turn" (Ax Fh) := by
 refine A7 (k := 4) Fn RR hm hb (λ ds O R h => ?_) (λ cdv A outer s H E ds O R hr h => ?_)
 ·obtain ⟨_,⟨_,_,_,_,rfl,_⟩,_⟩ := h; rfl
 ·obtain ⟨d,⟨m,s,said,so,rfl,hs,hso,rfl⟩,hR⟩ := h
  exact Af (AR (Ck (B7 (AC gr (hr.mono wE) (Ab (Aa 0) (Ab (Aa 1) (Ab (CV (Ab (Aa 2) (Ab (Aa 3) Ae))) Ae))) ⟨_,_,_,_,rfl,by assumption,by assumption,rfl⟩))) (λ hk => by cases hk) (λ hk => Au (Au hR)))
theorem UR (Fn : Aw K "awake_in" "awake_in" Kg f fd) (hm : mg "awake_in" = some (.ref f)) (hb : Binds K fd ["said"] []) : Am P w K mg base 1 "awake_in" (Ax Jv) := by
 refine A7 (k := 0) Fn R1 hm hb (λ ds O R h => ?_) (λ cdv A outer s H E ds O R hr h => ?_)
 ·obtain ⟨_,⟨_,rfl,_⟩,_⟩ := h; rfl
 ·obtain ⟨d,⟨said,rfl,hs,rfl⟩,hR⟩ := h
  refine Af (AM (Ad.ev (O9 (λ q : Option Int × Nat => if (!Dn (od q.1)) = true then some (D.int (q.2 : Nat)) else none) ["adviser","what"] [] [] (Fv (WD (Aa 0) wB T.xx)) (by rw [List.length_zipIdx,sizeLine_eq]; omega) (by exact λ q hq s H fp => ⟨[some _,some _],rfl,(Dg (BP (AE 0 (show List.Nodup (["adviser","what"] : List Str) by decide +kernel)) (BP (AE 1 (show List.Nodup (["adviser","what"] : List Str) by decide +kernel)) Df))),⟨_,(AU (Aa 1) D0 Pt),λ hbb => ⟨_,if_pos hbb,(Aa 0)⟩,λ hbb => if_neg (λ hcc => Bool.false_ne_true (hbb.symm.trans hcc))⟩⟩)) ?_))
  rw [X7]
  exact hR
theorem Ui (Fn : Aw K "middle_awake" "middle_awake" JJ f fd) (hm : mg "middle_awake" = some (.ref f)) (hb : Binds K fd ["said","weights"] []) (gu : Am P w K mg base 2 "middle" (Ax MM)) (ko : Am P w K mg base 1 "awake_in" (Ax Jv)) : Am P w K mg base 4 "middle_awake" (Ax MP) := by
 refine A7 (k := 3) Fn Nl hm hb (λ ds O R h => ?_) (λ cdv A outer s H E ds O R hr h => ?_)
 ·obtain ⟨_,⟨_,_,rfl,_⟩,_⟩ := h; rfl
 ·obtain ⟨d,⟨said,ws,rfl,hs,hl,hw,rfl⟩,hR⟩ := h
  have hal := Lx said
  refine Af (A5 2 (Ad.ev (AC ko (hr.mono wE) (Ab (Aa 0) Ae) ⟨_,rfl,by assumption,rfl⟩) ?_) Nl.nd)
  have e : [D.tup ((ax said).map λ k => D.int ((Ca said k).getD 0)),D.tup ((ax said).map λ k => D.int (ws.getD k 0))] = [.tup ((Ee said).map D.int),.tup ((Fc said ws).map D.int)] := by
   unfold Ee Fc
   rw [List.map_map,List.map_map]
   rfl
  exact Af (AM (Ad.ev (AC gu (hr.mono wE) (Ab (BW T.xk (Ab (BL (λ k => D.int ((Ca said k).getD 0)) ["adviser"] ["said"] [0] (Bp (Aa 2) wB) (by rw [sizeLine_eq]; omega) (by exact λ q hq s H fp => ⟨[some _],rfl,(AE 0 (show List.Nodup (["adviser","said"] : List Str) by decide +kernel)),⟨_,rfl,(CZ (Aa 1) (Aa 0) (PV hq))⟩⟩)) Ae) (BS (by first | exact Or.inr rfl | exact Or.inl (Or.inl rfl) | exact Or.inl (Or.inr (Or.inl rfl)) | exact Or.inl (Or.inr (Or.inr ⟨_,rfl,by first | assumption | rfl⟩))))) (Ab (BW T.xk (Ab (BL (λ k => D.int (ws.getD k 0)) ["adviser"] ["weights"] [1] (Bp (Aa 2) wB) (by rw [sizeLine_eq]; omega) (by exact λ q hq s H fp => ⟨[some _],rfl,(AE 0 (show List.Nodup (["adviser","weights"] : List Str) by decide +kernel)),⟨_,rfl,(CZ (Aa 1) (Aa 0) (PR (by have := ID hq; omega)))⟩⟩)) Ae) (BS (by first | exact Or.inr rfl | exact Or.inl (Or.inl rfl) | exact Or.inl (Or.inr (Or.inl rfl)) | exact Or.inl (Or.inr (Or.inr ⟨_,rfl,by first | assumption | rfl⟩))))) Ae)) ⟨Ee said,Fc said ws,e,Mg hs hw,rfl⟩) hR))
theorem Ud (Fn : Aw K "times_awake" "times_awake" JE f fd) (hm : mg "times_awake" = some (.ref f)) (hb : Binds K fd ["keeper","own","off"] []) (jy : Am P w K mg base 1 "power" (Ax Hi)) : Am P w K mg base 2 "times_awake" (MG CK5 CK3) := by
 refine A7 (k := 1) Fn Nk hm hb (λ ds O R h => ?_) (λ cdv A outer s H E ds O R hr h => ?_)
 ·obtain ⟨_,_,_,_,_,_,_,rfl,_⟩ := h; rfl
 ·obtain ⟨q,sf,p,u,own,off,ws,rfl,hW,hp,ho,hof,hR⟩ := h
  have hf := hp.f
  have s1 := hf.s1; have s2 := hf.s2; have t0 := hf.t0; have tb := hf.tb; have b2 := hf.b2
  have a1 := Dj (x := p.t) (e := off) hf.t0 wF wF
  have a2 := Dj (x := p.b) (e := p.sc - off) wF wF wF
  have a3 := Dj (x := p.b) (e := own) wF wF wF
  have c1 := Dl a1.1 a1.2 a2.1 a2.2
  have c2 := Dl (c := 2) c1.1 c1.2 (show (0 : Int) <= 2 by decide) wE
  refine Af (A5 3 (Ad.ev (Ak (AC jy (hr.mono wE) (Ab (Av (Aa 0) hW (cv T.bv.cls T.dk.cls sf) (nv T.de T.dr sf) (Ma sf p u ws)) (Ab (Aa 2) Ae)) ⟨_,_,rfl,⟨by omega,by omega⟩,⟨by omega,by omega⟩,rfl⟩) (AC jy (hr.mono wE) (Ab (Av (Aa 0) hW (cv T.bv.cls T.dk.cls sf) (nv T.df T.dt sf) (Hd sf p u ws)) (Ab (Ak (Av (Aa 0) hW (cv T.bv.cls T.dk.cls sf) (nv T.bz T.dq sf) (Hc sf p u ws)) (Aa 2) Ed) Ae)) ⟨_,_,rfl,⟨by omega,by omega⟩,⟨by omega,by omega⟩,rfl⟩) (CC (Eg a1.1 a1.2 a2.1 a2.2))) ?_) Nk.nd)
  exact Af (AM (Ad.ev (Ak (Ak (Aa 3) Ag (CC (by first | assumption | exact Dx.ok (Or.inl ⟨by omega,by omega⟩) | exact Dx.ok (Or.inr ⟨by omega,by omega⟩)))) (AC jy (hr.mono wE) (Ab (Av (Aa 0) hW (cv T.bv.cls T.dk.cls sf) (nv T.df T.dt sf) (Hd sf p u ws)) (Ab (Aa 1) Ae)) ⟨_,_,rfl,⟨by omega,by omega⟩,⟨by omega,by omega⟩,rfl⟩) (CC (Eg c2.1 c2.2 a3.1 a3.2))) hR))
theorem Ue (Fn : Aw K "times_asleep" "times_asleep" JF f fd) (hm : mg "times_asleep" = some (.ref f)) (hb : Binds K fd ["keeper","own"] []) (jy : Am P w K mg base 1 "power" (Ax Hi)) : Am P w K mg base 2 "times_asleep" (Jj CK5 CK3) := by
 refine A7 (k := 1) Fn RA hm hb (λ ds O R h => ?_) (λ cdv A outer s H E ds O R hr h => ?_)
 ·obtain ⟨_,_,_,_,_,_,rfl,_⟩ := h; rfl
 ·obtain ⟨q,sf,p,u,own,ws,rfl,hW,hp,ho,hR⟩ := h
  have hf := hp.f
  have s1 := hf.s1; have s2 := hf.s2; have t0 := hf.t0; have tb := hf.tb; have b2 := hf.b2
  have a1 := Dj (x := p.b) (e := p.sc) wF wF wF
  have a2 := Dj (x := p.b) (e := own) wF wF wF
  have a3 := Dj (x := p.t) (e := own) hf.t0 wF wF
  have e82 : (2 : Int) ^ 82 = 2 ^ 81 + 2 ^ 81 := by decide
  exact Af (AM (Ad.ev (Ak (AC jy (hr.mono wE) (Ab (Av (Aa 0) hW (cv T.bv.cls T.dk.cls sf) (nv T.df T.dt sf) (Hd sf p u ws)) (Ab (Av (Aa 0) hW (cv T.bv.cls T.dk.cls sf) (nv T.bz T.dq sf) (Hc sf p u ws)) Ae)) ⟨_,_,rfl,⟨by omega,by omega⟩,⟨by omega,by omega⟩,rfl⟩) (Ak (AC jy (hr.mono wE) (Ab (Av (Aa 0) hW (cv T.bv.cls T.dk.cls sf) (nv T.df T.dt sf) (Hd sf p u ws)) (Ab (Aa 1) Ae)) ⟨_,_,rfl,⟨by omega,by omega⟩,⟨by omega,by omega⟩,rfl⟩) (AC jy (hr.mono wE) (Ab (Av (Aa 0) hW (cv T.bv.cls T.dk.cls sf) (nv T.de T.dr sf) (Ma sf p u ws)) (Ab (Aa 1) Ae)) ⟨_,_,rfl,⟨by omega,by omega⟩,⟨by omega,by omega⟩,rfl⟩) BR) (CC (Eg (n := 82) a1.1 a1.2 wF (by rw [e82]; omega)))) hR))
theorem Uf (Fn : Aw K "times" "times" JG f fd) (hm : mg "times" = some (.ref f)) (hb : Binds K fd ["keeper","own","what","so"] []) (jp : Am P w K mg base 1 "charge" (Ax FO)) (kt : Am P w K mg base 2 "times_asleep" (Jj CK5 CK3)) (gv : Am P w K mg base 2 "times_awake" (MG CK5 CK3)) : Am P w K mg base 3 "times" (MF CK5 CK3) := by
 refine A7 (k := 2) Fn RB hm hb (λ ds O R h => ?_) (λ cdv A outer s H E ds O R hr h => ?_)
 ·obtain ⟨_,_,_,_,_,_,_,_,rfl,_⟩ := h; rfl
 ·obtain ⟨q,sf,p,u,own,so,w,ws,rfl,hW,hp,ho,hso,hw,hR⟩ := h
  cases w with
  | none =>
   refine Af (AR (AU (Aa 2) D0 Fy) (λ hk => ?_) (λ hk => by cases hk))
   exact Af (AM (Ad.ev (Ev.evp (Ce kt (hr.mono wE) (Ab (Aa 0) (Ab (Aa 1) Ae)) ⟨q,sf,p,u,own,ws,rfl,hW,hp,ho,rfl,rfl⟩)) hR))
  | some x =>
   have hx := GG (hw.resolve_left (λ h => by cases h))
   refine Af (AR (AU (Aa 2) D0 Fy) (λ hk => by cases hk) (λ hk => Au ?_))
   exact Af (AM (Ad.ev (Ev.evp (Ce gv (hr.mono wE) (Ab (Aa 0) (Ab (Aa 1) (Ab (AC jp (hr.mono wE) (Ab (Aa 2) (Ab (Aa 3) Ae)) ⟨some x,so,rfl,rfl⟩) Ae))) ⟨q,sf,p,u,own,ab (x - so),ws,rfl,hW,hp,ho,IH hx hso,rfl,rfl⟩)) hR))
theorem UN (Fn : Aw K "check_push" "check_push" Kc f fd) (hm : mg "check_push" = some (.ref f)) (hb : Binds K fd ["many","push"] []) (jo : Am P w K mg base 2 "check_within" (Ax FN)) (jy : Am P w K mg base 1 "power" (Ax Hi)) : Am P w K mg base 3 "check_push" (Ax ML) := by
 refine A7 (k := 2) Fn Np hm hb (λ ds O R h => ?_) (λ cdv A outer s H E ds O R hr h => ?_)
 ·obtain ⟨_,⟨_,_,rfl,_⟩,_⟩ := h; rfl
 ·obtain ⟨d,⟨m,ps,rfl,hp,hm,rfl⟩,hR⟩ := h
  refine Af (AR (BN.t (Dp (Ck (B7 (AW T.xq (Ab (Aa 1) (Ab (DF T.xk) Ae)) (GT rfl)))) (λ hbb => (DE (AU (AW T.xj (Ab (Aa 1) Ae) (BY (by first | exact Or.inr rfl | exact Or.inl (Or.inl rfl) | exact Or.inl (Or.inr (Or.inl rfl)) | exact Or.inl (Or.inr (Or.inr ⟨_,rfl,by first | assumption | rfl⟩))))) (Aa 0) GR))))) (λ hk => ?_) (λ hk => Au ?_))
  ·exfalso
   have hk : (!true || !decide ((((ps.map D.int).length : Nat) : Int) = m)) = true := hk
   rw [List.length_map,hp.1,decide_eq_true rfl] at hk
   cases hk
  refine Af (C8 (Bp (Aa 1) wB) (λ i ρ O' => (∃ u,ρ = [some (.int m),some (.tup (ps.map D.int)),u]) /\ O' = O) ⟨⟨_,rfl⟩,rfl⟩ ?_ ?_)
  ·rintro i x ρ O' hx ⟨⟨u,rfl⟩,rfl⟩
   rw [List.getElem?_map] at hx
   cases hi : ps[i]? with
   | none => rw [hi] at hx; cases hx
   | some p =>
    rw [hi] at hx
    cases hx
    have hb := hp.2 p (List.mem_of_getElem? hi)
    refine ⟨_,AE 2 Np.nd,?_⟩
    exact Af (A3 (Ad.ev (AC jo (hr.mono wE) (Ab Ft (Ab (Aa 2) (Ab Ag (Ab (Ak (AC jy (hr.mono wE) (Ab Ag (Ab (GP T.bh.choose_spec) Ae)) ⟨10,60,rfl,by decide,by decide,rfl⟩) Ag Ed) Ae)))) ⟨_,_,_,_,rfl,hb,rfl⟩) (Au ⟨⟨_,rfl⟩,rfl⟩)))
  ·rintro ρ O' ⟨⟨u,rfl⟩,rfl⟩
   exact Au hR
theorem Ug (Fn : Aw K "push_of" "push_of" JH f fd) (hm : mg "push_of" = some (.ref f)) (hb : Binds K fd ["many","push"] []) (gw : Am P w K mg base 3 "check_push" (Ax ML)) : Am P w K mg base 4 "push_of" (Ax MK) := by
 refine A7 (k := 3) Fn RC hm hb (λ ds O R h => ?_) (λ cdv A outer s H E ds O R hr h => ?_)
 ·obtain ⟨_,⟨_,_,rfl,_⟩,_⟩ := h; rfl
 ·obtain ⟨d,⟨m,po,rfl,hm,hp,rfl⟩,hR⟩ := h
  cases po with
  | none =>
   refine Af (AR (AU (Aa 1) D0 Fy) (λ hk => ?_) (λ hk => by cases hk))
   refine Af (AM (Ad.ev (Ak (CV (Ab Ag Ae)) (Aa 0) (EH hm.1 wF (by simp) (by rw [sizeLine_eq]; show 1 * m.toNat <= _; omega))) ?_))
   rw [Ha]
   exact hR
  | some ps =>
   have hp : FC m ps := hp
   have hm2 := hm.2
   refine Af (AR (AU (Aa 1) D0 Fy) (λ hk => by cases hk) (λ hk => Au ?_))
   refine Af (A3 (Ad.ev (AC gw (hr.mono wE) (Ab (Aa 0) (Ab (Aa 1) Ae)) ⟨m,ps,rfl,hp,hm2,rfl⟩) ?_))
   exact Af (AM (Ad.ev (Aa 1) hR))
theorem UF (Fn : Aw K "first_least" "first_least" J4 f fd) (hm : mg "first_least" = some (.ref f)) (hb : Binds K fd ["scores","advisers"] []) : Am P w K mg base 1 "first_least" (Ax M0) := by
 refine A7 (k := 0) Fn RO hm hb (λ ds O R h => ?_) (λ cdv A outer s H E ds O R hr h => ?_)
 ·obtain ⟨_,⟨_,_,_,rfl,_⟩,_⟩ := h; rfl
 ·obtain ⟨d,⟨sc,as,k,rfl,hl,hb,hf,rfl⟩,hR⟩ := h
  have hy : ∀ q ∈ as,Bt (sc.map D.int) (q : Nat) = some (.int (sc.getD q 0)) := λ q hq => PR (hb q hq)
  have hne : (as.map λ k => (sc.getD k 0,((k : Nat) : Int))) ≠ [] := λ z => by
   rw [List.map_eq_nil_iff] at z
   have := hf.1
   rw [z] at this
   cases this
  refine Af (AM (Ad.ev (CZ (AW T.xz (Ab (BL (λ k : Nat => pD (sc.getD k 0,((k : Nat) : Int))) ["adviser"] ["scores"] [0] (Bp (Aa 1) wB) (by rw [sizeLine_eq]; omega) (by exact λ q hq s H fp => ⟨[some _],rfl,(AE 0 (show List.Nodup (["adviser","scores"] : List Str) by decide +kernel)),⟨_,rfl,(CV (Ab (CZ (Aa 1) (Aa 0) (hy q hq)) (Ab (Aa 0) Ae)))⟩⟩)) Ae) (XX hr (ps := as.map λ k => (sc.getD k 0,((k : Nat) : Int))) (Or.inl (congrArg D.lst (by rw [List.map_map]; rfl))) hne)) Ag rfl) ?_))
  rw [VB hf]
  exact hR
theorem Vg (Fn : Aw K "__init__" "Hand.__init__" KB f fd)  (gx : Am P w K mg base 4 "check_making" (Ax MN)) : AF P w K mg base AK 5 f fd ["self","many","scale"] (AG K (Ez (λ C => C = CK1 \/ C = CK5 \/ C = CK3 \/ C = CK2 \/ C = CK4 \/ C = CK0))) := by
 refine Bg (k := 4) Fn Sj (λ ds O R h => ?_) (λ cdv A outer s H E ds O R hr h => ?_)
 ·obtain ⟨_,_,_,_,rfl,_⟩ := h; rfl
 ·obtain ⟨q,m,s,C,rfl,hC,hq,hm,hs,hR⟩ := h
  have hc : A6 K C := by rcases hC with rfl | rfl | rfl | rfl | rfl | rfl; exact T.bj.cls; exact T.bv.cls; exact T.dk.cls; exact T.eg.cls; exact T.fv.cls; exact T.fh.cls
  have n1 : As K C "many" := by rcases hC with rfl | rfl | rfl | rfl | rfl | rfl; exact T.bo; exact T.bx; exact T.dm; exact T.ej; exact T.fx; exact T.fj
  have n2 : As K C "scale" := by rcases hC with rfl | rfl | rfl | rfl | rfl | rfl; exact T.bq; exact T.bz; exact T.dq; exact T.em; exact T.fy; exact T.fk
  refine Af (A3 (Ad.ev (AC gx (hr.mono wE) (Ab (Aa 1) (Ab (Aa 2) Ae)) ⟨_,_,rfl,by assumption,by assumption,rfl⟩) ?_))
  refine Af (B5 (Aa 1) (Aa 0) hq hc n1 wE ?_)
  refine Af (B5 (Aa 2) (Aa 0) (Cp hq) hc n2 (by show 1 < 1000; decide) ?_)
  refine Au ?_
  rw [List.set_set,S3]
  exact hR
theorem Vd (Fn : Aw K "heeded" "Hand.heeded" Ky f fd)  : AF P w K mg base AK 1 f fd ["self"] (AG K (MU CK1)) := by
 refine Bg (k := 0) Fn Sg (λ ds O R h => ?_) (λ cdv A outer s H E ds O R hr h => ?_)
 ·obtain ⟨_,_,_,rfl,_⟩ := h; rfl
 ·obtain ⟨q,m,s,rfl,hq,hm,hR⟩ := h
  refine Af (AM (Ad.ev (Ak (CV (Ab Ag Ae)) (Av (Aa 0) hq T.bj.cls T.bo (GK m s)) (EH hm.1 wF (by simp) (by rw [sizeLine_eq]; show 1 * m.toNat <= _; omega))) ?_))
  rw [N3]
  exact hR
theorem UU (Fn : Aw K "heeded" "Weigher.heeded" Kj f fd)  : AF P w K mg base AK 1 f fd ["self"] (AG K (Jr CK5 CK3)) := by
 refine Bg (k := 0) Fn R4 (λ ds O R h => ?_) (λ cdv A outer s H E ds O R hr h => ?_)
 ·obtain ⟨_,_,_,_,_,rfl,_⟩ := h; rfl
 ·obtain ⟨q,sf,p,u,ws,rfl,hW,hR⟩ := h
  exact Af (AM (Ad.ev (Av (Aa 0) hW (cv T.bv.cls T.dk.cls sf) (nv T.dg T.du sf) (L9 sf p u ws)) hR))
theorem U8 (Fn : Aw K "heeded" "Rounder.heeded" Kt f fd)  : AF P w K mg base AK 1 f fd ["self"] (AG K (MT CK2)) := by
 refine Bg (k := 0) Fn Sc (λ ds O R h => ?_) (λ cdv A outer s H E ds O R hr h => ?_)
 ·obtain ⟨_,_,_,_,_,rfl,_⟩ := h; rfl
 ·obtain ⟨jj,m,s,ov,ins,rfl,hO,hl,hR⟩ := h
  refine Af (AM (Ad.ev (BW T.xk (Ab (BL (λ b : Bool => if b = true then D.int 1 else D.int 0) ["one"] [] [] (Bp (Av (Aa 0) hO T.eg.cls T.er (NC m s ov ins)) wB) (by rw [sizeLine_eq]; omega) (by exact λ q hq s H fp => ⟨[some _],rfl,(AE 0 (show List.Nodup (["one"] : List Str) by decide +kernel)),⟨_,rfl,(WQ (B7 (Aa 0)) (λ hbb => Ag) (λ hbb => Ag))⟩⟩)) Ae) (BS (by first | exact Or.inr rfl | exact Or.inl (Or.inl rfl) | exact Or.inl (Or.inr (Or.inl rfl)) | exact Or.inl (Or.inr (Or.inr ⟨_,rfl,by first | assumption | rfl⟩))))) ?_))
  rw [Wk]
  exact hR
theorem Vc (Fn : Aw K "say" "Hand.say" Kx f fd)  (ka : Am P w K mg base 4 "check_said" (Ax Hj)) (gc : Am P w K mg base 4 "middle_awake" (Ax MP)) (gy : Ai P w K mg base CK1 1 "heeded" (MU CK1)) (gz : Ai P w K mg base CK5 1 "heeded" (Jr CK5 CK3)) (za : Ai P w K mg base CK3 1 "heeded" (Jr CK5 CK3)) (zb : Ai P w K mg base CK2 1 "heeded" (MT CK2)) : AF P w K mg base AK 6 f fd ["self","said"] (AG K (Bn CK1 CK5 CK3 CK2)) := by
 refine Bg (k := 5) Fn Sf (λ ds O R h => ?_) (λ cdv A outer s H E ds O R hr h => ?_)
 ·obtain ⟨_,_,_,_,_,rfl,_⟩ := h; rfl
 ·obtain ⟨q,m,s,ws,said,rfl,hq,hm,hs,hl,hw,hR⟩ := h
  have hs1 := hs.1
  have h24 : said.length <= 24 := by have := hs.2.1; omega
  have hll : ws.length = said.length := by omega
  rcases hq with ⟨hq,rfl⟩ | ⟨sf,p,u,hW,rfl,rfl⟩ | ⟨ins,ov,hq,rfl⟩
  ·refine Af (A3 (Ad.ev (AC ka (hr.mono wE) (Ab (Av (Aa 0) hq T.bj.cls T.bo (GK m s)) (Ab (Av (Aa 0) hq T.bj.cls T.bq (Ig m s)) (Ab (Aa 1) Ae))) ⟨_,_,_,rfl,by assumption,rfl⟩) ?_))
   exact Af (AM (Ad.ev (AC gc (hr.mono wE) (Ab (Aa 1) (Ab (Ev.evp (Dq gy (hr.mono wE) (Aa 0) hq (Wh m s) ⟨q,m,s,rfl,hq,hm,rfl,rfl⟩)) Ae)) ⟨_,_,rfl,by assumption,by assumption,by assumption,rfl⟩) hR))
  ·refine Af (A3 (Ad.ev (AC ka (hr.mono wE) (Ab (Av (Aa 0) hW (cv T.bv.cls T.dk.cls sf) (nv T.bx T.dm sf) (Mb sf p u ws)) (Ab (Av (Aa 0) hW (cv T.bv.cls T.dk.cls sf) (nv T.bz T.dq sf) (Hc sf p u ws)) (Ab (Aa 1) Ae))) ⟨_,_,_,rfl,by assumption,rfl⟩) ?_))
   exact Af (AM (Ad.ev (AC gc (hr.mono wE) (Ab (Aa 1) (Ab (Ev.evp (Dq (mv gz za sf) (hr.mono wE) (Aa 0) hW (Gr sf p u ws wD wD) ⟨q,sf,p,u,ws,rfl,hW,rfl,rfl⟩)) Ae)) ⟨_,_,rfl,by assumption,by assumption,by assumption,rfl⟩) hR))
  ·have hi24 : ins.length <= 24 := by have : (D6 ins).length = ins.length := List.length_map ..; omega
   refine Af (A3 (Ad.ev (AC ka (hr.mono wE) (Ab (Av (Aa 0) hq T.eg.cls T.ej (GC m s ov ins)) (Ab (Av (Aa 0) hq T.eg.cls T.em (HE m s ov ins)) (Ab (Aa 1) Ae))) ⟨_,_,_,rfl,by assumption,rfl⟩) ?_))
   exact Af (AM (Ad.ev (AC gc (hr.mono wE) (Ab (Aa 1) (Ab (Ev.evp (Dq zb (hr.mono wE) (Aa 0) hq (HF m s ov ins wD) ⟨q,m,s,ov,ins,rfl,hq,hi24,rfl,rfl⟩)) Ae)) ⟨_,_,rfl,by assumption,by assumption,by assumption,rfl⟩) hR))
theorem Ve (Fn : Aw K "hear" "Hand.hear" Kz f fd)  (jg : Am P w K mg base 5 "check_turn" (Ax Fh)) : AF P w K mg base AK 6 f fd ["self","said","so"] (AG K (Ff CK1)) := by
 refine Bg (k := 5) Fn Sh (λ ds O R h => ?_) (λ cdv A outer s H E ds O R hr h => ?_)
 ·obtain ⟨_,_,_,_,_,rfl,_⟩ := h; rfl
 ·obtain ⟨q,m,sc,so,said,rfl,hq,hs,hso,hR⟩ := h
  exact Af (A3 (Ad.ev (AC jg (hr.mono wE) (Ab (Av (Aa 0) hq T.bj.cls T.bo (GK m sc)) (Ab (Av (Aa 0) hq T.bj.cls T.bq (Ig m sc)) (Ab (Aa 1) (Ab (Aa 2) Ae)))) ⟨_,_,_,_,rfl,by assumption,by assumption,rfl⟩) (Au hR)))
theorem Vf (Fn : Aw K "anew" "Hand.anew" KA f fd)  (ku : Cv P w K mg base CK1 5 "Hand" (Ez (λ C => C = CK1 \/ C = CK5 \/ C = CK3 \/ C = CK2 \/ C = CK4 \/ C = CK0))) : AF P w K mg base AK 7 f fd ["self"] (AG K (FQ CK1)) := by
 refine Bg (k := 6) Fn Si (λ ds O R h => ?_) (λ cdv A outer s H E ds O R hr h => ?_)
 ·obtain ⟨_,_,_,rfl,_⟩ := h; rfl
 ·obtain ⟨q,m,sc,rfl,hq,hm,hs,hR⟩ := h
  refine Af (AM (Db ku (hr.mono wE) (Ab (Av (Aa 0) hq T.bj.cls T.bo (GK m sc)) (Ab (Av (Aa 0) hq T.bj.cls T.bq (Ig m sc)) Ae)) ⟨O.length,m,sc,CK1,rfl,.inl rfl,B6,hm,hs,rfl,?_⟩))
  rw [C1]
  exact hR
theorem Vb (Fn : Aw K "__init__" "Rounder.__init__" Kw f fd)  (jz : ER P w K mg base "Hand" 5 "__init__" (Ez (λ C => C = CK1 \/ C = CK5 \/ C = CK3 \/ C = CK2 \/ C = CK4 \/ C = CK0))) : AF P w K mg base AK 6 f fd ["self","many","scale"] (AG K (Jq CK2)) := by
 refine Bg (k := 5) Fn Se (λ ds O R h => ?_) (λ cdv A outer s H E ds O R hr h => ?_)
 ·obtain ⟨_,_,_,rfl,_⟩ := h; rfl
 ·obtain ⟨q,m,s,rfl,hq,hm,hs,hR⟩ := h
  refine Af (A3 (GO jz (hr.mono wE) (Ab (Aa 0) (Ab (Aa 1) (Ab (Aa 2) Ae))) ⟨q,m,s,CK2,rfl,.inr (.inr (.inr (.inl rfl))),hq,hm,hs,?_⟩))
  refine Af (B5 (Ak (CV (Ab Lh Ae)) (Aa 1) (EH hm.1 wF (by simp) (by rw [sizeLine_eq]; show 1 * m.toNat <= _; omega))) (Aa 0) (Cp hq) T.eg.cls T.er (by show 2 < 1000; decide) ?_)
  rw [List.set_set,show BG m s = r2 m s from rfl,SZ,Mh]
  refine Af (B5 Ag (Aa 0) (Cp hq) T.eg.cls T.eu (by show 3 < 1000; decide) ?_)
  rw [List.set_set,SY]
  exact Au hR
theorem U9 (Fn : Aw K "hear" "Rounder.hear" Ku f fd)  (jg : Am P w K mg base 5 "check_turn" (Ax Fh)) (jp : Am P w K mg base 1 "charge" (Ax FO)) : AF P w K mg base AK 6 f fd ["self","said","so"] (AG K (Fe CK2)) := by
 refine Bg (k := 5) Fn Nw (λ ds O R h => ?_) (λ cdv A outer s H E ds O R hr h => ?_)
 ·obtain ⟨_,_,_,_,_,_,_,rfl,_⟩ := h; rfl
 ·obtain ⟨jj,m,s,ov,so,ins,said,rfl,hO,hm,hs,hso,hl,hR⟩ := h
  have hs1 := hs.1
  have hzl : (ins.zip said).length <= 63 := by rw [List.length_zip]; omega
  refine Af (A3 (Ad.ev (AC jg (hr.mono wE) (Ab (Av (Aa 0) hO T.eg.cls T.ej (GC m s ov ins)) (Ab (Av (Aa 0) hO T.eg.cls T.em (HE m s ov ins)) (Ab (Aa 1) (Ab (Aa 2) Ae)))) ⟨_,_,_,_,rfl,by assumption,by assumption,rfl⟩) ?_))
  refine Af (A5 3 (Ad.ev (BW T.xk (Ab (BL (λ p : Bool × Option Int => .bl (p.1 && decide (EL p.2 so = 0))) ["one","what"] ["so"] [2] (Fv (Fs (Av (Aa 0) hO T.eg.cls T.er (NC m s ov ins)) (Aa 1) wB wB T.xn)) (by rw [sizeLine_eq]; omega) (by exact λ q hq s H fp => ⟨[some _,some _],rfl,(Dg (BP (AE 0 (show List.Nodup (["one","what","so"] : List Str) by decide +kernel)) (BP (AE 1 (show List.Nodup (["one","what","so"] : List Str) by decide +kernel)) Df))),⟨_,rfl,(Eo (Aa 0) (λ hbb => (DZ (Em (AC jp (hr.mono wE) (Ab (Aa 1) (Ab (Aa 2) Ae)) ⟨_,_,rfl,rfl⟩) Ag Bq))))⟩⟩)) Ae) (BS (by first | exact Or.inr rfl | exact Or.inl (Or.inl rfl) | exact Or.inl (Or.inr (Or.inl rfl)) | exact Or.inl (Or.inr (Or.inr ⟨_,rfl,by first | assumption | rfl⟩))))) ?_) Nw.nd)
  have e1 : ((ins.zip said).map λ p : Bool × Option Int => D.bl (p.1 && decide (EL p.2 so = 0))) = (Eh said so ins).map D.bl := by
   unfold Eh
   rw [List.map_map]
   rfl
  rw [e1]
  have hLl : (Eh said so ins).length = ins.length := Oz wF
  unfold F2 KU at hR
  generalize Eh said so ins = left at hR hLl
  refine Af (AR (B7 (AW T.xw (Ab (Aa 3) Ae) (X2 (by first | exact Or.inr rfl | exact Or.inl (Or.inl rfl) | exact Or.inl (Or.inr (Or.inl rfl)) | exact Or.inl (Or.inr (Or.inr ⟨_,rfl,by first | assumption | rfl⟩)))))) (λ hk => ?_) (λ hk => ?_))
  ·rw [if_pos hk,if_pos hk] at hR
   refine Af (B5 (Aa 3) (Aa 0) hO T.eg.cls T.er (by show 4 < 1000; decide) ?_)
   rw [NB]
   exact Au (Au hR)
  ·have hk' : ¬ left.any id = true := by rw [hk]; exact Bool.false_ne_true
   rw [if_neg hk',if_neg hk'] at hR
   refine Af (B5 (Ak (CV (Ab Lh Ae)) (Av (Aa 0) hO T.eg.cls T.ej (GC m s ov ins)) (EH hm.1 wF (by simp) (by rw [sizeLine_eq]; show 1 * m.toNat <= _; omega))) (Aa 0) hO T.eg.cls T.er (by show 4 < 1000; decide) ?_)
   rw [Mh,NB]
   have hO2 : (O.set jj (some (MO.ins CK2 (BU m s (List.replicate m.toNat true) ov))))[jj]? = some (some (.ins CK2 (BU m s (List.replicate m.toNat true) ov))) := Cp hO
   refine Af (B5 (Ak (Av (Aa 0) hO2 T.eg.cls T.eu (SC m s ov _)) Ag BR) (Aa 0) hO2 T.eg.cls T.eu (by show 4 < 1000; decide) ?_)
   rw [List.set_set,Sz]
   have e : m.toNat = ins.length := by omega
   rw [e]
   exact Au (Au hR)
theorem Va (Fn : Aw K "anew" "Rounder.anew" Kv f fd)  (kv : Cv P w K mg base CK2 6 "Rounder" (Jq CK2)) : AF P w K mg base AK 8 f fd ["self"] (AG K (FP CK2)) := by
 refine Bg (k := 7) Fn Sd (λ ds O R h => ?_) (λ cdv A outer s H E ds O R hr h => ?_)
 ·obtain ⟨_,_,_,_,_,rfl,_⟩ := h; rfl
 ·obtain ⟨q,m,s,ov,ins,rfl,hq,hm,hs,hR⟩ := h
  refine Af (AM (Db kv (hr.mono wE) (Ab (Av (Aa 0) hq T.eg.cls T.ej (GC m s ov ins)) (Ab (Av (Aa 0) hq T.eg.cls T.em (HE m s ov ins)) Ae)) ⟨O.length,m,s,rfl,B6,hm,hs,rfl,?_⟩))
  rw [C1]
  exact hR
theorem UX (Fn : Aw K "__init__" "Weigher.__init__" Km f fd)  (zc : Am P w K mg base 3 "check_fraction" (Ax MZ)) (jz : ER P w K mg base "Hand" 5 "__init__" (Ez (λ C => C = CK1 \/ C = CK5 \/ C = CK3 \/ C = CK2 \/ C = CK4 \/ C = CK0))) : AF P w K mg base AK 6 f fd ["self","many","scale","top","bottom"] (AG K (Gx CK5 CK3)) := by
 refine Bg (k := 5) Fn R7 (λ ds O R h => ?_) (λ cdv A outer s H E ds O R hr h => ?_)
 ·obtain ⟨_,_,_,rfl,_⟩ := h; rfl
 ·obtain ⟨q,sf,p,rfl,hq,hp,hR⟩ := h
  obtain ⟨m,s,t,b,sh,pa⟩ := p
  have hm : 1 <= m /\ m <= 24 := ⟨hp.m1,hp.m2⟩
  have hb : 0 <= t /\ t < b /\ b <= 100 := ⟨hp.f.t0,hp.f.tb,hp.f.b2⟩
  refine Af (A3 (Ad.ev (AC zc (hr.mono wE) (Ab (Aa 3) (Ab (Aa 4) Ae)) ⟨_,_,rfl,by assumption,rfl⟩) ?_))
  refine Af (A3 (GO jz (hr.mono wE) (Ab (Aa 0) (Ab (Aa 1) (Ab (Aa 2) Ae))) ⟨q,m,s,CQ CK5 CK3 sf,rfl,(by cases sf; exact .inr (.inl rfl); exact .inr (.inr (.inl rfl))),hq,hm,⟨hp.f.s1,hp.f.s2⟩,?_⟩))
  have q1 := Cp (y := some (.ins (CQ CK5 CK3 sf) (BG m s))) hq
  refine Af (B5 (Aa 3) (Aa 0) q1 (cv T.bv.cls T.dk.cls sf) (nv T.de T.dr sf) (by show 2 < 1000; decide) ?_)
  rw [List.set_set,SW]
  refine Af (B5 (Aa 4) (Aa 0) (Cp hq) (cv T.bv.cls T.dk.cls sf) (nv T.df T.dt sf) (by show 3 < 1000; decide) ?_)
  rw [List.set_set,S6]
  refine Af (B5 (Ak (CV (Ab Ag Ae)) (Aa 1) (EH hm.1 wF (by simp) (by rw [sizeLine_eq]; show 1 * m.toNat <= _; omega))) (Aa 0) (Cp hq) (cv T.bv.cls T.dk.cls sf) (nv T.dg T.du sf) (by show 4 < 1000; decide) ?_)
  rw [List.set_set,SV,N3]
  refine Af (B5 Ag (Aa 0) (Cp hq) (cv T.bv.cls T.dk.cls sf) (nv T.dh T.dw sf) (by show 5 < 1000; decide) ?_)
  rw [List.set_set,SU]
  exact Au hR
theorem U7 (Fn : Aw K "__init__" "Shifter.__init__" Ks f fd)  (zd : Am P w K mg base 3 "check_share" (Ax MH)) (ze : ER P w K mg base "Weigher" 6 "__init__" (Gx CK5 CK3)) : AF P w K mg base AK 7 f fd ["self","many","scale","top","bottom","share","parts"] (AG K (Jp CK3)) := by
 refine Bg (k := 6) Fn Sb (λ ds O R h => ?_) (λ cdv A outer s H E ds O R hr h => ?_)
 ·obtain ⟨_,_,rfl,_⟩ := h; rfl
 ·obtain ⟨q,p,rfl,hq,hp,hR⟩ := h
  have hsh : 1 <= p.sh /\ p.sh < p.pa /\ p.pa <= 100 := ⟨hp.h1,hp.h2,hp.h3⟩
  refine Af (A3 (Ad.ev (AC zd (hr.mono wE) (Ab (Aa 5) (Ab (Aa 6) Ae)) ⟨_,_,rfl,by assumption,rfl⟩) ?_))
  refine Af (A3 (GO ze (hr.mono wE) (Ab (Aa 0) (Ab (Aa 1) (Ab (Aa 2) (Ab (Aa 3) (Ab (Aa 4) Ae))))) ⟨q,true,p,rfl,hq,⟨hp.f,hp.m1,hp.m2,λ z => by cases z⟩,?_⟩))
  have q1 := Cp (y := some (.ins CK3 (BB p.m p.sc p.t p.b (List.replicate p.m.toNat 1) 1))) hq
  refine Af (B5 (Aa 5) (Aa 0) q1 T.dk.cls T.dy (by show 6 < 1000; decide) ?_)
  rw [List.set_set,SX]
  refine Af (B5 (Aa 6) (Aa 0) (Cp hq) T.dk.cls T.dz (by show 7 < 1000; decide) ?_)
  rw [List.set_set,S0]
  exact Au hR
theorem UT (Fn : Aw K "weigh" "Weigher.weigh" Ki f fd)  (jp : Am P w K mg base 1 "charge" (Ax FO)) (ja : Ai P w K mg base CK5 6 "say" (Bn CK1 CK5 CK3 CK2)) (jb : Ai P w K mg base CK3 6 "say" (Bn CK1 CK5 CK3 CK2)) (zg : Am P w K mg base 3 "times" (MF CK5 CK3)) (kt : Am P w K mg base 2 "times_asleep" (Jj CK5 CK3)) : AF P w K mg base AK 7 f fd ["self","said","so"] (AG K (Ji CK5 CK3)) := by
 refine Bg (k := 6) Fn Nq (λ ds O R h => ?_) (λ cdv A outer s H E ds O R hr h => ?_)
 ·obtain ⟨_,_,_,_,_,_,_,_,rfl,_⟩ := h; rfl
 ·obtain ⟨jj,n,sf,p,u,so,said,ws,rfl,hW,hp,hn,hwo,hl,hs,hso,hR⟩ := h
  have hf := hp.f
  have hs1 := hs.1
  have h24 := hs.2.1
  have h0 : DK ws := λ w hw => (hwo.w w hw).1
  have hon := GH (ws := ws) hs (by have := hf.s1; omega) h0
  have hd := IH hon hso
  refine Af (A5 3 (Ad.ev (AC jp (hr.mono wE) (Ab (Ev.evp (CY (mv ja jb sf) (hr.mono wE) (Aa 0) hW (Gr sf p u ws wD wD) (Ab (Aa 1) Ae) ⟨jj,p.m,p.sc,ws,said,rfl,.inr (.inl ⟨sf,p,u,hW,rfl,rfl⟩),⟨hp.m1,hp.m2⟩,hs,hl,h0,rfl,rfl⟩)) (Ab (Aa 2) Ae)) ⟨some (BV said ws),so,rfl,rfl⟩) ?_) Nq.nd)
  have hdd : EL (some (BV said ws)) so = ab (BV said ws - so) := rfl
  rw [hdd]
  generalize ab (BV said ws - so) = dd at hd hR
  have hzl : (ws.zip said).length <= 63 := by rw [List.length_zip]; omega
  have hi : ∀ q ∈ ws.zip said,IntMulOk q.1 (tF p.t p.b p.sc dd so q.2) := λ q hq => by
   have h1 := hwo.w _ (List.of_mem_zip hq).1
   have h2 := Je hf hd.2 hso (hs.2.2 _ (List.of_mem_zip hq).2)
   exact Eg h1.1 h1.2 h2.1 h2.2 wF
  have hin : ∀ q ∈ ws.zip said,q.2 = none \/ CO p.sc q.2 = true := λ q hq => hs.2.2 _ (List.of_mem_zip hq).2
  refine Af (B5 (BW T.xk (Ab (BL (λ q : Int × Option Int => .int (q.1 * tF p.t p.b p.sc dd so q.2)) ["kept","what"] ["self","own","so"] [0,3,2] (Fv (Fs (Av (Aa 0) hW (cv T.bv.cls T.dk.cls sf) (nv T.dg T.du sf) (L9 sf p u ws)) (Aa 1) wB wB T.xn)) (by rw [sizeLine_eq]; omega) (by exact λ q hq s H fp => ⟨[some _,some _],rfl,(Dg (BP (AE 0 (show List.Nodup (["kept","what","self","own","so"] : List Str) by decide +kernel)) (BP (AE 1 (show List.Nodup (["kept","what","self","own","so"] : List Str) by decide +kernel)) Df))),⟨_,rfl,(Ak (Aa 0) (Ev.evp (Ce zg (hr.mono wE) (Ab (Aa 2) (Ab (Aa 3) (Ab (Aa 1) (Ab (Aa 4) Ae)))) ⟨_,_,_,_,_,_,q.2,_,rfl,hW,hp,hd,hso,hin q hq,rfl,rfl⟩)) (CC (hi q hq)))⟩⟩)) Ae) (BS (by first | exact Or.inr rfl | exact Or.inl (Or.inl rfl) | exact Or.inl (Or.inr (Or.inl rfl)) | exact Or.inl (Or.inr (Or.inr ⟨_,rfl,by first | assumption | rfl⟩))))) (Aa 0) hW (cv T.bv.cls T.dk.cls sf) (nv T.dg T.du sf) (L8 ..) ?_)
  have e1 : ((ws.zip said).map λ q : Int × Option Int => D.int (q.1 * tF p.t p.b p.sc dd so q.2)) = (CU p.t p.b p.sc dd so said ws).map D.int := by
   unfold CU
   rw [List.map_map]
   rfl
  rw [e1,Qx]
  have h1 := Hg (own := dd) hf hd.2
  have hW2 : (O.set jj (some (MO.ins (CQ CK5 CK3 sf) (Ch sf p (CU p.t p.b p.sc dd so said ws) u))))[jj]? = some (some (.ins (CQ CK5 CK3 sf) (Ch sf p (CU p.t p.b p.sc dd so said ws) u))) := Cp hW
  refine Af (B5 (Ak (Av (Aa 0) hW2 (cv T.bv.cls T.dk.cls sf) (nv T.dh T.dw sf) (Qy sf p u _)) (Ev.evp (Ce kt (hr.mono wE) (Ab (Aa 0) (Ab (Aa 3) Ae)) ⟨jj,sf,p,u,dd,_,rfl,hW2,hp,hd,rfl,rfl⟩)) (CC (Eg hwo.u0 hwo.u1 h1.1 h1.2 wF))) (Aa 0) hW2 (cv T.bv.cls T.dk.cls sf) (nv T.dh T.dw sf) (L8 ..) ?_)
  rw [List.set_set,Qw]
  exact Au hR
theorem U5 (Fn : Aw K "deal" "Shifter.deal" Kq f fd)  : AF P w K mg base AK 1 f fd ["self"] (AG K (M7 CK3)) := by
 refine Bg (k := 0) Fn JA (λ ds O R h => ?_) (λ cdv A outer s H E ds O R hr h => ?_)
 ·obtain ⟨_,_,_,_,rfl,_⟩ := h; rfl
 ·obtain ⟨jj,p,u,ws,rfl,hW,hp,hl,hR⟩ := h
  have hk := OC hp
  have p1 := hp.h1; have p2 := hp.h2; have p3 := hp.h3; have m1 := hp.m1; have m2 := hp.m2
  refine Af (A5 1 (Ad.ev (Ak (Av (Aa 0) hW T.dk.cls T.dy (IU p u ws)) (AW T.xm (Ab (Av (Aa 0) hW T.dk.cls T.du (IT p u ws)) Ae) (Lq (Or.inr rfl))) (CC (Dx.ok (Or.inl ⟨by omega,by omega⟩)))) ?_) JA.nd)
  refine Af (A5 2 (Ad.ev (Ak (Av (Aa 0) hW T.dk.cls T.dm (Gq p u ws)) (Ak (Av (Aa 0) hW T.dk.cls T.dz (IW p u ws)) (Av (Aa 0) hW T.dk.cls T.dy (IU p u ws)) Ed) (CC (Dx.ok (Or.inl ⟨by omega,by omega⟩)))) ?_) JA.nd)
  refine Af (B5 (BW T.xk (Ab (BL (λ w : Int => .int (w * (p.m * (p.pa - p.sh)) + p.sh * ws.sum)) ["one"] ["kept","dealt"] [2,1] (Bp (Av (Aa 0) hW T.dk.cls T.du (IT p u ws)) wB) (by rw [sizeLine_eq]; omega) (by exact λ q hq s H fp => ⟨[some _],rfl,(AE 0 (show List.Nodup (["one","kept","dealt"] : List Str) by decide +kernel)),⟨_,rfl,(Ak (Ak (Aa 0) (Aa 1) (CC (Dx.ok (Or.inr ⟨by omega,by omega⟩)))) (Aa 2) BR)⟩⟩)) Ae) (BS (by first | exact Or.inr rfl | exact Or.inl (Or.inl rfl) | exact Or.inl (Or.inr (Or.inl rfl)) | exact Or.inl (Or.inr (Or.inr ⟨_,rfl,by first | assumption | rfl⟩))))) (Aa 0) hW T.dk.cls T.du (by show 8 < 1000; decide) ?_)
  have e1 : (ws.map λ w : Int => D.int (w * (p.m * (p.pa - p.sh)) + p.sh * ws.sum)) = (DJ p ws).map D.int := by
   unfold DJ
   rw [List.map_map]
   rfl
  rw [e1,MA]
  have hW2 : (O.set jj (some (MO.ins CK3 (Bo p (DJ p ws) u))))[jj]? = some (some (.ins CK3 (Bo p (DJ p ws) u))) := Cp hW
  refine Af (B5 (Ak (Ak (Av (Aa 0) hW2 T.dk.cls T.dw (LU p u _)) (Av (Aa 0) hW2 T.dk.cls T.dm (Gq p u _)) (CC (Dx.ok (Or.inr ⟨by omega,by omega⟩)))) (Av (Aa 0) hW2 T.dk.cls T.dz (IW p u _)) (CC (Dx.ok (Or.inr ⟨by omega,by omega⟩)))) (Aa 0) hW2 T.dk.cls T.dw (by show 8 < 1000; decide) ?_)
  rw [List.set_set,Mz]
  exact Au hR
theorem UV (Fn : Aw K "hear" "Weigher.hear" Kk f fd)  (jg : Am P w K mg base 5 "check_turn" (Ax Fh)) (zh : Ai P w K mg base CK5 7 "weigh" (Ji CK5 CK3)) : AF P w K mg base AK 8 f fd ["self","said","so"] (AG K (CT CK5 CK3 false)) := by
 refine Bg (k := 7) Fn R5 (λ ds O R h => ?_) (λ cdv A outer s H E ds O R hr h => ?_)
 ·obtain ⟨_,_,_,_,_,_,_,rfl,_⟩ := h; rfl
 ·obtain ⟨jj,n,p,u,so,said,ws,rfl,hW,hp,hn,hwo,hl,hs,hso,hR⟩ := h
  have hW' : O[jj]? = some (some (.ins CK5 (BB p.m p.sc p.t p.b ws u))) := hW
  refine Af (A3 (Ad.ev (AC jg (hr.mono wE) (Ab (Av (Aa 0) hW' T.bv.cls T.bx (I0 ..)) (Ab (Av (Aa 0) hW' T.bv.cls T.bz (IZ ..)) (Ab (Aa 1) (Ab (Aa 2) Ae)))) ⟨_,_,_,_,rfl,by assumption,by assumption,rfl⟩) ?_))
  exact Af (A3 (CY zh (hr.mono wE) (Aa 0) hW' (L6 _ _ _ _ _ _ wD) (Ab (Aa 1) (Ab (Aa 2) Ae)) ⟨jj,n,false,p,u,so,said,ws,rfl,hW,hp,hn,hwo,hl,hs,hso,Au hR⟩))
theorem U4 (Fn : Aw K "hear" "Shifter.hear" Ko f fd)  (jg : Am P w K mg base 5 "check_turn" (Ax Fh)) (zi : Ai P w K mg base CK3 7 "weigh" (Ji CK5 CK3)) (zj : Ai P w K mg base CK3 1 "deal" (M7 CK3)) : AF P w K mg base AK 8 f fd ["self","said","so"] (AG K (CT CK5 CK3 true)) := by
 refine Bg (k := 7) Fn R9 (λ ds O R h => ?_) (λ cdv A outer s H E ds O R hr h => ?_)
 ·obtain ⟨_,_,_,_,_,_,_,rfl,_⟩ := h; rfl
 ·obtain ⟨jj,n,p,u,so,said,ws,rfl,hW0,hp0,hn,hwo,hl,hs,hso,hR⟩ := h
  have hW : IK CK3 O jj p ws u := hW0
  have hp := hp0.so
  refine Af (A3 (Ad.ev (AC jg (hr.mono wE) (Ab (Av (Aa 0) hW T.dk.cls T.dm (Gq p u ws)) (Ab (Av (Aa 0) hW T.dk.cls T.dq (IV p u ws)) (Ab (Aa 1) (Ab (Aa 2) Ae)))) ⟨_,_,_,_,rfl,by assumption,by assumption,rfl⟩) ?_))
  refine Af (A3 (CY zi (hr.mono wE) (Aa 0) hW (IX p u ws wD) (Ab (Aa 1) (Ab (Aa 2) Ae)) ⟨jj,n,true,p,u,so,said,ws,rfl,hW0,hp0,hn,hwo,hl,hs,hso,?_⟩))
  have hW2 : IK CK3 (O.set jj (some (.ins CK3 (Bo p (CU p.t p.b p.sc (ab (BV said ws - so)) so said ws) (u * tS p.t p.b p.sc (ab (BV said ws - so))))))) jj p (CU p.t p.b p.sc (ab (BV said ws - so)) so said ws) (u * tS p.t p.b p.sc (ab (BV said ws - so))) := Cp hW
  have hs1 := hs.1
  have h24 := hs.2.1
  have hnl := HR (t := p.t) (b := p.b) (sc := p.sc) (dd := ab (BV said ws - so)) (so := so) (show ws.length = said.length by omega)
  refine Af (A3 (Dq zj (hr.mono wE) (Aa 0) hW2 (IX p _ _ wD) ⟨jj,p,_,_,rfl,hW2,hp,by omega,?_⟩))
  rw [List.set_set]
  exact Au hR
theorem UW (Fn : Aw K "anew" "Weigher.anew" Kl f fd)  (kx : Cv P w K mg base CK5 6 "Weigher" (Gx CK5 CK3)) : AF P w K mg base AK 9 f fd ["self"] (AG K (C9 CK5 CK3 false)) := by
 refine Bg (k := 8) Fn R6 (λ ds O R h => ?_) (λ cdv A outer s H E ds O R hr h => ?_)
 ·obtain ⟨_,_,_,_,rfl,_⟩ := h; rfl
 ·obtain ⟨jj,p,u,ws,rfl,hW,hp,hR⟩ := h
  have hW' : O[jj]? = some (some (.ins CK5 (BB p.m p.sc p.t p.b ws u))) := hW
  refine Af (AM (Db kx (hr.mono wE) (Ab (Av (Aa 0) hW' T.bv.cls T.bx (I0 ..)) (Ab (Av (Aa 0) hW' T.bv.cls T.bz (IZ ..)) (Ab (Av (Aa 0) hW' T.bv.cls T.de (L5 ..)) (Ab (Av (Aa 0) hW' T.bv.cls T.df (L7 ..)) Ae)))) ⟨O.length,false,p,rfl,B6,hp,rfl,?_⟩))
  rw [C1]
  exact hR
theorem U6 (Fn : Aw K "anew" "Shifter.anew" Kr f fd)  (ky : Cv P w K mg base CK3 7 "Shifter" (Jp CK3)) : AF P w K mg base AK 9 f fd ["self"] (AG K (C9 CK5 CK3 true)) := by
 refine Bg (k := 8) Fn Sa (λ ds O R h => ?_) (λ cdv A outer s H E ds O R hr h => ?_)
 ·obtain ⟨_,_,_,_,rfl,_⟩ := h; rfl
 ·obtain ⟨jj,p,u,ws,rfl,hW0,hp0,hR⟩ := h
  have hW : IK CK3 O jj p ws u := hW0
  have hp := hp0.so
  refine Af (AM (Db ky (hr.mono wE) (Ab (Av (Aa 0) hW T.dk.cls T.dm (Gq p u ws)) (Ab (Av (Aa 0) hW T.dk.cls T.dq (IV p u ws)) (Ab (Av (Aa 0) hW T.dk.cls T.dr (LW p u ws)) (Ab (Av (Aa 0) hW T.dk.cls T.dt (LX p u ws)) (Ab (Av (Aa 0) hW T.dk.cls T.dy (IU p u ws)) (Ab (Av (Aa 0) hW T.dk.cls T.dz (IW p u ws)) Ae)))))) ⟨O.length,p,rfl,B6,hp,rfl,?_⟩))
  rw [C1]
  exact hR
theorem Vk (Fn : G0 K "__init__" "Follower.__init__" FU f fd [.none])  (zk : Am P w K mg base 4 "push_of" (Ax MK)) (jz : ER P w K mg base "Hand" 5 "__init__" (Ez (λ C => C = CK1 \/ C = CK5 \/ C = CK3 \/ C = CK2 \/ C = CK4 \/ C = CK0))) : AF P w K mg base AK 6 f fd ["self","many","scale","push"] (AG K (Gy CK0)) := by
 refine Vl (k := 5) Fn Sm (λ ds O R h => ?_) (λ cdv A outer s H E ds O R hr h => ?_)
 ·obtain ⟨_,_,_,_,rfl,_⟩ := h; rfl
 ·obtain ⟨q,m,s,po,rfl,hq,hm,hs,hp,hR⟩ := h
  refine Af (A3 (GO jz (hr.mono wE) (Ab (Aa 0) (Ab (Aa 1) (Ab (Aa 2) Ae))) ⟨q,m,s,CK0,rfl,.inr (.inr (.inr (.inr (.inr rfl)))),hq,hm,hs,?_⟩))
  refine Af (B5 (AC zk (hr.mono wE) (Ab (Aa 1) (Ab (Aa 3) Ae)) ⟨m,po,rfl,hm,hp,rfl⟩) (Aa 0) (Cp hq) T.fh.cls T.fm (by show 2 < 1000; decide) ?_)
  rw [List.set_set,show BG m s = g2 m s from rfl,S5]
  have q3 := Cp (y := some (.ins CK0 (g3 m s (.tup ((FW m po).map D.int))))) hq
  refine Af (B5 (Av (Aa 0) q3 T.fh.cls T.fm (Wv _ _ _)) (Aa 0) q3 T.fh.cls T.fq (by show 3 < 1000; decide) ?_)
  rw [List.set_set,S4]
  exact Au hR
theorem Vh (Fn : Aw K "say" "Follower.say" KC f fd)  (ka : Am P w K mg base 4 "check_said" (Ax Hj)) (ko : Am P w K mg base 1 "awake_in" (Ax Jv)) (zm : Am P w K mg base 1 "first_least" (Ax M0)) : AF P w K mg base AK 5 f fd ["self","said"] (AG K (Ey CK0)) := by
 refine Bg (k := 4) Fn Nx (λ ds O R h => ?_) (λ cdv A outer s H E ds O R hr h => ?_)
 ·obtain ⟨_,_,_,_,_,_,rfl,_⟩ := h; rfl
 ·obtain ⟨q,m,s,ps,sc,said,rfl,hq,hm,hs,hl,hR⟩ := h
  have hs1 := hs.1
  have h24 : said.length <= 24 := by have := hs.2.1; omega
  have hal := Lx said
  refine Af (A3 (Ad.ev (AC ka (hr.mono wE) (Ab (Av (Aa 0) hq T.fh.cls T.fj (Il m s ps sc)) (Ab (Av (Aa 0) hq T.fh.cls T.fk (Ij m s ps sc)) (Ab (Aa 1) Ae))) ⟨_,_,_,rfl,by assumption,rfl⟩) ?_))
  refine Af (A5 2 (Ad.ev (AC ko (hr.mono wE) (Ab (Aa 1) Ae) ⟨_,rfl,by assumption,rfl⟩) ?_) Nx.nd)
  refine Af (AR (AU (AW T.xj (Ab (Aa 2) Ae) (BY (by first | exact Or.inr rfl | exact Or.inl (Or.inl rfl) | exact Or.inl (Or.inr (Or.inl rfl)) | exact Or.inl (Or.inr (Or.inr ⟨_,rfl,by first | assumption | rfl⟩))))) Ag Bq) (λ hk => ?_) (λ hk => Au ?_))
  ·have hk := of_decide_eq_true hk
   rw [List.length_map] at hk
   rw [Ss (List.length_eq_zero_iff.mp wF)] at hR
   exact Af (AM (Ad.ev Ag hR))
  ·have hk := of_decide_eq_false hk
   rw [List.length_map] at hk
   obtain ⟨k,_,hf⟩ := Lc sc (ax said) (PQ said) (λ z => hk (by rw [z]; rfl))
   rw [So hf] at hR
   have hb : ∀ k ∈ ax said,k < sc.length := λ k hk => by have := ID hk; omega
   exact Af (AM (Ad.ev (CZ (Aa 1) (AC zm (hr.mono wE) (Ab (Av (Aa 0) hq T.fh.cls T.fq (OW m s ps sc)) (Ab (Aa 2) Ae)) ⟨sc,ax said,k,rfl,by omega,hb,hf,rfl⟩) (PV hf.1)) hR))
theorem Vi (Fn : Aw K "hear" "Follower.hear" KD f fd)  (jg : Am P w K mg base 5 "check_turn" (Ax Fh)) (jp : Am P w K mg base 1 "charge" (Ax FO)) : AF P w K mg base AK 6 f fd ["self","said","so"] (AG K (Fg CK0)) := by
 refine Bg (k := 5) Fn Sk (λ ds O R h => ?_) (λ cdv A outer s H E ds O R hr h => ?_)
 ·obtain ⟨_,_,_,_,_,_,_,rfl,_⟩ := h; rfl
 ·obtain ⟨jj,m,s,so,ps,sc,said,rfl,hO,hm,hs,hso,hl,hR⟩ := h
  have hs1 := hs.1
  have hzl : (sc.zip said).length <= 63 := by rw [List.length_zip]; omega
  refine Af (A3 (Ad.ev (AC jg (hr.mono wE) (Ab (Av (Aa 0) hO T.fh.cls T.fj (Il m s ps sc)) (Ab (Av (Aa 0) hO T.fh.cls T.fk (Ij m s ps sc)) (Ab (Aa 1) (Ab (Aa 2) Ae)))) ⟨_,_,_,_,rfl,by assumption,by assumption,rfl⟩) ?_))
  refine Af (B5 (BW T.xk (Ab (BL (λ p : Int × Option Int => .int (p.1 + EL p.2 so)) ["score","what"] ["so"] [2] (Fv (Fs (Av (Aa 0) hO T.fh.cls T.fq (OW m s ps sc)) (Aa 1) wB wB T.xn)) (by rw [sizeLine_eq]; omega) (by exact λ q hq s H fp => ⟨[some _,some _],rfl,(Dg (BP (AE 0 (show List.Nodup (["score","what","so"] : List Str) by decide +kernel)) (BP (AE 1 (show List.Nodup (["score","what","so"] : List Str) by decide +kernel)) Df))),⟨_,rfl,(Ak (Aa 0) (AC jp (hr.mono wE) (Ab (Aa 1) (Ab (Aa 2) Ae)) ⟨_,_,rfl,rfl⟩) BR)⟩⟩)) Ae) (BS (by first | exact Or.inr rfl | exact Or.inl (Or.inl rfl) | exact Or.inl (Or.inr (Or.inl rfl)) | exact Or.inl (Or.inr (Or.inr ⟨_,rfl,by first | assumption | rfl⟩))))) (Aa 0) hO T.fh.cls T.fq (by show 4 < 1000; decide) ?_)
  have e1 : ((sc.zip said).map λ p : Int × Option Int => D.int (p.1 + EL p.2 so)) = (F1 said so sc).map D.int := by
   unfold F1
   rw [List.map_map]
   rfl
  rw [e1,Wx]
  exact Au hR
theorem Vj (Fn : Aw K "anew" "Follower.anew" KF f fd)  (kz : Cv P w K mg base CK0 6 "Follower" (Gy CK0)) : AF P w K mg base AK 8 f fd ["self"] (AG K (FR CK0)) := by
 refine Bg (k := 7) Fn Sl (λ ds O R h => ?_) (λ cdv A outer s H E ds O R hr h => ?_)
 ·obtain ⟨_,_,_,_,_,rfl,_⟩ := h; rfl
 ·obtain ⟨q,m,s,ps,sc,rfl,hq,hm,hs,hp,hR⟩ := h
  refine Af (AM (Db kz (hr.mono wE) (Ab (Av (Aa 0) hq T.fh.cls T.fj (Il m s ps sc)) (Ab (Av (Aa 0) hq T.fh.cls T.fk (Ij m s ps sc)) (Ab (Av (Aa 0) hq T.fh.cls T.fm (Wz m s ps sc)) Ae))) ⟨O.length,m,s,some ps,rfl,B6,hm,hs,hp,rfl,?_⟩))
  rw [C1]
  exact hR
theorem US (Fn : Aw K "are_alike" "are_alike" Kh f fd) (hm : mg "are_alike" = some (.ref f)) (hb : Binds K fd ["hands"] []) : Am P w K mg base 1 "are_alike" (Nb ⟨CK1,CK5,CK3,CK2,CK4,CK0⟩) := by
 refine A7 (k := 0) Fn R3 hm hb (λ ds O R h => ?_) (λ cdv A outer s H E ds O R hr h => ?_)
 ·obtain ⟨_,_,_,_,rfl,_⟩ := h; rfl
 ·obtain ⟨j,m,s,pv,rfl,hP,hl,hR⟩ := h
  have hz : pv.length <= sizeLine := by rw [sizeLine_eq]; omega
  refine Af (AR (AY.cast (k' := false) (BN.t (Dp (Ck (B7 (AW T.xq (Ab (Aa 0) (Ab (DF T.xk) Ae)) (GT rfl)))) (λ hbb => (DE (AU (AW T.xj (Ab (Aa 0) Ae) (BY (by first | exact Or.inr rfl | exact Or.inl (Or.inl rfl) | exact Or.inl (Or.inr (Or.inl rfl)) | exact Or.inl (Or.inr (Or.inr ⟨_,rfl,by first | assumption | rfl⟩))))) Ag Bq))))) (by show (false || decide _) = false; rw [List.length_map,decide_eq_false wF]; rfl)) (λ hk => by cases hk) (λ _ => Au ?_))
  have ea : (pv.map λ _ => true).all id = true := by rw [List.all_map]; exact List.all_eq_true.mpr λ _ _ => rfl
  refine Af (AR (AY.cast (k' := false) (Ck (B7 (AW T.xu (Ab (BL (λ _ : Nat × Hn => .bl true) ["hand"] [] [] (Bp (Aa 0) wB) hz (by exact λ q hq s H fp => ⟨[some _],rfl,(AE 0 (show List.Nodup (["hand"] : List Str) by decide +kernel)),⟨_,rfl,(OZ (C := ⟨CK1,CK5,CK3,CK2,CK4,CK0⟩)  T.xq (Aa 0) (hP q hq).1 T.bj T.bv T.dk T.eg T.bn T.br T.di T.ee T.ff T.fh T.ft T.fv T.lc)⟩⟩)) Ae) (Lv (bs := pv.map λ _ => true) (Or.inl (Or.inl (by rw [List.map_map]; rfl))))))) (by rw [ea]; rfl)) (λ hk => by cases hk) (λ _ => Au ?_))
  obtain ⟨x0,h0⟩ : ∃ x,pv[0]? = some x := ⟨_,List.getElem?_eq_getElem wF⟩
  have hx0 := hP x0 (List.mem_of_getElem? h0)
  have hat : Bt (pv.map λ x => D.ptr x.1) 0 = some (.ptr x0.1) := Er (j := 0) (by rw [List.getElem?_map,h0]; rfl)
  obtain ⟨n0,ok0⟩ := hx0.2.1
  refine Af (AM (Ad.ev (AW T.xu (Ab (BL (λ _ : Nat × Hn => .bl (decide (((m : Nat) : Int) = (m : Nat)) && decide (s = s))) ["hand"] ["hands"] [0] (Bp (Aa 0) wB) hz (by exact λ q hq s H fp => ⟨[some _],rfl,(AE 0 (show List.Nodup (["hand","hands"] : List Str) by decide +kernel)),⟨_,rfl,(Eo (Em (Io (C := ⟨CK1,CK5,CK3,CK2,CK4,CK0⟩) T.bj.cls T.bv.cls T.dk.cls T.eg.cls T.bo T.bx T.dm T.ej T.fh.cls T.fj T.fv.cls T.fx (Aa 0) (hP q hq).1 (hP q hq).2.1.choose_spec) (Io (C := ⟨CK1,CK5,CK3,CK2,CK4,CK0⟩) T.bj.cls T.bv.cls T.dk.cls T.eg.cls T.bo T.bx T.dm T.ej T.fh.cls T.fj T.fv.cls T.fx (CZ (Aa 1) Ag (hat)) hx0.1 ok0) Bq) (λ hbb => (DZ (Em (GN (C := ⟨CK1,CK5,CK3,CK2,CK4,CK0⟩) T.bj.cls T.bv.cls T.dk.cls T.eg.cls T.bq T.bz T.dq T.em T.fh.cls T.fk T.fv.cls T.fy (Aa 0) (hP q hq).1 (hP q hq).2.1.choose_spec) (GN (C := ⟨CK1,CK5,CK3,CK2,CK4,CK0⟩) T.bj.cls T.bv.cls T.dk.cls T.eg.cls T.bq T.bz T.dq T.em T.fh.cls T.fk T.fv.cls T.fy (CZ (Aa 1) Ag (hat)) hx0.1 ok0) Bq))))⟩⟩)) Ae) (Lv (bs := pv.map λ _ => true) (Or.inl (Or.inl (by rw [List.map_map,decide_eq_true rfl,decide_eq_true rfl]; rfl))))) ?_))
  rw [ea]
  exact hR
theorem UE (Fn : Aw K "is_head" "is_head" J3 f fd) (hm : mg "is_head" = some (.ref f)) (hb : Binds K fd ["hands","head"] []) : Am P w K mg base 1 "is_head" (MR ⟨CK1,CK5,CK3,CK2,CK4,CK0⟩) := by
 refine A7 (k := 0) Fn RN hm hb (λ ds O R h => ?_) (λ cdv A outer s H E ds O R hr h => ?_)
 ·obtain ⟨_,_,_,_,_,_,rfl,_⟩ := h; rfl
 ·obtain ⟨j,m,s,pv,hp,hd,rfl,hP,hD,hl,hR⟩ := h
  obtain ⟨x0,h0⟩ : ∃ x,pv[0]? = some x := ⟨_,List.getElem?_eq_getElem wF⟩
  have hx0 := hP x0 (List.mem_of_getElem? h0)
  have hat : Bt (pv.map λ x => D.ptr x.1) 0 = some (.ptr x0.1) := Er (j := 0) (by rw [List.getElem?_map,h0]; rfl)
  obtain ⟨n0,ok0⟩ := hx0.2.1
  have hd0 := hD (hp,hd) (List.mem_singleton.mpr rfl)
  obtain ⟨n1,ok1⟩ := hd0.2.1
  refine Af (AM (Ad.ev (Eo (OZ (C := ⟨CK1,CK5,CK3,CK2,CK4,CK0⟩)  T.xq (Aa 1) hd0.1 T.bj T.bv T.dk T.eg T.bn T.br T.di T.ee T.ff T.fh T.ft T.fv T.lc) (λ hbb => (Eo (Em (Io (C := ⟨CK1,CK5,CK3,CK2,CK4,CK0⟩) T.bj.cls T.bv.cls T.dk.cls T.eg.cls T.bo T.bx T.dm T.ej T.fh.cls T.fj T.fv.cls T.fx (Aa 1) hd0.1 ok1) (AW T.xj (Ab (Aa 0) Ae) (BY (by first | exact Or.inr rfl | exact Or.inl (Or.inl rfl) | exact Or.inl (Or.inr (Or.inl rfl)) | exact Or.inl (Or.inr (Or.inr ⟨_,rfl,by first | assumption | rfl⟩))))) Bq) (λ hbb => (DZ (Em (GN (C := ⟨CK1,CK5,CK3,CK2,CK4,CK0⟩) T.bj.cls T.bv.cls T.dk.cls T.eg.cls T.bq T.bz T.dq T.em T.fh.cls T.fk T.fv.cls T.fy (Aa 1) hd0.1 ok1) (GN (C := ⟨CK1,CK5,CK3,CK2,CK4,CK0⟩) T.bj.cls T.bv.cls T.dk.cls T.eg.cls T.bq T.bz T.dq T.em T.fh.cls T.fk T.fv.cls T.fy (CZ (Aa 0) Ag (hat)) hx0.1 ok0) Bq)))))) ?_))
  rw [List.length_map,decide_eq_true rfl,decide_eq_true rfl]
  exact hR
theorem UJ (Fn : Aw K "check_tier" "check_tier" J8 f fd) (hm : mg "check_tier" = some (.ref f)) (hb : Binds K fd ["hands","head"] []) (zn : Am P w K mg base 1 "are_alike" (Nb ⟨CK1,CK5,CK3,CK2,CK4,CK0⟩)) (zo : Am P w K mg base 1 "is_head" (MR ⟨CK1,CK5,CK3,CK2,CK4,CK0⟩)) : Am P w K mg base 2 "check_tier" (ME ⟨CK1,CK5,CK3,CK2,CK4,CK0⟩) := by
 refine A7 (k := 1) Fn RS hm hb (λ ds O R h => ?_) (λ cdv A outer s H E ds O R hr h => ?_)
 ·obtain ⟨_,_,_,_,_,_,rfl,_⟩ := h; rfl
 ·obtain ⟨j,m,s,pv,hp,hd,rfl,hP,hD,hm,hs,hl,hR⟩ := h
  exact Af (AR (AY.cast (k' := false) (BN.t (Dp (Ck (B7 (Ev.evp (Ce zn (hr.mono wE) (Ab (Aa 0) Ae) ⟨j,m,s,pv,rfl,hP,hl,rfl,rfl⟩)))) (λ hbb => (DE (Ck (B7 (Ev.evp (Ce zo (hr.mono wE) (Ab (Aa 0) (Ab (Aa 1) Ae)) ⟨j,m,s,pv,hp,hd,rfl,hP,hD,hl,rfl,rfl⟩)))))))) rfl) (λ hk => by cases hk) (λ _ => Au (Au hR)))
theorem U0 (Fn : Aw K "hand_charges" "Tier.hand_charges" Kn f fd)  : AF P w K mg base AK 1 f fd ["self"] (AG K (Jt ⟨CK1,CK5,CK3,CK2,CK4,CK0⟩)) := by
 refine Bg (k := 0) Fn R8 (λ ds O R h => ?_) (λ cdv A outer s H E ds O R hr h => ?_)
 ·obtain ⟨_,_,_,_,_,_,rfl,_⟩ := h; rfl
 ·obtain ⟨q,m,s,hs,hd,ch,rfl,hT,hR⟩ := h
  exact Af (AM (Ad.ev (Av (Aa 0) hT.to.1 T.fv.cls T.lb (Mi _ _ _ _ _)) hR))
theorem U3 (Fn : Aw K "__init__" "Tier.__init__" HC f fd) : AF P w K mg base AK 10 f fd ["self","hands","head"] (AG K (DR ⟨CK1,CK5,CK3,CK2,CK4,CK0⟩ 0)) := Bg (k := 9) Fn Nv (λ ds O R h => (MS h).elim) (λ cdv A outer s H E ds O R hr h => (MS h).elim)
theorem N8 {j : Nat} (Fn : Aw K "__init__" "Tier.__init__" HC f fd)  (gh : Am P w K mg base 2 "check_tier" (ME ⟨CK1,CK5,CK3,CK2,CK4,CK0⟩)) (jz : ER P w K mg base "Hand" 5 "__init__" (Ez (λ C => C = CK1 \/ C = CK5 \/ C = CK3 \/ C = CK2 \/ C = CK4 \/ C = CK0))) (jq : Ai P w K mg base CK1 7 "anew" (FQ CK1)) (jr : Ai P w K mg base CK5 9 "anew" (C9 CK5 CK3 false)) (jt : Ai P w K mg base CK3 9 "anew" (C9 CK5 CK3 true)) (ju : Ai P w K mg base CK2 8 "anew" (FP CK2)) (jw : Ai P w K mg base CK0 8 "anew" (FR CK0)) (kc : Ai P w K mg base CK4 (11 + 8 * j + 1) "anew" (DS ⟨CK1,CK5,CK3,CK2,CK4,CK0⟩ j)) : AF P w K mg base AK (17 + 8 * j + 1) f fd ["self","hands","head"] (AG K (DR ⟨CK1,CK5,CK3,CK2,CK4,CK0⟩ (j + 1))) := by
 refine Bg (k := 17 + 8 * j) Fn Nv (λ ds O R h => ?_) (λ cdv A outer s H E ds O R hr h => ?_)
 ·obtain ⟨_,_,_,_,_,_,_,rfl,_⟩ := h; rfl
 ·obtain ⟨q,m,s,pv,hp,hd,O0,rfl,rfl,rfl,hP,hD,hm,hs,hl,hR⟩ := h
  have hz : pv.length <= sizeLine := by rw [sizeLine_eq]; omega
  have hmI : (1 : Int) <= (m : Nat) /\ ((m : Nat) : Int) <= 24 := ⟨by omega,by omega⟩
  refine Af (A3 (Ad.ev (Ev.evp (Ce gh (hr.mono wF) (Ab (Aa 1) (Ab (Aa 2) Ae)) ⟨j + 1,m,s,pv,hp,hd,rfl,hP.app,hD.app,hm,hs,hl,rfl,rfl⟩)) ?_))
  obtain ⟨x0,h0⟩ : ∃ x,pv[0]? = some x := ⟨_,List.getElem?_eq_getElem wF⟩
  have hx0 := hP.app (Y := [some (MO.ins CK4 [])]) x0 (List.mem_of_getElem? h0)
  have hat : Bt (pv.map λ x => D.ptr x.1) 0 = some (.ptr x0.1) := Er (j := 0) (by rw [List.getElem?_map,h0]; rfl)
  obtain ⟨n0,ok0⟩ := hx0.2.1
  refine Af (A3 (GO jz (hr.mono wF) (Ab (Aa 0) (Ab (Io (C := ⟨CK1,CK5,CK3,CK2,CK4,CK0⟩) T.bj.cls T.bv.cls T.dk.cls T.eg.cls T.bo T.bx T.dm T.ej T.fh.cls T.fj T.fv.cls T.fx (CZ (Aa 1) Ag (hat)) hx0.1 ok0) (Ab (GN (C := ⟨CK1,CK5,CK3,CK2,CK4,CK0⟩) T.bj.cls T.bv.cls T.dk.cls T.eg.cls T.bq T.bz T.dq T.em T.fh.cls T.fk T.fv.cls T.fy (CZ (Aa 1) Ag (hat)) hx0.1 ok0) Ae))) ⟨O0.length,(m : Nat),s,CK4,rfl,.inr (.inr (.inr (.inr (.inl rfl)))),B6,hmI,hs,?_⟩))
  rw [C1]
  have sub : ∀ Z,Cm ⟨CK1,CK5,CK3,CK2,CK4,CK0⟩ (O0 ++ [some (MO.ins CK4 (BG (m : Nat) s))] ++ Z) m s (j + 1) pv := λ Z => hP.app.app
  obtain ⟨zs,hzs⟩ : ∃ zs : List Hn,zs = BI (pv.map λ x => x.2) m := ⟨_,rfl⟩
  have zl : zs.length = pv.length := by rw [hzs,GJ,List.length_map]
  have zat : ∀ (i : Nat) (x : Nat × Hn),pv[i]? = some x -> zs[i]? = some (AJ x.2 m) := λ i x hx => by rw [hzs,Gh,List.getElem?_map,List.getElem?_map,hx]; rfl
  refine Af (L1 (q := O0.length) (C := CK4) (fs := BG (m : Nat) s) (Ir T.xk (CJ (Ip (λ i => .ptr (O0.length + 1 + An (zs.take i))) (λ i => O0 ++ [some (MO.ins CK4 (BG (m : Nat) s))] ++ AT ⟨CK1,CK5,CK3,CK2,CK4,CK0⟩ (zs.take i) (O0.length + 1) m s) (by rw [List.take_zero]; simp only [AT,List.append_nil]) ["hand"] [] [] (Bp (Aa 1) wB) hz ?turn (Bx.as Ae ⟨_,BS (Or.inl (Or.inl rfl)),(Aa 0),HU,?_⟩)))) T.fv.cls T.fz (by show 2 < 1000; decide))
  case turn =>
   intro i x hx s2 H2 fp
   have hi := (List.getElem?_eq_some_iff.mp hx).1
   have hxx := sub (AT ⟨CK1,CK5,CK3,CK2,CK4,CK0⟩ (zs.take i) (O0.length + 1) m s) x (List.mem_of_getElem? hx)
   obtain ⟨n1,ok1⟩ := hxx.2.1
   have el : (O0 ++ [some (MO.ins CK4 (BG (m : Nat) s))] ++ AT ⟨CK1,CK5,CK3,CK2,CK4,CK0⟩ (zs.take i) (O0.length + 1) m s).length = O0.length + 1 + An (zs.take i) := by rw [List.length_append,List.length_append,DW]; rfl
   refine ⟨[some (.ptr x.1)],rfl,AE 0 (show List.Nodup (["hand"] : List Str) by decide +kernel),En (C := ⟨CK1,CK5,CK3,CK2,CK4,CK0⟩) jq jr jt ju (hr.mono wF) (hr.mono wF) (hr.mono wF) jw (hr.mono wF) kc (hr.mono wF) (Aa 0) hxx.1 ok1 (Nat.le_of_lt_succ hxx.2.2) hm hs ⟨?_,?_⟩⟩
   ·show D.ptr _ = D.ptr _
    rw [el]
   ·show _ = O0 ++ _ ++ AT ⟨CK1,CK5,CK3,CK2,CK4,CK0⟩ (zs.take (i + 1)) (O0.length + 1) m s
    rw [HY ⟨CK1,CK5,CK3,CK2,CK4,CK0⟩ (zat i x hx),el,<- List.append_assoc]
  rw [KZ,S2,<- zl,List.take_of_length_le (Nat.le_refl _)]
  rw [show ((List.range zs.length).map λ i => D.ptr (O0.length + 1 + An (zs.take i))) = (BQ zs (O0.length + 1)).map D.ptr by rw [N9,List.map_map]; rfl]
  generalize hZ : AT ⟨CK1,CK5,CK3,CK2,CK4,CK0⟩ zs (O0.length + 1) m s = Z
  have hZl : Z.length = An zs := by rw [<- hZ,DW]
  have hd0 := hD (hp,hd) (List.mem_singleton.mpr rfl)
  obtain ⟨n2,ok2⟩ := hd0.2.1
  have hq2 : ∀ (y : Option MO) (Y : Ac),Ap ⟨CK1,CK5,CK3,CK2,CK4,CK0⟩ (O0 ++ [y] ++ Y) hd hp pv.length s := λ y Y => hd0.1.ap.ap
  refine Af (L1 (q := O0.length) (C := CK4) (fs := Gu (m : Nat) s (.tup ((BQ zs (O0.length + 1)).map D.ptr))) (En (C := ⟨CK1,CK5,CK3,CK2,CK4,CK0⟩) jq jr jt ju (hr.mono wF) (hr.mono wF) (hr.mono wF) jw (hr.mono wF) kc (hr.mono wF) (Aa 2) (hq2 _ _) ok2 (Nat.le_of_lt_succ hd0.2.2) hl hs ⟨(Aa 0),?_,?_⟩) T.fv.cls T.la (by show 3 < 1000; decide))
  ·exact IE HU
  rw [List.append_assoc (O0 ++ _) Z,KZ,S1,show (O0 ++ [some (MO.ins CK4 (Gu (m : Nat) s (.tup ((BQ zs (O0.length + 1)).map D.ptr))))] ++ Z).length = O0.length + 1 + An zs by rw [List.length_append,List.length_append,hZl]; rfl]
  refine Af (B5 (Ak (CV (Ab Ag Ae)) (AW T.xj (Ab (Aa 1) Ae) (BY (by first | exact Or.inr rfl | exact Or.inl (Or.inl rfl) | exact Or.inl (Or.inr (Or.inl rfl)) | exact Or.inl (Or.inr (Or.inr ⟨_,rfl,by first | assumption | rfl⟩))))) (EH (by rw [List.length_map]; omega) (by rw [List.length_map]; omega) (by simp) (by rw [sizeLine_eq,List.length_map,Int.toNat_natCast]; show 1 * _ <= _; omega))) (Aa 0) HU T.fv.cls T.lb (by show 4 < 1000; decide) ?_)
  rw [KZ,List.length_map,Int.toNat_natCast,Ha,S7]
  refine Au ?_
  have e : DD ⟨CK1,CK5,CK3,CK2,CK4,CK0⟩ (pv.map (·.2)) hd O0.length m s = [some (MO.ins CK4 (BO (m : Nat) s (BQ zs (O0.length + 1)) (O0.length + 1 + An zs) (List.replicate pv.length 0)))] ++ (Z ++ Bb ⟨CK1,CK5,CK3,CK2,CK4,CK0⟩ (AJ hd pv.length) (O0.length + 1 + An zs) pv.length s) := by
   unfold DD
   simp only [AJ,Bb]
   rw [<- hzs,zl,List.length_map,hZ]
   rfl
  rw [e,<- List.append_assoc] at hR
  exact hR
theorem U1 (Fn : Aw K "ask" "Tier.ask" HA f fd) : AF P w K mg base AK 7 f fd ["self","said"] (AG K (EA ⟨CK1,CK5,CK3,CK2,CK4,CK0⟩ 0)) := Bg (k := 6) Fn Nt (λ ds O R h => (M9 h).elim) (λ cdv A outer s H E ds O R hr h => (M9 h).elim)
theorem N6 {j : Nat} (Fn : Aw K "ask" "Tier.ask" HA f fd)  (jc : Ai P w K mg base CK1 6 "say" (Bn CK1 CK5 CK3 CK2)) (ja : Ai P w K mg base CK5 6 "say" (Bn CK1 CK5 CK3 CK2)) (jb : Ai P w K mg base CK3 6 "say" (Bn CK1 CK5 CK3 CK2)) (jd : Ai P w K mg base CK2 6 "say" (Bn CK1 CK5 CK3 CK2)) (je : Ai P w K mg base CK0 5 "say" (Ey CK0)) (jf : Ai P w K mg base CK4 (8 + 8 * j + 1) "say" (Di ⟨CK1,CK5,CK3,CK2,CK4,CK0⟩ j)) : AF P w K mg base AK (14 + 8 * j + 1) f fd ["self","said"] (AG K (EA ⟨CK1,CK5,CK3,CK2,CK4,CK0⟩ (j + 1))) := by
 refine Bg (k := 14 + 8 * j) Fn Nt (λ ds O R h => ?_) (λ cdv A outer s H E ds O R hr h => ?_)
 ·obtain ⟨_,_,_,_,_,_,_,_,rfl,_⟩ := h; rfl
 ·obtain ⟨q0,n,m,s,hs,hd,ch,said,rfl,hT,hk,hj,hm,h0,hsd,hR⟩ := h
  have hl := hk.to.2.2.1
  have hz : (List.range hs.length).length <= sizeLine := by rw [sizeLine_eq,List.length_range]; omega
  have hv : ∀ i ∈ List.range hs.length,Ap ⟨CK1,CK5,CK3,CK2,CK4,CK0⟩ O (hs.getD i (.p .h)) (q0 + 1 + An (hs.take i)) m s /\ AI n (hs.getD i (.p .h)) m s /\ AO (hs.getD i (.p .h)) <= j := λ i hi => by
   have hi := List.mem_range.mp hi
   have e : hs[i]? = some (hs.getD i (.p .h)) := by rw [List.getD_eq_getElem?_getD,List.getElem?_eq_getElem hi]; rfl
   exact ⟨(ET _ _).mp hT.to.2.1 i _ e,(ES _).mp hk.to.1 _ (List.mem_of_getElem? e),(Dc hj).1 _ (List.mem_of_getElem? e)⟩
  refine Af (AM (Ad.ev (BW T.xk (Ab (BL (λ i : Nat => .int (Ba (hs.getD i (.p .h)) m said)) ["hand"] ["said"] [1] (Bp (Av (Aa 0) hT.to.1 T.fv.cls T.fz (Jc _ _ _ _ _ _)) wB) hz (by exact λ q hq s H fp => ⟨[some _],rfl,(AE 0 (show List.Nodup (["hand","said"] : List Str) by decide +kernel)),⟨_,rfl,(Cu (C := ⟨CK1,CK5,CK3,CK2,CK4,CK0⟩) jc ja jb jd (hr.mono wF) je (hr.mono wF) jf (hr.mono wF) (Aa 0) (hv q hq).1 (hv q hq).2.1 (hv q hq).2.2 hm h0 hsd (Ab (Aa 1) Ae))⟩⟩)) Ae) (BS (by first | exact Or.inr rfl | exact Or.inl (Or.inl rfl) | exact Or.inl (Or.inr (Or.inl rfl)) | exact Or.inl (Or.inr (Or.inr ⟨_,rfl,by first | assumption | rfl⟩))))) ?_))
  have e : ((List.range hs.length).map λ i : Nat => D.int (Ba (hs.getD i (.p .h)) m said)) = (AZ hs m said).map D.int := by
   rw [Hw,List.map_map]
   refine Eq.trans ?_ (congrArg (List.map (D.int ∘ λ x => Ba x m said)) (KJ hs (.p .h)))
   rw [List.map_map]
   rfl
  rw [e]
  exact hR
theorem UY (Fn : Aw K "say" "Tier.say" Hy f fd) : AF P w K mg base AK 9 f fd ["self","said"] (AG K (Di ⟨CK1,CK5,CK3,CK2,CK4,CK0⟩ 0)) := Bg (k := 8) Fn Nr (λ ds O R h => (MJ h).elim) (λ cdv A outer s H E ds O R hr h => (MJ h).elim)
theorem N4 {j : Nat} (Fn : Aw K "say" "Tier.say" Hy f fd)  (ka : Am P w K mg base 4 "check_said" (Ax Hj)) (zp : Ai P w K mg base CK4 (14 + 8 * j + 1) "ask" (EA ⟨CK1,CK5,CK3,CK2,CK4,CK0⟩ (j + 1))) (jc : Ai P w K mg base CK1 6 "say" (Bn CK1 CK5 CK3 CK2)) (ja : Ai P w K mg base CK5 6 "say" (Bn CK1 CK5 CK3 CK2)) (jb : Ai P w K mg base CK3 6 "say" (Bn CK1 CK5 CK3 CK2)) (jd : Ai P w K mg base CK2 6 "say" (Bn CK1 CK5 CK3 CK2)) (je : Ai P w K mg base CK0 5 "say" (Ey CK0)) (jf : Ai P w K mg base CK4 (8 + 8 * j + 1) "say" (Di ⟨CK1,CK5,CK3,CK2,CK4,CK0⟩ j)) : AF P w K mg base AK (16 + 8 * j + 1) f fd ["self","said"] (AG K (Di ⟨CK1,CK5,CK3,CK2,CK4,CK0⟩ (j + 1))) := by
 refine Bg (k := 16 + 8 * j) Fn Nr (λ ds O R h => ?_) (λ cdv A outer s H E ds O R hr h => ?_)
 ·obtain ⟨_,_,_,_,_,_,_,_,rfl,_⟩ := h; rfl
 ·obtain ⟨q,n,m,s,hs,hd,ch,said,rfl,hT,hk,hj,hm,h0,hsd,hR⟩ := h
  refine Af (A3 (Ad.ev (AC ka (hr.mono wF) (Ab (Av (Aa 0) hT.to.1 T.fv.cls T.fx (Hf _ _ _ _ _)) (Ab (Av (Aa 0) hT.to.1 T.fv.cls T.fy (Gs _ _ _ _ _)) (Ab (Aa 1) Ae))) ⟨_,_,_,rfl,by assumption,rfl⟩) ?_))
  have hl := hk.to.2.2.1
  have hak := D9 hs m s said hk.to.1 hsd h0 hl.2
  refine Af (AM (Ad.ev (Cu (C := ⟨CK1,CK5,CK3,CK2,CK4,CK0⟩) jc ja jb jd (hr.mono wF) je (hr.mono wF) jf (hr.mono wF) (Av (Aa 0) hT.to.1 T.fv.cls T.la (Jb _ _ _ _ _)) hT.to.2.2 hk.to.2.1 (Dc hj).2 hl h0 hak (Ab (Ad.cast (Ev.evp (CY zp (hr.mono wF) (Aa 0) hT.to.1 (Ew _ _ _ _ _ wD) (Ab (Aa 1) Ae) ⟨q,n,m,s,hs,hd,ch,said,rfl,hT,hk,hj,hm,h0,hsd,rfl,rfl⟩)) (congrArg D.tup (IF _).symm)) Ae)) ?_))
  rw [show Ba hd hs.length (BH (AZ hs m said)) = Ba (.t hs hd ch) m said by simp only [Ba]]
  exact hR
theorem UZ (Fn : Aw K "hear" "Tier.hear" Hz f fd) : AF P w K mg base AK 10 f fd ["self","said","so"] (AG K (DA ⟨CK1,CK5,CK3,CK2,CK4,CK0⟩ 0)) := Bg (k := 9) Fn Ht (λ ds O R h => (MW h).elim) (λ cdv A outer s H E ds O R hr h => (MW h).elim)
theorem N5 {j : Nat} (Fn : Aw K "hear" "Tier.hear" Hz f fd)  (jg : Am P w K mg base 5 "check_turn" (Ax Fh)) (jp : Am P w K mg base 1 "charge" (Ax FO)) (zp : Ai P w K mg base CK4 (14 + 8 * j + 1) "ask" (EA ⟨CK1,CK5,CK3,CK2,CK4,CK0⟩ (j + 1))) (jh : Ai P w K mg base CK1 6 "hear" (Ff CK1)) (ji : Ai P w K mg base CK5 8 "hear" (CT CK5 CK3 false)) (jk : Ai P w K mg base CK3 8 "hear" (CT CK5 CK3 true)) (jl : Ai P w K mg base CK2 6 "hear" (Fe CK2)) (jn : Ai P w K mg base CK0 6 "hear" (Fg CK0)) (kb : Ai P w K mg base CK4 (9 + 8 * j + 1) "hear" (DA ⟨CK1,CK5,CK3,CK2,CK4,CK0⟩ j)) : AF P w K mg base AK (17 + 8 * j + 1) f fd ["self","said","so"] (AG K (DA ⟨CK1,CK5,CK3,CK2,CK4,CK0⟩ (j + 1))) := by
 refine Bg (k := 17 + 8 * j) Fn Ht (λ ds O R h => ?_) (λ cdv A outer s H E ds O R hr h => ?_)
 ·obtain ⟨_,_,_,_,_,_,_,_,_,rfl,_⟩ := h; rfl
 ·obtain ⟨q0,n,m,s,so,hs,hd,ch,said,rfl,hT,hk,hj,hn,hm,hsd,hso,hR⟩ := h
  have h0 : 0 <= s := by omega
  have hl := hk.to.2.2.1
  have hak := D9 hs m s said hk.to.1 hsd h0 hl.2
  refine Af (A3 (Ad.ev (AC jg (hr.mono wF) (Ab (Av (Aa 0) hT.to.1 T.fv.cls T.fx (Hf _ _ _ _ _)) (Ab (Av (Aa 0) hT.to.1 T.fv.cls T.fy (Gs _ _ _ _ _)) (Ab (Aa 1) (Ab (Aa 2) Ae)))) ⟨_,_,_,_,rfl,by assumption,by assumption,rfl⟩) ?_))
  refine Af (A5 3 (Ad.ev (Ev.evp (CY zp (hr.mono wF) (Aa 0) hT.to.1 (Ew _ _ _ _ _ wD) (Ab (Aa 1) Ae) ⟨q0,n,m,s,hs,hd,ch,said,rfl,hT,hk,hj,hm,h0,hsd,rfl,rfl⟩)) ?_) Ht.nd)
  have esz : AH (.t hs hd ch) = 1 + An hs + AH hd := by simp only [AH]
  rw [esz] at hR
  refine Af (A3 (El (C := ⟨CK1,CK5,CK3,CK2,CK4,CK0⟩) jh ji jk jl (hr.mono wF) (hr.mono wF) (hr.mono wF) jn (hr.mono wF) kb (hr.mono wF) (Av (Aa 0) hT.to.1 T.fv.cls T.la (Jb _ _ _ _ _)) hT.to.2.2 hk.to.2.1 (Dc hj).2 hn hl hak hso (Ab (Ad.cast (Aa 3) (congrArg D.tup (IF _).symm)) (Ab (Aa 2) Ae)) λ O1 c1 i2 => ?_))
  have b1 : Cy q0 (1 + An hs + AH hd) O O1 := (Cy.rf _ _ _).in c1 wF wF
  have hps := Fj hd
  have i1 : O1[q0]? = some (some (.ins CK4 (BO (m : Nat) s (BQ hs (q0 + 1)) (q0 + 1 + An hs) ch))) := by rw [c1.o q0 wF]; exact hT.to.1
  have i3 : ∀ k v,hs[k]? = some v -> Ap ⟨CK1,CK5,CK3,CK2,CK4,CK0⟩ O1 v (q0 + 1 + An (hs.take k)) m s := λ k v hv => ((ET _ _).mp hT.to.2.1 k v hv).own λ a h1 h2 => c1.o a (by have := Hq hs (k + 1); rw [EB hv] at this; omega)
  have hasl : (AZ hs m said).length = hs.length := GI ..
  refine Af (C8 (Bp (Av (Aa 0) i1 T.fv.cls T.fz (Jc _ _ _ _ _ _)) wB) (λ i ρ O' => (∃ v : Option D,ρ = [some (.ptr q0),some (.tup (said.map od)),some (.int so),some (.tup ((AZ hs m said).map D.int)),v]) /\ Cy q0 (1 + An hs + AH hd) O O' /\ O'[q0]? = some (some (.ins CK4 (BO (m : Nat) s (BQ hs (q0 + 1)) (q0 + 1 + An hs) ch))) /\ Ap ⟨CK1,CK5,CK3,CK2,CK4,CK0⟩ O' (A0 hd hs.length (BH (AZ hs m said)) so) (q0 + 1 + An hs) hs.length s /\ ∀ k v,hs[k]? = some v -> Ap ⟨CK1,CK5,CK3,CK2,CK4,CK0⟩ O' (if k < i then A0 v m said so else v) (q0 + 1 + An (hs.take k)) m s) ⟨⟨_,rfl⟩,b1,i1,i2,λ k v hv => by rw [if_neg (Nat.not_lt_zero _)]; exact i3 k v hv⟩ ?_ ?_)
  ·clear i1 i2 i3 b1 c1
   rintro i z ρ O' hz ⟨⟨v4,rfl⟩,bk,j1,j2,j3⟩
   rw [List.getElem?_map] at hz
   obtain ⟨i',hi',rfl⟩ := Option.map_eq_some_iff.mp hz
   have hil : i < hs.length := by have := (List.getElem?_eq_some_iff.mp hi').1; rw [List.length_range] at this; exact this
   rw [List.getElem?_range hil] at hi'
   cases hi'
   obtain ⟨v,hv⟩ : ∃ v,hs[i]? = some v := ⟨_,List.getElem?_eq_getElem hil⟩
   have jv := j3 i v hv
   rw [if_neg (Nat.lt_irrefl _)] at jv
   have sv := Hq hs (i + 1)
   rw [EB hv] at sv
   refine ⟨_,AE 4 Ht.nd,?_⟩
   refine Af (A3 (El (C := ⟨CK1,CK5,CK3,CK2,CK4,CK0⟩) jh ji jk jl (hr.mono wF) (hr.mono wF) (hr.mono wF) jn (hr.mono wF) kb (hr.mono wF) (Aa 4) jv ((ES _).mp hk.to.1 v (List.mem_of_getElem? hv)) ((Dc hj).1 v (List.mem_of_getElem? hv)) hn hm hsd hso (Ab (Aa 1) (Ab (Aa 2) Ae)) λ O2 c2 d2 => ?_))
   refine Au ⟨⟨_,rfl⟩,bk.in c2 wF wF,by rw [c2.o q0 wF]; exact j1,j2.own λ a h1 h2 => c2.o a wF,λ k w hw => ?_⟩
   by_cases hki : k = i
   ·subst hki
    rw [hv] at hw
    cases hw
    rw [if_pos (Nat.lt_succ_self _)]
    exact d2
   ·have e : (if k < i + 1 then A0 w m said so else w) = if k < i then A0 w m said so else w := by
     by_cases h1 : k < i
     ·rw [if_pos h1,if_pos wF]
     ·rw [if_neg h1,if_neg wF]
    rw [e]
    have ew : AH (if k < i then A0 w m said so else w) = AH w := by split; exact ED ..; rfl
    refine (j3 k w hw).own λ a h1 h2 => c2.o a ?_
    rw [ew] at h2
    by_cases h3 : k < i
    ·have := Hm hs (show k + 1 <= i by omega)
     rw [EB hw] at this
     omega
    ·have := Hm hs (show i + 1 <= k by omega)
     rw [EB hv] at this
     omega
  ·clear i1 i2 i3 b1 c1
   rintro ρ O' ⟨⟨v4,rfl⟩,bk,j1,j2,j3⟩
   rw [List.length_map,List.length_range] at j3
   have hzl : (ch.zip (AZ hs m said)).length <= 63 := by rw [List.length_zip,hasl]; omega
   refine Af (B5 (BW T.xk (Ab (BL (λ x : Int × Int => .int (x.1 + ab (x.2 - so))) ["charged","saying"] ["so"] [2] (Fv (Fs (Av (Aa 0) j1 T.fv.cls T.lb (Mi _ _ _ _ _)) (Aa 3) wB wB T.xn)) (by rw [sizeLine_eq]; omega) (by exact λ q hq s H fp => ⟨[some _,some _],rfl,(Dg (BP (AE 0 (show List.Nodup (["charged","saying","so"] : List Str) by decide +kernel)) (BP (AE 1 (show List.Nodup (["charged","saying","so"] : List Str) by decide +kernel)) Df))),⟨_,rfl,(Ak (Aa 0) (AC jp (hr.mono wF) (Ab (Aa 1) (Ab (Aa 2) Ae)) ⟨some q.2,so,rfl,rfl⟩) BR)⟩⟩)) Ae) (BS (by first | exact Or.inr rfl | exact Or.inl (Or.inl rfl) | exact Or.inl (Or.inr (Or.inl rfl)) | exact Or.inl (Or.inr (Or.inr ⟨_,rfl,by first | assumption | rfl⟩))))) (Aa 0) j1 T.fv.cls T.lb (by show 5 < 1000; decide) ?_)
   have e1 : ((ch.zip (AZ hs m said)).map λ x : Int × Int => D.int (x.1 + ab (x.2 - so))) = ((ch.zip (AZ hs m said)).map λ x => x.1 + ab (x.2 - so)).map D.int := by
    rw [List.map_map]
    rfl
   rw [e1,QN]
   have own : ∀ (x : Hn) (p r : Nat) (Y : Option MO),q0 < p -> Ap ⟨CK1,CK5,CK3,CK2,CK4,CK0⟩ O' x p r s -> Ap ⟨CK1,CK5,CK3,CK2,CK4,CK0⟩ (O'.set q0 Y) x p r s := λ x p r Y hp h => h.own λ a h1 h2 => List.getElem?_set_ne wF
   refine Au (hR _ ⟨(List.length_set ..).trans bk.l,λ a ha => by rw [List.getElem?_set_ne wF]; exact bk.o a ha⟩ ?_)
   rw [show A0 (.t hs hd ch) m said so = .t (BD hs m said so) (A0 hd hs.length (BH (AZ hs m said)) so) ((ch.zip (AZ hs m said)).map λ x => x.1 + ab (x.2 - so)) by simp only [A0]]
   have eo : ∀ p,BQ (BD hs m said so) p = BQ hs p := λ p => Od _ _ p (by rw [DY,List.map_map]; exact List.map_congr_left λ x _ => ED x m said so)
   refine Ap.ti ⟨?_,(ET _ _).mpr λ i x hx => ?_,?_⟩
   ·rw [eo,EC]; exact Cp j1
   ·rw [DY,List.getElem?_map] at hx
    obtain ⟨w,hw,rfl⟩ := Option.map_eq_some_iff.mp hx
    have hi := (List.getElem?_eq_some_iff.mp hw).1
    have := j3 i w hw
    rw [if_pos hi] at this
    rw [DY,<- List.map_take,<- DY,EC]
    exact own _ _ _ _ wF this
   ·rw [EC,F5]; exact own _ _ _ _ wF j2
theorem U2 (Fn : Aw K "anew" "Tier.anew" HB f fd) : AF P w K mg base AK 12 f fd ["self"] (AG K (DS ⟨CK1,CK5,CK3,CK2,CK4,CK0⟩ 0)) := Bg (k := 11) Fn Nu (λ ds O R h => (Na h).elim) (λ cdv A outer s H E ds O R hr h => (Na h).elim)
theorem N7 {j : Nat} (Fn : Aw K "anew" "Tier.anew" HB f fd)  (kh : Cv P w K mg base CK4 (17 + 8 * j + 1) "Tier" (DR ⟨CK1,CK5,CK3,CK2,CK4,CK0⟩ (j + 1))) : AF P w K mg base AK (19 + 8 * j + 1) f fd ["self"] (AG K (DS ⟨CK1,CK5,CK3,CK2,CK4,CK0⟩ (j + 1))) := by
 refine Bg (k := 19 + 8 * j) Fn Nu (λ ds O R h => ?_) (λ cdv A outer s H E ds O R hr h => ?_)
 ·obtain ⟨_,_,_,_,_,_,_,rfl,_⟩ := h; rfl
 ·obtain ⟨q,n,m,s,hs,hd,ch,rfl,hT,hk,hj,hm,hs1,hR⟩ := h
  have hl := hk.to.2.2.1
  have hpl : ((List.range hs.length).map λ i => (q + 1 + An (hs.take i),hs.getD i (Hn.p .h))).length = hs.length := by rw [List.length_map,List.length_range]
  have hp2 : ((List.range hs.length).map λ i => (q + 1 + An (hs.take i),hs.getD i (Hn.p .h))).map (·.2) = hs := by rw [List.map_map]; exact KJ hs (.p .h)
  have hp1 : ((List.range hs.length).map λ i => (q + 1 + An (hs.take i),hs.getD i (Hn.p .h))).map (λ x => D.ptr x.1) = (List.range hs.length).map λ i => D.ptr (q + 1 + An (hs.take i)) := by rw [List.map_map]; rfl
  have hPv : Cm ⟨CK1,CK5,CK3,CK2,CK4,CK0⟩ O m s (j + 1) ((List.range hs.length).map λ i => (q + 1 + An (hs.take i),hs.getD i (Hn.p .h))) := λ x hx => by
   obtain ⟨i,hi,rfl⟩ := List.mem_map.mp hx
   have hi := List.mem_range.mp hi
   have e : hs[i]? = some (hs.getD i (.p .h)) := by rw [List.getD_eq_getElem?_getD,List.getElem?_eq_getElem hi]; rfl
   exact ⟨(ET _ _).mp hT.to.2.1 i _ e,⟨n,(ES _).mp hk.to.1 _ (List.mem_of_getElem? e)⟩,Nat.lt_succ_of_le ((Dc hj).1 _ (List.mem_of_getElem? e))⟩
  generalize ((List.range hs.length).map λ i => (q + 1 + An (hs.take i),hs.getD i (Hn.p .h))) = pv at hpl hp2 hp1 hPv
  refine Af (AM (Db kh (hr.mono wF) (Ab (Av (Aa 0) hT.to.1 T.fv.cls T.fz (Jc _ _ _ _ _ _)) (Ab (Av (Aa 0) hT.to.1 T.fv.cls T.la (Jb _ _ _ _ _)) Ae)) ⟨O.length,m,s,pv,q + 1 + An hs,hd,O,by rw [hp1],rfl,rfl,hPv,λ x hx => ?_,hm,hs1,by rw [hpl]; exact hl,rfl,?_⟩))
  ·rw [List.mem_singleton.mp hx,hpl]; exact ⟨hT.to.2.2,⟨n,hk.to.2.1⟩,Nat.lt_succ_of_le (Dc hj).2⟩
  ·rw [hp2]; exact hR
theorem Uy (Fn : Aw K "_law_cell_at" "_law_cell_at" JX f fd) (hm : mg "_law_cell_at" = some (.ref f)) (hb : Binds K fd ["_law_script","_law_k"] []) : Am P w K mg base 1 "_law_cell_at" (Ax Ju) := by
 refine A7 (k := 0) Fn RH hm hb (λ ds O R h => ?_) (λ cdv A outer s H E ds O R hr h => ?_)
 ·obtain ⟨_,⟨_,_,rfl,_⟩,_⟩ := h; rfl
 ·obtain ⟨d,⟨ns,k,rfl,hk0,rfl⟩,hR⟩ := h
  refine Af (AR (AU (Aa 1) (AW T.xj (Ab (Aa 0) Ae) (BY (by first | exact Or.inr rfl | exact Or.inl (Or.inl rfl) | exact Or.inl (Or.inr (Or.inl rfl)) | exact Or.inl (Or.inr (Or.inr ⟨_,rfl,by first | assumption | rfl⟩))))) Lj) (λ hk => ?_) (λ hk => ?_))
  ·have hk := of_decide_eq_true hk
   rw [List.length_map] at hk
   have hi : k.toNat < ns.length := by omega
   have hz : Bt (ns.map D.int) k = some (.int ns[k.toNat]) := X9 hk0 (List.getElem?_eq_getElem hi)
   refine Af (AM (Ad.ev (EJ (Aa 0) (by first | exact Or.inl rfl | exact Or.inr (Or.inl rfl) | exact Or.inr (Or.inr ⟨_,rfl,by first | assumption | rfl⟩)) (Aa 1) hz) ?_))
   unfold BX at hR
   rw [List.getElem?_eq_getElem hi] at hR
   exact hR
  ·have hk := of_decide_eq_false hk
   rw [List.length_map] at hk
   refine Au ?_
   refine Af (AM (Ad.ev Ag ?_))
   unfold BX at hR
   rw [List.getElem?_eq_none wF] at hR
   exact hR
theorem Us (Fn : Aw K "_law_next" "_law_next" JR f fd) (hm : mg "_law_next" = some (.ref f)) (hb : Binds K fd ["_law_x"] []) : Am P w K mg base 1 "_law_next" (Ax Gv) := by
 refine A7 (k := 0) Fn RF hm hb (λ ds O R h => ?_) (λ cdv A outer s H E ds O R hr h => ?_)
 ·obtain ⟨_,⟨_,rfl,_⟩,_⟩ := h; rfl
 ·obtain ⟨d,⟨x,rfl,hx,rfl⟩,hR⟩ := h
  have m1 : IntMulOk x x := Eg (m := 40) (n := 40) hx.1 wF hx.1 wF
  have m2 : IntMulOk 48271 x := Eg (m := 20) (n := 40) wE wE hx.1 wF
  exact Af (AM (Ad.ev (Ak (Ak (Ak (Ak (Aa 0) (Aa 0) (CC m1)) (Ak Ag (Aa 0) (CC m2)) BR) Ag BR) Ag (Bh wC)) hR))
theorem Up (Fn : Aw K "_law_seed" "_law_seed" JO f fd) (hm : mg "_law_seed" = some (.ref f)) (hb : Binds K fd ["_law_script","_law_k"] []) (gf : Am P w K mg base 1 "_law_cell_at" (Ax Ju)) (jx : Am P w K mg base 1 "_law_next" (Ax Gv)) : Am P w K mg base 2 "_law_seed" (Ax Jk) := by
 refine A7 (k := 1) Fn Nm hm hb (λ ds O R h => ?_) (λ cdv A outer s H E ds O R hr h => ?_)
 ·obtain ⟨_,⟨_,_,rfl,_⟩,_⟩ := h; rfl
 ·obtain ⟨d,⟨ns,k,rfl,hk,rfl⟩,hR⟩ := h
  have m1 : IntMulOk 69621 k := Eg (m := 20) (n := 40) wE wE hk.1 wF
  have m2 : IntMulOk (69621 * k) k := Eg (m := 40) (n := 40) wF wF hk.1 wF
  refine Af (A5 2 (Ad.ev (Ak (Ak (Ak (Ak (AC gf (hr.mono wE) (Ab (Aa 0) (Ab (Aa 1) Ae)) ⟨_,_,rfl,hk.1,rfl⟩) Ag (Bh wC)) (Ak (Ak Ag (Aa 1) (CC m1)) (Aa 1) (CC m2)) BR) Ag BR) Ag (Bh wC)) ?_) Nm.nd)
  unfold Cd at hR
  generalize BX ns k = c at hR
  have h1 : 0 <= (c % 2147483647 + 69621 * k * k + 5) % 2147483647 /\ (c % 2147483647 + 69621 * k * k + 5) % 2147483647 < 3000000000 := by omega
  have h2 : 0 <= CD ((c % 2147483647 + 69621 * k * k + 5) % 2147483647) /\ CD ((c % 2147483647 + 69621 * k * k + 5) % 2147483647) < 3000000000 := by
   have := FZ ((c % 2147483647 + 69621 * k * k + 5) % 2147483647)
   unfold Lo at this
   omega
  exact Af (AM (Ad.ev (AC jx (hr.mono wE) (Ab (AC jx (hr.mono wE) (Ab (Aa 2) Ae) ⟨_,rfl,h1,rfl⟩) Ae) ⟨_,rfl,h2,rfl⟩) hR))
theorem Uo (Fn : Aw K "_law_turn" "_law_turn" JN f fd) (hm : mg "_law_turn" = some (.ref f)) (hb : Binds K fd ["_law_x","_law_many_here","_law_scale_here","_law_sleeps"] []) (jx : Am P w K mg base 1 "_law_next" (Ax Gv)) : Am P w K mg base 2 "_law_turn" (Ax MD) := by
 refine A7 (k := 1) Fn EE hm hb (λ ds O R h => ?_) (λ cdv A outer s H E ds O R hr h => ?_)
 ·obtain ⟨_,⟨_,_,_,_,rfl,_⟩,_⟩ := h; rfl
 ·obtain ⟨d,⟨x,m,s,sl,rfl,hx,hm,hs,rfl⟩,hR⟩ := h
  refine IY ?_
  refine Af (A5 4 (Ad.ev (Ak (Ak (Aa 0) Ag (Cj ⟨wC,wC⟩)) (Ak (Aa 2) Ag BR) (Bh wF)) ?_) EE.nd)
  unfold FK at hR
  generalize x / 7 % (s + 1) = so at hR
  refine Af (A5 5 (Lf Ae ?_) EE.nd)
  refine Af (C8 (Ge (Aa 1) T.xp wC wC) (λ i ρ O' => ∃ (L : List (Option Int)) (y : Int) (u v : Option D),ρ = [some (.int y),some (.int (m : Nat)),some (.int s),some (.bl sl),some (.int so),some (.ptr O.length),u,v] /\ O' = O ++ [some (.lst (L.map od))] /\ L.length = i /\ Lo y /\ DB s sl so m 0 x = L ++ DB s sl so (m - i) i y) ⟨[],x,_,_,rfl,rfl,rfl,hx,rfl⟩ ?_ ?_)
  ·rintro i z ρ O' hz ⟨L,y,u,v,rfl,rfl,hL,hy,hrun⟩
   obtain ⟨hi,rfl⟩ := HI hz
   have hi : i < m := by omega
   refine ⟨_,AE 6 EE.nd,?_⟩
   have hy' : 0 <= y + (0 + ((i : Nat) : Int)) /\ y + (0 + ((i : Nat) : Int)) < 3000000000 := by have := hy.1; have := hy.2; omega
   refine Af (A5 0 (Ad.ev (AC jx (hr.mono wE) (Ab (Ak (Aa 0) (Aa 6) BR) Ae) ⟨_,rfl,hy',rfl⟩) ?_) EE.nd)
   rw [show m - i = (m - (i + 1)) + 1 by omega] at hrun
   have hrun : DB s sl so m 0 x = L ++ (Eu s sl so (i : Int) (CD (y + (i : Int))) :: DB s sl so (m - (i + 1)) (i + 1) (CD (y + (i : Int)))) := hrun
   rw [show y + (0 + ((i : Nat) : Int)) = y + ((i : Nat) : Int) by omega]
   have hlo := FZ (y + ((i : Nat) : Int))
   generalize CD (y + ((i : Nat) : Int)) = n at hrun hlo
   refine Af (A5 7 (Ad.ev (Ak (Ak (Aa 0) Ag (Cj ⟨wC,wC⟩)) (Ak (Aa 2) Ag BR) (Bh wF)) ?_) EE.nd)
   refine Fb (λ ρ' O2 => ρ' = [some (.int n),some (.int (m : Nat)),some (.int s),some (.bl sl),some (.int so),some (.ptr O.length),some (.int (0 + (i : Nat))),some (.int (if 1 < n / 3 % ((i : Int) % 7 + 3) then so else n / 16 % (s + 1)))] /\ O2 = O ++ [some (.lst (L.map od))]) (AR (AU (Ak (Ak (Aa 0) Ag (Cj ⟨wC,wC⟩)) (Ak (Ak (Aa 6) Ag (Bh wC)) Ag BR) (Bh wF)) Ag Fz) (λ hk => ?_) (λ hk => ?_)) ?_
   ·have hk := of_decide_eq_true hk
    rw [Int.zero_add] at hk
    refine Af (A5 7 (Ad.ev (Aa 4) ?_) EE.nd)
    exact Au ⟨by rw [if_pos hk]; rfl,rfl⟩
   ·have hk := of_decide_eq_false hk
    rw [Int.zero_add] at hk
    exact Au ⟨by rw [if_neg hk]; rfl,rfl⟩
   rintro _ _ ⟨rfl,rfl⟩
   have hw : Eu s sl so (i : Int) n = if (sl && decide (n % 4 = 0)) = true then none else some (if 1 < n / 3 % ((i : Int) % 7 + 3) then so else n / 16 % (s + 1)) := rfl
   generalize (if 1 < n / 3 % ((i : Int) % 7 + 3) then so else n / 16 % (s + 1)) = z at hw
   refine Fb (λ ρ' O2 => ρ' = [some (.int n),some (.int (m : Nat)),some (.int s),some (.bl sl),some (.int so),some (.ptr O.length),some (.int (0 + (i : Nat))),some (od (Eu s sl so (i : Int) n))] /\ O2 = O ++ [some (.lst (L.map od))]) (AR (BN.t (F9 (B7 (Aa 3)) (λ hbb => (F8 (AU (Ak (Aa 0) Ag (Bh wC)) Ag Bq))))) (λ hk => ?_) (λ hk => ?_)) ?_
   ·refine Af (A5 7 (Ad.ev D0 ?_) EE.nd)
    exact Au ⟨by rw [hw,if_pos hk]; rfl,rfl⟩
   ·exact Au ⟨by rw [hw,if_neg (by rw [hk]; exact Bool.false_ne_true)]; rfl,rfl⟩
   rintro _ _ ⟨rfl,rfl⟩
   refine Af (L3 (Aa 5) B6 (Aa 7) (by rw [sizeLine_eq,List.length_map]; omega) ?_)
   rw [C1]
   exact Au ⟨L ++ [Eu s sl so (i : Int) n],_,_,_,rfl,by rw [List.map_append]; rfl,by rw [List.length_append,hL]; rfl,hlo,by rw [hrun,List.append_assoc]; rfl⟩
  ·rintro ρ O' ⟨L,y,u,v,rfl,rfl,hL,hy,hrun⟩
   rw [EF,Int.toNat_natCast,Nat.sub_self] at hrun
   have e : DB s sl so m 0 x = L := by rw [hrun]; exact List.append_nil _
   rw [e] at hR
   have q0 : (O ++ [some (MO.lst (L.map od))])[O.length]? = some (some (.lst (L.map od))) := B6
   refine Af (AM (Ad.ev (CV (Ab (BW T.xk (Ab (Aa 5) Ae) (BS (by first | exact Or.inr rfl | exact Or.inl (Or.inl rfl) | exact Or.inl (Or.inr (Or.inl rfl)) | exact Or.inl (Or.inr (Or.inr ⟨_,rfl,by first | assumption | rfl⟩))))) (Ab (Aa 4) Ae))) ?_))
   exact ⟨⟨_,rfl⟩,Mo (L,so),hR⟩
theorem Um (Fn : Aw K "_law_turns" "_law_turns" JM f fd) (hm : mg "_law_turns" = some (.ref f)) (hb : Binds K fd ["_law_script","_law_start","_law_many_here","_law_scale_here","_law_sleeps"] []) (kf : Am P w K mg base 2 "_law_seed" (Ax Jk)) (zq : Am P w K mg base 2 "_law_turn" (Ax MD)) : Am P w K mg base 3 "_law_turns" (Ax MC) := by
 refine A7 (k := 2) Fn Gz hm hb (λ ds O R h => ?_) (λ cdv A outer s H E ds O R hr h => ?_)
 ·obtain ⟨_,⟨_,_,_,_,_,rfl,_⟩,_⟩ := h; rfl
 ·obtain ⟨d,⟨ns,st,m,s,sl,rfl,hl,hst,hm,hs,rfl⟩,hR⟩ := h
  refine IY ?_
  have hm8 : Bt [D.int 24,D.int 8] (if decide ((8 : Int) < (m : Nat)) then 1 else 0) = some (.int (DV m)) := by
   unfold DV
   by_cases h : 8 < m
   ·rw [if_pos h,decide_eq_true wF]; rfl
   ·rw [if_neg h,decide_eq_false wF]; rfl
  refine Af (A5 5 (Ad.ev (EJ (D1 (Ab Ag (Ab Ag Ae))) (by first | exact Or.inl rfl | exact Or.inr (Or.inl rfl) | exact Or.inr (Or.inr ⟨_,rfl,by first | assumption | rfl⟩)) (BW T.xr (Ab (Em (Aa 2) Ag Fz) Ae) Px) hm8) ?_) Gz.nd)
  have hst2 : 0 <= st /\ st <= 1000 := by omega
  refine Af (A5 6 (Ad.ev (EJ (D1 (Ab Ag (Ab Ag (Ab Ag (Ab Ag (Ab Ag (Ab Ag (Ab Ag (Ab Ag Ae))))))))) (by first | exact Or.inl rfl | exact Or.inr (Or.inl rfl) | exact Or.inr (Or.inr ⟨_,rfl,by first | assumption | rfl⟩)) (Ak (AC kf (hr.mono wE) (Ab (Aa 0) (Ab (Aa 1) Ae)) ⟨_,_,rfl,by first | assumption | omega,rfl⟩) Ag (Bh wC)) (WB (Cd (BX ns st) st))) ?_) Gz.nd)
  refine Af (A5 7 (Lf Ae ?_) Gz.nd)
  have he1 := Xf ns st m
  have he2 := Xg (ns := ns) (st := st) (m := m)
  have hE : D2 ns st m = (if st + DV m < (if st + C5 (Cd (BX ns st) st) > (((ns.map D.int).length : Nat) : Int) then st + C5 (Cd (BX ns st) st) else (((ns.map D.int).length : Nat) : Int)) then st + DV m else (if st + C5 (Cd (BX ns st) st) > (((ns.map D.int).length : Nat) : Int) then st + C5 (Cd (BX ns st) st) else (((ns.map D.int).length : Nat) : Int))) := by rw [List.length_map]; rfl
  unfold FJ at hR
  refine Af (C8 (xs := Eb st (D2 ns st m - st).toNat) (by rw [hE]; exact (Xj (Aa 1) (AW T.xz (Ab (AW T.ba (Ab (AW T.xj (Ab (Aa 0) Ae) (BY (by first | exact Or.inr rfl | exact Or.inl (Or.inl rfl) | exact Or.inl (Or.inr (Or.inl rfl)) | exact Or.inl (Or.inr (Or.inr ⟨_,rfl,by first | assumption | rfl⟩))))) (Ab (Ak (Aa 1) (Aa 6) BR) Ae)) XZ) (Ab (Ak (Aa 1) (Aa 5) BR) Ae)) XY) T.xp wF wF (by rw [<- hE]; omega) (by rw [<- hE]; omega))) (λ i ρ O' => ∃ v : Option D,ρ = [some (.scr (ns.map D.int)),some (.int st),some (.int (m : Nat)),some (.int s),some (.bl sl),some (.int (DV m)),some (.int (C5 (Cd (BX ns st) st))),some (.ptr O.length),v] /\ O' = O ++ [some (.lst (((List.range i).map λ j : Nat => FK m s sl (Cd (BX ns (st + (j : Int))) (st + (j : Int)))).map tD))]) ⟨_,rfl,rfl⟩ ?_ ?_)
  ·rintro i z ρ O' hz ⟨v,rfl,rfl⟩
   obtain ⟨hi,rfl⟩ := HI hz
   refine ⟨_,AE 8 Gz.nd,?_⟩
   have hlo := Jy (BX ns (st + (i : Int))) (st + (i : Int))
   refine Af (L3 (Aa 7) B6 (AC zq (hr.mono wE) (Ab (AC kf (hr.mono wE) (Ab (Aa 0) (Ab (Aa 8) Ae)) ⟨_,_,rfl,⟨by omega,by omega⟩,rfl⟩) (Ab (Aa 2) (Ab (Aa 3) (Ab (Aa 4) Ae)))) ⟨_,_,_,_,rfl,by assumption,by assumption,by assumption,rfl⟩) (by rw [sizeLine_eq,List.length_map,List.length_map,List.length_range]; omega) ?_)
   rw [C1]
   refine Au ⟨_,rfl,?_⟩
   rw [List.range_succ,List.map_append,List.map_append]
   rfl
  ·rintro ρ O' ⟨v,rfl,rfl⟩
   rw [EF]
   generalize (List.range (D2 ns st m - st).toNat).map (λ j : Nat => FK m s sl (Cd (BX ns (st + (j : Int))) (st + (j : Int)))) = L at hR
   have q0 : (O ++ [some (MO.lst (L.map tD))])[O.length]? = some (some (.lst (L.map tD))) := B6
   refine Af (AM (Ad.ev (BW T.xk (Ab (Aa 7) Ae) (BS (by first | exact Or.inr rfl | exact Or.inl (Or.inl rfl) | exact Or.inl (Or.inr (Or.inl rfl)) | exact Or.inl (Or.inr (Or.inr ⟨_,rfl,by first | assumption | rfl⟩))))) ?_))
   exact ⟨⟨_,rfl⟩,Oh Mo _,hR⟩
theorem Ut (Fn : Aw K "_law_many" "_law_many" JS f fd) (hm : mg "_law_many" = some (.ref f)) (hb : Binds K fd ["_law_x"] []) : Am P w K mg base 1 "_law_many" (HH HJ NE) := by
 refine A7 (k := 0) Fn RG hm hb (λ ds O R h => ?_) (λ cdv A outer s H E ds O R hr h => ?_)
 ·obtain ⟨⟨_,rfl⟩,_⟩ := h; rfl
 ·obtain ⟨⟨c,rfl⟩,hR⟩ := h
  have hnat : ∀ i : Int,0 <= i -> ∃ m : Nat,i = (m : Int) := λ i h => Int.eq_ofNat_of_zero_le h
  refine Af (AR (AU (Ak (Aa 0) Ag (Bh wC)) Ag Bq) (λ hk => ?_) (λ hk => Au ?_))
  ·obtain ⟨m,hm⟩ := hnat (24 - c / 8 % 17) wF
   exact Af (AM (Ad.ev (Ak Ag (Ak (Ak (Aa 0) Ag (Cj ⟨wC,wC⟩)) Ag (Bh wC)) Ed) (hR _ ⟨m,by rw [hm],by omega,by omega⟩)))
  ·obtain ⟨m,hm⟩ := hnat (1 + c / 8 % 7) wF
   exact Af (AM (Ad.ev (Ak Ag (Ak (Ak (Aa 0) Ag (Cj ⟨wC,wC⟩)) Ag (Bh wC)) BR) (hR _ ⟨m,by rw [hm],by omega,by omega⟩)))
theorem Uq (Fn : Aw K "_law_scale" "_law_scale" JP f fd) (hm : mg "_law_scale" = some (.ref f)) (hb : Binds K fd ["_law_x"] []) : Am P w K mg base 1 "_law_scale" (HH HJ ND) := by
 refine A7 (k := 0) Fn RE hm hb (λ ds O R h => ?_) (λ cdv A outer s H E ds O R hr h => ?_)
 ·obtain ⟨⟨_,rfl⟩,_⟩ := h; rfl
 ·obtain ⟨⟨c,rfl⟩,hR⟩ := h
  refine Af (AM (Ad.ev (EJ (D1 (Ab Ag (Ab (Ak Ag (Ak (Ak (Aa 0) Ag (Cj ⟨wC,wC⟩)) Ag (Bh wC)) BR) Ae))) (by first | exact Or.inl rfl | exact Or.inr (Or.inl rfl) | exact Or.inr (Or.inr ⟨_,rfl,by first | assumption | rfl⟩)) (Ak (Aa 0) Ag (Bh wC)) (QA wF)) (hR _ ⟨_,rfl,?_⟩)))
  split <;> omega
theorem Uw (Fn : Aw K "_law_hand" "_law_hand" JV f fd) (hm : mg "_law_hand" = some (.ref f)) (hb : Binds K fd ["_law_many_here","_law_scale_here","_law_x"] []) (ku : Cv P w K mg base CK1 5 "Hand" (Ez (λ C => C = CK1 \/ C = CK5 \/ C = CK3 \/ C = CK2 \/ C = CK4 \/ C = CK0))) (kx : Cv P w K mg base CK5 6 "Weigher" (Gx CK5 CK3)) (ky : Cv P w K mg base CK3 7 "Shifter" (Jp CK3)) (kv : Cv P w K mg base CK2 6 "Rounder" (Jq CK2)) (kz : Cv P w K mg base CK0 6 "Follower" (Gy CK0)) : Am P w K mg base 13 "_law_hand" (Js ⟨CK1,CK5,CK3,CK2,CK4,CK0⟩) := by
 refine A7 (k := 12) Fn Hs hm hb (λ ds O R h => ?_) (λ cdv A outer s H E ds O R hr h => ?_)
 ·obtain ⟨_,_,_,rfl,_⟩ := h; rfl
 ·obtain ⟨m,s,x,rfl,hm,hs,hR⟩ := h
  have hmI : (1 : Int) <= (m : Nat) /\ ((m : Nat) : Int) <= 24 := ⟨by omega,by omega⟩
  refine Af (A5 3 (Ad.ev (Ak Ag (Ak (Ak (Aa 2) Ag (Cj ⟨wC,wC⟩)) Ag (Bh wC)) BR) ?_) Hs.nd)
  have hb : 2 <= 2 + x / 8 % 9 /\ 2 + x / 8 % 9 <= 10 := by omega
  generalize 2 + x / 8 % 9 = b at hb
  refine Af (A5 4 (Ad.ev (Ak (Ak (Aa 2) Ag (Cj ⟨wC,wC⟩)) (Aa 3) (Bh wF)) ?_) Hs.nd)
  have ht0 := Int.emod_nonneg (x / 80) (show b ≠ 0 by omega)
  have ht1 := Int.emod_lt_of_pos (x / 80) (show 0 < b by omega)
  generalize x / 80 % b = t at ht0 ht1
  refine Af (A5 5 (Ad.ev (Ak (Aa 2) Ag (Bh wC)) ?_) Hs.nd)
  have hf : FG s t b := ⟨hs.1,hs.2,ht0,ht1,by omega⟩
  have hV : ∀ (sf : Bool) (sh : Int),1 <= sh /\ sh <= 5 -> Du sf ⟨(m : Nat),s,t,b,sh,7⟩ := λ sf sh h => ⟨hf,hmI.1,hmI.2,λ _ => ⟨h.1,by show sh < 7; omega,by show (7 : Int) <= 100; decide⟩⟩
  by_cases h0 : x % 5 = 0
  ·refine Af (AR (AY.cast (k' := true) (AU (Aa 5) Ag Bq) (decide_eq_true h0)) (λ _ => ?_) (λ hk => by cases hk))
   refine Af (AM (Db kx (hr.mono wE) (Ab (Aa 0) (Ab (Aa 1) (Ab (Aa 4) (Ab (Aa 3) Ae)))) ⟨O.length,false,⟨(m : Nat),s,t,b,1,7⟩,rfl,B6,hV false 1 wE,rfl,?_⟩))
   rw [C1]
   exact hR (.v false ⟨(m : Nat),s,t,b,1,7⟩ (List.replicate m 1) 1) ⟨hV false 1 wE,rfl,rfl,Ja m,List.length_replicate⟩
  refine Af (AR (AY.cast (k' := false) (AU (Aa 5) Ag Bq) (decide_eq_false h0)) (λ hk => by cases hk) (λ _ => Au ?_))
  by_cases h1 : x % 5 = 1
  ·refine Af (AR (AY.cast (k' := true) (AU (Aa 5) Ag Bq) (decide_eq_true h1)) (λ _ => ?_) (λ hk => by cases hk))
   have hps : FC (m : Nat) ((List.range m).map λ k : Nat => x / (0 + (k : Int) + 3) % 4) := ⟨by rw [List.length_map,List.length_range],λ p hp => by
    obtain ⟨k,_,rfl⟩ := List.mem_map.mp hp
    have : (4 : Int) <= 10 ^ (60 : Int).toNat - 1 := by decide +kernel
    omega⟩
   refine Af (AM (Db kz (hr.mono wE) (Ab (Aa 0) (Ab (Aa 1) (Ab (Ad.cast (BW T.xk (Ab (BL (λ k : Nat => .int (x / (0 + (k : Int) + 3) % 4)) ["_law_k"] ["_law_x"] [2] (Ge (Aa 0) T.xp wC wC) (by rw [sizeLine_eq,List.length_range,Int.toNat_natCast]; omega) (by exact λ q hq s H fp => ⟨[some _],rfl,(AE 0 (show List.Nodup (["_law_k","_law_x"] : List Str) by decide +kernel)),⟨_,rfl,(Ak (Ak (Aa 1) (Ak (Aa 0) Ag BR) (Cj ⟨by have := List.mem_range.mp hq; omega,by have := List.mem_range.mp hq; omega⟩)) Ag (Bh wC))⟩⟩)) Ae) (BS (by first | exact Or.inr rfl | exact Or.inl (Or.inl rfl) | exact Or.inl (Or.inr (Or.inl rfl)) | exact Or.inl (Or.inr (Or.inr ⟨_,rfl,by first | assumption | rfl⟩))))) (show D.tup _ = KL (some ((List.range m).map λ k : Nat => x / (0 + (k : Int) + 3) % 4)) by rw [Int.toNat_natCast]; show _ = D.tup _; rw [List.map_map]; rfl)) Ae))) ⟨O.length,(m : Nat),s,some _,rfl,B6,hmI,hs,hps,rfl,?_⟩))
   rw [C1]
   exact hR (.f _ _) ⟨hps,by show ((List.range m).map _).length = m; rw [List.length_map,List.length_range]⟩
  refine Af (AR (AY.cast (k' := false) (AU (Aa 5) Ag Bq) (decide_eq_false h1)) (λ hk => by cases hk) (λ _ => Au ?_))
  by_cases h2 : x % 5 = 2
  ·refine Af (AR (AY.cast (k' := true) (AU (Aa 5) Ag Bq) (decide_eq_true h2)) (λ _ => ?_) (λ hk => by cases hk))
   refine Af (AM (Db kv (hr.mono wE) (Ab (Aa 0) (Ab (Aa 1) Ae)) ⟨O.length,(m : Nat),s,rfl,B6,hmI,hs,rfl,?_⟩))
   rw [C1]
   exact hR (.r (List.replicate m true) 0) List.length_replicate
  refine Af (AR (AY.cast (k' := false) (AU (Aa 5) Ag Bq) (decide_eq_false h2)) (λ hk => by cases hk) (λ _ => Au ?_))
  by_cases h3 : x % 5 = 3
  ·refine Af (AR (AY.cast (k' := true) (AU (Aa 5) Ag Bq) (decide_eq_true h3)) (λ _ => ?_) (λ hk => by cases hk))
   have hsh : 1 <= 1 + x / 1000 % 5 /\ 1 + x / 1000 % 5 <= 5 := by omega
   refine Af (AM (Db ky (hr.mono wE) (Ab (Aa 0) (Ab (Aa 1) (Ab (Aa 4) (Ab (Aa 3) (Ab (Ak Ag (Ak (Ak (Aa 2) Ag (Cj ⟨wC,wC⟩)) Ag (Bh wC)) BR) (Ab Ag Ae)))))) ⟨O.length,⟨(m : Nat),s,t,b,1 + x / 1000 % 5,7⟩,rfl,B6,(hV true _ hsh).so,rfl,?_⟩))
   rw [C1]
   exact hR (.v true ⟨(m : Nat),s,t,b,1 + x / 1000 % 5,7⟩ (List.replicate m 1) 1) ⟨hV true _ hsh,rfl,rfl,Ja m,List.length_replicate⟩
  refine Af (AR (AY.cast (k' := false) (AU (Aa 5) Ag Bq) (decide_eq_false h3)) (λ hk => by cases hk) (λ _ => Au ?_))
  refine Af (AM (Db ku (hr.mono wE) (Ab (Aa 0) (Ab (Aa 1) Ae)) ⟨O.length,(m : Nat),s,CK1,rfl,.inl rfl,B6,hmI,hs,rfl,?_⟩))
  rw [C1]
  exact hR .h trivial
theorem Uv (Fn : Aw K "_law_hands" "_law_hands" JU f fd) (hm : mg "_law_hands" = some (.ref f)) (hb : Binds K fd ["_law_many_here","_law_scale_here","_law_x"] []) (jx : Am P w K mg base 1 "_law_next" (Ax Gv)) (ki : Am P w K mg base 13 "_law_hand" (Js ⟨CK1,CK5,CK3,CK2,CK4,CK0⟩)) : Am P w K mg base 14 "_law_hands" (MX ⟨CK1,CK5,CK3,CK2,CK4,CK0⟩) := by
 refine A7 (k := 13) Fn FS hm hb (λ ds O R h => ?_) (λ cdv A outer s H E ds O R hr h => ?_)
 ·obtain ⟨_,_,_,rfl,_⟩ := h; rfl
 ·obtain ⟨m,s,x,rfl,hx,hm,hs,hR⟩ := h
  obtain ⟨n0,hn0,hn1,hn2⟩ := Rv x
  obtain ⟨n9,hn9,hn3,hn4⟩ := Rw (x / 32)
  refine Af (A5 3 (Lf Ae ?_) FS.nd)
  refine Af (A5 4 (Ad.ev (EJ (D1 (Ab Ag (Ab Ag (Ab Ag (Ab Ag Ae))))) (by first | exact Or.inl rfl | exact Or.inr (Or.inl rfl) | exact Or.inr (Or.inr ⟨_,rfl,by first | assumption | rfl⟩)) (Ak (Aa 2) Ag (Bh wC)) hn0) ?_) FS.nd)
  refine Fb (λ ρ O' => O' = O ++ [some (MO.lst [])] /\ ∃ n : Nat,(1 <= n /\ n <= 24) /\ ρ = [some (.int (m : Nat)),some (.int s),some (.int x),some (.ptr O.length),some (.int (n : Nat)),none]) ?_ ?_
  ·by_cases hk : x / 4 % 8 = 3
   ·refine AR (AY.cast (k' := true) (AU (Ak (Ak (Aa 2) Ag (Cj ⟨wC,wC⟩)) Ag (Bh wC)) Ag Bq) (decide_eq_true hk)) (λ _ => ?_) (λ hk => by cases hk)
    refine Af (A5 4 (Ad.ev (EJ (D1 (Ab Ag (Ab Ag Ae))) (by first | exact Or.inl rfl | exact Or.inr (Or.inl rfl) | exact Or.inr (Or.inr ⟨_,rfl,by first | assumption | rfl⟩)) (Ak (Ak (Aa 2) Ag (Cj ⟨wC,wC⟩)) Ag (Bh wC)) hn9) ?_) FS.nd)
    exact Au ⟨rfl,n9,⟨hn3,hn4⟩,rfl⟩
   ·exact AR (AY.cast (k' := false) (AU (Ak (Ak (Aa 2) Ag (Cj ⟨wC,wC⟩)) Ag (Bh wC)) Ag Bq) (decide_eq_false hk)) (λ hk => by cases hk) (λ _ => Au ⟨rfl,n0,⟨hn1,by omega⟩,rfl⟩)
  clear hn0 hn1 hn2 hn9 hn3 hn4
  rintro ρ O1 ⟨rfl,n,⟨hn1,hn2⟩,rfl⟩
  refine Af (C8 (Ge (Aa 4) T.xp wF wF) (λ i ρ O' => ∃ (pv : List (Nat × Hv)) (y : Int) (v4 : Option D),ρ = [some (.int (m : Nat)),some (.int s),some (.int y),some (.ptr O.length),some (.int (n : Nat)),v4] /\ (∃ Y,O' = O ++ some (MO.lst (pv.map λ z => D.ptr z.1)) :: Y) /\ EQ ⟨CK1,CK5,CK3,CK2,CK4,CK0⟩ O' m s pv /\ Gk O.length pv /\ pv.length = i /\ Lo y) ⟨[],x,_,rfl,⟨[],rfl⟩,(λ z hz => absurd hz List.not_mem_nil),⟨List.Pairwise.nil,λ z hz => absurd hz List.not_mem_nil⟩,rfl,hx⟩ ?_ ?_)
  ·rintro i z ρ O' hz ⟨pv,y,v4,rfl,⟨Y,rfl⟩,hP,hU,hpl,hy⟩
   obtain ⟨hi,rfl⟩ := HI hz
   have hi : i < n := by omega
   refine ⟨_,AE 5 FS.nd,?_⟩
   have hy' : 0 <= y + (0 + ((i : Nat) : Int)) /\ y + (0 + ((i : Nat) : Int)) < 3000000000 := by have := hy.1; have := hy.2; omega
   refine Af (A5 2 (Ad.ev (AC jx (hr.mono wE) (Ab (Ak (Aa 2) (Aa 5) BR) Ae) ⟨_,rfl,hy',rfl⟩) ?_) FS.nd)
   have hlo := FZ (y + (0 + ((i : Nat) : Int)))
   generalize CD (y + (0 + ((i : Nat) : Int))) = w at hlo
   refine Af (Qo (Aa 3) (Ce ki (hr.mono wE) (Ab (Aa 0) (Ab (Aa 1) (Ab (Aa 2) Ae))) ⟨m,s,w,rfl,hm,hs,λ v hv => ⟨IE B6,?_⟩⟩) B6 (by rw [sizeLine_eq,List.length_map]; omega))
   have hq : ∀ (l : List D) (q : Nat),q ≠ O.length -> ((O ++ some (MO.lst (pv.map λ z => D.ptr z.1)) :: Y ++ [some (Cs.o ⟨CK1,CK5,CK3,CK2,CK4,CK0⟩ (m : Nat) s v)]).set O.length (some (MO.lst l)))[q]? = (O ++ some (MO.lst (pv.map λ z => D.ptr z.1)) :: Y ++ [some (Cs.o ⟨CK1,CK5,CK3,CK2,CK4,CK0⟩ (m : Nat) s v)])[q]? := λ l q h => List.getElem?_set_ne (Ne.symm h)
   have hLq : (O ++ some (MO.lst (pv.map λ z => D.ptr z.1)) :: Y)[O.length]? = some (some (MO.lst (pv.map λ z => D.ptr z.1))) := B6
   refine Au ⟨pv ++ [((O ++ some (MO.lst (pv.map λ z => D.ptr z.1)) :: Y).length,v)],w,_,rfl,⟨Y ++ [some (Cs.o ⟨CK1,CK5,CK3,CK2,CK4,CK0⟩ (m : Nat) s v)],?_⟩,λ z hz => ?_,hU.app (λ z hz => (List.getElem?_eq_some_iff.mp (hP z hz).1).1) (by rw [List.length_append]; show _ < _ + (_ + 1); omega),by rw [List.length_append,hpl]; rfl,hlo⟩
   ·rw [List.append_assoc,List.cons_append,C1,List.map_append]; rfl
   ·rcases List.mem_append.mp hz with h | h
    ·have hz1 := hP z h
     have hne : z.1 ≠ O.length := λ e => by
      rw [e,hLq] at hz1
      have := Option.some.inj (Option.some.inj hz1.1)
      revert this
      cases z.2 <;> intro h <;> cases h
     rw [hq _ _ hne]
     exact ⟨IE hz1.1,hz1.2⟩
    ·rw [List.mem_singleton.mp h]
     rw [hq _ _ (by rw [List.length_append]; show O.length + (_ + 1) ≠ _; omega)]
     exact ⟨B6,hv⟩
  ·rintro ρ O' ⟨pv,y,v4,rfl,⟨Y,rfl⟩,hP,hU,hpl,hy⟩
   rw [EF,Int.toNat_natCast] at hpl
   have q0 : (O ++ some (MO.lst (pv.map λ z => D.ptr z.1)) :: Y)[O.length]? = some (some (MO.lst (pv.map λ z => D.ptr z.1))) := B6
   refine Af (AM (Ad.ev (BW T.xk (Ab (Aa 3) Ae) (BS (by first | exact Or.inr rfl | exact Or.inl (Or.inl rfl) | exact Or.inl (Or.inr (Or.inl rfl)) | exact Or.inl (Or.inr (Or.inr ⟨_,rfl,by first | assumption | rfl⟩))))) ?_))
   exact hR _ pv ⟨_,rfl⟩ hP hU ⟨by omega,by omega⟩
theorem Ul (Fn : Aw K "_law_two" "_law_two" JL f fd) (hm : mg "_law_two" = some (.ref f)) (hb : Binds K fd ["_law_many_here","_law_scale_here","_law_x","_law_y"] []) (jx : Am P w K mg base 1 "_law_next" (Ax Gv)) (ki : Am P w K mg base 13 "_law_hand" (Js ⟨CK1,CK5,CK3,CK2,CK4,CK0⟩)) (gg : Am P w K mg base 14 "_law_hands" (MX ⟨CK1,CK5,CK3,CK2,CK4,CK0⟩)) (kh : Cv P w K mg base CK4 26 "Tier" (DR ⟨CK1,CK5,CK3,CK2,CK4,CK0⟩ 2)) : Am P w K mg base 28 "_law_two" (MB ⟨CK1,CK5,CK3,CK2,CK4,CK0⟩) := by
 refine A7 (k := 27) Fn D7 hm hb (λ ds O R h => ?_) (λ cdv A outer s H E ds O R hr h => ?_)
 ·obtain ⟨_,_,_,_,rfl,_⟩ := h; rfl
 ·obtain ⟨m,s,x,y,rfl,hx,hy,hm,hs,hR⟩ := h
  have h3x : 0 <= x /\ x < 3000000000 := by have := hx.1; have := hx.2; omega
  have h3y : 0 <= y /\ y < 3000000000 := by have := hy.1; have := hy.2; omega
  refine Af (CN (Ce gg (hr.mono wE) (Ab (Aa 0) (Ab (Aa 1) (Ab (Aa 2) Ae))) ⟨m,s,x,rfl,hx,hm,hs,λ O1 pv1 u1 hP1 hU1 hl1 => ⟨_,AE 4 D7.nd,?_⟩⟩))
  have t1 := SS u1 hP1 hU1 hl1
  rw [ST m]
  generalize FV m pv1 = B1 at t1
  clear hP1 hU1 hl1 u1
  refine Fb (λ ρ O' => ∃ (B bs : List Bk) (v5 : Option D),ρ = [some (.int (m : Nat)),some (.int s),some (.int x),some (.int y),some (.tup (bs.map Ds)),v5,none,none] /\ C0 ⟨CK1,CK5,CK3,CK2,CK4,CK0⟩ O O' s m B bs) ?_ ?_
  ·by_cases hk : y % 3 = 0
   ·refine AR (AY.cast (k' := true) (AU (Ak (Aa 3) Ag (Bh wC)) Ag Bq) (decide_eq_true hk)) (λ _ => ?_) (λ hk => by cases hk)
    refine Af (CN (Ce gg (hr.mono wE) (Ab (Aa 0) (Ab (Aa 1) (Ab (AC jx (hr.mono wE) (Ab (Aa 2) Ae) ⟨_,rfl,h3x,rfl⟩) Ae))) ⟨m,s,CD x,rfl,FZ x,hm,hs,λ O2 pv2 u2 hP2 hU2 hl2 => ⟨_,AE 5 D7.nd,?_⟩⟩))
    have t2 : C0 ⟨CK1,CK5,CK3,CK2,CK4,CK0⟩ O O2 s m B1 B1 := by
     obtain ⟨Y,rfl⟩ := u2
     exact t1.app
    refine Af (CN (WV (Ga (Aa 4) (Gc Ag) Gd) (WF (CJ (OY kh (hr.mono wE) (CJ (Ad.ev (Aa 5) (CJ (Ce ki (hr.mono wE) (Ab (AW T.xj (Ab (Aa 5) Ae) (BY (by first | exact Or.inr rfl | exact Or.inl (Or.inl rfl) | exact Or.inl (Or.inr (Or.inl rfl)) | exact Or.inl (Or.inr (Or.inr ⟨_,rfl,by first | assumption | rfl⟩))))) (Ab (Aa 1) (Ab (AC jx (hr.mono wE) (Ab (Aa 3) Ae) ⟨_,rfl,h3y,rfl⟩) Ae))) ⟨pv2.length,s,CD y,by rw [List.length_map],hl2,hs,λ v hv => Bx.as Ae ?_⟩)))))))))
    have hl3 : (O2 ++ [some (Cs.o ⟨CK1,CK5,CK3,CK2,CK4,CK0⟩ (pv2.length : Nat) s v)]).length = O2.length + 1 := by rw [List.length_append]; rfl
    have t3 := t2.app (Y := [some (Cs.o ⟨CK1,CK5,CK3,CK2,CK4,CK0⟩ (pv2.length : Nat) s v)])
    have hP3 := hP2.app (Y := [some (Cs.o ⟨CK1,CK5,CK3,CK2,CK4,CK0⟩ (pv2.length : Nat) s v)])
    have hv3 : (O2 ++ [some (Cs.o ⟨CK1,CK5,CK3,CK2,CK4,CK0⟩ (pv2.length : Nat) s v)])[O2.length]? = some (some (Cs.o ⟨CK1,CK5,CK3,CK2,CK4,CK0⟩ (pv2.length : Nat) s v)) := B6
    generalize O2 ++ [some (Cs.o ⟨CK1,CK5,CK3,CK2,CK4,CK0⟩ (pv2.length : Nat) s v)] = O3 at hl3 t3 hP3 hv3 ⊢
    refine ⟨O3.length,m,s,pv2.map λ z => (z.1,.p z.2),O2.length,.p v,O3,by rw [List.map_map]; rfl,rfl,rfl,NK hP3,λ z hz => ?_,hm,hs,by rw [List.length_map]; exact hl2,rfl,Bx.as Ae ⟨Nat.le_of_ble_eq_true rfl,_,Og ?_,_,AE 4 D7.nd,?_⟩⟩
    ·rw [List.mem_singleton.mp hz,List.length_map]; exact ⟨Ap.pi hv3,⟨0,by simpa only [AI] using hv⟩,by simp only [AO]; decide⟩
    ·have := Gg B1 (some 1) none
     have := t1.l
     rw [sizeLine_eq,List.length_map]
     show (CL B1 (some 1) none).length + 1 <= _
     omega
    ·have hn := Ol hP2 hl2 hv
     have t4 := t3.more hn.1 hn.2
     have e : DD ⟨CK1,CK5,CK3,CK2,CK4,CK0⟩ ((pv2.map λ z => (z.1,Hn.p z.2)).map (·.2)) (.p v) O3.length m s = Bb ⟨CK1,CK5,CK3,CK2,CK4,CK0⟩ (AJ (.t (pv2.map λ z => .p z.2) (.p v) []) m) O3.length m s := by
      rw [List.map_map]; rfl
     rw [e]
     refine Au ⟨_,CL B1 (some 1) none ++ [⟨O3.length,m,AH (AJ (.t (pv2.map λ z => .p z.2) (.p v) []) m),AJ (AJ (.t (pv2.map λ z => .p z.2) (.p v) []) m) m⟩],some (.tup (pv2.map λ z => .ptr z.1)),?_,⟨t4.up,t4.b,λ b hb => ?_,?_,t4.f⟩⟩
     ·rw [List.map_append]; rfl
     ·rcases List.mem_append.mp hb with hb | hb
      ·exact t4.i b (Gf hb)
      ·exact ⟨List.mem_append_right _ hb,by rw [List.mem_singleton.mp hb]⟩
     ·have := t1.l
      rw [List.length_append,show CL B1 (some 1) none = B1.drop 1 from Xv B1 1,List.length_drop,List.length_singleton]; omega
   ·exact AR (AY.cast (k' := false) (AU (Ak (Aa 3) Ag (Bh wC)) Ag Bq) (decide_eq_false hk)) (λ hk => by cases hk) (λ _ => Au ⟨_,_,_,rfl,t1⟩)
  clear t1
  rintro ρ O1 ⟨B,bs,v5,rfl,t1⟩
  refine Fb (λ ρ O' => ∃ (bs : List Bk),ρ = [some (.int (m : Nat)),some (.int s),some (.int x),some (.int y),some (.tup (bs.map Ds)),v5,none,none] /\ C0 ⟨CK1,CK5,CK3,CK2,CK4,CK0⟩ O O' s m B bs) ?_ ?_
  ·by_cases hk : y / 27 % 4 = 1 /\ bs.length < 24
   ·refine AR (AY.cast (k' := true) (BN.t (F9 (AU (Ak (Ak (Aa 3) Ag (Cj ⟨wC,wC⟩)) Ag (Bh wC)) Ag Bq) (λ hbb => (F8 (AU (AW T.xj (Ab (Aa 4) Ae) (BY (by first | exact Or.inr rfl | exact Or.inl (Or.inl rfl) | exact Or.inl (Or.inr (Or.inl rfl)) | exact Or.inl (Or.inr (Or.inr ⟨_,rfl,by first | assumption | rfl⟩))))) Ag Lj))))) (by rw [decide_eq_true hk.1,List.length_map,decide_eq_true (by omega : ((bs.length : Nat) : Int) < 24)]; rfl)) (λ _ => ?_) (λ hk => by cases hk)
    have hl2 := Gg bs none (some 1)
    refine Af (A5 4 (Ad.ev (Ak (Aa 4) (Ga (Aa 4) Gd (Gc Ag)) (Og (by rw [sizeLine_eq,List.length_map,List.length_map]; omega))) ?_) D7.nd)
    refine Au ⟨bs ++ CL bs none (some 1),?_,t1.up,t1.b,λ b hb => ?_,?_,t1.f⟩
    ·rw [List.map_append]; rfl
    ·rcases List.mem_append.mp hb with hb | hb
     ·exact t1.i b hb
     ·exact t1.i b (Gf hb)
    ·have := t1.l
     rw [List.length_append,show CL bs none (some 1) = bs.take 1 from Xu bs 1,List.length_take]; omega
   ·refine AR (AY.cast (k' := false) (BN.t (F9 (AU (Ak (Ak (Aa 3) Ag (Cj ⟨wC,wC⟩)) Ag (Bh wC)) Ag Bq) (λ hbb => (F8 (AU (AW T.xj (Ab (Aa 4) Ae) (BY (by first | exact Or.inr rfl | exact Or.inl (Or.inl rfl) | exact Or.inl (Or.inr (Or.inl rfl)) | exact Or.inl (Or.inr (Or.inr ⟨_,rfl,by first | assumption | rfl⟩))))) Ag Lj))))) ?_) (λ hk => by cases hk) (λ _ => Au ⟨_,rfl,t1⟩)
    rw [List.length_map]
    by_cases h1 : y / 27 % 4 = 1
    ·rw [decide_eq_true h1,decide_eq_false (show ¬ ((bs.length : Nat) : Int) < 24 by omega)]; rfl
    ·rw [decide_eq_false h1]; rfl
  clear t1
  rintro ρ O1 ⟨bs,rfl,t1⟩
  have hbl := t1.l
  refine Af (CN (Ce ki (hr.mono wE) (Ab (AW T.xj (Ab (Aa 4) Ae) (BY (by first | exact Or.inr rfl | exact Or.inl (Or.inl rfl) | exact Or.inl (Or.inr (Or.inl rfl)) | exact Or.inl (Or.inr (Or.inr ⟨_,rfl,by first | assumption | rfl⟩))))) (Ab (Aa 1) (Ab (Aa 3) Ae))) ⟨bs.length,s,y,by rw [List.length_map],hbl,hs,λ v hv => ⟨_,AE 6 D7.nd,?_⟩⟩))
  have t2 := t1.more (r := bs.length) (x := .p v) (by simpa only [AI] using hv) (by simp only [AO]; decide)
  have e1 : Bb ⟨CK1,CK5,CK3,CK2,CK4,CK0⟩ (.p v) O1.length bs.length s = [some (Cs.o ⟨CK1,CK5,CK3,CK2,CK4,CK0⟩ (bs.length : Nat) s v)] := by simp only [Bb]
  rw [e1] at t2
  have hin : EX (B ++ [⟨O1.length,bs.length,AH (.p v),AJ (.p v) bs.length⟩]) bs.length [⟨O1.length,bs.length,AH (.p v),AJ (.p v) bs.length⟩] := λ b hb => ⟨List.mem_append_right _ hb,by rw [List.mem_singleton.mp hb]⟩
  obtain ⟨h0,hh0,hq0⟩ : ∃ h0 : Bk,h0 = ⟨O1.length,bs.length,AH (.p v),AJ (.p v) bs.length⟩ /\ h0.q = O1.length := ⟨_,rfl,rfl⟩
  rw [<- hh0] at t2 hin
  rw [<- hq0]
  generalize O1 ++ [some (Cs.o ⟨CK1,CK5,CK3,CK2,CK4,CK0⟩ (bs.length : Nat) s v)] = O2 at t2 ⊢
  generalize B ++ [h0] = B2 at t2 hin
  clear e1 hv hh0 hq0 t1
  refine Fb (λ ρ O' => ∃ (B : List Bk) (hb : Bk) (v7 : Option D),ρ = [some (.int (m : Nat)),some (.int s),some (.int x),some (.int y),some (.tup (bs.map Ds)),v5,some (.ptr hb.q),v7] /\ C0 ⟨CK1,CK5,CK3,CK2,CK4,CK0⟩ O O' s m B bs /\ EX B bs.length [hb]) ?_ ?_
  ·by_cases hk : bs.length = m /\ y / 108 % 2 = 1
   ·refine AR (AY.cast (k' := true) (BN.t (F9 (AU (AW T.xj (Ab (Aa 4) Ae) (BY (by first | exact Or.inr rfl | exact Or.inl (Or.inl rfl) | exact Or.inl (Or.inr (Or.inl rfl)) | exact Or.inl (Or.inr (Or.inr ⟨_,rfl,by first | assumption | rfl⟩))))) (Aa 0) Bq) (λ hbb => (F8 (AU (Ak (Ak (Aa 3) Ag (Cj ⟨wC,wC⟩)) Ag (Bh wC)) Ag Bq))))) (by rw [decide_eq_true hk.2,List.length_map,decide_eq_true (by rw [hk.1])]; rfl)) (λ _ => ?_) (λ hk => by cases hk)
    obtain ⟨b0,hb0⟩ : ∃ b,bs[0]? = some b := ⟨_,List.getElem?_eq_getElem wF⟩
    have hat : Bt (bs.map Ds) 0 = some (.ptr b0.q) := Er (j := 0) (by rw [List.getElem?_map,hb0]; rfl)
    refine Af (A5 6 (Ad.ev (CZ (Aa 4) Ag (hat)) ?_) D7.nd)
    refine Au ⟨B2,b0,_,rfl,t2,λ b hb => ?_⟩
    rw [List.mem_singleton.mp hb,hk.1]
    exact t2.i b0 (List.mem_of_getElem? hb0)
   ·refine AR (AY.cast (k' := false) (BN.t (F9 (AU (AW T.xj (Ab (Aa 4) Ae) (BY (by first | exact Or.inr rfl | exact Or.inl (Or.inl rfl) | exact Or.inl (Or.inr (Or.inl rfl)) | exact Or.inl (Or.inr (Or.inr ⟨_,rfl,by first | assumption | rfl⟩))))) (Aa 0) Bq) (λ hbb => (F8 (AU (Ak (Ak (Aa 3) Ag (Cj ⟨wC,wC⟩)) Ag (Bh wC)) Ag Bq))))) ?_) (λ hk => by cases hk) (λ _ => ?_)
    ·rw [List.length_map]
     by_cases h1 : ((bs.length : Nat) : Int) = (m : Nat)
     ·rw [decide_eq_true h1,decide_eq_false (show ¬ y / 108 % 2 = 1 from λ h => hk ⟨by omega,h⟩)]; rfl
     ·rw [decide_eq_false h1]; rfl
    by_cases hk : y % 9 = 1
    ·refine Af (AR (AY.cast (k' := true) (AU (Ak (Aa 3) Ag (Bh wC)) Ag Bq) (decide_eq_true hk)) (λ _ => ?_) (λ hk => by cases hk))
     refine Af (CN (Ce gg (hr.mono wE) (Ab (AW T.xj (Ab (Aa 4) Ae) (BY (by first | exact Or.inr rfl | exact Or.inl (Or.inl rfl) | exact Or.inl (Or.inr (Or.inl rfl)) | exact Or.inl (Or.inr (Or.inr ⟨_,rfl,by first | assumption | rfl⟩))))) (Ab (Aa 1) (Ab (AC jx (hr.mono wE) (Ab (Aa 3) Ae) ⟨_,rfl,h3y,rfl⟩) Ae))) ⟨bs.length,s,CD y,by rw [List.length_map],FZ y,hbl,hs,λ O4 pv2 u2 hP2 hU2 hl2 => ⟨_,AE 7 D7.nd,?_⟩⟩))
     obtain ⟨O5,hO5⟩ : ∃ O5,O5 = O2 := ⟨_,rfl⟩
     have t2 : C0 ⟨CK1,CK5,CK3,CK2,CK4,CK0⟩ O O4 s m B2 bs := by
      obtain ⟨Y,rfl⟩ := u2
      exact t2.app
     clear u2 hO5 O5
     revert t2 hP2 hU2
     generalize O4 = O2
     intro hP2 hU2 t2
     refine Af (CN (OY kh (hr.mono wE) (CJ (Ad.ev (Aa 7) (CJ (Ce ki (hr.mono wE) (Ab (AW T.xj (Ab (Aa 7) Ae) (BY (by first | exact Or.inr rfl | exact Or.inl (Or.inl rfl) | exact Or.inl (Or.inr (Or.inl rfl)) | exact Or.inl (Or.inr (Or.inr ⟨_,rfl,by first | assumption | rfl⟩))))) (Ab (Aa 1) (Ab (AC jx (hr.mono wE) (Ab (Aa 2) Ae) ⟨_,rfl,h3x,rfl⟩) Ae))) ⟨pv2.length,s,CD x,by rw [List.length_map],hl2,hs,λ v hv => Bx.as Ae ?_⟩))))))
     have hl3 : (O2 ++ [some (Cs.o ⟨CK1,CK5,CK3,CK2,CK4,CK0⟩ (pv2.length : Nat) s v)]).length = O2.length + 1 := by rw [List.length_append]; rfl
     have t3 := t2.app (Y := [some (Cs.o ⟨CK1,CK5,CK3,CK2,CK4,CK0⟩ (pv2.length : Nat) s v)])
     have hP3 := hP2.app (Y := [some (Cs.o ⟨CK1,CK5,CK3,CK2,CK4,CK0⟩ (pv2.length : Nat) s v)])
     have hv3 : (O2 ++ [some (Cs.o ⟨CK1,CK5,CK3,CK2,CK4,CK0⟩ (pv2.length : Nat) s v)])[O2.length]? = some (some (Cs.o ⟨CK1,CK5,CK3,CK2,CK4,CK0⟩ (pv2.length : Nat) s v)) := B6
     generalize O2 ++ [some (Cs.o ⟨CK1,CK5,CK3,CK2,CK4,CK0⟩ (pv2.length : Nat) s v)] = O3 at hl3 t3 hP3 hv3 ⊢
     refine ⟨O3.length,bs.length,s,pv2.map λ z => (z.1,.p z.2),O2.length,.p v,O3,by rw [List.map_map]; rfl,rfl,rfl,NK hP3,λ z hz => ?_,hbl,hs,by rw [List.length_map]; exact hl2,rfl,_,AE 6 D7.nd,?_⟩
     ·rw [List.mem_singleton.mp hz,List.length_map]; exact ⟨Ap.pi hv3,⟨0,by simpa only [AI] using hv⟩,by simp only [AO]; decide⟩
     ·have hn := Ol hP2 hl2 hv
      have t4 := t3.more hn.1 hn.2
      have e : DD ⟨CK1,CK5,CK3,CK2,CK4,CK0⟩ ((pv2.map λ z => (z.1,Hn.p z.2)).map (·.2)) (.p v) O3.length bs.length s = Bb ⟨CK1,CK5,CK3,CK2,CK4,CK0⟩ (AJ (.t (pv2.map λ z => .p z.2) (.p v) []) bs.length) O3.length bs.length s := by
       rw [List.map_map]; rfl
      rw [e]
      exact Au (Au ⟨_,⟨O3.length,bs.length,AH (AJ (.t (pv2.map λ z => .p z.2) (.p v) []) bs.length),AJ (AJ (.t (pv2.map λ z => .p z.2) (.p v) []) bs.length) bs.length⟩,_,rfl,t4,λ b hb => ⟨List.mem_append_right _ hb,by rw [List.mem_singleton.mp hb]⟩⟩)
    ·exact Af (AR (AY.cast (k' := false) (AU (Ak (Aa 3) Ag (Bh wC)) Ag Bq) (decide_eq_false hk)) (λ hk => by cases hk) (λ _ => Au (Au ⟨B2,h0,_,rfl,t2,hin⟩)))
  clear t2 hin
  rintro ρ O3 ⟨B3,hb,v7,rfl,t3,hin3⟩
  exact Af (AM (Ad.ev (CV (Ab (Aa 4) (Ab (Aa 6) Ae))) (hR _ _ _ _ t3 hin3)))
theorem Ur (Fn : Aw K "_law_numbers" "_law_numbers" JQ f fd) (hm : mg "_law_numbers" = some (.ref f)) (hb : Binds K fd ["_law_found","_law_due"] []) : Am P w K mg base 1 "_law_numbers" (Ax Jm) := by
 refine A7 (k := 0) Fn Jz hm hb (λ ds O R h => ?_) (λ cdv A outer s H E ds O R hr h => ?_)
 ·obtain ⟨_,⟨_,_,rfl,_⟩,_⟩ := h; rfl
 ·obtain ⟨d,⟨xs,dd,rfl,hdd,hl,rfl⟩,hR⟩ := h
  refine Af (AR (BN.t (Dp (Ck (B7 (AW T.xq (Ab (Aa 0) (Ab (DF T.xk) Ae)) (GT rfl)))) (λ hbb => (DE (AU (AW T.xj (Ab (Aa 0) Ae) (BY (by first | exact Or.inr rfl | exact Or.inl (Or.inl rfl) | exact Or.inl (Or.inr (Or.inl rfl)) | exact Or.inl (Or.inr (Or.inr ⟨_,rfl,by first | assumption | rfl⟩))))) (AW T.xj (Ab (Aa 1) Ae) (BY hdd.lt)) GR))))) (λ hk => ?_) (λ hk => Au ?_))
  ·exfalso
   rw [decide_eq_true rfl] at hk
   cases hk
  refine Af (C8 (Fv (Fs (Aa 0) (Aa 1) wB wB T.xn)) (λ i ρ O' => ∃ v1 v2 : Option D,ρ = [some (.tup (xs.map D.int)),some dd,v1,v2] /\ O' = O) ⟨_,_,rfl,rfl⟩ ?_ ?_)
  ·rintro i y ρ O' hy ⟨v1,v2,rfl,rfl⟩
   rw [List.getElem?_map] at hy
   cases hq : (xs.zip xs)[i]? with
   | none => rw [hq] at hy; cases hy
   | some q =>
    rw [hq] at hy
    cases hy
    refine ⟨_,Dg (BP (AE 2 Jz.nd) (BP (AE 3 Jz.nd) Df)),?_⟩
    refine Af (AR (BN.t (Dp (Ck (B7 (AW T.xq (Ab (Aa 2) (Ab (DF T.xr) Ae)) (Lr rfl)))) (λ hbb => (Dp (B7 (AW T.xq (Ab (Aa 2) (Ab (DF T.xt) Ae)) (Ls rfl))) (λ hbb => (DE (AU (Aa 2) (Aa 3) GR))))))) (λ hk => ?_) (λ hk => Au (Au ⟨_,_,rfl,rfl⟩)))
    exfalso
    rw [decide_eq_true (Qd hq)] at hk
    cases hk
  ·rintro ρ O' ⟨v1,v2,rfl,rfl⟩
   exact Af (AM (Ad.ev Lh hR))
theorem Uz (Fn : Aw K "_law_against" "_law_against" JY f fd) (hm : mg "_law_against" = some (.ref f)) (hb : Binds K fd ["_law_said","_law_scale_here"] []) : Am P w K mg base 1 "_law_against" (Ax Nc) := by
 refine A7 (k := 0) Fn RI hm hb (λ ds O R h => ?_) (λ cdv A outer s H E ds O R hr h => ?_)
 ·obtain ⟨_,⟨_,_,rfl,_⟩,_⟩ := h; rfl
 ·obtain ⟨d,⟨said,sc,rfl,h24,rfl⟩,hR⟩ := h
  have hat : ∀ w : Option Int,Bt [od w,D.int (sc - w.getD 0)] (if (!Dn (od w)) then 1 else 0) = some (od (w.map λ x => sc - x)) := λ w => by cases w <;> rfl
  refine Af (AM (Ad.ev (BW T.xk (Ab (BL (λ w : Option Int => od (w.map λ x => sc - x)) ["_law_what"] ["_law_scale_here"] [1] (Bp (Aa 0) wB) (by show said.length <= _; rw [sizeLine_eq]; omega) (by exact λ q hq s H fp => ⟨[some _],rfl,(AE 0 (show List.Nodup (["_law_what","_law_scale_here"] : List Str) by decide +kernel)),⟨_,rfl,(EJ (D1 (Ab (Aa 0) (Ab (Ak (Aa 1) (WM (Aa 0) Ag) Ed) Ae))) (by first | exact Or.inl rfl | exact Or.inr (Or.inl rfl) | exact Or.inr (Or.inr ⟨_,rfl,by first | assumption | rfl⟩)) (BW T.xr (Ab (Em (Aa 0) D0 Pt) Ae) Px) (hat q))⟩⟩)) Ae) (BS (by first | exact Or.inr rfl | exact Or.inl (Or.inl rfl) | exact Or.inl (Or.inr (Or.inl rfl)) | exact Or.inl (Or.inr (Or.inr ⟨_,rfl,by first | assumption | rfl⟩))))) ?_))
  have e : (said.map λ w : Option Int => od (w.map λ x => sc - x)) = (Ec sc said).map od := by unfold Ec; rw [List.map_map]; rfl
  rw [e]
  exact hR
theorem Uu (Fn : Aw K "_law_hears" "_law_hears" JT f fd) (hm : mg "_law_hears" = some (.ref f)) (hb : Binds K fd ["_law_hands_here","_law_head","_law_said","_law_so"] []) (jc : Ai P w K mg base CK1 6 "say" (Bn CK1 CK5 CK3 CK2)) (jh : Ai P w K mg base CK1 6 "hear" (Ff CK1)) (ja : Ai P w K mg base CK5 6 "say" (Bn CK1 CK5 CK3 CK2)) (ji : Ai P w K mg base CK5 8 "hear" (CT CK5 CK3 false)) (jb : Ai P w K mg base CK3 6 "say" (Bn CK1 CK5 CK3 CK2)) (jk : Ai P w K mg base CK3 8 "hear" (CT CK5 CK3 true)) (jd : Ai P w K mg base CK2 6 "say" (Bn CK1 CK5 CK3 CK2)) (jl : Ai P w K mg base CK2 6 "hear" (Fe CK2)) (jf : Ai P w K mg base CK4 25 "say" (Di ⟨CK1,CK5,CK3,CK2,CK4,CK0⟩ 2)) (kb : Ai P w K mg base CK4 26 "hear" (DA ⟨CK1,CK5,CK3,CK2,CK4,CK0⟩ 2)) (je : Ai P w K mg base CK0 5 "say" (Ey CK0)) (jn : Ai P w K mg base CK0 6 "hear" (Fg CK0)) : Am P w K mg base 27 "_law_hears" (MV ⟨CK1,CK5,CK3,CK2,CK4,CK0⟩) := by
 refine A7 (k := 26) Fn Nn hm hb (λ ds O R h => ?_) (λ cdv A outer s H E ds O R hr h => ?_)
 ·obtain ⟨_,_,_,_,_,_,_,_,_,_,rfl,_⟩ := h; rfl
 ·obtain ⟨n,p,hp,m,s,so,zs,hz,ch,said,rfl,ha,hh,hok,hd,hap,hn,hm,hsd,hso,hR⟩ := h
  have h0 : 0 <= s := by omega
  have hl := hok.to.2.2.1
  have hak := D9 zs m s said hok.to.1 hsd h0 hl.2
  have hpl := IB zs p
  have hv := PD ha hok.to.1 λ x hx => Nat.le_succ_of_le ((Dc hd).1 x hx)
  have hsz : (Bd zs p).length <= sizeLine := by rw [sizeLine_eq]; omega
  have hps := Fj hz
  refine Af (A3 (El (C := ⟨CK1,CK5,CK3,CK2,CK4,CK0⟩) jh ji jk jl (hr.mono wE) (hr.mono wE) (hr.mono wE) jn (hr.mono wE) kb (hr.mono wE) (Aa 1) hh hok.to.2.1 (Nat.le_succ_of_le (Dc hd).2) hn hl hak hso (Ab (Ad.cast (BW T.xk (Ab (BL (λ z : Nat × Hn => .int (Ba z.2 m said)) ["_law_hand_here"] ["_law_said"] [2] (Bp (Aa 0) wB) hsz (by exact λ q hq s H fp => ⟨[some _],rfl,(AE 0 (show List.Nodup (["_law_hand_here","_law_said"] : List Str) by decide +kernel)),⟨_,rfl,(Cu (C := ⟨CK1,CK5,CK3,CK2,CK4,CK0⟩) jc ja jb jd (hr.mono wE) je (hr.mono wE) jf (hr.mono wE) (Aa 0) (hv q hq).1 (hv q hq).2.1 (hv q hq).2.2 hm h0 hsd (Ab (Aa 1) Ae))⟩⟩)) Ae) (BS (by first | exact Or.inr rfl | exact Or.inl (Or.inl rfl) | exact Or.inl (Or.inr (Or.inl rfl)) | exact Or.inl (Or.inr (Or.inr ⟨_,rfl,by first | assumption | rfl⟩))))) (by rw [Hu,GU])) (Ab (Aa 3) Ae)) λ O1 c1 i2 => ?_))
  have b1 : Cy p (hp + AH hz - p) O O1 := (Cy.rf _ _ _).in c1 wF wF
  have i3 : ∀ k v,zs[k]? = some v -> Ap ⟨CK1,CK5,CK3,CK2,CK4,CK0⟩ O1 v (p + An (zs.take k)) m s := λ k v hv => ((ET _ _).mp ha k v hv).own λ a h1 h2 => c1.o a (by have := Hq zs (k + 1); rw [EB hv] at this; omega)
  refine Af (C8 (Bp (Aa 0) wB) (λ i ρ O' => (∃ v : Option D,ρ = [some (.tup ((Bd zs p).map Cq)),some (.ptr hp),some (.tup (said.map od)),some (.int so),v]) /\ Cy p (hp + AH hz - p) O O' /\ Ap ⟨CK1,CK5,CK3,CK2,CK4,CK0⟩ O' (A0 hz zs.length (BH (AZ zs m said)) so) hp zs.length s /\ ∀ k v,zs[k]? = some v -> Ap ⟨CK1,CK5,CK3,CK2,CK4,CK0⟩ O' (if k < i then A0 v m said so else v) (p + An (zs.take k)) m s) ⟨⟨_,rfl⟩,b1,i2,λ k v hv => by rw [if_neg (Nat.not_lt_zero _)]; exact i3 k v hv⟩ ?_ ?_)
  ·clear i2 i3 b1 c1
   rintro i z ρ O' hz0 ⟨⟨v4,rfl⟩,bk,j2,j3⟩
   rw [List.getElem?_map] at hz0
   obtain ⟨zz,hz1,rfl⟩ := Option.map_eq_some_iff.mp hz0
   obtain ⟨hw1,hw2⟩ := PB hz1
   obtain ⟨pp,v⟩ := zz
   have hv2 : pp = p + An (zs.take i) := hw2
   have hv1 : zs[i]? = some v := hw1
   clear hw1 hw2 hz0 hz1
   subst hv2
   have hil := (List.getElem?_eq_some_iff.mp hv1).1
   have jv := j3 i v hv1
   rw [if_neg (Nat.lt_irrefl _)] at jv
   have sv := Hq zs (i + 1)
   rw [EB hv1] at sv
   refine ⟨_,AE 4 Nn.nd,?_⟩
   refine Af (A3 (El (C := ⟨CK1,CK5,CK3,CK2,CK4,CK0⟩) jh ji jk jl (hr.mono wE) (hr.mono wE) (hr.mono wE) jn (hr.mono wE) kb (hr.mono wE) (Aa 4) jv ((ES _).mp hok.to.1 v (List.mem_of_getElem? hv1)) (Nat.le_succ_of_le ((Dc hd).1 v (List.mem_of_getElem? hv1))) hn hm hsd hso (Ab (Aa 2) (Ab (Aa 3) Ae)) λ O2 c2 d2 => ?_))
   refine Au ⟨⟨_,rfl⟩,bk.in c2 wF wF,j2.own λ a h1 h2 => c2.o a wF,λ k w hw => ?_⟩
   by_cases hki : k = i
   ·subst hki
    rw [hv1] at hw
    cases hw
    rw [if_pos (Nat.lt_succ_self _)]
    exact d2
   ·have e : (if k < i + 1 then A0 w m said so else w) = if k < i then A0 w m said so else w := by
     by_cases h1 : k < i
     ·rw [if_pos h1,if_pos wF]
     ·rw [if_neg h1,if_neg wF]
    rw [e]
    have ew : AH (if k < i then A0 w m said so else w) = AH w := by split; exact ED ..; rfl
    refine (j3 k w hw).own λ a h1 h2 => c2.o a ?_
    rw [ew] at h2
    by_cases h3 : k < i
    ·have := Hm zs (show k + 1 <= i by omega)
     rw [EB hw] at this
     omega
    ·have := Hm zs (show i + 1 <= k by omega)
     rw [EB hv1] at this
     omega
  ·clear i2 i3 b1 c1
   rintro ρ O' ⟨⟨v4,rfl⟩,bk,j2,j3⟩
   rw [List.length_map,hpl] at j3
   refine Au (hR _ bk ((ET _ _).mpr λ i x hx => ?_) j2)
   rw [DY,List.getElem?_map] at hx
   obtain ⟨w,hw,rfl⟩ := Option.map_eq_some_iff.mp hx
   have hi := (List.getElem?_eq_some_iff.mp hw).1
   have := j3 i w hw
   rw [if_pos hi] at this
   rw [DY,<- List.map_take,<- DY,EC]
   exact this
theorem Ux (Fn : Aw K "_law_gone" "_law_gone" JW f fd) (hm : mg "_law_gone" = some (.ref f)) (hb : Binds K fd ["_law_tier","_law_hands_here","_law_head","_law_turns_here"] []) (zr : Am P w K mg base 1 "_law_against" (Ax Nc)) (kg : Am P w K mg base 1 "_law_numbers" (Ax Jm)) (gj : Am P w K mg base 27 "_law_hears" (MV ⟨CK1,CK5,CK3,CK2,CK4,CK0⟩)) (kh : Cv P w K mg base CK4 26 "Tier" (DR ⟨CK1,CK5,CK3,CK2,CK4,CK0⟩ 2)) (kl : Ai P w K mg base CK4 1 "hand_charges" (Jt ⟨CK1,CK5,CK3,CK2,CK4,CK0⟩)) (jc : Ai P w K mg base CK1 6 "say" (Bn CK1 CK5 CK3 CK2)) (jh : Ai P w K mg base CK1 6 "hear" (Ff CK1)) (jq : Ai P w K mg base CK1 7 "anew" (FQ CK1)) (ja : Ai P w K mg base CK5 6 "say" (Bn CK1 CK5 CK3 CK2)) (ji : Ai P w K mg base CK5 8 "hear" (CT CK5 CK3 false)) (jr : Ai P w K mg base CK5 9 "anew" (C9 CK5 CK3 false)) (jb : Ai P w K mg base CK3 6 "say" (Bn CK1 CK5 CK3 CK2)) (jk : Ai P w K mg base CK3 8 "hear" (CT CK5 CK3 true)) (jt : Ai P w K mg base CK3 9 "anew" (C9 CK5 CK3 true)) (jd : Ai P w K mg base CK2 6 "say" (Bn CK1 CK5 CK3 CK2)) (jl : Ai P w K mg base CK2 6 "hear" (Fe CK2)) (ju : Ai P w K mg base CK2 8 "anew" (FP CK2)) (jf : Ai P w K mg base CK4 25 "say" (Di ⟨CK1,CK5,CK3,CK2,CK4,CK0⟩ 2)) (kb : Ai P w K mg base CK4 26 "hear" (DA ⟨CK1,CK5,CK3,CK2,CK4,CK0⟩ 2)) (kc : Ai P w K mg base CK4 28 "anew" (DS ⟨CK1,CK5,CK3,CK2,CK4,CK0⟩ 2)) (je : Ai P w K mg base CK0 5 "say" (Ey CK0)) (jn : Ai P w K mg base CK0 6 "hear" (Fg CK0)) (jw : Ai P w K mg base CK0 8 "anew" (FR CK0)) : Am P w K mg base 29 "_law_gone" (MY ⟨CK1,CK5,CK3,CK2,CK4,CK0⟩) := by
 refine A7 (k := 28) Fn Da hm hb (λ ds O R h => ?_) (λ cdv A outer s H E ds O R hr h => ?_)
 ·obtain ⟨_,_,_,_,_,_,_,_,_,rfl,_⟩ := h; rfl
 ·obtain ⟨q,p,hp,m,s,zs,hz,ts,dp,rfl,hA,hza,hha,hm,hs,hts,htl,hR⟩ := h
  have h0 : 0 <= s := by omega
  have hl := hA.ok.to.2.2.1
  have hpl := IB zs p
  have hsz : (Bd zs p).length <= sizeLine := by rw [sizeLine_eq]; omega
  have hdp := hA.e
  subst hdp
  have hv := hA.hs
  have hd1 := Dc hA.d
  refine Af (L0 4 (λ z : Nat × Hn => .int 0) ["_law_hand_here"] [] [] (Bp (Aa 1) wB) hsz (by exact λ q hq s H fp => ⟨[some _],rfl,(AE 0 (show List.Nodup (["_law_hand_here"] : List Str) by decide +kernel)),⟨_,rfl,Ag⟩⟩) ?_ Da.nd)
  have e0 : ((Bd zs p).map λ _ => D.int 0) = (List.replicate zs.length (0 : Int)).map D.int := by rw [List.map_const',hpl,List.map_replicate]
  rw [e0]
  clear e0
  refine Af (CN (Db kh (hr.mono wE) (Ab (Aa 1) (Ab (Aa 2) Ae)) ⟨O.length,m,s,Bd zs p,hp,hz,O,rfl,rfl,rfl,λ z hz => ?_,λ z hz => ?_,hm,hs,by rw [hpl]; exact hl,rfl,_,AE 5 Da.nd,?_⟩))
  ·obtain ⟨h1,h2,_⟩ := hv z hz
   obtain ⟨i,h3,_⟩ := PC hz
   exact ⟨h1,⟨0,h2⟩,Nat.lt_succ_of_le (hd1.1 _ (List.mem_of_getElem? h3))⟩
  ·rw [List.mem_singleton.mp hz,hpl]; exact ⟨hA.h,⟨0,hA.ok.to.2.1⟩,Nat.lt_succ_of_le hd1.2⟩
  have e1 : DD ⟨CK1,CK5,CK3,CK2,CK4,CK0⟩ ((Bd zs p).map (·.2)) hz O.length m s = Bb ⟨CK1,CK5,CK3,CK2,CK4,CK0⟩ (.t zs hz (List.replicate zs.length 0)) O.length m s := by
   rw [GU]
   unfold DD
   rw [show AJ (.t zs hz []) m = .t zs hz (List.replicate zs.length 0) by simp only [AJ]; rw [hza,hha]]
  rw [e1]
  obtain ⟨O1,hO1⟩ : ∃ O1,O1 = O ++ Bb ⟨CK1,CK5,CK3,CK2,CK4,CK0⟩ (.t zs hz (List.replicate zs.length 0)) O.length m s := ⟨_,rfl⟩
  rw [<- hO1]
  have hA1 : BZ ⟨CK1,CK5,CK3,CK2,CK4,CK0⟩ O1 0 q p hp m s zs hz (List.replicate zs.length 0) ((Bd zs p).map Cq) := hA.own λ i _ h2 => by have := hA.le; rw [hO1]; exact List.getElem?_append_left wF
  have zat : ∀ (i : Nat) (x : Nat × Hn),(Bd zs p)[i]? = some x -> zs[i]? = some (AJ x.2 m) := λ i x hx => by
   have h1 := (PB hx).1
   have : (BI zs m)[i]? = some (AJ x.2 m) := by rw [Gh,List.getElem?_map,h1]; rfl
   rw [hza] at this; exact this
  refine Af (CN (Ir T.xk (CJ (Ip (λ i => .ptr (O1.length + An (zs.take i))) (λ i => O1 ++ AT ⟨CK1,CK5,CK3,CK2,CK4,CK0⟩ (zs.take i) O1.length m s) (by rw [List.take_zero]; simp only [AT,List.append_nil]) ["_law_hand_here"] [] [] (Bp (Aa 1) wB) hsz ?turn (Bx.as Ae ⟨_,BS (Or.inl (Or.inl rfl)),_,AE 6 Da.nd,?_⟩)))))
  case turn =>
   intro i x hx s2 H2 fp
   have hxx := hA1.hs x (List.mem_of_getElem? hx)
   have el : (O1 ++ AT ⟨CK1,CK5,CK3,CK2,CK4,CK0⟩ (zs.take i) O1.length m s).length = O1.length + An (zs.take i) := by rw [List.length_append,DW]
   refine ⟨[some (.ptr x.1)],rfl,AE 0 (show List.Nodup (["_law_hand_here"] : List Str) by decide +kernel),En (C := ⟨CK1,CK5,CK3,CK2,CK4,CK0⟩) jq jr jt ju (hr.mono wE) (hr.mono wE) (hr.mono wE) jw (hr.mono wE) kc (hr.mono wE) (Aa 0) hxx.1.ap hxx.2.1 hxx.2.2 hm hs ⟨?_,?_⟩⟩
   ·show D.ptr _ = D.ptr _
    rw [el]
   ·show _ = O1 ++ AT ⟨CK1,CK5,CK3,CK2,CK4,CK0⟩ (zs.take (i + 1)) O1.length m s
    rw [HY ⟨CK1,CK5,CK3,CK2,CK4,CK0⟩ (zat i x hx),el,<- List.append_assoc]
  rw [hpl,List.take_of_length_le (Nat.le_refl _)]
  obtain ⟨O2,hO2⟩ : ∃ O2,O2 = O1 ++ AT ⟨CK1,CK5,CK3,CK2,CK4,CK0⟩ zs O1.length m s := ⟨_,rfl⟩
  rw [<- hO2]
  have hA2 : BZ ⟨CK1,CK5,CK3,CK2,CK4,CK0⟩ O2 0 q p hp m s zs hz (List.replicate zs.length 0) ((Bd zs p).map Cq) := hA1.own λ i _ h2 => by have := hA1.le; rw [hO2]; exact List.getElem?_append_left wF
  have e2 : ((List.range zs.length).map λ i => D.ptr (O1.length + An (zs.take i))) = (Bd zs O1.length).map Cq := by unfold Bd; rw [List.map_map]; rfl
  rw [e2]
  refine Af (CN (En (C := ⟨CK1,CK5,CK3,CK2,CK4,CK0⟩) jq jr jt ju (hr.mono wE) (hr.mono wE) (hr.mono wE) jw (hr.mono wE) kc (hr.mono wE) (Aa 2) hA2.h hA2.ok.to.2.1 (Nat.le_succ_of_le hd1.2) hl hs ⟨_,AE 7 Da.nd,?_⟩))
  rw [hha]
  have hB := BZ.lay hO1 hO2 hA.ok hA.d
  have hA3 : BZ ⟨CK1,CK5,CK3,CK2,CK4,CK0⟩ (O2 ++ Bb ⟨CK1,CK5,CK3,CK2,CK4,CK0⟩ hz O2.length zs.length s) 0 q p hp m s zs hz (List.replicate zs.length 0) ((Bd zs p).map Cq) := hA2.own λ i _ h2 => by have := hA2.le; exact List.getElem?_append_left wF
  have kp : Kp q O (O2 ++ Bb ⟨CK1,CK5,CK3,CK2,CK4,CK0⟩ hz O2.length zs.length s) := by
   have h1 := hA.le
   have h2 := hA.ap
   rw [hO2,hO1,List.append_assoc,List.append_assoc]
   exact Kp.app _ wF
  have hq2 : hp + AH hz <= O.length := hA.le
  have hSz : ∃ Z,AH hz = Z := ⟨_,rfl⟩
  obtain ⟨Z,hZ⟩ := hSz
  generalize hO3 : O2 ++ Bb ⟨CK1,CK5,CK3,CK2,CK4,CK0⟩ hz O2.length zs.length s = O3 at hB hA3 kp ⊢
  generalize hdp : (Bd zs p).map Cq = dp at hA3 hR ⊢
  generalize hdp2 : (Bd zs O1.length).map Cq = dp2 at hB ⊢
  generalize O1.length = p2 at hB
  generalize O2.length = hp2 at hB ⊢
  have hq2 : hp + Z <= O.length := by omega
  generalize O.length = q2 at hB hq2 ⊢
  clear hA hA1 hA2 e1 e2 hv zat hO1 hO2 hO3 hdp hdp2 hpl hsz
  refine Af (C8 (Ge (AW T.xj (Ab (Aa 3) Ae) (BY (by first | exact Or.inr rfl | exact Or.inl (Or.inl rfl) | exact Or.inl (Or.inr (Or.inl rfl)) | exact Or.inl (Or.inr (Or.inr ⟨_,rfl,by first | assumption | rfl⟩))))) T.xp wF (by rw [List.length_map]; omega)) (λ i ρ O' => ∃ (zs1 : List Hn) (hz1 : Hn) (paid : List Int) (zs2 : List Hn) (hz2 : Hn) (ch2 : List Int) (v8 v9 v10 v11 v12 v13 : Option D),ρ = [some (.ptr q),some (.tup dp),some (.ptr hp),some (.tup (ts.map tD)),some (.lst (paid.map D.int)),some (.ptr q2),some (.tup dp2),some (.ptr hp2),v8,v9,v10,v11,v12,v13] /\ Kp q O O' /\ BZ ⟨CK1,CK5,CK3,CK2,CK4,CK0⟩ O' i q p hp m s zs1 hz1 paid dp /\ BZ ⟨CK1,CK5,CK3,CK2,CK4,CK0⟩ O' (i - 1) q2 p2 hp2 m s zs2 hz2 ch2 dp2 /\ AJ (.t zs1 hz1 paid) m = .t zs hz (List.replicate zs.length 0) /\ AH hz1 = Z) ⟨zs,hz,_,zs,hz,_,_,_,_,_,_,_,rfl,kp,hA3,hB,by simp only [AJ]; rw [hza,hha],hZ⟩ ?_ ?_)
  ·clear hA3 hB kp hZ
   rintro i z ρ O' hzi ⟨zs1,hz1,paid,zs2,hz2,ch2,v8,v9,v10,v11,v12,v13,rfl,kp,hA,hB,hanew,hZ⟩
   obtain ⟨hi,rfl⟩ := HI hzi
   rw [List.length_map] at hi
   have hi : i < ts.length := by omega
   obtain ⟨tn,htn⟩ : ∃ tn,ts[i]? = some tn := ⟨_,List.getElem?_eq_getElem hi⟩
   have htok := hts tn (List.mem_of_getElem? htn)
   have hsd := htok.said hm.2
   have hso := htok.2.2
   have hat : Bt (ts.map tD) (0 + ((i : Nat) : Int)) = some (tD tn) := by rw [Int.zero_add]; exact Er (by rw [List.getElem?_map,htn]; rfl)
   have hd1 := Dc hA.d
   have hd2 := Dc hB.d
   have hl1 := hA.ok.to.2.2.1
   have hl2 := hB.ok.to.2.2.1
   have hag : A9 (m : Nat) s (Ec s tn.1) := TW hsd
   have hx1 := hA.e
   have hx2 := hB.e
   subst hx1
   subst hx2
   have hsz1 : (Bd zs1 p).length <= sizeLine := by rw [sizeLine_eq,IB]; omega
   have hsz2 : (Bd zs2 p2).length <= sizeLine := by rw [sizeLine_eq,IB]; omega
   have hv1 := hA.hs
   have hv2 := hB.hs
   have hak1 := D9 zs1 m s tn.1 hA.ok.to.1 hsd h0 hl1.2
   have hak2 := D9 zs2 m s tn.1 hB.ok.to.1 hsd h0 hl2.2
   have hak3 := D9 zs1 m s (Ec s tn.1) hA.ok.to.1 hag h0 hl1.2
   have hpdl := hA.ok.to.2.2.2
   refine ⟨_,AE 8 Da.nd,?_⟩
   refine Af (Qn (CZ (Aa 3) (Aa 8) (hat)) (Dg (BP (AE 9 Da.nd) (BP (AE 10 Da.nd) Df))) ?_)
   refine Af (A5 11 (Ad.ev (Ad.cast (d' := .tup ((AZ zs1 m tn.1).map D.int)) (BW T.xk (Ab (BL (λ z : Nat × Hn => .int (Ba z.2 m tn.1)) ["_law_hand_here"] ["_law_said"] [9] (Bp (Aa 1) wB) hsz1 (by exact λ q hq s H fp => ⟨[some _],rfl,(AE 0 (show List.Nodup (["_law_hand_here","_law_said"] : List Str) by decide +kernel)),⟨_,rfl,(Cu (C := ⟨CK1,CK5,CK3,CK2,CK4,CK0⟩) jc ja jb jd (hr.mono wE) je (hr.mono wE) jf (hr.mono wE) (Aa 0) (hv1 q hq).1 (hv1 q hq).2.1 (hv1 q hq).2.2 hm h0 hsd (Ab (Aa 1) Ae))⟩⟩)) Ae) (BS (by first | exact Or.inr rfl | exact Or.inl (Or.inl rfl) | exact Or.inl (Or.inr (Or.inl rfl)) | exact Or.inl (Or.inr (Or.inr ⟨_,rfl,by first | assumption | rfl⟩))))) (by rw [JB,GU])) ?_) Da.nd)
   refine Af (A5 12 (Ad.ev (AC zr (hr.mono wE) (Ab (Aa 9) (Ab (Av (Aa 0) hA.t.to.1 T.fv.cls T.fy (Gs _ _ _ _ _)) Ae)) ⟨_,_,rfl,by rw [htok.1]; exact hm.2,rfl⟩) ?_) Da.nd)
   refine Af (A5 13 (Ad.ev (D1 (Ab (Cu (C := ⟨CK1,CK5,CK3,CK2,CK4,CK0⟩) jc ja jb jd (hr.mono wE) je (hr.mono wE) jf (hr.mono wE) (Aa 2) hA.h hA.ok.to.2.1 (Nat.le_succ_of_le hd1.2) hl1 h0 hak1 (Ab (Ad.cast (Aa 11) (congrArg D.tup (IF _).symm)) Ae)) (Ab (Cu (C := ⟨CK1,CK5,CK3,CK2,CK4,CK0⟩) jc ja jb jd (hr.mono wE) je (hr.mono wE) jf (hr.mono wE) (Aa 7) hB.h hB.ok.to.2.1 (Nat.le_succ_of_le hd2.2) hl2 h0 hak2 (Ab (Ad.cast (BW T.xk (Ab (BL (λ z : Nat × Hn => .int (Ba z.2 m tn.1)) ["_law_hand_here"] ["_law_said"] [9] (Bp (Aa 6) wB) hsz2 (by exact λ q hq s H fp => ⟨[some _],rfl,(AE 0 (show List.Nodup (["_law_hand_here","_law_said"] : List Str) by decide +kernel)),⟨_,rfl,(Cu (C := ⟨CK1,CK5,CK3,CK2,CK4,CK0⟩) jc ja jb jd (hr.mono wE) je (hr.mono wE) jf (hr.mono wE) (Aa 0) (hv2 q hq).1 (hv2 q hq).2.1 (hv2 q hq).2.2 hm h0 hsd (Ab (Aa 1) Ae))⟩⟩)) Ae) (BS (by first | exact Or.inr rfl | exact Or.inl (Or.inl rfl) | exact Or.inl (Or.inr (Or.inl rfl)) | exact Or.inl (Or.inr (Or.inr ⟨_,rfl,by first | assumption | rfl⟩))))) (by rw [Hu,GU])) Ae)) Ae))) ?_) Da.nd)
   refine Af (A5 13 (Ad.ev (Ak (Aa 13) (D1 (Ab (EJ (Aa 13) (by first | exact Or.inl rfl | exact Or.inr (Or.inl rfl) | exact Or.inr (Or.inr ⟨_,rfl,by first | assumption | rfl⟩)) Ag rfl) (Ab (Cu (C := ⟨CK1,CK5,CK3,CK2,CK4,CK0⟩) jc ja jb jd (hr.mono wE) je (hr.mono wE) jf (hr.mono wE) (Aa 2) hA.h hA.ok.to.2.1 (Nat.le_succ_of_le hd1.2) hl1 h0 hak3 (Ab (Ad.cast (BW T.xk (Ab (BL (λ z : Nat × Hn => .int (Ba z.2 m (Ec s tn.1))) ["_law_hand_here"] ["_law_against_here"] [12] (Bp (Aa 1) wB) hsz1 (by exact λ q hq s H fp => ⟨[some _],rfl,(AE 0 (show List.Nodup (["_law_hand_here","_law_against_here"] : List Str) by decide +kernel)),⟨_,rfl,(Cu (C := ⟨CK1,CK5,CK3,CK2,CK4,CK0⟩) jc ja jb jd (hr.mono wE) je (hr.mono wE) jf (hr.mono wE) (Aa 0) (hv1 q hq).1 (hv1 q hq).2.1 (hv1 q hq).2.2 hm h0 hag (Ab (Aa 1) Ae))⟩⟩)) Ae) (BS (by first | exact Or.inr rfl | exact Or.inl (Or.inl rfl) | exact Or.inl (Or.inr (Or.inl rfl)) | exact Or.inl (Or.inr (Or.inr ⟨_,rfl,by first | assumption | rfl⟩))))) (by rw [Hu,GU])) Ae)) Ae))) (KT (Nat.le_of_ble_eq_true rfl))) ?_) Da.nd)
   refine Af (AR (AY.cast (k' := false) (Ck (B7 (AC kg (hr.mono wE) (Ab (CV (Ab (Cu (C := ⟨CK1,CK5,CK3,CK2,CK4,CK0⟩) jc ja jb jd (hr.mono wE) je (hr.mono wE) jf (hr.mono wE) (Aa 0) hA.t hA.ok hA.d hm h0 hsd (Ab (Aa 9) Ae)) (Ab (Cu (C := ⟨CK1,CK5,CK3,CK2,CK4,CK0⟩) jc ja jb jd (hr.mono wE) je (hr.mono wE) jf (hr.mono wE) (Aa 5) hB.t hB.ok hB.d hm h0 hsd (Ab (Aa 9) Ae)) (Ab (Cu (C := ⟨CK1,CK5,CK3,CK2,CK4,CK0⟩) jc ja jb jd (hr.mono wE) je (hr.mono wE) jf (hr.mono wE) (Aa 0) hA.t hA.ok hA.d hm h0 hsd (Ab (Aa 9) Ae)) (Ab (Cu (C := ⟨CK1,CK5,CK3,CK2,CK4,CK0⟩) jc ja jb jd (hr.mono wE) je (hr.mono wE) jf (hr.mono wE) (Aa 0) hA.t hA.ok hA.d hm h0 hag (Ab (Aa 12) Ae)) Ae))))) (Ab (Aa 13) Ae)) ⟨[Ba hz1 zs1.length (BH (AZ zs1 m tn.1)),Ba hz2 zs2.length (BH (AZ zs2 m tn.1)),Ba hz1 zs1.length (BH (AZ zs1 m tn.1)),Ba hz1 zs1.length (BH (AZ zs1 m (Ec s tn.1)))],_,by rw [JC,JC,JC]; rfl,Or.inl rfl,by show 4 <= 63; decide,rfl⟩))) rfl) (λ hk => by cases hk) (λ _ => Au ?_))
   refine Af (AR (AY.cast (k' := false) (Ck (B7 (AC kg (hr.mono wE) (Ab (Ev.evp (Dq kl (hr.mono wE) (Aa 0) hA.t.to.1 (Ew _ _ _ _ _ wD) ⟨q,m,s,_,_,_,rfl,hA.t,rfl,rfl⟩)) (Ab (Aa 4) Ae)) ⟨paid,_,rfl,Or.inl rfl,by omega,rfl⟩))) rfl) (λ hk => by cases hk) (λ _ => Au ?_))
   refine Af (A3 (El (C := ⟨CK1,CK5,CK3,CK2,CK4,CK0⟩) jh ji jk jl (hr.mono wE) (hr.mono wE) (hr.mono wE) jn (hr.mono wE) kb (hr.mono wE) (Aa 0) hA.t hA.ok hA.d wF hm hsd hso (Ab (Aa 9) (Ab (Aa 10) Ae)) λ O1 c1 n1 => ?_))
   have hap := hA.ap
   have hap2 := hB.ap
   have hzl : (paid.zip (AZ zs1 m tn.1)).length <= sizeLine := by rw [sizeLine_eq,List.length_zip,hpdl]; omega
   refine Af (L0 4 (λ x : Int × Int => .int (x.1 + ab (x.2 - tn.2))) ["_law_old","_law_what"] ["_law_so"] [10] (Fv (Fs (Aa 4) (Aa 11) wB wB T.xn)) hzl (by exact λ q hq s H fp => ⟨[some _,some _],rfl,(Dg (BP (AE 0 (show List.Nodup (["_law_old","_law_what","_law_so"] : List Str) by decide +kernel)) (BP (AE 1 (show List.Nodup (["_law_old","_law_what","_law_so"] : List Str) by decide +kernel)) Df))),⟨_,rfl,(Ak (Aa 0) (AW T.xy (Ab (Ak (Aa 1) (Aa 2) Ed) Ae) Pz) BR)⟩⟩) ?_ Da.nd)
   have ezp : ((paid.zip (AZ zs1 m tn.1)).map λ x : Int × Int => D.int (x.1 + ab (x.2 - tn.2))) = ((paid.zip (AZ zs1 m tn.1)).map λ x => x.1 + ab (x.2 - tn.2)).map D.int := by rw [List.map_map]; rfl
   rw [ezp]
   clear ezp
   have a1 : BK ⟨CK1,CK5,CK3,CK2,CK4,CK0⟩ O1 zs1 p m s := hA.a.own λ j h1 h2 => c1.o j wF
   have d1 : Ap ⟨CK1,CK5,CK3,CK2,CK4,CK0⟩ O1 hz1 hp zs1.length s := hA.h.own λ j h1 h2 => c1.o j wF
   refine Af (A3 (Ce gj (hr.mono wE) (Ab (Aa 1) (Ab (Aa 2) (Ab (Aa 9) (Ab (Aa 10) Ae)))) ⟨i,p,hp,m,s,tn.2,zs1,hz1,paid,tn.1,rfl,a1,d1,hA.ok,hA.d,hap.2,by omega,hm,hsd,hso,λ O2 c2 a2 d2 => ?_⟩))
   have hA2 := hA.hear hsd hso n1 c2 a2 d2
   have hps := Fj hz1
   have hB2 : BZ ⟨CK1,CK5,CK3,CK2,CK4,CK0⟩ O2 (i - 1) q2 p2 hp2 m s zs2 hz2 ch2 ((Bd zs2 p2).map Cq) := hB.own λ j h1 h2 => by rw [c2.o j wF,c1.o j wF]
   have kp2 : Kp q O O2 := kp.tr ((Kp.bl c1 (Nat.le_refl _)).tr (Kp.bl c2 wF))
   have hanew2 : AJ (.t (BD zs1 m tn.1 tn.2) (A0 hz1 zs1.length (BH (AZ zs1 m tn.1)) tn.2) ((paid.zip (AZ zs1 m tn.1)).map λ x => x.1 + ab (x.2 - tn.2))) m = .t zs hz (List.replicate zs.length 0) := by
    rw [<- hanew,<- IG (.t zs1 hz1 paid) m tn.1 tn.2]
    simp only [A0]
   have hZ2 : AH (A0 hz1 zs1.length (BH (AZ zs1 m tn.1)) tn.2) = Z := by rw [ED]; exact hZ
   clear hA hB a1 d1 n1 a2 d2 hv1 hv2 kp hanew hak1 hak2 hak3
   by_cases hi0 : i = 0
   ·subst hi0
    exact Af (AR (AY.cast (k' := false) (AU (Aa 8) Ag Fz) (decide_eq_false wE)) (λ hk => by cases hk) (λ _ => Au (Au ⟨_,_,_,zs2,hz2,ch2,_,_,_,_,_,_,rfl,kp2,hA2,hB2,hanew2,hZ2⟩)))
   ·refine Af (AR (AY.cast (k' := true) (AU (Aa 8) Ag Fz) (decide_eq_true wF)) (λ _ => ?_) (λ hk => by cases hk))
    refine Af (A3 (El (C := ⟨CK1,CK5,CK3,CK2,CK4,CK0⟩) jh ji jk jl (hr.mono wE) (hr.mono wE) (hr.mono wE) jn (hr.mono wE) kb (hr.mono wE) (Aa 5) hB2.t hB2.ok hB2.d wF hm hsd hso (Ab (Aa 9) (Ab (Aa 10) Ae)) λ O3 c3 n3 => ?_))
    have a3 : BK ⟨CK1,CK5,CK3,CK2,CK4,CK0⟩ O3 zs2 p2 m s := hB2.a.own λ j h1 h2 => c3.o j wF
    have d3 : Ap ⟨CK1,CK5,CK3,CK2,CK4,CK0⟩ O3 hz2 hp2 zs2.length s := hB2.h.own λ j h1 h2 => c3.o j wF
    refine Af (A3 (Ce gj (hr.mono wE) (Ab (Aa 6) (Ab (Aa 7) (Ab (Aa 9) (Ab (Aa 10) Ae)))) ⟨i - 1,p2,hp2,m,s,tn.2,zs2,hz2,ch2,tn.1,rfl,a3,d3,hB2.ok,hB2.d,hap2.2,by omega,hm,hsd,hso,λ O4 c4 a4 d4 => ?_⟩))
    have hB3 := hB2.hear hsd hso n3 c4 a4 d4
    rw [show i - 1 + 1 = i + 1 - 1 by omega] at hB3
    have hA3 := hA2.own (O' := O4) λ j h1 h2 => by rw [c4.o j (.inl wF),c3.o j (.inl wF)]
    exact Au (Au ⟨_,_,_,_,_,_,_,_,_,_,_,_,rfl,kp2.tr ((Kp.bl c3 wF).tr (Kp.bl c4 wF)),hA3,hB3,hanew2,hZ2⟩)
  ·clear hA3 hB kp hZ
   rintro ρ O' ⟨zs1,hz1,paid,zs2,hz2,ch2,v8,v9,v10,v11,v12,v13,rfl,kp,hA,hB,hanew,hZ⟩
   have hpdl := hA.ok.to.2.2
   exact Af (AM (Ad.ev (AC kg (hr.mono wE) (Ab (Ev.evp (Dq kl (hr.mono wE) (Aa 0) hA.t.to.1 (Ew _ _ _ _ _ wD) ⟨q,m,s,_,_,_,rfl,hA.t,rfl,rfl⟩)) (Ab (Aa 4) Ae)) ⟨paid,_,rfl,Or.inl rfl,by omega,rfl⟩) (hR _ _ _ _ _ kp hA hanew)))
theorem Uk (Fn : Aw K "law" "law" FT f fd)  (gf : Am P w K mg base 1 "_law_cell_at" (Ax Ju)) (kf : Am P w K mg base 2 "_law_seed" (Ax Jk)) (zt : Am P w K mg base 1 "_law_many" (HH HJ NE)) (zu : Am P w K mg base 1 "_law_scale" (HH HJ ND)) (zv : Am P w K mg base 3 "_law_turns" (Ax MC)) (zw : Am P w K mg base 28 "_law_two" (MB ⟨CK1,CK5,CK3,CK2,CK4,CK0⟩)) (kg : Am P w K mg base 1 "_law_numbers" (Ax Jm)) (gk : Am P w K mg base 29 "_law_gone" (MY ⟨CK1,CK5,CK3,CK2,CK4,CK0⟩)) (kh : Cv P w K mg base CK4 26 "Tier" (DR ⟨CK1,CK5,CK3,CK2,CK4,CK0⟩ 2)) (kl : Ai P w K mg base CK4 1 "hand_charges" (Jt ⟨CK1,CK5,CK3,CK2,CK4,CK0⟩)) (jc : Ai P w K mg base CK1 6 "say" (Bn CK1 CK5 CK3 CK2)) (jh : Ai P w K mg base CK1 6 "hear" (Ff CK1)) (jq : Ai P w K mg base CK1 7 "anew" (FQ CK1)) (ja : Ai P w K mg base CK5 6 "say" (Bn CK1 CK5 CK3 CK2)) (ji : Ai P w K mg base CK5 8 "hear" (CT CK5 CK3 false)) (jr : Ai P w K mg base CK5 9 "anew" (C9 CK5 CK3 false)) (jb : Ai P w K mg base CK3 6 "say" (Bn CK1 CK5 CK3 CK2)) (jk : Ai P w K mg base CK3 8 "hear" (CT CK5 CK3 true)) (jt : Ai P w K mg base CK3 9 "anew" (C9 CK5 CK3 true)) (jd : Ai P w K mg base CK2 6 "say" (Bn CK1 CK5 CK3 CK2)) (jl : Ai P w K mg base CK2 6 "hear" (Fe CK2)) (ju : Ai P w K mg base CK2 8 "anew" (FP CK2)) (jf : Ai P w K mg base CK4 25 "say" (Di ⟨CK1,CK5,CK3,CK2,CK4,CK0⟩ 2)) (kb : Ai P w K mg base CK4 26 "hear" (DA ⟨CK1,CK5,CK3,CK2,CK4,CK0⟩ 2)) (kc : Ai P w K mg base CK4 28 "anew" (DS ⟨CK1,CK5,CK3,CK2,CK4,CK0⟩ 2)) (je : Ai P w K mg base CK0 5 "say" (Ey CK0)) (jn : Ai P w K mg base CK0 6 "hear" (Fg CK0)) (jw : Ai P w K mg base CK0 8 "anew" (FR CK0)) : AF P w K mg base AK 30 f fd ["_law_script"] (AG K Gw) := by
 refine Bg (k := 29) Fn Ci (λ ds O R h => ?_) (λ cdv A outer s H E ds O R hr h => ?_)
 ·obtain ⟨_,rfl,_⟩ := h; rfl
 ·obtain ⟨ns,rfl,hl,hR⟩ := h
  refine IY ?_
  refine Af (A5 1 (Ad.ev (AC kf (hr.mono wE) (Ab (Aa 0) (Ab Ag Ae)) ⟨_,_,rfl,⟨by decide,by decide⟩,rfl⟩) ?_) Ci.nd)
  generalize Cd (BX ns 0) 0 = x
  refine Af (CN (Ce zt (hr.mono wE) (Ab (Aa 1) Ae) ⟨⟨_,rfl⟩,λ d hd => ?_⟩))
  obtain ⟨m,rfl,hm1,hm2⟩ := hd
  have hm : 1 <= m /\ m <= 24 := ⟨hm1,hm2⟩
  refine ⟨_,AE 2 Ci.nd,?_⟩
  refine Af (CN (Ce zu (hr.mono wE) (Ab (Ak (Aa 1) Ag (Cj ⟨wC,wC⟩)) Ae) ⟨⟨_,rfl⟩,λ d hd => ?_⟩))
  obtain ⟨s,rfl,hs1,hs2⟩ := hd
  have hs : 1 <= s /\ s <= 10 := ⟨hs1,hs2⟩
  have h0 : 0 <= s := by omega
  refine ⟨_,AE 3 Ci.nd,?_⟩
  refine Af (A5 4 (Ad.ev (AC zv (hr.mono wE) (Ab (Aa 0) (Ab Ag (Ab (Aa 2) (Ab (Aa 3) (Ab (Em (Ak (Ak (Aa 1) Ag (Cj ⟨wC,wC⟩)) Ag (Bh wC)) Ag Bq) Ae))))) ⟨ns,3,m,s,_,rfl,hl,⟨by decide,by decide⟩,hm2,hs1,rfl⟩) ?_) Ci.nd)
  have hts := QB (ns := ns) (st := 3) (m := m) (s := s) (sl := decide (x / 20000 % 3 = 1)) hs1
  have htl := QC ns 3 m s (decide (x / 20000 % 3 = 1))
  generalize FJ ns 3 m s (decide (x / 20000 % 3 = 1)) = ts0 at hts htl
  refine Af (CN (Ce zw (hr.mono wE) (Ab (Aa 2) (Ab (Aa 3) (Ab (AC kf (hr.mono wE) (Ab (Aa 0) (Ab Ag Ae)) ⟨_,_,rfl,⟨by decide,by decide⟩,rfl⟩) (Ab (AC kf (hr.mono wE) (Ab (Aa 0) (Ab Ag Ae)) ⟨_,_,rfl,⟨by decide,by decide⟩,rfl⟩) Ae)))) ⟨m,s,_,_,rfl,Jy _ _,Jy _ _,hm,hs,λ O1 B bs hb t1 hin => ⟨_,Dg (BP (AE 5 Ci.nd) (BP (AE 6 Ci.nd) Df)),?_⟩⟩))
  have hbl := t1.l
  have hbs := t1.i
  have hhb := hin hb (List.mem_singleton.mpr rfl)
  have kp : Kp O.length O O1 := by
   obtain ⟨Y,rfl⟩ := t1.up
   exact Kp.app _ (Nat.le_refl _)
  have hB := t1.b
  have hfar := t1.f
  clear t1
  refine Fb (λ ρ O' => O' = O1 /\ ∃ ts : List Tn,ρ = [some (.scr (ns.map D.int)),some (.int x),some (.int (m : Nat)),some (.int s),some (.tup (ts.map tD)),some (.tup (bs.map Ds)),some (.ptr hb.q),none,none,none,none,none,none,none,none,none] /\ (∀ t ∈ ts,Gi m s t) /\ ts.length <= 24) ?_ ?_
  ·refine AR (BN.t (Dp (AU (AW T.xj (Ab (Aa 5) Ae) (BY (by first | exact Or.inr rfl | exact Or.inl (Or.inl rfl) | exact Or.inl (Or.inr (Or.inl rfl)) | exact Or.inl (Or.inr (Or.inr ⟨_,rfl,by first | assumption | rfl⟩))))) Ag Fz) (λ hbb => (DE (BN.t (F9 (AU (Aa 3) Ag Fz) (λ hbb => (F8 (AU (Aa 2) Ag Fz))))))))) (λ _ => ?_) (λ _ => Au ⟨rfl,_,rfl,hts,htl⟩)
   refine Af (A5 4 (Ad.ev (Ga (Aa 4) Gd (Gc Ag)) ?_) Ci.nd)
   have := Gg ts0 none (some 3)
   exact Au ⟨rfl,_,rfl,λ t ht => hts t (Gf ht),by omega⟩
  clear hts htl
  rintro ρ O1' ⟨hO,ts,rfl,hts,htl⟩
  subst hO
  have hdeep : ∀ {O' : Ac} {N : Nat} {b : Bk},BA ⟨CK1,CK5,CK3,CK2,CK4,CK0⟩ O' s N 1 B -> b ∈ B -> ∃ (y : Hn) (n : Nat),n <= N /\ Ap ⟨CK1,CK5,CK3,CK2,CK4,CK0⟩ O' y b.q b.m s /\ AI n y b.m s /\ AO y <= 2 /\ AO y <= 1 /\ AH y = b.z /\ AJ y b.m = b.w := λ hB hb => by
   obtain ⟨y,n,h1,h2,h3,h4,h5,h6⟩ := hB.h _ hb
   exact ⟨y,n,h1,h2,h3,by omega,h4,h5,h6⟩
  have hlen5 := Gg ts none (some (Cd (BX ns 1) 1 % 5))
  refine Af (C8 (Bp (Ga (Aa 4) Gd (Gc (Ak (AC kf (hr.mono wE) (Ab (Aa 0) (Ab Ag Ae)) ⟨_,_,rfl,⟨by decide,by decide⟩,rfl⟩) Ag (Bh wC)))) wB) (λ i ρ O' => ∃ v7 v8 v9 : Option D,ρ = [some (.scr (ns.map D.int)),some (.int x),some (.int (m : Nat)),some (.int s),some (.tup (ts.map tD)),some (.tup (bs.map Ds)),some (.ptr hb.q),v7,v8,v9,none,none,none,none,none,none] /\ BA ⟨CK1,CK5,CK3,CK2,CK4,CK0⟩ O' s (25 * i) 1 B /\ Kp O.length O O') ⟨_,_,_,rfl,hB,kp⟩ ?_ ?_)
  ·clear hB kp
   rintro i z ρ O' hz ⟨v7,v8,v9,rfl,hB,kp⟩
   rw [List.getElem?_map] at hz
   obtain ⟨tn,hq,rfl⟩ := Option.map_eq_some_iff.mp hz
   have hi := (List.getElem?_eq_some_iff.mp hq).1
   have hto := hts tn (Gf (List.mem_of_getElem? hq))
   have hsd := hto.said hm2
   have hso : 0 <= tn.2 /\ tn.2 <= s := hto.2.2
   refine ⟨_,Dg (BP (AE 7 Ci.nd) (BP (AE 8 Ci.nd) Df)),?_⟩
   obtain ⟨pv,epv,hpv,hnv,_,hpl⟩ := hB.now hbs
   have hsz : pv.length <= sizeLine := by rw [sizeLine_eq]; omega
   have hpo := hpv.ok hnv
   obtain ⟨hd,n,hn,hd2,hd3,hd4,hd5,hd6,hd7⟩ := hdeep hB hhb.1
   rw [hhb.2] at hd2 hd3
   have hak : A9 ((bs.length : Nat) : Int) s (BH (AZ (pv.map (·.2)) m tn.1)) := by
    refine ⟨by unfold BH; rw [List.length_map,GI,List.length_map,hpl],by omega,λ w hw => ?_⟩
    unfold BH at hw
    rw [Hw,List.map_map,List.map_map] at hw
    obtain ⟨z,hz,rfl⟩ := List.mem_map.mp hw
    have := JD z.2 m s tn.1 (hpo z hz).2.1.choose_spec hsd h0
    right
    show (decide (0 <= Ba z.2 m tn.1) && decide (Ba z.2 m tn.1 <= s)) = true
    rw [decide_eq_true this.1,decide_eq_true this.2]; rfl
   rw [epv]
   refine Af (A3 (El (C := ⟨CK1,CK5,CK3,CK2,CK4,CK0⟩) jh ji jk jl (hr.mono wE) (hr.mono wE) (hr.mono wE) jn (hr.mono wE) kb (hr.mono wE) (Aa 6) hd2 hd3 hd4 wF hbl hak hso (Ab (Ad.cast (BW T.xk (Ab (BL (λ z : Nat × Hn => .int (Ba z.2 m tn.1)) ["_law_hand_here"] ["_law_said"] [7] (Bp (Aa 5) wB) hsz (by exact λ q hq s H fp => ⟨[some _],rfl,(AE 0 (show List.Nodup (["_law_hand_here","_law_said"] : List Str) by decide +kernel)),⟨_,rfl,(Cu (C := ⟨CK1,CK5,CK3,CK2,CK4,CK0⟩) jc ja jb jd (hr.mono wE) je (hr.mono wE) jf (hr.mono wE) (Aa 0) (hpo q hq).1 (hpo q hq).2.1.choose_spec (hpo q hq).2.2 hm h0 hsd (Ab (Aa 1) Ae))⟩⟩)) Ae) (BS (by first | exact Or.inr rfl | exact Or.inl (Or.inl rfl) | exact Or.inl (Or.inr (Or.inl rfl)) | exact Or.inl (Or.inr (Or.inr ⟨_,rfl,by first | assumption | rfl⟩))))) (Hu _ _ _)) (Ab (Aa 8) Ae)) λ O2 c2 d2 => ?_))
   rw [<- epv]
   have hB2 : BA ⟨CK1,CK5,CK3,CK2,CK4,CK0⟩ O2 s (25 * i + 1) 1 B := hB.hear hhb.1 hn (by rw [hhb.2]; exact hd3) hd5 hd6 hd7 (by rw [hhb.2]; exact hak) hso c2 (by rw [hhb.2]; exact d2)
   have kp2 : Kp O.length O O2 := kp.tr (Kp.bl c2 (hfar _ hhb.1))
   clear hB kp c2 d2 hpv hnv hpo hd2 hd3 hd4 hd5 hd6 hd7 hak epv
   refine Af (C8 (Bp (Aa 5) wB) (λ j ρ O' => ∃ v9 : Option D,ρ = [some (.scr (ns.map D.int)),some (.int x),some (.int (m : Nat)),some (.int s),some (.tup (ts.map tD)),some (.tup (bs.map Ds)),some (.ptr hb.q),some (.tup (tn.1.map od)),some (.int tn.2),v9,none,none,none,none,none,none] /\ BA ⟨CK1,CK5,CK3,CK2,CK4,CK0⟩ O' s (25 * i + 1 + j) 1 B /\ Kp O.length O O') ⟨_,rfl,hB2,kp2⟩ ?_ ?_)
   ·clear hB2 kp2
    rintro j z ρ O' hz ⟨v9,rfl,hB,kp⟩
    rw [List.getElem?_map] at hz
    obtain ⟨b,hqb,rfl⟩ := Option.map_eq_some_iff.mp hz
    have hj := (List.getElem?_eq_some_iff.mp hqb).1
    have hbb := hbs b (List.mem_of_getElem? hqb)
    obtain ⟨y,n,hn,hd2,hd3,hd4,hd5,hd6,hd7⟩ := hdeep hB hbb.1
    have hb2 := hbb.2
    refine ⟨_,AE 9 Ci.nd,?_⟩
    refine Af (A3 (El (C := ⟨CK1,CK5,CK3,CK2,CK4,CK0⟩) jh ji jk jl (hr.mono wE) (hr.mono wE) (hr.mono wE) jn (hr.mono wE) kb (hr.mono wE) (Aa 9) hd2 hd3 hd4 wF (by rw [hb2]; exact hm) (by rw [hb2]; exact hsd) hso (Ab (Aa 7) (Ab (Aa 8) Ae)) λ O3 c3 d3 => ?_))
    exact Au ⟨_,rfl,hB.hear hbb.1 hn hd3 hd5 hd6 hd7 (by rw [hb2]; exact hsd) hso c3 d3,kp.tr (Kp.bl c3 (hfar _ hbb.1))⟩
   ·clear hB2 kp2
    rintro ρ O' ⟨v9,rfl,hB,kp⟩
    rw [List.length_map] at hB
    exact Au ⟨_,_,_,rfl,hB.up wF (Nat.le_refl _),kp⟩
  clear hB kp
  rintro ρ O2 ⟨v7,v8,v9,rfl,hB,kp⟩
  rw [List.length_map] at hB
  generalize hN : 25 * (CL ts none (some (Cd (BX ns 1) 1 % 5))).length = N at hB
  have hN9 : N <= 900 := by omega
  clear hN hlen5
  obtain ⟨gd,hgd0⟩ : ∃ gd : List (Option Int),gd = (List.range m).map λ k => some (((k : Nat) : Int) % (s + 1)) := ⟨_,rfl⟩
  have hgd : A9 (m : Nat) s gd := by rw [hgd0]; exact Wm m s hm2 hs1
  refine Af (A5 10 (Ad.ev (Ad.cast (d' := .tup (gd.map od)) (BW T.xk (Ab (BL (λ k : Nat => .int ((0 + (k : Int)) % (s + 1))) ["_law_k"] ["_law_scale_here"] [3] (Ge (Aa 2) T.xp wC wC) (by rw [sizeLine_eq,List.length_range,Int.toNat_natCast]; omega) (by exact λ q hq s H fp => ⟨[some _],rfl,(AE 0 (show List.Nodup (["_law_k","_law_scale_here"] : List Str) by decide +kernel)),⟨_,rfl,(Ak (Aa 0) (Ak (Aa 1) Ag BR) (Bh wF))⟩⟩)) Ae) (BS (by first | exact Or.inr rfl | exact Or.inl (Or.inl rfl) | exact Or.inl (Or.inr (Or.inl rfl)) | exact Or.inl (Or.inr (Or.inr ⟨_,rfl,by first | assumption | rfl⟩))))) (by rw [hgd0,Int.toNat_natCast,List.map_map]; exact congrArg D.tup (List.map_congr_left λ k _ => by rw [Int.zero_add]; rfl))) ?_) Ci.nd)
  clear hgd0
  obtain ⟨pv,epv,hpv,hnv,hws,hpl⟩ := hB.now hbs
  have hsz : pv.length <= sizeLine := by rw [sizeLine_eq]; omega
  have hpo := hpv.ok hnv
  obtain ⟨hd,n,hn,hd2,hd3,hd4,hd5,hd6,hd7⟩ := hdeep hB hhb.1
  rw [hhb.2] at hd2 hd3 hd7
  obtain ⟨zs,hzs⟩ : ∃ zs : List Hn,zs = BI (pv.map (·.2)) m := ⟨_,rfl⟩
  obtain ⟨hz,hhz⟩ : ∃ hz : Hn,hz = AJ hd bs.length := ⟨_,rfl⟩
  have hzl : zs.length = bs.length := by rw [hzs,GJ,List.length_map,hpl]
  have hza : BI zs m = zs := by rw [hzs,LA]
  have hha : AJ hz zs.length = hz := by rw [hzl,hhz,LB]
  have hzw : zs = bs.map (·.w) := by rw [hzs,<- Yb,hws]
  have hhw : hz = hb.w := by rw [hhz,hd7]
  have zat : ∀ (i : Nat) (y : Nat × Hn),pv[i]? = some y -> zs[i]? = some (AJ y.2 m) := λ i y hy => by rw [hzs,Gh,List.getElem?_map,List.getElem?_map,hy]; rfl
  have tok : AI 0 (.t zs hz (List.replicate zs.length 0)) m s /\ AO (.t zs hz (List.replicate zs.length 0)) <= 2 := by
   have h1 : ∀ y ∈ zs,AI 0 y m s /\ AO y <= 1 := λ y hy => by
    rw [hzs,Gh,List.map_map] at hy
    obtain ⟨z,hz,rfl⟩ := List.mem_map.mp hy
    exact ⟨AI.anew _ _ _ (hpv z hz).2.1.choose_spec,by show AO (AJ z.2 m) <= 1; rw [GQ]; exact Nat.le_of_lt_succ (hpv z hz).2.2⟩
   refine ⟨?_,Xp (λ y hy => (h1 y hy).2) (by rw [hhz,GQ]; exact hd5)⟩
   simp only [AI]
   exact ⟨(ES _).mpr λ y hy => (h1 y hy).1,by rw [hzl,hhz]; exact AI.anew _ _ _ hd3,by rw [hzl]; exact hbl,List.length_replicate⟩
  have ezr : (.tup (List.replicate ((pv.map Cq).length : Int).toNat [D.int 0]).flatten : D) = .tup ((List.replicate bs.length (some 0)).map od) := by rw [Ha,List.length_map,Int.toNat_natCast,hpl,List.map_replicate,List.map_replicate]; rfl
  rw [epv]
  refine Af (A5 11 (Ad.ev (Ak (BL (λ z : Nat × Hn => .int (Ba z.2 m gd)) ["_law_hand_here"] ["_law_good"] [10] (Bp (Aa 5) wB) hsz (by exact λ q hq s H fp => ⟨[some _],rfl,(AE 0 (show List.Nodup (["_law_hand_here","_law_good"] : List Str) by decide +kernel)),⟨_,rfl,(Cu (C := ⟨CK1,CK5,CK3,CK2,CK4,CK0⟩) jc ja jb jd (hr.mono wE) je (hr.mono wE) jf (hr.mono wE) (Aa 0) (hpo q hq).1 (hpo q hq).2.1.choose_spec (hpo q hq).2.2 hm h0 hgd (Ab (Aa 1) Ae))⟩⟩)) (D1 (Ab (Cu (C := ⟨CK1,CK5,CK3,CK2,CK4,CK0⟩) jc ja jb jd (hr.mono wE) je (hr.mono wE) jf (hr.mono wE) (Aa 6) hd2 hd3 wF hbl h0 (LZ bs.length s hbl.2 h0) (Ab (Ad.cast (Ak (CV (Ab Ag Ae)) (AW T.xj (Ab (Aa 5) Ae) (BY (by first | exact Or.inr rfl | exact Or.inl (Or.inl rfl) | exact Or.inl (Or.inr (Or.inl rfl)) | exact Or.inl (Or.inr (Or.inr ⟨_,rfl,by first | assumption | rfl⟩))))) (EH (by rw [List.length_map]; omega) (by rw [List.length_map]; omega) (by simp) (by rw [sizeLine_eq,List.length_map,Int.toNat_natCast]; show 1 * _ <= _; omega))) ezr) Ae)) Ae)) (KT (by rw [sizeLine_eq,List.length_map]; show _ + 1 <= _; omega))) ?_) Ci.nd)
  generalize hK : (pv.map λ z => D.int (Ba z.2 m gd)) ++ [.int (Ba hd bs.length (List.replicate bs.length (some 0)))] = kept
  refine Af (CN (Db kh (hr.mono wE) (Ab (Aa 5) (Ab (Aa 6) Ae)) ⟨O2.length,m,s,pv,hb.q,hd,O2,rfl,rfl,rfl,hpv,λ z hz => ?_,hm,hs,by rw [hpl]; exact hbl,rfl,_,AE 12 Ci.nd,?_⟩))
  ·rw [List.mem_singleton.mp hz,hpl]; exact ⟨hd2,⟨n,hd3⟩,Nat.lt_succ_of_le hd5⟩
  have e1 : DD ⟨CK1,CK5,CK3,CK2,CK4,CK0⟩ (pv.map (·.2)) hd O2.length m s = Bb ⟨CK1,CK5,CK3,CK2,CK4,CK0⟩ (.t zs hz (List.replicate zs.length 0)) O2.length m s := by
   unfold DD
   rw [show AJ (.t (pv.map (·.2)) hd []) m = .t zs hz (List.replicate zs.length 0) by simp only [AJ]; rw [<- hzs,List.length_map,hpl,<- hhz,hzl]]
  rw [e1]
  clear e1
  obtain ⟨O3,hO3⟩ : ∃ O3,O3 = O2 ++ Bb ⟨CK1,CK5,CK3,CK2,CK4,CK0⟩ (.t zs hz (List.replicate zs.length 0)) O2.length m s := ⟨_,rfl⟩
  rw [<- hO3]
  have hpv3 : Cm ⟨CK1,CK5,CK3,CK2,CK4,CK0⟩ O3 m s 2 pv := by rw [hO3]; exact hpv.app
  have hpo := hpv3.ok hnv
  refine Af (CN (Ir T.xk (CJ (Ip (λ i => .ptr (O3.length + An (zs.take i))) (λ i => O3 ++ AT ⟨CK1,CK5,CK3,CK2,CK4,CK0⟩ (zs.take i) O3.length m s) (by rw [List.take_zero]; simp only [AT,List.append_nil]) ["_law_hand_here"] [] [] (Bp (Aa 5) wB) hsz ?turn (Bx.as Ae ⟨_,BS (Or.inl (Or.inl rfl)),_,AE 13 Ci.nd,?_⟩)))))
  case turn =>
   intro i y hy s2 H2 fp
   have hxx := hpo y (List.mem_of_getElem? hy)
   have el : (O3 ++ AT ⟨CK1,CK5,CK3,CK2,CK4,CK0⟩ (zs.take i) O3.length m s).length = O3.length + An (zs.take i) := by rw [List.length_append,DW]
   refine ⟨[some (.ptr y.1)],rfl,AE 0 (show List.Nodup (["_law_hand_here"] : List Str) by decide +kernel),En (C := ⟨CK1,CK5,CK3,CK2,CK4,CK0⟩) jq jr jt ju (hr.mono wE) (hr.mono wE) (hr.mono wE) jw (hr.mono wE) kc (hr.mono wE) (Aa 0) hxx.1.ap hxx.2.1.choose_spec hxx.2.2 hm hs ⟨?_,?_⟩⟩
   ·show D.ptr _ = D.ptr _
    rw [el]
   ·show _ = O3 ++ AT ⟨CK1,CK5,CK3,CK2,CK4,CK0⟩ (zs.take (i + 1)) O3.length m s
    rw [HY ⟨CK1,CK5,CK3,CK2,CK4,CK0⟩ (zat i y hy),el,<- List.append_assoc]
  rw [hpl,<- hzl,List.take_of_length_le (Nat.le_refl _)]
  obtain ⟨O4,hO4⟩ : ∃ O4,O4 = O3 ++ AT ⟨CK1,CK5,CK3,CK2,CK4,CK0⟩ zs O3.length m s := ⟨_,rfl⟩
  rw [<- hO4]
  have e2 : ((List.range zs.length).map λ i => D.ptr (O3.length + An (zs.take i))) = (Bd zs O3.length).map Cq := by unfold Bd; rw [List.map_map]; rfl
  rw [e2]
  clear e2
  have hT : Ap ⟨CK1,CK5,CK3,CK2,CK4,CK0⟩ O4 (.t zs hz (List.replicate zs.length 0)) O2.length m s := by
   have := Fp ⟨CK1,CK5,CK3,CK2,CK4,CK0⟩ (.t zs hz (List.replicate zs.length 0)) O2 (AT ⟨CK1,CK5,CK3,CK2,CK4,CK0⟩ zs O3.length m s) m s
   rw [<- hO3,<- hO4] at this; exact this
  have hpv4 : Cm ⟨CK1,CK5,CK3,CK2,CK4,CK0⟩ O4 m s 2 pv := by rw [hO4]; exact hpv3.app
  have hd24 : Ap ⟨CK1,CK5,CK3,CK2,CK4,CK0⟩ O4 hd hb.q bs.length s := by rw [hO4,hO3]; exact hd2.ap.ap
  refine Af (AR (AY.cast (k' := false) (BN.t (Dp (Ck (B7 (EK T.xq (Aa 12) hT.to.1 T.fv T.bn T.lc))) (λ hbb => (DE (Ck (B7 (AC kg (hr.mono wE) (Ab (CV (Ab (Av (Aa 12) hT.to.1 T.fv.cls T.fx (Hf _ _ _ _ _)) (Ab (Av (Aa 12) hT.to.1 T.fv.cls T.fy (Gs _ _ _ _ _)) Ae))) (Ab (CV (Ab (Aa 2) (Ab (Aa 3) Ae))) Ae)) ⟨[(m : Nat),s],_,rfl,Or.inr (Or.inr rfl),by show 2 <= 63; decide,rfl⟩))))))) rfl) (λ hk => by cases hk) (λ _ => Au ?_))
  refine Af (Qm (R := λ k O' => k = false /\ ∃ (n : Nat) (zs' : List Hn) (hz' : Hn) (ch' : List Int),Kp O2.length O2 O' /\ Ap ⟨CK1,CK5,CK3,CK2,CK4,CK0⟩ O' (.t zs' hz' ch') O2.length m s /\ AI n (.t zs' hz' ch') m s /\ AO (.t zs' hz' ch') <= 2 /\ AJ (.t zs' hz' ch') m = .t zs hz (List.replicate zs.length 0)) (WY (W0 (Lg gk (hr.mono wE) (CJ (Ad.ev (Aa 12) (CJ (Ad.ev (Aa 13) (CJ (En (C := ⟨CK1,CK5,CK3,CK2,CK4,CK0⟩) jq jr jt ju (hr.mono wE) (hr.mono wE) (hr.mono wE) jw (hr.mono wE) kc (hr.mono wE) (Aa 6) hd24 hd3 hd4 hbl hs (CJ (Ad.ev (Aa 4) (Bx.as Ae ?_)))))))))))) ?_)
  ·rw [<- hhz,<- hzl]
   refine ⟨O2.length,O3.length,O4.length,m,s,zs,hz,ts,_,rfl,BZ.lay hO3 hO4 tok.1 tok.2,hza,hha,hm,hs,hts,htl,λ O' n' zs' hz' ch' k1 t1 an => ⟨true,rfl,rfl,n',zs',hz',ch',?_,t1.t,t1.ok,t1.d,an⟩⟩
   refine Kp.tr ?_ k1
   rw [hO4,hO3,List.append_assoc,List.append_assoc]
   exact Kp.app _ (Nat.le_refl _)
  rintro k O5 ⟨ek,n5,zs',hz',ch',k5,t5,ok5,d5,an5⟩
  refine ⟨(λ z => by rw [ek] at z; cases z),λ _ => Au ?_⟩
  clear hT hpv4 hd24 hpv3 hpo hO4 hO3
  have hpv5 : Cm ⟨CK1,CK5,CK3,CK2,CK4,CK0⟩ O5 m s 2 pv := λ z hz => ⟨(hpv z hz).1.own λ j _ h2 => k5.o j (by have := Ap.le _ _ _ _ (hpv z hz).1; omega),(hpv z hz).2⟩
  have hpo := hpv5.ok hnv
  have hd25 : Ap ⟨CK1,CK5,CK3,CK2,CK4,CK0⟩ O5 hd hb.q bs.length s := hd2.own λ j _ h2 => k5.o j (by have := Ap.le _ _ _ _ hd2; omega)
  have hK2 : kept = ((AZ (pv.map (·.2)) m gd) ++ [Ba hd bs.length (List.replicate bs.length (some 0))]).map D.int := by rw [<- hK,JB,List.map_append]; rfl
  refine Af (AR (AY.cast (k' := false) (AU (Ak (BL (λ z : Nat × Hn => .int (Ba z.2 m gd)) ["_law_hand_here"] ["_law_good"] [10] (Bp (Aa 5) wB) hsz (by exact λ q hq s H fp => ⟨[some _],rfl,(AE 0 (show List.Nodup (["_law_hand_here","_law_good"] : List Str) by decide +kernel)),⟨_,rfl,(Cu (C := ⟨CK1,CK5,CK3,CK2,CK4,CK0⟩) jc ja jb jd (hr.mono wE) je (hr.mono wE) jf (hr.mono wE) (Aa 0) (hpo q hq).1 (hpo q hq).2.1.choose_spec (hpo q hq).2.2 hm h0 hgd (Ab (Aa 1) Ae))⟩⟩)) (D1 (Ab (Cu (C := ⟨CK1,CK5,CK3,CK2,CK4,CK0⟩) jc ja jb jd (hr.mono wE) je (hr.mono wE) jf (hr.mono wE) (Aa 6) hd25 hd3 wF hbl h0 (LZ bs.length s hbl.2 h0) (Ab (Ad.cast (Ak (CV (Ab Ag Ae)) (AW T.xj (Ab (Aa 5) Ae) (BY (by first | exact Or.inr rfl | exact Or.inl (Or.inl rfl) | exact Or.inl (Or.inr (Or.inl rfl)) | exact Or.inl (Or.inr (Or.inr ⟨_,rfl,by first | assumption | rfl⟩))))) (EH (by rw [List.length_map]; omega) (by rw [List.length_map]; omega) (by simp) (by rw [sizeLine_eq,List.length_map,Int.toNat_natCast]; show 1 * _ <= _; omega))) ezr) Ae)) Ae)) (KT (by rw [sizeLine_eq,List.length_map]; show _ + 1 <= _; omega))) (Aa 11) (XD hr (Or.inl rfl) (Or.inl rfl) (by rw [hK,hK2]; exact plL _) (by rw [hK2]; exact plL _) (by rw [hK,hK2]; exact Nat.le_trans (Nat.min_le_left _ _) (Xl _)))) (by rw [hK,hK2,W8]; rfl)) (λ hk => by cases hk) (λ _ => Au ?_))
  rw [<- epv]
  have hB5 : BA ⟨CK1,CK5,CK3,CK2,CK4,CK0⟩ O5 s N 1 B := hB.own λ b hb i _ h2 => k5.o i (by have := hB.le hb; omega)
  have hBl : ∀ b ∈ B,b.q + b.z <= O2.length := λ b hb => hB.le hb
  have kp5 : Kp O.length O O5 := kp.tr (k5.dn kp.l)
  have hlo : O.length <= O2.length := kp.l
  clear hB kp k5 hpv5 hpo hd25 hK2 hK hpv hnv hws hpl epv hd2 hd3 hd4 hd5 hd6 hd7 hsz zat
  obtain ⟨b0,hb0⟩ : ∃ b,bs[0]? = some b := ⟨_,List.getElem?_eq_getElem wF⟩
  have hbb := hbs b0 (List.mem_of_getElem? hb0)
  have hat : Bt (bs.map Ds) 0 = some (.ptr b0.q) := Er (j := 0) (by rw [List.getElem?_map,hb0]; rfl)
  have hlen2 := Gg ts none (some 2)
  refine Af (C8 (Bp (Ga (Aa 4) Gd (Gc Ag)) wB) (λ i ρ O' => ∃ v7 v8 : Option D,ρ = [some (.scr (ns.map D.int)),some (.int x),some (.int (m : Nat)),some (.int s),some (.tup (ts.map tD)),some (.tup (bs.map Ds)),some (.ptr hb.q),v7,v8,v9,some (.tup (gd.map od)),some (.lst kept),some (.ptr O2.length),some (.tup ((Bd zs O3.length).map Cq)),none,none] /\ BA ⟨CK1,CK5,CK3,CK2,CK4,CK0⟩ O' s (N + i) 1 B /\ Kp O.length O O' /\ ∀ j,O2.length <= j -> O'[j]? = O5[j]?) ⟨_,_,rfl,hB5,kp5,λ _ _ => rfl⟩ ?_ ?_)
  ·clear hB5 kp5
   rintro i z ρ O' hz ⟨v7,v8,rfl,hB,kp,hsm⟩
   rw [List.getElem?_map] at hz
   obtain ⟨tn,hq,rfl⟩ := Option.map_eq_some_iff.mp hz
   have hi := (List.getElem?_eq_some_iff.mp hq).1
   have hto := hts tn (Gf (List.mem_of_getElem? hq))
   have hsd := hto.said hm2
   have hso : 0 <= tn.2 /\ tn.2 <= s := hto.2.2
   obtain ⟨y,n,hn,hd2,hd3,hd4,hd5,hd6,hd7⟩ := hdeep hB hbb.1
   have hb2 := hbb.2
   have hfb := hBl _ hbb.1
   refine ⟨_,Dg (BP (AE 7 Ci.nd) (BP (AE 8 Ci.nd) Df)),?_⟩
   refine Af (A3 (El (C := ⟨CK1,CK5,CK3,CK2,CK4,CK0⟩) jh ji jk jl (hr.mono wE) (hr.mono wE) (hr.mono wE) jn (hr.mono wE) kb (hr.mono wE) (CZ (Aa 5) Ag (hat)) hd2 hd3 hd4 wF (by rw [hb2]; exact hm) (by rw [hb2]; exact hsd) hso (Ab (Aa 7) (Ab (Aa 8) Ae)) λ O3 c3 d3 => ?_))
   exact Au ⟨_,_,rfl,hB.hear hbb.1 hn hd3 hd5 hd6 hd7 (by rw [hb2]; exact hsd) hso c3 d3,kp.tr (Kp.bl c3 (hfar _ hbb.1)),λ j hj => by rw [c3.o j (.inr wF)]; exact hsm j hj⟩
  clear hB5 kp5 hat
  rintro ρ O6 ⟨v7,v8,rfl,hB,kp,hsm⟩
  have t6 : Ap ⟨CK1,CK5,CK3,CK2,CK4,CK0⟩ O6 (.t zs' hz' ch') O2.length m s := t5.own λ j h1 _ => hsm j h1
  generalize hM : N + (List.map tD (CL ts none (some 2))).length = M at hB
  have hlo6 : O.length <= O6.length := kp.l
  refine Af (CN (En (C := ⟨CK1,CK5,CK3,CK2,CK4,CK0⟩) jq jr jt ju (hr.mono wE) (hr.mono wE) (hr.mono wE) jw (hr.mono wE) kc (hr.mono wE) (Aa 12) t6 ok5 d5 hm hs ⟨_,AE 14 Ci.nd,?_⟩))
  rw [an5]
  obtain ⟨O7,hO7⟩ : ∃ O7,O7 = O6 ++ Bb ⟨CK1,CK5,CK3,CK2,CK4,CK0⟩ (.t zs hz (List.replicate zs.length 0)) O6.length m s := ⟨_,rfl⟩
  rw [<- hO7]
  have hB7 : BA ⟨CK1,CK5,CK3,CK2,CK4,CK0⟩ O7 s M 1 B := by rw [hO7]; exact hB.app
  have t7 : Ap ⟨CK1,CK5,CK3,CK2,CK4,CK0⟩ O7 (.t zs hz (List.replicate zs.length 0)) O6.length m s := by
   have := Fp ⟨CK1,CK5,CK3,CK2,CK4,CK0⟩ (.t zs hz (List.replicate zs.length 0)) O6 [] m s
   rw [List.append_nil,<- hO7] at this; exact this
  have hszb : bs.length <= sizeLine := by rw [sizeLine_eq]; omega
  refine Af (AR (AY.cast (k' := false) (BN.t (Dp (Ck (B7 (EK T.xq (Aa 14) t7.to.1 T.fv T.fw T.ld))) (λ hbb => (DE (Ck (B7 (AC kg (hr.mono wE) (Ab (Ev.evp (Dq kl (hr.mono wE) (Aa 14) t7.to.1 (Ew _ _ _ _ _ wD) ⟨O6.length,m,s,_,_,_,rfl,t7,rfl,rfl⟩)) (Ab (BL (λ b : Bk => .int 0) ["_law_hand_here"] [] [] (Bp (Aa 5) wB) hszb (by exact λ q hq s H fp => ⟨[some _],rfl,(AE 0 (show List.Nodup (["_law_hand_here"] : List Str) by decide +kernel)),⟨_,rfl,Ag⟩⟩)) Ae)) ⟨List.replicate zs.length 0,_,rfl,Or.inl (by rw [List.map_const',List.map_replicate,hzl]),by rw [List.length_replicate]; omega,rfl⟩))))))) rfl) (λ hk => by cases hk) (λ _ => Au ?_))
  obtain ⟨pv,epv,hpv,hnv,hws,hpl⟩ := hB7.now hbs
  have hsz : pv.length <= sizeLine := by rw [sizeLine_eq]; omega
  have hpo := hpv.ok hnv
  obtain ⟨hd,n,hn,hd2,hd3,hd4,hd5,hd6,hd7⟩ := hdeep hB7 hhb.1
  rw [hhb.2] at hd2 hd3 hd7
  have zat : ∀ (i : Nat) (y : Nat × Hn),pv[i]? = some y -> zs[i]? = some (AJ y.2 m) := λ i y hy => by rw [hzw,<- hws,List.getElem?_map,hy]; rfl
  rw [epv]
  refine Af (CN (Ir T.xk (CJ (Ip (λ i => .ptr (O7.length + An (zs.take i))) (λ i => O7 ++ AT ⟨CK1,CK5,CK3,CK2,CK4,CK0⟩ (zs.take i) O7.length m s) (by rw [List.take_zero]; simp only [AT,List.append_nil]) ["_law_hand_here"] [] [] (Bp (Aa 5) wB) hsz ?turn (Bx.as Ae ⟨_,BS (Or.inl (Or.inl rfl)),_,AE 15 Ci.nd,?_⟩)))))
  case turn =>
   intro i y hy s2 H2 fp
   have hxx := hpo y (List.mem_of_getElem? hy)
   have el : (O7 ++ AT ⟨CK1,CK5,CK3,CK2,CK4,CK0⟩ (zs.take i) O7.length m s).length = O7.length + An (zs.take i) := by rw [List.length_append,DW]
   refine ⟨[some (.ptr y.1)],rfl,AE 0 (show List.Nodup (["_law_hand_here"] : List Str) by decide +kernel),En (C := ⟨CK1,CK5,CK3,CK2,CK4,CK0⟩) jq jr jt ju (hr.mono wE) (hr.mono wE) (hr.mono wE) jw (hr.mono wE) kc (hr.mono wE) (Aa 0) hxx.1.ap hxx.2.1.choose_spec hxx.2.2 hm hs ⟨?_,?_⟩⟩
   ·show D.ptr _ = D.ptr _
    rw [el]
   ·show _ = O7 ++ AT ⟨CK1,CK5,CK3,CK2,CK4,CK0⟩ (zs.take (i + 1)) O7.length m s
    rw [HY ⟨CK1,CK5,CK3,CK2,CK4,CK0⟩ (zat i y hy),el,<- List.append_assoc]
  rw [hpl,<- hzl,List.take_of_length_le (Nat.le_refl _)]
  obtain ⟨O8,hO8⟩ : ∃ O8,O8 = O7 ++ AT ⟨CK1,CK5,CK3,CK2,CK4,CK0⟩ zs O7.length m s := ⟨_,rfl⟩
  rw [<- hO8]
  have e2 : ((List.range zs.length).map λ i => D.ptr (O7.length + An (zs.take i))) = (Bd zs O7.length).map Cq := by unfold Bd; rw [List.map_map]; rfl
  rw [e2]
  clear e2
  have hd28 : Ap ⟨CK1,CK5,CK3,CK2,CK4,CK0⟩ O8 hd hb.q bs.length s := by rw [hO8]; exact hd2.ap
  refine Af (AM (Lg gk (hr.mono wE) (CJ (Ad.ev (Aa 14) (CJ (Ad.ev (Aa 15) (CJ (En (C := ⟨CK1,CK5,CK3,CK2,CK4,CK0⟩) jq jr jt ju (hr.mono wE) (hr.mono wE) (hr.mono wE) jw (hr.mono wE) kc (hr.mono wE) (Aa 6) hd28 hd3 hd4 hbl hs (CJ (Ad.ev (Ga (Aa 4) Gd (Gc Ag)) (Bx.as Ae ?_)))))))))))
  rw [show AJ hd bs.length = hz by rw [hd7,hhw],<- hzl]
  have hlen6 := Gg ts none (some 6)
  refine ⟨O6.length,O7.length,O8.length,m,s,zs,hz,_,_,rfl,BZ.lay hO7 hO8 tok.1 tok.2,hza,hha,hm,hs,λ t ht => hts t (Gf ht),by omega,λ O' n' zs' hz' ch' k1 t1 an => ⟨Kp.up ?_,rfl,hR⟩⟩
  refine (kp.tr ?_).tr (k1.dn hlo6)
  rw [hO8,hO7,List.append_assoc,List.append_assoc]
  exact Kp.app _ hlo6
end
theorem VL {α : Type} {us : List α} (h : us.length = 1) : ∃ x0,us = [x0] := by
 match us,h with
 | [x0],_ => exact ⟨_,rfl⟩
theorem VJ {α : Type} {us : List α} (h : us.length = 2) : ∃ x0 x1,us = [x0,x1] := by
 match us,h with
 | [x0,x1],_ => exact ⟨_,_,rfl⟩
theorem Oy {α : Type} {us : List α} (h : us.length = 3) : ∃ x0 x1 x2,us = [x0,x1,x2] := by
 match us,h with
 | [x0,x1,x2],_ => exact ⟨_,_,_,rfl⟩
theorem Ox {α : Type} {us : List α} (h : us.length = 4) : ∃ x0 x1 x2 x3,us = [x0,x1,x2,x3] := by
 match us,h with
 | [x0,x1,x2,x3],_ => exact ⟨_,_,_,_,rfl⟩
theorem Ow {α : Type} {us : List α} (h : us.length = 5) : ∃ x0 x1 x2 x3 x4,us = [x0,x1,x2,x3,x4] := by
 match us,h with
 | [x0,x1,x2,x3,x4],_ => exact ⟨_,_,_,_,_,rfl⟩
theorem VI {α : Type} {us : List α} (h : us.length = 7) : ∃ x0 x1 x2 x3 x4 x5 x6,us = [x0,x1,x2,x3,x4,x5,x6] := by
 match us,h with
 | [x0,x1,x2,x3,x4,x5,x6],_ => exact ⟨_,_,_,_,_,_,_,rfl⟩
def FD (K : PySem.W.Frag) (x : Str) (st : Stmt) (f : Addr) : Prop := PySem.W.nsIn K mainGlobals x = some (some (.ref f)) /\ ∃ fd,Aw K x x st f fd
def FM (K : PySem.W.Frag) (C : Addr) (x q : Str) (st : Stmt) (f : Addr) : Prop := PySem.W.findIn K (.ref C) x = some (some (.ref f)) /\ PySem.W.isFn K (.ref f) = true /\ ∃ fd,Aw K x q st f fd
section
variable {K : PySem.W.Frag} {C : Addr} {x q : Str} {st : Stmt} {f : Addr} {oc : Value} {od an : Option Addr} {osl : Array (Option Value)} {kV doc pm cdv ct : Value}
theorem fd_mk (a : PySem.W.nsIn K mainGlobals x = some (some (.ref f))) (l : K.lookup f = some ⟨oc,od,.func (PySem.W.fnOf x x (Dd st) (CK st) (Ar st) .none kV doc pm an cdv ct),osl⟩) (c : PySem.W.codeIn K cdv x = true) (k : PySem.W.keepIn K (.ref f) = true) : FD K x st f := ⟨a,_,OQ l c k⟩
theorem fm_mk (a : PySem.W.findIn K (.ref C) x = some (some (.ref f))) (i : PySem.W.isFn K (.ref f) = true) (l : K.lookup f = some ⟨oc,od,.func (PySem.W.fnOf x q (Dd st) (CK st) (Ar st) .none kV doc pm an cdv ct),osl⟩) (c : PySem.W.codeIn K cdv q = true) (k : PySem.W.keepIn K (.ref f) = true) : FM K C x q st f := ⟨a,i,_,OQ l c k⟩
end
section
variable {P : Program} {w : World} {K : PySem.W.Frag} {mg : Str -> Option Value} {base : Heap} {x q : Str} {st : Stmt} {f : Addr} {fd : FuncData} {ps : List Str} {k : Nat} {sp : AQ}
theorem Ay (E : Aw K x q st f fd) (h : ∀ (kV doc pm : Value) (an : Option Addr) (cdv ct : Value) (us : List Value),us.length = ps.length -> bindArgs (PySem.W.fnOf x q (Dd st) (CK st) (Ar st) .none kV doc pm an cdv ct) ⟨us,[]⟩ = pure (ps.zip us) := by intro _ _ _ _ _ _ us hl; first | (obtain ⟨_,rfl⟩ := VL hl; rfl) | (obtain ⟨_,_,rfl⟩ := VJ hl; rfl) | (obtain ⟨_,_,_,rfl⟩ := Oy hl; rfl) | (obtain ⟨_,_,_,_,rfl⟩ := Ox hl; rfl) | (obtain ⟨_,_,_,_,_,rfl⟩ := Ow hl; rfl) | (obtain ⟨_,_,_,_,_,_,_,rfl⟩ := VI hl; rfl)) : L2.Binds K fd ps [] := E.binds h
theorem Bi {C : Addr} (W : AF P w K mg base AK k f fd ps (AG K sp)) (a : PySem.W.findIn K (.ref C) x = some (some (.ref f))) (i : PySem.W.isFn K (.ref f) = true) (E : PySem.W.keepIn K (.ref f) = true) (b : L2.Binds K fd ps []) (c : A6 K C) : Ai P w K mg base C k x sp := ⟨⟨_,_,_,W,⟨a,i,E⟩,b⟩,c⟩
theorem F4 {C : Addr} (W : AF P w K mg base AK k f fd ps (AG K sp)) (m : PySem.W.makesIn K C = true) (a : PySem.W.findIn K (.ref C) "__init__" = some (some (.ref f))) (i : PySem.W.isFn K (.ref f) = true) (E : PySem.W.keepIn K (.ref C) = true) (b : L2.Binds K fd ps []) (t : mg x = some (.ref C)) : Cv P w K mg base C k x sp := ⟨⟨_,_,_,W,⟨m,a,i,E⟩,b⟩,t⟩
end
def NZ (K : PySem.W.Frag) (x : Str) : Prop := PySem.W.nsIn K mainGlobals x = some none
def CB (K : PySem.W.Frag) (C : Addr) : Prop := PySem.W.plainGet K C Str.empty = true /\ PySem.W.hasDictIn K C = true /\ PySem.W.plainOver K C = true /\ PySem.W.findIn K (.ref C) "__setattr__" = some (some (.builtin "object.__setattr__")) /\ PySem.W.findIn K (.ref C) "__class__" = some (some (.builtin "object.__class__")) /\ PySem.W.mroIn K C (.type "object") = some true
theorem CB.ty {K : PySem.W.Frag} {C : Addr} (h : CB K C) (gn : PySem.W.specialIn K (.builtin "object.__class__") "__get__" = some (some (.builtin "getset_descriptor.__get__"))) (gt : PySem.W.takesIn K (.builtin "object.__class__") = some true) : Co K C := ⟨⟨h.1,h.2.1,h.2.2.1,h.2.2.2.1⟩,h.2.2.2.2.1,gn,gt,h.2.2.2.2.2⟩
theorem all_mk {l : PySem.W.OpenLaw} {w : World} {K : PySem.W.Frag} {h : Heap} {mg : Str -> Option Value} {fa : Addr} (X : K.In h) (G : h.Ns mainGlobals mg) (hfa : mg "law" = some (.ref fa)) {f0 f1 f2 f3 f4 f5 f6 f7 f8 f9 f10 f11 f12 f13 f14 f15 f16 f17 f18 f19 f20 f21 f22 f23 f24 f25 f26 f27 f28 f29 f30 f31 f32 f33 f34 f35 f36 f37 f38 f39 f40 f42 f43 f44 f45 f46 f47 f48 f49 f50 f51 f52 f53 f54 f55 f56 f57 f58 f59 f60 f61 f62 f63 f64 f65 f66 f67 f68 : Addr} {f41 : Addr} {od41 an41 : Option Addr} {sl41 : Array (Option Value)} {oc41 kV41 dc41 pm41 cd41 ct41 : Value} {CK1 CK5 CK3 CK2 CK0 CK4 : Addr} {tk0 : Tok} {tk1 : Tok} {tk2 : Tok} {tk3 : Tok} {tk4 : Tok} {T41 : Addr} {cT41 : Value} {dT41 : Option Addr} {nT41 : Nat} {sT41 : Array (Option Value)}
  (aC0 : PySem.W.nsIn K mainGlobals "Hand" = some (some (.ref CK1)))
  (aC1 : PySem.W.nsIn K mainGlobals "Weigher" = some (some (.ref CK5)))
  (aC2 : PySem.W.nsIn K mainGlobals "Shifter" = some (some (.ref CK3)))
  (aC3 : PySem.W.nsIn K mainGlobals "Rounder" = some (some (.ref CK2)))
  (aC4 : PySem.W.nsIn K mainGlobals "Follower" = some (some (.ref CK0)))
  (aC5 : PySem.W.nsIn K mainGlobals "Tier" = some (some (.ref CK4)))
  (d0 : FD K "is_whole" JZ f0)
  (d1 : FD K "counted" J5 f1)
  (d2 : FD K "middle" JK f2)
  (d3 : FD K "check_within" J6 f3)
  (d4 : FD K "check_scale" Ka f4)
  (d5 : FD K "check_making" Kd f5)
  (d6 : FD K "check_fraction" Ke f6)
  (d7 : FD K "check_share" J9 f7)
  (d8 : FD K "is_on_scale" J2 f8)
  (d9 : FD K "is_said" J1 f9)
  (d10 : FD K "check_said" Kb f10)
  (d11 : FD K "power" JI f11)
  (d12 : FD K "charge" Kf f12)
  (d13 : FD K "is_turn" J0 f13)
  (d14 : FD K "check_turn" J7 f14)
  (d15 : FD K "awake_in" Kg f15)
  (d16 : FD K "middle_awake" JJ f16)
  (d17 : FD K "times_awake" JE f17)
  (d18 : FD K "times_asleep" JF f18)
  (d19 : FD K "times" JG f19)
  (d20 : FD K "check_push" Kc f20)
  (d21 : FD K "push_of" JH f21)
  (d22 : FD K "first_least" J4 f22)
  (d23 : FM K CK1 "__init__" "Hand.__init__" KB f23)
  (d24 : FM K CK1 "heeded" "Hand.heeded" Ky f24)
  (d25 : FM K CK5 "heeded" "Weigher.heeded" Kj f25)
  (d26 : FM K CK2 "heeded" "Rounder.heeded" Kt f26)
  (d27 : FM K CK1 "say" "Hand.say" Kx f27)
  (d28 : FM K CK1 "hear" "Hand.hear" Kz f28)
  (d29 : FM K CK1 "anew" "Hand.anew" KA f29)
  (d30 : FM K CK2 "__init__" "Rounder.__init__" Kw f30)
  (d31 : FM K CK2 "hear" "Rounder.hear" Ku f31)
  (d32 : FM K CK2 "anew" "Rounder.anew" Kv f32)
  (d33 : FM K CK5 "__init__" "Weigher.__init__" Km f33)
  (d34 : FM K CK3 "__init__" "Shifter.__init__" Ks f34)
  (d35 : FM K CK5 "weigh" "Weigher.weigh" Ki f35)
  (d36 : FM K CK3 "deal" "Shifter.deal" Kq f36)
  (d37 : FM K CK5 "hear" "Weigher.hear" Kk f37)
  (d38 : FM K CK3 "hear" "Shifter.hear" Ko f38)
  (d39 : FM K CK5 "anew" "Weigher.anew" Kl f39)
  (d40 : FM K CK3 "anew" "Shifter.anew" Kr f40)
  (a41 : PySem.W.findIn K (.ref CK0) "__init__" = some (some (.ref f41)))
  (i41 : PySem.W.isFn K (.ref f41) = true)
  (l41 : K.lookup f41 = some ⟨oc41,od41,.func (PySem.W.fnOf "__init__" "Follower.__init__" (Dd FU) (CK FU) (Ar FU) (.ref T41) kV41 dc41 pm41 an41 cd41 ct41),sl41⟩)
  (t41 : K.lookup T41 = some ⟨cT41,dT41,.seq #[.none] nT41,sT41⟩)
  (c41 : PySem.W.codeIn K cd41 "Follower.__init__" = true)
  (k41 : PySem.W.keepIn K (.ref f41) = true)
  (d42 : FM K CK0 "say" "Follower.say" KC f42)
  (d43 : FM K CK0 "hear" "Follower.hear" KD f43)
  (d44 : FM K CK0 "anew" "Follower.anew" KF f44)
  (d45 : FD K "are_alike" Kh f45)
  (d46 : FD K "is_head" J3 f46)
  (d47 : FD K "check_tier" J8 f47)
  (d48 : FM K CK4 "hand_charges" "Tier.hand_charges" Kn f48)
  (d49 : FM K CK4 "__init__" "Tier.__init__" HC f49)
  (d50 : FM K CK4 "ask" "Tier.ask" HA f50)
  (d51 : FM K CK4 "say" "Tier.say" Hy f51)
  (d52 : FM K CK4 "hear" "Tier.hear" Hz f52)
  (d53 : FM K CK4 "anew" "Tier.anew" HB f53)
  (d54 : FD K "_law_cell_at" JX f54)
  (d55 : FD K "_law_next" JR f55)
  (d56 : FD K "_law_seed" JO f56)
  (d57 : FD K "_law_turn" JN f57)
  (d58 : FD K "_law_turns" JM f58)
  (d59 : FD K "_law_many" JS f59)
  (d60 : FD K "_law_scale" JP f60)
  (d61 : FD K "_law_hand" JV f61)
  (d62 : FD K "_law_hands" JU f62)
  (d63 : FD K "_law_two" JL f63)
  (d64 : FD K "_law_numbers" JQ f64)
  (d65 : FD K "_law_against" JY f65)
  (d66 : FD K "_law_hears" JT f66)
  (d67 : FD K "_law_gone" JW f67)
  (d68 : FD K "law" FT f68)
  (cb0 : CB K CK1)
  (n0_many : As K CK1 "many")
  (n0_scale : As K CK1 "scale")
  (q0_Hand : PySem.W.kitOne K (.ref CK1) (.ref CK1) = some true)
  (q0_Tier : PySem.W.kitOne K (.ref CK1) (.ref CK4) = some false)
  (mk0 : PySem.W.makesIn K CK1 = true)
  (kc0 : PySem.W.keepIn K (.ref CK1) = true)
  (so0___init__ : PySem.W.specialIn K (.ref CK1) "__getattribute__" = some (some (.builtin "type.__getattribute__")))
  (rd0___init__ : PySem.W.readsIn K CK1 (.type "type") = true)
  (fc0___init__ : PySem.W.findCls K (.ref CK1) (.type "type") "__init__" = some (.val (.ref f23)))
  (cb1 : CB K CK5)
  (n1_many : As K CK5 "many")
  (n1_scale : As K CK5 "scale")
  (n1_top : As K CK5 "top")
  (n1_bottom : As K CK5 "bottom")
  (n1_tops : As K CK5 "tops")
  (n1_under : As K CK5 "under")
  (q1_Hand : PySem.W.kitOne K (.ref CK5) (.ref CK1) = some true)
  (q1_Tier : PySem.W.kitOne K (.ref CK5) (.ref CK4) = some false)
  (mk1 : PySem.W.makesIn K CK5 = true)
  (kc1 : PySem.W.keepIn K (.ref CK5) = true)
  (e1_say : PySem.W.findIn K (.ref CK5) "say" = some (some (.ref f27)))
  (so1___init__ : PySem.W.specialIn K (.ref CK5) "__getattribute__" = some (some (.builtin "type.__getattribute__")))
  (rd1___init__ : PySem.W.readsIn K CK5 (.type "type") = true)
  (fc1___init__ : PySem.W.findCls K (.ref CK5) (.type "type") "__init__" = some (.val (.ref f33)))
  (cb2 : CB K CK3)
  (n2_many : As K CK3 "many")
  (n2_scale : As K CK3 "scale")
  (n2_top : As K CK3 "top")
  (n2_bottom : As K CK3 "bottom")
  (n2_tops : As K CK3 "tops")
  (n2_under : As K CK3 "under")
  (n2_share : As K CK3 "share")
  (n2_parts : As K CK3 "parts")
  (q2_Hand : PySem.W.kitOne K (.ref CK3) (.ref CK1) = some true)
  (q2_Tier : PySem.W.kitOne K (.ref CK3) (.ref CK4) = some false)
  (mk2 : PySem.W.makesIn K CK3 = true)
  (kc2 : PySem.W.keepIn K (.ref CK3) = true)
  (e2_heeded : PySem.W.findIn K (.ref CK3) "heeded" = some (some (.ref f25)))
  (e2_say : PySem.W.findIn K (.ref CK3) "say" = some (some (.ref f27)))
  (e2_weigh : PySem.W.findIn K (.ref CK3) "weigh" = some (some (.ref f35)))
  (cb3 : CB K CK2)
  (n3_many : As K CK2 "many")
  (n3_scale : As K CK2 "scale")
  (n3_inside : As K CK2 "inside")
  (n3_over : As K CK2 "over")
  (q3_Hand : PySem.W.kitOne K (.ref CK2) (.ref CK1) = some true)
  (q3_Tier : PySem.W.kitOne K (.ref CK2) (.ref CK4) = some false)
  (mk3 : PySem.W.makesIn K CK2 = true)
  (kc3 : PySem.W.keepIn K (.ref CK2) = true)
  (e3_say : PySem.W.findIn K (.ref CK2) "say" = some (some (.ref f27)))
  (cb4 : CB K CK0)
  (n4_many : As K CK0 "many")
  (n4_scale : As K CK0 "scale")
  (n4_push : As K CK0 "push")
  (n4_reached : As K CK0 "reached")
  (q4_Hand : PySem.W.kitOne K (.ref CK0) (.ref CK1) = some true)
  (q4_Tier : PySem.W.kitOne K (.ref CK0) (.ref CK4) = some false)
  (mk4 : PySem.W.makesIn K CK0 = true)
  (kc4 : PySem.W.keepIn K (.ref CK0) = true)
  (cb5 : CB K CK4)
  (n5_many : As K CK4 "many")
  (n5_scale : As K CK4 "scale")
  (n5_hands : As K CK4 "hands")
  (n5_head : As K CK4 "head")
  (n5_charged : As K CK4 "charged")
  (q5_Hand : PySem.W.kitOne K (.ref CK4) (.ref CK1) = some true)
  (q5_Tier : PySem.W.kitOne K (.ref CK4) (.ref CK4) = some true)
  (mk5 : PySem.W.makesIn K CK4 = true)
  (kc5 : PySem.W.keepIn K (.ref CK4) = true)
  (gn : PySem.W.specialIn K (.builtin "object.__class__") "__get__" = some (some (.builtin "getset_descriptor.__get__")))
  (gt : PySem.W.takesIn K (.builtin "object.__class__") = some true)
  (z0 : NZ K "len")
  (z1 : NZ K "tuple")
  (z2 : NZ K "list")
  (z3 : NZ K "sum")
  (z4 : NZ K "zip")
  (z5 : NZ K "sorted")
  (z6 : NZ K "range")
  (z7 : NZ K "isinstance")
  (z8 : NZ K "int")
  (z9 : NZ K "bool")
  (z10 : NZ K "all")
  (z11 : NZ K "any")
  (z12 : NZ K "enumerate")
  (z13 : NZ K "abs")
  (z14 : NZ K "min")
  (z15 : NZ K "max")
  (y0 : PySem.W.nsIn K mainGlobals "MOST_ADVISERS" = some (some (.int 24 tk0)))
  (y1 : PySem.W.nsIn K mainGlobals "MOST_SCALE" = some (some (.int 10 tk1)))
  (y2 : PySem.W.nsIn K mainGlobals "MOST_BOTTOM" = some (some (.int 100 tk2)))
  (y3 : PySem.W.nsIn K mainGlobals "MOST_PARTS" = some (some (.int 100 tk3)))
  (y4 : PySem.W.nsIn K mainGlobals "MOST_FIGURES" = some (some (.int 60 tk4))) :
  ∃ fd : FuncData,(∀ (s : Shared) (v : Value),BindsTo s fd ⟨[v],[]⟩ [("_law_script",v)]) /\ ∀ base : Heap,K.In base -> base.Ns mainGlobals mg -> AF l.prog w K mg base AK 30 fa fd ["_law_script"] (AG K Gw) := by
 obtain ⟨a68,_,E68⟩ := d68
 have e := hfa.symm.trans (PySem.W.mg_of X G a68)
 cases e
 have T : Txt K mg CK1 CK5 CK3 CK2 CK0 CK4 := ⟨PySem.W.mg_none_of X G z0,PySem.W.mg_none_of X G z1,PySem.W.mg_none_of X G z2,PySem.W.mg_none_of X G z3,PySem.W.mg_none_of X G z4,PySem.W.mg_none_of X G z5,PySem.W.mg_none_of X G z6,PySem.W.mg_none_of X G z7,PySem.W.mg_none_of X G z8,PySem.W.mg_none_of X G z9,PySem.W.mg_none_of X G z10,PySem.W.mg_none_of X G z11,PySem.W.mg_none_of X G z12,PySem.W.mg_none_of X G z13,PySem.W.mg_none_of X G z14,PySem.W.mg_none_of X G z15,⟨_,PySem.W.mg_of X G y0⟩,⟨_,PySem.W.mg_of X G y1⟩,⟨_,PySem.W.mg_of X G y2⟩,⟨_,PySem.W.mg_of X G y3⟩,⟨_,PySem.W.mg_of X G y4⟩,cb0.ty gn gt,PySem.W.mg_of X G aC0,n0_many,n0_scale,q0_Hand,q0_Tier,cb1.ty gn gt,PySem.W.mg_of X G aC1,n1_many,n1_scale,n1_top,n1_bottom,n1_tops,n1_under,q1_Hand,q1_Tier,cb2.ty gn gt,PySem.W.mg_of X G aC2,n2_many,n2_scale,n2_top,n2_bottom,n2_tops,n2_under,n2_share,n2_parts,q2_Hand,q2_Tier,cb3.ty gn gt,PySem.W.mg_of X G aC3,n3_many,n3_scale,n3_inside,n3_over,q3_Hand,q3_Tier,cb4.ty gn gt,PySem.W.mg_of X G aC4,n4_many,n4_scale,n4_push,n4_reached,q4_Hand,q4_Tier,cb5.ty gn gt,PySem.W.mg_of X G aC5,n5_many,n5_scale,n5_hands,n5_head,n5_charged,q5_Hand,q5_Tier⟩
 obtain ⟨a0,_,E0⟩ := d0
 obtain ⟨a1,_,E1⟩ := d1
 obtain ⟨a2,_,E2⟩ := d2
 obtain ⟨a3,_,E3⟩ := d3
 obtain ⟨a4,_,E4⟩ := d4
 obtain ⟨a5,_,E5⟩ := d5
 obtain ⟨a6,_,E6⟩ := d6
 obtain ⟨a7,_,E7⟩ := d7
 obtain ⟨a8,_,E8⟩ := d8
 obtain ⟨a9,_,E9⟩ := d9
 obtain ⟨a10,_,E10⟩ := d10
 obtain ⟨a11,_,E11⟩ := d11
 obtain ⟨a12,_,E12⟩ := d12
 obtain ⟨a13,_,E13⟩ := d13
 obtain ⟨a14,_,E14⟩ := d14
 obtain ⟨a15,_,E15⟩ := d15
 obtain ⟨a16,_,E16⟩ := d16
 obtain ⟨a17,_,E17⟩ := d17
 obtain ⟨a18,_,E18⟩ := d18
 obtain ⟨a19,_,E19⟩ := d19
 obtain ⟨a20,_,E20⟩ := d20
 obtain ⟨a21,_,E21⟩ := d21
 obtain ⟨a22,_,E22⟩ := d22
 obtain ⟨a23,i23,_,E23⟩ := d23
 have b23 := E23.binds (ps := ["self","many","scale"]) λ _ _ _ _ _ _ us hl => by obtain ⟨_,_,_,rfl⟩ := Oy hl; rfl
 obtain ⟨a24,i24,_,E24⟩ := d24
 obtain ⟨a25,i25,_,E25⟩ := d25
 obtain ⟨a26,i26,_,E26⟩ := d26
 obtain ⟨a27,i27,_,E27⟩ := d27
 obtain ⟨a28,i28,_,E28⟩ := d28
 obtain ⟨a29,i29,_,E29⟩ := d29
 obtain ⟨a30,i30,_,E30⟩ := d30
 obtain ⟨a31,i31,_,E31⟩ := d31
 obtain ⟨a32,i32,_,E32⟩ := d32
 obtain ⟨a33,i33,_,E33⟩ := d33
 have b33 := E33.binds (ps := ["self","many","scale","top","bottom"]) λ _ _ _ _ _ _ us hl => by obtain ⟨_,_,_,_,_,rfl⟩ := Ow hl; rfl
 obtain ⟨a34,i34,_,E34⟩ := d34
 obtain ⟨a35,i35,_,E35⟩ := d35
 obtain ⟨a36,i36,_,E36⟩ := d36
 obtain ⟨a37,i37,_,E37⟩ := d37
 obtain ⟨a38,i38,_,E38⟩ := d38
 obtain ⟨a39,i39,_,E39⟩ := d39
 obtain ⟨a40,i40,_,E40⟩ := d40
 have E41 := Ww (st := FU) (dv := [.none]) l41 t41 c41 k41
 have b41 := E41.binds (rest := []) (ps := ["self","many","scale","push"]) λ _ _ _ _ _ _ _ us hl => by rw [List.append_nil] at hl; obtain ⟨_,_,_,_,rfl⟩ := Ox hl; exact ⟨_,rfl,rfl⟩
 obtain ⟨a42,i42,_,E42⟩ := d42
 obtain ⟨a43,i43,_,E43⟩ := d43
 obtain ⟨a44,i44,_,E44⟩ := d44
 obtain ⟨a45,_,E45⟩ := d45
 obtain ⟨a46,_,E46⟩ := d46
 obtain ⟨a47,_,E47⟩ := d47
 obtain ⟨a48,i48,_,E48⟩ := d48
 obtain ⟨a49,i49,_,E49⟩ := d49
 obtain ⟨a50,i50,_,E50⟩ := d50
 obtain ⟨a51,i51,_,E51⟩ := d51
 obtain ⟨a52,i52,_,E52⟩ := d52
 obtain ⟨a53,i53,_,E53⟩ := d53
 obtain ⟨a54,_,E54⟩ := d54
 obtain ⟨a55,_,E55⟩ := d55
 obtain ⟨a56,_,E56⟩ := d56
 obtain ⟨a57,_,E57⟩ := d57
 obtain ⟨a58,_,E58⟩ := d58
 obtain ⟨a59,_,E59⟩ := d59
 obtain ⟨a60,_,E60⟩ := d60
 obtain ⟨a61,_,E61⟩ := d61
 obtain ⟨a62,_,E62⟩ := d62
 obtain ⟨a63,_,E63⟩ := d63
 obtain ⟨a64,_,E64⟩ := d64
 obtain ⟨a65,_,E65⟩ := d65
 obtain ⟨a66,_,E66⟩ := d66
 obtain ⟨a67,_,E67⟩ := d67
 obtain ⟨_,_,kV,dc,pm,an,cd,ct,_,rfl,_,_⟩ := E68.ex
 refine ⟨PySem.W.fnOf "law" "law" (Dd FT) (CK FT) (Ar FT) .none kV dc pm an cd ct,λ s v => .of_eq rfl,λ base _ _ => ?_⟩
 have kj := UA (P := l.prog) (w := w) (base := base) T E0 (PySem.W.mg_of X G a0) (Ay E0)
 have gp := UG (P := l.prog) (w := w) (base := base) T E1 (PySem.W.mg_of X G a1) (Ay E1)
 have gu := Uj T E2 (PySem.W.mg_of X G a2) (Ay E2) gp
 have jo := UH T E3 (PySem.W.mg_of X G a3) (Ay E3) kj
 have gq := UL T E4 (PySem.W.mg_of X G a4) (Ay E4) jo
 have gx := UO T E5 (PySem.W.mg_of X G a5) (Ay E5) jo gq
 have zc := UP T E6 (PySem.W.mg_of X G a6) (Ay E6) jo
 have zd := UK T E7 (PySem.W.mg_of X G a7) (Ay E7) jo
 have km := UD T E8 (PySem.W.mg_of X G a8) (Ay E8) kj
 have kn := UC T E9 (PySem.W.mg_of X G a9) (Ay E9) km
 have ka := UM T E10 (PySem.W.mg_of X G a10) (Ay E10) kn
 have jy := Uh (P := l.prog) (w := w) (base := base) T E11 (PySem.W.mg_of X G a11) (Ay E11)
 have jp := UQ (P := l.prog) (w := w) (base := base) T E12 (PySem.W.mg_of X G a12) (Ay E12)
 have gr := UB T E13 (PySem.W.mg_of X G a13) (Ay E13) kn km
 have jg := UI T E14 (PySem.W.mg_of X G a14) (Ay E14) gr
 have ko := UR (P := l.prog) (w := w) (base := base) T E15 (PySem.W.mg_of X G a15) (Ay E15)
 have gc := Ui T E16 (PySem.W.mg_of X G a16) (Ay E16) gu ko
 have gv := Ud T E17 (PySem.W.mg_of X G a17) (Ay E17) jy
 have kt := Ue T E18 (PySem.W.mg_of X G a18) (Ay E18) jy
 have zg := Uf T E19 (PySem.W.mg_of X G a19) (Ay E19) jp kt gv
 have gw := UN T E20 (PySem.W.mg_of X G a20) (Ay E20) jo jy
 have zk := Ug T E21 (PySem.W.mg_of X G a21) (Ay E21) gw
 have zm := UF (P := l.prog) (w := w) (base := base) T E22 (PySem.W.mg_of X G a22) (Ay E22)
 have ya := Vg T E23 gx
 have yj := Vd (P := l.prog) (w := w) (base := base) T E24
 have yb := UU (P := l.prog) (w := w) (base := base) T E25
 have yk := U8 (P := l.prog) (w := w) (base := base) T E26
 have gy := Bi yj a24 i24 E24.kp (Ay E24) T.bj.cls
 have gz := Bi yb a25 i25 E25.kp (Ay E25) T.bv.cls
 have za := Bi yb e2_heeded i25 E25.kp (Ay E25) T.dk.cls
 have zb := Bi yk a26 i26 E26.kp (Ay E26) T.eg.cls
 have gl := Vc T E27 ka gc gy gz za zb
 have yl := Ve T E28 jg
 have ku := F4 ya mk0 a23 i23 kc0 (Ay E23) T.bn
 have ym := Vf T E29 ku
 have jz : ER l.prog w K mg base "Hand" 5 "__init__" (Ez (λ C => C = CK1 \/ C = CK5 \/ C = CK3 \/ C = CK2 \/ C = CK4 \/ C = CK0)) := ⟨_,_,_,_,_,T.bn,so0___init__,rd0___init__,fc0___init__,rfl,ya,E23.kp,b23⟩
 have yn := Vb T E30 jz
 have yo := U9 T E31 jg jp
 have kv := F4 yn mk3 a30 i30 kc3 (Ay E30) T.eh
 have yp := Va T E32 kv
 have yc := UX T E33 zc jz
 have ze : ER l.prog w K mg base "Weigher" 6 "__init__" (Gx CK5 CK3) := ⟨_,_,_,_,_,T.bw,so1___init__,rd1___init__,fc1___init__,rfl,yc,E33.kp,b33⟩
 have yq := U7 T E34 zd ze
 have ja := Bi gl e1_say i27 E27.kp (Ay E27) T.bv.cls
 have jb := Bi gl e2_say i27 E27.kp (Ay E27) T.dk.cls
 have yd := UT T E35 jp ja jb zg kt
 have yr := U5 (P := l.prog) (w := w) (base := base) T E36
 have zh := Bi yd a35 i35 E35.kp (Ay E35) T.bv.cls
 have yt := UV T E37 jg zh
 have zi := Bi yd e2_weigh i35 E35.kp (Ay E35) T.dk.cls
 have zj := Bi yr a36 i36 E36.kp (Ay E36) T.dk.cls
 have yu := U4 T E38 jg zi zj
 have kx := F4 yc mk1 a33 i33 kc1 (Ay E33) T.bw
 have yv := UW T E39 kx
 have ky := F4 yq mk2 a34 i34 kc2 (Ay E34) T.dl
 have yw := U6 T E40 ky
 have yx : AF l.prog w K mg base AK 6 f41 _ ["self","many","scale","push"] (AG K (Gy CK0)) := Vk T E41 zk jz
 have yy := Vh T E42 ka ko zm
 have yz := Vi T E43 jg jp
 have kz : Cv l.prog w K mg base CK0 6 "Follower" (Gy CK0) := ⟨⟨_,_,_,yx,⟨mk4,a41,i41,kc4⟩,b41⟩,T.fi⟩
 have vc := Vj T E44 kz
 have zn := US (P := l.prog) (w := w) (base := base) T E45 (PySem.W.mg_of X G a45) (Ay E45)
 have zo := UE (P := l.prog) (w := w) (base := base) T E46 (PySem.W.mg_of X G a46) (Ay E46)
 have gh := UJ T E47 (PySem.W.mg_of X G a47) (Ay E47) zn zo
 have vd := U0 (P := l.prog) (w := w) (base := base) T E48
 have xh : AF l.prog w K mg base AK 10 f49 _ ["self","hands","head"] (AG K (DR ⟨CK1,CK5,CK3,CK2,CK4,CK0⟩ 0)) := U3 T E49
 have xi : AF l.prog w K mg base AK 7 f50 _ ["self","said"] (AG K (EA ⟨CK1,CK5,CK3,CK2,CK4,CK0⟩ 0)) := U1 T E50
 have ve : AF l.prog w K mg base AK 9 f51 _ ["self","said"] (AG K (Di ⟨CK1,CK5,CK3,CK2,CK4,CK0⟩ 0)) := UY T E51
 have vf : AF l.prog w K mg base AK 10 f52 _ ["self","said","so"] (AG K (DA ⟨CK1,CK5,CK3,CK2,CK4,CK0⟩ 0)) := UZ T E52
 have vg : AF l.prog w K mg base AK 12 f53 _ ["self"] (AG K (DS ⟨CK1,CK5,CK3,CK2,CK4,CK0⟩ 0)) := U2 T E53
 have jq := Bi ym a29 i29 E29.kp (Ay E29) T.bj.cls
 have jr := Bi yv a39 i39 E39.kp (Ay E39) T.bv.cls
 have jt := Bi yw a40 i40 E40.kp (Ay E40) T.dk.cls
 have ju := Bi yp a32 i32 E32.kp (Ay E32) T.eg.cls
 have jw := Bi vc a44 i44 E44.kp (Ay E44) T.fh.cls
 have vh := Bi vg a53 i53 E53.kp (Ay E53) T.fv.cls
 have vk : AF l.prog w K mg base AK 18 f49 _ ["self","hands","head"] (AG K (DR ⟨CK1,CK5,CK3,CK2,CK4,CK0⟩ 1)) := N8 (j := 0) T E49 gh jz jq jr jt ju jw vh
 have jc := Bi gl a27 i27 E27.kp (Ay E27) T.bj.cls
 have jd := Bi gl e3_say i27 E27.kp (Ay E27) T.eg.cls
 have je := Bi yy a42 i42 E42.kp (Ay E42) T.fh.cls
 have ye := Bi ve a51 i51 E51.kp (Ay E51) T.fv.cls
 have vm : AF l.prog w K mg base AK 15 f50 _ ["self","said"] (AG K (EA ⟨CK1,CK5,CK3,CK2,CK4,CK0⟩ 1)) := N6 (j := 0) T E50 jc ja jb jd je ye
 have yf := Bi vm a50 i50 E50.kp (Ay E50) T.fv.cls
 have vn : AF l.prog w K mg base AK 17 f51 _ ["self","said"] (AG K (Di ⟨CK1,CK5,CK3,CK2,CK4,CK0⟩ 1)) := N4 (j := 0) T E51 ka yf jc ja jb jd je ye
 have jh := Bi yl a28 i28 E28.kp (Ay E28) T.bj.cls
 have ji := Bi yt a37 i37 E37.kp (Ay E37) T.bv.cls
 have jk := Bi yu a38 i38 E38.kp (Ay E38) T.dk.cls
 have jl := Bi yo a31 i31 E31.kp (Ay E31) T.eg.cls
 have jn := Bi yz a43 i43 E43.kp (Ay E43) T.fh.cls
 have vo := Bi vf a52 i52 E52.kp (Ay E52) T.fv.cls
 have vp : AF l.prog w K mg base AK 18 f52 _ ["self","said","so"] (AG K (DA ⟨CK1,CK5,CK3,CK2,CK4,CK0⟩ 1)) := N5 (j := 0) T E52 jg jp yf jh ji jk jl jn vo
 have vq := F4 vk mk5 a49 i49 kc5 (Ay E49) T.fw
 have vt : AF l.prog w K mg base AK 20 f53 _ ["self"] (AG K (DS ⟨CK1,CK5,CK3,CK2,CK4,CK0⟩ 1)) := N7 (j := 0) T E53 vq
 have vv := Bi vt a53 i53 E53.kp (Ay E53) T.fv.cls
 have vw : AF l.prog w K mg base AK 26 f49 _ ["self","hands","head"] (AG K (DR ⟨CK1,CK5,CK3,CK2,CK4,CK0⟩ 2)) := N8 (j := 1) T E49 gh jz jq jr jt ju jw vv
 have yg := Bi vn a51 i51 E51.kp (Ay E51) T.fv.cls
 have vx : AF l.prog w K mg base AK 23 f50 _ ["self","said"] (AG K (EA ⟨CK1,CK5,CK3,CK2,CK4,CK0⟩ 2)) := N6 (j := 1) T E50 jc ja jb jd je yg
 have yh := Bi vx a50 i50 E50.kp (Ay E50) T.fv.cls
 have vz : AF l.prog w K mg base AK 25 f51 _ ["self","said"] (AG K (Di ⟨CK1,CK5,CK3,CK2,CK4,CK0⟩ 2)) := N4 (j := 1) T E51 ka yh jc ja jb jd je yg
 have xc := Bi vp a52 i52 E52.kp (Ay E52) T.fv.cls
 have xf : AF l.prog w K mg base AK 26 f52 _ ["self","said","so"] (AG K (DA ⟨CK1,CK5,CK3,CK2,CK4,CK0⟩ 2)) := N5 (j := 1) T E52 jg jp yh jh ji jk jl jn xc
 have gm := F4 vw mk5 a49 i49 kc5 (Ay E49) T.fw
 have xg : AF l.prog w K mg base AK 28 f53 _ ["self"] (AG K (DS ⟨CK1,CK5,CK3,CK2,CK4,CK0⟩ 2)) := N7 (j := 1) T E53 gm
 have gf := Uy (P := l.prog) (w := w) (base := base) T E54 (PySem.W.mg_of X G a54) (Ay E54)
 have jx := Us (P := l.prog) (w := w) (base := base) T E55 (PySem.W.mg_of X G a55) (Ay E55)
 have kf := Up T E56 (PySem.W.mg_of X G a56) (Ay E56) gf jx
 have zq := Uo T E57 (PySem.W.mg_of X G a57) (Ay E57) jx
 have zv := Um T E58 (PySem.W.mg_of X G a58) (Ay E58) kf zq
 have zt := Ut (P := l.prog) (w := w) (base := base) T E59 (PySem.W.mg_of X G a59) (Ay E59)
 have zu := Uq (P := l.prog) (w := w) (base := base) T E60 (PySem.W.mg_of X G a60) (Ay E60)
 have ki := Uw T E61 (PySem.W.mg_of X G a61) (Ay E61) ku kx ky kv kz
 have gg := Uv T E62 (PySem.W.mg_of X G a62) (Ay E62) jx ki
 have zw := Ul T E63 (PySem.W.mg_of X G a63) (Ay E63) jx ki gg gm
 have kg := Ur (P := l.prog) (w := w) (base := base) T E64 (PySem.W.mg_of X G a64) (Ay E64)
 have zr := Uz (P := l.prog) (w := w) (base := base) T E65 (PySem.W.mg_of X G a65) (Ay E65)
 have zx := Bi vz a51 i51 E51.kp (Ay E51) T.fv.cls
 have zy := Bi xf a52 i52 E52.kp (Ay E52) T.fv.cls
 have gj := Uu T E66 (PySem.W.mg_of X G a66) (Ay E66) jc jh ja ji jb jk jd jl zx zy je jn
 have kl := Bi vd a48 i48 E48.kp (Ay E48) T.fv.cls
 have yi := Bi xg a53 i53 E53.kp (Ay E53) T.fv.cls
 have gk := Ux T E67 (PySem.W.mg_of X G a67) (Ay E67) zr kg gj gm kl jc jh jq ja ji jr jb jk jt jd jl ju zx zy yi je jn jw
 exact Uk T E68 gf kf zt zu zv zw kg gk gm kl jc jh jq ja ji jr jb jk jt jd jl ju zx zy yi je jn jw
theorem walk {l : PySem.W.OpenLaw} {q : Program} {loose : List Str} {XP : (Str -> Option Value) -> Heap -> Prop} {YP : World -> Heap -> Prop} {d : DefRec} {K : Params -> PySem.W.Frag} (hn : l.most = some 63) (hdf : d.params.defaults = [])
  (hY : ∀ (w : World) (h : Heap),YP w h -> (K w.params).In h)
  (F : ∀ (w : World) (mg : Str -> Option Value) (fa : Addr) (h : Heap),(K w.params).In h -> h.Ns mainGlobals mg -> mg d.name = some (.ref fa) ->
   ∃ fd : FuncData,(∀ (s : Shared) (u : Value),BindsTo s fd ⟨[u],[]⟩ [("_law_script",u)]) /\ ∀ base : Heap,(K w.params).In base -> base.Ns mainGlobals mg -> AF l.prog w (K w.params) mg base AK 30 fa fd ["_law_script"] (AG (K w.params) Gw)) :
  PySem.W.WalkO q loose XP YP l.row.toRowW d [] (λ f vs => PySem.call f vs) :=
 L2.walk_of (n := 63) (k := 30) (x := "_law_script") (CX := λ _ => AK) (sp := λ w => AG (K w.params) Gw) hn wE hdf ⟨rfl,by decide,by decide⟩ hY F (λ _ _ a ns hl _ hS => VM hl hS) λ _ _ _ _ _ z => z
end My
open PySem PySem.W PyProof.Rows
theorem My.walkZ {q : Program} {loose : List Str} {XP : (Str -> Option Value) -> Heap -> Prop} {K : Params -> PySem.W.Frag} {as : List Addr} {n t : Nat} {r : RowW} {d : DefRec} {kwd : List (Str × Expr)} {run : Value -> List Value -> Sem Value} (e : ∀ P,as = (K P).map (·.1))
  (h : WalkO q loose XP (λ w h => (K w.params).In h) r d kwd run) : WalkX q loose XP (X.obsZ as) (X.valZ K n t) r d kwd run := λ w s₀ s₁ mg mb G y a o pm cd doc dV kV ho hd hcd hD hmg hg args vals as' L hpre hlay hrd hwl hlo =>
 h w s₀ s₁ mg mb G (λ b o' e' => L.keeps _ _ ((X.z_facts e y).2.1 b o' e')) a o pm cd doc dV kV ho hd hcd hD hmg hg args vals as' hpre hlay hrd hwl hlo
def PySem.W.Fast.tw5469039700949610195 : Nat := 0
def PySem.W.Fast.tw8730253804634521040 : Nat := 0
def PySem.W.Fast.tw3713970622169885353 : Nat := 0
def PySem.W.Fast.tw16351870365896616268 : Nat := 0
def PySem.W.Fast.tw1238493773984154914 : Nat := 0
def PySem.W.Fast.tw2912083745796465018 : Nat := 0
def PySem.W.Fast.tw1065200509656509791 : Nat := 0
def PySem.W.Fast.tw1499635663301711266 : Nat := 0
def PySem.W.Fast.tw11978428997306218175 : Nat := 0
def PySem.W.Fast.tw4849442843410795175 : Nat := 0
def PySem.W.Fast.tw11998576924973017693 : Nat := 0
def PySem.W.Fast.tw1750040460866348943 : Nat := 0
def PySem.W.Fast.tw15930583783751455214 : Nat := 0
def PySem.W.Fast.tw15052514630665851727 : Nat := 0
def PySem.W.Fast.tw11864317734374914510 : Nat := 0
def PySem.W.Fast.tw11282244060306986936 : Nat := 0
def PySem.W.Fast.tw2444342272896597818 : Nat := 0
def PySem.W.Fast.tw3339364950117336375 : Nat := 0
def PySem.W.Fast.tw14769578158467577024 : Nat := 0
def PySem.W.Fast.tw18048179787011886036 : Nat := 0
def PySem.W.Fast.tw13492830821567255419 : Nat := 0
def PySem.W.Fast.tw12171527731087406253 : Nat := 0
def PySem.W.Fast.tw14326785487225062357 : Nat := 0
def PySem.W.Fast.tw11261552680959327204 : Nat := 0
def PySem.W.Fast.tw1352810096607200094 : Nat := 0
def PySem.W.Fast.tw6792579403438599048 : Nat := 0
open PySem PySem.W PyProof.Rows
set_option maxRecDepth 100000 in
set_option maxHeartbeats 0 in
theorem PySem.Challenge.cw_heedwise_k70_hands_heeded_holds : PySem.Challenge.rw_heedwise_k70_hands_heeded.Holds := by
 w_on; o_law; z_head; (case hw => w_witness2)
 k_fill
 refine My.walkZ (λ P => rfl) ?_
 refine My.walk (l := PySem.Challenge.rw_heedwise_k70_hands_heeded) rfl rfl (λ w h Y => Y) ?F
 case F =>
  intro w mg fa h KX G hmg
  refine' My.all_mk KX G hmg ?aC0 ?aC1 ?aC2 ?aC3 ?aC4 ?aC5 ?d0 ?d1 ?d2 ?d3 ?d4 ?d5 ?d6 ?d7 ?d8 ?d9 ?d10 ?d11 ?d12 ?d13 ?d14 ?d15 ?d16 ?d17 ?d18 ?d19 ?d20 ?d21 ?d22 ?d23 ?d24 ?d25 ?d26 ?d27 ?d28 ?d29 ?d30 ?d31 ?d32 ?d33 ?d34 ?d35 ?d36 ?d37 ?d38 ?d39 ?d40 ?a41 ?i41 ?l41 ?t41 ?c41 ?k41 ?d42 ?d43 ?d44 ?d45 ?d46 ?d47 ?d48 ?d49 ?d50 ?d51 ?d52 ?d53 ?d54 ?d55 ?d56 ?d57 ?d58 ?d59 ?d60 ?d61 ?d62 ?d63 ?d64 ?d65 ?d66 ?d67 ?d68 ?cb0 ?n0_many ?n0_scale ?q0_Hand ?q0_Tier ?mk0 ?kc0 ?so0___init__ ?rd0___init__ ?fc0___init__ ?cb1 ?n1_many ?n1_scale ?n1_top ?n1_bottom ?n1_tops ?n1_under ?q1_Hand ?q1_Tier ?mk1 ?kc1 ?e1_say ?so1___init__ ?rd1___init__ ?fc1___init__ ?cb2 ?n2_many ?n2_scale ?n2_top ?n2_bottom ?n2_tops ?n2_under ?n2_share ?n2_parts ?q2_Hand ?q2_Tier ?mk2 ?kc2 ?e2_heeded ?e2_say ?e2_weigh ?cb3 ?n3_many ?n3_scale ?n3_inside ?n3_over ?q3_Hand ?q3_Tier ?mk3 ?kc3 ?e3_say ?cb4 ?n4_many ?n4_scale ?n4_push ?n4_reached ?q4_Hand ?q4_Tier ?mk4 ?kc4 ?cb5 ?n5_many ?n5_scale ?n5_hands ?n5_head ?n5_charged ?q5_Hand ?q5_Tier ?mk5 ?kc5 ?gn ?gt ?z0 ?z1 ?z2 ?z3 ?z4 ?z5 ?z6 ?z7 ?z8 ?z9 ?z10 ?z11 ?z12 ?z13 ?z14 ?z15 ?y0 ?y1 ?y2 ?y3 ?y4
  case aC0|aC1|aC2|aC3|aC4|aC5 =>
   k_is
  case d0|d1|d2|d3|d4|d5|d6|d7|d8|d9|d10|d11|d12|d13|d14|d15|d16|d17|d18|d19|d20|d21|d22|d45|d46|d47|d54|d55|d56|d57|d58|d59|d60|d61|d62|d63|d64|d65|d66|d67|d68 =>
   refine' My.fd_mk ?a ?l ?c ?k
   case a|l|c|k => k_is
  case d23|d24|d25|d26|d27|d28|d29|d30|d31|d32|d33|d34|d35|d36|d37|d38|d39|d40|d42|d43|d44|d48|d49|d50|d51|d52|d53 =>
   refine' My.fm_mk ?a ?i ?l ?c ?k
   case a|i|l|c|k => k_is
  case cb0|cb1|cb2|cb3|cb4|cb5 =>
   refine ⟨?_,?_,?_,?_,?_,?_⟩ <;> k_is
  case a41|i41|l41|t41|c41|k41|mk0|kc0|so0___init__|rd0___init__|fc0___init__|mk1|kc1|e1_say|so1___init__|rd1___init__|fc1___init__|mk2|kc2|e2_heeded|e2_say|e2_weigh|mk3|kc3|e3_say|mk4|kc4|mk5|kc5|gn|gt|y0|y1|y2|y3|y4 =>
   k_is
  case n0_many|n0_scale|n1_many|n1_scale|n1_top|n1_bottom|n1_tops|n1_under|n2_many|n2_scale|n2_top|n2_bottom|n2_tops|n2_under|n2_share|n2_parts|n3_many|n3_scale|n3_inside|n3_over|n4_many|n4_scale|n4_push|n4_reached|n5_many|n5_scale|n5_hands|n5_head|n5_charged|z0|z1|z2|z3|z4|z5|z6|z7|z8|z9|z10|z11|z12|z13|z14|z15 =>
   (show _ = _; k_is)
  case q0_Hand|q0_Tier|q1_Hand|q1_Tier|q2_Hand|q2_Tier|q3_Hand|q3_Tier|q4_Hand|q4_Tier|q5_Hand|q5_Tier =>
   kit_is
